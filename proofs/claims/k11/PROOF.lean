import PyProof.Rows.All
import Wide.All
import OpenK.AllK
import Wide.FinOn
import Lean
import PyProof.EqAt
import PyProof.EqKinds
import PyProof.TupleCall
import KE.KTryMore
import KE.KIsAll
import PyProof.NeKinds
import PyProof.Rows.CountFlat
import PyProof.Rows.FStr
import PyProof.ZipIter
import PyProof.EnumMake
import PyProof.EnumStmt
import KE.KDictLaws
import PyProof.DictWalks
import PyProof.Rows.SetFrom
import PyProof.SumWalkG
import PyProof.Rows.SumGenD
import PyProof.SeqI2
import KE.KItemsList
import PyProof.SetKind
import PyProof.TupleKey
import KE.KSortTup
import PyProof.ReprRoads
import PyProof.ReprBulk
import PyProof.TupleOfSeq
import PyProof.WalkInts
import PyProof.SeqI3
import KE.KPairComp
import KE.KMinKey
import PyProof.Rows.CallKwBuiltin
import PySem.Challenge.RW_fewdistances_k11_points_as_far_from_two
set_option Elab.async false
set_option linter.all false
set_option maxRecDepth 100000
set_option maxHeartbeats 0
set_option tactic.hygienic false
set_option bootstrap.genMatcherCode false
set_option genSizeOf false
set_option compiler.extract_closed false
open Array renaming getElem?_toList→Bz,length_toList→Dc,getElem?_eq_some_iff→Dk,getElem?_eq_getElem→Dp,toList_push→Hc,getD→Hz,mem_toList_iff→Mq,getD_eq_getD_getElem?→Od,getElem?_eq_none→Sh,size_map→Td,forIn_toList→Ve,toList→Vi
open Array.Perm renaming refl→Kw
open BEq renaming rfl→Zb
open Bool renaming and_eq_true→Ay,false_eq_true→Bn,noConfusion→Cq,and_eq_true_iff→Em,false_ne_true→Ge,not_true→Jh,eq_iff_iff→Ks,false_or→Mf,true_and→Mo,false_and→Nu,and_false→Ny,not_eq_true'→Ph,or_eq_true→Ru,and_true→Ud,not_false→Yq,true_or→Zr
open Classical renaming byContradiction→Fg,choose→Ml,choose_spec→Mm
open False renaming elim→Ao
open ForInStep renaming yield→Jf
open Int renaming toNat_natCast→Fl,emod_lt_of_pos→Hr,emod_nonneg→Jg,le_refl→Js,not_lt→Np,le_trans→Rb,le_of_lt→Re,le_antisymm→Xz,natCast_add→Yb,pow_succ→dL
open List renaming getElem?_eq_getElem→An,all_eq_true→Aq,length_map→Ar,mem_cons→Av,getElem?_eq_some_iff→Ba,size_toArray→Be,prefix_refl→Bg,mem_cons_of_mem→Bl,length_append→Br,mem_map→Bt,set_cons_succ→Bx,set_cons_zero→By,mem_of_getElem?→Ca,getElem?_append_left→Cd,mem_append_right→Ce,replicate→Cg,length_cons→Ci,not_mem_nil→Cj,mem_cons_self→Cs,mem_iff_getElem→Ct,mem_append→Cu,range→Cy,pairwise_cons→Cz,map_cons→Df,getElem?_map→Dm,mem_append_left→Dq,getElem?_append_right→Dr,length_filter_le→Ec,mem_range→Eg,append_assoc→Ej,getElem?_set_ne→Ek,getElem?_set_self→En,length_take→Ev,replicate_succ→Ew,contains_iff_mem→Ey,mem_singleton→Fb,length_range→Fm,flatMap_cons→Fo,mem_filter→Fq,append_nil→Ft,length_nil→Fu,filterMap_cons→Fw,pairwise_map→Gb,getD→Gg,getElem_mem→Gk,getD_eq_getElem?_getD→Gr,map_map→Gv,mem_of_mem_take→Gz,flatten_cons→Hb,mem_map_of_mem→Hf,length_drop→Hg,zip_cons_cons→Hm,prefix_append→Hn,nodup_cons→HT,find?_cons→Ia,drop_eq_getElem_cons→Ib,lookup_cons→Ik,map_congr_left→Io,length_eq_zero_iff→Iq,all_map→Ir,mem_filterMap→Iw,filter_append→Iy,any_cons→Jd,drop_eq_nil_of_le→Je,take_of_length_le→Jj,map_append→Jk,foldl_cons→Km,forIn_cons→Ko,nil_append→Kt,getElem?_replicate→Lc,toArray→Lf,forIn_nil→Lm,range_succ_eq_map→Ly,length_pos_of_mem→Lz,length→Mb,length_singleton→Me,getElem?_eq_none→Mh,lookup→Mi,all_cons→Mk,ext_getElem→Mn,pairwise_append→Ms,mem_of_mem_drop→Mt,of_mem_zip→Mw,eq_nil_of_length_eq_zero→My,map_nil→Nc,countP_eq_length_filter→Nq,length_pos_iff→Nr,perm_ext_iff_of_nodup→Ot,nodup_append→Pg,pairwise_iff_getElem→Pm,getElem?_eq_none_iff→Pr,sum_cons→Ps,getElem?_take_of_lt→Pv,length_erase_of_mem→Qc,getElem_inj→Qh,map_fst_zip→Qo,mem_flatMap→Qq,any_map→Qv,pairwise_mergeSort→Qz,find?_cons_of_neg→Rw,countP_map→Ry,countP_mono_left→Sx,mem_erase_of_ne→Tl,count_eq_countP→Tn,map_drop→Ul,flatMap_append→Um,lookup_append→Vc,mem_replicate→Vh,zipIdx_cons→WF,getElem_map→Xb,nodup_range→Xc,filter_cons→Xd,countP_cons→Xh,any_eq_true→Xl,filter→Xm,flatMap_nil→Xn,zipIdx_nil→Xt,length_zip→XV,foldl→Yg,nodup_nil→Yp,zipWith→Zy,range'→wE,Nodup→xL
open List.Pairwise renaming nil→Lq,imp_of_mem→Qb,filter→wP
open List.Perm renaming refl→Yr,map→Zl
open Nat renaming le_refl→Bd,lt_of_lt_of_le→Bm,ne_of_lt→Cc,le_trans→Dy,lt_irrefl→DL,le_of_lt→Gm,zero_le→Gn,ne_of_gt→Hx,not_lt→Hy,le_add_right→Il,lt_succ_self→Im,le_succ→Jo,le_of_lt_succ→Jp,lt_succ_of_lt→Jr,lt_trans→Le,succ_pos→Lg,mod_lt→Nn,lt_of_le_of_lt→Ol,add_right_comm→Om,min_self→Qu,min_eq_left→Si,pos_of_ne_zero→Vg,zero_add→Vp,lt_trichotomy→Wk,succ_ne_self→Xj,min_eq_right→Xk,noConfusion→Xs,succ_mul→Zp,add_comm→Zq
open Nat.succ renaming inj→Zs
open Ne renaming symm→Ea
open Option renaming some→Aa,map_eq_some_iff→Ep,bind_eq_some_iff→EQ,isSome_iff_exists→Pu,getD_some→Qk,bind_some→Qp,map_some→Rz,isSome_some→Uz,getD_none→Wx,none→sK
open Option.some renaming inj→Cp
open Or renaming inr→Ur,inl→Wz
open PyProof.Rows renaming step_dedup→Cr,slot_tuple_getitem→Dh,seqObj→Dw,envOfC→Gj,callWith_type1→Hl,callWith_builtin1→Iu,IntsAre→Jc,get?_update_seq→Kx,AllBare→L2,lt_int→Ni,entry_tuple_getitem→Nj,IsTup→Nt,slicePart_none→Nw,assignInOrder_cons→Of,args_tuple_getitem→Og,subscriptTail_builtinR→Rp,isBoolOf→Rx,tupleItemsOf_→Tx,subscriptTail→T0,assignInOrder_nil→Vu,entry_list_sort→Ya,Subscript_→Ye
open PyProof.Rows.F renaming plain_set_update_loop→Hk,entry_set_update_loop→Ku
open PyProof.Rows.IntsAre renaming int_at→Ys
open PyProof.Rows.IsTup renaming new→Vv
open PySem renaming Value→Ac,wpAny_bind→Ad,Addr→Af,Shared→Ag,wpAny_pure→Al,wpAny→Ap,Str→Au,model→Aw,starEach→Bb,intKind→Bf,Program→Bh,Heap→Bi,tupleKeyHash→Bj,Around→Bo,Expr→Bq,World→Bv,mainGlobals→Cf,Obj→Co,compareOp→Cw,wpAny_newObj_type→Dd,wpAny_holding→Dj,cLine→Ds,wpAny_callSpecial?_slot→Ee,wpAny_call_entry→Eh,foldedSetIterable→Ei,wpAny_field→El,binaryOp→Eo,wpAny_seqItems→Et,Stmt→Eu,Pos→Ez,codeAny_builtin→Fd,Comprehension→Ff,SetTable→Fh,FuncData→Fj,sizeLine_eq→Fk,wpAny_setState_of→Fn,backTo→Fp,Scope→Fv,mem_of_lookup→Fx,wpAny_pyIter_list→Ga,bootBuiltins→Gc,wpAny_Call_Name_kw→Gf,assignEach→Gi,cellsFrom→Gw,plainId_quiet→Gy,NameKind→Ha,Builtin→He,wpAny_pyIter_tuple→Ho,wpAny_setField_rec→Hq,argBest→Ht,wpAny_mono→Hw,sysModules→Ih,codeAny_mono→Ip,IsPair→Ix,letOwnedTupleGo→IN,codeAny→Ja,Env→Jn,wpAny_typeOf→Ju,codeAny_call_builtin→Jv,wpAny_forIn_list→Jw,wpAny_askSetting→Jy,swappedStores→Ka,swapsWithSole→Ke,wpAny_rule→Kf,behindInMarks→Kg,wpAny_attempt→Kh,wpAny_passesOwn→Kk,sliceBounds→Kl,wpAny_of_eq→Kn,wpAny_letGo→Kq,wpAny_updateSeq→Kv,wpAny_setField→Ln,wpAny_tryCatch→Lo,swapsWith→Lr,ofAClassStatement→Lu,wpAny_storeSet_of→Lv,Operator→Lw,Model→Ma,getItem→Md,Sem→Mp,wpAny_updateSeq_pair→Mr,wpAny_execs_nil→Mv,pickOrder→Mz,pyNext→Nb,BindsTo→Nh,call_meets→Nk,wpAny_call→Nl,recursionLimit→Nv,firstArgMember→NE,IsZip→Oa,pyIter→Oo,wpAny_newFunctionEnv_cells→Op,IsPart→Oq,hashByValue→Ou,tupleKind→Ow,wpAny_standAt→Oy,PassesOwn→Pa,wpAny_truthy_bool→Pb,wpAny_sequenceKey→Pe,callerA→Pf,attributeBase→Pj,wpAny_onRaise→Pk,setSearchFrom→Po,wpAny_comprehension_free→Py,noFill_tuple_add→Qi,checkBuiltinCall→Qj,wpAny_isInstance→Ql,IsTupleKey→Qn,richCompare_meets_room→Rn,codeAny_of_tree→Sd,wpAny_ite_split→Sg,Tok→Sk,rawInt→Sl,CmpOp→Sm,codeAny_call_function→Sn,weight_type_call_type→Su,builtinLookup_eq_fast→Sv,newFunctionEnv→Tc,wpAny_runValue→Te,isSubtype_type→Tf,wpAny_loadName_local→Tg,builtinsNs→Tp,wpAny_loadName_cell→Tq,assignInOrder→Ts,bindL→Tu,bindC→Tv,seq_tuple_add→Tw,evalPart_none→Tz,valueAt→TW,standAt→Ub,wpAny_setEntries_of→Ui,wpAny_newList→Uj,bindName→Uo,Result→Uq,setState→Ut,tupleKind_room_in1→Va,concat_meets→Vj,call_meetsIn→Vk,wpAny_assign_Name→Vt,slot_list_getitem→Vy,list_append→Vz,atKey→Wa,lastMarks→Wb,ClassData→Wc,noteFrame→Wd,setFlight→We,pushCells→Wg,searchCouldBeSeen→Wj,wpAny_pyIter_slot→Wl,wpAny_eqBool_int→Wr,wpAny_execs_cons→Ws,unaryOp→Wt,richCompare→Wv,seqIndex_of→Ww,wpAny_pyIter_zip→Xa,setAdd→Xe,check_set_init_1→Xf,argsOk→Xg,GenState→Xo,bindArgs→Xq,pushCells_keeps→Xu,wpAny_specialOf→Xw,typeLookup_type→Xx,wpAny_Name→Yc,typeIs_int→Yf,call→Yh,closureFor→Yi,intKind_is→Yl,setsByText→Ym,Params→Yt,storeName→Yy,setItem→Yz,Keyword→Zd,seqItems?→Zf,Within→Zn,isTrue→Zu
open PySem.Around renaming under_plainId→Fa,frames_deeper→Th,under_plain→Vf
open PySem.AutoSeq1 renaming sub_tuple_tuple→Pw
open PySem.Builtin.Builtins renaming bindParams→Oe
open PySem.Builtin.Frozenset renaming updateFrom→No,sizeOf→Qe,newClass→Yw
open PySem.Builtin.Getset_descriptor renaming descrCheckInstance→Rj,descrNameAndClass→Rr,descrGetter→Uc,descrGet→Vn
open PySem.Builtin.List renaming listTooLong→Kz,listLengthHint→Ob,listExtendWith→Oc,listSameRef→Qf,listUpdate→Zz
open PySem.Builtin.ObjectAttr renaming bindTo→Pi,dataDescriptor?→Vm,getOf→Zm,find→Zt
open PySem.Builtin.Range renaming rangeSize→Zo
open PySem.Builtin.Slice renaming sliceAdjust→Fy,slicePlaces→Fz,sliceApplied→Hu,sliceFields→Pd,slicePartIndex→Yd
open PySem.Builtin.SmallTypes renaming nextOf→Do,ownedTupleIsFree→Gh,ownedTupleHandOut→Kr
open PySem.Builtin.Tuple renaming tupleExact→Es,tupleItemsOf→Jx,tupleCompareSizes→Mc,tupleIsExact→Yv
open PySem.Calls renaming spliced_cons→La,spliced_nil→Lp,Name_function_global→On,call_function_entry→Pq,callWith_builtin→Rv,evalArgs_plain→Tk
open PySem.Code renaming quiet_builtin→Oh
open PySem.F renaming called_set→Dg,plain_min_loop→Dx,slot_tuple_iterator_next→Hv,entry_min_loop→Ji,args_tuple_add_2→Ky,entry_tuple_add→Ld,plainAttrs_dict→Li,slot_tuple_add→Lx,slot_dict_get→Mg,slot_zip_next→Mx,args_tuple_iterator_next_1→Nm,entry_tuple_iterator_next→Nz,excBase_ValueError→Os,type_list_append→Qg,args_tuple_lt_2→Qr,args_dict_get_3→Qs,attr_ValueError→Qt,slot_list_count→Qw,slot_list_index→Qx,entry_type_call→Qy,plain_list_iadd→Ra,slot_dict_items→Rf,plainAttrs_list→Rg,type_list_count→Rh,type_list_index→Ri,entry_tuple_lt→Ro,entry_dict_get→Rq,typeCall_set_1→Se,entry_set_init→Sf,slot_tuple_lt→So,plain_set_new→Ss,slot_set_iter→Sw,type_dict_get→Sy,args_list_append_2→Tj,entry_list_append→TD,slot_list_append→Uy,args_zip_next_1→Wf,plain_min→Wo,entry_min→Wp,entry_zip_next→WP,kind_min→Xi,slot_int_rmul→Xv
open PySem.Heap renaming get?_push_of_some→Ai,lt_size→Ax,get?_push_size→Az,get?_update_other→Bs,size_push→Dl,get?_update_self→Eb,SameBut→Gs,get?_none_of_le→Ic,FlyingW→Nd,MadeExcOf→Ta,IsTuple→Zx,ExtBut→v4,IsList→v6,HeldW→wT
open PySem.Heap.IsSliceOf renaming new→Ux
open PySem.Heap.SameBut renaming update→Gp,refl→Pl
open PySem.IsL renaming update→Wy
open PySem.MeetsSeq renaming list_index→Ze,EqGives→f8
open PySem.NameKind renaming free→Gx,cell→Mj
open PySem.Obj renaming mapSeq→Ef,mapFields→Uh,data_mapFields→Vd,putSet→Yk
open PySem.SeqAt renaming EqAt→Yj
open PySem.SeqAt.EqAt renaming bool_bool→Yu,same→Zc,int_int→Zv,of_refs→Zw
open PySem.SetTable renaming insertAt→Bp,below→Cb,sizeAbove→Er,grown→Go,runEnd→Gq,insertAt_perm→Hi,fill→Ki,Probe→Ls,toList_insertAt→Pz,tooFull→Qm,laid→Uf,fits→Ug,has→Vo,layClean→Wi,slot→Zg
open PySem.SetTable.below renaming go→Wh
open PySem.SetTable.layClean renaming free→Hj
open PySem.SetTable.probe renaming go→Jq
open PySem.Shared renaming TypeIs→Pp,heap→Sr
open PySem.Str renaming ofString→Gd
open PySem.Value renaming ref→Ch,none→Ed,bool→Fi,type→Hd,int→Ov,notImplemented→Ti,str→Vs,isStrOf→Yx,builtin→Za,isInt→o0,float→sB
open PySem.W renaming Frag→Ak,nsIn→Di,kia_one→Dv,keepIn→Dz,fnOf→Gu,exmOne→Ie,cellsFrom_some→Jb,kitOne→Jt,kas_rev→Kj,callWith_K→Lb,findIn→Lj,codeIn→Ll,hideAll→Mu,kas_sort→Na,methodObj→Ox,kitx_list→Pc,nsMap_none_of_in→Px,instObj→Rl,lookIn→Sz,hideAll_get→To,mroIn→Tt,WalkO→Ua,mg_of→Uk,of_hideAll→Uu,kitx_tuple→Uv,codeRec_of→Uw,isNs_of_in→Vb,looks_findIn→Vl,kas_descPart→Vr,specialIn→Vw,kitx_dict→Vx,kas_count→Wm,kas_place→Wn,plainGet→Wu,takesIn→Xp,OpenLaw→Xr,kas_desc→Xy,KasT→Yn,nsOkIn→Yo,kas_asc→Zh,kas_tail3→Zi,kas_ask→Zj
open PySem.W.KatTups renaming cons→ZB
open PySem.W.Looks renaming of_pure→Zk
open PySem.W.WShape renaming has→wS
open PySem.Walks renaming list→Ue,tuple→u8
open PySem.pickOrder renaming go→Vq
open Sum renaming inl→Ig,inr→Rk
open Sum.inl renaming inj→Wq
open True renaming intro→Jl
open _root_ renaming List→Ab,Nat→Ah,Int→Aj,Option→Am,Bool→As,if_pos→AT,if_neg→Bc,Array→Bk,decide_eq_false→Bu,of_decide_eq_true→Bw,decide_eq_true_eq→Cm,decide_eq_true→Cn,if_true→De,if_false→Dt,String→Du,beq_self_eq_true→Ex,False→Fc,or_false→Fe,of_decide_eq_false→Hs,beq_iff_eq→Jm,True→Jz,decide_eq_false_iff_not→Lh,beq_eq_false_iff_ne→Ng,Unit→Rm,Decidable→Sj,not_or→Us
noncomputable section
theorem om {p:Prop}(h:p:=by omega):p:=h
theorem kd {p:Prop}[Sj p](h:p:=by decide +kernel):p:=h
section
namespace _L
open PySem PySem.Spec PyProof.Rows
abbrev Key:=Sum Aj Au
def pA:Key→Ac→As
 |.inl k,v=>o0 k v
 |.inr x,v=>Yx x v
def IU (w:Bv):Key→Aj
 |.inl k=>hashInt k
 |.inr x=>hashStr w x
theorem xM:∀ {k:Key} {v:Ac},pA k v=true→(∃ i t,k=Ig i∧v=Ov i t)∨(∃ x t,k=Rk x∧v=Vs x t)
 |.inl i,v,h=>by
  obtain⟨t,e⟩:=Value.isInt_shape (k:=i) (v:=v) h;exact .inl ⟨i,t,rfl,e⟩
 |.inr x,v,h=>by
  obtain⟨t,e⟩:=Value.isStrOf_shape (x:=x) (v:=v) h;exact .inr ⟨x,t,rfl,e⟩
theorem W5 (i:Aj)(t:Sk):pA (.inl i) (.int i t)=true:=by simp[pA,o0]
theorem W6 (x:Au)(t:Sk):pA (.inr x) (.str x t)=true:=by simp[pA,Yx]
theorem D4 (a b:Aj):decide ((Ig a:Key)=Ig b)=(a == b):=by
 by_cases e:a=b
 ·subst e;simp
 ·have h:¬ (Ig a:Key)=Ig b:=fun q=>e (Wq q)
  rw[Bu h];exact(Ng.mpr e).symm
theorem D7 (a b:Au):decide ((Rk a:Key)=Rk b)=decide (a=b):=by
 by_cases e:a=b
 ·subst e;simp
 ·have h:¬ (Rk a:Key)=Rk b:=fun q=>e (Sum.inr.inj q)
  rw[Bu h,Bu e]
theorem D5 (a:Aj)(b:Au):decide ((Ig a:Key)=Rk b)=false:=Bu (fun q=>nomatch q)
theorem D6 (a:Au)(b:Aj):decide ((Rk a:Key)=Ig b)=false:=Bu (fun q=>nomatch q)
def x5 (prog:Bh)(w:Bv):PySem.KeyKind prog w Key where
 is:=pA
 hash:=IU w
 inj:=fun v a b ha hb=>by
  rcases xM ha with⟨i,t,rfl,rfl⟩|⟨x,t,rfl,rfl⟩
  ·rcases xM hb with⟨j,u,rfl,e⟩|⟨y,u,rfl,e⟩
   ·injection e with e1 _;rw[e1]
   ·exact nomatch e
  ·rcases xM hb with⟨j,u,rfl,e⟩|⟨y,u,rfl,e⟩
   ·exact nomatch e
   ·injection e with e1 _;rw[e1]
 byValue:=fun k v h=>by
  rcases xM h with⟨i,t,rfl,rfl⟩|⟨x,t,rfl,rfl⟩ <;> rfl
 pyHash:=fun hv h=>by
  rcases xM hv with⟨i,t,rfl,rfl⟩|⟨x,t,rfl,rfl⟩
  ·exact wpAny_pyHash_int h
  ·exact wpAny_pyHash_str h
 eqBool:=fun hu hv h=>by
  rcases xM hu with⟨i,t,rfl,rfl⟩|⟨x,t,rfl,rfl⟩
  ·rcases xM hv with⟨j,u,rfl,rfl⟩|⟨y,u,rfl,rfl⟩
   ·rw[D4] at h;exact Wr h
   ·rw[D5] at h;exact SeqAt.EqAt.int_str i t y u _ _ _ _ h
  ·rcases xM hv with⟨j,u,rfl,rfl⟩|⟨y,u,rfl,rfl⟩
   ·rw[D6] at h;exact SeqAt.EqAt.str_int x t j u _ _ _ _ h
   ·rw[D7] at h;exact wpAny_eqBool_str h
 «strs»:=fun k x t v h=>by
  rcases xM h with⟨i,u,rfl,e⟩|⟨y,u,rfl,e⟩
  ·exact nomatch e
  ·injection e with e1 _
   subst e1;cases v <;> rfl
theorem aR (prog:Bh)(w:Bv)(i:Aj)(t:Sk):(x5 prog w).is (.inl i) (.int i t)=true:=W5 i t
theorem aS (prog:Bh)(w:Bv)(x:Au)(t:Sk):(x5 prog w).is (.inr x) (.str x t)=true:=W6 x t
end _L
namespace _L
open PySem PySem.Spec PyProof.Rows
inductive V where
 |non|bl (b:As)|int (i:Aj)|str (x:Au)|byt (b:Bk UInt8)|flt (b:UInt64)|ref (a:Af)|ty (n:Du)
 deriving DecidableEq
def qI:V→Ac→Prop
 |.non,u=>u=Ed
 |.bl b,u=>u=Fi b
 |.int i,u=>∃ t,u=Ov i t
 |.str x,u=>∃ t,u=Vs x t
 |.byt b,u=>∃ t,u=Value.bytes b t
 |.flt b,u=>∃ t,u=sB b t
 |.ref a,u=>u=Ch a
 |.ty n,u=>u=Hd n
abbrev qN:Ab V→Ab Ac→Prop:=Paired qI
theorem qN.length {xs:Ab V}{us:Ab Ac}(r:qN xs us):xs.length=us.length:=Paired.length r
theorem qN.get:∀ {xs:Ab V} {us:Ab Ac} {i:Ah} {x:V},qN xs us→xs[i]? = Aa x→∃ u,us[i]? = Aa u∧qI x u
 |_,_,_,_,.nil,e=>by simp at e
 |_,_,0,_,.cons r _,e=>by simp at e;subst e;exact⟨_,rfl,r⟩
 |_,_,i+1,x,.cons _ t,e=>by
  obtain⟨u,h1,h2⟩:=qN.get (i:=i) (x:=x) t (by simpa using e)
  exact⟨u,by simpa using h1,h2⟩
theorem qN.set {x:V}{u:Ac}(r:qI x u):∀ {xs:Ab V} {us:Ab Ac} (i:Ah),qN xs us→qN (xs.set i x) (us.set i u)
 |_,_,_,.nil=>.nil
 |_,_,0,.cons _ t=>.cons r t
 |_,_,i+1,.cons q t=>.cons q (qN.set r i t)
theorem qN.append {xs ys:Ab V}{us ws:Ab Ac}(h:qN xs us)(s:qN ys ws):qN (xs++ys) (us++ws):=by
 induction h with
 |nil=>exact s
 |cons r t ih=>exact .cons r ih
theorem qN.take:∀ {xs:Ab V} {us:Ab Ac} (n:Ah),qN xs us→qN (xs.take n) (us.take n)
 |_,_,0,_=>.nil
 |_,_,_+1,.nil=>.nil
 |_,_,n+1,.cons r t=>.cons r (qN.take n t)
theorem qN.drop:∀ {xs:Ab V} {us:Ab Ac} (n:Ah),qN xs us→qN (xs.drop n) (us.drop n)
 |_,_,0,r=>r
 |_,_,_+1,.nil=>.nil
 |_,_,n+1,.cons _ t=>qN.drop n t
def gT:Am V→Am Ac→Prop
 |some v,Aa u=>qI v u
 |none,none=>Jz
 |_,_=>Fc
def KV {κ : Type}:Ab (κ × V)→Ab (κ × Ac)→Prop:=Paired fun (p:κ × V) (q:κ × Ac)=>p.1=q.1∧qI p.2 q.2
def kV:Key→V
 |.inl i=>.int i
 |.inr x=>.str x
inductive HO where
  |lst (xs:Ab V)
  |tup (xs:Ab V)
  |dK (kvs:Ab (Key × V))|dT (kvs:Ab (Ab Key × V))
  |set (S:Aj→As) (n:Ah)
  |ins (C dx:Af) (fs:Ab (Au × V))
  |own (x:Af)
  |xd (fs:Ab (Au × V))
  |met (f x:Af)
  |rng (lo hi:Aj)
  |frz (o:Co) (u:HO)
  |tbl (ps:Bk Ac)
  |ext (φ : Bi→Prop)
abbrev Hp:=Af→Am HO
def upd (H:Hp)(a:Af)(o:HO):Hp:=fun b=>if b=a then Aa o else H b
theorem zQ {H:Hp}{a:Af}{o:HO}:upd H a o a=Aa o:=by unfold upd;rw[AT rfl]
theorem qP {H:Hp}{a b:Af}{o:HO}(h:b≠a):upd H a o b=H b:=by unfold upd;rw[Bc h]
theorem HX {H:Hp}{a b:Af}{o u:HO}(h:H a=Aa o)(h':H b=Aa u)(d:o≠u):a≠b:=by
 intro e;subst e;rw[h] at h';exact d (Cp h')
theorem zL {H:Hp}{a b:Af}{o:HO}(h:H a=Aa o)(h':H b=none):a≠b:=by
 intro e;subst e;rw[h] at h';cases h'
section
variable (P:Bh)(w:Bv)
def zR (H:Hp)(h:Bi)(a:Af):HO→Prop
 |.lst xs=>xs.length≤sizeLine∧∃ (its:Ab Ac) (n:Ah),qN xs its∧h.get? a=Aa { cls:=.type "list",data:=.seq its.toArray n }
 |.tup xs=>xs.length≤sizeLine∧∃ its:Ab Ac,qN xs its∧Nt h a its.toArray
 |.dK kvs=>kvs.length≤sizeLine∧(a == Ih)=false∧∃ vs,KV kvs vs∧h.DictOf (x5 P w) a vs
 |.dT kvs=>kvs.length≤sizeLine∧(a == Ih)=false∧∃ xs:Ab (Ab Key × Af × Ac),
   Paired (fun (p:Ab Key × V) (q:Ab Key × Af × Ac)=>p.1=q.1∧H q.2.1=Aa (.tup (p.1.map kV))∧qI p.2 q.2.2) kvs xs ∧
   ∃ o es ep,h.get? a=Aa o∧o.ExactDict∧o.data=.dict es ep∧es.toList=xs.map (entryOfKey (Ow (x5 P w)))∧(xs.map (·.1)).Nodup
 |.set S n=>h.SetOf (Bf P w) a S n
 |.ins C dx fs=>H dx=Aa (.own a)∧fs.length≤1000∧dx≠a∧h.get? a=Aa (Rl C dx) ∧
   ∃ mA,h.Ns1 dx mA∧(∀ f,gT (fs.lookup f) (mA f))∧Zn mA (fs.map (·.1))
 |.own _=>∃ o,h.get? a=Aa o
 |.xd fs=>∃ mA,h.Ns1 a mA∧∀ f,gT (fs.lookup f) (mA f)
 |.rng lo hi=>∃ t u v,h.get? a=Aa { cls:=.type "range",data:=.fields #[.int lo t,.int hi u,.int 1 v] }
 |.frz o u=>h.get? a=Aa o∧zR H h a u
 |.tbl ps=>h.get? a=Aa { cls:=.none,data:=.fields ps }
 |.met f x=>h.get? a=Aa (Ox (.ref f) (.ref x))
 |.ext φ => φ h∧(∃ o,h.get? a=Aa o)∧∀ h1 h2:Bi,φ h1→(∀ o,h1.get? a=Aa o→h2.get? a=Aa o)→φ h2
def HOk (H:Hp)(h:Bi):Prop:=∀ a o,H a=Aa o→zR P w H h a o
end
section
variable {P:Bh}{w:Bv}{H H':Hp}{h h':Bi}{a:Af}{o:HO}
theorem zR.lt (x:zR P w H h a o):a<h.objs.size:=by
 cases o with
 |lst xs=>obtain⟨_,_,_,_,e⟩:=x;exact Ax e
 |tup xs=>obtain⟨_,_,_,p⟩:=x;exact p.lt
 |dK kvs=>obtain⟨_,_,_,_,o,_,_,e,_⟩:=x;exact Ax e
 |dT kvs=>obtain⟨_,_,_,_,o,_,_,e,_⟩:=x;exact Ax e
 |set S n=>obtain⟨o,_,_,_,e,_⟩:=x;exact Ax e
 |ins C dx fs=>obtain⟨_,_,_,e,_⟩:=x;exact Ax e
 |own y=>obtain⟨_,e⟩:=x;exact Ax e
 |xd fs=>obtain⟨_,⟨_,_,_,e,_⟩,_⟩:=x;exact Ax e
 |rng lo hi=>obtain⟨_,_,_,e⟩:=x;exact Ax e
 |frz ob u=>obtain⟨e,_⟩:=x;exact Ax e
 |tbl ps=>exact Ax (show h.get? a=Aa _ from x)
 |met f y=>exact Ax (show h.get? a=Aa _ from x)
 |ext φ => obtain⟨_,⟨_,e⟩,_⟩:=x;exact Ax e
theorem Paired.mapP {α β:Type}{F G:α→β→Prop}{l₁:Ab α}{l₂:Ab β}(h:Paired F l₁ l₂)(f:∀ a b,F a b→G a b):Paired G l₁ l₂:=by
 induction h with
 |nil=>exact .nil
 |cons r t ih=>exact .cons (f _ _ r) ih
theorem zR.stay (x:zR P w H h a o)(k:∀ b u,(b=a∨H b=Aa (.own a))→h.get? b=Aa u→h'.get? b=Aa u)
  (ho:∀ b,H b=Aa (.own a)→H' b=Aa (.own a)) (ht:∀ b xs,H b=Aa (.tup xs)→H' b=Aa (.tup xs)):zR P w H' h' a o:=by
 induction o with
 |lst xs=>obtain⟨z,its,n,r,e⟩:=x;exact⟨z,its,n,r,k _ _ (.inl rfl) e⟩
 |tup xs=>obtain⟨z,its,r,ob,e,c⟩:=x;exact⟨z,its,r,ob,k _ _ (.inl rfl) e,c⟩
 |dK kvs=>obtain⟨z,y,vs,r,ob,es,ep,e,c⟩:=x;exact⟨z,y,vs,r,ob,es,ep,k _ _ (.inl rfl) e,c⟩
 |dT kvs =>
  obtain⟨z,y,xs,r,ob,es,ep,e,c⟩:=x;exact⟨z,y,xs,Paired.mapP r fun p q z=>⟨z.1,ht _ _ z.2.1,z.2.2⟩,ob,es,ep,k _ _ (.inl rfl) e,c⟩
 |set S n=>obtain⟨ob,es,ep,t,e,c⟩:=x;exact⟨ob,es,ep,t,k _ _ (.inl rfl) e,c⟩
 |ins C dx fs =>
  obtain⟨d,z,ne,e,mA,⟨od,es,ep,e2,c⟩,r⟩:=x;exact⟨ho _ d,z,ne,k _ _ (.inl rfl) e,mA,⟨od,es,ep,k _ _ (.inr d) e2,c⟩,r⟩
 |own y=>obtain⟨ob,e⟩:=x;exact⟨ob,k _ _ (.inl rfl) e⟩
 |xd fs=>obtain⟨mA,⟨od,es,ep,e,c⟩,r⟩:=x;exact⟨mA,⟨od,es,ep,k _ _ (.inl rfl) e,c⟩,r⟩
 |rng lo hi=>obtain⟨t,u,v,e⟩:=x;exact⟨t,u,v,k _ _ (.inl rfl) e⟩
 |frz ob u ih=>obtain⟨e,q⟩:=x;exact⟨k _ _ (.inl rfl) e,ih q⟩
 |tbl ps =>
  have e:h.get? a=Aa { cls:=.none,data:=.fields ps }:=x;show h'.get? a=Aa { cls:=.none,data:=.fields ps };exact k a _ (.inl rfl) e
 |met f y =>
  have e:h.get? a=Aa (Ox (.ref f) (.ref y)):=x;show h'.get? a=Aa (Ox (.ref f) (.ref y));exact k a _ (.inl rfl) e
 |ext φ => obtain⟨p,⟨o,e⟩,st⟩:=x;exact⟨st _ _ p fun o q=>k _ _ (.inl rfl) q,⟨o,k _ _ (.inl rfl) e⟩,st⟩
theorem HOk.lt (x:HOk P w H h)(e:H a=Aa o):a<h.objs.size:=(x a o e).lt
theorem HOk.fresh (x:HOk P w H h)(e:h.objs.size≤a):H a=none:=by
 cases q:H a with
 |none=>rfl
 |some u=>exact absurd (Bm (x.lt q) e) (DL _)
theorem HOk.kept (x:HOk P w H h)(k:∀ b u,h.get? b=Aa u→h'.get? b=Aa u):HOk P w H h':=fun a o e =>
 (x a o e).stay (fun b u _ q=>k b u q) (fun _ q=>q) fun _ _ q=>q
theorem HOk.laid (x:HOk P w H h)(k:∀ b u,h.get? b=Aa u→h'.get? b=Aa u)(hp:h.objs.size≤a)(new:zR P w (upd H a o) h' a o):HOk P w (upd H a o) h':=fun b u e=>by
 have hn:=x.fresh hp;by_cases hb:b=a
 ·subst hb;rw[zQ] at e;cases e;exact new
 ·rw[qP hb] at e
  exact(x b u e).stay (fun c v _ q=>k c v q) (fun c q=>by rw[qP (zL q hn)];exact q) fun c xs q=>by rw[qP (zL q hn)];exact q
end
def Rd (H:Hp)(a:Af)(u:HO):Prop:=H a=Aa u∨∃ o,H a=Aa (.frz o u)
theorem Rd.of {H:Hp}{a:Af}{u:HO}(h:H a=Aa u):Rd H a u:=.inl h
theorem Rd.ok {P:Bh}{w:Bv}{H:Hp}{h:Bi}{a:Af}{u:HO}(r:Rd H a u)(x:HOk P w H h):zR P w H h a u:=by
 rcases r with r|⟨o,r⟩
 ·exact x a u r
 ·obtain⟨_,q⟩:=x a _ r
  exact q
def Mut:Am HO→Prop
 |some (.lst _)=>Jz
 |some (.dK _)=>Jz
 |some (.dT _)=>Jz
 |some (.set _ _)=>Jz
 |some (.ins _ _ _)=>Jz
 |some (.ext _)=>Jz
 |_=>Fc
section
variable {P:Bh}{w:Bv}{H:Hp}{h h':Bi}{x e:Af}{o':HO}
theorem HOk.write (ok:HOk P w H h)(mu:Mut (H x))(he:e=x∨H e=Aa (.own x))(k:∀ b u,b≠e→h.get? b=Aa u→h'.get? b=Aa u)(heo:∃ u,h'.get? e=Aa u)
  (new:zR P w (upd H x o') h' x o'):HOk P w (upd H x o') h':=fun b u q=>by
 have nown:∀ c y,H c=Aa (.own y)→c≠x:=fun c y r z=>by subst z;rw[r] at mu;exact mu
 have ntup:∀ c xs,H c=Aa (.tup xs)→c≠x:=fun c xs r z=>by subst z;rw[r] at mu;exact mu
 by_cases hb:b=x
 ·subst hb;rw[zQ] at q;cases q;exact new
 ·rw[qP hb] at q
  by_cases hbe:b=e
  ·have q':H b=Aa (.own x):=by
    rcases he with z|z
    ·exact absurd (hbe.trans z) hb
    ·rw[hbe];exact z
   rw[q] at q';cases q';obtain⟨v,hv⟩:=heo;exact⟨v,by rw[hbe];exact hv⟩
  ·refine(ok b u q).stay (fun c v hc r=>k c v ?_ r) (fun c r=>by rw[qP (nown c b r)];exact r) fun c xs r=>by rw[qP (ntup c xs r)];exact r
   rcases hc with rfl|hc
   ·exact hbe
   ·rintro rfl
    rcases he with z|z
    ·exact nown c b hc z
    ·rw[hc] at z;cases z;exact hb rfl
end
structure Un (fs ex:Ab Af)(H H':Hp)(h h':Bi):Prop where
 keep:∀ b o,h.get? b=Aa o→H b=none→b ∉ fs→b ∉ ex→h'.get? b=Aa o
 slot:∀ b o,h.get? b=Aa o→H b=none→b∈fs→b ∉ ex→∃ sl,h'.get? b=Aa { o with slots:=sl }
 free:∀ b o,h.get? b=Aa o→H b=none→b ∉ ex→H' b=none
 there:∀ b o,h.get? b=Aa o→b ∉ ex→∃ o',h'.get? b=Aa o'
 tups:∀ b xs,H b=Aa (.tup xs)→H' b=Aa (.tup xs)
 frzs:∀ b o u,H b=Aa (.frz o u)→H' b=Aa (.frz o u)
 tbls:∀ b ps,H b=Aa (.tbl ps)→∃ more,H' b=Aa (.tbl (ps++more))
section
variable {fs fs' ex ex':Ab Af}{H H1 H2:Hp}{h h1 h2 h':Bi}{a x e:Af}{o:HO}
theorem Un.any (u:Un fs ex H H1 h h1){b:Af}{ob:Co}(q:h.get? b=Aa ob)(n:H b=none)(hx:b ∉ ex):∃ sl,h1.get? b=Aa { ob with slots:=sl }:=by
 by_cases hb:b∈fs
 ·exact u.slot b ob q n hb hx
 ·exact⟨ob.slots,u.keep b ob q n hb hx⟩
theorem Un.kept (k:∀ b u,h.get? b=Aa u→h'.get? b=Aa u):Un fs ex H H h h':=
 ⟨fun b ob q _ _ _=>k b ob q,fun b ob q _ _ _=>⟨ob.slots,k b ob q⟩,fun _ _ _ n _=>n,fun b ob q _=>⟨ob,k b ob q⟩,fun _ _ q=>q,fun _ _ _ q=>q,fun _ ps q=>⟨#[],by rw[q];simp⟩⟩
theorem Un.refl:Un fs ex H H h h:=Un.kept fun _ _ q=>q
theorem Un.laid (k:∀ b u,h.get? b=Aa u→h'.get? b=Aa u)(hp:h.objs.size≤a)(hn:H a=none):Un fs ex H (upd H a o) h h' where
 keep:=fun b u q _ _ _=>k b u q
 slot:=fun b u q _ _ _=>⟨u.slots,k b u q⟩
 free:=fun b u q n _=>by rw[qP (Cc (Bm (Ax q) hp))];exact n
 there:=fun b u q _=>⟨u,k b u q⟩
 tups:=fun b xs q=>by rw[qP (zL q hn)];exact q
 frzs:=fun b u xs q=>by rw[qP (zL q hn)];exact q
 tbls:=fun b ps q=>⟨#[],by rw[qP (zL q hn),q];simp⟩
theorem Un.write (mu:Mut (H x))(he:e=x∨H e=Aa (.own x))(k:∀ b u,b≠e→h.get? b=Aa u→h'.get? b=Aa u)(heo:∃ u,h'.get? e=Aa u):Un fs ex H (upd H x o) h h':=by
 have hx:∀ b,H b=none→b≠x:=fun b n z=>by subst z;rw[n] at mu;exact mu
 have hb:∀ b,H b=none→b≠e:=fun b n z=>by
  subst z;rcases he with r|r
  ·exact hx b n r
  ·rw[n] at r;cases r
 have hm:∀ b u,H b=Aa u→¬ Mut (Aa u)→b≠x:=fun b u q nm z=>by subst z;rw[q] at mu;exact nm mu
 refine⟨fun b u q n _ _=>k b u (hb b n) q,fun b u q n _ _=>⟨u.slots,k b u (hb b n) q⟩,fun b u q n _=>by rw[qP (hx b n)];exact n,fun b u q _=>?_,
  fun b xs q=>by rw[qP (hm b _ q fun z=>z)];exact q,fun b u xs q=>by rw[qP (hm b _ q fun z=>z)];exact q,fun b ps q=>⟨#[],by rw[qP (hm b _ q fun z=>z),q];simp⟩⟩
 by_cases hbe:b=e
 ·subst hbe;exact heo
 ·exact⟨u,k b u hbe q⟩
end
def trk (h:Bi)(H:Hp):Ab Af:=(Cy h.objs.size).filter fun a=>(H a).isSome
def p7 (h:Bi)(H:Hp):Bi:=Mu h (trk h H)
theorem XW (h:Bi)(H:Hp):(p7 h H).objs.size=h.objs.size:=PySem.W.hideAll_size _ _
theorem UK {h:Bi}{H:Hp}{b:Af}{o:Co}(e:h.get? b=Aa o)(n:H b=none):(p7 h H).get? b=Aa o:=
 To _ e fun hm=>by
  have q:(H b).isSome=true:=(Fq.mp hm).2;rw[n] at q;simp at q
theorem FQ {h:Bi}{H:Hp}{b:Af}{o:Co}(e:(p7 h H).get? b=Aa o):h.get? b=Aa o∧H b=none:=by
 have e':h.get? b=Aa o:=Uu (trk h H) e;refine⟨e',?_⟩;cases q:H b with
 |none=>rfl
 |some x =>
  have hm:b∈trk h H:=Fq.mpr ⟨Eg.mpr (Ax e'),by simp[q]⟩
  have z:(p7 h H).get? b=none:=PySem.W.hideAll_none (trk h H) hm;rw[z] at e;cases e
end _L
namespace _L
open PySem PySem.Spec PyProof.Rows
structure Mod (K:Ak)(mg:Au→Am Ac)(base:Bi):Prop where
 kin:K.In base
 glob:base.Ns Cf mg
 blt:∃ mb,base.Ns Tp mb∧∀ x:Au,x ≠ "__name__" → mb x=Gc x
 nolimit:base.NoLimit
structure Cx where
 prog:Bh
 w:Bv
 K:Ak
 mg:Au→Am Ac
 base:Bi
 A:Bo
 N:Ab Au
 s₀:Ag
 H₀:Hp
 env:Jn
 outer:Ab Jn
 stack:Ab Jn
 ex:Ab Af
 fn:Au→As
 calm:As
 pn:Ab (Af × Co)
 xe:Ac→Ag→Prop
def frs (l:Ab Jn):Ab Af:=l.filterMap (·.frame)
abbrev Cx.fs (X:Cx):Ab Af:=frs X.outer
def Vis (sc:Fv)(x:Au):Prop:=sc.names.lookup x=Aa .local ∨ sc.names.lookup x=Aa .cell∨sc.names.lookup x=Aa .free
def Loc (sc:Fv)(x:Au):Prop:=sc.names.lookup x=Aa .local ∨ sc.names.lookup x=Aa .cell
def TU (env:Jn)(h:Bi)(m:Au→Am Ac)(x:Au)(u:Ac):Prop:=
 (env.kindOf x=Aa .local ∧ m x=Aa u)∨((env.kindOf x=Aa .cell∨env.kindOf x=Aa .free)∧∃ c,env.cells.lookup x=Aa c∧h.IsCell c (Aa u))
structure Cx.Ok (X:Cx):Prop where
 mod:Mod X.K X.mg X.base
 kind:X.env.scope.kind=.function
 glob:X.env.globals=Cf
 blt:X.env.builtins=Tp
 above:X.s₀.heap.objs.size≤X.env.locals
 inj:∀ x y c,X.env.cells.lookup x=Aa c→X.env.cells.lookup y=Aa c→x=y
 has:∀ x,(X.env.kindOf x=Aa .cell∨X.env.kindOf x=Aa .free)→∃ c,X.env.cells.lookup x=Aa c
 cab:∀ x c,X.fn x=true→X.env.cells.lookup x=Aa c→X.s₀.heap.objs.size≤c
 hd:X.calm=true→X.A.handled=none
 frames:X.A.frames=Aa X.stack
 stk:X.stack=X.outer∨(X.stack=X.env::X.outer∧X.env.frame=Aa X.env.locals)
 exf:∀ b∈X.ex,b≠X.env.locals∧∀ x c,X.env.cells.lookup x=Aa c→c≠b
 bs:∀ b o,X.base.get? b=Aa o→X.s₀.heap.get? b=Aa o∧X.H₀ b=none
 bsz:X.base.objs.size≤X.s₀.heap.objs.size
 noex:∀ b o,X.base.get? b=Aa o→b ∉ X.ex
 exfs:∀ b∈X.ex,b ∉ X.fs
 funs:X.s₀.heap.FunFrames X.base X.outer
 frf:∀ b∈X.fs,X.H₀ b=none
structure Inv (X:Cx)(pins:Ab (Af × Co))(σ : Ab (Am V))(H:Hp)(s:Ag):Prop where
 ok:X.Ok
 os:s.os=X.s₀.os
 bare:L2 s.gens
 base:Un X.fs X.ex X.H₀ H X.s₀.heap s.heap
 loc:∃ m,s.heap.Ns X.env.locals m∧∀ (i:Ah) (x:Au) (v:V),X.N[i]? = Aa x→σ[i]? = Aa (Aa v)→Vis X.env.scope x→∃ u,qI v u∧TU X.env s.heap m x u
 cell:∀ x c,X.env.cells.lookup x=Aa c→∃ v,s.heap.IsCell c v
 free:H X.env.locals=none
 freeC:∀ x c,X.env.cells.lookup x=Aa c→H c=none
 pin:∀ p∈X.pn++pins,s.heap.get? p.1=Aa p.2∧H p.1=none∧p.1≠X.env.locals∧p.1 ∉ X.fs∧∀ v,p.2.data≠.cell v
 hok:HOk X.prog X.w H s.heap
 len:σ.length=X.N.length
section
variable {X:Cx}{pins:Ab (Af × Co)}{σ : Ab (Am V)}{H H':Hp}{s:Ag}{h':Bi}
theorem Cx.Ok.nofr (ok:X.Ok){b:Af}{o:Co}(e:X.base.get? b=Aa o):b ∉ X.fs:=fun hb=>by
 have:=(ok.funs.mem hb).1;rw[e] at this;cases this
theorem Inv.bs (I:Inv X pins σ H s):∀ b o,X.base.get? b=Aa o→s.heap.get? b=Aa o∧H b=none:=fun b o e =>
 ⟨I.base.keep b o (I.ok.bs b o e).1 (I.ok.bs b o e).2 (I.ok.nofr e) (I.ok.noex b o e),I.base.free b o (I.ok.bs b o e).1 (I.ok.bs b o e).2 (I.ok.noex b o e)⟩
theorem Inv.bk (I:Inv X pins σ H s):∀ b o,X.base.get? b=Aa o→s.heap.get? b=Aa o:=fun b o e=>(I.bs b o e).1
theorem Inv.mod (I:Inv X pins σ H s):Mod X.K X.mg X.base:=I.ok.mod
theorem Inv.kIn (I:Inv X pins σ H s):X.K.In s.heap:=I.ok.mod.kin.keeps I.bk
theorem Inv.nolimit (I:Inv X pins σ H s):s.heap.NoLimit:=I.ok.mod.nolimit.keeps I.bk
theorem Inv.lt (I:Inv X pins σ H s):X.env.locals<s.heap.objs.size:=let ⟨_,hn,_⟩:=I.loc;hn.lt
theorem Inv.sz (I:Inv X pins σ H s):X.s₀.heap.objs.size≤s.heap.objs.size:=Dy I.ok.above (Gm I.lt)
theorem Inv.nofs (I:Inv X pins σ H s){a:Af}(h:s.heap.objs.size≤a):a ∉ X.fs:=fun hb=>by
 obtain⟨_,o,ho,_⟩:=I.ok.funs.mem hb;exact absurd (Bm (Ax ho) (Dy I.sz h)) (DL _)
theorem Inv.cne (I:Inv X pins σ H s):∀ x c,X.env.cells.lookup x=Aa c→c≠X.env.locals:=fun x c e z=>by
 obtain⟨v,o,ho,hd⟩:=I.cell x c e;obtain⟨m,⟨o',es,ep,ho',hd',_⟩,_⟩:=I.loc;rw[z,ho'] at ho;cases ho;rw[hd'] at hd;cases hd
theorem Inv.funs (I:Inv X pins σ H s):s.heap.FunFrames X.base X.outer:=by
 have all:∀ (l:Ab Jn),(∀ b∈frs l,b∈X.fs)→X.s₀.heap.FunFrames X.base l→s.heap.FunFrames X.base l:=by
  intro l
  induction l with
  |nil=>intro _ _;trivial
  |cons env r ih =>
   intro hs hl;obtain⟨hk,⟨L,o,hf,hn,ho,hd⟩,hr⟩:=hl;have hL:L∈X.fs:=hs L (by unfold frs;rw[Fw,hf];exact Cs)
   obtain⟨sl,e⟩:=I.base.slot L o ho (I.ok.frf L hL) hL fun z=>I.ok.exfs L z hL;exact⟨hk,⟨L,_,hf,hn,e,hd⟩,ih (fun b hb=>hs b (by unfold frs;rw[Fw,hf];exact Bl _ hb)) hr⟩
 exact all X.outer (fun _ hb=>hb) I.ok.funs
theorem Inv.stack (I:Inv X pins σ H s):s.heap.FunFrames X.base X.stack:=by
 rcases I.ok.stk with e|⟨e,hf⟩
 ·rw[e];exact I.funs
 ·rw[e]
  obtain⟨m,hn,_⟩:=I.loc;refine .cons (by rw[I.ok.kind];decide) hf hn ?_ I.funs
  exact Ic (Dy I.ok.bsz I.ok.above)
theorem Inv.stkSub (I:Inv X pins σ H s):∀ b∈frs X.stack,b∈X.env.locals::X.fs:=fun b hb=>by
 rcases I.ok.stk with e|⟨e,hf⟩
 ·rw[e] at hb;exact Bl _ hb
 ·rw[e] at hb
  unfold frs at hb;rw[Fw,hf] at hb;exact hb
theorem Inv.stkFree (I:Inv X pins σ H s):∀ b∈frs X.stack,H b=none:=fun b hb=>by
 rcases Av.mp (I.stkSub b hb) with e|hb
 ·rw[e];exact I.free
 ·obtain⟨_,o,ho,_⟩:=I.ok.funs.mem hb
  exact I.base.free b o ho (I.ok.frf b hb) fun z=>I.ok.exfs b z hb
theorem Inv.step {g':Bk Xo}{t':Ah}{d':Drawn}{ch:Ab Af}(I:Inv X pins σ H s)
  (hch:∀ b∈ch,(b∈X.ex∨X.s₀.heap.objs.size≤b)∧b≠X.env.locals∧(∀ x c,X.env.cells.lookup x=Aa c→c≠b)∧∀ p∈X.pn++pins,p.1≠b)
  (keep:∀ b o,b≠X.env.locals→b ∉ X.fs→b ∉ ch→s.heap.get? b=Aa o→H b=none→h'.get? b=Aa o)
  (slot:∀ b o,b≠X.env.locals→b∈X.fs→b ∉ ch→s.heap.get? b=Aa o→H b=none→∃ sl,h'.get? b=Aa { o with slots:=sl }) (free:∀ b o,b ∉ ch→s.heap.get? b=Aa o→H b=none→H' b=none)
  (there:∀ b o,b ∉ ch→s.heap.get? b=Aa o→∃ o',h'.get? b=Aa o')
  (tups:∀ b xs,H b=Aa (.tup xs)→H' b=Aa (.tup xs)) (frzs:∀ b o u,H b=Aa (.frz o u)→H' b=Aa (.frz o u)) (tbls:∀ b ps,H b=Aa (.tbl ps)→∃ more,H' b=Aa (.tbl (ps++more)))
  (ns:∀ m,s.heap.Ns X.env.locals m→h'.Ns X.env.locals m) (hok:HOk X.prog X.w H' h') (hg:L2 g') :
  Inv X pins σ H' { s with heap:=h',gens:=g',drawn:=d',toks:=t' }:=by
 have neL:∀ b o,X.s₀.heap.get? b=Aa o→b≠X.env.locals:=fun b o e=>Cc (Bm (Ax e) I.ok.above);have neC:∀ b o,X.s₀.heap.get? b=Aa o→b ∉ X.ex→b ∉ ch:=fun b o e hx hb=>by
  rcases (hch b hb).1 with z|z
  ·exact hx z
  ·exact absurd (Bm (Ax e) z) (DL _)
 have cellK:∀ x c,X.env.cells.lookup x=Aa c→∀ v,s.heap.IsCell c v→h'.IsCell c v:=fun x c e v ⟨o,ho,hd⟩=>by
  have nch:c ∉ ch:=fun z=>(hch c z).2.2.1 x c e rfl;by_cases hc:c∈X.fs
  ·obtain⟨sl,q⟩:=slot c o (I.cne x c e) hc nch ho (I.freeC x c e)
   exact⟨_,q,hd⟩
  ·exact⟨o,keep c o (I.cne x c e) hc nch ho (I.freeC x c e),hd⟩
 refine⟨I.ok,I.os,hg,⟨fun b o e n hb hx=>?_,fun b o e n hb hx=>?_,fun b o e n hx=>?_,fun b o e hx=>?_,fun b xs e=>tups b xs (I.base.tups b xs e),fun b o xs e=>frzs b o xs (I.base.frzs b o xs e),fun b ps e=>?_⟩,?_,fun x c e=>?_,?_,fun x c e=>?_,fun p hp=>?_,hok,I.len⟩
 ·exact keep b o (neL b o e) hb (neC b o e hx) (I.base.keep b o e n hb hx) (I.base.free b o e n hx)
 ·obtain⟨sl,e1⟩:=I.base.slot b o e n hb hx
  obtain⟨sl',e2⟩:=slot b _ (neL b o e) hb (neC b o e hx) e1 (I.base.free b o e n hx);exact⟨sl',e2⟩
 ·obtain⟨o',e1⟩:=I.base.there b o e hx
  exact free b o' (neC b o e hx) e1 (I.base.free b o e n hx)
 ·obtain⟨o',e1⟩:=I.base.there b o e hx
  exact there b o' (neC b o e hx) e1
 ·obtain⟨m1,e1⟩:=I.base.tbls b ps e
  obtain⟨m2,e2⟩:=tbls b _ e1;exact⟨m1++m2,by rw[e2,Array.append_assoc]⟩
 ·obtain⟨m,hn,hl⟩:=I.loc
  refine⟨m,ns m hn,fun i x v e1 e2 e3=>?_⟩;obtain⟨u,r,l⟩:=hl i x v e1 e2 e3;refine⟨u,r,?_⟩;rcases l with l|⟨k,c,e,z⟩
  ·exact .inl l
  ·exact .inr ⟨k,c,e,cellK x c e _ z⟩
 ·obtain⟨v,z⟩:=I.cell x c e
  exact⟨v,cellK x c e v z⟩
 ·obtain⟨m,⟨o,_,_,ho,_⟩,_⟩:=I.loc
  exact free _ o (fun z=>(hch _ z).2.1 rfl) ho I.free
 ·obtain⟨v,o,ho,hd⟩:=I.cell x c e
  exact free c o (fun z=>(hch c z).2.2.1 x c e rfl) ho (I.freeC x c e)
 ·obtain⟨e,n,ne,nf,d⟩:=I.pin p hp
  have nch:p.1 ∉ ch:=fun z=>(hch p.1 z).2.2.2 p hp rfl;exact⟨keep p.1 p.2 ne nf nch e n,free p.1 p.2 nch e n,ne,nf,d⟩
theorem Inv.un {t':Ah}(I:Inv X pins σ H s)(u:Un X.fs [] H H' s.heap h')(hok:HOk X.prog X.w H' h'):Inv X pins σ H' { s with heap:=h',toks:=t' }:=by
 obtain⟨m,⟨o,es,ep,ho,r⟩,_⟩:=id I.loc;obtain⟨sl,hL⟩:=u.any ho I.free (by simp)
 exact I.step (g':=s.gens) (d':=s.drawn) (ch:=[]) (fun _ z=>nomatch z) (fun b o _ hb _ e n=>u.keep b o e n hb (by simp)) (fun b o _ hb _ e n=>u.slot b o e n hb (by simp)) (fun b o _ e n=>u.free b o e n (by simp)) (fun b o _ e=>u.there b o e (by simp)) u.tups u.frzs u.tbls (fun m' hm=>by
  obtain⟨o',es',ep',ho',r'⟩:=hm;rw[ho] at ho';cases ho';exact⟨_,es',ep',hL,r'⟩) hok I.bare
theorem Inv.call {g':Bk Xo}{t':Ah}{d':Drawn}{ch:Ab Af}(I:Inv X pins σ H s)(u:Un (frs X.stack) ch H H' s.heap h')(hok:HOk X.prog X.w H' h')(hg:L2 g')
  (hch:∀ b∈ch,(b∈X.ex∨X.s₀.heap.objs.size≤b)∧b≠X.env.locals∧(∀ x c,X.env.cells.lookup x=Aa c→c≠b)∧∀ p∈X.pn++pins,p.1≠b) :
  Inv X pins σ H' { s with heap:=h',gens:=g',drawn:=d',toks:=t' }:=by
 obtain⟨m,⟨o,es,ep,ho,r⟩,_⟩:=id I.loc;obtain⟨sl,hL⟩:=u.any ho I.free fun z=>(hch _ z).2.1 rfl;exact I.step (ch:=ch) hch (fun b o hL hb hc e n=>u.keep b o e n (fun z=>(Av.mp (I.stkSub b z)).elim hL hb) hc) (fun b o _ _ hc e n=>u.any e n hc) (fun b o hc e n=>u.free b o e n hc) (fun b o hc e=>u.there b o e hc) u.tups u.frzs u.tbls (fun m' hm=>by
  obtain⟨o',es',ep',ho',r'⟩:=hm;rw[ho] at ho';cases ho';exact⟨_,es',ep',hL,r'⟩) hok hg
theorem Inv.turned {t':Ah}{it:Af}(I:Inv X pins σ H s)(k:∀ b o,b≠it→s.heap.get? b=Aa o→h'.get? b=Aa o)(hn:H it=none)(hL:it≠X.env.locals)
  (h1:it∈X.ex∨X.s₀.heap.objs.size≤it) (h2:∀ x c,X.env.cells.lookup x=Aa c→c≠it) (h3:∀ p∈X.pn++pins,p.1≠it):Inv X pins σ H { s with heap:=h',toks:=t' }:=by
 have nit:∀ b u,H b=Aa u→b≠it:=fun b u e z=>by rw[z,hn] at e;cases e
 refine I.step (g':=s.gens) (d':=s.drawn) (ch:=[it]) (fun b hb=>?_) (fun b o _ _ hc e _=>k b o (fun z=>hc (by simp[z])) e) (fun b o _ _ hc e _=>⟨o.slots,k b o (fun z=>hc (by simp[z])) e⟩) (fun _ _ _ _ n=>n)
  (fun b o hc e=>⟨o,k b o (fun z=>hc (by simp[z])) e⟩) (fun _ _ e=>e) (fun _ _ _ e=>e) (fun b ps e=>⟨#[],by rw[e];simp⟩) (fun m hm=>?_) (fun b u e=>?_) I.bare
 ·have e:b=it:=by simpa using hb
  subst e;exact⟨h1,hL,h2,h3⟩
 ·obtain⟨o,es,ep,ho,r⟩:=hm
  exact⟨o,es,ep,k _ o (Ea hL) ho,r⟩
 ·refine(I.hok b u e).stay (fun c v hc q=>k c v ?_ q) (fun _ q=>q) fun _ _ q=>q
  rcases hc with z|z
  ·rw[z];exact nit b u e
  ·exact nit c _ z
theorem Inv.tok (I:Inv X pins σ H s)(t:Ah):Inv X pins σ H { s with toks:=t }:=I.un (h':=s.heap) (t':=t) Un.refl I.hok
theorem Inv.kept {t':Ah}(I:Inv X pins σ H s)(k:∀ b u,s.heap.get? b=Aa u→h'.get? b=Aa u):Inv X pins σ H { s with heap:=h',toks:=t' }:=I.un (Un.kept k) (I.hok.kept k)
theorem Inv.laid {a:Af}{o:HO}{t':Ah}(I:Inv X pins σ H s)(k:∀ b u,s.heap.get? b=Aa u→h'.get? b=Aa u)(hp:s.heap.objs.size≤a)(new:zR X.prog X.w (upd H a o) h' a o) :
  Inv X pins σ (upd H a o) { s with heap:=h',toks:=t' }:=I.un (Un.laid k hp (I.hok.fresh hp)) (I.hok.laid k hp new)
theorem Inv.write {x e:Af}{o:HO}{t':Ah}(I:Inv X pins σ H s)(mu:Mut (H x))(he:e=x∨H e=Aa (.own x))(k:∀ b u,b≠e→s.heap.get? b=Aa u→h'.get? b=Aa u)(heo:∃ u,h'.get? e=Aa u)
  (new:zR X.prog X.w (upd H x o) h' x o):Inv X pins σ (upd H x o) { s with heap:=h',toks:=t' }:=I.un (Un.write mu he k heo) (I.hok.write mu he k heo new)
theorem Inv.pins_of {pins':Ab (Af × Co)}(I:Inv X pins σ H s)(h:∀ p∈pins',s.heap.get? p.1=Aa p.2∧H p.1=none∧p.1≠X.env.locals∧p.1 ∉ X.fs∧∀ v,p.2.data≠.cell v):Inv X pins' σ H s:=
 ⟨I.ok,I.os,I.bare,I.base,I.loc,I.cell,I.free,I.freeC,fun p hp=>(Cu.mp hp).elim (fun z=>I.pin p (Dq _ z)) (h p),I.hok,I.len⟩
theorem mJ {N:Ab Au}(hN:N.Nodup){i j:Ah}{x:Au}(a:N[i]? = Aa x)(b:N[j]? = Aa x):i=j:=by
 obtain⟨h1,e1⟩:=Ba.mp a;obtain⟨h2,e2⟩:=Ba.mp b;exact(Qh hN).mp (e1.trans e2.symm)
theorem sT {M:Ma}{A:Bo}{E:Ac→Ag→Prop}{i:Ah}{x:Au}{v:V}{u:Ac}{Q:Rm→Ag→Prop}(I:Inv X pins σ H s)(hN:X.N.Nodup)(hi:X.N[i]? = Aa x)(hx:Loc X.env.scope x)(r:qI v u)
  (h:∀ s',Inv X pins (σ.set i (Aa v)) H s'→(∃ a,Gs a s.heap s'.heap∧(a=X.env.locals∨X.env.cells.lookup x=Aa a))→Q () s') (hf:X.fn x=true∨X.env.scope.names.lookup x=Aa .local:=by first|exact .inl rfl|exact .inr rfl|assumption):Ap M A (Yy X.env x u) Q E s:=by
 obtain⟨m,hn,hl⟩:=id I.loc;have hcls:(X.env.scope.kind == .class||(X.env.scope.kind == .module&&X.env.locals != X.env.globals))=false:=by rw[I.ok.kind];rfl
 have hiσ:i<σ.length:=by rw[I.len];exact(Ba.mp hi).1
 have cne:=I.cne;have tracked:∀ {a:Af} {h':Bi},(∃ o,s.heap.get? a=Aa o∧H a=none)→Gs a s.heap h'→HOk X.prog X.w H h':=fun {a h'} ha hs b ob e=>by
  obtain⟨_,_,hfree⟩:=ha;refine(I.hok b ob e).stay (fun c w' hc q=>(hs.2 c ?_).trans q) (fun _ q=>q) fun _ _ q=>q;rintro rfl;rcases hc with rfl|hc
  ·rw[hfree] at e;cases e
  ·rw[hfree] at hc;cases hc
 rcases hx with hk|hk
 ·refine wpAny_storeName_local hk hn (fun h' hn' hs=>?_) hcls
  obtain⟨oL,_,_,hoL,_⟩:=id hn;refine h _ ⟨I.ok,I.os,I.bare,⟨fun b o e n hb hx=>?_,fun b o e n hb hx=>?_,I.base.free,fun b o e hx=>?_,I.base.tups,I.base.frzs,I.base.tbls⟩,⟨_,hn',fun j y v' e1 e2 e3=>?_⟩,fun y c e=>?_,I.free,I.freeC,fun p hp=>?_,tracked ⟨oL,hoL,I.free⟩ hs,by simpa using I.len⟩ ⟨_,hs,.inl rfl⟩
  ·exact(hs.2 b (Cc (Bm (Ax e) I.ok.above))).trans (I.base.keep b o e n hb hx)
  ·obtain⟨sl,e1⟩:=I.base.slot b o e n hb hx
   exact⟨sl,(hs.2 b (Cc (Bm (Ax e) I.ok.above))).trans e1⟩
  ·obtain⟨o',e1⟩:=I.base.there b o e hx
   exact⟨o',(hs.2 b (Cc (Bm (Ax e) I.ok.above))).trans e1⟩
  ·by_cases hj:j=i
   ·subst hj
    rw[hi] at e1;cases e1;rw[En hiσ] at e2;cases e2;exact⟨u,r,.inl ⟨hk,by simp⟩⟩
   ·rw[Ek (Ea hj)] at e2
    obtain⟨u',r',q⟩:=hl j y v' e1 e2 e3;refine⟨u',r',?_⟩;rcases q with⟨k,e⟩|⟨k,c,e,z⟩
    ·refine .inl ⟨k,?_⟩
     have:y≠x:=fun e=>hj (mJ hN e1 (e▸hi));simp[this,e]
    ·exact .inr ⟨k,c,e,z.sameBut hs (cne y c e)⟩
  ·obtain⟨w',z⟩:=I.cell y c e
   exact⟨w',z.sameBut hs (cne y c e)⟩
  ·obtain⟨e,n,ne,nf,d⟩:=I.pin p hp
   exact⟨(hs.2 p.1 ne).trans e,n,ne,nf,d⟩
 ·have hfn:X.fn x=true:=by
   rcases hf with z|z
   ·exact z
   ·rw[z] at hk;cases hk
  obtain⟨c,hc⟩:=I.ok.has x (.inl hk);obtain⟨w',z⟩:=I.cell x c hc;refine wpAny_storeName_cell I.ok.kind hk hc z (fun h' hc' hs=>?_);obtain⟨oc,hoc,hocd⟩:=id z;refine h { s with heap:=h' } ⟨I.ok,I.os,I.bare,⟨fun b o e n hb hx=>?_,fun b o e n hb hx=>?_,I.base.free,fun b o e hx=>?_,I.base.tups,I.base.frzs,I.base.tbls⟩,⟨m,hn.sameBut hs (Ea (cne x c hc)),fun j y v' e1 e2 e3=>?_⟩,fun y c' e=>?_,I.free,I.freeC,fun p hp=>?_,tracked ⟨oc,hoc,I.freeC x c hc⟩ hs,by simpa using I.len⟩ ⟨c,hs,.inr hc⟩
  ·exact(hs.2 b (Cc (Bm (Ax e) (I.ok.cab x c hfn hc)))).trans (I.base.keep b o e n hb hx)
  ·obtain⟨sl,e1⟩:=I.base.slot b o e n hb hx
   exact⟨sl,(hs.2 b (Cc (Bm (Ax e) (I.ok.cab x c hfn hc)))).trans e1⟩
  ·obtain⟨o',e1⟩:=I.base.there b o e hx
   exact⟨o',(hs.2 b (Cc (Bm (Ax e) (I.ok.cab x c hfn hc)))).trans e1⟩
  ·by_cases hj:j=i
   ·subst hj
    rw[hi] at e1;cases e1;rw[En hiσ] at e2;cases e2;exact⟨u,r,.inr ⟨.inl hk,c,hc,hc'⟩⟩
   ·rw[Ek (Ea hj)] at e2
    obtain⟨u',r',q⟩:=hl j y v' e1 e2 e3;refine⟨u',r',?_⟩;rcases q with q|⟨k,c',e,z'⟩
    ·exact .inl q
    ·refine .inr ⟨k,c',e,z'.sameBut hs ?_⟩
     rintro rfl;exact hj (mJ hN e1 (I.ok.inj _ _ _ e hc▸hi))
  ·by_cases hcc:c'=c
   ·subst hcc;exact⟨_,hc'⟩
   ·obtain⟨w2,z2⟩:=I.cell y c' e
    exact⟨w2,z2.sameBut hs hcc⟩
  ·obtain⟨e,n,ne,nf,d⟩:=I.pin p hp
   refine⟨(hs.2 p.1 ?_).trans e,n,ne,nf,d⟩;intro q;rw[q,hoc] at e;have q':oc=p.2:=Cp e;exact d w' (by rw[← q'];exact hocd)
theorem j7 {M:Ma}{A:Bo}{E:Ac→Ag→Prop}{i:Ah}{x:Au}{v:V}{u:Ac}{Q:Rm→Ag→Prop}(I:Inv X pins σ H s)(hN:X.N.Nodup)(hi:X.N[i]? = Aa x)(hx:Loc X.env.scope x)(r:qI v u)
  (h:∀ s',Inv X pins (σ.set i (Aa v)) H s'→Q () s') (hf:X.fn x=true∨X.env.scope.names.lookup x=Aa .local:=by first|exact .inl rfl|exact .inr rfl|assumption):Ap M A (Yy X.env x u) Q E s:=
 sT I hN hi hx r (fun s' I' _=>h s' I') hf
theorem Inv.call' {s':Ag}{ch:Ab Af}(I:Inv X pins σ H s)(ho:s'.os=s.os)(u:Un (frs X.stack) ch H H' s.heap s'.heap)(hok:HOk X.prog X.w H' s'.heap)(hg:L2 s'.gens)
  (hch:∀ b∈ch,(b∈X.ex∨X.s₀.heap.objs.size≤b)∧b≠X.env.locals∧(∀ x c,X.env.cells.lookup x=Aa c→c≠b)∧∀ p∈X.pn++pins,p.1≠b):Inv X pins σ H' s':=by
 obtain⟨h',g',d',t',o'⟩:=s';have e:o'=s.os:=ho;subst e;exact I.call (g':=g') (t':=t') (d':=d') u hok hg hch
end
abbrev XK:=Ac→Am Af→Hp→Prop
abbrev St:=Ab (Am V)
abbrev VK:=V→Hp→Prop
abbrev TE:=St→Hp→VK→Prop
abbrev TT:=St→Hp→(As→Hp→Prop)→Prop
abbrev TA:=St→Hp→(Ab V→Hp→Prop)→Prop
structure Ends where
 nx:St→Hp→Prop
 rt:VK
 bk:St→Hp→Prop:=fun _ _=>Fc
 ct:St→Hp→Prop:=fun _ _=>Fc
abbrev TS:=Ends→St→Hp→Prop
inductive EP (X:Cx)(pins:Ab (Af × Co))(σ : St)(Q:VK)(u:Ac)(s':Ag):Prop
 |mk (v:V) (H':Hp) (I:Inv X pins σ H' s') (r:qI v u) (q:Q v H'):EP X pins σ Q u s'
inductive TP (X:Cx)(pins:Ab (Af × Co))(σ : St)(Q:As→Hp→Prop)(b:As)(s':Ag):Prop
 |mk (H':Hp) (I:Inv X pins σ H' s') (q:Q b H'):TP X pins σ Q b s'
inductive AP (X:Cx)(pins:Ab (Af × Co))(σ : St)(Q:Ab V→Hp→Prop)(us:Ab Ac)(s':Ag):Prop
 |mk (vs:Ab V) (H':Hp) (I:Inv X pins σ H' s') (r:qN vs us) (q:Q vs H'):AP X pins σ Q us s'
def SP (X:Cx)(pins:Ab (Af × Co))(D:Ends)(f:Flow)(s':Ag):Prop:=
 match f with
 |.next=>∃ σ' H',Inv X pins σ' H' s'∧D.nx σ' H'
 |.brk=>∃ σ' H',Inv X pins σ' H' s'∧D.bk σ' H'
 |.cont=>∃ σ' H',Inv X pins σ' H' s'∧D.ct σ' H'
 |.ret u=>∃ v σ' H',Inv X pins σ' H' s'∧qI v u∧D.rt v H'
def PE (X:Cx)(e:Bq)(t:TE):Prop:=
 ∀ (pins:Ab (Af × Co)) (s:Ag) (σ : St) (H:Hp) (Q:VK),Inv X pins σ H s→t σ H Q→Ap (Aw X.prog X.w) X.A (eval e X.env) (EP X pins σ Q) X.xe s
def PT (X:Cx)(e:Bq)(t:TT):Prop:=
 ∀ (pins:Ab (Af × Co)) (s:Ag) (σ : St) (H:Hp) (Q:As→Hp→Prop),Inv X pins σ H s→t σ H Q→Ap (Aw X.prog X.w) X.A (isTrue e X.env (eval e X.env)) (TP X pins σ Q) X.xe s
def PW (X:Cx)(e:Bq)(t:TT):Prop:=
 ∀ (whole:Mp Ac) (pins:Ab (Af × Co)) (s:Ag) (σ : St) (H:Hp) (Q:As→Hp→Prop),Inv X pins σ H s→t σ H Q→Ap (Aw X.prog X.w) X.A (isTrue e X.env whole) (TP X pins σ Q) X.xe s
def PA (X:Cx)(es:Ab Bq)(t:TA):Prop:=
 ∀ (pos:Ez) (pins:Ab (Af × Co)) (s:Ag) (σ : St) (H:Hp) (Q:Ab V→Hp→Prop),Inv X pins σ H s→t σ H Q→Ap (Aw X.prog X.w) X.A (spliced (Fp pos (Bb es X.env))) (AP X pins σ Q) X.xe s
def PS (X:Cx)(st:Eu)(t:TS):Prop:=
 ∀ (pins:Ab (Af × Co)) (s:Ag) (σ : St) (H:Hp) (D:Ends),Inv X pins σ H s→t D σ H→Ap (Aw X.prog X.w) X.A (exec st X.env) (SP X pins D) X.xe s
def PSs (X:Cx)(st:Ab Eu)(t:TS):Prop:=
 ∀ (pins:Ab (Af × Co)) (s:Ag) (σ : St) (H:Hp) (D:Ends),Inv X pins σ H s→t D σ H→Ap (Aw X.prog X.w) X.A (execs st X.env) (SP X pins D) X.xe s
theorem thn {α : Type}{t:Mp α}{Q Q':α→Ag→Prop}{M:Ma}{A:Bo}{E:Ac→Ag→Prop}{s:Ag}(h:Ap M A t Q E s)(hQ:∀ a s,Q a s→Q' a s):Ap M A t Q' E s:=Hw h hQ fun _ _ x=>x
end _L
namespace _L
open PySem PySem.Spec PyProof.Rows
section
variable {X:Cx}
theorem bin {a b:Bq}{ta tb:TE}(ha:PE X a ta)(hb:PE X b tb){pins:Ab (Af × Co)}{s:Ag}{σ : St}{H:Hp}{R:V→V→Hp→Prop}(I:Inv X pins σ H s)(h:ta σ H fun x H1=>tb σ H1 fun y H2=>R x y H2)
  {α:Type} {Q:α→Ag→Prop} {f:Ac→Ac→Mp α}
  (hf:∀ v u s2 x y H2,Inv X pins σ H2 s2→qI x v→qI y u→R x y H2→Ap (Aw X.prog X.w) X.A (f v u) Q X.xe s2) :
  Ap (Aw X.prog X.w) X.A (eval a X.env) (fun v s₁=>Ap (Aw X.prog X.w) X.A (eval b X.env) (fun u s₂=>Ap (Aw X.prog X.w) X.A (f v u) Q X.xe s₂) X.xe s₁) X.xe s:=by
 refine thn (ha pins s σ H _ I h) fun v s1 ⟨x,H1,I1,r1,q1⟩=>?_;refine thn (hb pins s1 σ H1 _ I1 q1) fun u s2 ⟨y,H2,I2,r2,q2⟩=>?_;exact hf v u s2 x y H2 I2 r1 r2 q2
def EA (i:Ah):TE:=fun σ H Q=>∃ v,σ[i]? = Aa (Aa v)∧Q v H
def tC (v:V):TE:=fun _ H Q=>Q v H
theorem SY {i:Ah}{x:Au}{pos:Ez}(hN:X.N[i]? = Aa x)(hv:Vis X.env.scope x)(hd:(x == ("__debug__" : Au))=false:=by decide)(hcd:(x == ("__classdict__" : Au))=false:=by decide):PE X (.Name x pos) (EA i):=by
 intro pins s σ H Q I h;obtain⟨v,e,h⟩:=h;obtain⟨m,hn,hl⟩:=I.loc;obtain⟨u,r,l⟩:=hl i x v hN e hv;have fin:EP X pins σ Q u s:=⟨v,H,I,r,h⟩;rcases l with⟨hk,hm⟩|⟨hk,c,hc,hcell⟩
 ·exact Yc (Tg I.ok.kind hk hn hm fin) hd
 ·rcases hk with hk|hk
  ·exact Yc (Tq I.ok.kind hk hc hcell fin) hd
  ·exact Yc (wpAny_loadName_free I.ok.kind hk hc hcell fin hcd) hd
theorem SS {i j pos}:PE X (.Constant (.int i) j pos) (tC (.int i)):=fun _ _ _ H _ I h=>wpAny_Constant_int ⟨.int i,H,I.tok _,⟨_,rfl⟩,h⟩
theorem CK {b j pos}:PE X (.Constant (.bool b) j pos) (tC (.bl b)):=fun _ _ _ H _ I h=>Constant_bool ⟨.bl b,H,I,rfl,h⟩
theorem SU {j pos}:PE X (.Constant .none j pos) (tC .non):=fun _ _ _ H _ I h=>Constant_none ⟨.non,H,I,rfl,h⟩
theorem SW {x j pos}:PE X (.Constant (.str x) j pos) (tC (.str x)):=fun _ _ _ H _ I h=>Calls.Constant_str ⟨.str x,H,I.tok _,⟨_,rfl⟩,h⟩
def Gl (X:Cx)(x:Au):Prop:=X.env.kindOf x=Aa .globalImplicit
theorem jX {E:Ac→Ag→Prop}{pins:Ab (Af × Co)}{s:Ag}{σ : St}{H:Hp}{x:Au}{u:Ac}{pos:Ez}{Q:Ac→Ag→Prop}(I:Inv X pins σ H s)(hg:Gl X x)(hm:X.mg x=Aa u)(h:Q u s)
  (hd:(x == ("__debug__" : Au))=false:=by decide):Ap (Aw X.prog X.w) X.A (eval (.Name x pos) X.env) Q E s:=
 On I.ok.kind hg (Calls.loadGlobal_global (by rw[I.ok.glob];exact I.mod.glob.keeps I.bk) hm h) hd
theorem uF {E:Ac→Ag→Prop}{pins:Ab (Af × Co)}{s:Ag}{σ : St}{H:Hp}{x:Au}{u:Ac}{pos:Ez}{Q:Ac→Ag→Prop}(I:Inv X pins σ H s)(hg:Gl X x)(hm:X.mg x=none)(hv:Gc x=Aa u)(h:Q u s)
  (hn:x ≠ "__name__":=by decide) (hd:(x == ("__debug__" : Au))=false:=by decide):Ap (Aw X.prog X.w) X.A (eval (.Name x pos) X.env) Q E s:=by
 obtain⟨mb,h1,h2⟩:=I.mod.blt;exact On I.ok.kind hg (Calls.loadGlobal_builtin (by rw[I.ok.glob];exact I.mod.glob.keeps I.bk) hm (by rw[I.ok.blt];exact h1.keeps I.bk) ((h2 x hn).trans hv) h) hd
theorem FW {x:Au}{v:V}{u:Ac}{pos:Ez}(hg:Gl X x)(hm:X.mg x=Aa u)(r:qI v u)(hd:(x == ("__debug__" : Au))=false:=by decide):PE X (.Name x pos) (tC v):=
 fun _ _ _ H _ I h=>jX I hg hm ⟨v,H,I,r,h⟩ hd
theorem FV {x:Au}{v:V}{u:Ac}{pos:Ez}(hg:Gl X x)(hm:X.mg x=none)(hv:Gc x=Aa u)(r:qI v u)(hn:x ≠ "__name__":=by decide)(hd:(x == ("__debug__" : Au))=false:=by decide):PE X (.Name x pos) (tC v):=
 fun _ _ _ H _ I h=>uF I hg hm hv ⟨v,H,I,r,h⟩ hn hd
variable {a b:Bq}{ta tb:TE}{pos:Ez}
variable {tA tB':TT}{rest:Ab Bq}
theorem RA (ha:PT X a tA):PW X (.BoolOp .Or [a] pos) tA:=by
 intro wh pins s σ H Q I h;refine isTrue_or (thn (ha pins s σ H Q I h) fun c s1 e=>?_);cases c with
 |false=>exact isTrue_or_nil e
 |true=>exact e
theorem SV {op}{t:TE}(h:PE X a t):PE X (.BoolOp op [a] pos) t:=fun pins s σ H Q I hw=>BoolOp_one (h pins s σ H Q I hw)
end
end _L
namespace _L
open PySem PySem.Spec PyProof.Rows
def SqL (K:Ak)(H:Hp)(a:Af)(xs:Ab V):Prop:=
 Rd H a (.lst xs) ∨
  ∃ (o:Co) (its:Bk Ac) (n:Ah),K.lookup a=Aa o∧o.cls=.type "list" ∧ o.dict=none∧o.data=.seq its n∧its.size≤sizeLine∧qN xs its.toList
def SqT (K:Ak)(H:Hp)(a:Af)(xs:Ab V):Prop:=
 Rd H a (.tup xs) ∨
  ∃ (o:Co) (its:Bk Ac) (n:Ah),K.lookup a=Aa o∧o.cls=.type "tuple" ∧ o.data=.seq its n∧its.size≤sizeLine∧qN xs its.toList
def AX:Ac→Am V
 |.none=>Aa .non
 |.bool b=>Aa (.bl b)
 |.int i _=>Aa (.int i)
 |.str x _=>Aa (.str x)
 |.bytes b _=>Aa (.byt b)
 |.float b _=>Aa (.flt b)
 |.ref a=>Aa (.ref a)
 |.type n=>Aa (.ty n)
 |_=>none
theorem qI.abs {x:V}{u:Ac}(r:qI x u):AX u=Aa x:=by
 cases x with
 |non=>cases r;rfl
 |bl _=>cases r;rfl
 |int _=>obtain⟨t,rfl⟩:=r;rfl
 |str _=>obtain⟨t,rfl⟩:=r;rfl
 |byt _=>obtain⟨t,rfl⟩:=r;rfl
 |flt _=>obtain⟨t,rfl⟩:=r;rfl
 |ref _=>cases r;rfl
 |ty _=>cases r;rfl
theorem qI.inj {x y:V}{u:Ac}(r:qI x u)(q:qI y u):x=y:=Cp (r.abs.symm.trans q.abs)
theorem qN.inj {xs ys:Ab V}{us:Ab Ac}(h:qN xs us)(k:qN ys us):xs=ys:=by
 induction h generalizing ys with
 |nil=>cases k;rfl
 |cons r t ih =>
  cases k with
  |cons r' t'=>rw[r.inj r',ih t']
section
variable {X:Cx}{pins:Ab (Af × Co)}{σ : St}{H:Hp}{s:Ag}{a:Af}{xs ys:Ab V}
theorem SqL.of {K:Ak}(h:H a=Aa (.lst xs)):SqL K H a xs:=.inl (.inl h)
theorem SqT.of {K:Ak}(h:H a=Aa (.tup xs)):SqT K H a xs:=.inl (.inl h)
theorem Inv.list (I:Inv X pins σ H s)(h:SqL X.K H a xs):∃ its:Ab Ac,qN xs its∧PlainL s.heap a its.toArray∧xs.length≤sizeLine:=by
 rcases h with h|⟨o,its,n,hk,hc,hd,hs,hz,r⟩
 ·obtain⟨z,its,n,r,e⟩:=h.ok I.hok
  exact⟨its,r,⟨_,n,e,rfl,rfl,rfl⟩,z⟩
 ·refine⟨its.toList,r,⟨o,n,I.kIn a o hk,hc,hd,by simpa using hs⟩,?_⟩
  have e:=r.length;simp only[Dc] at e;omega
theorem Inv.tuple (I:Inv X pins σ H s)(h:SqT X.K H a xs):∃ its:Ab Ac,qN xs its∧Nt s.heap a its.toArray∧xs.length≤sizeLine:=by
 rcases h with h|⟨o,its,n,hk,hc,hs,hz,r⟩
 ·obtain⟨z,its,r,p⟩:=h.ok I.hok
  exact⟨its,r,p,z⟩
 ·refine⟨its.toList,r,⟨o,I.kIn a o hk,hc,n,by simpa using hs⟩,?_⟩
  have e:=r.length;simp only[Dc] at e;omega
theorem Inv.list_inj (I:Inv X pins σ H s)(h:SqL X.K H a xs)(h':SqL X.K H a ys):xs=ys:=by
 obtain⟨its,r,⟨o,n,e,_,_,d⟩,_⟩:=I.list h;obtain⟨its',r',⟨o',n',e',_,_,d'⟩,_⟩:=I.list h';rw[e] at e';cases e';rw[d] at d';injection d' with d1 _
 have:its=its':=by simpa using congrArg Vi d1
 subst this;exact r.inj r'
theorem Inv.tuple_inj (I:Inv X pins σ H s)(h:SqT X.K H a xs)(h':SqT X.K H a ys):xs=ys:=by
 obtain⟨its,r,⟨o,e,_,n,d⟩,_⟩:=I.tuple h;obtain⟨its',r',⟨o',e',_,n',d'⟩,_⟩:=I.tuple h';rw[e] at e';cases e';rw[d] at d';injection d' with d1 _
 have:its=its':=by simpa using congrArg Vi d1
 subst this;exact r.inj r'
end
abbrev Cx.wish (X:Cx)(E:Ac→Ag→Prop):Cx:={ X with xe:=E }
abbrev Cx.nox (X:Cx):Cx:=X.wish fun _ _=>Fc
theorem Cx.Ok.wish {X:Cx}(ok:X.Ok)(E:Ac→Ag→Prop):(X.wish E).Ok:=
 ⟨ok.mod,ok.kind,ok.glob,ok.blt,ok.above,ok.inj,ok.has,ok.cab,ok.hd,ok.frames,ok.stk,ok.exf,ok.bs,ok.bsz,ok.noex,ok.exfs,ok.funs,ok.frf⟩
theorem Cx.Ok.unwish {X:Cx}{E:Ac→Ag→Prop}(ok:(X.wish E).Ok):X.Ok:=
 ⟨ok.mod,ok.kind,ok.glob,ok.blt,ok.above,ok.inj,ok.has,ok.cab,ok.hd,ok.frames,ok.stk,ok.exf,ok.bs,ok.bsz,ok.noex,ok.exfs,ok.funs,ok.frf⟩
section
variable {X:Cx}{pins:Ab (Af × Co)}{σ : St}{H:Hp}{s:Ag}{E:Ac→Ag→Prop}
theorem Inv.wish (I:Inv X pins σ H s)(E:Ac→Ag→Prop):Inv (X.wish E) pins σ H s:=⟨I.ok.wish E,I.os,I.bare,I.base,I.loc,I.cell,I.free,I.freeC,I.pin,I.hok,I.len⟩
theorem Inv.unwish (I:Inv (X.wish E) pins σ H s):Inv X pins σ H s:=⟨I.ok.unwish,I.os,I.bare,I.base,I.loc,I.cell,I.free,I.freeC,I.pin,I.hok,I.len⟩
theorem SP.unwish {D:Ends}{f:Flow}{s':Ag}(h:SP (X.wish E) pins D f s'):SP X pins D f s':=by
 cases f with
 |next=>obtain⟨σ',H',I,q⟩:=h;exact⟨σ',H',I.unwish,q⟩
 |brk=>obtain⟨σ',H',I,q⟩:=h;exact⟨σ',H',I.unwish,q⟩
 |cont=>obtain⟨σ',H',I,q⟩:=h;exact⟨σ',H',I.unwish,q⟩
 |ret u=>obtain⟨v,σ',H',I,r,q⟩:=h;exact⟨v,σ',H',I.unwish,r,q⟩
theorem PE.nox {e:Bq}{t:TE}(h:PE X.nox e t):PE X e t:=fun pins s σ H Q I hw =>
 Hw (h pins s σ H Q (I.wish _) hw) (fun _ _ ⟨v,H',I',r,q⟩=>⟨v,H',I'.unwish,r,q⟩) fun _ _ z=>Ao z
theorem PT.nox {e:Bq}{t:TT}(h:PT X.nox e t):PT X e t:=fun pins s σ H Q I hw =>
 Hw (h pins s σ H Q (I.wish _) hw) (fun _ _ ⟨H',I',q⟩=>⟨H',I'.unwish,q⟩) fun _ _ z=>Ao z
theorem PSs.nox {st:Ab Eu}{t:TS}(h:PSs X.nox st t):PSs X st t:=fun pins s σ H D I hw =>
 Hw (h pins s σ H D (I.wish _) hw) (fun _ _ q=>q.unwish) fun _ _ z=>Ao z
end
section
variable {X:Cx}{st:Eu}{rest:Ab Eu}{t u:TS}{e:Bq}{te:TE}{pos:Ez}
def A9:TS:=fun D σ H=>D.nx σ H
def OJ (t u:TS):TS:=fun D σ H=>t { D with nx:=u D } σ H
theorem M2:PSs X [] A9:=fun _ _ σ H _ I h=>Mv ⟨σ,H,I,h⟩
theorem JK (h1:PS X st t)(h2:PSs X rest u):PSs X (st::rest) (OJ t u):=by
 intro pins s σ H D I h;refine Ws (thn (h1 pins s σ H { D with nx:=u D } I h) fun f s1 q=>?_)
 cases f with
 |next =>
  obtain⟨σ',H',I',q⟩:=q;exact h2 pins s1 σ' H' D I' q
 |ret v=>exact q
 |brk=>exact q
 |cont=>exact q
theorem M3 (h1:PS X st t):PSs X [st] t:=by
 intro pins s σ H D I h;refine Ws (thn (h1 pins s σ H D I h) fun f s1 q=>?_);cases f with
 |next=>exact Mv q
 |ret v=>exact q
 |brk=>exact q
 |cont=>exact q
theorem Inv.quiet {pins:Ab (Af × Co)}{σ : St}{H:Hp}{s:Ag}(I:Inv X pins σ H s):interactive X.env=false:=by simp[interactive,I.ok.kind]
end
abbrev TG:=V→St→Hp→(St→Hp→Prop)→Prop
abbrev TGs:=Ab V→St→Hp→(St→Hp→Prop)→Prop
def PG (X:Cx)(target:Bq)(t:TG):Prop:=
 ∀ (pins:Ab (Af × Co)) (s:Ag) (σ : St) (H:Hp) (v:V) (u:Ac) (Q:St→Hp→Prop),Inv X pins σ H s→qI v u→t v σ H Q →
  Ap (Aw X.prog X.w) X.A (assign target X.env u) (fun _ s'=>∃ σ' H',Inv X pins σ' H' s'∧Q σ' H') X.xe s
def PGs (X:Cx)(ts:Ab Bq)(t:TGs):Prop:=
 ∀ (pins:Ab (Af × Co)) (s:Ag) (σ : St) (H:Hp) (vs:Ab V) (us:Ab Ac) (Q:St→Hp→Prop),Inv X pins σ H s→qN vs us→t vs σ H Q →
  Ap (Aw X.prog X.w) X.A (Ts ((Gi ts X.env).map (·.2)) us) (fun _ s'=>∃ σ' H',Inv X pins σ' H' s'∧Q σ' H') X.xe s
abbrev V9:=V→V→V→Hp→(Hp→Prop)→Prop
def rQ (X:Cx)(t:V9):Prop:=
 ∀ (pins:Ab (Af × Co)) (s:Ag) (σ : St) (H:Hp) (o i v:V) (ov iv u:Ac) (Q:Hp→Prop),Inv X pins σ H s→qI o ov→qI i iv→qI v u→t o i v H Q →
  Ap (Aw X.prog X.w) X.A (Yz ov iv u) (fun _ s'=>∃ H',Inv X pins σ H' s'∧Q H') X.xe s
abbrev TIp:=V→V→Hp→VK→Prop
def PIp (X:Cx)(op:Lw)(t:TIp):Prop:=
 ∀ (pins:Ab (Af × Co)) (s:Ag) (σ : St) (H:Hp) (x y:V) (v u:Ac) (Q:VK),Inv X pins σ H s→qI x v→qI y u→t x y H Q →
  Ap (Aw X.prog X.w) X.A (inplaceOp op v u) (EP X pins σ Q) X.xe s
section
variable {X:Cx}{pos:Ez}
def HK (i:Ah):TG:=fun v σ H Q=>Q (σ.set i (Aa v)) H
theorem FX {i:Ah}{x:Au}(hN:X.N.Nodup)(hi:X.N[i]? = Aa x)(hx:Loc X.env.scope x)(hf:X.fn x=true∨X.env.scope.names.lookup x=Aa .local:=by first|exact .inl rfl|exact .inr rfl|assumption):PG X (.Name x pos) (HK i):=by
 intro pins s σ H v u Q I r h;exact Vt (j7 I hN hi hx r (fun s' I'=>⟨_,H,I',h⟩) hf)
def IK:TGs:=fun vs σ H Q=>vs=[]∧Q σ H
def HJ (t:TG)(u:TGs):TGs:=fun vs σ H Q=>∃ v r,vs=v::r∧t v σ H fun σ' H'=>u r σ' H' Q
theorem FY:PGs X [] IK:=by
 intro pins s σ H vs us Q I r h;obtain⟨e,h⟩:=h;subst e;cases r;exact Vu ⟨σ,H,I,h⟩
theorem JI {e:Bq}{es:Ab Bq}{t:TG}{u:TGs}(h1:PG X e t)(h2:PGs X es u)
  (hs:(Gi (e::es) X.env).map (·.2)=assign e X.env::(Gi es X.env).map (·.2):=by rfl):PGs X (e::es) (HJ t u):=by
 intro pins s σ H vs us Q I r h;obtain⟨v,vr,e1,h⟩:=h;subst e1;cases r with
 |cons r rr =>
  rw[hs];refine Of (thn (h1 pins s σ H _ _ _ I r h) fun _ s1 ⟨σ1,H1,I1,q1⟩=>?_);exact h2 pins s1 σ1 H1 _ _ Q I1 rr q1
def IL (K:Ak)(n:Ah)(t:TGs):TG:=fun v σ H Q=>∃ a xs,v=.ref a∧SqT K H a xs∧xs.length=n∧t xs σ H Q
theorem SZ {es:Ab Bq}{k:Ah}{t:TGs}{n:Ah}(hc:X.calm=true)(h:PGs X es t)
  (hn:(Gi es X.env).length=n:=by rfl) (hst:(Gi es X.env).findIdx? (·.1)=none:=by rfl):PG X (.Tuple es k pos) (IL X.K n t):=by
 intro pins s σ H v u Q I r hw;obtain⟨a,xs,e1,hq,hl,hw⟩:=hw;subst e1;cases r;obtain⟨its,rv,ht,hz⟩:=I.tuple hq;refine assign_Tuple_tuple (I.ok.hd hc) ht (by simp[hn,← hl,rv.length]) hst fun h' hx=>?_
 have I1:Inv X pins σ H { s with heap:=h' }:=I.kept (t':=s.toks) fun b o e=>hx b o (Cc (Ax e)) e
 exact h pins _ σ H xs _ Q I1 (by simpa using rv) hw
def xA (to ti:TE)(t:V9):TG:=fun v σ H Q=>to σ H fun o H1=>ti σ H1 fun i H2=>t o i v H2 fun H3=>Q σ H3
def OI (i j:Ah)(ta:TA):TS:=fun D σ H=>ta σ H fun vs H1=>∃ v w,vs=[v,w]∧D.nx ((σ.set i (Aa v)).set j (Aa w)) H1
theorem R7 {i j:Ah}{x y:Au}{a b:Bq}{ta:TA}{px py pt:Ez} {kt k2 pt2} (hc:X.calm=true) (hN:X.N.Nodup) (hi:X.N[i]? = Aa x) (hj:X.N[j]? = Aa y) (hij:i≠j)
  (hx:X.env.scope.names.lookup x=Aa .local) (hy:X.env.scope.names.lookup y=Aa .local) (ha:PA X [a,b] ta)
  (hw:Ka [.Tuple [.Name x px,.Name y py] kt pt] (.Tuple [a,b] k2 pt2) X.env=pure (Aa [x,y]))
  (hs:Ke [.Tuple [.Name x px,.Name y py] kt pt] (.Tuple [a,b] k2 pt2) pos.line X.env=pure false:=by rfl) :
  PS X (.Assign [.Tuple [.Name x px,.Name y py] kt pt] (.Tuple [a,b] k2 pt2) pos) (OI i j ta):=by
 intro pins s σ H D I h;rw[exec_Assign_arm];refine Ad (Oy ?_);rw[hs];refine Ad (Al ?_);rw[Bc (by decide)]
 refine Ad (Tuple_ (thn (ha _ pins s σ H _ I h) fun us s1 ⟨vs,H1,I1,r1,q1⟩=>?_));obtain⟨v,w,e1,q1⟩:=q1;subst e1;obtain⟨u1,u2,rfl,rv,rw'⟩:∃ u1 u2,us=[u1,u2]∧qI v u1∧qI w u2:=by
  cases r1 with
  |cons p q =>
   cases q with
   |cons p' q' =>
    cases q';exact⟨_,_,rfl,p,p'⟩
 refine Dd ?_ (by show 2≤sizeLine;decide)
 have I2:Inv X pins σ H1 { s1 with heap:=s1.heap.push { cls:=.type "tuple",data:=.seq [u1,u2].toArray } }:=I1.kept (t':=s1.toks) fun b o e=>Ai _ e
 rw[hw];refine Ad (Al ?_);show Ap (Aw X.prog X.w) X.A (do rule "assign.swapped-stores";let items ← unpackItems (.ref s1.heap.objs.size) 2 none;Ts [fun v=>Uo X.env y v,fun v=>Uo X.env x v] items.reverse;pure Flow.next) _ _ _
 refine Ad (Kf (Ad (unpackItems_tuple (items:=#[u1,u2]) (I.ok.hd hc) (Vv s1.heap _) fun h' hx'=>?_)));have I3:=I2.kept (h':=h') (t':=s1.toks) fun b o e=>hx' b o (Cc (Ax e)) e;show Ap _ _ (Ts [fun v=>Uo X.env y v,fun v=>Uo X.env x v] [u2,u1] >>= fun _=>pure Flow.next) _ _ _;refine Ad (Of (wpAny_bindName (j7 I3 hN hj (.inl hy) rw' (fun s2 I4=>?_) (.inr hy))));refine Of (wpAny_bindName (j7 I4 hN hi (.inl hx) rv (fun s3 I5=>Vu (Al ?_)) (.inr hx)));rw[List.set_comm _ _ (Ea hij)] at I5;exact⟨_,H1,I5,q1⟩
def OD (i:Ah)(te:TE)(ti:TIp):TS:=fun D σ H=>∃ x,σ[i]? = Aa (Aa x)∧te σ H fun y H1=>ti x y H1 fun z H2=>D.nx (σ.set i (Aa z)) H2
theorem R6 {i:Ah}{x:Au}{e:Bq}{te:TE}{op:Lw}{ti:TIp}{pos':Ez}(hN:X.N.Nodup)(hi:X.N[i]? = Aa x)(hx:Loc X.env.scope x)(he:PE X e te)(ho:PIp X op ti)(hf:X.fn x=true∨X.env.scope.names.lookup x=Aa .local:=by first|exact .inl rfl|exact .inr rfl|assumption) :
  PS X (.AugAssign (.Name x pos') op e pos) (OD i te ti):=by
 intro pins s σ H D I h;obtain⟨v,e1,h⟩:=h;obtain⟨m,hn,hl⟩:=I.loc;have vis:Vis X.env.scope x:=by rcases hx with k|k;exact .inl k;exact .inr (.inl k)
 obtain⟨u,r,l⟩:=hl i x v hi e1 vis;refine wpAny_AugAssign_Name ?_;have go:Ap (Aw X.prog X.w) X.A (eval e X.env) (fun w s₂=>Ap (Aw X.prog X.w) X.A (inplaceOp op u w) (fun r s₃=>Ap (Aw X.prog X.w) X.A (Yy X.env x r) (fun _=>SP X pins D .next) X.xe s₃) X.xe s₂) X.xe s:=by
  refine thn (he pins s σ H _ I h) fun w s1 ⟨y,H1,I1,r1,q1⟩=>?_;refine thn (ho pins s1 σ H1 v y u w _ I1 r r1 q1) fun z s2 ⟨zv,H2,I2,r2,q2⟩=>?_;exact j7 I2 hN hi hx r2 (fun s3 I3=>⟨_,H2,I3,q2⟩) hf
 rcases l with⟨hk,hm⟩|⟨hk,c,hc,hcell⟩
 ·exact Tg I.ok.kind hk hn hm go
 ·rcases hk with hk|hk
  ·exact Tq I.ok.kind hk hc hcell go
  ·rcases hx with k|k
   ·have:X.env.scope.names.lookup x=Aa .free:=hk
    rw[k] at this;cases this
   ·have:X.env.scope.names.lookup x=Aa .free:=hk
    rw[k] at this;cases this
def ipI (f:Aj→Aj→Aj):TIp:=fun x y H Q=>∃ i j,x=.int i∧y=.int j∧Q (.int (f i j)) H
theorem LY:PIp X .Add (ipI fun i j=>i+j):=by
 intro pins s σ H x y v u Q I r1 r2 h;obtain⟨i,j,e1,e2,q⟩:=h;subst e1;subst e2;obtain⟨t,rfl⟩:=r1;obtain⟨t',rfl⟩:=r2;exact iadd_int ⟨.int _,H,I.tok _,⟨_,rfl⟩,q⟩
end
structure It where
 go:Ah→Hp→Prop
 yld:Ah→Hp→V→Hp→Prop
 stop:Ah→Hp→Prop
def wM (X:Cx)(pins:Ab (Af × Co))(H:Hp)(b:Af):Prop:=
 H b=none∧b≠X.env.locals∧b ∉ X.fs∧(b∈X.ex∨X.s₀.heap.objs.size≤b)∧(∀ x c,X.env.cells.lookup x=Aa c→c≠b)∧∀ p∈X.pn++pins,p.1≠b
theorem Inv.fpOk {X:Cx}{pins:Ab (Af × Co)}{σ : St}{H H':Hp}{s:Ag}{b:Af}(I:Inv X pins σ H s)(hb:s.heap.objs.size≤b)(hn:H' b=none):wM X pins H' b:=by
 refine⟨hn,Hx (Bm I.lt hb),I.nofs hb,.inr (Dy I.sz hb),fun x c e z=>?_,fun p hp z=>?_⟩
 ·obtain⟨v,q⟩:=I.cell x c e
  exact absurd (Bm q.lt (by rw[z];exact hb)) (DL _)
 ·exact absurd (Bm (Ax (I.pin p hp).1) (by rw[z];exact hb)) (DL _)
structure Turn (P:Bh)(w:Bv)(K:Ak)(tg:Bq)(J:It)(fp:Ab Af)(it:Af)(tn:Ah→Bi→Prop):Prop where
 mem:it∈fp
 obj:∀ i h,tn i h→∀ b∈fp,∃ o,h.get? b=Aa o∧∀ v,o.data≠.cell v
 keep:∀ i h h',tn i h→(∀ b∈fp,∀ o,h.get? b=Aa o→h'.get? b=Aa o)→tn i h'
 item:∀ (X:Cx),X.prog=P→X.w=w→X.K=K→X.calm=true→∀ (i:Ah) (pins:Ab (Af × Co)) (s:Ag) (σ : St) (H:Hp) (E:Ac→Ag→Prop),Inv X pins σ H s→(∀ b∈fp,wM X pins H b)→tn i s.heap→J.go i H →
  Ap (Aw P w) X.A (Nb (.ref it)) (fun r s1=>∃ u,r=Aa u ∧
   Ap (Aw P w) X.A (IN tg (.ref it) u) (fun _ s2=>∃ x H',Inv X pins σ H' s2∧qI x u∧J.yld i H x H'∧tn (i+1) s2.heap∧∀ b∈fp,H' b=none) E s1) E s
 done:∀ (X:Cx),X.prog=P→X.w=w→X.K=K→X.calm=true→∀ (i:Ah) (pins:Ab (Af × Co)) (s:Ag) (σ : St) (H:Hp) (E:Ac→Ag→Prop),Inv X pins σ H s→(∀ b∈fp,wM X pins H b)→tn i s.heap→J.stop i H →
  Ap (Aw P w) X.A (Nb (.ref it)) (fun r s1=>r=none∧Inv X pins σ H s1) E s
 self:∀ (A:Bo) (i:Ah) (s:Ag) (Q:Ac→Ag→Prop) (E:Ac→Ag→Prop),tn i s.heap→Q (.ref it) s→Ap (Aw P w) A (Oo (.ref it)) Q E s
abbrev TI:=St→Hp→(It→Hp→Prop)→Prop
inductive PIE (X:Cx)(pins:Ab (Af × Co))(σ : St)(tg:Bq)(R:It→Hp→Prop)(itv:Ac)(s2:Ag):Prop
 |mk (it:Af) (fp:Ab Af) (tn:Ah→Bi→Prop) (J:It) (H':Hp) (e:itv=.ref it) (I:Inv X pins σ H' s2) (t:Turn X.prog X.w X.K tg J fp it tn) (z:tn 0 s2.heap) (f:∀ b∈fp,wM X pins H' b) (q:R J H'):PIE X pins σ tg R itv s2
def PI (X:Cx)(tg iter:Bq)(wi:TI):Prop:=
 ∀ (pins:Ab (Af × Co)) (s:Ag) (σ : St) (H:Hp) (R:It→Hp→Prop),Inv X pins σ H s→wi σ H R →
  Ap (Aw X.prog X.w) X.A (eval iter X.env) (fun v s1=>Ap (Aw X.prog X.w) X.A (Oo v) (PIE X pins σ tg R) X.xe s1) X.xe s
theorem QR {M:Ma}{A:Bo}{E:Ac→Ag→Prop}{s:Ag}{tg:Bq}{it:Af}{u:Ac}{o:Co}{n:Du}{vs:Bk Ac}{Q:Rm→Ag→Prop}(ho:s.heap.get? it=Aa o)(hc:o.cls=.type n)(hd:o.data=.fields vs)
    (hn:["enumerate","zip","dict_itemiterator","dict_reverseitemiterator","odict_iterator","itertools.zip_longest","itertools.pairwise"].contains n=false) (hQ:Q () s):Ap M A (IN tg (.ref it) u) Q E s:=by
  unfold IN;cases tg <;> first
    |exact Al hQ
    |(cases u <;> first
        |exact Al hQ
        | (refine Ad (wpAny_load ho ?_)
           rw[hc,hd];show Ap M A (if (["enumerate","zip","dict_itemiterator","dict_reverseitemiterator","odict_iterator","itertools.zip_longest","itertools.pairwise"].contains n&&vs[0]? == Aa (Sl _))=true then _ else _) Q E s
           rw[Bc (by intro h;rw[hn,Nu] at h;cases h)]
           exact Al hQ))
def Itl (K:Ak)(a:Af):It:=
 ⟨fun i H=>∃ xs x,SqL K H a xs∧xs[i]? = Aa x,fun i H x H'=>H'=H∧∀ xs,SqL K H a xs→xs[i]? = Aa x,fun i H=>∃ xs,SqL K H a xs∧xs.length≤i⟩
def Itt (K:Ak)(a:Af):It:=
 ⟨fun i H=>∃ xs x,SqT K H a xs∧xs[i]? = Aa x,fun i H x H'=>H'=H∧∀ xs,SqT K H a xs→xs[i]? = Aa x,fun i H=>∃ xs,SqT K H a xs∧xs.length≤i⟩
def Itr (lo:Aj)(n:Ah):It:=⟨fun i _=>i<n,fun i H x H'=>H'=H∧x=.int (lo+i),fun i _=>n≤i⟩
theorem sX {P:Bh}{w:Bv}{K:Ak}{tg:Bq}(a it:Af):Turn P w K tg (Itl K a) [it] it (fun i h=>h.IsListIter it a i) where
 mem:=by simp
 obj:=fun i h st b hb=>by
  have e:b=it:=by simpa using hb
  subst e;obtain⟨o,e,c,d⟩:=st;exact⟨o,e,fun v z=>by rw[d] at z;cases z⟩
 keep:=fun i h h' st k=>st.at fun o e=>k it (by simp) o e
 item:=by
  intro X hP hw hK hc i pins s σ H E I hf st hg;subst hP hw hK;obtain⟨xs,x,hq,hx⟩:=hg;obtain⟨its,rv,p,hz⟩:=I.list hq;obtain⟨u,hu,ru⟩:=rv.get hx;obtain⟨f0,f1,f2,f3,f4,f5⟩:=hf it (by simp)
  refine wpAny_pyNext_list_item st p.isList (x:=u) (by simpa using hu) fun h' st' sb=>?_
  have I1:Inv X pins σ H { s with heap:=h' }:=I.turned (t':=s.toks) (fun b o hb e=>(sb.2 b hb).trans e) f0 f1 f3 f4 f5
  obtain⟨o,e,c,d⟩:=id st';exact⟨u,rfl,QR (s:={ s with heap:=h' }) e c d (by decide) ⟨x,H,I1,ru,⟨rfl,fun ys hy=>by rw[I.list_inj hy hq];exact hx⟩,st',fun b hb=>(hf b hb).1⟩⟩
 done:=by
  intro X hP hw hK hc i pins s σ H E I hf st hg;subst hP hw hK;obtain⟨xs,hq,hx⟩:=hg;obtain⟨its,rv,p,hz⟩:=I.list hq;obtain⟨f0,f1,f2,f3,f4,f5⟩:=hf it (by simp)
  have hl:=rv.length;exact wpAny_pyNext_list_end (I.ok.hd hc) st p.isList (by simp;omega) fun h' eb=>⟨rfl,I.turned (t':=s.toks) (fun b o hb e=>eb b o hb e) f0 f1 f3 f4 f5⟩
 self:=fun _ _ _ _ _ st h=>wpAny_pyIter_listiter st h
theorem ZR {P:Bh}{w:Bv}{K:Ak}{tg:Bq}(a it:Af):Turn P w K tg (Itt K a) [it] it (fun i h=>h.IsTupleIter it a i) where
 mem:=by simp
 obj:=fun i h st b hb=>by
  have e:b=it:=by simpa using hb
  subst e;obtain⟨o,e,c,d⟩:=st;exact⟨o,e,fun v z=>by rw[d] at z;cases z⟩
 keep:=fun i h h' st k=>st.at fun o e=>k it (by simp) o e
 item:=by
  intro X hP hw hK hc i pins s σ H E I hf st hg;subst hP hw hK;obtain⟨xs,x,hq,hx⟩:=hg;obtain⟨its,rv,p,hz⟩:=I.tuple hq;obtain⟨u,hu,ru⟩:=rv.get hx;obtain⟨f0,f1,f2,f3,f4,f5⟩:=hf it (by simp)
  refine wpAny_pyNext_tuple_item st (show s.heap.IsTuple a its.toArray from p) (x:=u) (by simpa using hu) fun h' st' sb=>?_
  have I1:Inv X pins σ H { s with heap:=h' }:=I.turned (t':=s.toks) (fun b o hb e=>(sb.2 b hb).trans e) f0 f1 f3 f4 f5
  obtain⟨o,e,c,d⟩:=id st';exact⟨u,rfl,QR (s:={ s with heap:=h' }) e c d (by decide) ⟨x,H,I1,ru,⟨rfl,fun ys hy=>by rw[I.tuple_inj hy hq];exact hx⟩,st',fun b hb=>(hf b hb).1⟩⟩
 done:=by
  intro X hP hw hK hc i pins s σ H E I hf st hg;subst hP hw hK;obtain⟨xs,hq,hx⟩:=hg;obtain⟨its,rv,p,hz⟩:=I.tuple hq;obtain⟨f0,f1,f2,f3,f4,f5⟩:=hf it (by simp)
  have hl:=rv.length;exact wpAny_pyNext_tuple_end (I.ok.hd hc) st (show s.heap.IsTuple a its.toArray from p) (by simp;omega) fun h' eb=>⟨rfl,I.turned (t':=s.toks) (fun b o hb e=>eb b o hb e) f0 f1 f3 f4 f5⟩
 self:=fun _ _ _ _ _ st h=>wpAny_pyIter_tupleiter st h
theorem ZQ {P:Bh}{w:Bv}{K:Ak}{tg:Bq}(it:Af)(lo:Aj)(n:Ah):Turn P w K tg (Itr lo n) [it] it (fun i h=>IsRangeIter h it (lo+(i:Ah)*1) ((n:Aj)-(i:Ah)) 1) where
 mem:=by simp
 obj:=fun i h st b hb=>by
  have e:b=it:=by simpa using hb
  subst e;exact⟨_,st,fun v z=>by
   have z':Data.fields _=Data.cell v:=z;cases z'⟩
 keep:=fun i h h' st k=>k it (by simp) _ st
 item:=by
  intro X hP hw hK hc i pins s σ H E I hf st hg;subst hP hw hK;obtain⟨f0,f1,f2,f3,f4,f5⟩:=hf it (by simp)
  have W:=Walks.range (prog:=X.prog) (w:=X.w) (I.ok.hd hc) it lo 1 n;refine W.item i s _ _ hg st fun v h' tk hv st' kk=>?_;obtain⟨t,rfl⟩:=hv;have I1:Inv X pins σ H { s with heap:=h',toks:=tk }:=I.turned (fun b o hb e=>kk b o (by simpa using hb) e) f0 f1 f3 f4 f5
  refine⟨_,rfl,QR (s:={ s with heap:=h',toks:=tk }) (n:="range_iterator") st' rfl rfl (by decide) ⟨.int (lo+i),H,I1,⟨t,?_⟩,⟨rfl,rfl⟩,st',fun b hb=>(hf b hb).1⟩⟩
  rw[Int.mul_one]
 done:=by
  intro X hP hw hK hc i pins s σ H E I hf st hg;subst hP hw hK;obtain⟨f0,f1,f2,f3,f4,f5⟩:=hf it (by simp)
  exact wpAny_pyNext_range_end (I.ok.hd hc) st (by have:n≤i:=hg;omega) fun h' eb=>⟨rfl,I.turned (t':=s.toks) (fun b o hb e=>eb b o hb e) f0 f1 f3 f4 f5⟩
 self:=fun _ _ _ _ _ st h=>wpAny_pyIter_rangeiter st h
end _L
namespace _L
open PySem PySem.Spec PyProof.Rows
section
variable {X:Cx}{tg:Bq}
theorem cV {pins:Ab (Af × Co)}{σ : St}{H:Hp}{s:Ag}{R:It→Hp→Prop}{E:Ac→Ag→Prop}{lo hi:Aj}{t u v:Sk}{tk:Ah}(I:Inv X pins σ H s)(h1 : -(2 ^ 62)≤lo)(h2:lo<2 ^ 62)(h3 : -(2 ^ 62)≤hi)(h4:hi<2 ^ 62)
  (q:R (Itr lo (hi-lo).toNat) H):Ap (Aw X.prog X.w) X.A (Oo (.ref s.heap.objs.size)) (PIE X pins σ tg R) E { s with heap:=s.heap.push { cls:=.type "range",data:=.fields #[.int lo t,.int hi u,.int 1 v] },toks:=tk }:=by
 refine wpAny_pyIter_range (IsRange.new ..) (small_one h1 h2 h3 h4) ?_;have I1:Inv X pins σ H { s with heap:=s.heap.push { cls:=.type "range",data:=.fields #[.int lo t,.int hi u,.int 1 v] },toks:=tk }:=I.kept fun b o e=>Ai _ e
 refine⟨(s.heap.push { cls:=.type "range",data:=.fields #[.int lo t,.int hi u,.int 1 v] }).objs.size,[(s.heap.push { cls:=.type "range",data:=.fields #[.int lo t,.int hi u,.int 1 v] }).objs.size],_,_,H,rfl,
  I1.kept (t':=tk) fun b o e=>Ai _ e,ZQ _ lo (hi-lo).toNat,?_,fun b hb=>?_,q⟩
 ·have e1:lo+((0:Ah):Aj)*1=lo:=by simp
  have e2:(((hi-lo).toNat:Ah):Aj)-((0:Ah):Aj)=Zo lo hi 1:=by rw[rangeSize_one];split <;> omega
  show IsRangeIter _ _ (lo+((0:Ah):Aj)*1) ((((hi-lo).toNat:Ah):Aj)-((0:Ah):Aj)) 1;rw[e1,e2];exact Az _ rfl
 ·have e:b=(s.heap.push { cls:=.type "range",data:=.fields #[.int lo t,.int hi u,.int 1 v] }).objs.size:=by simpa using hb
  subst e;exact I1.fpOk (Bd _) (I1.hok.fresh (Bd _))
def OE (wi:TI)(g:TG)(tb:TS):TS:=fun D σ H=>wi σ H fun J H1=>∃ W:Ah→Ah→St→Hp→Prop,(∃ m,W 0 m σ H1)∧∀ i m σ H,W i m σ H →
 (J.stop i H∧D.nx σ H)∨(J.go i H∧∃ N:St→Hp→Prop,(∀ σ' H',N σ' H'→∃ m',m'<m∧W (i+1) m' σ' H')∧∀ x H',J.yld i H x H'→g x σ H' fun σ2 H2=>tb { D with nx:=N,ct:=N,bk:=D.nx } σ2 H2)
def uK (fp:Ab Af)(h:Bi):Ab (Af × Co):=fp.filterMap fun b=>(h.get? b).map fun o=>(b,o)
theorem jP {fp:Ab Af}{h:Bi}{b:Af}{o:Co}(hb:b∈fp)(e:h.get? b=Aa o):(b,o)∈uK fp h:=Iw.mpr ⟨b,hb,by rw[e];rfl⟩
theorem sG {fp:Ab Af}{h:Bi}{p:Af × Co}(hp:p∈uK fp h):p.1∈fp∧h.get? p.1=Aa p.2:=by
 obtain⟨b,hb,e⟩:=Iw.mp hp;cases q:h.get? b with
 |none=>rw[q] at e;cases e
 |some o =>
  rw[q] at e;have e':(b,o)=p:=Cp e;subst e';exact⟨hb,q⟩
theorem Inv.pinned {pins:Ab (Af × Co)}{σ : St}{H:Hp}{s:Ag}{fp:Ab Af}(I:Inv X pins σ H s)(hf:∀ b∈fp,wM X pins H b)(ho:∀ b∈fp,∃ o,s.heap.get? b=Aa o∧∀ v,o.data≠.cell v):Inv X (pins++uK fp s.heap) σ H s:=
 I.pins_of fun p hp=>(Cu.mp hp).elim (fun z=>I.pin p (Ce _ z)) fun z=>by
  obtain⟨hb,e⟩:=sG z;obtain⟨f0,f1,f2,_⟩:=hf p.1 hb;obtain⟨o,e',d⟩:=ho p.1 hb;rw[e] at e';cases e';exact⟨e,f0,f1,f2,d⟩
theorem Inv.unpinned {pins pl:Ab (Af × Co)}{σ : St}{H:Hp}{s:Ag}(I:Inv X (pins++pl) σ H s):Inv X pins σ H s:=I.pins_of fun p hp=>I.pin p (Ce _ (Dq _ hp))
inductive ForI (X:Cx)(pins:Ab (Af × Co))(fp:Ab Af)(tn:Ah→Bi→Prop)(W:Ah→Ah→St→Hp→Prop)(n:Ah)(s':Ag):Prop
 |mk (i:Ah) (σ' : St) (H':Hp) (I:Inv X pins σ' H' s') (t:tn i s'.heap) (f:∀ b∈fp,H' b=none) (w:W i n σ' H'):ForI X pins fp tn W n s'
theorem WZ {iter:Bq}{body:Ab Eu}{wi:TI}{g:TG}{tb:TS}{pos:Ez}(hp:Pa (Aw X.prog X.w) X.A X.env X.xe)(hc:X.calm=true)(hi:PI X tg iter wi)(hg:PG X tg g)(hb:PSs X body tb)
  (hs:∀ x,Ei iter X.env x=pure x:=by intro _;rfl):PS X (.For tg iter body [] pos) (OE wi g tb):=by
 intro pins s σ H D I h;refine wpAny_For (thn (hi pins s σ H _ I h) fun v s1 h1=>thn h1 fun itv s2 h2=>?_) hs;obtain⟨it,fp,tn,J,H2,e,I2,T,st2,f2,W,⟨m0,w0⟩,turn⟩:=h2;subst e;have stat:∀ {H':Hp},(∀ b∈fp,H' b=none)→∀ b∈fp,wM X pins H' b:=fun hn b hb=>⟨hn b hb,(f2 b hb).2⟩;refine codeAny_forLoop_any (ForI X pins fp tn W) ?_ m0 ⟨0,σ,H2,I2,st2,fun b hb=>(f2 b hb).1,w0⟩;rintro n s3 ⟨i,σ3,H3,I3,st3,fr3,w3⟩;rcases turn i n σ3 H3 w3 with⟨stop,qn⟩|⟨go,N,hN,step⟩
 ·refine Kk hp (thn (T.done X rfl rfl rfl hc i pins s3 σ3 H3 X.xe I3 (stat fr3) st3 stop) fun r s4 ⟨hr,I4⟩=>?_)
  subst hr;exact Mv ⟨σ3,H3,I4,qn⟩
 ·refine Kk hp (thn (T.item X rfl rfl rfl hc i pins s3 σ3 H3 X.xe I3 (stat fr3) st3 go) fun r s4 ⟨u,hr,h4⟩=>?_)
  subst hr;refine Kk hp (thn h4 fun _ s5 ⟨x,H5,I5,r5,y5,st5,fr5⟩=>?_);have I5':=I5.pinned (stat fr5) (T.obj _ _ st5);refine Kk hp (thn (hg _ s5 σ3 H5 x u _ I5' r5 (step x H5 y5)) fun _ s6 ⟨σ6,H6,I6,q6⟩=>?_);refine Kk hp (thn (hb _ s6 σ6 H6 _ I6 q6) fun f s7 q7=>?_);have again:∀ {σ7:St} {H7:Hp},Inv X (pins++uK fp s5.heap) σ7 H7 s7→N σ7 H7→∃ m,m<n∧ForI X pins fp tn W m s7:=fun {σ7 H7} I7 n7=>by
   obtain⟨m',hm,w7⟩:=hN σ7 H7 n7;refine⟨m',hm,i+1,σ7,H7,I7.unpinned,T.keep _ _ _ st5 fun b hb o e=>(I7.pin (b,o) (Ce _ (Ce _ (jP hb e)))).1,fun b hb=>?_,w7⟩;obtain⟨o,e,d⟩:=T.obj _ _ st5 b hb;exact(I7.pin (b,o) (Ce _ (Ce _ (jP hb e)))).2.1
  cases f with
  |next=>obtain⟨σ7,H7,I7,n7⟩:=q7;exact again I7 n7
  |cont=>obtain⟨σ7,H7,I7,n7⟩:=q7;exact again I7 n7
  |brk=>obtain⟨σ7,H7,I7,q7⟩:=q7;exact⟨σ7,H7,I7.unpinned,q7⟩
  |ret v=>obtain⟨x7,σ7,H7,I7,r7,q7⟩:=q7;exact⟨x7,σ7,H7,I7.unpinned,r7,q7⟩
end
end _L
namespace _L
open PySem PySem.Spec PyProof.Rows
abbrev R2:=V→V→Hp→VK→Prop
def OpR (X:Cx)(f:Ac→Ac→Mp Ac)(r:R2):Prop:=
 ∀ (pins:Ab (Af × Co)) (s:Ag) (σ : St) (H:Hp) (x y:V) (v u:Ac) (Q:VK),Inv X pins σ H s→qI x v→qI y u→r x y H Q →
  Ap (Aw X.prog X.w) X.A (f v u) (EP X pins σ Q) X.xe s
def UnR (X:Cx)(f:Ac→Mp Ac)(r:V→Hp→VK→Prop):Prop:=
 ∀ (pins:Ab (Af × Co)) (s:Ag) (σ : St) (H:Hp) (x:V) (v:Ac) (Q:VK),Inv X pins σ H s→qI x v→r x H Q →
  Ap (Aw X.prog X.w) X.A (f v) (EP X pins σ Q) X.xe s
def kR (X:Cx)(f:Ac)(r:Ab V→Hp→VK→Prop):Prop:=
 ∀ (pins:Ab (Af × Co)) (s:Ag) (σ : St) (H:Hp) (xs:Ab V) (us:Ab Ac) (Q:VK),Inv X pins σ H s→qN xs us→r xs H Q →
  Ap (Aw X.prog X.w) X.A (call f us) (EP X pins σ Q) X.xe s
def AW (X:Cx)(r:V→Hp→(As→Hp→Prop)→Prop):Prop:=
 ∀ (pins:Ab (Af × Co)) (s:Ag) (σ : St) (H:Hp) (x:V) (v:Ac) (Q:As→Hp→Prop),Inv X pins σ H s→qI x v→r x H Q →
  Ap (Aw X.prog X.w) X.A (truthy v) (TP X pins σ Q) X.xe s
def tOp (r:R2)(ta tb:TE):TE:=fun σ H Q=>ta σ H fun x H1=>tb σ H1 fun y H2=>r x y H2 Q
def rI (C:Aj→Aj→Prop)(g:Aj→Aj→V):R2:=fun x y H Q=>∃ i j,x=.int i∧y=.int j∧C i j∧Q (g i j) H
def rI0 (g:Aj→Aj→V):R2:=fun x y H Q=>∃ i j,x=.int i∧y=.int j∧Q (g i j) H
def rU (g:Aj→V):V→Hp→VK→Prop:=fun x H Q=>∃ i,x=.int i∧Q (g i) H
section
variable {X:Cx}{a b c:Bq}{ta tb tc:TE}{pos:Ez}
theorem IB (ha:PE X a ta)(hb:PE X b tb){pins:Ab (Af × Co)}{s:Ag}{σ : St}{H:Hp}{R:V→V→Hp→Prop}(I:Inv X pins σ H s)
  (h:ta σ H fun x H1=>tb σ H1 fun y H2=>R x y H2) {Q:Ac→Ag→Prop} {f:Ac→Ac→Mp Ac}
  (hf:∀ v u s2 x y H2,Inv X pins σ H2 s2→qI x v→qI y u→R x y H2→Ap (Aw X.prog X.w) X.A (f v u) Q X.xe s2) :
  Ap (Aw X.prog X.w) X.A (eval a X.env) (fun v s₁=>Ap (Aw X.prog X.w) X.A (eval b X.env) (fun u s₂=>Ap (Aw X.prog X.w) X.A (f v u) Q X.xe s₂) X.xe s₁) X.xe s:=by
 refine thn (ha pins s σ H _ I h) fun v s1 ⟨x,H1,I1,r1,q1⟩=>?_;refine thn (hb pins s1 σ H1 _ I1 q1) fun u s2 ⟨y,H2,I2,r2,q2⟩=>?_;exact hf v u s2 x y H2 I2 r1 r2 q2
theorem opI {f:Ac→Ac→Mp Ac}{C:Aj→Aj→Prop}{g:Aj→Aj→Aj}
  (rule:∀ (i j:Aj) (t u:Sk) (s:Ag) (Q:Ac→Ag→Prop) (E:Ac→Ag→Prop),C i j→Q (.int (g i j) s.toks) { s with toks:=s.toks+1 } → Ap (Aw X.prog X.w) X.A (f (.int i t) (.int j u)) Q E s) :
  OpR X f (rI C fun i j=>.int (g i j)):=by
 intro pins s σ H x y v u Q I rx ry h;obtain⟨i,j,rfl,rfl,hc,q⟩:=h;obtain⟨t,rfl⟩:=rx;obtain⟨t',rfl⟩:=ry;exact rule i j t t' s _ _ hc ⟨.int (g i j),H,I.tok _,⟨_,rfl⟩,q⟩
theorem SJ {f:Ac→Ac→Mp Ac}{g:Aj→Aj→Aj}
  (rule:∀ (i j:Aj) (t u:Sk) (s:Ag) (Q:Ac→Ag→Prop) (E:Ac→Ag→Prop),Q (.int (g i j) s.toks) { s with toks:=s.toks+1 } → Ap (Aw X.prog X.w) X.A (f (.int i t) (.int j u)) Q E s) :
  OpR X f (rI0 fun i j=>.int (g i j)):=by
 intro pins s σ H x y v u Q I rx ry h;obtain⟨i,j,rfl,rfl,q⟩:=h;obtain⟨t,rfl⟩:=rx;obtain⟨t',rfl⟩:=ry;exact rule i j t t' s _ _ ⟨.int (g i j),H,I.tok _,⟨_,rfl⟩,q⟩
theorem Z9 {f:Ac→Ac→Mp Ac}{g:Aj→Aj→As}
  (rule:∀ (i j:Aj) (t u:Sk) (s:Ag) (Q:Ac→Ag→Prop) (E:Ac→Ag→Prop),Q (.bool (g i j)) s→Ap (Aw X.prog X.w) X.A (f (.int i t) (.int j u)) Q E s) :
  OpR X f (rI0 fun i j=>.bl (g i j)):=by
 intro pins s σ H x y v u Q I rx ry h;obtain⟨i,j,rfl,rfl,q⟩:=h;obtain⟨t,rfl⟩:=rx;obtain⟨t',rfl⟩:=ry;exact rule i j t t' s _ _ ⟨.bl (g i j),H,I,rfl,q⟩
def AU (i j:Aj):Prop:=0<j∧j<1073741824
def AV (i j:Aj):Prop:=0≤j∧j≤1000000∧i.natAbs<2 ^ 64
def V6 (i j:Aj):Prop:=(-(2 ^ 64)<i∧i<2 ^ 64)∨(-(2 ^ 64)<j∧j<2 ^ 64)
theorem V6.ok {i j:Aj}(h:V6 i j):IntMulOk i j:=by
 rcases h with⟨h1,h2⟩|⟨h1,h2⟩
 ·exact .of_left (intBits_le_64 h1 h2)
 ·exact .of_right (intBits_le_64 h1 h2)
theorem SK:OpR X (Eo .Add) (rI0 fun i j=>.int (i+j)):=SJ fun _ _ _ _ _ _ _ q=>add_int q
theorem SQ:OpR X (Eo .Sub) (rI0 fun i j=>.int (i-j)):=SJ fun _ _ _ _ _ _ _ q=>sub_int q
theorem SN:OpR X (Eo .Mult) (rI V6 fun i j=>.int (i*j)):=opI fun _ _ _ _ _ _ _ hc q=>mul_int q hc.ok
theorem FR:OpR X (Eo .FloorDiv) (rI AU fun i j=>.int (i/j)):=opI fun i j _ _ _ _ _ hc q=>by
 have h1:(0:Aj)<j:=hc.1;have h2:j<1073741824:=hc.2;exact floordiv_int om (by rw[Int.fdiv_eq_ediv_of_nonneg i om];exact q) (.inl (PyProof.noPylong_small om))
theorem SM:OpR X (Eo .Mod) (rI (fun _ j=>0<j) fun i j=>.int (i % j)):=opI fun i j _ _ _ _ _ hc q=>by
 have h1:(0:Aj)<j:=hc;exact mod_int' om (by rw[Int.fmod_eq_emod_of_nonneg i om];exact q)
theorem SO:OpR X (Eo .Pow) (rI AV fun i j=>.int (i ^ j.toNat)):=opI fun _ _ _ _ _ _ _ hc q=>pow_int_small hc.1 hc.2.1 hc.2.2 q
theorem unI {f:Ac→Mp Ac}{g:Aj→Aj}
  (rule:∀ (i:Aj) (t:Sk) (s:Ag) (Q:Ac→Ag→Prop) (E:Ac→Ag→Prop),Q (.int (g i) s.toks) { s with toks:=s.toks+1 } → Ap (Aw X.prog X.w) X.A (f (.int i t)) Q E s) :
  UnR X f (rU fun i=>.int (g i)):=by
 intro pins s σ H x v Q I rx h;obtain⟨i,rfl,q⟩:=h;obtain⟨t,rfl⟩:=rx;exact rule i t s _ _ ⟨.int (g i),H,I.tok _,⟨_,rfl⟩,q⟩
theorem EH:UnR X (Wt .USub) (rU fun i=>.int (-i)):=unI fun _ _ _ _ _ q=>neg_int q
end
section
variable {X:Cx}{a b c:Bq}{ta tb tc:TE}{pos:Ez}
theorem LP {pins:Ab (Af × Co)}{σ : St}{H:Hp}{s:Ag}{Q:VK}{k k':As}(I:Inv X pins σ H s)(q:Q (.bl k) H)(e:k=k'):EP X pins σ Q (.bool k') s:=by
 subst e;exact⟨.bl k,H,I,rfl,q⟩
theorem CJ:OpR X (Cw .Lt) (rI0 fun i j=>.bl (decide (i<j))):=Z9 fun _ _ _ _ _ _ _ q=>lt_int q
theorem CI:OpR X (Cw .LtE) (rI0 fun i j=>.bl (decide (i≤j))):=Z9 fun _ _ _ _ _ _ _ q=>le_int q
theorem CH:OpR X (Cw .Gt) (rI0 fun i j=>.bl (decide (j<i))):=Z9 fun _ _ _ _ _ _ _ q=>gt_int q
theorem CG:OpR X (Cw .GtE) (rI0 fun i j=>.bl (decide (j≤i))):=Z9 fun _ _ _ _ _ _ _ q=>ge_int q
theorem SL:OpR X (Cw .Is) (fun x y H Q=>y=.non∧Q (.bl (decide (x=.non))) H):=by
 intro pins s σ H x y v u Q I rx ry h;obtain⟨rfl,q⟩:=h;cases ry;refine is_none_gen (LP I q ?_);cases x <;> first
  |(cases rx;rfl)
  |(obtain⟨t,rfl⟩:=rx;rfl)
theorem OpR.or {f:Ac→Ac→Mp Ac}{r r':R2}(h:OpR X f r)(h':OpR X f r'):OpR X f (fun x y H Q=>r x y H Q∨r' x y H Q):=by
 intro pins s σ H x y v u Q I rx ry q;rcases q with q|q
 ·exact h pins s σ H x y v u Q I rx ry q
 ·exact h' pins s σ H x y v u Q I rx ry q
theorem gO (b:Bq){op:Sm}(h:op≠.In:=by decide)(h2:op≠.NotIn:=by decide):Kg op b=false:=by
 have e1:(op == CmpOp.In)=false:=by cases op <;> first|rfl|exact absurd rfl h
 have e2:(op == CmpOp.NotIn)=false:=by cases op <;> first|rfl|exact absurd rfl h2
 cases b <;> simp[Kg,e1,e2]
def Q4 (K:Ak)(x:V)(H:Hp)(k:As):Prop:=
 match x with
 |.non=>k=false
 |.bl b=>k=b
 |.int i=>k=(i != 0)
 |.str y=>y.length≤sizeLine∧k=((y.length:Aj) != 0)
 |.byt y=>y.size≤sizeLine∧k=((y.size:Aj) != 0)
 |.ref p=>(∃ xs,SqL K H p xs∧k=!xs.isEmpty)∨(∃ xs,SqT K H p xs∧k=!xs.isEmpty)∨∃ kvs,H p=Aa (.dK kvs)∧k=!kvs.isEmpty
 |_=>Fc
theorem QX {κ : Type}{kvs:Ab (κ × V)}{vs:Ab (κ × Ac)}(r:KV kvs vs):(!vs.isEmpty)=!kvs.isEmpty:=by
 cases r <;> rfl
theorem tL {xs:Ab V}{its:Ab Ac}(r:qN xs its):(!its.toArray.isEmpty)=!xs.isEmpty:=by
 cases r <;> simp
theorem bB:(sizeLine:Ah)<2 ^ 63:=by rw[Fk];decide
theorem bL:AW X (fun x H Q=>∃ k,Q4 X.K x H k∧Q k H):=by
 intro pins s σ H x v Q I rx h;obtain⟨k,e,q⟩:=h;have hl:=bB;have hs:sizeLine=16777216:=Fk;cases x with
 |non =>
  cases rx;have e':k=false:=e;subst e';exact truthy_none ⟨H,I,q⟩
 |bl b =>
  cases rx;have e':k=b:=e;subst e';exact Pb ⟨H,I,q⟩
 |int i =>
  obtain⟨t,rfl⟩:=rx;have e':k=(i != 0):=e;subst e';exact PySem.P.truthy_int ⟨H,I,q⟩
 |str y =>
  obtain⟨t,rfl⟩:=rx;obtain⟨hy,e'⟩:y.length≤sizeLine∧k=((y.length:Aj) != 0):=e;subst e';exact PySem.P.truthy_str om ⟨H,I.tok _,q⟩
 |byt y =>
  obtain⟨t,rfl⟩:=rx;obtain⟨hy,e'⟩:y.size≤sizeLine∧k=((y.size:Aj) != 0):=e;subst e';exact PySem.W.truthy_bytes om ⟨H,I.tok _,q⟩
 |ref p =>
  cases rx;have e':(∃ xs,SqL X.K H p xs∧k=!xs.isEmpty)∨(∃ xs,SqT X.K H p xs∧k=!xs.isEmpty)∨∃ kvs,H p=Aa (.dK kvs)∧k=!kvs.isEmpty:=e;rcases e' with⟨xs,hx,e'⟩|⟨xs,hx,e'⟩|⟨kvs,hx,e'⟩
  ·subst e'
   obtain⟨its,r,pl,hz⟩:=I.list hx;have hlen:=r.length;exact wpAny_truthy_list pl.isList (by simp only[Be];omega) ⟨H,I.tok _,by rw[tL r];exact q⟩
  ·subst e'
   obtain⟨its,r,pl,hz⟩:=I.tuple hx;have hlen:=r.length;exact truthy_tuple pl (by simp only[Be];omega) ⟨H,I.tok _,by rw[tL r];exact q⟩
  ·subst e'
   obtain⟨hz,hS,vs,r,m⟩:kvs.length≤sizeLine∧(p == Ih)=false∧∃ vs,KV kvs vs∧s.heap.DictOf (x5 X.prog X.w) p vs:=I.hok p _ hx;have hlen:kvs.length=vs.length:=Paired.length r;exact wpAny_truthy_dict hS m om ⟨H,I.tok _,by rw[QX r];exact q⟩
 |_=>exact(show Fc from e).elim
theorem ZC:OpR X (Eo .Add) (fun x y H Q=>∃ i j,x=.str i∧y=.str j∧i.length+j.length≤sizeLine∧Q (.str (i++j)) H):=by
 intro pins s σ H x y v u Q I rx ry h;obtain⟨i,j,rfl,rfl,hz,q⟩:=h;obtain⟨t,rfl⟩:=rx;obtain⟨t',rfl⟩:=ry;exact add_str (fun t' tk=>⟨.str (i++j),H,I.tok _,⟨_,rfl⟩,q⟩) hz
theorem gF {x:V}{us:Ab Ac}(r:qN [x] us):∃ u,us=[u]∧qI x u:=by
 cases r with
 |cons r1 r2=>cases r2;exact⟨_,rfl,r1⟩
theorem ZS {x y:V}{us:Ab Ac}(r:qN [x,y] us):∃ u w',us=[u,w']∧qI x u∧qI y w':=by
 cases r with
 |cons r1 r2 =>
  cases r2 with
  |cons r3 r4=>cases r4;exact⟨_,_,rfl,r1,r3⟩
theorem dJ:kR X (.type "int") (fun xs H Q=>(∃ i,xs=[.int i]∧Q (.int i) H)∨∃ k,xs=[.bl k]∧Q (.int (if k then 1 else 0)) H):=by
 intro pins s σ H xs us Q I r h;rcases h with⟨i,rfl,q⟩|⟨k,rfl,q⟩
 ·obtain⟨u,rfl,t,rfl⟩:=gF r
  exact call_int_int ⟨.int i,H,I,⟨_,rfl⟩,q⟩
 ·obtain⟨u,rfl,r1⟩:=gF r
  cases r1;exact call_int_bool ⟨.int (if k then 1 else 0),H,I.tok _,⟨_,rfl⟩,q⟩
def TR (K:Ak)(x:V)(H:Hp)(n:Ah):Prop:=
 match x with
 |.str y=>y.length≤sizeLine∧n=y.length
 |.byt y=>y.size≤sizeLine∧n=y.size
 |.ref p=>(∃ xs,SqL K H p xs∧n=xs.length)∨∃ xs,SqT K H p xs∧n=xs.length
 |_=>Fc
theorem VE:kR X (.builtin "len") (fun xs H Q=>∃ x n,xs=[x]∧TR X.K x H n∧Q (.int n) H):=by
 intro pins s σ H xs us Q I r h;obtain⟨x,n,rfl,e,q⟩:=h;obtain⟨u,rfl,rx⟩:=gF r;have hl:=bB;have hs:sizeLine=16777216:=Fk;cases x with
 |str y =>
  obtain⟨t,rfl⟩:=rx;obtain⟨hy,e'⟩:y.length≤sizeLine∧n=y.length:=e;subst e';exact len_str om ⟨.int _,H,I.tok _,⟨_,rfl⟩,q⟩
 |byt y =>
  obtain⟨t,rfl⟩:=rx;obtain⟨hy,e'⟩:y.size≤sizeLine∧n=y.size:=e;subst e';exact PySem.W.len_bytes om ⟨.int _,H,I.tok _,⟨_,rfl⟩,q⟩
 |ref p =>
  cases rx;have e':(∃ xs,SqL X.K H p xs∧n=xs.length)∨∃ xs,SqT X.K H p xs∧n=xs.length:=e;rcases e' with⟨xs,hx,e'⟩|⟨xs,hx,e'⟩
  ·subst e'
   obtain⟨its,r',pl,hz⟩:=I.list hx;have hlen:=r'.length;exact Calls.call_len_list pl.isList (by simp only[Be];omega) ⟨.int xs.length,H,I.tok _,⟨_,by simp only[Be];rw[hlen]⟩,q⟩
  ·subst e'
   obtain⟨its,r',pl,hz⟩:=I.tuple hx;have hlen:=r'.length;exact len_tuple pl (by simp only[Be];omega) ⟨.int xs.length,H,I.tok _,⟨_,by simp only[Be];rw[hlen]⟩,q⟩
 |_=>exact(show Fc from e).elim
end
end _L
namespace _L
open PySem PySem.Spec PyProof.Rows
structure ObjM (h:Bi)(x dx C:Af)(mA:Au→Am Ac):Prop where
 obj:h.get? x=Aa (Rl C dx)
 ns:h.Ns1 dx mA
 ne:dx≠x
set_option tactic.hygienic true in
theorem WA {h:Bi}{dx:Af}{mA:Au→Am Ac}(n:h.Ns1 dx mA):∃ od,h.get? dx=Aa od∧∀ name,Sz name od=Aa (mA name):=by
 obtain⟨o,es,ep,ho,hd,hk,_,hm⟩:=n;refine⟨o,ho,fun name=>?_⟩;have e:=hm name;unfold nsFind findBy at e;rw[← Array.find?_toList] at e;unfold Sz;rw[hd];dsimp only
 split
 ·rename_i y q
  rw[q] at e;exact congrArg Aa e
 ·rename_i q
  rw[q] at e;have a:es.toList.any (·.refKey)=false:=by
   rw[List.any_eq_false];intro y hy;obtain⟨z,t,hkey⟩:=hk y (Mq.mp hy);simp[DictEntry.refKey,hkey]
  have a':¬ es.toList.any (·.refKey)=true:=by rw[a];exact Ge
  rw[Bc a'];exact congrArg Aa e
theorem ObjM.look {h:Bi}{x dx C:Af}{mA:Au→Am Ac}(I:ObjM h x dx C mA):∃ od,PySem.W.InstAt h x (Rl C dx) C (Aa od)∧∀ name,Sz name od=Aa (mA name):=
 let ⟨od,ho,hl⟩:=WA I.ns
 ⟨od,⟨I.obj,rfl,rfl,ho⟩,hl⟩
section
variable {P:Bh}{w:Bv}{H H':Hp}{h h':Bi}{a C dx:Af}{fs fs':Ab (Au × V)}
theorem BV (hok:HOk P w H h)(e:H a=Aa (.ins C dx fs)):∃ mA,ObjM h a dx C mA∧(∀ f,gT (fs.lookup f) (mA f))∧Zn mA (fs.map (·.1))∧fs.length≤1000∧H dx=Aa (.own a):=by
 obtain⟨d,z,ne,ob,mA,n,r,q⟩:=(show zR P w H h a (.ins C dx fs) from hok a _ e)
 exact⟨mA,⟨ob,n,ne⟩,r,q,z,d⟩
end
structure Cls (K:Ak)(C:Af):Prop where
 pg:Wu K C Str.empty=true
 hd:PySem.W.hasDictIn K C=true
 po:PySem.W.plainOver K C=true
 sa:Lj K (.ref C) "__setattr__" = Aa (Aa (.builtin "object.__setattr__"))
theorem Cls.get {K:Ak}{C:Af}(c:Cls K C)(f:Au):Wu K C f=true:=c.pg
section
variable {X:Cx}{pins:Ab (Af × Co)}{σ : St}{H:Hp}{s:Ag}{A:Bo}{E:Ac→Ag→Prop}{Q:Ac→Ag→Prop}{c:Ac}{b:As}
inductive TyOf (K:Ak)(H:Hp):V→Ac→Prop where
 |non:TyOf K H .non (.type "NoneType")
 |bl (x:As):TyOf K H (.bl x) (.type "bool")
 |int (i:Aj):TyOf K H (.int i) (.type "int")
 |str (x:Au):TyOf K H (.str x) (.type "str")
 |flt (x:UInt64):TyOf K H (.flt x) (.type "float")
 |lst {a:Af} {xs:Ab V} (e:H a=Aa (.lst xs)):TyOf K H (.ref a) (.type "list")
 |frz {a:Af} {o:Co} {xs:Ab V} (e:H a=Aa (.frz o (.lst xs))):TyOf K H (.ref a) (.type "list")
 |tup {a:Af} {xs:Ab V} (e:H a=Aa (.tup xs)):TyOf K H (.ref a) (.type "tuple")
 |dK {a:Af} {kvs:Ab (Key × V)} (e:H a=Aa (.dK kvs)):TyOf K H (.ref a) (.type "dict")
 |dT {a:Af} {kvs:Ab (Ab Key × V)} (e:H a=Aa (.dT kvs)):TyOf K H (.ref a) (.type "dict")
 |ins {a C dx:Af} {fs:Ab (Au × V)} (e:H a=Aa (.ins C dx fs)) (cl:Cls K C) (ha:Lj K (.ref C) "__class__" = Aa (Aa (.builtin "object.__class__")))
   (hn:Vw K (.builtin "object.__class__") "__get__" = Aa (Aa (.builtin "getset_descriptor.__get__"))) (htk:Xp K (.builtin "object.__class__")=Aa true)
   (hm:Tt K C (.type "object")=Aa true):TyOf K H (.ref a) (.ref C)
theorem W1 {x:V}{u t:Ac}(I:Inv X pins σ H s)(rx:qI x u)(ty:TyOf X.K H x t)(e:Jt X.K t c=Aa b)(h:∀ tk,Q (.bool b) { s with toks:=tk }) :
  Ap (Aw X.prog X.w) A (call (.builtin "isinstance") [u,c]) Q E s:=by
 cases ty with
 |non=>cases (show u=Ed from rx);exact Dv PySem.W.kitx_none I.kIn Jl e (fun z=>nomatch z) h
 |bl y=>cases (show u=Fi y from rx);exact Dv PySem.W.kitx_bool I.kIn Jl e (fun z=>nomatch z) h
 |int i=>obtain⟨t,q⟩:=(show ∃ t,u=Ov i t from rx);cases q;exact Dv PySem.W.kitx_int I.kIn Jl e (fun z=>nomatch z) h
 |str y=>obtain⟨t,q⟩:=(show ∃ t,u=Vs y t from rx);cases q;exact Dv PySem.W.kitx_str I.kIn Jl e (fun z=>nomatch z) h
 |flt y=>obtain⟨t,q⟩:=(show ∃ t,u=sB y t from rx);cases q;exact Dv PySem.W.kitx_float I.kIn Jl e (fun z=>nomatch z) h
 |@lst a xs ea =>
  cases (show u=Ch a from rx)
  obtain⟨_,_,n,_,h1⟩:=(show zR X.prog X.w H s.heap a (.lst xs) from I.hok a _ ea)
  exact Dv Pc I.kIn ⟨_,h1,rfl⟩ e (fun z=>nomatch z) h
 |@frz a ob xs ea =>
  cases (show u=Ch a from rx)
  obtain⟨_,_,_,n,_,h1⟩:=(show zR X.prog X.w H s.heap a (.frz ob (.lst xs)) from I.hok a _ ea)
  exact Dv Pc I.kIn ⟨_,h1,rfl⟩ e (fun z=>nomatch z) h
 |@tup a xs ea =>
  cases (show u=Ch a from rx)
  obtain⟨_,_,_,p⟩:=(show zR X.prog X.w H s.heap a (.tup xs) from I.hok a _ ea)
  obtain⟨o,h1,h2,_⟩:=p;exact Dv Uv I.kIn ⟨o,h1,h2⟩ e (fun z=>nomatch z) h
 |@dK a kvs ea =>
  cases (show u=Ch a from rx)
  obtain⟨_,_,vs,_,p⟩:=(show zR X.prog X.w H s.heap a (.dK kvs) from I.hok a _ ea)
  obtain⟨o,es,ep,h1,h2,_⟩:=p;exact Dv Vx I.kIn ⟨o,h1,h2.1⟩ e (fun z=>nomatch z) h
 |@dT a kvs ea =>
  cases (show u=Ch a from rx)
  obtain⟨_,_,xs,_,o,es,ep,h1,h2,_⟩:=(show zR X.prog X.w H s.heap a (.dT kvs) from I.hok a _ ea)
  exact Dv Vx I.kIn ⟨o,h1,h2.1⟩ e (fun z=>nomatch z) h
 |@ins a C dx fs ea cl ha hn htk hm =>
  cases (show u=Ch a from rx)
  obtain⟨mA,O,_⟩:=BV I.hok ea;obtain⟨od,J,_⟩:=O.look;exact Dv (PySem.W.kitx_own (cl.get _) cl.hd ha hn htk hm) I.kIn J e (fun z=>nomatch z) h
end
end _L
namespace _L
open PySem PySem.Spec PyProof.Rows
structure Room (k:Ah)(A:Bo):Prop where
 hd:A.handled=none
 dp:A.depth+3*k+5<Nv
 un:A.units+16*k+200<Ds
 gd:A.guards=Aa []
theorem Room.deeper {k:Ah}{A:Bo}(r:Room (k+1) A)(env:Jn):Room k (A.deeper env):=
 ⟨r.hd,by have:=r.dp;show A.depth+1+3*k+5<_;omega,by have:=r.un;show A.units+3+16*k+200<_;omega,r.gd⟩
theorem Room.depth {k:Ah}{A:Bo}(r:Room k A):A.depth<Nv:=by have:=r.dp;omega
theorem Room.units {k:Ah}{A:Bo}(r:Room k A):A.units+64<Ds:=by have:=r.un;omega
def OH:TA:=fun _ H Q=>Q [] H
section
variable {X:Cx}{e:Bq}{es:Ab Bq}{te:TE}{t:TA}{pos:Ez}
theorem SR:PA X [] OH:=fun _ _ _ _ H Q I h=>Lp ⟨[],H,I,.nil,h⟩
def OK (t:TA):TE:=fun σ H Q=>t σ H fun xs H1=>xs.length≤sizeLine∧∀ p,H1 p=none→Q (.ref p) (upd H1 p (.tup xs))
def OG (t:TA):TE:=fun σ H Q=>t σ H fun xs H1=>xs.length≤sizeLine∧∀ p,H1 p=none→Q (.ref p) (upd H1 p (.lst xs))
theorem SX {x1} (h:PA X es t):PE X (.Tuple es x1 pos) (OK t):=by
 intro pins s σ H Q I hq;refine wpAny_Tuple_spliced (thn (h pos pins s σ H _ I hq) fun us s1 ⟨xs,H1,I1,r,z,q⟩=>⟨by rw[← r.length];exact z,?_⟩)
 have hf:H1 s1.heap.objs.size=none:=I1.hok.fresh (Bd _);refine⟨.ref s1.heap.objs.size,upd H1 s1.heap.objs.size (.tup xs),I1.laid (t':=s1.toks) (fun b u e=>Ai _ e) (Bd _) ?_,rfl,q _ hf⟩;exact⟨z,us,r,⟨_,Az _ rfl,rfl,_,rfl⟩⟩
theorem WS (h:PA X es t):PE X (.List es pos) (OG t):=by
 intro pins s σ H Q I hq;refine wpAny_List_spliced (thn (h pos pins s σ H _ I hq) fun us s1 ⟨xs,H1,I1,r,z,q⟩=>⟨by rw[← r.length];exact z,?_⟩)
 have hf:H1 s1.heap.objs.size=none:=I1.hok.fresh (Bd _);refine⟨.ref s1.heap.objs.size,upd H1 s1.heap.objs.size (.lst xs),I1.laid (t':=s1.toks) (fun b u e=>Ai _ e) (Bd _) ?_,rfl,q _ hf⟩;exact⟨z,us,0,r,Az _ rfl⟩
end
abbrev Sp:=Ab V→Hp→VK→XK→Prop
abbrev CXT:=Ab Jn→Hp→Ag→XK→Ac→Ag→Prop
structure Env0 (P:Bh)(w:Bv)(K:Ak)(mg:Au→Am Ac)(base:Bi)(A:Bo)(outer:Ab Jn)(s:Ag)(H:Hp):Prop where
 frames:A.frames=Aa outer
 mod:Mod K mg base
 bs:∀ b o,base.get? b=Aa o→s.heap.get? b=Aa o∧H b=none
 bsz:base.objs.size≤s.heap.objs.size
 funs:s.heap.FunFrames base outer
 frf:∀ b∈frs outer,H b=none
 hok:HOk P w H s.heap
 bare:L2 s.gens
def CE (outer:Ab Jn)(P:Bh)(w:Bv)(H:Hp)(s:Ag)(Q:VK)(u:Ac)(s':Ag):Prop:=
 ∃ v H',s'.os=s.os∧L2 s'.gens∧Un (frs outer) [] H H' s.heap s'.heap∧HOk P w H' s'.heap∧qI v u∧Q v H'
def CR (CX:CXT)(outer:Ab Jn)(P:Bh)(w:Bv)(H:Hp)(s:Ag)(Q:VK)(E:XK)(r:Uq)(s':Ag):Prop:=
 match r with
 |.ok (.ret u)=>CE outer P w H s Q u s'
 |.ok _=>Fc
 |.error e=>CX outer H s E e s'
structure FnOk (P:Bh)(w:Bv)(K:Ak)(mg:Au→Am Ac)(base:Bi)(CX:CXT)(k:Ah)(f:Af)(fd:Fj)(ps:Ab Au)(sp:Sp):Prop where
 len:∀ vs H Q E,sp vs H Q E→vs.length=ps.length
 run:∀ (A:Bo) (outer:Ab Jn) (s:Ag) (H:Hp) (args:Args) (us:Ab Ac) (vs:Ab V) (Q:VK) (E:XK),Room k A→Env0 P w K mg base A outer s H→Nh s fd args (ps.zip us)→qN vs us→sp vs H Q E →
  Ja (Aw P w) A (.call (.ref f) args) (CR CX outer P w H s Q E) s
section
variable {X:Cx}{pins:Ab (Af × Co)}{σ : St}{H:Hp}{s s':Ag}
theorem Inv.env0 (I:Inv X pins σ H s):Env0 X.prog X.w X.K X.mg X.base X.A X.stack s H:=
 ⟨I.ok.frames,I.ok.mod,I.bs,Dy I.ok.bsz I.sz,I.stack,I.stkFree,I.hok,I.bare⟩
theorem Inv.after {Q:VK}{u:Ac}(I:Inv X pins σ H s)(h:CE X.stack X.prog X.w H s Q u s'):EP X pins σ Q u s':=by
 obtain⟨v,H',os,bare,un,hok,r,q⟩:=h;obtain⟨hh,g,d,t,os'⟩:=s';obtain rfl:os'=s.os:=os;exact⟨v,H',I.call (h':=hh) (g':=g) (d':=d) (t':=t) (ch:=[]) un hok bare (fun b z=>absurd z (by simp)),r,q⟩
end
def u9 (K:Ak)(fd:Fj)(ps:Ab Au)(ds:Ab Ac):Prop:=
 ∀ (s:Ag) (us:Ab Ac),K.In s.heap→(us++ds).length=ps.length→Nh s fd ⟨us,[]⟩ (ps.zip (us++ds))
theorem u9.all {K:Ak}{fd:Fj}{ps:Ab Au}(h:∀ us:Ab Ac,us.length=ps.length→Xq fd ⟨us,[]⟩=pure (ps.zip us)):u9 K fd ps []:=fun s us _ hl=>by
 rw[Ft] at hl ⊢;exact .of_eq (h us hl)
structure FnScope (N P:Ab Au)(sc:Fv):Prop where
 kind:sc.kind=.function
 co:sc.isCoroutine=false
 gen:sc.isGenerator=false
 nd:N.Nodup
 pre:N.take P.length=P
 par:∀ x∈P,sc.names.lookup x=Aa .local ∨ sc.names.lookup x=Aa .cell
 nofree:∀ y∈sc.names,y.2≠.free
theorem dG {kindOf:Au→Am Ha}{x:Au}:∀ {binds:Ab (Au × Ac)} {m:Au→Am Ac},(∀ v,(x,v) ∉ binds)→Tu kindOf binds m x=m x
 |[],_,_=>rfl
 |(n,v)::r,m,h=>by
  unfold Tu;rw[dG fun w hw=>h w (Bl _ hw)]
  split
  ·have:x≠n:=by rintro rfl;exact h v Cs
   simp[this]
  ·rfl
theorem dE {kindOf:Au→Am Ha}{x:Au}:∀ {binds:Ab (Au × Ac)} {m:Au→Am Ac},(∀ v,(x,v) ∉ binds)→Tv kindOf binds m x=m x
 |[],_,_=>rfl
 |(n,v)::r,m,h=>by
  unfold Tv;rw[dE fun w hw=>h w (Bl _ hw)]
  split
  ·rfl
  ·have:x≠n:=by rintro rfl;exact h v Cs
   simp[this]
theorem dF {kindOf:Au→Am Ha}{x:Au}{v:Ac}:∀ {P:Ab Au} {vs:Ab Ac} {i:Ah} {m:Au→Am Ac},P.Nodup→P[i]? = Aa x→vs[i]? = Aa v→kindOf x=Aa .local →
  Tu kindOf (P.zip vs) m x=Aa v
 |[],_,_,_,_,h,_,_=>by simp at h
 |_::_,[],_,_,_,_,h,_=>by simp at h
 |p::P,w::vs,0,m,nd,h1,h2,hk=>by
  simp at h1 h2;subst h1;subst h2;show Tu kindOf ((p,w)::P.zip vs) m p=_;unfold Tu;rw[dG fun v hv=>(HT.mp nd).1 (Mw hv).1,AT hk];simp
 |p::P,w::vs,i+1,m,nd,h1,h2,hk=>by
  show Tu kindOf ((p,w)::P.zip vs) m x=_;unfold Tu;exact dF (i:=i) (HT.mp nd).2 (by simpa using h1) (by simpa using h2) hk
theorem dD {kindOf:Au→Am Ha}{x:Au}{v:Ac}:∀ {P:Ab Au} {vs:Ab Ac} {i:Ah} {m:Au→Am Ac},P.Nodup→P[i]? = Aa x→vs[i]? = Aa v→kindOf x≠Aa .local →
  Tv kindOf (P.zip vs) m x=Aa v
 |[],_,_,_,_,h,_,_=>by simp at h
 |_::_,[],_,_,_,_,h,_=>by simp at h
 |p::P,w::vs,0,m,nd,h1,h2,hk=>by
  simp at h1 h2;subst h1;subst h2;show Tv kindOf ((p,w)::P.zip vs) m p=_;unfold Tv;rw[dE fun v hv=>(HT.mp nd).1 (Mw hv).1,Bc hk];simp
 |p::P,w::vs,i+1,m,nd,h1,h2,hk=>by
  show Tv kindOf ((p,w)::P.zip vs) m x=_;unfold Tv;exact dD (i:=i) (HT.mp nd).2 (by simpa using h1) (by simpa using h2) hk
def yN (N:Ab Au)(vs:Ab V):St:=vs.map Aa++Cg (N.length-vs.length) none
def nY (CX:CXT)(P:Bh)(w:Bv)(K:Ak)(mg:Au→Am Ac)(base:Bi)(N:Ab Au)(qual:Au)(scope:Fv)(f:Af)(cd:Ac)(A:Bo)(outer:Ab Jn)(s:Ag)(H:Hp)(E:XK):Cx where
 prog:=P
 w:=w
 K:=K
 mg:=mg
 base:=base
 A:=A.deeper (Gj qual scope s.heap.objs.size f cd)
 N:=N
 s₀:=s
 H₀:=H
 env:=Gj qual scope s.heap.objs.size f cd
 outer:=outer
 stack:=Gj qual scope s.heap.objs.size f cd::outer
 ex:=[]
 calm:=true
 fn:=fun _=>true
 pn:=[]
 xe:=fun e s'=>Ap (Aw P w) (A.deeper (Gj qual scope s.heap.objs.size f cd)) (leaving (Gj qual scope s.heap.objs.size f cd) e) (fun _ s''=>CX outer H s E e s'') (fun e' s''=>CX outer H s E e' s'') s'
theorem eB {sc:Fv}{n:Ah}{x:Au}(h:sc.names.lookup x=Aa .cell):∃ c,(Gw n sc.names []).lookup x=Aa c:=by
 have q:=Jb sc.names n [] (.inl h);exact Pu.mp q
theorem dX {CX:CXT}{P:Bh}{w:Bv}{K:Ak}{mg:Au→Am Ac}{base:Bi}{N ps:Ab Au}{qual:Au}{scope:Fv}{f:Af}{cd:Ac}{A:Bo}{outer:Ab Jn}{s s1:Ag}{H:Hp}{E:XK}{us:Ab Ac}{vs:Ab V}
  (S:FnScope N ps scope) (hd:A.handled=none) (e0:Env0 P w K mg base A outer s H) (hl:vs.length=ps.length) (r:qN vs us)
  (x:InCallC s s.heap.objs.size (Tu (Gj qual scope s.heap.objs.size f cd).kindOf (ps.zip us) fun _=>none) (Gw (s.heap.objs.size+1) scope.names []) (Tv (Gj qual scope s.heap.objs.size f cd).kindOf (ps.zip us) fun _=>none) s1) :
  Inv (nY CX P w K mg base N qual scope f cd A outer s H E) [] (yN N vs) H s1:=by
 have hpl:ps.length≤N.length:=by have:=congrArg Mb S.pre;rw[Ev] at this;omega
 obtain⟨h1,tk,rfl,hk⟩:=x.done;have noA:∀ b:Af,b ∉ (nY CX P w K mg base N qual scope f cd A outer s H E).ex:=fun b z=>absurd (show b∈([]:Ab Af) from z) (by simp)
 refine⟨⟨e0.mod,S.kind,rfl,rfl,Bd _,fun y z c h1 h2=>?_,fun y hy=>?_,fun y c _ h=>?_,fun _=>hd,Th e0.frames,.inr ⟨rfl,rfl⟩,fun b z=>absurd z (noA b),e0.bs,e0.bsz,fun b _ _=>noA b,fun b z=>absurd z (noA b),e0.funs,e0.frf⟩,
  rfl,e0.bare,Un.kept hk,⟨_,x.toInCall.ns,fun i y v h1 h2 h3=>?_⟩,fun y c h=>⟨_,x.cell y c h⟩,e0.hok.fresh (Bd _),fun y c h=>?_,fun p hp=>absurd (show p∈([]:Ab (Af × Co)) from hp) (by simp),e0.hok.kept hk,?_⟩
 ·exact name_of_addr x.apart (Fx h1) (Fx h2)
 ·have hy:scope.names.lookup y=Aa .cell∨scope.names.lookup y=Aa .free:=hy
  rcases hy with hy|hy
  ·exact eB hy
  ·exact absurd rfl (S.nofree _ (Fx hy))
 ·exact Gm (x.above y c (Fx h))
 ·have hi:i<vs.length:=by
   unfold yN at h2;by_cases hi:i<vs.length
   ·exact hi
   ·rw[Dr (by simpa using hi)] at h2
    rw[Lc] at h2
    split at h2 <;> cases h2
  have ha:vs[i]? = Aa v:=by
   unfold yN at h2;rw[Cd (by simpa using hi),Dm] at h2
   cases e:vs[i]? with
   |none=>rw[e] at h2;cases h2
   |some a=>rw[e] at h2;cases h2;rfl
  obtain⟨u,hu,rv⟩:=r.get ha;have hp:ps[i]? = Aa y:=by
   rw[← S.pre,Pv om];exact h1
  have ndP:ps.Nodup:=by rw[← S.pre];exact S.nd.sublist (List.take_sublist _ _)
  refine⟨u,rv,?_⟩;rcases S.par y (Ca hp) with k|k
  ·exact .inl ⟨k,dF ndP hp hu k⟩
  ·obtain⟨c,e⟩:=eB (n:=s.heap.objs.size+1) k
   refine .inr ⟨.inl k,c,e,?_⟩;have q:=x.cell y c e;rw[dD ndP hp hu (by show scope.names.lookup y≠_;rw[k];decide)] at q
   exact q
 ·exact e0.hok.fresh (Gm (x.above y c (Fx h)))
 ·unfold yN
  show _=N.length;rw[Br,Ar,List.length_replicate];omega
theorem HI {CX:CXT}{P:Bh}{w:Bv}{K:Ak}{mg:Au→Am Ac}{base:Bi}{k:Ah}{f:Af}{name qual:Au}{params:Arguments}{body:Ab Eu}{scope:Fv}{dV kV doc pm cdv ct oc:Ac}{an od:Am Af}
  {osl:Bk (Am Ac)} {N ps:Ab Au} {sp:Sp} (lk:K.lookup f=Aa ⟨oc,od,.func (Gu name qual params body scope dV kV doc pm an cdv ct),osl⟩) (hcd:Ll K cdv qual=true) (S:FnScope N ps scope)
  (len:∀ vs H Q E,sp vs H Q E→vs.length=ps.length)
  (hbody:∀ (A:Bo) (outer:Ab Jn) (s:Ag) (H:Hp) (vs:Ab V) (Q:VK) (E:XK),Room k (A.deeper (Gj qual scope s.heap.objs.size f cdv))→sp vs H Q E →
   ∃ t,PSs (nY CX P w K mg base N qual scope f cdv A outer s H E) body t∧t { nx:=fun _ H'=>Q .non H',rt:=Q } (yN N vs) H) :
  FnOk P w K mg base CX (k+1) f (Gu name qual params body scope dV kV doc pm an cdv ct) ps sp:=by
 refine⟨len,fun A outer s H args us vs Q E hr e0 hb r hsp=>?_⟩;have hl:=len _ _ _ _ hsp;have KX:K.In s.heap:=e0.mod.kin.keeps fun b o e=>(e0.bs b o e).1;have lim:s.heap.NoLimit:=e0.mod.nolimit.keeps fun b o e=>(e0.bs b o e).1;have hkind:∀ y∈ps.zip us,scope.names.lookup y.1=Aa .local ∨ (scope.names.lookup y.1=Aa .cell∧((Gw (s.heap.objs.size+1) scope.names []).lookup y.1).isSome=true):=fun ⟨n,v⟩ hy=>by
  rcases S.par n (Mw hy).1 with q|q
  ·exact .inl q
  ·exact .inr ⟨q,Jb _ _ _ (.inl q)⟩
 refine Sn hr.depth (KX _ _ lk) rfl S.co S.gen rfl (Uw KX hcd) (hb _ _ _ _ ?_);refine Op S.kind hkind fun env he s1 x=>?_;subst he;refine⟨lim.keeps x.toInCall.keep,codeAny_func ?_⟩;obtain⟨t,ht,hq⟩:=hbody A outer s H vs Q E (hr.deeper _) hsp;have I:Inv (nY CX P w K mg base N qual scope f cdv A outer s H E) [] (yN N vs) H s1:=dX S hr.hd e0 hl r x;refine Hw (ht [] s1 (yN N vs) H _ I hq) (fun fl s' hs=>?_) fun e s' hs=>hs;have fin:∀ {σ' : St} {H':Hp} {v:V} {u:Ac},Inv (nY CX P w K mg base N qual scope f cdv A outer s H E) [] σ' H' s'→qI v u→Q v H'→CE outer P w H s Q u s':=
  fun {σ' H' v u} J rv q=>⟨v,H',J.os,J.bare,J.base,J.hok,rv,q⟩
 cases fl with
 |ret u =>
  obtain⟨v,σ',H',J,rv,q⟩:=hs;exact fin J rv q
 |next =>
  obtain⟨σ',H',J,q⟩:=hs;exact fin (v:=V.non) (u:=Ed) J rfl q
 |brk =>
  obtain⟨_,_,_,q⟩:=hs;exact Ao q
 |cont =>
  obtain⟨_,_,_,q⟩:=hs;exact Ao q
end _L
namespace _H
open PySem PyProof.Rows
def lexLt:Ab Aj→Ab Aj→As
 |[],[]=>false
 |[],_::_=>true
 |_::_,[]=>false
 |x::xs,y::ys=>if x=y then lexLt xs ys else decide (x<y)
theorem lexLt_cons (x y:Aj)(xs ys:Ab Aj):lexLt (x::xs) (y::ys)=if x=y then lexLt xs ys else decide (x<y):=rfl
theorem lexLt_nil_nil:lexLt [] []=false:=rfl
theorem lJ (y:Aj)(ys:Ab Aj):lexLt [] (y::ys)=true:=rfl
theorem lI (x:Aj)(xs:Ab Aj):lexLt (x::xs) [] = false:=rfl
theorem U8 (A:Bo)(s:Ag)(a:Aj)(t:Sk)(c:Aj)(u:Sk):∃ e,SeqAt.EqAt A s (.int a t) (.int c u) e∧(e=true↔a=c):=
 ⟨(a == c),SeqAt.EqAt.int_int a t c u,by simp⟩
theorem JZ (A:Bo)(s:Ag)(a:Aj)(t:Sk)(c:Aj)(u:Sk)(prog:Bh)(w:Bv)(E:Ac→Ag→Prop)(Q:Ac→Ag→Prop)(h:Q (.bool (decide (a<c))) s) :
  Ap (Aw prog w) A (Wv .Lt (.int a t) (.int c u)) Q E s:=
 (Ni h:Ap (Aw prog w) A (Cw .Lt (.int a t) (.int c u)) Q E s)
section
open PySem.SeqAt
open PySem.AutoSeq1 (wpAny_loadPart')
open PySem.MeetsSeq PySem.MeetsSeq2 PySem.MeetsSeq3
theorem rA (l b:Af)(items items2:Bk Ac)(n n2:Ah)(dd dd2:Am Af)(sl sl2:Bk (Am Ac))(ns ms:Ab Aj)(hi:Jc items.toList ns)(hj:Jc items2.toList ms) :
  Meets (He.«tuple.__lt__» ⟨[.ref l,.ref b],[]⟩)
   (fun _ R s=>s.heap.get? l=Aa { cls:=.type "tuple",dict:=dd,data:=.seq items n,slots:=sl } ∧ s.heap.get? b=Aa { cls:=.type "tuple",dict:=dd2,data:=.seq items2 n2,slots:=sl2 } ∧
    R (.ok (.ret (.bool (lexLt ns ms)))) s):=
 .of_wp fun prog w A R s h=>by
  obtain⟨hp,g,d,tk,os⟩:=s;obtain⟨hl,hb,h⟩:=h;have f2:=Pw;have z1:items.size=ns.length:=by rw[← hi.length];simp
  have z2:items2.size=ms.length:=by rw[← hj.length];simp
  wp_walk using wpAny_loadPart' hl,wpAny_loadPart' hb,Jw _ (fun rest b s'=>b.1=none∧s'=⟨hp,g,d,tk,os⟩∧∃ (vs ws:Ab Ac) (ns' ms':Ab Aj),rest=vs.zip ws ∧
   Jc vs ns'∧Jc ws ms'∧ns'.length+items2.size=ms'.length+items.size∧R (.ok (.ret (.bool (lexLt ns' ms')))) ⟨hp,g,d,tk,os⟩) _
  case turn =>
   rintro⟨y,x⟩ rest b s' ⟨hb',rfl,vs,ws,ns',ms',hz,hvi,hwi,hlen,hR⟩;cases hvi with
   |nil=>rw[List.zip_nil_left] at hz;cases hz
   |cons a t hvi' =>
    cases hwi with
    |nil=>rw[List.zip_nil_right] at hz;cases hz
    |cons c u hwi' =>
     rw[Hm] at hz;injection hz with hyx hrest
     injection hyx with hy hx
     subst hy hx;rw[lexLt_cons] at hR;simp only[Ci] at hlen;obtain⟨e,he,hiff⟩:=U8 A.in1 ⟨hp,g,d,tk,os⟩ a t c u;refine Ad (he prog w _ _ ?_);cases e with
     |true =>
      rw[AT (hiff.mp rfl)] at hR
      wp_walk
      exact⟨rfl,rfl,_,_,_,_,hrest,hvi',hwi',by omega,hR⟩
     |false =>
      rw[Bc (fun q=>absurd (hiff.mpr q) Ge)] at hR;have hri:=JZ A.in1 ⟨hp,g,d,tk,os⟩ a t c u prog w
      wp_walk using hri
      exact⟨_,rfl,by simpa using hR⟩
  case fin =>
   rintro⟨b1,b2⟩ s' ⟨hb',rfl,vs,ws,ns',ms',hz,hvi,hwi,hlen,hR⟩;simp only at hb';subst hb';have hv:lexLt ns' ms'=decide (items.size<items2.size):=by
    cases hvi with
    |nil =>
     cases hwi with
     |nil =>
      simp only[Fu] at hlen;rw[lexLt_nil_nil];exact(Bu om).symm
     |cons c u hw =>
      simp only[Fu,Ci] at hlen;rw[lJ];exact(Cn om).symm
    |cons a t hv =>
     cases hwi with
     |nil =>
      simp only[Fu,Ci] at hlen;rw[lI];exact(Bu om).symm
     |cons c u hw =>
      rw[Hm] at hz;cases hz
   rw[hv] at hR
   wp_walk
   exact⟨_,rfl,by simpa [Mc] using hR⟩
  case h =>
   exact⟨rfl,rfl,items.toList,items2.toList,ns,ms,rfl,hi,hj,by omega,h⟩
end
section
variable {prog:Bh}{w:Bv}{A:Bo}{E:Ac→Ag→Prop}{s:Ag}
theorem lt_tupInts {l b:Af}{items items2:Bk Ac}{ns ms:Ab Aj}{Q:Ac→Ag→Prop}(hl:Nt s.heap l items)(hb:Nt s.heap b items2)(hi:Jc items.toList ns)(hj:Jc items2.toList ms)
  (hu:A.units<Ds) (h:Q (.bool (lexLt ns ms)) s):Ap (Aw prog w) A (Cw .Lt (.ref l) (.ref b)) Q E s:=by
 obtain⟨⟨cls,dd,data,sl⟩,ho,hc,n,hd⟩:=id hl;obtain⟨⟨cls2,dd2,data2,sl2⟩,ho2,hc2,n2,hd2⟩:=id hb;simp only at hc hd hc2 hd2;subst hc hd hc2 hd2;exact Rn (op:=.Lt) ⟨_,ho,rfl⟩ ⟨_,ho2,rfl⟩ So Ro (Qr _ _) (rA l b items items2 n n2 dd dd2 sl sl2 ns ms hi hj)
  ⟨ho,ho2,show Fi (lexLt ns ms)≠Ti∧Q (.bool (lexLt ns ms)) s from⟨(fun x=>nomatch x),h⟩⟩ hu
theorem cat_tup {t b:Af}{vs ws:Ab Ac}{Q:Ac→Ag→Prop}(ht:Nt s.heap t vs.toArray)(hb:Nt s.heap b ws.toArray)(hv:vs≠[])
  (h1:ws=[]→Q (.ref t) s) (h2:ws≠[]→Q (.ref s.heap.objs.size) { s with heap:=s.heap.push { cls:=.type "tuple",data:=.seq (vs++ws).toArray } })
  (hsz:vs.length+ws.length≤sizeLine):Ap (Aw prog w) A (Eo .Add (.ref t) (.ref b)) Q E s:=by
 obtain⟨⟨cls,dd,data,sl⟩,ho,hc,n,hd⟩:=id ht;obtain⟨⟨cls2,dd2,data2,sl2⟩,ho2,hc2,n2,hd2⟩:=id hb;simp only at hc hd hc2 hd2;subst hc hd hc2 hd2;have e:vs.toArray++ws.toArray=(vs++ws).toArray:=by simp
 by_cases hw:ws=[]
 ·exact Vj ⟨_,ho,rfl⟩ ⟨_,ho2,rfl⟩ Qi Tw Lx Ld (Ky _ _)
   (tuple_addW1 t b vs.toArray ws.toArray n n2 dd dd2 sl sl2 (by simpa using hv) (by simp[hw])) ⟨ho,ho2,h1 hw⟩
 ·refine Vj ⟨_,ho,rfl⟩ ⟨_,ho2,rfl⟩ Qi Tw Lx Ld (Ky _ _)
   (tuple_addW2 t b vs.toArray ws.toArray n n2 dd dd2 sl sl2 (by simpa using hv) (by simpa using hw) (by rw[Be,Be];exact hsz)) ⟨ho,ho2,?_⟩
  rw[e];exact h2 hw
def sIx (n d:Ah):Am Aj→Ah
 |none=>d
 |some v=>if v<0 then (v+(n:Aj)).toNat else min v.toNat n
theorem sIx_none (n d:Ah):sIx n d none=d:=rfl
theorem sIx_nat (n d k:Ah):sIx n d (Aa (k:Aj))=min k n:=by
 show (if (k:Aj)<0 then ((k:Aj)+(n:Aj)).toNat else min (k:Aj).toNat n)=min k n
 rw[Bc om,Fl]
theorem E2 (n d:Ah)(hd:d≤n)(o:Am Aj):sIx n d o≤n:=by
 cases o with
 |none=>exact hd
 |some v =>
  show (if v<0 then (v+(n:Aj)).toNat else min v.toNat n)≤n
  by_cases hv:v<0
  ·rw[AT hv];omega
  ·rw[Bc hv];exact Nat.min_le_right _ _
theorem i8 (v:Aj)(n d:Ah):(if v<0 then max (v+(n:Aj)) 0 else min v (n:Aj))=((sIx n d (Aa v):Ah):Aj):=by
 show (if v<0 then max (v+(n:Aj)) 0 else min v (n:Aj))=(((if v<0 then (v+(n:Aj)).toNat else min v.toNat n):Ah):Aj)
 by_cases hv:v<0
 ·simp only[AT hv];omega
 ·simp only[Bc hv];omega
theorem Q6 (lo hi:Am Aj)(n:Ah):Fy lo hi 1 (n:Aj)=(((sIx n 0 lo:Ah):Aj),((sIx n n hi:Ah):Aj)):=by
 have h1:¬ ((1:Aj)<0):=by omega
 unfold Fy;simp only[h1,Dt];refine Prod.ext ?_ ?_
 ·cases lo with
  |none=>rfl
  |some v=>exact i8 v n 0
 ·cases hi with
  |none=>rfl
  |some v=>exact i8 v n n
theorem ZD (i j:Ah):Fz (i:Aj) (j:Aj) 1=j-i:=by
 unfold Fz;have h1:(1:Aj)>0:=by omega
 simp only[h1,De,Int.ediv_one]
 split <;> omega
theorem nP {v:Ac}{o:Am Aj}{Q:Am Aj→Ag→Prop}(p:Oq v o)(h:Q o s):Ap (Aw prog w) A (Yd v) Q E s:=by
 cases p with
 |none=>exact Nw h
 |int i t=>exact slicePart_int h
theorem kO {sl:Af}{vl vu:Ac}{lo hi:Am Aj}{n:Ah}{Q:Aj × Aj × Ah→Ag→Prop}(hs:s.heap.IsSliceOf sl vl vu .none)(pl:Oq vl lo)(pu:Oq vu hi)
  (h:Q (((sIx n 0 lo:Ah):Aj),1,sIx n n hi-sIx n 0 lo) s):Ap (Aw prog w) A (Hu (.ref sl) (pure (n:Aj))) Q E s:=by
 obtain⟨os,hos,hcs,hds⟩:=id hs;unfold Hu Pd;refine Ad (Ad (El hos hds (x:=vl) rfl (Ad (El hos hds (x:=vu) rfl (Ad (El hos hds (x:=.none) rfl (Al ?_)))))));refine Ad (Nw ?_);show Ap _ _ (if ((1:Aj) == 0)=true then _ else _) _ _ s
 rw[Bc (by decide)]
 refine Ad (nP pl (Ad (nP pu (Ad (Al ?_)))));show Ap _ _ (match Fy lo hi 1 (n:Aj) with|(lo,hi)=>pure (lo,(1:Aj),Fz lo hi 1)) _ _ s
 rw[Q6 lo hi n];show Ap _ _ (pure (((sIx n 0 lo:Ah):Aj),(1:Aj),Fz ((sIx n 0 lo:Ah):Aj) ((sIx n n hi:Ah):Aj) 1)) _ _ s;rw[ZD];exact Al h
theorem JJ (xs:Bk Ac)(i k:Ah):((Cy k).filterMap fun (m:Ah)=>xs[((i:Aj)+(m:Aj)*1).toNat]?).toArray=((xs.toList.drop i).take k).toArray:=by
 have e:(fun (m:Ah)=>xs[((i:Aj)+(m:Aj)*1).toNat]?)=fun m=>xs[i+m]?:=by
  funext m
  have:((i:Aj)+(m:Aj)*1).toNat=i+m:=by omega
  rw[this]
 rw[e];have:=pick_run xs i k;rw[List.filterMap_map] at this;have e2:((fun x=>xs[x]?)∘fun x=>i+x)=fun m=>xs[i+m]?:=rfl;rw[e2] at this;rw[this]
theorem getItem_tuple_cut {t sl:Af}{items:Bk Ac}{vl vu:Ac}{lo hi:Am Aj}{Q:Ac→Ag→Prop}(ht:Nt s.heap t items)(hs:s.heap.IsSliceOf sl vl vu .none)(pl:Oq vl lo)(pu:Oq vu hi)
  (hw:¬ (sIx items.size 0 lo=0∧sIx items.size items.size hi=items.size))
  (h:Q (.ref s.heap.objs.size) { s with heap:=s.heap.push { cls:=.type "tuple",data:=.seq ((items.toList.drop (sIx items.size 0 lo)).take (sIx items.size items.size hi-sIx items.size 0 lo)).toArray } })
  (hsz:items.size≤sizeLine):Ap (Aw prog w) A (Md (.ref t) (.ref sl)) Q E s:=by
 have htake:sizeOk (.seq ((items.toList.drop (sIx items.size 0 lo)).take (sIx items.size items.size hi-sIx items.size 0 lo)).toArray):=by
  show ((items.toList.drop (sIx items.size 0 lo)).take (sIx items.size items.size hi-sIx items.size 0 lo)).toArray.size≤sizeLine;rw[Be,Ev,Hg,Dc];omega
 have hj:sIx items.size items.size hi≤items.size:=E2 _ _ (Bd _) hi;obtain⟨os,hos,hcs,hds⟩:=id hs;have hTs:s.TypeIs (.ref sl) "slice":=⟨os,hos,hcs⟩;unfold Md
 try with_reducible refine Dj ?_
 first|refine Ad (Al ?_)|skip
 refine Ad (Pe ht.typeIs (by decide) ?_)
 refine Ad (Ee (name:=Gd "__getitem__") ht.typeIs Dh
  (Eh Dh ht.typeIs Nj ?_ (Og _ _)))
 show Ap _ _ (Jx (.ref t) >>= _) _ _ s;refine Ad (Tx ht ?_);refine Ad (Ju hTs ?_);rw[AT (by decide)]
 refine Ad (kO hs pl pu ?_);have hno:¬ ((((sIx items.size 0 lo:Ah):Aj) == 0&&(1:Aj) == 1&&(sIx items.size items.size hi-sIx items.size 0 lo) == items.size)=true):=by
  intro q;rw[Ay,Ay] at q;have q1:((sIx items.size 0 lo:Ah):Aj)=0:=eq_of_beq q.1.1;have q2:sIx items.size items.size hi-sIx items.size 0 lo=items.size:=eq_of_beq q.2;exact hw ⟨by omega,by omega⟩
 show Ap _ _ (if (((sIx items.size 0 lo:Ah):Aj) == 0&&(1:Aj) == 1&&(sIx items.size items.size hi-sIx items.size 0 lo) == items.size)=true then _ else _) _ _ s
 rw[Bc hno,JJ]
 first
  |exact Ad (m:=Es _) (Dd (Al ⟨_,rfl,Al h⟩) htake)
  |exact Ad (m:=Es _) (Dd (Ad (Al (Al ⟨_,rfl,Al h⟩))) htake)
  |exact Ad (Ad (m:=Es _) (Dd (Al (Al ⟨_,rfl,Al h⟩)) htake))
  |exact Ad (Ad (m:=Es _) (Dd (Al ⟨_,rfl,Al h⟩) htake))
end
end _H
namespace _L
open PySem PySem.Spec PyProof.Rows
abbrev TO:=St→Hp→(Am Aj→Hp→Prop)→Prop
def PO (X:Cx)(e:Am Bq)(t:TO):Prop:=
 ∀ (pins:Ab (Af × Co)) (s:Ag) (σ : St) (H:Hp) (Q:Am Aj→Hp→Prop),Inv X pins σ H s→t σ H Q →
  Ap (Aw X.prog X.w) X.A (evalPart e X.env) (fun u s'=>∃ o H',Inv X pins σ H' s'∧Oq u o∧Q o H') X.xe s
def MX:TO:=fun _ H Q=>Q none H
def AA (t:TE):TO:=fun σ H Q=>t σ H fun x H1=>∃ i,x=.int i∧Q (Aa i) H1
theorem tJ {ns:Ab Aj}:∀ {us:Ab Ac},qN (ns.map V.int) us→Jc us ns:=by
 induction ns with
 |nil=>intro us r;rw[Nc] at r;cases r;exact .nil
 |cons n ns ih =>
  intro us r;rw[Df] at r;cases r with
  |cons r1 r2 =>
   obtain⟨t,e⟩:=r1;subst e;exact .cons n t (ih r2)
section
variable {X:Cx}{e:Bq}{te:TE}{lo hi:Am Bq}{tl th:TO}{pos p2:Ez}
theorem M0:PO X none MX:=by
 intro pins s σ H Q I h;rw[Tz];exact Al ⟨none,H,I,.none,h⟩
theorem M1 (h:PE X e te):PO X (Aa e) (AA te):=by
 intro pins s σ H Q I hw;rw[evalPart_some];refine thn (h pins s σ H _ I hw) fun u s1 ⟨x,H1,I1,r1,q1⟩=>?_;obtain⟨i,rfl,q⟩:=q1;obtain⟨t,rfl⟩:=r1;exact⟨Aa i,H1,I1,.int i t,q⟩
def SlR (X:Cx)(r:V→Am Aj→Am Aj→Hp→VK→Prop):Prop:=
 ∀ (pins:Ab (Af × Co)) (s:Ag) (σ : St) (H:Hp) (x:V) (v vl vu:Ac) (lo hi:Am Aj) (sl:Af) (Q:VK),Inv X pins σ H s→qI x v→s.heap.IsSliceOf sl vl vu .none→Oq vl lo→Oq vu hi→r x lo hi H Q →
  ∃ T id,typeLookup (.type T) "__getitem__" = pure (Aa (.builtin id))∧s.TypeIs v T∧Ap (Aw X.prog X.w) X.A (Md v (.ref sl)) (EP X pins σ Q) X.xe s
theorem SlR.or {r r':V→Am Aj→Am Aj→Hp→VK→Prop}(h:SlR X r)(h':SlR X r'):SlR X (fun x lo hi H Q=>r x lo hi H Q∨r' x lo hi H Q):=by
 intro pins s σ H x v vl vu lo hi sl Q I rx hs pl pu q;rcases q with q|q
 ·exact h pins s σ H x v vl vu lo hi sl Q I rx hs pl pu q
 ·exact h' pins s σ H x v vl vu lo hi sl Q I rx hs pl pu q
def tSl (r:V→Am Aj→Am Aj→Hp→VK→Prop)(te:TE)(tl th:TO):TE:=fun σ H Q=>te σ H fun x H1=>tl σ H1 fun l H2=>th σ H2 fun u H3=>r x l u H3 Q
theorem JG {r:V→Am Aj→Am Aj→Hp→VK→Prop}(hr:SlR X r)(he:PE X e te)(hl:PO X lo tl)(hu:PO X hi th):PE X (.Subscript e (.Slice lo hi none p2) pos) (tSl r te tl th):=by
 intro pins s σ H Q I h;refine Ye (thn (he pins s σ H _ I h) fun v s1 ⟨x,H1,I1,r1,q1⟩=>?_);refine wpAny_Slice (thn (hl pins s1 σ H1 _ I1 q1) fun vl s2 ⟨l,H2,I2,pl,q2⟩=>thn (hu pins s2 σ H2 _ I2 q2) fun vu s3 ⟨u,H3,I3,pu,q3⟩=>?_);rw[Tz];refine Al ?_;have I4:Inv X pins σ H3 { s3 with heap:=s3.heap.push { cls:=.type "slice",data:=.fields #[vl,vu,.none] } }:=I3.kept (t':=s3.toks) fun b ob q=>Ai _ q
 obtain⟨T,id,hT,ht,hg⟩:=hr pins { s3 with heap:=s3.heap.push { cls:=.type "slice",data:=.fields #[vl,vu,.none] } } σ H3 x v vl vu l u s3.heap.objs.size Q I4 r1 (Ux ..) pl pu q3
 show Ap (Aw X.prog X.w) X.A (T0 e (.Slice lo hi none p2) v (.ref s3.heap.objs.size)) (EP X pins σ Q) X.xe { s3 with heap:=s3.heap.push { cls:=.type "slice",data:=.fields #[vl,vu,.none] } }
 exact tail_any (ops:=[.ref s3.heap.objs.size,v]) ht hT hg (by with_unfolding_all rfl)
def pV (xs:Ab V)(lo hi:Am Aj):Ab V:=(xs.drop (_H.sIx xs.length 0 lo)).take (_H.sIx xs.length xs.length hi-_H.sIx xs.length 0 lo)
theorem fV (xs:Ab V)(lo hi:Am Aj):(pV xs lo hi).length≤xs.length:=by
 unfold pV;rw[Ev,Hg];omega
def O9 (K:Ak):V→Am Aj→Am Aj→Hp→VK→Prop:=fun x lo hi H Q=>∃ a xs,x=.ref a∧SqT K H a xs ∧
 ¬ (_H.sIx xs.length 0 lo=0∧_H.sIx xs.length xs.length hi=xs.length)∧∀ p,H p=none→Q (.ref p) (upd H p (.tup (pV xs lo hi)))
theorem E7:SlR X (O9 X.K):=by
 intro pins s σ H x v vl vu lo hi sl Q I rx hs pl pu h;obtain⟨a,xs,rfl,hx,hw,q⟩:=h;cases rx;obtain⟨its,r,ht,hz⟩:=I.tuple hx;have hlen:its.toArray.size=xs.length:=by rw[Be];exact r.length.symm
 refine⟨"tuple",_,Dh.lookup,ht.typeIs,?_⟩;refine _H.getItem_tuple_cut ht hs pl pu (by rw[hlen];exact hw) ?_ (by rw[hlen];exact hz)
 rw[hlen];refine⟨.ref s.heap.objs.size,_,I.laid (t':=s.toks) (o:=.tup (pV xs lo hi)) (fun b ob q=>Ai _ q) (Bd _) ?_,rfl,q _ (I.hok.fresh (Bd _))⟩;exact⟨Dy (fV xs lo hi) hz,_,(r.drop (_H.sIx xs.length 0 lo)).take (_H.sIx xs.length xs.length hi-_H.sIx xs.length 0 lo),Vv _ _⟩
end
end _L
namespace _L
open PySem PySem.Spec PyProof.Rows
def ixN (n:Ah)(i:Aj):Am Ah:=if 0≤i then (if i<n then Aa i.toNat else none) else if -(n:Aj)≤i then Aa (i+n).toNat else none
def atI {α : Type}(xs:Ab α)(i:Aj):Am α:=(ixN xs.length i).bind fun j=>xs[j]?
theorem iV {n:Ah}{i:Aj}{j:Ah}(h:ixN n i=Aa j):seqIndex? i n=Aa j∧j<n ∧ -(n:Aj)≤i∧i<n:=by
 unfold ixN at h;by_cases h0:0≤i
 ·rw[AT h0] at h
  by_cases h1:i<n
  ·rw[AT h1] at h
   have e:i.toNat=j:=Cp h;exact⟨by rw[Ww h0 h1,e],by omega,by omega,h1⟩
  ·rw[Bc h1] at h;cases h
 ·rw[Bc h0] at h
  by_cases h1 : -(n:Aj)≤i
  ·rw[AT h1] at h
   have e:(i+n).toNat=j:=Cp h;exact⟨by rw[seqIndex_neg om h1,e],by omega,h1,by omega⟩
  ·rw[Bc h1] at h;cases h
theorem aZ {α : Type}{xs:Ab α}{i:Aj}{v:α}(h:atI xs i=Aa v):∃ j,seqIndex? i xs.length=Aa j∧xs[j]? = Aa v∧j<xs.length ∧ -(xs.length:Aj)≤i∧i<xs.length:=by
 unfold atI at h;cases e:ixN xs.length i with
 |none=>rw[e] at h;cases h
 |some j =>
  rw[e] at h;obtain⟨h1,h2,h3,h4⟩:=iV e;exact⟨j,h1,h,h2,h3,h4⟩
theorem PD {α : Type}{xs:Ab α}{j:Ah}{v:α}(h:xs[j]? = Aa v):atI xs (j:Aj)=Aa v:=by
 have hj:j<xs.length:=(Ba.mp h).1;have e:ixN xs.length (j:Aj)=Aa j:=by
  unfold ixN;rw[AT om,AT om];simp
 unfold atI;rw[e];exact h
def jT (b:Bq):Prop:=∀ o i,subscripted b false o i=operate [o,i] (Md o i)
def IxR (X:Cx)(r:R2):Prop:=
 ∀ (value slice:Bq) (pins:Ab (Af × Co)) (s:Ag) (σ : St) (H:Hp) (x y:V) (v u:Ac) (Q:VK),Inv X pins σ H s→qI x v→qI y u→r x y H Q →
  subscripted slice false v u=operate [v,u] (Md v u)→Ap (Aw X.prog X.w) X.A (T0 value slice v u) (EP X pins σ Q) X.xe s
def MtR (X:Cx)(id:Du)(r:V→Ab V→Hp→VK→Prop):Prop:=
 ∀ (pins:Ab (Af × Co)) (s:Ag) (σ : St) (H:Hp) (x:V) (xs:Ab V) (v:Ac) (us:Ab Ac) (Q:VK),Inv X pins σ H s→qI x v→qN xs us→r x xs H Q →
  Ap (Aw X.prog X.w) X.A (call (.builtin id) (v::us)) (EP X pins σ Q) X.xe s
section
variable {X:Cx}{a b:Bq}{ta tb:TE}{pos:Ez}
theorem IxR.or {r r':R2}(h:IxR X r)(h':IxR X r'):IxR X (fun x y H Q=>r x y H Q∨r' x y H Q):=by
 intro value slice pins s σ H x y v u Q I rx ry q hs;rcases q with q|q
 ·exact h value slice pins s σ H x y v u Q I rx ry q hs
 ·exact h' value slice pins s σ H x y v u Q I rx ry q hs
theorem MtR.or {id:Du}{r r':V→Ab V→Hp→VK→Prop}(h:MtR X id r)(h':MtR X id r'):MtR X id (fun x xs H Q=>r x xs H Q∨r' x xs H Q):=by
 intro pins s σ H x xs v us Q I rx rs q;rcases q with q|q
 ·exact h pins s σ H x xs v us Q I rx rs q
 ·exact h' pins s σ H x xs v us Q I rx rs q
theorem CL {r:R2}(hr:IxR X r)(ha:PE X a ta)(hb:PE X b tb)(hs:jT b):PE X (.Subscript a b pos) (tOp r ta tb):=by
 intro pins s σ H Q I h;exact Ye (IB ha hb I h fun v u s2 x y H2 I2 rx ry q=>hr a b pins s2 σ H2 x y v u Q I2 rx ry q (hs _ _))
def O1 (K:Ak):R2:=fun x y H Q=>∃ p xs i v,x=.ref p∧y=.int i∧SqL K H p xs∧atI xs i=Aa v∧Q v H
def O6 (K:Ak):R2:=fun x y H Q=>∃ p xs i v,x=.ref p∧y=.int i∧SqT K H p xs∧atI xs i=Aa v∧Q v H
theorem iW:IxR X (O1 X.K):=by
 intro value slice pins s σ H x y v u Q I rx ry h hs;obtain⟨p,xs,i,z,rfl,rfl,hq,he,q⟩:=h;cases rx;obtain⟨t,rfl⟩:=ry;obtain⟨its,r,pl,hz⟩:=I.list hq;obtain⟨j,h1,h2,h3,h4,h5⟩:=aZ he;obtain⟨w,ew,rw'⟩:=r.get h2;have hl:=r.length;have hn:=bB;have fin:EP X pins σ Q w s:=⟨z,H,I,rw',q⟩;by_cases h0:0≤i
 ·have hj:i.toNat=j:=by
   rw[Ww h0 h5] at h1;exact Cp h1
  exact item_listR pl.isList h0 om (by rw[hj];simpa using ew) fin hs
 ·have hj:(i+(its.toArray.size:Aj)).toNat=j:=by
   rw[seqIndex_neg om h4] at h1;rw[Be,← hl];exact Cp h1
  exact Rp (x:=w) pl.isList.typeIs Vy.lookup
   (wpAny_getItem_list_neg (Q:=fun r s'=>r=w∧EP X pins σ Q r s') pl.isList om (by rw[Be] <;> omega) om (by rw[hj];simpa using ew) ⟨rfl,fin⟩) hs
theorem uE:IxR X (O6 X.K):=by
 intro value slice pins s σ H x y v u Q I rx ry h hs;obtain⟨p,xs,i,z,rfl,rfl,hq,he,q⟩:=h;cases rx;obtain⟨t,rfl⟩:=ry;obtain⟨its,r,pl,hz⟩:=I.tuple hq;obtain⟨j,h1,h2,h3,h4,h5⟩:=aZ he;obtain⟨w,ew,rw'⟩:=r.get h2;have hl:=r.length;have hn:=bB;have fin:EP X pins σ Q w s:=⟨z,H,I,rw',q⟩;exact Rp (x:=w) pl.typeIs slot_tuple_getitem.lookup
  (getItem_tuple (j:=j) (Q:=fun r s'=>r=w∧EP X pins σ Q r s') pl om om (by rw[Be,← hl];exact h1) (by simpa using ew) ⟨rfl,fin⟩) hs
theorem Z7 (its:Ab Ac)(n j:Ah)(u:Ac):Ef (·.setIfInBounds j u) { cls:=.type "list",data:=.seq its.toArray n } = { cls:=.type "list",data:=.seq (its.set j u).toArray n }:=by
 simp[Ef]
theorem Inv.lst {pins:Ab (Af × Co)}{σ : St}{H:Hp}{s:Ag}{p:Af}{xs:Ab V}(I:Inv X pins σ H s)(h:H p=Aa (.lst xs)) :
  ∃ (its:Ab Ac) (n:Ah),qN xs its∧s.heap.get? p=Aa { cls:=.type "list",data:=.seq its.toArray n } ∧ xs.length≤sizeLine:=by
 obtain⟨z,its,n,r,e⟩:=I.hok p _ h;exact⟨its,n,r,e,z⟩
theorem Inv.lstUpd {pins:Ab (Af × Co)}{σ : St}{H:Hp}{s:Ag}{p:Af}{xs ys:Ab V}{its its':Ab Ac}{n n':Ah}{f:Co→Co}(I:Inv X pins σ H s)(h:H p=Aa (.lst xs))
  (ho:s.heap.get? p=Aa { cls:=.type "list",data:=.seq its.toArray n }) (hf:f { cls:=.type "list",data:=.seq its.toArray n } = { cls:=.type "list",data:=.seq its'.toArray n' }) (r:qN ys its') (hz:ys.length≤sizeLine) (t:Ah) :
  Inv X pins σ (upd H p (.lst ys)) { s with heap:=s.heap.update p f,toks:=t }:=by
 have e:(s.heap.update p f).get? p=Aa { cls:=.type "list",data:=.seq its'.toArray n' }:=by
  rw[Eb f ho (by rw[hf] <;> rfl),hf]
 refine I.write (x:=p) (e:=p) (by rw[h];trivial) (.inl rfl) (fun b u hb q=>(Bs _ _ (Ea hb)).trans q) ⟨_,e⟩ ?_
 exact⟨hz,its',n',r,e⟩
def CU:V→V→V→Hp→(Hp→Prop)→Prop:=fun o i v H Q=>∃ p xs k j,o=.ref p∧i=.int k∧H p=Aa (.lst xs)∧ixN xs.length k=Aa j∧Q (upd H p (.lst (xs.set j v)))
theorem K3:rQ X CU:=by
 intro pins s σ H o i v ov iv u Q I ro ri rv h;obtain⟨p,xs,k,j,rfl,rfl,hp,hj,q⟩:=h;cases ro;obtain⟨t,rfl⟩:=ri;obtain⟨its,n,r,ho,hz⟩:=I.lst hp;obtain⟨h1,h2,h3,h4⟩:=iV hj;have hl:=r.length;have hn:=bB;have I':Inv X pins σ (upd H p (.lst (xs.set j v))) { s with heap:=s.heap.update p (Ef (·.setIfInBounds j u)) }:=
  I.lstUpd hp ho (Z7 its n j u) (r.set rv j) (by rw[List.length_set];exact hz) s.toks
 by_cases h0:0≤k
 ·have hk:k.toNat=j:=by
   rw[Ww h0 h4] at h1;exact Cp h1
  exact PySem.W.ki_setAt ho h0 om (by rw[Be,← hl];exact h4) (by rw[hk];exact⟨_,I',q⟩)
 ·have hk:(k+(its.toArray.size:Aj)).toNat=j:=by
   rw[seqIndex_neg om h3] at h1;rw[Be,← hl];exact Cp h1
  exact PySem.W.ki_setBack ho om (by rw[Be,← hl];exact h3) om (by rw[hk];exact⟨_,I',q⟩)
theorem aA (lo hi:Am Aj)(n:Ah):(Kl lo hi none n).1=((_H.sIx n 0 lo:Ah):Aj)∧(Kl lo hi none n).2.1=((_H.sIx n n hi:Ah):Aj)∧(Kl lo hi none n).2.2=1:=by
 refine⟨?_,?_,rfl⟩
 ·cases lo with
  |none=>simp[Kl,_H.sIx]
  |some i =>
   simp only[Kl,_H.sIx,Wx,show (1:Aj)>0 by decide,De]
   by_cases h:i<0
   ·simp only[h,De] <;> omega
   ·simp only[h,Dt] <;> omega
 ·cases hi with
  |none=>simp[Kl,_H.sIx]
  |some i =>
   simp only[Kl,_H.sIx,Wx,show (1:Aj)>0 by decide,De]
   by_cases h:i<0
   ·simp only[h,De] <;> omega
   ·simp only[h,Dt] <;> omega
theorem r9 (its:Ab Ac)(lo hi:Am Aj):slicePick its.toArray lo hi none=((its.drop (_H.sIx its.length 0 lo)).take (_H.sIx its.length its.length hi-_H.sIx its.length 0 lo)).toArray:=by
 obtain⟨h1,h2,h3⟩:=aA lo hi its.toArray.size;unfold slicePick;rw[h1,h2,h3];simp only[sliceRange_one,pick_run,Be] <;> rfl
def O8 (K:Ak):V→Am Aj→Am Aj→Hp→VK→Prop:=fun x lo hi H Q=>∃ a xs,x=.ref a∧SqL K H a xs∧∀ p,H p=none→Q (.ref p) (upd H p (.lst (pV xs lo hi)))
theorem oO:SlR X (O8 X.K):=by
 intro pins s σ H x v vl vu lo hi sl Q I rx hs pl pu h;obtain⟨a,xs,rfl,hx,q⟩:=h;cases rx;obtain⟨its,r,ht,hz⟩:=I.list hx;have hlen:=r.length;refine⟨"list",_,Vy.lookup,ht.isList.typeIs,?_⟩;refine wpAny_getItem_list_slice ht.isList hs pl pu .none (by simp) ?_ (by rw[Be] <;> omega)
 rw[r9,← hlen];refine⟨.ref s.heap.objs.size,_,I.laid (t':=s.toks) (o:=.lst (pV xs lo hi)) (fun b ob q=>Ai _ q) (Bd _) ?_,rfl,q _ (I.hok.fresh (Bd _))⟩;exact⟨Dy (fV xs lo hi) hz,_,0,(r.drop (_H.sIx xs.length 0 lo)).take (_H.sIx xs.length xs.length hi-_H.sIx xs.length 0 lo),Az _ rfl⟩
theorem kR.or {f:Ac}{r r':Ab V→Hp→VK→Prop}(h:kR X f r)(h':kR X f r'):kR X f (fun xs H Q=>r xs H Q∨r' xs H Q):=by
 intro pins s σ H xs us Q I rs q;rcases q with q|q
 ·exact h pins s σ H xs us Q I rs q
 ·exact h' pins s σ H xs us Q I rs q
theorem pT:kR X (.type "list") (fun xs H Q=>∃ p ys,xs=[.ref p]∧(SqL X.K H p ys∨SqT X.K H p ys)∧∀ l,H l=none→Q (.ref l) (upd H l (.lst ys))):=by
 intro pins s σ H xs us Q I r h;obtain⟨p,ys,rfl,hq,q⟩:=h;obtain⟨u,rfl,rx⟩:=gF r;cases rx;have fin:∀ (its:Ab Ac),qN ys its→ys.length≤sizeLine→∀ (h':Bi) (c':Ah),(∀ b o',s.heap.get? b=Aa o'→h'.get? b=Aa o') →
   h'.get? s.heap.objs.size=Aa { cls:=.type "list",dict:=none,data:=.seq its.toArray c',slots:=#[] } → EP X pins σ Q (.ref s.heap.objs.size) { s with heap:=h' }:=fun its r' hz h' c' kp e =>
  ⟨.ref s.heap.objs.size,_,I.laid (t':=s.toks) kp (Bd _) (show zR X.prog X.w _ h' _ (.lst ys) from⟨hz,its,c',r',e⟩),rfl,q _ (I.hok.fresh (Bd _))⟩
 rcases hq with hq|hq
 ·obtain⟨its,r',pl,hz⟩:=I.list hq
  have hlen:=r'.length;obtain⟨o,ho,hc,n,hd⟩:=pl.isList;exact call_list_seq p (.inl rfl) ho hc hd (fun h' c' kp e=>fin its r' hz h' c' kp e) (by simp only[Be] <;> omega)
 ·obtain⟨its,r',pl,hz⟩:=I.tuple hq
  have hlen:=r'.length;obtain⟨o,ho,hc,n,hd⟩:=pl;exact call_list_seq p (.inr rfl) ho hc hd (fun h' c' kp e=>fin its r' hz h' c' kp e) (by simp only[Be] <;> omega)
theorem pO:kR X (.type "tuple") (fun xs H Q=>∃ p ys,xs=[.ref p]∧((SqL X.K H p ys∧∀ l,H l=none→Q (.ref l) (upd H l (.tup ys)))∨(SqT X.K H p ys∧Q (.ref p) H))):=by
 intro pins s σ H xs us Q I r h;obtain⟨p,ys,rfl,h⟩:=h;obtain⟨u,rfl,rx⟩:=gF r;cases rx;rcases h with⟨hq,q⟩|⟨hq,q⟩
 ·obtain⟨its,r',pl,hz⟩:=I.list hq
  have hlen:=r'.length;refine call_tuple_list pl.isList (fun h' kp=>?_) (by simp only[Be] <;> omega)
  have I1:Inv X pins σ H { s with heap:=h' }:=I.kept (t':=s.toks) kp
  have I2:Inv X pins σ (upd H h'.objs.size (.tup ys)) { s with heap:=h'.push { cls:=.type "tuple",data:=.seq its.toArray } }:=
   I1.laid (t':=s.toks) (fun b o e=>Ai _ e) (Bd _) (show zR X.prog X.w _ _ _ (.tup ys) from⟨hz,its,r',Vv _ _⟩)
  exact⟨.ref h'.objs.size,_,I2,rfl,q _ (I1.hok.fresh (Bd _))⟩
 ·obtain⟨its,r',pl,hz⟩:=I.tuple hq
  exact call_tuple_same pl ⟨.ref p,H,I,rfl,q⟩
def tyV (K:Ak)(T:Du)(x:V)(H:Hp):Prop:=match x with
 |.str _=>T = "str"
 |.int _=>T = "int"
 |.ref p=>(T = "list" ∧ ∃ xs,SqL K H p xs)∨(T = "tuple" ∧ ∃ o,K.lookup p=Aa o∧o.cls=.type "tuple" ∧ o.dict=none) ∨
   (T = "dict" ∧ ((∃ kvs,H p=Aa (.dK kvs))∨∃ kvs,H p=Aa (.dT kvs)))∨(T = "set" ∧ ∃ S n,H p=Aa (.set S n))
 |_=>Fc
theorem YW {pins:Ab (Af × Co)}{σ : St}{H:Hp}{s:Ag}{T:Du}{x:V}{v:Ac}(I:Inv X pins σ H s)(r:qI x v)(ty:tyV X.K T x H) :
  s.TypeIs v T∧∀ a,v=.ref a→∃ ob,s.heap.get? a=Aa ob∧ob.dict=none:=by
 cases x with
 |str z =>
  obtain⟨t,rfl⟩:=r;cases (show T = "str" from ty)
  exact⟨typeIs_str s z t,fun _ e=>nomatch e⟩
 |int i =>
  obtain⟨t,rfl⟩:=r;cases (show T = "int" from ty)
  exact⟨Yf s i t,fun _ e=>nomatch e⟩
 |ref p =>
  cases r;rcases ty with⟨rfl,xs,hq⟩|⟨rfl,o,hk,hc,hd⟩|⟨rfl,hk⟩|⟨rfl,S,n,hk⟩
  ·obtain⟨its,_,pl,_⟩:=I.list hq
   refine⟨pl.isList.typeIs,fun a e=>?_⟩;cases e;obtain⟨o,n,e,c,hd,_⟩:=pl;exact⟨o,e,hd⟩
  ·refine⟨⟨o,I.kIn p o hk,hc⟩,fun a e=>?_⟩
   cases e;exact⟨o,I.kIn _ o hk,hd⟩
  ·have z:∃ o,s.heap.get? p=Aa o∧o.ExactDict:=by
    rcases hk with⟨kvs,hk⟩|⟨kvs,hk⟩
    ·obtain⟨_,_,_,_,o,_,_,e,ex,_⟩:=I.hok p _ hk
     exact⟨o,e,ex⟩
    ·obtain⟨_,_,_,_,o,_,_,e,ex,_⟩:=I.hok p _ hk
     exact⟨o,e,ex⟩
   obtain⟨o,e,ex⟩:=z;refine⟨⟨o,e,ex.1⟩,fun a e2=>?_⟩;cases e2;exact⟨o,e,ex.2.1⟩
  ·obtain⟨o,_,_,_,e,ex,_⟩:=I.hok p _ hk
   refine⟨⟨o,e,ex.1⟩,fun a e2=>?_⟩;cases e2;exact⟨o,e,ex.2.1⟩
 |_=>exact Ao ty
variable {o e:Bq}{es:Ab Bq}{to:TE}{t:TA}{name:Au}{apos cpos:Ez}{T id:Du}{r:V→Ab V→Hp→VK→Prop}
/- xs.append(e),list.index on a module's tuple .. are MtR facts of 06m -/
end
end _L
namespace _L
open PySem PySem.Spec PyProof.Rows
def MtM (X:Cx)(id:Du)(r:V→Ab V→Hp→VK→Prop):Prop:=
 ∀ (pins:Ab (Af × Co)) (s:Ag) (σ : St) (H:Hp) (x:V) (xs:Ab V) (v:Ac) (us:Ab Ac) (Q:VK),Inv X pins σ H s→qI x v→qN xs us→r x xs H Q →
  Ap (Aw X.prog X.w) X.A (call (.builtin id) (v::us)) (EP X pins σ Q) X.xe s
theorem qN.one {x:V}{us:Ab Ac}(h:qN [x] us):∃ u,us=[u]∧qI x u:=gF h
theorem qN.two {x y:V}{us:Ab Ac}(h:qN [x,y] us):∃ u v,us=[u,v]∧qI x u∧qI y v:=ZS h
theorem qN.rep {xs:Ab V}{us:Ab Ac}(h:qN xs us):∀ k:Ah,qN (Cg k xs).flatten (Cg k us).flatten
 |0=>.nil
 |k+1=>by
  rw[Ew,Ew,Hb,Hb];exact qN.append h (qN.rep h k)
theorem dS (its:Ab Ac):∀ (k:Ah) (acc:Ab Ac),
  Yg (fun x1 x2=>x1++x2) acc.toArray (Cg k its.toArray)=(acc++(Cg k its).flatten).toArray
 |0,acc=>by simp
 |k+1,acc=>by
  have e:acc.toArray++its.toArray=(acc++its).toArray:=by simp
  have e2:(acc++its)++(Cg k its).flatten=acc++(Cg (k+1) its).flatten:=by
   rw[Ew,Hb,Ej]
  rw[← e2,← dS its k (acc++its),← e,Ew,Km]
section
variable {X:Cx}{pins:Ab (Af × Co)}{σ : St}{H:Hp}{s:Ag}{l b:Af}{xs ys zs:Ab V}
theorem Inv.lset {its its':Ab Ac}{n:Ah}{f:Bk Ac→Bk Ac}{t':Ah}(I:Inv X pins σ H s)(hH:H l=Aa (.lst xs))
  (e:s.heap.get? l=Aa { cls:=.type "list",data:=.seq its.toArray n }) (hf:f its.toArray=its'.toArray) (hv:qN ys its') (hz:ys.length≤sizeLine) :
  Inv X pins σ (upd H l (.lst ys)) { s with heap:=s.heap.update l (Ef f),toks:=t' }:=by
 have q:=Wy e f;rw[hf] at q;refine I.write (x:=l) (e:=l) (by rw[hH];exact trivial) (.inl rfl) (fun b' u hb hu=>(Bs s.heap (Ef f) (Ea hb)).trans hu) ⟨_,q⟩ ?_
 exact⟨hz,its',_,hv,q⟩
theorem Inv.lstM (I:Inv X pins σ H s)(hH:H l=Aa (.lst xs)):xs.length≤sizeLine∧∃ (its:Ab Ac) (n:Ah),qN xs its∧xs.length=its.length∧s.heap.get? l=Aa { cls:=.type "list",data:=.seq its.toArray n }:=by
 obtain⟨z,its,n,r,e⟩:=I.hok l _ hH;exact⟨z,its,n,r,r.length,e⟩
theorem JB {n:Ah}(h:n≤sizeLine):Kz n=false:=by
 unfold Kz;exact Bu om
end
section
variable {X:Cx}
def MI:V→Ab V→Hp→VK→Prop:=fun x vs H Q=>∃ l xs y,x=.ref l∧vs=[y]∧H l=Aa (.lst xs)∧xs.length<sizeLine∧Q .non (upd H l (.lst (xs++[y])))
theorem WK:MtM X "list.append" MI:=by
 intro pins s σ H x vs v us Q I rx rv h;obtain⟨l,xs,y,rfl,rfl,hH,hz,q⟩:=h;cases rx;obtain⟨u,rfl,ru⟩:=rv.one;obtain⟨z,its,n,r,hl,e⟩:=I.lstM hH;refine Nk Uy ⟨_,e,rfl⟩ TD (Tj _ _) (Vz l its.toArray n u (by rw[Be];omega)) ⟨e,?_⟩
 refine⟨.non,_,I.lset (its':=its++[u]) hH e (by simp) (r.append (.cons ru .nil)) ?_,rfl,q⟩
 rw[Br,Me];omega
theorem FD {α : Type}(xs:Ab α)(k:Ah):(Cg k xs).flatten.length=k*xs.length:=by
 induction k with
 |zero=>simp
 |succ k ih=>rw[Ew,Hb,Br,ih,Zp,Zq]
end
end _L
namespace _L
open PySem PySem.Spec PyProof.Rows
section
variable {κ : Type}[DecidableEq κ]
def vY (kvs:Ab (κ × V))(k:κ):Am V:=(kvs.find? fun kv=>decide (kv.1=k)).map (·.2)
def uL (kvs:Ab (κ × V))(k:κ)(v:V):Ab (κ × V):=
 if (kvs.any fun kv=>decide (kv.1=k))=true then kvs.map (fun kv=>if kv.1=k then (kv.1,v) else kv) else kvs++[(k,v)]
theorem mU {p:κ × V}{r:Ab (κ × V)}{k:κ}(e:p.1=k):vY (p::r) k=Aa p.2:=by simp[vY,Ia,e]
theorem mT {p:κ × V}{r:Ab (κ × V)}{k:κ}(e:¬ p.1=k):vY (p::r) k=vY r k:=by simp[vY,Ia,e]
theorem aK (k:κ):∀ kvs:Ab (κ × V),(kvs.any fun kv=>decide (kv.1=k))=(vY kvs k).isSome
 |[]=>rfl
 |p::r=>by
  rw[Jd];by_cases e:p.1=k
  ·simp only[mU e,Cn e,Zr,Uz]
  ·rw[mT e,Bu e,Mf];exact aK k r
theorem fW (kvs:Ab (κ × V))(k:κ)(v:V):(uL kvs k v).length≤kvs.length+1:=by
 unfold uL
 split
 ·rw[Ar];omega
 ·rw[Br,Ci,Fu];omega
theorem gT.isSome_eq {o:Am V}{u:Am Ac}(r:gT o u):o.isSome=u.isSome:=by
 cases o with
 |none=>cases u with
  |none=>rfl
  |some _=>exact(show Fc from r).elim
 |some _=>cases u with
  |none=>exact(show Fc from r).elim
  |some _=>rfl
theorem gT.getD {o:Am V}{u:Am Ac}{d:V}{d':Ac}(r:gT o u)(rd:qI d d'):qI (o.getD d) (u.getD d'):=by
 cases o with
 |none=>cases u with
  |none=>exact rd
  |some _=>exact(show Fc from r).elim
 |some _=>cases u with
  |none=>exact(show Fc from r).elim
  |some _=>exact r
theorem KV.val {kvs:Ab (κ × V)}{vs:Ab (κ × Ac)}(r:KV kvs vs)(k:κ):gT (vY kvs k) (TW vs k):=by
 unfold KV at r
 induction r with
 |nil=>exact Jl
 |@cons p q ps qs h t ih =>
  obtain⟨h1,h2⟩:=h;by_cases e:p.1=k
  ·have e':q.1=k:=h1.symm.trans e
   have b:TW (q::qs) k=Aa q.2:=by simp[TW,Ia,e']
   rw[mU e,b];exact h2
  ·have e':¬ q.1=k:=fun z=>e (h1.trans z)
   have b:TW (q::qs) k=TW qs k:=by simp[TW,Ia,e']
   rw[mT e,b];exact ih
theorem KV.any {kvs:Ab (κ × V)}{vs:Ab (κ × Ac)}(r:KV kvs vs)(k:κ):(kvs.any fun kv=>decide (kv.1=k))=vs.any fun kv=>decide (kv.1=k):=by
 unfold KV at r
 induction r with
 |nil=>rfl
 |cons h t ih=>rw[Jd,Jd,ih,h.1]
theorem KV.repl {kvs:Ab (κ × V)}{vs:Ab (κ × Ac)}(r:KV kvs vs)(k:κ){y:V}{u:Ac}(ry:qI y u) :
  KV (kvs.map fun kv=>if kv.1=k then (kv.1,y) else kv) (vs.map fun kv=>if kv.1=k then (kv.1,u) else kv):=by
 unfold KV at r ⊢
 induction r with
 |nil=>exact .nil
 |@cons p q ps qs h t ih =>
  rw[Df,Df];refine .cons ?_ ih;obtain⟨h1,h2⟩:=h;by_cases e:p.1=k
  ·rw[AT e,AT (h1.symm.trans e)];exact⟨h1,ry⟩
  ·rw[Bc e,Bc (fun z=>e (h1.trans z))];exact⟨h1,h2⟩
theorem KV.put {kvs:Ab (κ × V)}{vs:Ab (κ × Ac)}(r:KV kvs vs)(k:κ){y:V}{u:Ac}(ry:qI y u):KV (uL kvs k y) (stored vs k u):=by
 unfold uL stored;rw[r.any k];by_cases e:(vs.any fun kv=>decide (kv.1=k))=true
 ·rw[AT e,AT e];exact r.repl k ry
 ·rw[Bc e,Bc e];exact Paired.snoc r ⟨rfl,ry⟩
theorem KV.length {kvs:Ab (κ × V)}{vs:Ab (κ × Ac)}(r:KV kvs vs):kvs.length=vs.length:=Paired.length r
end
theorem Z2 {P:Bh}{w:Bv}{k:Key}{u:Ac}(r:qI (kV k) u):(x5 P w).is k u=true:=by
 cases k with
 |inl i=>obtain⟨t,e⟩:=(show ∃ t,u=Ov i t from r);subst e;exact aR P w i t
 |inr x=>obtain⟨t,e⟩:=(show ∃ t,u=Vs x t from r);subst e;exact aS P w x t
theorem dZ {P:Bh}{w:Bv}:∀ {ks:Ab Key} {us:Ab Ac},qN (ks.map kV) us→ItemsAre (x5 P w) ks us
 |[],_,r=>by rw[Nc] at r;cases r;exact .nil
 |k::ks,_,r=>by
  rw[Df] at r;cases r with
  |cons h t=>exact .cons (Z2 h) (dZ t)
abbrev KT (H:Hp):Ab (Ab Key × V)→Ab (Ab Key × Af × Ac)→Prop:=Paired fun p q=>p.1=q.1∧H q.2.1=Aa (.tup (p.1.map kV))∧qI p.2 q.2.2
theorem KT.val {H:Hp}{kvs:Ab (Ab Key × V)}{xs:Ab (Ab Key × Af × Ac)}(r:KT H kvs xs)(k:Ab Key):gT (vY kvs k) ((Wa xs k).map (·.2)):=by
 induction r with
 |nil=>exact Jl
 |@cons p q ps qs h t ih =>
  obtain⟨h1,_,h2⟩:=h;by_cases e:p.1=k
  ·have e':q.1=k:=h1.symm.trans e
   have b:Wa (q::qs) k=Aa q.2:=by simp[Wa,Ia,e']
   rw[mU e,b];exact h2
  ·have e':¬ q.1=k:=fun z=>e (h1.trans z)
   have b:Wa (q::qs) k=Wa qs k:=by simp[Wa,Ia,e']
   rw[mT e,b];exact ih
theorem KT.repl {H:Hp}{kvs:Ab (Ab Key × V)}{xs:Ab (Ab Key × Af × Ac)}(r:KT H kvs xs)(k:Ab Key){y:V}{u:Ac}(ry:qI y u) :
  KT H (kvs.map fun kv=>if kv.1=k then (kv.1,y) else kv) (xs.map (putAt k u)):=by
 induction r with
 |nil=>exact .nil
 |@cons p q ps qs h t ih =>
  rw[Df,Df];refine .cons ?_ ih;obtain⟨h1,h2,h3⟩:=h;unfold putAt;by_cases e:p.1=k
  ·rw[AT e,AT (h1.symm.trans e)];exact⟨h1,h2,ry⟩
  ·rw[Bc e,Bc (fun z=>e (h1.trans z))];exact⟨h1,h2,h3⟩
theorem KT.put {H:Hp}{kvs:Ab (Ab Key × V)}{xs:Ab (Ab Key × Af × Ac)}(r:KT H kvs xs)(k:Ab Key){b:Af}{y:V}{u:Ac}(hb:H b=Aa (.tup (k.map kV)))(ry:qI y u) :
  KT H (uL kvs k y) (storedH xs k b u):=by
 have e:(kvs.any fun kv=>decide (kv.1=k))=(Wa xs k).isSome:=by
  rw[aK,(r.val k).isSome_eq,Option.isSome_map]
 unfold uL storedH;rw[e];by_cases q:(Wa xs k).isSome=true
 ·rw[AT q,AT q];exact r.repl k ry
 ·rw[Bc q,Bc q];exact Paired.snoc r ⟨rfl,hb,ry⟩
theorem KT.keeps {H H':Hp}{kvs:Ab (Ab Key × V)}{xs:Ab (Ab Key × Af × Ac)}(r:KT H kvs xs)(ht:∀ b ys,H b=Aa (.tup ys)→H' b=Aa (.tup ys)):KT H' kvs xs:=
 Paired.mapP r fun _ _ z=>⟨z.1,ht _ _ z.2.1,z.2.2⟩
section
variable {P:Bh}{w:Bv}{H:Hp}{h:Bi}{a:Af}
theorem GQ {u:HO}(ok:HOk P w H h)(e:Rd H a u):zR P w H h a u:=e.ok ok
theorem KP {kvs:Ab (Key × V)}(ok:HOk P w H h)(e:Rd H a (.dK kvs)):kvs.length≤sizeLine∧(a == Ih)=false∧∃ vs,KV kvs vs∧h.DictOf (x5 P w) a vs:=
 show zR P w H h a (.dK kvs) from GQ ok e
theorem KO {kvs:Ab (Key × V)}(ok:HOk P w H h)(e:H a=Aa (.dK kvs)):kvs.length≤sizeLine∧(a == Ih)=false∧∃ vs,KV kvs vs∧h.DictOf (x5 P w) a vs:=KP ok (.inl e)
theorem h9 {ks:Ab Key}(ok:HOk P w H h)(e:H a=Aa (.tup (ks.map kV))):(Ow (x5 P w)).is h ks a:=by
 obtain⟨_,its,r,o,h1,h2,n,h3⟩:=(show zR P w H h a (.tup (ks.map kV)) from ok a _ e)
 exact⟨o,its.toArray,n,h1,h2,h3,by simpa using dZ r⟩
theorem KQ {kvs:Ab (Ab Key × V)}(ok:HOk P w H h)(e:Rd H a (.dT kvs)):kvs.length≤sizeLine∧(a == Ih)=false ∧
  ∃ xs,KT H kvs xs∧h.DictOfH (Ow (x5 P w)) a xs:=by
 obtain⟨z,y,xs,r,o,es,ep,h1,h2,h3,h4,h5⟩:=(show zR P w H h a (.dT kvs) from GQ ok e)
 refine⟨z,y,xs,r,o,es,ep,h1,h2,h3,h4,fun x hx=>?_,h5⟩;have all:∀ {l:Ab (Ab Key × V)} {m:Ab (Ab Key × Af × Ac)},KT H l m→∀ x∈m,(Ow (x5 P w)).is h x.1 x.2.1:=by
  intro l m q
  induction q with
  |nil=>intro x hx;exact nomatch hx
  |@cons p q ps qs hq t ih =>
   intro x hx;rcases Av.mp hx with e|hx
   ·subst e
    exact h9 ok (by rw[← hq.1];exact hq.2.1)
   ·exact ih x hx
 exact all r x hx
theorem HD {kvs:Ab (Ab Key × V)}(ok:HOk P w H h)(e:H a=Aa (.dT kvs)):kvs.length≤sizeLine∧(a == Ih)=false ∧
  ∃ xs,KT H kvs xs∧h.DictOfH (Ow (x5 P w)) a xs:=KQ ok (.inl e)
end
def nU (H:Hp)(a:Af)(y:V)(r:Am V):Prop:=
 (∃ kvs k,Rd H a (.dK kvs)∧y=kV k∧r=vY kvs k)∨∃ kvs k b,Rd H a (.dT kvs)∧y=.ref b∧H b=Aa (.tup (k.map kV))∧r=vY kvs k
def nV (H:Hp)(a:Af)(y v:V)(H':Hp):Prop:=
 (∃ kvs k,H a=Aa (.dK kvs)∧y=kV k∧kvs.length<sizeLine∧H'=upd H a (.dK (uL kvs k v))) ∨
 ∃ kvs k b,H a=Aa (.dT kvs)∧y=.ref b∧H b=Aa (.tup (k.map kV))∧kvs.length<sizeLine∧H'=upd H a (.dT (uL kvs k v))
theorem nU.k {H:Hp}{a:Af}{kvs:Ab (Key × V)}{k:Key}(e:H a=Aa (.dK kvs)):nU H a (kV k) (vY kvs k):=.inl ⟨kvs,k,.inl e,rfl,rfl⟩
theorem nU.t {H:Hp}{a b:Af}{kvs:Ab (Ab Key × V)}{k:Ab Key}(e:H a=Aa (.dT kvs))(eb:H b=Aa (.tup (k.map kV))):nU H a (.ref b) (vY kvs k):=.inr ⟨kvs,k,b,.inl e,rfl,eb,rfl⟩
theorem nV.k {H:Hp}{a:Af}{kvs:Ab (Key × V)}{k:Key}{v:V}(e:H a=Aa (.dK kvs))(hl:kvs.length<sizeLine):nV H a (kV k) v (upd H a (.dK (uL kvs k v))):=.inl ⟨kvs,k,e,rfl,hl,rfl⟩
theorem nV.t {H:Hp}{a b:Af}{kvs:Ab (Ab Key × V)}{k:Ab Key}{v:V}(e:H a=Aa (.dT kvs))(eb:H b=Aa (.tup (k.map kV)))(hl:kvs.length<sizeLine) :
  nV H a (.ref b) v (upd H a (.dT (uL kvs k v))):=.inr ⟨kvs,k,b,e,rfl,eb,hl,rfl⟩
section
variable {X:Cx}{pins:Ab (Af × Co)}{σ : St}{H:Hp}{s:Ag}{a:Af}{y v:V}{u r:Ac}{o:Am V}{A:Bo}{E:Ac→Ag→Prop}
theorem Inv.big (I:Inv X pins σ H s):Ih<s.heap.objs.size:=by
 have h:Cf<s.heap.objs.size:=(I.mod.glob.keeps I.bk).lt;exact Le (by decide) h
theorem iB {h':Bi}{t':Ah}{ob:HO}(I:Inv X pins σ H s)(mu:Mut (H a))(hs:Gs a s.heap h')(he:∃ q,h'.get? a=Aa q)(new:zR X.prog X.w (upd H a ob) h' a ob) :
  Inv X pins σ (upd H a ob) { s with heap:=h',toks:=t' }:=
 I.write (x:=a) (e:=a) mu (.inl rfl) (fun b q hb z=>(hs.2 b hb).trans z) he new
theorem L5 {P:Bh}{w:Bv}{H':Hp}{h':Bi}{kvs:Ab (Key × V)}{vs:Ab (Key × Ac)}(z:kvs.length≤sizeLine)(hd:(a == Ih)=false)(rel:KV kvs vs)(dd:h'.DictOf (x5 P w) a vs) :
  zR P w H' h' a (.dK kvs):=⟨z,hd,vs,rel,dd⟩
theorem XA {H':Hp}{Q:Rm→Ag→Prop}(hu:A.units+1<Ds)(I:Inv X pins σ H s)(g:nV H a y v H')(ry:qI y u)(rv:qI v r)(h:∀ s',Inv X pins σ H' s'→Q () s') :
  Ap (Aw X.prog X.w) A (Yz (.ref a) u r) Q E s:=by
 rcases g with⟨kvs,k,e,ey,l,eH⟩|⟨kvs,k,b,e,ey,eb,l,eH⟩
 ·subst ey eH
  obtain⟨z,hd,vs,rel,dd⟩:=KO I.hok e;have hz:vs.length≤sizeLine:=by rw[← rel.length];exact z
  have hl:(uL kvs k v).length≤sizeLine:=by have:=fW kvs k v;omega
  refine wpAny_setItem_pairs (hsz:=hz) (Z2 ry) dd fun h' dd' hs=>h _ ?_;have he:∃ q,h'.get? a=Aa q:=let ⟨q,_,_,hq,_⟩:=dd';⟨q,hq⟩
  exact iB I (by rw[e];exact Jl) hs he (L5 hl hd (rel.put k rv) dd')
 ·subst ey eH
  cases (show u=Ch b from ry)
  obtain⟨z,hd,xs,rel,dd⟩:=HD I.hok e;have hz:xs.length≤sizeLine:=by rw[← Paired.length rel];exact z
  have hl:(uL kvs k v).length≤sizeLine:=by have:=fW kvs k v;omega
  refine wpAny_setItem_heap (hsz:=hz) (Va hu) (h9 I.hok eb) dd fun h' dd' hs=>h _ ?_;obtain⟨q,es,ep,hq,h2,h3,h4,_,h5⟩:=dd';refine iB I (by rw[e];exact Jl) hs ⟨q,hq⟩ ⟨hl,hd,_,(rel.put k eb rv).keeps fun c ys ec=>?_,q,es,ep,hq,h2,h3,h4,h5⟩
  rw[qP (HX ec e (fun z=>nomatch z))];exact ec
end
theorem U1 {P:Bh}{w:Bv}{H:Hp}(h:Bi)(hb:Ih<h.objs.size):zR P w H (h.push { cls:=.type "dict",data:=.dict #[] }) h.objs.size (.dK []):=
 ⟨Gn _,Ng.mpr (Ea (Cc hb)),[],.nil,Heap.DictOf.new h⟩
def E9:TE:=fun _ H Q=>∀ p,H p=none→Q (.ref p) (upd H p (.dK []))
section
variable {X:Cx}{pos:Ez}
theorem cO:PE X (.Dict [] [] pos) E9:=fun pins s σ H Q I h =>
 wpAny_Dict_empty ⟨.ref s.heap.objs.size,_,I.laid (a:=s.heap.objs.size) (o:=.dK []) (t':=s.toks) (fun _ _ q=>Ai _ q) (Bd _) (U1 s.heap I.big),rfl,h _ (I.hok.fresh (Bd _))⟩
end
section
variable {X:Cx}{pins:Ab (Af × Co)}{σ : St}{H:Hp}{s:Ag}{a:Af}{y d:V}{u r:Ac}{o:Am V}{A:Bo}{E:Ac→Ag→Prop}
theorem NI {Q:Ac→Ag→Prop}(hu:A.units+1<Ds)(I:Inv X pins σ H s)(g:nU H a y o)(ry:qI y u)(rd:qI d r)(h:∀ w' s',Inv X pins σ H s'→qI (o.getD d) w'→Q w' s') :
  Ap (Aw X.prog X.w) A (call (.builtin "dict.get") [.ref a,u,r]) Q E s:=by
 rcases g with⟨kvs,k,e,ey,l⟩|⟨kvs,k,b,e,ey,eb,l⟩
 ·subst ey
  obtain⟨z,hd,vs,rel,dd⟩:=KP I.hok e;refine Vk Mg dd.typeIs Rq (Qs _ _ _) (meets_dict_get_default (x5 X.prog X.w) a (Z2 ry) hd r) ⟨_,dd.mapOf,h _ _ (I.tok _) ?_⟩;rw[l];exact(rel.val k).getD rd
 ·subst ey
  cases (show u=Ch b from ry)
  obtain⟨z,hd,xs,rel,dd⟩:=KQ I.hok e;refine Vk Mg dd.typeIs Rq (Qs _ _ _) (meetsH_dict_get_default (Ow (x5 X.prog X.w)) a b hd r) ⟨Va hu,k,xs,h9 I.hok eb,dd,h _ _ (I.tok _) ?_⟩;rw[l];exact(rel.val k).getD rd
end
end _L
namespace _A
open PySem PySem.W PySem.Calls PyProof.Rows
theorem tK {P:Yt}{h:Bi}:∀ (ns:Ab Aj) (vs:Ab Ac),WellAll P h vs (ns.map WData.int)→Jc vs ns:=by
 intro ns
 induction ns with
 |nil =>
  intro vs w;rw[Nc] at w;cases w;exact .nil
 |cons n ns ih =>
  intro vs w;rw[Df] at w;cases w with
  |cons a b =>
   cases a;exact .cons _ _ (ih _ b)
theorem YN {l:OpenLaw}{n:Ah}(hn:l.most=Aa n){P:Yt}{h:Bi}{args:Ab WData}{vals:Ab Ac}
  (hpre:l.row.toRowW.claim.pre args=true) (hwl:WellAll P h vals args) :
  ∃ a vs ns,vals=[Ch a]∧args=[WData.list (ns.map WData.int)]∧h.get? a=Aa { cls:=.type "list",data:=.seq vs.toArray } ∧ Jc vs ns∧ns.length≤n:=by
 have hsh:WShape.hasAll [] args [.list .int]=true:=(pre_splitW hpre).1;have hc:l.pre.holds [] { args:=args } = true:=(pre_splitW hpre).2;obtain⟨d,r,rfl,h1,h2⟩:=hasAllW_cons hsh;obtain rfl:=hasAllW_nil h2;obtain⟨xs,rfl,h3⟩:=hasW_list h1;obtain⟨ns,rfl⟩:=items_int h3;have hlen:ns.length≤n:=by
  unfold OpenLaw.pre at hc;have h4:(WTm.not (.lt (.lit (.int (n:Aj))) (.len (.arg 0)))).holds [] { args:=[.list (ns.map .int)] } = true:=by
   have h4:=(holds_andW hc).1;rw[hn] at h4;exact h4
  have h5:=condW_of h4 (w_not (w_lt w_lit (w_len_list (w_arg rfl))));rw[Ar] at h5;refine Nat.le_of_not_lt fun q=>?_;have q':(n:Aj)<((ns.length:Ah):Aj):=by omega
  first
   |(rw[Cn q'] at h5;exact absurd h5 (by decide))
   |(simp at h5;omega)
 cases hwl with
 |cons w1 w2 =>
  cases w2;cases w1 with
  |list ho hall=>exact⟨_,_,ns,rfl,rfl,ho,tK ns _ hall,hlen⟩
theorem WY (l:OpenLaw)(args:Ab WData):l.row.toRowW.claim.post args (.bool true) args=true:=
 postW_of (r:=l.row.toRowW) (X:=(true == true))
  (show wS [] (.bool true) .bool=true by first|rfl|decide|simp[wS,WShape.arms,WShape.armsAll])
  (show (WTm.eq .res (.lit (.bool true))).value [] { args:=args,res:=Aa (.bool true),after:=args } = Aa (.bool (true == true)) from w_eq_bool (w_res rfl) w_lit) rfl
theorem attach_call {l:OpenLaw}{n:Ah}{q:Bh}{loose:Ab Au}{XP:(Au→Am Ac)→Bi→Prop}{YP:Bv→Bi→Prop}{d:DefRec}
  (hn:l.most=Aa n) (hdf:d.params.defaults=[])
  (call:∀ (w:Bv) (s₀ s₁:Ag) (mg mb:Au→Am Ac) (fa:Af) (o:Co) (pm cd doc:Ac) (a:Af) (vs:Ab Ac) (ns:Ab Aj),
   Ground q loose [] XP w s₀ mg mb s₁.heap→YP w s₁.heap →
   s₁.heap.get? fa=Aa o→o.data=.func (docDef d.name d.params d.body d.scope pm cd doc)→s₁.heap.CodeRec cd d.name→mg d.name=Aa (.ref fa) →
   s₁.heap.get? a=Aa { cls:=.type "list",data:=.seq vs.toArray } → Jc vs ns→ns.length≤n→s₁.gens=#[] →
   Ja (Aw l.prog w) Pf (.call (.ref fa) ⟨[.ref a],[]⟩) (fun r s'=>r=.ok (.ret (.bool true))∧OldK s₁.heap s'.heap∧s'.os=s₁.os∧L2 s'.gens) s₁) :
  WalkO q loose XP YP l.row.toRowW d [] (fun f vs=>Yh f vs):=by
 intro w s₀ s₁ mg mb G Y fa o pm cd doc dV kV ho hd hcd hD hmg hg args vals as hpre hlay hrd hwl hlo;obtain rfl:dV=.none:=Dflts.none hD hdf;obtain rfl:kV=.none:=Dflts.noKw hD;obtain⟨a,vs,ns,rfl,rfl,hobj,hints,hlen⟩:=YN hn hpre hwl;refine enter_call (Ip (call w s₀ s₁ mg mb fa o pm cd doc a vs ns G Y ho (fd_plain hd) hcd hmg hobj hints hlen hg) fun r s' hq=>?_);obtain⟨rfl,h2,h3,h4⟩:=hq;exact⟨.inl ⟨.bool true,.bool true,[],rfl,fun _=>rfl,.bool true,WY l _,fun _=>⟨Lq,fun _ hm=>(nomatch hm)⟩⟩,h2,h3,h4⟩
end _A
namespace _L
open PySem PySem.Spec PyProof.Rows
theorem YZ {vs:Ab Ac}{ns:Ab Aj}(h:Jc vs ns):qN (ns.map V.int) vs:=by
 induction h with
 |nil=>exact .nil
 |cons n t h ih=>exact .cons ⟨t,rfl⟩ ih
def SqX (K:Ak)(H:Hp)(a:Af)(xs:Ab V):Prop:=
 Rd H a (.lst xs)∨∃ (its:Ab Ac) (n:Ah),K.lookup a=Aa { cls:=.type "list",data:=.seq its.toArray n } ∧ xs.length≤sizeLine∧qN xs its
theorem SqX.l {K:Ak}{H:Hp}{a:Af}{xs:Ab V}(h:SqX K H a xs):SqL K H a xs:=by
 rcases h with h|⟨its,n,e,l,v⟩
 ·exact .inl h
 ·exact .inr ⟨_,its.toArray,n,e,rfl,rfl,rfl,by rw[Be,← v.length];exact l,by simpa using v⟩
def V8 (H:Hp):Prop:=∀ b,H b=none∨∃ o xs,H b=Aa (.frz o (.lst xs))
theorem UQ {P:Bh}{w:Bv}{K:Ak}{mg mb:Au→Am Ac}{CX:CXT}{k:Ah}{fa a:Af}{fd:Fj}{x:Au}{sp:Sp}{s₁:Ag}{vs:Ab Ac}{ns:Ab Aj}
  (KX:K.In s₁.heap) (hns:s₁.heap.Ns Cf mg) (hb:s₁.heap.Ns Tp mb) (hbb:∀ x:Au,x ≠ "__name__" → mb x=Gc x) (hlim:s₁.heap.NoLimit) (hg:s₁.gens=#[])
  (ha:s₁.heap.get? a=Aa { cls:=.type "list",data:=.seq vs.toArray }) (hi:Jc vs ns) (hl:ns.length≤sizeLine) (hr:Room k Pf)
  (F:∀ base:Bi,K.In base→base.Ns Cf mg→FnOk P w K mg base CX k fa fd [x] sp) (hbind:∀ (s:Ag) (u:Ac),Nh s fd ⟨[u],[]⟩ [(x,u)])
  (hsp:∀ H:Hp,V8 H→SqX K H a (ns.map V.int)→sp [.ref a] H (fun v _=>v=.bl true) fun _ _ _=>Fc)
  (hCX:∀ H e s',CX [] H s₁ (fun _ _ _=>Fc) e s'→Fc) :
  Ja (Aw P w) Pf (.call (.ref fa) ⟨[.ref a],[]⟩) (fun r s'=>r=.ok (.ret (.bool true))∧OldK s₁.heap s'.heap∧s'.os=s₁.os∧L2 s'.gens) s₁:=by
 have rv:=YZ hi;have lenV:=hi.length;have core:∀ H:Hp,V8 H→SqX K H a (ns.map V.int)→HOk P w H s₁.heap→(∀ b,H b≠none→b=a)→(H a≠none→K.lookup a=none) →
   Ja (Aw P w) Pf (.call (.ref fa) ⟨[.ref a],[]⟩) (fun r s'=>r=.ok (.ret (.bool true))∧OldK s₁.heap s'.heap∧s'.os=s₁.os∧L2 s'.gens) s₁:=by
  intro H hO hS hok hA hK;have base_of:∀ {b:Af} {o:Co},s₁.heap.get? b=Aa o→H b=none→(p7 s₁.heap H).get? b=Aa o:=fun e n=>UK e n;have noA:∀ {b:Af} {o:Co} {es:Bk DictEntry} {ep:Ah},s₁.heap.get? b=Aa o→o.data=.dict es ep→H b=none:=fun {b o es ep} e d=>by
   cases q:H b with
   |none=>rfl
   |some u =>
    have e':b=a:=hA b (by rw[q];simp)
    subst e';rw[ha] at e;cases e;have d':Data.seq vs.toArray _=Data.dict es ep:=d;cases d'
  have nsK:∀ {b:Af} {m:Au→Am Ac},s₁.heap.Ns b m→(p7 s₁.heap H).Ns b m:=fun {b m} ⟨o,es,ep,e,d,r⟩=>⟨o,es,ep,base_of e (noA e d),d,r⟩;have hKb:K.In (p7 s₁.heap H):=fun b o e=>base_of (KX b o e) (by
   cases q:H b with
   |none=>rfl
   |some u =>
    have e':b=a:=hA b (by rw[q];simp)
    subst e';rw[hK (by rw[q];simp)] at e;cases e)
  have hM:Mod K mg (p7 s₁.heap H):=⟨hKb,nsK hns,⟨mb,nsK hb,hbb⟩,let ⟨mc,h1,h2⟩:=hlim;⟨mc,nsK h1,h2⟩⟩
  have e0:Env0 P w K mg (p7 s₁.heap H) Pf [] s₁ H:=⟨rfl,hM,fun b o e=>FQ e,Nat.le_of_eq (XW _ _),trivial,fun b hb=>absurd (show b∈([]:Ab Af) from hb) (by simp),hok,.of_eq hg⟩
  refine Ip ((F _ hKb (nsK hns)).run Pf [] s₁ H ⟨[.ref a],[]⟩ [.ref a] [.ref a] _ _ hr e0 (hbind s₁ (.ref a)) (.cons rfl .nil) (hsp H hO hS)) fun r s' h=>?_;cases r with
  |error e=>exact(hCX H e s' h).elim
  |ok fl =>
   cases fl with
   |next=>exact Ao h
   |brk=>exact Ao h
   |cont=>exact Ao h
   |ret u =>
    obtain⟨v,H',os,bare,un,hok',r',q⟩:=h;have q':v=.bl true:=q;subst q';obtain rfl:u=Fi true:=r';refine⟨rfl,OldK.of_keep fun b o e=>?_,os,bare⟩;cases q:H b with
    |none=>exact un.keep b o e q (by intro z;exact absurd (show b∈([]:Ab Af) from z) (by simp)) (by simp)
    |some u =>
     rcases hO b with z|⟨ob,xs,z⟩
     ·rw[q] at z;cases z
     ·have z2:=un.frzs b ob _ z
      obtain⟨e1,_⟩:=hok b _ z;obtain⟨e2,_⟩:=hok' b _ z2;rw[e] at e1;cases e1;exact e2
 cases hk:K.lookup a with
 |some o =>
  have e:=KX a o hk;rw[ha] at e;cases e;refine core (fun _=>none) (fun _=>.inl rfl) (.inr ⟨vs,_,hk,by rw[Ar];exact hl,rv⟩) (fun b u z=>by have z':(none:Am HO)=Aa u:=z;cases z') (fun b z=>absurd rfl z) fun z=>absurd rfl z
 |none =>
  refine core (fun b=>if b=a then Aa (.frz { cls:=.type "list",data:=.seq vs.toArray } (.lst (ns.map V.int))) else none) (fun b=>?_) (.inl (.inr ⟨{ cls:=.type "list",data:=.seq vs.toArray },AT rfl⟩)) (fun b u z=>?_) (fun b z=>?_) fun _=>hk
  ·by_cases hb:b=a
   ·exact .inr ⟨_,_,AT hb⟩
   ·exact .inl (Bc hb)
  ·by_cases hb:b=a
   ·have z':=(AT hb).symm.trans z
    cases z';subst hb;exact⟨ha,by rw[Ar];exact hl,vs,_,rv,ha⟩
   ·have z':=(Bc hb).symm.trans z
    cases z'
  ·by_cases hb:b=a
   ·exact hb
   ·exact absurd (Bc hb) z
end _L
namespace _L
open PySem PySem.Spec PyProof.Rows
theorem TB {l:Xr}{n k:Ah}{q:Bh}{loose:Ab Au}{XP:(Au→Am Ac)→Bi→Prop}{YP:Bv→Bi→Prop}{d:DefRec}{K:Yt→Ak}{CX:Bv→CXT}{sp:Bv→Sp}{x:Au}
  (hn:l.most=Aa n) (hn2:n≤sizeLine) (hdf:d.params.defaults=[]) (hr:Room k Pf)
  (hY:∀ (w:Bv) (h:Bi),YP w h→(K w.params).In h)
  (F:∀ (w:Bv) (mg:Au→Am Ac) (fa:Af) (h:Bi),(K w.params).In h→h.Ns Cf mg→mg d.name=Aa (.ref fa) →
   ∃ fd:Fj,(∀ (s:Ag) (u:Ac),Nh s fd ⟨[u],[]⟩ [(x,u)]) ∧
    ∀ base:Bi,(K w.params).In base→base.Ns Cf mg→FnOk l.prog w (K w.params) mg base (CX w) k fa fd [x] (sp w))
  (hsp:∀ (w:Bv) (H:Hp) (a:Af) (ns:Ab Aj),ns.length≤n→V8 H→SqX (K w.params) H a (ns.map V.int)→sp w [.ref a] H (fun v _=>v=.bl true) fun _ _ _=>Fc)
  (hCX:∀ (w:Bv) (H:Hp) (s:Ag) (e:Ac) (s':Ag),CX w [] H s (fun _ _ _=>Fc) e s'→Fc) :
  Ua q loose XP YP l.row.toRowW d [] (fun f vs=>Yh f vs):=by
 refine _A.attach_call hn hdf fun w s₀ s₁ mg mb fa o pm cd doc a vs ns G Y ho hd hcd hmg hobj hints hlen hg=>?_;have KX:=hY w _ Y;obtain⟨fd,hb,hF⟩:=F w mg fa _ KX G.T.g hmg;exact UQ KX G.T.g G.T.b G.T.builtins G.T.nolimit hg hobj hints (Dy hlen hn2) hr hF hb (fun H hO hS=>hsp w H a ns hlen hO hS) fun H e s'=>hCX w H s₁ e s'
end _L
namespace _L
open PySem PySem.Spec PyProof.Rows
def vC (s:Eu):Arguments:=match s with
 |.FunctionDef _ a _ _ _ _ _ _ _ _=>a
 |_=>{ posonlyargs:=[],args:=[],vararg:=none,kwonlyargs:=[],kw_defaults:=[],kwarg:=none,defaults:=[] }
def xD (s:Eu):Ab Eu:=match s with
 |.FunctionDef _ _ b _ _ _ _ _ _ _=>b
 |_=>[]
def qK (s:Eu):Fv:=match s with
 |.FunctionDef _ _ _ _ _ _ sc _ _ _=>sc
 |_=>{ kind:=.function,names:=[],isGenerator:=false,isCoroutine:=false }
abbrev CX0:CXT:=fun _ _ _ _ _ _=>Fc
structure Fun (K:Ak)(x qual:Au)(st:Eu)(f:Af)(fd:Fj):Prop where
 ex:∃ (oc:Ac) (od:Am Af) (kV doc pm:Ac) (an:Am Af) (cdv ct:Ac) (osl:Bk (Am Ac)),
  fd=Gu x qual (vC st) (xD st) (qK st) .none kV doc pm an cdv ct∧K.lookup f=Aa ⟨oc,od,.func fd,osl⟩∧Ll K cdv qual=true
 kp:Dz K (.ref f)=true
section
variable {P:Bh}{w:Bv}{K:Ak}{mg:Au→Am Ac}{base:Bi}
theorem Fun.ok {x qual:Au}{st:Eu}{f:Af}{fd:Fj}{N ps:Ab Au}{k:Ah}{sp:Sp}(F:Fun K x qual st f fd)(S:FnScope N ps (qK st))(len:∀ vs H Q E,sp vs H Q E→vs.length=ps.length)
  (hbody:∀ (cdv:Ac) (A:Bo) (outer:Ab Jn) (s:Ag) (H:Hp) (vs:Ab V) (Q:VK) (E:XK),Room k (A.deeper (Gj qual (qK st) s.heap.objs.size f cdv))→sp vs H Q E →
   ∃ t,PSs (nY CX0 P w K mg base N qual (qK st) f cdv A outer s H E).nox (xD st) t∧t { nx:=fun _ H'=>Q .non H',rt:=Q } (yN N vs) H):FnOk P w K mg base CX0 (k+1) f fd ps sp:=by
 obtain⟨oc,od,kV,doc,pm,an,cdv,ct,osl,rfl,lk,hcd⟩:=F.ex;refine HI lk hcd S len fun A outer s H vs Q E hr hsp=>?_;obtain⟨t,h,q⟩:=hbody cdv A outer s H vs Q E hr hsp;exact⟨t,h.nox,q⟩
theorem Fun.binds {x qual:Au}{st:Eu}{f:Af}{fd:Fj}{ps:Ab Au}(F:Fun K x qual st f fd)
  (h:∀ (kV doc pm:Ac) (an:Am Af) (cdv ct:Ac) (us:Ab Ac),us.length=ps.length→Xq (Gu x qual (vC st) (xD st) (qK st) .none kV doc pm an cdv ct) ⟨us,[]⟩=pure (ps.zip us)):u9 K fd ps []:=by
 obtain⟨oc,od,kV,doc,pm,an,cdv,ct,osl,rfl,lk,hcd⟩:=F.ex;exact .all (h kV doc pm an cdv ct)
theorem LU {x qual:Au}{st:Eu}{f:Af}{oc:Ac}{od an:Am Af}{osl:Bk (Am Ac)}{kV doc pm cdv ct:Ac}(l:K.lookup f=Aa ⟨oc,od,.func (Gu x qual (vC st) (xD st) (qK st) .none kV doc pm an cdv ct),osl⟩)
  (c:Ll K cdv qual=true) (k:Dz K (.ref f)=true):Fun K x qual st f (Gu x qual (vC st) (xD st) (qK st) .none kV doc pm an cdv ct):=⟨⟨oc,od,kV,doc,pm,an,cdv,ct,osl,rfl,l,c⟩,k⟩
end
def qH (H H':Hp):Prop:=∀ b o,H b=Aa o→H' b=Aa o
theorem qH.refl (H:Hp):qH H H:=fun _ _ h=>h
theorem qH.trans {H H1 H2:Hp}(a:qH H H1)(b:qH H1 H2):qH H H2:=fun c o h=>b c o (a c o h)
theorem qH.free {H H':Hp}(e:qH H H'){l:Af}(h:H' l=sK):H l=sK:=by
 cases q:H l with
 |none=>rfl
 |some o =>
  rw[e l o q] at h;cases h
theorem qH.seq {K:Ak}{H H':Hp}{a:Af}{xs:Ab V}(e:qH H H')(h:SqL K H a xs):SqL K H' a xs:=by
 rcases h with (h|⟨o,h⟩)|h
 ·exact .inl (.inl (e _ _ h))
 ·exact .inl (.inr ⟨o,e _ _ h⟩)
 ·exact .inr h
end _L
end
section
namespace _D
open PySem PySem.Spec PyProof.Rows _L
inductive D where
 |non|bl (b:As)|int (i:Aj)|str (x:Au)|ty (n:Du)|obj (a:Af)|tup (xs:Ab D)|lst (xs:Ab D)|dct0|loc (i:Ah)|exn (c:Ac)|fd (ks:Ab Key) (ds:Ab D)
def eQ (a:Af)(c:Ac):HO:=.ext fun h=>∃ ob,h.get? a=Aa ob∧ob.cls=c
inductive MO where
 |dead|lst (xs:Ab D)|dct (kvs:Ab (Key × D))|ins (C:Af) (fs:Ab (Au × D))
abbrev Sto:=Ab MO
inductive Res (β : Type) where
 |ok (d:β) (S:Sto)|ex (c:Ac) (x:D) (S:Sto)|bad
@[inline] def Res.bind {β γ:Type}(r:Res β)(f:β→Sto→Res γ) : Res γ:=
 match r with
 |.ok d S=>f d S
 |.ex c x S=>.ex c x S
 |.bad=>.bad
theorem Res.bind_ok {β γ:Type}(d:β)(S:Sto)(f:β→Sto→Res γ) : (Res.ok d S).bind f=f d S:=rfl
section
variable (K:Ak)(P:Hp)(α : Ab Af)
mutual
def Rep:D→V→Prop
 |.non,v=>v=.non
 |.bl b,v=>v=.bl b
 |.int i,v=>v=.int i
 |.str x,v=>v=.str x
 |.ty n,v=>v=.ty n
 |.obj a,v=>v=.ref a∧Dz K (.ref a)=true
 |.tup ds,v=>∃ a vs,v=.ref a∧SqT K P a vs∧qF ds vs
 |.lst ds,v=>∃ a vs,v=.ref a∧SqX K P a vs∧qF ds vs
 |.dct0,v=>∃ a,v=.ref a∧P a=Aa (.dK [])
 |.loc i,v=>∃ a,v=.ref a∧α[i]? = Aa a
 |.exn c,v=>∃ a,v=.ref a∧P a=Aa (eQ a c)
 |.fd ks ds,v=>∃ a o vs,v=.ref a∧P a=Aa (.frz o (.dK (ks.zip vs)))∧ks.length=vs.length∧qF ds vs
def qF:Ab D→Ab V→Prop
 |[],vs=>vs=[]
 |d::ds,vs=>∃ w ws,vs=w::ws∧Rep d w∧qF ds ws
end
end
section
variable {K:Ak}{P P':Hp}{α α':Ab Af}
theorem vX (e:qH P P'){a:Af}{xs:Ab V}(h:SqT K P a xs):SqT K P' a xs:=by
 rcases h with (h|⟨o,h⟩)|h
 ·exact .inl (.inl (e _ _ h))
 ·exact .inl (.inr ⟨o,e _ _ h⟩)
 ·exact .inr h
theorem oG (e:qH P P'){a:Af}{u:HO}(h:Rd P a u):Rd P' a u:=by
 rcases h with h|⟨o,h⟩
 ·exact .inl (e _ _ h)
 ·exact .inr ⟨o,e _ _ h⟩
theorem wC (e:qH P P'){a:Af}{xs:Ab V}(h:SqX K P a xs):SqX K P' a xs:=by
 rcases h with h|h
 ·exact .inl (oG e h)
 ·exact .inr h
theorem fF {i:Ah}{a:Af}(h:α<+:α')(e:α[i]? = Aa a):α'[i]? = Aa a:=by
 obtain⟨r,rfl⟩:=h;rw[Cd (Ba.mp e).1];exact e
mutual
theorem Rep.mono (e:qH P P')(h:α<+:α'):∀ (d:D) (v:V),Rep K P α d v→Rep K P' α' d v
 |.non,_,r=>by simpa only [Rep] using r
 |.bl _,_,r=>by simpa only [Rep] using r
 |.int _,_,r=>by simpa only [Rep] using r
 |.str _,_,r=>by simpa only [Rep] using r
 |.ty _,_,r=>by simpa only [Rep] using r
 |.obj _,_,r=>by simpa only [Rep] using r
 |.tup ds,v,r=>by
  simp only[Rep] at r ⊢;obtain⟨a,vs,rfl,q,t⟩:=r;exact⟨a,vs,rfl,vX e q,qF.mono e h ds vs t⟩
 |.lst ds,v,r=>by
  simp only[Rep] at r ⊢;obtain⟨a,vs,rfl,q,t⟩:=r;exact⟨a,vs,rfl,wC e q,qF.mono e h ds vs t⟩
 |.dct0,v,r=>by
  simp only[Rep] at r ⊢;obtain⟨a,rfl,q⟩:=r;exact⟨a,rfl,e _ _ q⟩
 |.loc i,v,r=>by
  simp only[Rep] at r ⊢;obtain⟨a,rfl,q⟩:=r;exact⟨a,rfl,fF h q⟩
 |.exn c,v,r=>by
  simp only[Rep] at r ⊢;obtain⟨a,rfl,q⟩:=r;exact⟨a,rfl,e _ _ q⟩
 |.fd ks ds,v,r=>by
  simp only[Rep] at r ⊢;obtain⟨a,o,vs,rfl,q,hl,t⟩:=r;exact⟨a,o,vs,rfl,e _ _ q,hl,qF.mono e h ds vs t⟩
theorem qF.mono (e:qH P P')(h:α<+:α'):∀ (ds:Ab D) (vs:Ab V),qF K P α ds vs→qF K P' α' ds vs
 |[],vs,r=>by simpa only [qF] using r
 |d::ds,vs,r=>by
  simp only[qF] at r ⊢;obtain⟨w,ws,rfl,r1,r2⟩:=r;exact⟨w,ws,rfl,Rep.mono e h d w r1,qF.mono e h ds ws r2⟩
end
theorem qF.nil:qF K P α [] []:=by simp only[qF]
theorem qF.cons {d:D}{v:V}{ds:Ab D}{vs:Ab V}(r:Rep K P α d v)(t:qF K P α ds vs):qF K P α (d::ds) (v::vs):=by
 simp only[qF];exact⟨v,vs,rfl,r,t⟩
theorem qF.nil_inv {vs:Ab V}(r:qF K P α [] vs):vs=[]:=by simpa only [qF] using r
theorem qF.cons_inv {d:D}{ds:Ab D}{vs:Ab V}(r:qF K P α (d::ds) vs):∃ w ws,vs=w::ws∧Rep K P α d w∧qF K P α ds ws:=by simpa only [qF] using r
theorem qF.length:∀ {ds:Ab D} {vs:Ab V},qF K P α ds vs→ds.length=vs.length
 |[],vs,r=>by rw[r.nil_inv];rfl
 |d::ds,vs,r=>by
  obtain⟨w,ws,rfl,_,t⟩:=r.cons_inv;rw[Ci,Ci,t.length]
theorem qF.append:∀ {ds es:Ab D} {vs ws:Ab V},qF K P α ds vs→qF K P α es ws→qF K P α (ds++es) (vs++ws)
 |[],es,vs,ws,r,t=>by rw[r.nil_inv];exact t
 |d::ds,es,vs,ws,r,t=>by
  obtain⟨w,us,rfl,r1,r2⟩:=r.cons_inv;exact .cons r1 (r2.append t)
theorem qF.get:∀ {ds:Ab D} {vs:Ab V} {i:Ah} {d:D},qF K P α ds vs→ds[i]? = Aa d→∃ v,vs[i]? = Aa v∧Rep K P α d v
 |[],_,_,_,_,e=>by simp at e
 |d::ds,vs,i,d',r,e=>by
  obtain⟨w,ws,rfl,r1,r2⟩:=r.cons_inv;cases i with
  |zero=>simp at e;subst e;exact⟨w,rfl,r1⟩
  |succ i =>
   obtain⟨v,h1,h2⟩:=r2.get (i:=i) (d:=d') (by simpa using e)
   exact⟨v,by simpa using h1,h2⟩
theorem qF.drop:∀ {ds:Ab D} {vs:Ab V} (n:Ah),qF K P α ds vs→qF K P α (ds.drop n) (vs.drop n)
 |ds,vs,0,r=>by simpa using r
 |[],vs,n+1,r=>by rw[r.nil_inv];exact .nil
 |d::ds,vs,n+1,r=>by
  obtain⟨w,ws,rfl,_,r2⟩:=r.cons_inv;simpa using r2.drop n
theorem qF.take:∀ {ds:Ab D} {vs:Ab V} (n:Ah),qF K P α ds vs→qF K P α (ds.take n) (vs.take n)
 |ds,vs,0,r=>by simpa using qF.nil
 |[],vs,n+1,r=>by rw[r.nil_inv];exact .nil
 |d::ds,vs,n+1,r=>by
  obtain⟨w,ws,rfl,r1,r2⟩:=r.cons_inv;simpa using qF.cons r1 (r2.take n)
theorem qF.set {d:D}{v:V}(q:Rep K P α d v):∀ {ds:Ab D} {vs:Ab V} (n:Ah),qF K P α ds vs→qF K P α (ds.set n d) (vs.set n v)
 |[],vs,n,r=>by rw[r.nil_inv];exact .nil
 |e::ds,vs,0,r=>by
  obtain⟨w,ws,rfl,r1,r2⟩:=r.cons_inv;exact .cons q r2
 |e::ds,vs,n+1,r=>by
  obtain⟨w,ws,rfl,r1,r2⟩:=r.cons_inv;exact .cons r1 (r2.set q n)
end
abbrev qD:=Ab (Am D)
def zJ (K:Ak)(P:Hp)(α : Ab Af)(σ : _L.St)(env:qD):Prop:=env.length=σ.length∧∀ (i:Ah) (d:D),env[i]? = Aa (Aa d)→∃ v,σ[i]? = Aa (Aa v)∧Rep K P α d v
def KVs (K:Ak)(P:Hp)(α : Ab Af){κ : Type}:Ab (κ × D)→Ab (κ × V)→Prop:=Paired fun (p:κ × D) (q:κ × V)=>p.1=q.1∧Rep K P α p.2 q.2
def MOk (K:Ak)(H P:Hp)(α : Ab Af)(a:Af):MO→Prop
 |.dead=>Jz
 |.lst ds=>∃ vs,H a=Aa (.lst vs)∧qF K P α ds vs
 |.dct kvs=>∃ vs,H a=Aa (.dK vs)∧KVs K P α kvs vs
 |.ins C fs=>∃ dx vs,H a=Aa (.ins C dx vs)∧KVs K P α fs vs
structure Rel (K:Ak)(H P:Hp)(α : Ab Af)(S:Sto):Prop where
 sub:qH P H
 len:α.length=S.length
 nd:α.Nodup
 sep:∀ (i:Ah) (a:Af) (o:MO),α[i]? = Aa a→S[i]? = Aa o→o≠.dead→P a=none
 at':∀ (i:Ah) (a:Af) (o:MO),α[i]? = Aa a→S[i]? = Aa o→MOk K H P α a o
 own:∀ (i:Ah) (a:Af),α[i]? = Aa a→H a≠none
section
variable {K:Ak}{H P P':Hp}{α α':Ab Af}{S:Sto}
theorem zJ.mono {σ : _L.St}{env:qD}(e:qH P P')(h:α<+:α')(r:zJ K P α σ env):zJ K P' α' σ env:=
 ⟨r.1,fun i d q=>let ⟨v,h1,h2⟩:=r.2 i d q;⟨v,h1,Rep.mono e h d v h2⟩⟩
theorem KVs.mono {κ : Type}(e:qH P P')(h:α<+:α'){kvs:Ab (κ × D)}{vs:Ab (κ × V)}(r:KVs K P α kvs vs):KVs K P' α' kvs vs:=by
 refine Paired.mapP r fun p q z=>⟨z.1,Rep.mono e h _ _ z.2⟩
theorem MOk.mono {a:Af}(e:qH P P')(h:α<+:α'):∀ {o:MO},MOk K H P α a o→MOk K H P' α' a o
 |.dead,_=>trivial
 |.lst _,⟨vs,q,r⟩=>⟨vs,q,qF.mono e h _ _ r⟩
 |.dct _,⟨vs,q,r⟩=>⟨vs,q,r.mono e h⟩
 |.ins _ _,⟨dx,vs,q,r⟩=>⟨dx,vs,q,r.mono e h⟩
theorem Rel.grow {H':Hp}(r:Rel K H P α S)(e:qH H H'):Rel K H' P α S where
 sub:=r.sub.trans e
 len:=r.len
 nd:=r.nd
 sep:=r.sep
 at':=fun i a o q1 q2=>by
  have m:=r.at' i a o q1 q2;cases o with
  |dead=>trivial
  |lst ds=>obtain⟨vs,q,t⟩:=m;exact⟨vs,e _ _ q,t⟩
  |dct kvs=>obtain⟨vs,q,t⟩:=m;exact⟨vs,e _ _ q,t⟩
  |ins C fs=>obtain⟨dx,vs,q,t⟩:=m;exact⟨dx,vs,e _ _ q,t⟩
 own:=fun i a q=>by
  have m:=r.own i a q;cases z:H a with
  |none=>exact absurd z m
  |some o=>rw[e _ _ z];intro w;cases w
theorem mP {H:Hp}{a:Af}{o:HO}(h:H a=none):qH H (upd H a o):=fun b u e=>by rw[qP (zL e h)];exact e
theorem Rel.pure {a:Af}{o:HO}(r:Rel K H P α S)(h:H a=none):Rel K (upd H a o) (upd P a o) α S∧qH P (upd P a o):=by
 have hP:P a=none:=by
  cases z:P a with
  |none=>rfl
  |some u=>rw[r.sub _ _ z] at h;cases h
 have sP:qH P (upd P a o):=mP hP;have r1:=r.grow (mP (o:=o) h);refine⟨⟨fun b u e=>?_,r.len,r.nd,fun i b u q1 q2 q3=>?_,fun i b u q1 q2=>(r1.at' i b u q1 q2).mono sP (Bg _),r1.own⟩,sP⟩
 ·by_cases hb:b=a
  ·subst hb;rw[zQ] at e ⊢;exact e
  ·rw[qP hb] at e ⊢;exact r.sub _ _ e
 ·have hb:b≠a:=by rintro rfl;exact r.own i b q1 h
  rw[qP hb];exact r.sep i b u q1 q2 q3
theorem Rel.new {a:Af}{o:HO}{m:MO}(r:Rel K H P α S)(h:H a=none)(hm:MOk K (upd H a o) P (α ++ [a]) a m):Rel K (upd H a o) P (α ++ [a]) (S++[m]):=by
 have hP:P a=none:=by
  cases z:P a with
  |none=>rfl
  |some u=>rw[r.sub _ _ z] at h;cases h
 have r1:=r.grow (mP (o:=o) h);have hp:α<+:α++[a]:=Hn _ _;have split:∀ (i:Ah) (b:Af),(α++[a])[i]? = Aa b→(i<α.length∧α[i]? = Aa b)∨(i=α.length∧b=a):=fun i b q=>by
  by_cases hi:i<α.length
  ·rw[Cd hi] at q;exact .inl ⟨hi,q⟩
  ·rw[Dr om] at q
   cases hk:i-α.length with
   |zero=>rw[hk] at q;simp at q;exact .inr ⟨by omega,q.symm⟩
   |succ k=>rw[hk] at q;simp at q
 refine⟨r1.sub,by simp[r.len],?_,fun i b u q1 q2 q3=>?_,fun i b u q1 q2=>?_,fun i b q=>?_⟩
 ·rw[Pg]
  refine⟨r.nd,by simp,fun b hb c hc e=>?_⟩
  simp at hc;subst hc;subst e;obtain⟨i,hi,e⟩:=Ct.mp hb;exact r.own i b (by rw[An hi,e]) h
 ·rcases split i b q1 with⟨hi,z⟩|⟨hi,rfl⟩
  ·rw[Cd (by rw[← r.len];exact hi)] at q2
   exact r.sep i b u z q2 q3
  ·exact hP
 ·rcases split i b q1 with⟨hi,z⟩|⟨hi,rfl⟩
  ·rw[Cd (by rw[← r.len];exact hi)] at q2
   exact(r1.at' i b u z q2).mono (qH.refl _) hp
  ·rw[hi,r.len,Dr (Bd _)] at q2
   simp at q2;subst q2;exact hm
 ·rcases split i b q with⟨_,z⟩|⟨_,rfl⟩
  ·exact r1.own i b z
  ·rw[zQ];intro z;cases z
theorem WO {N:Ab Af}(hN:N.Nodup){i j:Ah}{x:Af}(a:N[i]? = Aa x)(b:N[j]? = Aa x):i=j:=by
 obtain⟨h1,e1⟩:=Ba.mp a;obtain⟨h2,e2⟩:=Ba.mp b;exact(Qh hN).mp (e1.trans e2.symm)
theorem Rel.put {a:Af}{i:Ah}{o:HO}{m m':MO}(r:Rel K H P α S)(ha:α[i]? = Aa a)(hs:S[i]? = Aa m)(hd:m≠.dead)(hm:MOk K (upd H a o) P α a m'):Rel K (upd H a o) P α (S.set i m'):=by
 have hP:=r.sep i a m ha hs hd;have hi:i<S.length:=(Ba.mp hs).1;refine⟨fun b u e=>?_,by simp[r.len],r.nd,fun j b u q1 q2 q3=>?_,fun j b u q1 q2=>?_,fun j b q=>?_⟩
 ·have hb:b≠a:=by rintro rfl;rw[hP] at e;cases e
  rw[qP hb];exact r.sub _ _ e
 ·by_cases hj:j=i
  ·subst hj;rw[ha] at q1;cases q1;exact hP
  ·rw[Ek (Ea hj)] at q2;exact r.sep j b u q1 q2 q3
 ·by_cases hj:j=i
  ·subst hj;rw[ha] at q1;cases q1
   rw[En hi] at q2;cases q2;exact hm
  ·rw[Ek (Ea hj)] at q2
   have hb:b≠a:=by rintro rfl;exact hj (WO r.nd q1 ha)
   have z:=r.at' j b u q1 q2;cases u with
   |dead=>trivial
   |lst ds=>obtain⟨vs,q,t⟩:=z;exact⟨vs,by rw[qP hb];exact q,t⟩
   |dct kvs=>obtain⟨vs,q,t⟩:=z;exact⟨vs,by rw[qP hb];exact q,t⟩
   |ins C fs=>obtain⟨dx,vs,q,t⟩:=z;exact⟨dx,vs,by rw[qP hb];exact q,t⟩
 ·by_cases hb:b=a
  ·subst hb;rw[zQ];intro z;cases z
  ·rw[qP hb];exact r.own j b q
end
theorem nn {β : Type}{a:β}{p:Prop}(h:(none:Am β) = Aa a):p:=by cases h
theorem kH {β : Type}{c:Prop}[Sj c]{a b:β}(h:(if c then Aa a else none)=Aa b):c∧a=b:=by
 by_cases z:c
 ·rw[AT z] at h;exact⟨z,Cp h⟩
 ·rw[Bc z] at h;exact nn h
end _D
end
namespace _D
open PySem PySem.Spec PyProof.Rows _L
abbrev DE:=qD→Sto→Res D
abbrev DT:=qD→Sto→Res As
abbrev DA:=qD→Sto→Res (Ab D)
inductive Out where
 |nx (env:qD) (S:Sto)|rt (d:D) (S:Sto)|bk (env:qD) (S:Sto)|ct (env:qD) (S:Sto)|ex (c:Ac) (x:D) (env:qD) (S:Sto)|bad
abbrev DS:=qD→Sto→Out
def Old (X:Cx)(pins:Ab (Af × Co))(H:Hp)(b:Af):Prop:=
 (∃ o,X.s₀.heap.get? b=Aa o)∨H b≠none∨(∃ p∈X.pn++pins,p.1=b)∨∃ x,X.env.cells.lookup x=Aa b
def Cv (X:Cx)(pins:Ab (Af × Co))(H:Hp)(B h:Bi):Prop:=∀ b o,h.get? b=Aa o→Old X pins H b→b ∉ frs X.stack→B.get? b=Aa o
inductive FlyX (X:Cx)(pins:Ab (Af × Co))(H:Hp)(c:Ac)(e:Af)(h:Bi):Prop where
 |new (g:Bi) (args:Ab Ac):Ta g h e c args→g.FunFrames X.base X.stack→(∀ b o,h.get? b=Aa o→Old X pins H b→g.get? b=Aa o)→FlyX X pins H c e h
 |fly (B:Bi) (a0:Ac):Nd B X.stack e c a0 h→Cv X pins H B h→FlyX X pins H c e h
inductive XOk (X:Cx)(P:Hp)(α : Ab Af)(c:Ac)(x:D)(S:Sto)(u:Ac)(s:Ag):Prop
 |mk (e:Af) (pins:Ab (Af × Co)) (σ : _L.St) (H:Hp) (P':Hp) (α' : Ab Af) (e1:u=.ref e) (I:Inv X pins σ H s) (r:Rel X.K H P' α' S) (q1:qH P P') (q2:α<+:α') (q3:X.ex=[]∧X.stack=X.env::X.outer∧X.env.frame=Aa X.env.locals) (q4:FlyX X pins H c e s.heap):XOk X P α c x S u s
theorem XOk.base {X:Cx}{P P1:Hp}{α α1:Ab Af}{c:Ac}{x:D}{S:Sto}{u:Ac}{s:Ag}(e:qH P P1)(h:α<+:α1)(k:XOk X P1 α1 c x S u s):XOk X P α c x S u s:=by
 obtain⟨a,pins,σ,H,P',α',e1,I,r,q1,q2,q3,q4⟩:=k;exact⟨a,pins,σ,H,P',α',e1,I,r,e.trans q1,h.trans q2,q3,q4⟩
section
variable (X:Cx)
def qJ {β : Type}(P:Hp)(α : Ab Af)(r:Res β)(Ok:β→Sto→Prop):Prop:=
 match r with
 |.ok d S'=>Ok d S'
 |.ex c x S'=>∀ u s',XOk X P α c x S' u s'→X.xe u s'
 |.bad=>Fc
def OkV (P:Hp)(α : Ab Af)(Q:VK)(d:D)(S':Sto):Prop:=∀ v H' P' α',Rel X.K H' P' α' S'→qH P P'→α<+:α'→Rep X.K P' α' d v→Q v H'
def OkT (P:Hp)(α : Ab Af)(Q:As→Hp→Prop)(b:As)(S':Sto):Prop:=∀ H' P' α',Rel X.K H' P' α' S'→qH P P'→α<+:α'→Q b H'
def OkA (P:Hp)(α : Ab Af)(Q:Ab V→Hp→Prop)(ds:Ab D)(S':Sto):Prop:=∀ vs H' P' α',Rel X.K H' P' α' S'→qH P P'→α<+:α'→qF X.K P' α' ds vs→Q vs H'
abbrev zA (P:Hp)(α : Ab Af)(r:Res D)(Q:VK):Prop:=qJ X P α r (OkV X P α Q)
abbrev vM (P:Hp)(α : Ab Af)(r:Res As)(Q:As→Hp→Prop):Prop:=qJ X P α r (OkT X P α Q)
abbrev pR (P:Hp)(α : Ab Af)(r:Res (Ab D))(Q:Ab V→Hp→Prop):Prop:=qJ X P α r (OkA X P α Q)
def zB (P:Hp)(α : Ab Af)(r:Out)(D:Ends):Prop:=
 match r with
 |.nx env' S'=>∀ σ' H' P' α',Rel X.K H' P' α' S'→zJ X.K P' α' σ' env'→qH P P'→α<+:α'→D.nx σ' H'
 |.bk env' S'=>∀ σ' H' P' α',Rel X.K H' P' α' S'→zJ X.K P' α' σ' env'→qH P P'→α<+:α'→D.bk σ' H'
 |.ct env' S'=>∀ σ' H' P' α',Rel X.K H' P' α' S'→zJ X.K P' α' σ' env'→qH P P'→α<+:α'→D.ct σ' H'
 |.rt d S'=>∀ v H' P' α',Rel X.K H' P' α' S'→qH P P'→α<+:α'→Rep X.K P' α' d v→D.rt v H'
 |.ex c x _ S'=>∀ u s',XOk X P α c x S' u s'→X.xe u s'
 |.bad=>Fc
inductive tD (f:DE)(σ : _L.St)(H:Hp)(Q:VK):Prop
 |mk (P:Hp) (α : Ab Af) (env:qD) (S:Sto) (r:Rel X.K H P α S) (re:zJ X.K P α σ env) (af:zA X P α (f env S) Q):tD f σ H Q
inductive tDT (f:DT)(σ : _L.St)(H:Hp)(Q:As→Hp→Prop):Prop
 |mk (P:Hp) (α : Ab Af) (env:qD) (S:Sto) (r:Rel X.K H P α S) (re:zJ X.K P α σ env) (af:vM X P α (f env S) Q):tDT f σ H Q
inductive tDA (f:DA)(σ : _L.St)(H:Hp)(Q:Ab V→Hp→Prop):Prop
 |mk (P:Hp) (α : Ab Af) (env:qD) (S:Sto) (r:Rel X.K H P α S) (re:zJ X.K P α σ env) (af:pR X P α (f env S) Q):tDA f σ H Q
inductive tDS (f:DS)(D:Ends)(σ : _L.St)(H:Hp):Prop
 |mk (P:Hp) (α : Ab Af) (env:qD) (S:Sto) (r:Rel X.K H P α S) (re:zJ X.K P α σ env) (af:zB X P α (f env S) D):tDS f D σ H
end
section
variable {X:Cx}{P P1:Hp}{α α1:Ab Af}
theorem zA.base {r:Res D}{Q:VK}(e:qH P P1)(h:α<+:α1)(k:zA X P α r Q):zA X P1 α1 r Q:=by
 cases r with
 |ok d S=>exact fun v H' P' α' r q1 q2 q3=>k v H' P' α' r (e.trans q1) (h.trans q2) q3
 |ex c x S=>exact fun u s' q=>k u s' (q.base e h)
 |bad=>exact k
theorem vM.base {r:Res As}{Q:As→Hp→Prop}(e:qH P P1)(h:α<+:α1)(k:vM X P α r Q):vM X P1 α1 r Q:=by
 cases r with
 |ok d S=>exact fun H' P' α' r q1 q2=>k H' P' α' r (e.trans q1) (h.trans q2)
 |ex c x S=>exact fun u s' q=>k u s' (q.base e h)
 |bad=>exact k
theorem pR.base {r:Res (Ab D)}{Q:Ab V→Hp→Prop}(e:qH P P1)(h:α<+:α1)(k:pR X P α r Q):pR X P1 α1 r Q:=by
 cases r with
 |ok d S=>exact fun v H' P' α' r q1 q2 q3=>k v H' P' α' r (e.trans q1) (h.trans q2) q3
 |ex c x S=>exact fun u s' q=>k u s' (q.base e h)
 |bad=>exact k
theorem zB.base {r:Out}{D:Ends}(e:qH P P1)(h:α<+:α1)(k:zB X P α r D):zB X P1 α1 r D:=by
 cases r with
 |nx env S=>exact fun v H' P' α' r q0 q1 q2=>k v H' P' α' r q0 (e.trans q1) (h.trans q2)
 |bk env S=>exact fun v H' P' α' r q0 q1 q2=>k v H' P' α' r q0 (e.trans q1) (h.trans q2)
 |ct env S=>exact fun v H' P' α' r q0 q1 q2=>k v H' P' α' r q0 (e.trans q1) (h.trans q2)
 |rt d S=>exact fun v H' P' α' r q1 q2 q3=>k v H' P' α' r (e.trans q1) (h.trans q2) q3
 |ex c x env S=>exact fun u s' q=>k u s' (q.base e h)
 |bad=>exact k
theorem xr {Q:VK}{v:V}{H:Hp}{d:D}{S:Sto}(k:OkV X P α Q d S)(r:Rel X.K H P α S)(q:Rep X.K P α d v):Q v H:=k v H P α r (qH.refl _) (Bg _) q
end
section
variable {X:Cx}{a b e:Bq}{pos:Ez}
theorem peW {t t':TE}(h:PE X e t)(w:∀ σ H Q,t' σ H Q→t σ H Q):PE X e t':=fun pins s σ H Q I q=>h pins s σ H Q I (w σ H Q q)
theorem psW {st:Eu}{t t':TS}(h:PS X st t)(w:∀ D σ H,t' D σ H→t D σ H):PS X st t':=fun pins s σ H D I q=>h pins s σ H D I (w D σ H q)
theorem R8 {st:Ab Eu}{t t':TS}(h:PSs X st t)(w:∀ D σ H,t' D σ H→t D σ H):PSs X st t':=fun pins s σ H D I q=>h pins s σ H D I (w D σ H q)
theorem paW {es:Ab Bq}{t t':TA}(h:PA X es t)(w:∀ σ H Q,t' σ H Q→t σ H Q):PA X es t':=fun pos pins s σ H Q I q=>h pos pins s σ H Q I (w σ H Q q)
structure Got (X:Cx)(pins:Ab (Af × Co))(σ : _L.St)(env:qD)(P:Hp)(α : Ab Af)(u:Ac)(s1:Ag)(v:V)(H1 P1:Hp)(α1:Ab Af)(d:D)(S1:Sto):Prop where
 inv:Inv X pins σ H1 s1
 val:qI v u
 rel:Rel X.K H1 P1 α1 S1
 env:zJ X.K P1 α1 σ env
 rep:Rep X.K P1 α1 d v
 same:qH P P1
 pre:α<+:α1
inductive GotG (X:Cx)(pins:Ab (Af × Co))(σ : _L.St)(env:qD)(P:Hp)(α : Ab Af)(u:Ac)(s1:Ag){γ : Type}(g:D→Sto→Res γ)(Ok:γ→Sto→Prop):Prop
 |mk (v:V) (H1 P1:Hp) (α1:Ab Af) (d:D) (S1:Sto) (G:Got X pins σ env P α u s1 v H1 P1 α1 d S1) (q:qJ X P α (g d S1) Ok):GotG X pins σ env P α u s1 g Ok
inductive GotAG (X:Cx)(pins:Ab (Af × Co))(σ : _L.St)(env:qD)(P:Hp)(α : Ab Af)(us:Ab Ac)(s1:Ag){γ : Type}(g:Ab D→Sto→Res γ)(Ok:γ→Sto→Prop):Prop
 |mk (vs:Ab V) (H1 P1:Hp) (α1:Ab Af) (ds:Ab D) (S1:Sto) (I:Inv X pins σ H1 s1) (rv:qN vs us) (r:Rel X.K H1 P1 α1 S1) (re:zJ X.K P1 α1 σ env) (rp:qF X.K P1 α1 ds vs) (e1:qH P P1) (e2:α<+:α1) (q:qJ X P α (g ds S1) Ok):GotAG X pins σ env P α us s1 g Ok
inductive GotT (X:Cx)(pins:Ab (Af × Co))(σ : _L.St)(env:qD)(P:Hp)(α : Ab Af)(b:As)(s1:Ag){γ : Type}(g:As→Sto→Res γ)(Ok:γ→Sto→Prop):Prop
 |mk (H1 P1:Hp) (α1:Ab Af) (S1:Sto) (I:Inv X pins σ H1 s1) (r:Rel X.K H1 P1 α1 S1) (re:zJ X.K P1 α1 σ env) (e1:qH P P1) (e2:α<+:α1) (q:qJ X P α (g b S1) Ok):GotT X pins σ env P α b s1 g Ok
theorem xH {γ : Type}{f:DE}{g:D→Sto→Res γ}{Ok:γ→Sto→Prop}{pins:Ab (Af × Co)}{s:Ag}{σ : _L.St}{H P:Hp}{α : Ab Af}{env:qD}{S:Sto}(he:PE X e (tD X f))(I:Inv X pins σ H s)(r:Rel X.K H P α S)
  (re:zJ X.K P α σ env) (af:qJ X P α ((f env S).bind g) Ok) :
  Ap (Aw X.prog X.w) X.A (eval e X.env) (fun u s1=>GotG X pins σ env P α u s1 g Ok) X.xe s:=by
 refine thn (he pins s σ H (fun v H1=>∃ P1 α1 d S1,Rel X.K H1 P1 α1 S1∧zJ X.K P1 α1 σ env∧Rep X.K P1 α1 d v∧qH P P1∧α<+:α1∧qJ X P α (g d S1) Ok) I ⟨P,α,env,S,r,re,?_⟩) fun u s1 ⟨v,H1,I1,rv,P1,α1,d,S1,q1,q2,q3,q4,q5,q6⟩=>⟨v,H1,P1,α1,d,S1,⟨I1,rv,q1,q2,q3,q4,q5⟩,q6⟩;cases q:f env S with
 |bad=>rw[q] at af;exact af
 |ex c x S'=>rw[q] at af;exact af
 |ok d S' =>
  rw[q] at af;exact fun v H' P' α' r' e1 e2 rp=>⟨P',α',d,S',r',re.mono e1 e2,rp,e1,e2,af⟩
theorem yO {γ : Type}{es:Ab Bq}{f:DA}{g:Ab D→Sto→Res γ}{Ok:γ→Sto→Prop}{pins:Ab (Af × Co)}{s:Ag}{σ : _L.St}{H P:Hp}{α : Ab Af}{env:qD}{S:Sto}(he:PA X es (tDA X f))(I:Inv X pins σ H s)(r:Rel X.K H P α S)
  (re:zJ X.K P α σ env) (af:qJ X P α ((f env S).bind g) Ok) (pos:Ez) :
  Ap (Aw X.prog X.w) X.A (spliced (Fp pos (Bb es X.env))) (fun us s1=>GotAG X pins σ env P α us s1 g Ok) X.xe s:=by
 refine thn (he pos pins s σ H (fun vs H1=>∃ P1 α1 ds S1,Rel X.K H1 P1 α1 S1∧zJ X.K P1 α1 σ env∧qF X.K P1 α1 ds vs∧qH P P1∧α<+:α1∧qJ X P α (g ds S1) Ok) I ⟨P,α,env,S,r,re,?_⟩) fun u s1 ⟨v,H1,I1,rv,P1,α1,d,S1,q1,q2,q3,q4,q5,q6⟩=>⟨v,H1,P1,α1,d,S1,I1,rv,q1,q2,q3,q4,q5,q6⟩;cases q:f env S with
 |bad=>rw[q] at af;exact af
 |ex c x S'=>rw[q] at af;exact af
 |ok d S' =>
  rw[q] at af;exact fun v H' P' α' r' e1 e2 rp=>⟨P',α',d,S',r',re.mono e1 e2,rp,e1,e2,af⟩
theorem pX {γ : Type}{f:DT}{g:As→Sto→Res γ}{Ok:γ→Sto→Prop}{pins:Ab (Af × Co)}{s:Ag}{σ : _L.St}{H P:Hp}{α : Ab Af}{env:qD}{S:Sto}{m:Mp As}
  (he:∀ (Q:As→Hp→Prop),tDT X f σ H Q→Ap (Aw X.prog X.w) X.A m (TP X pins σ Q) X.xe s) (r:Rel X.K H P α S) (re:zJ X.K P α σ env) (af:qJ X P α ((f env S).bind g) Ok) :
  Ap (Aw X.prog X.w) X.A m (fun b s1=>GotT X pins σ env P α b s1 g Ok) X.xe s:=by
 refine thn (he (fun b H1=>∃ P1 α1 S1,Rel X.K H1 P1 α1 S1∧zJ X.K P1 α1 σ env∧qH P P1∧α<+:α1∧qJ X P α (g b S1) Ok) ⟨P,α,env,S,r,re,?_⟩) fun b s1 ⟨H1,I1,P1,α1,S1,q1,q2,q4,q5,q6⟩=>⟨H1,P1,α1,S1,I1,q1,q2,q4,q5,q6⟩;cases q:f env S with
 |bad=>rw[q] at af;exact af
 |ex c x S'=>rw[q] at af;exact af
 |ok d S' =>
  rw[q] at af;exact fun H' P' α' r' e1 e2=>⟨P',α',S',r',re.mono e1 e2,e1,e2,af⟩
def dC (d:D):DE:=fun _ S=>.ok d S
def qB (i:Ah):DE:=fun env S=>match env[i]? with
 |some (Aa d)=>.ok d S
 |_=>.bad
theorem NP {i j}:PE X (.Constant (.int i) j pos) (tD X (dC (.int i))):=peW SS fun σ H Q ⟨P,α,env,S,r,re,af⟩=>xr af r (by simp only[Rep])
theorem EY {i j}:PE X (.Constant (.bool i) j pos) (tD X (dC (.bl i))):=peW CK fun σ H Q ⟨P,α,env,S,r,re,af⟩=>xr af r (by simp only[Rep])
theorem NT {i j}:PE X (.Constant (.str i) j pos) (tD X (dC (.str i))):=peW SW fun σ H Q ⟨P,α,env,S,r,re,af⟩=>xr af r (by simp only[Rep])
theorem NQ {j}:PE X (.Constant .none j pos) (tD X (dC .non)):=peW SU fun σ H Q ⟨P,α,env,S,r,re,af⟩=>xr af r (by simp only[Rep])
set_option tactic.hygienic true in
theorem MY {i:Ah}{σ : _L.St}{H:Hp}{Q:VK}(h:tD X (qB i) σ H Q):EA i σ H Q:=by
 obtain⟨P,α,env,S,r,re,af⟩:=h;unfold qB at af
 split at af
 ·rename_i d q
  obtain⟨v,h1,h2⟩:=re.2 i d q;exact⟨v,h1,xr af r h2⟩
 ·exact Ao af
theorem dv (i:Ah){x:Au}(hN:X.N[i]? = Aa x:=by rfl)(hv:Vis X.env.scope x:=by first|exact Wz rfl|exact Ur (Wz rfl)|exact Ur (Ur rfl))(hd:(x == ("__debug__" : Au))=false:=by decide)
  (hcd:(x == ("__classdict__" : Au))=false:=by decide):PE X (.Name x pos) (tD X (qB i)):=peW (SY hN hv hd hcd) fun σ H Q h=>MY h
theorem iE {x:Au}{d:D}{v:V}{u:Ac}(hg:Gl X x)(hm:X.mg x=Aa u)(r:qI v u)(q:∀ P α,Rep X.K P α d v)(hd:(x == ("__debug__" : Au))=false:=by decide):PE X (.Name x pos) (tD X (dC d)):=
 peW (FW hg hm r hd) fun σ H Q ⟨P,α,env,S,r,re,af⟩=>xr af r (q _ _)
theorem B0 {x:Au}{n:Du}(hg:Gl X x)(hm:X.mg x=none)(hv:Gc x=Aa (.type n))(hn:x ≠ "__name__":=by decide)(hd:(x == ("__debug__" : Au))=false:=by decide):PE X (.Name x pos) (tD X (dC (.ty n))):=
 peW (FV (v:=.ty n) hg hm hv rfl hn hd) fun σ H Q ⟨P,α,env,S,r,re,af⟩=>xr af r (by simp only[Rep])
abbrev G2:=D→D→Sto→Res D
def OpD (X:Cx)(f:Ac→Ac→Mp Ac)(g:G2):Prop:=
 ∀ (pins:Ab (Af × Co)) (σ : _L.St) (H:Hp) (s:Ag) (P:Hp) (α : Ab Af) (S:Sto) (v u:V) (vv uu:Ac) (a b:D) (Q:VK),Inv X pins σ H s→Rel X.K H P α S→qI v vv→qI u uu→Rep X.K P α a v→Rep X.K P α b u→zA X P α (g a b S) Q →
  Ap (Aw X.prog X.w) X.A (f vv uu) (EP X pins σ Q) X.xe s
theorem OpD.of {f:Ac→Ac→Mp Ac}{r:R2}{g:G2}(h:OpR X f r)(w:∀ H P α S v u a b Q,Rel X.K H P α S→Rep X.K P α a v→Rep X.K P α b u→zA X P α (g a b S) Q→r v u H Q):OpD X f g:=
 fun pins σ H s P α S v u vv uu a b Q I rl r1 r2 p1 p2 af=>h pins s σ H v u vv uu Q I r1 r2 (w H P α S v u a b Q rl p1 p2 af)
def UnD (X:Cx)(f:Ac→Mp Ac)(g:D→Sto→Res D):Prop:=
 ∀ (pins:Ab (Af × Co)) (σ : _L.St) (H:Hp) (s:Ag) (P:Hp) (α : Ab Af) (S:Sto) (v:V) (vv:Ac) (a:D) (Q:VK),Inv X pins σ H s→Rel X.K H P α S→qI v vv→Rep X.K P α a v→zA X P α (g a S) Q →
  Ap (Aw X.prog X.w) X.A (f vv) (EP X pins σ Q) X.xe s
def IxD (X:Cx)(g:G2):Prop:=
 ∀ (value slice:Bq) (pins:Ab (Af × Co)) (σ : _L.St) (H:Hp) (s:Ag) (P:Hp) (α : Ab Af) (S:Sto) (v u:V) (vv uu:Ac) (a b:D) (Q:VK),Inv X pins σ H s→Rel X.K H P α S→qI v vv→qI u uu→Rep X.K P α a v→Rep X.K P α b u→zA X P α (g a b S) Q →
  subscripted slice false vv uu=operate [vv,uu] (Md vv uu)→Ap (Aw X.prog X.w) X.A (T0 value slice vv uu) (EP X pins σ Q) X.xe s
def vA (X:Cx)(f:Ac)(g:Ab D→Sto→Res D):Prop:=
 ∀ (pins:Ab (Af × Co)) (σ : _L.St) (H:Hp) (s:Ag) (P:Hp) (α : Ab Af) (S:Sto) (vs:Ab V) (us:Ab Ac) (ds:Ab D) (Q:VK),Inv X pins σ H s→Rel X.K H P α S→qN vs us→qF X.K P α ds vs→zA X P α (g ds S) Q →
  Ap (Aw X.prog X.w) X.A (call f us) (EP X pins σ Q) X.xe s
def d2 (g:G2)(fa fb:DE):DE:=fun env S=>(fa env S).bind fun x S1=>(fb env S1).bind fun y S2=>g x y S2
def d1 (g:D→Sto→Res D)(fa:DE):DE:=fun env S=>(fa env S).bind g
variable {fa fb:DE}
theorem eJ {g:G2}{f:Ac→Ac→Mp Ac}{pins:Ab (Af × Co)}{s:Ag}{σ : _L.St}{H:Hp}{Q:VK}(ho:OpD X f g)(ha:PE X a (tD X fa))(hb:PE X b (tD X fb))(I:Inv X pins σ H s)(h:tD X (d2 g fa fb) σ H Q) :
  Ap (Aw X.prog X.w) X.A (eval a X.env) (fun v s₁=>Ap (Aw X.prog X.w) X.A (eval b X.env) (fun u s₂=>Ap (Aw X.prog X.w) X.A (f v u) (EP X pins σ Q) X.xe s₂) X.xe s₁) X.xe s:=by
 obtain⟨P,α,env,S,r,re,af⟩:=h;refine thn (xH ha I r re af) fun vv s1 ⟨v,H1,P1,α1,d,S1,G1,af1⟩=>?_;refine thn (xH hb G1.inv G1.rel G1.env (P:=P1) (α:=α1) (Ok:=OkV X P1 α1 Q) (g:=fun y S2=>g d y S2) ?_) fun uu s2 ⟨u,H2,P2,α2,d',S2,G2,af2⟩=>?_
 ·exact zA.base G1.same G1.pre af1
 ·exact ho pins σ H2 s2 P2 α2 S2 v u vv uu d d' Q G2.inv G2.rel G1.val G2.val (Rep.mono G2.same G2.pre _ _ G1.rep) G2.rep (zA.base G2.same G2.pre af2)
theorem H8 {op:Lw}{g:G2}(ho:OpD X (Eo op) g)(ha:PE X a (tD X fa))(hb:PE X b (tD X fb)):PE X (.BinOp a op b pos) (tD X (d2 g fa fb)):=
 fun pins s σ H Q I h=>wpAny_BinOp (eJ ho ha hb I h)
theorem NN {op:Sm}{g:G2}(ho:OpD X (Cw op) g)(ha:PE X a (tD X fa))(hb:PE X b (tD X fb))(hm:Kg op b=false:=by first|exact gO _|with_unfolding_all rfl):PE X (.Compare a [op] [b] pos) (tD X (d2 g fa fb)):=
 fun pins s σ H Q I h=>wpAny_Compare1 (eJ ho ha hb I h) hm
theorem H9 {op:UnaryOp}{g:D→Sto→Res D}(ho:UnD X (Wt op) g)(ha:PE X a (tD X fa)):PE X (.UnaryOp op a pos) (tD X (d1 g fa)):=by
 intro pins s σ H Q I h;obtain⟨P,α,env,S,r,re,af⟩:=h;exact UnaryOp_ (thn (xH ha I r re af) fun vv s1 ⟨v,H1,P1,α1,d,S1,G1,af1⟩=>ho pins σ H1 s1 P1 α1 S1 v vv d Q G1.inv G1.rel G1.val G1.rep (zA.base G1.same G1.pre af1))
theorem KN {g:G2}(ho:IxD X g)(ha:PE X a (tD X fa))(hb:PE X b (tD X fb))(hs:jT b:=by intro _ _;rfl):PE X (.Subscript a b pos) (tD X (d2 g fa fb)):=by
 intro pins s σ H Q I h;obtain⟨P,α,env,S,r,re,af⟩:=h;have IxR':IxR X (fun x y H Q=>∃ P α S a b,Rel X.K H P α S∧Rep X.K P α a x∧Rep X.K P α b y∧zA X P α (g a b S) Q):=fun value slice pins s σ H x y v u Q I rx ry ⟨P,α,S,a,b,r,p1,p2,af⟩ hsl =>
  ho value slice pins σ H s P α S x y v u a b Q I r rx ry p1 p2 af hsl
 refine peW (CL IxR' ha hb hs) (t':=tD X (d2 g fa fb)) (fun σ H Q h=>?_) pins s σ H Q I ⟨P,α,env,S,r,re,af⟩;obtain⟨P,α,env,S,r,re,af⟩:=h;refine⟨P,α,env,S,r,re,?_⟩;unfold d2 at af;cases q:fa env S with
 |bad=>rw[q] at af;exact af
 |ex c x S'=>rw[q] at af;exact af
 |ok d S1 =>
  rw[q] at af;intro v H1 P1 α1 r1 e1 e2 rp;refine⟨P1,α1,env,S1,r1,re.mono e1 e2,?_⟩;have af':zA X P α ((fb env S1).bind fun y S2=>g d y S2) Q:=af;cases q2:fb env S1 with
  |bad=>rw[q2] at af';exact af'
  |ex c x S'=>rw[q2] at af';exact fun u s' z=>af' u s' (z.base e1 e2)
  |ok d' S2 =>
   rw[q2] at af';intro u H2 P2 α2 r2 e3 e4 rp2;exact⟨P2,α2,S2,d,d',r2,Rep.mono e3 e4 _ _ rp,rp2,zA.base (e1.trans e3) (e2.trans e4) af'⟩
def qC:DA:=fun _ S=>.ok [] S
def qA (f:DE)(g:DA):DA:=fun env S=>(f env S).bind fun x S1=>(g env S1).bind fun xs S2=>.ok (x::xs) S2
theorem XB:PA X [] (tDA X qC):=paW SR fun σ H Q ⟨P,α,env,S,r,re,af⟩=>af [] H P α r (qH.refl _) (Bg _) .nil
theorem iC {es:Ab Bq}{g:DA}(ha:PE X e (tD X fa))(hr:PA X es (tDA X g))(hs:Bb (e::es) X.env=(false,eval e X.env)::Bb es X.env:=by rfl):PA X (e::es) (tDA X (qA fa g)):=by
 intro pos pins s σ H Q I h;obtain⟨P,α,env,S,r,re,af⟩:=h;rw[hs];show Ap _ _ (spliced ((false,eval e X.env)::Fp pos (Bb es X.env))) _ _ s;refine La (thn (xH ha I r re af) fun u s1 ⟨x,H1,P1,α1,d,S1,G1,af1⟩=>?_);refine thn (yO hr G1.inv G1.rel G1.env (P:=P1) (α:=α1) (Ok:=OkA X P1 α1 Q) (pR.base G1.same G1.pre af1) pos) fun us s2 ⟨xs,H2,P2,α2,ds,S2,I2,rv,r2,re2,rp2,e1,e2,af2⟩=>?_;exact⟨x::xs,H2,I2,.cons G1.val rv,af2 _ _ _ _ r2 e1 e2 (.cons (Rep.mono e1 e2 _ _ G1.rep) rp2)⟩
def lim:Ah:=16777216
theorem xT:lim=sizeLine:=Fk.symm
def qT (f:DA):DE:=fun env S=>(f env S).bind fun xs S1=>if xs.length≤lim then .ok (.tup xs) S1 else .bad
def zN (f:DA):DE:=fun env S=>(f env S).bind fun xs S1=>if xs.length≤lim then .ok (.lst xs) S1 else .bad
def mY (f:DA):DE:=fun env S=>(f env S).bind fun xs S1=>if xs.length≤lim then .ok (.loc S1.length) (S1++[.lst xs]) else .bad
theorem oH {K:Ak}{P:Hp}{α : Ab Af}{a:Af}{ds:Ab D}{vs:Ab V}(h:SqT K P a vs)(r:qF K P α ds vs):Rep K P α (.tup ds) (.ref a):=by simp only[Rep];exact⟨a,vs,rfl,h,r⟩
theorem fK {K:Ak}{P:Hp}{α : Ab Af}{a:Af}{ds:Ab D}{vs:Ab V}(h:SqX K P a vs)(r:qF K P α ds vs):Rep K P α (.lst ds) (.ref a):=by simp only[Rep];exact⟨a,vs,rfl,h,r⟩
theorem pE {H P:Hp}{α : Ab Af}{S:Sto}{p:Af}{ds:Ab D}{vs:Ab V}{Q:VK}(r:Rel X.K H P α S)(hp:H p=none)(rp:qF X.K P α ds vs)(af:OkV X P α Q (.tup ds) S):Q (.ref p) (upd H p (.tup vs)):=by
 obtain⟨r1,e1⟩:=r.pure (o:=.tup vs) hp;exact af _ _ _ α r1 e1 (Bg _) (oH (.of zQ) (qF.mono e1 (Bg _) _ _ rp))
theorem vU {H P:Hp}{α : Ab Af}{S:Sto}{p:Af}{ds:Ab D}{vs:Ab V}{Q:VK}(r:Rel X.K H P α S)(hp:H p=none)(rp:qF X.K P α ds vs)(af:OkV X P α Q (.lst ds) S):Q (.ref p) (upd H p (.lst vs)):=by
 obtain⟨r1,e1⟩:=r.pure (o:=.lst vs) hp;exact af _ _ _ α r1 e1 (Bg _) (fK (.inl (.inl zQ)) (qF.mono e1 (Bg _) _ _ rp))
theorem lN {H P:Hp}{α : Ab Af}{S:Sto}{p:Af}{ds:Ab D}{vs:Ab V}{Q:VK}(r:Rel X.K H P α S)(hp:H p=none)(rp:qF X.K P α ds vs)(af:OkV X P α Q (.loc S.length) (S++[.lst ds])):Q (.ref p) (upd H p (.lst vs)):=by
 have hpre:α<+:α++[p]:=Hn _ _;have r1:=r.new (o:=.lst vs) (m:=.lst ds) hp ⟨vs,zQ,qF.mono (qH.refl _) hpre _ _ rp⟩;refine af _ _ _ _ r1 (qH.refl _) hpre ?_;simp only[Rep];exact⟨p,rfl,by rw[← r.len];simp⟩
theorem l8 {f:DA}{σ : _L.St}{H:Hp}{Q:VK}{G:Ab D→Sto→Res D}{mk:Ab V→HO}(h:tD X (fun env S=>(f env S).bind fun xs S1=>if xs.length≤lim then G xs S1 else .bad) σ H Q)
  (k:∀ H1 P1 α1 S1 ds vs p,Rel X.K H1 P1 α1 S1→H1 p=none→qF X.K P1 α1 ds vs→zA X P1 α1 (G ds S1) Q→Q (.ref p) (upd H1 p (mk vs))) :
  tDA X f σ H fun vs H1=>vs.length≤sizeLine∧∀ p,H1 p=none→Q (.ref p) (upd H1 p (mk vs)):=by
 obtain⟨P,α,env,S,r,re,af⟩:=h;refine⟨P,α,env,S,r,re,?_⟩;have af':zA X P α ((f env S).bind fun xs S1=>if xs.length≤lim then G xs S1 else .bad) Q:=af
 cases q:f env S with
 |bad=>rw[q] at af';exact af'
 |ex c x S'=>rw[q] at af';exact af'
 |ok ds S1 =>
  rw[q] at af';intro vs H1 P1 α1 r1 e1 e2 rp;have af2:zA X P α (if ds.length≤lim then G ds S1 else .bad) Q:=af'
  by_cases hl:ds.length≤lim
  ·rw[AT hl] at af2
   exact⟨by rw[← rp.length,← xT];exact hl,fun p hp=>k H1 P1 α1 S1 ds vs p r1 hp rp (zA.base e1 e2 af2)⟩
  ·rw[Bc hl] at af2;exact Ao af2
theorem NV {es:Ab Bq}{f:DA} {x1} (h:PA X es (tDA X f)):PE X (.Tuple es x1 pos) (tD X (qT f)):=
 peW (SX h) fun σ H Q q=>l8 (G:=fun xs S1=>.ok (.tup xs) S1) (mk:=.tup) q fun H1 P1 α1 S1 ds vs p r hp rp af=>pE r hp rp af
theorem XF {es:Ab Bq}{f:DA}(h:PA X es (tDA X f)):PE X (.List es pos) (tD X (zN f)):=
 peW (WS h) fun σ H Q q=>l8 (G:=fun xs S1=>.ok (.lst xs) S1) (mk:=.lst) q fun H1 P1 α1 S1 ds vs p r hp rp af=>vU r hp rp af
theorem B3 {es:Ab Bq}{f:DA}(h:PA X es (tDA X f)):PE X (.List es pos) (tD X (mY f)):=
 peW (WS h) fun σ H Q q=>l8 (G:=fun xs S1=>.ok (.loc S1.length) (S1++[MO.lst xs])) (mk:=.lst) q fun H1 P1 α1 S1 ds vs p r hp rp af=>lN r hp rp af
end
section
variable {X:Cx}{a b c e:Bq}{pos:Ez}{fa fb fc:DE}{ta tb:DT}
def w4:D→Sto→Am As
 |.non,_=>Aa false
 |.bl b,_=>Aa b
 |.int i,_=>Aa (i != 0)
 |.str x,_=>if x.length≤lim then Aa ((x.length:Aj) != 0) else none
 |.tup xs,_=>Aa (!xs.isEmpty)
 |.lst xs,_=>Aa (!xs.isEmpty)
 |.dct0,_=>Aa false
 |.loc i,S=>match S[i]? with
  |some (.lst xs)=>Aa (!xs.isEmpty)
  |some (.dct kvs)=>Aa (!kvs.isEmpty)
  |_=>none
 |_,_=>none
theorem qF.isEmpty {K:Ak}{P:Hp}{α : Ab Af}{ds:Ab D}{vs:Ab V}(r:qF K P α ds vs):(!ds.isEmpty)=!vs.isEmpty:=by
 cases ds with
 |nil=>rw[r.nil_inv];rfl
 |cons d ds=>obtain⟨w,ws,rfl,_,_⟩:=r.cons_inv;rfl
theorem wR {K:Ak}{H P:Hp}(e:qH P H){a:Af}{xs:Ab V}(h:SqT K P a xs):SqT K H a xs:=vX e h
theorem k7 {H P:Hp}{α : Ab Af}{S:Sto}{v:V}{d:D}{k:As}(r:Rel X.K H P α S)(p:Rep X.K P α d v)(h:w4 d S=Aa k):Q4 X.K v H k:=by
 cases d with
 |non=>simp only[Rep] at p;subst p;cases h;rfl
 |bl b=>simp only[Rep] at p;subst p;cases h;rfl
 |int i=>simp only[Rep] at p;subst p;cases h;rfl
 |str x =>
  simp only[Rep] at p;subst p;obtain⟨hl,rfl⟩:=kH h;exact⟨by rw[← xT];exact hl,rfl⟩
 |tup xs =>
  simp only[Rep] at p;obtain⟨a,vs,rfl,q,t⟩:=p;cases h;exact .inr (.inl ⟨vs,wR r.sub q,t.isEmpty⟩)
 |lst xs =>
  simp only[Rep] at p;obtain⟨a,vs,rfl,q,t⟩:=p;cases h;exact .inl ⟨vs,(wC r.sub q).l,t.isEmpty⟩
 |dct0 =>
  simp only[Rep] at p;obtain⟨a,rfl,q⟩:=p;cases h;exact .inr (.inr ⟨[],r.sub _ _ q,rfl⟩)
 |loc i =>
  simp only[Rep] at p;obtain⟨a,rfl,q⟩:=p;have h:(match S[i]? with|some (.lst xs)=>Aa (!xs.isEmpty)|some (.dct kvs)=>Aa (!kvs.isEmpty)|_=>none)=Aa k:=h
  cases hs:S[i]? with
  |none=>rw[hs] at h;exact nn h
  |some m =>
   rw[hs] at h;cases m with
   |lst xs =>
    cases h;obtain⟨vs,z,t⟩:=r.at' i a _ q hs;exact .inl ⟨vs,.of z,t.isEmpty⟩
   |dct kvs =>
    cases h;obtain⟨vs,z,t⟩:=r.at' i a _ q hs;refine .inr (.inr ⟨vs,z,?_⟩);cases t <;> rfl
   |_=>exact nn h
 |ty n=>exact nn h
 |obj a=>exact nn h
 |exn c=>exact nn h
 |fd ks ds=>exact nn h
theorem GW {pins:Ab (Af × Co)}{s:Ag}{σ : _L.St}{H P:Hp}{α : Ab Af}{S:Sto}{v:V}{vv:Ac}{d:D}{k:As}{Q:As→Hp→Prop}(I:Inv X pins σ H s)(r:Rel X.K H P α S)(rv:qI v vv)(p:Rep X.K P α d v)(h:w4 d S=Aa k)(q:Q k H) :
  Ap (Aw X.prog X.w) X.A (truthy vv) (TP X pins σ Q) X.xe s:=bL pins s σ H v vv Q I rv ⟨k,k7 r p h,q⟩
def uN (o:Am As)(S:Sto):Res As:=match o with
 |some b=>.ok b S
 |none=>.bad
def dTr (f:DE):DT:=fun env S=>(f env S).bind fun d S1=>uN (w4 d S1) S1
theorem lV {o:Am As}{S:Sto}{P:Hp}{α : Ab Af}{Ok:As→Sto→Prop}(h:qJ X P α (uN o S) Ok):∃ b,o=Aa b∧Ok b S:=by
 cases o with
 |none=>exact Ao h
 |some b=>exact⟨b,rfl,h⟩
theorem LJ (ha:PE X a (tD X fa))(he:∀ whole,isTrue a X.env whole=(do let v ← whole;Ub a.pos;holding [v] (truthy v)):=by intro _;rfl):PT X a (tDT X (dTr fa)):=by
 intro pins s σ H Q I h;obtain⟨P,α,env,S,r,re,af⟩:=h;refine isTrue_plain (thn (xH ha I r re af) fun vv s1 ⟨v,H1,P1,α1,d,S1,G1,af1⟩=>?_) (he _);obtain⟨k,e1,q⟩:=lV af1;exact GW G1.inv G1.rel G1.val G1.rep e1 (q H1 P1 α1 G1.rel G1.same G1.pre)
theorem LH {op:Sm}{g:G2}(ho:OpD X (Cw op) g)(ha:PE X a (tD X fa))(hb:PE X b (tD X fb))(hm:Kg op b=false:=by first|exact gO _|with_unfolding_all rfl):PT X (.Compare a [op] [b] pos) (tDT X (dTr (d2 g fa fb))):=by
 intro pins s σ H Q I h;obtain⟨P,α,env,S,r,re,af⟩:=h;refine wpAny_isTrue_Compare1 ?_ hm;have key:tD X (d2 g fa fb) σ H (fun v H1=>∃ k,Q4 X.K v H1 k∧Q k H1):=by
  refine⟨P,α,env,S,r,re,?_⟩;have af':qJ X P α ((d2 g fa fb env S).bind fun d S1=>uN (w4 d S1) S1) (OkT X P α Q):=af;cases q:d2 g fa fb env S with
  |bad=>rw[q] at af';exact af'
  |ex c x S'=>rw[q] at af';exact af'
  |ok d S1 =>
   rw[q] at af';obtain⟨k,e1,qk⟩:=lV (X:=X) af';exact fun v H1 P1 α1 r1 e3 e4 rp=>⟨k,k7 r1 rp e1,qk H1 P1 α1 r1 e3 e4⟩
 exact thn (eJ ho ha hb I key) fun v s1 h1=>thn h1 fun u s2 h2=>thn h2 fun x s3 ⟨y,H3,I3,r3,k,tk,qk⟩=>bL pins s3 σ H3 y x Q I3 r3 ⟨k,tk,qk⟩
def xR (g g':G2)(fa fb fc:DE):DE:=fun env S=>(fa env S).bind fun x S1=>(fb env S1).bind fun y S2=>(g x y S2).bind fun z S3 =>
 match w4 z S3 with
 |some true=>(fc env S3).bind fun w S4=>g' y w S4
 |some false=>.ok z S3
 |none=>.bad
inductive GotO (X:Cx)(pins:Ab (Af × Co))(σ : _L.St)(P:Hp)(α : Ab Af)(w:Ac)(s1:Ag){γ : Type}(k:D→Sto→Res γ)(Ok:γ→Sto→Prop):Prop
 |mk (y:V) (H1 P1:Hp) (α1:Ab Af) (d:D) (S1:Sto) (I:Inv X pins σ H1 s1) (rv:qI y w) (r:Rel X.K H1 P1 α1 S1) (rp:Rep X.K P1 α1 d y) (e1:qH P P1) (e2:α<+:α1) (q:qJ X P α (k d S1) Ok):GotO X pins σ P α w s1 k Ok
theorem cM {γ : Type}{f:Ac→Ac→Mp Ac}{g:G2}{k:D→Sto→Res γ}{Ok:γ→Sto→Prop}{pins:Ab (Af × Co)}{σ : _L.St}{H:Hp}{s:Ag}{P:Hp}{α : Ab Af}{S:Sto}{v u:V}{vv uu:Ac}{a b:D}(ho:OpD X f g)(I:Inv X pins σ H s)(r:Rel X.K H P α S)
  (rv:qI v vv) (ru:qI u uu) (pa:Rep X.K P α a v) (pb:Rep X.K P α b u) (af:qJ X P α ((g a b S).bind k) Ok) :
  Ap (Aw X.prog X.w) X.A (f vv uu) (fun w s1=>GotO X pins σ P α w s1 k Ok) X.xe s:=by
 refine thn (ho pins σ H s P α S v u vv uu a b (fun y H1=>∃ P1 α1 d S1,Rel X.K H1 P1 α1 S1∧Rep X.K P1 α1 d y∧qH P P1∧α<+:α1∧qJ X P α (k d S1) Ok) I r rv ru pa pb ?_) fun w s1 ⟨y,H1,I1,r1,P1,α1,d,S1,q1,q2,q3,q4,q5⟩=>⟨y,H1,P1,α1,d,S1,I1,r1,q1,q2,q3,q4,q5⟩;cases q:g a b S with
 |bad=>rw[q] at af;exact af
 |ex c x S'=>rw[q] at af;exact af
 |ok d S' =>
  rw[q] at af;exact fun v H' P' α' r' e1 e2 rp=>⟨P',α',d,S',r',rp,e1,e2,af⟩
theorem qJ.base' {β : Type}{P P1:Hp}{α α1:Ab Af}{r:Res β}{Ok Ok1:β→Sto→Prop}(e:qH P P1)(h:α<+:α1)(ho:∀ d S,Ok d S→Ok1 d S)(k:qJ X P α r Ok):qJ X P1 α1 r Ok1:=by
 cases r with
 |ok d S=>exact ho d S k
 |ex c x S=>exact fun u s' q=>k u s' (q.base e h)
 |bad=>exact k
theorem VV {op op':Sm}{g g':G2}(ho:OpD X (Cw op) g)(ho':OpD X (Cw op') g')(ha:PE X a (tD X fa))(hb:PE X b (tD X fb))(hc:PE X c (tD X fc))
  (hm:Wb [op,op'] [b,c]=false:=by with_unfolding_all rfl):PE X (.Compare a [op,op'] [b,c] pos) (tD X (xR g g' fa fb fc)):=by
 intro pins s σ H Q I h;obtain⟨P,α,env,S,r,re,af⟩:=h;refine Compare_chain (thn (xH ha I r re af) fun vv s1 ⟨v,H1,P1,α1,d,S1,G1,af1⟩=>chain_link (thn (xH hb G1.inv G1.rel G1.env (zA.base G1.same G1.pre af1)) fun uu s2 ⟨u,H2,P2,α2,d',S2,G2,af2⟩ =>
  thn (cM ho G2.inv G2.rel G1.val G2.val (Rep.mono G2.same G2.pre _ _ G1.rep) G2.rep (zA.base G2.same G2.pre af2)) fun w s3 ⟨y,H3,P3,α3,z,S3,I3,r3,rl3,rp3,e3,e4,af3⟩=>?_)) hm
 cases ht:w4 z S3 with
 |none=>simp only[ht] at af3;exact Ao af3
 |some k =>
  simp only[ht] at af3;have tv:=k7 rl3 rp3 ht;refine thn (bL pins s3 σ H3 y w (fun k' H'=>k'=k∧H'=H3) I3 r3 ⟨k,tv,rfl,rfl⟩) fun k' s4 ⟨H4,I4,hk,hH⟩=>?_;subst hk;subst hH;cases k' with
  |false=>exact ite_ff ⟨y,H4,I4,r3,af3 y H4 P3 α3 rl3 e3 e4 rp3⟩
  |true =>
   refine ite_tt (chain_last (thn (xH hc I4 rl3 (G2.env.mono e3 e4) (zA.base e3 e4 af3)) fun ww s5 ⟨w',H5,P5,α5,d5,S5,G5,af5⟩=>?_));exact ho' pins σ H5 s5 P5 α5 S5 u w' uu ww d' d5 Q G5.inv G5.rel G2.val G5.val (Rep.mono (e3.trans G5.same) (e4.trans G5.pre) _ _ G2.rep) G5.rep (zA.base G5.same G5.pre af5)
theorem U5 {op op':Sm}{g g':G2}(ho:OpD X (Cw op) g)(ho':OpD X (Cw op') g')(ha:PE X a (tD X fa))(hb:PE X b (tD X fb))(hc:PE X c (tD X fc))
  (hm:Wb [op,op'] [b,c]=false:=by with_unfolding_all rfl):PT X (.Compare a [op,op'] [b,c] pos) (tDT X (dTr (xR g g' fa fb fc))):=by
 intro pins s σ H Q I h;obtain⟨P,α,env,S,r,re,af⟩:=h;have af':qJ X P α ((xR g g' fa fb fc env S).bind fun d S1=>uN (w4 d S1) S1) (OkT X P α Q):=af;have assoc:(xR g g' fa fb fc env S).bind (fun d S1=>uN (w4 d S1) S1)=(fa env S).bind fun x S1=>(fb env S1).bind fun y S2=>(g x y S2).bind fun z S3 =>
   match w4 z S3 with
   |some true=>((fc env S3).bind fun w S4=>g' y w S4).bind fun d S1=>uN (w4 d S1) S1
   |some false=>.ok false S3
   |none=>.bad:=by
  unfold xR;cases fa env S with
  |bad=>rfl
  |ex _ _ _=>rfl
  |ok x S1 =>
   show Res.bind (Res.bind (fb env S1) _) _=Res.bind (fb env S1) _;cases fb env S1 with
   |bad=>rfl
   |ex _ _ _=>rfl
   |ok y S2 =>
    show Res.bind (Res.bind (g x y S2) _) _=Res.bind (g x y S2) _;cases g x y S2 with
    |bad=>rfl
    |ex _ _ _=>rfl
    |ok z S3 =>
     show Res.bind (match w4 z S3 with|some true=>(fc env S3).bind fun w S4=>g' y w S4|some false=>.ok z S3|none=>.bad) _=_
     cases ht:w4 z S3 with
     |none=>simp only[ht,Res.bind]
     |some k=>cases k <;> simp only[ht,Res.bind,uN]
 rw[assoc] at af';refine isTrue_chain (thn (xH ha I r re af') fun vv s1 ⟨v,H1,P1,α1,d,S1,G1,af1⟩=>test_link (thn (xH hb G1.inv G1.rel G1.env (vM.base G1.same G1.pre af1)) fun uu s2 ⟨u,H2,P2,α2,d',S2,G2,af2⟩ =>
  thn (cM ho G2.inv G2.rel G1.val G2.val (Rep.mono G2.same G2.pre _ _ G1.rep) G2.rep (vM.base G2.same G2.pre af2)) fun w s3 ⟨y,H3,P3,α3,z,S3,I3,r3,rl3,rp3,e3,e4,af3⟩=>?_)) hm
 cases ht:w4 z S3 with
 |none=>simp only[ht] at af3;exact Ao af3
 |some k =>
  simp only[ht] at af3;have tv:=k7 rl3 rp3 ht;refine thn (bL pins s3 σ H3 y w (fun k' H'=>k'=k∧H'=H3) I3 r3 ⟨k,tv,rfl,rfl⟩) fun k' s4 ⟨H4,I4,hk,hH⟩=>?_;subst hk;subst hH;cases k' with
  |false=>exact ite_ff ⟨H4,I4,af3 H4 P3 α3 rl3 e3 e4⟩
  |true =>
   have af4:qJ X P2 α2 ((fc env S3).bind fun w S4=>(g' d' w S4).bind fun d S1=>uN (w4 d S1) S1) (OkT X P2 α2 Q):=by
    have e:((fc env S3).bind fun w S4=>(g' d' w S4).bind fun d S1=>uN (w4 d S1) S1)=(((fc env S3).bind fun w S4=>g' d' w S4).bind fun d S1=>uN (w4 d S1) S1):=by
     cases fc env S3 <;> rfl
    rw[e];exact af3
   refine ite_tt (test_last (thn (xH hc I4 rl3 (G2.env.mono e3 e4) (vM.base e3 e4 af4)) fun ww s5 ⟨w',H5,P5,α5,d5,S5,G5,af5⟩ =>
    thn (cM ho' G5.inv G5.rel G2.val G5.val (Rep.mono (e3.trans G5.same) (e4.trans G5.pre) _ _ G2.rep) G5.rep (vM.base G5.same G5.pre af5)) fun x6 s6 ⟨y6,H6,P6,α6,d6,S6,I6,r6,rl6,rp6,e5,e6,af6⟩=>?_))
   obtain⟨k6,q6,z6⟩:=lV af6;exact GW I6 rl6 r6 rp6 q6 (z6 H6 P6 α6 rl6 e5 e6)
def zT (t:DT):DT:=fun env S=>(t env S).bind fun b S1=>.ok (!b) S1
def wJ (t u:DT):DT:=fun env S=>(t env S).bind fun b S1=>if b then u env S1 else .ok false S1
def y8 (t u:DT):DT:=fun env S=>(t env S).bind fun b S1=>if b then .ok true S1 else u env S1
theorem LI (ha:PT X a (tDT X ta)):PT X (.UnaryOp .Not a pos) (tDT X (zT ta)):=by
 intro pins s σ H Q I h;obtain⟨P,α,env,S,r,re,af⟩:=h;refine isTrue_not (thn (pX (fun Q' q=>ha pins s σ H Q' I q) r re af) fun b s1 ⟨H1,P1,α1,S1,I1,r1,re1,e1,e2,af1⟩=>⟨H1,I1,af1 H1 P1 α1 r1 e1 e2⟩)
def PWD (X:Cx)(e:Bq)(t:DT):Prop:=PW X e (tDT X t)
theorem PWD.pt {t:DT}(h:PWD X e t):PT X e (tDT X t):=h _
theorem LK (ha:PT X a (tDT X ta)):PWD X (.BoolOp .Or [a] pos) ta:=RA ha
theorem HE {rest:Ab Bq}(ha:PT X a (tDT X ta))(hb:PWD X (.BoolOp .Or (b::rest) pos) tb):PWD X (.BoolOp .Or (a::b::rest) pos) (y8 ta tb):=by
 intro wh pins s σ H Q I h;obtain⟨P,α,env,S,r,re,af⟩:=h;refine isTrue_or (thn (pX (fun Q' q=>ha pins s σ H Q' I q) r re af) fun k s1 ⟨H1,P1,α1,S1,I1,r1,re1,e1,e2,af1⟩=>?_);cases k with
 |true=>exact⟨H1,I1,af1 H1 P1 α1 r1 e1 e2⟩
 |false=>exact hb wh pins s1 σ H1 Q I1 ⟨P1,α1,env,S1,r1,re1,vM.base e1 e2 af1⟩
def vL (f g:DE):DE:=fun env S=>(f env S).bind fun x S1=>match w4 x S1 with
 |some true=>g env S1
 |some false=>.ok x S1
 |none=>.bad
def QJ (f:DE):DE:=fun env S=>(f env S).bind fun x S1=>match w4 x S1 with
 |some b=>.ok (.bl (!b)) S1
 |none=>.bad
theorem NS {op} (h:PE X a (tD X fa)):PE X (.BoolOp op [a] pos) (tD X fa):=SV h
theorem ED {pins:Ab (Af × Co)}{s:Ag}{σ : _L.St}{H:Hp}{v:V}{vv:Ac}{k:As}{R:As→Ag→Prop}(I:Inv X pins σ H s)(rv:qI v vv)(t:Q4 X.K v H k)(h:∀ s',Inv X pins σ H s'→R k s') :
  Ap (Aw X.prog X.w) X.A (truthy vv) R X.xe s:=thn (bL pins s σ H v vv (fun k' H'=>k'=k∧H'=H) I rv ⟨k,t,rfl,rfl⟩) fun k' s4 ⟨H4,I4,hk,hH⟩=>by subst hk;subst hH;exact h s4 I4
theorem NL {rest:Ab Bq}(ha:PE X a (tD X fa))(hb:PE X (.BoolOp .And (b::rest) pos) (tD X fb)):PE X (.BoolOp .And (a::b::rest) pos) (tD X (vL fa fb)):=by
 intro pins s σ H Q I h;obtain⟨P,α,env,S,r,re,af⟩:=h;refine BoolOp_and (thn (xH ha I r re af) fun vv s1 ⟨v,H1,P1,α1,d,S1,G1,af1⟩=>?_);cases ht:w4 d S1 with
 |none=>simp only[ht] at af1;exact Ao af1
 |some k =>
  simp only[ht] at af1;refine ED G1.inv G1.val (k7 G1.rel G1.rep ht) fun s2 I2=>?_;cases k with
  |true=>exact hb pins s2 σ H1 Q I2 ⟨P1,α1,env,S1,G1.rel,G1.env,zA.base G1.same G1.pre af1⟩
  |false=>exact⟨v,H1,I2,G1.val,af1 v H1 P1 α1 G1.rel G1.same G1.pre G1.rep⟩
theorem NR (ha:PE X a (tD X fa)):PE X (.UnaryOp .Not a pos) (tD X (QJ fa)):=by
 intro pins s σ H Q I h;obtain⟨P,α,env,S,r,re,af⟩:=h;refine UnaryOp_ (thn (xH ha I r re af) fun vv s1 ⟨v,H1,P1,α1,d,S1,G1,af1⟩=>?_);cases ht:w4 d S1 with
 |none=>simp only[ht] at af1;exact Ao af1
 |some k =>
  simp only[ht] at af1;exact not_of (ED G1.inv G1.val (k7 G1.rel G1.rep ht) fun s2 I2=>⟨.bl (!k),H1,I2,rfl,af1 (.bl (!k)) H1 P1 α1 G1.rel G1.same G1.pre (by simp only[Rep])⟩)
def dIf (t:DT)(f g:DE):DE:=fun env S=>(t env S).bind fun b S1=>if b then f env S1 else g env S1
theorem H0 (hc:PT X c (tDT X ta))(ha:PE X a (tD X fa))(hb:PE X b (tD X fb)):PE X (.IfExp c a b pos) (tD X (dIf ta fa fb)):=by
 intro pins s σ H Q I h;obtain⟨P,α,env,S,r,re,af⟩:=h;refine wpAny_IfExp (thn (pX (fun Q' q=>hc pins s σ H Q' I q) r re af) fun k s1 ⟨H1,P1,α1,S1,I1,r1,re1,e1,e2,af1⟩=>?_);cases k with
 |true=>exact ha pins s1 σ H1 Q I1 ⟨P1,α1,env,S1,r1,re1,zA.base e1 e2 af1⟩
 |false=>exact hb pins s1 σ H1 Q I1 ⟨P1,α1,env,S1,r1,re1,zA.base e1 e2 af1⟩
end
@[inline] def Res.toS {β : Type}(env:qD)(r:Res β)(k:β→Sto→Out):Out:=
 match r with
 |.ok d S=>k d S
 |.ex c x S=>.ex c x env S
 |.bad=>.bad
section
variable {X:Cx}{a b c e:Bq}{pos:Ez}{fa fb fc:DE}{ta tb:DT}{f g:DS}{st:Eu}{rest:Ab Eu}
def zD:DS:=fun env S=>.nx env S
def qL (f g:DS):DS:=fun env S=>match f env S with
 |.nx env1 S1=>g env1 S1
 |o=>o
theorem L9:PSs X [] (tDS X zD):=R8 M2 fun D σ H ⟨P,α,env,S,r,re,af⟩=>af σ H P α r re (qH.refl _) (Bg _)
theorem BD (h1:PS X st (tDS X f))(h2:PSs X rest (tDS X g)):PSs X (st::rest) (tDS X (qL f g)):=R8 (JK h1 h2) fun D σ H ⟨P,α,env,S,r,re,af⟩=>by
 refine⟨P,α,env,S,r,re,?_⟩;unfold qL at af;cases q:f env S with
 |nx env1 S1 =>
  rw[q] at af;exact fun σ' H' P' α' r' re' e1 e2=>⟨P',α',env1,S1,r',re',zB.base e1 e2 af⟩
 |rt d S1=>rw[q] at af;exact af
 |bk env1 S1=>rw[q] at af;exact af
 |ct env1 S1=>rw[q] at af;exact af
 |ex c x env1 S1=>rw[q] at af;exact af
 |bad=>rw[q] at af;exact af
theorem LA (h1:PS X st (tDS X f)):PSs X [st] (tDS X f):=M3 h1
theorem xZ {β : Type}{P:Hp}{α : Ab Af}{env:qD}{r:Res β}{k:β→Sto→Out}{D:Ends}(h:zB X P α (r.toS env k) D):qJ X P α r fun d S=>zB X P α (k d S) D:=by
 cases r with
 |ok d S=>exact h
 |ex c x S=>exact h
 |bad=>exact h
inductive GotS (X:Cx)(pins:Ab (Af × Co))(σ : _L.St)(env:qD)(P:Hp)(α : Ab Af)(u:Ac)(s1:Ag)(k:D→Sto→Out)(E:Ends):Prop
 |mk (v:V) (H1 P1:Hp) (α1:Ab Af) (d:D) (S1:Sto) (G:Got X pins σ env P α u s1 v H1 P1 α1 d S1) (q:zB X P1 α1 (k d S1) E):GotS X pins σ env P α u s1 k E
theorem t7 {k:D→Sto→Out}{pins:Ab (Af × Co)}{s:Ag}{σ : _L.St}{H P:Hp}{α : Ab Af}{env:qD}{S:Sto}{D:Ends}(he:PE X e (tD X fa))(I:Inv X pins σ H s)(r:Rel X.K H P α S)
  (re:zJ X.K P α σ env) (af:zB X P α ((fa env S).toS env k) D) :
  Ap (Aw X.prog X.w) X.A (eval e X.env) (fun u s1=>GotS X pins σ env P α u s1 k D) X.xe s:=by
 have af1:qJ X P α ((fa env S).bind fun d S=>.ok d S) fun d S=>zB X P α (k d S) D:=by
  have:=xZ af;cases q:fa env S <;> rw[q] at this <;> exact this
 exact thn (xH he I r re af1) fun u s1 ⟨v,H1,P1,α1,d,S1,G,q⟩=>⟨v,H1,P1,α1,d,S1,G,zB.base G.same G.pre q⟩
def yM (f:DE):DS:=fun env S=>(f env S).toS env fun _ S1=>.nx env S1
theorem BE (he:PE X e (tD X fa))(hs:Lr e none pos.line X.env=pure false:=by rfl):PS X (.Expr e pos) (tDS X (yM fa)):=by
 intro pins s σ H D I h;obtain⟨P,α,env,S,r,re,af⟩:=h;exact wpAny_Expr_any (thn (t7 he I r re af) fun v s1 ⟨x,H1,P1,α1,d,S1,G,q⟩=>⟨σ,H1,G.inv,q σ H1 P1 α1 G.rel G.env (qH.refl _) (Bg _)⟩) I.quiet hs
def qX (f:DE):DS:=fun env S=>(f env S).toS env fun d S1=>.rt d S1
theorem LC (he:PE X e (tD X fa)):PS X (.Return (Aa e) pos) (tDS X (qX fa)):=by
 intro pins s σ H D I h;obtain⟨P,α,env,S,r,re,af⟩:=h;exact wpAny_Return_some (thn (t7 he I r re af) fun v s1 ⟨x,H1,P1,α1,d,S1,G,q⟩=>⟨x,σ,H1,G.inv,G.val,q x H1 P1 α1 G.rel (qH.refl _) (Bg _) G.rep⟩)
def sIf (t:DT)(f g:DS):DS:=fun env S=>(t env S).toS env fun b S1=>if b then f env S1 else g env S1
theorem HC {c:Bq}{as bs:Ab Eu}(hc:PT X c (tDT X ta))(ha:PSs X as (tDS X f))(hb:PSs X bs (tDS X g)):PS X (.If c as bs pos) (tDS X (sIf ta f g)):=by
 intro pins s σ H D I h;obtain⟨P,α,env,S,r,re,af⟩:=h;have af1:qJ X P α ((ta env S).bind fun d S=>.ok d S) fun b S=>zB X P α (if b then f env S else g env S) D:=by
  have:=xZ af;cases q:ta env S <;> rw[q] at this <;> exact this
 refine wpAny_If (thn (pX (fun Q' q=>hc pins s σ H Q' I q) r re af1) fun k s1 ⟨H1,P1,α1,S1,I1,r1,re1,e1,e2,af2⟩=>?_);cases k with
 |true=>exact ha pins s1 σ H1 D I1 ⟨P1,α1,env,S1,r1,re1,zB.base e1 e2 af2⟩
 |false=>exact hb pins s1 σ H1 D I1 ⟨P1,α1,env,S1,r1,re1,zB.base e1 e2 af2⟩
abbrev DG:=D→qD→Sto→Res qD
abbrev DGs:=Ab D→qD→Sto→Res qD
def OkE (X:Cx)(P:Hp)(α : Ab Af)(Q:_L.St→Hp→Prop)(env':qD)(S':Sto):Prop:=∀ σ' H' P' α',Rel X.K H' P' α' S'→zJ X.K P' α' σ' env'→qH P P'→α<+:α'→Q σ' H'
def tDG (X:Cx)(g:DG):TG:=fun v σ H Q=>∃ P α env S d,Rel X.K H P α S∧zJ X.K P α σ env∧Rep X.K P α d v∧qJ X P α (g d env S) (OkE X P α Q)
def aD (X:Cx)(g:DGs):TGs:=fun vs σ H Q=>∃ P α env S ds,Rel X.K H P α S∧zJ X.K P α σ env∧qF X.K P α ds vs∧qJ X P α (g ds env S) (OkE X P α Q)
theorem zJ.set {K:Ak}{P:Hp}{α : Ab Af}{σ : _L.St}{env:qD}{d:D}{v:V}(re:zJ K P α σ env)(i:Ah)(rp:Rep K P α d v):zJ K P α (σ.set i (Aa v)) (env.set i (Aa d)):=by
 refine⟨by simp[re.1],fun j d' e=>?_⟩
 by_cases hj:i=j
 ·subst hj
  by_cases hi:i<env.length
  ·rw[En hi] at e
   cases e;exact⟨v,by rw[En (by rw[← re.1];exact hi)],rp⟩
  ·rw[Mh (by simp;omega)] at e;cases e
 ·rw[Ek hj] at e ⊢
  exact re.2 j d' e
def gNm (i:Ah):DG:=fun d env S=>.ok (env.set i (Aa d)) S
theorem B8 {i:Ah}{x:Au}(hN:X.N.Nodup)(hi:X.N[i]? = Aa x:=by rfl)(hx:Loc X.env.scope x:=by first|exact Wz rfl|exact Ur rfl)(hf:X.fn x=true∨X.env.scope.names.lookup x=Aa .local:=by first|exact .inl rfl|exact .inr rfl|assumption):PG X (.Name x pos) (tDG X (gNm i)):=by
 intro pins s σ H v u Q I rv h;obtain⟨P,α,env,S,d,r,re,rp,af⟩:=h;exact FX hN hi hx hf pins s σ H v u Q I rv (af _ H P α r (re.set i rp) (qH.refl _) (Bg _))
def xQ:DGs:=fun ds env S=>match ds with
 |[]=>.ok env S
 |_=>.bad
def qZ (g:DG)(gs:DGs):DGs:=fun ds env S=>match ds with
 |d::r=>(g d env S).bind fun env1 S1=>gs r env1 S1
 |[]=>.bad
theorem B9:PGs X [] (aD X xQ):=by
 intro pins s σ H vs us Q I rv h;obtain⟨P,α,env,S,ds,r,re,rp,af⟩:=h;cases ds with
 |nil=>exact FY pins s σ H vs us Q I rv ⟨rp.nil_inv,af σ H P α r re (qH.refl _) (Bg _)⟩
 |cons d ds=>exact Ao af
theorem VZ {es:Ab Bq}{g:DG}{gs:DGs}(h1:PG X e (tDG X g))(h2:PGs X es (aD X gs))(hs:(Gi (e::es) X.env).map (·.2)=assign e X.env::(Gi es X.env).map (·.2):=by rfl):PGs X (e::es) (aD X (qZ g gs)):=by
 intro pins s σ H vs us Q I rv h;obtain⟨P,α,env,S,ds,r,re,rp,af⟩:=h;cases ds with
 |nil=>exact Ao af
 |cons d ds =>
  obtain⟨w,ws,rfl,p1,p2⟩:=rp.cons_inv;refine JI h1 h2 hs pins s σ H _ us Q I rv ⟨w,ws,rfl,P,α,env,S,d,r,re,p1,?_⟩;have af':qJ X P α ((g d env S).bind fun env1 S1=>gs ds env1 S1) (OkE X P α Q):=af;cases q:g d env S with
  |bad=>rw[q] at af';exact af'
  |ex c x S'=>rw[q] at af';exact af'
  |ok env1 S1 =>
   rw[q] at af';intro σ' H' P' α' r' re' e1 e2;refine⟨P',α',env1,S1,ds,r',re',qF.mono e1 e2 _ _ p2,qJ.base' e1 e2 (fun env' S' ok σ2 H2 P2 α2 r2 re2 e3 e4=>ok σ2 H2 P2 α2 r2 re2 (e1.trans e3) (e2.trans e4)) af'⟩
def gTp (n:Ah)(gs:DGs):DG:=fun d env S=>match d with
 |.tup xs=>if xs.length=n then gs xs env S else .bad
 |_=>.bad
set_option tactic.hygienic true in
theorem L0 {es:Ab Bq}{k:Ah}{gs:DGs}{n:Ah}(hc:X.calm=true)(h:PGs X es (aD X gs))(hn:(Gi es X.env).length=n:=by rfl)(hst:(Gi es X.env).findIdx? (·.1)=none:=by rfl):PG X (.Tuple es k pos) (tDG X (gTp n gs)):=by
 intro pins s σ H v u Q I rv hw;obtain⟨P,α,env,S,d,r,re,rp,af⟩:=hw;cases d with
 |tup xs =>
  simp only[Rep] at rp;obtain⟨a,vs,rfl,q,t⟩:=rp;simp only[gTp] at af
  split at af
  ·rename_i hl
   exact SZ hc h hn hst pins s σ H _ u Q I rv ⟨a,vs,rfl,wR r.sub q,by rw[← t.length];exact hl,P,α,env,S,xs,r,re,t,af⟩
  ·exact Ao af
 |_=>exact Ao af
abbrev G3:=D→D→D→Sto→Res Rm
def OkU (X:Cx)(P:Hp)(α : Ab Af)(Q:Hp→Prop)(_:Rm)(S':Sto):Prop:=∀ H' P' α',Rel X.K H' P' α' S'→qH P P'→α<+:α'→Q H'
def rN (X:Cx)(g:G3):V9:=fun o i v H Q=>∃ P α S a b d,Rel X.K H P α S∧Rep X.K P α a o∧Rep X.K P α b i∧Rep X.K P α d v∧qJ X P α (g a b d S) (OkU X P α Q)
def gSb (fo fi:DE)(g:G3):DG:=fun d env S=>(fo env S).bind fun o S1=>(fi env S1).bind fun i S2=>(g o i d S2).bind fun _ S3=>.ok env S3
theorem NZ {o i:Bq}{fo fi:DE}{g:G3}(ho:PE X o (tD X fo))(hi:PE X i (tD X fi))(hs:rQ X (rN X g))
  (ha:∀ v,assign (.Subscript o i pos) X.env v=(do
   let ov ← holding [v] (eval o X.env)
   let iv ← holding [v,ov] (eval i X.env)
   Ub pos
   holding [v,ov,iv] (Yz ov iv v)
   release [v,ov,iv] []):=by intro _;rfl):PG X (.Subscript o i pos) (tDG X (gSb fo fi g)):=by
 intro pins s σ H v u Q I rv h;obtain⟨P,α,env,S,d,r,re,rp,af⟩:=h;rw[ha];refine Ad (Dj (thn (xH ho I r re af) fun ov s1 ⟨x,H1,P1,α1,d1,S1,G1,af1⟩=>?_));refine Ad (Dj (thn (xH hi G1.inv G1.rel G1.env (P:=P1) (α:=α1) (Ok:=OkE X P1 α1 Q) (qJ.base' G1.same G1.pre (fun env' S' ok σ2 H2 P2 α2 r2 re2 e3 e4=>ok σ2 H2 P2 α2 r2 re2 (G1.same.trans e3) (G1.pre.trans e4)) af1)) fun iv s2 ⟨y,H2,P2,α2,d2,S2,G2,af2⟩=>?_));refine Ad (Oy (Ad (Dj (thn (hs pins s2 σ H2 x y v ov iv u (fun H3=>Q σ H3) G2.inv G1.val G2.val rv ⟨P2,α2,S2,d1,d2,d,G2.rel,Rep.mono G2.same G2.pre _ _ G1.rep,G2.rep,Rep.mono (G1.same.trans G2.same) (G1.pre.trans G2.pre) _ _ rp,?_⟩) fun _ s3 ⟨H3,I3,q3⟩=>?_))))
 ·cases q:g d1 d2 d S2 with
  |bad=>rw[q] at af2;exact af2
  |ex c x S'=>rw[q] at af2;exact fun u s' z=>af2 u s' (z.base G2.same G2.pre)
  |ok w S3 =>
   rw[q] at af2;exact fun H' P' α' r' e1 e2=>af2 σ H' P' α' r' (G2.env.mono e1 e2) (G2.same.trans e1) (G2.pre.trans e2)
 ·exact wpAny_release ⟨σ,H3,I3,q3⟩
def zC (f:DE)(g:DG):DS:=fun env S=>(f env S).toS env fun d S1=>(g d env S1).toS env fun env' S2=>.nx env' S2
theorem ZY {g:DG}{d:D}{env:qD}{S:Sto}{P:Hp}{α : Ab Af}{D':Ends}(h:zB X P α ((g d env S).toS env fun env' S2=>.nx env' S2) D'):qJ X P α (g d env S) (OkE X P α D'.nx):=by
 cases q:g d env S with
 |bad=>rw[q] at h;exact h
 |ex c x S'=>rw[q] at h;exact h
 |ok env1 S1=>rw[q] at h;exact h
theorem L6 {tg e:Bq}{g:DG}(he:PE X e (tD X fa))(hg:PG X tg (tDG X g))(hs:Ke [tg] e pos.line X.env=pure false:=by rfl)(hw:Ka [tg] e X.env=pure none:=by rfl)
  (h1:(Gi [tg] X.env).map (·.2)=[assign tg X.env]:=by rfl):PS X (.Assign [tg] e pos) (tDS X (zC fa g)):=by
 intro pins s σ H D I h;obtain⟨P,α,env,S,r,re,af⟩:=h;refine wpAny_Assign_stores (thn (t7 he I r re af) fun v s1 ⟨x,H1,P1,α1,d,S1,G,q⟩=>?_) hs hw;rw[h1];exact thn (hg pins s1 σ H1 x v _ G.inv G.val ⟨P1,α1,env,S1,d,G.rel,G.env,G.rep,ZY q⟩) fun _ s2 q=>q
theorem LD {i:Ah}{x:Au}{e:Bq}{pos':Ez}(hN:X.N.Nodup)(he:PE X e (tD X fa))(hi:X.N[i]? = Aa x:=by rfl)(hx:Loc X.env.scope x:=by first|exact Wz rfl|exact Ur rfl)(hs:Lr e (Aa (.Name x pos')) pos.line X.env=pure false:=by rfl)
  (hf:X.fn x=true∨X.env.scope.names.lookup x=Aa .local:=by first|exact .inl rfl|exact .inr rfl|assumption):PS X (.Assign [.Name x pos'] e pos) (tDS X (zC fa (gNm i))):=by
 intro pins s σ H D I h;obtain⟨P,α,env,S,r,re,af⟩:=h;refine wpAny_Assign_Name (thn (t7 he I r re af) fun v s1 ⟨y,H1,P1,α1,d,S1,G,q⟩=>?_) hs;exact j7 G.inv hN hi hx G.val (fun s2 I2=>⟨_,H1,I2,q _ H1 P1 α1 G.rel (G.env.set i G.rep) (qH.refl _) (Bg _)⟩) hf
def cN (i j:Ah)(env:qD)(S1:Sto):Ab D→Out
 |[x,y]=>.nx ((env.set i (Aa x)).set j (Aa y)) S1
 |_=>.bad
def pG (i j:Ah)(f:DA):DS:=fun env S=>(f env S).toS env fun ds S1=>cN i j env S1 ds
theorem LB {i j:Ah}{x y:Au}{a b:Bq}{f:DA}{px py pt:Ez} {kt k2 pt2} (hc:X.calm=true) (hN:X.N.Nodup) (ha:PA X [a,b] (tDA X f)) (hi:X.N[i]? = Aa x:=by rfl) (hj:X.N[j]? = Aa y:=by rfl) (hij:i≠j:=by decide)
  (hx:X.env.scope.names.lookup x=Aa .local:=by rfl) (hy:X.env.scope.names.lookup y=Aa .local:=by rfl)
  (hw:Ka [.Tuple [.Name x px,.Name y py] kt pt] (.Tuple [a,b] k2 pt2) X.env=pure (Aa [x,y]):=by rfl)
  (hs:Ke [.Tuple [.Name x px,.Name y py] kt pt] (.Tuple [a,b] k2 pt2) pos.line X.env=pure false:=by rfl) :
  PS X (.Assign [.Tuple [.Name x px,.Name y py] kt pt] (.Tuple [a,b] k2 pt2) pos) (tDS X (pG i j f)):=psW (R7 hc hN hi hj hij hx hy ha hw hs) fun D σ H ⟨P,α,env,S,r,re,af⟩=>by
 refine⟨P,α,env,S,r,re,?_⟩;have af1:=xZ af;cases q:f env S with
 |bad=>rw[q] at af1;exact af1
 |ex c x S'=>rw[q] at af1;exact af1
 |ok ds S1 =>
  rw[q] at af1;intro vs H' P' α' r' e1 e2 rp;have af2:zB X P α (cN i j env S1 ds) D:=af1;cases ds with
  |nil=>exact Ao af2
  |cons d ds=>cases ds with
   |nil=>exact Ao af2
   |cons d' ds=>cases ds with
    |cons _ _=>exact Ao af2
    |nil =>
     obtain⟨w,ws,rfl,p1,t⟩:=rp.cons_inv;obtain⟨w',ws',rfl,p2,t⟩:=t.cons_inv;rw[t.nil_inv];exact⟨w,w',rfl,af2 _ _ P' α' r' (((re.mono e1 e2).set i p1).set j p2) e1 e2⟩
end
structure ItD (K:Ak)(J:It)(P:Hp)(α : Ab Af)(ds:Ab D):Prop where
 go:∀ i H P1 α1 S,i<ds.length→Rel K H P1 α1 S→qH P P1→α<+:α1→J.go i H
 yld:∀ i H x H' P1 α1 S,i<ds.length→Rel K H P1 α1 S→qH P P1→α<+:α1→J.yld i H x H'→∃ P2 d,ds[i]? = Aa d∧Rel K H' P2 α1 S∧qH P1 P2∧Rep K P2 α1 d x
 stop:∀ i H P1 α1 S,ds.length≤i→Rel K H P1 α1 S→qH P P1→α<+:α1→J.stop i H
abbrev DI:=qD→Sto→Res (Ab D)
def OkI (X:Cx)(P:Hp)(α : Ab Af)(R:It→Hp→Prop)(ds:Ab D)(S':Sto):Prop:=∀ J H' P' α',Rel X.K H' P' α' S'→qH P P'→α<+:α'→ItD X.K J P' α' ds→R J H'
inductive tDI (X:Cx)(f:DI)(σ : _L.St)(H:Hp)(R:It→Hp→Prop):Prop
 |mk (P:Hp) (α : Ab Af) (env:qD) (S:Sto) (r:Rel X.K H P α S) (re:zJ X.K P α σ env) (af:qJ X P α (f env S) (OkI X P α R)):tDI X f σ H R
def vV {β : Type}(o:Am β)(S:Sto):Res β:=match o with
 |some b=>.ok b S
 |none=>.bad
theorem jZ {X:Cx}{β : Type}{o:Am β}{S:Sto}{P:Hp}{α : Ab Af}{Ok:β→Sto→Prop}(h:qJ X P α (vV o S) Ok):∃ b,o=Aa b∧Ok b S:=by
 cases o with
 |none=>exact Ao h
 |some b=>exact⟨b,rfl,h⟩
theorem vN {X:Cx}{β : Type}{c:Prop}[Sj c]{r:Res β}{P:Hp}{α : Ab Af}{Ok:β→Sto→Prop}(h:qJ X P α (if c then r else .bad) Ok):c∧qJ X P α r Ok:=by
 by_cases z:c
 ·rw[AT z] at h;exact⟨z,h⟩
 ·rw[Bc z] at h;exact Ao h
theorem cL {X:Cx}{β : Type}{ds:Ab D}{g:D→Res β}{P:Hp}{α : Ab Af}{Ok:β→Sto→Prop}(h:qJ X P α (match ds with|[d]=>g d|_=>.bad) Ok):∃ d,ds=[d]∧qJ X P α (g d) Ok:=by
 cases ds with
 |nil=>exact Ao h
 |cons d ds =>
  cases ds with
  |nil=>exact⟨d,rfl,h⟩
  |cons _ _=>exact Ao h
theorem lM {β : Type}{S:Sto}{i:Ah}{f:Ab D→Am β}{g:Ab (Key × D)→Am β}{b:β}(h:(match S[i]? with|some (.lst xs)=>f xs|some (.dct kvs)=>g kvs|_=>none)=Aa b):(∃ xs,S[i]? = Aa (.lst xs)∧f xs=Aa b)∨∃ kvs,S[i]? = Aa (.dct kvs)∧g kvs=Aa b:=by
 cases e:S[i]? with
 |none=>rw[e] at h;exact nn h
 |some m =>
  rw[e] at h;cases m with
  |lst xs=>exact .inl ⟨xs,rfl,h⟩
  |dct kvs=>exact .inr ⟨kvs,rfl,h⟩
  |_=>exact nn h
theorem DP {β : Type}{S:Sto}{i:Ah}{f:Ab D→Am β}{b:β}(h:(match S[i]? with|some (.lst xs)=>f xs|_=>none)=Aa b):∃ xs,S[i]? = Aa (.lst xs)∧f xs=Aa b:=by
 cases e:S[i]? with
 |none=>rw[e] at h;exact nn h
 |some m =>
  rw[e] at h;cases m with
  |lst xs=>exact⟨xs,rfl,h⟩
  |_=>exact nn h
inductive ItV (d:D)(xs:Ab D):Prop
 |tup (e:d=.tup xs)
 |lst (e:d=.lst xs)
def GI {β : Type}(S:Sto)(n:Ah)(f:Ab D→Res β) : Res β:=match S[n]? with
 |some (.lst xs)=>f xs
 |_=>.bad
theorem pB {X:Cx}{β : Type}{S:Sto}{n:Ah}{f:Ab D→Res β}{P:Hp}{α : Ab Af}{Ok:β→Sto→Prop}(h:qJ X P α (GI S n f) Ok):∃ xs,S[n]? = Aa (.lst xs)∧qJ X P α (f xs) Ok:=by
 unfold GI at h;cases e:S[n]? with
 |none=>rw[e] at h;exact Ao h
 |some m =>
  rw[e] at h;cases m with
  |lst xs=>exact⟨xs,rfl,h⟩
  |_=>exact Ao h
def xE:D→Am (Ab D)
 |.tup xs=>Aa xs
 |.lst xs=>Aa xs
 |_=>none
theorem itV {d:D}{xs:Ab D}(h:xE d=Aa xs):ItV d xs:=by
 cases d with
 |tup ys=>exact .tup (congrArg D.tup (Cp h))
 |lst ys=>exact .lst (congrArg D.lst (Cp h))
 |_=>exact nn h
def wN (f:DE):DI:=fun env S=>(f env S).bind fun d S1=>vV (xE d) S1
section
variable {X:Cx}{K:Ak}{tg e:Bq}{fa:DE}{pos:Ez}
theorem UO {P:Hp}{α : Ab Af}{a:Af}{ds:Ab D}{vs:Ab V}(q:SqL K P a vs)(t:qF K P α ds vs):ItD K (Itl K a) P α ds where
 go:=fun i H P1 α1 S hi r e _=>⟨vs,vs[i]'(by rw[← t.length];exact hi),(e.trans r.sub).seq q,by simp⟩
 yld:=fun i H x H' P1 α1 S hi r e e2 y=>by
  obtain⟨rfl,y⟩:=y;have hx:=y vs ((e.trans r.sub).seq q);obtain⟨v,h1,h2⟩:=t.get (An hi);rw[hx] at h1;cases h1;exact⟨P1,_,An hi,r,qH.refl _,Rep.mono e e2 _ _ h2⟩
 stop:=fun i H P1 α1 S hi r e _=>⟨vs,(e.trans r.sub).seq q,by rw[← t.length];exact hi⟩
theorem F2 {P:Hp}{α : Ab Af}{a:Af}{ds:Ab D}{vs:Ab V}(q:SqT K P a vs)(t:qF K P α ds vs):ItD K (Itt K a) P α ds where
 go:=fun i H P1 α1 S hi r e _=>⟨vs,vs[i]'(by rw[← t.length];exact hi),vX (e.trans r.sub) q,by simp⟩
 yld:=fun i H x H' P1 α1 S hi r e e2 y=>by
  obtain⟨rfl,y⟩:=y;have hx:=y vs (vX (e.trans r.sub) q);obtain⟨v,h1,h2⟩:=t.get (An hi);rw[hx] at h1;cases h1;exact⟨P1,_,An hi,r,qH.refl _,Rep.mono e e2 _ _ h2⟩
 stop:=fun i H P1 α1 S hi r e _=>⟨vs,vX (e.trans r.sub) q,by rw[← t.length];exact hi⟩
theorem eW {pins:Ab (Af × Co)}{σ : _L.St}{H P:Hp}{α : Ab Af}{S:Sto}{s:Ag}{v:V}{vv:Ac}{d:D}{ds:Ab D}{R:It→Hp→Prop}(I:Inv X pins σ H s)(r:Rel X.K H P α S)(rv:qI v vv)(rp:Rep X.K P α d v)(hd:xE d=Aa ds)
  (q:OkI X P α R ds S):Ap (Aw X.prog X.w) X.A (Oo vv) (PIE X pins σ tg R) X.xe s:=by
 cases d with
 |tup xs =>
  cases hd;simp only[Rep] at rp;obtain⟨a,vs,rfl,sq,t⟩:=rp;cases rv;obtain⟨its,rv,p,hz⟩:=I.tuple (wR r.sub sq);refine Ho (show s.heap.IsTuple a its.toArray from p) ?_
  refine⟨s.heap.objs.size,[s.heap.objs.size],_,_,H,rfl,I.kept (t':=s.toks) fun b o e=>Ai _ e,ZR a _,⟨_,Az _ rfl,rfl,rfl⟩,fun b hb=>?_,q _ _ P α r (qH.refl _) (Bg _) (F2 sq t)⟩;have e:b=s.heap.objs.size:=by simpa using hb
  subst e;exact I.fpOk (Bd _) (I.hok.fresh (Bd _))
 |lst xs =>
  cases hd;simp only[Rep] at rp;obtain⟨a,vs,rfl,sq,t⟩:=rp;cases rv;obtain⟨its,rv,p,hz⟩:=I.list ((wC r.sub sq).l);refine Ga p.isList ?_;refine⟨s.heap.objs.size,[s.heap.objs.size],_,_,H,rfl,I.kept (t':=s.toks) fun b o e=>Ai _ e,sX a _,⟨_,Az _ rfl,rfl,rfl⟩,fun b hb=>?_,q _ _ P α r (qH.refl _) (Bg _) (UO sq.l t)⟩;have e:b=s.heap.objs.size:=by simpa using hb
  subst e;exact I.fpOk (Bd _) (I.hok.fresh (Bd _))
 |_=>cases hd
theorem OkI.base {P P1:Hp}{α α1:Ab Af}{R:It→Hp→Prop}{ds:Ab D}{S:Sto}(e:qH P P1)(h:α<+:α1)(k:OkI X P α R ds S):OkI X P1 α1 R ds S:=fun J H' P' α' r q1 q2 q3=>k J H' P' α' r (e.trans q1) (h.trans q2) q3
theorem L3 (ha:PE X e (tD X fa)):PI X tg e (tDI X (wN fa)):=by
 intro pins s σ H R I h;obtain⟨P,α,env,S,r,re,af⟩:=h;refine thn (xH ha I r re af) fun vv s1 ⟨v,H1,P1,α1,d,S1,G1,af1⟩=>?_;obtain⟨ds,e1,q⟩:=jZ af1;exact eW G1.inv G1.rel G1.val G1.rep e1 (q.base G1.same G1.pre)
def yE (lo:Aj)(n:Ah):Ab D:=(Cy n).map fun (i:Ah)=>D.int (lo+(i:Aj))
theorem pF (lo:Aj)(n:Ah):(yE lo n).length=n:=by simp[yE]
theorem dY {P:Hp}{α : Ab Af}{lo:Aj}{n:Ah}:ItD K (Itr lo n) P α (yE lo n) where
 go:=fun i H P1 α1 S hi r e _=>by rw[pF] at hi;exact hi
 yld:=fun i H x H' P1 α1 S hi r e e2 y=>by
  obtain⟨rfl,rfl⟩:=y;rw[pF] at hi;exact⟨P1,.int (lo+i),by simp[yE,hi],r,qH.refl _,by simp only[Rep]⟩
 stop:=fun i H P1 α1 S hi r e _=>by rw[pF] at hi;exact hi
def bH (ds:Ab D):Am (Ab D):=match ds with
 |[.int j]=>if -(2 ^ 62)≤j∧j<2 ^ 62 then Aa (yE 0 j.toNat) else none
 |[.int i,.int j]=>if -(2 ^ 62)≤i∧i<2 ^ 62 ∧ -(2 ^ 62)≤j∧j<2 ^ 62 then Aa (yE i (j-i).toNat) else none
 |_=>none
def yW (f:DA):DI:=fun env S=>(f env S).bind fun ds S1=>vV (bH ds) S1
def asI:D→Am Aj
 |.int i=>Aa i
 |_=>none
theorem m4 {d:D}{i:Aj}(h:asI d=Aa i):d=.int i:=by
 cases d with
 |int k=>exact congrArg D.int (Cp h)
 |_=>exact nn h
inductive RngV:Ab D→Ab D→Prop
 |one (j:Aj) (h : -(2 ^ 62)≤j∧j<2 ^ 62):RngV [.int j] (yE 0 j.toNat)
 |two (i j:Aj) (h : -(2 ^ 62)≤i∧i<2 ^ 62 ∧ -(2 ^ 62)≤j∧j<2 ^ 62):RngV [.int i,.int j] (yE i (j-i).toNat)
theorem A0 (d:D):bH [d]=(asI d).bind fun j=>if -(2 ^ 62)≤j∧j<2 ^ 62 then Aa (yE 0 j.toNat) else none:=by cases d <;> rfl
theorem A1 (d d':D):bH [d,d']=(asI d).bind fun i=>(asI d').bind fun j=>if -(2 ^ 62)≤i∧i<2 ^ 62 ∧ -(2 ^ 62)≤j∧j<2 ^ 62 then Aa (yE i (j-i).toNat) else none:=by
 cases d with
 |int i=>cases d' <;> rfl
 |_=>rfl
theorem MM {ds its:Ab D}(h:bH ds=Aa its):RngV ds its:=by
 cases ds with
 |nil=>exact nn h
 |cons d ds =>
  cases ds with
  |nil =>
   obtain⟨j,e,h⟩:=EQ.mp ((A0 d).symm.trans h);obtain⟨c,rfl⟩:=kH h;rw[m4 e];exact .one j c
  |cons d' ds =>
   cases ds with
   |nil =>
    obtain⟨i,e,h⟩:=EQ.mp ((A1 d d').symm.trans h);obtain⟨j,e',h⟩:=EQ.mp h;obtain⟨c,rfl⟩:=kH h;rw[m4 e,m4 e'];exact .two i j c
   |cons _ _ =>
    have h0:∀ d'' t,bH (d::d'::d''::t)=none:=fun d'' t=>by cases d <;> first|rfl|(cases d' <;> rfl)
    exact nn ((h0 _ _).symm.trans h)
theorem lU {K:Ak}{P:Hp}{α : Ab Af}{i:Aj}{vs:Ab V}{ds:Ab D}(r:qF K P α (.int i::ds) vs):∃ ws,vs=.int i::ws∧qF K P α ds ws:=by
 obtain⟨w,ws,rfl,p,t⟩:=r.cons_inv;exact⟨ws,congrArg (· :: ws) (by simpa only [Rep] using p),t⟩
theorem PI.weak {iter:Bq}{t t':TI}(h:PI X tg iter t)(w:∀ σ H R,t' σ H R→t σ H R):PI X tg iter t':=fun pins s σ H R I q=>h pins s σ H R I (w σ H R q)
end
section
variable {X:Cx}{tg a b:Bq}{f:DA}{p pos:Ez}
theorem U0 {e:Bq}{es:Ab Bq}(hg:Gl X "range")(hm:X.mg "range" = none)(ha:PA X (e::es) (tDA X f))(hs:Bb (e::es) X.env=(false,eval e X.env)::Bb es X.env:=by rfl)(hpl:(Fp pos (Bb es X.env)).any (·.1)=false:=by rfl) :
  PI X tg (.Call (.Name "range" p) (e::es) [] pos) (tDI X (yW f)):=by
 intro pins s σ H R I h;obtain⟨P,α,env,S,r,re,af⟩:=h;refine Call_ (uF I hg hm boot_range (Hl (thn (yO ha I r re af pos) fun us s1 ⟨vs,H1,P1,α1,ds,S1,I1,rv,r1,re1,rp,e1,e2,af1⟩=>?_) hs hpl));obtain⟨its,hi,q⟩:=jZ af1;cases MM hi with
 |one j c =>
  obtain⟨ws,rfl,t1⟩:=lU rp;cases t1.nil_inv;obtain⟨u,rfl,t,rfl⟩:=gF rv;refine call_range_1 (cV I1 om om c.1 c.2 ?_);have z:=q (Itr 0 j.toNat) H1 P1 α1 r1 e1 e2 dY;rw[Int.sub_zero];exact z
 |two i j c =>
  obtain⟨ws,rfl,t1⟩:=lU rp;obtain⟨ws2,rfl,t2⟩:=lU t1;cases t2.nil_inv;obtain⟨u,u',rfl,⟨t,rfl⟩,t',rfl⟩:=ZS rv;exact call_range_2 (cV I1 c.1 c.2.1 c.2.2.1 c.2.2.2 (q (Itr i (j-i).toNat) H1 P1 α1 r1 e1 e2 dY))
def wK (g:DG)(f:DS):Ab D→qD→Sto→Out
 |[],env,S=>.nx env S
 |d::ds,env,S=>(g d env S).toS env fun env1 S1=>match f env1 S1 with
  |.nx env2 S2=>wK g f ds env2 S2
  |.ct env2 S2=>wK g f ds env2 S2
  |.bk env2 S2=>.nx env2 S2
  |o=>o
def yF (fi:DI)(g:DG)(f:DS):DS:=fun env S=>(fi env S).toS env fun ds S1=>wK g f ds env S1
inductive LoopW (X:Cx)(P1:Hp)(α1:Ab Af)(g:DG)(f:DS)(ds:Ab D)(D:Ends)(i m:Ah)(σ : _L.St)(H:Hp):Prop
 |mk (hi:i≤ds.length) (hm:m=ds.length-i) (P2:Hp) (α2:Ab Af) (env2:qD) (S2:Sto) (r:Rel X.K H P2 α2 S2) (re:zJ X.K P2 α2 σ env2) (e1:qH P1 P2) (e2:α1<+:α2) (af:zB X P2 α2 (wK g f (ds.drop i) env2 S2) D):LoopW X P1 α1 g f ds D i m σ H
theorem L8 {iter:Bq}{body:Ab Eu}{fi:DI}{g:DG}{f:DS}(hp:Pa (Aw X.prog X.w) X.A X.env X.xe)(hc:X.calm=true)(hi:PI X tg iter (tDI X fi))(hg:PG X tg (tDG X g))(hb:PSs X body (tDS X f))
  (hs:∀ x,Ei iter X.env x=pure x:=by intro _;rfl):PS X (.For tg iter body [] pos) (tDS X (yF fi g f)):=psW (WZ hp hc hi hg hb hs) fun D σ H ⟨P,α,env,S,r,re,af⟩=>by
 refine⟨P,α,env,S,r,re,?_⟩;have af1:=xZ af;cases q:fi env S with
 |bad=>rw[q] at af1;exact af1
 |ex c x S'=>rw[q] at af1;exact af1
 |ok ds S1 =>
  rw[q] at af1;have af2:zB X P α (wK g f ds env S1) D:=af1;intro J H1 P1 α1 r1 e1 e2 it;refine⟨LoopW X P1 α1 g f ds D,
   ⟨ds.length,Gn _,rfl,P1,α1,env,S1,r1,re.mono e1 e2,qH.refl _,Bg _,zB.base e1 e2 af2⟩,?_⟩
  rintro i m σ2 H2 ⟨hi,rfl,P2,α2,env2,S2,r2,re2,e3,e4,af3⟩;by_cases hlt:i<ds.length
  ·refine .inr ⟨it.go i H2 P2 α2 S2 hlt r2 e3 e4,LoopW X P1 α1 g f ds D (i+1) (ds.length-(i+1)),fun σ' H' w=>⟨_,?_,w⟩,fun x H3 y=>?_⟩
   ·omega
   ·obtain⟨P3,d,hd,r3,e5,rp⟩:=it.yld i H2 x H3 P2 α2 S2 hlt r2 e3 e4 y
    have hdr:ds.drop i=d::ds.drop (i+1):=by
     rw[Ib hlt];rw[An hlt] at hd;rw[Cp hd]
    rw[hdr] at af3;have af4:=xZ (zB.base e5 (Bg _) af3);refine⟨P3,α2,env2,S2,d,r3,re2.mono e5 (Bg _),rp,?_⟩;cases q2:g d env2 S2 with
    |bad=>rw[q2] at af4;exact af4
    |ex c x S'=>rw[q2] at af4;exact af4
    |ok env3 S3 =>
     rw[q2] at af4;intro σ4 H4 P4 α4 r4 re4 e6 e7;refine⟨P4,α4,env3,S3,r4,re4,?_⟩;have af5:=zB.base e6 e7 af4;cases q3:f env3 S3 with
     |bad=>simp only[q3] at af5;exact af5
     |ex c x env4 S4=>simp only[q3] at af5;exact af5
     |rt d4 S4=>simp only[q3] at af5;exact af5
     |bk env4 S4=>simp only[q3] at af5;exact af5
     |nx env4 S4 =>
      simp only[q3] at af5;exact fun σ5 H5 P5 α5 r5 re5 e8 e9=>⟨hlt,rfl,P5,α5,env4,S4,r5,re5,((e3.trans e5).trans e6).trans e8,(e4.trans e7).trans e9,zB.base e8 e9 af5⟩
     |ct env4 S4 =>
      simp only[q3] at af5;exact fun σ5 H5 P5 α5 r5 re5 e8 e9=>⟨hlt,rfl,P5,α5,env4,S4,r5,re5,((e3.trans e5).trans e6).trans e8,(e4.trans e7).trans e9,zB.base e8 e9 af5⟩
  ·have hdr:ds.drop i=[]:=Je om
   rw[hdr] at af3;exact .inl ⟨it.stop i H2 P2 α2 S2 om r2 e3 e4,af3 σ2 H2 P2 α2 r2 re2 (qH.refl _) (Bg _)⟩
end
abbrev DF:=Ab D→Sto→Res D
section
variable {X:Cx}{x:Au}{p pos:Ez}{e:Bq}{es:Ab Bq}{F:DF}{fa:DA}
def qE (F:DF)(fa:DA):DE:=fun env S=>(fa env S).bind fun ds S1=>F ds S1
theorem dI {F:DF}{u:Ac}{pins:Ab (Af × Co)}{s1:Ag}{σ : _L.St}{H1 P P1:Hp}{α α1:Ab Af}{vs:Ab V}{us:Ab Ac}{ds:Ab D}{S1:Sto}{Q:VK}(hc:vA X u F)(I1:Inv X pins σ H1 s1)(r1:Rel X.K H1 P1 α1 S1)(rv:qN vs us)
  (rp:qF X.K P1 α1 ds vs) (e1:qH P P1) (e2:α<+:α1) (af:qJ X P α (F ds S1) (OkV X P α Q)):Ap (Aw X.prog X.w) X.A (call u us) (EP X pins σ Q) X.xe s1:=hc pins σ H1 s1 P1 α1 S1 vs us ds Q I1 r1 rv rp (zA.base e1 e2 af)
theorem VT {id:Du}(hc:vA X (.builtin id) F)(hg:Gl X x)(hm:X.mg x=none)(hv:Gc x=Aa (.builtin id))(ha:PA X (e::es) (tDA X fa))(hn:x ≠ "__name__":=by decide)(hdb:(x == ("__debug__" : Au))=false:=by decide)
  (he:Bb (e::es) X.env=(false,eval e X.env)::Bb es X.env:=by rfl) (hpl:(Fp pos (Bb es X.env)).any (·.1)=false:=by rfl):PE X (.Call (.Name x p) (e::es) [] pos) (tD X (qE F fa)):=by
 intro pins s σ H Q I h;obtain⟨P,α,env,S,r,re,af⟩:=h;refine Gf (uF I hg hm hv ?_ hn hdb);exact Iu (thn (yO ha I r re af pos) fun us s1 ⟨vs,H1,P1,α1,ds,S1,I1,rv,r1,re1,rp,e1,e2,af1⟩=>dI hc I1 r1 rv rp e1 e2 af1) he hpl
theorem XD {T:Du}(hc:vA X (.type T) F)(hg:Gl X x)(hm:X.mg x=none)(hv:Gc x=Aa (.type T))(ha:PA X (e::es) (tDA X fa))(hn:x ≠ "__name__":=by decide)(hdb:(x == ("__debug__" : Au))=false:=by decide)
  (he:Bb (e::es) X.env=(false,eval e X.env)::Bb es X.env:=by rfl) (hpl:(Fp pos (Bb es X.env)).any (·.1)=false:=by rfl):PE X (.Call (.Name x p) (e::es) [] pos) (tD X (qE F fa)):=by
 intro pins s σ H Q I h;obtain⟨P,α,env,S,r,re,af⟩:=h;refine Gf (uF I hg hm hv ?_ hn hdb);exact Hl (thn (yO ha I r re af pos) fun us s1 ⟨vs,H1,P1,α1,ds,S1,I1,rv,r1,re1,rp,e1,e2,af1⟩=>dI hc I1 r1 rv rp e1 e2 af1) he hpl
end
theorem zR.there {P:Bh}{w:Bv}{H:Hp}{h:Bi}{a:Af}{o:HO}(x:zR P w H h a o):∃ ob,h.get? a=Aa ob:=by
 cases o with
 |lst xs=>obtain⟨_,_,_,_,e⟩:=x;exact⟨_,e⟩
 |tup xs=>obtain⟨_,_,_,ob,e,_⟩:=x;exact⟨_,e⟩
 |dK kvs=>obtain⟨_,_,_,_,o,_,_,e,_⟩:=x;exact⟨_,e⟩
 |dT kvs=>obtain⟨_,_,_,_,o,_,_,e,_⟩:=x;exact⟨_,e⟩
 |set S n=>obtain⟨o,_,_,_,e,_⟩:=x;exact⟨_,e⟩
 |ins C dx fs=>obtain⟨_,_,_,e,_⟩:=x;exact⟨_,e⟩
 |own y=>obtain⟨_,e⟩:=x;exact⟨_,e⟩
 |xd fs=>obtain⟨_,⟨_,_,_,e,_⟩,_⟩:=x;exact⟨_,e⟩
 |rng lo hi=>obtain⟨_,_,_,e⟩:=x;exact⟨_,e⟩
 |frz ob u=>obtain⟨e,_⟩:=x;exact⟨_,e⟩
 |tbl ps=>exact⟨_,show h.get? a=Aa _ from x⟩
 |met f y=>exact⟨_,show h.get? a=Aa _ from x⟩
 |ext φ => obtain⟨_,e,_⟩:=x;exact e
section
variable {X:Cx}{pins:Ab (Af × Co)}{σ : _L.St}{H:Hp}{s:Ag}{B h':Bi}
abbrev Fn1 (X:Cx):Prop:=X.ex=[]∧X.stack=X.env::X.outer∧X.env.frame=Aa X.env.locals
theorem Fn1.mem (F:Fn1 X){b:Af}:b∈frs X.stack↔b=X.env.locals∨b∈X.fs:=by
 rw[F.2.1];unfold frs;rw[Fw,F.2.2];exact Av
theorem Old.there (I:Inv X pins σ H s)(F:Fn1 X){b:Af}(o:Old X pins H b):∃ ob,s.heap.get? b=Aa ob:=by
 rcases o with⟨o,e⟩|e|⟨p,hp,rfl⟩|⟨x,e⟩
 ·exact I.base.there b o e (by rw[F.1];simp)
 ·cases q:H b with
  |none=>exact absurd q e
  |some u=>exact zR.there (I.hok b u q)
 ·exact⟨_,(I.pin p hp).1⟩
 ·obtain⟨v,ob,ho,_⟩:=I.cell x b e
  exact⟨ob,ho⟩
theorem Inv.fly (I:Inv X pins σ H s)(F:Fn1 X)(cv:Cv X pins H B s.heap)(st:B.StaysIn h')(up:s.heap.UpToSlots h'):Inv X pins σ H { s with heap:=h' } ∧ Cv X pins H B h':=by
 have kp:∀ b o,s.heap.get? b=Aa o→Old X pins H b→b ∉ frs X.stack→h'.get? b=Aa o:=fun b o e q n=>st b o (cv b o e q n);have neL:∀ b o,X.s₀.heap.get? b=Aa o→b≠X.env.locals:=fun b o e=>Cc (Bm (Ax e) I.ok.above);have nofr:∀ b o,X.s₀.heap.get? b=Aa o→b ∉ X.fs→b ∉ frs X.stack:=fun b o e n z=>(F.mem.mp z).elim (neL b o e) n;have nx:∀ b,b ∉ X.ex:=fun b=>by rw[F.1];simp
 have frU:∀ b,b∈frs X.stack→∀ o,s.heap.get? b=Aa o→∃ sl,h'.get? b=Aa { o with slots:=sl }:=fun b hb o e=>by
  obtain⟨_,o',e',nf⟩:=I.stack.mem hb;rw[e] at e';cases e';exact up b o e nf
 have cellK:∀ x c,X.env.cells.lookup x=Aa c→∀ v,s.heap.IsCell c v→h'.IsCell c v:=fun x c e v ⟨o,ho,hd⟩=>by
  obtain⟨sl,q⟩:=up c o ho fun vs z=>by rw[hd] at z;cases z
  exact⟨_,q,hd⟩
 refine⟨⟨I.ok,I.os,I.bare,⟨fun b o e n hb hx=>?_,fun b o e n hb hx=>?_,I.base.free,fun b o e hx=>?_,I.base.tups,I.base.frzs,I.base.tbls⟩,?_,fun x c e=>?_,I.free,I.freeC,fun p hp=>?_,fun a o e=>?_,I.len⟩,fun b o e q n=>?_⟩
 ·exact kp b o (I.base.keep b o e n hb hx) (.inl ⟨o,e⟩) (nofr b o e hb)
 ·obtain⟨sl,e1⟩:=I.base.slot b o e n hb hx
  obtain⟨sl',e2⟩:=frU b (F.mem.mpr (.inr hb)) _ e1;exact⟨sl',e2⟩
 ·obtain⟨o',e1⟩:=I.base.there b o e hx
  by_cases hb:b∈frs X.stack
  ·obtain⟨sl,e2⟩:=frU b hb _ e1
   exact⟨_,e2⟩
  ·exact⟨o',kp b o' e1 (.inl ⟨o,e⟩) hb⟩
 ·obtain⟨m,hn,hl⟩:=I.loc
  refine⟨m,up.ns hn,fun i x v e1 e2 e3=>?_⟩;obtain⟨u,r,l⟩:=hl i x v e1 e2 e3;refine⟨u,r,?_⟩;rcases l with l|⟨k,c,e,z⟩
  ·exact .inl l
  ·exact .inr ⟨k,c,e,cellK x c e _ z⟩
 ·obtain⟨v,z⟩:=I.cell x c e
  exact⟨v,cellK x c e v z⟩
 ·obtain⟨e,n,ne,nf,d⟩:=I.pin p hp
  exact⟨kp p.1 p.2 e (.inr (.inr (.inl ⟨p,hp,rfl⟩))) fun z=>(F.mem.mp z).elim ne nf,n,ne,nf,d⟩
 ·refine(I.hok a o e).stay (fun b u hb q=>?_) (fun _ q=>q) fun _ _ q=>q
  have hn:H b≠none:=by
   rcases hb with rfl|hb
   ·rw[e];intro z;cases z
   ·rw[hb];intro z;cases z
  exact kp b u q (.inr (.inl hn)) fun z=>hn (I.stkFree b z)
 ·obtain⟨o1,e1⟩:=Old.there I F q
  have e2:=cv b o1 e1 q n;have e3:=st b o1 e2;rw[e] at e3;cases e3;exact e2
theorem WL {c:Ac}{e:Af}{g:Bi}{args:Ab Ac}(I:Inv X pins σ H s)(hm:Ta g s.heap e c args)(hf:g.FunFrames X.base X.stack)(hk:∀ b o,s.heap.get? b=Aa o→Old X pins H b→g.get? b=Aa o) :
  (Mu g (frs X.stack)).StaysIn g∧g.FunFrames (Mu g (frs X.stack)) X.stack∧Cv X pins H (Mu g (frs X.stack)) s.heap:=
 ⟨fun b o q=>Uu _ q,PySem.W.funFrames_hide hf fun env he a ha=>Iw.mpr ⟨env,he,ha⟩,fun b o e q n=>To _ (hk b o e q) n⟩
theorem W8 {M:Ma}{A:Bo}{E:Ac→Ag→Prop}{c:Ac}{e:Af}{Q:Rm→Ag→Prop}(I:Inv X pins σ H s)(F:Fn1 X)(hA:A.frames=Aa X.stack)(f:FlyX X pins H c e s.heap)
  (hQ:∀ h' B a0,Nd B X.outer e c a0 h'→Inv X pins σ H { s with heap:=h' } → Cv X pins H B h'→Q () { s with heap:=h' }) : Ap M A (leaving X.env (.ref e)) Q E s:=by
 cases f with
 |new g args hm hf hk =>
  obtain⟨k1,k2,k3⟩:=WL I hm hf hk;rw[F.2.1] at hA;refine wpAny_leaves_madeW hA F.2.2 k1 (by rw[← F.2.1];exact k2) hm fun h' t x1 x2 x3 x4=>?_
  obtain⟨I1,cv1⟩:=Inv.fly I F k3 x1.1 x4;exact hQ h' _ _ x1 I1 cv1
 |fly B a0 fl cv =>
  rw[F.2.1] at hA;refine wpAny_leaves_onW hA F.2.2 (by rw[← F.2.1];exact fl) fun h' x1 x2=>?_
  obtain⟨I1,cv1⟩:=Inv.fly I F cv x1.1 x2;exact hQ h' _ _ x1 I1 cv1
end
def CXd (P:Bh)(w:Bv):CXT:=fun outer H s E u s' =>
 ∃ e c H' B a0,u=.ref e∧s'.os=s.os∧L2 s'.gens∧Un (frs outer) [] H H' s.heap s'.heap∧HOk P w H' s'.heap∧Nd B outer e c a0 s'.heap ∧
  (∀ b o,s'.heap.get? b=Aa o→((∃ o,s.heap.get? b=Aa o)∨H' b≠none)→b ∉ frs outer→B.get? b=Aa o)∧E c none H'
section
variable {X:Cx}{pins:Ab (Af × Co)}{σ : _L.St}{H:Hp}{s s':Ag}
theorem LR {E:XK}{u:Ac}(I:Inv X pins σ H s)(F:Fn1 X)(h:CXd X.prog X.w X.stack H s E u s'):∃ e c H',u=.ref e∧Inv X pins σ H' s'∧FlyX X pins H' c e s'.heap∧E c none H':=by
 obtain⟨e,c,H',B,a0,rfl,os,bare,un,hok,fl,cov,q⟩:=h;have I':Inv X pins σ H' s':=Inv.call' I os un hok bare (ch:=[]) fun b z=>absurd z (by simp)
 refine⟨e,c,H',rfl,I',.fly B a0 fl fun b o eb old n=>cov b o eb ?_ n,q⟩;rcases old with⟨o,z⟩|z|⟨p,hp,rfl⟩|⟨x,z⟩
 ·exact .inl (I.base.there b o z (by rw[F.1];simp))
 ·exact .inr z
 ·exact .inl ⟨_,(I.pin p hp).1⟩
 ·obtain⟨v,ob,ho,_⟩:=I.cell x b z
  exact .inl ⟨ob,ho⟩
end
structure RoomC (cm:As)(k:Ah)(A:Bo):Prop where
 hd:cm=true→A.handled=none
 dp:A.depth+3*k+5<Nv
 un:A.units+16*k+200<Ds
 gd:A.guards=Aa []
theorem RoomC.mono {cm:As}{j k:Ah}{A:Bo}(r:RoomC cm k A)(h:j≤k:=by decide):RoomC cm j A:=⟨r.hd,by have:=r.dp;omega,by have:=r.un;omega,r.gd⟩
theorem RoomC.deeper {cm:As}{k:Ah}{A:Bo}(r:RoomC cm (k+1) A)(env:Jn):RoomC cm k (A.deeper env):=
 ⟨r.hd,by have:=r.dp;show A.depth+1+3*k+5<_;omega,by have:=r.un;show A.units+3+16*k+200<_;omega,r.gd⟩
theorem RoomC.depth {cm:As}{k:Ah}{A:Bo}(r:RoomC cm k A):A.depth<Nv:=by have:=r.dp;omega
theorem RoomC.units {cm:As}{k:Ah}{A:Bo}(r:RoomC cm k A):A.units+64<Ds:=by have:=r.un;omega
theorem RoomC.of {k:Ah}{A:Bo}(r:Room k A):RoomC true k A:=⟨fun _=>r.hd,r.dp,r.un,r.gd⟩
theorem RoomC.any {cm:As}{k:Ah}{A:Bo}(r:RoomC cm k A):RoomC false k A:=⟨(fun z=>nomatch z),r.dp,r.un,r.gd⟩
theorem RoomC.mark {cm:As}{k:Ah}{A:Bo}(r:RoomC cm k A)(h:Am Ac):RoomC false k (A.mark h):=⟨(fun z=>nomatch z),r.dp,r.un,r.gd⟩
abbrev Cx.re (X:Cx)(A:Bo)(cm:As)(E:Ac→Ag→Prop):Cx:={ X with A:=A,calm:=cm,xe:=E }
theorem Inv.re {X:Cx}{pins:Ab (Af × Co)}{σ : _L.St}{H:Hp}{s:Ag}(I:Inv X pins σ H s)(A:Bo)(cm:As)(E:Ac→Ag→Prop)(hf:A.frames=Aa X.stack)(hh:cm=true→A.handled=none):Inv (Cx.re X A cm E) pins σ H s:=
 ⟨⟨I.ok.mod,I.ok.kind,I.ok.glob,I.ok.blt,I.ok.above,I.ok.inj,I.ok.has,I.ok.cab,hh,hf,I.ok.stk,I.ok.exf,I.ok.bs,I.ok.bsz,I.ok.noex,I.ok.exfs,I.ok.funs,I.ok.frf⟩,I.os,I.bare,I.base,I.loc,I.cell,I.free,I.freeC,I.pin,I.hok,I.len⟩
theorem Inv.unre {X:Cx}{pins:Ab (Af × Co)}{σ : _L.St}{H:Hp}{s:Ag}{A:Bo}{cm:As}{E:Ac→Ag→Prop}(I:Inv (Cx.re X A cm E) pins σ H s)(hf:X.A.frames=Aa X.stack)(hh:X.calm=true→X.A.handled=none):Inv X pins σ H s:=
 ⟨⟨I.ok.mod,I.ok.kind,I.ok.glob,I.ok.blt,I.ok.above,I.ok.inj,I.ok.has,I.ok.cab,hh,hf,I.ok.stk,I.ok.exf,I.ok.bs,I.ok.bsz,I.ok.noex,I.ok.exfs,I.ok.funs,I.ok.frf⟩,I.os,I.bare,I.base,I.loc,I.cell,I.free,I.freeC,I.pin,I.hok,I.len⟩
structure FnX (P:Bh)(w:Bv)(K:Ak)(mg:Au→Am Ac)(base:Bi)(cm:As)(k:Ah)(f:Af)(fd:Fj)(ps:Ab Au)(sp:Sp):Prop where
 len:∀ vs H Q E,sp vs H Q E→vs.length=ps.length
 run:∀ (A:Bo) (outer:Ab Jn) (s:Ag) (H:Hp) (args:Args) (us:Ab Ac) (vs:Ab V) (Q:VK) (E:XK),RoomC cm k A→Env0 P w K mg base A outer s H→Nh s fd args (ps.zip us)→qN vs us→sp vs H Q E →
  Ja (Aw P w) A (.call (.ref f) args) (CR (CXd P w) outer P w H s Q E) s
theorem FnX.ok {P:Bh}{w:Bv}{K:Ak}{mg:Au→Am Ac}{base:Bi}{k:Ah}{f:Af}{fd:Fj}{ps:Ab Au}{sp:Sp}(F:FnX P w K mg base true k f fd ps sp):FnOk P w K mg base (CXd P w) k f fd ps sp:=
 ⟨F.len,fun A outer s H args us vs Q E hr=>F.run A outer s H args us vs Q E (.of hr)⟩
theorem FnX.any {P:Bh}{w:Bv}{K:Ak}{mg:Au→Am Ac}{base:Bi}{cm:As}{k:Ah}{f:Af}{fd:Fj}{ps:Ab Au}{sp:Sp}(F:FnX P w K mg base false k f fd ps sp):FnX P w K mg base cm k f fd ps sp:=
 ⟨F.len,fun A outer s H args us vs Q E hr=>F.run A outer s H args us vs Q E hr.any⟩
theorem FnX.imp {P:Bh}{w:Bv}{K:Ak}{mg:Au→Am Ac}{base:Bi}{cm:As}{k:Ah}{f:Af}{fd:Fj}{ps:Ab Au}{sp sp':Sp}(F:FnX P w K mg base cm k f fd ps sp)
  (h:∀ vs H Q E,sp' vs H Q E→sp vs H Q E):FnX P w K mg base cm k f fd ps sp':=
 ⟨fun vs H Q E q=>F.len vs H Q E (h _ _ _ _ q),fun A outer s H args us vs Q E hr he hb hv hs=>F.run A outer s H args us vs Q E hr he hb hv (h _ _ _ _ hs)⟩
def cxC (cm:As)(P:Bh)(w:Bv)(K:Ak)(mg:Au→Am Ac)(base:Bi)(N:Ab Au)(qual:Au)(scope:Fv)(f:Af)(cd:Ac)(A:Bo)(outer:Ab Jn)(s:Ag)(H:Hp)(E:XK):Cx where
 prog:=P
 w:=w
 K:=K
 mg:=mg
 base:=base
 A:=A.deeper (Gj qual scope s.heap.objs.size f cd)
 N:=N
 s₀:=s
 H₀:=H
 env:=Gj qual scope s.heap.objs.size f cd
 outer:=outer
 stack:=Gj qual scope s.heap.objs.size f cd::outer
 ex:=[]
 calm:=cm
 fn:=fun _=>true
 pn:=[]
 xe:=fun e s'=>Ap (Aw P w) (A.deeper (Gj qual scope s.heap.objs.size f cd)) (leaving (Gj qual scope s.heap.objs.size f cd) e) (fun _ s''=>CXd P w outer H s E e s'') (fun e' s''=>CXd P w outer H s E e' s'') s'
section
variable {P:Bh}{w:Bv}{K:Ak}{mg:Au→Am Ac}{base:Bi}{cm:As}{N:Ab Au}{qual:Au}{scope:Fv}{f:Af}{cd:Ac}{A:Bo}{outer:Ab Jn}{s:Ag}{H:Hp}{E:XK}
theorem VQ:Pa (Aw P w) (A.deeper (Gj qual scope s.heap.objs.size f cd)) (Gj qual scope s.heap.objs.size f cd) (cxC cm P w K mg base N qual scope f cd A outer s H E).xe:=PassesOwn.leaving (Q₁:=fun e s''=>CXd P w outer H s E e s'')
theorem X7 {P0:Hp}{α : Ab Af}{c:Ac}{x:D}{S:Sto}{u:Ac}{s':Ag}(k:XOk (cxC cm P w K mg base N qual scope f cd A outer s H E) P0 α c x S u s')
  (q:∀ H' P' α',Rel K H' P' α' S→qH P0 P'→α<+:α'→E c none H'):(cxC cm P w K mg base N qual scope f cd A outer s H E).xe u s':=by
 obtain⟨e,pins,σ,H1,P1,α1,rfl,I,r,e1,e2,F,fl⟩:=k;refine W8 (X:=cxC cm P w K mg base N qual scope f cd A outer s H E) I F I.ok.frames fl fun h' B a0 x1 I1 cv=>?_;refine⟨e,c,H1,B,a0,rfl,I1.os,I1.bare,I1.base,I1.hok,x1,fun b o eb hb n=>cv b o eb ?_ fun z=>?_,q H1 P1 α1 r e1 e2⟩
 ·rcases hb with z|z
  ·exact .inl z
  ·exact .inr (.inl z)
 ·rcases (Fn1.mem F).mp z with z|z
  ·subst z
   rcases hb with⟨o',e'⟩|z
   ·exact absurd (Ax e') (Hy.mpr I1.ok.above)
   ·exact z I1.free
  ·exact n z
theorem QV {ps:Ab Au}{s1:Ag}{us:Ab Ac}{vs:Ab V}(S:FnScope N ps scope)(hd:cm=true→A.handled=none)(e0:Env0 P w K mg base A outer s H)(hl:vs.length=ps.length)(r:qN vs us)
  (x:InCallC s s.heap.objs.size (Tu (Gj qual scope s.heap.objs.size f cd).kindOf (ps.zip us) fun _=>none) (Gw (s.heap.objs.size+1) scope.names []) (Tv (Gj qual scope s.heap.objs.size f cd).kindOf (ps.zip us) fun _=>none) s1) :
  Inv (cxC cm P w K mg base N qual scope f cd A outer s H E) [] (_L.yN N vs) H s1:=by
 have I:=dX (CX:=CXd P w) (E:=E) (A:={ A with handled:=none }) S rfl ⟨e0.frames,e0.mod,e0.bs,e0.bsz,e0.funs,e0.frf,e0.hok,e0.bare⟩ hl r x
 have J:=Inv.re I (A.deeper (Gj qual scope s.heap.objs.size f cd)) cm (cxC cm P w K mg base N qual scope f cd A outer s H E).xe (Th e0.frames) hd;exact J
end
theorem LS {P:Bh}{w:Bv}{K:Ak}{mg:Au→Am Ac}{base:Bi}{cm:As}{k:Ah}{f:Af}{x qual:Au}{st:Eu}{fd:Fj}{N ps:Ab Au}{sp:Sp}(F:Fun K x qual st f fd)(S:FnScope N ps (qK st))
  (len:∀ vs H Q E,sp vs H Q E→vs.length=ps.length)
  (hbody:∀ (cdv:Ac) (A:Bo) (outer:Ab Jn) (s:Ag) (H:Hp) (vs:Ab V) (Q:VK) (E:XK),RoomC cm k (A.deeper (Gj qual (qK st) s.heap.objs.size f cdv))→sp vs H Q E →
   ∃ t,PSs (cxC cm P w K mg base N qual (qK st) f cdv A outer s H E) (xD st) t∧t { nx:=fun _ H'=>Q .non H',rt:=Q } (_L.yN N vs) H) :
  FnX P w K mg base cm (k+1) f fd ps sp:=by
 obtain⟨oc,od,kV,doc,pm,an,cdv,ct,osl,rfl,lk,hcd⟩:=F.ex;refine⟨len,fun A outer s H args us vs Q E hr e0 hb r hsp=>?_⟩;have hl:=len _ _ _ _ hsp;have KX:K.In s.heap:=e0.mod.kin.keeps fun b o e=>(e0.bs b o e).1;have lim:s.heap.NoLimit:=e0.mod.nolimit.keeps fun b o e=>(e0.bs b o e).1;have hkind:∀ y∈ps.zip us,(qK st).names.lookup y.1=Aa .local ∨ ((qK st).names.lookup y.1=Aa .cell∧((Gw (s.heap.objs.size+1) (qK st).names []).lookup y.1).isSome=true):=fun ⟨n,v⟩ hy=>by
  rcases S.par n (Mw hy).1 with q|q
  ·exact .inl q
  ·exact .inr ⟨q,Jb _ _ _ (.inl q)⟩
 refine Sn hr.depth (KX _ _ lk) rfl S.co S.gen rfl (Uw KX hcd) (hb _ _ _ _ ?_);refine Op S.kind hkind fun env he s1 x=>?_;subst he;refine⟨lim.keeps x.toInCall.keep,codeAny_func ?_⟩;obtain⟨t,ht,hq⟩:=hbody cdv A outer s H vs Q E (hr.deeper _) hsp;have I:Inv (cxC cm P w K mg base N qual (qK st) f cdv A outer s H E) [] (_L.yN N vs) H s1:=QV S hr.hd e0 hl r x;refine Hw (ht [] s1 (_L.yN N vs) H _ I hq) (fun fl s' hs=>?_) fun e s' hs=>hs;have fin:∀ {σ' : _L.St} {H':Hp} {v:V} {u:Ac},Inv (cxC cm P w K mg base N qual (qK st) f cdv A outer s H E) [] σ' H' s'→qI v u→Q v H'→CE outer P w H s Q u s':=
  fun {σ' H' v u} J rv q=>⟨v,H',J.os,J.bare,J.base,J.hok,rv,q⟩
 cases fl with
 |ret u =>
  obtain⟨v,σ',H',J,rv,q⟩:=hs;exact fin J rv q
 |next =>
  obtain⟨σ',H',J,q⟩:=hs;exact fin (v:=V.non) (u:=Ed) J rfl q
 |brk =>
  obtain⟨_,_,_,q⟩:=hs;exact Ao q
 |cont =>
  obtain⟨_,_,_,q⟩:=hs;exact Ao q
def uO (n:Ah)(ds:Ab D):qD:=ds.map Aa++Cg (n-ds.length) none
def jN:Out→Res D
 |.rt d S=>.ok d S
 |.nx _ S=>.ok .non S
 |.ex c x _ S=>.ex c x S
 |_=>.bad
def qQ (n:Ah)(g:DS):DF:=fun ds S=>jN (g (uO n ds) S)
def spD (K:Ak)(n:Ah)(F:DF):Sp:=fun vs H Q E=>vs.length=n∧∃ P α ds S,Rel K H P α S∧qF K P α ds vs∧match F ds S with
 |.ok d S'=>∀ v H' P' α',Rel K H' P' α' S'→qH P P'→α<+:α'→Rep K P' α' d v→Q v H'
 |.ex c _ S'=>∀ H' P' α',Rel K H' P' α' S'→qH P P'→α<+:α'→E c none H'
 |.bad=>Fc
theorem ZH {K:Ak}{P:Hp}{α : Ab Af}{N:Ab Au}{ds:Ab D}{vs:Ab V}(r:qF K P α ds vs):zJ K P α (_L.yN N vs) (uO N.length ds):=by
 refine⟨by simp[uO,_L.yN,r.length],fun i d e=>?_⟩
 unfold uO at e;unfold _L.yN;by_cases hi:i<ds.length
 ·rw[Cd (by simpa using hi),Dm] at e
  rw[Cd (by rw[Ar,← r.length];exact hi),Dm]
  cases q:ds[i]? with
  |none=>rw[q] at e;cases e
  |some d' =>
   rw[q] at e;cases e;obtain⟨v,h1,h2⟩:=r.get q;exact⟨v,by rw[h1];rfl,h2⟩
 ·rw[Dr (by simpa using hi),Lc] at e
  split at e <;> cases e
section
variable {P:Bh}{w:Bv}{K:Ak}{mg:Au→Am Ac}{base:Bi}{cm:As}
theorem fnX {x qual:Au}{st:Eu}{f:Af}{fd:Fj}{N ps:Ab Au}{k:Ah}{g:DS}(F:Fun K x qual st f fd)(S:FnScope N ps (qK st))
  (hbody:∀ (cdv:Ac) (A:Bo) (outer:Ab Jn) (s:Ag) (H:Hp) (E:XK),RoomC cm k (A.deeper (Gj qual (qK st) s.heap.objs.size f cdv)) →
   PSs (cxC cm P w K mg base N qual (qK st) f cdv A outer s H E) (xD st) (tDS (cxC cm P w K mg base N qual (qK st) f cdv A outer s H E) g)) :
  FnX P w K mg base cm (k+1) f fd ps (spD K ps.length (qQ N.length g)):=by
 refine LS F S (fun vs H Q E h=>h.1) fun cdv A outer s H vs Q E hr h=>?_;obtain⟨hl,P',α,ds,S',r,rp,af⟩:=h;refine⟨_,hbody cdv A outer s H E hr,P',α,uO N.length ds,S',r,ZH rp,?_⟩;unfold qQ at af;cases q:g (uO N.length ds) S' with
 |rt d S1=>rw[q] at af;exact fun v H' P1 α1 r1 e1 e2 p1=>af v H' P1 α1 r1 e1 e2 p1
 |nx env S1=>rw[q] at af;exact fun σ' H' P1 α1 r1 re1 e1 e2=>af .non H' P1 α1 r1 e1 e2 (by simp only[Rep])
 |bk env S1=>rw[q] at af;exact Ao af
 |ct env S1=>rw[q] at af;exact Ao af
 |ex c x env S1=>rw[q] at af;exact fun u s' z=>X7 z fun H' P1 α1 r1 e1 e2=>af H' P1 α1 r1 e1 e2
 |bad=>rw[q] at af;exact Ao af
end
section
variable {X:Cx}{cm:As}{k:Ah}{f:Af}{fd:Fj}{ps:Ab Au}{F:DF}{x:Au}{p pos:Ez}{e:Bq}{es:Ab Bq}{fa:DA}{n:Ah}
def qG (n:Ah)(F:DF)(fa:DA):DE:=fun env S=>(fa env S).bind fun ds S1=>if ds.length=n then F ds S1 else .bad
theorem lW {pins:Ab (Af × Co)}{σ : _L.St}{H:Hp}{s:Ag}{Q:VK}{us:Ab Ac}{vs:Ab V}{P:Hp}{α : Ab Af}{ds:Ab D}{S:Sto}(G:FnX X.prog X.w X.K X.mg X.base cm k f fd ps (spD X.K n F))(hr:RoomC cm k X.A)(hb:u9 X.K fd ps [])(hF:Fn1 X)
  (I:Inv X pins σ H s) (r:Rel X.K H P α S) (rv:qN vs us) (rp:qF X.K P α ds vs) (hn:ds.length=n) (af:zA X P α (F ds S) Q):Ap (Aw X.prog X.w) X.A (call (.ref f) us) (EP X pins σ Q) X.xe s:=by
 have hvn:vs.length=n:=by rw[← rp.length];exact hn
 let E:XK:=fun c _ H'=>match F ds S with
  |.ex c' _ S'=>c=c'∧∃ P' α',Rel X.K H' P' α' S'∧qH P P'∧α<+:α'
  |_=>Fc
 have hsp:spD X.K n F vs H Q E:=by
  refine⟨hvn,P,α,ds,S,r,rp,?_⟩;cases q:F ds S with
  |ok d S'=>rw[q] at af;exact af
  |ex c x S' =>
   intro H' P' α' r' e1 e2;show match F ds S with|.ex c' _ S'=>c=c'∧∃ P' α',Rel X.K H' P' α' S'∧qH P P'∧α<+:α'|_=>Fc
   rw[q];exact⟨rfl,P',α',r',e1,e2⟩
  |bad=>rw[q] at af;exact af
 have hl:us.length=ps.length:=by rw[← rv.length];exact G.len _ _ _ _ hsp
 have hb':=hb s us I.kIn (by rw[Ft];exact hl)
 rw[Ft] at hb';refine Nl (Ip (G.run X.A X.stack s H ⟨us,[]⟩ us vs Q E hr I.env0 hb' rv hsp) fun r s' hq=>?_);cases r with
 |error u =>
  obtain⟨a,c,H',rfl,I',fl,q⟩:=LR I hF hq;cases z:F ds S with
  |ok d S'=>simp only[E,z] at q
  |bad=>simp only[E,z] at q
  |ex c' x' S' =>
   simp only[E,z] at q;obtain⟨rfl,P',α',r',e1,e2⟩:=q;rw[z] at af;exact af _ _ ⟨a,pins,σ,H',P',α',rfl,I',r',e1,e2,hF,fl⟩
 |ok fl =>
  cases fl with
  |ret u=>exact I.after hq
  |next=>exact Ao hq
  |brk=>exact Ao hq
  |cont=>exact Ao hq
theorem pZ {env:qD}{S S1:Sto}{P:Hp}{α : Ab Af}{ds:Ab D}{Ok:D→Sto→Prop}(h:qJ X P α (if ds.length=n then F ds S1 else .bad) Ok):ds.length=n∧qJ X P α (F ds S1) Ok:=by
 by_cases hn:ds.length=n
 ·rw[AT hn] at h;exact⟨hn,h⟩
 ·rw[Bc hn] at h;exact Ao h
theorem B1 (G:FnX X.prog X.w X.K X.mg X.base cm k f fd ps (spD X.K n F))(hr:RoomC cm k X.A)(hF:Fn1 X)(hg:Gl X x)(hm:X.mg x=Aa (.ref f))(hk:Dz X.K (.ref f)=true)(hb:u9 X.K fd ps [])
  (ha:PA X (e::es) (tDA X fa)) (hdb:(x == ("__debug__" : Au))=false:=by decide) (he:Bb (e::es) X.env=(false,eval e X.env)::Bb es X.env:=by rfl) (hpl:(Fp pos (Bb es X.env)).any (·.1)=false:=by rfl) :
  PE X (.Call (.Name x p) (e::es) [] pos) (tD X (qG n F fa)):=by
 intro pins s σ H Q I h;obtain⟨P,α,env,S,r,re,af⟩:=h;refine Gf (jX I hg hm ?_ hdb);refine Lb (h₀:=X.base) I.ok.mod.kin hk (thn (yO ha I r re af pos) fun us s1 ⟨vs,H1,P1,α1,ds,S1,I1,rv,r1,re1,rp,e1,e2,af1⟩=>⟨I1.kIn,?_⟩) he hpl;obtain⟨hn,af2⟩:=pZ (env:=env) (S:=S) af1;exact lW G hr hb hF I1 r1 rv rp hn (zA.base e1 e2 af2)
end
abbrev rX:Ab Ac:=[.type "ValueError",.type "Exception",.type "BaseException",.type "object"]
def HN:Ac→As
 |.str _ _=>true
 |_=>false
def gQ (K:Ak)(N:Af):As:=(match Mi N K with
 |some o=>match o.data with
  |.dict es _=>es.toList.all fun e=>HN e.key
  |_=>false
 |none=>false)&&decide (Di K N "__init__" = Aa none)
theorem vI {K:Ak}{N:Af}(h:gQ K N=true):Yo K N=true∧Di K N "__init__" = Aa none:=by
 unfold gQ at h;rw[Ay,Cm] at h;refine⟨?_,h.2⟩;have h1:=h.1;unfold Yo;cases e:Mi N K with
 |none=>rw[e] at h1;cases h1
 |some o =>
  rw[e] at h1;obtain⟨oc,od,dt,sl⟩:=o;cases dt with
  |dict es ep =>
   simp only at h1 ⊢;rw[Array.all_toList] at h1;refine Eq.trans (congrArg (fun f=>Array.all es f) (funext fun e=>?_)) h1;cases e.key <;> rfl
  |_=>cases h1
def rH (K:Ak)(C:Af)(f:Ac→Wc→Bk (Am Ac)→As):As:=match Mi C K with
 |some o=>(match o.data with|.cls cd=>f o.cls cd o.slots|_=>false)
 |none=>false
theorem cK {K:Ak}{C:Af}{f:Ac→Wc→Bk (Am Ac)→As}(h:rH K C f=true):∃ oc od cd sl,Mi C K=Aa ⟨oc,od,.cls cd,sl⟩∧f oc cd sl=true:=by
 unfold rH at h;cases e:Mi C K with
 |none=>rw[e] at h;exact Cq h
 |some o =>
  rw[e] at h;obtain⟨oc,od,dt,sl⟩:=o;cases dt with
  |cls cd=>exact⟨oc,od,cd,sl,rfl,h⟩
  |_=>exact Cq h
def m8 (K:Ak)(C A:Af):As:=rH K C fun oc cd sl=>rH K A fun _ ca _=>decide (oc=.type "type")&&(decide (cd.mro=.ref C::.ref A::rX)&&(!cd.hasDel&&(gQ K cd.ns&&(gQ K ca.ns&&(decide (sl.toList.length=6)&&decide (sl.toList[4]? = Aa (Aa (.builtin "ValueError.__new__"))))))))
inductive ExcO (h:Bi)(C:Af):Prop
 |mk (nm q:Au) (N:Af) (bs bm:Ab Ac) (hdct:As) (sn:Ab Au) (sub:Ab Ac) (ab:As) (col:Am As) (dd:Am Af) (k0 k1 k2 k3 k5:Am Ac) (mN:Au→Am Ac) (hC:h.get? C=Aa (excClassObj nm q C N bs bm hdct sn sub ab col dd k0 k1 k2 k3 k5 "ValueError.__new__")) (hN:h.Ns N mN) (hni:mN "__init__" = none) (T:OwnTail h rX bm):ExcO h C
theorem lP {β : Type}{l:Ab β}{n:Ah}(h:l.length=n+1):∃ a t,l=a::t∧t.length=n:=by
 cases l with
 |nil=>exact Xs h
 |cons a t=>exact⟨a,t,rfl,Zs h⟩
theorem six {β : Type}{l:Ab β}(h:l.length=6):∃ a b c d e f,l=[a,b,c,d,e,f]:=by
 obtain⟨a,t,e1,h⟩:=lP h;obtain⟨b,t2,e2,h⟩:=lP h;obtain⟨c,t3,e3,h⟩:=lP h;obtain⟨d,t4,e4,h⟩:=lP h;obtain⟨e,t5,e5,h⟩:=lP h;obtain⟨f,t6,e6,h⟩:=lP h;exact⟨a,b,c,d,e,f,by rw[e1,e2,e3,e4,e5,e6,Iq.mp h]⟩
theorem S7 {C:Af}{od:Am Af}{cd:Wc}{sl:Bk (Am Ac)}{tl:Ab Ac}{k0 k1 k2 k3 k4 k5:Am Ac}{n:Du}(hm:cd.mro=.ref C::tl)(hd:cd.hasDel=false)(hs:sl.toList=[k0,k1,k2,k3,k4,k5])(hn:sl.toList[4]? = Aa (Aa (.builtin n))) :
  (⟨.type "type",od,.cls cd,sl⟩:Co)=excClassObj cd.name cd.qualname C cd.ns cd.bases tl cd.hasDict cd.slotNames cd.subclasses cd.abstract cd.collection od k0 k1 k2 k3 k5 n:=by
 rw[hs] at hn;cases hn;cases cd;cases sl;cases hm;cases hd;cases hs;rfl
theorem BK {K:Ak}{h:Bi}{C A:Af}{od:Am Af}{cd:Wc}{sl:Bk (Am Ac)}(KI:K.In h)(e:Mi C K=Aa ⟨.type "type",od,.cls cd,sl⟩)(h2:cd.mro=.ref C::.ref A::rX)(h3:cd.hasDel=false)(h4:gQ K cd.ns=true)(h6:sl.toList.length=6)(h7:sl.toList[4]? = Aa (Aa (.builtin "ValueError.__new__")))(T:OwnTail h rX (.ref A::rX)):ExcO h C:=by
 obtain⟨k0,k1,k2,k3,x,k5,es⟩:=six h6;exact⟨_,_,_,_,_,_,_,_,_,_,_,k0,k1,k2,k3,k5,_,(KI _ _ e).trans (congrArg Aa (S7 h2 h3 es h7)),.of_isNs (Vb KI (vI h4).1),Px KI (vI h4).1 (vI h4).2,T⟩
theorem BL {K:Ak}{h:Bi}{C A:Af}(KI:K.In h)(z:m8 K C A=true):ExcO h C:=by
 obtain⟨oc,od,cd,sl,e,z⟩:=cK z;obtain⟨qc,qd,ca,ql,e2,z⟩:=cK z;have a1:=Em.mp z;have a2:=Em.mp a1.2;have a3:=Em.mp a2.2;have a4:=Em.mp a3.2;have a5:=Em.mp a4.2;have a6:=Em.mp a5.2;rw[Bw a1.1] at e;exact BK KI e (Bw a2.1) (Ph _▸a3.1) a4.1 (Bw a6.1) (Bw a6.2) (.own (KI _ _ e2) (.of_isNs (Vb KI (vI a5.1).1)) (Px KI (vI a5.1).1 (vI a5.1).2) .base)
section
variable {X:Cx}{pos:Ez}{fa:DA}
def yS (c:Ac)(fa:DA):DS:=fun env S=>(fa env S).toS env fun ds S1=>if ds.length≤lim then .ex c .non env S1 else .bad
inductive GotAS (X:Cx)(pins:Ab (Af × Co))(σ : _L.St)(env:qD)(P:Hp)(α : Ab Af)(us:Ab Ac)(s1:Ag)(k:Ab D→Sto→Out)(E:Ends):Prop
 |mk (vs:Ab V) (H1 P1:Hp) (α1:Ab Af) (ds:Ab D) (S1:Sto) (I:Inv X pins σ H1 s1) (rv:qN vs us) (r:Rel X.K H1 P1 α1 S1) (re:zJ X.K P1 α1 σ env) (rp:qF X.K P1 α1 ds vs) (e1:qH P P1) (e2:α<+:α1) (q:zB X P1 α1 (k ds S1) E):GotAS X pins σ env P α us s1 k E
theorem PZ {es:Ab Bq}{k:Ab D→Sto→Out}{pins:Ab (Af × Co)}{s:Ag}{σ : _L.St}{H P:Hp}{α : Ab Af}{env:qD}{S:Sto}{D:Ends}(he:PA X es (tDA X fa))(I:Inv X pins σ H s)(r:Rel X.K H P α S)
  (re:zJ X.K P α σ env) (af:zB X P α ((fa env S).toS env k) D) (pos:Ez) :
  Ap (Aw X.prog X.w) X.A (spliced (Fp pos (Bb es X.env))) (fun us s1=>GotAS X pins σ env P α us s1 k D) X.xe s:=by
 have af1:qJ X P α ((fa env S).bind fun d S=>.ok d S) fun d S=>zB X P α (k d S) D:=by
  have:=xZ af;cases q:fa env S <;> rw[q] at this <;> exact this
 exact thn (yO he I r re af1 pos) fun u s1 ⟨vs,H1,P1,α1,ds,S1,I1,rv,r1,re1,rp,e1,e2,q⟩=>⟨vs,H1,P1,α1,ds,S1,I1,rv,r1,re1,rp,e1,e2,zB.base e1 e2 q⟩
theorem U4 {x:Au}{C Ae:Af}{e₀:Bq}{rest:Ab Bq}{np cpos:Ez}(hc:X.calm=true)(hF:Fn1 X)(hg:Gl X x)(hm:X.mg x=Aa (.ref C))(hx:m8 X.K C Ae=true)(ha:PA X (e₀::rest) (tDA X fa))
  (hdb:(x == ("__debug__" : Au))=false:=by decide) (he:Bb (e₀::rest) X.env=(false,eval e₀ X.env)::Bb rest X.env:=by rfl) (hpl:(Fp cpos (Bb rest X.env)).any (·.1)=false:=by rfl) :
  PS X (.Raise (Aa (.Call (.Name x np) (e₀::rest) [] cpos)) none pos) (tDS X (yS (.ref C) fa)):=by
 intro pins s σ H D I h;obtain⟨P,α,env,S,r,re,af⟩:=h;obtain⟨nm,qn,N,bs,tl,hdct,sn,sub,ab,col,dd,k0,k1,k2,k3,k5,mN,hC,hN,hni,T⟩:=BL I.mod.kin hx;refine wpAny_Raise_call_subT (C:=C) (nm:=nm) (q:=qn) (N:=N) (bs:=bs) (bm:=tl) (hdct:=hdct) (sn:=sn) (sub:=sub) (ab:=ab) (col:=col) (dd:=dd) (k0:=k0) (k1:=k1) (k2:=k2) (k3:=k3) (k5:=k5)
  Os (mN:=mN) (T.hasType Os.hasBase) (I.ok.hd hc) (by rw[he];show (false||(Fp cpos (Bb rest X.env)).any (·.1))=false;rw[hpl];rfl) hni (jX I hg hm ⟨rfl,?_⟩ hdb)
 have run:=PZ ha I r re af cpos;rw[he] at run ⊢;refine Tk (thn run fun us s2 ⟨vs,H1,P1,α1,ds,S1,I1,rv,r1,re1,rp,e1,e2,q⟩=>?_);have hl:us.length=ds.length:=by rw[rp.length,rv.length]
 by_cases hz:ds.length≤lim
 ·rw[AT hz] at q
  refine⟨rfl,by rw[hl,← xT];exact hz,I1.bk _ _ hC,hN.keeps I1.bk,T.keeps I1.bk,fun h' e hm=>q _ _ ⟨e,pins,σ,H1,P1,α1,rfl,I1.kept (t':=s2.toks) hm.keeps,r1,qH.refl _,Bg _,hF,.new s2.heap us hm I1.stack fun b o eb old=>?_⟩⟩
  obtain⟨o1,q1⟩:=Old.there I1 hF old;have q2:=hm.keeps b o1 q1;rw[eb] at q2;cases q2;exact q1
 ·rw[Bc hz] at q;exact Ao q
end
section
variable {X:Cx}{pins:Ab (Af × Co)}{σ : _L.St}{H:Hp}{s:Ag}
theorem Z6 {M:Ma}{A:Bo}{E:Ac→Ag→Prop}{base h:Bi}{env:Jn}{outer:Ab Jn}{L e:Af}{cls:Ac}{args:Ab Ac}{Q:Rm→Ag→Prop}
  (hfr:A.frames=Aa (env::outer)) (hf:env.frame=Aa L) (hkb:base.StaysIn h) (hl:h.FunFrames base (env::outer)) (hx:Ta h s.heap e cls args)
  (hQ:∀ h' a0,wT base (env::outer) e cls a0 L h'→s.heap.UpToSlots h'→Q () { s with heap:=h' }) : Ap M A (Wd (.ref e) env) Q E s:=by
 obtain⟨t,he,htn,ht⟩:=hx.there;have fresh:∀ b,h.get? b=none→base.get? b=none:=fun b hb=>by
  cases hq:base.get? b with
  |none=>rfl
  |some o'=>have z:=hkb b o' hq;rw[hb] at z;cases z
 unfold Wd;simp only[hf];refine Ad (El he rfl (x:=.none) rfl ?_);rw[Bc (by decide)]
 refine wpAny_entryW hfr (hl.of_keeps fun b o hb _=>⟨o,hx.keeps b o hb,rfl⟩) hf he (fun b o hb=>hx.keeps b o (hkb b o hb)) (fresh e hx.new) rfl (by simp) (a0:=.ref t) rfl fun h' hN=>?_
 obtain⟨n1,n2,n3,n4⟩:=hN;exact hQ h' (.ref t) ⟨n1,fresh e hx.new,n2,n3⟩ n4
theorem UU {M:Ma}{A:Bo}{E:Ac→Ag→Prop}{c:Ac}{e:Af}{Q:Rm→Ag→Prop}(I:Inv X pins σ H s)(F:Fn1 X)(hA:A.frames=Aa X.stack)(f:FlyX X pins H c e s.heap)
  (hQ:∀ h' B a0,Nd B X.stack e c a0 h'→Inv X pins σ H { s with heap:=h' } → Cv X pins H B h'→Q () { s with heap:=h' }) :
  Ap M A (Wd (.ref e) X.env) (fun _ s₂=>Ap M A (We (.ref e) none) Q E s₂) E s:=by
 have land:∀ (B:Bi) (a0:Ac) (h1:Bi),Cv X pins H B s.heap→wT B X.stack e c a0 X.env.locals h1→s.heap.UpToSlots h1→Ap M A (We (.ref e) none) Q E { s with heap:=h1 }:=fun B a0 h1 cv hh up=>by
  refine wpAny_landsW (s:={ s with heap:=h1 }) hh fun h2 f2 u2=>?_
  obtain⟨I2,cv2⟩:=Inv.fly I F cv f2.1 (up.trans u2);exact hQ h2 B a0 f2 I2 cv2
 cases f with
 |new g args hm hf hk =>
  obtain⟨k1,k2,k3⟩:=WL I hm hf hk;rw[F.2.1] at hA;exact Z6 hA F.2.2 k1 (by rw[← F.2.1];exact k2) hm fun h' a0 x1 x2=>land _ a0 h' k3 (F.2.1▸x1) x2
 |fly B a0 fl cv =>
  rw[F.2.1] at hA;exact wpAny_looks_onW hA F.2.2 (by rw[← F.2.1];exact fl) fun h' x1 x2=>land B a0 h' cv (by rw[F.2.1];exact x1) x2
theorem iK {B:Bi}{c a0:Ac}{e:Af}(I:Inv X pins σ H s)(F:Fn1 X)(fl:Nd B X.stack e c a0 s.heap)(cv:Cv X pins H B s.heap):¬ Old X pins H e∧e ∉ frs X.stack∧∃ ob,s.heap.get? e=Aa ob∧ob.cls=c:=by
 obtain⟨oe,vs,he,hc,hd,_⟩:=fl.first
 have nf:e ∉ frs X.stack:=fun z=>by
  obtain⟨_,o,ho,hn⟩:=I.stack.mem z;rw[he] at ho;cases ho;exact hn vs hd
 refine⟨fun z=>?_,nf,oe,he,hc⟩;have q:=cv e oe he z nf;rw[fl.2.1] at q;cases q
theorem Inv.track {e:Af}{c:Ac}{ob:Co}(I:Inv X pins σ H s)(F:Fn1 X)(no:¬ Old X pins H e)(nf:e ∉ frs X.stack)(he:s.heap.get? e=Aa ob)(hc:ob.cls=c):Inv X pins σ (upd H e (eQ e c)) s:=by
 have hn:H e=none:=by
  cases q:H e with
  |none=>rfl
  |some u=>exact absurd (.inr (.inl (by rw[q];intro z;cases z))) no
 have nL:e≠X.env.locals:=fun z=>nf (F.mem.mpr (.inl z));have n0:∀ b o,X.s₀.heap.get? b=Aa o→b≠e:=fun b o q z=>no (.inl ⟨o,z▸q⟩);refine⟨I.ok,I.os,I.bare,⟨I.base.keep,I.base.slot,fun b o q n hx=>?_,I.base.there,fun b xs q=>?_,fun b o xs q=>?_,fun b ps q=>?_⟩,I.loc,I.cell,?_,fun x k q=>?_,fun p hp=>?_,fun b u q=>?_,I.len⟩
 ·rw[qP (n0 b o q)];exact I.base.free b o q n hx
 ·have z:=I.base.tups b xs q
  rw[qP (zL z hn)];exact z
 ·have z:=I.base.frzs b o xs q
  rw[qP (zL z hn)];exact z
 ·obtain⟨m,z⟩:=I.base.tbls b ps q
  exact⟨m,by rw[qP (zL z hn)];exact z⟩
 ·rw[qP (Ea nL)];exact I.free
 ·have z:k≠e:=fun z=>no (.inr (.inr (.inr ⟨x,z▸q⟩)))
  rw[qP z];exact I.freeC x k q
 ·obtain⟨a1,a2,a3,a4,a5⟩:=I.pin p hp
  have z:p.1≠e:=fun z=>no (.inr (.inr (.inl ⟨p,hp,z⟩)));exact⟨a1,by rw[qP z];exact a2,a3,a4,a5⟩
 ·by_cases hb:b=e
  ·subst hb
   rw[zQ] at q;cases q;refine⟨⟨ob,he,hc⟩,⟨ob,he⟩,fun h1 h2 ⟨o,q1,q2⟩ k=>⟨o,k o q1,q2⟩⟩
  ·rw[qP hb] at q
   exact(I.hok b u q).stay (fun _ _ _ z=>z) (fun k z=>by rw[qP (zL z hn)];exact z) fun k xs z=>by rw[qP (zL z hn)];exact z
theorem Inv.gone {i t':Ah}{n:Au}{h':Bi}(I:Inv X pins σ H s)(hN:X.N.Nodup)(hi:X.N[i]? = Aa n){m:Au→Am Ac}{v:Am Ac}(hl:∀ (j:Ah) (y:Au) (w:V),X.N[j]? = Aa y→σ[j]? = Aa (Aa w)→Vis X.env.scope y→∃ u,qI w u∧TU X.env s.heap m y u)(hv:h'.Ns X.env.locals fun y=>if y=n then v else m y)(sb:Gs X.env.locals s.heap h') :
  Inv X pins (σ.set i none) H { s with heap:=h',toks:=t' }:=by
 have neL:∀ b o,X.s₀.heap.get? b=Aa o→b≠X.env.locals:=fun b o e=>Cc (Bm (Ax e) I.ok.above);have kp:∀ b o,b≠X.env.locals→s.heap.get? b=Aa o→h'.get? b=Aa o:=fun b o n e=>(sb.2 b n).trans e;refine⟨I.ok,I.os,I.bare,⟨fun b o e n hb hx=>kp b o (neL b o e) (I.base.keep b o e n hb hx),fun b o e n hb hx=>?_,I.base.free,fun b o e hx=>?_,I.base.tups,I.base.frzs,I.base.tbls⟩,⟨_,hv,fun j y w e1 e2 e3=>?_⟩,fun x c e=>?_,I.free,I.freeC,fun p hp=>?_,fun b u q=>?_,by simpa using I.len⟩
 ·obtain⟨sl,q⟩:=I.base.slot b o e n hb hx
  exact⟨sl,kp b _ (neL b o e) q⟩
 ·obtain⟨o',q⟩:=I.base.there b o e hx
  exact⟨o',kp b o' (neL b o e) q⟩
 ·have hj:i≠j:=fun z=>by
   subst z;by_cases hs:i<σ.length
   ·rw[En hs] at e2;cases e2
   ·rw[Mh (by simp;omega)] at e2;cases e2
  rw[Ek hj] at e2;obtain⟨u,r,l⟩:=hl j y w e1 e2 e3;refine⟨u,r,?_⟩;rcases l with⟨k,z⟩|⟨k,c,z,zc⟩
  ·refine .inl ⟨k,?_⟩
   have:y≠n:=fun z=>hj (mJ hN hi (z▸e1));simp[this,z]
  ·exact .inr ⟨k,c,z,zc.sameBut sb (I.cne y c z)⟩
 ·obtain⟨w,z⟩:=I.cell x c e
  exact⟨w,z.sameBut sb (I.cne x c e)⟩
 ·obtain⟨e,n,ne,nf,d⟩:=I.pin p hp
  exact⟨kp p.1 p.2 ne e,n,ne,nf,d⟩
 ·refine(I.hok b u q).stay (fun c w hc z=>kp c w ?_ z) (fun _ z=>z) fun _ _ z=>z
  rintro rfl;rcases hc with rfl|hc
  ·rw[I.free] at q;cases q
  ·rw[I.free] at hc;cases hc
theorem iN {M:Ma}{A:Bo}{E:Ac→Ag→Prop}{i:Ah}{n:Au}{pos:Ez}{Q:Rm→Ag→Prop}(I:Inv X pins σ H s)(hN:X.N.Nodup)(hi:X.N[i]? = Aa n)(hlo:X.env.scope.names.lookup n=Aa .local)
  (h:∀ s',Inv X pins (σ.set i none) H s'→Q () s'):Ap M A (do Uo X.env n .none;unbindBehindTheSuite X.env n pos) Q E s:=by
 obtain⟨m,hm,hl⟩:=id I.loc;exact wpAny_nameGoes_keeps hlo hm (by rw[I.ok.kind];rfl) fun h' v hv sb=>h _ (Inv.gone I hN hi hl hv sb)
end
abbrev Cx.tryIn (X:Cx)(E:Ac→Ag→Prop)(pn:Ab (Af × Co)):Cx:={ X with xe:=E,pn:=pn }
abbrev Cx.suite (X:Cx)(e:Af):Cx:=Cx.re X (X.A.mark (Aa (.ref e))) false fun _ _=>Fc
def mO (N i:Ah)(cs:Ab Ac)(f g:DS):DS:=fun env S=>match f env S with
 |.ex c x env1 S1=>if cs.contains c then (match g ((Cg N none).set i (Aa (.exn c))) S1 with
   |.rt d S2=>.rt d S2
   |.nx env2 S2=>.nx (env2.set i none) S2
   |_=>.bad) else .bad
 |o=>o
section
variable {X:Cx}{pins:Ab (Af × Co)}{σ : _L.St}{H:Hp}{s:Ag}
theorem Inv.inTry (I:Inv X pins σ H s)(E:Ac→Ag→Prop):Inv (Cx.tryIn X E (X.pn++pins)) [] σ H s:=
 ⟨⟨I.ok.mod,I.ok.kind,I.ok.glob,I.ok.blt,I.ok.above,I.ok.inj,I.ok.has,I.ok.cab,I.ok.hd,I.ok.frames,I.ok.stk,I.ok.exf,I.ok.bs,I.ok.bsz,I.ok.noex,I.ok.exfs,I.ok.funs,I.ok.frf⟩,I.os,I.bare,I.base,I.loc,I.cell,I.free,I.freeC,fun p hp=>I.pin p (by simpa using hp),I.hok,I.len⟩
theorem Inv.outTry {E:Ac→Ag→Prop}{more:Ab (Af × Co)}(I:Inv (Cx.tryIn X E (X.pn++pins)) more σ H s):Inv X pins σ H s:=
 ⟨⟨I.ok.mod,I.ok.kind,I.ok.glob,I.ok.blt,I.ok.above,I.ok.inj,I.ok.has,I.ok.cab,I.ok.hd,I.ok.frames,I.ok.stk,I.ok.exf,I.ok.bs,I.ok.bsz,I.ok.noex,I.ok.exfs,I.ok.funs,I.ok.frf⟩,I.os,I.bare,I.base,I.loc,I.cell,I.free,I.freeC,fun p hp=>I.pin p (Dq _ hp),I.hok,I.len⟩
theorem SP.outTry {E:Ac→Ag→Prop}{D:Ends}{f:Flow}{s':Ag}(h:SP (Cx.tryIn X E (X.pn++pins)) [] D f s'):SP X pins D f s':=by
 cases f with
 |next=>obtain⟨σ',H',I,q⟩:=h;exact⟨σ',H',Inv.outTry I,q⟩
 |brk=>obtain⟨σ',H',I,q⟩:=h;exact⟨σ',H',Inv.outTry I,q⟩
 |cont=>obtain⟨σ',H',I,q⟩:=h;exact⟨σ',H',Inv.outTry I,q⟩
 |ret u=>obtain⟨v,σ',H',I,r,q⟩:=h;exact⟨v,σ',H',Inv.outTry I,r,q⟩
theorem FlyX.outTry {E:Ac→Ag→Prop}{more:Ab (Af × Co)}{c:Ac}{e:Af}{h:Bi}(f:FlyX (Cx.tryIn X E (X.pn++pins)) more H c e h):FlyX X pins H c e h:=by
 have old:∀ b,Old X pins H b→Old (Cx.tryIn X E (X.pn++pins)) more H b:=fun b o=>by
  rcases o with o|o|⟨p,hp,z⟩|o
  ·exact .inl o
  ·exact .inr (.inl o)
  ·exact .inr (.inr (.inl ⟨p,Dq _ hp,z⟩))
  ·exact .inr (.inr (.inr o))
 cases f with
 |new g args hm hf hk=>exact .new g args hm hf fun b o e q=>hk b o e (old b q)
 |fly B a0 fl cv=>exact .fly B a0 fl fun b o e q n=>cv b o e (old b q) n
theorem YI {K:Ak}{P:Hp}{α : Ab Af}{σ : _L.St}{n:Ah}(h:σ.length=n):zJ K P α σ (Cg n none):=by
 refine⟨by simp[h],fun i d e=>?_⟩
 rw[Lc] at e
 split at e <;> cases e
theorem zJ.unset {K:Ak}{P:Hp}{α : Ab Af}{σ : _L.St}{env:qD}(re:zJ K P α σ env)(i:Ah):zJ K P α (σ.set i none) (env.set i none):=by
 refine⟨by simp[re.1],fun j d e=>?_⟩
 by_cases hj:i=j
 ·subst hj
  by_cases hi:i<env.length
  ·rw[En hi] at e;cases e
  ·rw[Mh (by simp;omega)] at e;cases e
 ·rw[Ek hj] at e ⊢
  exact re.2 j d e
end
section
variable {X:Cx}{pos:Ez}{f g:DS}
theorem LW {pins:Ab (Af × Co)}{D:Ends}{c:Ac}{e C0:Af}{s':Ag}{σ : _L.St}{H P:Hp}{α : Ab Af}{S1:Sto}{x n:Au}{i:Ah}{b₀:Eu}{suite:Ab Eu}{np hpos:Ez}{cs:Ab Ac}
  (F:Fn1 X) (hg:Gl X x) (hm:X.mg x=Aa (.ref C0)) (hcs:∀ c∈cs,Ie X.K c (.ref C0)=Aa true) (hN:X.N.Nodup) (hi:X.N[i]? = Aa n) (hlo:X.env.scope.names.lookup n=Aa .local)
  (hs:∀ e,PSs (Cx.suite X e) (b₀::suite) (tDS (Cx.suite X e) g)) (hc:cs.contains c=true) (I:Inv X pins σ H s') (r:Rel X.K H P α S1) (fl:FlyX X pins H c e s'.heap)
  (af:zB X P α (match g ((Cg X.N.length none).set i (Aa (.exn c))) S1 with|.rt d S2=>.rt d S2|.nx env2 S2=>.nx (env2.set i none) S2|_=>.bad) D) (hdb:(x == ("__debug__" : Au))=false) :
  Ap (Aw X.prog X.w) X.A (Wd (.ref e) X.env) (fun _ s₂=>Ap (Aw X.prog X.w) X.A (We (.ref e) none) (fun _ s₃ =>
   Ap (Aw X.prog X.w) X.A (handleBy (.ref e) X.env [.ExceptHandler (Aa (.Name x np)) (Aa n) (b₀::suite) hpos]) (SP X pins D) X.xe s₃) X.xe s₂) X.xe s':=by
 have hcs':Ie X.K c (.ref C0)=Aa true:=hcs c (by simpa using hc)
 have Z:∀ {σ : _L.St} {H:Hp} {s:Ag},Inv X pins σ H s→Inv (Cx.suite X e) pins σ H s:=fun I=>Inv.re I _ false _ I.ok.frames fun z=>nomatch z;refine UU I F I.ok.frames fl fun h5 B a0 f5 I5 cv5=>?_;refine wpAny_handleBy_cons (codeAny_handlers_test (A:=X.A.mark (Aa (.ref e))) (jX (X:=Cx.suite X e) (Z I5) hg hm ?_ hdb)) (by intro q;cases q)
 obtain⟨no5,nf5,ob5,he5,hc5⟩:=iK I5 F f5 cv5;refine(PySem.W.exm_one I5.kIn (by subst hc5;exact(PySem.W.Looks.ld he5).andThen .now) hcs').at ?_
 refine codeAny_handlers_suite_as ?_;refine lands_againW (s:={ s' with heap:=h5 }) f5 fun h6 f6 u6=>?_
 obtain⟨I6,cv6⟩:=Inv.fly I5 F cv5 f6.1 u6;obtain⟨no6,nf6,ob6,he6,hc6⟩:=iK I6 F f6 cv6;have J6:Inv X pins σ (upd H e (eQ e c)) { s' with heap:=h6 }:=Inv.track I6 F no6 nf6 he6 hc6
 have hn:H e=none:=by
  cases q:H e with
  |none=>rfl
  |some u=>exact absurd (.inr (.inl (by rw[q];intro z;cases z))) no6
 obtain⟨r1,sP⟩:=r.pure (o:=eQ e c) hn;refine j7 (X:=Cx.suite X e) (v:=.ref e) (Z J6) hN hi (.inl hlo) rfl (fun s7 I7=>?_) (.inr hlo);have re7:zJ X.K (upd P e (eQ e c)) α (σ.set i (Aa (.ref e))) ((Cg X.N.length none).set i (Aa (.exn c))):=(YI I.len).set i (by simp only[Rep];exact⟨e,rfl,zQ⟩)
 refine Hw (hs e pins s7 _ _ { nx:=fun σ' H'=>D.nx (σ'.set i none) H',rt:=D.rt } I7 ⟨_,α,_,S1,r1,re7,?_⟩) (fun fl s8 q=>?_) fun _ _ z=>Ao z
 ·cases q:g ((Cg X.N.length none).set i (Aa (.exn c))) S1 with
  |rt d S2=>rw[q] at af;exact fun v H' P' α' r' e1 e2 rp=>af v H' P' α' r' (sP.trans e1) e2 rp
  |nx env2 S2=>rw[q] at af;exact fun σ' H' P' α' r' re' e1 e2=>af _ H' P' α' r' (zJ.unset re' i) (sP.trans e1) e2
  |bk env2 S2=>rw[q] at af;exact Ao af
  |ct env2 S2=>rw[q] at af;exact Ao af
  |ex c' x' env2 S2=>rw[q] at af;exact Ao af
  |bad=>rw[q] at af;exact Ao af
 ·cases fl with
  |next =>
   obtain⟨σ',H',I8,q⟩:=q;exact iN (Inv.unre I8 I.ok.frames I.ok.hd) hN hi hlo fun s9 I9=>⟨_,H',I9,q⟩
  |brk =>
   obtain⟨_,_,_,q⟩:=q;exact Ao q
  |cont =>
   obtain⟨_,_,_,q⟩:=q;exact Ao q
  |ret u =>
   obtain⟨v,σ',H',I8,rv,q⟩:=q;exact iN (Inv.unre I8 I.ok.frames I.ok.hd) hN hi hlo fun s9 I9=>⟨v,_,H',I9,rv,q⟩
set_option tactic.hygienic true in
theorem LG {x n:Au}{C0:Af}{i:Ah}{body:Ab Eu}{b₀:Eu}{suite:Ab Eu}{np hpos:Ez}{cs:Ab Ac}(F:Fn1 X)(hb:∀ E pn,Pa (Aw X.prog X.w) X.A X.env E→PSs (Cx.tryIn X E pn) body (tDS (Cx.tryIn X E pn) f))
  (hs:∀ e,PSs (Cx.suite X e) (b₀::suite) (tDS (Cx.suite X e) g)) (hg:Gl X x) (hm:X.mg x=Aa (.ref C0)) (hcs:∀ c∈cs,Ie X.K c (.ref C0)=Aa true) (hN:X.N.Nodup) (hi:X.N[i]? = Aa n:=by rfl) (hlo:X.env.scope.names.lookup n=Aa .local:=by rfl)
  (hdb:(x == ("__debug__" : Au))=false:=by decide):PS X (.Try body [.ExceptHandler (Aa (.Name x np)) (Aa n) (b₀::suite) hpos] [] [] pos) (tDS X (mO X.N.length i cs f g)):=by
 intro pins s σ H D I h;obtain⟨P,α,env,S,r,re,af⟩:=h;refine wpAny_Try_except ?_;refine Hw (hb _ (X.pn++pins) (PassesOwn.looking (K:=fun e s₂=>Ap (Aw X.prog X.w) X.A (We e none) (fun _ s₃=>Ap (Aw X.prog X.w) X.A (handleBy e X.env [.ExceptHandler (Aa (.Name x np)) (Aa n) (b₀::suite) hpos]) (SP X pins D) X.xe s₃) X.xe s₂) (E₁:=X.xe))
  [] s σ H D (Inv.inTry I _) ⟨P,α,env,S,r,re,?_⟩) (fun fl s1 q=>?_) fun _ _ z=>z
 ·unfold mO at af
  cases q:f env S with
  |rt d S2=>rw[q] at af;exact af
  |nx env2 S2=>rw[q] at af;exact af
  |bk env2 S2=>rw[q] at af;exact af
  |ct env2 S2=>rw[q] at af;exact af
  |bad=>rw[q] at af;exact af
  |ex c x' env2 S2 =>
   rw[q] at af;dsimp only at af;intro u s' k;obtain⟨e,pins',σ',H',P',α',rfl,I',r',e1,e2,F',fl⟩:=k
   split at af
   ·rename_i hc
    exact LW F hg hm hcs hN hi hlo hs hc (Inv.outTry I') r' (FlyX.outTry fl) (zB.base e1 e2 af) hdb
   ·exact Ao af
 ·have q':=SP.outTry q
  cases fl with
  |next=>exact Mv q'
  |brk=>exact q'
  |cont=>exact q'
  |ret u=>exact q'
end
end _D
namespace _D
open PySem PySem.Spec PyProof.Rows _L PySem.W
structure ExnK (K:Ak)(C:Af):Prop where
 ga:findIn K (.ref C) "__getattribute__" = Aa (Aa (.builtin "BaseException.__getattribute__"))
 hk:findIn K (.ref C) "__getattr__" = Aa none
 cl:findIn K (.ref C) "__class__" = Aa (Aa (.builtin "object.__class__"))
 sp:specialIn K (.builtin "object.__class__") "__get__" = Aa (Aa (.builtin "getset_descriptor.__get__"))
 tk:takesIn K (.builtin "object.__class__")=Aa true
 mo:mroIn K C (.type "object")=Aa true
 mb:mroIn K C (.type "BaseException")=Aa true
 isC:(clsIn K C).isSome=true
section
variable {prog:Bh}{w:Bv}{A:Bo}{E:Ac→Ag→Prop}{s:Ag}{K:Ak}{x C:Af}
abbrev j8 (x C:Af)(h:Bi):Prop:=∃ ob,h.get? x=Aa ob∧ob.cls=.ref C
theorem j8.type {M:Ma}{h:Bi}(I:j8 x C h):Looks M h (typeOf (.ref x)) (.ref C):=by
 obtain⟨ob,e,c⟩:=I;rw[← c];exact(Looks.ld e).andThen .now
theorem UB {M:Ma}{h:Bi}(X:K.In h)(Z:ExnK K C):Looks M h (Zt (.ref x) (.ref C) "__class__") (.bind (.builtin "getset_descriptor.__get__") (.builtin "object.__class__")):=by
 have l1:=Vl (M:=M) X Z.cl;have l2:Looks M h (Zm (Aa (.builtin "object.__class__"))) (Aa (.builtin "getset_descriptor.__get__")):=looks_specialIn X Z.sp;have l3:=looks_takesIn (M:=M) X Z.tk;have l4:Looks M h (Vm (Aa (.builtin "object.__class__")) (Aa (.builtin "getset_descriptor.__get__"))) (Aa (.builtin "getset_descriptor.__get__",.builtin "object.__class__")):=l3.andThen .now;exact l1.andThen (l2.andThen (l4.andThen (Looks.tag .now)))
theorem BM {R:Uq→Ag→Prop}{tp:Ac}(X:K.In s.heap)(Z:ExnK K C)(I:j8 x C s.heap)(h:R (.ok (.ret (.ref C))) s) :
  Ja (Aw prog w) A (.call (.builtin "getset_descriptor.__get__") ⟨[.builtin "object.__class__",.ref x,tp],[]⟩) R s:=by
 have LT:=j8.type (M:=Aw prog w) I;have LM:=looks_mroIn (M:=Aw prog w) X Z.mo;cases s;refine Jv KF.slot_gs.plain KF.entry_gs (KF.slot_gs.check _ _ _ _ _ _ _ _ KF.type_class (KF.args_gs _ _ _) ?_);unfold He.«getset_descriptor.__get__» Vn;rw[dga_obj];refine Ad (Al ?_);unfold Uc Rj Rr isInstance;simp only[KF.owner_class]
 repeat lk
 refine⟨Oh _ (by decide +kernel),Fd KF.entry_class ?_⟩
 unfold He.«object.__class__» shownTypeOf
 repeat lk
 exact h
theorem LN {tk:Sk}{R:Uq→Ag→Prop}(X:K.In s.heap)(Z:ExnK K C)(I:j8 x C s.heap)(h:R (.ok (.ret (.ref C))) s) :
  Ja (Aw prog w) A (.call (.builtin "BaseException.__getattribute__") ⟨[.ref x,.str "__class__" tk],[]⟩) R s:=by
 have LT:=j8.type (M:=Aw prog w) I;have LM:=looks_mroIn (M:=Aw prog w) X Z.mb;have LF:=UB (M:=Aw prog w) (x:=x) X Z;have hk:builtinKind "BaseException.__getattribute__" = Aa .slot:=by decide +kernel
 have hsp:splitId "BaseException.__getattribute__" = Aa ("BaseException","__getattribute__"):=by decide +kernel
 have chk:∀ (A:Bo) (Q:Rm→Ag→Prop) (E:Ac→Ag→Prop),Q () s→Ap (Aw prog w) A (Qj "BaseException.__getattribute__" ⟨[.ref x,.str "__class__" tk],[]⟩) Q E s:=by
  intro A Q E hq;have ha:=PySem.F.args_bexc_ga (.ref x) (.str "__class__" tk);simp only[Qj,hk,hsp];unfold isInstance;refine Ad (Ad (LT.here (LM.here ?_)))
  repeat (any_goals (first|assumption|wp_step))
 refine Jv Qt.ga.plain PySem.F.entry_bexc_ga (chk _ _ _ ?_);cases s;unfold He.«object.__getattribute__»;refine Ad (Kn (show slotArgs "__getattribute__" 1 ⟨[.ref x,.str "__class__" tk],[]⟩=pure (.ref x,[.str "__class__" tk]) from by kernel_rfl) ?_)
 refine Ad (Al (Ad (LT.at (Ad (LF.at ?_)))));show Ap _ _ (Pi _ _ _ _) _ _ _;unfold Pi;dsimp only;exact Ad (Dj (Nl (BM X Z I (Al h))))
theorem XO {Q:Am Ac→Ag→Prop}(X:K.In s.heap)(Z:ExnK K C)(I:j8 x C s.heap)(h:Q (Aa (.ref C)) { s with toks:=s.toks+1 }) : Ap (Aw prog w) A (getAttr? (.ref x) "__class__") Q E s:=by
 have LT:=j8.type (M:=Aw prog w) I;have L1:=Vl (M:=Aw prog w) X Z.ga;have lk2:=Vl (M:=Aw prog w) X Z.hk;unfold getAttr? getAttrBy? getAttrBy;cases s;refine Ad (wpAny_mkText (Ad (Kh (Dj (Ad (LT.at (Ad (L1.at ?_))))))));dsimp only;have hx2:(Za "BaseException.__getattribute__" == Za "object.__getattribute__")=false:=by decide +kernel
 rw[hx2,Ny,Bc Ge];unfold getAttrByItsOwn hookBefore;rw[AT (show onTheHeap (.ref C)=true from rfl)]
 refine Ad (lk2.at (Ad (Kh (Dj ?_))));unfold callGetattribute;rw[Nu,Bc Ge];unfold boundAndCalled;refine Ad (Kn (Qt.ga.bind (.ref x)) ?_);refine Nl (LN X Z I ?_);show Ap _ _ (handedOut (.ref C)) _ _ _;exact Al (Al h)
set_option tactic.hygienic true in
theorem hJ (Z:ExnK K C):KitX K (.ref x) (.ref C) (j8 x C) where
 ty:=fun _ _ _ I=>I.type
 it:=fun M h X _=>by
  have z:=Z.isC;unfold clsIn at z
  split at z
  ·rename_i ho
   intro A' Q' E' s' k q;unfold isType loadHead;exact Ad (wpAny_loadPart (k _ _ (X _ _ ho)) (Al q))
  ·cases z
 ne:=fun h tp dd its n sl X htp=>by
  have z:=Z.isC;unfold clsIn at z
  split at z
  ·rename_i ho
   cases hq:(Ch C == Ch tp) with
   |false=>rfl
   |true =>
    obtain rfl:C=tp:=Value.ref.inj (Jm.mp hq);have y:=(X _ _ ho).symm.trans htp;cases y
  ·cases z
 ca:=fun X I k=>XO X Z I k
end
end _D
namespace _D
open PySem PySem.Spec PyProof.Rows _L
theorem mR {α : Type}{t:Mp α}{Q Q':α→Ag→Prop}{M:Ma}{A:Bo}{E:Ac→Ag→Prop}{s:Ag}(h:Ap M A t Q (fun _ _=>Fc) s)(hQ:∀ a s,Q a s→Q' a s):Ap M A t Q' E s:=Hw h hQ fun _ _ x=>x.elim
def kQ (ifs:Ab Bq)(env:Jn):Mp As:=forIn ifs true fun c r=>if r=true then do let ok ← Zu c env (eval c env);pure (Jf ok) else pure (Jf r)
def PTs (X:Cx)(ifs:Ab Bq)(t:DT):Prop:=
 ∀ (pins:Ab (Af × Co)) (s:Ag) (σ : _L.St) (H:Hp) (Q:As→Hp→Prop),Inv X pins σ H s→tDT X t σ H Q→Ap (Aw X.prog X.w) X.A (kQ ifs X.env) (TP X pins σ Q) X.xe s
def z9:DT:=fun _ S=>.ok true S
section
variable {X:Cx}
theorem fZ {prog:Bh}{w:Bv}{A:Bo}{E:Ac→Ag→Prop}{env:Jn}{Q:As→Ag→Prop}:∀ (ifs:Ab Bq) {s:Ag},Q false s →
  Ap (Aw prog w) A (forIn ifs false fun c r=>if r=true then do let ok ← Zu c env (eval c env);pure (Jf ok) else pure (Jf r)) Q E s
 |[],s,h=>by rw[Lm];exact Al h
 |c::cs,s,h=>by
  rw[Ko];rw[Bc (by simp)]
  refine Ad (Al ?_);exact fZ cs h
theorem BG:PTs X [] z9:=fun pins s σ H Q I ⟨P,α,env,S,r,re,af⟩=>by
 unfold kQ;rw[Lm];exact Al ⟨H,I,af H P α r (qH.refl _) (Bg _)⟩
theorem U6 {c:Bq}{cs:Ab Bq}{t u:DT}(h1:PT X c (tDT X t))(h2:PTs X cs u):PTs X (c::cs) (wJ t u):=fun pins s σ H Q I ⟨P,α,env,S,r,re,af⟩=>by
 unfold kQ;rw[Ko,AT rfl];refine Ad (Ad (thn (pX (fun Q' q=>h1 pins s σ H Q' I q) r re af) fun b s1 ⟨H1,P1,α1,S1,I1,r1,re1,e1,e2,af1⟩=>Al ?_));cases b with
 |true=>exact h2 pins s1 σ H1 Q I1 ⟨P1,α1,env,S1,r1,re1,vM.base e1 e2 af1⟩
 |false=>exact fZ cs ⟨H1,I1,af1 H1 P1 α1 r1 e1 e2⟩
theorem IZ {e:Bq}{f:DE}{pins:Ab (Af × Co)}{s:Ag}{σ : _L.St}{H P:Hp}{α : Ab Af}{env:qD}{S:Sto}{d:D}{S1:Sto}(he:PE X e (tD X f))(I:Inv X pins σ H s)(r:Rel X.K H P α S)(re:zJ X.K P α σ env)(q:f env S=.ok d S1) :
  Ap (Aw X.prog X.w) X.A (eval e X.env) (fun u s1=>∃ v H1 P1 α1,Got X pins σ env P α u s1 v H1 P1 α1 d S1) X.xe s:=by
 refine thn (xH (g:=fun d S=>Res.ok d S) (Ok:=fun d' S'=>d'=d∧S'=S1) he I r re (by rw[q];exact⟨rfl,rfl⟩)) fun u s1 ⟨v,H1,P1,α1,d',S',G,h1,h2⟩=>?_
 have e1:d'=d:=h1;have e2:S'=S1:=h2;subst e1;subst e2;exact⟨v,H1,P1,α1,G⟩
theorem CN {ifs:Ab Bq}{t:DT}{pins:Ab (Af × Co)}{s:Ag}{σ : _L.St}{H P:Hp}{α : Ab Af}{env:qD}{S:Sto}{b:As}{S1:Sto}(he:PTs X ifs t)(I:Inv X pins σ H s)(r:Rel X.K H P α S)(re:zJ X.K P α σ env)(q:t env S=.ok b S1) :
  Ap (Aw X.prog X.w) X.A (kQ ifs X.env) (fun b' s1=>b'=b∧∃ H1 P1 α1,Inv X pins σ H1 s1∧Rel X.K H1 P1 α1 S1∧zJ X.K P1 α1 σ env∧qH P P1∧α<+:α1) X.xe s:=by
 refine thn (he pins s σ H (fun b' H1=>b'=b∧∃ P1 α1,Rel X.K H1 P1 α1 S1∧zJ X.K P1 α1 σ env∧qH P P1∧α<+:α1) I ⟨P,α,env,S,r,re,?_⟩) fun b' s1 ⟨H1,I1,e,P1,α1,q1,q2,q3,q4⟩=>⟨e,H1,P1,α1,I1,q1,q2,q3,q4⟩;rw[q];exact fun H' P' α' r' e1 e2=>⟨rfl,P',α',r',re.mono e1 e2,e1,e2⟩
theorem O0 {tg:Bq}{g:DG}{pins:Ab (Af × Co)}{s:Ag}{σ : _L.St}{H P:Hp}{α : Ab Af}{env env1:qD}{S:Sto}{d:D}{v:V}{u:Ac}{S1:Sto}(hg:PG X tg (tDG X g))(I:Inv X pins σ H s)(r:Rel X.K H P α S)(re:zJ X.K P α σ env)(rv:qI v u)
  (rp:Rep X.K P α d v) (q:g d env S=.ok env1 S1) :
  Ap (Aw X.prog X.w) X.A (assign tg X.env u) (fun _ s1=>∃ σ1 H1 P1 α1,Inv X pins σ1 H1 s1∧Rel X.K H1 P1 α1 S1∧zJ X.K P1 α1 σ1 env1∧qH P P1∧α<+:α1) X.xe s:=by
 refine thn (hg pins s σ H v u (fun σ1 H1=>∃ P1 α1,Rel X.K H1 P1 α1 S1∧zJ X.K P1 α1 σ1 env1∧qH P P1∧α<+:α1) I rv ⟨P,α,env,S,d,r,re,rp,?_⟩) fun _ s1 ⟨σ1,H1,I1,P1,α1,q1,q2,q3,q4⟩=>⟨σ1,H1,P1,α1,I1,q1,q2,q3,q4⟩;rw[q];exact fun σ' H' P' α' r' re' e1 e2=>⟨P',α',r',re',e1,e2⟩
def nT (K:Ak)(P:Hp)(α : Ab Af)(ds:Ab D)(o:Co):Prop:=∃ (its:Ab Ac) (n:Ah) (vs:Ab V),o={ cls:=.type "list",data:=.seq its.toArray n } ∧ qN vs its∧qF K P α ds vs∧ds.length≤lim
theorem nT.mono {K:Ak}{P P1:Hp}{α α1:Ab Af}{ds:Ab D}{o:Co}(e:qH P P1)(h:α<+:α1)(a:nT K P α ds o):nT K P1 α1 ds o:=by
 obtain⟨its,n,vs,q1,q2,q3,q4⟩:=a;exact⟨its,n,vs,q1,q2,qF.mono e h _ _ q3,q4⟩
theorem nT.cell {K:Ak}{P:Hp}{α : Ab Af}{ds:Ab D}{o:Co}(a:nT K P α ds o):∀ v,o.data≠.cell v:=by
 obtain⟨its,n,vs,rfl,_⟩:=a;intro v z;cases z
theorem Inv.pin1 {pins:Ab (Af × Co)}{σ : _L.St}{H:Hp}{s:Ag}{a:Af}{o:Co}(I:Inv X pins σ H s)(f:wM X pins H a)(e:s.heap.get? a=Aa o)(d:∀ v,o.data≠.cell v):Inv X (pins++[(a,o)]) σ H s:=
 I.pins_of fun p hp=>(Cu.mp hp).elim (fun z=>I.pin p (Ce _ z)) fun z=>by
  have e':p=(a,o):=by simpa using z
  subst e';exact⟨e,f.1,f.2.1,f.2.2.1,d⟩
theorem Inv.pinned1 {pins:Ab (Af × Co)}{σ : _L.St}{H:Hp}{s:Ag}{a:Af}{o:Co}(I:Inv X (pins++[(a,o)]) σ H s):s.heap.get? a=Aa o∧H a=none:=by
 have:=I.pin (a,o) (Ce _ (Ce _ (by simp)))
 exact⟨this.1,this.2.1⟩
end
structure TurnSt (Y:Cx)(pins:Ab (Af × Co))(P1:Hp)(α1:Ab Af)(fp:Ab Af)(acc:Af)(env:qD)(S:Sto)(ds:Ab D)(s:Ag)(σ : _L.St)(H P:Hp)(α : Ab Af)(o:Co):Prop where
 inv:Inv Y pins σ H s
 rel:Rel Y.K H P α S
 env:zJ Y.K P α σ env
 same:qH P1 P
 pre:α1<+:α
 fpn:∀ b∈fp,H b=none
 acn:H acc=none
 at':s.heap.get? acc=Aa o
 acc:nT Y.K P α ds o
def uD (cells:Ab (Au × Af)):Ab (Au × Ha)→Ab (Au × Af)→Ab (Au × Af)
 |[],cs=>cs
 |(n,k)::r,cs=>uD cells r (if k == .free then (n,(cells.lookup n).getD 0)::cs else cs)
theorem sY {env:Jn}{scope:Fv}(h:∀ y∈scope.names,y.2=.free→∃ c,env.cells.lookup y.1=Aa c):Yi scope env=pure (uD env.cells scope.names []):=by
 have go:∀ (l:Ab (Au × Ha)) (cs:Ab (Au × Af)),(∀ y∈l,y.2=.free→∃ c,env.cells.lookup y.1=Aa c) →
   (forIn l cs fun x cs=>match x with|(name,kind)=>if (kind == Gx)=true then do let a ← cellOf env name;pure (Jf ((name,a)::cs)) else pure (Jf cs):Mp (Ab (Au × Af)))=pure (uD env.cells l cs):=by
  intro l
  induction l with
  |nil=>intro cs _;rfl
  |cons y r ih =>
   intro cs hl;obtain⟨n,k⟩:=y;rw[Ko];by_cases hk:k=.free
   ·subst hk
    obtain⟨c,hc⟩:=hl (n,.free) Cs rfl;have hc':env.cells.lookup n=Aa c:=hc;have e:cellOf env n=pure c:=by unfold cellOf;rw[hc']
    simp only[Ex,De,e,pure_bind];rw[ih _ fun z hz=>hl z (Bl _ hz)];simp only[uD,Ex,De,hc',Qk]
   ·have hb:(k == Gx)=false:=by simpa using hk
    simp only[hb,Bn,Dt,pure_bind];rw[ih _ fun z hz=>hl z (Bl _ hz)];simp only[uD,hb,Bn,Dt]
 unfold Yi;have:=go scope.names [] h;simp only[bind_pure];exact this
theorem fT {cells:Ab (Au × Af)}{x:Au}{c:Af}:∀ (l:Ab (Au × Ha)) (cs:Ab (Au × Af)),(uD cells l cs).lookup x=Aa c→cs.lookup x=Aa c∨((x,Gx)∈l∧c=(cells.lookup x).getD 0)
 |[],cs,h=>.inl h
 |(n,k)::r,cs,h=>by
  rcases fT r _ h with h|⟨h1,h2⟩
  ·by_cases hk:k=.free
   ·subst hk
    simp only[Ex,De,Ik] at h;cases hb:x == n with
    |true =>
     rw[hb] at h;have e:x=n:=by simpa using hb
     subst e;exact .inr ⟨Cs,(Cp h).symm⟩
    |false=>rw[hb] at h;exact .inl h
   ·have hb:(k == Gx)=false:=by simpa using hk
    simp only[hb,Bn,Dt] at h;exact .inl h
  ·exact .inr ⟨Bl _ h1,h2⟩
theorem dM {cells:Ab (Au × Af)}{x:Au}:∀ (l:Ab (Au × Ha)) (cs:Ab (Au × Af)),((x,Gx)∈l∨∃ c,cs.lookup x=Aa c)→∃ c,(uD cells l cs).lookup x=Aa c
 |[],cs,h=>by
  rcases h with h|h
  ·cases h
  ·exact h
 |(n,k)::r,cs,h=>by
  refine dM r _ ?_;rcases h with h|⟨c,h⟩
  ·rcases Av.mp h with e|h
   ·cases e
    exact .inr ⟨(cells.lookup x).getD 0,by simp only[Ex,De,Ik]⟩
   ·exact .inl h
  ·by_cases hk:k=.free
   ·subst hk
    simp only[Ex,De,Ik];cases hb:x == n with
    |true=>exact .inr ⟨_,rfl⟩
    |false=>exact .inr ⟨c,h⟩
   ·have hb:(k == Gx)=false:=by simpa using hk
    simp only[hb,Bn,Dt];exact .inr ⟨c,h⟩
structure CompSc (scX:Fv)(NX:Ab Au)(scope:Fv)(N':Ab Au)(cap:Ab (Am Ah)):Prop where
 kind:scope.kind=.function
 names:∀ y∈scope.names,y.2=.local → scope.names.lookup y.1=Aa .local
 cel:∀ y∈scope.names,y.2=.cell→scope.names.lookup y.1=Aa .cell
 free:∀ y∈scope.names,y.2=.free→scX.names.lookup y.1=Aa .cell∨scX.names.lookup y.1=Aa .free
 fr2:∀ y∈scope.names,y.2=.free→scope.names.lookup y.1=Aa .free
 len:cap.length=N'.length
 caps:((cap.zip N').all fun p=>match p.1 with|none=>true|some i=>NX[i]? == Aa p.2&&scope.names.lookup p.2 == Aa .free)=true
 nd:N'.Nodup
def uP (cap:Ab (Am Ah))(σ : _L.St):_L.St:=cap.map fun o=>match o with
 |none=>none
 |some i=>(σ[i]?).join
def xF (cap:Ab (Am Ah))(env:qD):qD:=cap.map fun o=>match o with
 |none=>none
 |some i=>(env[i]?).join
theorem YH {K:Ak}{P:Hp}{α : Ab Af}{σ : _L.St}{env:qD}(re:zJ K P α σ env)(cap:Ab (Am Ah)):zJ K P α (uP cap σ) (xF cap env):=by
 refine⟨by simp[uP,xF],fun j d e=>?_⟩
 unfold xF at e;unfold uP;rw[Dm] at e ⊢;cases q:cap[j]? with
 |none=>rw[q] at e;cases e
 |some o =>
  rw[q] at e;cases o with
  |none=>cases e
  |some i =>
   have e':(env[i]?).join=Aa d:=by simpa using e
   cases z:env[i]? with
   |none=>rw[z] at e';cases e'
   |some w =>
    rw[z] at e';have e'':w=Aa d:=e';subst e'';obtain⟨v,h1,h2⟩:=re.2 i d z;exact⟨v,by simp[h1],h2⟩
def zF (X:Cx)(N':Ab Au)(scope:Fv)(cl:Ab (Au × Af))(C:Af)(ex:Ab Af)(s₀:Ag)(H₀:Hp):Cx:=
 { X with N:=N',s₀:=s₀,H₀:=H₀,env:=compEnvC scope cl C X.env,outer:=X.stack,stack:=X.stack,ex:=ex,fn:=fun x=>decide (scope.names.lookup x=Aa .cell),pn:=[],xe:=fun _ _=>Fc }
theorem kL {scope:Fv}{env:Jn}:∀ {names:Ab (Au × Ha)} {x:Au} {k:Ha},
  (names.map fun (n,k)=>if (k == Gx&&env.scope.kind == .function&&env.kindOf n == Aa .cell) then (n,Mj) else (n,k)).lookup x=Aa k →
  names.lookup x=Aa k∨(k=.cell∧names.lookup x=Aa .free)
 |[],_,_,h=>by simp at h
 |(n,k0)::r,x,k,h=>by
  rw[Df,Ik] at h;rw[Ik];dsimp only at h;cases hb:(k0 == Gx&&env.scope.kind == .function&&env.kindOf n == Aa .cell) with
  |true =>
   rw[hb] at h;simp only[De] at h;cases hx:x == n with
   |true =>
    rw[hx] at h;have e:Mj=k:=Cp h;have hk:k0=.free:=by
     have:=(Ay _ _).mp hb;have:=(Ay _ _).mp this.1;simpa using this.1
    subst hk;exact .inr ⟨e.symm,rfl⟩
   |false=>rw[hx] at h;exact kL (scope:=scope) h
  |false =>
   rw[hb] at h;simp only[Bn,Dt] at h;cases hx:x == n with
   |true=>rw[hx] at h;exact .inl h
   |false=>rw[hx] at h;exact kL (scope:=scope) h
section
variable {X:Cx}{scope:Fv}{N':Ab Au}{cap:Ab (Am Ah)}{pins:Ab (Af × Co)}{σ : _L.St}{H2:Hp}{s2:Ag}{fp:Ab Af}
theorem gX (S:CompSc X.env.scope X.N scope N' cap){x:Au}{k:Ha}(h:(relabel scope X.env).names.lookup x=Aa k):scope.names.lookup x=Aa k∨(k=.cell∧scope.names.lookup x=Aa .free):=kL (scope:=scope) h
theorem X6 (S:CompSc X.env.scope X.N scope N' cap)(ok:X.Ok){x:Au}{c:Af}(h:(uD X.env.cells scope.names []).lookup x=Aa c):X.env.cells.lookup x=Aa c∧(x,Gx)∈scope.names:=by
 rcases fT _ _ h with h|⟨hm,hc⟩
 ·cases h
 ·have:=S.free _ hm rfl
  obtain⟨c',hc'⟩:=ok.has x this;rw[hc',Qk] at hc;rw[hc',hc];exact⟨rfl,hm⟩
def JE (scope:Fv)(C:Af):Ab (Au × Af):=Gw (C+1) scope.names []
def gU (X:Cx)(scope:Fv)(C:Af):Ab (Au × Af):=Gw (C+1) scope.names (uD X.env.cells scope.names [])
theorem vZ:∀ (names:Ab (Au × Ha)) (lo:Ah) (acc:Ab (Au × Af)),Gw lo names acc=Gw lo names [] ++ acc
 |[],_,_=>rfl
 |(n,k)::r,lo,acc=>by
  unfold Gw
  split
  ·rw[vZ r _ ((n,lo)::acc),vZ r _ [(n,lo)],Ej];rfl
  ·exact vZ r lo acc
set_option tactic.hygienic true in
theorem pU:∀ (names:Ab (Au × Ha)) (lo:Ah) {n:Au} {c:Af},(n,c)∈Gw lo names [] → (n,Mj)∈names
 |[],_,_,_,h=>by cases h
 |(n0,k)::r,lo,n,c,h=>by
  unfold Gw at h
  split at h
  ·rename_i hk
   rw[vZ] at h;rcases Cu.mp h with h|h
   ·exact Bl _ (pU r _ h)
   ·have e:(n,c)=(n0,lo):=by simpa using h
    cases e;have:k=Mj:=by simpa using hk
    rw[this];exact Cs
  ·exact Bl _ (pU r _ h)
theorem wI (S:CompSc X.env.scope X.N scope N' cap)(ok:X.Ok){C:Af}{x:Au}{c:Af}(h:(gU X scope C).lookup x=Aa c):((x,c)∈JE scope C∧scope.names.lookup x=Aa .cell)∨(X.env.cells.lookup x=Aa c∧(x,Gx)∈scope.names):=by
 unfold gU at h;rw[vZ,Vc] at h;cases q:(Gw (C+1) scope.names []).lookup x with
 |some c' =>
  rw[q] at h;cases h;have m:=Fx q;exact .inl ⟨m,S.cel _ (pU _ _ m) rfl⟩
 |none =>
  rw[q] at h;exact .inr (X6 S ok h)
theorem eG (S:CompSc X.env.scope X.N scope N' cap)(ok:X.Ok){C:Af}{x:Au}(h:scope.names.lookup x=Aa .cell∨scope.names.lookup x=Aa .free):∃ c,(gU X scope C).lookup x=Aa c:=by
 unfold gU;rw[vZ,Vc];rcases h with h|h
 ·have:=Jb scope.names (C+1) [] (x:=x) (.inl h)
  obtain⟨c,hc⟩:=Pu.mp this;exact⟨c,by rw[hc];rfl⟩
 ·obtain⟨c',hc'⟩:=dM (cells:=X.env.cells) scope.names [] (.inl (Fx h))
  rw[hc'];cases (Gw (C+1) scope.names []).lookup x with
  |none=>exact⟨c',rfl⟩
  |some c=>exact⟨c,rfl⟩
theorem PV {C:Af}(S:CompSc X.env.scope X.N scope N' cap)(I2:Inv X pins σ H2 s2)(hf:∀ b∈fp,wM X pins H2 b)(hlt:∀ b∈fp,b<s2.heap.objs.size)(hC:s2.heap.objs.size≤C){h1:Bi}(co:CellsOk h1 (C+1) (JE scope C)) :
  (zF X N' scope (gU X scope C) C fp s2 H2).Ok where
 mod:=I2.ok.mod
 kind:=S.kind
 glob:=I2.ok.glob
 blt:=I2.ok.blt
 above:=hC
 inj:=fun x y c h1 h2=>by
  rcases wI S I2.ok h1 with⟨m1,_⟩|⟨m1,_⟩ <;> rcases wI S I2.ok h2 with⟨m2,_⟩|⟨m2,_⟩
  ·exact PySem.name_of_addr co.apart m1 m2
  ·obtain⟨v,ob,hob,_⟩:=I2.cell y c m2
   exact absurd (Bm (Ax hob) hC) (Hy.mpr (Gm (co.empty x c m1).2))
  ·obtain⟨v,ob,hob,_⟩:=I2.cell x c m1
   exact absurd (Bm (Ax hob) hC) (Hy.mpr (Gm (co.empty y c m2).2))
  ·exact I2.ok.inj x y c m1 m2
 has:=fun x hx=>by
  have hx':(relabel scope X.env).names.lookup x=Aa .cell∨(relabel scope X.env).names.lookup x=Aa .free:=hx;refine eG S I2.ok ?_;rcases hx' with h|h
  ·rcases gX S h with h|⟨_,h⟩
   ·exact .inl h
   ·exact .inr h
  ·rcases gX S h with h|⟨z,_⟩
   ·exact .inr h
   ·cases z
 cab:=fun x c h h2=>by
  have hx:scope.names.lookup x=Aa .cell:=Bw h;rcases wI S I2.ok h2 with⟨m,_⟩|⟨_,m⟩
  ·exact Dy hC (Gm (co.empty x c m).2)
  ·have:=S.fr2 _ m rfl
   have this':scope.names.lookup x=Aa .free:=this;rw[hx] at this';cases this'
 hd:=I2.ok.hd
 frames:=I2.ok.frames
 stk:=.inl rfl
 exf:=fun b hb=>⟨Cc (Bm (hlt b hb) hC),fun x c h=>by
  rcases wI S I2.ok h with⟨m,_⟩|⟨m,_⟩
  ·exact Ea (Cc (Le (Bm (hlt b hb) hC) (co.empty x c m).2))
  ·exact(hf b hb).2.2.2.2.1 x c m⟩
 bs:=I2.bs
 bsz:=Dy I2.ok.bsz I2.sz
 noex:=fun b o e hb=>by
  obtain⟨_,_,_,h,_⟩:=hf b hb;rcases h with h|h
  ·exact I2.ok.noex b o e h
  ·exact absurd (Bm (Ax e) (Dy I2.ok.bsz h)) (DL _)
 exfs:=fun b hb hb2=>by
  obtain⟨_,h1,h2,_⟩:=hf b hb;rcases Av.mp (I2.stkSub b hb2) with z|z
  ·exact h1 z
  ·exact h2 z
 funs:=I2.stack
 frf:=I2.stkFree
theorem VO {s4:Ag}{C:Af}{m:Au→Am Ac}(S:CompSc X.env.scope X.N scope N' cap)(I2:Inv X pins σ H2 s2)(hf:∀ b∈fp,wM X pins H2 b)(hlt:∀ b∈fp,b<s2.heap.objs.size)(hC:s2.heap.objs.size≤C)
  (hn:s4.heap.Ns C m) (os:s4.os=s2.os) (gens:s4.gens=s2.gens) (keep:∀ b o,s2.heap.get? b=Aa o→s4.heap.get? b=Aa o) (co:CellsOk s4.heap (C+1) (JE scope C)) :
  Inv (zF X N' scope (gU X scope C) C fp s2 H2) [] (uP cap σ) H2 s4 where
 ok:=PV S I2 hf hlt hC co
 os:=os
 bare:=gens▸I2.bare
 base:=Un.kept keep
 loc:=by
  refine⟨m,hn,fun j x v h1 h2 h3=>?_⟩;have h1':N'[j]? = Aa x:=h1;unfold uP at h2;rw[Dm] at h2;cases q:cap[j]? with
  |none=>rw[q] at h2;cases h2
  |some o =>
   rw[q] at h2;cases o with
   |none=>cases h2
   |some i =>
    have e':(σ[i]?).join=Aa v:=by simpa using h2
    have hσ:σ[i]? = Aa (Aa v):=by
     cases z:σ[i]? with
     |none=>rw[z] at e';cases e'
     |some w=>rw[z] at e';have:w=Aa v:=e';rw[this]
    have hz:(Aa i,x)∈cap.zip N':=by
     refine List.mem_iff_getElem?.mpr ⟨j,?_⟩;rw[List.getElem?_zip_eq_some];exact⟨q,h1'⟩
    have hc:=Aq.mp S.caps _ hz;simp only[Ay,Jm] at hc;obtain⟨hN,hfr⟩:=hc;have hk:=S.free _ (Fx hfr) rfl;obtain⟨mo,hmo,hl⟩:=I2.loc;have vis:Vis X.env.scope x:=by
     rcases hk with k|k
     ·exact .inr (.inl k)
     ·exact .inr (.inr k)
    obtain⟨u,ru,lk⟩:=hl i x v hN hσ vis;refine⟨u,ru,?_⟩;rcases lk with⟨kl,_⟩|⟨_,c,hcl,hcell⟩
    ·have kl':X.env.scope.names.lookup x=Aa .local:=kl
     rcases hk with k|k
     ·have k':X.env.scope.names.lookup x=Aa .cell:=k
      rw[kl'] at k';cases k'
     ·have k':X.env.scope.names.lookup x=Aa .free:=k
      rw[kl'] at k';cases k'
    ·obtain⟨c',hc'⟩:=eG S I2.ok (C:=C) (.inr hfr)
     have e2:X.env.cells.lookup x=Aa c':=by
      rcases wI S I2.ok hc' with⟨_,z⟩|⟨z,_⟩
      ·rw[hfr] at z;cases z
      ·exact z
     rw[hcl] at e2;cases e2;refine .inr ⟨?_,c,hc',?_⟩
     ·have h3':Vis (relabel scope X.env) x:=h3
      rcases h3' with h|h|h
      ·rcases gX S h with h|⟨z,_⟩
       ·rw[hfr] at h;cases h
       ·cases z
      ·exact .inl h
      ·exact .inr h
     ·obtain⟨ob,hob,hd⟩:=hcell
      exact⟨ob,keep c ob hob,hd⟩
 cell:=fun x c h=>by
  rcases wI S I2.ok h with⟨m,_⟩|⟨m,_⟩
  ·exact⟨none,(co.empty x c m).1⟩
  ·obtain⟨v,ob,hob,hd⟩:=I2.cell x c m
   exact⟨v,ob,keep c ob hob,hd⟩
 free:=I2.hok.fresh hC
 freeC:=fun x c h=>by
  rcases wI S I2.ok h with⟨m,_⟩|⟨m,_⟩
  ·exact I2.hok.fresh (Dy hC (Gm (co.empty x c m).2))
  ·exact I2.freeC x c m
 pin:=fun p hp=>absurd (show p∈([]:Ab (Af × Co)) from hp) (by simp)
 hok:=I2.hok.kept keep
 len:=by
  show (uP cap σ).length=N'.length;simp[uP,S.len]
end
theorem XY {P:Bh}{w:Bv}{H:Hp}{h:Bi}{a:Af}{o:HO}(x:HOk P w H h)(hn:H a=none)(new:zR P w (upd H a o) h a o):HOk P w (upd H a o) h:=fun b u e=>by
 by_cases hb:b=a
 ·subst hb;rw[zQ] at e;cases e;exact new
 ·rw[qP hb] at e
  exact(x b u e).stay (fun c v _ q=>q) (fun c q=>by rw[qP (zL q hn)];exact q) fun c xs q=>by rw[qP (zL q hn)];exact q
theorem XX {P:Bh}{w:Bv}{H:Hp}{h h':Bi}{C:Af}(x:HOk P w H h)(hn:H C=none)(k:∀ b o,b≠C→h.get? b=Aa o→h'.get? b=Aa o):HOk P w H h':=fun b u e =>
 (x b u e).stay (fun c v hc q=>k c v (by
  rintro rfl;rcases hc with z|z
  ·subst z;rw[hn] at e;cases e
  ·rw[hn] at z;cases z) q) (fun _ q=>q) fun _ _ q=>q
section
variable {X:Cx}{elt tg iter:Bq}{ifs:Ab Bq}{scope:Fv}{pos:Ez}{N':Ab Au}{cap:Ab (Am Ah)}{fi:DI}{g:DG}{t:DT}{fe:DE}
def bO (X:Cx)(pins:Ab (Af × Co))(σ : _L.St)(P1:Hp)(α1:Ab Af)(ds:Ab D)(SF:Sto)(acc C:Af)(s:Ag):Prop:=
 ∃ (H' P':Hp) (α' : Ab Af) (vs:Ab V),Inv X pins σ (upd H' acc (.lst vs)) s∧Rel X.K H' P' α' SF∧H' acc=none∧qH P1 P'∧α1<+:α'∧qF X.K P' α' ds vs∧H' C=none
theorem VN {Y:Cx}{pins:Ab (Af × Co)}{σ σ':_L.St}{H2:Hp}{s2 s':Ag}{fp:Ab Af}{acc C:Af}{P1:Hp}{α1:Ab Af}{H' P':Hp}{α' : Ab Af}{envF:qD}{SF:Sto}{ds:Ab D}{o:Co}{cl:Ab (Au × Af)}(I2:Inv X pins σ H2 s2)
  (hf:∀ b∈fp,wM X pins H2 b) (hY:Y=zF X N' scope cl C fp s2 H2) (hC:s2.heap.objs.size≤C) (hA:s2.heap.objs.size≤acc) (hne:acc≠C) (st:TurnSt Y [] P1 α1 fp acc envF SF ds s' σ' H' P' α' o)
  {h':Bi} (sb:Gs C s'.heap h'):bO X pins σ P1 α1 ds SF acc C { s' with heap:=h' }:=by
 subst hY;obtain⟨its,n,vs,rfl,rv,rp,hz⟩:=st.acc;have kC:∀ b o,b≠C→s'.heap.get? b=Aa o→h'.get? b=Aa o:=fun b o hb e=>(sb.2 b hb).trans e;have nC:∀ b o,s2.heap.get? b=Aa o→b≠C:=fun b o e=>Cc (Bm (Ax e) hC);have nA:∀ b o,s2.heap.get? b=Aa o→b≠acc:=fun b o e=>Cc (Bm (Ax e) hA);have base:Un (frs X.stack) fp H2 H' s2.heap s'.heap:=st.inv.base;have nt:∀ b u,H' b=Aa u→b≠acc:=fun b u e=>zL e st.acn;have un:Un (frs X.stack) fp H2 (upd H' acc (.lst vs)) s2.heap h':=by
  refine⟨fun b ob q hn hb hx=>kC b ob (nC b ob q) (base.keep b ob q hn hb hx),fun b ob q hn hb hx=>?_,fun b ob q hn hx=>?_,fun b ob q hx=>?_,fun b xs q=>?_,fun b ob u q=>?_,fun b ps q=>?_⟩
  ·obtain⟨sl,e⟩:=base.slot b ob q hn hb hx
   exact⟨sl,kC b _ (nC b ob q) e⟩
  ·rw[qP (nA b ob q)];exact base.free b ob q hn hx
  ·obtain⟨o',e⟩:=base.there b ob q hx
   exact⟨o',kC b o' (nC b ob q) e⟩
  ·have:=base.tups b xs q;rw[qP (nt _ _ this)];exact this
  ·have:=base.frzs b ob u q;rw[qP (nt _ _ this)];exact this
  ·obtain⟨more,e⟩:=base.tbls b ps q
   exact⟨more,by rw[qP (nt _ _ e)];exact e⟩
 have hok':HOk X.prog X.w H' h':=XX st.inv.hok st.inv.free kC;have hat:h'.get? acc=Aa { cls:=.type "list",data:=.seq its.toArray n }:=kC acc _ hne st.at';have hok:HOk X.prog X.w (upd H' acc (.lst vs)) h':=XY hok' st.acn ⟨by rw[← rp.length,← xT];exact hz,its,n,rv,hat⟩
 refine⟨H',P',α',vs,?_,st.rel,st.acn,st.same,st.pre,rp,st.inv.free⟩;exact I2.call' (s':={ s' with heap:=h' }) (ch:=fp) (st.inv.os) un hok st.inv.bare fun b hb=>by
  obtain⟨_,h1,h2,h3,h4,h5⟩:=hf b hb;exact⟨h3,h1,h4,h5⟩
theorem i9 (S:CompSc X.env.scope X.N scope N' cap)(ok:X.Ok):Yi scope X.env=pure (uD X.env.cells scope.names []):=sY fun y hy hk=>ok.has y.1 (S.free y hy hk)
theorem BI {pins:Ab (Af × Co)}{σ : _L.St}{P1:Hp}{α1:Ab Af}{ds:Ab D}{SF:Sto}{acc C:Af}{s:Ag}{Q:VK}(c:bO X pins σ P1 α1 ds SF acc C s)(ok:OkV X P1 α1 Q (.lst ds) SF):EP X pins σ Q (.ref acc) s:=by
 obtain⟨H',P',α',vs,I,r,hn,e1,e2,rp,_⟩:=c;exact⟨.ref acc,_,I,rfl,vU r hn rp fun v H2 P2 α2 r2 q1 q2 q3=>ok v H2 P2 α2 r2 (e1.trans q1) (e2.trans q2) q3⟩
end
end _D
section
namespace _D
open PySem PySem.Spec PyProof.Rows _L PySem.SeqAt
def b01 (b:As):Aj:=if b then 1 else 0
mutual
def eqD:D→D→As
 |.non,.non=>true
 |.bl a,.bl b=>a == b
 |.bl a,.int b=>b01 a == b
 |.int a,.bl b=>a == b01 b
 |.int a,.int b=>a == b
 |.str a,.str b=>a == b
 |.tup xs,.tup ys=>xI xs ys
 |.lst xs,.lst ys=>xI xs ys
 |_,_=>false
def xI:Ab D→Ab D→As
 |[],[]=>true
 |x::xs,y::ys=>eqD x y&&xI xs ys
 |_,_=>false
end
def pl:Ah→D→As
 |_,.non=>true
 |_,.bl _=>true
 |_,.int _=>true
 |_,.str _=>true
 |n+1,.tup xs=>xs.all (pl n)
 |n+1,.lst xs=>xs.all (pl n)
 |_,_=>false
theorem b0 (x y:D)(xs ys:Ab D):xI (x::xs) (y::ys)=(eqD x y&&xI xs ys):=rfl
theorem yX:∀ (xs ys:Ab D),xI xs ys=((Cy (min xs.length ys.length)).all (fun j=>eqD (xs.getD j .non) (ys.getD j .non))&&xs.length == ys.length)
 |[],[]=>rfl
 |[],y::ys=>rfl
 |x::xs,[]=>rfl
 |x::xs,y::ys=>by
  have ih:=yX xs ys;rw[b0,ih,Ci,Ci,Nat.succ_min_succ,Ly,Mk,Ir,Bool.and_assoc];have e:(xs.length+1 == ys.length+1)=(xs.length == ys.length):=by simp
  rw[e];rfl
theorem U9 {xs ys:Ab D}(h:xs.length≠ys.length):xI xs ys=false:=by
 rw[yX];simp[h]
theorem lB (xs ys:Ab D):eqD (.tup xs) (.tup ys)=xI xs ys:=rfl
theorem lA (xs ys:Ab D):eqD (.lst xs) (.lst ys)=xI xs ys:=rfl
section
variable {X:Cx}{pins:Ab (Af × Co)}{σ : _L.St}{H P:Hp}{α : Ab Af}{S:Sto}{s:Ag}
inductive Kd (X:Cx)(P:Hp)(α : Ab Af)(s:Ag):D→Ac→Prop where
 |non:Kd X P α s .non .none
 |bl (b:As):Kd X P α s (.bl b) (.bool b)
 |int (i:Aj) (t:Sk):Kd X P α s (.int i) (.int i t)
 |str (x:Au) (t:Sk):Kd X P α s (.str x) (.str x t)
 |tup (a:Af) (xs:Ab D) (its:Ab Ac) (vs:Ab V) (rp:qF X.K P α xs vs) (rv:qN vs its) (h:s.heap.IsTuple a its.toArray) (q:SqT X.K P a vs):Kd X P α s (.tup xs) (.ref a)
 |lst (a:Af) (xs:Ab D) (its:Ab Ac) (vs:Ab V) (rp:qF X.K P α xs vs) (rv:qN vs its) (h:s.heap.IsList a its.toArray) (q:SqX X.K P a vs):Kd X P α s (.lst xs) (.ref a)
theorem vP (I:Inv X pins σ H s)(r:Rel X.K H P α S){n:Ah}{d:D}{v:V}{u:Ac}(h:pl n d=true)(p:Rep X.K P α d v)(rv:qI v u):Kd X P α s d u:=by
 cases d with
 |non=>simp only[Rep] at p;subst p;cases rv;exact .non
 |bl b=>simp only[Rep] at p;subst p;cases rv;exact .bl b
 |int i=>simp only[Rep] at p;subst p;obtain⟨t,rfl⟩:=rv;exact .int i t
 |str x=>simp only[Rep] at p;subst p;obtain⟨t,rfl⟩:=rv;exact .str x t
 |tup xs =>
  simp only[Rep] at p;obtain⟨a,vs,rfl,q,t⟩:=p;cases rv;obtain⟨its,r1,p1,_⟩:=I.tuple (wR r.sub q);exact .tup a xs its vs t r1 p1 q
 |lst xs =>
  simp only[Rep] at p;obtain⟨a,vs,rfl,q,t⟩:=p;cases rv;obtain⟨its,r1,p1,_⟩:=I.list ((wC r.sub q).l);exact .lst a xs its vs t r1 p1.isList q
 |_=>cases n <;> exact Cq h
theorem v7 {ds:Ab D}{vs:Ab V}{its:Ab Ac}(rp:qF X.K P α ds vs)(rv:qN vs its){j:Ah}(h:j<its.toArray.size):∃ v,Rep X.K P α (ds.getD j .non) v∧qI v its.toArray[j]∧ds.getD j .non∈ds:=by
 have l1:=rp.length;have l2:=rv.length;have hj:j<its.length:=by simpa using h
 have hd:j<ds.length:=by omega
 obtain⟨v,e1,p⟩:=rp.get (An hd);obtain⟨u,e2,q⟩:=rv.get e1;have e3:its.toArray[j]=u:=by
  have:its[j]? = Aa its[j]:=An hj;rw[this] at e2;simpa using Cp e2
 have e4:ds.getD j .non=ds[j]:=by simp[Gg,hd]
 rw[e3,e4];exact⟨v,p,q,Gk hd⟩
theorem y7 {n:Ah}{ds:Ab D}(h:ds.all (pl n)=true){d:D}(hd:d∈ds):pl n d=true:=Aq.mp h d hd
theorem lG {h:Bi}{a:Af}{xs ys:Bk Ac}(h1:h.IsTuple a xs)(h2:h.IsTuple a ys):xs=ys:=by
 obtain⟨o,e,_,n,d⟩:=h1;obtain⟨o',e',_,n',d'⟩:=h2;cases e.symm.trans e';cases d.symm.trans d';rfl
theorem iS {h:Bi}{a:Af}{xs ys:Bk Ac}(h1:h.IsList a xs)(h2:h.IsList a ys):xs=ys:=by
 obtain⟨o,e,_,n,d⟩:=h1;obtain⟨o',e',_,n',d'⟩:=h2;cases e.symm.trans e';cases d.symm.trans d';rfl
theorem QY {h:Bi}{a:Af}{xs ys:Bk Ac}(h1:h.IsTuple a xs)(h2:h.IsList a ys):Fc:=by
 obtain⟨o,e,c,_⟩:=h1;obtain⟨o',e',c',_⟩:=h2;cases e.symm.trans e';exact absurd (c.symm.trans c') (by decide)
inductive Seqs (X:Cx)(P:Hp)(α : Ab Af)(xs ys:Ab D)(its its2:Ab Ac):Prop
 |mk (vs ws:Ab V) (rp:qF X.K P α xs vs) (rv:qN vs its) (rp2:qF X.K P α ys ws) (rv2:qN ws its2):Seqs X P α xs ys its its2
theorem Seqs.len1 {xs ys:Ab D}{its its2:Ab Ac}(q:Seqs X P α xs ys its its2):xs.length=its.length:=by
 obtain⟨vs,ws,rp,rv,_,_⟩:=q;exact rp.length.trans rv.length
theorem Seqs.len2 {xs ys:Ab D}{its its2:Ab Ac}(q:Seqs X P α xs ys its its2):ys.length=its2.length:=by
 obtain⟨vs,ws,_,_,rp,rv⟩:=q;exact rp.length.trans rv.length
inductive SameR (X:Cx)(P:Hp)(α : Ab Af):D→D→Prop
 |eq {d d':D} (h:eqD d d'=true):SameR X P α d d'
 |tt (xs ys:Ab D) (its:Ab Ac) (q:Seqs X P α xs ys its its):SameR X P α (.tup xs) (.tup ys)
 |ll (xs ys:Ab D) (its:Ab Ac) (q:Seqs X P α xs ys its its):SameR X P α (.lst xs) (.lst ys)
theorem oM {d d':D}{u:Ac}(k1:Kd X P α s d u)(k2:Kd X P α s d' u):SameR X P α d d':=by
 cases k1 with
 |non=>cases k2;exact .eq rfl
 |bl b=>cases k2;exact .eq (Ex _)
 |int i t=>cases k2;exact .eq (Ex _)
 |str x t=>cases k2;exact .eq (Ex _)
 |tup a xs its vs rp rv h q =>
  cases k2 with
  |tup _ ys its2 ws rp2 rv2 h2 q2 =>
   cases lG h h2;exact .tt xs ys its ⟨vs,ws,rp,rv,rp2,rv2⟩
  |lst _ ys its2 ws rp2 rv2 h2 q2=>exact(QY h h2).elim
 |lst a xs its vs rp rv h q =>
  cases k2 with
  |lst _ ys its2 ws rp2 rv2 h2 q2 =>
   cases iS h h2;exact .ll xs ys its ⟨vs,ws,rp,rv,rp2,rv2⟩
  |tup _ ys its2 ws rp2 rv2 h2 q2=>exact(QY h2 h).elim
theorem dQ (I:Inv X pins σ H s)(r:Rel X.K H P α S){m:Ah}(ih:∀ (d d':D) (u:Ac),pl m d=true→pl m d'=true→Kd X P α s d u→Kd X P α s d' u→eqD d d'=true){xs ys:Ab D}{its:Ab Ac}(h1:xs.all (pl m)=true)(h2:ys.all (pl m)=true)(q:Seqs X P α xs ys its its):xI xs ys=true:=by
 obtain⟨vs,ws,rp,rv,rp2,rv2⟩:=q;have l1:=rp.length.trans rv.length;have l2:=rp2.length.trans rv2.length;rw[yX,l1,l2,Qu,Ay];refine⟨Aq.mpr fun j hj=>?_,Zb⟩;have hj:j<its.toArray.size:=Eg.mp hj;obtain⟨w1,y1,z1,m1⟩:=v7 rp rv hj;obtain⟨w2,y2,z2,m2⟩:=v7 rp2 rv2 hj;exact ih _ _ _ (y7 h1 m1) (y7 h2 m2) (vP I r (y7 h1 m1) y1 z1) (vP I r (y7 h2 m2) y2 z2)
theorem iI (I:Inv X pins σ H s)(r:Rel X.K H P α S):∀ (n:Ah) (d d':D) (u:Ac),pl n d=true→pl n d'=true→Kd X P α s d u→Kd X P α s d' u→eqD d d'=true:=by
 intro n
 induction n with
 |zero =>
  intro d d' u h1 h2 k1 k2;cases oM k1 k2 with
  |eq h=>exact h
  |tt=>exact Cq h1
  |ll=>exact Cq h1
 |succ m ih =>
  intro d d' u h1 h2 k1 k2;cases oM k1 k2 with
  |eq h=>exact h
  |tt xs ys its q=>exact(lB xs ys).trans (dQ I r ih h1 h2 q)
  |ll xs ys its q=>exact(lA xs ys).trans (dQ I r ih h1 h2 q)
structure E3 (A:Bo)(s:Ag)(u u':Ac)(b:As):Prop where
 eq:Yj A s u u' b
 rc:RcAt A s u u' b
 ne:RcNeAt A s u u' (!b)
inductive EqR (X:Cx)(P:Hp)(α : Ab Af)(A:Bo)(s:Ag):D→D→Ac→Ac→Prop
 |of {d d':D} {u u':Ac} (b:As) (e:eqD d d'=b) (h:E3 A s u u' b):EqR X P α A s d d' u u'
 |tt (a b:Af) (xs ys:Ab D) (its its2:Ab Ac) (ha:s.heap.IsTuple a its.toArray) (hb:s.heap.IsTuple b its2.toArray) (q:Seqs X P α xs ys its its2):EqR X P α A s (.tup xs) (.tup ys) (.ref a) (.ref b)
 |ll (a b:Af) (xs ys:Ab D) (its its2:Ab Ac) (ha:s.heap.IsList a its.toArray) (hb:s.heap.IsList b its2.toArray) (q:Seqs X P α xs ys its its2):EqR X P α A s (.lst xs) (.lst ys) (.ref a) (.ref b)
theorem KR {A:Bo}{d d':D}{u u':Ac}(hu:A.units<Ds)(k1:Kd X P α s d u)(k2:Kd X P α s d' u'):EqR X P α A s d d' u u':=by
 cases k1 with
 |non  =>
  cases k2 with
  |non  => exact .of _ rfl ⟨Zc _,RcAt.none_none,RcNeAt.none_none⟩
  |bl b=>exact .of _ rfl ⟨EqAt.none_bool b,RcAt.none_bool b,RcNeAt.none_bool b⟩
  |int b tb=>exact .of _ rfl ⟨EqAt.none_int b tb,RcAt.none_int b tb,RcNeAt.none_int b tb⟩
  |str b tb=>exact .of _ rfl ⟨EqAt.none_str b tb,RcAt.none_str b tb,RcNeAt.none_str b tb⟩
  |tup b ys its2 ws rp2 rv2 hb qb=>exact .of _ rfl ⟨EqAt.none_tuple hb hu,RcAt.none_tuple hb hu,RcNeAt.none_tuple hb hu⟩
  |lst b ys its2 ws rp2 rv2 hb qb=>exact .of _ rfl ⟨EqAt.none_list hb hu,RcAt.none_list hb hu,RcNeAt.none_list hb hu⟩
 |bl a =>
  cases k2 with
  |non  => exact .of _ rfl ⟨EqAt.bool_none a,RcAt.bool_none a,RcNeAt.bool_none a⟩
  |bl b=>exact .of _ rfl ⟨EqAt.bool_bool a b,RcAt.bool_bool a b,RcNeAt.bool_bool a b⟩
  |int b tb=>exact .of _ rfl ⟨EqAt.bool_int a b tb,RcAt.bool_int a b tb,RcNeAt.bool_int a b tb⟩
  |str b tb=>exact .of _ rfl ⟨EqAt.bool_str a b tb,RcAt.bool_str a b tb,RcNeAt.bool_str a b tb⟩
  |tup b ys its2 ws rp2 rv2 hb qb=>exact .of _ rfl ⟨EqAt.bool_tuple a hb hu,RcAt.bool_tuple a hb hu,RcNeAt.bool_tuple a hb hu⟩
  |lst b ys its2 ws rp2 rv2 hb qb=>exact .of _ rfl ⟨EqAt.bool_list a hb hu,RcAt.bool_list a hb hu,RcNeAt.bool_list a hb hu⟩
 |int a ta =>
  cases k2 with
  |non  => exact .of _ rfl ⟨EqAt.int_none a ta,RcAt.int_none a ta,RcNeAt.int_none a ta⟩
  |bl b=>exact .of _ rfl ⟨EqAt.int_bool a ta b,RcAt.int_bool a ta b,RcNeAt.int_bool a ta b⟩
  |int b tb=>exact .of _ rfl ⟨Zv a ta b tb,RcAt.int_int a ta b tb,RcNeAt.int_int a ta b tb⟩
  |str b tb=>exact .of _ rfl ⟨EqAt.int_str a ta b tb,RcAt.int_str a ta b tb,RcNeAt.int_str a ta b tb⟩
  |tup b ys its2 ws rp2 rv2 hb qb=>exact .of _ rfl ⟨EqAt.int_tuple a ta hb hu,RcAt.int_tuple a ta hb hu,RcNeAt.int_tuple a ta hb hu⟩
  |lst b ys its2 ws rp2 rv2 hb qb=>exact .of _ rfl ⟨EqAt.int_list a ta hb hu,RcAt.int_list a ta hb hu,RcNeAt.int_list a ta hb hu⟩
 |str a ta =>
  cases k2 with
  |non  => exact .of _ rfl ⟨EqAt.str_none a ta,RcAt.str_none a ta,RcNeAt.str_none a ta⟩
  |bl b=>exact .of _ rfl ⟨EqAt.str_bool a ta b,RcAt.str_bool a ta b,RcNeAt.str_bool a ta b⟩
  |int b tb=>exact .of _ rfl ⟨EqAt.str_int a ta b tb,RcAt.str_int a ta b tb,RcNeAt.str_int a ta b tb⟩
  |str b tb=>exact .of _ rfl ⟨EqAt.str_str a ta b tb,RcAt.str_str a ta b tb,RcNeAt.str_str a ta b tb⟩
  |tup b ys its2 ws rp2 rv2 hb qb=>exact .of _ rfl ⟨EqAt.str_tuple a ta hb hu,RcAt.str_tuple a ta hb hu,RcNeAt.str_tuple a ta hb hu⟩
  |lst b ys its2 ws rp2 rv2 hb qb=>exact .of _ rfl ⟨EqAt.str_list a ta hb hu,RcAt.str_list a ta hb hu,RcNeAt.str_list a ta hb hu⟩
 |tup a xs its vs rp rv ha qa =>
  cases k2 with
  |non  => exact .of _ rfl ⟨EqAt.tuple_none ha hu,RcAt.tuple_none ha hu,RcNeAt.tuple_none ha hu⟩
  |bl b=>exact .of _ rfl ⟨EqAt.tuple_bool b ha hu,RcAt.tuple_bool b ha hu,RcNeAt.tuple_bool b ha hu⟩
  |int b tb=>exact .of _ rfl ⟨EqAt.tuple_int b tb ha hu,RcAt.tuple_int b tb ha hu,RcNeAt.tuple_int b tb ha hu⟩
  |str b tb=>exact .of _ rfl ⟨EqAt.tuple_str b tb ha hu,RcAt.tuple_str b tb ha hu,RcNeAt.tuple_str b tb ha hu⟩
  |tup b ys its2 ws rp2 rv2 hb qb=>exact .tt a b xs ys its its2 ha hb ⟨vs,ws,rp,rv,rp2,rv2⟩
  |lst b ys its2 ws rp2 rv2 hb qb=>exact .of _ rfl ⟨EqAt.tuple_list ha hb hu,RcAt.tuple_list ha hb hu,RcNeAt.tuple_list ha hb hu⟩
 |lst a xs its vs rp rv ha qa =>
  cases k2 with
  |non  => exact .of _ rfl ⟨EqAt.list_none ha hu,RcAt.list_none ha hu,RcNeAt.list_none ha hu⟩
  |bl b=>exact .of _ rfl ⟨EqAt.list_bool b ha hu,RcAt.list_bool b ha hu,RcNeAt.list_bool b ha hu⟩
  |int b tb=>exact .of _ rfl ⟨EqAt.list_int b tb ha hu,RcAt.list_int b tb ha hu,RcNeAt.list_int b tb ha hu⟩
  |str b tb=>exact .of _ rfl ⟨EqAt.list_str b tb ha hu,RcAt.list_str b tb ha hu,RcNeAt.list_str b tb ha hu⟩
  |tup b ys its2 ws rp2 rv2 hb qb=>exact .of _ rfl ⟨EqAt.list_tuple ha hb hu,RcAt.list_tuple ha hb hu,RcNeAt.list_tuple ha hb hu⟩
  |lst b ys its2 ws rp2 rv2 hb qb=>exact .ll a b xs ys its its2 ha hb ⟨vs,ws,rp,rv,rp2,rv2⟩
theorem E3.cast {A:Bo}{u u':Ac}{b c:As}(e:c=b)(h:E3 A s u u' b):E3 A s u u' c:=e▸h
theorem KS {A:Bo}{a b:Af}{xs ys:Ab D}{its its2:Ab Ac}(hu:A.units<Ds)(ha:s.heap.IsTuple a its.toArray)(hb:s.heap.IsTuple b its2.toArray)(l1:xs.length=its.length)(l2:ys.length=its2.length)
  (sub:∀ j (h1:j<its.toArray.size) (h2:j<its2.toArray.size),Yj A.in1 s its.toArray[j] its2.toArray[j] (eqD (xs.getD j .non) (ys.getD j .non))) (same:a=b→xI xs ys=true):E3 A s (.ref a) (.ref b) (xI xs ys):=by
 have e:xI xs ys=((Cy (min its.toArray.size its2.toArray.size)).all (fun j=>eqD (xs.getD j .non) (ys.getD j .non))&&its.toArray.size == its2.toArray.size):=by rw[yX,l1,l2];rfl
 have R1:=RcAt.tuples ha hb hu sub;have R2:=RcNeAt.tuples ha hb hu sub;rw[← e] at R1 R2;refine⟨?_,R1,R2⟩;by_cases hab:a=b
 ·rw[same hab,hab]
  exact Zc _
 ·exact Zw hab R1
theorem HF {A:Bo}{a b:Af}{xs ys:Ab D}{its its2:Ab Ac}(hu:A.units<Ds)(ha:s.heap.IsList a its.toArray)(hb:s.heap.IsList b its2.toArray)(l1:xs.length=its.length)(l2:ys.length=its2.length)
  (sub:∀ j (h1:j<its.toArray.size) (h2:j<its2.toArray.size),Yj A.in1 s its.toArray[j] its2.toArray[j] (eqD (xs.getD j .non) (ys.getD j .non))) (same:a=b→xI xs ys=true):E3 A s (.ref a) (.ref b) (xI xs ys):=by
 have R:RcAt A s (.ref a) (.ref b) (xI xs ys)∧RcNeAt A s (.ref a) (.ref b) (!xI xs ys):=by
  by_cases hl:its.length=its2.length
  ·have e:xI xs ys=(Cy its.toArray.size).all (fun j=>eqD (xs.getD j .non) (ys.getD j .non)):=by rw[yX,l1,l2,← hl,Qu,Zb,Ud];rfl
   rw[e];exact⟨RcAt.lists ha hb hl hu sub,RcNeAt.lists ha hb hl hu sub⟩
  ·rw[U9 (by rw[l1,l2];exact hl)]
   have hn:(its.toArray.size != its2.toArray.size)=true:=bne_iff_ne.mpr hl;exact⟨RcAt.lists_lengths ha hb hn hu,RcNeAt.lists_lengths ha hb hn hu⟩
 refine⟨?_,R.1,R.2⟩;by_cases hab:a=b
 ·rw[same hab,hab]
  exact Zc _
 ·exact Zw hab R.1
theorem eM (I:Inv X pins σ H s)(r:Rel X.K H P α S):∀ (n:Ah) (A:Bo) (d d':D) (u u':Ac),A.units+n<Ds→pl n d=true→pl n d'=true→Kd X P α s d u→Kd X P α s d' u'→E3 A s u u' (eqD d d'):=by
 intro n
 induction n with
 |zero =>
  intro A d d' u u' hu h1 h2 k1 k2;cases KR hu k1 k2 with
  |of b e h=>exact h.cast e
  |tt=>exact Cq h1
  |ll=>exact Cq h1
 |succ m ih =>
  intro A d d' u u' hu h1 h2 k1 k2;have hu0:A.units<Ds:=Ol (Il _ _) hu;have hu1:A.in1.units+m<Ds:=by show A.units+1+m<Ds;omega
  have sub:∀ {xs ys:Ab D} {its its2:Ab Ac},xs.all (pl m)=true→ys.all (pl m)=true→Seqs X P α xs ys its its2 →
    ∀ j (h1:j<its.toArray.size) (h2:j<its2.toArray.size),Yj A.in1 s its.toArray[j] its2.toArray[j] (eqD (xs.getD j .non) (ys.getD j .non)):=fun {xs ys its its2} a1 a2 ⟨vs,ws,b1,b2,c1,c2⟩ j g1 g2=>by
   obtain⟨w1,y1,z1,m1⟩:=v7 b1 b2 g1;obtain⟨w2,y2,z2,m2⟩:=v7 c1 c2 g2;exact(ih A.in1 _ _ _ _ hu1 (y7 a1 m1) (y7 a2 m2) (vP I r (y7 a1 m1) y1 z1) (vP I r (y7 a2 m2) y2 z2)).eq
  cases KR hu0 k1 k2 with
  |of b e h=>exact h.cast e
  |tt a b xs ys its its2 ha hb q=>exact(KS hu0 ha hb q.len1 q.len2 (sub h1 h2 q) fun e=>by subst e;exact(lB xs ys).symm.trans (iI I r (m+1) _ _ _ h1 h2 k1 k2)).cast (lB xs ys)
  |ll a b xs ys its its2 ha hb q=>exact(HF hu0 ha hb q.len1 q.len2 (sub h1 h2 q) fun e=>by subst e;exact(lA xs ys).symm.trans (iI I r (m+1) _ _ _ h1 h2 k1 k2)).cast (lA xs ys)
def zZ:Ah:=30
def gEq:G2:=fun a b S=>if pl zZ a&&pl zZ b then .ok (.bl (eqD a b)) S else .bad
def gNe:G2:=fun a b S=>if pl zZ a&&pl zZ b then .ok (.bl (!eqD a b)) S else .bad
set_option tactic.hygienic true in
theorem HZ (hu:X.A.units+64<Ds):OpD X (Cw .Eq) gEq:=by
 intro pins σ H s P α S v u vv uu a b Q I r rv ru pa pb af;unfold gEq at af
 split at af
 ·rename_i h
  rw[Ay] at h;exact(eM I r zZ X.A a b vv uu (by unfold zZ;omega) h.1 h.2 (vP I r h.1 pa rv) (vP I r h.2 pb ru)).rc _ _ _ _ ⟨.bl _,H,I,rfl,xr af r (by simp only[Rep])⟩
 ·exact Ao af
set_option tactic.hygienic true in
theorem CF (hu:X.A.units+64<Ds):OpD X (Cw .NotEq) gNe:=by
 intro pins σ H s P α S v u vv uu a b Q I r rv ru pa pb af;unfold gNe at af
 split at af
 ·rename_i h
  rw[Ay] at h;exact(eM I r zZ X.A a b vv uu (by unfold zZ;omega) h.1 h.2 (vP I r h.1 pa rv) (vP I r h.2 pb ru)).ne _ _ _ _ ⟨.bl _,H,I,rfl,xr af r (by simp only[Rep])⟩
 ·exact Ao af
end
end _D
end
namespace _D
open PySem PySem.Spec PyProof.Rows _L
section
variable {X:Cx}
def i2 (C:Aj→Aj→As)(f:Aj→Aj→D):G2:=fun a b S=>match a,b with
 |.int i,.int j=>if C i j then .ok (f i j) S else .bad
 |_,_=>.bad
theorem QU {C:Aj→Aj→As}{f:Aj→Aj→D}{a b:D}{S:Sto}{P:Hp}{α : Ab Af}{Ok:D→Sto→Prop}(h:qJ X P α (i2 C f a b S) Ok):∃ i j,a=.int i∧b=.int j∧C i j=true∧Ok (f i j) S:=by
 cases a with
 |int i =>
  cases b with
  |int j =>
   obtain⟨hc,h⟩:=vN (X:=X) h;exact⟨i,j,rfl,rfl,hc,h⟩
  |_=>exact Ao h
 |_=>exact Ao h
theorem w8 {P:Hp}{α : Ab Af}{i:Aj}{v:V}(r:Rep X.K P α (.int i) v):v=.int i:=by simpa only [Rep] using r
theorem n9 {f:Ac→Ac→Mp Ac}{C':Aj→Aj→Prop}{v:Aj→Aj→V}{C:Aj→Aj→As}{d:Aj→Aj→D}(h:OpR X f (rI C' v))(hC:∀ i j,C i j=true→C' i j)(hv:∀ P α i j,Rep X.K P α (d i j) (v i j)):OpD X f (i2 C d):=
 OpD.of h fun H P α S x y a b Q r p1 p2 af=>by
  obtain⟨i,j,rfl,rfl,hc,ok⟩:=QU af;exact⟨i,j,w8 p1,w8 p2,hC i j hc,xr ok r (hv P α i j)⟩
theorem bF {f:Ac→Ac→Mp Ac}{v:Aj→Aj→V}{d:Aj→Aj→D}(h:OpR X f (rI0 v))(hv:∀ P α i j,Rep X.K P α (d i j) (v i j)):OpD X f (i2 (fun _ _=>true) d):=
 OpD.of h fun H P α S x y a b Q r p1 p2 af=>by
  obtain⟨i,j,rfl,rfl,_,ok⟩:=QU af;exact⟨i,j,w8 p1,w8 p2,xr ok r (hv P α i j)⟩
def xA:G2:=i2 (fun _ _=>true) fun i j=>.int (i-j)
theorem SD:OpD X (Eo .Sub) xA:=bF SQ fun P α i j=>by simp only[Rep]
def rY (i j:Aj):As:=decide (-(2 ^ 64)<i∧i<2 ^ 64)||decide (-(2 ^ 64)<j∧j<2 ^ 64)
theorem FM:OpD X (Eo .Mult) (i2 rY fun i j=>.int (i*j)):=n9 SN (fun i j h=>by
 unfold rY at h;rw[Ru] at h;rcases h with h|h
 ·exact .inl (Bw h)
 ·exact .inr (Bw h)) fun P α i j=>by simp only[Rep]
def N4 (i j:Aj):As:=decide (0<j∧j<1073741824)
def yZ:G2:=i2 N4 fun i j=>.int (i/j)
theorem S9:OpD X (Eo .FloorDiv) yZ:=n9 FR (fun i j h=>(Bw h:0<j∧j<1073741824)) fun P α i j=>by simp only[Rep]
def vT:G2:=i2 (fun _ j=>decide (0<j)) fun i j=>.int (i % j)
theorem SB:OpD X (Eo .Mod) vT:=n9 SM (fun i j h=>Bw h) fun P α i j=>by simp only[Rep]
def N5 (i j:Aj):As:=decide (0≤j∧j≤1000000∧i.natAbs<2 ^ 64)
def uZ:G2:=i2 N5 fun i j=>.int (i ^ j.toNat)
theorem SC:OpD X (Eo .Pow) uZ:=n9 SO (fun i j h=>(Bw h:0≤j∧j≤1000000∧i.natAbs<2 ^ 64)) fun P α i j=>by simp only[Rep]
def gLt:G2:=i2 (fun _ _=>true) fun i j=>.bl (decide (i<j))
def gLe:G2:=i2 (fun _ _=>true) fun i j=>.bl (decide (i≤j))
def gGt:G2:=i2 (fun _ _=>true) fun i j=>.bl (decide (j<i))
def gGe:G2:=i2 (fun _ _=>true) fun i j=>.bl (decide (j≤i))
theorem GG:OpD X (Cw .Lt) gLt:=bF CJ fun P α i j=>by simp only[Rep]
theorem CD:OpD X (Cw .LtE) gLe:=bF CI fun P α i j=>by simp only[Rep]
theorem CB:OpD X (Cw .Gt) gGt:=bF CH fun P α i j=>by simp only[Rep]
theorem CA:OpD X (Cw .GtE) gGe:=bF CG fun P α i j=>by simp only[Rep]
def yJ:D→Sto→Res D:=fun a S=>match a with
 |.int i=>.ok (.int (-i)) S
 |_=>.bad
theorem EG:UnD X (Wt .USub) yJ:=by
 intro pins σ H s P α S v vv a Q I r rv p af;cases a with
 |int i=>exact EH pins s σ H v vv Q I rv ⟨i,w8 p,xr af r (by simp only[Rep])⟩
 |_=>exact Ao af
def gIs:G2:=fun a b S=>match b with
 |.non=>match a with
  |.non=>.ok (.bl true) S
  |_=>.ok (.bl false) S
 |_=>.bad
theorem FK {P:Hp}{α : Ab Af}{d:D}{v:V}(r:Rep X.K P α d v):decide (v=.non)=(match d with|.non=>true|_=>false):=by
 cases d <;> simp only[Rep] at r
 case non=>subst r;rfl
 case bl=>subst r;rfl
 case int=>subst r;rfl
 case str=>subst r;rfl
 case ty=>subst r;rfl
 case obj=>obtain⟨rfl,_⟩:=r;rfl
 case tup=>obtain⟨a,vs,rfl,_⟩:=r;rfl
 case lst=>obtain⟨a,vs,rfl,_⟩:=r;rfl
 case dct0=>obtain⟨a,rfl,_⟩:=r;rfl
 case loc=>obtain⟨a,rfl,_⟩:=r;rfl
 case exn=>obtain⟨a,rfl,_⟩:=r;rfl
 case fd=>obtain⟨a,o,vs,rfl,_⟩:=r;rfl
theorem CC:OpD X (Cw .Is) gIs:=OpD.of SL fun H P α S x y a b Q r p1 p2 af=>by
 cases b with
 |non =>
  simp only[Rep] at p2;refine⟨p2,?_⟩;rw[FK p1];cases a <;> exact xr af r (by simp only[Rep])
 |_=>exact Ao af
def qR:G2:=fun a b S=>match a,b with
 |.int i,.int j=>.ok (.int (i+j)) S
 |.str x,.str y=>if x.length+y.length≤lim then .ok (.str (x++y)) S else .bad
 |.tup xs,.tup ys=>if xs.length+ys.length≤lim then .ok (.tup (xs++ys)) S else .bad
 |.lst xs,.lst ys=>if xs.length+ys.length≤lim then .ok (.lst (xs++ys)) S else .bad
 |_,_=>.bad
theorem uR {pins:Ab (Af × Co)}{σ : _L.St}{H P:Hp}{α : Ab Af}{S:Sto}{s:Ag}{xs:Ab D}{v:V}(I:Inv X pins σ H s)(r:Rel X.K H P α S)(p:Rep X.K P α (.tup xs) v) :
  ∃ a vs its,v=.ref a∧SqT X.K P a vs∧qF X.K P α xs vs∧qN vs its∧Nt s.heap a its.toArray∧xs.length=its.length∧xs.length≤lim:=by
 simp only[Rep] at p;obtain⟨a,vs,rfl,q,t⟩:=p;obtain⟨its,rv,p1,z⟩:=I.tuple (wR r.sub q);exact⟨a,vs,its,rfl,q,t,rv,p1,by rw[t.length,rv.length],by rw[t.length,xT];exact z⟩
theorem uH {pins:Ab (Af × Co)}{σ : _L.St}{H P:Hp}{α : Ab Af}{S:Sto}{s:Ag}{xs:Ab D}{v:V}(I:Inv X pins σ H s)(r:Rel X.K H P α S)(p:Rep X.K P α (.lst xs) v) :
  ∃ a vs its n,v=.ref a∧SqX X.K P a vs∧qF X.K P α xs vs∧qN vs its∧s.heap.get? a=Aa { cls:=.type "list",data:=.seq its.toArray n } ∧ xs.length=its.length∧xs.length≤lim:=by
 simp only[Rep] at p;obtain⟨a,vs,rfl,q,t⟩:=p;have:∃ its n,qN vs its∧s.heap.get? a=Aa { cls:=.type "list",data:=.seq its.toArray n } ∧ vs.length≤sizeLine:=by
  rcases q with q|⟨its,n,e,z,rv⟩
  ·obtain⟨z,its,n,rv,e⟩:=(oG r.sub q).ok I.hok
   exact⟨its,n,rv,e,z⟩
  ·exact⟨its,n,rv,I.kIn _ _ e,z⟩
 obtain⟨its,n,rv,e,z⟩:=this;exact⟨a,vs,its,n,rfl,q,t,rv,e,by rw[t.length,rv.length],by rw[t.length,xT];exact z⟩
theorem hZ {pins:Ab (Af × Co)}{σ : _L.St}{H P:Hp}{α : Ab Af}{S:Sto}{s:Ag}{xs:Ab D}{vs:Ab V}{its:Ab Ac}{Q:VK}(I:Inv X pins σ H s)(r:Rel X.K H P α S)(t:qF X.K P α xs vs)(rv:qN vs its)(hz:xs.length≤lim)
  (ok:OkV X P α Q (.tup xs) S):EP X pins σ Q (.ref s.heap.objs.size) { s with heap:=s.heap.push { cls:=.type "tuple",data:=.seq its.toArray } }:=by
 refine⟨.ref s.heap.objs.size,_,I.laid (t':=s.toks) (o:=.tup vs) (fun b ob q=>Ai _ q) (Bd _) ⟨by rw[← t.length,← xT];exact hz,its,rv,Vv _ _⟩,rfl,pE r (I.hok.fresh (Bd _)) t ok⟩
theorem hW {pins:Ab (Af × Co)}{σ : _L.St}{H P:Hp}{α : Ab Af}{S:Sto}{s:Ag}{xs:Ab D}{vs:Ab V}{its:Ab Ac}{Q:VK}(I:Inv X pins σ H s)(r:Rel X.K H P α S)(t:qF X.K P α xs vs)(rv:qN vs its)(hz:xs.length≤lim)
  (ok:OkV X P α Q (.lst xs) S):EP X pins σ Q (.ref s.heap.objs.size) { s with heap:=s.heap.push { cls:=.type "list",data:=.seq its.toArray } }:=by
 refine⟨.ref s.heap.objs.size,_,I.laid (t':=s.toks) (o:=.lst vs) (fun b ob q=>Ai _ q) (Bd _) ⟨by rw[← t.length,← xT];exact hz,its,0,rv,Az _ rfl⟩,rfl,vU r (I.hok.fresh (Bd _)) t ok⟩
theorem TZ {pins:Ab (Af × Co)}{σ : _L.St}{H P:Hp}{α : Ab Af}{S:Sto}{s:Ag}{xs ys:Ab D}{v u:V}{vv uu:Ac}{Q:VK}(I:Inv X pins σ H s)(r:Rel X.K H P α S)(rv:qI v vv)(ru:qI u uu)(pa:Rep X.K P α (.tup xs) v)(pb:Rep X.K P α (.tup ys) u)(hl:xs.length+ys.length≤lim)(af:OkV X P α Q (.tup (xs++ys)) S) :
  Ap (Aw X.prog X.w) X.A (Eo .Add vv uu) (EP X pins σ Q) X.xe s:=by
 obtain⟨a,vs,its,rfl,q1,t1,rv1,h1,l1,_⟩:=uR I r pa;obtain⟨b,ws,its2,rfl,q2,t2,rv2,h2,l2,_⟩:=uR I r pb;cases rv;cases ru;by_cases hx:its=[]
 ·obtain⟨⟨cls,dd,data,sl⟩,ho,hc,n,hd⟩:=id h1
  obtain⟨⟨cls2,dd2,data2,sl2⟩,ho2,hc2,n2,hd2⟩:=id h2;simp only at hc hd hc2 hd2;subst hc hd hc2 hd2;have hxs:xs=[]:=Iq.mp (by rw[l1,hx];rfl)
  subst hxs;exact Vj ⟨_,ho,rfl⟩ ⟨_,ho2,rfl⟩ Qi Tw Lx Ld (Ky _ _) (tuple_addW0 a b its.toArray its2.toArray n n2 dd dd2 sl sl2 (by simp[hx]))
   ⟨ho,ho2,⟨.ref b,H,I,rfl,xr af r pb⟩⟩
 ·refine _H.cat_tup h1 h2 hx (fun z=>⟨.ref a,H,I,rfl,xr af r ?_⟩) (fun z=>?_) (by rw[← l1,← l2,← xT];exact hl)
  ·have hys:ys=[]:=Iq.mp (by rw[l2,z];rfl)
   rw[hys,Ft];exact pa
  ·exact hZ I r (t1.append t2) (rv1.append rv2) (by rw[Br];exact hl) af
theorem TY {pins:Ab (Af × Co)}{σ : _L.St}{H P:Hp}{α : Ab Af}{S:Sto}{s:Ag}{xs ys:Ab D}{v u:V}{vv uu:Ac}{Q:VK}(I:Inv X pins σ H s)(r:Rel X.K H P α S)(rv:qI v vv)(ru:qI u uu)(pa:Rep X.K P α (.lst xs) v)(pb:Rep X.K P α (.lst ys) u)(hl:xs.length+ys.length≤lim)(af:OkV X P α Q (.lst (xs++ys)) S) :
  Ap (Aw X.prog X.w) X.A (Eo .Add vv uu) (EP X pins σ Q) X.xe s:=by
 obtain⟨a,vs,its,n,rfl,q1,t1,rv1,h1,l1,_⟩:=uH I r pa;obtain⟨b,ws,its2,n2,rfl,q2,t2,rv2,h2,l2,_⟩:=uH I r pb;cases rv;cases ru;refine PySem.P.add_list h1 h2 ?_ (by rw[Be,Be,← l1,← l2,← xT];exact hl)
 rw[List.append_toArray];exact hW I r (t1.append t2) (rv1.append rv2) (by rw[Br];exact hl) af
inductive AddV (a b:D)(S:Sto):Prop
 |bad (e:qR a b S=.bad)
 |int (i j:Aj) (ea:a=.int i) (eb:b=.int j)
 |str (x y:Au) (ea:a=.str x) (eb:b=.str y)
 |tup (x y:Ab D) (ea:a=.tup x) (eb:b=.tup y)
 |lst (x y:Ab D) (ea:a=.lst x) (eb:b=.lst y)
theorem IA (a b:D)(S:Sto):AddV a b S:=by
 cases a with
 |int i=>cases b with
  |int j=>exact .int i j rfl rfl
  |_=>exact .bad rfl
 |str i=>cases b with
  |str j=>exact .str i j rfl rfl
  |_=>exact .bad rfl
 |tup i=>cases b with
  |tup j=>exact .tup i j rfl rfl
  |_=>exact .bad rfl
 |lst i=>cases b with
  |lst j=>exact .lst i j rfl rfl
  |_=>exact .bad rfl
 |_=>exact .bad rfl
theorem S8:OpD X (Eo .Add) qR:=by
 intro pins σ H s P α S v u vv uu a b Q I r rv ru pa pb af;cases IA a b S with
 |bad e=>rw[e] at af;exact Ao af
 |int i j ea eb =>
  subst ea eb;exact SK pins s σ H v u vv uu Q I rv ru ⟨i,j,w8 pa,w8 pb,xr af r (by simp only[Rep])⟩
 |str x y ea eb =>
  subst ea eb;obtain⟨hl,af⟩:=vN (X:=X) af;simp only[Rep] at pa pb;exact ZC pins s σ H v u vv uu Q I rv ru ⟨x,y,pa,pb,by rw[← xT];exact hl,xr af r (by simp only[Rep])⟩
 |tup xs ys ea eb =>
  subst ea eb;obtain⟨hl,af⟩:=vN (X:=X) af;exact TZ I r rv ru pa pb hl af
 |lst xs ys ea eb =>
  subst ea eb;obtain⟨hl,af⟩:=vN (X:=X) af;exact TY I r rv ru pa pb hl af
def gIx:G2:=fun a b S=>match b with
 |.int k=>match a with
  |.tup xs=>vV (atI xs k) S
  |.lst xs=>vV (atI xs k) S
  |.loc i=>match S[i]? with
   |some (.lst xs)=>vV (atI xs k) S
   |_=>.bad
  |_=>.bad
 |_=>.bad
theorem nW {P:Hp}{α : Ab Af}{ds:Ab D}{vs:Ab V}{k:Aj}{d:D}(rp:qF X.K P α ds vs)(h:atI ds k=Aa d):∃ v,atI vs k=Aa v∧Rep X.K P α d v:=by
 unfold atI at h ⊢;rw[← rp.length];cases q:ixN ds.length k with
 |none=>rw[q] at h;cases h
 |some j =>
  rw[q] at h;obtain⟨v,h1,h2⟩:=rp.get (show ds[j]? = Aa d from h)
  exact⟨v,h1,h2⟩
theorem D1:IxD X gIx:=by
 intro value slice pins σ H s P α S v u vv uu a b Q I r rv ru pa pb af hs;cases b with
 |int k =>
  have hk:=w8 pb;cases a with
  |tup xs =>
   obtain⟨d,e,ok⟩:=jZ (X:=X) af;simp only[Rep] at pa;obtain⟨p,vs,rfl,q,t⟩:=pa;obtain⟨w,e1,rw'⟩:=nW t e;exact uE value slice pins s σ H _ u vv uu Q I rv ru ⟨p,vs,k,w,rfl,hk,wR r.sub q,e1,xr ok r rw'⟩ hs
  |lst xs =>
   obtain⟨d,e,ok⟩:=jZ (X:=X) af;simp only[Rep] at pa;obtain⟨p,vs,rfl,q,t⟩:=pa;obtain⟨w,e1,rw'⟩:=nW t e;exact iW value slice pins s σ H _ u vv uu Q I rv ru ⟨p,vs,k,w,rfl,hk,(wC r.sub q).l,e1,xr ok r rw'⟩ hs
  |loc i =>
   obtain⟨xs,hS,af⟩:=pB (X:=X) (f:=fun xs=>vV (atI xs k) S) af;obtain⟨d,e,ok⟩:=jZ (X:=X) af;simp only[Rep] at pa;obtain⟨p,rfl,q⟩:=pa;obtain⟨vs,z,t⟩:=r.at' i p _ q hS;obtain⟨w,e1,rw'⟩:=nW t e;exact iW value slice pins s σ H _ u vv uu Q I rv ru ⟨p,vs,k,w,rfl,hk,.of z,e1,xr ok r rw'⟩ hs
  |_=>exact Ao af
 |_=>exact Ao af
def mC:G3:=fun o i d S=>match o,i with
 |.loc n,.int k=>match S[n]? with
  |some (.lst xs)=>match ixN xs.length k with
   |some j=>.ok () (S.set n (.lst (xs.set j d)))
   |none=>.bad
  |_=>.bad
 |_,_=>.bad
theorem A7:rQ X (rN X mC):=by
 intro pins s σ H o i v ov iv u Q I ro ri rv h;obtain⟨P,α,S,a,b,d,r,pa,pb,pd,af⟩:=h;cases a with
 |loc n =>
  cases b with
  |int k =>
   obtain⟨xs,hS,af⟩:=pB (X:=X) (f:=fun xs=>match ixN xs.length k with|some j=>.ok () (S.set n (.lst (xs.set j d)))|none=>.bad) af
   cases hj:ixN xs.length k with
   |none=>rw[hj] at af;exact Ao af
   |some j =>
    rw[hj] at af;simp only[Rep] at pa;obtain⟨p,rfl,q⟩:=pa;obtain⟨vs,z,t⟩:=r.at' n p _ q hS;refine K3 pins s σ H _ i v ov iv u Q I ro ri rv ⟨p,vs,k,j,rfl,w8 pb,z,by rw[← t.length];exact hj,?_⟩
    refine af _ P α (r.put (m':=.lst (xs.set j d)) q hS (by intro z;cases z) ⟨vs.set j v,zQ,t.set pd j⟩) (qH.refl _) (Bg _)
  |_=>exact Ao af
 |_=>exact Ao af
def US:D→Sto→Am Ah
 |.tup xs,_=>Aa xs.length
 |.lst xs,_=>Aa xs.length
 |.str x,_=>if x.length≤lim then Aa x.length else none
 |.dct0,_=>Aa 0
 |.loc i,S=>match S[i]? with
  |some (.lst xs)=>Aa xs.length
  |_=>none
 |_,_=>none
def m9:DF:=fun ds S=>match ds with
 |[d]=>match US d S with
  |some n=>.ok (.int n) S
  |none=>.bad
 |_=>.bad
end
section
variable {X:Cx}
theorem uM {P:Hp}{α : Ab Af}{d:D}{vs:Ab V}{us:Ab Ac}(rp:qF X.K P α [d] vs)(rv:qN vs us):∃ v u,vs=[v]∧us=[u]∧Rep X.K P α d v∧qI v u:=by
 obtain⟨v,ws,rfl,p,t⟩:=rp.cons_inv;have:=t.nil_inv;subst this;obtain⟨u,rfl,q⟩:=gF rv;exact⟨v,u,rfl,rfl,p,q⟩
theorem fL {P:Hp}{α : Ab Af}{d e:D}{vs:Ab V}{us:Ab Ac}(rp:qF X.K P α [d,e] vs)(rv:qN vs us):∃ v w u x,vs=[v,w]∧us=[u,x]∧Rep X.K P α d v∧Rep X.K P α e w∧qI v u∧qI w x:=by
 obtain⟨v,ws,rfl,p,t⟩:=rp.cons_inv;obtain⟨w,ws,rfl,p',t⟩:=t.cons_inv;have:=t.nil_inv;subst this;obtain⟨u,x,rfl,q,q'⟩:=ZS rv;exact⟨v,w,u,x,rfl,rfl,p,p',q,q'⟩
def Z4 (d:D)(S:Sto):Am Ah:=match d with
 |.dct0=>none
 |_=>US d S
theorem DC {H P:Hp}{α : Ab Af}{S:Sto}{d:D}{v:V}{n:Ah}(r:Rel X.K H P α S)(p:Rep X.K P α d v)(hn:Z4 d S=Aa n):TR X.K v H n:=by
 cases d with
 |str x =>
  cases (show v=.str x from p)
  obtain⟨hl,rfl⟩:=kH hn;exact⟨by rw[← xT];exact hl,rfl⟩
 |tup xs =>
  simp only[Rep] at p;obtain⟨a,ws,rfl,sq,t⟩:=p;cases hn;exact .inr ⟨ws,wR r.sub sq,t.length⟩
 |lst xs =>
  simp only[Rep] at p;obtain⟨a,ws,rfl,sq,t⟩:=p;cases hn;exact .inl ⟨ws,(wC r.sub sq).l,t.length⟩
 |loc i =>
  simp only[Rep] at p;obtain⟨a,rfl,e⟩:=p;obtain⟨xs,hS,hn⟩:=DP (f:=fun xs=>Aa xs.length) hn;cases hn;obtain⟨ws,z,t⟩:=r.at' i a _ e hS;exact .inl ⟨ws,.of z,t.length⟩
 |_=>exact nn hn
inductive LenD1 (ds:Ab D)(S:Sto)(r:Res D):Prop
 |bad (e:r=.bad)
 |of (d:D) (n:Ah) (ed:ds=[d]) (hn:Z4 d S=Aa n) (e:r=.ok (.int n) S)
theorem HV (ds:Ab D)(S:Sto):LenD1 ds S (match ds with|[.dct0]=>.bad|_=>m9 ds S):=by
 cases ds with
 |nil=>exact .bad rfl
 |cons d ds =>
  cases ds with
  |cons _ _=>cases d <;> exact .bad rfl
  |nil =>
   have z:(match [d] with|[D.dct0]=>Res.bad|_=>m9 [d] S)=(match Z4 d S with|some n=>Res.ok (D.int n) S|none=>.bad):=by cases d <;> rfl
   rw[z];cases hn:Z4 d S with
   |none=>exact .bad rfl
   |some n=>exact .of d n rfl hn rfl
theorem NA (hD:Jz):vA X (.builtin "len") (fun ds S=>match ds with|[.dct0]=>.bad|_=>m9 ds S):=by
 intro pins σ H s P α S vs us ds Q I r rv rp af;have af1:qJ X P α (match ds with|[D.dct0]=>Res.bad|_=>m9 ds S) (OkV X P α Q):=af
 clear af;cases HV ds S with
 |bad e=>rw[e] at af1;exact Ao af1
 |of d n ed hn e =>
  rw[e] at af1;subst ed;obtain⟨v,u,rfl,rfl,p,q⟩:=uM rp rv;exact VE pins s σ H _ _ Q I rv ⟨v,n,rfl,DC r p hn,xr af1 r (by simp only[Rep])⟩
def tyD:D→Sto→Am Du
 |.non,_=>Aa "NoneType"
 |.bl _,_=>Aa "bool"
 |.int _,_=>Aa "int"
 |.str _,_=>Aa "str"
 |.tup _,_=>Aa "tuple"
 |.lst _,_=>Aa "list"
 |.dct0,_=>Aa "dict"
 |.loc i,S=>match S[i]? with
  |some (.lst _)=>Aa "list"
  |some (.dct _)=>Aa "dict"
  |_=>none
 |_,_=>none
def w6 (a b:Du):As:=a == b||(a == "bool" && b == "int")
def j2 (b:Du):As:=b == "int" || b == "bool" || b == "tuple" || b == "list" || b == "str" || b == "dict"
def D8 (a b:Du):Am As:=if (Hd a == Hd b)=true then Aa true else if PySem.W.kitMeta b=true then (fastBuiltinMro a).map (·.contains (.type b)) else none
def tyL:Ab Du:=["NoneType","bool","int","str","tuple","list","dict"]
def okL:Ab Du:=["int","bool","tuple","list","str","dict"]
theorem F4:(tyL.all fun a=>okL.all fun b=>decide (D8 a b=Aa (w6 a b)))=true:=by decide +kernel
theorem SI {b:Du}(hb:j2 b=true):b∈okL:=by simpa [j2,okL,or_assoc] using hb
theorem F5 {K:Ak}{a b:Du}(ha:a∈tyL)(hb:j2 b=true):Jt K (.type a) (.type b)=Aa (w6 a b):=
 Bw (p:=D8 a b=Aa (w6 a b)) (Aq.mp (Aq.mp F4 a ha) b (SI hb))
def zK:DF:=fun ds S=>match ds with
 |[d,.ty b]=>if j2 b then match tyD d S with
   |some a=>.ok (.bl (w6 a b)) S
   |none=>.bad
  else .bad
 |_=>.bad
inductive TyV (X:Cx)(H:Hp)(v:V)(a:Du):Prop
 |of (t:TyOf X.K H v (.type a))
 |tup (p:Af) (vs:Ab V) (e:v=.ref p) (q:SqT X.K H p vs) (ea:a = "tuple")
 |lst (p:Af) (vs:Ab V) (e:v=.ref p) (q:SqL X.K H p vs) (ea:a = "list")
theorem EF {d:D}{S:Sto}{a:Du}(h:tyD d S=Aa a):a∈tyL:=by
 cases d with
 |non=>cases h;exact .head _
 |bl b=>cases h;exact .tail _ (.head _)
 |int i=>cases h;exact .tail _ (.tail _ (.head _))
 |str x=>cases h;exact .tail _ (.tail _ (.tail _ (.head _)))
 |tup xs=>cases h;exact .tail _ (.tail _ (.tail _ (.tail _ (.head _))))
 |lst xs=>cases h;exact .tail _ (.tail _ (.tail _ (.tail _ (.tail _ (.head _)))))
 |dct0=>cases h;exact .tail _ (.tail _ (.tail _ (.tail _ (.tail _ (.tail _ (.head _))))))
 |loc i =>
  rcases lM (f:=fun _=>Aa "list") (g:=fun _=>Aa "dict") h with⟨_,_,h⟩|⟨_,_,h⟩
  ·cases h;exact .tail _ (.tail _ (.tail _ (.tail _ (.tail _ (.head _)))))
  ·cases h;exact .tail _ (.tail _ (.tail _ (.tail _ (.tail _ (.tail _ (.head _))))))
 |_=>exact nn h
theorem AC {H P:Hp}{α : Ab Af}{S:Sto}{d:D}{v:V}{a:Du}(r:Rel X.K H P α S)(p:Rep X.K P α d v)(h:tyD d S=Aa a):TyV X H v a:=by
 cases d with
 |non=>cases h;cases (show v=.non from p);exact .of .non
 |bl b=>cases h;cases (show v=.bl b from p);exact .of (.bl b)
 |int i=>cases h;cases (show v=.int i from p);exact .of (.int i)
 |str x=>cases h;cases (show v=.str x from p);exact .of (.str x)
 |tup xs =>
  cases h;simp only[Rep] at p;obtain⟨a,vs,e,q,t⟩:=p;exact .tup a vs e (wR r.sub q) rfl
 |lst xs =>
  cases h;simp only[Rep] at p;obtain⟨a,vs,e,q,t⟩:=p;exact .lst a vs e (wC r.sub q).l rfl
 |dct0 =>
  cases h;simp only[Rep] at p;obtain⟨a,rfl,q⟩:=p;exact .of (.dK (r.sub _ _ q))
 |loc i =>
  simp only[Rep] at p;obtain⟨a,rfl,q⟩:=p;rcases lM (f:=fun _=>Aa "list") (g:=fun _=>Aa "dict") h with⟨xs,hS,h⟩|⟨kvs,hS,h⟩
  ·cases h
   obtain⟨vs,z,t⟩:=r.at' i a _ q hS;exact .of (.lst z)
  ·cases h
   obtain⟨vs,z,t⟩:=r.at' i a _ q hS;exact .of (.dK z)
 |_=>exact nn h
inductive IsiV (ds:Ab D)(S:Sto):Prop
 |bad (e:zK ds S=.bad)
 |of (d:D) (b a:Du) (ed:ds=[d,.ty b]) (hb:j2 b=true) (ha:tyD d S=Aa a) (e:zK ds S=.ok (.bl (w6 a b)) S)
theorem IT (ds:Ab D)(S:Sto):IsiV ds S:=by
 cases ds with
 |nil=>exact .bad rfl
 |cons d ds =>
  cases ds with
  |nil=>exact .bad rfl
  |cons e ds =>
   cases ds with
   |cons _ _=>cases e <;> exact .bad rfl
   |nil =>
    cases e with
    |ty b =>
     have z:zK [d,.ty b] S=if j2 b then (match tyD d S with|some a=>.ok (.bl (w6 a b)) S|none=>.bad) else .bad:=rfl
     by_cases hb:j2 b=true
     ·rw[AT hb] at z
      cases ha:tyD d S with
      |none=>rw[ha] at z;exact .bad z
      |some a=>rw[ha] at z;exact .of d b a rfl hb ha z
     ·rw[Bc hb] at z
      exact .bad z
    |_=>exact .bad rfl
theorem X3:vA X (.builtin "isinstance") zK:=by
 intro pins σ H s P α S vs us ds Q I r rv rp af;cases IT ds S with
 |bad e=>rw[e] at af;exact Ao af
 |of d b a ed hb ha e =>
  subst ed;rw[e] at af;obtain⟨v,w,u,x,rfl,rfl,p,p',q,q'⟩:=fL rp rv;simp only[Rep] at p';subst p';cases (show x=Hd b from q')
  have kit:=F5 (K:=X.K) (EF ha) hb;have fin:∀ tk,EP X pins σ Q (.bool (w6 a b)) { s with toks:=tk }:=fun tk=>⟨.bl _,H,I.tok tk,rfl,xr af r (by simp only[Rep])⟩
  cases AC r p ha with
  |of ht=>exact W1 I q ht kit fin
  |tup p' ws e sq ea =>
   subst e ea;cases (show u=Ch p' from q)
   obtain⟨its,rv',⟨o,h1,h2,_⟩,_⟩:=I.tuple sq;exact Dv Uv I.kIn ⟨o,h1,h2⟩ kit (fun z=>nomatch z) fin
  |lst p' ws e sq ea =>
   subst e ea;cases (show u=Ch p' from q)
   obtain⟨its,rv',⟨o,_,h1,h2,_⟩,_⟩:=I.list sq;exact Dv Pc I.kIn ⟨o,h1,h2⟩ kit (fun z=>nomatch z) fin
def xX:Ab D→Am (Ab As)
 |[]=>Aa []
 |.bl b::r=>(xX r).map (b::·)
 |_=>none
theorem uC {P:Hp}{α : Ab Af}:∀ {ds:Ab D} {bs:Ab As} {vs:Ab V} {us:Ab Ac},xX ds=Aa bs→qF X.K P α ds vs→qN vs us→us=bs.map Fi
 |[],bs,vs,us,h,rp,rv=>by
  cases h;have:=rp.nil_inv;subst this;cases rv;rfl
 |d::ds,bs,vs,us,h,rp,rv=>by
  cases d with
  |bl b =>
   obtain⟨bs',q,rfl⟩:=Ep.mp (show (xX ds).map (b::·)=Aa bs from h)
   obtain⟨w,ws,rfl,p,t⟩:=rp.cons_inv;simp only[Rep] at p;subst p;cases rv with
   |cons q1 q2 =>
    cases (show _=Fi b from q1)
    rw[uC q t q2];rfl
  |_=>exact nn h
def uX (any:As):DF:=fun ds S=>match ds with
 |[d]=>match (xE d).bind xX with
  |some bs=>.ok (.bl (if any then bs.any id else bs.all id)) S
  |none=>.bad
 |_=>.bad
theorem sJ (bs:Ab As):((Cy bs.length).all fun i=>bs.getD i false)=bs.all id:=by
 induction bs with
 |nil=>rfl
 |cons b bs ih =>
  rw[Ci,Ly,Mk,Ir,Mk,← ih];rfl
theorem sL (bs:Ab As):((Cy bs.length).any fun i=>bs.getD i false)=bs.any id:=by
 induction bs with
 |nil=>rfl
 |cons b bs ih =>
  rw[Ci,Ly,Jd,Qv,Jd,← ih];rfl
theorem W3 {pins:Ab (Af × Co)}{σ : _L.St}{H:Hp}{s:Ag}{o:Co}{h':Bi}{tk:Ah}(I:Inv X pins σ H s)(k:∀ b ob,b ∉ [s.heap.objs.size]→(s.heap.push o).get? b=Aa ob→h'.get? b=Aa ob):Inv X pins σ H { s with heap:=h',toks:=tk }:=
 I.kept fun b u e=>k b u (by simp;exact Cc (Ax e)) (Ai _ e)
theorem gD {bs:Ab As}{its:Ab Ac}(hi:its=bs.map Fi){A:Bo}:TruthOf X.prog X.w A (fun i v=>its.toArray[i]? = Aa v) (fun i=>bs.getD i false):=fun i v s' Q' E' hv hQ=>by
 subst hi;have hv':(bs.map Fi)[i]? = Aa v:=by simpa using hv
 rw[Dm] at hv';cases e:bs[i]? with
 |none=>rw[e] at hv';exact nn hv'
 |some b =>
  rw[e] at hv';cases Cp hv';have:bs.getD i false=b:=by simp[Gg,e]
  have hQ':Q' (bs.getD i false) s':=hQ;rw[this] at hQ';exact Pb hQ'
theorem BN {any:As}{ds:Ab D}{S:Sto}{P:Hp}{α : Ab Af}{Ok:D→Sto→Prop}(h:qJ X P α (uX any ds S) Ok):∃ d xs bs,ds=[d]∧ItV d xs∧xX xs=Aa bs∧Ok (.bl (if any then bs.any id else bs.all id)) S:=by
 obtain⟨d,rfl,h1⟩:=cL (X:=X) (β:=D) (g:=fun d=>match (xE d).bind xX with|some bs=>.ok (D.bl (if any then bs.any id else bs.all id)) S|none=>.bad) h
 cases hb:(xE d).bind xX with
 |none=>rw[hb] at h1;exact Ao h1
 |some bs =>
  rw[hb] at h1;obtain⟨xs,hx,hbs⟩:=EQ.mp hb;exact⟨d,xs,bs,rfl,itV hx,hbs,h1⟩
theorem N8 (any:As)(hc:X.calm=true):vA X (.builtin (if any then "any" else "all")) (uX any):=by
 intro pins σ H s P α S vs us ds Q I r rv rp af;obtain⟨d,xs,bs,ed,hd,hbs,ok⟩:=BN af;clear af;subst ed;obtain⟨v,u,rfl,rfl,p,q⟩:=uM rp rv;clear rp;have fin:∀ {o:Co} (h':Bi) (tk:Ah),(∀ b ob,b ∉ [s.heap.objs.size]→(s.heap.push o).get? b=Aa ob→h'.get? b=Aa ob)→EP X pins σ Q (.bool (if any then bs.any id else bs.all id)) { s with heap:=h',toks:=tk }:=
  fun {o} h' tk k=>⟨.bl _,H,W3 I k,rfl,xr ok r (by simp only[Rep])⟩
 clear rv ok;have hh:X.A.in1.handled=none:=I.ok.hd hc;cases hd with
 |tup ed =>
  subst ed;obtain⟨a,ws,its,rfl,sq,t,rvi,ht,hl,_⟩:=uR I r p;cases (show u=Ch a from q)
  have hi:=uC hbs t rvi;have hlen:its.toArray.size=bs.length:=by rw[hi];simp
  have hne:a≠s.heap.objs.size:=by obtain⟨o,e,_⟩:=ht;exact Cc (Ax e)
  have W:=u8 (prog:=X.prog) (w:=X.w) hh s.heap.objs.size a hne its.toArray;have hT:∀ o,(s.heap.push o).IsTuple a its.toArray:=fun o=>by obtain⟨o,e,c⟩:=ht;exact⟨o,Ai _ e,c⟩
  have ht':s.heap.IsTuple a its.toArray:=ht;cases any with
  |false =>
   refine call_all_walk (Ho ht' ⟨s.heap.objs.size,_,_,_,_,_,_,rfl,W,⟨⟨_,Az _ rfl,rfl,rfl⟩,hT _⟩,gD hi,fun h' tk k=>?_⟩);rw[hlen,sJ];exact fin h' tk k
  |true =>
   refine call_any_walk (Ho ht' ⟨s.heap.objs.size,_,_,_,_,_,_,rfl,W,⟨⟨_,Az _ rfl,rfl,rfl⟩,hT _⟩,gD hi,fun h' tk k=>?_⟩);rw[hlen,sL];exact fin h' tk k
 |lst ed =>
  subst ed;obtain⟨a,ws,its,n,rfl,sq,t,rvi,ht,hl,_⟩:=uH I r p;cases (show u=Ch a from q)
  have hL:s.heap.IsList a its.toArray:=⟨_,ht,rfl,n,rfl⟩;have hi:=uC hbs t rvi;have hlen:its.toArray.size=bs.length:=by rw[hi];simp
  have hne:a≠s.heap.objs.size:=Cc (Ax ht);have W:=Ue (prog:=X.prog) (w:=X.w) hh s.heap.objs.size a hne its.toArray;have hL':∀ o,(s.heap.push o).IsList a its.toArray:=fun o=>⟨_,Ai _ ht,rfl,n,rfl⟩;cases any with
  |false =>
   refine call_all_walk (Ga hL ⟨s.heap.objs.size,_,_,_,_,_,_,rfl,W,⟨⟨_,Az _ rfl,rfl,rfl⟩,hL' _⟩,gD hi,fun h' tk k=>?_⟩);rw[hlen,sJ];exact fin h' tk k
  |true =>
   refine call_any_walk (Ga hL ⟨s.heap.objs.size,_,_,_,_,_,_,rfl,W,⟨⟨_,Az _ rfl,rfl,rfl⟩,hL' _⟩,gD hi,fun h' tk k=>?_⟩);rw[hlen,sL];exact fin h' tk k
def eR:DF:=fun ds S=>match ds with
 |[.int i]=>.ok (.int i) S
 |[.bl b]=>.ok (.int (b01 b)) S
 |_=>.bad
inductive IntV (ds:Ab D)(S:Sto):Prop
 |bad (e:eR ds S=.bad)
 |int (i:Aj) (e:ds=[.int i])
 |bl (b:As) (e:ds=[.bl b])
theorem IQ (ds:Ab D)(S:Sto):IntV ds S:=by
 cases ds with
 |nil=>exact .bad rfl
 |cons d ds =>
  cases ds with
  |cons _ _=>cases d <;> exact .bad rfl
  |nil =>
   cases d with
   |int i=>exact .int i rfl
   |bl b=>exact .bl b rfl
   |_=>exact .bad rfl
theorem N9:vA X (.type "int") eR:=by
 intro pins σ H s P α S vs us ds Q I r rv rp af;cases IQ ds S with
 |bad e=>rw[e] at af;exact Ao af
 |int i e =>
  subst e;obtain⟨v,u,rfl,rfl,p,q⟩:=uM rp rv;exact dJ pins s σ H _ _ Q I rv (.inl ⟨_,by rw[w8 p],xr af r (by simp only[Rep])⟩)
 |bl b e =>
  subst e;obtain⟨v,u,rfl,rfl,p,q⟩:=uM rp rv;simp only[Rep] at p;subst p;exact dJ pins s σ H _ _ Q I rv (.inr ⟨_,rfl,xr af r (by simp only[Rep];rfl)⟩)
def wW:DF:=fun ds S=>match ds with
 |[d]=>match xE d with
  |some xs=>.ok (.tup xs) S
  |none=>.bad
 |_=>.bad
theorem VI:vA X (.type "tuple") wW:=by
 intro pins σ H s P α S vs us ds Q I r rv rp af;obtain⟨d,rfl,af1⟩:=cL (X:=X) (β:=D) (g:=fun d=>match xE d with|some xs=>.ok (D.tup xs) S|none=>.bad) af
 obtain⟨xs,hx,af2⟩:∃ xs,xE d=Aa xs∧OkV X P α Q (.tup xs) S:=by
  cases hx:xE d with
  |none=>rw[hx] at af1;exact Ao af1
  |some xs=>rw[hx] at af1;exact⟨xs,rfl,af1⟩
 obtain⟨v,u,rfl,rfl,p,q⟩:=uM rp rv;cases itV hx with
 |tup e =>
  subst e;have p0:=p;simp only[Rep] at p;obtain⟨a,ws,rfl,sq,t⟩:=p;exact pO pins s σ H _ _ Q I rv ⟨a,ws,rfl,.inr ⟨wR r.sub sq,xr af2 r p0⟩⟩
 |lst e =>
  subst e;simp only[Rep] at p;obtain⟨a,ws,rfl,sq,t⟩:=p;exact pO pins s σ H _ _ Q I rv ⟨a,ws,rfl,.inl ⟨(wC r.sub sq).l,fun l hl=>pE r hl t af2⟩⟩
def bX:DF:=fun ds S=>match ds with
 |[d]=>match xE d with
  |some xs=>.ok (.lst xs) S
  |none=>.bad
 |_=>.bad
theorem PR:vA X (.type "list") bX:=by
 intro pins σ H s P α S vs us ds Q I r rv rp af;obtain⟨d,rfl,af1⟩:=cL (X:=X) (β:=D) (g:=fun d=>match xE d with|some xs=>.ok (D.lst xs) S|none=>.bad) af
 obtain⟨xs,hx,af2⟩:∃ xs,xE d=Aa xs∧OkV X P α Q (.lst xs) S:=by
  cases hx:xE d with
  |none=>rw[hx] at af1;exact Ao af1
  |some xs=>rw[hx] at af1;exact⟨xs,rfl,af1⟩
 obtain⟨v,u,rfl,rfl,p,q⟩:=uM rp rv;cases itV hx with
 |tup e =>
  subst e;simp only[Rep] at p;obtain⟨a,ws,rfl,sq,t⟩:=p;exact pT pins s σ H _ _ Q I rv ⟨a,ws,rfl,.inr (wR r.sub sq),fun l hl=>vU r hl t af2⟩
 |lst e =>
  subst e;simp only[Rep] at p;obtain⟨a,ws,rfl,sq,t⟩:=p;exact pT pins s σ H _ _ Q I rv ⟨a,ws,rfl,.inl ((wC r.sub sq).l),fun l hl=>vU r hl t af2⟩
end
section
variable {X:Cx}
structure ClsK (K:Ak)(cl:Ab Af):Prop where
 ex:∀ C∈cl,ExnK K C
 one:∀ C∈cl,∀ B∈cl,Jt K (.ref C) (.ref B)=Aa (C == B)
 ve:∀ C∈cl,Jt K (.ref C) (.type "ValueError")=Aa true
def xB (cl:Ab Af):DF:=fun ds S=>match ds with
 |[.exn (.ref C),.obj B]=>if cl.contains C&&cl.contains B then .ok (.bl (C == B)) S else .bad
 |[.exn (.ref C),.ty b]=>if cl.contains C&&(b == "ValueError") then .ok (.bl true) S else .bad
 |_=>zK ds S
theorem XN {pins:Ab (Af × Co)}{σ : _L.St}{H P:Hp}{α : Ab Af}{S:Sto}{s:Ag}{C:Af}{v:V}{u:Ac}(I:Inv X pins σ H s)(r:Rel X.K H P α S)(p:Rep X.K P α (.exn (.ref C)) v)(q:qI v u):∃ a,u=.ref a∧j8 a C s.heap:=by
 simp only[Rep] at p;obtain⟨a,rfl,z⟩:=p;obtain⟨y,_⟩:=I.hok a _ (r.sub _ _ z);exact⟨a,q,y⟩
inductive IsiE (cl:Ab Af)(ds:Ab D)(S:Sto):Prop
 |bad (e:xB cl ds S=.bad)
 |old (e:xB cl ds S=zK ds S)
 |obj (C B:Af) (ed:ds=[.exn (.ref C),.obj B]) (h1:C∈cl) (h2:B∈cl) (e:xB cl ds S=.ok (.bl (C == B)) S)
 |ve (C:Af) (ed:ds=[.exn (.ref C),.ty "ValueError"]) (h1:C∈cl) (e:xB cl ds S=.ok (.bl true) S)
theorem HP (cl:Ab Af)(C:Af)(d:D)(S:Sto):IsiE cl [.exn (.ref C),d] S:=by
 cases d with
 |obj B =>
  have z:xB cl [.exn (.ref C),.obj B] S=if (cl.contains C&&cl.contains B)=true then .ok (.bl (C == B)) S else .bad:=rfl
  by_cases h:(cl.contains C&&cl.contains B)=true
  ·rw[AT h] at z
   have h':=Em.mp h;exact .obj C B rfl (Ey.mp h'.1) (Ey.mp h'.2) z
  ·rw[Bc h] at z
   exact .bad z
 |ty b =>
  have z:xB cl [.exn (.ref C),.ty b] S=if (cl.contains C&&(b == "ValueError"))=true then .ok (.bl true) S else .bad:=rfl
  by_cases h:(cl.contains C&&(b == "ValueError"))=true
  ·rw[AT h] at z
   have h':=Em.mp h;cases (Jm.mp h'.2);exact .ve C rfl (Ey.mp h'.1) z
  ·rw[Bc h] at z
   exact .bad z
 |_=>exact .old rfl
theorem IS (cl:Ab Af)(ds:Ab D)(S:Sto):IsiE cl ds S:=by
 cases ds with
 |nil=>exact .old rfl
 |cons a ds =>
  cases a with
  |exn c =>
   cases c with
   |ref C =>
    cases ds with
    |nil=>exact .old rfl
    |cons b ds =>
     cases ds with
     |nil=>exact HP cl C b S
     |cons _ _=>cases b <;> exact .old rfl
   |_=>exact .old rfl
  |_=>exact .old rfl
theorem PP {cl:Ab Af}(hK:ClsK X.K cl):vA X (.builtin "isinstance") (xB cl):=by
 intro pins σ H s P α S vs us ds Q I r rv rp af;cases IS cl ds S with
 |bad e=>rw[e] at af;exact Ao af
 |old e=>rw[e] at af;exact X3 pins σ H s P α S vs us ds Q I r rv rp af
 |obj C B ed h1 h2 e =>
  rw[e] at af;subst ed;obtain⟨v,w,u,x,rfl,rfl,p,p',q,q'⟩:=fL rp rv;simp only[Rep] at p';obtain⟨rfl,_⟩:=p';cases (show x=Ch B from q')
  obtain⟨a,rfl,ha⟩:=XN I r p q;exact Dv (hJ (hK.ex C h1)) I.kIn ha (hK.one C h1 B h2) (fun z=>nomatch z) fun tk=>⟨.bl _,H,I.tok tk,rfl,xr af r (by simp only[Rep])⟩
 |ve C ed h1 e =>
  rw[e] at af;subst ed;obtain⟨v,w,u,x,rfl,rfl,p,p',q,q'⟩:=fL rp rv;simp only[Rep] at p';subst p';cases (show x=Hd "ValueError" from q')
  obtain⟨a,rfl,ha⟩:=XN I r p q;exact Dv (hJ (hK.ex C h1)) I.kIn ha (hK.ve C h1) (fun z=>nomatch z) fun tk=>⟨.bl _,H,I.tok tk,rfl,xr af r (by simp only[Rep])⟩
def MtD (X:Cx)(id:Du)(g:D→Ab D→Sto→Res D):Prop:=
 ∀ (pins:Ab (Af × Co)) (σ : _L.St) (H:Hp) (s:Ag) (P:Hp) (α : Ab Af) (S:Sto) (v:V) (vv:Ac) (vs:Ab V) (us:Ab Ac) (a:D) (ds:Ab D) (Q:VK),Inv X pins σ H s→Rel X.K H P α S→qI v vv→Rep X.K P α a v→qN vs us→qF X.K P α ds vs→zA X P α (g a ds S) Q →
  Ap (Aw X.prog X.w) X.A (call (.builtin id) (vv::us)) (EP X pins σ Q) X.xe s
def dBm (T:Du)(g:D→Ab D→Sto→Res D)(fo:DE)(fa:DA):DE:=fun env S=>(fo env S).bind fun a S1=>if (tyD a S1 == Aa T)=true then (fa env S1).bind fun ds S2=>g a ds S2 else .bad
theorem YX {H P:Hp}{α : Ab Af}{S:Sto}{a:D}{v:V}{T:Du}(r:Rel X.K H P α S)(p:Rep X.K P α a v)(h:tyD a S=Aa T)(hT:T = "list" ∨ T = "dict" ∨ T = "int" ∨ T = "str"):tyV X.K T v H:=by
 cases a with
 |int i=>cases h;simp only[Rep] at p;subst p;rfl
 |str x=>cases h;simp only[Rep] at p;subst p;rfl
 |lst xs =>
  cases h;simp only[Rep] at p;obtain⟨b,vs,rfl,q,t⟩:=p;exact .inl ⟨rfl,vs,(wC r.sub q).l⟩
 |dct0 =>
  cases h;simp only[Rep] at p;obtain⟨b,rfl,q⟩:=p;exact .inr (.inr (.inl ⟨rfl,.inl ⟨[],r.sub _ _ q⟩⟩))
 |loc i =>
  simp only[Rep] at p;obtain⟨b,rfl,q⟩:=p;rcases lM (f:=fun _=>Aa "list") (g:=fun _=>Aa "dict") h with⟨xs,hS,h⟩|⟨kvs,hS,h⟩
  ·cases h
   obtain⟨vs,z,t⟩:=r.at' i b _ q hS;exact .inl ⟨rfl,vs,SqL.of z⟩
  ·cases h
   obtain⟨vs,z,t⟩:=r.at' i b _ q hS;exact .inr (.inr (.inl ⟨rfl,.inl ⟨vs,z⟩⟩))
 |non=>cases h;exact absurd hT (by decide)
 |bl b=>cases h;exact absurd hT (by decide)
 |tup xs=>cases h;exact absurd hT (by decide)
 |_=>exact nn h
variable {o e:Bq}{es:Ab Bq}{fo:DE}{fa:DA}{name:Au}{apos cpos:Ez}{T id:Du}{g:D→Ab D→Sto→Res D}
theorem NJ {P:Hp}{α : Ab Af}{a:D}{S:Sto}{β : Type}{k:Res β}{Ok:β→Sto→Prop}(h:qJ X P α (if (tyD a S == Aa T)=true then k else .bad) Ok):tyD a S=Aa T∧qJ X P α k Ok:=by
 by_cases z:(tyD a S == Aa T)=true
 ·rw[AT z] at h;exact⟨Jm.mp z,h⟩
 ·rw[Bc z] at h;exact Ao h
theorem EZ (pa:PlainAttrs T)(slot:Slot T name id)(hty:typeOf (.builtin id)=pure (.type "method_descriptor"))(hT:T = "list" ∨ T = "dict" ∨ T = "int" ∨ T = "str")(hm:MtD X id g)(ho:PE X o (tD X fo))(ha:PA X (e::es) (tDA X fa))
  (hbase:Pj o name X.env (eval o X.env)=eval o X.env:=by rfl)
  (hfew:((Fp cpos (Bb (e::es) X.env)).all (fun x=>!x.1)&&(backToKw cpos (keywordEach [] X.env)).all (fun x=>x.1.isSome)
   && decide ((e::es).length+([]:Ab Zd).length+(if ([] : Ab Zd).isEmpty then 0 else 1)<30))=true:=by rfl)
  (hline:(apos.endLine == cpos.line)=true:=by rfl) (hs:Bb (e::es) X.env=(false,eval e X.env)::Bb es X.env:=by rfl) (hplain:(Fp cpos (Bb es X.env)).any (·.1)=false:=by rfl) :
  PE X (.Call (.Attribute o name apos) (e::es) [] cpos) (tD X (dBm T g fo fa)):=by
 intro pins s σ H Q I h;obtain⟨P,α,env,S,r,re,af⟩:=h;refine wpAny_Call_method_late hbase hfew hline rfl (thn (xH ho I r re af) fun vv s1 ⟨v,H1,P1,α1,d,S1,G1,af1⟩=>?_);obtain⟨ht,af2⟩:=NJ af1;obtain⟨h1,h2⟩:=YW G1.inv G1.val (YX G1.rel G1.rep ht hT);refine⟨T,id,pa,slot,hty,h1,h2,?_⟩;have hA:=yO ha G1.inv G1.rel G1.env (P:=P1) (α:=α1) (Ok:=OkV X P1 α1 Q) (zA.base G1.same G1.pre (r:=(fa env S1).bind fun ds S2=>g d ds S2) af2) cpos;rw[hs] at hA ⊢;refine Rv (by show (false||(Fp cpos (Bb es X.env)).any (·.1))=false;rw[hplain] <;> rfl) (Tk ?_)
 exact thn hA fun us s2 ⟨vs,H2,P2,α2,ds,S2,I2,rv,r2,re2,rp2,e1,e2,af3⟩=>hm pins σ H2 s2 P2 α2 S2 v vv vs us d ds Q I2 r2 G1.val (Rep.mono e1 e2 _ _ G1.rep) rv rp2 (zA.base e1 e2 af3)
def vE:D→Ab D→Sto→Res D:=fun a ds S=>match a,ds with
 |.loc i,[d]=>match S[i]? with
  |some (.lst xs)=>if xs.length<lim then .ok .non (S.set i (.lst (xs++[d]))) else .bad
  |_=>.bad
 |_,_=>.bad
inductive ApV (a:D)(ds:Ab D)(S:Sto):Prop
 |bad (e:vE a ds S=.bad)
 |of (i:Ah) (d:D) (xs:Ab D) (ea:a=.loc i) (ed:ds=[d]) (hS:S[i]? = Aa (.lst xs)) (hl:xs.length<lim) (e:vE a ds S=.ok .non (S.set i (.lst (xs++[d]))))
theorem apV (a:D)(ds:Ab D)(S:Sto):ApV a ds S:=by
 cases a with
 |loc i =>
  cases ds with
  |nil=>exact .bad rfl
  |cons d ds =>
   cases ds with
   |cons _ _=>exact .bad rfl
   |nil =>
    have z:vE (.loc i) [d] S=(match S[i]? with|some (.lst xs)=>(if xs.length<lim then .ok .non (S.set i (.lst (xs++[d]))) else .bad)|_=>.bad):=rfl
    cases hS:S[i]? with
    |none=>rw[hS] at z;exact .bad z
    |some m =>
     rw[hS] at z;cases m with
     |lst xs =>
      by_cases hl:xs.length<lim
      ·exact .of i d xs rfl rfl hS hl (z.trans (AT hl))
      ·exact .bad (z.trans (Bc hl))
     |_=>exact .bad z
 |_=>exact .bad rfl
theorem WG:MtD X "list.append" vE:=by
 intro pins σ H s P α S v vv vs us a ds Q I r rv p rvs rps af;cases apV a ds S with
 |bad e=>rw[e] at af;exact Ao af
 |of i d xs ea ed hS hl e =>
  rw[e] at af;subst ea ed;obtain⟨w,u,rfl,rfl,p',q'⟩:=uM rps rvs;simp only[Rep] at p;obtain⟨b,rfl,q⟩:=p;obtain⟨ws,z,t⟩:=r.at' i b _ q hS;refine WK pins s σ H (.ref b) [w] vv [u] Q I rv (.cons q' .nil) ⟨b,ws,w,rfl,rfl,z,by rw[← t.length,← xT];exact hl,?_⟩
  exact xr af (r.put (m':=.lst (xs++[d])) q hS (by intro z;cases z) ⟨ws++[w],zQ,t.append (.cons p' .nil)⟩) (by simp only[Rep])
end
def jM:D→Am Key
 |.int i=>Aa (.inl i)
 |.str x=>Aa (.inr x)
 |_=>none
def uS (kvs:Ab (Key × D))(k:Key):Am D:=(kvs.find? fun kv=>decide (kv.1=k)).map (·.2)
def jO (kvs:Ab (Key × D))(k:Key)(v:D):Ab (Key × D):=
 if (kvs.any fun kv=>decide (kv.1=k))=true then kvs.map (fun kv=>if kv.1=k then (kv.1,v) else kv) else kvs++[(k,v)]
section
variable {K:Ak}{P:Hp}{α : Ab Af}
theorem F8 {kvs:Ab (Key × D)}{vs:Ab (Key × V)}(r:KVs K P α kvs vs):kvs.length=vs.length:=Paired.length r
theorem iX {k:Key}:∀ {kvs:Ab (Key × D)} {vs:Ab (Key × V)},KVs K P α kvs vs→(∀ d,uS kvs k=Aa d→∃ v,vY vs k=Aa v∧Rep K P α d v)∧(uS kvs k=none→vY vs k=none)
 |_,_,.nil=>⟨fun d h=>by simp[uS] at h,fun _=>rfl⟩
 |(k1,d1)::kvs,(k2,v2)::vs,.cons z t=>by
  obtain⟨e,r⟩:=z;dsimp only at e r;subst e;obtain⟨h1,h2⟩:=iX (k:=k) t;unfold uS vY at *;by_cases hk:k1=k
  ·subst hk
   constructor
   ·intro d h
    simp at h;subst h;exact⟨v2,by simp,r⟩
   ·intro h
    simp at h
  ·constructor
   ·intro d h
    rw[Rw (by simpa using hk)] at h ⊢
    exact h1 d h
   ·intro h
    rw[Rw (by simpa using hk)] at h ⊢
    exact h2 h
theorem F6 {k:Key}{kvs:Ab (Key × D)}{vs:Ab (Key × V)}(h:KVs K P α kvs vs):(kvs.any fun kv=>decide (kv.1=k))=(vs.any fun kv=>decide (kv.1=k)):=by
 induction h with
 |nil=>rfl
 |cons z t ih=>rw[Jd,Jd,ih,z.1]
theorem F9 {k:Key}{d:D}{v:V}(q:Rep K P α d v){kvs:Ab (Key × D)}{vs:Ab (Key × V)}(h:KVs K P α kvs vs):KVs K P α (kvs.map fun kv=>if kv.1=k then (kv.1,d) else kv) (vs.map fun kv=>if kv.1=k then (kv.1,v) else kv):=by
 induction h with
 |nil=>exact .nil
 |cons z t ih =>
  rw[Df,Df];refine .cons ?_ ih;rw[← z.1]
  split
  ·exact⟨rfl,q⟩
  ·exact z
theorem F7 {k:Key}{d:D}{v:V}(q:Rep K P α d v){kvs:Ab (Key × D)}{vs:Ab (Key × V)}(h:KVs K P α kvs vs):KVs K P α (kvs++[(k,d)]) (vs++[(k,v)]):=by
 induction h with
 |nil=>exact .cons ⟨rfl,q⟩ .nil
 |cons z t ih=>exact .cons z ih
theorem FA {k:Key}{d:D}{v:V}(q:Rep K P α d v){kvs:Ab (Key × D)}{vs:Ab (Key × V)}(r:KVs K P α kvs vs):KVs K P α (jO kvs k d) (uL vs k v):=by
 unfold jO uL;rw[F6 r]
 split
 ·exact F9 q r
 ·exact F7 q r
theorem W4 {d:D}{k:Key}{v:V}(h:jM d=Aa k)(r:Rep K P α d v):v=kV k:=by
 cases d with
 |int i=>cases h;simp only[Rep] at r;exact r
 |str x=>cases h;simp only[Rep] at r;exact r
 |_=>cases h
end
section
variable {X:Cx}{o i e:Bq}{pos:Ez}{fo fi:DE}
def VS:DE:=fun _ S=>.ok (.loc S.length) (S++[.dct []])
theorem NO:PE X (.Dict [] [] pos) (tD X VS):=by
 refine peW cO fun σ H Q ⟨P,α,env,S,r,re,af⟩ p hp=>?_;have hpre:α<+:α++[p]:=Hn _ _;have r1:=r.new (o:=.dK []) (m:=.dct []) hp ⟨[],zQ,.nil⟩;refine af _ _ _ _ r1 (qH.refl _) hpre ?_;simp only[Rep];exact⟨p,rfl,by rw[← r.len];simp⟩
def gY:DE:=fun _ S=>.ok .dct0 S
theorem B2:PE X (.Dict [] [] pos) (tD X gY):=by
 refine peW cO fun σ H Q ⟨P,α,env,S,r,re,af⟩ p hp=>?_;obtain⟨r1,e1⟩:=r.pure (o:=.dK []) hp;refine af _ _ _ α r1 e1 (Bg _) ?_;simp only[Rep];exact⟨p,rfl,zQ⟩
def vO:G3:=fun o i d S=>match o with
 |.loc n=>match S[n]? with
  |some (.dct kvs)=>match jM i with
   |some k=>if kvs.length<lim then .ok () (S.set n (.dct (jO kvs k d))) else .bad
   |none=>.bad
  |_=>mC o i d S
 |_=>mC o i d S
inductive Set2V (a b d:D)(S:Sto):Prop
 |bad (e:vO a b d S=.bad)
 |old (e:vO a b d S=mC a b d S)
 |of (n:Ah) (kvs:Ab (Key × D)) (k:Key) (ea:a=.loc n) (hS:S[n]? = Aa (.dct kvs)) (hk:jM b=Aa k) (hl:kvs.length<lim) (e:vO a b d S=.ok () (S.set n (.dct (jO kvs k d))))
theorem A6 (a b d:D)(S:Sto):Set2V a b d S:=by
 cases a with
 |loc n =>
  have z:vO (.loc n) b d S=(match S[n]? with|some (.dct kvs)=>(match jM b with|some k=>(if kvs.length<lim then .ok () (S.set n (.dct (jO kvs k d))) else .bad)|none=>.bad)|_=>mC (.loc n) b d S):=rfl
  cases hS:S[n]? with
  |none=>rw[hS] at z;exact .old z
  |some m =>
   rw[hS] at z;cases m with
   |dct kvs =>
    cases hk:jM b with
    |none=>rw[hk] at z;exact .bad z
    |some k =>
     rw[hk] at z;by_cases hl:kvs.length<lim
     ·exact .of n kvs k rfl hS hk hl (z.trans (AT hl))
     ·exact .bad (z.trans (Bc hl))
   |_=>exact .old z
 |_=>exact .old rfl
theorem E5 (hu:X.A.units+1<Ds):rQ X (rN X vO):=by
 intro pins s σ H o i v ov iv u Q I ro ri rv h;obtain⟨P,α,S,a,b,d,r,pa,pb,pd,af⟩:=h;cases A6 a b d S with
 |bad e=>rw[e] at af;exact Ao af
 |old e =>
  rw[e] at af;exact A7 pins s σ H o i v ov iv u Q I ro ri rv ⟨P,α,S,a,b,d,r,pa,pb,pd,af⟩
 |of n kvs k ea hS hk hl e =>
  rw[e] at af;subst ea;simp only[Rep] at pa;obtain⟨p,rfl,q⟩:=pa;obtain⟨vs,z,t⟩:=r.at' n p _ q hS;cases W4 hk pb;cases (show ov=Ch p from ro)
  refine XA hu I (nV.k (v:=v) z (by rw[← F8 t,← xT];exact hl)) ri rv fun s' I'=>⟨_,I',?_⟩
  exact af _ P α (r.put (m':=.dct (jO kvs k d)) q hS (by intro z;cases z) ⟨_,zQ,FA pd t⟩) (qH.refl _) (Bg _)
def b5:D→Ab D→Sto→Res D:=fun a ds S=>match a,ds with
 |.loc n,[i,x]=>match S[n]? with
  |some (.dct kvs)=>match jM i with
   |some k=>.ok ((uS kvs k).getD x) S
   |none=>.bad
  |_=>.bad
 |_,_=>.bad
inductive GetV (a:D)(ds:Ab D)(S:Sto):Prop
 |bad (e:b5 a ds S=.bad)
 |of (n:Ah) (i x:D) (kvs:Ab (Key × D)) (k:Key) (ea:a=.loc n) (ed:ds=[i,x]) (hS:S[n]? = Aa (.dct kvs)) (hk:jM i=Aa k) (e:b5 a ds S=.ok ((uS kvs k).getD x) S)
theorem IM (a:D)(ds:Ab D)(S:Sto):GetV a ds S:=by
 cases a with
 |loc n =>
  cases ds with
  |nil=>exact .bad rfl
  |cons i ds =>
   cases ds with
   |nil=>exact .bad rfl
   |cons x ds =>
    cases ds with
    |cons _ _=>exact .bad rfl
    |nil =>
     have z:b5 (.loc n) [i,x] S=(match S[n]? with|some (.dct kvs)=>(match jM i with|some k=>.ok ((uS kvs k).getD x) S|none=>.bad)|_=>.bad):=rfl
     cases hS:S[n]? with
     |none=>rw[hS] at z;exact .bad z
     |some m =>
      rw[hS] at z;cases m with
      |dct kvs =>
       cases hk:jM i with
       |none=>rw[hk] at z;exact .bad z
       |some k=>rw[hk] at z;exact .of n i x kvs k rfl rfl hS hk z
      |_=>exact .bad z
 |_=>exact .bad rfl
theorem DN (hu:X.A.units+1<Ds):MtD X "dict.get" b5:=by
 intro pins σ H s P α S v vv vs us a ds Q I r rv p rvs rps af;cases IM a ds S with
 |bad e=>rw[e] at af;exact Ao af
 |of n i x kvs k ea ed hS hk e =>
  rw[e] at af;subst ea ed;obtain⟨vi,vx,ui,ux,rfl,rfl,pi,px,qi,qx⟩:=fL rps rvs;simp only[Rep] at p;obtain⟨b,rfl,q⟩:=p;obtain⟨ws,z,t⟩:=r.at' n b _ q hS;cases W4 hk pi;cases (show vv=Ch b from rv)
  refine NI hu I (nU.k z) qi qx fun w' s' I' rw'=>⟨_,H,I',rw',xr af r ?_⟩;obtain⟨h1,h2⟩:=iX (k:=k) t;cases hv:uS kvs k with
  |none=>rw[h2 hv];exact px
  |some d =>
   obtain⟨w,e1,e2⟩:=h1 d hv;rw[e1];exact e2
def tG:D→Ab D→Sto→Res D:=fun a ds S=>match a,ds with
 |.lst xs,[.bl k]=>match xX xs with
  |some bs=>.ok (.int (bs.countP (· == k):Ah)) S
  |none=>.bad
 |_,_=>.bad
def lE (k:As):Ab As→Am Ah
 |[]=>none
 |b::r=>if b=k then Aa 0 else (lE k r).map (· + 1)
def tH:D→Ab D→Sto→Res D:=fun a ds S=>match a,ds with
 |.lst xs,[.bl k]=>match (xX xs).bind (lE k) with
  |some j=>.ok (.int j) S
  |none=>.bad
 |_,_=>.bad
theorem eO (k:As){bs:Ab As}{y:Ac}(hy:y∈(bs.map Fi).toArray):f8 y (.bool k) (Rx k y):=by
 have hy':y∈bs.map Fi:=by rwa [List.mem_toArray] at hy
 obtain⟨b,_,rfl⟩:=Bt.mp hy';exact fun prog w A E s Q h=>Yu b k prog w E Q h
theorem aP (k:As)(bs:Ab As):(bs.map Fi).countP (Rx k)=bs.countP (· == k):=by
 rw[Ry];rfl
theorem ZV {β : Type}{r:Res β}{P:Hp}{α : Ab Af}{Ok:β→Sto→Prop}(e:r=.bad)(h:qJ X P α r Ok):Fc:=by
 rw[e] at h;exact h
inductive BlV (a:D)(ds:Ab D):Prop
 |no (h:∀ (g:Ab D→As→Res D),(match a,ds with|.lst xs,[.bl k]=>g xs k|_,_=>.bad)=.bad)
 |of (xs:Ab D) (k:As) (ea:a=.lst xs) (ed:ds=[.bl k])
theorem blV (a:D)(ds:Ab D):BlV a ds:=by
 cases a with
 |lst xs =>
  cases ds with
  |nil=>exact .no fun _=>rfl
  |cons d ds =>
   cases ds with
   |cons _ _=>cases d <;> exact .no fun _=>rfl
   |nil =>
    cases d with
    |bl k=>exact .of xs k rfl rfl
    |_=>exact .no fun _=>rfl
 |_=>exact .no fun _=>rfl
theorem UX:MtD X "list.count" tG:=by
 intro pins σ H s P α S v vv vs us a ds Q I r rv p rvs rps af;cases blV a ds with
 |no h=>exact(ZV (X:=X) (r:=tG a ds S) (h _) af).elim
 |of xs k ea ed =>
  subst ea ed;have af:qJ X P α (match xX xs with|some bs=>Res.ok (D.int (bs.countP (· == k):Ah)) S|none=>.bad) (OkV X P α Q):=af
  cases hb:xX xs with
  |none=>rw[hb] at af;exact Ao af
  |some bs =>
   rw[hb] at af;obtain⟨vx,ux,rfl,rfl,px,qx⟩:=uM rps rvs;simp only[Rep] at px;subst px;cases (show ux=Fi k from qx)
   obtain⟨b,ws,its,n,rfl,sq,t,rvi,ht,hl,_⟩:=uH I r p;cases (show vv=Ch b from rv)
   have hi:=uC hb t rvi;subst hi;refine Nk Qw ⟨_,ht,rfl⟩ PySem.F.entry_list_count (PySem.F.args_list_count_2 _ _) (PySem.SeqAt.list_countAt b (bs.map Fi).toArray n none #[] (.bool k) (Rx k)) ⟨ht,fun y hy=>(eO k hy).at _ _,?_⟩;refine⟨.int _,H,I.tok _,⟨_,rfl⟩,?_⟩;rw[show (bs.map Fi).toArray.toList=bs.map Fi from rfl,aP]
   exact xr af r (by simp only[Rep])
theorem iP {k:As}:∀ {bs:Ab As} {j:Ah},lE k bs=Aa j→∃ h:j<bs.length,bs[j]=k∧∀ m (hm:m<bs.length),m<j→bs[m]≠k
 |[],j,h=>by cases h
 |b::r,j,h=>by
  unfold lE at h;by_cases hb:b=k
  ·rw[AT hb] at h
   cases h;exact⟨by simp,by simpa using hb,fun m hm z=>absurd z (Nat.not_lt_zero _)⟩
  ·rw[Bc hb] at h
   obtain⟨i,hi,rfl⟩:=Ep.mp h;obtain⟨h1,h2,h3⟩:=iP hi;refine⟨by simp;omega,by simpa using h2,fun m hm hl=>?_⟩
   cases m with
   |zero=>simpa using hb
   |succ m=>simpa using h3 m (by simp at hm;omega) om
theorem UY:MtD X "list.index" tH:=by
 intro pins σ H s P α S v vv vs us a ds Q I r rv p rvs rps af;cases blV a ds with
 |no h=>exact(ZV (X:=X) (r:=tH a ds S) (h _) af).elim
 |of xs k ea ed =>
  subst ea ed;have af:qJ X P α (match (xX xs).bind (lE k) with|some j=>Res.ok (D.int j) S|none=>.bad) (OkV X P α Q):=af
  cases hj:(xX xs).bind (lE k) with
  |none=>rw[hj] at af;exact Ao af
  |some j =>
   rw[hj] at af;obtain⟨bs,hb,hi⟩:=EQ.mp hj;obtain⟨vx,ux,rfl,rfl,px,qx⟩:=uM rps rvs;simp only[Rep] at px;subst px;cases (show ux=Fi k from qx)
   obtain⟨b,ws,its,n,rfl,sq,t,rvi,ht,hl,hz⟩:=uH I r p;cases (show vv=Ch b from rv)
   have hi':=uC hb t rvi;subst hi';obtain⟨h1,h2,h3⟩:=iP hi;have hlen:bs.length≤sizeLine:=by
    have e1:=t.length;have e2:=rvi.length;rw[Ar] at e2;rw[xT] at hz;omega
   refine Nk Qx ⟨_,ht,rfl⟩ PySem.F.entry_list_index (PySem.F.args_list_index_2 _ _) (Ze b (bs.map Fi).toArray n (.bool k) (Rx k) (fun y hy=>eO k hy) j (by simpa using h1) ?_ ?_ ?_) ⟨ht,?_⟩
   ·rw[Fk] at hlen;omega
   ·simp[Rx,h2]
   ·intro m hm hl'
    have hm':m<bs.length:=by simpa using hm
    have:=h3 m hm' hl';simp[Rx,this]
   ·exact⟨.int _,H,I.tok _,⟨_,rfl⟩,xr af r (by simp only[Rep])⟩
end
def bV (S:Sto):Sto:=S.map fun _=>.dead
def KJ:D→As
 |.non=>true
 |.bl _=>true
 |.int _=>true
 |.str _=>true
 |_=>false
def mapO {β γ:Type}(f:β→Am γ) : Ab β → Am (Ab γ)
 |[]=>Aa []
 |b::r=>match f b,mapO f r with
  |some c,Aa cs=>Aa (c::cs)
  |_,_=>none
def v9:Ah→Sto→D→Am D
 |n+1,S,.tup xs=>(mapO (v9 n S) xs).map .tup
 |n+1,S,.lst xs=>(mapO (v9 n S) xs).map .lst
 |n+1,S,.loc i=>match S[i]? with
  |some (.lst xs)=>(mapO (v9 n S) xs).map .lst
  |_=>none
 |_,_,.non=>Aa .non
 |_,_,.bl b=>Aa (.bl b)
 |_,_,.int i=>Aa (.int i)
 |_,_,.str x=>Aa (.str x)
 |_,_,.ty n=>Aa (.ty n)
 |_,_,.obj a=>Aa (.obj a)
 |_,_,.dct0=>Aa .dct0
 |_,_,.exn c=>Aa (.exn c)
 |_,_,_=>none
def jL (H P:Hp)(α : Ab Af):Hp:=fun b=>if (P b).isSome then P b else if b∈α then H b else none
section
variable {K:Ak}{H P:Hp}{α : Ab Af}{S:Sto}
theorem kF (H P:Hp)(α : Ab Af):qH P (jL H P α):=fun b o e=>by
 unfold jL;rw[e];rfl
theorem UH (r:Rel K H P α S):qH (jL H P α) H:=fun b o e=>by
 unfold jL at e
 split at e
 ·exact r.sub b o e
 ·split at e
  ·exact e
  ·cases e
theorem lC {a:Af}(h:P a=none)(ha:a∈α):jL H P α a=H a:=by
 unfold jL;rw[h];simp[ha]
theorem Rel.frz (r:Rel K H P α S):Rel K H (jL H P α) α (bV S) where
 sub:=UH r
 len:=by rw[r.len];simp[bV]
 nd:=r.nd
 sep:=fun i a o h1 h2 h3=>by
  unfold bV at h2;rw[Dm] at h2;cases q:S[i]? with
  |none=>rw[q] at h2;cases h2
  |some m=>rw[q] at h2;cases h2;exact absurd rfl h3
 at':=fun i a o h1 h2=>by
  unfold bV at h2;rw[Dm] at h2;cases q:S[i]? with
  |none=>rw[q] at h2;cases h2
  |some m=>rw[q] at h2;cases h2;trivial
 own:=r.own
theorem Rel.unfrz {H' P1:Hp}{α1:Ab Af}{S1:Sto}(r:Rel K H P α S)(r1:Rel K H' P1 α1 S1)(e:qH (jL H P α) P1):Rel K H' P α S:=by
 have mem:∀ i a,α[i]? = Aa a→a∈α:=fun i a h=>Ca h;have kp:∀ (i:Ah) (a:Af) (o:MO) (u:HO),α[i]? = Aa a→S[i]? = Aa o→o≠MO.dead→H a=Aa u→H' a=Aa u:=fun i a o u h1 h2 h3 h4 =>
  r1.sub a u (e a u (by rw[lC (r.sep i a o h1 h2 h3) (mem i a h1)];exact h4))
 refine⟨(kF H P α).trans (e.trans r1.sub),r.len,r.nd,r.sep,fun i a o h1 h2=>?_,fun i a h1=>?_⟩
 ·have m:=r.at' i a o h1 h2
  cases o with
  |dead=>trivial
  |lst ds=>obtain⟨vs,q,t⟩:=m;exact⟨vs,kp i a _ _ h1 h2 (by intro z;cases z) q,t⟩
  |dct kvs=>obtain⟨vs,q,t⟩:=m;exact⟨vs,kp i a _ _ h1 h2 (by intro z;cases z) q,t⟩
  |ins C fs=>obtain⟨dx,vs,q,t⟩:=m;exact⟨dx,vs,kp i a _ _ h1 h2 (by intro z;cases z) q,t⟩
 ·have h:=r.own i a h1
  cases q:H a with
  |none=>exact absurd q h
  |some u =>
   have z:∃ u',jL H P α a=Aa u':=by
    cases q2:P a with
    |none=>exact⟨u,by rw[lC q2 (mem i a h1)];exact q⟩
    |some u'=>exact⟨u',kF H P α a u' q2⟩
   obtain⟨u',z⟩:=z;rw[r1.sub a u' (e a u' z)];intro w;cases w
set_option tactic.hygienic true in
theorem qF.mapO {f:D→Am D}{P':Hp}(h:∀ d t v,f d=Aa t→Rep K P α d v→Rep K P' α t v):∀ {ds ts:Ab D} {vs:Ab V},_D.mapO f ds=Aa ts→qF K P α ds vs→qF K P' α ts vs
 |[],ts,vs,e,r=>by cases e;rw[r.nil_inv];exact .nil
 |d::ds,ts,vs,e,r=>by
  obtain⟨w,ws,rfl,r1,r2⟩:=r.cons_inv;unfold _D.mapO at e
  split at e
  ·rename_i c cs h1 h2
   cases e;exact .cons (h d c w h1 r1) (qF.mapO h h2 r2)
  ·cases e
theorem ML (r:Rel K H P α S):∀ (n:Ah) (d t:D) (v:V),v9 n S d=Aa t→Rep K P α d v→Rep K (jL H P α) α t v:=by
 have mono:∀ (d:D) (v:V),Rep K P α d v→Rep K (jL H P α) α d v:=fun d v=>Rep.mono (kF H P α) (Bg _) d v;intro n
 induction n with
 |zero =>
  intro d t v h p;cases d <;> first|(cases h;exact mono _ _ p)|exact nn h
 |succ n ih =>
  intro d t v h p;cases d with
  |tup xs =>
   obtain⟨ts,h1,rfl⟩:=Ep.mp h;simp only[Rep] at p ⊢;obtain⟨a,vs,rfl,q,t⟩:=p;exact⟨a,vs,rfl,vX (kF H P α) q,qF.mapO (fun d t v=>ih d t v) h1 t⟩
  |lst xs =>
   obtain⟨ts,h1,rfl⟩:=Ep.mp h;simp only[Rep] at p ⊢;obtain⟨a,vs,rfl,q,t⟩:=p;exact⟨a,vs,rfl,wC (kF H P α) q,qF.mapO (fun d t v=>ih d t v) h1 t⟩
  |loc i =>
   have h:(match S[i]? with|some (.lst xs)=>(_D.mapO (v9 n S) xs).map D.lst|_=>none)=Aa t:=h
   cases hS:S[i]? with
   |none=>rw[hS] at h;exact nn h
   |some m =>
    rw[hS] at h;cases m with
    |lst xs =>
     obtain⟨ts,h1,rfl⟩:=Ep.mp h;simp only[Rep] at p ⊢;obtain⟨a,rfl,q⟩:=p;obtain⟨vs,z,t⟩:=r.at' i a _ q hS;refine⟨a,vs,rfl,.inl (.inl ?_),qF.mapO (fun d t v=>ih d t v) h1 t⟩;rw[lC (r.sep i a _ q hS (by intro z;cases z)) (Ca q)]
     exact z
    |_=>exact nn h
  |fd ks ds=>exact nn h
  |_=>cases h;exact mono _ _ p
theorem VB {P':Hp}{α' : Ab Af}{d:D}{v:V}(h:KJ d=true)(p:Rep K P α d v):Rep K P' α' d v:=by
 cases d with
 |non=>simpa only [Rep] using p
 |bl b=>simpa only [Rep] using p
 |int i=>simpa only [Rep] using p
 |str x=>simpa only [Rep] using p
 |_=>cases h
end
def VY:Ah:=20
def G7 (r:Res D)(S:Sto):Res D:=match r with
 |.ok d _=>if KJ d then .ok d S else .bad
 |_=>.bad
theorem Z5 {X:Cx}{H P:Hp}{α : Ab Af}{S:Sto}{r:Res D}{Q:VK}(rl:Rel X.K H P α S)(af:zA X P α (G7 r S) Q):zA X (jL H P α) α r Q:=by
 cases r with
 |ok d S' =>
  obtain⟨ha,af⟩:=vN (X:=X) af;exact fun v H' P' α' r' e1 e2 rp=>af v H' P α (rl.unfrz r' e1) (qH.refl _) (Bg _) (VB ha rp)
 |ex c x S'=>exact Ao af
 |bad=>exact Ao af
section
variable {X:Cx}
def uG (F:DF):DF:=fun ds S=>match mapO (v9 VY S) ds with
 |some ts=>G7 (F ts (bV S)) S
 |none=>.bad
variable {cm:As}{k:Ah}{f:Af}{fd:Fj}{ps:Ab Au}{F:DF}{x:Au}{p pos:Ez}{e:Bq}{es:Ab Bq}{fa:DA}{n:Ah}
set_option tactic.hygienic true in
theorem VU (G:FnX X.prog X.w X.K X.mg X.base cm k f fd ps (spD X.K n F))(hr:RoomC cm k X.A)(hF:Fn1 X)(hg:Gl X x)(hm:X.mg x=Aa (.ref f))(hk:Dz X.K (.ref f)=true)(hb:u9 X.K fd ps [])
  (ha:PA X (e::es) (tDA X fa)) (hdb:(x == ("__debug__" : Au))=false:=by decide) (he:Bb (e::es) X.env=(false,eval e X.env)::Bb es X.env:=by rfl) (hpl:(Fp pos (Bb es X.env)).any (·.1)=false:=by rfl) :
  PE X (.Call (.Name x p) (e::es) [] pos) (tD X (qG n (uG F) fa)):=by
 intro pins s σ H Q I h;obtain⟨P,α,env,S,r,re,af⟩:=h;refine Gf (jX I hg hm ?_ hdb);refine Lb (h₀:=X.base) I.ok.mod.kin hk (thn (yO ha I r re af pos) fun us s1 ⟨vs,H1,P1,α1,ds,S1,I1,rv,r1,re1,rp,e1,e2,af1⟩=>⟨I1.kIn,?_⟩) he hpl;obtain⟨hn,af2⟩:=pZ (env:=env) (S:=S) af1;have af3:=zA.base e1 e2 af2;unfold uG at af3
 split at af3
 ·rename_i ts ht
  have rp':=qF.mapO (fun d t v=>ML r1 VY d t v) ht rp;have hl:ts.length=n:=by rw[rp'.length,← rp.length];exact hn
  exact lW G hr hb hF I1 r1.frz rv rp' hl (Z5 r1 af3)
 ·exact Ao af3
end
section
variable {X:Cx}{a b c e:Bq}{pos:Ez}{fa fe:DE}
def OF (X:Cx)(g:G2):TIp:=fun x y H Q=>∃ P α S a b,Rel X.K H P α S∧Rep X.K P α a x∧Rep X.K P α b y∧zA X P α (g a b S) Q
def IpD (X:Cx)(op:Lw)(g:G2):Prop:=PIp X op (OF X g)
def mM (i:Ah)(g:G2)(fe:DE):DS:=fun env S=>match env[i]? with
 |some (Aa x)=>(fe env S).toS env fun y S1=>(g x y S1).toS env fun z S2=>.nx (env.set i (Aa z)) S2
 |_=>.bad
set_option tactic.hygienic true in
theorem L7 {i:Ah}{x:Au}{op:Lw}{g:G2}{pos':Ez}(hN:X.N.Nodup)(he:PE X e (tD X fe))(ho:IpD X op g)(hi:X.N[i]? = Aa x:=by rfl)(hx:Loc X.env.scope x:=by first|exact Wz rfl|exact Ur rfl)
  (hf:X.fn x=true∨X.env.scope.names.lookup x=Aa .local:=by first|exact .inl rfl|exact .inr rfl|assumption):PS X (.AugAssign (.Name x pos') op e pos) (tDS X (mM i g fe)):=
 psW (R6 hN hi hx he ho hf) fun D σ H ⟨P,α,env,S,r,re,af⟩=>by
  unfold mM at af
  split at af
  ·rename_i d hd
   obtain⟨v,hv,pv⟩:=re.2 i d hd;refine⟨v,hv,P,α,env,S,r,re,?_⟩;have af1:=xZ af;cases q:fe env S with
   |bad=>rw[q] at af1;exact af1
   |ex c x S'=>rw[q] at af1;exact af1
   |ok y S1 =>
    rw[q] at af1;intro u H1 P1 α1 r1 e1 e2 rp;refine⟨P1,α1,S1,d,y,r1,Rep.mono e1 e2 _ _ pv,rp,?_⟩;have af2:=xZ (zB.base e1 e2 af1);cases q2:g d y S1 with
    |bad=>rw[q2] at af2;exact af2
    |ex c x S'=>rw[q2] at af2;exact af2
    |ok z S2 =>
     rw[q2] at af2;exact fun w H2 P2 α2 r2 e3 e4 rp2=>af2 _ H2 P2 α2 r2 (((re.mono e1 e2).mono e3 e4).set i rp2) e3 e4
  ·exact Ao af
def rF:G2:=i2 (fun _ _=>true) fun i j=>.int (i+j)
theorem BW:IpD X .Add rF:=by
 intro pins s σ H x y v u Q I rx ry h;obtain⟨P,α,S,a,b,r,pa,pb,af⟩:=h;obtain⟨i,j,rfl,rfl,_,ok⟩:=QU af;exact LY pins s σ H x y v u Q I rx ry ⟨i,j,w8 pa,w8 pb,xr ok r (by simp only[Rep])⟩
def oB (i j k:Ah)(env:qD)(S1:Sto):Ab D→Out
 |[x,y,z]=>.nx (((env.set i (Aa x)).set j (Aa y)).set k (Aa z)) S1
 |_=>.bad
def qAC (i j k:Ah)(f:DA):DS:=fun env S=>(f env S).toS env fun ds S1=>oB i j k env S1 ds
def zW (xs:Ab D)(lo hi:Am Aj):Ab D:=(xs.drop (_H.sIx xs.length 0 lo)).take (_H.sIx xs.length xs.length hi-_H.sIx xs.length 0 lo)
abbrev DO:=qD→Sto→Res (Am Aj)
def OkO (X:Cx)(P:Hp)(α : Ab Af)(Q:Am Aj→Hp→Prop)(o:Am Aj)(S':Sto):Prop:=∀ H' P' α',Rel X.K H' P' α' S'→qH P P'→α<+:α'→Q o H'
def tDO (X:Cx)(f:DO):TO:=fun σ H Q=>∃ P α env S,Rel X.K H P α S∧zJ X.K P α σ env∧qJ X P α (f env S) (OkO X P α Q)
def zE:DO:=fun _ S=>.ok none S
def qY (f:DE):DO:=fun env S=>(f env S).bind fun d S1=>match d with
 |.int i=>.ok (Aa i) S1
 |_=>.bad
theorem BB:PO X none (tDO X zE):=fun pins s σ H Q I ⟨P,α,env,S,r,re,af⟩=>M0 pins s σ H Q I (af H P α r (qH.refl _) (Bg _))
theorem BC (he:PE X e (tD X fe)):PO X (Aa e) (tDO X (qY fe)):=by
 intro pins s σ H Q I h;obtain⟨P,α,env,S,r,re,af⟩:=h;refine M1 (te:=tD X fe) he pins s σ H Q I ⟨P,α,env,S,r,re,?_⟩;have af':qJ X P α ((fe env S).bind fun d S1=>match d with|.int i=>.ok (Aa i) S1|_=>.bad) (OkO X P α Q):=af
 cases q:fe env S with
 |bad=>rw[q] at af';exact af'
 |ex c x S'=>rw[q] at af';exact af'
 |ok d S1 =>
  rw[q] at af';intro v H1 P1 α1 r1 e1 e2 rp;cases d with
  |int i=>exact⟨i,w8 rp,af' H1 P1 α1 r1 e1 e2⟩
  |_=>exact Ao af'
theorem qF.cut {K:Ak}{P:Hp}{α : Ab Af}{ds:Ab D}{vs:Ab V}(r:qF K P α ds vs)(lo hi:Am Aj):qF K P α (zW ds lo hi) (pV vs lo hi):=by
 unfold zW pV;rw[r.length];exact(r.drop _).take _
def gSl (d:D)(lo hi:Am Aj)(S:Sto):Res D:=match d with
 |.lst xs=>.ok (.lst (zW xs lo hi)) S
 |.loc i=>match S[i]? with
  |some (.lst xs)=>.ok (.lst (zW xs lo hi)) S
  |_=>.bad
 |.tup xs=>.ok (.tup (zW xs lo hi)) S
 |_=>.bad
def dSl (fe:DE)(fl fh:DO):DE:=fun env S=>(fe env S).bind fun d S1=>(fl env S1).bind fun lo S2=>(fh env S2).bind fun hi S3=>gSl d lo hi S3
end
end _D
namespace _D
open PySem PySem.Spec PyProof.Rows _L _H
section
variable {prog:Bh}{w:Bv}{A:Bo}{E:Ac→Ag→Prop}{s:Ag}
theorem pQ {t sl:Af}{items:Bk Ac}{vl vu:Ac}{lo hi:Am Aj}{Q:Ac→Ag→Prop}(ht:Nt s.heap t items)(hs:s.heap.IsSliceOf sl vl vu .none)(pl:Oq vl lo)(pu:Oq vu hi)
  (hw:sIx items.size 0 lo=0∧sIx items.size items.size hi=items.size) (h:Q (.ref t) s):Ap (Aw prog w) A (Md (.ref t) (.ref sl)) Q E s:=by
 obtain⟨ob,hob,hcb,_⟩:=id hs;have hTs:s.TypeIs (.ref sl) "slice":=⟨ob,hob,hcb⟩;unfold Md
 try with_reducible refine Dj ?_
 first|refine Ad (Al ?_)|skip
 refine Ad (Pe ht.typeIs (by decide) ?_)
 refine Ad (Ee (name:=Gd "__getitem__") ht.typeIs Dh
  (Eh Dh ht.typeIs Nj ?_ (Og _ _)))
 show Ap _ _ (Jx (.ref t) >>= _) _ _ s;refine Ad (Tx ht ?_);refine Ad (Ju hTs ?_);rw[AT (by decide)]
 refine Ad (kO hs pl pu ?_);show Ap _ _ (if (((sIx items.size 0 lo:Ah):Aj) == 0&&(1:Aj) == 1&&(sIx items.size items.size hi-sIx items.size 0 lo) == items.size)=true then _ else _) _ _ s
 rw[hw.1,hw.2,AT (by simp)]
 unfold Yv;refine Ad (Ad (Ju ht.typeIs (Al ?_)));rw[AT (by decide)]
 exact Ad (Kf (Al ⟨_,rfl,Al h⟩))
end
section
variable {X:Cx}{e:Bq}{fe:DE}{pos p2:Ez}
def O7 (X:Cx):V→Am Aj→Am Aj→Hp→VK→Prop:=fun x lo hi H Q=>∃ P α S d,Rel X.K H P α S∧Rep X.K P α d x∧zA X P α (gSl d lo hi S) Q
theorem OB:SlR X (O7 X):=by
 intro pins s σ H x v vl vu lo hi sl Q I rx hs pl pu h;obtain⟨P,α,S,d,r,p,af⟩:=h;cases d with
 |lst xs =>
  simp only[Rep] at p;obtain⟨a,vs,rfl,q,t⟩:=p;exact oO pins s σ H _ v vl vu lo hi sl Q I rx hs pl pu ⟨a,vs,rfl,(wC r.sub q).l,fun b hb=>vU r hb (qF.cut t lo hi) af⟩
 |loc i =>
  obtain⟨xs,hS,af⟩:=pB (X:=X) (f:=fun xs=>Res.ok (D.lst (zW xs lo hi)) S) af;simp only[Rep] at p;obtain⟨a,rfl,q⟩:=p;obtain⟨vs,z,t⟩:=r.at' i a _ q hS;exact oO pins s σ H _ v vl vu lo hi sl Q I rx hs pl pu ⟨a,vs,rfl,SqL.of z,fun b hb=>vU r hb (qF.cut t lo hi) af⟩
 |tup xs =>
  have p0:=p;simp only[Rep] at p;obtain⟨a,vs,rfl,q,t⟩:=p;by_cases hw:sIx vs.length 0 lo=0∧sIx vs.length vs.length hi=vs.length
  ·cases rx
   obtain⟨its,rv,ht,hz⟩:=I.tuple (wR r.sub q);have hlen:its.toArray.size=vs.length:=by rw[Be];exact rv.length.symm
   refine⟨"tuple",_,Dh.lookup,ht.typeIs,pQ ht hs pl pu (by rw[hlen];exact hw) ⟨.ref a,H,I,rfl,xr af r ?_⟩⟩
   have e:zW xs lo hi=xs:=by
    unfold zW;rw[t.length,hw.1,hw.2,← t.length];simp
   rw[e];exact p0
  ·exact E7 pins s σ H _ v vl vu lo hi sl Q I rx hs pl pu ⟨a,vs,rfl,wR r.sub q,hw,fun b hb=>pE r hb (qF.cut t lo hi) af⟩
 |_=>exact Ao af
theorem VX {lo hi:Am Bq}{fl fh:DO}(he:PE X e (tD X fe))(hl:PO X lo (tDO X fl))(hu:PO X hi (tDO X fh)):PE X (.Subscript e (.Slice lo hi none p2) pos) (tD X (dSl fe fl fh)):=
 peW (JG OB he hl hu) fun σ H Q ⟨P,α,env,S,r,re,af⟩=>by
  refine⟨P,α,env,S,r,re,?_⟩;have af':qJ X P α ((fe env S).bind fun d S1=>(fl env S1).bind fun lo S2=>(fh env S2).bind fun hi S3=>gSl d lo hi S3) (OkV X P α Q):=af;cases q:fe env S with
  |bad=>rw[q] at af';exact af'
  |ex c x S'=>rw[q] at af';exact af'
  |ok d S1 =>
   rw[q] at af';intro v H1 P1 α1 r1 e1 e2 rp;refine⟨P1,α1,env,S1,r1,re.mono e1 e2,?_⟩;have af2:qJ X P1 α1 ((fl env S1).bind fun lo S2=>(fh env S2).bind fun hi S3=>gSl d lo hi S3) (OkV X P1 α1 Q):=zA.base e1 e2 af';cases q2:fl env S1 with
   |bad=>rw[q2] at af2;exact af2
   |ex c x S'=>rw[q2] at af2;exact af2
   |ok l S2 =>
    rw[q2] at af2;intro H2 P2 α2 r2 e3 e4;refine⟨P2,α2,env,S2,r2,(re.mono e1 e2).mono e3 e4,?_⟩;have af3:qJ X P2 α2 ((fh env S2).bind fun hi S3=>gSl d l hi S3) (OkV X P2 α2 Q):=zA.base e3 e4 af2;cases q3:fh env S2 with
    |bad=>rw[q3] at af3;exact af3
    |ex c x S'=>rw[q3] at af3;exact af3
    |ok u S3 =>
     rw[q3] at af3;intro H3 P3 α3 r3 e5 e6;exact⟨P3,α3,S3,d,r3,Rep.mono (e3.trans e5) (e4.trans e6) _ _ rp,zA.base e5 e6 af3⟩
end
end _D
namespace _D
open PySem PySem.Spec PyProof.Rows _L
def x8 (tp:As)(h:Bi)(it l:Af)(k:Ah):Prop:=if tp then h.IsTupleIter it l k else h.IsListIter it l k
def wZ (tp:As)(h:Bi)(l:Af)(xs:Bk Ac):Prop:=if tp then h.IsTuple l xs else h.IsList l xs
theorem x8.keep {tp:As}{h h':Bi}{it l:Af}{k:Ah}(x:x8 tp h it l k)(q:∀ o,h.get? it=Aa o→h'.get? it=Aa o):x8 tp h' it l k:=by
 cases tp <;> (obtain⟨o,e,r⟩:=x;exact⟨o,q o e,r⟩)
theorem wZ.keep {tp:As}{h h':Bi}{l:Af}{xs:Bk Ac}(x:wZ tp h l xs)(q:∀ o,h.get? l=Aa o→h'.get? l=Aa o):wZ tp h' l xs:=by
 cases tp <;> (obtain⟨o,e,r⟩:=x;exact⟨o,q o e,r⟩)
theorem x8.there {tp:As}{h:Bi}{it l:Af}{k:Ah}(x:x8 tp h it l k):∃ o,h.get? it=Aa o∧∀ v,o.data≠.cell v:=by
 cases tp <;> (obtain⟨o,e,_,d⟩:=x;exact⟨o,e,fun v z=>by rw[d] at z;cases z⟩)
section
variable {prog:Bh}{w:Bv}{A:Bo}{E:Ac→Ag→Prop}{s:Ag}
theorem J8 {it t:Af}{i:Ah}{items:Bk Ac}{x:Ac}{Q:Ac→Ag→Prop}(hit:s.heap.IsTupleIter it t i)(ht:s.heap.IsTuple t items)(hx:items[i]? = Aa x)
  (hQ:∀ h',h'.IsTupleIter it t (i+1)→Gs it s.heap h'→Q x { s with heap:=h' }) : Ap (Aw prog w) A (Do (.ref it)) Q E s:=by
 obtain⟨o,e,c,d⟩:=id hit;obtain⟨u,eu,_,m,du⟩:=ht;unfold Do;refine Ad (Ee (name:=Gd "__next__") hit.typeIs Hv (Eh Hv hit.typeIs Nz ?_ (Nm _)));show Ap _ _ (field (.ref it) 0 >>= _) _ _ s;refine Ad (El e d (x:=.ref t) rfl ?_);show Ap _ _ (if (Ch t == Ed)=true then _ else _) _ _ s;rw[Bc (show ¬ ((Ch t == Ed)=true) from Ge)]
 show Ap _ _ (field (.ref it) 1 >>= _) _ _ s;refine Ad (El e d (x:=.int i 0) rfl ?_);show Ap _ _ (Zf (.ref t) >>= _) _ _ s;refine Ad (Et eu du ?_);simp only[Fl,hx];refine Ad (Ln e d (by simp) (Al ⟨x,rfl,Al (hQ _ ⟨_,Eb _ e (Obj.isFreed_of_fields (Vd d _)),(Obj.cls_mapFields ..).trans c,?_⟩ (Gp ..))⟩))
 rw[Vd d];simp[Sl]
theorem cH {it t:Af}{i:Ah}{items:Bk Ac}{Q:Ac→Ag→Prop}(hh:A.handled=none)(hit:s.heap.IsTupleIter it t i)(ht:s.heap.IsTuple t items)(hx:items[i]? = none)
  (hE:∀ h' e,v4 it s.heap h'→(∃ o,h'.get? e=Aa o∧o.cls=.type "StopIteration")→E (.ref e) { s with heap:=h' }) : Ap (Aw prog w) A (Do (.ref it)) Q E s:=by
 obtain⟨o,e,c,d⟩:=id hit;obtain⟨u,eu,_,m,du⟩:=ht;unfold Do;refine Ad (Ee (name:=Gd "__next__") hit.typeIs Hv (Eh Hv hit.typeIs Nz ?_ (Nm _)));show Ap _ _ (field (.ref it) 0 >>= _) _ _ s;refine Ad (El e d (x:=.ref t) rfl ?_);show Ap _ _ (if (Ch t == Ed)=true then _ else _) _ _ s;rw[Bc (show ¬ ((Ch t == Ed)=true) from Ge)]
 show Ap _ _ (field (.ref it) 1 >>= _) _ _ s;refine Ad (El e d (x:=.int i 0) rfl ?_);show Ap _ _ (Zf (.ref t) >>= _) _ _ s;refine Ad (Et eu du ?_);simp only[Fl,hx];refine Ad (Kf (Ad (Ln e d (by simp) ?_)))
 show Ap _ _ (newExc (.type "StopIteration") [] >>= _) _ _ _;refine Ad ?_;simp only[newExc,newTuple];refine Ad (Dd ?_ (by size_fits))
 refine Ad (m:=NE _ _) (Kn (a:=Ed) (by first|rfl|(simp only[NE];rfl)) (Dd ?_ (by size_fits)))
 simp only[raiseNew];refine Ad (wpAny_handled ?_)
 first|rw[show A.in1.handled=none from hh]|rw[hh]
 exact Ad (Al (wpAny_throw (hE _ _ (((Gp ..).extBut.push _).push _) ⟨_,Az _ rfl,rfl⟩)))
theorem mI {tp:As}{it l:Af}{k:Ah}{xs:Bk Ac}{x:Ac}{Q:Ac→Ag→Prop}(hit:x8 tp s.heap it l k)(hl:wZ tp s.heap l xs)(hx:xs[k]? = Aa x)
  (hQ:∀ h',x8 tp h' it l (k+1)→Gs it s.heap h'→Q x { s with heap:=h' }) : Ap (Aw prog w) A (Do (.ref it)) Q E s:=by
 cases tp with
 |false=>exact wpAny_nextOf_list_item hit hl hx hQ
 |true=>exact J8 hit hl hx hQ
theorem bC {tp:As}{it l:Af}{k:Ah}{xs:Bk Ac}{Q:Ac→Ag→Prop}(hh:A.handled=none)(hit:x8 tp s.heap it l k)(hl:wZ tp s.heap l xs)(hx:xs[k]? = none)
  (hE:∀ h' e,v4 it s.heap h'→(∃ o,h'.get? e=Aa o∧o.cls=.type "StopIteration")→E (.ref e) { s with heap:=h' }) : Ap (Aw prog w) A (Do (.ref it)) Q E s:=by
 cases tp with
 |false=>exact wpAny_nextOf_list_end hh hit hl hx hE
 |true=>exact cH hh hit hl hx hE
structure ZA (z I O i j:Af):Prop where
 Iz:I≠z
 Oz:O≠z
 iz:i≠z
 jz:j≠z
 IO:I≠O
 Ii:I≠i
 Ij:I≠j
 Oi:O≠i
 Oj:O≠j
 ij:i≠j
structure Off (z O i j a:Af):Prop where
 z:a≠z
 O:a≠O
 i:a≠i
 j:a≠j
abbrev V7 (z O i j:Af)(h h':Bi):Prop:=∀ c o,c≠z→c≠O→c≠i→c≠j→h.get? c=Aa o→h'.get? c=Aa o
theorem KC {tp tq:As}{z I O i j a b:Af}{k:Ah}{xs ys:Bk Ac}{x y p q:Ac}{Q:Ac→Ag→Prop}(D:ZA z I O i j)(Da:Off z O i j a)(Db:Off z O i j b)
  (hz:Oa s.heap z I O .none) (hI:Ix s.heap I (.ref i) (.ref j)) (hO:Ix s.heap O p q) (h1:x8 tp s.heap i a k) (h2:x8 tq s.heap j b k) (ha:wZ tp s.heap a xs) (hb:wZ tq s.heap b ys) (hx:xs[k]? = Aa x) (hy:ys[k]? = Aa y)
  (hQ:∀ h',Oa h' z I O (Sl s.heap.objs.size)→Ix h' O x y→x8 tp h' i a (k+1)→x8 tq h' j b (k+1)→Ix h' s.heap.objs.size x y→h'.objs.size=s.heap.objs.size+1→V7 z O i j s.heap h'→Q (.ref s.heap.objs.size) { s with heap:=h' }) :
  Ap (Aw prog w) A (He.«zip.__next__» ⟨[.ref z],[]⟩) (fun fin s'=>∃ v,fin=.done (.ret v)∧Q v s') E s:=by
 show Ap _ _ (field (.ref z) 2 >>= _) _ _ _;refine Ad (El hz rfl (x:=.bool false) rfl ?_);show Ap _ _ (field (.ref z) 3 >>= _) _ _ _;refine Ad (El hz rfl (x:=.ref I) rfl (Ad (Et hI rfl ?_)));show Ap _ _ (Gh (.ref z) >>= _) _ _ _;refine Ad ?_;unfold Gh;refine Ad (El hz rfl (x:=.none) rfl (Al ?_));simp only[De];refine Ad (Kf (Ad (El hz rfl (x:=.ref O) rfl (Ad (Hq hz (by simp) fun g1 z1 s1=>?_)))))
 replace z1:Oa g1 z I O .ellipsis:=z1
 refine Ad ?_;simp only[WF,Xt,Ko,Lm];refine Ad (Ad (Pk ?_));show Ap _ _ (Do (.ref i) >>= _) _ _ _;refine Ad (mI (h1.keep fun o e=>s1.extBut _ _ D.iz e) (ha.keep fun o e=>s1.extBut _ _ Da.z e) hx fun g2 i2 s2=>Al ?_);have O2:Ix g2 O p q:=s2.extBut _ _ D.Oi (s1.extBut _ _ D.Oz hO);refine Ad (Et O2 rfl (Ad (Mr O2 fun g3 O3 s3=>Ad (Kq (Al ?_)))))
 replace O3:Ix g3 O x q:=O3
 refine Ad (Ad (Pk ?_));show Ap _ _ (Do (.ref j) >>= _) _ _ _;refine Ad (mI (h2.keep fun o e=>s3.extBut _ _ D.Oj.symm (s2.extBut _ _ D.ij.symm (s1.extBut _ _ D.jz e))) (hb.keep fun o e=>s3.extBut _ _ Db.O (s2.extBut _ _ Db.i (s1.extBut _ _ Db.z e))) hy fun g4 j4 s4=>Al ?_);have O4:Ix g4 O x q:=s4.extBut _ _ D.Oj O3;refine Ad (Et O4 rfl (Ad (Mr O4 fun g5 O5 s5=>Ad (Kq (Al (Al ?_))))))
 replace O5:Ix g5 O x y:=O5
 refine Ad (Et O5 rfl (Ad (wpAny_newTuple ?_)));have sz:g5.objs.size=s.heap.objs.size:=by rw[s5.1,s4.1,s3.1,s2.1,s1.1]
 have z5:Oa g5 z I O .ellipsis:=s5.extBut _ _ D.Oz.symm (s4.extBut _ _ D.jz.symm (s3.extBut _ _ D.Oz.symm (s2.extBut _ _ D.iz.symm z1)));have k5:V7 z O i j s.heap g5:=fun c o c1 c2 c3 c4 e=>s5.extBut _ _ c2 (s4.extBut _ _ c4 (s3.extBut _ _ c2 (s2.extBut _ _ c3 (s1.extBut _ _ c1 e))));have i5:x8 tp g5 i a (k+1):=i2.keep fun o e=>s5.extBut _ _ D.Oi.symm (s4.extBut _ _ D.ij (s3.extBut _ _ D.Oi.symm e));have j5:x8 tq g5 j b (k+1):=j4.keep fun o e=>s5.extBut _ _ D.Oj.symm e;have zl:z<g5.objs.size:=Ax z5;show Ap _ _ (Kr (.ref z) (.ref g5.objs.size) >>= _) _ _ _;refine Ad ?_;unfold Kr;have z6:Oa (g5.push { cls:=.type "tuple",data:=.seq #[x,y] }) z I O .ellipsis:=Ai _ z5;refine Ad (Hq z6 (by simp) fun g7 z7 s7=>?_)
 replace z7:Oa g7 z I O (Sl g5.objs.size):=z7
 refine Hq z7 (by simp) fun g8 z8 s8=>?_
 replace z8:Oa g8 z I O (Sl g5.objs.size):=z8
 have up:∀ c o,c≠z→g5.get? c=Aa o→g8.get? c=Aa o:=fun c o c1 e=>s8.extBut _ _ c1 (s7.extBut _ _ c1 (Ai _ e));have T8:Ix g8 g5.objs.size x y:=s8.extBut _ _ (Hx zl) (s7.extBut _ _ (Hx zl) (Az _ rfl));have sz8:g8.objs.size=g5.objs.size+1:=by rw[s8.1,s7.1,Dl]
 rw[sz] at z8 T8 sz8;refine Al ⟨_,rfl,?_⟩;show Q (.ref g5.objs.size) _;rw[sz];exact hQ g8 z8 (up _ _ D.Oz O5) (i5.keep fun o e=>up _ o D.iz e) (j5.keep fun o e=>up _ o D.jz e) T8 sz8 fun c o c1 c2 c3 c4 e=>up c o c1 (k5 c o c1 c2 c3 c4 e)
end
section
variable {prog:Bh}{w:Bv}{A:Bo}{E:Ac→Ag→Prop}{s:Ag}
theorem KD {tp tq:As}{z I O i j a b:Af}{k:Ah}{xs ys:Bk Ac}{p q:Ac}{Q:Fin→Ag→Prop}(hh:A.handled=none)(D:ZA z I O i j)(Da:Off z O i j a)(Db:Off z O i j b)
  (hz:Oa s.heap z I O .none) (hI:Ix s.heap I (.ref i) (.ref j)) (hO:Ix s.heap O p q) (h1:x8 tp s.heap i a k) (h2:x8 tq s.heap j b k) (ha:wZ tp s.heap a xs) (hb:wZ tq s.heap b ys) (hend:xs[k]? = none∨ys[k]? = none)
  (hE:∀ h' e,V7 z O i j s.heap h'→(∃ o,h'.get? e=Aa o∧o.cls=.type "StopIteration")→E (.ref e) { s with heap:=h' }) : Ap (Aw prog w) A (He.«zip.__next__» ⟨[.ref z],[]⟩) Q E s:=by
 show Ap _ _ (field (.ref z) 2 >>= _) _ _ _;refine Ad (El hz rfl (x:=.bool false) rfl ?_);show Ap _ _ (field (.ref z) 3 >>= _) _ _ _;refine Ad (El hz rfl (x:=.ref I) rfl (Ad (Et hI rfl ?_)));show Ap _ _ (Gh (.ref z) >>= _) _ _ _;refine Ad ?_;unfold Gh;refine Ad (El hz rfl (x:=.none) rfl (Al ?_));simp only[De];refine Ad (Kf (Ad (El hz rfl (x:=.ref O) rfl (Ad (Hq hz (by simp) fun g1 z1 s1=>?_)))))
 replace z1:Oa g1 z I O .ellipsis:=z1
 refine Ad ?_;simp only[WF,Xt,Ko,Lm];refine Ad (Ad (Pk ?_));show Ap _ _ (Do (.ref i) >>= _) _ _ _;have it1:x8 tp g1 i a k:=h1.keep fun o e=>s1.extBut _ _ D.iz e;have sq1:wZ tp g1 a xs:=ha.keep fun o e=>s1.extBut _ _ Da.z e;cases hx:xs[k]? with
 |none =>
  refine Ad (bC hh it1 sq1 hx fun g2 e x2 he=>?_);obtain⟨oe,h3,h4⟩:=he;have z2:Oa g2 z I O .ellipsis:=x2 _ _ D.iz.symm z1;have ne:e≠z:=fun y=>by subst y;rw[z2] at h3;cases h3;simp at h4
  exact Hq z2 (by simp) fun g3 _ s3=>hE g3 e (fun c o c1 _ c3 _ y=>s3.extBut _ _ c1 (x2 _ _ c3 (s1.extBut _ _ c1 y))) ⟨oe,s3.extBut _ _ ne h3,h4⟩
 |some x =>
  have hy:ys[k]? = none:=by
   rcases hend with y|y
   ·rw[hx] at y;cases y
   ·exact y
  refine Ad (mI it1 sq1 hx fun g2 i2 s2=>Al ?_);have O2:Ix g2 O p q:=s2.extBut _ _ D.Oi (s1.extBut _ _ D.Oz hO);refine Ad (Et O2 rfl (Ad (Mr O2 fun g3 O3 s3=>Ad (Kq (Al ?_)))));refine Ad (Ad (Pk ?_));show Ap _ _ (Do (.ref j) >>= _) _ _ _;refine Ad (bC hh (h2.keep fun o e=>s3.extBut _ _ D.Oj.symm (s2.extBut _ _ D.ij.symm (s1.extBut _ _ D.jz e))) (hb.keep fun o e=>s3.extBut _ _ Db.O (s2.extBut _ _ Db.i (s1.extBut _ _ Db.z e))) hy fun g4 e x4 he=>?_);obtain⟨oe,h3,h4⟩:=he;have z4:Oa g4 z I O .ellipsis:=x4 _ _ D.jz.symm (s3.extBut _ _ D.Oz.symm (s2.extBut _ _ D.iz.symm z1));have ne:e≠z:=fun y=>by subst y;rw[z4] at h3;cases h3;simp at h4
  exact Hq z4 (by simp) fun g5 _ s5=>hE g5 e (fun c o c1 c2 c3 c4 y=>s5.extBut _ _ c1 (x4 _ _ c4 (s3.extBut _ _ c2 (s2.extBut _ _ c3 (s1.extBut _ _ c1 y))))) ⟨oe,s5.extBut _ _ ne h3,h4⟩
abbrev tM (tp:As)(l:Af):Co:={ cls:=.type (if tp then "tuple_iterator" else "list_iterator"),data:=.fields #[.ref l,.int 0 0] }
abbrev zh1 (tp:As)(h:Bi)(a:Af):Bi:=h.push (tM tp a)
abbrev zh2 (tp tq:As)(h:Bi)(a b:Af):Bi:=(zh1 tp h a).push (tM tq b)
abbrev zh3 (tp tq:As)(h:Bi)(a b:Af):Bi:=(zh2 tp tq h a b).push { cls:=.type "tuple",data:=.seq #[.ref h.objs.size,.ref (zh1 tp h a).objs.size] }
abbrev zh4 (tp tq:As)(h:Bi)(a b:Af):Bi:=(zh3 tp tq h a b).push { cls:=.type "tuple",data:=.seq #[.none,.none] }
abbrev zh5 (tp tq:As)(h:Bi)(a b:Af):Bi:=(zh4 tp tq h a b).push { cls:=.type "zip",data:=.fields #[.none,.bool false,.bool false,.ref (zh2 tp tq h a b).objs.size,.ref (zh3 tp tq h a b).objs.size] }
set_option maxHeartbeats 4000000 in
theorem TQ (tp:As)(a b:Af)(xs ys:Bk Ac) :
  Meets (He.«zip.__new__» ⟨[.type "zip",.ref a,.ref b],[]⟩) (fun _ R s=>wZ tp s.heap a xs∧wZ tp s.heap b ys∧R (.ok (.ret (.ref (zh4 tp tp s.heap a b).objs.size))) { s with heap:=zh5 tp tp s.heap a b }):=
 .of_wp fun prog w A R s h=>by
  obtain⟨hp,g,d,tk,os⟩:=s;obtain⟨q1,q2,h⟩:=h;have hsub:=sub_zip;have e2:∀ ob:Co,wZ tp (hp.push ob) b ys:=fun ob=>q2.keep fun o e=>Ai _ e;cases tp
  ·have l1:v6 (Sr ⟨hp,g,d,tk,os⟩) a xs:=q1
   have l2:v6 (Sr ⟨hp.push { cls:=.type "list_iterator",data:=.fields #[.ref a,.int 0 0] },g,d,tk,os⟩) b ys:=e2 _
   wp_walk using Ga l1,Ga l2
   exact⟨_,rfl,h⟩
  ·have l1:Zx (Sr ⟨hp,g,d,tk,os⟩) a xs:=q1
   have l2:Zx (Sr ⟨hp.push { cls:=.type "tuple_iterator",data:=.fields #[.ref a,.int 0 0] },g,d,tk,os⟩) b ys:=e2 _
   wp_walk using Ho l1,Ho l2
   exact⟨_,rfl,h⟩
theorem tP {tp:As}{h:Bi}{it l:Af}(e:h.get? it=Aa (tM tp l)):x8 tp h it l 0:=by
 cases tp
 ·exact⟨_,e,rfl,rfl⟩
 ·exact⟨_,e,rfl,rfl⟩
theorem VG {tp:As}{a b:Af}{xs ys:Bk Ac}{Q:Ac→Ag→Prop}(ha:wZ tp s.heap a xs)(hb:wZ tp s.heap b ys)
  (h:∀ h',Oa h' (s.heap.objs.size+4) (s.heap.objs.size+2) (s.heap.objs.size+3) .none→Ix h' (s.heap.objs.size+2) (.ref s.heap.objs.size) (.ref (s.heap.objs.size+1)) →
   Ix h' (s.heap.objs.size+3) .none .none→x8 tp h' s.heap.objs.size a 0→x8 tp h' (s.heap.objs.size+1) b 0→h'.objs.size=s.heap.objs.size+5→(∀ c o,s.heap.get? c=Aa o→h'.get? c=Aa o)→Q (.ref (s.heap.objs.size+4)) { s with heap:=h' }) :
  Ap (Aw prog w) A (call (.type "zip") [.ref a,.ref b]) Q E s:=by
 refine callType_new F.called_zip (by decide) (F.typeCall_zip_2 _ _) (F.newCall_zip_2 _ _) (fun obj=>F.args_object_init_3 obj _ _) F.entry_zip_new (TQ tp a b xs ys) ⟨ha,hb,?_⟩
 have y1:(zh1 tp s.heap a).objs.size=s.heap.objs.size+1:=Dl ..;have y2:(zh2 tp tp s.heap a b).objs.size=s.heap.objs.size+2:=by rw[Dl,y1]
 have y3:(zh3 tp tp s.heap a b).objs.size=s.heap.objs.size+3:=by rw[Dl,y2]
 have y4:(zh4 tp tp s.heap a b).objs.size=s.heap.objs.size+4:=by rw[Dl,y3]
 have y5:(zh5 tp tp s.heap a b).objs.size=s.heap.objs.size+5:=by rw[Dl,y4]
 have g5:(zh5 tp tp s.heap a b).get? (zh4 tp tp s.heap a b).objs.size=Aa _:=Az _ rfl;have g4:(zh5 tp tp s.heap a b).get? (zh3 tp tp s.heap a b).objs.size=Aa _:=Ai _ (Az _ rfl);have g3:(zh5 tp tp s.heap a b).get? (zh2 tp tp s.heap a b).objs.size=Aa _:=Ai _ (Ai _ (Az _ rfl));have g2:(zh5 tp tp s.heap a b).get? (zh1 tp s.heap a).objs.size=Aa (tM tp b):=Ai _ (Ai _ (Ai _ (Az _ rfl)));have g1:(zh5 tp tp s.heap a b).get? s.heap.objs.size=Aa (tM tp a):=Ai _ (Ai _ (Ai _ (Ai _ (Az _ rfl))));have kp:∀ c o,s.heap.get? c=Aa o→(zh5 tp tp s.heap a b).get? c=Aa o:=fun c o e=>Ai _ (Ai _ (Ai _ (Ai _ (Ai _ e))));show _∧_;rw[y2,y3,y4] at g5;rw[y1,y2] at g3;rw[y3] at g4;rw[y1] at g2;rw[y4];exact⟨⟨_,g5,rfl⟩,h _ g5 g3 g4 (tP g1) (tP g2) y5 kp⟩
end
def Sq (tp:As)(K:Ak)(H:Hp)(a:Af)(xs:Ab V):Prop:=if tp then SqT K H a xs else SqL K H a xs
section
variable {X:Cx}{pins:Ab (Af × Co)}{σ : _L.St}{H:Hp}{s:Ag}
theorem Sq.at {tp:As}{a:Af}{xs:Ab V}(I:Inv X pins σ H s)(q:Sq tp X.K H a xs):∃ its,qN xs its∧wZ tp s.heap a its.toArray:=by
 cases tp with
 |true =>
  obtain⟨its,rv,p,_⟩:=I.tuple q;exact⟨its,rv,p⟩
 |false =>
  obtain⟨its,rv,p,_⟩:=I.list q;exact⟨its,rv,p.isList⟩
theorem Sq.inj {tp:As}{a:Af}{xs ys:Ab V}(I:Inv X pins σ H s)(q:Sq tp X.K H a xs)(q':Sq tp X.K H a ys):xs=ys:=by
 cases tp with
 |true=>exact I.tuple_inj q q'
 |false=>exact I.list_inj q q'
theorem Sq.off {tp:As}{a b:Af}{xs:Ab V}(I:Inv X pins σ H s)(q:Sq tp X.K H a xs)(f:wM X pins H b):a≠b:=by
 have key:H a≠none∨∃ o,X.K.lookup a=Aa o:=by
  cases tp with
  |true =>
   rcases q with (q|⟨o,q⟩)|⟨o,_,_,q,_⟩
   ·exact .inl (by rw[q];intro z;cases z)
   ·exact .inl (by rw[q];intro z;cases z)
   ·exact .inr ⟨_,q⟩
  |false =>
   rcases q with (q|⟨o,q⟩)|⟨o,_,_,q,_⟩
   ·exact .inl (by rw[q];intro z;cases z)
   ·exact .inl (by rw[q];intro z;cases z)
   ·exact .inr ⟨_,q⟩
 rintro rfl;rcases key with k|⟨o,k⟩
 ·exact k f.1
 ·have e:=I.mod.kin a o k
  rcases f.2.2.2.1 with z|z
  ·exact I.ok.noex a o e z
  ·exact absurd (Ax (I.ok.bs a o e).1) (Hy.mpr z)
theorem Inv.turnLay {fp:Ab Af}{h':Bi}{T:Af}{xs:Ab V}{its:Ab Ac}(I:Inv X pins σ H s)(hf:∀ b∈fp,wM X pins H b)(k:∀ b o,b ∉ fp→s.heap.get? b=Aa o→h'.get? b=Aa o)(th:∀ b∈fp,∃ o,h'.get? b=Aa o)
  (hT:s.heap.objs.size≤T) (rv:qN xs its) (hx:Nt h' T its.toArray) (hz:xs.length≤sizeLine):Inv X pins σ (upd H T (.tup xs)) { s with heap:=h' }:=by
 have hn:H T=none:=I.hok.fresh hT;have ne:∀ b o,s.heap.get? b=Aa o→b≠T:=fun b o e=>Cc (Bm (Ax e) hT);refine I.step (g':=s.gens) (d':=s.drawn) (t':=s.toks) (ch:=fp) (fun b hb=>⟨(hf b hb).2.2.2.1,(hf b hb).2.1,(hf b hb).2.2.2.2.1,(hf b hb).2.2.2.2.2⟩) (fun b o _ _ hc e _=>k b o hc e) (fun b o _ _ hc e _=>⟨o.slots,k b o hc e⟩)
  (fun b o _ e n=>by rw[qP (ne b o e)];exact n) (fun b o hc e=>⟨o,k b o hc e⟩) (fun b ys e=>by rw[qP (zL e hn)];exact e) (fun b o u e=>by rw[qP (zL e hn)];exact e)
  (fun b ps e=>⟨#[],by rw[qP (zL e hn),e];simp⟩) (fun m hm=>?_) (fun b u e=>?_) I.bare
 ·obtain⟨o,es,ep,ho,r⟩:=hm
  exact⟨o,es,ep,k _ o (fun z=>(hf _ z).2.1 rfl) ho,r⟩
 ·by_cases hb:b=T
  ·subst hb
   rw[zQ] at e;cases e;exact⟨hz,its,rv,hx⟩
  ·rw[qP hb] at e
   refine(I.hok b u e).stay (fun c v hc q=>k c v (fun z=>?_) q) (fun c q=>by rw[qP (zL q hn)];exact q) fun c ys q=>by rw[qP (zL q hn)];exact q
   have hcn:=(hf c z).1;rcases hc with rfl|hc
   ·rw[hcn] at e;cases e
   ·rw[hcn] at hc;cases hc
theorem Inv.turnL {fp:Ab Af}{h':Bi}(I:Inv X pins σ H s)(hf:∀ b∈fp,wM X pins H b)(k:∀ b o,b ∉ fp→s.heap.get? b=Aa o→h'.get? b=Aa o):Inv X pins σ H { s with heap:=h' }:=by
 refine I.step (g':=s.gens) (d':=s.drawn) (t':=s.toks) (ch:=fp) (fun b hb=>⟨(hf b hb).2.2.2.1,(hf b hb).2.1,(hf b hb).2.2.2.2.1,(hf b hb).2.2.2.2.2⟩) (fun b o _ _ hc e _=>k b o hc e) (fun b o _ _ hc e _=>⟨o.slots,k b o hc e⟩)
  (fun b o _ e n=>n) (fun b o hc e=>⟨o,k b o hc e⟩) (fun b ys e=>e) (fun b o u e=>e) (fun b ps e=>⟨#[],by rw[e];simp⟩) (fun m hm=>?_) (fun b u e=>?_) I.bare
 ·obtain⟨o,es,ep,ho,r⟩:=hm
  exact⟨o,es,ep,k _ o (fun z=>(hf _ z).2.1 rfl) ho,r⟩
 ·refine(I.hok b u e).stay (fun c v hc q=>k c v (fun z=>?_) q) (fun c q=>q) fun c ys q=>q
  have hcn:=(hf c z).1;rcases hc with rfl|hc
  ·rw[hcn] at e;cases e
  ·rw[hcn] at hc;cases hc
end
def Itz (tp:As)(K:Ak)(a b:Af):It:=
  ⟨fun i H=>∃ xs ys x y,Sq tp K H a xs∧Sq tp K H b ys∧xs[i]? = Aa x∧ys[i]? = Aa y,
   fun i H v H'=>∃ T x y,v=.ref T∧H T=none∧H'=upd H T (.tup [x,y])∧(∀ xs,Sq tp K H a xs→xs[i]? = Aa x)∧∀ ys,Sq tp K H b ys→ys[i]? = Aa y,
   fun i H=>∃ xs ys,Sq tp K H a xs∧Sq tp K H b ys∧(xs.length≤i∨ys.length≤i)⟩
def Q5 (tp:As)(z I O i j a b:Af)(k:Ah)(h:Bi):Prop:=∃ p q,Oa h z I O .none∧Ix h I (.ref i) (.ref j)∧Ix h O p q∧x8 tp h i a k∧x8 tp h j b k
theorem bN {tp:As}{z I O i j a b:Af}{k:Ah}{h:Bi}(st:Q5 tp z I O i j a b k h):∀ c∈[z,I,O,i,j],∃ o,h.get? c=Aa o∧∀ v,o.data≠.cell v:=fun c hc=>by
 obtain⟨p,q,s1,s2,s3,s4,s5⟩:=st;simp only[Av,Cj,Fe] at hc;rcases hc with rfl|rfl|rfl|rfl|rfl
 ·exact⟨_,s1,fun v y=>by cases y⟩
 ·exact⟨_,s2,fun v y=>by cases y⟩
 ·exact⟨_,s3,fun v y=>by cases y⟩
 ·exact s4.there
 ·exact s5.there
theorem GC {c z I O i j:Af}(h:c ∉ [z,I,O,i,j]):c≠z∧c≠O∧c≠i∧c≠j:=by
 simp only[Av,Cj,Fe,Us] at h;exact⟨h.1,h.2.2.1,h.2.2.2.1,h.2.2.2.2⟩
theorem K9 {P:Bh}{w:Bv}{K:Ak}{elts:Ab Bq}{x1:Ah}{tpos:Ez}{tp:As}{z I O i j a b:Af}(D:ZA z I O i j):Turn P w K (.Tuple elts x1 tpos) (Itz tp K a b) [z,I,O,i,j] z (Q5 tp z I O i j a b) where
 mem:=.head _
 obj:=fun k h st=>bN st
 keep:=fun k h h' st kp=>by
  obtain⟨p,q,s1,s2,s3,s4,s5⟩:=st;exact⟨p,q,kp z (.head _) _ s1,kp I (.tail _ (.head _)) _ s2,kp O (.tail _ (.tail _ (.head _))) _ s3,s4.keep fun o e=>kp i (.tail _ (.tail _ (.tail _ (.head _)))) o e,s5.keep fun o e=>kp j (.tail _ (.tail _ (.tail _ (.tail _ (.head _))))) o e⟩
 item:=by
  intro X hP hw hK hc k pins s σ H E Iv hf st hg;subst hP hw hK;obtain⟨p,q,s1,s2,s3,s4,s5⟩:=st;obtain⟨xs,ys,x,y,qa,qb,hx,hy⟩:=hg;obtain⟨ia,ra,ha⟩:=qa.at Iv;obtain⟨ib,rb,hb⟩:=qb.at Iv;obtain⟨u,hu,ru⟩:=ra.get hx;obtain⟨u',hu',ru'⟩:=rb.get hy;have off:∀ {c:Af} {zs:Ab V},Sq tp X.K H c zs→Off z O i j c:=fun {c zs} qc=>⟨qc.off Iv (hf z (.head _)),qc.off Iv (hf O (.tail _ (.tail _ (.head _)))),qc.off Iv (hf i (.tail _ (.tail _ (.tail _ (.head _))))),qc.off Iv (hf j (.tail _ (.tail _ (.tail _ (.tail _ (.head _))))))⟩;have hT:s.TypeIs (.ref z) "zip":=⟨_,s1,rfl⟩;unfold Nb;refine Ad (Kh (Ee (name:=Gd "__next__") hT Mx (Eh Mx hT WP
   (KC D (off qa) (off qb) s1 s2 s3 s4 s5 ha hb (by simpa using hu) (by simpa using hu') fun h' a1 a2 a3 a4 a5 a6 a7=>Al ?_) (Wf _))))
  refine⟨_,rfl,wpAny_letOwnedTupleGo_zip (s:={ s with heap:=h' }) a1 fun h2 b1 b2=>?_⟩
  have up:∀ c o,c≠z→h'.get? c=Aa o→h2.get? c=Aa o:=fun c o n e=>(b2.2 c n).trans e;have zl:z<s.heap.objs.size:=Ax s1;have T2:Ix h2 s.heap.objs.size u u':=up _ _ (Hx zl) a5;have st2:Q5 tp z I O i j a b (k+1) h2:=⟨u,u',b1,up _ _ D.Iz (a7 I _ D.Iz D.IO D.Ii D.Ij s2),up _ _ D.Oz a2,a3.keep fun o e=>up _ o D.iz e,a4.keep fun o e=>up _ o D.jz e⟩;refine⟨.ref s.heap.objs.size,upd H s.heap.objs.size (.tup [x,y]),?_,rfl,⟨_,x,y,rfl,Iv.hok.fresh (Bd _),rfl,fun zs qz=>by rw[qz.inj Iv qa];exact hx,fun zs qz=>by rw[qz.inj Iv qb];exact hy⟩,st2,fun c hc=>?_⟩
  ·show _L.Inv X pins σ (upd H s.heap.objs.size (.tup [x,y])) { s with heap:=h2 }
   refine Inv.turnLay (fp:=[z,I,O,i,j]) (its:=[u,u']) Iv hf (fun c o hc e=>?_) (fun c hc=>?_) (Bd _) (.cons ru (.cons ru' .nil)) ⟨_,T2,rfl,_,rfl⟩ (by show 2≤sizeLine;decide)
   ·have hc:=GC hc
    exact up c o hc.1 (a7 c o hc.1 hc.2.1 hc.2.2.1 hc.2.2.2 e)
   ·obtain⟨o,e,_⟩:=bN st2 c hc
    exact⟨o,e⟩
  ·have hn:=(hf c hc).1
   rw[qP ?_]
   ·exact hn
   ·rintro rfl
    obtain⟨o,e,_⟩:=bN ⟨p,q,s1,s2,s3,s4,s5⟩ _ hc;exact absurd (Ax e) (DL _)
 done:=by
  intro X hP hw hK hc k pins s σ H E Iv hf st hg;subst hP hw hK;obtain⟨p,q,s1,s2,s3,s4,s5⟩:=st;obtain⟨xs,ys,qa,qb,hend⟩:=hg;obtain⟨ia,ra,ha⟩:=qa.at Iv;obtain⟨ib,rb,hb⟩:=qb.at Iv;have off:∀ {c:Af} {zs:Ab V},Sq tp X.K H c zs→Off z O i j c:=fun {c zs} qc=>⟨qc.off Iv (hf z (.head _)),qc.off Iv (hf O (.tail _ (.tail _ (.head _)))),qc.off Iv (hf i (.tail _ (.tail _ (.tail _ (.head _))))),qc.off Iv (hf j (.tail _ (.tail _ (.tail _ (.tail _ (.head _))))))⟩;have hT:s.TypeIs (.ref z) "zip":=⟨_,s1,rfl⟩;have l1:=ra.length;have l2:=rb.length;unfold Nb;refine Ad (Kh (Ee (name:=Gd "__next__") hT Mx (Eh Mx hT WP
   (KD (Iv.ok.hd hc) D (off qa) (off qb) s1 s2 s3 s4 s5 ha hb ?_ fun h' e kp he=>?_) (Wf _))))
  ·rcases hend with y|y
   ·exact .inl (by simp;omega)
   ·exact .inr (by simp;omega)
  ·obtain⟨o,ho,hcl⟩:=he
   refine Ad (Ql (T:="StopIteration") (b:=true) ⟨o,ho,hcl⟩ isSubtype_stop (Al ⟨rfl,Inv.turnL (fp:=[z,I,O,i,j]) Iv hf fun c o hc e=>?_⟩));have hc:=GC hc;exact kp c o hc.1 hc.2.1 hc.2.2.1 hc.2.2.2 e
 self:=fun _ _ _ _ _ st h=>by
  obtain⟨p,q,s1,_⟩:=st;exact Xa s1 h
def yT (xs ys:Ab D):Ab D:=Zy (fun x y=>D.tup [x,y]) xs ys
def ZU (ds:Ab D):Am (Ab D):=match ds with
 |[.tup xs,.tup ys]=>Aa (yT xs ys)
 |[.lst xs,.lst ys]=>Aa (yT xs ys)
 |_=>none
def pY (f:DA):DI:=fun env S=>(f env S).bind fun ds S1=>vV (ZU ds) S1
theorem KB {xs ys:Ab D}{i:Ah}:(yT xs ys)[i]? = match xs[i]?,ys[i]? with|some x,Aa y=>Aa (D.tup [x,y])|_,_=>none:=by
 unfold yT;rw[List.getElem?_zipWith];cases xs[i]? <;> cases ys[i]? <;> rfl
theorem mV (xs ys:Ab D):(yT xs ys).length=min xs.length ys.length:=by simp[yT]
section
variable {K:Ak}
theorem Sq.mono {tp:As}{P P':Hp}(e:qH P P'){a:Af}{xs:Ab V}(q:Sq tp K P a xs):Sq tp K P' a xs:=by
 cases tp with
 |true=>exact vX e q
 |false=>exact e.seq q
theorem F3 {tp:As}{P:Hp}{α : Ab Af}{a b:Af}{xs ys:Ab D}{vs ws:Ab V}(qa:Sq tp K P a vs)(qb:Sq tp K P b ws)(ta:qF K P α xs vs)(tb:qF K P α ys ws):ItD K (Itz tp K a b) P α (yT xs ys) where
 go:=fun i H P1 α1 S hi r e _=>by
  rw[mV] at hi;have h1:i<vs.length:=by rw[← ta.length];omega
  have h2:i<ws.length:=by rw[← tb.length];omega
  exact⟨vs,ws,vs[i],ws[i],qa.mono (e.trans r.sub),qb.mono (e.trans r.sub),by simp,by simp⟩
 yld:=fun i H x H' P1 α1 S hi r e e2 y=>by
  obtain⟨T,u,w,rfl,hT,rfl,hu,hw⟩:=y;rw[mV] at hi;have h1:i<xs.length:=by omega
  have h2:i<ys.length:=by omega
  obtain⟨v1,z1,p1⟩:=ta.get (An h1);obtain⟨v2,z2,p2⟩:=tb.get (An h2);have eu:=hu vs (qa.mono (e.trans r.sub));have ew:=hw ws (qb.mono (e.trans r.sub));rw[z1] at eu;cases eu;rw[z2] at ew;cases ew;obtain⟨r1,s1⟩:=r.pure (o:=.tup [u,w]) hT;refine⟨_,.tup [xs[i],ys[i]],?_,r1,s1,?_⟩
  ·rw[KB,An h1,An h2]
  ·exact oH (.of zQ) (.cons (Rep.mono (e.trans s1) e2 _ _ p1) (.cons (Rep.mono (e.trans s1) e2 _ _ p2) .nil))
 stop:=fun i H P1 α1 S hi r e _=>by
  rw[mV] at hi;have l1:=ta.length;have l2:=tb.length;exact⟨vs,ws,qa.mono (e.trans r.sub),qb.mono (e.trans r.sub),by omega⟩
end
section
variable {X:Cx}{e1 e2:Bq}{elts:Ab Bq}{x1:Ah}{tpos:Ez}{f:DA}{p pos:Ez}
theorem V4 {tp:As}{pins:Ab (Af × Co)}{σ : _L.St}{H P:Hp}{α : Ab Af}{S:Sto}{s:Ag}{a b:Af}{xs ys:Ab D}{vs ws:Ab V}{R:It→Hp→Prop}(I:Inv X pins σ H s)(r:Rel X.K H P α S)(qa:Sq tp X.K P a vs)(qb:Sq tp X.K P b ws)(ta:qF X.K P α xs vs)(tb:qF X.K P α ys ws)
  (q:OkI X P α R (yT xs ys) S):Ap (Aw X.prog X.w) X.A (call (.type "zip") [.ref a,.ref b]) (fun v s1=>Ap (Aw X.prog X.w) X.A (Oo v) (PIE X pins σ (.Tuple elts x1 tpos) R) X.xe s1) X.xe s:=by
 obtain⟨ia,ra,ha⟩:=(qa.mono r.sub).at I;obtain⟨ib,rb,hb⟩:=(qb.mono r.sub).at I;refine VG ha hb fun h' z1 z2 z3 z4 z5 z6 z7=>?_;refine Xa (s:={ s with heap:=h' }) z1 ?_
 have D:ZA (s.heap.objs.size+4) (s.heap.objs.size+2) (s.heap.objs.size+3) s.heap.objs.size (s.heap.objs.size+1):=by constructor <;> (intro z;simp at z)
 refine⟨_,[s.heap.objs.size+4,s.heap.objs.size+2,s.heap.objs.size+3,s.heap.objs.size,s.heap.objs.size+1],_,_,H,rfl,I.kept (t':=s.toks) z7,K9 (a:=a) (b:=b) D,⟨_,_,z1,z2,z3,z4,z5⟩,fun c hc=>?_,q _ _ P α r (qH.refl _) (Bg _) (F3 qa qb ta tb)⟩;have hl:s.heap.objs.size≤c:=by
  simp only[Av,Cj,Fe] at hc;rcases hc with rfl|rfl|rfl|rfl|rfl <;> simp
 exact I.fpOk hl (I.hok.fresh hl)
inductive ZipV (ds:Ab D)(its:Ab D):Prop
 |tup (xs ys:Ab D) (ed:ds=[.tup xs,.tup ys]) (e:its=yT xs ys)
 |lst (xs ys:Ab D) (ed:ds=[.lst xs,.lst ys]) (e:its=yT xs ys)
theorem TN {ds its:Ab D}(h:ZU ds=Aa its):ZipV ds its:=by
 cases ds with
 |nil=>exact nn h
 |cons a ds =>
  cases a with
  |tup xs =>
   cases ds with
   |nil=>exact nn h
   |cons b ds =>
    cases b with
    |tup ys =>
     cases ds with
     |nil=>exact .tup xs ys rfl (Cp h).symm
     |cons _ _=>exact nn h
    |_=>exact nn h
  |lst xs =>
   cases ds with
   |nil=>exact nn h
   |cons b ds =>
    cases b with
    |lst ys =>
     cases ds with
     |nil=>exact .lst xs ys rfl (Cp h).symm
     |cons _ _=>exact nn h
    |_=>exact nn h
  |_=>exact nn h
theorem L4 (hg:Gl X "zip")(hm:X.mg "zip" = none)(ha:PA X [e1,e2] (tDA X f))(hs:Bb [e1,e2] X.env=(false,eval e1 X.env)::Bb [e2] X.env:=by rfl)(hpl:(Fp pos (Bb [e2] X.env)).any (·.1)=false:=by rfl) :
  PI X (.Tuple elts x1 tpos) (.Call (.Name "zip" p) [e1,e2] [] pos) (tDI X (pY f)):=by
 intro pins s σ H R I h;obtain⟨P,α,env,S,r,re,af⟩:=h;refine Call_ (uF I hg hm boot_zip (Hl (thn (yO ha I r re af pos) fun us s1 ⟨vs,H1,P1,α1,ds,S1,I1,rv,r1,re1,rp,e1,e2,af1⟩=>?_) hs hpl));obtain⟨its,hi,q⟩:=jZ af1;cases TN hi with
 |tup xs ys ed e =>
  subst ed e;obtain⟨v,w,u,x,rfl,rfl,p1,p2,q1,q2⟩:=fL rp rv;simp only[Rep] at p1 p2;obtain⟨a,va,rfl,qa,ta⟩:=p1;obtain⟨b,vb,rfl,qb,tb⟩:=p2;cases (show u=Ch a from q1)
  cases (show x=Ch b from q2)
  exact V4 (tp:=true) I1 r1 qa qb ta tb (q.base e1 e2)
 |lst xs ys ed e =>
  subst ed e;obtain⟨v,w,u,x,rfl,rfl,p1,p2,q1,q2⟩:=fL rp rv;simp only[Rep] at p1 p2;obtain⟨a,va,rfl,qa,ta⟩:=p1;obtain⟨b,vb,rfl,qb,tb⟩:=p2;cases (show u=Ch a from q1)
  cases (show x=Ch b from q2)
  exact V4 (tp:=false) I1 r1 qa.l qb.l ta tb (q.base e1 e2)
end
def Src (K:Ak)(mg:Au→Am Ac)(x:Au)(st:Eu)(ps:Ab Au):Prop:=∃ f fd,mg x=Aa (.ref f)∧Fun K x x st f fd∧u9 K fd ps []
def Lk (K:Ak)(f:Af)(fd:Fj):Prop:=∃ oc od osl,K.lookup f=Aa ⟨oc,od,.func fd,osl⟩
theorem rG {K:Ak}{x q:Au}{st:Eu}{f:Af}{fd:Fj}(F:Fun K x q st f fd):Lk K f fd:=by
 obtain⟨oc,od,kV,doc,pm,an,cdv,ct,osl,_,lk,_⟩:=F.ex;exact⟨oc,od,osl,lk⟩
theorem Lk.one {K:Ak}{f:Af}{fd fd':Fj}(h:Lk K f fd)(h':Lk K f fd'):fd=fd':=by
 obtain⟨oc,od,osl,e⟩:=h;obtain⟨oc',od',osl',e'⟩:=h';rw[e] at e';cases e';rfl
def Def (P:Bh)(w:Bv)(K:Ak)(mg:Au→Am Ac)(base:Bi)(cm:As)(k:Ah)(x:Au)(n:Ah)(F:DF):Prop:=
 ∃ f fd ps,ps.length=n∧mg x=Aa (.ref f)∧Dz K (.ref f)=true∧u9 K fd ps [] ∧ Lk K f fd∧FnX P w K mg base cm k f fd ps (spD K n F)
def rP (P:Bh)(w:Bv)(K:Ak)(mg:Au→Am Ac)(base:Bi)(cm:As)(k:Ah)(x:Au)(ps:Ab Au)(F:DF):Prop:=
 ∃ f fd,mg x=Aa (.ref f)∧Dz K (.ref f)=true∧u9 K fd ps [] ∧ Lk K f fd∧FnX P w K mg base cm k f fd ps (spD K ps.length F)
section
variable {P:Bh}{w:Bv}{K:Ak}{mg:Au→Am Ac}{base:Bi}{cm:As}
theorem NY {x:Au}{st:Eu}{N ps:Ab Au}{k:Ah}{g:DS}(h:Src K mg x st ps)(S:FnScope N ps (qK st))
  (hbody:∀ (f:Af) (cdv:Ac) (A:Bo) (outer:Ab Jn) (s:Ag) (H:Hp) (E:XK),RoomC cm k (A.deeper (Gj x (qK st) s.heap.objs.size f cdv)) →
   PSs (cxC cm P w K mg base N x (qK st) f cdv A outer s H E) (xD st) (tDS (cxC cm P w K mg base N x (qK st) f cdv A outer s H E) g)):Def P w K mg base cm (k+1) x ps.length (qQ N.length g):=by
 obtain⟨f,fd,hm,F,hb⟩:=h;exact⟨f,fd,ps,rfl,hm,F.kp,hb,rG F,fnX F S fun cdv A outer s H E hr=>hbody f cdv A outer s H E hr⟩
theorem B7 {x:Au}{st:Eu}{N ps:Ab Au}{k:Ah}{g:DS}(h:Src K mg x st ps)(S:FnScope N ps (qK st))
  (hbody:∀ (f:Af) (cdv:Ac) (A:Bo) (outer:Ab Jn) (s:Ag) (H:Hp) (E:XK),RoomC cm k (A.deeper (Gj x (qK st) s.heap.objs.size f cdv)) →
   PSs (cxC cm P w K mg base N x (qK st) f cdv A outer s H E) (xD st) (tDS (cxC cm P w K mg base N x (qK st) f cdv A outer s H E) g)):rP P w K mg base cm (k+1) x ps (qQ N.length g):=by
 obtain⟨f,fd,hm,F,hb⟩:=h;exact⟨f,fd,hm,F.kp,hb,rG F,fnX F S fun cdv A outer s H E hr=>hbody f cdv A outer s H E hr⟩
theorem Def.mono {x:Au}{j k n:Ah}{F:DF}(h:Def P w K mg base cm j x n F)(hk:j≤k:=by decide):Def P w K mg base cm k x n F:=by
 obtain⟨f,fd,ps,hn,hm,kp,hb,hl,X⟩:=h;exact⟨f,fd,ps,hn,hm,kp,hb,hl,X.len,fun A outer s H args us vs Q E hr=>X.run A outer s H args us vs Q E (hr.mono hk)⟩
theorem Def.any {x:Au}{k n:Ah}{F:DF}(h:Def P w K mg base false k x n F):Def P w K mg base cm k x n F:=by
 obtain⟨f,fd,ps,hn,hm,kp,hb,hl,X⟩:=h;exact⟨f,fd,ps,hn,hm,kp,hb,hl,X.any⟩
end
section
variable {X:Cx}{cm:As}{k n:Ah}{F:DF}{x:Au}{p pos:Ez}{e:Bq}{es:Ab Bq}{fa:DA}
theorem dcN (G:Def X.prog X.w X.K X.mg X.base cm k x n F)(hr:RoomC cm k X.A)(hF:Fn1 X)(hg:Gl X x)(ha:PA X (e::es) (tDA X fa))(hdb:(x == ("__debug__" : Au))=false:=by decide)(he:Bb (e::es) X.env=(false,eval e X.env)::Bb es X.env:=by rfl)(hpl:(Fp pos (Bb es X.env)).any (·.1)=false:=by rfl) :
  PE X (.Call (.Name x p) (e::es) [] pos) (tD X (qG n F fa)):=by
 obtain⟨f,fd,ps,hn,hm,kp,hb,hl,G⟩:=G;exact B1 G hr hF hg hm kp hb ha hdb he hpl
theorem dcL (G:Def X.prog X.w X.K X.mg X.base cm k x n F)(hr:RoomC cm k X.A)(hF:Fn1 X)(hg:Gl X x)(ha:PA X (e::es) (tDA X fa))(hdb:(x == ("__debug__" : Au))=false:=by decide)(he:Bb (e::es) X.env=(false,eval e X.env)::Bb es X.env:=by rfl)(hpl:(Fp pos (Bb es X.env)).any (·.1)=false:=by rfl) :
  PE X (.Call (.Name x p) (e::es) [] pos) (tD X (qG n (uG F) fa)):=by
 obtain⟨f,fd,ps,hn,hm,kp,hb,hl,G⟩:=G;exact VU G hr hF hg hm kp hb ha hdb he hpl
theorem XE {C:Af}(hg:Gl X x)(hm:X.mg x=Aa (.ref C))(hk:Dz X.K (.ref C)=true)(hd:(x == ("__debug__" : Au))=false:=by decide):PE X (.Name x pos) (tD X (dC (.obj C))):=
 iE hg hm (v:=.ref C) rfl (fun P α => by simp only[Rep];exact⟨trivial,hk⟩) hd
end
def zH:DF:=fun ds S=>match ds with
 |[.dct0]=>.bad
 |_=>m9 ds S
theorem PQ {X:Cx}:vA X (.builtin "len") zH:=NA trivial
def pW:DE:=fun _ _=>.bad
theorem NM {X:Cx}{e:Bq}:PE X e (tD X pW):=fun _ _ _ _ _ _ ⟨_,_,_,_,_,_,h⟩=>Ao h
theorem KM:∃ C:Aj→Aj→As,C=rY:=⟨_,rfl⟩
def KL:Aj→Aj→As:=Ml KM
theorem rZ:KL=rY:=Mm KM
def xV:G2:=i2 KL fun i j=>.int (i*j)
theorem o7 {X:Cx}:OpD X (Eo .Mult) xV:=by
 unfold xV;rw[rZ];exact FM
theorem hu1 {cm:As}{k:Ah}{A:Bo}(hr:RoomC cm k A):A.units+1<Ds:=by have:=hr.units;omega
def okO (F:DF):DF:=fun ds S=>match F ds S with
 |.ok d S'=>.ok d S'
 |_=>.bad
theorem uJ {F:DF}{ds:Ab D}{S S':Sto}{d:D}(h:F ds S=.ok d S'):okO F ds S=.ok d S':=by unfold okO;rw[h]
section
variable {X:Cx}{cm:As}{k n:Ah}{F:DF}{x:Au}{p pos:Ez}{e:Bq}{es:Ab Bq}{fa:DA}{f:Af}{fd:Fj}{ps:Ab Au}
theorem MP {pins:Ab (Af × Co)}{σ : _L.St}{H:Hp}{s:Ag}{Q:VK}{us:Ab Ac}{vs:Ab V}{P:Hp}{α : Ab Af}{ds:Ab D}{S:Sto}(G:FnX X.prog X.w X.K X.mg X.base cm k f fd ps (spD X.K n F))(hr:RoomC cm k X.A)(hb:u9 X.K fd ps [])
  (I:Inv X pins σ H s) (r:Rel X.K H P α S) (rv:qN vs us) (rp:qF X.K P α ds vs) (hn:ds.length=n) (af:zA X P α (okO F ds S) Q):Ap (Aw X.prog X.w) X.A (call (.ref f) us) (EP X pins σ Q) X.xe s:=by
 have hvn:vs.length=n:=by rw[← rp.length];exact hn
 have hsp:spD X.K n F vs H Q fun _ _ _=>Fc:=by
  refine⟨hvn,P,α,ds,S,r,rp,?_⟩;unfold okO at af;cases q:F ds S with
  |ok d S'=>rw[q] at af;exact af
  |ex c x S'=>rw[q] at af;exact Ao af
  |bad=>rw[q] at af;exact af
 have hl:us.length=ps.length:=by rw[← rv.length];exact G.len _ _ _ _ hsp
 have hb':=hb s us I.kIn (by rw[Ft];exact hl)
 rw[Ft] at hb';refine Nl (Ip (G.run X.A X.stack s H ⟨us,[]⟩ us vs Q _ hr I.env0 hb' rv hsp) fun r s' hq=>?_);cases r with
 |error u =>
  obtain⟨_,_,_,_,_,_,_,_,_,_,_,_,z⟩:=hq;exact Ao z
 |ok fl =>
  cases fl with
  |ret u=>exact I.after hq
  |next=>exact Ao hq
  |brk=>exact Ao hq
  |cont=>exact Ao hq
theorem dcO (G:Def X.prog X.w X.K X.mg X.base cm k x n F)(hr:RoomC cm k X.A)(hg:Gl X x)(ha:PA X (e::es) (tDA X fa))(hdb:(x == ("__debug__" : Au))=false:=by decide)(he:Bb (e::es) X.env=(false,eval e X.env)::Bb es X.env:=by rfl)(hpl:(Fp pos (Bb es X.env)).any (·.1)=false:=by rfl) :
  PE X (.Call (.Name x p) (e::es) [] pos) (tD X (qG n (okO F) fa)):=by
 obtain⟨f,fd,ps,hn0,hm,hk,hb,hl,G⟩:=G;intro pins s σ H Q I h;obtain⟨P,α,env,S,r,re,af⟩:=h;refine Gf (jX I hg hm ?_ hdb);refine Lb (h₀:=X.base) I.ok.mod.kin hk (thn (yO ha I r re af pos) fun us s1 ⟨vs,H1,P1,α1,ds,S1,I1,rv,r1,re1,rp,e1,e2,af1⟩=>⟨I1.kIn,?_⟩) he hpl;obtain⟨hn,af2⟩:=pZ (env:=env) (S:=S) af1;exact MP G hr hb I1 r1 rv rp hn (zA.base e1 e2 af2)
end
structure QE (X:Cx)(e:Bq)(f:DE):Prop where
 get:PE X e (tD X f)
structure QT (X:Cx)(e:Bq)(t:DT):Prop where
 get:PT X e (tDT X t)
structure QW (X:Cx)(e:Bq)(t:DT):Prop where
 get:PWD X e t
structure QA (X:Cx)(es:Ab Bq)(f:DA):Prop where
 get:PA X es (tDA X f)
structure QO (X:Cx)(e:Am Bq)(f:DO):Prop where
 get:PO X e (tDO X f)
structure QG (X:Cx)(t:Bq)(g:DG):Prop where
 get:PG X t (tDG X g)
structure QGs (X:Cx)(ts:Ab Bq)(g:DGs):Prop where
 get:PGs X ts (aD X g)
structure QI (X:Cx)(tg it:Bq)(f:DI):Prop where
 get:PI X tg it (tDI X f)
structure QS (X:Cx)(s:Eu)(f:DS):Prop where
 get:PS X s (tDS X f)
structure QB (X:Cx)(ss:Ab Eu)(f:DS):Prop where
 get:PSs X ss (tDS X f)
structure ZOp (X:Cx)(f:Ac→Ac→Mp Ac)(g:G2):Prop where
 get:OpD X f g
structure ZUn (X:Cx)(f:Ac→Mp Ac)(g:D→Sto→Res D):Prop where
 get:UnD X f g
structure ZIx (X:Cx)(g:G2):Prop where
 get:IxD X g
structure ZCall (X:Cx)(f:Ac)(F:DF):Prop where
 get:vA X f F
structure ZMt (X:Cx)(id:Du)(g:D→Ab D→Sto→Res D):Prop where
 get:MtD X id g
structure ZIp (X:Cx)(op:Lw)(g:G2):Prop where
 get:IpD X op g
structure ZSet (X:Cx)(g:G3):Prop where
 get:rQ X (rN X g)
structure ZPass (X:Cx):Prop where
 get:Pa (Aw X.prog X.w) X.A X.env X.xe
section
variable {X:Cx}{a b c e e1 e2 o i:Bq}{es rest:Ab Bq}{fa fb fc fe fo fi:DE}{ta tb:DT}{fA:DA}{f g:DS}{st:Eu}{sts:Ab Eu}{x:Au}{p pos:Ez}{n k:Ah}{cm:As}{F:DF}{G2':G2}
theorem Y5 {j}:QE X (.Constant .none j pos) (dC .non):=⟨NQ⟩
theorem GN {v j}:QE X (.Constant (.bool v) j pos) (dC (.bl v)):=⟨EY⟩
theorem RE {v j}:QE X (.Constant (.int v) j pos) (dC (.int v)):=⟨NP⟩
theorem RH {v j}:QE X (.Constant (.str v) j pos) (dC (.str v)):=⟨NT⟩
theorem RK (m:Ah)(hN:X.N[m]? = Aa x)(hv:Vis X.env.scope x)(hd:(x == ("__debug__" : Au))=false)(hcd:(x == ("__classdict__" : Au))=false):QE X (.Name x pos) (qB m):=⟨dv m hN hv hd hcd⟩
theorem M5 {nm:Du}(hg:Gl X x)(hm:X.mg x=none)(hv:Gc x=Aa (.type nm))(hn:x ≠ "__name__")(hd:(x == ("__debug__" : Au))=false):QE X (.Name x pos) (dC (.ty nm)):=⟨B0 hg hm hv hn hd⟩
theorem RC {C:Af}(hg:Gl X x)(hm:X.mg x=Aa (.ref C))(hk:Dz X.K (.ref C)=true)(hd:(x == ("__debug__" : Au))=false):QE X (.Name x pos) (dC (.obj C)):=⟨XE hg hm hk hd⟩
theorem M7 {v:Aj}(hg:Gl X x)(hm:∃ t,X.mg x=Aa (.int v t))(hd:(x == ("__debug__" : Au))=false):QE X (.Name x pos) (dC (.int v)):=⟨let ⟨_,h⟩:=hm;iE (v:=.int v) hg h ⟨_,rfl⟩ (fun _ _=>by simp only[Rep]) hd⟩
theorem RB:QE X e pW:=⟨NM⟩
theorem CS {op:UnaryOp}{h:D→Sto→Res D}(ho:ZUn X (Wt op) h)(ha:QE X a fa):QE X (.UnaryOp op a pos) (d1 h fa):=⟨H9 ho.1 ha.1⟩
theorem RG (ha:QE X a fa):QE X (.UnaryOp .Not a pos) (QJ fa):=⟨NR ha.1⟩
theorem CQ {op:Lw}(ho:ZOp X (Eo op) G2')(ha:QE X a fa)(hb:QE X b fb):QE X (.BinOp a op b pos) (d2 G2' fa fb):=⟨H8 ho.1 ha.1 hb.1⟩
theorem Y4 {op:Sm}(ho:ZOp X (Cw op) G2')(ha:QE X a fa)(hb:QE X b fb)(hm:Kg op b=false:=by first|exact gO _|with_unfolding_all rfl):QE X (.Compare a [op] [b] pos) (d2 G2' fa fb):=⟨NN ho.1 ha.1 hb.1 hm⟩
theorem JM {op op':Sm}{g':G2}(ho:ZOp X (Cw op) G2')(ho':ZOp X (Cw op') g')(ha:QE X a fa)(hb:QE X b fb)(hc:QE X c fc)(hm:Wb [op,op'] [b,c]=false:=by with_unfolding_all rfl):QE X (.Compare a [op,op'] [b,c] pos) (xR G2' g' fa fb fc):=⟨VV ho.1 ho'.1 ha.1 hb.1 hc.1 hm⟩
theorem Y6 {op} (h:QE X a fa):QE X (.BoolOp op [a] pos) fa:=⟨NS h.1⟩
theorem Y2 (ha:QE X a fa)(hb:QE X (.BoolOp .And (b::rest) pos) fb):QE X (.BoolOp .And (a::b::rest) pos) (vL fa fb):=⟨NL ha.1 hb.1⟩
theorem CO (hc:QT X c ta)(ha:QE X a fa)(hb:QE X b fb):QE X (.IfExp c a b pos) (dIf ta fa fb):=⟨H0 hc.1 ha.1 hb.1⟩
theorem RJ {x1} (h:QA X es fA):QE X (.Tuple es x1 pos) (qT fA):=⟨NV h.1⟩
theorem RF (h:QA X es fA):QE X (.List es pos) (zN fA):=⟨XF h.1⟩
theorem M8 (h:QA X es fA):QE X (.List es pos) (mY fA):=⟨B3 h.1⟩
theorem RD:QE X (.Dict [] [] pos) VS:=⟨NO⟩
theorem M6:QE X (.Dict [] [] pos) gY:=⟨B2⟩
theorem CP (ho:ZIx X G2')(ha:QE X a fa)(hb:QE X b fb)(hs:jT b:=by intro _ _;rfl):QE X (.Subscript a b pos) (d2 G2' fa fb):=⟨KN ho.1 ha.1 hb.1 hs⟩
theorem JO {lo hi:Am Bq}{fl fh:DO}{p2:Ez}(he:QE X e fe)(hl:QO X lo fl)(hu:QO X hi fh):QE X (.Subscript e (.Slice lo hi none p2) pos) (dSl fe fl fh):=⟨VX he.1 hl.1 hu.1⟩
theorem MD:QO X none zE:=⟨BB⟩
theorem ME (he:QE X e fe):QO X (Aa e) (qY fe):=⟨BC he.1⟩
theorem Y0:QA X [] qC:=⟨XB⟩
theorem oD (ha:QE X e fa)(hr:QA X es fA)(hs:Bb (e::es) X.env=(false,eval e X.env)::Bb es X.env:=by rfl):QA X (e::es) (qA fa fA):=⟨iC ha.1 hr.1 hs⟩
theorem qcN (G:Def X.prog X.w X.K X.mg X.base cm k x n F)(hr:RoomC cm k X.A)(hF:Fn1 X)(hg:Gl X x)(ha:QA X (e::es) fA)(hdb:(x == ("__debug__" : Au))=false)(he:Bb (e::es) X.env=(false,eval e X.env)::Bb es X.env:=by rfl)(hpl:(Fp pos (Bb es X.env)).any (·.1)=false:=by rfl):QE X (.Call (.Name x p) (e::es) [] pos) (qG n F fA):=⟨dcN G hr hF hg ha.1 hdb he hpl⟩
theorem qcL (G:Def X.prog X.w X.K X.mg X.base cm k x n F)(hr:RoomC cm k X.A)(hF:Fn1 X)(hg:Gl X x)(ha:QA X (e::es) fA)(hdb:(x == ("__debug__" : Au))=false)(he:Bb (e::es) X.env=(false,eval e X.env)::Bb es X.env:=by rfl)(hpl:(Fp pos (Bb es X.env)).any (·.1)=false:=by rfl):QE X (.Call (.Name x p) (e::es) [] pos) (qG n (uG F) fA):=⟨dcL G hr hF hg ha.1 hdb he hpl⟩
theorem JL {id:Du}(hc:ZCall X (.builtin id) F)(hg:Gl X x)(hm:X.mg x=none)(hv:Gc x=Aa (.builtin id))(ha:QA X (e::es) fA)(hn:x ≠ "__name__")(hdb:(x == ("__debug__" : Au))=false)(he:Bb (e::es) X.env=(false,eval e X.env)::Bb es X.env:=by rfl)(hpl:(Fp pos (Bb es X.env)).any (·.1)=false:=by rfl):QE X (.Call (.Name x p) (e::es) [] pos) (qE F fA):=⟨VT hc.1 hg hm hv ha.1 hn hdb he hpl⟩
theorem Y3 {T:Du}(hc:ZCall X (.type T) F)(hg:Gl X x)(hm:X.mg x=none)(hv:Gc x=Aa (.type T))(ha:QA X (e::es) fA)(hn:x ≠ "__name__")(hdb:(x == ("__debug__" : Au))=false)(he:Bb (e::es) X.env=(false,eval e X.env)::Bb es X.env:=by rfl)(hpl:(Fp pos (Bb es X.env)).any (·.1)=false:=by rfl):QE X (.Call (.Name x p) (e::es) [] pos) (qE F fA):=⟨XD hc.1 hg hm hv ha.1 hn hdb he hpl⟩
theorem rK {T id:Du}{name:Au}{apos:Ez}{h:D→Ab D→Sto→Res D}(pa:PlainAttrs T)(slot:Slot T name id)(hty:typeOf (.builtin id)=pure (.type "method_descriptor"))(hT:T = "list" ∨ T = "dict" ∨ T = "int" ∨ T = "str")(hm:ZMt X id h)(ho:QE X o fo)(ha:QA X (e::es) fA)
  (hbase:Pj o name X.env (eval o X.env)=eval o X.env:=by rfl)
  (hfew:((Fp pos (Bb (e::es) X.env)).all (fun x=>!x.1)&&(backToKw pos (keywordEach [] X.env)).all (fun x=>x.1.isSome)&&decide ((e::es).length+([]:Ab Zd).length+(if ([] : Ab Zd).isEmpty then 0 else 1)<30))=true:=by rfl)
  (hline:(apos.endLine == pos.line)=true:=by rfl) (hs:Bb (e::es) X.env=(false,eval e X.env)::Bb es X.env:=by rfl) (hplain:(Fp pos (Bb es X.env)).any (·.1)=false:=by rfl):QE X (.Call (.Attribute o name apos) (e::es) [] pos) (dBm T h fo fA):=⟨EZ pa slot hty hT hm.1 ho.1 ha.1 hbase hfew hline hs hplain⟩
theorem GP (h:QW X e ta):QT X e ta:=⟨PWD.pt h.1⟩
theorem nH (ha:QT X a ta):QW X (.BoolOp .Or [a] pos) ta:=⟨LK ha.1⟩
theorem rL (ha:QT X a ta)(hb:QW X (.BoolOp .Or (b::rest) pos) tb):QW X (.BoolOp .Or (a::b::rest) pos) (y8 ta tb):=⟨HE ha.1 hb.1⟩
theorem YD (ha:QT X a ta):QT X (.UnaryOp .Not a pos) (zT ta):=⟨LI ha.1⟩
theorem YC {op:Sm}(ho:ZOp X (Cw op) G2')(ha:QE X a fa)(hb:QE X b fb)(hm:Kg op b=false:=by first|exact gO _|with_unfolding_all rfl):QT X (.Compare a [op] [b] pos) (dTr (d2 G2' fa fb)):=⟨LH ho.1 ha.1 hb.1 hm⟩
theorem JS {op op':Sm}{g':G2}(ho:ZOp X (Cw op) G2')(ho':ZOp X (Cw op') g')(ha:QE X a fa)(hb:QE X b fb)(hc:QE X c fc)(hm:Wb [op,op'] [b,c]=false:=by with_unfolding_all rfl):QT X (.Compare a [op,op'] [b,c] pos) (dTr (xR G2' g' fa fb fc)):=⟨U5 ho.1 ho'.1 ha.1 hb.1 hc.1 hm⟩
theorem YE (ha:QE X a fa)(he:∀ whole,isTrue a X.env whole=(do let v ← whole;Ub a.pos;holding [v] (truthy v)):=by intro _;rfl):QT X a (dTr fa):=⟨LJ ha.1 he⟩
theorem MB {m:Ah}(hN:X.N.Nodup)(hi:X.N[m]? = Aa x)(hx:Loc X.env.scope x)(hf:X.fn x=true∨X.env.scope.names.lookup x=Aa .local):QG X (.Name x pos) (gNm m):=⟨B8 hN hi hx hf⟩
theorem oE:QGs X [] xQ:=⟨B9⟩
theorem cS {h:DG}{gs:DGs}(h1:QG X e h)(h2:QGs X es gs)(hs:(Gi (e::es) X.env).map (·.2)=assign e X.env::(Gi es X.env).map (·.2):=by rfl):QGs X (e::es) (qZ h gs):=⟨VZ h1.1 h2.1 hs⟩
theorem Y8 {kk:Ah}{gs:DGs}(hc:X.calm=true)(h:QGs X es gs)(hn:(Gi es X.env).length=n:=by rfl)(hst:(Gi es X.env).findIdx? (·.1)=none:=by rfl):QG X (.Tuple es kk pos) (gTp n gs):=⟨L0 hc h.1 hn hst⟩
theorem RL {h:G3}(ho:QE X o fo)(hi:QE X i fi)(hs:ZSet X h)
  (ha:∀ v,assign (.Subscript o i pos) X.env v=(do
   let ov ← holding [v] (eval o X.env)
   let iv ← holding [v,ov] (eval i X.env)
   Ub pos
   holding [v,ov,iv] (Yz ov iv v)
   release [v,ov,iv] []):=by intro _;rfl):QG X (.Subscript o i pos) (gSb fo fi h):=⟨NZ ho.1 hi.1 hs.1 ha⟩
theorem RO {tg:Bq}(ha:QE X e fa):QI X tg e (wN fa):=⟨L3 ha.1⟩
theorem JP {tg:Bq}(hg:Gl X "range")(hm:X.mg "range" = none)(ha:QA X (e::es) fA)(hs:Bb (e::es) X.env=(false,eval e X.env)::Bb es X.env:=by rfl)(hpl:(Fp pos (Bb es X.env)).any (·.1)=false:=by rfl):QI X tg (.Call (.Name "range" p) (e::es) [] pos) (yW fA):=⟨U0 hg hm ha.1 hs hpl⟩
theorem Y9 {elts:Ab Bq}{x1:Ah}{tpos:Ez}(hg:Gl X "zip")(hm:X.mg "zip" = none)(ha:QA X [e1,e2] fA)(hs:Bb [e1,e2] X.env=(false,eval e1 X.env)::Bb [e2] X.env:=by rfl)(hpl:(Fp pos (Bb [e2] X.env)).any (·.1)=false:=by rfl):QI X (.Tuple elts x1 tpos) (.Call (.Name "zip" p) [e1,e2] [] pos) (pY fA):=⟨L4 hg hm ha.1 hs hpl⟩
theorem Y1:QB X [] zD:=⟨L9⟩
theorem nG (h:QS X st f):QB X [st] f:=⟨LA h.1⟩
theorem fJ (h1:QS X st f)(h2:QB X sts g):QB X (st::sts) (qL f g):=⟨BD h1.1 h2.1⟩
theorem MF (he:QE X e fa)(hs:Lr e none pos.line X.env=pure false:=by rfl):QS X (.Expr e pos) (yM fa):=⟨BE he.1 hs⟩
theorem YB (he:QE X e fa):QS X (.Return (Aa e) pos) (qX fa):=⟨LC he.1⟩
theorem GO {as bs:Ab Eu}(hc:QT X c ta)(ha:QB X as f)(hb:QB X bs g):QS X (.If c as bs pos) (sIf ta f g):=⟨HC hc.1 ha.1 hb.1⟩
theorem YA {tg iter:Bq}{body:Ab Eu}{fI:DI}{h:DG}(hp:ZPass X)(hc:X.calm=true)(hi:QI X tg iter fI)(hg:QG X tg h)(hb:QB X body f)(hs:∀ x,Ei iter X.env x=pure x:=by intro _;rfl):QS X (.For tg iter body [] pos) (yF fI h f):=⟨L8 hp.1 hc hi.1 hg.1 hb.1 hs⟩
theorem RT {m:Ah}{pos':Ez}(hN:X.N.Nodup)(he:QE X e fa)(hi:X.N[m]? = Aa x)(hx:Loc X.env.scope x)(hs:Lr e (Aa (.Name x pos')) pos.line X.env=pure false)(hf:X.fn x=true∨X.env.scope.names.lookup x=Aa .local):QS X (.Assign [.Name x pos'] e pos) (zC fa (gNm m)):=⟨LD hN he.1 hi hx hs hf⟩
theorem RP {tg:Bq}{h:DG}(he:QE X e fa)(hg:QG X tg h)(hs:Ke [tg] e pos.line X.env=pure false:=by rfl)(hw:Ka [tg] e X.env=pure none:=by rfl)(h1:(Gi [tg] X.env).map (·.2)=[assign tg X.env]:=by rfl):QS X (.Assign [tg] e pos) (zC fa h):=⟨L6 he.1 hg.1 hs hw h1⟩
theorem RQ {m:Ah}{op:Lw}{pos':Ez}(hN:X.N.Nodup)(he:QE X e fe)(ho:ZIp X op G2')(hi:X.N[m]? = Aa x)(hx:Loc X.env.scope x)(hf:X.fn x=true∨X.env.scope.names.lookup x=Aa .local):QS X (.AugAssign (.Name x pos') op e pos) (mM m G2' fe):=⟨L7 hN he.1 ho.1 hi hx hf⟩
theorem RS {m l:Ah}{y:Au}{px py pt:Ez} {kt k2 pt2} (hc:X.calm=true) (hN:X.N.Nodup) (ha:QA X [a,b] fA) (hi:X.N[m]? = Aa x) (hj:X.N[l]? = Aa y) (hij:m≠l) (hx:X.env.scope.names.lookup x=Aa .local) (hy:X.env.scope.names.lookup y=Aa .local)
  (hw:Ka [.Tuple [.Name x px,.Name y py] kt pt] (.Tuple [a,b] k2 pt2) X.env=pure (Aa [x,y]):=by rfl) (hs:Ke [.Tuple [.Name x px,.Name y py] kt pt] (.Tuple [a,b] k2 pt2) pos.line X.env=pure false:=by rfl) :
  QS X (.Assign [.Tuple [.Name x px,.Name y py] kt pt] (.Tuple [a,b] k2 pt2) pos) (pG m l fA):=⟨LB hc hN ha.1 hi hj hij hx hy hw hs⟩
theorem JR {C Ae:Af}{np cpos:Ez}(hc:X.calm=true)(hF:Fn1 X)(hg:Gl X x)(hm:X.mg x=Aa (.ref C))(hx:m8 X.K C Ae=true)(ha:QA X (e::rest) fA)(hdb:(x == ("__debug__" : Au))=false)(he:Bb (e::rest) X.env=(false,eval e X.env)::Bb rest X.env:=by rfl)(hpl:(Fp cpos (Bb rest X.env)).any (·.1)=false:=by rfl) :
  QS X (.Raise (Aa (.Call (.Name x np) (e::rest) [] cpos)) none pos) (yS (.ref C) fA):=⟨U4 hc hF hg hm hx ha.1 hdb he hpl⟩
theorem RU {nm:Au}{C0:Af}{m:Ah}{body:Ab Eu}{b₀:Eu}{suite:Ab Eu}{np hpos:Ez}{cs:Ab Ac}(hF:Fn1 X)(hb:∀ E pn,ZPass (Cx.tryIn X E pn)→QB (Cx.tryIn X E pn) body f)(hs:∀ e,QB (Cx.suite X e) (b₀::suite) g)(hg:Gl X x)(hm:X.mg x=Aa (.ref C0))(hcs:∀ c∈cs,Ie X.K c (.ref C0)=Aa true)(hN:X.N.Nodup)(hi:X.N[m]? = Aa nm)(hlo:X.env.scope.names.lookup nm=Aa .local)(hdb:(x == ("__debug__" : Au))=false)(hn:X.N.length=n) :
  QS X (.Try body [.ExceptHandler (Aa (.Name x np)) (Aa nm) (b₀::suite) hpos] [] [] pos) (mO n m cs f g):=⟨hn▸LG hF (fun E pn hp=>(hb E pn ⟨hp⟩).1) (fun e=>(hs e).1) hg hm hcs hN hi hlo hdb⟩
theorem AF:ZOp X (Eo .Add) qR:=⟨S8⟩
theorem AR:ZOp X (Eo .Sub) xA:=⟨SD⟩
theorem AM:ZOp X (Eo .Mult) xV:=⟨o7⟩
theorem AH:ZOp X (Eo .FloorDiv) yZ:=⟨S9⟩
theorem AL:ZOp X (Eo .Mod) vT:=⟨SB⟩
theorem AO:ZOp X (Eo .Pow) uZ:=⟨SC⟩
theorem OP:ZOp X (Cw .Lt) gLt:=⟨GG⟩
theorem OO:ZOp X (Cw .LtE) gLe:=⟨CD⟩
theorem OM:ZOp X (Cw .Gt) gGt:=⟨CB⟩
theorem OL:ZOp X (Cw .GtE) gGe:=⟨CA⟩
theorem EL:ZOp X (Cw .Is) gIs:=⟨CC⟩
theorem EJ (hr:RoomC cm k X.A):ZOp X (Cw .Eq) gEq:=⟨HZ hr.units⟩
theorem ES (hr:RoomC cm k X.A):ZOp X (Cw .NotEq) gNe:=⟨CF hr.units⟩
theorem AN:ZUn X (Wt .USub) yJ:=⟨EG⟩
theorem ON:ZIx X gIx:=⟨D1⟩
theorem P7:ZCall X (.builtin "isinstance") zK:=⟨X3⟩
theorem EM {cl:Ab Af}(h:ClsK X.K cl):ZCall X (.builtin "isinstance") (xB cl):=⟨PP h⟩
theorem P8:ZCall X (.builtin "len") zH:=⟨PQ⟩
theorem AG (hc:X.calm=true):ZCall X (.builtin "all") (uX false):=⟨N8 false hc⟩
theorem AJ:ZCall X (.type "int") eR:=⟨N9⟩
theorem TM:ZCall X (.type "tuple") wW:=⟨VI⟩
theorem EN:ZCall X (.type "list") bX:=⟨PR⟩
theorem KA:ZMt X "list.append" vE:=⟨WG⟩
theorem AI (hr:RoomC cm k X.A):ZMt X "dict.get" b5:=⟨DN (hu1 hr)⟩
theorem TJ:ZMt X "list.count" tG:=⟨UX⟩
theorem TK:ZMt X "list.index" tH:=⟨UY⟩
theorem EK:ZIp X .Add rF:=⟨BW⟩
theorem AQ (hr:RoomC cm k X.A):ZSet X vO:=⟨E5 (hu1 hr)⟩
end
section
variable {P:Bh}{w:Bv}{K:Ak}{mg:Au→Am Ac}{base:Bi}{cm:As}
theorem oX {N:Ab Au}{qual:Au}{scope:Fv}{f:Af}{cd:Ac}{A:Bo}{outer:Ab Jn}{s:Ag}{H:Hp}{E:XK}:ZPass (cxC cm P w K mg base N qual scope f cd A outer s H E):=⟨VQ⟩
theorem II {x:Au}{st:Eu}{N ps:Ab Au}{k:Ah}{g:DS}{body:Ab Eu}(h:Src K mg x st ps)(S:FnScope N ps (qK st))(hbd:xD st=body)
  (hbody:∀ (f:Af) (cdv:Ac) (A:Bo) (outer:Ab Jn) (s:Ag) (H:Hp) (E:XK),RoomC cm k (A.deeper (Gj x (qK st) s.heap.objs.size f cdv)) →
   QB (cxC cm P w K mg base N x (qK st) f cdv A outer s H E) body g):Def P w K mg base cm (k+1) x ps.length (qQ N.length g):=
 NY h S fun f cdv A outer s H E hr=>hbd▸(hbody f cdv A outer s H E hr).1
theorem HA {x:Au}{st:Eu}{N ps:Ab Au}{k:Ah}{g:DS}{body:Ab Eu}(h:Src K mg x st ps)(S:FnScope N ps (qK st))(hbd:xD st=body)
  (hbody:∀ (f:Af) (cdv:Ac) (A:Bo) (outer:Ab Jn) (s:Ag) (H:Hp) (E:XK),RoomC cm k (A.deeper (Gj x (qK st) s.heap.objs.size f cdv)) →
   QB (cxC cm P w K mg base N x (qK st) f cdv A outer s H E) body g):rP P w K mg base cm (k+1) x ps (qQ N.length g):=
 B7 h S fun f cdv A outer s H E hr=>hbd▸(hbody f cdv A outer s H E hr).1
theorem B6 {x:Au}{st:Eu}{ps:Ab Au}(h:Src K mg x st ps):Def P w K mg base cm 0 x ps.length fun _ _=>.bad:=by
 obtain⟨f,fd,hm,F,hb⟩:=h;exact⟨f,fd,ps,rfl,hm,F.kp,hb,rG F,⟨fun vs H Q E z=>z.1,fun A outer s H args us vs Q E _ _ _ _ z=>by obtain⟨_,_,_,_,_,_,_,z⟩:=z;exact Ao z⟩⟩
end
structure QTs (X:Cx)(ifs:Ab Bq)(t:DT):Prop where
 get:PTs X ifs t
section
variable {X:Cx}{elt tg iter e:Bq}{ifs es:Ab Bq}{scope:Fv}{pos p:Ez}{N':Ab Au}{cap:Ab (Am Ah)}{fi:DI}{g:DG}{t u:DT}{fe:DE}{fa:DA}{x:Au}{cm:As}{k n:Ah}{F:DF}
theorem MH:QTs X [] z9:=⟨BG⟩
theorem JT (h1:QT X e t)(h2:QTs X es u):QTs X (e::es) (wJ t u):=⟨U6 h1.1 h2.1⟩
theorem qcO (G:Def X.prog X.w X.K X.mg X.base cm k x n F)(hr:RoomC cm k X.A)(hg:Gl X x)(ha:QA X (e::es) fa)(hdb:(x == ("__debug__" : Au))=false)(he:Bb (e::es) X.env=(false,eval e X.env)::Bb es X.env:=by rfl)(hpl:(Fp pos (Bb es X.env)).any (·.1)=false:=by rfl) :
  QE X (.Call (.Name x p) (e::es) [] pos) (qG n (okO F) fa):=⟨dcO G hr hg ha.1 hdb he hpl⟩
end
def stn (o:Am (Ah × MO))(S:Sto):Prop:=match o with
 |none=>Jz
 |some p=>S[p.1]? = Aa p.2
open Classical in
def pI (o:Am (Ah × MO))(S:Sto):As:=decide (stn o S)
theorem wD {o:Am (Ah × MO)}{S:Sto}:pI o S=true↔stn o S:=by simp[pI]
structure ItD2 (K:Ak)(J:It)(P:Hp)(α : Ab Af)(o:Am (Ah × MO))(ds:Ab D):Prop where
 go:∀ i H P1 α1 S,i<ds.length→Rel K H P1 α1 S→stn o S→qH P P1→α<+:α1→J.go i H
 yld:∀ i H x H' P1 α1 S,i<ds.length→Rel K H P1 α1 S→stn o S→qH P P1→α<+:α1→J.yld i H x H'→∃ P2 d,ds[i]? = Aa d∧Rel K H' P2 α1 S∧qH P1 P2∧Rep K P2 α1 d x
 stop:∀ i H P1 α1 S,ds.length≤i→Rel K H P1 α1 S→stn o S→qH P P1→α<+:α1→J.stop i H
theorem ItD.two {K:Ak}{J:It}{P:Hp}{α : Ab Af}{ds:Ab D}(h:ItD K J P α ds):ItD2 K J P α none ds:=
 ⟨fun i H P1 α1 S a b _ c d=>h.go i H P1 α1 S a b c d,fun i H x H' P1 α1 S a b _ c d e=>h.yld i H x H' P1 α1 S a b c d e,fun i H P1 α1 S a b _ c d=>h.stop i H P1 α1 S a b c d⟩
abbrev DI2:=qD→Sto→Res (Am (Ah × MO) × Ab D)
inductive tDI2 (X:Cx)(f:DI2)(σ : _L.St)(H:Hp)(R:It→Hp→Prop):Prop
 |mk (P:Hp) (α : Ab Af) (env:qD) (S:Sto) (r:Rel X.K H P α S) (re:zJ X.K P α σ env) (af:qJ X P α (f env S) (fun p S'=>∀ J H' P' α',Rel X.K H' P' α' S'→qH P P'→α<+:α'→ItD2 X.K J P' α' p.1 p.2→R J H')):tDI2 X f σ H R
def y0 (f:DI):DI2:=fun env S=>(f env S).bind fun ds S1=>.ok (none,ds) S1
section
variable {X:Cx}{K:Ak}{tg e:Bq}{fa:DE}{pos:Ez}
theorem BA {f:DI}(h:PI X tg e (tDI X f)):PI X tg e (tDI2 X (y0 f)):=PI.weak h fun σ H R ⟨P,α,env,S,r,re,af⟩=>by
 refine⟨P,α,env,S,r,re,?_⟩;unfold y0 at af;cases q:f env S with
 |bad=>rw[q] at af;exact af
 |ex c x S'=>rw[q] at af;exact af
 |ok ds S1 =>
  rw[q] at af;exact fun J H' P' α' r' e1 e2 it=>af J H' P' α' r' e1 e2 it.two
theorem F1 {P:Hp}{α : Ab Af}{a:Af}{n:Ah}{ds:Ab D}(hα:α[n]? = Aa a):ItD2 K (Itl K a) P α (Aa (n,.lst ds)) ds where
 go:=fun i H P1 α1 S hi r st e e2=>by
  obtain⟨vs,z,t⟩:=r.at' n a _ (fF e2 hα) st;exact⟨vs,vs[i]'(by rw[← t.length];exact hi),.of z,by simp⟩
 yld:=fun i H x H' P1 α1 S hi r st e e2 y=>by
  obtain⟨rfl,y⟩:=y;obtain⟨vs,z,t⟩:=r.at' n a _ (fF e2 hα) st;have hx:=y vs (.of z);obtain⟨v,h1,h2⟩:=t.get (An hi);rw[hx] at h1;cases h1;exact⟨P1,_,An hi,r,qH.refl _,h2⟩
 stop:=fun i H P1 α1 S hi r st e e2=>by
  obtain⟨vs,z,t⟩:=r.at' n a _ (fF e2 hα) st;exact⟨vs,.of z,by rw[← t.length];exact hi⟩
def itD (d:D)(S:Sto):Res (Am (Ah × MO) × Ab D):=match d with
 |.tup xs=>.ok (none,xs) S
 |.lst xs=>.ok (none,xs) S
 |.loc n=>match S[n]? with
  |some (.lst xs)=>.ok (Aa (n,.lst xs),xs) S
  |_=>.bad
 |_=>.bad
def dIt (f:DE):DI2:=fun env S=>(f env S).bind fun d S1=>itD d S1
theorem HB (ha:PE X e (tD X fa)):PI X tg e (tDI2 X (dIt fa)):=by
 intro pins s σ H R I h;obtain⟨P,α,env,S,r,re,af⟩:=h;refine thn (xH ha I r re af) fun vv s1 ⟨v,H1,P1,α1,d,S1,G1,af1⟩=>?_;have seq:∀ ds,xE d=Aa ds→(∀ J H' P' α',Rel X.K H' P' α' S1→qH P P'→α<+:α'→ItD2 X.K J P' α' none ds→R J H')→Ap (Aw X.prog X.w) X.A (Oo vv) (PIE X pins σ tg R) X.xe s1:=fun ds e1 q =>
  eW G1.inv G1.rel G1.val G1.rep e1 fun J H' P' α' r' h1 h2 it=>q J H' P' α' r' (G1.same.trans h1) (G1.pre.trans h2) it.two
 cases d with
 |tup xs=>exact seq xs rfl af1
 |lst xs=>exact seq xs rfl af1
 |loc n =>
  obtain⟨xs,hS,af1⟩:=pB (X:=X) (f:=fun xs=>Res.ok (Aa (n,MO.lst xs),xs) S1) af1;have rp:=G1.rep;simp only[Rep] at rp;obtain⟨a,rfl,ha⟩:=rp;cases (show vv=Ch a from G1.val)
  obtain⟨vs,z,t⟩:=G1.rel.at' n a _ ha hS;obtain⟨its,rv,p,hz⟩:=G1.inv.list (SqL.of z);refine Ga p.isList ?_;refine⟨s1.heap.objs.size,[s1.heap.objs.size],_,_,H1,rfl,G1.inv.kept (t':=s1.toks) fun b o e=>Ai _ e,sX a _,⟨_,Az _ rfl,rfl,rfl⟩,fun b hb=>?_,af1 _ _ P1 α1 G1.rel G1.same G1.pre (F1 ha)⟩;have e:b=s1.heap.objs.size:=by simpa using hb
  subst e;exact G1.inv.fpOk (Bd _) (G1.inv.hok.fresh (Bd _))
 |_=>exact Ao af1
end
def yB (o:Am (Ah × MO))(g:DG)(f:DS):Ab D→qD→Sto→Out
 |[],env,S=>if pI o S then .nx env S else .bad
 |d::ds,env,S=>if pI o S then (g d env S).toS env fun env1 S1=>match f env1 S1 with
  |.nx env2 S2=>yB o g f ds env2 S2
  |.ct env2 S2=>yB o g f ds env2 S2
  |.bk env2 S2=>.nx env2 S2
  |o=>o
  else .bad
def nO (fi:DI2)(g:DG)(f:DS):DS:=fun env S=>(fi env S).toS env fun p S1=>yB p.1 g f p.2 env S1
inductive LoopW2 (X:Cx)(P1:Hp)(α1:Ab Af)(o:Am (Ah × MO))(g:DG)(f:DS)(ds:Ab D)(D:Ends)(i m:Ah)(σ : _L.St)(H:Hp):Prop
 |mk (hi:i≤ds.length) (hm:m=ds.length-i) (P2:Hp) (α2:Ab Af) (env2:qD) (S2:Sto) (r:Rel X.K H P2 α2 S2) (re:zJ X.K P2 α2 σ env2) (e1:qH P1 P2) (e2:α1<+:α2) (af:zB X P2 α2 (yB o g f (ds.drop i) env2 S2) D):LoopW2 X P1 α1 o g f ds D i m σ H
section
variable {X:Cx}{tg:Bq}{pos:Ez}
theorem BF {iter:Bq}{body:Ab Eu}{fi:DI2}{g:DG}{f:DS}(hp:Pa (Aw X.prog X.w) X.A X.env X.xe)(hc:X.calm=true)(hi:PI X tg iter (tDI2 X fi))(hg:PG X tg (tDG X g))(hb:PSs X body (tDS X f))
  (hs:∀ x,Ei iter X.env x=pure x:=by intro _;rfl):PS X (.For tg iter body [] pos) (tDS X (nO fi g f)):=psW (WZ hp hc hi hg hb hs) fun D σ H ⟨P,α,env,S,r,re,af⟩=>by
 refine⟨P,α,env,S,r,re,?_⟩;have af1:=xZ af;cases q:fi env S with
 |bad=>rw[q] at af1;exact af1
 |ex c x S'=>rw[q] at af1;exact af1
 |ok p S1 =>
  obtain⟨o,ds⟩:=p;rw[q] at af1;have af2:zB X P α (yB o g f ds env S1) D:=af1;intro J H1 P1 α1 r1 e1 e2 it;have it:ItD2 X.K J P1 α1 o ds:=it;refine⟨LoopW2 X P1 α1 o g f ds D,
   ⟨ds.length,Gn _,rfl,P1,α1,env,S1,r1,re.mono e1 e2,qH.refl _,Bg _,zB.base e1 e2 af2⟩,?_⟩
  rintro i m σ2 H2 ⟨hi,rfl,P2,α2,env2,S2,r2,re2,e3,e4,af3⟩;by_cases hsb:pI o S2=true
  ·have hst:=wD.mp hsb
   by_cases hlt:i<ds.length
   ·refine .inr ⟨it.go i H2 P2 α2 S2 hlt r2 hst e3 e4,LoopW2 X P1 α1 o g f ds D (i+1) (ds.length-(i+1)),fun σ' H' w=>⟨_,?_,w⟩,fun x H3 y=>?_⟩
    ·omega
    ·obtain⟨P3,d,hd,r3,e5,rp⟩:=it.yld i H2 x H3 P2 α2 S2 hlt r2 hst e3 e4 y
     have hdr:ds.drop i=d::ds.drop (i+1):=by
      rw[Ib hlt];rw[An hlt] at hd;rw[Cp hd]
     rw[hdr] at af3;unfold yB at af3;rw[AT hsb] at af3;have af4:=xZ (zB.base e5 (Bg _) af3);refine⟨P3,α2,env2,S2,d,r3,re2.mono e5 (Bg _),rp,?_⟩;cases q2:g d env2 S2 with
     |bad=>rw[q2] at af4;exact af4
     |ex c x S'=>rw[q2] at af4;exact af4
     |ok env3 S3 =>
      rw[q2] at af4;intro σ4 H4 P4 α4 r4 re4 e6 e7;refine⟨P4,α4,env3,S3,r4,re4,?_⟩;have af5:=zB.base e6 e7 af4;cases q3:f env3 S3 with
      |bad=>simp only[q3] at af5;exact af5
      |ex c x env4 S4=>simp only[q3] at af5;exact af5
      |rt d4 S4=>simp only[q3] at af5;exact af5
      |bk env4 S4=>simp only[q3] at af5;exact af5
      |nx env4 S4 =>
       simp only[q3] at af5;exact fun σ5 H5 P5 α5 r5 re5 e8 e9=>⟨hlt,rfl,P5,α5,env4,S4,r5,re5,((e3.trans e5).trans e6).trans e8,(e4.trans e7).trans e9,zB.base e8 e9 af5⟩
      |ct env4 S4 =>
       simp only[q3] at af5;exact fun σ5 H5 P5 α5 r5 re5 e8 e9=>⟨hlt,rfl,P5,α5,env4,S4,r5,re5,((e3.trans e5).trans e6).trans e8,(e4.trans e7).trans e9,zB.base e8 e9 af5⟩
   ·have hdr:ds.drop i=[]:=Je om
    rw[hdr] at af3;unfold yB at af3;rw[AT hsb] at af3;exact .inl ⟨it.stop i H2 P2 α2 S2 om r2 hst e3 e4,af3 σ2 H2 P2 α2 r2 re2 (qH.refl _) (Bg _)⟩
  ·cases hdr:ds.drop i with
   |nil=>rw[hdr] at af3;unfold yB at af3;rw[Bc hsb] at af3;exact Ao af3
   |cons d r=>rw[hdr] at af3;unfold yB at af3;rw[Bc hsb] at af3;exact Ao af3
end
def wL (elt:Bq)(gens:Ab Ff)(scope:Fv)(pos:Ez)(k:Ah)(acc:Ac)(env:Jn):Mp Rm:=
 match gens[k+1]? with
 |some g'=>do
  let x ← eval g'.iter env
  Ub g'.iter.pos
  let x ← Ei g'.iter env x
  let it ← holding [x] (Oo x)
  let _ ← runOwn (.compStart (.ListComp elt gens scope pos) (k+1) it acc env) env
 |none=>do let _ ← call (.builtin "list.append") [acc,← eval elt env]
theorem K8 (elt target iter:Bq)(ifs:Ab Bq)(gens:Ab Ff)(scope:Fv)(pos:Ez)(it acc:Ac)(env:Jn)(k:Ah)(hg:gens[k]? = Aa ⟨target,iter,ifs,0⟩)(ha:∀ g',gens[k+1]? = Aa g'→g'.is_async=0) :
  compTurn (.ListComp elt gens scope pos) k it acc env=(do
   Ub iter.pos
   match ← Nb it with
   |none=>pure (.done .next)
   |some v =>
    IN target it v
    assign target env v
    let mut ok:=true
    for c in ifs do
     if ok then ok ← isTrue c env (eval c env)
    if ok then wL elt gens scope pos k acc env
    again (.compLoop (.ListComp elt gens scope pos) k it acc env)):=by
 unfold compTurn wL;simp only[hg];cases q:gens[k+1]? with
 |none=>rfl
 |some g' =>
  have h0:=ha g' q;have e0:(g'.is_async != 0)=false:=by rw[h0];rfl
  simp only[e0,Bn,Dt,bind_assoc,pure_bind];rfl
abbrev DK:=qD→Sto→Ab D→Res (qD × Ab D)
def goL (o:Am (Ah × MO))(g:DG)(t:DT)(k:DK):Ab D→DK
 |[],env,S,acc=>if pI o S then .ok (env,acc) S else .bad
 |d::ds,env,S,acc=>if pI o S then (g d env S).bind fun env1 S1=>(t env1 S1).bind fun b S2 =>
   if b then (k env1 S2 acc).bind fun p S3=>goL o g t k ds p.1 S3 p.2 else goL o g t k ds env1 S2 acc
  else .bad
def qV (fe:DE):DK:=fun env S acc=>(fe env S).bind fun x S1=>if acc.length<lim then .ok (env,acc++[x]) S1 else .bad
def KG (Y:Cx)(pins:Ab (Af × Co))(P1:Hp)(α1:Ab Af)(acc:Af)(env:qD)(S:Sto)(ds:Ab D)(s:Ag):Prop:=
 ∃ σ H P α o,TurnSt Y pins P1 α1 [] acc env S ds s σ H P α o
def PK (Y:Cx)(step:Ac→Mp Rm)(k:DK):Prop:=
 ∀ (pins:Ab (Af × Co)) (P1:Hp) (α1:Ab Af) (acc:Af) (env env':qD) (S S':Sto) (ds ds':Ab D) (s:Ag),(∀ H:Hp,H acc=none→wM Y pins H acc)→KG Y pins P1 α1 acc env S ds s→k env S ds=.ok (env',ds') S' →
  Ap (Aw Y.prog Y.w) Y.A (step (.ref acc)) (fun _ s'=>KG Y pins P1 α1 acc env' S' ds' s') (fun _ _=>Fc) s
section
variable {Y:Cx}{elt tg iter:Bq}{ifs:Ab Bq}{gens:Ab Ff}{scope:Fv}{pos:Ez}{k:Ah}{g:DG}{t:DT}{fe:DE}{it acc:Af}{fp:Ab Af}{J:It}{tn:Ah→Bi→Prop}{items:Ab D}{P1:Hp}{α1:Ab Af}{pins:Ab (Af × Co)}
theorem XU {X:Cx}{pins:Ab (Af × Co)}{H:Hp}{b:Af}{fp:Ab Af}{h:Bi}(f:wM X pins H b)(hn:b ∉ fp):wM X (pins++uK fp h) H b:=by
 obtain⟨f0,f1,f2,f3,f4,f5⟩:=f;refine⟨f0,f1,f2,f3,f4,fun p hp=>?_⟩;rcases Cu.mp hp with z|z
 ·exact f5 p (Dq _ z)
 ·rcases Cu.mp z with z|z
  ·exact f5 p (Ce _ z)
  ·rintro rfl
   exact hn (sG z).1
theorem Res.bind_inv {β γ:Type}{r:Res β}{f:β→Sto→Res γ}{x:γ}{S:Sto}(h:r.bind f=.ok x S):∃ b S1,r=.ok b S1∧f b S1=.ok x S:=by
 cases r with
 |ok b S1=>exact⟨b,S1,rfl,h⟩
 |_=>cases h
inductive GoC (o:Am (Ah × MO))(g:DG)(t:DT)(k:DK)(d:D)(ds acc:Ab D)(env:qD)(S SF:Sto)(x:qD × Ab D):Prop
 |no (env1:qD) (S1 S2:Sto) (z:stn o S) (q1:g d env S=.ok env1 S1) (q2:t env1 S1=.ok false S2) (r:goL o g t k ds env1 S2 acc=.ok x SF):GoC o g t k d ds acc env S SF x
 |yes (env1:qD) (S1 S2:Sto) (env5:qD) (ds5:Ab D) (S5:Sto) (z:stn o S) (q1:g d env S=.ok env1 S1) (q2:t env1 S1=.ok true S2) (q3:k env1 S2 acc=.ok (env5,ds5) S5) (r:goL o g t k ds env5 S5 ds5=.ok x SF):GoC o g t k d ds acc env S SF x
set_option tactic.hygienic true in
theorem UI {o:Am (Ah × MO)}{g:DG}{t:DT}{k:DK}{d:D}{ds acc:Ab D}{env:qD}{S SF:Sto}{x:qD × Ab D}(h:goL o g t k (d::ds) env S acc=.ok x SF):GoC o g t k d ds acc env S SF x:=by
 simp only[goL] at h
 split at h
 ·rename_i z
  obtain⟨env1,S1,q1,h⟩:=Res.bind_inv h;obtain⟨b,S2,q2,h⟩:=Res.bind_inv h;cases b with
  |false=>exact .no env1 S1 S2 (wD.mp z) q1 q2 h
  |true =>
   obtain⟨⟨env5,ds5⟩,S5,q3,h⟩:=Res.bind_inv h;exact .yes env1 S1 S2 env5 ds5 S5 (wD.mp z) q1 q2 q3 h
 ·cases h
set_option tactic.hygienic true in
theorem BS {o:Am (Ah × MO)}{g:DG}{t:DT}{k:DK}{acc dsF:Ab D}{env envF:qD}{S SF:Sto}(h:goL o g t k [] env S acc=.ok (envF,dsF) SF):stn o S∧env=envF∧acc=dsF∧S=SF:=by
 simp only[goL] at h
 split at h
 ·rename_i z
  cases h;exact⟨wD.mp z,rfl,rfl,rfl⟩
 ·cases h
inductive LpI (Y:Cx)(pins:Ab (Af × Co))(P1:Hp)(α1:Ab Af)(fp:Ab Af)(acc:Af)(tn:Ah→Bi→Prop)(G:Ab D→DK)(items:Ab D)(x:qD × Ab D)(SF:Sto)(n:Ah)(s:Ag):Prop
 |mk (i:Ah) (σ : _L.St) (H P:Hp) (α : Ab Af) (o:Co) (env:qD) (S:Sto) (ds:Ab D) (hn:n=items.length-i) (hi:i≤items.length) (st:TurnSt Y pins P1 α1 fp acc env S ds s σ H P α o) (st1:tn i s.heap) (run:G (items.drop i) env S ds=.ok x SF):LpI Y pins P1 α1 fp acc tn G items x SF n s
theorem T4 {M:Ma}{A:Bo}{Q:Fin→Ag→Prop}{Qa Qd:Ag→Prop}{E:Ac→Ag→Prop}{s:Ag}{it acc:Ac}{en:Jn}(hgk:gens[k]? = Aa ⟨tg,iter,ifs,0⟩)(has:∀ g',gens[k+1]? = Aa g'→g'.is_async=0)
  (ha:∀ s,Qa s→Q (.again (.compLoop (.ListComp elt gens scope pos) k it acc en)) s) (hd:∀ s,Qd s→Q (.done .next) s)
  (h:Ap M A (Nb it) (fun r s1=>(r=none→Qd s1)∧∀ v,r=Aa v→Ap M A (IN tg it v) (fun _ s2=>Ap M A (assign tg en v) (fun _ s3=>Ap M A (kQ ifs en) (fun b s4=>(b=false→Qa s4)∧(b=true→Ap M A (wL elt gens scope pos k acc en) (fun _ s5=>Qa s5) E s4)) E s3) E s2) E s1) E s) :
  Ap M A (compTurn (.ListComp elt gens scope pos) k it acc en) Q E s:=by
 rw[K8 elt tg iter ifs gens scope pos it acc en k hgk has];refine Ad (Oy (Ad (thn h fun r s1 ⟨h0,h1⟩=>?_)));cases r with
 |none=>exact Al (hd _ (h0 rfl))
 |some v =>
  refine Ad (thn (h1 v rfl) fun _ s2 h2=>Ad (thn h2 fun _ s3 h3=>Ad (thn h3 fun b s4 h4=>?_)));cases b with
  |false=>exact Al (ha _ (h4.1 rfl))
  |true=>exact Ad (thn (h4.2 rfl) fun _ s5 h5=>Al (ha _ h5))
theorem BQ (hfp:∀ H:Hp,(∀ b∈fp,H b=none)→∀ b∈fp,wM Y pins H b)(hne:acc ∉ fp)(o:Co)(H':Hp)(hn:∀ b∈fp,H' b=none):∀ b∈fp,wM Y (pins++[(acc,o)]) H' b:=fun b hb=>by
 obtain⟨f0,f1,f2,f3,f4,f5⟩:=hfp H' hn b hb;refine⟨f0,f1,f2,f3,f4,fun p hp=>?_⟩;rcases Cu.mp hp with z|z
 ·exact f5 p (Dq _ z)
 ·rcases Cu.mp z with z|z
  ·exact f5 p (Ce _ z)
  ·rw[Fb.mp z]
   rintro rfl;exact hne hb
theorem gE {i:Ah}{h:Bi}(T:Turn Y.prog Y.w Y.K tg J fp it tn)(st2:tn (i+1) h)(pl:∀ b∈fp,∃ o,h.get? b=Aa o∧∀ v,o.data≠.cell v){s5:Ag}{σ5:_L.St}{H5:Hp}(I5:Inv Y (pins++uK fp h) σ5 H5 s5):tn (i+1) s5.heap∧(∀ b∈fp,H5 b=none):=by
 refine⟨T.keep _ _ _ st2 fun b hb o' e=>(I5.pin (b,o') (Ce _ (Ce _ (jP hb e)))).1,fun b hb=>?_⟩;obtain⟨o',e,d'⟩:=pl b hb;exact(I5.pin (b,o') (Ce _ (Ce _ (jP hb e)))).2.1
theorem QF {o':Am (Ah × MO)}{kk:DK}{Qa Qd:Ag→Prop}{E:Ac→Ag→Prop}{s:Ag}{σ : _L.St}{H P:Hp}{α : Ab Af}{env envF:qD}{S SF:Sto}{ds dsF:Ab D}{o:Co}{i:Ah}(hc:Y.calm=true)(hx:Y.xe=fun _ _=>Fc)
  (T:Turn Y.prog Y.w Y.K tg J fp it tn) (hit:ItD2 Y.K J P1 α1 o' items) (hg:PG Y tg (tDG Y g)) (ht:PTs Y ifs t) (he:PK Y (fun acc=>wL elt gens scope pos k acc Y.env) kk) (hacc:∀ H:Hp,H acc=none→wM Y pins H acc) (hfp:∀ H:Hp,(∀ b∈fp,H b=none)→∀ b∈fp,wM Y pins H b) (hne:acc ∉ fp)
  (hi:i≤items.length) (st:TurnSt Y pins P1 α1 fp acc env S ds s σ H P α o) (st1:tn i s.heap) (run:goL o' g t kk (items.drop i) env S ds=.ok (envF,dsF) SF)
  (hA:∀ s' σ' H' P' α' o1 env1 S' ds',i<items.length→TurnSt Y pins P1 α1 fp acc env1 S' ds' s' σ' H' P' α' o1→tn (i+1) s'.heap→goL o' g t kk (items.drop (i+1)) env1 S' ds'=.ok (envF,dsF) SF→Qa s')
  (hD:∀ s' σ' H' P' α' o',TurnSt Y pins P1 α1 fp acc envF SF dsF s' σ' H' P' α' o'→Qd s') :
  Ap (Aw Y.prog Y.w) Y.A (Nb (.ref it)) (fun r s1=>(r=none→Qd s1)∧∀ v,r=Aa v→Ap (Aw Y.prog Y.w) Y.A (IN tg (.ref it) v) (fun _ s2=>Ap (Aw Y.prog Y.w) Y.A (assign tg Y.env v) (fun _ s3=>Ap (Aw Y.prog Y.w) Y.A (kQ ifs Y.env) (fun b s4=>(b=false→Qa s4)∧(b=true→Ap (Aw Y.prog Y.w) Y.A (wL elt gens scope pos k (.ref acc) Y.env) (fun _ s5=>Qa s5) E s4)) E s3) E s2) E s1) E s:=by
 have I1:=_D.Inv.pin1 st.inv (hacc H st.acn) st.at' st.acc.cell;have fp1:=BQ hfp hne o;by_cases hlt:i<items.length
 ·have hdr:items.drop i=items[i]::items.drop (i+1):=Ib hlt
  rw[hdr] at run;have run:=UI run;have hst:stn o' S:=by cases run with|no _ _ _ z=>exact z|yes _ _ _ _ _ _ z=>exact z
  refine mR (T.item Y rfl rfl rfl hc i _ s σ H (fun _ _=>Fc) I1 (fp1 H st.fpn) st1 (hit.go i H P α S hlt st.rel hst st.same st.pre)) fun r s1 ⟨u,hr,h1⟩=>⟨fun z=>(by rw[hr] at z;cases z),fun v hv=>?_⟩
  obtain rfl:v=u:=Cp (hv.symm.trans hr);refine mR h1 fun _ s2 ⟨x,H2,I2,rx,y,st2,fr2⟩=>?_;obtain⟨P2,d,hd,r2,e2,rp⟩:=hit.yld i H x H2 P α S hlt st.rel hst st.same st.pre y;cases (An hlt).symm.trans hd;have pl:=T.obj _ _ st2;have I2':=I2.pinned (fp1 _ fr2) pl;have two:∀ env1 S1 b S2,g items[i] env S=.ok env1 S1→t env1 S1=.ok b S2→(∀ s4 σ3 H4 P4 α4 (I4:Inv Y (pins++uK fp s2.heap) σ3 H4 s4),TurnSt Y pins P1 α1 fp acc env1 S2 ds s4 σ3 H4 P4 α4 o→tn (i+1) s4.heap→(b=false→Qa s4)∧(b=true→Ap (Aw Y.prog Y.w) Y.A (wL elt gens scope pos k (.ref acc) Y.env) (fun _ s5=>Qa s5) E s4))→Ap (Aw Y.prog Y.w) Y.A (assign tg Y.env v) (fun _ s3=>Ap (Aw Y.prog Y.w) Y.A (kQ ifs Y.env) (fun b s4=>(b=false→Qa s4)∧(b=true→Ap (Aw Y.prog Y.w) Y.A (wL elt gens scope pos k (.ref acc) Y.env) (fun _ s5=>Qa s5) E s4)) E s3) E s2:=by
   intro env1 S1 b S2 q1 q2 next;refine mR (hx▸O0 hg I2' r2 (st.env.mono e2 (Bg _)) rx rp q1) fun _ s3 ⟨σ3,H3,P3,α3,I3,r3,re3,e3,e3'⟩=>?_;refine mR (hx▸CN ht I3 r3 re3 q2) fun b' s4 ⟨hb,H4,P4,α4,I4,r4,re4,e4,e4'⟩=>?_;have I4':Inv Y (pins++uK fp s2.heap) σ3 H4 s4:=I4.pins_of fun p hp=>I4.pin p (Ce _ ((Cu.mp hp).elim (fun z=>Dq _ (Dq _ z)) fun z=>Ce _ z));have a4:=I4.pin (acc,o) (Ce _ (Dq _ (Ce _ (Fb.mpr rfl))));rw[hb];exact next s4 σ3 H4 P4 α4 I4' ⟨I4'.unpinned,r4,re4,((st.same.trans e2).trans e3).trans e4,(st.pre.trans e3').trans e4',(gE T st2 pl I4').2,a4.2.1,a4.1,st.acc.mono ((e2.trans e3).trans e4) (e3'.trans e4')⟩ (gE T st2 pl I4').1
  cases run with
  |no env1 S1 S2 _ q1 q2 run=>exact two env1 S1 false S2 q1 q2 fun s4 σ3 H4 P4 α4 I4 st4 tn4=>⟨fun _=>hA s4 σ3 H4 P4 α4 o env1 S2 ds hlt st4 tn4 run,fun z=>(by cases z)⟩
  |yes env1 S1 S2 env5 ds5 S5 _ q1 q2 q3 run =>
   refine two env1 S1 true S2 q1 q2 fun s4 σ3 H4 P4 α4 I4 st4 tn4=>⟨fun z=>(by cases z),fun _=>?_⟩
   refine mR (he (pins++uK fp s2.heap) P1 α1 acc env1 env5 S2 S5 ds ds5 s4 (fun H hn=>XU (hacc H hn) hne) ⟨σ3,H4,P4,α4,o,I4,st4.rel,st4.env,st4.same,st4.pre,fun b hb=>(by cases hb),st4.acn,st4.at',st4.acc⟩ q3) fun _ s5 ⟨σ5,H5,P5,α5,o5,T5⟩=>?_
   exact hA s5 σ5 H5 P5 α5 o5 env5 S5 ds5 hlt ⟨T5.inv.unpinned,T5.rel,T5.env,T5.same,T5.pre,(gE T st2 pl T5.inv).2,T5.acn,T5.at',T5.acc⟩ (gE T st2 pl T5.inv).1 run
 ·rw[Je om] at run
  obtain⟨z,rfl,rfl,rfl⟩:=BS run;refine mR (T.done Y rfl rfl rfl hc i _ s σ H (fun _ _=>Fc) I1 (fp1 H st.fpn) st1 (hit.stop i H P α _ om st.rel z st.same st.pre)) fun r s1 ⟨hr,I2⟩=>⟨fun _=>?_,fun v hv=>(by rw[hr] at hv;cases hv)⟩
  have a:=_D.Inv.pinned1 I2;exact hD s1 σ H P α o ⟨I2.unpinned,st.rel,st.env,st.same,st.pre,st.fpn,a.2,a.1,st.acc⟩
theorem QD {o':Am (Ah × MO)}{kk:DK}{R:Uq→Ag→Prop}{s:Ag}{σ : _L.St}{H P:Hp}{α : Ab Af}{env envF:qD}{S SF:Sto}{ds0 dsF:Ab D}{o:Co}(hc:Y.calm=true)(hx:Y.xe=fun _ _=>Fc)(hgk:gens[k]? = Aa ⟨tg,iter,ifs,0⟩)(has:∀ g',gens[k+1]? = Aa g'→g'.is_async=0)
  (T:Turn Y.prog Y.w Y.K tg J fp it tn) (hit:ItD2 Y.K J P1 α1 o' items) (hg:PG Y tg (tDG Y g)) (ht:PTs Y ifs t) (he:PK Y (fun acc=>wL elt gens scope pos k acc Y.env) kk) (hacc:∀ H:Hp,H acc=none→wM Y pins H acc) (hfp:∀ H:Hp,(∀ b∈fp,H b=none)→∀ b∈fp,wM Y pins H b) (hne:acc ∉ fp)
  (st:TurnSt Y pins P1 α1 fp acc env S ds0 s σ H P α o) (st0:tn 0 s.heap) (run:goL o' g t kk items env S ds0=.ok (envF,dsF) SF)
  (hR:∀ s' σ' H' P' α' o',TurnSt Y pins P1 α1 fp acc envF SF dsF s' σ' H' P' α' o'→R (.ok .next) s') :
  Ja (Aw Y.prog Y.w) Y.A (.compLoop (.ListComp elt gens scope pos) k (.ref it) (.ref acc) Y.env) R s:=by
 refine codeAny_loop rfl (LpI Y pins P1 α1 fp acc tn (goL o' g t kk) items (envF,dsF) SF) (fun n s hI=>?_) items.length ⟨0,σ,H,P,α,o,env,S,ds0,rfl,Gn _,st,st0,run⟩;obtain⟨i,σ,H,P,α,o,env,S,ds,hn,hi,st,st1,run⟩:=hI;subst hn;refine wpAny_noted (T4 hgk has (Qa:=fun s'=>∃ m,m<items.length-i∧LpI Y pins P1 α1 fp acc tn (goL o' g t kk) items (envF,dsF) SF m s') (Qd:=R (.ok .next)) (fun _ h=>⟨rfl,h⟩) (fun _ h=>h) ?_);exact QF hc hx T hit hg ht he hacc hfp hne hi st st1 run (fun s' σ' H' P' α' o1 env1 S' ds' hlt st' tn' run'=>⟨_,Nat.sub_succ_lt_self _ _ hlt,i+1,σ',H',P',α',o1,env1,S',ds',rfl,hlt,st',tn',run'⟩) hR
set_option tactic.hygienic true in
theorem FZ (hx:Y.xe=fun _ _=>Fc)(hlast:gens[k+1]? = none)(he:PE Y elt (tD Y fe)):PK Y (fun acc=>wL elt gens scope pos k acc Y.env) (qV fe):=by
 intro pins P1 α1 acc env env' S S' ds ds' s hacc ⟨σ,H,P,α,o,st⟩ run;show Ap _ _ (wL elt gens scope pos k (.ref acc) Y.env) _ _ s;unfold wL;rw[hlast];dsimp only;unfold qV at run;cases q3:fe env S with
 |bad=>rw[q3] at run;cases run
 |ex c z S'=>rw[q3] at run;cases run
 |ok d5 S5 =>
  rw[q3,Res.bind_ok] at run
  split at run
  ·rename_i hlen
   cases run;have fA:=hacc H st.acn;have I1:=_D.Inv.pin1 st.inv fA st.at' st.acc.cell;refine Ad (mR (hx▸IZ he I1 st.rel st.env q3) fun u5 s5 ⟨v5,H5,P5,α5,G5⟩=>?_);have J:=_D.Inv.pinned1 G5.inv;have J1:=G5.inv.unpinned;obtain⟨J4,J5⟩:=J;obtain⟨its,n5,vs,ho,rvs,rps,hz⟩:=st.acc;subst ho;have hlen':vs.length=ds.length:=rps.length.symm;have hl2:=rvs.length;refine Ad (Nk Uy ⟨_,J4,rfl⟩ TD (Tj _ _) (Vz acc its.toArray n5 u5 (by rw[Be];rw[← xT];omega)) ⟨J4,?_⟩)
   have q:=Wy J4 (·.push u5)
   have fA5:=hacc H5 J5;have keep:∀ b o,b≠acc→s5.heap.get? b=Aa o→(s5.heap.update acc (Ef (·.push u5))).get? b=Aa o:=fun b o hb e=>(Bs s5.heap _ (Ea hb)).trans e
   have I6:=J1.turned (t':=s5.toks) keep J5 fA5.2.1 fA5.2.2.2.1 fA5.2.2.2.2.1 fA5.2.2.2.2.2;refine Al ⟨σ,H5,P5,α5,_,I6,G5.rel,G5.env,st.same.trans G5.same,st.pre.trans G5.pre,fun b hb=>(by simp at hb),J5,q,?_⟩
   refine⟨its++[u5],_,vs++[v5],by simp <;> rfl,rvs.append (.cons G5.val .nil),?_,by simp;omega⟩
   exact(qF.mono G5.same G5.pre _ _ rps).append (.cons G5.rep .nil)
  ·cases run
end
def mkM (m:As)(r:Res (qD × Ab D)):Res D:=match r with
 |.ok p S2=>if m then .ok (.loc S2.length) (S2++[.lst p.2]) else .ok (.lst p.2) S2
 |_=>.bad
def qO (m:As)(cap:Ab (Am Ah))(fi:DI2)(g:DG)(t:DT)(k:DK):DE:=fun env S=>(fi env S).bind fun p S1=>mkM m (goL p.1 g t k p.2 (xF cap env) S1 [])
section
variable {X:Cx}{elt tg iter:Bq}{ifs:Ab Bq}{scope:Fv}{pos:Ez}{N':Ab Au}{cap:Ab (Am Ah)}{fi:DI2}{g:DG}{t:DT}{kk:DK}{rest:Ab Ff}{mm:As}
theorem WJ {P:Hp}{α : Ab Af}{r:Res (qD × Ab D)}{Ok:D→Sto→Prop}(h:qJ X P α (mkM mm r) Ok):∃ envF ds SF,r=.ok (envF,ds) SF∧(if mm then Ok (.loc SF.length) (SF++[.lst ds]) else Ok (.lst ds) SF):=by
 cases r with
 |ok p S =>
  obtain⟨envF,ds⟩:=p;refine⟨envF,ds,S,rfl,?_⟩;cases mm <;> exact h
 |ex c x S=>exact Ao h
 |bad=>exact Ao h
theorem U7 {pins:Ab (Af × Co)}{σ : _L.St}{P1:Hp}{α1:Ab Af}{ds:Ab D}{SF:Sto}{acc C:Af}{s:Ag}{Q:VK}(c:bO X pins σ P1 α1 ds SF acc C s)(ok:if mm then OkV X P1 α1 Q (.loc SF.length) (SF++[.lst ds]) else OkV X P1 α1 Q (.lst ds) SF):EP X pins σ Q (.ref acc) s:=by
 cases mm with
 |false=>exact BI c ok
 |true =>
  obtain⟨H',P',α',vs,I,r,hn,e1,e2,rp,_⟩:=c;exact⟨.ref acc,_,I,rfl,lN r hn rp fun v H2 P2 α2 r2 q1 q2 q3=>ok v H2 P2 α2 r2 (e1.trans q1) (e2.trans q2) q3⟩
theorem XJ {M:Ma}{A:Bo}{E:Ac→Ag→Prop}{s:Ag}{globals:Af}{closure:Ab (Au × Af)}{qual:Au}{env:Jn}{Q:Jn→Ag→Prop}
  (hQ:Q (newEnv scope s.heap.objs.size globals (Gw (s.heap.objs.size+1) scope.names closure) qual none .none (Aa env) Tp) { s with heap:=Wg (s.heap.push { cls:=.type "dict",data:=.dict #[] }) scope.names }) :
  Ap M A (Tc scope globals closure [] qual none .none (Aa env)) Q E s:=by
 simp only[Tc,Uz,De];refine Ad (wpAny_alloc ?_);refine Ad (wpAny_layCells _ (fun name kind cells=>by cases hkc:kind == Mj <;> simp[hkc]) _ _ _ _ ?_)
 rw[show ({ s with heap:=s.heap.push { cls:=.type "dict",data:=.dict #[] } } : Ag).heap.objs.size=s.heap.objs.size+1 from Dl ..]
 refine Ad ?_;rw[Lm];exact Al (Al hQ)
theorem fU {o':Am (Ah × MO)}{kk:DK}{pins:Ab (Af × Co)}{σ : _L.St}{H2 P1:Hp}{α1:Ab Af}{s2:Ag}{S1 SF:Sto}{env envF:qD}{ds items:Ab D}{it:Af}{fp:Ab Af}{tn:Ah→Bi→Prop}{J:It}{E:Ac→Ag→Prop}{RR:Ac→Af→Uq→Ag→Prop}{rest:Ab Ff}
  (hc:X.calm=true) (S:CompSc X.env.scope X.N scope N' cap) (has:∀ g',(⟨tg,iter,ifs,0⟩::rest:Ab Ff)[0+1]? = Aa g'→g'.is_async=0)
  (hg:∀ cl C ex s₀ H₀,PG (zF X N' scope cl C ex s₀ H₀) tg (tDG (zF X N' scope cl C ex s₀ H₀) g))
  (ht:∀ cl C ex s₀ H₀,PTs (zF X N' scope cl C ex s₀ H₀) ifs t) (he:∀ cl C ex s₀ H₀,PK (zF X N' scope cl C ex s₀ H₀) (fun acc=>wL elt (⟨tg,iter,ifs,0⟩::rest) scope pos 0 acc (zF X N' scope cl C ex s₀ H₀).env) kk)
  (I2:Inv X pins σ H2 s2) (r:Rel X.K H2 P1 α1 S1) (re:zJ X.K P1 α1 σ env) (T:Turn X.prog X.w X.K tg J fp it tn) (st0:tn 0 s2.heap) (hf:∀ b∈fp,wM X pins H2 b) (hit:ItD2 X.K J P1 α1 o' items) (run:goL o' g t kk items (xF cap env) S1 [] = .ok (envF,ds) SF)
  (hRR:∀ acc C s',s2.heap.objs.size≤acc→(∃ m,s'.heap.Ns C m)→s2.heap.objs.size≤C→acc≠C→(∀ h',Gs C s'.heap h'→bO X pins σ P1 α1 ds SF acc C { s' with heap:=h' }) → RR (.ref acc) C (.ok .next) s') :
  Ap (Aw X.prog X.w) X.A (newList []) (fun acc s₃=>Ap (Aw X.prog X.w) X.A (Tc scope X.env.globals (uD X.env.cells scope.names []) [] X.env.qual none .none (Aa X.env)) (fun cenv s₄ =>
   Ja (Aw X.prog X.w) X.A (.compStart (.ListComp elt (⟨tg,iter,ifs,0⟩::rest) scope pos) 0 (.ref it) acc { cenv with scope:=relabel scope X.env }) (RR acc cenv.locals) s₄) E s₃) E s2:=by
 have hlt:∀ b∈fp,b<s2.heap.objs.size:=fun b hb=>by
  obtain⟨o,e,_⟩:=T.obj 0 _ st0 b hb;exact Ax e
 refine Dd (XJ ?_);dsimp only;generalize hH2:s2.heap.push { cls:=.type "list",dict:=none,data:=.seq ([] : Ab Ac).toArray } = Hh;have hsz:Hh.objs.size=s2.heap.objs.size+1:=by rw[← hH2,Dl]
 have hC:s2.heap.objs.size≤Hh.objs.size:=by rw[hsz];exact Jo _
 have hne:s2.heap.objs.size≠Hh.objs.size:=by rw[hsz];exact Cc (Im _)
 have kp:∀ b o,Hh.get? b=Aa o→(Wg (Hh.push { cls:=.type "dict",data:=.dict #[] }) scope.names).get? b=Aa o:=fun b o e=>Xu _ _ b o (Ai _ e);have hns₁:(Wg (Hh.push { cls:=.type "dict",data:=.dict #[] }) scope.names).Ns Hh.objs.size (fun _=>none):=(Heap.Ns.new Hh (.type "dict")).keeps (Xu _ _);have co:=cellsFrom_ok scope.names (Hh.push { cls:=.type "dict",data:=.dict #[] }) (Hh.objs.size+1) [] ⟨fun _ _ hm=>(nomatch hm),Lq⟩ (by rw[Dl];exact Bd _)
 rw[Dl] at co;generalize hh₁:Wg (Hh.push { cls:=.type "dict",data:=.dict #[] }) scope.names=h₁ at kp hns₁ co ⊢;have keep:∀ b o,s2.heap.get? b=Aa o→h₁.get? b=Aa o:=fun b o e=>kp b o (hH2▸Ai _ e);have hacc:h₁.get? s2.heap.objs.size=Aa { cls:=.type "list",data:=.seq ([] : Ab Ac).toArray }:=kp _ _ (hH2▸Az _ rfl);have I4:∀ tk,Inv (zF X N' scope (gU X scope Hh.objs.size) Hh.objs.size fp s2 H2) [] (uP cap σ) H2 { s2 with heap:=h₁,toks:=tk }:=fun tk =>
  VO (s4:={ s2 with heap:=h₁,toks:=tk }) S I2 hf hlt hC hns₁ rfl rfl keep co
 have loop:∀ tk,Ja (Aw X.prog X.w) X.A (.compLoop (.ListComp elt (⟨tg,iter,ifs,0⟩::rest) scope pos) 0 (.ref it) (.ref s2.heap.objs.size) (compEnvC scope (gU X scope Hh.objs.size) Hh.objs.size X.env)) (RR (.ref s2.heap.objs.size) Hh.objs.size) { s2 with heap:=h₁,toks:=tk }:=fun tk=>by
  refine QD (kk:=kk) (o':=o') (Y:=zF X N' scope (gU X scope Hh.objs.size) Hh.objs.size fp s2 H2) (pins:=[]) (fp:=fp) (acc:=s2.heap.objs.size) (P1:=P1) (α1:=α1) (σ:=uP cap σ) (H:=H2) (P:=P1) (α:=α1) (o:={ cls:=.type "list",data:=.seq ([] : Ab Ac).toArray }) hc rfl rfl has T hit
   (hg _ _ _ _ _) (ht _ _ _ _ _) (he _ _ _ _ _) (fun H hn=>?_) (fun H hn b hb=>?_) (fun hm=>DL _ (hlt _ hm)) ⟨I4 tk,r,YH re cap,qH.refl _,Bg _,fun b hb=>(hf b hb).1,I2.hok.fresh (Bd _),hacc,⟨[],0,[],rfl,.nil,.nil,Gn _⟩⟩ (T.keep _ _ _ st0 fun b hb o e=>keep b o e) run fun s' σ' H' P' α' o' st=>?_
  ·refine⟨hn,hne,fun hm=>?_,.inr (Bd _),fun x c h z=>?_,fun p hp=>absurd (show p∈([]:Ab (Af × Co)) from hp) (by simp)⟩
   ·obtain⟨_,o,ho,_⟩:=I2.stack.mem hm
    exact DL _ (Ax ho)
   ·rcases wI S I2.ok h with⟨m,_⟩|⟨m,_⟩
    ·exact DL _ (Ol hC (z▸(co.empty x c m).2))
    ·obtain⟨v,ob,hob,_⟩:=I2.cell x c m
     rw[z] at hob;exact DL _ (Ax hob)
  ·obtain⟨_,h1,h2,h3,h4,h5⟩:=hf b hb
   refine⟨hn b hb,Cc (Bm (hlt b hb) hC),fun hm=>?_,.inl hb,fun x c h=>(by
    rcases wI S I2.ok h with⟨m,_⟩|⟨m,_⟩
    ·exact Ea (Cc (Le (Bm (hlt b hb) hC) (co.empty x c m).2))
    ·exact h4 x c m),fun p hp=>absurd (show p∈([]:Ab (Af × Co)) from hp) (by simp)⟩
   rcases Av.mp (I2.stkSub b hm) with z|z
   ·exact h1 z
   ·exact h2 z
  ·obtain⟨m,hm,_⟩:=st.inv.loc
   exact hRR _ _ s' (Bd _) ⟨m,hm⟩ hC hne fun h' sb=>VN I2 hf rfl hC (Bd _) hne st sb
 exact codeAny_compStart_list (loop _) (T.self X.A 0 _ _ _ (T.keep _ _ _ st0 fun b hb o e=>keep b o e) (loop _))
theorem VW (hc:X.calm=true)(S:CompSc X.env.scope X.N scope N' cap)(hi:PI X tg iter (tDI2 X fi))
  (hg:∀ cl C ex s₀ H₀,PG (zF X N' scope cl C ex s₀ H₀) tg (tDG (zF X N' scope cl C ex s₀ H₀) g))
  (ht:∀ cl C ex s₀ H₀,PTs (zF X N' scope cl C ex s₀ H₀) ifs t) (has:∀ g',(⟨tg,iter,ifs,0⟩::rest:Ab Ff)[0+1]? = Aa g'→g'.is_async=0) (he:∀ cl C ex s₀ H₀,PK (zF X N' scope cl C ex s₀ H₀) (fun acc=>wL elt (⟨tg,iter,ifs,0⟩::rest) scope pos 0 acc (zF X N' scope cl C ex s₀ H₀).env) kk)
  (hs:∀ x,Ei iter X.env x=pure x:=by intro _;rfl):PE X (.ListComp elt (⟨tg,iter,ifs,0⟩::rest) scope pos) (tD X (qO mm cap fi g t kk)):=by
 intro pins s σ H Q I h;obtain⟨P,α,env,S0,r,re,af⟩:=h;rw[eval_ListComp];have af':qJ X P α ((fi env S0).bind fun p S1=>mkM mm (goL p.1 g t kk p.2 (xF cap env) S1 [])) (OkV X P α Q):=af;refine Py (use:=none) rfl hs (i9 S I.ok) S.kind S.names ?_;refine thn (hi pins s σ H (fun J H1=>∃ (P1:Hp) (α1:Ab Af) (p:Am (Ah × MO) × Ab _D.D) (S1:Sto),Rel X.K H1 P1 α1 S1∧qH P P1∧α<+:α1∧ItD2 X.K J P1 α1 p.1 p.2∧qJ X P α (mkM mm (goL p.1 g t kk p.2 (xF cap env) S1 [])) (OkV X P α Q)) I ⟨P,α,env,S0,r,re,?_⟩) fun xv s1 h1=>thn h1 fun itv s2 h2=>?_
 ·cases q:fi env S0 with
  |bad=>rw[q] at af';exact af'
  |ex c x S'=>rw[q] at af';exact af'
  |ok p S1=>rw[q] at af';exact fun J H1 P1 α1 r1 e1 e2 it=>⟨P1,α1,p,S1,r1,e1,e2,it,af'⟩
 obtain⟨it,fp,tn,J,H2,rfl,I2,T,st0,hf,P1,α1,p,S1,r1,e1,e2,hit,af1⟩:=h2;obtain⟨envF,ds,SF,run,ok⟩:=WJ af1;refine fU (RR:=fun acc C=>compPost (Aw X.prog X.w) X.A X.xe none (EP X pins σ Q) acc C) hc S has hg ht he I2 r1 (re.mono e1 e2) T st0 hf hit run ?_;intro acc C s' hA ⟨m,hm⟩ hC hne fin;refine⟨m,hm,fun h' sb=>U7 (mm:=mm) (fin h' sb) ?_⟩;cases mm with
 |false=>exact fun v H3 P3 α3 r3 q1 q2 q3=>ok v H3 P3 α3 r3 (e1.trans q1) (e2.trans q2) q3
 |true=>exact fun v H3 P3 α3 r3 q1 q2 q3=>ok v H3 P3 α3 r3 (e1.trans q1) (e2.trans q2) q3
theorem U3 {i:Ah}{y:Au}{py spos:Ez}(hc:X.calm=true)(hN:X.N.Nodup)(S:CompSc X.env.scope X.N scope N' cap)(hi:PI X tg iter (tDI2 X fi))
  (hg:∀ cl C ex s₀ H₀,PG (zF X N' scope cl C ex s₀ H₀) tg (tDG (zF X N' scope cl C ex s₀ H₀) g))
  (ht:∀ cl C ex s₀ H₀,PTs (zF X N' scope cl C ex s₀ H₀) ifs t) (has:∀ g',(⟨tg,iter,ifs,0⟩::rest:Ab Ff)[0+1]? = Aa g'→g'.is_async=0) (he:∀ cl C ex s₀ H₀,PK (zF X N' scope cl C ex s₀ H₀) (fun acc=>wL elt (⟨tg,iter,ifs,0⟩::rest) scope pos 0 acc (zF X N' scope cl C ex s₀ H₀).env) kk)
  (hy:X.N[i]? = Aa y:=by rfl) (hyl:Loc X.env.scope y:=by first|exact Wz rfl|exact Ur rfl) (hf:X.fn y=true∨X.env.scope.names.lookup y=Aa .local:=by first|exact .inl rfl|exact .inr rfl|assumption)
  (hsw:Lr (.ListComp elt (⟨tg,iter,ifs,0⟩::rest) scope pos) (Aa (.Name y py)) spos.line X.env=pure true:=by rfl)
  (hs:∀ x,Ei iter X.env x=pure x:=by intro _;rfl):PS X (.Assign [.Name y py] (.ListComp elt (⟨tg,iter,ifs,0⟩::rest) scope pos) spos) (tDS X (zC (qO mm cap fi g t kk) (gNm i))):=by
 intro pins s σ H D I h;obtain⟨P,α,env,S0,r,re,af⟩:=h;have af0:=xZ af;have af':qJ X P α ((fi env S0).bind fun p S1=>mkM mm (goL p.1 g t kk p.2 (xF cap env) S1 [])) (fun d S=>zB X P α (.nx (env.set i (Aa d)) S) D):=af0;rw[exec_Assign_Name_used _ _ _ _ hsw];refine Ad (Oy (Ad ?_));show Ap _ X.A (do let _ ← comprehension (.ListComp elt (⟨tg,iter,ifs,0⟩::rest) scope pos) scope X.env _ (newList []) false (eval iter X.env) (Aa (assign (.Name y py) X.env))) _ _ s
 refine Ad (Hw (Py (use:=Aa (assign (.Name y py) X.env)) (Q:=fun _ s'=>SP X pins D .next s') rfl hs (i9 S I.ok) S.kind S.names ?_) (fun _ s' hq=>Al (Al hq)) fun _ _ e=>e);refine thn (hi pins s σ H (fun J H1=>∃ (P1:Hp) (α1:Ab Af) (p:Am (Ah × MO) × Ab _D.D) (S1:Sto),Rel X.K H1 P1 α1 S1∧qH P P1∧α<+:α1∧ItD2 X.K J P1 α1 p.1 p.2∧qJ X P α (mkM mm (goL p.1 g t kk p.2 (xF cap env) S1 [])) (fun d S=>zB X P α (.nx (env.set i (Aa d)) S) D)) I ⟨P,α,env,S0,r,re,?_⟩) fun xv s1 h1=>thn h1 fun itv s2 h2=>?_
 ·cases q:fi env S0 with
  |bad=>rw[q] at af';exact af'
  |ex c x S'=>rw[q] at af';exact af'
  |ok p S1=>rw[q] at af';exact fun J H1 P1 α1 r1 e1 e2 it=>⟨P1,α1,p,S1,r1,e1,e2,it,af'⟩
 obtain⟨it,fp,tn,J,H2,rfl,I2,T,st0,hfp,P1,α1,p,S1,r1,e1,e2,hit,af1⟩:=h2;obtain⟨envF,ds,SF,run,ok⟩:=WJ af1;refine fU (RR:=fun acc C=>compPost (Aw X.prog X.w) X.A X.xe (Aa (assign (.Name y py) X.env)) (fun _ s'=>SP X pins D .next s') acc C) hc S has hg ht he I2 r1 (re.mono e1 e2) T st0 hfp hit run ?_;intro acc C s' hA ⟨m,hm⟩ hC hne fin;show Ap _ X.A (assign (.Name y py) X.env (.ref acc)) _ _ s';obtain⟨H3,P3,α3,vs,I3,r3,hn3,q1,q2,rp,hCn⟩:=fin s'.heap (Pl _ _);obtain⟨r4,e4⟩:=r3.pure (o:=.lst vs) hn3;have hCn':(upd H3 acc (.lst vs)) C=none:=by rw[qP (Ea hne)];exact hCn
 have fC:=I2.fpOk hC hCn';refine Vt (sT I3 hN hy hyl (show qI (V.ref acc) (Ch acc) from rfl) (fun s5 I5 ⟨a,sb,ha⟩=>?_) hf)
 have hCa:C≠a:=by
  rcases ha with rfl|ha
  ·exact fC.2.1
  ·exact fun z=>fC.2.2.2.2.1 _ _ ha z.symm
 refine⟨m,hm.sameBut sb hCa,fun h' sb'=>?_⟩;have I6:Inv X pins (σ.set i (Aa (V.ref acc))) (upd H3 acc (.lst vs)) { s5 with heap:=h' }:=I5.turned (t':=s5.toks) (fun b o hb e=>(sb'.2 b hb).trans e) hCn' fC.2.1 fC.2.2.2.1 fC.2.2.2.2.1 fC.2.2.2.2.2
 cases mm with
 |false =>
  refine⟨_,_,I6,ok _ _ (upd P3 acc (.lst vs)) α3 r4 ?_ ((e1.trans q1).trans e4) (e2.trans q2)⟩;exact((re.mono e1 e2).mono (q1.trans e4) q2).set i (fK (.inl (.inl zQ)) (qF.mono e4 (Bg _) _ _ rp))
 |true =>
  have hpre:α3<+:α3++[acc]:=Hn _ _;have r5:=r3.new (o:=.lst vs) (m:=.lst ds) hn3 ⟨vs,zQ,qF.mono (qH.refl _) hpre _ _ rp⟩;refine⟨_,_,I6,ok _ _ P3 (α3++[acc]) r5 ?_ (e1.trans q1) ((e2.trans q2).trans hpre)⟩;refine((re.mono e1 e2).mono q1 (q2.trans hpre)).set i ?_;simp only[Rep];exact⟨acc,rfl,by rw[← r3.len];simp⟩
end
section
variable {X:Cx}
def OQ:D→Ab D→Sto→Res D:=fun a ds S=>match a,ds with
 |.loc n,[i,x]=>match S[n]? with
  |some (.dct kvs)=>match jM i with
   |some k=>match uS kvs k with
    |some d=>.ok d S
    |none=>if kvs.length<lim then .ok x (S.set n (.dct (jO kvs k x))) else .bad
   |none=>.bad
  |_=>.bad
 |_,_=>.bad
def vF:Ab D→Am (Ab Aj)
 |[]=>Aa []
 |.int i::r=>(vF r).map (i::·)
 |_::_=>none
theorem b8 (ns:Ab Aj):vF (ns.map D.int)=Aa ns:=by
 induction ns with
 |nil=>rfl
 |cons n r ih=>exact congrArg (Option.map (n::·)) ih
theorem p9:∀ {ds:Ab D} {ns:Ab Aj},vF ds=Aa ns→ds=ns.map D.int
 |[],ns,h=>by cases h;rfl
 |d::r,ns,h=>by
  cases d with
  |int i =>
   obtain⟨m,h1,rfl⟩:=Ep.mp (show (vF r).map (i::·)=Aa ns from h)
   rw[p9 h1];rfl
  |_=>exact nn h
theorem g9 {K:Ak}{P:Hp}{α : Ab Af}:∀ {ns:Ab Aj} {vs:Ab V},qF K P α (ns.map D.int) vs→vs=ns.map V.int
 |[],vs,r=>by rw[r.nil_inv];rfl
 |n::ns,vs,r=>by
  obtain⟨w,ws,rfl,p,t⟩:=r.cons_inv;simp only[Rep] at p;rw[p,g9 t];rfl
def mB:G2:=fun a b S=>match a,b with
 |.tup xs,.tup ys=>match vF xs,vF ys with
  |some ns,Aa ms=>.ok (.bl (_H.lexLt ns ms)) S
  |_,_=>.bad
 |_,_=>gLt a b S
end
section
variable {X:Cx}
theorem aH {pins:Ab (Af × Co)}{σ : _L.St}{H P:Hp}{α : Ab Af}{S:Sto}{s:Ag}{xs:Ab D}{v:V}{vv:Ac}{ns:Ab Aj}(I:Inv X pins σ H s)(r:Rel X.K H P α S)(rv:qI v vv)(p:Rep X.K P α (.tup xs) v)(h:vF xs=Aa ns) :
  ∃ a its,vv=.ref a∧Nt s.heap a (Lf its)∧Jc its ns:=by
 have:=p9 h;subst this;obtain⟨a,vs,its,rfl,q1,t1,rv1,h1,l1,_⟩:=uR I r p;have:=g9 t1;subst this;exact⟨a,its,rv,h1,by simpa using tJ rv1⟩
set_option tactic.hygienic true in
theorem SA (hu:X.A.units<Ds):OpD X (Cw .Lt) mB:=by
 intro pins σ H s P α S v u vv uu a b Q I r rv ru pa pb af;unfold mB at af
 split at af
 ·rename_i xs ys
  split at af
  ·rename_i ns ms h1 h2
   obtain⟨a,its,rfl,t1,i1⟩:=aH I r rv pa h1;obtain⟨b,its2,rfl,t2,i2⟩:=aH I r ru pb h2;exact _H.lt_tupInts t1 t2 (by simpa using i1) (by simpa using i2) hu ⟨.bl _,H,I,rfl,xr af r (by simp only[Rep])⟩
  ·exact Ao af
 ·exact GG pins σ H s P α S v u vv uu a b Q I r rv ru pa pb af
end
end _D
namespace _D
open PySem PySem.Spec PyProof.Rows _L PySem.SeqAt
section
variable {X:Cx}{pins:Ab (Af × Co)}{σ : _L.St}{H P:Hp}{α : Ab Af}{S:Sto}{s:Ag}
inductive Same2 (X:Cx)(P:Hp)(α : Ab Af)(d d':D):Prop
 |eq (h:d=d')
 |tt (xs ys:Ab D) (its:Ab Ac) (ed:d=.tup xs) (ed':d'=.tup ys) (q:Seqs X P α xs ys its its)
 |ll (xs ys:Ab D) (its:Ab Ac) (ed:d=.lst xs) (ed':d'=.lst ys) (q:Seqs X P α xs ys its its)
theorem GS {d d':D}{u:Ac}(k1:Kd X P α s d u)(k2:Kd X P α s d' u):Same2 X P α d d':=by
 cases k1 with
 |non=>cases k2;exact .eq rfl
 |bl b=>cases k2;exact .eq rfl
 |int i t=>cases k2;exact .eq rfl
 |str x t=>cases k2;exact .eq rfl
 |tup a xs its vs rp rv h q =>
  cases k2 with
  |tup _ ys its2 ws rp2 rv2 h2 q2 =>
   cases lG h h2;exact .tt xs ys its rfl rfl ⟨vs,ws,rp,rv,rp2,rv2⟩
  |lst _ ys its2 ws rp2 rv2 h2 q2=>exact(QY h h2).elim
 |lst a xs its vs rp rv h q =>
  cases k2 with
  |lst _ ys its2 ws rp2 rv2 h2 q2 =>
   cases iS h h2;exact .ll xs ys its rfl rfl ⟨vs,ws,rp,rv,rp2,rv2⟩
  |tup _ ys its2 ws rp2 rv2 h2 q2=>exact(QY h2 h).elim
theorem dP (I:Inv X pins σ H s)(r:Rel X.K H P α S){m:Ah}(ih:∀ (d d' e:D) (u:Ac),pl m d=true→pl m d'=true→Kd X P α s d u→Kd X P α s d' u→eqD d e=eqD d' e){xs ys zs:Ab D}{its:Ab Ac}(h1:xs.all (pl m)=true)(h2:ys.all (pl m)=true)(q:Seqs X P α xs ys its its):xI xs zs=xI ys zs:=by
 obtain⟨vs,ws,rp,rv,rp2,rv2⟩:=q;have l1:=rp.length.trans rv.length;have l2:=rp2.length.trans rv2.length;rw[yX,yX,l1,l2]
 congr 1
 have key:∀ j∈Cy (min its.length zs.length),eqD (xs.getD j .non) (zs.getD j .non)=eqD (ys.getD j .non) (zs.getD j .non):=fun j hj=>by
  have hj':=Eg.mp hj;have hj:j<its.toArray.size:=by rw[Be];omega
  obtain⟨w1,y1,z1,m1⟩:=v7 rp rv hj;obtain⟨w2,y2,z2,m2⟩:=v7 rp2 rv2 hj;exact ih _ _ _ _ (y7 h1 m1) (y7 h2 m2) (vP I r (y7 h1 m1) y1 z1) (vP I r (y7 h2 m2) y2 z2)
 rw[Ks,Aq,Aq];exact⟨fun h j hj=>(key j hj)▸h j hj,fun h j hj=>(key j hj).symm▸h j hj⟩
theorem BJ (I:Inv X pins σ H s)(r:Rel X.K H P α S):∀ (n:Ah) (d d' e:D) (u:Ac),pl n d=true→pl n d'=true→Kd X P α s d u→Kd X P α s d' u→eqD d e=eqD d' e:=by
 intro n
 induction n with
 |zero =>
  intro d d' e u h1 h2 k1 k2;cases GS k1 k2 with
  |eq h=>rw[h]
  |tt _ _ _ ed=>subst ed;exact Cq h1
  |ll _ _ _ ed=>subst ed;exact Cq h1
 |succ m ih =>
  intro d d' e u h1 h2 k1 k2;cases GS k1 k2 with
  |eq h=>rw[h]
  |tt xs ys its ed ed' q =>
   subst ed ed';cases e with
   |tup zs=>exact dP I r ih h1 h2 q
   |_=>rfl
  |ll xs ys its ed ed' q =>
   subst ed ed';cases e with
   |lst zs=>exact dP I r ih h1 h2 q
   |_=>rfl
open Classical in
def eOf (X:Cx)(P:Hp)(α : Ab Af)(s:Ag)(xs:Ab D)(d:D)(y:Ac):As:=if h:∃ z,z∈xs∧Kd X P α s z y then eqD (Ml h) d else false
theorem XH (I:Inv X pins σ H s)(r:Rel X.K H P α S){n:Ah}{xs:Ab D}{vs:Ab V}{its:Ab Ac}{d:D}(h:xs.all (pl n)=true)(rp:qF X.K P α xs vs)(rv:qN vs its){j:Ah}(hj:j<its.length):∃ z,z∈xs∧Kd X P α s z its[j]∧eOf X P α s xs d its[j]=eqD z d∧eqD z d=eqD (xs.getD j .non) d:=by
 obtain⟨w,y,z,m⟩:=v7 rp rv (j:=j) (by rw[Be];exact hj)
 have k:=vP I r (y7 h m) y z;have ex:∃ z,z∈xs∧Kd X P α s z its[j]:=⟨_,m,k⟩;have hs:=Mm ex;refine⟨Ml ex,hs.1,hs.2,?_,BJ I r n _ _ d _ (y7 h hs.1) (y7 h m) hs.2 k⟩;unfold eOf;rw[dif_pos ex]
theorem BH (I:Inv X pins σ H s)(r:Rel X.K H P α S){n:Ah}{xs:Ab D}{vs:Ab V}{its:Ab Ac}{d:D}(h:xs.all (pl n)=true)(rp:qF X.K P α xs vs)(rv:qN vs its):its.map (eOf X P α s xs d)=xs.map fun x=>eqD x d:=by
 have l:=rp.length.trans rv.length;refine Mn (by rw[Ar,Ar,l]) fun j h1 h2=>?_
 rw[Ar] at h1 h2;rw[Xb,Xb];obtain⟨z,_,_,e1,e2⟩:=XH (d:=d) I r h rp rv h1;rw[e1,e2];simp[Gg,h2]
theorem XI (I:Inv X pins σ H s)(r:Rel X.K H P α S){n:Ah}{A:Bo}{xs:Ab D}{vs:Ab V}{its:Ab Ac}{d:D}{v:V}{u:Ac}(hu:A.units+n<Ds)(h:xs.all (pl n)=true)(hd:pl n d=true)(rp:qF X.K P α xs vs)(rv:qN vs its)(p:Rep X.K P α d v)(q:qI v u):∀ y,y∈its.toArray→Yj A s y u (eOf X P α s xs d y):=fun y hy=>by
 obtain⟨j,hj,rfl⟩:=Ct.mp (show y∈its by simpa using hy)
 obtain⟨z,hz,k,e1,_⟩:=XH (d:=d) I r h rp rv hj;rw[e1];exact(eM I r n A z d _ u hu (y7 h hz) hd k (vP I r hd p q)).eq
def inI (a b:D):Am As:=match xE b with
 |some xs=>if xs.all (pl zZ)&&pl zZ a then Aa (xs.any fun x=>eqD x a) else none
 |none=>none
def gIn:G2:=fun a b S=>match inI a b with
 |some k=>.ok (.bl k) S
 |none=>.bad
def yP:G2:=fun a b S=>match inI a b with
 |some k=>.ok (.bl (!k)) S
 |none=>.bad
theorem UM {a b:D}{k:As}(h:inI a b=Aa k):∃ xs,ItV b xs∧xs.all (pl zZ)=true∧pl zZ a=true∧k=xs.any fun x=>eqD x a:=by
 unfold inI at h;cases e:xE b with
 |none=>rw[e] at h;exact nn h
 |some xs =>
  rw[e] at h;obtain⟨c,rfl⟩:=kH h;have c':=Em.mp c;exact⟨xs,itV e,c'.1,c'.2,rfl⟩
theorem HM (hu:X.A.units+64<Ds)(I:Inv X pins σ H s)(r:Rel X.K H P α S){a b:D}{v u:V}{vv uu:Ac}{k:As}(rv:qI v vv)(ru:qI u uu)(pa:Rep X.K P α a v)(pb:Rep X.K P α b u)(h:inI a b=Aa k) :
  (∀ {Q:Ac→Ag→Prop} {E:Ac→Ag→Prop},Q (.bool k) s→Ap (Aw X.prog X.w) X.A (Cw .In vv uu) Q E s)∧∀ {Q:Ac→Ag→Prop} {E:Ac→Ag→Prop},Q (.bool (!k)) s→Ap (Aw X.prog X.w) X.A (Cw .NotIn vv uu) Q E s:=by
 obtain⟨xs,hb,h1,h2,rfl⟩:=UM h;have hu':X.A.in1.units+zZ<Ds:=by show X.A.units+1+zZ<Ds;unfold zZ;omega
 have any:∀ {vs:Ab V} {its:Ab Ac},qF X.K P α xs vs→qN vs its→its.toArray.any (eOf X P α s xs a)=xs.any fun x=>eqD x a:=fun rp rvi=>by
  rw[← Array.any_toList];have e:=congrArg (fun l=>l.any id) (BH (d:=a) I r h1 rp rvi);rw[Qv,Qv] at e;exact e
 cases hb with
 |tup ed =>
  subst ed;obtain⟨l,ws,its,rfl,sq,t,rvi,ht,_,_⟩:=uR I r pb;cases (show uu=Ch l from ru)
  have he:=XI I r hu' h1 h2 t rvi pa rv;exact⟨fun q=>in_tupleAt (eOf X P α s xs a) ht he (by rw[any t rvi];exact q),fun q=>notIn_tupleAt (eOf X P α s xs a) ht he (by rw[any t rvi];exact q)⟩
 |lst ed =>
  subst ed;obtain⟨l,ws,its,n,rfl,sq,t,rvi,ht,_,_⟩:=uH I r pb;cases (show uu=Ch l from ru)
  have hL:s.heap.IsList l its.toArray:=⟨_,ht,rfl,n,rfl⟩;have he:=XI I r hu' h1 h2 t rvi pa rv;exact⟨fun q=>in_listAt (eOf X P α s xs a) hL he (by rw[any t rvi];exact q),fun q=>notIn_listAt (eOf X P α s xs a) hL he (by rw[any t rvi];exact q)⟩
theorem JC (hu:X.A.units+64<Ds):OpD X (Cw .NotIn) yP:=by
 intro pins σ H s P α S v u vv uu a b Q I r rv ru pa pb af;have af1:qJ X P α (match inI a b with|some k=>Res.ok (D.bl (!k)) S|none=>.bad) (OkV X P α Q):=af
 clear af;cases e:inI a b with
 |none=>rw[e] at af1;exact Ao af1
 |some k =>
  rw[e] at af1;exact(HM hu I r rv ru pa pb e).2 ⟨.bl _,H,I,rfl,xr af1 r (by simp only[Rep])⟩
end
end _D
namespace _D
open PySem PySem.Spec PyProof.Rows _L
def qAB (f:DE):DI:=fun env S=>(f env S).bind fun d S1=>match d with
 |.loc n=>match S1[n]? with
  |some (.dct kvs)=>.ok (kvs.map (·.2)) (S1.set n .dead)
  |_=>.bad
 |_=>.bad
section
variable {X:Cx}{tg o:Bq}{fo:DE}{apos cpos:Ez}
theorem YY {S:Sto}{n:Ah}{kvs:Ab (Key × D)}(h:S[n]? = Aa (.dct kvs)):tyD (.loc n) S=Aa "dict":=by
 show (match S[n]? with|some (.lst _)=>Aa "list" | some (.dct _)=>Aa "dict" | _=>none)=_
 rw[h]
end
section
variable {X:Cx}
def g6:G2:=fun a b S=>match a,b with
 |.lst xs,.int k=>if 0≤k∧k<2 ^ 62∧xs.length*k.toNat≤lim then .ok (.lst (Cg k.toNat xs).flatten) S else .bad
 |_,_=>xV a b S
theorem cY {K:Ak}{P:Hp}{α : Ab Af}{ds:Ab D}{vs:Ab V}(r:qF K P α ds vs):∀ k:Ah,qF K P α (Cg k ds).flatten (Cg k vs).flatten
 |0=>by simpa using qF.nil
 |k+1=>by
  rw[Ew,Ew,Hb,Hb];exact r.append (cY r k)
inductive MulV (a b:D)(S:Sto):Prop
 |old (e:g6 a b S=xV a b S)
 |of (xs:Ab D) (k:Aj) (ea:a=.lst xs) (eb:b=.int k)
theorem IV (a b:D)(S:Sto):MulV a b S:=by
 cases a with
 |lst xs=>cases b with
  |int k=>exact .of xs k rfl rfl
  |_=>exact .old rfl
 |_=>exact .old rfl
theorem FN:OpD X (Eo .Mult) g6:=by
 intro pins σ H s P α S v u vv uu a b Q I r rv ru pa pb af;cases IV a b S with
 |old e =>
  rw[e] at af;exact o7 pins σ H s P α S v u vv uu a b Q I r rv ru pa pb af
 |of xs k ea eb =>
  subst ea eb;obtain⟨hk,af⟩:=vN (X:=X) af;obtain⟨h1,h2,hz⟩:=hk;obtain⟨l,vs,its,n,rfl,q1,t1,rv1,e,l1,_⟩:=uH I r pa;cases (show vv=Ch l from rv)
  have:=w8 pb;subst this;obtain⟨t,rfl⟩:=ru;have hl:its.length=vs.length:=rv1.length.symm;have hlen:its.toArray.size*k.toNat≤sizeLine:=by rw[Be,← l1,← xT];exact hz
  have hcap:¬ its.toArray.size*k.toNat>(2 ^ 63-1)/8:=by
   have:(sizeLine:Ah)≤(2 ^ 63-1)/8:=by decide
   omega
  have hfit:¬ (!Builtin.List.listFitsIndex k)=true:=by
   rw[fitsIndex_both om om];exact Ge
  have hlong:¬ Kz (its.toArray.size*k.toNat)=true:=by
   rw[JB hlen];exact Ge
  have hnew:Yg (fun x1 x2=>x1++x2) #[] (Cg (if its.toArray.isEmpty=true then 0 else k.toNat) its.toArray)=(Cg k.toNat its).flatten.toArray:=by
   have f0:∀ m:Ah,Yg (fun x1 x2=>x1++x2) #[] (Cg m its.toArray)=(Cg m its).flatten.toArray:=fun m=>by
    have:=dS its m [];rw[Kt] at this;exact this
   rw[f0];cases its with
   |nil=>simp
   |cons a r'=>rw[Bc (by simp)]
  refine wpAny_binaryOp_repeat_ref (T:="list") (U:="int") (by decide) ⟨_,e,rfl⟩ (fun s'=>Yf s' k t) noFill_list_mul F.fills_int_mul Xv repeat_list F.slot_int_index.lookup
   (Nk Xv (Yf s k t) F.entry_int_rmul (F.args_int_rmul_2 _ _) (int___rmul___int_list k t l its.toArray n)
    ⟨e,rfl,⟨_,e,rfl⟩,Nk F.slot_list_mul ⟨_,e,rfl⟩ F.entry_list_mul (F.args_list_mul_2 _ _) (AutoListH.list___mul___list_int_3 l its.toArray n k t hfit hcap hlong) ⟨e,?_⟩⟩)
  rw[hnew];exact hW I r (cY t1 k.toNat) (rv1.rep k.toNat) (by rw[FD,Nat.mul_comm];exact hz) af
def KH (X:Cx)(cm:As)(k:Ah)(f:Af)(p:Ah × DF):Prop:=∃ fd ps,Dz X.K (.ref f)=true∧u9 X.K fd ps [] ∧ FnX X.prog X.w X.K X.mg X.base cm k f fd ps (spD X.K p.1 p.2)
inductive TabL (X:Cx)(cm:As)(k:Ah):Ab Bq→Ab (Ah × DF)→Prop
 |nil:TabL X cm k [] []
 |cons {x:Au} {p:Ez} {n:Ah} {F:DF} {es:Ab Bq} {Fs:Ab (Ah × DF)}:Def X.prog X.w X.K X.mg X.base cm k x n F→Gl X x→(x == ("__debug__" : Au))=false→TabL X cm k es Fs→TabL X cm k (.Name x p::es) ((n,F)::Fs)
def flA:Ab Af→DA
 |[]=>qC
 |f::fs=>qA (dC (.obj f)) (flA fs)
theorem LQ (fs:Ab Af)(env:qD)(S:Sto):flA fs env S=.ok (fs.map D.obj) S:=by
 induction fs with
 |nil=>rfl
 |cons f fs ih=>simp[flA,qA,dC,Res.bind,ih]
theorem EB {cm:As}{k:Ah}{es:Ab Bq}{Fs:Ab (Ah × DF)}(h:TabL X cm k es Fs):∃ fs,PA X es (tDA X (flA fs))∧fs.length=Fs.length∧∀ (i:Ah) (p:Ah × DF),Fs[i]? = Aa p→∃ f,fs[i]? = Aa f∧KH X cm k f p:=by
 induction h with
 |nil=>exact⟨[],XB,rfl,fun i p e=>by simp at e⟩
 |@cons x p n F es Fs G hg hd _ ih =>
  obtain⟨fs,h1,h2,h3⟩:=ih;obtain⟨f,fd,ps,hn,hm,kp,hb,hl,G⟩:=G;refine⟨f::fs,iC (XE hg hm kp hd) h1,by simp[h2],fun i q e=>?_⟩
  cases i with
  |zero =>
   simp at e;subst e;exact⟨f,rfl,fd,ps,kp,hb,G⟩
  |succ i =>
   obtain⟨f',e1,e2⟩:=h3 i q (by simpa using e)
   exact⟨f',by simpa using e1,e2⟩
def nZ (Fs:Ab (Ah × DF))(fi:DE)(fa:DA):DE:=fun env S=>(fi env S).bind fun d S1=>match d with
 |.int k=>match atI Fs k with
  |some p=>(fa env S1).bind fun ds S2=>if ds.length=p.1 then p.2 ds S2 else .bad
  |none=>.bad
 |_=>.bad
inductive TabR (X:Cx)(cm:As)(k:Ah)(P:Hp)(α : Ab Af)(Q:VK)(fa:DA)(env:qD)(v:V)(H1:Hp):Prop
 |mk (P1:Hp) (α1:Ab Af) (S1:Sto) (f:Af) (p:Ah × DF) (r:Rel X.K H1 P1 α1 S1) (e1:qH P P1) (e2:α<+:α1) (hv:v=.ref f) (g:KH X cm k f p) (af:qJ X P α ((fa env S1).bind fun ds S2=>if ds.length=p.1 then p.2 ds S2 else .bad) (OkV X P α Q)):TabR X cm k P α Q fa env v H1
theorem NU {cm:As}{k:Ah}{es:Ab Bq}{Fs:Ab (Ah × DF)}{ie e:Bq}{rest:Ab Bq}{lp sp pos:Ez}{fi:DE}{fa:DA}(T:TabL X cm k es Fs)(hr:RoomC cm k X.A)(hF:Fn1 X)(hl:Fs.length≤lim)(hi:PE X ie (tD X fi))(ha:PA X (e::rest) (tDA X fa))(hs:jT ie:=by intro _ _;rfl)
  (he:Bb (e::rest) X.env=(false,eval e X.env)::Bb rest X.env:=by rfl) (hpl:(Fp pos (Bb rest X.env)).any (·.1)=false:=by rfl):PE X (.Call (.Subscript (.List es lp) ie sp) (e::rest) [] pos) (tD X (nZ Fs fi fa)):=by
 obtain⟨fs,hpa,hfl,hgood⟩:=EB T;have key:PE X (.Subscript (.List es lp) ie sp) (tD X (d2 gIx (zN (flA fs)) fi)):=KN D1 (XF hpa) hi hs;intro pins s σ H Q I h;obtain⟨P,α,env,S,r,re,af⟩:=h;refine Call_ (thn (key pins s σ H (TabR X cm k P α Q fa env) I ⟨P,α,env,S,r,re,?_⟩) fun vv s1 ⟨v,H1,I1,rv,P1,α1,S1,f,p,r1,e1,e2,hv,⟨fd,ps,kp,hb,G⟩,af1⟩=>?_)
 ·have hll:(fs.map D.obj).length≤lim:=by rw[Ar,hfl];exact hl
  have ev:d2 gIx (zN (flA fs)) fi env S=(fi env S).bind fun y S2=>gIx (.lst (fs.map D.obj)) y S2:=by
   simp only[d2,zN,LQ,Res.bind,hll,De]
  rw[ev];unfold nZ at af;cases q:fi env S with
  |bad=>rw[q] at af;exact af
  |ex c x S'=>rw[q] at af;exact af
  |ok d S1 =>
   rw[q] at af;simp only[Res.bind] at af ⊢;cases d with
   |int kk =>
    simp only at af;cases hp:atI Fs kk with
    |none=>rw[hp] at af;exact Ao af
    |some p =>
     rw[hp] at af;unfold atI at hp;cases hj:ixN Fs.length kk with
     |none=>rw[hj] at hp;cases hp
     |some j =>
      rw[hj] at hp;obtain⟨f,ef,gf⟩:=hgood j p hp;have ea:atI (fs.map D.obj) kk=Aa (.obj f):=by
       unfold atI;rw[Ar,hfl,hj];simp[ef]
      simp only[gIx,ea,vV];intro v H' P' α' r' e1 e2 rp;simp only[Rep] at rp;exact⟨P',α',S1,f,p,r',e1,e2,rp.1,gf,af⟩
   |_=>exact Ao af
 ·subst hv
  cases (show vv=Ch f from rv)
  refine Lb (h₀:=X.base) I.ok.mod.kin kp (thn (yO ha I1 r1 (re.mono e1 e2) (qJ.base' e1 e2 (fun d S ok v H' P' α' r' q1 q2 q3=>ok v H' P' α' r' (e1.trans q1) (e2.trans q2) q3) af1) pos) fun us s2 ⟨vs,H2,P2,α2,ds,S2,I2,rv2,r2,re2,rp,e3,e4,af2⟩=>⟨I2.kIn,?_⟩) he hpl;have af3:qJ X P1 α1 (if ds.length=p.1 then p.2 ds S2 else .bad) (OkV X P1 α1 Q):=af2
  by_cases hn:ds.length=p.1
  ·rw[AT hn] at af3
   exact lW G hr hb hF I2 r2 rv2 rp hn (zA.base e3 e4 af3)
  ·rw[Bc hn] at af3;exact Ao af3
theorem VD:Gc "set" = Aa (.type "set"):=by decide +kernel
variable {e:Bq}{fa:DE}{p1 p2 pos1 pos2:Ez}
end
structure QI2 (X:Cx)(tg it:Bq)(f:DI2):Prop where
 get:PI X tg it (tDI2 X f)
structure QK (Y:Cx)(step:Ac→Mp Rm)(k:DK):Prop where
 get:PK Y step k
structure ZTab (X:Cx)(cm:As)(k:Ah)(es:Ab Bq)(Fs:Ab (Ah × DF)):Prop where
 get:TabL X cm k es Fs
section
variable {X Y:Cx}{tg it e o elt iter ie:Bq}{es ifs rest:Ab Bq}{fa fo fe fi:DE}{fA:DA}{fI:DI}{f2:DI2}{g:DG}{t:DT}{kk:DK}{p pos:Ez}{n k:Ah}{x:Au}{cm:As}{F:DF}{f:DS}{gens grest:Ab Ff}{scope:Fv}{N':Ab Au}{cap:Ab (Am Ah)}{mm:As}
theorem RN (h:QI X tg it fI):QI2 X tg it (y0 fI):=⟨BA h.1⟩
theorem RM (h:QE X e fa):QI2 X tg e (dIt fa):=⟨HB h.1⟩
theorem MG {body:Ab Eu}(hp:ZPass X)(hc:X.calm=true)(hi:QI2 X tg iter f2)(hg:QG X tg g)(hb:QB X body f)(hs:∀ x,Ei iter X.env x=pure x:=by intro _;rfl):QS X (.For tg iter body [] pos) (nO f2 g f):=⟨BF hp.1 hc hi.1 hg.1 hb.1 hs⟩
theorem MC (hx:Y.xe=fun _ _=>Fc)(hlast:gens[k+1]? = none)(he:QE Y elt fe):QK Y (fun acc=>wL elt gens scope pos k acc Y.env) (qV fe):=⟨FZ hx hlast he.1⟩
theorem JN (hc:X.calm=true)(S:CompSc X.env.scope X.N scope N' cap)(hi:QI2 X tg iter f2)(hg:∀ cl C ex s₀ H₀,QG (zF X N' scope cl C ex s₀ H₀) tg g)(ht:∀ cl C ex s₀ H₀,QTs (zF X N' scope cl C ex s₀ H₀) ifs t)
  (has:∀ g',(⟨tg,iter,ifs,0⟩::grest:Ab Ff)[0+1]? = Aa g'→g'.is_async=0)
  (he:∀ cl C ex s₀ H₀,QK (zF X N' scope cl C ex s₀ H₀) (fun acc=>wL elt (⟨tg,iter,ifs,0⟩::grest) scope pos 0 acc (zF X N' scope cl C ex s₀ H₀).env) kk) (hs:∀ x,Ei iter X.env x=pure x) :
  QE X (.ListComp elt (⟨tg,iter,ifs,0⟩::grest) scope pos) (qO mm cap f2 g t kk):=
 ⟨VW hc S hi.1 (fun cl C ex s H=>(hg cl C ex s H).1) (fun cl C ex s H=>(ht cl C ex s H).1) has (fun cl C ex s H=>(he cl C ex s H).1) hs⟩
theorem JQ {m:Ah}{y:Au}{py spos:Ez}(hc:X.calm=true)(hN:X.N.Nodup)(S:CompSc X.env.scope X.N scope N' cap)(hi:QI2 X tg iter f2)(hg:∀ cl C ex s₀ H₀,QG (zF X N' scope cl C ex s₀ H₀) tg g)(ht:∀ cl C ex s₀ H₀,QTs (zF X N' scope cl C ex s₀ H₀) ifs t)
  (has:∀ g',(⟨tg,iter,ifs,0⟩::grest:Ab Ff)[0+1]? = Aa g'→g'.is_async=0)
  (he:∀ cl C ex s₀ H₀,QK (zF X N' scope cl C ex s₀ H₀) (fun acc=>wL elt (⟨tg,iter,ifs,0⟩::grest) scope pos 0 acc (zF X N' scope cl C ex s₀ H₀).env) kk) (hy:X.N[m]? = Aa y) (hyl:Loc X.env.scope y) (hf:X.fn y=true∨X.env.scope.names.lookup y=Aa .local)
  (hsw:Lr (.ListComp elt (⟨tg,iter,ifs,0⟩::grest) scope pos) (Aa (.Name y py)) spos.line X.env=pure true) (hs:∀ x,Ei iter X.env x=pure x):QS X (.Assign [.Name y py] (.ListComp elt (⟨tg,iter,ifs,0⟩::grest) scope pos) spos) (zC (qO mm cap f2 g t kk) (gNm m)):=
 ⟨U3 hc hN S hi.1 (fun cl C ex s H=>(hg cl C ex s H).1) (fun cl C ex s H=>(ht cl C ex s H).1) has (fun cl C ex s H=>(he cl C ex s H).1) hy hyl hf hsw hs⟩
theorem KE:ZTab X cm k [] []:=⟨.nil⟩
theorem V5 {Fs:Ab (Ah × DF)}(G:Def X.prog X.w X.K X.mg X.base cm k x n F)(hg:Gl X x)(hd:(x == ("__debug__" : Au))=false)(h:ZTab X cm k es Fs):ZTab X cm k (.Name x p::es) ((n,F)::Fs):=⟨.cons G hg hd h.1⟩
theorem RI {Fs:Ab (Ah × DF)}{lp sp:Ez}(T:ZTab X cm k es Fs)(hr:RoomC cm k X.A)(hF:Fn1 X)(hl:Fs.length≤lim)(hi:QE X ie fi)(ha:QA X (e::rest) fA)(hs:jT ie:=by intro _ _;rfl)
  (he:Bb (e::rest) X.env=(false,eval e X.env)::Bb rest X.env:=by rfl) (hpl:(Fp pos (Bb rest X.env)).any (·.1)=false:=by rfl):QE X (.Call (.Subscript (.List es lp) ie sp) (e::rest) [] pos) (nZ Fs fi fA):=⟨NU T.1 hr hF hl hi.1 ha.1 hs he hpl⟩
theorem AK (hr:RoomC cm k X.A):ZOp X (Cw .Lt) mB:=⟨SA (by have:=hu1 hr;omega)⟩
theorem ER:ZOp X (Eo .Mult) g6:=⟨FN⟩
end
def yG (H:Hp):Ab (Af × HO)→Hp
 |[]=>H
 |p::ps=>yG (upd H p.1 p.2) ps
theorem fQ {b:Af}:∀ {L:Ab (Af × HO)} {H:Hp},b ∉ L.map (·.1)→yG H L b=H b
 |[],_,_=>rfl
 |p::ps,H,h=>by
  simp only[Df,Av,Us] at h;show yG (upd H p.1 p.2) ps b=H b;rw[fQ h.2,qP h.1]
theorem mS {a:Af}{o:HO}:∀ {L:Ab (Af × HO)} {H:Hp},(L.map (·.1)).Nodup→(a,o)∈L→yG H L a=Aa o
 |p::ps,H,nd,h=>by
  simp only[Df,HT] at nd;show yG (upd H p.1 p.2) ps a=Aa o;rcases Av.mp h with rfl|h
  ·rw[fQ nd.1,zQ]
  ·exact mS nd.2 h
theorem aJ {b:Af}{u:HO}:∀ {L:Ab (Af × HO)} {H:Hp},yG H L b=Aa u→(b,u)∈L∨H b=Aa u
 |[],_,h=>.inr h
 |p::ps,H,h=>by
  rcases aJ (L:=ps) (H:=upd H p.1 p.2) h with h|h
  ·exact .inl (Bl _ h)
  ·by_cases hb:b=p.1
   ·subst hb
    rw[zQ] at h;cases h;exact .inl (Cs ..)
   ·rw[qP hb] at h
    exact .inr h
section
variable {K:Ak}
theorem Rel.pureL {α : Ab Af}{S:Sto}:∀ {L:Ab (Af × HO)} {H P:Hp},(∀ p∈L,H p.1=none)→(L.map (·.1)).Nodup→Rel K H P α S→Rel K (yG H L) (yG P L) α S∧qH P (yG P L)
 |[],_,_,_,_,r=>⟨r,qH.refl _⟩
 |p::ps,H,P,hn,nd,r=>by
  simp only[Df,HT] at nd;obtain⟨r1,e1⟩:=r.pure (o:=p.2) (hn p (Cs ..));obtain⟨r2,e2⟩:=Rel.pureL (L:=ps) (fun q hq=>by
   have:q.1≠p.1:=fun e=>nd.1 (e▸Bt.mpr ⟨q,hq,rfl⟩);rw[qP this];exact hn q (Bl _ hq)) nd.2 r1
  exact⟨r2,e1.trans e2⟩
end
section
variable {X:Cx}{pins:Ab (Af × Co)}{σ : _L.St}{H:Hp}{s:Ag}
theorem Inv.laidL {L:Ab (Af × HO)}{h':Bi}{t':Ah}(I:Inv X pins σ H s)(k:∀ b u,s.heap.get? b=Aa u→h'.get? b=Aa u)(hp:∀ p∈L,s.heap.objs.size≤p.1)(new:∀ p∈L,zR X.prog X.w (yG H L) h' p.1 p.2) :
  Inv X pins σ (yG H L) { s with heap:=h',toks:=t' }:=by
 have old:∀ b u,H b=Aa u→yG H L b=Aa u:=fun b u e=>by
  rw[fQ (L:=L)]
  ·exact e
  ·intro hb
   obtain⟨p,hp',rfl⟩:=Bt.mp hb;rw[I.hok.fresh (hp p hp')] at e;cases e
 have low:∀ b,b<s.heap.objs.size→yG H L b=H b:=fun b hb=>fQ fun hm=>by
  obtain⟨p,hp',rfl⟩:=Bt.mp hm;exact absurd (Bm hb (hp p hp')) (DL _)
 refine I.un ⟨fun b u q _ _ _=>k b u q,fun b u q _ _ _=>⟨u.slots,k b u q⟩,fun b u q n _=>by rw[low b (Ax q)];exact n,fun b u q _=>⟨u,k b u q⟩,fun b xs q=>old b _ q,fun b o xs q=>old b _ q,fun b ps q=>⟨#[],by rw[old b _ q];simp⟩⟩ fun b u e=>?_
 rcases aJ e with hm|hb
 ·exact new (b,u) hm
 ·exact(I.hok b u hb).stay (fun c v _ q=>k c v q) (fun c q=>old c _ q) fun c xs q=>old c _ q
end
def kD:Key→D
 |.inl i=>.int i
 |.inr x=>.str x
theorem D2 {K:Ak}{P:Hp}{α : Ab Af}(k:Key):Rep K P α (kD k) (kV k):=by
 cases k <;> simp only[kD,kV,Rep]
theorem HQ {k:Key}{u:Ac}(h:pA k u=true):qI (kV k) u:=by
 rcases xM h with⟨i,t,rfl,rfl⟩|⟨x,t,rfl,rfl⟩
 ·exact⟨t,rfl⟩
 ·exact⟨t,rfl⟩
def uQ (as:Ab Af)(vs:Ab (Key × V)):Ab (Af × HO):=Zy (fun a p=>(a,HO.tup [kV p.1,p.2])) as vs
theorem aF:∀ (as:Ab Af) (vs:Ab (Key × V)),as.length=vs.length→(uQ as vs).map (·.1)=as
 |[],vs,h=>rfl
 |a::as,vs,h=>by
  cases vs with
  |nil=>exact Xs h
  |cons v vs=>exact congrArg (a::·) (aF as vs (Zs h))
theorem aG:∀ {as:Ab Af} {vs:Ab (Key × V)} {p:Af × HO},p∈uQ as vs→∃ (j:Ah) (q:Key × V),as[j]? = Aa p.1∧vs[j]? = Aa q∧p.2=HO.tup [kV q.1,q.2]
 |a::as,v::vs,p,h=>by
  rcases Av.mp (show p∈(a,HO.tup [kV v.1,v.2])::uQ as vs from h) with rfl|h
  ·exact⟨0,v,rfl,rfl,rfl⟩
  ·obtain⟨j,q,e1,e2,e3⟩:=aG h
   exact⟨j+1,q,by simpa using e1,by simpa using e2,e3⟩
theorem sW {K:Ak}{P:Hp}{α : Ab Af}:∀ {as:Ab Af} {kvs:Ab (Key × D)} {vs:Ab (Key × V)},KVs K P α kvs vs→as.length=vs.length→(∀ p∈uQ as vs,P p.1=Aa p.2)→qF K P α (kvs.map fun p=>D.tup [kD p.1,p.2]) (as.map V.ref)
 |[],[],_,.nil,_,_=>.nil
 |a::as,_,_,.cons (a:=x) (b:=y) (l₁:=xs) (l₂:=ys) z t,hl,h=>by
  refine .cons ?_ (sW t (by simpa using hl) fun p hp=>h p (Bl _ hp))
  have h0:=h (a,HO.tup [kV y.1,y.2]) (Cs ..);simp only[Rep];refine⟨a,[kV y.1,y.2],rfl,.inl (.inl h0),.cons ?_ (.cons z.2 .nil)⟩;rw[z.1];exact D2 _
 |[],_::_,_,.cons _ _,hl,_=>by simp at hl
theorem tR {κ : Type}:∀ {vs:Ab (κ × V)} {us:Ab (κ × Ac)},KV vs us→∀ {j:Ah} {q:κ × V},vs[j]? = Aa q→∃ u,us[j]? = Aa (q.1,u)∧qI q.2 u
 |_,_,.nil,j,q,h=>by simp at h
 |_,_,.cons (a:=x) (b:=y) z t,j,q,h=>by
  cases j with
  |zero =>
   simp at h;subst h;exact⟨y.2,by simp;exact Prod.ext z.1.symm rfl,z.2⟩
  |succ j =>
   obtain⟨u,e1,e2⟩:=tR t (j:=j) (q:=q) (by simpa using h)
   exact⟨u,by simpa using e1,e2⟩
theorem V1 (as:Ab Af):qN (as.map V.ref) (as.map Ch):=by
 induction as with
 |nil=>exact .nil
 |cons a as ih=>exact .cons rfl ih
section
variable {X:Cx}{cm:As}{k:Ah}
theorem TL (hr:RoomC cm k X.A):ZOp X (Cw .NotIn) yP:=⟨JC hr.units⟩
end
end _D
namespace _S
open PySem
def Rs (xs:Bk Ah):Prop:=xs.toList.Pairwise (· < ·)
theorem Rs.lt {xs:Bk Ah}(h:Rs xs){a b:Ah}{x y:Ah}(hab:a<b)(ha:xs[a]? = Aa x)(hb:xs[b]? = Aa y):x<y:=by
 obtain⟨h1,e1⟩:=Dk.mp ha;obtain⟨h2,e2⟩:=Dk.mp hb;have:=Pm.mp h a b (by simpa using h1) (by simpa using h2) hab
 rw[← e1,← e2];simpa using this
theorem getD_some {xs:Bk Ah}{i x d:Ah}(h:xs[i]? = Aa x):xs.getD i d=x:=by
 obtain⟨h1,e1⟩:=Dk.mp h;simp[Hz,h1,e1]
structure Bel (xs:Bk Ah)(j p:Ah):Prop where
 le:p≤xs.size
 lo:∀ i x,i<p→xs[i]? = Aa x→x<j
 hi:∀ i x,p≤i→xs[i]? = Aa x→j≤x
set_option tactic.hygienic true in
theorem m7 {xs:Bk Ah}(h:Rs xs)(j:Ah):∀ (fuel lo hi:Ah),hi-lo≤fuel→lo≤hi→hi≤xs.size →
  (∀ i x,i<lo→xs[i]? = Aa x→x<j)→(∀ i x,hi≤i→xs[i]? = Aa x→j≤x)→Bel xs j (Wh xs j fuel lo hi)
 |0,lo,hi,h1,h2,h3,h4,h5=>by
  have:lo=hi:=by omega
  subst this;exact⟨h3,h4,h5⟩
 |fuel+1,lo,hi,h1,h2,h3,h4,h5=>by
  unfold Wh;by_cases hlt:lo<hi
  ·rw[AT hlt]
   have hm:(lo+hi)/2<xs.size:=by omega
   have e:xs[(lo+hi)/2]? = Aa xs[(lo+hi)/2]:=Dp hm;simp only[getD_some e]
   split
   ·rename_i hc
    refine m7 h j fuel _ hi (by omega) (by omega) h3 (fun i x hi' ex=>?_) h5
    by_cases q:i=(lo+hi)/2
    ·subst q;rw[e] at ex;cases ex;exact hc
    ·exact Le (h.lt (by omega) ex e) hc
   ·rename_i hc
    refine m7 h j fuel lo _ (by omega) (by omega) (by omega) h4 (fun i x hi' ex=>?_)
    by_cases q:i=(lo+hi)/2
    ·subst q;rw[e] at ex;cases ex;omega
    ·have:=h.lt (show (lo+hi)/2<i by omega) e ex
     omega
  ·rw[Bc hlt]
   have:lo=hi:=by omega
   subst this;exact⟨h3,h4,h5⟩
theorem kB {xs:Bk Ah}(h:Rs xs)(j:Ah):Bel xs j (Cb xs j):=
 m7 h j _ _ _ (by omega) (by omega) (Bd _) (fun i x hi=>by omega) fun i x hi ex=>by
  have:=(Dk.mp ex).1;omega
theorem m6 {xs:Bk Ah}(h:Rs xs){i j:Ah}(e:xs[i]? = Aa j):Cb xs j=i:=by
 have b:=kB h j;have hi:=(Dk.mp e).1;by_cases h1:Cb xs j<i
 ·have e2:xs[Cb xs j]? = Aa xs[Cb xs j]:=Dp (by omega)
  have:=h.lt h1 e2 e;have:=b.hi _ _ (Bd _) e2;omega
 ·by_cases h2:i<Cb xs j
  ·have:=b.lo _ _ h2 e
   omega
  ·omega
theorem Q7 {xs:Bk Ah}(h:Rs xs){i j:Ah}(e:xs[i]? = Aa j):Cb xs (j+1)=i+1:=by
 have b:=kB h (j+1);have hi:=(Dk.mp e).1;have h1:i<Cb xs (j+1):=by
  apply Fg;intro q;have:=b.hi _ _ (by omega) e
  omega
 by_cases h2:i+1<Cb xs (j+1)
 ·have hz:i+1<xs.size:=by have:=b.le;omega
  have e2:xs[i+1]? = Aa xs[i+1]:=Dp hz;have:=b.lo _ _ h2 e2;have:=h.lt (Im i) e e2;omega
 ·omega
theorem Q8 {xs:Bk Ah}(h:Rs xs):Cb xs 0=0:=by
 have b:=kB h 0;apply Fg;intro q;have hz:0<xs.size:=by have:=b.le;omega
 have e2:xs[0]? = Aa xs[0]:=Dp hz;have:=b.lo _ _ (by omega) e2
 omega
structure Tb (t:Fh):Prop where
 rs:Rs t.place
 dm:t.dummies=#[]
theorem iO (j:Ah):Vo #[] j=false:=by simp[Vo]
theorem sQ {t:Fh}(T:Tb t){i j:Ah}(e:t.place[i]? = Aa j):t.slot j=.live i:=by
 unfold Zg;simp only[m6 T.rs e,e];simp
theorem ZJ {t:Fh}(T:Tb t)(j:Ah):(∃ i,t.slot j=.live i∧t.place[i]? = Aa j)∨(t.slot j=.empty∧j ∉ t.place.toList):=by
 by_cases h:j∈t.place.toList
 ·obtain⟨i,hi,e⟩:=Ct.mp h
  have e':t.place[i]? = Aa j:=by rw[← Bz,An hi,e]
  exact .inl ⟨i,sQ T e',e'⟩
 ·refine .inr ⟨?_,h⟩
  unfold Zg;simp only[T.dm,iO];rw[Bc,Bc (by simp)]
  intro q;apply h;have:t.place[Cb t.place j]? = Aa j:=by simpa using q
  obtain⟨h1,e1⟩:=Dk.mp this;rw[← e1];simp
theorem YL {xs:Bk Ah}(h:Rs xs){j:Ah}(hj:j ∉ xs.toList):Rs (Bp xs (Cb xs j) j):=by
 have b:=kB h j;unfold Rs;rw[Pz];have key:∀ (i:Ah) (x:Ah),xs.toList[i]? = Aa x→(i<Cb xs j→x<j)∧(Cb xs j≤i→j<x):=fun i x e=>by
  have e':xs[i]? = Aa x:=by rw[← Bz];exact e
  refine⟨fun q=>b.lo _ _ q e',fun q=>?_⟩;have h1:=b.hi _ _ q e';have:x≠j:=by
   rintro rfl;exact hj (Ca e)
  omega
 have tk:∀ x∈xs.toList.take (Cb xs j),x<j:=fun x hx=>by
  obtain⟨i,hi,e⟩:=Ct.mp hx;rw[Ev] at hi;rw[List.getElem_take] at e;exact(key i x (by rw[An (by omega),e])).1 (by omega)
 have dr:∀ x∈xs.toList.drop (Cb xs j),j<x:=fun x hx=>by
  obtain⟨i,hi,e⟩:=Ct.mp hx;rw[Hg] at hi;rw[List.getElem_drop] at e;exact(key (Cb xs j+i) x (by rw[An (by omega),e])).2 (by omega)
 rw[Ms,Cz];refine⟨List.Pairwise.take h,⟨dr,List.Pairwise.drop h⟩,fun x hx y hy=>?_⟩;rcases Av.mp hy with rfl|hy
 ·exact tk x hx
 ·exact Le (tk x hx) (dr y hy)
theorem tI {α : Type}(xs:Bk α){p:Ah}(hp:p≤xs.size)(x:α)(i:Ah):(Bp xs p x)[i]? = if i<p then xs[i]? else if i=p then Aa x else xs[i-1]?:=by
 rw[← Bz,Pz];have hl:(xs.toList.take p).length=p:=by simp;omega
 by_cases h1:i<p
 ·rw[AT h1,Cd (by omega),Pv h1,Bz]
 ·rw[Bc h1,Dr (by omega),hl]
  by_cases h2:i=p
  ·subst h2;simp
  ·rw[Bc h2]
   obtain⟨k,hk⟩:∃ k,i-p=k+1:=⟨i-p-1,by omega⟩
   rw[hk,List.getElem?_cons_succ,List.getElem?_drop,Bz]
   congr 1;omega
theorem jA {α : Type}(xs:Bk α)(p:Ah)(x:α):(Bp xs p x).size=xs.size+1:=by
 have:=(Hi xs p x).length_eq;simpa using this
theorem R9 {t:Fh}(T:Tb t){j:Ah}(hj:j ∉ t.place.toList):Tb (t.put j).1:=by
 refine⟨YL T.rs hj,?_⟩;show (if Vo t.dummies j then _ else t.dummies)=#[]
 rw[T.dm,iO];rfl
open PySem.SetTable (Probe leap runEnd turns bits)
def adv (mask:Ah)(p:Ls):Ls:=if p.more>0 then { p with j:=p.j+1,more:=p.more-1 } else { p with j:=(leap mask p.i p.perturb).1,more:=Gq mask (leap mask p.i p.perturb).1-(leap mask p.i p.perturb).1,i:=(leap mask p.i p.perturb).1,perturb:=(leap mask p.i p.perturb).2 }
theorem N0 (t:Fh)(p:Ls):t.advance p=adv t.mask p:=rfl
def it (mask:Ah):Ah→Ls→Ls
 |0,p=>p
 |n+1,p=>it mask n (adv mask p)
theorem f7 (mask:Ah):∀ (n:Ah) (p:Ls),it mask (n+1) p=adv mask (it mask n p)
 |0,p=>rfl
 |n+1,p=>f7 mask n (adv mask p)
theorem tN (mask:Ah):∀ (m n:Ah) (p:Ls),it mask (m+n) p=it mask n (it mask m p)
 |0,n,p=>by rw[Vp];rfl
 |m+1,n,p=>by rw[Om];exact tN mask m n (adv mask p)
def rs (mask i pert:Ah):Ls:={ j:=i,more:=Gq mask i-i,i,perturb:=pert,dummy:=none }
def st (mask:Ah)(h:Aj):Ls:=rs mask (bits h % (mask+1)) (bits h)
theorem A8 (t:Fh)(h:Aj):t.probeStart h=st t.mask h:=rfl
theorem bA (mask i pert:Ah):∀ k,k≤Gq mask i-i→it mask k (rs mask i pert)={ j:=i+k,more:=Gq mask i-i-k,i,perturb:=pert,dummy:=none }
 |0,_=>rfl
 |k+1,hk=>by
  rw[f7,bA mask i pert k (by omega)]
  unfold adv;rw[AT (by show Gq mask i-i-k>0;omega)]
  simp only[Probe.mk.injEq,and_true,true_and];omega
theorem iT (mask i pert:Ah):it mask (Gq mask i-i+1) (rs mask i pert)=rs mask (leap mask i pert).1 (leap mask i pert).2:=by
 rw[f7,bA mask i pert _ (Bd _)];unfold adv;rw[Bc (by show ¬ (Gq mask i-i-(Gq mask i-i)>0);omega)]
 rfl
theorem E1 (mask i:Ah):Gq mask i-i+1≤10:=by
 unfold Gq
 split <;> omega
def lp (mask:Ah):Ah→Ah × Ah→Ah × Ah
 |0,q=>q
 |n+1,q=>lp mask n (leap mask q.1 q.2)
theorem WC (mask:Ah):∀ (m n:Ah) (q:Ah × Ah),lp mask (m+n) q=lp mask n (lp mask m q)
 |0,n,p=>by rw[Vp];rfl
 |m+1,n,p=>by rw[Om];exact WC mask m n _
theorem G6 (mask:Ah):∀ (n i pert:Ah),∃ k,k≤10*n∧it mask k (rs mask i pert)=rs mask (lp mask n (i,pert)).1 (lp mask n (i,pert)).2
 |0,i,pert=>⟨0,by omega,rfl⟩
 |n+1,i,pert=>by
  obtain⟨k,hk,e⟩:=G6 mask n (leap mask i pert).1 (leap mask i pert).2;refine⟨(Gq mask i-i+1)+k,by have:=E1 mask i;omega,?_⟩
  rw[tN,iT,e];rfl
theorem o4 (mask:Ah):∀ (n i pert:Ah),(lp mask n (i,pert)).2=pert/32 ^ n
 |0,i,pert=>by simp[lp]
 |n+1,i,pert=>by
  show (lp mask n ((leap mask i pert).1,pert/32)).2=_;rw[o4 mask n _ (pert/32),Nat.div_div_eq_div_mul,← Nat.pow_succ']
theorem lH (mask i pert:Ah):(leap mask i pert).1≤mask:=Jp (Nn _ (Lg _))
theorem G8 (mask:Ah):∀ (n i pert:Ah),i≤mask→(lp mask n (i,pert)).1≤mask
 |0,i,pert,h=>h
 |n+1,i,pert,h=>G8 mask n _ _ (lH mask i pert)
theorem i3 (h:Aj):bits h<2 ^ 64:=by
 unfold bits;have h1:(0:Aj)≤h % 2 ^ 64:=Jg _ (by decide)
 have h2:h % 2 ^ 64<(2 ^ 64:Aj):=Hr _ (by decide)
 omega
def cyc (mask:Ah):Ah→Ah→Ah
 |0,i=>i
 |n+1,i=>cyc mask n ((i*5+1) % (mask+1))
theorem bR (mask:Ah):∀ (m n i:Ah),cyc mask (m+n) i=cyc mask n (cyc mask m i)
 |0,n,p=>by rw[Vp];rfl
 |m+1,n,p=>by rw[Om];exact bR mask m n _
theorem WD (mask:Ah):∀ (n i:Ah),(lp mask n (i,0)).1=cyc mask n i
 |0,i=>rfl
 |n+1,i=>by
  show (lp mask n (leap mask i 0)).1=_;have:leap mask i 0=((i*5+1) % (mask+1),0):=by simp[leap]
  rw[this,WD mask n];rfl
def Msk (mask:Ah):Prop:=mask=7∨mask=31∨mask=127∨mask=511∨mask=2047
def orb (mask:Ah):Ah→Ah→Ah→Ah
 |0,_,acc=>acc
 |n+1,i,acc=>orb mask n ((i*5+1) % (mask+1)) (acc ||| 1 <<< i)
def X8 (mask:Ah):As:=orb mask (mask+1) 0 0 == 2 ^ (mask+1)-1&&cyc mask (mask+1) 0 == 0
theorem X9 {mask:Ah}(h:Msk mask):X8 mask=true:=by
 rcases h with rfl|rfl|rfl|rfl|rfl <;> decide +kernel
theorem o9 (mask e:Ah):∀ (n i acc:Ah),(orb mask n i acc).testBit e=true→acc.testBit e=true∨∃ m,m<n∧cyc mask m i=e
 |0,i,acc,h=>.inl h
 |n+1,i,acc,h=>by
  rcases o9 mask e n _ _ h with q|⟨m,hm,q⟩
  ·rw[Nat.testBit_or,Ru] at q
   rcases q with q|q
   ·exact .inl q
   ·rw[Nat.one_shiftLeft,Nat.testBit_two_pow,Cm] at q
    exact .inr ⟨0,by omega,q⟩
  ·exact .inr ⟨m+1,by omega,q⟩
theorem VR {mask:Ah}(h:Msk mask){i e:Ah}(hi:i≤mask)(he:e≤mask):∃ n,n≤mask∧cyc mask n i=e:=by
 have a:=X9 h;unfold X8 at a;rw[Ay] at a;obtain⟨a1,a2⟩:=a;have a1:orb mask (mask+1) 0 0=2 ^ (mask+1)-1:=by simpa using a1
 have g:∀ e,e≤mask→∃ n,n≤mask∧cyc mask n 0=e:=fun e he=>by
  have q:(orb mask (mask+1) 0 0).testBit e=true:=by rw[a1,Nat.testBit_two_pow_sub_one];simp;omega
  rcases o9 mask e _ _ _ q with q|⟨n,hn,q⟩
  ·simp at q
  ·exact⟨n,by omega,q⟩
 have a3:cyc mask (mask+1) 0=0:=by simpa using a2
 obtain⟨m,hm,em⟩:=g i hi;obtain⟨n,hn,en⟩:=g e he;by_cases q:m≤n
 ·refine⟨n-m,by omega,?_⟩
  rw[← em,← bR,show m+(n-m)=n by omega]
  exact en
 ·refine⟨n+(mask+1)-m,by omega,?_⟩
  rw[← em,← bR,show m+(n+(mask+1)-m)=(mask+1)+n by omega,bR,a3]
  exact en
theorem cA {mask:Ah}(h:Msk mask){i pert e:Ah}(hi:i≤mask)(hp:pert<2 ^ 64)(he:e≤mask):∃ n,n≤mask+13∧(lp mask n (i,pert)).1=e:=by
 have h0:(lp mask 13 (i,pert)).2=0:=by
  rw[o4];apply Nat.div_eq_of_lt;exact Le hp (by decide)
 obtain⟨n,hn,q⟩:=VR h (G8 mask 13 i pert hi) he;refine⟨13+n,by omega,?_⟩
 rw[WC];have:lp mask 13 (i,pert)=((lp mask 13 (i,pert)).1,0):=by rw[← h0]
 rw[this,WD];exact q
theorem eV {mask:Ah}(h:Msk mask)(hs:Aj){e:Ah}(he:e≤mask):∃ n,n<10*turns mask∧(it mask n (st mask hs)).j=e:=by
 obtain⟨n,hn,q⟩:=cA h (i:=bits hs % (mask+1)) (Jp (Nn _ (Lg _))) (i3 hs) he;obtain⟨k,hk,e1⟩:=G6 mask n (bits hs % (mask+1)) (bits hs);refine⟨k,by unfold turns;omega,?_⟩
 show (it mask k (rs mask _ _)).j=e;rw[e1];exact q
theorem mE (mask:Ah):∀ (n:Ah) (p:Ls),(it mask n p).dummy=p.dummy
 |0,p=>rfl
 |n+1,p=>by
  show (it mask n (adv mask p)).dummy=_;rw[mE mask n];unfold adv
  split <;> rfl
def Way (t:Fh)(p:Ls)(n:Ah):Prop:=∀ m,m<n→(it t.mask m p).j∈t.place.toList
inductive Meets (t:Fh)(hashAt:Ah→Aj)(h:Aj)(p:Ls)(fuel:Ah):Am SetTable.Met→Prop
 |emp (n:Ah) (hn:n<fuel) (w:Way t p n) (e:(it t.mask n p).j ∉ t.place.toList) (q:∀ m i,m<n→t.place[i]? = Aa (it t.mask m p).j→hashAt i≠h):Meets t hashAt h p fuel (Aa (.empty (it t.mask n p).j none))
 |cand (n i:Ah) (hn:n<fuel) (w:Way t p n) (e:t.place[i]? = Aa (it t.mask n p).j) (hh:hashAt i=h) (q:∀ m i,m<n→t.place[i]? = Aa (it t.mask m p).j→hashAt i≠h):Meets t hashAt h p fuel (Aa (.candidate (it t.mask n p).j i (it t.mask (n+1) p)))
theorem YK {xs:Bk Ah}(h:Rs xs){a b x:Ah}(ha:xs[a]? = Aa x)(hb:xs[b]? = Aa x):a=b:=by rw[← m6 h ha,m6 h hb]
set_option tactic.hygienic true in
theorem gZ {t:Fh}(T:Tb t)(hashAt:Ah→Aj)(h:Aj):∀ (fuel:Ah) (p:Ls),p.dummy=none→(∃ n,n<fuel∧(it t.mask n p).j ∉ t.place.toList)→Meets t hashAt h p fuel (Jq t hashAt h fuel p)
 |0,p,_,⟨n,hn,_⟩=>by omega
 |fuel+1,p,hd,⟨n,hn,hne⟩=>by
  unfold Jq;rcases ZJ T p.j with⟨i,e,ei⟩|⟨e,q⟩
  ·rw[e]
   simp only
   split
   ·rename_i hh
    exact Meets.cand 0 i (by omega) (fun m hm=>by omega) ei (by simpa using hh) fun m i hm=>by omega
   ·rename_i hh
    have hh':hashAt i≠h:=by simpa using hh
    have hn0:n≠0:=by
     rintro rfl;exact hne (Ca (by rw[Bz];exact ei))
    obtain⟨n',rfl⟩:∃ n',n=n'+1:=⟨n-1,by omega⟩
    have ih:=gZ T hashAt h fuel (adv t.mask p) (by rw[← hd];exact mE t.mask 1 p) ⟨n',by omega,hne⟩
    rw[N0];have mem0:p.j∈t.place.toList:=Ca (by rw[Bz];exact ei)
    have up:∀ {k:Ah},Way t (adv t.mask p) k→Way t p (k+1):=fun {k} w m hm=>by
     cases m with
     |zero=>exact mem0
     |succ m=>exact w m (by omega)
    have upq:∀ {k:Ah},(∀ m i,m<k→t.place[i]? = Aa (it t.mask m (adv t.mask p)).j→hashAt i≠h)→∀ m i,m<k+1→t.place[i]? = Aa (it t.mask m p).j→hashAt i≠h:=fun {k} q m i' hm e'=>by
     cases m with
     |zero=>rw[YK T.rs e' ei];exact hh'
     |succ m=>exact q m i' (by omega) e'
    generalize hg:Jq t hashAt h fuel (adv t.mask p)=r at ih;cases ih with
    |emp k hk w e1 q1=>exact Meets.emp (p:=p) (k+1) (by omega) (up w) e1 (upq q1)
    |cand k i' hk w e1 hh1 q1=>exact Meets.cand (p:=p) (k+1) i' (by omega) (up w) e1 hh1 (upq q1)
  ·rw[e]
   simp only[hd];exact Meets.emp (p:=p) 0 (by omega) (fun m hm=>by omega) q fun m i hm=>by omega
end _S
namespace _S
open PySem
open PySem.SetTable (Probe leap runEnd turns bits)
structure Own (mask:Ah)(owner:Bk (Am Ah))(us:Ab Ah):Prop where
 size:owner.size=mask+1
 nd:us.Nodup
 le:∀ u∈us,u≤mask
 at':∀ j k,j≤mask→(owner.getD j (Aa 0)=Aa k↔us[k]? = Aa j)
theorem lX {mask i:Ah}(hi:i≤mask):Gq mask i≤mask:=by
 unfold Gq
 split <;> omega
theorem lY (mask i:Ah):i≤Gq mask i:=by
 unfold Gq
 split <;> omega
theorem Own.none {mask:Ah}{owner:Bk (Am Ah)}{us:Ab Ah}(O:Own mask owner us){j:Ah}(hj:j≤mask):(owner.getD j (Aa 0)).isNone=true↔j ∉ us:=by
 constructor
 ·intro h hm
  obtain⟨k,hk,e⟩:=Ct.mp hm;have:=(O.at' j k hj).mpr (by rw[An hk,e])
  rw[this] at h;cases h
 ·intro h
  cases q:owner.getD j (Aa 0) with
  |none=>rfl
  |some k=>exact absurd (Ca ((O.at' j k hj).mp q)) h
theorem dU {mask:Ah}{owner:Bk (Am Ah)}{us:Ab Ah}(O:Own mask owner us):∀ (fuel i pert:Ah),i≤mask→(∃ L,L<fuel∧(lp mask L (i,pert)).1 ∉ us) →
  ∃ n,Hj mask owner fuel i pert=Aa (it mask n (rs mask i pert)).j∧(it mask n (rs mask i pert)).j≤mask∧(it mask n (rs mask i pert)).j ∉ us∧∀ m,m<n→(it mask m (rs mask i pert)).j∈us
 |0,i,pert,hi,⟨L,hL,_⟩=>by omega
 |fuel+1,i,pert,hi,⟨L,hL,hne⟩=>by
  unfold Hj;have hmx:=lX hi;have hmn:=lY mask i;cases hf:(Cy (Gq mask i+1-i)).find? fun k=>(owner.getD (i+k) (Aa 0)).isNone with
  |some k =>
   obtain⟨h1,h2,h3⟩:=List.find?_range_eq_some.mp hf;have hk:k<Gq mask i+1-i:=Eg.mp h2;have ej:(it mask k (rs mask i pert)).j=i+k:=by rw[bA mask i pert k (by omega)]
   refine⟨k,?_,?_,?_,fun m hm=>?_⟩
   ·rw[ej]
   ·rw[ej];omega
   ·rw[ej];exact(O.none (by omega)).mp h1
   ·rw[bA mask i pert m (by omega)]
    have:=h3 m hm;apply Fg;intro q;rw[(O.none (show i+m≤mask by omega)).mpr q] at this
    cases this
  |none =>
   have hall:∀ k,k<Gq mask i+1-i→i+k∈us:=fun k hk=>by
    have:=List.find?_eq_none.mp hf k (Eg.mpr hk);apply Fg;intro q;exact this ((O.none (show i+k≤mask by omega)).mpr q)
   have hL0:L≠0:=by
    rintro rfl;exact hne (hall 0 (by omega))
   obtain⟨L',rfl⟩:∃ L',L=L'+1:=⟨L-1,by omega⟩
   obtain⟨n,q1,q2,q3,q4⟩:=dU O fuel (leap mask i pert).1 (leap mask i pert).2 (lH mask i pert) ⟨L',by omega,hne⟩
   have e:∀ m,it mask (Gq mask i-i+1+m) (rs mask i pert)=it mask m (rs mask (leap mask i pert).1 (leap mask i pert).2):=fun m=>by rw[tN,iT]
   refine⟨Gq mask i-i+1+n,?_,?_,?_,fun m hm=>?_⟩
   ·rw[e];exact q1
   ·rw[e];exact q2
   ·rw[e];exact q3
   ·by_cases hlt:m<Gq mask i-i+1
    ·rw[bA mask i pert m (by omega)]
     exact hall m (by omega)
    ·obtain⟨m',rfl⟩:∃ m',m=Gq mask i-i+1+m':=⟨m-(Gq mask i-i+1),by omega⟩
     rw[e];exact q4 m' (by omega)
theorem gap {mask:Ah}{us:Ab Ah}(h:us.length≤mask):∃ e,e≤mask∧e ∉ us:=by
 apply Fg;intro q;have:Cy (mask+1) ⊆ us:=fun e he=>by
  apply Fg;intro r;exact q ⟨e,by have:=Eg.mp he;omega,r⟩
 have:=List.Nodup.length_le_of_subset Xc this;rw[Fm] at this;omega
theorem FU (mask:Ah):Own mask (Array.replicate (mask+1) none) []:=by
 refine⟨by simp,Yp,fun u hu=>by simp at hu,fun j k hj=>?_⟩
 have:j<mask+1:=by omega
 simp[Hz,this]
theorem JF {mask:Ah}{owner:Bk (Am Ah)}{us:Ab Ah}(O:Own mask owner us){j:Ah}(hj:j≤mask)(hn:j ∉ us):Own mask (owner.setIfInBounds j (Aa us.length)) (us++[j]):=by
 refine⟨by simp[O.size],?_,fun u hu=>?_,fun i k hi=>?_⟩
 ·rw[Pg]
  refine⟨O.nd,by simp,fun a ha b hb=>?_⟩
  simp at hb;rintro rfl;subst hb;exact hn ha
 ·rcases Cu.mp hu with h|h
  ·exact O.le u h
  ·simp at h;omega
 ·have hsz:=O.size
  have hi':i<owner.size:=by omega
  have hk:∀ {k},us[k]? = Aa i→k<us.length:=fun q=>(Ba.mp q).1;by_cases hij:j=i
  ·subst hij
   have e1:(owner.setIfInBounds j (Aa us.length)).getD j (Aa 0)=Aa us.length:=by simp[Hz,hi']
   rw[e1];constructor
   ·intro q;cases q;simp
   ·intro q
    by_cases h1:k<us.length
    ·rw[Cd h1] at q
     exact absurd (Ca q) hn
    ·rw[Dr (by omega)] at q
     have:k-us.length=0:=by
      cases hz:k-us.length with
      |zero=>rfl
      |succ z=>rw[hz] at q;simp at q
     congr 1;omega
  ·have e1:(owner.setIfInBounds j (Aa us.length)).getD i (Aa 0)=owner.getD i (Aa 0):=by
    simp[Hz,hi',Array.getElem_setIfInBounds,hij]
   rw[e1,O.at' i k hi];constructor
   ·intro q;rw[Cd (hk q)];exact q
   ·intro q
    by_cases h1:k<us.length
    ·rw[Cd h1] at q;exact q
    ·rw[Dr (by omega)] at q
     cases hz:k-us.length with
     |zero=>rw[hz] at q;simp at q;exact absurd q hij
     |succ z=>rw[hz] at q;simp at q
def Q1 (mask:Ah)(us:Ab Ah)(hs:Ab Aj):Prop:=∀ (k:Ah) (h:Aj),hs[k]? = Aa h→∃ n,us[k]? = Aa (it mask n (st mask h)).j∧∀ m,m<n→(it mask m (st mask h)).j∈us
theorem dR {mask:Ah}(hM:Msk mask):∀ (hs done:Ab Aj) (owner:Bk (Am Ah)) (us:Ab Ah),Own mask owner us→us.length=done.length→done.length+hs.length≤mask→Q1 mask us done →
  ∃ owner' us',hs.foldl (fun acc h=>do
   let (owner,k) ← acc
   let j ← Hj mask owner (turns mask) (bits h % (mask+1)) (bits h)
   pure (owner.setIfInBounds j (Aa k),k+1)) (Aa (owner,us.length))=Aa (owner',us'.length)∧Own mask owner' us'∧us'.length=done.length+hs.length∧Q1 mask us' (done++hs)
 |[],done,owner,us,O,hl,_,hL=>⟨owner,us,rfl,O,by simpa using hl,by simpa using hL⟩
 |h::hs,done,owner,us,O,hl,hlen,hL=>by
  rw[Ci] at hlen;obtain⟨e,he,hne⟩:=gap (mask:=mask) (us:=us) (by omega)
  obtain⟨L,hLn,hLe⟩:=cA hM (i:=bits h % (mask+1)) (Jp (Nn _ (Lg _))) (i3 h) he;obtain⟨n,q1,q2,q3,q4⟩:=dU O (turns mask) (bits h % (mask+1)) (bits h) (Jp (Nn _ (Lg _))) ⟨L,by unfold turns;omega,by rw[hLe];exact hne⟩
  have O':=JF O q2 q3;have hL':Q1 mask (us++[(it mask n (rs mask (bits h % (mask+1)) (bits h))).j]) (done++[h]):=fun k h' e'=>by
   by_cases hk:k<done.length
   ·rw[Cd hk] at e'
    obtain⟨n',w1,w2⟩:=hL k h' e';exact⟨n',by rw[Cd (by omega)];exact w1,fun m hm=>Dq _ (w2 m hm)⟩
   ·rw[Dr (by omega)] at e'
    cases hz:k-done.length with
    |succ z=>rw[hz] at e';simp at e'
    |zero =>
     rw[hz] at e';simp at e';subst e';refine⟨n,?_,fun m hm=>Dq _ (q4 m hm)⟩;rw[Dr (by omega),hl,hz]
     rfl
  obtain⟨owner',us',r1,r2,r3,r4⟩:=dR hM hs (done++[h]) _ _ O' (by simp[hl]) (by simp;omega) hL'
  refine⟨owner',us',?_,r2,by simpa [Nat.add_assoc,Zq 1] using r3,by simpa using r4⟩
  rw[Km];rw[Br] at r1;have e0:(do
   let (owner,k) ← Aa (owner,us.length)
   let j ← Hj mask owner (turns mask) (bits h % (mask+1)) (bits h)
   pure (owner.setIfInBounds j (Aa k),k+1))=Aa (owner.setIfInBounds (it mask n (rs mask (bits h % (mask+1)) (bits h))).j (Aa us.length),us.length+1):=by
   show (Hj mask owner (turns mask) (bits h % (mask+1)) (bits h)).bind _=_;rw[q1];rfl
  rw[e0];exact r1
theorem sZ {mask:Ah}(hM:Msk mask)(hs:Bk Aj)(hlen:hs.size≤mask):∃ owner us,Wi mask hs=Aa owner∧Own mask owner us∧us.length=hs.size∧Q1 mask us hs.toList:=by
 obtain⟨owner',us',r1,r2,r3,r4⟩:=dR hM hs.toList [] _ [] (FU mask) rfl (by simpa using hlen) (fun k h e=>by simp at e)
 refine⟨owner',us',?_,r2,by simpa using r3,by simpa using r4⟩
 unfold Wi;rw[← Array.foldl_toList];have:(([]:Ab Ah).length)=0:=rfl;rw[this] at r1
 erw [r1]
 rfl
structure Laid (mask:Ah)(hs:Bk Aj)(t:Fh)(qS:Bk Ah):Prop where
 msk:t.mask=mask
 tb:Tb t
 size:t.place.size=hs.size
 le:∀ x∈t.place.toList,x≤mask
 perm:qS.toList.Perm (Cy hs.size)
 way:∀ (i k:Ah) (h:Aj),qS[i]? = Aa k→hs[k]? = Aa h→∃ n,t.place[i]? = Aa (it mask n (st mask h)).j∧Way t (st mask h) n
theorem W7 {mask:Ah}(hM:Msk mask)(hs:Bk Aj)(hlen:hs.size≤mask)(finger moves:Ah)(led plain:As) :
  ∃ t qS,Uf mask finger moves led plain hs=Aa (t,qS)∧t.led=led∧t.plain=plain∧Laid mask hs t qS:=by
 obtain⟨owner,us,e,O,hl,hL⟩:=sZ hM hs hlen;have hg:∀ j,j≤mask→owner.getD j none=owner.getD j (Aa 0):=fun j hj=>by
  have:j<owner.size:=by rw[O.size];omega
  simp[Hz,this]
 generalize hlv:((Cy (mask+1)).filterMap fun j=>(owner.getD j none).map (j,·))=live
 have mem:∀ (j k:Ah),(j,k)∈live↔us[k]? = Aa j:=fun j k=>by
  rw[← hlv,Iw];constructor
  ·rintro⟨j',hj',q⟩
   have hj'':j'≤mask:=by have:=Eg.mp hj';omega
   rw[hg j' hj''] at q;cases hz:owner.getD j' (Aa 0) with
   |none=>rw[hz] at q;cases q
   |some k' =>
    rw[hz] at q;simp at q;obtain⟨rfl,rfl⟩:=q;exact(O.at' _ _ hj'').mp hz
  ·intro q
   have hj:j≤mask:=O.le j (Ca q);refine⟨j,Eg.mpr (by omega),?_⟩
   rw[hg j hj,(O.at' j k hj).mpr q];rfl
 have hfst:live.map (·.1)=(Cy (mask+1)).filter fun j=>(owner.getD j none).isSome:=by
  rw[← hlv,List.map_filterMap];generalize owner.getD=f
  induction Cy (mask+1) with
  |nil=>rfl
  |cons a l ih =>
   rw[Fw,Xd];cases hz:f a none with
   |none=>simpa using ih
   |some k=>simpa using ih
 have hR:(live.map (·.1)).Pairwise (· < ·):=by
  rw[hfst];exact wP _ List.pairwise_lt_range
 have ndl:(live.map (·.2)).Nodup:=by
  unfold xL;rw[Gb];have h1:=Gb.mp hR;refine Qb (fun {a b} ha hb hab=>?_) h1;intro q;have ea:=(mem a.1 a.2).mp ha;have eb:=(mem b.1 b.2).mp hb;rw[← q,ea] at eb;simp at eb;omega
 have pm:(live.map (·.2)).Perm (Cy hs.size):=by
  rw[Ot ndl Xc];intro k;rw[Bt,Eg,← hl];constructor
  ·rintro⟨⟨j,k'⟩,h1,rfl⟩
   exact(Ba.mp ((mem j k').mp h1)).1
  ·intro hk
   exact⟨(us[k],k),(mem _ _).mpr (An hk),rfl⟩
 have hmem:∀ j,j∈live.map (·.1)↔j∈us:=fun j=>by
  rw[Bt];constructor
  ·rintro⟨⟨j',k⟩,h1,rfl⟩
   exact Ca ((mem _ _).mp h1)
  ·intro h1
   obtain⟨k,hk,e⟩:=Ct.mp h1;exact⟨(j,k),(mem _ _).mpr (by rw[An hk,e]),rfl⟩
 refine⟨{ mask,place:=(live.map (·.1)).toArray,dummies:=#[],finger,led,moves,plain },(live.map (·.2)).toArray,?_,rfl,rfl,rfl,⟨?_,rfl⟩,?_,fun x hx=>?_,?_,fun i k h e1 e2=>?_⟩
 ·unfold Uf
  rw[e,← hlv];rfl
 ·exact hR
 ·have:=pm.length_eq
  simp at this ⊢;exact this
 ·exact O.le x ((hmem x).mp hx)
 ·exact pm
 ·have e1':(live.map (·.2))[i]? = Aa k:=by simpa using e1
  rw[Dm] at e1';cases hz:live[i]? with
  |none=>rw[hz] at e1';cases e1'
  |some jk =>
   rw[hz] at e1';simp at e1';have hin:=Ca hz;have hu:=(mem jk.1 jk.2).mp hin;obtain⟨n,w1,w2⟩:=hL k h (by rw[Bz];exact e2)
   rw[← e1'] at w1;rw[hu] at w1;refine⟨n,?_,fun m hm=>?_⟩
   ·rw[← w1]
    simp[hz]
   ·have:=(hmem _).mpr (w2 m hm)
    simpa using this
theorem MR {t:Fh}{hs:Bk Aj}{w:Ah}:SetTable.relaid t hs w=Uf (Er w-1) t.finger (t.movedTo (Er w-1)) t.led t.plain hs:=rfl
end _S
namespace _S
open PySem
open PySem.SetTable (Probe leap runEnd turns bits)
structure Set0 {K:Type}(is:K→Ac→Prop)(hash:K→Aj)(es:Bk (Aj × Ac))(seen:Ab K):Prop where
 good:∀ e∈es.toList,∃ k,e.1=hash k∧is k e.2
 nd:es.toList.Pairwise fun a b=>∀ k,is k a.2→¬ is k b.2
 mem:∀ k,k∈seen↔∃ e∈es.toList,is k e.2
section
variable {K:Type}{is:K→Ac→Prop}{hash:K→Aj}{es es':Bk (Aj × Ac)}{seen seen':Ab K}
theorem Set0.perm (Z:Set0 is hash es seen)(p:es'.toList.Perm es.toList):Set0 is hash es' seen:=
 ⟨fun e he=>Z.good e (p.mem_iff.mp he),(p.pairwise_iff fun {x y} h k hy hx=>h k hx hy).mpr Z.nd,fun k=>(Z.mem k).trans ⟨fun ⟨e,he,q⟩=>⟨e,p.mem_iff.mpr he,q⟩,fun ⟨e,he,q⟩=>⟨e,p.mem_iff.mp he,q⟩⟩⟩
theorem Set0.nil:Set0 is hash #[] []:=⟨fun e he=>by simp at he,by simp,fun k=>by simp⟩
theorem Set0.push (Z:Set0 is hash es seen)(inj:∀ {k k':K} {v:Ac},is k v→is k' v→k=k'){k:K}{x:Ac}(hk:is k x)(hn:k ∉ seen)(p:es'.toList.Perm (es.toList++[(hash k,x)])):Set0 is hash es' (k::seen):=by
 refine Set0.perm (es:=es.push (hash k,x)) ⟨fun e he=>?_,?_,fun k'=>?_⟩ (by simpa using p)
 ·rw[Hc] at he
  rcases Cu.mp he with he|he
  ·exact Z.good e he
  ·simp at he;subst he;exact⟨k,rfl,hk⟩
 ·rw[Hc,Ms]
  refine⟨Z.nd,by simp,fun a ha b hb k' h1 h2=>?_⟩
  simp at hb;subst hb;have:=inj hk h2;subst this;exact hn ((Z.mem k).mpr ⟨a,ha,h1⟩)
 ·rw[Av,Z.mem,Hc]
  constructor
  ·rintro (rfl|⟨e,he,q⟩)
   ·exact⟨(hash k',x),by simp,hk⟩
   ·exact⟨e,Dq _ he,q⟩
  ·rintro⟨e,he,q⟩
   rcases Cu.mp he with he|he
   ·exact .inr ⟨e,he,q⟩
   ·simp at he;subst he;exact .inl (inj q hk)
theorem Set0.again (Z:Set0 is hash es seen){k:K}(hk:k∈seen):Set0 is hash es (k::seen):=
 ⟨Z.good,Z.nd,fun k'=>by rw[Av,Z.mem];exact⟨fun h=>h.elim (fun e=>by subst e;exact(Z.mem _).mp hk) id,.inr⟩⟩
end
section
open Classical in
theorem mH {K:Type}{is:K→Ac→Prop}:∀ (L:Ab (Aj × Ac)) (U:Ab K),L.Pairwise (fun a b=>∀ k,is k a.2→¬ is k b.2)→(∀ e∈L,∃ k∈U,is k e.2)→L.length≤U.length
 |[],U,_,_=>Gn _
 |e::L,U,nd,h=>by
  rw[Cz] at nd;obtain⟨k0,hk0,q0⟩:=h e (by simp)
  have ih:=mH L (U.erase k0) nd.2 fun e' he'=>by
   obtain⟨k,hk,q⟩:=h e' (by simp[he'])
   have:k≠k0:=fun z=>nd.1 e' he' k0 q0 (z▸q);exact⟨k,(Tl this).mpr hk,q⟩
  rw[Qc hk0] at ih;have:0<U.length:=Lz hk0;rw[Ci];omega
open Classical in
theorem Set0.few {K:Type}{is:K→Ac→Prop}{hash:K→Aj}{es:Bk (Aj × Ac)}{seen U:Ab K}{k:K}(Z:Set0 is hash es seen)(hU:∀ k'∈seen,k'∈U)(hk:k∈U)(hn:k ∉ seen):es.size<U.length:=by
 have:=mH es.toList (U.erase k) Z.nd fun e he=>by
  obtain⟨k',_,q⟩:=Z.good e he;have hs:=(Z.mem k').mpr ⟨e,he,q⟩;have hne:k'≠k:=fun z=>hn (z▸hs);exact⟨k',(Tl hne).mpr (hU k' hs),q⟩
 rw[Qc hk,Dc] at this;have:0<U.length:=Lz hk;omega
end
structure TabT (t:Fh)(es:Bk (Aj × Ac)):Prop where
 tb:Tb t
 msk:Msk t.mask
 size:t.place.size=es.size
 le:∀ x∈t.place.toList,x≤t.mask
 few:es.size*5<t.mask*3
 way:∀ (i:Ah) (e:Aj × Ac),es[i]? = Aa e→∃ n,t.place[i]? = Aa (it t.mask n (st t.mask e.1)).j∧Way t (st t.mask e.1) n
 plain:t.plain=true
theorem TabT.fits {t:Fh}{es:Bk (Aj × Ac)}(T:TabT t es):t.fits es.size=true:=by
 have h1:=T.size;have h2:=T.few;have h3:t.fill=es.size:=by unfold Ki;rw[T.tb.dm,h1];rfl
 unfold Ug;rw[h3,h1];rcases T.msk with h|h|h|h|h <;> rw[h] at h2 ⊢ <;> simp <;> omega
theorem TabT.gap {t:Fh}{es:Bk (Aj × Ac)}(T:TabT t es):∃ e,e≤t.mask∧e ∉ t.place.toList:=by
 apply _S.gap;rw[Dc,T.size];have h2:=T.few;rcases T.msk with h|h|h|h|h <;> rw[h] at h2 ⊢ <;> omega
theorem TabT.odd {t:Fh}{es:Bk (Aj × Ac)}(T:TabT t es):t.gaveWay=false:=by
 unfold SetTable.gaveWay;rcases T.msk with h|h|h|h|h <;> rw[h] <;> rfl
theorem TabT.put {t:Fh}{es:Bk (Aj × Ac)}(T:TabT t es){h:Aj}{x:Ac}{n:Ah}(w:Way t (st t.mask h) n)(hn:(it t.mask n (st t.mask h)).j ∉ t.place.toList)(hle:(it t.mask n (st t.mask h)).j≤t.mask) :
  let es':=Bp es (t.put (it t.mask n (st t.mask h)).j).2 (h,x)
  Tb (t.put (it t.mask n (st t.mask h)).j).1∧(t.put (it t.mask n (st t.mask h)).j).1.place.size=es'.size∧(∀ y∈(t.put (it t.mask n (st t.mask h)).j).1.place.toList,y≤t.mask) ∧
  (∀ (i:Ah) (e:Aj × Ac),es'[i]? = Aa e→∃ m,(t.put (it t.mask n (st t.mask h)).j).1.place[i]? = Aa (it t.mask m (st t.mask e.1)).j∧Way (t.put (it t.mask n (st t.mask h)).j).1 (st t.mask e.1) m):=by
 generalize hj:(it t.mask n (st t.mask h)).j=j at *;have pm:∀ y,y∈(t.put j).1.place.toList↔y=j∨y∈t.place.toList:=fun y=>by
  show y∈(Bp t.place (Cb t.place j) j).toList↔_;rw[(Hi _ _ _).mem_iff];simp[or_comm]
 have hb:Cb t.place j≤t.place.size:=(kB T.tb.rs j).le;have wm:∀ {p:Ls} {m:Ah},Way t p m→Way (t.put j).1 p m:=fun {p m} w q hq=>(pm _).mpr (.inr (w q hq));refine⟨R9 T.tb hn,?_,fun y hy=>?_,fun i e he=>?_⟩
 ·show (Bp t.place _ j).size=(Bp es _ (h,x)).size
  rw[jA,jA,T.size]
 ·rcases (pm y).mp hy with rfl|hy
  ·exact hle
  ·exact T.le y hy
 ·have he':(if i<Cb t.place j then es[i]? else if i=Cb t.place j then Aa (h,x) else es[i-1]?)=Aa e:=by
   rw[← tI es (by rw[← T.size];exact hb)]
   exact he
  have pl:(t.put j).1.place[i]? = if i<Cb t.place j then t.place[i]? else if i=Cb t.place j then Aa j else t.place[i-1]?:=tI t.place hb j i
  rw[pl];by_cases h1:i<Cb t.place j
  ·rw[AT h1] at he' ⊢
   obtain⟨m,q1,q2⟩:=T.way i e he';exact⟨m,q1,wm q2⟩
  ·rw[Bc h1] at he' ⊢
   by_cases h2:i=Cb t.place j
   ·rw[AT h2] at he' ⊢
    cases he';exact⟨n,by rw[hj],wm w⟩
   ·rw[Bc h2] at he' ⊢
    obtain⟨m,q1,q2⟩:=T.way _ e he';exact⟨m,q1,wm q2⟩
theorem G4 {mask:Ah}(p:Ls)(hp:p.j+p.more≤mask):∀ n,(it mask n p).j+(it mask n p).more≤mask
 |0=>hp
 |n+1=>by
  rw[f7];have ih:=G4 p hp n;unfold adv
  split
  ·show (it mask n p).j+1+((it mask n p).more-1)≤mask
   omega
  ·show (leap mask _ _).1+(Gq mask (leap mask _ _).1-(leap mask _ _).1)≤mask
   have h1:=lX (lH mask (it mask n p).i (it mask n p).perturb);have h2:=lY mask (leap mask (it mask n p).i (it mask n p).perturb).1;omega
theorem GU (mask:Ah)(h:Aj)(n:Ah):(it mask n (st mask h)).j≤mask:=by
 have h0:bits h % (mask+1)≤mask:=Jp (Nn _ (Lg _));have:=G4 (mask:=mask) (st mask h) (by
  show bits h % (mask+1)+(Gq mask (bits h % (mask+1))-bits h % (mask+1))≤mask;have h1:=lX h0;have h2:=lY mask (bits h % (mask+1));omega) n
 omega
theorem fY {t:Fh}{es:Bk (Aj × Ac)}(hM:Msk t.mask)(hp:t.plain=true)(h1:t.place.size=es.size)(h2:es.size≤1001)(hf:t.tooFull=true)(hd:t.dummies=#[])(h3:(es.size-1)*5<t.mask*3)(h4:0<es.size) :
  Er (Go es.size)≤2048∧∃ t' qS,t.relaid (es.map (·.1)) (Go es.size)=Aa (t',qS)∧t'.led=t.led∧(qS.filterMap (es[·]?)).toList.Perm es.toList∧TabT t' (qS.filterMap (es[·]?))∧qS.toList.Perm (Cy es.size):=by
 have hfill:t.fill=es.size:=by unfold Ki;rw[hd,h1];rfl
 have hful:t.mask*3≤es.size*5:=by
  unfold Qm at hf;rw[hfill] at hf;simpa using hf
 have hcase:(es.size=5∧Er (Go es.size)=32)∨(es.size=19∧Er (Go es.size)=128)∨(es.size=77∧Er (Go es.size)=512)∨(es.size=307∧Er (Go es.size)=2048):=by
  rcases hM with h|h|h|h|h <;> rw[h] at hful h3
  ·have:es.size=5:=by omega
   exact .inl ⟨this,by rw[this];decide⟩
  ·have:es.size=19:=by omega
   exact .inr (.inl ⟨this,by rw[this];decide⟩)
  ·have:es.size=77:=by omega
   exact .inr (.inr (.inl ⟨this,by rw[this];decide⟩))
  ·have:es.size=307:=by omega
   exact .inr (.inr (.inr ⟨this,by rw[this];decide⟩))
  ·omega
 have hM':Msk (Er (Go es.size)-1):=by
  rcases hcase with⟨_,h⟩|⟨_,h⟩|⟨_,h⟩|⟨_,h⟩ <;> rw[h]
  ·exact .inr (.inl rfl)
  ·exact .inr (.inr (.inl rfl))
  ·exact .inr (.inr (.inr (.inl rfl)))
  ·exact .inr (.inr (.inr (.inr rfl)))
 have hle:(es.map (·.1)).size≤Er (Go es.size)-1:=by
  rw[Td];rcases hcase with⟨h5,h⟩|⟨h5,h⟩|⟨h5,h⟩|⟨h5,h⟩ <;> rw[h,h5] <;> omega
 obtain⟨t',qS,e,l1,l2,L⟩:=W7 hM' (es.map (·.1)) hle t.finger (t.movedTo (Er (Go es.size)-1)) t.led t.plain
 have hosz:qS.size=es.size:=by
  have:=L.perm.length_eq;simpa using this
 have hord:∀ i k,qS[i]? = Aa k→k<es.size:=fun i k q=>by
  have:k∈Cy (es.map (·.1)).size:=L.perm.mem_iff.mp (Ca (by rw[Bz];exact q))
  simpa using this
 have hfm:(qS.filterMap (es[·]?)).toList=qS.toList.map fun k=>es.toList.getD k (0,.none):=by
  rw[Array.toList_filterMap];have:∀ l:Ab Ah,(∀ k∈l,k<es.size)→l.filterMap (es[·]?)=l.map fun k=>es.toList.getD k (0,.none):=by
   intro l
   induction l with
   |nil=>intro _;rfl
   |cons a l ih =>
    intro hl;have ha:=hl a (by simp)
    rw[Fw,Df,ih fun k hk=>hl k (by simp[hk])]
    rw[Dp ha];simp[ha]
  refine this _ fun k hk=>?_;obtain⟨i,hi,q⟩:=Ct.mp hk;exact hord i k (by rw[← Bz,An hi,q])
 have hperm:(qS.filterMap (es[·]?)).toList.Perm es.toList:=by
  rw[hfm];have p1:=L.perm.map fun k=>es.toList.getD k (0,Ed);refine p1.trans ?_;have e2:(Cy (es.map (·.1)).size).map (fun k=>es.toList.getD k (0,Ed))=es.toList:=by
   apply Mn
   ·simp
   ·intro i a1 a2
    have a3:i<es.size:=by simpa using a2
    simp[a3]
  rw[e2]
 have hsz:(qS.filterMap (es[·]?)).size=es.size:=by rw[← Dc,hperm.length_eq,Dc]
 have hentry:∀ i,(qS.filterMap (es[·]?))[i]? = (qS[i]?).map fun k=>es.toList.getD k (0,.none):=fun i=>by
  rw[← Bz,hfm,Dm,Bz]
 refine⟨by rcases hcase with⟨_,h⟩|⟨_,h⟩|⟨_,h⟩|⟨_,h⟩ <;> rw[h] <;> decide,t',qS,by rw[MR];exact e,l1,hperm,⟨L.tb,by rw[L.msk];exact hM',by rw[L.size,hsz,Td],by rw[L.msk];exact L.le,?_,fun i en q=>?_,by rw[l2];exact hp⟩,by have:=L.perm;rwa [Td] at this⟩
 ·rw[hsz,L.msk]
  rcases hcase with⟨h5,h⟩|⟨h5,h⟩|⟨h5,h⟩|⟨h5,h⟩ <;> rw[h,h5] <;> omega
 ·rw[hentry] at q
  cases hz:qS[i]? with
  |none=>rw[hz] at q;cases q
  |some k =>
   rw[hz] at q;simp only[Rz,Option.some.injEq] at q;have hk:=hord i k hz;have:(es.map (·.1))[k]? = Aa en.1:=by
    rw[Array.getElem?_map,Dp hk];rw[← q];simp[hk]
   rw[L.msk];exact L.way i k en.1 hz this
end _S
namespace _S
open PySem
open PySem.SetTable (Probe leap runEnd turns bits)
def Sup (h0 h:Bi):Prop:=∀ b o,h0.get? b=Aa o→h.get? b=Aa o
def isT (prog:Bh)(w:Bv)(h0:Bi)(ks:Ab Aj)(v:Ac):Prop:=∃ a,v=.ref a∧Qn (Bf prog w) h0 ks a
section
variable {prog:Bh}{w:Bv}{h0:Bi}
theorem isT.inj {x y:Ab Aj}{v:Ac}(hx:isT prog w h0 x v)(hy:isT prog w h0 y v):x=y:=by
 obtain⟨a,rfl,h1⟩:=hx;obtain⟨b,e,h2⟩:=hy;cases e;exact h1.inj h2
theorem jG {h:Bi}{ks:Ab Aj}{a:Af}(hS:Sup h0 h)(hx:Qn (Bf prog w) h0 ks a):Qn (Bf prog w) h ks a:=by
 obtain⟨o,items,n,ho,r⟩:=hx;exact⟨o,items,n,hS _ _ ho,r⟩
variable {A:Bo}{E:Ac→Ag→Prop}{s:Ag}
theorem HL {k:Ab Aj}{v:Ac}{Q:Aj→Ag→Prop}(hu:A.units<Ds)(hS:Sup h0 s.heap)(hx:isT prog w h0 k v)(h:Q (Bj (Bf prog w) k) { s with toks:=s.toks+(k.length+1) }) : Ap (Aw prog w) A (pyHash v) Q E s:=by
 obtain⟨a,rfl,hx⟩:=hx;exact wpAny_pyHash_tuple hu (jG hS hx) h
theorem eqT {k k':Ab Aj}{v v':Ac}{Q:As→Ag→Prop}(hu:A.units<Ds)(hS:Sup h0 s.heap)(hx:isT prog w h0 k v)(hy:isT prog w h0 k' v')(h:Q (decide (k=k')) s):Ap (Aw prog w) A (eqBool v v') Q E s:=by
 obtain⟨a,rfl,hx⟩:=hx;obtain⟨b,rfl,hy⟩:=hy;exact wpAny_eqBool_tuple hu (jG hS hx) (jG hS hy) h
theorem tO {prog:Bh}{w:Bv}:∀ {ks:Ab Aj} {vs:Ab Ac},ItemsAre (Bf prog w) ks vs→∀ v∈vs,∃ i t,v=.int i t:=by
 intro ks vs h
 induction h with
 |nil=>intro v hv;simp at hv
 |@cons k v' ks vs h1 _ ih =>
  intro v hv;rcases Av.mp hv with rfl|hv
  ·cases v <;> first|exact⟨_,_,rfl⟩|exact absurd h1 (by rintro⟨⟩)
  ·exact ih v hv
theorem IC {k:Ab Aj}{v:Ac}{Q:As→Ag→Prop}(hS:Sup h0 s.heap)(hx:isT prog w h0 k v)(h:Q true s):Ap (Aw prog w) A (Ou 8 v) Q E s:=by
 obtain⟨a,rfl,hx⟩:=hx;have hx:=jG hS hx;have hT:=hx.typeIs;obtain⟨o,items,n,ho,_,hd,hi⟩:=hx;unfold Ou;refine Ad (Xw hT F.slot_tuple_hash.lookup ?_);show Ap _ _ (Zf (.ref a) >>= _) Q E s;refine Ad (Et ho hd ?_);refine Ad ?_;show Ap _ _ (forIn items _ _) _ _ s;rw[← Ve];refine Jw _ (fun rest r s'=>r.1=none∧s'=s∧∀ v∈rest,∃ i t,v=.int i t) _ ?_ ?_ _ _ ⟨rfl,rfl,tO hi⟩
 ·rintro v rest r s' ⟨hr,rfl,hall⟩
  obtain⟨i,t,rfl⟩:=hall v Cs;show Ap _ _ (Ou 7 (.int i t) >>= _) _ _ _;rw[show Ou 7 (.int i t)=pure true from rfl]
  refine Ad (Al ?_);simp only[Jh,Bn,Dt];exact Al ⟨rfl,rfl,fun u hu'=>hall u (Bl _ hu')⟩
 ·rintro⟨r1,r2⟩ s' ⟨hr,rfl,_⟩
  simp only at hr;subst hr;exact Al h
theorem X4 {k:Ab Aj}{v:Ac}{Q:As→Ag→Prop}(hS:Sup h0 s.heap)(hx:isT prog w h0 k v)(h:Q false s):Ap (Aw prog w) A (Lu 8 v) Q E s:=by
 obtain⟨a,rfl,hx⟩:=hx;have hx:=jG hS hx;have hT:=hx.typeIs;obtain⟨o,items,n,ho,_,hd,hi⟩:=hx;unfold Lu;refine Ad (Ju hT ?_);dsimp only;refine Ad (Al ?_);simp only[Jh,Bn,Dt];refine Ad (Et ho hd ?_);refine Ad ?_;show Ap _ _ (forIn items _ _) _ _ s;rw[← Ve];refine Jw _ (fun rest r s'=>r.1=none∧s'=s∧∀ v∈rest,∃ i t,v=.int i t) _ ?_ ?_ _ _ ⟨rfl,rfl,tO hi⟩
 ·rintro v rest r s' ⟨hr,rfl,hall⟩
  obtain⟨i,t,rfl⟩:=hall v Cs;show Ap _ _ (Lu 7 (.int i t) >>= _) _ _ _;rw[show Lu 7 (.int i t)=pure false from rfl]
  refine Ad (Al ?_);simp only[Bn,Dt];exact Al ⟨rfl,rfl,fun u hu'=>hall u (Bl _ hu')⟩
 ·rintro⟨r1,r2⟩ s' ⟨hr,rfl,_⟩
  simp only at hr;subst hr;exact Al h
theorem YF {k:Ab Aj}{v:Ac}{Q:As→Ag→Prop}(hS:Sup h0 s.heap)(hx:isT prog w h0 k v)(h:Q true s):Ap (Aw prog w) A (eqIsQuiet 8 v) Q E s:=by
 obtain⟨a,rfl,hx⟩:=hx;exact wpAny_eqIsQuiet_tuple (jG hS hx) h
theorem QZ {α : Type}{c:Prop}[Sj c]{M:Ma}{t u:Mp α}{Q:α→Ag→Prop}(h1:c→Ap M A t Q E s)(h2:¬ c→Ap M A u Q E s):Ap M A (if c then t else u) Q E s:=by
 by_cases h:c
 ·rw[AT h];exact h1 h
 ·rw[Bc h];exact h2 h
theorem A5 {k:Ab Aj}{x:Ac}{ys:Ab Ac}{Q:As→Ag→Prop}(hS:Sup h0 s.heap)(hx:isT prog w h0 k x)(hy:∀ y∈ys,∃ k',isT prog w h0 k' y)(h:Q false s):Ap (Aw prog w) A (Wj x ys) Q E s:=by
 unfold Wj;refine Ad ?_;refine Jw _ (fun rest r s'=>r.1=none∧s'=s∧∀ v∈rest,∃ k',isT prog w h0 k' v) _ ?_ ?_ _ _ ⟨rfl,rfl,hy⟩
 ·rintro v rest r s' ⟨hr,rfl,hall⟩
  obtain⟨k',hv⟩:=hall v Cs;have hrest:∀ u∈rest,∃ k',isT prog w h0 k' u:=fun u hu'=>hall u (Bl _ hu');dsimp only;refine QZ (fun _=>Al ⟨rfl,rfl,hrest⟩) fun _=>?_
  ·refine Ad (YF hS hx ?_)
   simp only[Jh,Bn,Dt];refine Ad (YF hS hv ?_);simp only[Jh,Bn,Dt];refine Ad (X4 hS hx ?_);simp only[Bn,Dt];refine Ad (X4 hS hv ?_);simp only[Bn,Dt];exact Al ⟨rfl,rfl,hrest⟩
 ·rintro⟨r1,r2⟩ s' ⟨hr,rfl,_⟩
  simp only at hr;subst hr;exact Al h
theorem A3 {k:Ab Aj}{v:Ac}{Q:As→Ag→Prop}(hx:isT prog w h0 k v)(h:Q true s):Ap (Aw prog w) A (isSame v v) Q E s:=by
 obtain⟨a,rfl,hx⟩:=hx;unfold isSame;simp only[Ex,De];exact Al h
theorem KU {k:Ab Aj}{x:Ac}{S:Af}{o:Co}{es:Bk (Aj × Ac)}{ep:Ah}{t:Fh}{seen:Ab (Ab Aj)}(hu:A.units<Ds)(hS:Sup h0 s.heap)(ho:s.heap.get? S=Aa o)(hd:o.data=.set es ep t)
  (T:TabT t es) (Z:Set0 (isT prog w h0) (Bj (Bf prog w)) es seen) (hx:isT prog w h0 k x) (N:Ah) (hNw:Way t (st t.mask (Bj (Bf prog w) k)) N)
  (hNe:(it t.mask N (st t.mask (Bj (Bf prog w) k))).j ∉ t.place.toList) (hNf:N<10*turns t.mask) {Q:SetFound→Ag→Prop}
  (h1:k∈seen→Q (.there none) s) (h2:k ∉ seen→Q (.free (it t.mask N (st t.mask (Bj (Bf prog w) k))).j false) s) :
  ∀ (fuel n:Ah) (stand:Am Ls),stand.getD (t.probeStart (Bj (Bf prog w) k))=it t.mask n (st t.mask (Bj (Bf prog w) k))→n≤N→N-n<fuel →
   (∀ (m i:Ah) (e:Aj × Ac),m<n→t.place[i]? = Aa (it t.mask m (st t.mask (Bj (Bf prog w) k))).j→es[i]? = Aa e→¬ isT prog w h0 k e.2) →
   Ap (Aw prog w) A (Po S x (Bj (Bf prog w) k) true fuel stand) Q E s
 |0,n,stand,_,_,hf,_=>by omega
 |fuel+1,n,stand,hst,hn,hf,hq=>by
  unfold Po;refine Ad (Fn ho hd T.fits ?_);dsimp only;rw[T.odd];simp only[Bn,Dt];rw[hst];generalize hg:t.probe _ (Bj (Bf prog w) k) (it t.mask n (st t.mask (Bj (Bf prog w) k)))=r;obtain⟨H,hH,hg⟩:∃ H:Ah→Aj,(∀ i,H i=(es[i]?.map (·.1)).getD 0)∧t.probe H (Bj (Bf prog w) k) (it t.mask n (st t.mask (Bj (Bf prog w) k)))=r:=⟨_,fun i=>rfl,hg⟩
  have itn:∀ m,it t.mask m (it t.mask n (st t.mask (Bj (Bf prog w) k)))=it t.mask (n+m) (st t.mask (Bj (Bf prog w) k)):=fun m=>(tN _ _ _ _).symm;have gm:Meets t H (Bj (Bf prog w) k) (it t.mask n (st t.mask (Bj (Bf prog w) k))) (10*turns t.mask) r:=by
   rw[← hg];refine gZ T.tb H _ _ _ (by rw[mE];rfl) ⟨N-n,by omega,?_⟩
   rw[itn,show n+(N-n)=N by omega]
   exact hNe
  have miss:∀ j:Ah,(∀ m i:Ah,m<j→t.place[i]? = Aa (it t.mask m (it t.mask n (st t.mask (Bj (Bf prog w) k)))).j→H i≠Bj (Bf prog w) k) →
    ∀ (m i:Ah) (e:Aj × Ac),m<n+j→t.place[i]? = Aa (it t.mask m (st t.mask (Bj (Bf prog w) k))).j→es[i]? = Aa e→¬ isT prog w h0 k e.2:=fun j qj m i e hm ei ee hk=>by
   by_cases hmn:m<n
   ·exact hq m i e hmn ei ee hk
   ·refine qj (m-n) i (by omega) (by rw[itn,show n+(m-n)=m by omega];exact ei) ?_
    rw[hH,ee];obtain⟨k',e1,e2⟩:=Z.good e (Ca (by rw[Bz];exact ee))
    rw[isT.inj hk e2];simpa using e1
  cases gm with
  |emp j hj w' e' q =>
   rw[itn] at e';have hjN:n+j=N:=by
    rcases Wk (n+j) N with h|h|h
    ·exact absurd (hNw _ h) e'
    ·exact h
    ·have:=w' (N-n) (by omega)
     rw[itn,show n+(N-n)=N by omega] at this
     exact absurd this hNe
   dsimp only;rw[itn,hjN];refine Al (h2 fun hk=>?_);obtain⟨e,he,hke⟩:=(Z.mem k).mp hk;obtain⟨i,hi,ei⟩:=Ct.mp he;have ei':es[i]? = Aa e:=by rw[← Bz,An hi,ei]
   obtain⟨m,w1,w2⟩:=T.way i e ei';obtain⟨k',g1,g2⟩:=Z.good e he;have:=isT.inj hke g2;subst this;rw[g1] at w1 w2;have hmN:m<N:=by
    apply Fg;intro hc;by_cases hmN:m=N
    ·subst hmN
     exact hNe (Ca (by rw[Bz];exact w1))
    ·exact hNe (w2 N (by omega))
   exact miss j q m i e (by omega) w1 ei' hke
  |cand j i hj w' e' hh q =>
   rw[itn] at e';have hi:i<es.size:=by
    rw[← T.size];exact(Dk.mp e').1
   have ei:es[i]? = Aa es[i]:=Dp hi;have hjN:n+j<N:=by
    rcases Wk (n+j) N with h|h|h
    ·exact h
    ·rw[h] at e'
     exact absurd (Ca (by rw[Bz];exact e')) hNe
    ·have:=w' (N-n) (by omega)
     rw[itn,show n+(N-n)=N by omega] at this
     exact absurd this hNe
   obtain⟨k',g1,g2⟩:=Z.good es[i] (by simp)
   dsimp only;have main:Ap (Aw prog w) A (do
     let Aa (_,y):=es[i]?|unsupported "internal:set-entry"
     let equal ← holding [y] (eqBool y x)
     let (es',_,t') ← Ut S
     if true&&equal then return .there none
     let Aa same:=t'.sameMemory t.moves t.mask|unsupported "set.changed-during-lookup:is-the-new-block-at-the-old-address"
     let still ← match (if same then t'.slot (it t.mask j (it t.mask n (st t.mask (Bj (Bf prog w) k)))).j else .empty) with
      |.live i'=>match es'[i']? with
       |some (_,y')=>do pure (if ← isSame y' y then Aa i' else none)
       |none=>pure none
      |_=>pure none
     match still with
     |none=>rule "set.search.anew";Po S x (Bj (Bf prog w) k) true fuel none
     |some i'=>if equal then return .there (Aa i') else Po S x (Bj (Bf prog w) k) true fuel (Aa (it t.mask (j+1) (it t.mask n (st t.mask (Bj (Bf prog w) k)))))) Q E s:=by
    rw[ei];dsimp only;refine Ad (Dj (eqT hu hS g2 hx ?_));refine Ad (Fn ho hd T.fits ?_);by_cases hkk:k'=k
    ·subst hkk
     simp only[decide_true,Bool.and_self,De];exact Al (h1 ((Z.mem k').mpr ⟨es[i],by simp,g2⟩))
    ·simp only[hkk,decide_false,Ny,Bn,Dt]
     have hm:t.sameMemory t.moves t.mask=Aa true:=by simp[SetTable.sameMemory]
     rw[hm];dsimp only;rw[itn,sQ T.tb e'];simp only[De,ei];refine Ad (A3 g2 ?_);simp only[De];refine Ad (Al ?_);dsimp only;refine KU hu hS ho hd T Z hx N hNw hNe hNf h1 h2 fuel (n+j+1) _ ?_ (by omega) (by omega) fun m i' e hm ei' ee hk=>?_
     ·rw[Qk,itn]
      rfl
     ·by_cases hmj:m<n+j
      ·exact miss j q m i' e hmj ei' ee hk
      ·have:m=n+j:=by omega
       subst this;have:=YK T.tb.rs ei' e';subst this;rw[ei] at ee;cases ee;exact hkk (isT.inj g2 hk)
   refine QZ (fun _=>?_) fun _=>?_
   ·refine Ad (A5 hS hx (fun y hy=>?_) ?_)
    ·obtain⟨e,he,rfl⟩:=Bt.mp hy
     have:e∈es.toList:=by
      have:=(Mq.mp he);exact Mq.mpr (Array.mem_filter.mp this).1
     obtain⟨k2,_,g⟩:=Z.good e this;exact⟨k2,g⟩
    ·simp only[Bn,Dt]
     exact main
   ·exact main
end
end _S
namespace _S
open PySem
open PySem.SetTable (Probe leap runEnd turns bits)
@[reducible] def setO (es:Bk (Aj × Ac))(ep:Ah)(t:Fh):Co:={ cls:=.type "set",dict:=none,data:=.set es ep t }
theorem fH {h:Bi}{S:Af}{es es':Bk (Aj × Ac)}{ep:Ah}{t t':Fh}(ho:h.get? S=Aa (setO es ep t)):(h.update S (Yk es' t')).get? S=Aa (setO es' (ep+1) t'):=Eb _ ho rfl
structure SetK {K:Type}(is:K→Ac→Prop)(hash:K→Aj)(S:Af)(led:As)(V:Ab Ac)(seen:Ab K)(h:Bi):Prop where
 ex:∃ es ep t,h.get? S=Aa (setO es ep t)∧Set0 is hash es seen∧TabT t es∧t.led=led∧∀ e∈es.toList,e.2∈V
section
variable {prog:Bh}{w:Bv}{h0:Bi}{A:Bo}{E:Ac→Ag→Prop}{s:Ag}{S:Af}{led:As}{V:Ab Ac}
theorem K1 (a:Af)(wanted:Ah):setRelay a wanted=(do
  let (es,_,t) ← Ut a
  if Er wanted>sizeLine then unsupported "set:memory"
  let (es,t) ← (do
   let Aa (t,qS):=t.relaid (es.map (·.1)) wanted|unsupported "internal:set-table-without-room"
   let es':=qS.filterMap (es[·]?)
   if es'.size != es.size then unsupported "internal:set-table-lost-an-element"
   pure (es',t))
  storeSet a es t):=rfl
theorem AZ {seen:Ab (Ab Aj)}{k:Ab Aj}{x:Ac}{Q:As→Ag→Prop}(hu:A.units<Ds)(hS:Sup h0 s.heap)(Z:SetK (isT prog w h0) (Bj (Bf prog w)) S led V seen s.heap)(hx:isT prog w h0 k x)(hV:x∈V){U:Ab (Ab Aj)}(hU:U.length≤1000)(hU1:∀ k'∈seen,k'∈U)(hU2:k∈U)
  (h:∀ (b:As) (h':Bi) (tk:Ah),s.toks≤tk→Gs S s.heap h'→SetK (isT prog w h0) (Bj (Bf prog w)) S led V (k::seen) h'→Q b { s with heap:=h',toks:=tk }) : Ap (Aw prog w) A (Xe S x) Q E s:=by
 obtain⟨es,ep,t,ho,Z,T,hl,hm⟩:=Z;unfold Xe;refine Dj (Ad (HL hu hS hx ?_));unfold setAddHashed setAddHashedIn;refine Dj (Ad (Fn (s:={ s with toks:=s.toks+(k.length+1) }) ho rfl T.fits ?_))
 dsimp only;have hsc:byScan x es=false:=by
  obtain⟨a,rfl,_⟩:=hx;rfl
 rw[hsc];simp only[Bn,Dt];obtain⟨e,he,hne⟩:=T.gap;have first:∃ N,Way t (st t.mask (Bj (Bf prog w) k)) N∧(it t.mask N (st t.mask (Bj (Bf prog w) k))).j ∉ t.place.toList∧N<10*turns t.mask:=by
  obtain⟨N,hN,eN⟩:=eV T.msk (Bj (Bf prog w) k) he;have gm:=gZ T.tb (fun _=>Bj (Bf prog w) k+1) (Bj (Bf prog w) k) (10*turns t.mask) (st t.mask (Bj (Bf prog w) k)) rfl ⟨N,hN,by rw[eN];exact hne⟩
  generalize Jq t _ _ _ _=r at gm;cases gm with
  |emp j hj w' e' q=>exact⟨j,w',e',hj⟩
  |cand j i hj w' e' hh q=>exact absurd hh (by omega)
 obtain⟨N,hNw,hNe,hNf⟩:=first
 have hNt:N<100000:=by
  have:turns t.mask≤2200:=by
   unfold turns;rcases T.msk with h|h|h|h|h <;> rw[h] <;> omega
  omega
 refine Ad (KU (s:={ s with toks:=s.toks+(k.length+1) }) hu hS ho rfl T Z hx N hNw hNe hNf (fun hk=>?_) (fun hk=>?_) 100000 0 none rfl (by omega) (by omega) fun m i e hm=>by omega)
 ·exact Al (h _ s.heap _ (by omega) (Pl _ _) ⟨es,ep,t,ho,Z.again hk,T,hl,hm⟩)
 ·have hle:es.size<1000:=Bm (Z.few hU1 hU2 hk) hU
  dsimp only;refine Ad (Fn (s:={ s with toks:=s.toks+(k.length+1) }) ho rfl T.fits ?_)
  obtain⟨p1,p2,p3,p4⟩:=T.put (h:=Bj (Bf prog w) k) (x:=x) hNw hNe (GU _ _ _);generalize hj:(it t.mask N (st t.mask (Bj (Bf prog w) k))).j=j at *;have m1:(t.put j).1.mask=t.mask:=rfl;have m2:(t.put j).1.plain=true:=T.plain;have m3:(t.put j).1.led=led:=hl;generalize hp:t.put j=tp at *;obtain⟨t1,p⟩:=tp;dsimp only at p1 p2 p3 p4 m1 m2 m3 ⊢;rw[m2];simp only[De];refine Ad (IC (s:={ s with toks:=s.toks+(k.length+1) }) hS hx ?_)
  simp only[De,Yq,Mo];have hsz:(Bp es p (Bj (Bf prog w) k,x)).size=es.size+1:=jA _ _ _;have hline:es.size+1≤sizeLine:=by rw[Fk];omega
  refine Ad (Lv (s:={ s with toks:=s.toks+(k.length+1) }) ho rfl ?_ (by rw[hsz];exact hline))
  have Z1:Set0 (isT prog w h0) (Bj (Bf prog w)) (Bp es p (Bj (Bf prog w) k,x)) (k::seen):=by
   refine Z.push (fun a b=>isT.inj a b) hx hk ?_;have:=Hi es p (Bj (Bf prog w) k,x);rw[Hc] at this;exact this
  have hm1:∀ e∈(Bp es p (Bj (Bf prog w) k,x)).toList,e.2∈V:=fun e he=>by
   have:=(Hi es p (Bj (Bf prog w) k,x)).mem_iff.mp he;rw[Hc] at this;rcases Cu.mp this with h1|h1
   ·exact hm e h1
   ·simp at h1;subst h1;exact hV
  have ho1:=fH (es':=Bp es p (Bj (Bf prog w) k,x)) (t':=t1) ho;have sb1:=Gp s.heap S (Yk (Bp es p (Bj (Bf prog w) k,x)) t1);have hfit:t1.fits (Bp es p (Bj (Bf prog w) k,x)).size=true:=by
   have h3:t1.fill=es.size+1:=by unfold Ki;rw[p1.dm,p2,hsz];rfl
   have h2:=T.few;unfold Ug;rw[h3,p2,hsz,m1];rcases T.msk with h|h|h|h|h <;> rw[h] at h2 ⊢ <;> simp <;> omega
  refine QZ (fun hf=>?_) fun hf=>?_
  ·have hM1:Msk t1.mask:=by rw[m1];exact T.msk
   have h3:((Bp es p (Bj (Bf prog w) k,x)).size-1)*5<t1.mask*3:=by rw[hsz,m1];exact T.few
   obtain⟨q1,t2,qS,q2,q3,q4,q5,_⟩:=fY hM1 m2 p2 (by rw[hsz];omega) (by simpa using hf) p1.dm h3 (by rw[hsz];omega)
   rw[hsz] at q1 q2;rw[K1];refine Ad ?_;refine Ad (Fn (s:={ s with heap:=_,toks:=s.toks+(k.length+1) }) ho1 rfl hfit ?_)
   dsimp only;rw[Bc (by rw[Fk];omega)]
   refine Ad ?_;rw[q2];dsimp only;have hs2:(qS.filterMap fun x_1=>(Bp es p (Bj (Bf prog w) k,x))[x_1]?).size=es.size+1:=by rw[← Dc,q4.length_eq,Dc,hsz]
   rw[Bc (by rw[hs2,hsz];simp)]
   refine Al ?_;refine Lv (s:={ s with heap:=_,toks:=s.toks+(k.length+1) }) ho1 rfl ?_ (by rw[hs2];exact hline)
   refine Al (h _ _ _ (Il _ _) (sb1.trans (Gp _ S _)) ⟨_,_,t2,fH ho1,Z1.perm q4,q5,by rw[q3];exact m3,fun e he=>hm1 e (q4.mem_iff.mp he)⟩)
  ·refine Al (h _ _ _ (Il _ _) sb1 ⟨_,_,t1,ho1,Z1,⟨p1,by rw[m1];exact T.msk,p2,by rw[m1];exact p3,?_,by rw[m1];exact p4,m2⟩,m3,hm1⟩)
   have h3:t1.fill=es.size+1:=by unfold Ki;rw[p1.dm,p2,hsz];rfl
   unfold Qm at hf;rw[h3] at hf;rw[hsz];simpa using hf
end
end _S
namespace _S
open PySem
open PySem.SetTable (Probe leap runEnd turns bits)
def isI (prog:Bh)(w:Bv)(k:Aj)(v:Ac):Prop:=(Bf prog w).is k v=true
section
variable {prog:Bh}{w:Bv}{A:Bo}{E:Ac→Ag→Prop}{s:Ag}{S:Af}{led:As}{V:Ab Ac}
set_option tactic.hygienic true in
theorem vG {k:Aj}{v:Ac}(h:isI prog w k v):∃ t,v=.int k t:=by
 cases v <;> first|(exact absurd h (by rintro⟨⟩)) | skip
 rename_i i t;refine⟨t,?_⟩;have:i=k:=(Bf prog w).inj (.int i t) i k (Yl _ _ _ _) h;rw[this]
theorem eK {es:Bk (Aj × Ac)}{seen:Ab Aj}(Z:Set0 (isI prog w) (Bf prog w).hash es seen):ElemsOf (Bf prog w) es.toList:=fun e he=>by
 obtain⟨k,h1,h2⟩:=Z.good e he;refine⟨⟨k,h2,h1⟩,?_⟩;obtain⟨t,q⟩:=vG h2;rw[q];rfl
theorem AY {seen:Ab Aj}{k:Aj}{x:Ac}{Q:As→Ag→Prop}(Z:SetK (isI prog w) (Bf prog w).hash S led V seen s.heap)(hx:isI prog w k x)(hV:x∈V){U:Ab Aj}(hU:U.length≤1000)(hU1:∀ k'∈seen,k'∈U)(hU2:k∈U)
  (h:∀ (b:As) (h':Bi) (tk:Ah),s.toks≤tk→Gs S s.heap h'→SetK (isI prog w) (Bf prog w).hash S led V (k::seen) h'→Q b { s with heap:=h',toks:=tk }) : Ap (Aw prog w) A (Xe S x) Q E s:=by
 obtain⟨es,ep,t,ho,Z,T,hl,hm⟩:=Z;have hsc:x.scannable=true:=by
  obtain⟨tk,q⟩:=vG hx;rw[q];rfl
 have hf:=T.fits;have hb:es.size<scanBound:=by
  have h1:=T.few;have:scanBound=4096:=rfl;rcases T.msk with h|h|h|h|h <;> rw[h] at h1 <;> omega
 unfold Xe;refine Dj (Ad ((Bf prog w).pyHash (k:=k) hx ?_));unfold setAddHashed setAddHashedIn;refine Dj (Ad (Fn (s:={ s with toks:=s.toks+1 }) ho rfl hf ?_))
 dsimp only;rw[byScan_of hsc hb (eK Z)];simp only[De];unfold setAddByScan;refine Ad (Ad (Kf (Ad (wpAny_setScan_of (s:={ s with toks:=s.toks+1 }) hx ho rfl hf (eK Z) ?_))))
 cases hr:es.toList.findIdx? (fun e=>(Bf prog w).is k e.2) with
 |some j =>
  dsimp only;obtain⟨hj,hpj,_⟩:=List.findIdx?_eq_some_iff_getElem.mp hr;have hk:k∈seen:=(Z.mem k).mpr ⟨es.toList[j],Gk hj,hpj⟩;exact Al (Al (h _ s.heap _ (Il _ _) (Pl _ _) ⟨es,ep,t,ho,Z.again hk,T,hl,hm⟩))
 |none =>
  dsimp only;have hk:k ∉ seen:=fun hk=>by
   obtain⟨e,he,q⟩:=(Z.mem k).mp hk;have:=List.findIdx?_eq_none_iff.mp hr e he;rw[show (Bf prog w).is k e.2=true from q] at this
   cases this
  have hle:es.size<1000:=Bm (Z.few hU1 hU2 hk) hU;obtain⟨e,he,hne⟩:=T.gap;have first:∃ N,Way t (st t.mask ((Bf prog w).hash k)) N∧(it t.mask N (st t.mask ((Bf prog w).hash k))).j ∉ t.place.toList∧t.freeSlot ((Bf prog w).hash k)=Aa ((it t.mask N (st t.mask ((Bf prog w).hash k))).j,false):=by
   obtain⟨N,hN,eN⟩:=eV T.msk ((Bf prog w).hash k) he;have gm:=gZ T.tb (fun _=>(Bf prog w).hash k+1) ((Bf prog w).hash k) (10*turns t.mask) (st t.mask ((Bf prog w).hash k)) rfl ⟨N,hN,by rw[eN];exact hne⟩
   unfold SetTable.freeSlot SetTable.probe;rw[A8];generalize Jq t _ _ _ _=r at gm;cases gm with
   |emp j hj w' e' q=>exact⟨j,w',e',rfl⟩
   |cand j i hj w' e' hh q=>exact absurd hh (by omega)
  obtain⟨N,hNw,hNe,hfs⟩:=first
  obtain⟨p1,p2,p3,p4⟩:=T.put (h:=(Bf prog w).hash k) (x:=x) hNw hNe (GU _ _ _);generalize hj:(it t.mask N (st t.mask ((Bf prog w).hash k))).j=j at *;have m1:(t.put j).1.mask=t.mask:=rfl;have m2:(t.put j).1.plain=true:=T.plain;have m3:(t.put j).1.led=led:=hl;generalize hp:t.put j=tp at *;obtain⟨t1,p⟩:=tp;dsimp only at p1 p2 p3 p4 m1 m2 m3 ⊢;have hsz:(Bp es p ((Bf prog w).hash k,x)).size=es.size+1:=jA _ _ _;have hfit:t1.fits (Bp es p ((Bf prog w).hash k,x)).size=true:=by
   have h3:t1.fill=es.size+1:=by unfold Ki;rw[p1.dm,p2,hsz];rfl
   have h2:=T.few;unfold Ug;rw[h3,p2,hsz,m1];rcases T.msk with h|h|h|h|h <;> rw[h] at h2 ⊢ <;> simp <;> omega
  have lay:layNew t es ((Bf prog w).hash k) x=(Bp es p ((Bf prog w).hash k,x),t1,false,false):=by
   unfold layNew;rw[hfs];dsimp only;rw[hp];dsimp only;unfold SetTable.orStandIn;rw[hfit];rfl
  rw[lay];dsimp only;refine Ad (Al (a:=()) ?_);have hbv:Ou 8 x=pure true:=by
   rw[hashByValue_scannable 8 hsc];obtain⟨tk,q⟩:=vG hx;subst q;rfl
  rw[hbv,ite_self];refine Ad (Al ?_);simp only[De];have hline:es.size+1≤sizeLine:=by rw[Fk];omega
  refine Ad (Lv (s:={ s with toks:=s.toks+1 }) ho rfl ?_ (by rw[hsz];exact hline))
  have pm:(Bp es p ((Bf prog w).hash k,x)).toList.Perm (es.toList++[((Bf prog w).hash k,x)]):=by
   have:=Hi es p ((Bf prog w).hash k,x);rw[Hc] at this;exact this
  have Z1:Set0 (isI prog w) (Bf prog w).hash (Bp es p ((Bf prog w).hash k,x)) (k::seen):=Z.push (fun a b=>(Bf prog w).inj _ _ _ a b) hx hk pm;have hm1:∀ e∈(Bp es p ((Bf prog w).hash k,x)).toList,e.2∈V:=fun e he=>by
   rcases Cu.mp (pm.mem_iff.mp he) with h1|h1
   ·exact hm e h1
   ·simp at h1;subst h1;exact hV
  have ho1:=fH (es':=Bp es p ((Bf prog w).hash k,x)) (t':=t1) ho;have sb1:=Gp s.heap S (Yk (Bp es p ((Bf prog w).hash k,x)) t1);refine QZ (fun hf=>?_) fun hf=>?_
  ·have hM1:Msk t1.mask:=by rw[m1];exact T.msk
   have h3:((Bp es p ((Bf prog w).hash k,x)).size-1)*5<t1.mask*3:=by rw[hsz,m1];exact T.few
   obtain⟨q1,t2,qS,q2,q3,q4,q5,q6⟩:=fY hM1 m2 p2 (by rw[hsz];omega) (by simpa using hf) p1.dm h3 (by rw[hsz];omega)
   have hs2:(qS.filterMap fun x_1=>(Bp es p ((Bf prog w).hash k,x))[x_1]?).size=es.size+1:=by rw[← Dc,q4.length_eq,Dc,hsz]
   have rl:relayAll t1 (Bp es p ((Bf prog w).hash k,x)) (Go (Bp es p ((Bf prog w).hash k,x)).size)=(qS.filterMap fun x_1=>(Bp es p ((Bf prog w).hash k,x))[x_1]?,t2,false):=by
    unfold relayAll;rw[q2];dsimp only;have c1:coversAll qS (Bp es p ((Bf prog w).hash k,x)).size=true:=by
     unfold coversAll;exact List.isPerm_iff.mpr q6
    rw[c1,q5.fits];rfl
   rw[rl];dsimp only;refine Ad (Al (a:=()) ?_);refine Ad (Lv (s:={ s with heap:=_,toks:=s.toks+1 }) ho1 rfl ?_ (by rw[hs2];exact hline))
   exact Al (Al (h _ _ _ (Il _ _) (sb1.trans (Gp _ S _)) ⟨_,_,t2,fH ho1,Z1.perm q4,q5,by rw[q3];exact m3,fun e he=>hm1 e (q4.mem_iff.mp he)⟩))
  ·refine Al (Al (h _ _ _ (Il _ _) sb1 ⟨_,_,t1,ho1,Z1,⟨p1,by rw[m1];exact T.msk,p2,by rw[m1];exact p3,?_,by rw[m1];exact p4,m2⟩,m3,hm1⟩))
   have h3:t1.fill=es.size+1:=by unfold Ki;rw[p1.dm,p2,hsz];rfl
   unfold Qm at hf;rw[h3] at hf;rw[hsz];simpa using hf
end
end _S
namespace _S
open PySem
structure AddS (prog:Bh)(w:Bv){K:Type}(is:K→Ac→Prop)(hash:K→Aj)(h0:Bi):Prop where
 add:∀ {A:Bo} {E:Ac→Ag→Prop} {s:Ag} {S:Af} {led:As} {V:Ab Ac} {seen U:Ab K} {k:K} {x:Ac} {Q:As→Ag→Prop},A.units<Ds→Sup h0 s.heap→SetK is hash S led V seen s.heap→is k x→x∈V→U.length≤1000→(∀ k'∈seen,k'∈U)→k∈U →
  (∀ (b:As) (h':Bi) (tk:Ah),s.toks≤tk→Gs S s.heap h'→SetK is hash S led V (k::seen) h'→Q b { s with heap:=h',toks:=tk }) → Ap (Aw prog w) A (Xe S x) Q E s
theorem TX {prog:Bh}{w:Bv}(h0:Bi):AddS prog w (isT prog w h0) (Bj (Bf prog w)) h0:=⟨fun hu hS Z hx hV h1 h2 h3 h=>AZ hu hS Z hx hV h1 h2 h3 h⟩
theorem TV {prog:Bh}{w:Bv}(h0:Bi):AddS prog w (isI prog w) (Bf prog w).hash h0:=⟨fun _ _ Z hx hV h1 h2 h3 h=>AY Z hx hV h1 h2 h3 h⟩
def vD {K:Type}(key:Ah→K):Ah→Ab K
 |0=>[]
 |i+1=>key i::vD key i
theorem gA {K:Type}{key:Ah→K}{k:K}:∀ {n:Ah},k∈vD key n↔∃ i,i<n∧key i=k
 |0=>by simp[vD]
 |n+1=>by
  rw[vD,Av,gA];constructor
  ·rintro (rfl|⟨i,h,e⟩)
   ·exact⟨n,by omega,rfl⟩
   ·exact⟨i,by omega,e⟩
  ·rintro⟨i,h,e⟩
   by_cases hi:i=n
   ·subst hi;exact .inl e.symm
   ·exact .inr ⟨i,by omega,e⟩
section
variable {prog:Bh}{w:Bv}{A:Bo}{R:Uq→Ag→Prop}{I:Af}{fp wr:Ab Af}{G:Bk Xo→Bk Xo→Prop}{n:Ah}{P:Ah→Ac→Prop}{St:Ah→Ag→Prop}
variable {K:Type}{is:K→Ac→Prop}{hash:K→Aj}{h0:Bi}{led:As}{V:Ab Ac}{U:Ab K}
theorem SetK.sup {S:Af}{seen:Ab K}{h h':Bi}(Z:SetK is hash S led V seen h)(e:∀ o,h.get? S=Aa o→h'.get? S=Aa o):SetK is hash S led V seen h':=by
 obtain⟨es,ep,t,ho,r⟩:=Z;exact⟨es,ep,t,e _ ho,r⟩
theorem oN (a:AddS prog w is hash h0)(W:WalksS prog w A.in1 I fp wr G n P St)(S:Af)(hSf:S ∉ fp)(hu:A.in1.units<Ds)(key:Ah→K)(hkey:∀ i v,P i v→is (key i) v∧v∈V)(hU:U.length≤1000)(hUk:∀ i,i<n→key i∈U)
  (hS0:h0.get? S=none) (hw0:∀ b∈wr,h0.get? b=none):∀ (k i:Ah) (s:Ag),n-i=k→i≤n→St i s→Sup h0 s.heap→SetK is hash S led V (vD key i) s.heap →
   (∀ s',Moved (S::wr) G s s'→SetK is hash S led V (vD key n) s'.heap→R (.ok (.ret .none)) s')→Ja (Aw prog w) A (.builtin "set.update.loop" ⟨[.ref S,.ref I],[]⟩) R s:=by
 have hSw:S ∉ wr:=fun h=>hSf (W.sub _ h);have hsub:∀ b∈wr,b∈S::wr:=fun b hb=>Bl _ hb;intro k
 induction k with
 |zero =>
  intro i s hk hi hst hS Z hR;have hin:i=n:=by omega
  subst hin;refine Fd Ku ?_;rw[Fa Hk _];show Ap _ A.in1 (Nb (.ref I) >>= _) _ _ s;refine Ad (W.done s _ _ hst fun s' hm=>?_);exact Al (hR s' (hm.mono hsub) (Z.sup fun o e=>hm.heap S _ hSw e))
 |succ k ih =>
  intro i s hk hi hst hS Z hR;have hlt:i<n:=by omega
  refine Fd Ku ?_;rw[Fa Hk _];show Ap _ A.in1 (Nb (.ref I) >>= _) _ _ s;refine Ad (W.item i s _ _ hlt hst fun v s' hP hst' hm=>?_);obtain⟨q1,q2⟩:=hkey i v hP;have hS':Sup h0 s'.heap:=fun b o e=>hm.heap b o (fun hb=>by rw[hw0 b hb] at e;cases e) (hS b o e)
  show Ap _ A.in1 (holding [v] (Xe S v) >>= _) _ _ s';refine Ad (Dj (a.add hu hS' (Z.sup fun o e=>hm.heap S _ hSw e) q1 q2 hU (fun k' hk'=>?_) (hUk i hlt) fun b h' tk htk hsb Z'=>?_))
  ·obtain⟨j,hj,e⟩:=gA.mp hk'
   exact e▸hUk j (by omega)
  ·refine Al ⟨Gy Hk _,ih (i+1) _ (by omega) hlt (W.frame _ s' _ _ hst' htk fun b hb o e=>?_) (fun b o e=>?_) Z' fun s'' hm'' Z''=>?_⟩
   ·rw[hsb.2 b (fun h:b=S=>hSf (by rw[← h];exact hb))];exact e
   ·rw[hsb.2 b (fun h:b=S=>by rw[h,hS0] at e;cases e)];exact hS' b o e
   ·refine hR s'' (Moved.trans W.gtrans ((hm.mono hsub).then_heap htk fun b o hb e=>?_) hm'') Z''
    rw[hsb.2 b (fun h:b=S=>hb (by rw[h];exact Cs))];exact e
end
section
variable {prog:Bh}{w:Bv}{A:Bo}{E:Ac→Ag→Prop}{s:Ag}
def yQ (w:Bv):As:=!w.params.followText "set-order"
@[reducible] def set0 (w:Bv):Co:=setO #[] 0 (.fresh 0 0 (yQ w))
theorem fX (a:Ac){Q₁:Ac→Ag→Prop}(h:Q₁ (.ref s.heap.objs.size) { s with heap:=s.heap.push (set0 w) }) : Ja (Aw prog w) A (.call (.builtin "set.__new__") ⟨[.type "set",a],[]⟩) (wants Q₁ E) s:=by
 refine Sd ?_;show Ap _ A.in1 (do Qj "set.__new__" ⟨[.type "set",a],[]⟩;again (.builtin "set.__new__" ⟨[.type "set",a],[]⟩)) _ _ s
 refine Ad (Kn (PySem.F.newCall_set_1 a) (Al ⟨Gy Ss _,Fd PySem.F.entry_set_new ?_⟩));rw[Fa Ss _];unfold He.«set.__new__» Yw;have hsub:=PySem.sub_set_self;obtain⟨hp,g,d,tk,os⟩:=s;dsimp only
 wp_walk
 refine Jy (Al ?_);dsimp only;simp only[newObj];exact Ad (wpAny_alloc (Al (Al h)))
theorem sU (w:Bv):TabT (.fresh 0 0 (yQ w)) #[]:=⟨⟨by unfold Rs;exact Lq,rfl⟩,.inl rfl,rfl,fun x hx=>(by cases hx),(show 0*5<7*3 by decide),fun i e h=>(by simp at h),rfl⟩
variable {K:Type}{is:K→Ac→Prop}{hash:K→Aj}{U:Ab K}
theorem VF (a:AddS prog w is hash s.heap){l:Af}{items:Bk Ac}{Q:Ac→Ag→Prop}(hh:A.handled=none)(hu:A.units+8<Ds)(hl:s.heap.IsList l items)(key:Ah→K)(hkey:∀ i v,items[i]? = Aa v→is (key i) v)(hU:U.length≤1000)(hUk:∀ i,i<items.size→key i∈U)
  (h:∀ (h':Bi) (tk:Ah),SetK is hash s.heap.objs.size (yQ w) items.toList (vD key items.size) h'→(∀ b o,s.heap.get? b=Aa o→h'.get? b=Aa o)→Q (.ref s.heap.objs.size) { s with heap:=h',toks:=tk }) :
  Ap (Aw prog w) A (call (.type "set") [.ref l]) Q E s:=by
 obtain⟨c,tl,hmro⟩:=Dg.mro;have hmade:=Dg.made;have hsub:=Dg.sub;refine Nl (Sd ?_);show Ap _ _ (callAny (.type "set") _) _ _ _;refine Al ⟨Oh _ (by decide +kernel),Fd Qy ?_⟩
 rw[Vf (Su "set" [.ref l] []) rfl];have h1:=Dg.notType;have h2:=Dg.canCreate;have hct:=Se (.ref l)
 repeat (any_goals (first|assumption|wp_step))
 refine Ip (fX (.ref l) (E:=E) (Q₁:=fun obj s₁=>obj=.ref s.heap.objs.size∧s₁={ s with heap:=s.heap.push (set0 w) }) ⟨rfl,rfl⟩) fun r s₁ hr=>?_
 cases r with
 |error e=>exact hr
 |ok fl =>
  cases fl with
  |ret obj =>
   obtain⟨rfl,rfl⟩:=hr;have hS:(s.heap.push (set0 w)).get? s.heap.objs.size=Aa (set0 w):=Az _ rfl;have hT:Pp { s with heap:=s.heap.push (set0 w) } (.ref s.heap.objs.size) "set":=⟨_,hS,rfl⟩
   have hli:=Dg.init.lookup;have hbi:=Dg.init.bind (.ref s.heap.objs.size)
   repeat (any_goals (first|assumption|wp_step))
   refine Ip (Jv (R:=wants (fun r s₂=>r=.none∧∃ h' tk,s₂={ s with heap:=h',toks:=tk } ∧ SetK is hash s.heap.objs.size (yQ w) items.toList (vD key items.size) h'∧∀ b o,s.heap.get? b=Aa o→h'.get? b=Aa o) E) Dg.init.plain Sf (Xf hT ?_)) fun r₂ s₂ hr₂=>?_
   ·obtain⟨ol,hol,hcl,nl,hdl⟩:=hl
    obtain⟨ocls,odict,odata,oslots⟩:=ol;simp only at hcl hdl;subst hcl;subst hdl;have hol':(s.heap.push (set0 w)).get? l=Aa { cls:=.type "list",dict:=odict,data:=.seq items nl,slots:=oslots }:=Ai _ hol;have hsls:=PySem.F.sub_list_set;have hslf:=PySem.F.sub_list_frozenset;have hne:(Hd "list" == Hd "dict")=false:=by decide
    have hl1:(s.heap.push (set0 w)).IsList l items:=⟨_,hol',rfl,nl,rfl⟩;unfold He.«set.__init__» noKeywords No;generalize hPI:Oo=PI
    wp_walk
    subst hPI;refine Ga hl1 ?_;refine Ad (Te ?_);have hlS:l<s.heap.objs.size:=Ax hol;have hneI:l≠(s.heap.push (set0 w)).objs.size:=by
     rw[Dl];exact Cc (Jr hlS)
    have nS:s.heap.get? s.heap.objs.size=none:=Ic (Bd _);have nI:s.heap.get? (s.heap.push (set0 w)).objs.size=none:=Ic (by rw[Dl];exact Jo _)
    refine oN (led:=yQ w) (V:=items.toList) a ((Ue (A:=A.in1.in1.in1) (by simp[hh]) _ l hneI items).toS) s.heap.objs.size ?_ (by show A.units+3<Ds;omega) key (fun i v hv=>⟨hkey i v hv,?_⟩) hU hUk nS (fun b hb=>?_) (items.size-0) 0 _ (by omega) (Gn _)
     ⟨⟨_,Az _ rfl,rfl,rfl⟩,hl1.push _⟩ (fun b o e=>Ai _ (Ai _ e)) ?_ fun s' hm hS'=>?_
    ·rw[Dl];simp only[Av,Fb,Cj,Fe,Us]
     exact⟨Cc (Im _),Hx hlS⟩
    ·exact Ca (by rw[Bz];exact hv)
    ·rw[Fb.mp hb];exact nI
    ·exact⟨#[],0,_,Ai _ hS,Set0.nil,sU w,rfl,fun e he=>by simp at he⟩
    ·obtain⟨h',g',d',tk',os'⟩:=s'
     have eg:g'=s.gens:=hm.gens;have ed:d'=s.drawn:=hm.drawn;have eo:os'=s.os:=hm.os;subst eg;subst ed;subst eo;refine Al (Al ⟨rfl,h',tk',rfl,hS',fun b o e=>?_⟩);refine hm.heap b o (fun hb=>?_) (Ai _ (Ai _ e));rcases Av.mp hb with rfl|hb
     ·rw[nS] at e;cases e
     ·rw[Fb.mp hb,nI] at e;cases e
   ·cases r₂ with
    |error e=>exact hr₂
    |ok fl₂ =>
     cases fl₂ with
     |ret r =>
      obtain⟨rfl,h',tk,rfl,hS',hk'⟩:=hr₂
      repeat (any_goals (first|assumption|wp_step))
      exact h _ _ hS' hk'
     |_=>exact hr₂.elim
  |_=>exact hr.elim
theorem X2 (a:AddS prog w is hash s.heap){l:Af}{items:Bk Ac}{Q:Ac→Ag→Prop}(hh:A.handled=none)(hu:A.units+8<Ds)(hl:s.heap.IsTuple l items)(key:Ah→K)(hkey:∀ i v,items[i]? = Aa v→is (key i) v)(hU:U.length≤1000)(hUk:∀ i,i<items.size→key i∈U)
  (h:∀ (h':Bi) (tk:Ah),SetK is hash s.heap.objs.size (yQ w) items.toList (vD key items.size) h'→(∀ b o,s.heap.get? b=Aa o→h'.get? b=Aa o)→Q (.ref s.heap.objs.size) { s with heap:=h',toks:=tk }) :
  Ap (Aw prog w) A (call (.type "set") [.ref l]) Q E s:=by
 obtain⟨c,tl,hmro⟩:=Dg.mro;have hmade:=Dg.made;have hsub:=Dg.sub;refine Nl (Sd ?_);show Ap _ _ (callAny (.type "set") _) _ _ _;refine Al ⟨Oh _ (by decide +kernel),Fd Qy ?_⟩
 rw[Vf (Su "set" [.ref l] []) rfl];have h1:=Dg.notType;have h2:=Dg.canCreate;have hct:=Se (.ref l)
 repeat (any_goals (first|assumption|wp_step))
 refine Ip (fX (.ref l) (E:=E) (Q₁:=fun obj s₁=>obj=.ref s.heap.objs.size∧s₁={ s with heap:=s.heap.push (set0 w) }) ⟨rfl,rfl⟩) fun r s₁ hr=>?_
 cases r with
 |error e=>exact hr
 |ok fl =>
  cases fl with
  |ret obj =>
   obtain⟨rfl,rfl⟩:=hr;have hS:(s.heap.push (set0 w)).get? s.heap.objs.size=Aa (set0 w):=Az _ rfl;have hT:Pp { s with heap:=s.heap.push (set0 w) } (.ref s.heap.objs.size) "set":=⟨_,hS,rfl⟩
   have hli:=Dg.init.lookup;have hbi:=Dg.init.bind (.ref s.heap.objs.size)
   repeat (any_goals (first|assumption|wp_step))
   refine Ip (Jv (R:=wants (fun r s₂=>r=.none∧∃ h' tk,s₂={ s with heap:=h',toks:=tk } ∧ SetK is hash s.heap.objs.size (yQ w) items.toList (vD key items.size) h'∧∀ b o,s.heap.get? b=Aa o→h'.get? b=Aa o) E) Dg.init.plain Sf (Xf hT ?_)) fun r₂ s₂ hr₂=>?_
   ·obtain⟨ol,hol,hcl,nl,hdl⟩:=hl
    obtain⟨ocls,odict,odata,oslots⟩:=ol;simp only at hcl hdl;subst hcl;subst hdl;have hol':(s.heap.push (set0 w)).get? l=Aa { cls:=.type "tuple",dict:=odict,data:=.seq items nl,slots:=oslots }:=Ai _ hol;have hsls:=PySem.F.sub_tuple_set;have hslf:=PySem.F.sub_tuple_frozenset;have hne:(Hd "tuple" == Hd "dict")=false:=by decide
    have hl1:(s.heap.push (set0 w)).IsTuple l items:=⟨_,hol',rfl,nl,rfl⟩;unfold He.«set.__init__» noKeywords No;generalize hPI:Oo=PI
    wp_walk
    subst hPI;refine Ho hl1 ?_;refine Ad (Te ?_);have hlS:l<s.heap.objs.size:=Ax hol;have hneI:l≠(s.heap.push (set0 w)).objs.size:=by
     rw[Dl];exact Cc (Jr hlS)
    have nS:s.heap.get? s.heap.objs.size=none:=Ic (Bd _);have nI:s.heap.get? (s.heap.push (set0 w)).objs.size=none:=Ic (by rw[Dl];exact Jo _)
    refine oN (led:=yQ w) (V:=items.toList) a ((u8 (A:=A.in1.in1.in1) (by simp[hh]) _ l hneI items).toS) s.heap.objs.size ?_ (by show A.units+3<Ds;omega) key (fun i v hv=>⟨hkey i v hv,?_⟩) hU hUk nS (fun b hb=>?_) (items.size-0) 0 _ (by omega) (Gn _)
     ⟨⟨_,Az _ rfl,rfl,rfl⟩,hl1.push _⟩ (fun b o e=>Ai _ (Ai _ e)) ?_ fun s' hm hS'=>?_
    ·rw[Dl];simp only[Av,Fb,Cj,Fe,Us]
     exact⟨Cc (Im _),Hx hlS⟩
    ·exact Ca (by rw[Bz];exact hv)
    ·rw[Fb.mp hb];exact nI
    ·exact⟨#[],0,_,Ai _ hS,Set0.nil,sU w,rfl,fun e he=>by simp at he⟩
    ·obtain⟨h',g',d',tk',os'⟩:=s'
     have eg:g'=s.gens:=hm.gens;have ed:d'=s.drawn:=hm.drawn;have eo:os'=s.os:=hm.os;subst eg;subst ed;subst eo;refine Al (Al ⟨rfl,h',tk',rfl,hS',fun b o e=>?_⟩);refine hm.heap b o (fun hb=>?_) (Ai _ (Ai _ e));rcases Av.mp hb with rfl|hb
     ·rw[nS] at e;cases e
     ·rw[Fb.mp hb,nI] at e;cases e
   ·cases r₂ with
    |error e=>exact hr₂
    |ok fl₂ =>
     cases fl₂ with
     |ret r =>
      obtain⟨rfl,h',tk,rfl,hS',hk'⟩:=hr₂
      repeat (any_goals (first|assumption|wp_step))
      exact h _ _ hS' hk'
     |_=>exact hr₂.elim
  |_=>exact hr.elim
theorem QC (a:AddS prog w is hash s.heap){l:Af}{items:Bk Ac}{Q:Ac→Ag→Prop}(hh:A.handled=none)(hu:A.units+8<Ds)(hl:s.heap.IsList l items∨s.heap.IsTuple l items)(key:Ah→K)(hkey:∀ i v,items[i]? = Aa v→is (key i) v)(hU:U.length≤1000)(hUk:∀ i,i<items.size→key i∈U)
  (h:∀ (h':Bi) (tk:Ah),SetK is hash s.heap.objs.size (yQ w) items.toList (vD key items.size) h'→(∀ b o,s.heap.get? b=Aa o→h'.get? b=Aa o)→Q (.ref s.heap.objs.size) { s with heap:=h',toks:=tk }) :
  Ap (Aw prog w) A (call (.type "set") [.ref l]) Q E s:=by
 rcases hl with hl|hl
 ·exact VF a hh hu hl key hkey hU hUk h
 ·exact X2 a hh hu hl key hkey hU hUk h
end
theorem t9 {α : Type}:∀ {l:Ab α} {i:Ah} (h:i<l.length),(l[i]::l.eraseIdx i).Perm l
 |a::l,0,h=>by simp
 |a::l,i+1,h=>by
  rw[List.eraseIdx_cons_succ,List.getElem_cons_succ];exact(List.Perm.swap _ _ _).trans ((t9 (l:=l) (i:=i) (by simpa using h)).cons a)
theorem sH {α : Type}(next:Ah→Ah):∀ (fuel k:Ah) (left:Ab α) (out:Bk α),left.length=fuel→(Vq next fuel k left out).toList.Perm (out.toList++left)
 |0,k,left,out,h=>by
  have:left=[]:=My h;subst this;unfold Vq;simp
 |fuel+1,k,left,out,h=>by
  unfold Vq;have hlt:next k % left.length<left.length:=Nn _ (by omega)
  rw[An hlt];dsimp only;refine(sH next fuel (k+1) _ _ (by rw[List.length_eraseIdx,AT hlt];omega)).trans ?_
  rw[Hc,Ej];refine List.Perm.append_left _ ?_;exact t9 hlt
theorem lQ {α : Type}(next:Ah→Ah)(xs:Bk α) : (Mz next xs).toList.Perm xs.toList:=by
 have:=sH next xs.size 0 xs.toList #[] (by simp)
 simpa [Mz] using this
theorem u7:Slot "set_iterator" "__next__" "set_iterator.__next__":=
 .of (owner:="set_iterator") (n:="__next__") (by rw[Xx,Sv];kernel_rfl) (by decide +kernel) (by decide +kernel) (by decide +kernel) (.inl (by decide +kernel)) (by rw[Tf];kernel_rfl)
theorem t8:entryFor table "set_iterator.__next__" = Aa He.«set_iterator.__next__»:=entryFor_of_fast (by kernel_rfl)
theorem dB (a:Ac):Xg "set_iterator.__next__" ⟨[a],[]⟩:=by unfold Xg;kernel_rfl
theorem sR:Slot "set_iterator" "__iter__" "set_iterator.__iter__":=
 .of (owner:="set_iterator") (n:="__iter__") (by rw[Xx,Sv];kernel_rfl) (by decide +kernel) (by decide +kernel) (by decide +kernel) (.inl (by decide +kernel)) (by rw[Tf];kernel_rfl)
theorem QP:entryFor table "set_iterator.__iter__" = Aa He.«dict_keyiterator.__iter__»:=entryFor_alias (id':="dict_keyiterator.__iter__") (by kernel_rfl) rfl (by decide +kernel) (by kernel_rfl)
theorem ZX (a:Ac):Xg "set_iterator.__iter__" ⟨[a],[]⟩:=by unfold Xg;kernel_rfl
theorem QN:entryFor table "set.__iter__" = Aa He.«frozenset.__iter__»:=entryFor_alias (id':="frozenset.__iter__") (by kernel_rfl) rfl (by decide +kernel) (by kernel_rfl)
theorem FJ (a:Af)(slot given epochThen:Ah):setNext a slot given epochThen=(do
  let (es,epoch,t) ← Ut a
  if ← Ym then
   if epoch != epochThen then unsupported "set_iterator.__next__:elements-changed"
   return ((← setWalk a)[given]?).map fun e=>(e.2,slot)
  if !t.plain&&es.size>1 then unsupported "set_iterator.__next__:the-table-is-plain-no-more"
  (do if !t.led&&!es.isEmpty then unsupported "set:maker-not-led")
  return match es[Cb t.place slot]?,t.place[Cb t.place slot]? with
   |some (_,x),Aa j=>Aa (x,j+1)
   |_,_=>none):=rfl
theorem T9 (a:Af):setWalk a=(do
  let (es,epoch,t) ← Ut a
  if ← Ym then return Mz ((← ask).params.setOrder a epoch) es
  if !t.plain&&es.size>1 then return (← drawOrder es.size es.toList).toArray
  (do if !t.led&&es.size>1 then unsupported "set:maker-not-led")
  return es):=rfl
theorem U2 (a:Af):setDrawn a=(do
  let (es,_,t) ← Ut a
  let byText ← Ym
  return !byText&&(!t.plain&&es.size>1)):=rfl
structure Still (w:Bv)(S:Af)(es:Bk (Aj × Ac))(ep:Ah)(t:Fh):Prop where
 tab:TabT t es
 led:t.led=yQ w
def qS (w:Bv)(S:Af)(ep:Ah)(es:Bk (Aj × Ac)):Bk (Aj × Ac):=if w.params.followText "set-order" = true then Mz (w.params.setOrder S ep) es else es
theorem nB (w:Bv)(S:Af)(ep:Ah)(es:Bk (Aj × Ac)):(qS w S ep es).toList.Perm es.toList:=by
 unfold qS
 split
 ·exact lQ _ _
 ·exact Yr _
theorem jR (w:Bv)(S:Af)(ep:Ah)(es:Bk (Aj × Ac)):(qS w S ep es).size=es.size:=by
 rw[← Dc,(nB w S ep es).length_eq,Dc]
def itO (slot i:Ah)(S:Af)(n ep:Ah):Co:={ cls:=.type "set_iterator",data:=.fields #[.int slot 0,.int i 0,.ref S,.int n 0,.int ep 0] }
def At (w:Bv)(I S:Af)(es:Bk (Aj × Ac))(ep:Ah)(t:Fh)(i:Ah)(h:Bi):Prop:=
 ∃ slot,h.get? I=Aa (itO slot i S es.size ep)∧h.get? S=Aa (setO es ep t)∧(w.params.followText "set-order" = true∨Cb t.place slot=i)
section
variable {prog:Bh}{w:Bv}{A:Bo}{E:Ac→Ag→Prop}{s:Ag}{S I:Af}{es:Bk (Aj × Ac)}{ep:Ah}{t:Fh}
theorem ZI {slot i:Ah}{Q:Am (Ac × Ah)→Ag→Prop}(Z:Still w S es ep t)(ho:s.heap.get? S=Aa (setO es ep t))(hs:w.params.followText "set-order" = true∨Cb t.place slot=i)
  (h1:∀ e slot',(qS w S ep es)[i]? = Aa e→(w.params.followText "set-order" = true∨Cb t.place slot'=i+1)→Q (Aa (e.2,slot')) s) (h2:(qS w S ep es)[i]? = none→Q none s):Ap (Aw prog w) A (setNext S slot i ep) Q E s:=by
 rw[FJ];refine Ad (Fn ho rfl Z.tab.fits ?_);dsimp only;refine Ad (Ad (Jy (Al ?_)));cases hf:w.params.followText "set-order" with
 |true =>
  show Ap _ _ (if (w.params.followText "set-order")=true then _ else _) _ _ _
  rw[AT hf];have hb:(ep != ep)=false:=by simp
  rw[hb];simp only[Bn,Dt];refine Ad ?_;rw[T9];refine Ad (Fn ho rfl Z.tab.fits ?_);dsimp only;refine Ad (Ad (Jy (Al ?_)));show Ap _ _ (if (w.params.followText "set-order")=true then _ else _) _ _ _
  rw[AT hf];refine Ad (Jy (Al (Al ?_)));show Q (((Mz (w.params.setOrder S ep) es)[i]?).map fun e=>(e.2,slot)) s;have ho':qS w S ep es=Mz (w.params.setOrder S ep) es:=by unfold qS;rw[AT hf]
  rw[ho'] at h1 h2;cases hx:(Mz (w.params.setOrder S ep) es)[i]? with
  |none=>exact h2 hx
  |some e=>exact h1 e slot hx (.inl hf)
 |false =>
  show Ap _ _ (if (w.params.followText "set-order")=true then _ else _) _ _ _
  rw[Bc (by rw[hf];decide),Z.tab.plain,Z.led]
  unfold yQ;rw[hf];simp only[Jh,Nu,Bn,Dt,Yq];have hb:Cb t.place slot=i:=by
   rcases hs with h|h
   ·rw[hf] at h;cases h
   ·exact h
  rw[hb];have ho':qS w S ep es=es:=by unfold qS;rw[Bc (by rw[hf];decide)]
  rw[ho'] at h1 h2;refine Al ?_;cases hx:es[i]? with
  |none=>exact h2 hx
  |some e =>
   have hi:i<t.place.size:=by rw[Z.tab.size];exact(Dk.mp hx).1
   have hp:t.place[i]? = Aa t.place[i]:=Dp hi;rw[hp];exact h1 e _ hx (.inr (Q7 Z.tab.tb.rs hp))
theorem At.type {i:Ah}(h:At w I S es ep t i s.heap):s.TypeIs (.ref I) "set_iterator":=by
 obtain⟨slot,h,_⟩:=h;exact⟨_,h,rfl⟩
theorem sF {i:Ah}{Q:Ac→Ag→Prop}(Z:Still w S es ep t)(hI:At w I S es ep t i s.heap)
  (h1:∀ e slot' slot,(qS w S ep es)[i]? = Aa e→s.heap.get? I=Aa (itO slot i S es.size ep)→s.heap.get? S=Aa (setO es ep t)→(w.params.followText "set-order" = true∨Cb t.place slot'=i+1) →
   Q e.2 { s with heap:=(s.heap.update I (Uh (·.setIfInBounds 0 (Sl slot')))).update I (Uh (·.setIfInBounds 1 (Sl ((i:Aj)+1)))) })
  (h2:(qS w S ep es)[i]? = none→Ap (Aw prog w) A (do setField (.ref I) 2 .none;raiseNew (← newExc (.type "StopIteration") [])) (fun (fin:PySem.Fin) s'=>∃ r,fin=.done (.ret r)∧Q r s') E s) :
  Ap (Aw prog w) A (He.«set_iterator.__next__» ⟨[.ref I],[]⟩) (fun fin s'=>∃ r,fin=.done (.ret r)∧Q r s') E s:=by
 obtain⟨slot,hg,hS,hb⟩:=hI;show Ap _ _ (fieldsOf (.ref I) >>= _) _ _ s;refine Ad (wpAny_fieldsOf hg rfl ?_);show Ap _ _ (setEntries S >>= _) _ _ s;refine Ad (Ui hS rfl Z.tab.fits ?_);have hne:(((es.size:Ah):Aj) != ((es.size:Ah):Aj))=false:=by simp
 rw[hne];simp only[Bn,Dt];show Ap _ _ (setNext S (slot:Aj).toNat (i:Aj).toNat (ep:Aj).toNat >>= _) _ _ s;rw[Fl,Fl,Fl];refine Ad (ZI Z hS hb (fun e slot' he hb'=>?_) fun he=>?_)
 ·dsimp only
  refine Ad (Ln hg rfl (by show 0<5;decide) ?_)
  have hg2:=Eb (Uh (·.setIfInBounds 0 (Sl slot'))) hg rfl
  refine Ad (Ln hg2 rfl (by show 1<5;decide) ?_)
  exact Al ⟨_,rfl,h1 e slot' slot he hg hS hb'⟩
 ·exact h2 he
theorem T7 (hh:A.handled=none)(hne:S≠I)(Z:Still w S es ep t):Walks prog w A I [I,S] [I] es.size (fun i v=>∃ e,(qS w S ep es)[i]? = Aa e∧e.2=v) (fun i h=>At w I S es ep t i h) where
 sub:=fun b hb=>by simp at hb;simp[hb]
 frame:=fun i h h' ⟨slot,h1,h2,h3⟩ hk=>⟨slot,hk I (by simp) _ h1,hk S (by simp) _ h2,h3⟩
 item:=fun i s Q E hi st hQ=>by
  unfold Nb;refine Ad (Kh (Ee (name:=Gd "__next__") st.type u7 (Eh u7 st.type t8 (sF Z st (fun e slot' slot he hg hS hb=>?_) fun he=>?_) (dB _))))
  ·refine Al (hQ e.2 _ s.toks ⟨e,he,rfl⟩ ⟨slot',?_,?_,hb⟩ fun b o hb e=>?_)
   ·exact Eb _ (Eb _ hg rfl) rfl
   ·rw[Bs _ _ hne.symm,Bs _ _ hne.symm];exact hS
   ·have hb:I≠b:=fun z=>hb (by simp[z])
    rw[Bs _ _ hb,Bs _ _ hb];exact e
  ·have:=Array.getElem?_eq_none_iff.mp he
   rw[jR] at this;omega
 done:=fun s Q E st hQ=>by
  unfold Nb;refine Ad (Kh (Ee (name:=Gd "__next__") st.type u7 (Eh u7 st.type t8 (sF Z st (fun e slot' slot he hg hS hb=>?_) fun he=>?_) (dB _))))
  ·have:=(Dk.mp he).1
   rw[jR] at this;omega
  ·obtain⟨slot,hg,hS,hb⟩:=st
   refine Ad (Ln hg rfl (by show 2<5;decide) ?_)
   refine Ad ?_;simp only[newExc,newTuple];refine Ad (Dd ?_ (by size_fits))
   refine Ad (m:=NE _ _) (Kn (a:=Ed) (by first|rfl|(simp only[NE];rfl)) ?_)
   refine Dd ?_ (by size_fits)
   simp only[raiseNew];refine Ad (wpAny_handled ?_);rw[show A.in1.handled=none from hh]
   refine Ad (Al (wpAny_throw ?_));refine Ad (Ql (T:="StopIteration") (b:=true) ⟨_,Az _ rfl,rfl⟩ isSubtype_stop ?_);refine Al (hQ _ s.toks fun b o hb e=>?_);exact(((Gp ..).extBut.push _).push _) b o (fun z=>hb (by simp[z])) e
 self:=fun i s Q E st hQ=>by
  refine Wl st.type sR (Eh sR st.type QP ?_ (ZX _));show Ap _ _ (ret (.ref I)) _ _ s;exact Al ⟨_,rfl,"set_iterator",_,st.type,u7.lookup,hQ⟩
theorem UP {Q:Ac→Ag→Prop}(Z:Still w S es ep t)(ho:s.heap.get? S=Aa (setO es ep t))(h:Q (.ref s.heap.objs.size) { s with heap:=s.heap.push (itO 0 0 S es.size ep) }) : Ap (Aw prog w) A (Oo (.ref S)) Q E s:=by
 have hT:s.TypeIs (.ref S) "set":=⟨_,ho,rfl⟩;refine Wl hT Sw (Eh Sw hT QN ?_ (PySem.F.args_set_iter_1 _));show Ap _ _ (Qe S >>= _) _ _ s;unfold Qe;refine Ad (Ad (Ui ho rfl Z.tab.fits (Al ?_)));refine Ad ?_;rw[U2];refine Ad (Fn ho rfl Z.tab.fits ?_);dsimp only;refine Ad (Ad (Jy (Al (Al ?_))));rw[Z.tab.plain];simp only[Jh,Nu,Ny,Bn,Dt];refine Ad (Al ?_);unfold setEpoch;refine Ad (Ad (Fn ho rfl Z.tab.fits (Al ?_)));refine Ad (Dd (Al ⟨_,rfl,"set_iterator",_,⟨_,Az _ rfl,rfl⟩,u7.lookup,h⟩))
theorem PH (Z:Still w S es ep t)(ho:s.heap.get? S=Aa (setO es ep t)):At w s.heap.objs.size S es ep t 0 (s.heap.push (itO 0 0 S es.size ep)):=
 ⟨0,Az _ rfl,Ai _ ho,.inr (Q8 Z.tab.tb.rs)⟩
end
end _S
namespace _S
open PySem PySem.W PyProof.Rows
structure Ord {K:Type}(lt:K→K→As):Prop where
 irr:∀ a,lt a a=false
 tr:∀ {a b c},lt a b=true→lt b c=true→lt a c=true
 tri:∀ {a b},lt a b=false→a=b∨lt b a=true
def ltI (a b:Aj):As:=decide (a<b)
theorem JD:Ord ltI:=⟨fun a=>by simp[ltI],fun {a b c} h1 h2=>by simp only[ltI,Cm] at *;omega,fun {a b} h=>by simp only[ltI,Cm,Lh] at *;omega⟩
theorem iZ:∀ a:Ab Aj,_H.lexLt a a=false
 |[]=>rfl
 |x::xs=>by rw[_H.lexLt_cons,AT rfl];exact iZ xs
theorem W9:∀ {a b c:Ab Aj},_H.lexLt a b=true→_H.lexLt b c=true→_H.lexLt a c=true
 |_,[],[],_,h=>by cases h
 |_,_::_,[],_,h=>by cases h
 |[],_,_::_,_,_=>rfl
 |_::_,[],_::_,h,_=>by cases h
 |x::xs,y::ys,z::zs,h1,h2=>by
  rw[_H.lexLt_cons] at h1 h2 ⊢;by_cases e1:x=y
  ·subst e1
   rw[AT rfl] at h1;by_cases e2:x=z
   ·rw[AT e2] at h2 ⊢;exact W9 h1 h2
   ·rw[Bc e2] at h2 ⊢;exact h2
  ·rw[Bc e1] at h1
   have h1:=Bw h1;by_cases e2:y=z
   ·subst e2;rw[Bc e1];exact Cn h1
   ·rw[Bc e2] at h2
    have h2:=Bw h2;rw[Bc (by omega)]
    exact Cn (by omega)
theorem o3:∀ {a b:Ab Aj},_H.lexLt a b=false→a=b∨_H.lexLt b a=true
 |[],[],_=>.inl rfl
 |[],_::_,h=>by cases h
 |_::_,[],_=>.inr rfl
 |x::xs,y::ys,h=>by
  rw[_H.lexLt_cons] at h ⊢;by_cases e:x=y
  ·subst e
   rw[AT rfl] at h ⊢;rcases o3 h with h|h
   ·exact .inl (by rw[h])
   ·exact .inr h
  ·rw[Bc e] at h
   have h:=Hs h;rw[Bc (Ea e)];exact .inr (Cn (by omega))
theorem xU:Ord _H.lexLt:=⟨iZ,W9,o3⟩
theorem dO {α : Type}{p q:α→As}:∀ {l:Ab α},(∀ x∈l,p x=true→q x=true)→(∃ x∈l,q x=true∧p x=false)→l.countP p<l.countP q
 |[],_,⟨x,h,_⟩=>by simp at h
 |a::l,h,⟨x,hx,h1,h2⟩=>by
  have le:l.countP p≤l.countP q:=Sx fun y hy=>h y (by simp[hy])
  rw[Xh,Xh];rcases Av.mp hx with rfl|hx
  ·rw[Bc (by rw[h2];decide),AT h1];omega
  ·have ih:=dO (l:=l) (fun y hy=>h y (by simp[hy])) ⟨x,hx,h1,h2⟩
   have:=h a (by simp)
   cases hp:p a with
   |false=>rw[Bc (by decide)];split <;> omega
   |true=>rw[AT rfl,AT (this hp)];omega
section
variable {K:Type}{lt':K→K→As}
def nN (lt':K→K→As)(ks:Ab K)(x:K):Aj:=(ks.countP (fun k=>lt' k x):Ah)
theorem cW (O:Ord lt'){ks:Ab K}{x y:K}(hx:x∈ks):lt' x y=decide (nN lt' ks x<nN lt' ks y):=by
 unfold nN;cases h:lt' x y with
 |true =>
  refine(Cn ?_).symm;have:=dO (l:=ks) (p:=fun k=>lt' k x) (q:=fun k=>lt' k y) (fun z _ hz=>O.tr hz h) ⟨x,hx,h,O.irr x⟩;omega
 |false =>
  refine(Bu ?_).symm;have:ks.countP (fun k=>lt' k y)≤ks.countP (fun k=>lt' k x):=by
   rcases O.tri h with e|h'
   ·rw[e];exact Bd _
   ·exact Sx fun z _ hz=>O.tr hz h'
  omega
def gG (lt':K→K→As)(ks:Ab K)(d:K)(i j:Ah):As:=lt' (ks.getD i d) (ks.getD j d)
def Nf (lt':K→K→As)(l:Ab K):Prop:=l.Pairwise fun a b=>lt' b a=false
theorem fB (O:Ord lt'):∀ {a b:Ab K},Nf lt' a→Nf lt' b→a.Perm b→a=b
 |[],b,_,_,p=>(List.nil_perm.mp p).symm
 |x::a,b,ha,hb,p=>by
  cases b with
  |nil=>exact absurd p.symm (by simp)
  |cons y b =>
   unfold Nf at ha hb;rw[Cz] at ha hb;have e:x=y:=by
    rcases Av.mp (p.mem_iff.mp (.head _)) with e|e
    ·exact e
    ·rcases Av.mp (p.mem_iff.mpr (.head _)) with e'|e'
     ·exact e'.symm
     ·have h1:=ha.1 y e'
      have h2:=hb.1 x e;rcases O.tri h1 with e|h
      ·exact e.symm
      ·rw[h2] at h;cases h
   subst e;rw[fB O ha.2 hb.2 (List.Perm.cons_inv p)]
theorem WM (O:Ord lt'){l:Ab K}(h:Nf lt' l)(nd:l.Nodup):l.Pairwise fun a b=>lt' a b=true:=by
 refine List.Pairwise.imp₂ (fun {a b} h1 h2=>?_) h nd;exact(O.tri h1).elim (fun e=>absurd e.symm h2) id
def ZM (lt':K→K→As)(l:Ab K):Ab K:=l.mergeSort fun a b=>!lt' b a
theorem gB (l:Ab K):(ZM lt' l).Perm l:=List.mergeSort_perm _ _
theorem d7 (O:Ord lt')(l:Ab K):Nf lt' (ZM lt' l):=by
 have:=Qz (le:=fun a b=>!lt' b a) (fun a b c h1 h2=>?_) (fun a b=>?_) l
 ·exact this.imp fun h=>by simpa using h
 ·have h1:lt' b a=false:=by simpa using h1
  have h2:lt' c b=false:=by simpa using h2
  cases h3:lt' c a with
  |false=>rfl
  |true =>
   rcases O.tri h1 with e|h
   ·rw[← e] at h3;rw[h3] at h2;cases h2
   ·have:=O.tr h3 h;rw[h2] at this;cases this
 ·cases h:lt' b a with
  |false=>rfl
  |true =>
   cases h':lt' a b with
   |false=>rfl
   |true=>have:=O.tr h h';rw[O.irr] at this;cases this
def kG (lt':K→K→As)(x:K):Ab K→Ab K
 |[]=>[x]
 |y::l=>if lt' x y then x::y::l else if lt' y x then y::kG lt' x l else y::l
def srt (lt':K→K→As):Ab K→Ab K
 |[]=>[]
 |x::xs=>kG lt' x (srt lt' xs)
set_option tactic.hygienic true in
theorem mD (O:Ord lt')(x y:K):∀ l:Ab K,y∈kG lt' x l↔y=x∨y∈l
 |[]=>by simp[kG]
 |z::l=>by
  unfold kG
  split
  ·simp
  ·rename_i h1
   split
   ·rw[Av,mD O x y l,Av]
    exact⟨fun h=>by rcases h with h|h|h <;> simp[h],fun h=>by rcases h with h|h|h <;> simp[h]⟩
   ·rename_i h2
    have:x=z:=(O.tri (by simpa using h1)).elim id fun h=>absurd h h2
    subst this;simp
set_option tactic.hygienic true in
theorem iR (O:Ord lt')(x:K):∀ l:Ab K,l.Pairwise (fun a b=>lt' a b=true)→(kG lt' x l).Pairwise (fun a b=>lt' a b=true)
 |[],_=>by simp[kG]
 |z::l,h=>by
  rw[Cz] at h;unfold kG
  split
  ·rename_i h1
   refine Cz.mpr ⟨fun y hy=>?_,Cz.mpr h⟩;rcases Av.mp hy with rfl|hy
   ·exact h1
   ·exact O.tr h1 (h.1 y hy)
  ·split
   ·rename_i h2
    refine Cz.mpr ⟨fun y hy=>?_,iR O x l h.2⟩;rcases (mD O x y l).mp hy with rfl|hy
    ·exact h2
    ·exact h.1 y hy
   ·exact Cz.mpr h
theorem vJ (O:Ord lt')(y:K):∀ l:Ab K,y∈srt lt' l↔y∈l
 |[]=>by simp[srt]
 |x::l=>by rw[srt,mD O,vJ O y l,Av]
theorem jF (O:Ord lt'):∀ l:Ab K,(srt lt' l).Pairwise (fun a b=>lt' a b=true)
 |[]=>by simp[srt]
 |x::l=>iR O x _ (jF O l)
theorem fP (O:Ord lt'):∀ {a b:Ab K},a.Pairwise (fun a b=>lt' a b=true)→b.Pairwise (fun a b=>lt' a b=true)→(∀ x,x∈a↔x∈b)→a=b
 |[],[],_,_,_=>rfl
 |[],y::b,_,_,h=>by have:=(h y).mpr (by simp);simp at this
 |x::a,[],_,_,h=>by have:=(h x).mp (by simp);simp at this
 |x::a,y::b,ha,hb,h=>by
  rw[Cz] at ha hb;have asym:∀ {u v},lt' u v=true→lt' v u=true→Fc:=fun p q=>by have:=O.tr p q;rw[O.irr] at this;cases this
  have e:x=y:=by
   rcases Av.mp ((h x).mp (by simp)) with e|e
   ·exact e
   ·rcases Av.mp ((h y).mpr (by simp)) with e'|e'
    ·exact e'.symm
    ·exact(asym (hb.1 x e) (ha.1 y e')).elim
  subst e;have ne:∀ {z:K} {l:Ab K},(∀ y∈l,lt' x y=true)→z∈l→z≠x:=fun h hz e=>by subst e;have:=h _ hz;rw[O.irr] at this;cases this
  rw[fP O ha.2 hb.2 fun z=>⟨fun hz=>?_,fun hz=>?_⟩]
  ·exact(Av.mp ((h z).mp (by simp[hz]))).elim (fun e=>absurd e (ne ha.1 hz)) id
  ·exact(Av.mp ((h z).mpr (by simp[hz]))).elim (fun e=>absurd e (ne hb.1 hz)) id
theorem DR (O:Ord lt'){l xs:Ab K}(h:Nf lt' l)(nd:l.Nodup)(m:∀ x,x∈l↔x∈xs):l=srt lt' xs:=
 fP O (WM O h nd) (jF O xs) fun x=>by rw[m,vJ O]
end
theorem FE:typeLookup (.type "set") "__len__" = pure (Aa (.builtin "set.__len__")):=PySem.F.slot_set_len.lookup
section
variable {prog:Bh}{w:Bv}{A:Bo}{E:Ac→Ag→Prop}{s:Ag}{S:Af}{es:Bk (Aj × Ac)}{ep:Ah}{t:Fh}
theorem UL {r:Af}(hT:s.TypeIs (.ref r) "set"){Q:As→Ag→Prop}(h:Q false s):Ap (Aw prog w) A (Ob (.ref r)) Q E s:=by
 unfold Ob;refine Ad (Xw hT FE ?_);generalize hid:("set.__len__" : Du)=id0
 wp_delta
 rw[show splitId id0=Aa ("set","__len__") from by subst hid;decide +kernel]
 subst hid;refine Ad (Ql (T:="set") (b:=true) hT (by rw[Tf];kernel_rfl) ?_)
 refine Sg (fun hab=>absurd hab (by decide)) (fun _=>?_)
 refine Sg (fun _=>?_) (fun hab=>absurd (by decide +kernel) hab)
 exact Ad (Ju hT (Al h))
theorem aM {Q:Ab Ac→Ag→Prop}(hh:A.handled=none)(Z:Still w S es ep t)(ho:s.heap.get? S=Aa (setO es ep t))(hn:es.size≤1000)
  (h:∀ h' tk,(∀ b o,s.heap.get? b=Aa o→h'.get? b=Aa o)→s.heap.objs.size<h'.objs.size→Q ((qS w S ep es).toList.map (·.2)) { s with heap:=h',toks:=tk }) : Ap (Aw prog w) A (collect (.ref S)) Q E s:=by
 have hS:S<s.heap.objs.size:=Ax ho;unfold collect;refine Ad (Te (Fd PySem.F.entry_proto_collect ?_));rw[Fa PySem.F.plain_proto_collect _];show Ap _ A.in1 (newList [] >>= fun l=>again (.builtin "list.__iadd__" ⟨[l,.ref S],[]⟩)) _ _ s;refine Ad (Dd (Al ⟨Gy Ra _,Fd PySem.F.entry_list_iadd ?_⟩));rw[Fa Ra _];have hD:(s.heap.push { cls:=.type "list",data:=.seq ([] : Ab Ac).toArray }).get? s.heap.objs.size=Aa { cls:=.type "list",data:=.seq #[] }:=Az _ rfl;have ho1:(s.heap.push { cls:=.type "list",data:=.seq ([] : Ab Ac).toArray }).get? S=Aa (setO es ep t):=Ai _ ho;show Ap _ A.in1 (Oc (.ref s.heap.objs.size) (.ref S) (.ref s.heap.objs.size)) _ _ _;unfold Oc;have hT1:Pp { s with heap:=s.heap.push { cls:=.type "list",data:=.seq ([] : Ab Ac).toArray } } (.ref S) "set":=⟨_,ho1,rfl⟩
 refine Ad (Ju hT1 ?_);have h1:Qf (.ref s.heap.objs.size) (.ref S)=false:=by simp[Qf];exact Hx hS
 rw[Bc (by rw[h1];decide)]
 refine Ad (UP (s:={ s with heap:=s.heap.push { cls:=.type "list",data:=.seq ([] : Ab Ac).toArray } }) Z ho1 ?_)
 have hD2:=Ai (itO 0 0 S es.size ep) hD;have hT2:Pp { s with heap:=(s.heap.push { cls:=.type "list",data:=.seq ([] : Ab Ac).toArray }).push (itO 0 0 S es.size ep) } (.ref S) "set":=⟨_,Ai _ ho1,rfl⟩
 refine Ad (Dj (UL hT2 ?_));refine Sg (fun _=>?_) (fun hab=>absurd (by decide) hab)
 refine Ad (Kf (Ad ?_));show Ap _ _ (updateSeq s.heap.objs.size (·.push .none) >>= fun _=>updateSeq s.heap.objs.size (·.pop)) _ _ _
 refine Ad (Kv hD2 rfl ?_);have hD3:=Eb (Ef (·.push Ed)) hD2 rfl
 refine Kv (hz:=by seq_fits) hD3 rfl ?_
 have hD4:=Eb (Ef (·.pop)) hD3 rfl
 have sz:(s.heap.push { cls:=.type "list",data:=.seq ([] : Ab Ac).toArray }).objs.size=s.heap.objs.size+1:=Dl ..;have oth:∀ {b:Af} {o:Co},b≠s.heap.objs.size→((s.heap.push { cls:=.type "list",data:=.seq ([] : Ab Ac).toArray }).push (itO 0 0 S es.size ep)).get? b=Aa o →
   ((((s.heap.push { cls:=.type "list",data:=.seq ([] : Ab Ac).toArray }).push (itO 0 0 S es.size ep)).update s.heap.objs.size (Ef (·.push Ed))).update s.heap.objs.size (Ef (·.pop))).get? b=Aa o:=
  fun hb e=>(Bs _ _ (Ea hb)).trans ((Bs _ _ (Ea hb)).trans e)
 have at0:=PH (w:=w) (s:={ s with heap:=s.heap.push { cls:=.type "list",data:=.seq ([] : Ab Ac).toArray } }) Z ho1
 refine Al ⟨Gy PySem.F.plain_extend_loop _,?_⟩;refine codeAny_extend_loopS ((T7 (prog:=prog) (A:=A.in1) (I:=(s.heap.push { cls:=.type "list",data:=.seq ([] : Ab Ac).toArray }).objs.size) hh (by rw[sz];exact Cc (Jr hS)) Z).toS) (by rw[Fk];omega) s.heap.objs.size ?_ _ es.size 0 _ #[] _ rfl (Gn _) ?_ hD4 (ItemsOf.nil _) fun s' acc c hm hS' hacc=>?_
 ·rw[sz]
  simp only[Av,Cj,Fe,Us];exact⟨Cc (Im _),Hx hS⟩
 ·obtain⟨slot,a1,a2,a3⟩:=at0
  exact⟨slot,oth (by rw[sz];exact Hx (Im _)) a1,oth (Cc hS) a2,a3⟩
 ·show Ap _ A (load s.heap.objs.size >>= _) _ _ s'
  refine Ad (wpAny_load hS' ?_);obtain⟨h',g',d',tk',os'⟩:=s';have eg:g'=s.gens:=hm.gens;have ed:d'=s.drawn:=hm.drawn;have eo:os'=s.os:=hm.os;subst eg;subst ed;subst eo;have e:acc.toList=(qS w S ep es).toList.map (·.2):=by
   refine List.ext_getElem? fun i=>?_;rw[Bz,Dm,Bz];by_cases hi:i<es.size
   ·have hi':i<acc.size:=by rw[hacc.1];exact hi
    obtain⟨e,he,q⟩:=hacc.2 i acc[i] (Dp hi');rw[Dp hi',he,Rz,q]
   ·rw[Sh (by rw[hacc.1];omega),Sh (by rw[jR];omega)]
    rfl
  refine Al ?_;show Q acc.toList _;rw[e];refine h h' tk' (fun b o q=>?_) (Ax hS');have hb:b<s.heap.objs.size:=Ax q;refine hm.heap b o (fun hx=>?_) (oth (Cc hb) (Ai _ (Ai _ q)));simp only[Av,Cj,Fe] at hx;rcases hx with hx|hx
  ·exact absurd hb (by rw[hx];exact DL _)
  ·exact absurd hb (by rw[hx,sz];exact Hy.mpr (Jo _))
end
def run (f:Ah→Ah→As){α : Type}:Yn α → α
 |.ret a=>a
 |.ask i j k=>run f (k (f i j))
theorem j6 (f:Ah→Ah→As){α β:Type}(g:α→Yn β) : ∀ t:Yn α,run f (t.bind g)=run f (g (run f t))
 |.ret _=>rfl
 |.ask i j k=>j6 f g (k (f i j))
section
variable (r:Ah→Aj)
def lt (i j:Ah):As:=decide (r i<r j)
def ky (p:Bk Ah)(k:Ah):Aj:=r (p.getD k 0)
def Up (p:Bk Ah)(n:Ah):Prop:=∀ i j,i≤j→j<n→ky r p i≤ky r p j
def Dn (p:Bk Ah)(n:Ah):Prop:=∀ i j,i≤j→j<n→ky r p j≤ky r p i
variable {r}
theorem tS {p q:Bk Ah}{i j:Ah}(h:p[i]? = q[j]?):ky r p i=ky r q j:=by
 unfold ky;rw[Od,Od,h]
set_option tactic.hygienic true in
theorem tT {p:Bk Ah}{i j:Ah}(hj:j≤p.size)(k:Ah):ky r (Kj p i j) k=if i≤k∧k<j then ky r p (i+j-1-k) else ky r p k:=by
 have:=getElem?_mirror_all (xs:=p) (i:=i) hj k;unfold Kj
 split
 ·rename_i h;rw[AT h] at this;exact tS this
 ·rename_i h;rw[Bc h] at this;exact tS this
theorem vW (p:Bk Ah)(i j:Ah):(Kj p i j).size=p.size:=mirror_size _ _ _ _
theorem yL (p:Bk Ah)(i j:Ah):(Kj p i j).Perm p:=mirror_perm _ _ _ _
theorem m5 (p:Bk Ah):∀ (f n:Ah),1≤n→let m:=run (lt r) (Zh p f n);n≤m∧m≤n+f∧(∀ k,n≤k→k<m→ky r p (k-1)≤ky r p k)∧(m<n+f→ky r p m<ky r p (m-1))
 |0,n,_=>⟨Bd _,Bd _,fun k h1 h2=>by have:k<n:=h2;omega,fun h=>by have:n<n+0:=h;omega⟩
 |f+1,n,hn=>by
  simp only[Zh,run];cases hc:lt r (p.getD n 0) (p.getD (n-1) 0) with
  |true =>
   simp only[De,run];exact⟨Bd _,by omega,fun k h1 h2=>by omega,fun _=>Bw hc⟩
  |false =>
   simp only[Bn,Dt];obtain⟨h1,h2,h3,h4⟩:=m5 p f (n+1) (by omega)
   refine⟨by omega,by omega,fun k a b=>?_,fun h=>h4 (by omega)⟩
   by_cases hk:k=n
   ·subst hk
    exact Np.mp (Hs hc)
   ·exact h3 k (by omega) b
theorem GZ {p:Bk Ah}{m:Ah}(h:∀ k,1≤k→k<m→ky r p (k-1)≤ky r p k):Up r p m:=by
 intro i j hij hj
 induction j with
 |zero =>
  have:i=0:=by omega
  subst this;exact Js _
 |succ j ih =>
  by_cases e:i=j+1
  ·subst e;exact Js _
  ·exact Rb (ih (by omega) (by omega)) (h (j+1) (by omega) hj)
def Eqs (p:Bk Ah)(n q:Ah):Prop:=q<n∧∀ k,n-(q+1)≤k→k<n→ky r p k=ky r p (n-1)
theorem eP (p:Bk Ah)(n:Ah):Eqs (r:=r) p (n+1) 0:=⟨Lg _,fun k a b=>by
 have:k=n:=by omega
 subst this;rfl⟩
set_option tactic.hygienic true in
theorem iJ {p:Bk Ah}{n q:Ah}(hn:n≤p.size)(h:Eqs (r:=r) p n q)(k:Ah):ky r (Kj p (n-(q+1)) n) k=ky r p k:=by
 rw[tT hn]
 split
 ·rename_i hk
  rw[h.2 k hk.1 hk.2,h.2 (n-(q+1)+n-1-k) (by omega) (by omega)]
 ·rfl
theorem l9 {p p':Bk Ah}(h:∀ k,ky r p' k=ky r p k){n:Ah}(d:Dn r p n):Dn r p' n:=fun i j a b=>by rw[h,h];exact d i j a b
theorem kZ:∀ (f:Ah) (p:Bk Ah) (n q:Ah),n+f≤p.size→1≤n→Dn r p n→Eqs (r:=r) p n q →
  let o:=run (lt r) (Xy f p n q);o.1.size=p.size∧o.1.Perm p∧n≤o.2.1∧o.2.1≤n+f∧Dn r o.1 o.2.1∧Eqs (r:=r) o.1 o.2.1 o.2.2
 |0,p,n,q,_,_,d,e=>⟨rfl,Kw _,Bd _,Bd _,d,e⟩
 |f+1,p,n,q,hs,hn,d,e=>by
  simp only[Xy,run];cases hc:lt r (p.getD n 0) (p.getD (n-1) 0) with
  |true =>
   have hlt:ky r p n<ky r p (n-1):=Bw hc;simp only[De];have d':Dn r p (n+1):=fun i j a b=>by
    by_cases hj:j=n
    ·subst hj
     by_cases hi:i=j
     ·subst hi;exact Js _
     ·exact Rb (Re hlt) (d i (j-1) (by omega) (by omega))
    ·exact d i j a (by omega)
   have e':∀ p:Bk Ah,Eqs (r:=r) p (n+1) 0:=fun p=>eP p n;by_cases hq:q>0
   ·rw[AT hq]
    have hk:=iJ (r:=r) (p:=p) (n:=n) (q:=q) (by omega) e
    obtain⟨a1,a2,a3,a4,a5,a6⟩:=kZ f (Kj p (n-(q+1)) n) (n+1) 0 (by rw[vW];omega) (by omega) (l9 hk d') (e' _)
    exact⟨by rw[a1,vW],a2.trans (yL _ _ _),by omega,by omega,a5,a6⟩
   ·rw[Bc hq]
    obtain⟨a1,a2,a3,a4,a5,a6⟩:=kZ f p (n+1) 0 (by omega) (by omega) d' (e' _)
    exact⟨a1,a2,by omega,by omega,a5,a6⟩
  |false =>
   simp only[Bn,Dt,run];cases hd:lt r (p.getD (n-1) 0) (p.getD n 0) with
   |true =>
    simp only[De,run];exact⟨by trivial,Kw _,Bd _,by omega,d,e⟩
   |false =>
    simp only[Bn,Dt];have he:ky r p n=ky r p (n-1):=Xz (Np.mp (Hs hd)) (Np.mp (Hs hc));have d':Dn r p (n+1):=fun i j a b=>by
     by_cases hj:j=n
     ·subst hj
      by_cases hi:i=j
      ·subst hi;exact Js _
      ·rw[he];exact d i (j-1) (by omega) (by omega)
     ·exact d i j a (by omega)
    have e':Eqs (r:=r) p (n+1) (q+1):=⟨by have:=e.1;omega,fun k a b=>by
     by_cases hk:k=n
     ·subst hk;rfl
     ·rw[e.2 k (by omega) (by omega)];exact he.symm⟩
    obtain⟨a1,a2,a3,a4,a5,a6⟩:=kZ f p (n+1) (q+1) (by omega) (by omega) d' e'
    exact⟨a1,a2,by omega,by omega,a5,a6⟩
structure Got (r:Ah→Aj)(p:Bk Ah)(N:Ah)(o:Ah × Bk Ah):Prop where
 size:o.2.size=p.size
 perm:o.2.Perm p
 pos:1≤o.1
 le:o.1≤N
 up:Up r o.2 o.1
theorem sV {p:Bk Ah}{n N:Ah}(hN:N≤p.size)(hn:1≤n)(hnN:n≤N)(d:Dn r p n):Got r p N (run (lt r) (Zi n N p)):=by
 unfold Zi;rw[j6];obtain⟨h1,h2,h3,h4⟩:=m5 (r:=r) (Kj p 0 n) (N-n) n hn;refine⟨vW _ _ _,yL _ _ _,Dy hn h1,Dy h2 (by omega),GZ fun k a b=>?_⟩
 show ky r (Kj p 0 n) (k-1)≤ky r (Kj p 0 n) k;by_cases hk:n≤k
 ·exact h3 k hk b
 ·rw[tT (by omega),tT (by omega),AT (by omega),AT (by omega)]
  exact d _ _ (by omega) (by omega)
theorem pP {p:Bk Ah}{n N:Ah}(hN:N≤p.size)(hn:1≤n)(hnN:n+1≤N)(d:Dn r p (n+1)):Got r p N (run (lt r) (Vr n N p)):=by
 unfold Vr;rw[j6];obtain⟨a1,a2,a3,a4,a5,a6⟩:=kZ (r:=r) (N-(n+1)) p (n+1) 0 (by omega) (by omega) d (eP p n)
 generalize run (lt r) (Xy (N-(n+1)) p (n+1) 0)=o at *
 split
 ·have hk:=iJ (r:=r) (p:=o.1) (n:=o.2.1) (q:=o.2.2) (by omega) a6
  have g:=sV (p:=Kj o.1 (o.2.1-(o.2.2+1)) o.2.1) (N:=N) (by rw[vW];omega) (by omega) (by omega) (l9 hk a5)
  exact⟨by rw[g.size,vW,a1],(g.perm.trans (yL _ _ _)).trans a2,g.pos,g.le,g.up⟩
 ·have g:=sV (p:=o.1) (N:=N) (by omega) (by omega) (by omega) a5
  exact⟨by rw[g.size,a1],g.perm.trans a2,g.pos,g.le,g.up⟩
theorem QH {p:Bk Ah}{N:Ah}(hN:N≤p.size)(h1:1≤N):Got r p N (run (lt r) (Wm N p)):=by
 unfold Wm;rw[j6];obtain⟨b1,b2,b3,b4⟩:=m5 (r:=r) p (N-1) 1 (Bd _);generalize run (lt r) (Zh p (N-1) 1)=n at *;have up:Up r p n:=GZ b3;by_cases hn:n=N
 ·subst hn
  rw[AT (by simp)]
  exact⟨rfl,Kw _,h1,Bd _,up⟩
 ·rw[Bc (by simpa using hn)]
  have hlt:=b4 (by omega)
  by_cases hn1:n>1
  ·rw[AT hn1]
   simp only[run];cases hc:lt r (p.getD 0 0) (p.getD (n-1) 0) with
   |true=>simp only[De,run];exact⟨rfl,Kw _,by show 1≤n;omega,by show n≤N;omega,up⟩
   |false =>
    simp only[Bn,Dt];have hle:ky r p (n-1)≤ky r p 0:=Np.mp (Hs hc);have all:∀ k,k<n→ky r p k=ky r p 0:=fun k hk=>Xz (Rb (up k (n-1) (by omega) (by omega)) hle) (up 0 k (by omega) hk)
    have keys:∀ k,ky r (Kj p 0 n) k=ky r p k:=fun k=>by
     rw[tT (by omega)]
     split
     ·rw[all k (by omega),all _ (by omega)]
     ·rfl
    have g:=pP (p:=Kj p 0 n) (n:=n) (N:=N) (by rw[vW];omega) (by omega) (by omega) (l9 keys fun i j a b=>by
     by_cases hj:j=n
     ·subst hj
      by_cases hi:i=j
      ·subst hi;exact Js _
      ·rw[all i (by omega),← all (j-1) (by omega)];exact Re hlt
     ·rw[all i (by omega),all j (by omega)];exact Js _)
    exact⟨by rw[g.size,vW],g.perm.trans (yL _ _ _),g.pos,g.le,g.up⟩
  ·rw[Bc hn1]
   have e:n=1:=by omega
   subst e;exact pP hN (Bd _) (by omega) fun i j a b=>by
    by_cases hij:i=j
    ·subst hij;exact Js _
    ·have:i=0:=by omega
     have:j=1:=by omega
     subst i j;exact Re hlt
theorem pC (p:Bk Ah)(k:Ah)(up:Up r p k):∀ (f l h:Ah),h-l≤f→l≤h→h≤k→(∀ i,i<l→ky r p i≤ky r p k)→(∀ i,h≤i→i<k→ky r p k<ky r p i) →
  let m:=run (lt r) (Wn p k f l h);m≤k∧(∀ i,i<m→ky r p i≤ky r p k)∧(∀ i,m≤i→i<k→ky r p k<ky r p i)
 |0,l,h,hf,hl,hk,a,b=>by
  have:l=h:=by omega
  subst this;exact⟨hk,a,b⟩
 |f+1,l,h,hf,hl,hk,a,b=>by
  simp only[Wn];by_cases hc:l≥h
  ·rw[AT hc]
   have:l=h:=by omega
   subst this;exact⟨hk,a,b⟩
  ·rw[Bc hc]
   simp only[run];cases hq:lt r (p.getD k 0) (p.getD ((l+h)/2) 0) with
   |true =>
    simp only[De];have hlt:ky r p k<ky r p ((l+h)/2):=Bw hq;exact pC p k up f l ((l+h)/2) (by omega) (by omega) (by omega) a fun i x y=>Int.lt_of_lt_of_le hlt (up _ _ x y)
   |false =>
    simp only[Bn,Dt];have hle:ky r p ((l+h)/2)≤ky r p k:=Np.mp (Hs hq);exact pC p k up f ((l+h)/2+1) h (by omega) (by omega) hk (fun i x=>Rb (up _ _ (by omega) (by omega)) hle) b
theorem sA {p:Bk Ah}{k l:Ah}(hk:k<p.size)(hl:l≤k)(i:Ah):ky r (bubble p k (k-l)) i=if i=l then ky r p k else if l<i∧i≤k then ky r p (i-1) else ky r p i:=by
 have h:=getElem?_bubble (xs:=p) hk (k-l) (by omega) i
 rw[show k-(k-l)=l by omega] at h
 by_cases h1:i=l
 ·rw[AT h1] at h ⊢;exact tS h
 ·rw[Bc h1] at h ⊢
  by_cases h2:l<i∧i≤k
  ·rw[AT h2] at h ⊢;exact tS h
  ·rw[Bc h2] at h ⊢;exact tS h
theorem rW:∀ (f:Ah) (p:Bk Ah) (k:Ah),k+f≤p.size→Up r p k→let o:=run (lt r) (kas_bin f p k);o.size=p.size∧o.Perm p∧Up r o (k+f)
 |0,p,k,_,up=>⟨rfl,Kw _,up⟩
 |f+1,p,k,hs,up=>by
  simp only[kas_bin];rw[j6];obtain⟨h1,h2,h3⟩:=pC p k up k 0 k (by omega) (by omega) (Bd _) (fun i hi=>by omega) fun i a b=>by omega
  generalize run (lt r) (Wn p k k 0 k)=l at *;have up':Up r (bubble p k (k-l)) (k+1):=fun i j a b=>by
   rw[sA (by omega) h1,sA (by omega) h1]
   by_cases e1:i=l
   ·rw[AT e1]
    by_cases e2:j=l
    ·rw[AT e2];exact Js _
    ·rw[Bc e2,AT (by omega)]
     exact Re (h3 (j-1) (by omega) (by omega))
   ·rw[Bc e1]
    by_cases e3:l<i∧i≤k
    ·rw[AT e3,Bc (by omega),AT (by omega)]
     exact up _ _ (by omega) (by omega)
    ·rw[Bc e3]
     by_cases e2:j=l
     ·rw[AT e2];exact h2 i (by omega)
     ·rw[Bc e2]
      by_cases e4:l<j∧j≤k
      ·rw[AT e4];exact up _ _ (by omega) (by omega)
      ·rw[Bc e4];exact up _ _ a (by omega)
  obtain⟨a1,a2,a3⟩:=rW f (bubble p k (k-l)) (k+1) (by rw[bubble_size];omega) up'
  exact⟨by rw[a1,bubble_size],a2.trans (bubble_perm _ _ _),by rw[show k+(f+1)=k+1+f by omega];exact a3⟩
set_option tactic.hygienic true in
theorem YO {n:Ah}(hn:1≤n):let o:=run (lt r) (Na n);o.toList.Perm (Cy n)∧Up r o n:=by
 unfold Na;simp only[j6];have hz:(Lf (Cy n)).size=n:=by simp
 have g:=QH (r:=r) (p:=Lf (Cy n)) (N:=n) (by omega) hn
 generalize run (lt r) (Wm n (Lf (Cy n)))=c at *;have pm:∀ {o:Bk Ah},o.Perm (Lf (Cy n))→o.toList.Perm (Cy n):=fun h=>by simpa using Array.perm_iff_toList_perm.mp h
 split
 ·rename_i hlt
  have hm:max c.1 1=c.1:=by have:=g.pos;omega
  rw[hm];obtain⟨a1,a2,a3⟩:=rW (n-c.1) c.2 c.1 (by rw[g.size,hz];omega) g.up
  refine⟨pm (a2.trans g.perm),?_⟩;rw[show c.1+(n-c.1)=n by omega] at a3
  exact a3
 ·rename_i hlt
  have:c.1=n:=by have:=g.le;omega
  refine⟨pm g.perm,?_⟩;have u:=g.up;rw[this] at u;exact u
end
def Inn (n:Ah){α : Type}(T:α→Prop):Yn α → Prop
 |.ret a=>T a
 |.ask i j k=>i<n∧j<n∧∀ b,Inn n T (k b)
def PB (n:Ah)(p:Bk Ah):Prop:=∀ k,p.getD k 0<n
theorem PB.perm {p q:Bk Ah}{n:Ah}(h:PB n p)(e:q.Perm p):PB n q:=fun k=>by
 by_cases hk:k<q.size
 ·have e1:q.getD k 0=q[k]:=by simp[Hz,hk]
  rw[e1];have:q[k]∈p:=e.mem_iff.mp (Array.getElem_mem hk);obtain⟨j,hj,e2⟩:=Array.mem_iff_getElem.mp this;have:=h j;rw[show p.getD j 0=p[j] by simp[Hz,hj]] at this
  rw[← e2];exact this
 ·have e1:q.getD k 0=0:=by simp[Hz,hk]
  rw[e1];exact Ol (Gn _) (h 0)
theorem Inn.bind {n:Ah}{α β:Type}{T:α→Prop}{U:β→Prop}{g:α→Yn β} : ∀ {t:Yn α},Inn n T t→(∀ a,T a→Inn n U (g a))→Inn n U (t.bind g)
 |.ret a,h,hg=>hg a h
 |.ask i j k,⟨h1,h2,h3⟩,hg=>⟨h1,h2,fun b=>Inn.bind (h3 b) hg⟩
theorem V2 {n:Ah}{f:Ah→Ah→As}{cmp:Ah→Ah→(As→Ag→Prop)→Ag→Prop}{s:Ag}(hc:∀ i j (C:As→Ag→Prop),i<n→j<n→C (f i j) s→cmp i j C s){α : Type}{T:α→Prop}{G:α→Ag→Prop}:∀ t:Yn α,Inn n T t→G (run f t) s→t.kasWp cmp G s
 |.ret _,_,h=>h
 |.ask i j k,⟨h1,h2,h3⟩,h=>hc i j _ h1 h2 (V2 hc (k (f i j)) (h3 _) h)
theorem yA {n:Ah}{α : Type}{T:α→Prop}{c:Prop}[Sj c]{a b:Yn α}(h1:Inn n T a)(h2:Inn n T b):Inn n T (if c then a else b):=by
 split
 ·exact h1
 ·exact h2
section
variable {n:Ah}
theorem lF {p:Bk Ah}(h:PB n p):∀ f m,Inn n (fun _=>Jz) (Zh p f m)
 |0,m=>trivial
 |f+1,m=>⟨h _,h _,fun b=>yA trivial (lF h f (m+1))⟩
theorem p8:∀ (f:Ah) {p:Bk Ah} (m q:Ah),PB n p→Inn n (fun o=>PB n o.1) (Xy f p m q)
 |0,p,m,q,h=>h
 |f+1,p,m,q,h=>⟨h _,h _,fun b=>yA (yA (p8 f _ _ (h.perm (yL _ _ _))) (p8 f _ _ h)) ⟨h _,h _,fun d=>yA h (p8 f _ _ h)⟩⟩
theorem dW {p:Bk Ah}(h:PB n p)(m N:Ah):Inn n (fun o=>PB n o.2) (Zi m N p):=Inn.bind (lF (h.perm (yL _ _ _)) _ _) fun _ _=>h.perm (yL _ _ _)
theorem b6 {p:Bk Ah}(h:PB n p)(m N:Ah):Inn n (fun o=>PB n o.2) (Vr m N p):=Inn.bind (p8 _ _ _ h) fun o ho=>yA (dW (ho.perm (yL _ _ _)) _ _) (dW ho _ _)
theorem XZ {p:Bk Ah}(h:PB n p)(N:Ah):Inn n (fun o=>PB n o.2) (Wm N p):=Inn.bind (lF h _ _) fun m _=>yA h (yA ⟨h _,h _,fun b=>yA h (b6 (h.perm (yL _ _ _)) _ _)⟩ (b6 h _ _))
theorem b7 {p:Bk Ah}(h:PB n p)(k:Ah):∀ f l r,Inn n (fun _=>Jz) (Wn p k f l r)
 |0,l,r=>trivial
 |f+1,l,r=>yA (T:=fun _=>Jz) trivial ⟨h _,h _,fun b=>yA (b7 h k f _ _) (b7 h k f _ _)⟩
theorem iQ:∀ (f:Ah) {p:Bk Ah} (k:Ah),PB n p→Inn n (fun _=>Jz) (kas_bin f p k)
 |0,p,k,h=>trivial
 |f+1,p,k,h=>Inn.bind (b7 h k k 0 k) fun l _=>iQ f (k+1) (h.perm (bubble_perm _ _ _))
theorem eT (hn:0<n):Inn n (fun _=>Jz) (Na n):=by
 have h:PB n (Lf (Cy n)):=fun k=>by
  by_cases hk:k<n
  ·simp[Hz,hk]
  ·simp[Hz,hk,hn]
 exact Inn.bind (XZ h n) fun o ho=>yA (iQ _ _ ho) (show Inn n (fun _=>Jz) (.ret o.2) from trivial)
end
structure Cmps (prog:Bh)(w:Bv)(h0:Bi)(vs:Ab Ac)(f:Ah→Ah→As):Prop where
 ex:∃ κ,∀ (A:Bo),A.units+8<Ds→∀ (s:Ag),Sup h0 s.heap→(∀ (Q:SortKind→Ag→Prop) (E:Ac→Ag→Prop),Q κ s→Ap (Aw prog w) A (keyKind' vs.toArray) Q E s)∧∀ i j (C:As→Ag→Prop),i<vs.length→j<vs.length→C (f i j) s→Zj prog w A κ vs i j C s
theorem sN {n:Ah}{f g:Ah→Ah→As}(h:∀ i j,i<n→j<n→f i j=g i j){α : Type}{T:α→Prop}:∀ t:Yn α,Inn n T t→run f t=run g t
 |.ret _,_=>rfl
 |.ask i j k,⟨h1,h2,h3⟩=>by
  show run f (k (f i j))=run g (k (g i j));rw[h i j h1 h2];exact sN h _ (h3 _)
section
variable {prog:Bh}{w:Bv}{A:Bo}{E:Ac→Ag→Prop}{s:Ag}
theorem GA {K:Type}{is:K→Ac→Prop}{lt':K→K→As}{d:K}(O:Ord lt')(inj:∀ {k k':K} {v:Ac},is k v→is k' v→k=k'){a:Af}{vs:Ab Ac}{ks:Ab K}{n:Ah}{h0:Bi}{P:PySem.Fin→Ag→Prop}(hlen:vs.length=ks.length)(hks:∀ i v,vs[i]? = Aa v→is (ks.getD i d) v)(ho:s.heap.get? a=Aa (Dw "list" vs.toArray n))(hu:A.units+8<Ds)(hz:vs.length≤63)(c:2≤vs.length→Cmps prog w h0 vs (gG lt' ks d))(hS:Sup h0 s.heap)(ha:h0.get? a=none)
  (h:∀ ps:Ab (K × Ac),ps.Perm (ks.zip vs)→Nf lt' (ps.map (·.1))→P (.done (.ret .none)) { s with heap:=sortedHeap s.heap a vs (ps.map (·.2)).toArray }) : Ap (Aw prog w) A (He.«list.sort» ⟨[.ref a],[]⟩) P E s:=by
 rw[list_sort_plain];have hb:a<s.heap.objs.size:=Ax ho;have hsz:vs.toArray.size=vs.length:=by simp
 refine Ad (listItems_at ho rfl (Ad (listUpdate_at ho rfl ?_ (by rw[hsz,Fk];omega) (Gn _))))
 obtain⟨e1,ho1⟩:∃ e1,(s.heap.update a (Ef fun _=>#[])).get? a=Aa (Dw "list" #[] e1):=⟨_,Kx ho (fun _=>#[])⟩;refine Ad (seqEpoch_at ho1 rfl (Ad (wpAny_newTuple (Ad (Uj (Dj ?_) (Gn _))) (by show vs.length≤_;rw[Fk];omega))))
 have ho6:(((s.heap.update a (Ef fun _=>#[])).push (Dw "tuple" vs.toArray 0)).push (Dw "list" #[] 0)).get? a=Aa (Dw "list" #[] e1):=
  Ai _ (Ai _ ho1)
 have S6:Sup h0 (((s.heap.update a (Ef fun _=>#[])).push (Dw "tuple" vs.toArray 0)).push (Dw "list" #[] 0)):=fun b o e =>
  Ai _ (Ai _ ((Bs _ _ (fun z:a=b=>by rw[← z,ha] at e;cases e)).trans (hS b o e)))
 show Ap (Aw prog w) A _ P E { s with heap:=((s.heap.update a (Ef fun _=>#[])).push (Dw "tuple" vs.toArray 0)).push (Dw "list" #[] 0) }
 dsimp only;have fin:∀ (st':SortSt) (ps:Ab (K × Ac)),(arrOf st').map (·.2)=(ps.map (·.2)).toArray→failedOf st'=none→ps.Perm (ks.zip vs)→Nf lt' (ps.map (·.1))→Ap (Aw prog w) A (do
   let touched:=(← seqEpoch a) != e1
   Zz (.ref a) fun _=>(arrOf st').map (·.2)
   if let Aa e:=failedOf st' then rule "list.sort.comparison-raised";throw e
   if touched then rule "list.sort.modified";raiseError "ValueError" "list modified during sort"
   ret .none) P E { s with heap:=((s.heap.update a (Ef fun _=>#[])).push (Dw "tuple" vs.toArray 0)).push (Dw "list" #[] 0) }:=by
  intro st' ps h1 h2 h3 h4;have hl:(ps.map (·.2)).length=vs.length:=by rw[Ar,h3.length_eq,XV,hlen,Qu]
  refine Ad (seqEpoch_at ho6 rfl ?_);rw[h1];refine Ad (listUpdate_at ho6 rfl ?_ (Gn _) (by show (ps.map (·.2)).toArray.size≤_;rw[Be,hl,Fk];omega))
  rw[h2];simp only[bne_self_eq_false,Bn,Dt];exact Al (h ps h3 h4)
 by_cases h2:vs.toArray.size<2
 ·rw[AT h2,AT h2]
  refine Ad (Al ?_);rw[StateT.run_pure];refine Ad (Al ?_);refine fin (SortSt.mk' general' (vs.toArray.zip vs.toArray) #[] 7 none) (ks.zip vs) ?_ rfl (Yr _) ?_
  ·show (vs.toArray.zip vs.toArray).map (·.2)=_
   apply Array.toList_inj.mp;simp[List.map_snd_zip,hlen]
  ·rw[Qo (by omega)]
   match ks,hlen with
   |[],_=>exact Lq
   |[_],_=>exact List.pairwise_singleton _ _
   |_::_::_,e=>simp at e h2;omega
 ·rw[Bc h2,Bc h2]
  have h2':2≤vs.length:=by omega
  obtain⟨κ,C⟩:=c h2';obtain⟨k1,k2⟩:=C A hu { s with heap:=((s.heap.update a (Ef fun _=>#[])).push (Dw "tuple" vs.toArray 0)).push (Dw "list" #[] 0) } S6
  have km:∀ i,i<vs.length→ks.getD i d∈ks:=fun i hi=>by
   have:i<ks.length:=by omega
   simp[Gg,this]
  have rc:run (gG lt' ks d) (Na vs.length)=run (lt fun i=>nN lt' ks (ks.getD i d)) (Na vs.length):=sN (fun i j hi _=>cW O (km i hi)) _ (eT (n:=vs.length) (by omega))
  obtain⟨sp1,sp2⟩:=YO (r:=fun i=>nN lt' ks (ks.getD i d)) (n:=vs.length) (by omega)
  rw[← rc] at sp1 sp2;refine Ad (k1 _ _ ?_);refine Ad (Hw (kat_run (ks:=vs) (vs:=vs) (Q:=fun st' s'=>(arrOf st').map (·.2)=((run (gG lt' ks d) (Na vs.length)).toList.map fun i=>vs.getD i Ed).toArray∧failedOf st'=none∧s'={ s with heap:=((s.heap.update a (Ef fun _=>#[])).push (Dw "tuple" vs.toArray 0)).push (Dw "list" #[] 0) })
   (G:=fun p s'=>p=run (gG lt' ks d) (Na vs.length)∧s'={ s with heap:=((s.heap.update a (Ef fun _=>#[])).push (Dw "tuple" vs.toArray 0)).push (Dw "list" #[] 0) }) rfl h2' (by omega) (fun p st' s' a1 a2 a3 a4=>⟨?_,a3,a4.2⟩) (V2 k2 _ (eT (by omega)) ⟨rfl,rfl⟩)) ?_ fun _ _ e=>e)
  ·rw[kat_snds rfl a2,a4.1]
  ·rintro⟨⟨⟩,st'⟩ s' ⟨q1,q2,rfl⟩
   generalize run (gG lt' ks d) (Na vs.length)=p at sp1 sp2 q1;have bd:∀ i (hi:i<p.toList.length),p.toList[i]<vs.length:=fun i hi=>Eg.mp (sp1.mem_iff.mp (Gk hi));refine fin _ (p.toList.map fun i=>(ks.getD i d,vs.getD i Ed)) ?_ q2 ?_ ?_
   ·rw[q1,Gv];rfl
   ·refine(sp1.map _).trans (List.Perm.of_eq ?_)
    apply Mn
    ·simp[hlen]
    ·intro i h1 h2
     have h3:i<vs.length:=by simpa using h1
     have h4:i<ks.length:=by omega
     simp[h3,h4]
   ·rw[Gv]
    unfold Nf;rw[Gb];refine Pm.mpr fun i j hi hj hij=>?_;have hp:=sp1.length_eq;rw[Fm] at hp;have u:=sp2 i j (Gm hij) (by omega)
    have gd:∀ k (hk:k<p.toList.length),p.getD k 0=p.toList[k]:=fun k hk=>by
     have:k<p.size:=by simpa using hk
     simp[Hz,this]
    unfold ky at u;rw[gd i hi,gd j hj] at u;show lt' (ks.getD p.toList[j] d) (ks.getD p.toList[i] d)=false;rw[cW O (km _ (bd j hj))];exact Bu (Np.mpr u)
end
section
variable {prog:Bh}{w:Bv}{h0:Bi}
theorem FF {A:Bo}{s:Ag}{b:As}{Q:As→Ag→Prop}:∀ {xs ys:Ab Aj} {us vs:Ab Ac} {i:Ah} {N M:Ah},ItemsAre (Bf prog w) xs us→ItemsAre (Bf prog w) ys vs→N+ys.length=M+xs.length→Q (_H.lexLt xs ys) s→KatLex prog w A b (decide (N<M)) Q (us.zip vs) i s:=by
 intro xs ys us vs i N M hx
 induction hx generalizing ys vs i with
 |nil =>
  intro hy hl h;cases hy with
  |nil =>
   have:decide (N<M)=false:=Bu (by simp at hl;omega)
   rw[this];exact h
  |@cons k v ys vs q r =>
   have:decide (N<M)=true:=Cn (by simp at hl;omega)
   rw[this];exact h
 |@cons x u xs us qx rx ih =>
  intro hy hl h;cases hy with
  |nil =>
   have:decide (N<M)=false:=Bu (by simp at hl;omega)
   rw[this];exact h
  |@cons y v ys vs qy ry =>
   obtain⟨t,rfl⟩:=vG (prog:=prog) (w:=w) qx;obtain⟨t',rfl⟩:=vG (prog:=prog) (w:=w) qy;rw[Hm];refine kat_cons (Wr ?_);rw[_H.lexLt_cons] at h;refine kat_go (fun e=>kat_yes ?_) fun e=>kat_no ?_
   ·rw[AT (by simpa using e)] at h
    exact ih ry (by simp at hl;omega) h
   ·rw[Bc (by simpa using e)] at h
    cases b&&i == 0 with
    |true=>exact oneLt_int h
    |false=>exact kat_one _ _ (Ni h)
theorem oV {h:Bi}:∀ {vs:Ab Ac} {ks:Ab (Ab Aj)},vs.length=ks.length→(∀ i v,vs[i]? = Aa v→isT prog w h (ks.getD i []) v)→(∀ k∈ks,k≠[])→∃ fs,KatTups h vs fs∧fs.length=vs.length∧∀ f∈fs,∃ n t,f=Ov n t
 |[],[],_,_,_=>⟨[],trivial,rfl,fun f hf=>by simp at hf⟩
 |v::vs,k::ks,hl,hv,hne=>by
  obtain⟨fs,a1,a2,a3⟩:=oV (vs:=vs) (ks:=ks) (by simpa using hl) (fun i u hu=>by simpa using hv (i+1) u (by simpa using hu)) fun k hk=>hne k (by simp[hk])
  obtain⟨a,rfl,o,items,n,ho,hc,hd,hi⟩:=hv 0 v rfl;have hk:k≠[]:=hne k (by simp)
  have hi':ItemsAre (Bf prog w) k items.toList:=hi;cases hz:items.toList with
  |nil=>rw[hz] at hi';cases hi';exact absurd rfl hk
  |cons f rest =>
   rw[hz] at hi';cases hi' with
   |cons q _ =>
    obtain⟨t,rfl⟩:=vG (prog:=prog) (w:=w) q;refine⟨_::fs,ZB ho hc hd (by rw[← Bz,hz];rfl) a1,by simp[a2],fun f hf=>?_⟩
    rcases Av.mp hf with rfl|hf
    ·exact⟨_,_,rfl⟩
    ·exact a3 f hf
theorem NG {vs:Ab Ac}{ks:Ab (Ab Aj)}(hl:vs.length=ks.length)(hv:∀ i v,vs[i]? = Aa v→isT prog w h0 (ks.getD i []) v)(hne:∀ k∈ks,k≠[])(h2:2≤vs.length):Cmps prog w h0 vs (gG _H.lexLt ks []):=by
 refine⟨tuples' (Hd "int" != Hd "tuple"),fun A hu s hS=>⟨fun Q E h=>?_,fun i j C hi hj h=>?_⟩⟩
 ·obtain⟨fs,a1,a2,a3⟩:=oV (h:=s.heap) hl (fun i v hv'=>by obtain⟨a,e,q⟩:=hv i v hv';exact⟨a,e,jG hS q⟩) hne
  refine kat_kind a1 (by omega) (fun v hv'=>?_) (by decide) h
  obtain⟨n,t,rfl⟩:=a3 v hv';exact Zk rfl
 ·have g:∀ k (hk:k<vs.length),∃ a,vs.getD k Ed=.ref a∧Qn (Bf prog w) s.heap (ks.getD k []) a:=fun k hk=>by
   obtain⟨a,e,q⟩:=hv k vs[k] (An hk);exact⟨a,by rw[← e];simp[Gg,hk],jG hS q⟩
  obtain⟨a,ea,oa,ia,na,ha,_,da,qa⟩:=g i hi;obtain⟨b,eb,ob,ib,nb,hb,_,db,qb⟩:=g j hj;unfold Zj;rw[ea,eb];refine kat_lt ha da hb db (FF qa qb ?_ h);have la:=qa.length;have lb:=qb.length;simp only[Dc] at la lb;omega
theorem ND {vs:Ab Ac}{ks:Ab Aj}(hl:vs.length=ks.length)(hv:∀ i v,vs[i]? = Aa v→isI prog w (ks.getD i 0) v)(h2:2≤vs.length):Cmps prog w h0 vs (gG ltI ks 0):=by
 have hi:∀ v∈vs,∃ n t,v=Ov n t:=fun v hm=>by
  obtain⟨i,hi,e⟩:=Ct.mp hm;obtain⟨t,q⟩:=vG (hv i v (by rw[An hi,e]))
  exact⟨_,t,q⟩
 refine⟨oneType',fun A hu s hS=>⟨fun Q E h=>?_,fun i j C hi hj h=>?_⟩⟩
 ·obtain⟨v₁,v₂,rest,rfl⟩:∃ v₁ v₂ rest,vs=v₁::v₂::rest:=by
   match vs,h2 with
   |v₁::v₂::rest,_=>exact⟨v₁,v₂,rest,rfl⟩
  rw[keyKind_ints (intsAre_map _ hi)];exact Al h
 ·have g:∀ k (hk:k<vs.length),∃ t,vs.getD k Ed=.int (ks.getD k 0) t:=fun k hk=>by
   obtain⟨t,q⟩:=vG (hv k vs[k] (An hk));exact⟨t,by rw[← q];simp[Gg,hk]⟩
  obtain⟨t,et⟩:=g i hi;obtain⟨u,eu⟩:=g j hj;unfold Zj;rw[et,eu];exact kat_lt_int h
end
section
variable {K:Type}{lt':K→K→As}
theorem V3 {α : Type}{ks:Ab K}{vs:Ab α}{d:K}(hl:vs.length=ks.length){p:K × α}(h:p∈ks.zip vs):∃ i,vs[i]? = Aa p.2∧ks.getD i d=p.1:=by
 obtain⟨i,hi,e⟩:=Ct.mp h;have h1:i<ks.length:=by rw[XV] at hi;omega
 have h2:i<vs.length:=by omega
 rw[List.getElem_zip] at e;subst e;exact⟨i,An h2,by simp[h1]⟩
end
structure Kind (prog:Bh)(w:Bv){K:Type}(is:K→Ac→Prop)(hash:K→Aj)(lt':K→K→As)(d:K)(Fit:K→Prop)(h0:Bi):Prop where
 ord:Ord lt'
 inj:∀ {k k':K} {v:Ac},is k v→is k' v→k=k'
 cmps:∀ {vs:Ab Ac} {ks:Ab K},vs.length=ks.length→(∀ i v,vs[i]? = Aa v→is (ks.getD i d) v)→(∀ k∈ks,Fit k)→2≤vs.length→Cmps prog w h0 vs (gG lt' ks d)
theorem HU (prog:Bh)(w:Bv)(h0:Bi):Kind prog w (isT prog w h0) (Bj (Bf prog w)) _H.lexLt [] (·≠[]) h0:=⟨xU,isT.inj,fun h1 h2 h3 h4=>NG h1 h2 h3 h4⟩
theorem HR (prog:Bh)(w:Bv)(h0:Bi):Kind prog w (isI prog w) (Bf prog w).hash ltI 0 (fun _=>Jz) h0:=⟨JD,fun a b=>(Bf prog w).inj _ _ _ a b,fun h1 h2 _ h4=>ND h1 h2 h4⟩
section
variable {prog:Bh}{w:Bv}{A:Bo}{E:Ac→Ag→Prop}{s:Ag}{K:Type}{is:K→Ac→Prop}{hash:K→Aj}{lt':K→K→As}{d:K}{Fit:K→Prop}{h0:Bi}{S:Af}{V:Ab Ac}{seen:Ab K}
open Classical in
def kOf (is:K→Ac→Prop)(d:K)(e:Aj × Ac):K:=if h:∃ k,is k e.2 then choose h else d
open Classical in
theorem D3 {e:Aj × Ac}(h:∃ k,is k e.2):is (kOf is d e) e.2:=by
 unfold kOf;rw[dif_pos h];exact choose_spec h
theorem ZL {Q:Ac→Ag→Prop}(kd:Kind prog w is hash lt' d Fit h0)(hh:A.handled=none)(hu:A.units+16<Ds)(hS:Sup h0 s.heap)(Z:SetK is hash S (yQ w) V seen s.heap)(hf:∀ k∈seen,Fit k){U:Ab K}(hU:U.length≤63)(hU1:∀ k∈seen,k∈U)
  (h:∀ h' tk D c (ps:Ab (K × Ac)),(∀ b o,s.heap.get? b=Aa o→h'.get? b=Aa o)→s.heap.objs.size≤D→h'.get? D=Aa (Dw "list" (ps.map (·.2)).toArray c)→ps.map (·.1)=srt lt' seen→(∀ p∈ps,is p.1 p.2∧p.2∈V)→ps.length≤63→Q (.ref D) { s with heap:=h',toks:=tk }) :
  Ap (Aw prog w) A (call (.builtin "sorted") [.ref S]) Q E s:=by
 obtain⟨es,ep,t,ho,Z0,T,hl,hV⟩:=Z;have st:Still w S es ep t:=⟨T,hl⟩;have hn:es.size≤63:=by
  have:=mH es.toList U Z0.nd fun e he=>by
   obtain⟨k',_,q⟩:=Z0.good e he;exact⟨k',hU1 k' ((Z0.mem k').mpr ⟨e,he,q⟩),q⟩
  rw[Dc] at this;omega
 have op:=nB w S ep es;have osz:=jR w S ep es;have good:∀ e∈(qS w S ep es).toList,is (kOf is d e) e.2∧e.2∈V:=fun e he=>by
  have he':=op.mem_iff.mp he;obtain⟨k,_,q⟩:=Z0.good e he';exact⟨D3 ⟨k,q⟩,hV e he'⟩
 have nd0:(qS w S ep es).toList.Pairwise fun a b=>∀ k,is k a.2→¬ is k b.2:=(op.pairwise_iff fun {x y} h k hy hx=>h k hx hy).mpr Z0.nd;generalize hoe:(qS w S ep es).toList=oe at *;have hoel:oe.length≤63:=by rw[op.length_eq,Dc];exact hn
 have hks:∀ i v,(oe.map (·.2))[i]? = Aa v→is ((oe.map (kOf is d)).getD i d) v∧v∈V:=fun i v hv=>by
  rw[Dm] at hv;cases hi:oe[i]? with
  |none=>rw[hi] at hv;cases hv
  |some e =>
   rw[hi] at hv;cases hv;have g:=good e (Ca hi);have:(oe.map (kOf is d)).getD i d=kOf is d e:=by rw[Gr,Dm,hi];rfl
   rw[this];exact g
 have nd:(oe.map (kOf is d)).Nodup:=by
  unfold xL;rw[Gb];refine Qb (fun {a b} ha hb h e=>?_) nd0;exact h _ (good a ha).1 (e▸(good b hb).1)
 have mem:∀ x,x∈oe.map (kOf is d)↔x∈seen:=fun x=>by
  rw[Z0.mem,Bt];constructor
  ·rintro⟨e,he,rfl⟩
   exact⟨e,op.mem_iff.mp he,(good e he).1⟩
  ·rintro⟨e,he,q⟩
   exact⟨e,op.mem_iff.mpr he,kd.inj (good e (op.mem_iff.mpr he)).1 q⟩
 have hlen:(oe.map (·.2)).length=(oe.map (kOf is d)).length:=by simp
 refine Pq kind_sorted plain_sorted entry_sorted (args_sorted1 _) ?_;unfold He.«sorted»;refine Ad (m:=checkCount "sorted" 1 1 _) (Al ?_);refine Ad (aM hh st ho (by omega) fun h1 tk1 kp1 hlt=>?_)
 rw[hoe];refine Ad (Uj ?_ (by rw[Fk,Ar];omega))
 have hD:(h1.push (Dw "list" (oe.map (·.2)).toArray 0)).get? h1.objs.size=Aa (Dw "list" (oe.map (·.2)).toArray 0):=Az _ rfl
 have n0:h0.get? h1.objs.size=none:=by
  cases q:h0.get? h1.objs.size with
  |none=>rfl
  |some o=>exact absurd (Ax (hS _ _ q)) (Hy.mpr (Gm hlt))
 show Ap _ _ _ _ _ { s with heap:=h1.push (Dw "list" (oe.map (·.2)).toArray 0),toks:=tk1 }
 refine Ad (Dj (Eh slot_list_sort ⟨_,hD,rfl⟩ Ya (GA (h0:=h0) (is:=is) kd.ord kd.inj (d:=d) (vs:=oe.map (·.2)) hlen (fun i v hv=>(hks i v hv).1) hD (by show A.units+2+8<Ds;omega) (by rw[Ar];omega) (fun h2=>kd.cmps hlen (fun i v hv=>(hks i v hv).1) (fun k hk=>hf k ((mem k).mp hk)) h2) (fun b o e=>Ai _ (kp1 b o (hS b o e))) n0 fun ps pm nf=>⟨_,rfl,?_⟩) (args_list_sort _)))
 refine Al ⟨_,rfl,?_⟩;have hz:(h1.push (Dw "list" (oe.map (·.2)).toArray 0)).objs.size=h1.objs.size+1:=size_push' ..
 have old:∀ b o,b≠h1.objs.size→(h1.push (Dw "list" (oe.map (·.2)).toArray 0)).get? b=Aa o→((((h1.push (Dw "list" (oe.map (·.2)).toArray 0)).update h1.objs.size (Ef fun _=>#[])).push (Dw "tuple" (oe.map (·.2)).toArray 0)).push (Dw "list" #[] 0)).get? b=Aa o:=fun b o hb e =>
  Ai _ (Ai _ ((Bs _ _ (Ea hb)).trans e))
 obtain⟨e1,he1⟩:∃ e1,((h1.push (Dw "list" (oe.map (·.2)).toArray 0)).update h1.objs.size (Ef fun _=>#[])).get? h1.objs.size=Aa (Dw "list" #[] e1):=⟨_,Kx hD (fun _=>#[])⟩
 have he6:=Kx (Ai (Dw "list" #[] 0) (Ai (Dw "tuple" (oe.map (·.2)).toArray 0) he1)) (fun _=>(ps.map (·.2)).toArray)
 have pk:(ps.map (·.1)).Perm (oe.map (kOf is d)):=by
  have:=pm.map (·.1)
  rwa [Qo (by omega)] at this
 refine h _ tk1 h1.objs.size _ ps (fun b o e=>?_) (Gm hlt) he6 (DR kd.ord nf (pk.nodup_iff.mpr nd) fun x=>by rw[pk.mem_iff,mem]) (fun p hp=>?_) (by have:=pk.length_eq;rw[Ar,Ar] at this;omega)
 ·have hb:b≠h1.objs.size:=fun z=>by
   subst z;exact absurd (Ax e) (Hy.mpr (Gm hlt))
  exact(Bs _ _ (Ea hb)).trans (old b o hb (Ai _ (kp1 b o e)))
 ·obtain⟨i,e1,e2⟩:=V3 (d:=d) hlen (pm.mem_iff.mp hp)
  exact e2▸hks i _ e1
end
end _S
namespace _D
open PySem PySem.Spec PyProof.Rows _L
def vR:Ab D→Am (Ab (Ab Aj))
 |[]=>Aa []
 |.tup ys::r=>(vF ys).bind fun k=>(vR r).map (k::·)
 |_::_=>none
def tpD (k:Ab Aj):D:=.tup (k.map D.int)
theorem aI:∀ {ds:Ab D} {ks:Ab (Ab Aj)},vR ds=Aa ks→ds=ks.map tpD
 |[],ks,h=>by cases h;rfl
 |d::r,ks,h=>by
  cases d with
  |tup ys =>
   obtain⟨k,h1,h2⟩:=EQ.mp (show (vF ys).bind (fun k=>(vR r).map (k::·))=Aa ks from h)
   obtain⟨m,h3,rfl⟩:=Ep.mp h2;rw[aI h3,p9 h1];rfl
  |_=>cases h
theorem jH (ks:Ab (Ab Aj)):vR (ks.map tpD)=Aa ks:=by
 induction ks with
 |nil=>rfl
 |cons k ks ih =>
  show (vF (k.map D.int)).bind (fun k=>(vR (ks.map tpD)).map (k::·))=_
  rw[b8,ih];rfl
def wY (xs:Ab D):Am (Ab D):=match vF xs with
 |some ns=>if (_S.srt _S.ltI ns).length≤63 then Aa ((_S.srt _S.ltI ns).map D.int) else none
 |none=>match vR xs with
  |some ks=>if ((_S.srt _H.lexLt ks).length≤63&&ks.all fun k=>!k.isEmpty) then Aa ((_S.srt _H.lexLt ks).map tpD) else none
  |none=>none
def mQ:D→Am (Ab D)
 |.lst xs=>Aa xs
 |.tup xs=>Aa xs
 |_=>none
def xN (f:DE):DE:=fun env S=>(f env S).bind fun d S1=>match (mQ d).bind wY with
 |some ys=>.ok (.lst ys) S1
 |none=>.bad
theorem K4 {K:Type}{lt':K→K→As}(O:_S.Ord lt')(ks:Ab K)(d:K):_S.srt lt' (_S.vD (fun i=>ks.getD i d) ks.length)=_S.srt lt' ks:=
 _S.fP O (_S.jF O _) (_S.jF O _) fun x=>by
  rw[_S.vJ O,_S.vJ O,_S.gA];constructor
  ·rintro⟨i,hi,rfl⟩
   simp[Gg,hi]
  ·intro hx
   obtain⟨i,hi,e⟩:=Ct.mp hx;exact⟨i,hi,by simp[Gg,hi,e]⟩
section
variable {X:Cx}{pins:Ab (Af × Co)}{σ : _L.St}{H P:Hp}{α : Ab Af}{S:Sto}{s:Ag}
inductive NewL (X:Cx)(pins:Ab (Af × Co))(σ : _L.St)(P:Hp)(α : Ab Af)(S:Sto)(ys:Ab D)(u:Ac)(s':Ag):Prop
 |mk (v:V) (H' P':Hp) (I:Inv X pins σ H' s') (rv:qI v u) (r:Rel X.K H' P' α S) (e:qH P P') (rp:Rep X.K P' α (.lst ys) v):NewL X pins σ P α S ys u s'
theorem nR {K:Type}{is:K→Ac→Prop}{hash:K→Aj}{lt':K→K→As}{d:K}{Fit:K→Prop}(kd:_S.Kind X.prog X.w is hash lt' d Fit s.heap)(ad:_S.AddS X.prog X.w is hash s.heap)(hc:X.calm=true)(hu:X.A.units+64<Ds)(I:Inv X pins σ H s)(r:Rel X.K H P α S){a:Af}{its:Ab Ac}
  (ha:s.heap.IsList a its.toArray∨s.heap.IsTuple a its.toArray) (ks:Ab K) (hl:ks.length=its.length) (hk:∀ i v,its[i]? = Aa v→is (ks.getD i d) v) (hn:(_S.srt lt' ks).length≤63) (hf:∀ k∈ks,Fit k) (enc:K→D)
  (back:∀ k v,is k v→v∈its→∃ vv,qI vv v∧Rep X.K P α (enc k) vv) {E:Ac→Ag→Prop} :
  Ap (Aw X.prog X.w) X.A (call (.type "set") [.ref a]) (fun u s1=>Ap (Aw X.prog X.w) X.A (call (.builtin "sorted") [u]) (NewL X pins σ P α S ((_S.srt lt' ks).map enc)) E s1) E s:=by
 have hsz:its.toArray.size=ks.length:=by rw[Be,hl]
 have mem:∀ k,k∈_S.srt lt' ks↔k∈ks:=fun k=>_S.vJ kd.ord k ks;have inn:∀ i,i<ks.length→ks.getD i d∈ks:=fun i hi=>by simp[Gg,hi]
 refine _S.QC (U:=_S.srt lt' ks) ad (I.ok.hd hc) om ha (fun i=>ks.getD i d) (fun i v hv=>hk i v (by simpa using hv)) om (fun i hi=>(mem _).mpr (inn i (by rw[← hsz];exact hi))) fun h1 tk1 Z kp=>?_
 have seen:∀ k∈_S.vD (fun i=>ks.getD i d) its.toArray.size,k∈ks:=fun k hk'=>by
  obtain⟨i,hi,rfl⟩:=_S.gA.mp hk';exact inn i (by rw[← hsz];exact hi)
 have I1:Inv X pins σ H { s with heap:=h1,toks:=tk1 }:=I.kept kp
 refine _S.ZL (s:={ s with heap:=h1,toks:=tk1 }) kd (I.ok.hd hc) om kp Z (fun k hk'=>hf k (seen k hk')) (U:=_S.srt lt' ks) om (fun k hk'=>(mem k).mpr (seen k hk')) fun h2 tk2 D c ps kp2 hD hob hps hp hpl=>?_
 rw[hsz,K4 kd.ord] at hps;have vv:∀ (ps:Ab (K × Ac)),(∀ p∈ps,is p.1 p.2∧p.2∈its)→∃ vs,qN vs (ps.map (·.2))∧qF X.K P α ((ps.map (·.1)).map enc) vs:=by
  intro ps
  induction ps with
  |nil=>exact fun _=>⟨[],.nil,.nil⟩
  |cons p ps ih =>
   intro h;obtain⟨vs,a1,a2⟩:=ih fun q hq=>h q (by simp[hq])
   obtain⟨v,b1,b2⟩:=back p.1 p.2 (h p (by simp)).1 (h p (by simp)).2
   exact⟨v::vs,.cons b1 a1,.cons b2 a2⟩
 obtain⟨vs,a1,a2⟩:=vv ps fun p hpm=>by simpa using hp p hpm
 rw[hps] at a2;have nd:([(D,HO.lst vs)].map (·.1)).Nodup:=by simp
 have I2:Inv X pins σ (yG H [(D,HO.lst vs)]) { s with heap:=h2,toks:=tk2 }:=Inv.laidL (s:={ s with heap:=h1,toks:=tk1 }) (L:=[(D,HO.lst vs)]) (t':=tk2) I1 kp2 (fun p hpm=>by
  have:p=(D,HO.lst vs):=by simpa using hpm
  subst this;exact hD) fun p hpm=>by
  have:p=(D,HO.lst vs):=by simpa using hpm
  subst this;refine⟨?_,ps.map (·.2),c,a1,hob⟩
  have:=a1.length;rw[Ar] at this;rw[this,Fk];omega
 obtain⟨r2,e2⟩:=r.pureL (L:=[(D,HO.lst vs)]) (fun p hpm=>I1.hok.fresh (by
  have:p=(D,HO.lst vs):=by simpa using hpm
  subst this;exact hD)) nd
 exact⟨.ref D,_,_,I2,rfl,r2,e2,fK (.inl (.inl (mS nd (by simp)))) (qF.mono e2 (Bg _) _ _ a2)⟩
end
section
variable {X:Cx}{e:Bq}{fa:DE}{p1 p2 pos1 pos2:Ez}
theorem dH:Gc "sorted" = Aa (.builtin "sorted"):=by decide +kernel
theorem iU {prog:Bh}{w:Bv}:∀ {k:Ab Aj} {us:Ab Ac},qN (k.map V.int) us→ItemsAre (Bf prog w) k us
 |[],us,h=>by cases h;exact .nil
 |i::k,us,h=>by
  cases h with
  |cons q t =>
   obtain⟨tk,rfl⟩:=q;exact .cons (Yl _ _ _ _) (iU t)
theorem E4 {pins:Ab (Af × Co)}{σ : _L.St}{H P:Hp}{α : Ab Af}{S:Sto}{s:Ag}{d:D}{xs:Ab D}{v:V}{vv:Ac}(I:Inv X pins σ H s)(r:Rel X.K H P α S)(p:Rep X.K P α d v)(q:qI v vv)(h:mQ d=Aa xs) :
  ∃ a vs its,vv=.ref a∧qF X.K P α xs vs∧qN vs its∧(s.heap.IsList a its.toArray∨s.heap.IsTuple a its.toArray)∧xs.length=its.length:=by
 cases d with
 |lst ys =>
  cases h;obtain⟨a,vs,its,n,rfl,_,t,rv,e,l,_⟩:=uH I r p;exact⟨a,vs,its,q,t,rv,.inl ⟨_,e,rfl,n,rfl⟩,l⟩
 |tup ys =>
  cases h;obtain⟨a,vs,its,rfl,_,t,rv,⟨o,e,hc,n,hd⟩,l,_⟩:=uR I r p;exact⟨a,vs,its,q,t,rv,.inr ⟨o,e,hc,n,hd⟩,l⟩
 |_=>cases h
set_option tactic.hygienic true in
theorem QM (hc:X.calm=true)(hu:X.A.units+64<Ds)(hg:Gl X "sorted")(hm:X.mg "sorted" = none)(hg2:Gl X "set")(hm2:X.mg "set" = none)(ha:PE X e (tD X fa))(he:Bb [e] X.env=(false,eval e X.env)::Bb [] X.env:=by rfl) :
  PE X (.Call (.Name "sorted" p1) [.Call (.Name "set" p2) [e] [] pos2] [] pos1) (tD X (xN fa)):=by
 intro pins s σ H Q I h;obtain⟨P,α,env,S,r,re,af⟩:=h;refine Gf (uF I hg hm dH ?_);refine Iu ?_ rfl rfl;refine La ?_;refine Call_ (uF I hg2 hm2 VD (Hl ?_ he rfl));rw[he];refine La (thn (xH ha I r re af) fun vv s1 ⟨v,H1,P1,α1,d,S1,G1,af1⟩=>Lp ?_);cases hq:(mQ d).bind wY with
 |none=>simp only[hq] at af1;exact Ao af1
 |some ys =>
   simp only[hq] at af1;obtain⟨xs,hd,hs⟩:=EQ.mp hq;obtain⟨a,vs,its,rfl,t1,rv1,e1,l1⟩:=E4 G1.inv G1.rel G1.rep G1.val hd;have main:Ap (Aw X.prog X.w) X.A (call (.type "set") [.ref a]) (fun u s1=>Ap (Aw X.prog X.w) X.A (call (.builtin "sorted") [u]) (NewL X pins σ P1 α1 S1 ys) X.xe s1) X.xe s1:=by
    unfold wY at hs;cases hi:vF xs with
    |some ns =>
     rw[hi] at hs;dsimp only at hs
     split at hs
     ·rename_i hlt
      cases hs;have:=p9 hi;subst this;have:=g9 t1;subst this;refine nR (d:=0) (_S.HR X.prog X.w s1.heap) (_S.TV s1.heap) hc hu G1.inv G1.rel e1 ns (by simpa using l1) (fun i u hu'=>?_) hlt (fun _ _=>trivial) D.int fun k u hk _=>?_
      ·have hi:Jc its ns:=by simpa using tJ rv1
       obtain⟨t,rfl⟩:=Ys hi i u hu';exact Yl _ _ _ _
      ·obtain⟨t,rfl⟩:=_S.vG hk
       exact⟨.int k,⟨t,rfl⟩,by simp only[Rep]⟩
     ·cases hs
    |none =>
     rw[hi] at hs;dsimp only at hs;cases ht:vR xs with
     |none=>rw[ht] at hs;cases hs
     |some ks =>
      rw[ht] at hs;dsimp only at hs
      split at hs
      ·rename_i hlt
       cases hs;have hlt':=Em.mp hlt;have:=aI ht;subst this;have at':∀ (i:Ah) (u:Ac),its[i]? = Aa u→∃ b,u=.ref b∧Qn (Bf X.prog X.w) s1.heap (ks.getD i []) b∧∃ vv,qI vv u∧Rep X.K P1 α1 (tpD (ks.getD i [])) vv:=fun i u hu'=>by
        have hii:i<its.length:=(Ba.mp hu').1;have hik:i<ks.length:=by rw[Ar] at l1;omega
        obtain⟨v,p,q,_⟩:=v7 t1 rv1 (j:=i) (by rw[Be];exact hii)
        have hd:(ks.map tpD).getD i D.non=tpD (ks.getD i []):=by simp[Gg,hik]
        rw[hd] at p;have hu2:its.toArray[i]'(by rw[Be];exact hii)=u:=by
         rw[An hii] at hu';simpa using hu'
        rw[hu2] at q;obtain⟨b,ws,us,rfl,sq,t,rv,⟨o,ho,hcl,m,hd⟩,_,_⟩:=uR G1.inv G1.rel (show Rep X.K P1 α1 (.tup ((ks.getD i []).map D.int)) v from p)
        cases (show u=Ch b from q)
        have:=g9 t;subst this;exact⟨b,rfl,⟨o,us.toArray,m,ho,hcl,hd,by simpa using iU rv⟩,.ref b,rfl,p⟩
       refine nR (d:=[]) (_S.HU X.prog X.w s1.heap) (_S.TX s1.heap) hc hu G1.inv G1.rel e1 ks (by simpa using l1) (fun i u hu'=>?_) (Bw hlt'.1) (fun k hk=>?_) tpD fun k u hk hm'=>?_
       ·obtain⟨b,rfl,q,_⟩:=at' i u hu'
        exact⟨b,rfl,q⟩
       ·have:=Aq.mp hlt'.2 k hk
        intro z;subst z;cases this
       ·obtain⟨i,hi',rfl⟩:=Ct.mp hm'
        obtain⟨b,eb,q,w,rw',pw⟩:=at' i _ (An hi');have:k=ks.getD i []:=_S.isT.inj hk ⟨b,eb,q⟩;rw[this];exact⟨w,rw',pw⟩
      ·cases hs
   refine thn main fun u s2 h2=>Lp (thn h2 fun u' s3 ⟨v,H',P',I',rv,r',e',rp⟩=>?_);exact⟨v,H',I',rv,af1 v H' P' α1 r' (G1.same.trans e') G1.pre rp⟩
end
section
variable {X:Cx}{cm:As}{k:Ah}{e:Bq}{fa:DE}{p1 p2 pos1 pos2:Ez}
theorem ZF (hc:X.calm=true)(hr:RoomC cm k X.A)(hg:Gl X "sorted")(hm:X.mg "sorted" = none)(hg2:Gl X "set")(hm2:X.mg "set" = none)(ha:QE X e fa)(he:Bb [e] X.env=(false,eval e X.env)::Bb [] X.env:=by rfl) :
  QE X (.Call (.Name "sorted" p1) [.Call (.Name "set" p2) [e] [] pos2] [] pos1) (xN fa):=⟨QM hc hr.units hg hm hg2 hm2 ha.1 he⟩
end
end _D
section
namespace _D
open PySem PySem.Spec PyProof.Rows _L
mutual
def pyD:D→Am PyData
 |.non=>Aa .none
 |.bl b=>Aa (.bool b)
 |.int i=>Aa (.int i)
 |.str x=>Aa (.str x)
 |.tup xs=>(kJ xs).map .tuple
 |.lst xs=>(kJ xs).map .list
 |.dct0=>Aa (.dict [])
 |_=>none
def kJ:Ab D→Am (Ab PyData)
 |[]=>Aa []
 |d::ds=>(pyD d).bind fun x=>(kJ ds).map (x::·)
end
end _D
end
section
namespace _H
open PySem PyProof.Rows
def stepLo (n:Ah)(k:Aj):Aj:=(Fy none none k (n:Aj)).1
def stepHi (n:Ah)(k:Aj):Aj:=(Fy none none k (n:Aj)).2
def stepN (n:Ah)(k:Aj):Ah:=Fz (stepLo n k) (stepHi n k) k
def stepL {α : Type}(xs:Ab α)(k:Aj):Ab α:=(Cy (stepN xs.length k)).filterMap fun (m:Ah)=>xs[(stepLo xs.length k+(m:Aj)*k).toNat]?
section
variable {prog:Bh}{w:Bv}{A:Bo}{E:Ac→Ag→Prop}{s:Ag}
theorem fR {sl:Af}{k:Aj}{t:Sk}{n:Ah}{Q:Aj × Aj × Ah→Ag→Prop}(hs:s.heap.IsSliceOf sl .none .none (.int k t))(hk:k≠0)
  (h:Q (stepLo n k,k,stepN n k) s):Ap (Aw prog w) A (Hu (.ref sl) (pure (n:Aj))) Q E s:=by
 obtain⟨os,hos,hcs,hds⟩:=id hs;unfold Hu Pd;refine Ad (Ad (El hos hds (x:=.none) rfl (Ad (El hos hds (x:=.none) rfl (Ad (El hos hds (x:=.int k t) rfl (Al ?_)))))));refine Ad (slicePart_int ?_);show Ap _ _ (if (k == 0)=true then _ else _) _ _ s
 rw[Bc (by simpa using hk)]
 refine Ad (Nw (Ad (Nw (Ad (Al ?_)))));exact Al h
theorem stepL_length {α : Type}(xs:Ab α)(k:Aj):(stepL xs k).length≤stepN xs.length k:=by
 unfold stepL;exact Dy (List.length_filterMap_le _ _) (by rw[Fm];exact Bd _)
theorem getItem_tuple_step {t sl:Af}{items:Bk Ac}{k:Aj}{u:Sk}{Q:Ac→Ag→Prop}(ht:Nt s.heap t items)(hs:s.heap.IsSliceOf sl .none .none (.int k u))(h0:k≠0)(h1:k≠1)
  (h:Q (.ref s.heap.objs.size) { s with heap:=s.heap.push { cls:=.type "tuple",data:=.seq (stepL items.toList k).toArray } })
  (hsz:stepN items.size k≤sizeLine):Ap (Aw prog w) A (Md (.ref t) (.ref sl)) Q E s:=by
 have htake:sizeOk (.seq (stepL items.toList k).toArray):=by
  show (stepL items.toList k).toArray.size≤sizeLine;rw[Be];exact Dy (stepL_length _ _) (by simpa using hsz)
 obtain⟨os,hos,hcs,hds⟩:=id hs;have hTs:s.TypeIs (.ref sl) "slice":=⟨os,hos,hcs⟩;unfold Md
 try with_reducible refine Dj ?_
 first|refine Ad (Al ?_)|skip
 refine Ad (Pe ht.typeIs (by decide) ?_)
 refine Ad (Ee (name:=Gd "__getitem__") ht.typeIs Dh
  (Eh Dh ht.typeIs Nj ?_ (Og _ _)))
 show Ap _ _ (Jx (.ref t) >>= _) _ _ s;refine Ad (Tx ht ?_);refine Ad (Ju hTs ?_);rw[AT (by decide)]
 refine Ad (fR hs h0 ?_);have hno:¬ ((stepLo items.size k == 0&&k == 1&&stepN items.size k == items.size)=true):=by
  intro q;rw[Ay,Ay] at q;exact h1 (eq_of_beq q.1.2)
 show Ap _ _ (if (stepLo items.size k == 0&&k == 1&&stepN items.size k == items.size)=true then _ else _) _ _ s
 rw[Bc hno];have e:((Cy (stepN items.size k)).filterMap fun (m:Ah)=>items[(stepLo items.size k+(m:Aj)*k).toNat]?)=stepL items.toList k:=by
  unfold stepL;simp
 rw[e]
 first
  |exact Ad (m:=Es _) (Dd (Al ⟨_,rfl,Al h⟩) htake)
  |exact Ad (m:=Es _) (Dd (Ad (Al (Al ⟨_,rfl,Al h⟩))) htake)
  |exact Ad (Ad (m:=Es _) (Dd (Al (Al ⟨_,rfl,Al h⟩)) htake))
  |exact Ad (Ad (m:=Es _) (Dd (Al ⟨_,rfl,Al h⟩) htake))
end
end _H
namespace _D
open PySem PySem.Spec PyProof.Rows _L
def QQ:G2:=fun d k S=>match d,k with
 |.tup xs,.int k=>if k≠0∧k≠1∧_H.stepN xs.length k≤lim then .ok (.tup (_H.stepL xs k)) S else .bad
 |_,_=>.bad
def bT (fe fk:DE):DE:=d2 QQ fe fk
section
variable {X:Cx}{e ek:Bq}{fe fk:DE}{p2 pos:Ez}
theorem V0 {vs:Ab V}{us:Ab Ac}(rv:qN vs us)(l:Ab Ah)(f:Ah→Ah):qN (l.filterMap fun m=>vs[f m]?) (l.filterMap fun m=>us[f m]?):=by
 induction l with
 |nil=>exact .nil
 |cons m l ih =>
  simp only[Fw];cases h:vs[f m]? with
  |none =>
   have:us[f m]? = none:=by
    rw[Pr] at h ⊢;rw[← rv.length];exact h
   rw[this];exact ih
  |some v =>
   obtain⟨u,hu,r⟩:=rv.get h;rw[hu];exact .cons r ih
theorem YJ {K:Ak}{P:Hp}{α : Ab Af}{ds:Ab D}{vs:Ab V}(rp:qF K P α ds vs)(l:Ab Ah)(f:Ah→Ah):qF K P α (l.filterMap fun m=>ds[f m]?) (l.filterMap fun m=>vs[f m]?):=by
 induction l with
 |nil=>exact .nil
 |cons m l ih =>
  simp only[Fw];cases h:ds[f m]? with
  |none =>
   have:vs[f m]? = none:=by
    rw[Pr] at h ⊢;rw[← rp.length];exact h
   rw[this];exact ih
  |some d =>
   obtain⟨u,hu,r⟩:=rp.get h;rw[hu];exact .cons r ih
set_option tactic.hygienic true in
theorem B5 (he:PE X e (tD X fe))(hk:PE X ek (tD X fk)):PE X (.Subscript e (.Slice none none (Aa ek) p2) pos) (tD X (bT fe fk)):=by
 intro pins s σ H Q I h;obtain⟨P,α,env,S,r,re,af⟩:=h;have af':qJ X P α ((fe env S).bind fun d S1=>(fk env S1).bind fun k S2=>QQ d k S2) (OkV X P α Q):=af;refine Ye (thn (xH he I r re af') fun v s1 ⟨x,H1,P1,α1,d,S1,G1,af1⟩=>?_);refine wpAny_Slice ?_;rw[Tz];refine Al (Al ?_);rw[evalPart_some];refine thn (xH hk G1.inv G1.rel G1.env (zA.base G1.same G1.pre af1)) fun vk s2 ⟨y,H2,P2,α2,k,S2,G2,af2⟩=>?_;have af2:=zA.base G2.same G2.pre af2;cases d with
 |tup xs =>
  cases k with
  |int k =>
   simp only[QQ] at af2
   split at af2
   ·rename_i hk'
    have rp:=Rep.mono G2.same G2.pre _ _ G1.rep;obtain⟨a,vs,its,rfl,q,t,rvs,ht,hl,_⟩:=uR G2.inv G2.rel rp;cases (show v=Ch a from G1.val)
    have gr:=G2.rep;simp only[Rep] at gr;subst gr;obtain⟨tk,rfl⟩:=G2.val;have I4:Inv X pins σ H2 { s2 with heap:=s2.heap.push { cls:=.type "slice",data:=.fields #[.none,.none,.int k tk] } }:=G2.inv.kept (t':=s2.toks) fun b ob q=>Ai _ q
    have ht':Nt (s2.heap.push { cls:=.type "slice",data:=.fields #[.none,.none,.int k tk] }) a its.toArray:=ht.keeps fun b ob q=>Ai _ q;refine tail_any (ops:=[.ref a,.ref s2.heap.objs.size]) (s:={ s2 with heap:=s2.heap.push { cls:=.type "slice",data:=.fields #[.none,.none,.int k tk] } }) ht'.typeIs Dh.lookup ?_ (by with_unfolding_all rfl)
    refine _H.getItem_tuple_step (s:={ s2 with heap:=s2.heap.push { cls:=.type "slice",data:=.fields #[.none,.none,.int k tk] } }) ht' (Ux ..) hk'.1 hk'.2.1 ?_ ?_
    ·have lv:vs.length=its.length:=rvs.length
     have ld:xs.length=vs.length:=t.length;have t':qF X.K P2 α2 (_H.stepL xs k) (_H.stepL vs k):=by
      unfold _H.stepL;rw[ld];exact YJ t _ fun m=>(_H.stepLo vs.length k+(m:Aj)*k).toNat
     have rv':qN (_H.stepL vs k) (_H.stepL its k):=by
      unfold _H.stepL;rw[lv];exact V0 rvs _ fun m=>(_H.stepLo its.length k+(m:Aj)*k).toNat
     exact hZ I4 G2.rel t' rv' (Dy (_H.stepL_length _ _) hk'.2.2) af2
    ·rw[Be,← hl,← xT];exact hk'.2.2
   ·exact Ao af2
  |_=>exact Ao af2
 |_=>exact Ao af2
end
end _D
end
namespace _D
open PySem PySem.Spec PyProof.Rows _L
section
variable {X:Cx}{cm:As}{k:Ah}{e ek:Bq}{fe fk:DE}{p2 pos:Ez}
theorem MA (he:QE X e fe)(hk:QE X ek fk):QE X (.Subscript e (.Slice none none (Aa ek) p2) pos) (bT fe fk):=⟨B5 he.1 hk.1⟩
end
theorem E8 {K:Ak}{h:Bi}{mg:Au→Am Ac}(X:K.In h)(G:h.Ns Cf mg){x:Au}{st:Eu}{ps:Ab Au}{f:Af}{oc:Ac}{od an:Am Af}{osl:Bk (Am Ac)}{kV doc pm cdv ct:Ac}
  (a:Di K Cf x=Aa (Aa (.ref f)))
  (l:K.lookup f=Aa ⟨oc,od,.func (Gu x x (vC st) (xD st) (qK st) .none kV doc pm an cdv ct),osl⟩) (c:Ll K cdv x=true) (k:Dz K (.ref f)=true)
  (hb:∀ (kV doc pm:Ac) (an:Am Af) (cdv ct:Ac) (us:Ab Ac),us.length=ps.length→Xq (Gu x x (vC st) (xD st) (qK st) .none kV doc pm an cdv ct) ⟨us,[]⟩=pure (ps.zip us)):Src K mg x st ps:=
 have F:=LU (st:=st) l c k
 ⟨f,_,Uk X G a,F,F.binds hb⟩
def eC (K:Ak)(C:Af):As:=
 decide (Lj K (.ref C) "__getattribute__" = Aa (Aa (.builtin "BaseException.__getattribute__")))&&decide (Lj K (.ref C) "__getattr__" = Aa none)
 && decide (Lj K (.ref C) "__class__" = Aa (Aa (.builtin "object.__class__")))&&decide (Tt K C (.type "object")=Aa true)&&decide (Tt K C (.type "BaseException")=Aa true)
 && (PySem.W.clsIn K C).isSome&&decide (Jt K (.ref C) (.type "ValueError")=Aa true)
def VM (K:Ak):As:=
 decide (Vw K (.builtin "object.__class__") "__get__" = Aa (Aa (.builtin "getset_descriptor.__get__")))&&decide (Xp K (.builtin "object.__class__")=Aa true)
def NB (K:Ak)(cl:Ab Af):As:=cl.all fun C=>cl.all fun B=>decide (Jt K (.ref C) (.ref B)=Aa (C == B))
theorem NC {K:Ak}{cl:Ab Af}(h1:cl.all (eC K)=true)(h2:VM K=true)(h3:NB K cl=true):ClsK K cl:=by
 have g:=h2;unfold VM at g;simp only[Ay,Cm] at g;have k1:∀ C∈cl,eC K C=true:=Aq.mp h1;refine⟨fun C hC=>?_,fun C hC B hB=>?_,fun C hC=>?_⟩
 ·have e:=k1 C hC
  unfold eC at e;simp only[Ay,Cm] at e;obtain⟨⟨⟨⟨⟨⟨e1,e2⟩,e3⟩,e4⟩,e5⟩,e6⟩,e7⟩:=e;exact⟨e1,e2,e3,g.1,g.2,e4,e5,e6⟩
 ·have e:=Aq.mp (Aq.mp h3 C hC) B hB
  exact Bw e
 ·have e:=k1 C hC
  unfold eC at e;simp only[Ay,Cm] at e;exact e.2
def IH (K:Ak)(cs:Ab Ac)(A:Af):As:=cs.all fun v=>decide (Ie K v (.ref A)=Aa true)
def IF (K:Ak)(cs:Ab Af)(A:Af):As:=cs.all fun C=>m8 K C A
def IG (K:Ak)(cs:Ab Af):As:=cs.all fun C=>Dz K (.ref C)
def rM (K:Ak):Sp:=fun vs H Q E=>∃ a ns,vs=[.ref a]∧SqX K H a (List.map V.int ns)∧ns.length≤63∧∀ H',Q (.bl true) H'
theorem cX {K:Ak}{P:Hp}{α : Ab Af}:∀ ns:Ab Aj,qF K P α (ns.map D.int) (ns.map V.int)
 |[]=>.nil
 |n::ns=>.cons (by simp only[Rep]) (cX ns)
theorem FC {P:Bh}{w:Bv}{K:Ak}{mg:Au→Am Ac}{fa:Af}{st:Eu}{k:Ah}{x:Au}(hs:Src K mg "law" st [x])(hfa:mg "law" = Aa (.ref fa))
  (hbd:∀ (kV doc pm:Ac) (an:Am Af) (cdv ct:Ac) (s:Ag) (v:Ac),Nh s (Gu "law" "law" (vC st) (xD st) (qK st) .none kV doc pm an cdv ct) ⟨[v],[]⟩ [(x,v)])
  (hall:∀ base:Bi,∃ F,rP P w K mg base true k "law" [x] F∧∀ ns:Ab Aj,ns.length≤63→∃ S,F [.lst (ns.map D.int)] [] = .ok (.bl true) S) :
  ∃ fd:Fj,(∀ (s:Ag) (v:Ac),Nh s fd ⟨[v],[]⟩ [(x,v)])∧∀ base:Bi,K.In base→base.Ns Cf mg→FnOk P w K mg base (CXd P w) k fa fd [x] (rM K):=by
 obtain⟨f,fd,hm,F,hb⟩:=hs;cases hfa.symm.trans hm;refine⟨fd,?_,fun base _ _=>?_⟩
 ·obtain⟨oc,od,kV,doc,pm,an,cdv,ct,osl,rfl,_,_⟩:=F.ex
  exact hbd kV doc pm an cdv ct
 ·obtain⟨G,⟨f',fd',hm',_,hb',hl,X⟩,hG⟩:=hall base
  cases hm.symm.trans hm';cases hl.one (rG F);refine(X.imp fun vs H Q E h=>?_).ok;obtain⟨a,ns,rfl,hS,hl,k⟩:=h;obtain⟨S,e⟩:=hG ns hl;refine⟨rfl,H,[],[.lst (ns.map D.int)],[],⟨qH.refl _,rfl,.nil,by simp,by simp,by simp⟩,.cons (fK hS (cX ns)) .nil,?_⟩
  rw[e];intro v H' P' α' _ _ _ rv;simp only[Rep] at rv;subst rv;exact k H'
theorem AD {l:Xr}{q:Bh}{loose:Ab Au}{XP:(Au→Am Ac)→Bi→Prop}{YP:Bv→Bi→Prop}{d:DefRec}{K:Yt→Ak}{k:Ah}{x:Au}(hn:l.most=Aa 63)(hdf:d.params.defaults=[])(hr:Room k Pf)
  (hY:∀ (w:Bv) (h:Bi),YP w h→(K w.params).In h)
  (F:∀ (w:Bv) (mg:Au→Am Ac) (fa:Af) (h:Bi),(K w.params).In h→h.Ns Cf mg→mg d.name=Aa (.ref fa) →
   ∃ fd:Fj,(∀ (s:Ag) (u:Ac),Nh s fd ⟨[u],[]⟩ [(x,u)])∧∀ base:Bi,(K w.params).In base→base.Ns Cf mg→FnOk l.prog w (K w.params) mg base (CXd l.prog w) k fa fd [x] (rM (K w.params))) :
  Ua q loose XP YP l.row.toRowW d [] (fun f vs=>Yh f vs):=
 _L.TB (n:=63) (k:=k) (x:=x) (CX:=fun w=>CXd l.prog w) (sp:=fun w=>rM (K w.params)) hn (by decide) hdf hr hY F (fun _ _ a ns hl _ hS=>⟨a,ns,rfl,hS,hl,fun _=>rfl⟩) fun w H s e s' h=>by
  obtain⟨_,_,_,_,_,_,_,_,_,_,_,_,z⟩:=h;exact z
end _D
namespace _D
open PySem
theorem us0 {us:Ab Ac}(h:us.length=0):us=[]:=My h
theorem usS {us:Ab Ac}{n:Ah}(h:us.length=n+1):∃ a vs,us=a::vs∧vs.length=n:=by
 cases us with
 |nil=>exact absurd h (by simp)
 |cons a vs=>exact⟨a,vs,rfl,by simpa using h⟩
theorem us1 {us:Ab Ac}(h:us.length=1):∃ a,us=[a]:=by
 obtain⟨a,vs,rfl,h'⟩:=usS h;exact⟨a,by rw[us0 h']⟩
theorem us2 {us:Ab Ac}(h:us.length=2):∃ a b,us=[a,b]:=by
 obtain⟨a,vs,rfl,h'⟩:=usS h;obtain⟨b,rfl⟩:=us1 h';exact⟨a,b,rfl⟩
theorem us3 {us:Ab Ac}(h:us.length=3):∃ a b c,us=[a,b,c]:=by
 obtain⟨a,vs,rfl,h'⟩:=usS h;obtain⟨b,c,rfl⟩:=us2 h';exact⟨a,b,c,rfl⟩
end _D
namespace _D
open PySem PySem.Spec PyProof.Rows _L
theorem GT (F:DF):∃ G:DF,G=F:=⟨F,rfl⟩
def sh (F:DF):DF:=Ml (GT F)
theorem zY (F:DF):sh F=F:=Mm (GT F)
def isV:Am Ha→As
 |some .local => true
 |some .cell=>true
 |some .free=>true
 |_=>false
def isL:Am Ha→As
 |some .local => true
 |some .cell=>true
 |_=>false
def isG:Am Ha→As
 |some .globalImplicit=>true
 |_=>false
def okN (x:Au):As:=!(x == ("__debug__" : Au))&&(!(x == ("__classdict__" : Au))&&!decide (x = "__name__"))
def okG (X:Cx)(x:Au):As:=isG (X.env.kindOf x)&&okN x
def okB (v:Ac)(x:Au):As:=decide (Gc x=Aa v)
def lK (sc:Fv):Ab Au:=sc.names.filterMap fun y=>if isL (Aa y.2) then Aa y.1 else none
def vQ (sc:Fv):Ab Au:=(sc.names.filterMap fun y=>if isL (Aa y.2)&&!(y.1 == (".0" : Au)) then Aa y.1 else none)++sc.names.filterMap fun y=>if y.2 == .free then Aa y.1 else none
def Ck (b:As):Prop:=b=true
theorem ck {b:As}(h:b=true:=by kernel_rfl):Ck b:=h
structure DfS (F:DF)(P:Bh)(w:Bv)(K:Ak)(mg:Au→Am Ac)(base:Bi)(cm:As)(k:Ah)(x:Au)(n:Ah):Prop where
 get:Def P w K mg base cm k x n F
def okT (X:Cx)(m:Ah)(x:Au):As:=decide (X.N[m]? = Aa x)&&(isL (X.env.scope.names.lookup x)&&(decide X.N.Nodup&&(X.fn x||decide (X.env.scope.names.lookup x=Aa .local))))
def okP (X:Cx)(m:Ah)(x:Au):As:=decide (X.N[m]? = Aa x)&&decide (X.env.scope.names.lookup x=Aa .local)
def rC (scX:Fv)(NX:Ab Au)(scope:Fv)(cap:Ab (Am Ah)):As:=
 decide (scope.kind=.function)&&(decide (∀ y∈scope.names,y.2=.local → scope.names.lookup y.1=Aa .local)&&(decide (∀ y∈scope.names,y.2=.cell→scope.names.lookup y.1=Aa .cell)&&(decide (∀ y∈scope.names,y.2=.free→scX.names.lookup y.1=Aa .cell∨scX.names.lookup y.1=Aa .free)
 && (decide (∀ y∈scope.names,y.2=.free→scope.names.lookup y.1=Aa .free)&&(decide (cap.length=(vQ scope).length)&&(((cap.zip (vQ scope)).all fun p=>match p.1 with|none=>true|some i=>NX[i]? == Aa p.2&&scope.names.lookup p.2 == Aa .free)&&decide (vQ scope).Nodup))))))
def fnB (N P:Ab Au)(sc:Fv):As:=
 decide (sc.kind=.function)&&(decide (sc.isCoroutine=false)&&(decide (sc.isGenerator=false)&&(decide N.Nodup&&(decide (N.take P.length=P)&&(decide (∀ x∈P,sc.names.lookup x=Aa .local ∨ sc.names.lookup x=Aa .cell)&&decide (∀ y∈sc.names,y.2≠.free))))))
theorem eF {scX:Fv}{NX:Ab Au}{scope:Fv}{cap:Ab (Am Ah)}(h:rC scX NX scope cap=true):CompSc scX NX scope (vQ scope) cap:=by
 simp only[rC,Ay,Cm] at h;obtain⟨a,b,c,d,e,f,g,k⟩:=h;exact⟨a,b,c,d,e,f,g,k⟩
theorem XT {N P:Ab Au}{sc:Fv}(h:fnB N P sc=true):FnScope N P sc:=by
 simp only[fnB,Ay,Cm] at h;obtain⟨a,b,c,d,e,f,g⟩:=h;exact⟨a,b,c,d,e,f,g⟩
section
variable {X:Cx}{a b c e o elt tg iter:Bq}{ifs rest:Ab Bq}{f g:DS}{fa:DE}{f2:DI2}{dg:DG}{t:DT}{kk:DK}{gens grest:Ab Ff}{scope:Fv}{cap:Ab (Am Ah)}{mm:As}{l q:Ah}{y z:Au}{G2':G2}{es:Ab Bq}{fA:DA}{x:Au}{p pos:Ez}{cm:As}{k n m:Ah}{F:DF}
theorem BZ {sc:Fv}(h:isV (sc.names.lookup x)=true):Vis sc x:=by
 unfold Vis
 revert h
 cases sc.names.lookup x with
 |none=>intro h;cases h
 |some y=>cases y <;> intro h <;> first|cases h;done|exact .inl rfl|exact .inr (.inl rfl)|exact .inr (.inr rfl)
theorem BX {sc:Fv}(h:isL (sc.names.lookup x)=true):_L.Loc sc x:=by
 unfold _L.Loc
 revert h
 cases sc.names.lookup x with
 |none=>intro h;cases h
 |some y=>cases y <;> intro h <;> first|cases h;done|exact .inl rfl|exact .inr rfl
theorem tZ (h:okN x=true):(x == ("__debug__" : Au))=false∧(x == ("__classdict__" : Au))=false∧x ≠ "__name__":=by
 unfold okN at h;rw[Ay,Ay] at h;exact⟨by simpa using h.1,by simpa using h.2.1,by simpa using h.2.2⟩
theorem yC (h:okG X x=true):Gl X x∧(x == ("__debug__" : Au))=false∧x ≠ "__name__":=by
 have h:=(Ay _ _).mp h;refine⟨?_,(tZ h.2).1,(tZ h.2).2.2⟩;have z:=h.1;unfold Gl
 revert z
 cases X.env.kindOf x with
 |none=>intro z;cases z
 |some y=>cases y <;> intro z <;> first|cases z;done|rfl
theorem n6 (h:okT X m x=true):X.N[m]? = Aa x∧_L.Loc X.env.scope x∧X.N.Nodup∧(X.fn x=true∨X.env.scope.names.lookup x=Aa .local):=by
 simp only[okT,Ay,Cm,Ru] at h;exact⟨h.1,BX h.2.1,h.2.2⟩
theorem gP (h:okP X m x=true):X.N[m]? = Aa x∧X.env.scope.names.lookup x=Aa .local:=by
 simp only[okP,Ay,Cm] at h;exact h
theorem KY (h:Ck (okG X x)):Gl X x:=(yC h).1
theorem aV (h:Ck (decide (X.N[m]? = Aa x)&&(isV (X.env.scope.names.lookup x)&&okN x))):QE X (.Name x pos) (qB m):=by
 unfold Ck at h;simp only[Ay,Cm] at h;exact RK m h.1 (BZ h.2.1) (tZ h.2.2).1 (tZ h.2.2).2.1
theorem aBt {nm:Du}(h:Ck (okG X x))(hm:X.mg x=none)(hb:Ck (okB (.type nm) x)):QE X (.Name x pos) (dC (.ty nm)):=
 have h:=yC h
 M5 h.1 hm (Bw hb) h.2.2 h.2.1
theorem aCl {C:Af}(h:Ck (okG X x))(hm:X.mg x=Aa (.ref C)∧Dz X.K (.ref C)=true):QE X (.Name x pos) (dC (.obj C)):=
 have h:=yC h
 RC h.1 hm.1 hm.2 h.2.1
theorem aGi {v:Aj}(h:Ck (okG X x))(hm:∃ t,X.mg x=Aa (.int v t)):QE X (.Name x pos) (dC (.int v)):=
 have h:=yC h
 M7 h.1 hm h.2.1
abbrev St1 (X:Cx)(e:Bq)(es:Ab Bq)(pos:Ez):Prop:=Bb (e::es) X.env=(false,eval e X.env)::Bb es X.env∧(Fp pos (Bb es X.env)).any (·.1)=false
theorem aN (G:DfS F X.prog X.w X.K X.mg X.base cm k x n)(hr:RoomC cm k X.A)(hF:Fn1 X)(h:Ck (okG X x))(ha:QA X (e::es) fA)(s:St1 X e es pos):QE X (.Call (.Name x p) (e::es) [] pos) (qG n F fA):=
 have h:=yC h
 qcN G.1 hr hF h.1 ha h.2.1 s.1 s.2
theorem aL (G:DfS F X.prog X.w X.K X.mg X.base cm k x n)(hr:RoomC cm k X.A)(hF:Fn1 X)(h:Ck (okG X x))(ha:QA X (e::es) fA)(s:St1 X e es pos):QE X (.Call (.Name x p) (e::es) [] pos) (qG n (uG F) fA):=
 have h:=yC h
 qcL G.1 hr hF h.1 ha h.2.1 s.1 s.2
theorem aO (G:DfS F X.prog X.w X.K X.mg X.base cm k x n)(hr:RoomC cm k X.A)(h:Ck (okG X x))(ha:QA X (e::es) fA)(s:St1 X e es pos):QE X (.Call (.Name x p) (e::es) [] pos) (qG n (okO F) fA):=
 have h:=yC h
 qcO G.1 hr h.1 ha h.2.1 s.1 s.2
theorem aB {id:Du}(hc:ZCall X (.builtin id) F)(h:Ck (okG X x))(hm:X.mg x=none)(hb:Ck (okB (.builtin id) x))(ha:QA X (e::es) fA)(s:St1 X e es pos):QE X (.Call (.Name x p) (e::es) [] pos) (qE F fA):=
 have h:=yC h
 JL hc h.1 hm (Bw hb) ha h.2.2 h.2.1 s.1 s.2
theorem aT {T:Du}(hc:ZCall X (.type T) F)(h:Ck (okG X x))(hm:X.mg x=none)(hb:Ck (okB (.type T) x))(ha:QA X (e::es) fA)(s:St1 X e es pos):QE X (.Call (.Name x p) (e::es) [] pos) (qE F fA):=
 have h:=yC h
 Y3 hc h.1 hm (Bw hb) ha h.2.2 h.2.1 s.1 s.2
theorem aC (S:Ck (rC X.env.scope X.N scope cap))(hc:X.calm=true)(hi:QI2 X tg iter f2)(hg:∀ cl C ex s₀ H₀,QG (zF X (vQ scope) scope cl C ex s₀ H₀) tg dg)(ht:∀ cl C ex s₀ H₀,QTs (zF X (vQ scope) scope cl C ex s₀ H₀) ifs t)
  (has:∀ g',(⟨tg,iter,ifs,0⟩::grest:Ab Ff)[0+1]? = Aa g'→g'.is_async=0)
  (he:∀ cl C ex s₀ H₀,QK (zF X (vQ scope) scope cl C ex s₀ H₀) (fun acc=>wL elt (⟨tg,iter,ifs,0⟩::grest) scope pos 0 acc (zF X (vQ scope) scope cl C ex s₀ H₀).env) kk) (hs:∀ x,Ei iter X.env x=pure x) :
  QE X (.ListComp elt (⟨tg,iter,ifs,0⟩::grest) scope pos) (qO mm cap f2 dg t kk):=JN hc (eF S) hi hg ht has he hs
theorem aCs {py spos:Ez}(hsw:Lr (.ListComp elt (⟨tg,iter,ifs,0⟩::grest) scope pos) (Aa (.Name y py)) spos.line X.env=pure true)(S:Ck (rC X.env.scope X.N scope cap))(hN:Ck (okT X m y))(hc:X.calm=true)(hi:QI2 X tg iter f2)(hg:∀ cl C ex s₀ H₀,QG (zF X (vQ scope) scope cl C ex s₀ H₀) tg dg)(ht:∀ cl C ex s₀ H₀,QTs (zF X (vQ scope) scope cl C ex s₀ H₀) ifs t)
  (has:∀ g',(⟨tg,iter,ifs,0⟩::grest:Ab Ff)[0+1]? = Aa g'→g'.is_async=0)
  (he:∀ cl C ex s₀ H₀,QK (zF X (vQ scope) scope cl C ex s₀ H₀) (fun acc=>wL elt (⟨tg,iter,ifs,0⟩::grest) scope pos 0 acc (zF X (vQ scope) scope cl C ex s₀ H₀).env) kk) (hs:∀ x,Ei iter X.env x=pure x) :
  QS X (.Assign [.Name y py] (.ListComp elt (⟨tg,iter,ifs,0⟩::grest) scope pos) spos) (zC (qO mm cap f2 dg t kk) (gNm m)):=
 have h:=n6 hN
 JQ hc h.2.2.1 (eF S) hi hg ht has he h.1 h.2.1 h.2.2.2 hsw hs
theorem aNm (h:Ck (okT X m x)):QG X (.Name x pos) (gNm m):=
 have h:=n6 h
 MB h.2.2.1 h.1 h.2.1 h.2.2.2
theorem aSt {pos':Ez}(hs:Lr e (Aa (.Name x pos')) pos.line X.env=pure false)(he:QE X e fa)(h:Ck (okT X m x)):QS X (.Assign [.Name x pos'] e pos) (zC fa (gNm m)):=
 have h:=n6 h
 RT h.2.2.1 he h.1 h.2.1 hs h.2.2.2
theorem aAu {op:Lw}{pos':Ez}(h:Ck (okT X m x))(he:QE X e fa)(ho:ZIp X op G2'):QS X (.AugAssign (.Name x pos') op e pos) (mM m G2' fa):=
 have h:=n6 h
 RQ h.2.2.1 he ho h.1 h.2.1 h.2.2.2
theorem aP2 {px py pt:Ez} {kt k2 pt2} (h:Ck (decide X.N.Nodup&&(okP X m x&&(okP X l y&&!decide (m=l))))) (hc:X.calm=true) (ha:QA X [a,b] fA)
  (hw:Ka [.Tuple [.Name x px,.Name y py] kt pt] (.Tuple [a,b] k2 pt2) X.env=pure (Aa [x,y])) (hs:Ke [.Tuple [.Name x px,.Name y py] kt pt] (.Tuple [a,b] k2 pt2) pos.line X.env=pure false) :
  QS X (.Assign [.Tuple [.Name x px,.Name y py] kt pt] (.Tuple [a,b] k2 pt2) pos) (pG m l fA):=by
 unfold Ck at h;simp only[Ay,Cm,Ph,Lh] at h;exact RS hc h.1 ha (gP h.2.1).1 (gP h.2.2.1).1 h.2.2.2 (gP h.2.1).2 (gP h.2.2.1).2 hw hs
theorem aRs {C:Af}{np cpos:Ez}(h:Ck (okG X x))(hc:X.calm=true)(hF:Fn1 X)(hm:∃ Ae,X.mg x=Aa (.ref C)∧m8 X.K C Ae=true)(ha:QA X (e::rest) fA)(s:St1 X e rest cpos) :
  QS X (.Raise (Aa (.Call (.Name x np) (e::rest) [] cpos)) none pos) (yS (.ref C) fA):=
 have h:=yC h
 let ⟨_,hm,hx⟩:=hm
 JR hc hF h.1 hm hx ha h.2.1 s.1 s.2
theorem aTr {nm:Au}{body:Ab Eu}{b₀:Eu}{suite:Ab Eu}{np hpos:Ez}{cs:Ab Ac}(h:Ck (okG X x&&(okP X m nm&&(decide X.N.Nodup&&decide (X.N.length=n)))))(hF:Fn1 X)(hm:∃ C0,X.mg x=Aa (.ref C0)∧∀ c∈cs,Ie X.K c (.ref C0)=Aa true)(hb:∀ E pn,ZPass (Cx.tryIn X E pn)→QB (Cx.tryIn X E pn) body f)(hs:∀ e,QB (Cx.suite X e) (b₀::suite) g) :
  QS X (.Try body [.ExceptHandler (Aa (.Name x np)) (Aa nm) (b₀::suite) hpos] [] [] pos) (mO n m cs f g):=by
 unfold Ck at h;simp only[Ay,Cm] at h;obtain⟨C0,hm,hcs⟩:=hm;exact RU hF hb hs (yC h.1).1 hm hcs h.2.2.1 (gP h.2.1).1 (gP h.2.1).2 (yC h.1).2.1 h.2.2.2
theorem aTb {ie:Bq}{fi:DE}{Fs:Ab (Ah × DF)}{lp sp:Ez}(hr:RoomC cm k X.A)(T:ZTab X cm k es Fs)(hF:Fn1 X)(hl:Ck (decide (Fs.length≤lim)))(hi:QE X ie fi)(ha:QA X (e::rest) fA)(hs:jT ie)(s:St1 X e rest pos) :
  QE X (.Call (.Subscript (.List es lp) ie sp) (e::rest) [] pos) (nZ Fs fi fA):=RI T hr hF (Bw hl) hi ha hs s.1 s.2
theorem aZt {j:Ah}{Fs:Ab (Ah × DF)}(G:DfS F X.prog X.w X.K X.mg X.base cm j x n)(hj:j≤k)(h:Ck (okG X x))(t:ZTab X cm k es Fs):ZTab X cm k (.Name x p::es) ((n,F)::Fs):=
 have h:=yC h
 V5 (G.1.mono hj) h.1 h.2.1 t
end
structure TxS (K:Ak)(mg:Au→Am Ac)(tp:Ah→Eu)(tab:Ab (Au × Ah × Ab Au))(bl:Ab Au)(clt plt:Ab (Au × Af))(cs:Ab Ac)(exl:Ab Af)(cst:Ab (Au × Aj)):Prop where
 src:∀ (j:Ah) {x:Au} {i:Ah} {ps:Ab Au},tab[j]? = Aa (x,i,ps)→Src K mg x (tp i) ps
 nb:∀ {x:Au},Ck (bl.contains x)→mg x=none
 cl:∀ {x:Au} {C:Af},clt.lookup x=Aa C→mg x=Aa (.ref C)∧Dz K (.ref C)=true
 rz:∀ {x:Au} {C:Af},plt.lookup x=Aa C→∃ Ae,mg x=Aa (.ref C)∧m8 K C Ae=true
 ct:∃ C0,mg "FarError" = Aa (.ref C0)∧∀ c∈cs,Ie K c (.ref C0)=Aa true
 cls:ClsK K exl
 gi:∀ {x:Au} {v:Aj},cst.lookup x=Aa v→∃ t,mg x=Aa (.int v t)
section
variable {K:Ak}{mg:Au→Am Ac}{cm:As}{tp:Ah→Eu}{tab:Ab (Au × Ah × Ab Au)}{bl:Ab Au}{clt plt:Ab (Au × Af)}{cs:Ab Ac}{exl:Ab Af}{cst:Ab (Au × Aj)}{x:Au}{i m:Ah}{ps:Ab Au}{F:DF}{g:DS}
theorem dq (P:Bh)(w:Bv)(base:Bi)(k j:Ah)(T:TxS K mg tp tab bl clt plt cs exl cst)(hj:tab[j]? = Aa (x,i,ps))(h:Ck (fnB (lK (qK (tp i))) ps (qK (tp i))&&decide ((lK (qK (tp i))).length=m)))(hF:F=qQ m g)
  (hb:∀ (f:Af) (cdv:Ac) (A:Bo) (outer:Ab Jn) (s:Ag) (H:Hp) (E:XK),RoomC cm k (A.deeper (Gj x (qK (tp i)) s.heap.objs.size f cdv)) →
   QB (cxC cm P w K mg base (lK (qK (tp i))) x (qK (tp i)) f cdv A outer s H E) (xD (tp i)) g):DfS F P w K mg base cm (k+1) x ps.length:=by
 unfold Ck at h;simp only[Ay,Cm] at h;obtain⟨h,rfl⟩:=h;exact⟨hF▸II (T.src j hj) (XT h) rfl hb⟩
theorem dqP {P:Bh}{w:Bv}{base:Bi}(k j:Ah)(T:TxS K mg tp tab bl clt plt cs exl cst)(hj:tab[j]? = Aa (x,i,ps))(h:Ck (fnB (lK (qK (tp i))) ps (qK (tp i))&&decide ((lK (qK (tp i))).length=m)))
  (hb:∀ (f:Af) (cdv:Ac) (A:Bo) (outer:Ab Jn) (s:Ag) (H:Hp) (E:XK),RoomC cm k (A.deeper (Gj x (qK (tp i)) s.heap.objs.size f cdv)) →
   QB (cxC cm P w K mg base (lK (qK (tp i))) x (qK (tp i)) f cdv A outer s H E) (xD (tp i)) g):rP P w K mg base cm (k+1) x ps (qQ m g):=by
 unfold Ck at h;simp only[Ay,Cm] at h;obtain⟨h,rfl⟩:=h;exact HA (T.src j hj) (XT h) rfl hb
end
theorem hv {a b:Prop}(f:a→b)(h:a):b:=f h
inductive SrcF (K:Ak)(x:Au)(st:Eu)(ps:Ab Au):Prop
 |mk {f:Af} {oc:Ac} {od an:Am Af} {osl:Bk (Am Ac)} {kV doc pm cdv ct:Ac} (a:Di K Cf x=Aa (Aa (.ref f)))
  (l:K.lookup f=Aa ⟨oc,od,.func (Gu x x (vC st) (xD st) (qK st) .none kV doc pm an cdv ct),osl⟩) (c:Ll K cdv x=true) (k:Dz K (.ref f)=true):SrcF K x st ps
def Q3 (K:Ak)(tp:Ah→Eu):Ab (Au × Ah × Ab Au)→Prop
 |[]=>Jz
 |(x,i,ps)::t=>SrcF K x (tp i) ps∧Q3 K tp t
def BdF (tp:Ah→Eu):Ab (Au × Ah × Ab Au)→Prop
 |[]=>Jz
 |(x,i,ps)::t=>(∀ (kV doc pm:Ac) (an:Am Af) (cdv ct:Ac) (us:Ab Ac),us.length=ps.length→Xq (Gu x x (vC (tp i)) (xD (tp i)) (qK (tp i)) .none kV doc pm an cdv ct) ⟨us,[]⟩=pure (ps.zip us))∧BdF tp t
def oY (K:Ak):Ab (Au × Af)→Prop
 |[]=>Jz
 |(x,C)::t=>Di K Cf x=Aa (Aa (.ref C))∧oY K t
def Q0 (K:Ak):Ab (Au × Aj)→Prop
 |[]=>Jz
 |(x,v)::t=>(∃ k,Di K Cf x=Aa (Aa (.int v k)))∧Q0 K t
def IR:Am (Am Ac)→As
 |some none=>true
 |_=>false
section
variable {K:Ak}{h:Bi}{mg:Au→Am Ac}{tp:Ah→Eu}
theorem oQ (X:K.In h)(G:h.Ns Cf mg):∀ (tab:Ab (Au × Ah × Ab Au)),Q3 K tp tab→BdF tp tab→∀ (j:Ah) {x:Au} {i:Ah} {ps:Ab Au},tab[j]? = Aa (x,i,ps)→Src K mg x (tp i) ps
 |[],_,_,_,_,_,_,e=>by cases e
 |(x,i,ps)::t,H,B,0,_,_,_,e=>by
  cases e;obtain⟨a,l,c,k⟩:=H.1;exact E8 X G a l c k B.1
 |(x,i,ps)::t,H,B,j+1,_,_,_,e=>oQ X G t H.2 B.2 j e
theorem v8 {β : Type}{p:Au→β→Prop}{x:Au}{C:β}:∀ {l:Ab (Au × β)},(∀ y∈l,p y.1 y.2)→l.lookup x=Aa C→p x C
 |[],_,e=>by cases e
 |(y,b)::t,H,e=>by
  rw[Ik] at e;cases q:x == y with
  |true =>
   rw[q] at e;cases e;rw[eq_of_beq q];exact H (y,_) (.head _)
  |false =>
   rw[q] at e;exact v8 (fun z hz=>H z (.tail _ hz)) e
theorem bQ (X:K.In h)(G:h.Ns Cf mg):∀ {l:Ab (Au × Af)},oY K l→∀ y∈l,mg y.1=Aa (.ref y.2)
 |(x,C)::t,H,y,hy=>by
  rcases Av.mp hy with rfl|hy
  ·exact Uk X G H.1
  ·exact bQ X G H.2 y hy
theorem iA (X:K.In h)(G:h.Ns Cf mg):∀ {l:Ab (Au × Aj)},Q0 K l→∀ y∈l,∃ k,mg y.1=Aa (.int y.2 k)
 |(x,C)::t,H,y,hy=>by
  rcases Av.mp hy with rfl|hy
  ·obtain⟨k,e⟩:=H.1
   exact⟨k,Uk X G e⟩
  ·exact iA X G H.2 y hy
theorem AB {tab:Ab (Au × Ah × Ab Au)}{bl:Ab Au}{clt plt:Ab (Au × Af)}{cs:Ab Ac}{exl:Ab Af}{cst:Ab (Au × Aj)}{far:Af}(B:BdF tp tab)(hp:∀ y∈plt,y∈clt)(hf:clt.lookup ("FarError" : Au)=Aa far)(X:K.In h)(G:h.Ns Cf mg)
  (s:Q3 K tp tab) (z:(bl.all fun x=>IR (Di K Cf x))=true) (q:oY K clt) (g:Q0 K cst) (e1:exl.all (eC K)=true) (e2:VM K=true) (e3:NB K exl=true) (e4:IH K cs far=true) (e5:IF K (plt.map (·.2)) far=true) (e6:IG K (clt.map (·.2))=true):TxS K mg tp tab bl clt plt cs exl cst where
 src:=oQ X G tab s B
 nb:=fun {x} hx=>by
  have e:=Aq.mp z x (by simpa using Ey.mp hx)
  refine PySem.W.mg_none_of X G ?_
  revert e
  cases Di K Cf x with
  |none=>intro e;cases e
  |some y=>cases y with
   |none=>intro _;rfl
   |some y=>intro e;cases e
 cl:=fun h=>⟨v8 (p:=fun x C=>mg x=Aa (.ref C)) (bQ X G q) h,v8 (p:=fun _ C=>Dz K (.ref C)=true) (fun y hy=>Aq.mp e6 y.2 (Hf hy)) h⟩
 rz:=fun h=>⟨far,v8 (p:=fun x C=>mg x=Aa (.ref C)) (fun y hy=>bQ X G q y (hp y hy)) h,v8 (p:=fun _ C=>m8 K C far=true) (fun y hy=>Aq.mp e5 y.2 (Hf hy)) h⟩
 ct:=⟨far,v8 (p:=fun x C=>mg x=Aa (.ref C)) (bQ X G q) hf,fun v hv=>Bw (Aq.mp e4 v hv)⟩
 cls:=NC e1 e2 e3
 gi:=fun h=>v8 (p:=fun x v=>∃ k,mg x=Aa (.int v k)) (iA X G g) h
end
theorem AE {q:Bh}{loose:Ab Au}{XP:(Au→Am Ac)→Bi→Prop}{r:PySem.W.RowW}{d:DefRec}{kwd:Ab (Au × Bq)}{run:Ac→Ab Ac→Mp Ac}{K:Yt→Ak}{as:Ab Af}{n t:Ah}(e:∀ P,as=(K P).map (·.1))
  (h:Ua q loose XP (fun w h=>(K w.params).In h) r d kwd run):PySem.W.WalkX q loose XP (PySem.W.X.obsZ as) (PySem.W.X.valZ K n t) r d kwd run:=
 fun w s₀ s₁ mg mb G Y a o pm cd doc dV kV h1 h2 h3 h4 h5 h6 args vals as' L=>h w s₀ s₁ mg mb G (PySem.W.InK.keeps w _ _ (PySem.W.X.z_facts e Y).2.1 L.keeps) a o pm cd doc dV kV h1 h2 h3 h4 h5 h6 args vals as'
end _D
section
namespace _D
open PySem PySem.Spec PyProof.Rows _L
mutual
def zS:D→Ab Aj
 |.int n=>[1,n]
 |.tup xs=>2::zG xs
 |_=>[]
def zG:Ab D→Ab Aj
 |[]=>[0]
 |x::xs=>zS x++zG xs
end
mutual
def yI:D→D→As
 |.int _,.int _=>true
 |.tup xs,.tup ys=>yU xs ys
 |_,_=>false
def yU:Ab D→Ab D→As
 |x::xs,y::ys=>yI x y&&yU xs ys
 |_,_=>true
end
def ltN (a b:D):As:=_H.lexLt (zS a) (zS b)
def trb:Ah→D→As
 |_,.int _=>true
 |n+1,.tup xs=>xs.all (trb n)
 |_,_=>false
inductive Tr:Ah→D→Prop
 |int (n:Ah) (i:Aj):Tr n (.int i)
 |tup (n:Ah) (xs:Ab D) (h:∀ x∈xs,Tr n x):Tr (n+1) (.tup xs)
theorem rO:∀ {n:Ah} {d:D},trb n d=true→Tr n d:=by
 intro n
 induction n with
 |zero=>intro d h;cases d <;> first|exact .int _ _|exact Cq h
 |succ n ih =>
  intro d h;cases d with
  |int i=>exact .int _ i
  |tup xs=>exact .tup n xs fun x hx=>ih (Aq.mp (show xs.all (trb n)=true from h) x hx)
  |_=>exact Cq h
theorem u0 {n:Ah}{d:D}(h:Tr n d):∃ k r,zS d=k::r∧0<k:=by
 cases h with
 |int _ i=>exact⟨1,[i],rfl,by decide⟩
 |tup n xs=>exact⟨2,zG xs,rfl,by decide⟩
theorem xG (x:D)(xs:Ab D):zG (x::xs)=zS x++zG xs:=rfl
theorem sC:∀ {xs ys:Ab D} {n m:Ah},(∀ x∈xs,Tr n x)→(∀ y∈ys,Tr m y)→(∀ x∈xs,∀ y∈ys,yI x y=true→∀ r r':Ab Aj,_H.lexLt (zS x++r) (zS y++r')=if eqD x y=true then _H.lexLt r r' else ltN x y)→yU xs ys=true →
  ∀ r r':Ab Aj,_H.lexLt (zG xs++r) (zG ys++r')=if xI xs ys=true then _H.lexLt r r' else _H.lexLt (zG xs) (zG ys)
 |[],[],_,_,_,_,_,_,r,r'=>rfl
 |[],y::ys,_,_,_,h2,_,_,r,r'=>by
  obtain⟨k,t,e,p⟩:=u0 (h2 y (by simp))
  rw[Bc (by intro z;cases z),xG,e]
  show _H.lexLt (0::r) (k::_)=_H.lexLt [0] (k::_);rw[_H.lexLt_cons,_H.lexLt_cons,Bc om,Bc om]
 |x::xs,[],_,_,h1,_,_,_,r,r'=>by
  obtain⟨k,t,e,p⟩:=u0 (h1 x (by simp))
  rw[Bc (by intro z;cases z),xG,e]
  show _H.lexLt (k::_) (0::r')=_H.lexLt (k::_) [0];rw[_H.lexLt_cons,_H.lexLt_cons,Bc om,Bc om]
 |x::xs,y::ys,_,_,h1,h2,h3,hc,r,r'=>by
  have hc':(yI x y&&yU xs ys)=true:=hc;rw[Ay] at hc';have ih:=sC (fun z hz=>h1 z (by simp[hz])) (fun z hz=>h2 z (by simp[hz])) (fun z hz y' hy=>h3 z (by simp[hz]) y' (by simp[hy])) hc'.2
  rw[xG,xG,Ej,Ej,h3 x (by simp) y (by simp) hc'.1,h3 x (by simp) y (by simp) hc'.1,ih,b0]
  cases eqD x y <;> cases xI xs ys <;> simp
theorem UT {n:Ah}{a:D}(ha:Tr n a):∀ {m:Ah} {b:D},Tr m b→yI a b=true→∀ r r':Ab Aj,_H.lexLt (zS a++r) (zS b++r')=if eqD a b=true then _H.lexLt r r' else ltN a b:=by
 induction ha with
 |int n i =>
  intro m b hb hc r r';cases hb with
  |int _ j =>
   show _H.lexLt (1::i::r) (1::j::r')=if (i == j)=true then _ else _H.lexLt [1,i] [1,j]
   simp only[_H.lexLt_cons,De,Jm]
   split <;> rfl
  |tup _ ys=>exact Cq hc
 |tup n xs hx ih =>
  intro m b hb hc r r';cases hb with
  |int _ j=>exact Cq hc
  |tup m ys hy =>
   have h:=sC hx hy (fun x hx' y hy' hc'=>ih x hx' (hy y hy') hc') hc r r';show _H.lexLt (2::(zG xs++r)) (2::(zG ys++r'))=if xI xs ys=true then _ else _H.lexLt (2::zG xs) (2::zG ys)
   rw[_H.lexLt_cons,_H.lexLt_cons,AT rfl,AT rfl,h]
theorem gN {xs ys:Ab D}:ltN (.tup xs) (.tup ys)=_H.lexLt (zG xs) (zG ys):=by
 show _H.lexLt (2::_) (2::_)=_;rw[_H.lexLt_cons,AT rfl]
theorem yH {n m:Ah}{x y:D}{xs ys:Ab D}(hx:Tr n x)(hy:Tr m y)(hc:yI x y=true):_H.lexLt (zG (x::xs)) (zG (y::ys))=if eqD x y=true then _H.lexLt (zG xs) (zG ys) else ltN x y:=UT hx hy hc _ _
set_option tactic.hygienic true in
theorem gM (i j:Aj):ltN (.int i) (.int j)=decide (i<j):=by
 show _H.lexLt [1,i] [1,j]=_;rw[_H.lexLt_cons,AT rfl,_H.lexLt_cons]
 split
 ·rename_i h;subst h;simp[_H.lexLt_nil_nil]
 ·rfl
theorem dN:∀ {xs ys:Ab D} {n m:Ah},(∀ x∈xs,Tr n x)→(∀ y∈ys,Tr m y)→(∀ x∈xs,∀ y∈ys,∀ r r':Ab Aj,zS x++r=zS y++r'→x=y∧r=r')→∀ r r':Ab Aj,zG xs++r=zG ys++r'→xs=ys∧r=r'
 |[],[],_,_,_,_,_,r,r',e=>⟨rfl,by injection e⟩
 |[],y::ys,_,_,_,h2,_,r,r',e=>by
  obtain⟨k,t,e',p⟩:=u0 (h2 y (by simp))
  rw[xG,e'] at e;injection e with e1 e2
  omega
 |x::xs,[],_,_,h1,_,_,r,r',e=>by
  obtain⟨k,t,e',p⟩:=u0 (h1 x (by simp))
  rw[xG,e'] at e;injection e with e1 e2
  omega
 |x::xs,y::ys,_,_,h1,h2,h3,r,r',e=>by
  rw[xG,xG,Ej,Ej] at e;obtain⟨e1,e2⟩:=h3 x (by simp) y (by simp) _ _ e
  obtain⟨e3,e4⟩:=dN (fun z hz=>h1 z (by simp[hz])) (fun z hz=>h2 z (by simp[hz])) (fun z hz y' hy=>h3 z (by simp[hz]) y' (by simp[hy])) _ _ e2
  exact⟨by rw[e1,e3],e4⟩
theorem X5 {n:Ah}{a:D}(ha:Tr n a):∀ {m:Ah} {b:D},Tr m b→∀ r r':Ab Aj,zS a++r=zS b++r'→a=b∧r=r':=by
 induction ha with
 |int n i =>
  intro m b hb r r' e;cases hb with
  |int _ j=>injection e with _ e;injection e with e1 e2;exact⟨by rw[e1],e2⟩
  |tup _ ys=>injection e with e _;cases e
 |tup n xs hx ih =>
  intro m b hb r r' e;cases hb with
  |int _ j=>injection e with e _;cases e
  |tup m ys hy =>
   injection e with _ e
   obtain⟨e1,e2⟩:=dN hx hy (fun x hx' y hy'=>ih x hx' (hy y hy')) r r' e;exact⟨by rw[e1],e2⟩
theorem gW {n m:Ah}{a b:D}(ha:Tr n a)(hb:Tr m b)(e:zS a=zS b):a=b:=(X5 ha hb [] [] (by rw[e])).1
theorem LL {n:Ah}{a:D}(ha:Tr n a):eqD a a=true:=by
 induction ha with
 |int n i=>show (i == i)=true;simp
 |tup n xs _ ih =>
  show xI xs xs=true;rw[yX];simp only[Qu,Zb,Ud,Aq,Eg];intro j hj;exact ih _ (by simp[Gg,hj])
theorem gV:∀ {xs ys:Ab D},yU xs ys=true→∀ {j:Ah} {x y:D},xs[j]? = Aa x→ys[j]? = Aa y→yI x y=true
 |[],_,_,j,x,y,e,_=>by simp at e
 |_::_,[],_,j,x,y,_,e=>by simp at e
 |a::xs,b::ys,h,j,x,y,e1,e2=>by
  have h':(yI a b&&yU xs ys)=true:=h;rw[Ay] at h';cases j with
  |zero=>cases e1;cases e2;exact h'.1
  |succ j=>exact gV h'.2 (j:=j) (by simpa using e1) (by simpa using e2)
theorem WE {a b c:D}(h1:ltN a b=false)(h2:ltN b c=false):ltN a c=false:=by
 cases h:ltN a c with
 |false=>rfl
 |true =>
  rcases _S.xU.tri h2 with e|e
  ·exact absurd (show ltN a b=true by unfold ltN at *;rw[e];exact h) (by rw[h1];simp)
  ·exact absurd (show ltN a b=true from _S.xU.tr h e) (by rw[h1];simp)
def bJ (xs:Ab D):Ab D:=_S.ZM ltN xs
theorem gC (xs:Ab D):(bJ xs).Perm xs:=_S.gB xs
theorem sS (xs:Ab D):(bJ xs).map zS=_S.ZM _H.lexLt (xs.map zS):=by
 refine _S.fB _S.xU ?_ (_S.d7 _S.xU _) (((gC xs).map zS).trans (_S.gB _).symm);unfold _S.Nf;rw[Gb];have:=Qz (le:=fun a b=>!ltN b a) (fun a b c h1 h2=>?_) (fun a b=>?_) xs
 ·exact this.imp fun {a b} h=>show ltN b a=false by simpa using h
 ·simp only[Ph] at *
  exact WE h2 h1
 ·cases h:ltN b a with
  |false=>simp
  |true =>
   cases h':ltN a b with
   |false=>simp[h']
   |true=>exact absurd (_S.xU.tr h h') (by rw[_S.xU.irr];simp)
theorem FG {xs ys:Ab D}(h:∀ x∈xs,∀ y∈ys,zS x=zS y→x=y)(e:xs.map zS=ys.map zS):xs=ys:=by
 induction xs generalizing ys with
 |nil=>cases ys with
  |nil=>rfl
  |cons y ys=>cases e
 |cons x xs ih =>
  cases ys with
  |nil=>cases e
  |cons y ys =>
   injection e with e1 e2
   rw[h x (by simp) y (by simp) e1,ih (fun a ha b hb=>h a (by simp[ha]) b (by simp[hb])) e2]
theorem MS {n:Ah}{xs ys:Ab D}(h:∀ x∈xs,Tr n x)(p:ys.Perm xs)(s:ys.Pairwise fun a b=>ltN b a=false):bJ xs=ys:=by
 refine FG (fun a ha b hb=>gW (h a ((gC xs).mem_iff.mp ha)) (h b (p.mem_iff.mp hb))) ?_;rw[sS];refine _S.fB _S.xU (_S.d7 _S.xU _) ?_ ((_S.gB _).trans (p.map zS).symm);unfold _S.Nf;rw[Gb];exact s
end _D
end
namespace _D
open PySem PySem.Spec PyProof.Rows _L PySem.SeqAt
def Q2 (A:Bo)(s:Ag)(u v:Ac)(c:As):Prop:=∀ (prog:Bh) (w:Bv) (E:Ac→Ag→Prop) (Q:Ac→Ag→Prop),Q (.bool c) s→Ap (Aw prog w) A (Wv .Lt u v) Q E s
inductive LexV (A:Bo)(s:Ag):Ab Ac→Ab Ac→As→Prop
 |nn:LexV A s [] [] false
 |nc (v:Ac) (vs:Ab Ac):LexV A s [] (v::vs) true
 |cn (u:Ac) (us:Ab Ac):LexV A s (u::us) [] false
 |eq (u v:Ac) (us vs:Ab Ac) (b:As) (he:Yj A s u v true) (h:LexV A s us vs b):LexV A s (u::us) (v::vs) b
 |ne (u v:Ac) (us vs:Ab Ac) (b:As) (he:Yj A s u v false) (h:Q2 A s u v b):LexV A s (u::us) (v::vs) b
section
open PySem.SeqAt
open PySem.AutoSeq1 (wpAny_loadPart')
open PySem.MeetsSeq PySem.MeetsSeq2 PySem.MeetsSeq3
theorem ZP (l b:Af)(items items2:Bk Ac)(n n2:Ah)(dd dd2:Am Af)(sl sl2:Bk (Am Ac))(r:As) :
  Meets (He.«tuple.__lt__» ⟨[.ref l,.ref b],[]⟩)
   (fun A R s=>s.heap.get? l=Aa { cls:=.type "tuple",dict:=dd,data:=.seq items n,slots:=sl } ∧ s.heap.get? b=Aa { cls:=.type "tuple",dict:=dd2,data:=.seq items2 n2,slots:=sl2 } ∧
    LexV A.in1 s items.toList items2.toList r∧R (.ok (.ret (.bool r))) s):=
 .of_wp fun prog w A R s h=>by
  obtain⟨hp,g,d,tk,os⟩:=s;obtain⟨hl,hb,hx,h⟩:=h;have f2:=Pw
  wp_walk using wpAny_loadPart' hl,wpAny_loadPart' hb,Jw _ (fun rest b s'=>b.1=none∧s'=⟨hp,g,d,tk,os⟩∧∃ (us vs:Ab Ac),rest=us.zip vs∧LexV A.in1 ⟨hp,g,d,tk,os⟩ us vs r∧us.length+items2.size=vs.length+items.size) _
  case turn =>
   rintro⟨y,x⟩ rest b s' ⟨hb',rfl,us,vs,hz,hx',hlen⟩;cases hx' with
   |nn=>cases hz
   |nc v vs=>cases hz
   |cn u us=>cases hz
   |eq u v us vs _ he h' =>
    rw[Hm] at hz;injection hz with hyx hrest
    injection hyx with hy hx
    subst hy hx;refine Ad (he prog w _ _ ?_)
    wp_walk
    exact⟨rfl,rfl,_,_,hrest,h',by simp only[Ci] at hlen;omega⟩
   |ne u v us vs _ he h' =>
    rw[Hm] at hz;injection hz with hyx hrest
    injection hyx with hy hx
    subst hy hx;refine Ad (he prog w _ _ ?_);have hri:=h' prog w
    wp_walk using hri
    exact⟨_,rfl,by simpa using h⟩
  case fin =>
   rintro⟨b1,b2⟩ s' ⟨hb',rfl,us,vs,hz,hx',hlen⟩;simp only at hb';subst hb';have hv:r=decide (items.size<items2.size):=by
    cases hx' with
    |nn=>simp only[Fu] at hlen;exact(Bu om).symm
    |nc v vs=>simp only[Fu,Ci] at hlen;exact(Cn om).symm
    |cn u us=>simp only[Fu,Ci] at hlen;exact(Bu om).symm
    |eq u v us vs _ he h'=>cases hz
    |ne u v us vs _ he h'=>cases hz
   rw[hv] at h
   wp_walk
   exact⟨_,rfl,by simpa [Mc] using h⟩
  case h =>
   exact⟨rfl,rfl,items.toList,items2.toList,rfl,hx,by simp;omega⟩
end
theorem UW {A:Bo}{s:Ag}{l b:Af}{items items2:Bk Ac}{r:As}(hl:s.heap.IsTuple l items)(hb:s.heap.IsTuple b items2)(hu:A.units<Ds)(h:LexV A.in1 s items.toList items2.toList r):Q2 A s (.ref l) (.ref b) r:=by
 intro prog w E Q hQ;obtain⟨⟨cls,dd,data,sl⟩,ho,hc,n,hd⟩:=id hl;obtain⟨⟨cls2,dd2,data2,sl2⟩,ho2,hc2,n2,hd2⟩:=id hb;simp only at hc hd hc2 hd2;subst hc hd hc2 hd2;exact Rn (op:=.Lt) ⟨_,ho,rfl⟩ ⟨_,ho2,rfl⟩ So Ro (Qr _ _) (ZP l b items items2 n n2 dd dd2 sl sl2 r)
  ⟨ho,ho2,h,show Fi r≠Ti∧Q (.bool r) s from⟨(fun x=>nomatch x),hQ⟩⟩ hu
inductive TrV (h:Bi):Ah→D→Ac→Prop
 |int (n:Ah) (i:Aj) (t:Sk):TrV h n (.int i) (.int i t)
 |tup (n:Ah) (a:Af) (xs:Ab D) (its:Ab Ac) (ht:h.IsTuple a its.toArray) (hl:xs.length=its.length) (hs:∀ (j:Ah) (x:D) (v:Ac),xs[j]? = Aa x→its[j]? = Aa v→TrV h n x v):TrV h (n+1) (.tup xs) (.ref a)
theorem TrV.tr {h:Bi}{n:Ah}{d:D}{v:Ac}(t:TrV h n d v):Tr n d:=by
 induction t with
 |int n i t=>exact .int n i
 |tup n a xs its ht hl hs ih =>
  refine .tup n xs fun x hx=>?_;obtain⟨j,hj,e⟩:=Ct.mp hx;exact ih j x (its[j]' om) (by rw[An hj,e]) (An om)
theorem TrV.sup {h h':Bi}(S:_S.Sup h h'){n:Ah}{d:D}{v:Ac}(t:TrV h n d v):TrV h' n d v:=by
 induction t with
 |int n i t=>exact .int n i t
 |tup n a xs its ht hl hs ih =>
  obtain⟨o,ho,r⟩:=ht;exact .tup n a xs its ⟨o,S _ _ ho,r⟩ hl ih
theorem TrV.det {h:Bi}{n:Ah}{d:D}{v:Ac}(t:TrV h n d v):∀ {m:Ah} {d':D},TrV h m d' v→d=d':=by
 induction t with
 |int n i t=>intro m d' t';cases t' with|int _ _ _=>rfl
 |tup n a xs its ht hl hs ih =>
  intro m d' t';cases t' with
  |tup m _ ys its2 ht2 hl2 hs2 =>
   have e:=lG ht ht2;have e':its=its2:=by simpa using congrArg Vi e
   subst e';have:xs=ys:=Mn om fun j h1 h2=>ih j _ (its[j]' om) (An h1) (An om) (hs2 j _ _ (An h2) (An om));rw[this]
theorem TrV.eq {s:Ag}{n:Ah}{a:D}{u:Ac}(t:TrV s.heap n a u):∀ {m:Ah} {b:D} {v:Ac} {A:Bo},TrV s.heap m b v→yI a b=true→A.units+n<Ds→Yj A s u v (eqD a b):=by
 induction t with
 |int n i t =>
  intro m b v A t' hc hu;cases t' with
  |int _ j t'=>exact Zv i t j t'
  |tup _ _ _ _ _ _ _=>exact Cq hc
 |tup n a xs its ht hl hs ih =>
  intro m b v A t' hc hu;cases t' with
  |int _ j t'=>exact Cq hc
  |tup m b ys its2 ht2 hl2 hs2 =>
   refine(KS om ht ht2 hl hl2 (fun j h1 h2=>?_) fun e=>?_).eq
   ·have h1':j<its.length:=by simpa using h1
    have h2':j<its2.length:=by simpa using h2
    have e1:xs[j]? = Aa (xs.getD j .non):=by simp[Gg,show j<xs.length by omega]
    have e2:ys[j]? = Aa (ys.getD j .non):=by simp[Gg,show j<ys.length by omega]
    have f1:its[j]? = Aa its.toArray[j]:=by simp[h1']
    have f2:its2[j]? = Aa its2.toArray[j]:=by simp[h2']
    exact ih j _ _ e1 f1 (hs2 j _ _ e2 f2) (gV hc e1 e2) (by show A.units+1+n<Ds;omega)
   ·subst e
    have:=TrV.det (.tup n a xs its ht hl hs) (.tup m a ys its2 ht2 hl2 hs2);injection this with this
    subst this;exact LL (TrV.tr (.tup n a xs its ht hl hs))
theorem iY {A:Bo}{s:Ag}:∀ {xs ys:Ab D} {us vs:Ab Ac} {n m:Ah},xs.length=us.length→ys.length=vs.length→(∀ x∈xs,Tr n x)→(∀ y∈ys,Tr m y)→yU xs ys=true →
  (∀ (j:Ah) (x y:D) (u v:Ac),xs[j]? = Aa x→ys[j]? = Aa y→us[j]? = Aa u→vs[j]? = Aa v→Yj A s u v (eqD x y)∧Q2 A s u v (ltN x y))→LexV A s us vs (_H.lexLt (zG xs) (zG ys))
 |[],[],[],[],_,_,_,_,_,_,_,_=>.nn
 |[],y::ys,[],v::vs,_,_,_,_,_,h2,_,_=>by
  obtain⟨k,t,e,p⟩:=u0 (h2 y (by simp))
  have:_H.lexLt (zG []) (zG (y::ys))=true:=by
   rw[xG,e];show _H.lexLt [0] (k::_)=_;rw[_H.lexLt_cons,Bc om];exact Cn p
  rw[this];exact .nc v vs
 |x::xs,[],u::us,[],_,_,_,_,h1,_,_,_=>by
  obtain⟨k,t,e,p⟩:=u0 (h1 x (by simp))
  have:_H.lexLt (zG (x::xs)) (zG []) = false:=by
   rw[xG,e];show _H.lexLt (k::_) [0]=_;rw[_H.lexLt_cons,Bc om];exact Bu om
  rw[this];exact .cn u us
 |x::xs,y::ys,u::us,v::vs,_,_,l1,l2,h1,h2,hc,h=>by
  have hc':(yI x y&&yU xs ys)=true:=hc;rw[Ay] at hc';obtain⟨e1,e2⟩:=h 0 x y u v rfl rfl rfl rfl;rw[yH (h1 x (by simp)) (h2 y (by simp)) hc'.1]
  cases hq:eqD x y with
  |true =>
   rw[hq] at e1;exact .eq u v us vs _ e1 (iY (by simpa using l1) (by simpa using l2) (fun z hz=>h1 z (by simp[hz])) (fun z hz=>h2 z (by simp[hz])) hc'.2 fun j a b c d q1 q2 q3 q4=>h (j+1) a b c d (by simpa using q1) (by simpa using q2) (by simpa using q3) (by simpa using q4))
  |false =>
   rw[hq] at e1;exact .ne u v us vs _ e1 e2
 |[],_,_::_,_,_,_,l1,_,_,_,_,_=>by simp at l1
 |_::_,_,[],_,_,_,l1,_,_,_,_,_=>by simp at l1
 |_,[],_,_::_,_,_,_,l2,_,_,_,_=>by simp at l2
 |_,_::_,_,[],_,_,_,l2,_,_,_,_=>by simp at l2
theorem TrV.lt {s:Ag}{n:Ah}{a:D}{u:Ac}(t:TrV s.heap n a u):∀ {m:Ah} {b:D} {v:Ac} {A:Bo},TrV s.heap m b v→yI a b=true→A.units+n<Ds→Q2 A s u v (ltN a b):=by
 induction t with
 |int n i t =>
  intro m b v A t' hc hu;cases t' with
  |int _ j t' =>
   intro prog w E Q hQ;rw[gM] at hQ;exact(Ni hQ:Ap (Aw prog w) A (Cw .Lt (.int i t) (.int j t')) Q E s)
  |tup _ _ _ _ _ _ _=>exact Cq hc
 |tup n a xs its ht hl hs ih =>
  intro m b v A t' hc hu;cases t' with
  |int _ j t'=>exact Cq hc
  |tup m b ys its2 ht2 hl2 hs2 =>
   have t1:=TrV.tr (.tup n a xs its ht hl hs);have t2:=TrV.tr (.tup m b ys its2 ht2 hl2 hs2);cases t1 with
   |tup _ _ t1 =>
    cases t2 with
    |tup _ _ t2 =>
     refine UW ht ht2 om ?_;rw[gN];refine iY (by simpa using hl) (by simpa using hl2) t1 t2 hc fun j x y u v e1 e2 e3 e4=>?_
     have hu':A.in1.units+n<Ds:=by show A.units+1+n<Ds;omega
     have e3':its[j]? = Aa u:=by simpa using e3
     have e4':its2[j]? = Aa v:=by simpa using e4
     exact⟨(hs j x u e1 e3').eq (hs2 j y v e2 e4') (gV hc e1 e2) hu',ih j x u e1 e3' (hs2 j y v e2 e4') (gV hc e1 e2) hu'⟩
section
variable {X:Cx}{pins:Ab (Af × Co)}{σ : _L.St}{H P:Hp}{α : Ab Af}{S:Sto}{s:Ag}
theorem aE (I:Inv X pins σ H s)(r:Rel X.K H P α S):∀ (n:Ah) {d:D} {v:V} {u:Ac},trb n d=true→Rep X.K P α d v→qI v u→TrV s.heap n d u:=by
 intro n
 induction n with
 |zero =>
  intro d v u h p q;cases d with
  |int i=>simp only[Rep] at p;subst p;obtain⟨t,rfl⟩:=q;exact .int _ i t
  |_=>exact Cq h
 |succ n ih =>
  intro d v u h p q;cases d with
  |int i=>simp only[Rep] at p;subst p;obtain⟨t,rfl⟩:=q;exact .int _ i t
  |tup xs =>
   obtain⟨a,vs,its,rfl,q1,t1,rv1,h1,l1,_⟩:=uR I r p;cases (show u=Ch a from q)
   have la:=t1.length;have lb:=rv1.length;refine .tup n a xs its h1 om fun j x w e1 e2=>?_;obtain⟨y,f1,f2⟩:=t1.get e1;obtain⟨z,g1,g2⟩:=rv1.get f1;cases g1.symm.trans e2;exact ih (Aq.mp (show xs.all (trb n)=true from h) x (Ca e1)) f2 g2
  |_=>exact Cq h
end
def neT:D→As
 |.tup (_::_)=>true
 |_=>false
def sOk (xs:Ab D):As:=xs.all fun a=>neT a&&trb 6 a&&xs.all fun b=>yI a b
theorem kN {xs:Ab D}(h:sOk xs=true){x:D}(hx:x∈xs):neT x=true∧Tr 6 x∧∀ y∈xs,yI x y=true:=by
 have:=Aq.mp h x hx;simp only[Ay] at this;exact⟨this.1.1,rO this.1.2,fun y hy=>Aq.mp this.2 y hy⟩
def tyF:D→Ac
 |.tup (.int _::_)=>.type "int"
 |_=>.type "tuple"
def isN (h:Bi)(k:Ab Aj)(v:Ac):Prop:=∃ d,TrV h 6 d v∧zS d=k
section
open PySem.W
variable {prog:Bh}{w:Bv}{h0:Bi}
theorem c7 {A:Bo}{s:Ag}{b:As}{Q:As→Ag→Prop}:∀ {xs ys:Ab D} {us vs:Ab Ac} {n m i N M:Ah},xs.length=us.length→ys.length=vs.length →
  (∀ (j:Ah) (x:D) (u:Ac),xs[j]? = Aa x→us[j]? = Aa u→TrV s.heap n x u)→(∀ (j:Ah) (x:D) (u:Ac),ys[j]? = Aa x→vs[j]? = Aa u→TrV s.heap m x u)→yU xs ys=true→A.units+n<Ds→((b&&i == 0)=true→∀ x,xs[0]? = Aa x→∃ j,x=.int j) →
  N+vs.length=M+us.length→Q (_H.lexLt (zG xs) (zG ys)) s→KatLex prog w A b (decide (N<M)) Q (us.zip vs) i s
 |[],[],[],[],_,_,_,N,M,_,_,_,_,_,_,_,hl,h=>by
  have:decide (N<M)=false:=Bu (by simp at hl;omega)
  rw[this];exact h
 |[],y::ys,[],v::vs,_,_,_,N,M,_,_,_,h2,_,_,_,hl,h=>by
  have:decide (N<M)=true:=Cn (by simp at hl;omega)
  rw[this];obtain⟨k,t,e,p⟩:=u0 (h2 0 y v rfl rfl).tr;rw[xG,e] at h;have q:_H.lexLt (zG []) (k::t++zG ys)=true:=by
   show _H.lexLt [0] (k::_)=_;rw[_H.lexLt_cons,Bc om];exact Cn p
  rw[q] at h;exact h
 |x::xs,[],u::us,[],_,_,_,N,M,_,_,h1,_,_,_,_,hl,h=>by
  have:decide (N<M)=false:=Bu (by simp at hl;omega)
  rw[this];obtain⟨k,t,e,p⟩:=u0 (h1 0 x u rfl rfl).tr;rw[xG,e] at h;have q:_H.lexLt (k::t++zG xs) (zG []) = false:=by
   show _H.lexLt (k::_) [0]=_;rw[_H.lexLt_cons,Bc om];exact Bu om
  rw[q] at h;exact h
 |x::xs,y::ys,u::us,v::vs,n,m,i,N,M,l1,l2,h1,h2,hc,hu,hb,hl,h=>by
  have hc':(yI x y&&yU xs ys)=true:=hc;rw[Ay] at hc';have t1:=h1 0 x u rfl rfl;have t2:=h2 0 y v rfl rfl;rw[yH t1.tr t2.tr hc'.1] at h;rw[Hm];refine kat_cons (t1.eq t2 hc'.1 hu prog w _ _ ?_);refine kat_go (fun e=>kat_yes ?_) fun e=>kat_no ?_
  ·rw[AT e] at h
   refine c7 (n:=n) (m:=m) (by simpa using l1) (by simpa using l2) (fun j a b e1 e2=>h1 (j+1) a b (by simpa using e1) (by simpa using e2)) (fun j a b e1 e2=>h2 (j+1) a b (by simpa using e1) (by simpa using e2)) hc'.2 hu (fun z=>?_) (by simp at hl;omega) h
   simp at z
  ·rw[Bc (by rw[e];simp)] at h
   cases hq:b&&i == 0 with
   |true =>
    obtain⟨j,rfl⟩:=hb hq x rfl;cases t1 with
    |int _ _ t =>
     cases t2 with
     |int _ k t' =>
      rw[gM] at h;exact oneLt_int h
     |tup _ _ _ _ _ _ _=>exact Cq hc'.1
   |false=>exact kat_one _ _ (t1.lt t2 hc'.1 hu prog w _ _ h)
 |[],_,_::_,_,_,_,_,_,_,l1,_,_,_,_,_,_,_,_=>by simp at l1
 |_::_,_,[],_,_,_,_,_,_,l1,_,_,_,_,_,_,_,_=>by simp at l1
 |_,[],_,_::_,_,_,_,_,_,_,l2,_,_,_,_,_,_,_=>by simp at l2
 |_,_::_,_,[],_,_,_,_,_,_,l2,_,_,_,_,_,_,_=>by simp at l2
theorem T6 {xs ys:Ab D}(hc:yI (.tup xs) (.tup ys)=true)(h1:xs≠[])(h2:ys≠[]){n m:Ah}(t1:Tr n (.tup xs))(t2:Tr m (.tup ys)):tyF (.tup xs)=tyF (.tup ys):=by
 cases xs with
 |nil=>exact absurd rfl h1
 |cons x xs =>
  cases ys with
  |nil=>exact absurd rfl h2
  |cons y ys =>
   have hc':(yI x y&&yU xs ys)=true:=hc;rw[Ay] at hc';cases t1 with
   |tup _ _ t1 =>
    cases t2 with
    |tup _ _ t2 =>
     have a1:=t1 x (by simp)
     have a2:=t2 y (by simp)
     cases a1 with
     |int _ i=>cases a2 with
      |int _ j=>rfl
      |tup _ _ _=>exact Cq hc'.1
     |tup _ _ _=>cases a2 with
      |int _ j=>exact Cq hc'.1
      |tup _ _ _=>rfl
theorem GX {M:Ma}{h:Bi}{T:Ac}:∀ {vs:Ab Ac},(∀ v∈vs,∃ d,TrV h 6 d v∧neT d=true∧tyF d=T)→∃ fs,KatTups h vs fs∧fs.length=vs.length∧∀ f∈fs,Looks M h (typeOf f) T
 |[],_=>⟨[],trivial,rfl,fun f hf=>by simp at hf⟩
 |v::vs,hv=>by
  obtain⟨fs,a1,a2,a3⟩:=GX (M:=M) (vs:=vs) fun u hu=>hv u (by simp[hu])
  obtain⟨d,t,hn,ht⟩:=hv v (by simp)
  cases t with
  |int _ _ _=>cases hn
  |tup n a xs its hi hl hs =>
   cases xs with
   |nil=>cases hn
   |cons x xs =>
    cases its with
    |nil=>simp at hl
    |cons f its =>
     obtain⟨o,ho,hc,k,hd⟩:=hi;refine⟨f::fs,ZB ho hc hd rfl a1,by simp[a2],fun g hg=>?_⟩
     rcases Av.mp hg with rfl|hg
     ·have q:=hs 0 x g rfl rfl
      cases q with
      |int _ i tk =>
       rw[← ht];exact Zk rfl
      |tup _ b ys jts hi2 _ _ =>
       obtain⟨o2,ho2,hc2,_⟩:=hi2;rw[← ht,show tyF (.tup (.tup ys::xs))=o2.cls from hc2.symm]
       exact(Looks.ld ho2).andThen .now
     ·exact a3 g hg
theorem NF {xs:Ab D}(ok:sOk xs=true){vs:Ab Ac}{ks:Ab (Ab Aj)}(hl:vs.length=ks.length)(hv:∀ i v,vs[i]? = Aa v→isN h0 (ks.getD i []) v)(hf:∀ k∈ks,∃ x∈xs,zS x=k)(h2:2≤vs.length):_S.Cmps prog w h0 vs (_S.gG _H.lexLt ks []):=by
 have at':∀ i (hi:i<vs.length),∃ d,d∈xs∧TrV h0 6 d (vs.getD i Ed)∧zS d=ks.getD i []:=fun i hi=>by
  obtain⟨d,t,e⟩:=hv i vs[i] (An hi);obtain⟨x,hx,e2⟩:=hf (ks.getD i []) (by simp[Gg,show i<ks.length by omega])
  have:=gW t.tr (kN ok hx).2.1 (e.trans e2.symm);subst this;exact⟨d,hx,by simpa [Gg,hi] using t,e⟩
 obtain⟨d0,hd0,_,_⟩:=at' 0 om;have ty:∀ d∈xs,tyF d=tyF d0:=fun d hd=>by
  obtain⟨n1,t1,c1⟩:=kN ok hd;obtain⟨n2,t2,_⟩:=kN ok hd0;have c:=c1 d0 hd0;cases d with
  |tup as =>
   cases d0 with
   |tup bs=>exact T6 c (fun z=>by subst z;cases n1) (fun z=>by subst z;cases n2) t1 t2
   |_=>cases n2
  |_=>cases n1
 refine⟨tuples' (tyF d0 != Hd "tuple"),fun A hu s hS=>⟨fun Q E h=>?_,fun i j C hi hj h=>?_⟩⟩
 ·obtain⟨fs,a1,a2,a3⟩:=GX (M:=Aw prog w) (h:=s.heap) (T:=tyF d0) (vs:=vs) fun v hm=>by
   obtain⟨i,hi,e⟩:=Ct.mp hm;obtain⟨d,q1,q2,_⟩:=at' i hi;have:vs.getD i Ed=v:=by simp[Gg,hi,e]
   rw[this] at q2;exact⟨d,q2.sup hS,(kN ok q1).1,ty d q1⟩
  refine kat_kind a1 om a3 ?_ h;unfold tyF
  split <;> decide
 ·obtain⟨a,a1,a2,a3⟩:=at' i hi
  obtain⟨b,b1,b2,b3⟩:=at' j hj;unfold _S.gG at h;unfold Zj;rw[← a3,← b3] at h;have t1:=a2.sup hS;have t2:=b2.sup hS;obtain⟨n1,_,c1⟩:=kN ok a1;obtain⟨n2,_,_⟩:=kN ok b1;have tya:=ty a a1;have c:=c1 b b1;generalize vs.getD i Ed=u at *;generalize vs.getD j Ed=v at *;cases t1 with
  |int _ _ _=>cases n1
  |tup n p ps its hi1 l1 s1 =>
   cases t2 with
   |int _ _ _=>cases n2
   |tup m q qs jts hi2 l2 s2 =>
    obtain⟨o1,ho1,_,k1,d1⟩:=hi1;obtain⟨o2,ho2,_,k2,d2⟩:=hi2;have h':C (_H.lexLt (zG ps) (zG qs)) s:=by
     have:=@gN ps qs;unfold ltN at this;rw[this] at h;exact h
    refine kat_lt ho1 d1 ho2 d2 (c7 (n:=5) (m:=5) l1 l2 s1 s2 c om (fun z x hx=>?_) (by simp;omega) h')
    rw[← tya] at z;cases ps with
    |nil=>cases hx
    |cons x' ps =>
     cases hx;cases x with
     |int i=>exact⟨i,rfl⟩
     |_=>exact absurd z (by simp[tyF])
theorem HS {xs:Ab D}(ok:sOk xs=true):_S.Kind prog w (isN h0) (fun _=>0) _H.lexLt [] (fun k=>∃ x∈xs,zS x=k) h0:=
 ⟨_S.xU,fun {k k' v} ⟨d,t,e⟩ ⟨d',t',e'⟩=>by rw[← e,← e',t.det t'],fun h1 h2 h3 h4=>NF ok h1 h2 h3 h4⟩
end
end _D
namespace _D
open PySem PySem.Spec PyProof.Rows _L
def bU (d:D)(S:Sto):Am (Ab (Key × D)):=match d with
 |.loc n=>match S[n]? with
  |some (.dct kvs)=>Aa kvs
  |_=>none
 |_=>none
def btN (xs:Ab D)(i j:Ah):As:=ltN (xs.getD i .non) (xs.getD j .non)
def kI (xs:Ab D):D:=xs.getD (Ht (btN xs) (xs.length-1)) .non
theorem N1 (xs:Ab D):∀ k,Ht (btN xs) k≤k∧∀ j,j≤k→btN xs j (Ht (btN xs) k)=false
 |0=>⟨Bd _,fun j hj=>by
  have:j=0:=by omega
  subst this;exact _S.xU.irr _⟩
 |k+1=>by
  obtain⟨h1,h2⟩:=N1 xs k;rw[Ht];cases h:btN xs (k+1) (Ht (btN xs) k) with
  |true =>
   rw[AT rfl];refine⟨Bd _,fun j hj=>?_⟩;cases q:btN xs j (k+1) with
   |false=>rfl
   |true =>
    by_cases hk:j=k+1
    ·subst hk;exact absurd (_S.xU.irr _) (by unfold btN ltN at q;rw[q];simp)
    ·exact absurd (show btN xs j (Ht (btN xs) k)=true from _S.xU.tr q h) (by rw[h2 j om];simp)
  |false =>
   rw[Bc (by simp)]
   refine⟨by omega,fun j hj=>?_⟩
   by_cases hk:j=k+1
   ·subst hk;exact h
   ·exact h2 j om
theorem WH {xs:Ab D}(h:0<xs.length):kI xs∈xs∧∀ y∈xs,ltN y (kI xs)=false:=by
 obtain⟨h1,h2⟩:=N1 xs (xs.length-1);have hm:Ht (btN xs) (xs.length-1)<xs.length:=by omega
 refine⟨by unfold kI;rw[Gr,An hm];exact Gk _,fun y hy=>?_⟩
 obtain⟨j,hj,e⟩:=Ct.mp hy;have:=h2 j om;unfold btN at this;rw[Gr,An hj] at this;rw[← e];exact this
def mOk (xs:Ab D):As:=xs.all fun a=>trb 6 a&&xs.all fun b=>yI a b
def lsD (d:D)(S:Sto):Am (Ab D):=match d with
 |.lst xs=>Aa xs
 |.loc n=>match S[n]? with
  |some (.lst xs)=>Aa xs
  |_=>none
 |_=>none
section
variable {prog:Bh}{w:Bv}{A:Bo}{R:Uq→Ag→Prop}{I:Af}{fp wr:Ab Af}{n:Ah}{P:Ah→Ac→Prop}{St:Ah→Bi→Prop}{bt:Ah→Ah→As}{S:Af}{h0:Bi}{kw:Ab (Au × Ac)}
def oZ (prog:Bh)(w:Bv)(A:Bo)(h0:Bi)(op:Sm)(P:Ah→Ac→Prop)(bt:Ah→Ah→As):Prop:=
 ∀ i j vi vj (s:Ag) (Q:Ac→Ag→Prop) (E:Ac→Ag→Prop),_S.Sup h0 s.heap→P i vi→P j vj→Q (.bool (bt i j)) s→Ap (Aw prog w) A (Wv op vi vj) Q E s
theorem tV:(toString "min" ++ toString ".loop" : Du) = "min.loop":=by decide
theorem J2 (W:Walks prog w A.in1 I fp wr n P St)(hcmp:oZ prog w A.in1 h0 .Lt P bt)(hf:S ∉ fp)(hS0:h0.get? S=none)(hw0:∀ b∈wr,h0.get? b=none) :
  ∀ (k j:Ah) (s:Ag) (u:Ac) (c:Ah),j+1+k=n→_S.Sup h0 s.heap→St (j+1) s.heap→P (Ht bt j) u→s.heap.get? S=Aa { cls:=.type "list",dict:=none,data:=.seq #[u,u] c,slots:=#[] } →
  (∀ v h' tk,P (Ht bt (n-1)) v→(∀ b o,b ∉ wr→b≠S→s.heap.get? b=Aa o→h'.get? b=Aa o)→R (.ok (.ret v)) { s with heap:=h',toks:=tk }) →
  Ja (Aw prog w) A (.builtin "min.loop" ⟨[.ref I,.none,.ref S],kw⟩) R s:=by
 have hw:S ∉ wr:=fun z=>hf (W.sub _ z);intro k
 induction k with
 |zero =>
  intro j s u c hk hs st hu hS hR;have hn:j+1=n:=by omega
  subst hn;refine Fd Ji ?_;rw[Fa Dx _];refine Ad (Et hS rfl ?_);refine Ad (Lo (W.done s _ _ st fun h' tk q=>?_));refine Ad ?_;exact Kv (q S _ hw hS) rfl (Ad (Kq (Al (hR u _ tk hu fun b o z1 z2 e=>(Bs _ _ (Ea z2)).trans (q b o z1 e)))))
 |succ k ih =>
  intro j s u c hk hs st hu hS hR;refine Fd Ji ?_;rw[Fa Dx _];refine Ad (Et hS rfl ?_);refine Ad (Lo (W.item (j+1) s _ _ om st fun v h' tk hv st' q=>?_));have hS':=q S _ hw hS;have hs':_S.Sup h0 h':=fun b o e=>q b o (fun z=>by rw[hw0 b z] at e;cases e) (hs b o e)
  refine Ad (Al ?_);refine Ad (Lo (Dj (Ad (hcmp (j+1) (Ht bt j) v u _ _ _ hs' hv hu ?_))));refine Ad (Dj (Pb ?_));refine Ad (Kq (Al ?_));cases hb:bt (j+1) (Ht bt j) with
  |true =>
   rw[AT rfl];refine Ad ?_;refine Kv hS' rfl (Ad (Kq ?_));rw[tV];refine Al ⟨Gy Dx _,ih (j+1) _ v _ om (fun b o e=>(Bs _ _ fun y:S=b=>by rw[← y,hS0] at e;cases e).trans (hs' b o e)) (W.frame _ _ _ st' fun b z o e=>(Bs _ _ fun y:S=b=>hf (y▸z)).trans e) ?_ (Eb _ hS' rfl) fun v' h2 tk2 p2 q2=>hR v' h2 tk2 p2 fun b o z1 z2 e=>q2 b o z1 z2 ((Bs _ _ (Ea z2)).trans (q b o z1 e))⟩
   rw[Ht,AT hb];exact hv
  |false =>
   rw[Bc (by simp)]
   refine Ad (Kq ?_);rw[tV];refine Al ⟨Gy Dx _,ih (j+1) _ u c om hs' st' ?_ hS' fun v' h2 tk2 p2 q2=>hR v' h2 tk2 p2 fun b o z1 z2 e=>q2 b o z1 z2 (q b o z1 e)⟩;rw[Ht,Bc (by rw[hb];simp)]
   exact hu
theorem sE (W:Walks prog w A.in1 I fp wr n P St)(hcmp:oZ prog w A.in1 h0 .Lt P bt)(hf:S ∉ fp)(hS0:h0.get? S=none)(hw0:∀ b∈wr,h0.get? b=none){s:Ag}{c:Ah}(hs:_S.Sup h0 s.heap)(st:St 0 s.heap)(hn:0<n)(hS:s.heap.get? S=Aa { cls:=.type "list",dict:=none,data:=.seq #[] c,slots:=#[] })
  (hR:∀ v h' tk,P (Ht bt (n-1)) v→(∀ b o,b ∉ wr→b≠S→s.heap.get? b=Aa o→h'.get? b=Aa o)→R (.ok (.ret v)) { s with heap:=h',toks:=tk }) :
  Ja (Aw prog w) A (.builtin "min.loop" ⟨[.ref I,.none,.ref S],kw⟩) R s:=by
 have hw:S ∉ wr:=fun z=>hf (W.sub _ z);refine Fd Ji ?_;rw[Fa Dx _];refine Ad (Et hS rfl ?_);refine Ad (Lo (W.item 0 s _ _ hn st fun v h' tk hv st' q=>?_));have hS':=q S _ hw hS;have hs':_S.Sup h0 h':=fun b o e=>q b o (fun z=>by rw[hw0 b z] at e;cases e) (hs b o e)
 refine Ad (Al ?_);refine Ad ?_;refine Kv hS' rfl ?_;rw[tV];refine Al ⟨Gy Dx _,J2 W hcmp hf hS0 hw0 (n-1) 0 _ v _ om (fun b o e=>(Bs _ _ fun y:S=b=>by rw[← y,hS0] at e;cases e).trans (hs' b o e)) (W.frame _ _ _ st' fun b z o e=>(Bs _ _ fun y:S=b=>hf (y▸z)).trans e) hv (Eb _ hS' rfl) fun v' h2 tk2 p2 q2=>hR v' h2 tk2 p2 fun b o z1 z2 e=>q2 b o z1 z2 ((Bs _ _ (Ea z2)).trans (q b o z1 e))⟩
end
section
variable {prog:Bh}{w:Bv}{A:Bo}{E:Ac→Ag→Prop}{s:Ag}{l:Af}{its:Bk Ac}
theorem J0 {bt:Ah→Ah→As}{Q:Ac→Ag→Prop}(hh:A.handled=none)(hl:s.heap.IsList l its)(hn:0<its.size)(hcmp:oZ prog w A.in1 s.heap .Lt (fun i v=>its[i]? = Aa v) bt)
  (h:∀ v h' tk,its[Ht bt (its.size-1)]? = Aa v→(∀ b o,s.heap.get? b=Aa o→h'.get? b=Aa o)→Q v { s with heap:=h',toks:=tk }) : Ap (Aw prog w) A (call (.builtin "min") [.ref l]) Q E s:=by
 have hlt:l<s.heap.objs.size:=by obtain⟨_,e,_⟩:=hl;exact Ax e
 have none_at:∀ b,s.heap.objs.size≤b→s.heap.get? b=none:=fun b hb=>by
  cases q:s.heap.get? b with
  |none=>rfl
  |some o=>exact absurd (Ax q) (Hy.mpr hb)
 refine call_function_tree Xi Wo Wp (PySem.F.args_min1 _) ?_;refine Ad (Kn (show Oe "min" ["key","default"] 0 ⟨[],[]⟩ = pure [none,none] from rfl) ?_)
 refine Ad (Al ?_);refine Ad (Ga hl ?_);refine Ad (Dd ?_);have W:=Ue (prog:=prog) (w:=w) (A:=A.in1) hh s.heap.objs.size l (Cc hlt) its;rw[tV];have sz:(s.heap.push { cls:=.type "list_iterator",data:=.fields #[.ref l,.int 0 0] }).objs.size=s.heap.objs.size+1:=Dl ..;refine Al ⟨Gy Dx _,sE (h0:=s.heap) W hcmp ?_ (none_at _ (by rw[sz];exact Jo _)) (fun b hb=>?_) (fun b o e=>Ai _ (Ai _ e)) (W.frame _ _ _ ⟨⟨_,Az _ rfl,rfl,rfl⟩,hl.push _⟩ fun b _ o e=>Ai _ e) hn (Az _ rfl) fun v h' tk hv q=>?_⟩
 ·rw[sz]
  simp only[Av,Cj,Fe,Us];exact⟨Xj _,Ea (Cc (Jr hlt))⟩
 ·simp only[Av,Cj,Fe] at hb
  subst hb;exact none_at _ (Bd _)
 ·refine h v h' tk hv fun b o e=>q b o (fun hm=>?_) (fun hm=>?_) (Ai _ (Ai _ e))
  ·simp only[Av,Cj,Fe] at hm
   subst hm;exact absurd (Ax e) (DL _)
  ·subst hm
   exact absurd (Ax e) (by rw[sz];exact Hy.mpr (Jo _))
end
def tE:DF:=fun ds S=>match ds with
 |[d]=>match lsD d S with
  |some (x::xs)=>if mOk (x::xs)=true then .ok (kI (x::xs)) S else .bad
  |_=>.bad
 |_=>.bad
section
variable {X:Cx}{pins:Ab (Af × Co)}{σ : _L.St}{H P:Hp}{α : Ab Af}{S:Sto}{s:Ag}
set_option tactic.hygienic true in
theorem G9 (I:Inv X pins σ H s)(r:Rel X.K H P α S){d:D}{xs:Ab D}{v:V}(h:lsD d S=Aa xs)(p:Rep X.K P α d v):∃ a vs its,v=.ref a∧qF X.K P α xs vs∧qN vs its∧s.heap.IsList a its.toArray∧xs.length=its.length:=by
 unfold lsD at h
 split at h
 ·cases h
  obtain⟨a,ws,its,n,rfl,_,t,rvi,e,l,_⟩:=uH I r p;exact⟨a,ws,its,rfl,t,rvi,⟨_,e,rfl,n,rfl⟩,l⟩
 ·split at h
  ·rename_i hS
   cases h;simp only[Rep] at p;obtain⟨b,rfl,q⟩:=p;obtain⟨ws,z,t⟩:=r.at' _ b _ q hS;obtain⟨its,rvi,pl,_⟩:=I.list (.inl (.inl z));exact⟨b,ws,its,rfl,t,rvi,pl.isList,by rw[t.length,rvi.length]⟩
  ·cases h
 ·cases h
theorem tU {xs:Ab D}(h:mOk xs=true){x:D}(hx:x∈xs):trb 6 x=true∧∀ y∈xs,yI x y=true:=by
 have:=Aq.mp h x hx;simp only[Ay] at this;exact⟨this.1,fun y hy=>Aq.mp this.2 y hy⟩
theorem PU (hc:X.calm=true)(hu:X.A.units+64<Ds):vA X (.builtin "min") tE:=by
 intro pins σ H s P α S vs us ds Q I r rv rp af
 match ds,af,rp with
 |[],af,_=>exact Ao af
 |_::_::_,af,_=>exact Ao af
 |[d],af,rp =>
  simp only[tE] at af;cases hd:lsD d S with
  |none=>rw[hd] at af;exact Ao af
  |some xs =>
   rw[hd] at af;cases xs with
   |nil=>exact Ao af
   |cons x xs =>
    dsimp only at af;obtain⟨ok,af⟩:=vN (X:=X) af;obtain⟨v,u,rfl,rfl,p,q⟩:=uM rp rv;obtain⟨a,ws,its,rfl,t,rvi,hl,ll⟩:=G9 I r hd p;cases (show u=Ch a from q)
    have at':∀ (i:Ah) (u:Ac),its.toArray[i]? = Aa u→∃ vv,TrV s.heap 6 ((x::xs).getD i .non) u∧qI vv u∧Rep X.K P α ((x::xs).getD i .non) vv∧(x::xs).getD i .non∈x::xs:=fun i u hi=>by
     have hi':its[i]? = Aa u:=by simpa using hi
     have hii:i<its.length:=(Ba.mp hi').1;have hx:(x::xs)[i]? = Aa ((x::xs)[i]' om):=An om;obtain⟨y,f1,f2⟩:=t.get hx;obtain⟨z,g1,g2⟩:=rvi.get f1;cases g1.symm.trans hi';have e:(x::xs).getD i .non=(x::xs)[i]' om:=by rw[Gr,hx];rfl
     rw[e];exact⟨y,aE I r 6 (tU ok (Gk _)).1 f2 g2,g2,f2,Gk _⟩
    have hz:its.toArray.size=xs.length+1:=by simp only[Be];rw[← ll];rfl
    refine J0 (bt:=btN (x::xs)) (I.ok.hd hc) hl om (fun i j vi vj s' Q' E' hs hi hj hQ=>?_) fun v h' tk hv hk=>?_
    ·obtain⟨_,t1,_,_,m1⟩:=at' i vi hi
     obtain⟨_,t2,_,_,m2⟩:=at' j vj hj;exact(t1.sup hs).lt (t2.sup hs) ((tU ok m1).2 _ m2) (by show X.A.units+1+6<Ds;omega) _ _ _ _ hQ
    ·obtain⟨vv,_,rv',rp',_⟩:=at' _ v hv
     rw[hz] at rp';exact⟨vv,H,I.kept (t':=tk) hk,rv',xr af r rp'⟩
end
section
variable {X:Cx}{cm:As}{k:Ah}{o i:Bq}{fo fi:DE}{pos:Ez}
theorem EO (hc:X.calm=true)(hr:RoomC cm k X.A):ZCall X (.builtin "min") tE:=⟨PU hc hr.units⟩
end
section
open _S PySem.W
variable {prog:Bh}{w:Bv}{A:Bo}{E:Ac→Ag→Prop}{s:Ag}
theorem ZK {Q:Ac→Ag→Prop}{arg:Ac}{Rc:Ab Ac→Ag→Prop}(hu:A.units+16<Ds)(hcol:∀ {R:Ab Ac→Ag→Prop},(∀ vs s1,Rc vs s1→R vs s1)→Ap (Aw prog w) A.in1 (collect arg) R E s)
  (h:∀ (vs:Ab Ac) (s1:Ag),Rc vs s1→∃ xs:Ab D,sOk xs=true∧xs.length=vs.length∧xs.length≤63∧(∀ (i:Ah) (x:D) (v:Ac),xs[i]? = Aa x→vs[i]? = Aa v→TrV s1.heap 6 x v) ∧
   ∀ (h':Bi) (a:Af) (c:Ah) (ps:Ab (Ab Aj × Ac)),(∀ b o,s1.heap.get? b=Aa o→h'.get? b=Aa o)→s1.heap.objs.size≤a→h'.get? a=Aa (Dw "list" (ps.map (·.2)).toArray c)→ps.map (·.1)=(bJ xs).map zS→(∀ p∈ps,isN s1.heap p.1 p.2∧p.2∈vs)→Q (.ref a) { s1 with heap:=h',toks:=s1.toks }) :
  Ap (Aw prog w) A (call (.builtin "sorted") [arg]) Q E s:=by
 refine Pq kind_sorted plain_sorted entry_sorted (args_sorted1 _) ?_;unfold He.«sorted»;refine Ad (m:=checkCount "sorted" 1 1 _) (Al ?_);refine Ad (hcol fun vs s1 hR=>?_);obtain⟨xs,ok,hl,hz,ht,h⟩:=h vs s1 hR;refine Ad (Uj ?_ (by rw[Fk];omega))
 have hD:(s1.heap.push (Dw "list" vs.toArray 0)).get? s1.heap.objs.size=Aa (Dw "list" vs.toArray 0):=Az _ rfl;have n0:s1.heap.get? s1.heap.objs.size=none:=by
  cases q:s1.heap.get? s1.heap.objs.size with
  |none=>rfl
  |some o=>exact absurd (Ax q) (DL _)
 have kd:=HS (prog:=prog) (w:=w) (h0:=s1.heap) ok;have hlen:vs.length=(xs.map zS).length:=by rw[Ar];omega
 have hks:∀ i v,vs[i]? = Aa v→isN s1.heap ((xs.map zS).getD i []) v:=fun i v hi=>by
  have hii:i<xs.length:=by have:=(Ba.mp hi).1;omega
  refine⟨xs[i],ht i _ v (An hii) hi,?_⟩;simp[Gg,hii]
 show Ap _ _ _ _ _ { s1 with heap:=s1.heap.push (Dw "list" vs.toArray 0),toks:=s1.toks }
 refine Ad (Dj (Eh slot_list_sort ⟨_,hD,rfl⟩ Ya (GA (h0:=s1.heap) (is:=isN s1.heap) kd.ord kd.inj (d:=[]) (vs:=vs) hlen hks hD (by show A.units+2+8<Ds;omega) om (fun h2=>kd.cmps hlen hks (fun k hk=>by
  obtain⟨x,hx,e⟩:=Bt.mp hk;exact⟨x,hx,e⟩) h2) (fun b o e=>Ai _ e) n0 fun ps pm nf=>⟨_,rfl,?_⟩) (args_list_sort _)))
 refine Al ⟨_,rfl,?_⟩;have old:∀ b o,b≠s1.heap.objs.size→(s1.heap.push (Dw "list" vs.toArray 0)).get? b=Aa o→((((s1.heap.push (Dw "list" vs.toArray 0)).update s1.heap.objs.size (Ef fun _=>#[])).push (Dw "tuple" vs.toArray 0)).push (Dw "list" #[] 0)).get? b=Aa o:=fun b o hb e =>
  Ai _ (Ai _ ((Bs _ _ (Ea hb)).trans e))
 obtain⟨e1,he1⟩:∃ e1,((s1.heap.push (Dw "list" vs.toArray 0)).update s1.heap.objs.size (Ef fun _=>#[])).get? s1.heap.objs.size=Aa (Dw "list" #[] e1):=⟨_,Kx hD (fun _=>#[])⟩;have he6:=Kx (Ai (Dw "list" #[] 0) (Ai (Dw "tuple" vs.toArray 0) he1)) (fun _=>(ps.map (·.2)).toArray)
 have pk:(ps.map (·.1)).Perm (xs.map zS):=by
  have:=pm.map (·.1)
  rwa [Qo om] at this
 refine h _ s1.heap.objs.size _ ps (fun b o e=>?_) (Bd _) he6 ?_ (fun p hp=>?_)
 ·have hb:b≠s1.heap.objs.size:=fun z=>by
   subst z;exact absurd (Ax e) (DL _)
  exact(Bs _ _ (Ea hb)).trans (old b o hb (Ai _ e))
 ·rw[sS]
  exact fB kd.ord nf (d7 kd.ord _) (pk.trans (gB _).symm)
 ·obtain⟨i,e1,e2⟩:=V3 (d:=[]) hlen (pm.mem_iff.mp hp)
  exact⟨e2▸hks i _ e1,Ca e1⟩
end
def yK (kvs:Ab (Key × D)):Ab D:=kvs.map fun p=>.tup [kD p.1,p.2]
def bS (f:DE):DE:=fun env S=>(f env S).bind fun d S1=>match bU d S1 with
 |some kvs=>if (decide ((yK kvs).length≤63)&&sOk (yK kvs))=true then .ok (.loc S1.length) (S1++[.lst (bJ (yK kvs))]) else .bad
 |none=>.bad
section
variable {X:Cx}{o:Bq}{fo:DE}{apos cpos pos p2:Ez}
set_option tactic.hygienic true in
theorem XC {d:D}{S:Sto}{kvs:Ab (Key × D)}(h:bU d S=Aa kvs):∃ n,d=.loc n∧S[n]? = Aa (.dct kvs):=by
 unfold bU at h
 split at h
 ·split at h
  ·rename_i hS
   cases h;exact⟨_,rfl,hS⟩
  ·cases h
 ·cases h
theorem XG (hc:X.calm=true)(hu:X.A.units+64<Ds)(hg:Gl X "sorted")(hm:X.mg "sorted" = none)(ho:PE X o (tD X fo))(hbase:Pj o "items" X.env (eval o X.env)=eval o X.env:=by rfl)(hline:(apos.endLine == cpos.line)=true:=by rfl) :
  PE X (.Call (.Name "sorted" p2) [.Call (.Attribute o "items" apos) [] [] cpos] [] pos) (tD X (bS fo)):=by
 intro pins s σ H Q I h;obtain⟨P,α,env,S,r,re,af⟩:=h;refine Gf (uF I hg hm dH ?_);refine Iu ?_ rfl rfl;refine La (wpAny_Call_method0_late hbase hline (thn (xH ho I r re af) fun vv s1 ⟨v,H1,P1,α1,d,S1,G1,af1⟩=>?_));cases hd:bU d S1 with
 |none=>rw[hd] at af1;exact Ao af1
 |some kvs =>
  rw[hd] at af1;dsimp only at af1;obtain⟨hok,af1⟩:=vN (X:=X) af1;rw[Ay,Cm] at hok;obtain⟨hz5,ok⟩:=hok;obtain⟨n,rfl,hS⟩:=XC hd;have rp:=G1.rep;have I1:=G1.inv;have r1:=G1.rel;have ht:tyD (.loc n) S1=Aa "dict":=YY hS;obtain⟨h1,h2⟩:=YW I1 G1.val (YX r1 rp ht (by simp))
  simp only[Rep] at rp;obtain⟨a,rfl,ha⟩:=rp;cases (show vv=Ch a from G1.val)
  obtain⟨vs,z,t⟩:=r1.at' n a _ ha hS;obtain⟨hz,hds,us,rel,dd⟩:=KO I1.hok z;refine⟨"dict","dict.items",Li,Rf,PySem.F.type_dict_items,h1,h2,Rv rfl (PySem.evalArgs_none ?_)⟩;refine Vk Rf dd.typeIs PySem.F.entry_dict_items (PySem.F.args_dict_items_1 _) (meets_dict_items (x5 X.prog X.w) a hds) ⟨⟨us,dd⟩,?_⟩;obtain⟨ep,oa,es,hoa,rest⟩:=dd.dictAt;refine Lp ?_;have hlu:us.length≤sizeLine:=by rw[← rel.length];exact hz
  have I2:=I1.kept (t':=s1.toks) (h':=s1.heap.push { cls:=.type "dict_items",data:=.fields #[.ref a] }) fun b u e=>Ai _ e;refine ZK (Rc:=fun us' s'=>∃ (h':Bi) (tk:Ah) (as:Ab Af),us'=as.map Ch∧s'={ s1 with heap:=h',toks:=tk } ∧ (∀ b o,(s1.heap.push { cls:=.type "dict_items",data:=.fields #[.ref a] }).get? b=Aa o→h'.get? b=Aa o)∧as.length=us.length∧PySem.W.KdxG (x5 X.prog X.w) us (s1.heap.push { cls:=.type "dict_items",data:=.fields #[.ref a] }).objs.size h' as)
   om (fun {R} hR=>PySem.W.kdx_collect (s:={ s1 with heap:=s1.heap.push { cls:=.type "dict_items",data:=.fields #[.ref a] } }) (knd:=x5 X.prog X.w) (d:=a) (kvs:=us) (ep:=ep) (I1.ok.hd hc) ⟨_,Az _ rfl,rfl,rfl⟩ ⟨oa,es,Ai _ hoa,rest⟩ hlu fun h' tk as hk hlen g=>hR _ _ ⟨h',tk,as,rfl,rfl,hk,hlen,g⟩) ?_
  rintro _ _ ⟨h',tk,as,rfl,rfl,hk,hlen,g⟩;have hlv:as.length=vs.length:=by rw[hlen,rel.length]
  have hfst:(uQ as vs).map (·.1)=as:=aF as vs hlv
  have nd:((uQ as vs).map (·.1)).Nodup:=by
   rw[hfst];exact g.rise.imp fun hlt=>Cc hlt
  have hge:∀ p∈uQ as vs,(s1.heap.push { cls:=.type "dict_items",data:=.fields #[.ref a] }).objs.size≤p.1:=fun p hp=>by
   have:p.1∈as:=by rw[← hfst];exact Bt.mpr ⟨p,hp,rfl⟩
   exact Gm (g.above _ this)
  have I3:Inv X pins σ (yG H1 (uQ as vs)) { s1 with heap:=h',toks:=tk }:=Inv.laidL (s:={ s1 with heap:=s1.heap.push { cls:=.type "dict_items",data:=.fields #[.ref a] } }) (L:=uQ as vs) (t':=tk) I2 hk hge fun p hp=>by
   obtain⟨j,q,e1,e2,e3⟩:=aG hp;obtain⟨u,e4,e5⟩:=tR rel e2;obtain⟨key,k,x,f1,f2,f3⟩:=g.pairs j p.1 e1;rw[e4] at f1;cases f1;rw[e3];exact⟨(by decide:2≤sizeLine),[key,u],.cons (HQ f2) (.cons e5 .nil),_,f3,rfl,_,rfl⟩
  obtain⟨r3,e3⟩:=r1.pureL (L:=uQ as vs) (fun p hp=>I2.hok.fresh (hge p hp)) nd;have rps:qF X.K (yG P1 (uQ as vs)) α1 (yK kvs) (as.map V.ref):=sW (KVs.mono e3 (Bg _) t) hlv fun p hp=>mS nd hp;have lk:(yK kvs).length=as.length:=by have:=rps.length;rwa [Ar] at this
  have at':∀ (i:Ah) (x:D) (u:Ac),(yK kvs)[i]? = Aa x→(as.map Ch)[i]? = Aa u→TrV h' 6 x u∧∃ w,qI w u∧Rep X.K (yG P1 (uQ as vs)) α1 x w:=fun i x u hx hu'=>by
   obtain⟨y,f1,f2⟩:=rps.get hx;obtain⟨z',g1,g2⟩:=(V1 as).get f1;cases g1.symm.trans hu';refine⟨aE I3 r3 6 ?_ f2 g2,y,g2,f2⟩;have:=Aq.mp ok _ (Ca hx);simp only[Ay] at this;exact this.1.2
  refine⟨yK kvs,ok,by rw[lk,Ar],hz5,fun i x u hx hu'=>(at' i x u hx hu').1,fun h2 b c ps kp hb hob hps hp=>?_⟩
  have vv:∀ (ps:Ab (Ab Aj × Ac)) (ys:Ab D),ps.map (·.1)=ys.map zS→(∀ y∈ys,y∈yK kvs)→(∀ p∈ps,isN h' p.1 p.2∧p.2∈as.map Ch)→∃ ws,qN ws (ps.map (·.2))∧qF X.K (yG P1 (uQ as vs)) α1 ys ws:=by
   intro ps
   induction ps with
   |nil =>
    intro ys e _ _;cases ys with
    |nil=>exact⟨[],.nil,.nil⟩
    |cons _ _=>cases e
   |cons p ps ih =>
    intro ys e hy h;cases ys with
    |nil=>cases e
    |cons y ys =>
     injection e with e1 e2
     obtain⟨ws,a1,a2⟩:=ih ys e2 (fun x hx=>hy x (by simp[hx])) fun q hq=>h q (by simp[hq])
     obtain⟨⟨d',t',c'⟩,hm'⟩:=h p (by simp)
     obtain⟨i,hi,ei⟩:=Ct.mp hm';have hik:i<(yK kvs).length:=by rw[lk];simpa using hi
     obtain⟨t2,w,rw',pw⟩:=at' i _ p.2 (An hik) (by rw[An hi,ei])
     have hd':=t'.det t2;subst hd';have:(yK kvs)[i]=y:=gW t2.tr (kN ok (hy y (by simp))).2.1 (c'.trans e1)
     rw[this] at pw;exact⟨w::ws,.cons rw' a1,.cons pw a2⟩
  obtain⟨ws,a1,a2⟩:=vv ps (bJ (yK kvs)) hps (fun y hy=>(gC _).mem_iff.mp hy) hp;have hwl:ws.length≤sizeLine:=by
   have q1:=a2.length;have q2:=(gC (yK kvs)).length_eq;rw[Fk];omega
  have I4:Inv X pins σ (yG (yG H1 (uQ as vs)) [(b,HO.lst ws)]) { s1 with heap:=h2,toks:=tk }:=Inv.laidL (s:={ s1 with heap:=h',toks:=tk }) (L:=[(b,HO.lst ws)]) (t':=tk) I3 kp (fun p hpm=>by
   have:p=(b,HO.lst ws):=by simpa using hpm
   subst this;exact hb) fun p hpm=>by
   have:p=(b,HO.lst ws):=by simpa using hpm
   subst this;exact⟨hwl,ps.map (·.2),c,a1,hob⟩
  exact⟨.ref b,_,I4,rfl,lN r3 (I3.hok.fresh hb) a2 (zA.base (G1.same.trans e3) G1.pre af1)⟩
end
section
variable {X:Cx}{o:Bq}{fo:DE}{apos cpos pos p2:Ez}{cm:As}{k:Ah}
theorem Y7 (hc:X.calm=true)(hr:RoomC cm k X.A)(hg:Gl X "sorted")(hm:X.mg "sorted" = none)(ho:QE X o fo)(hbase:Pj o "items" X.env (eval o X.env)=eval o X.env:=by rfl)(hline:(apos.endLine == cpos.line)=true:=by rfl) :
  QE X (.Call (.Name "sorted" p2) [.Call (.Attribute o "items" apos) [] [] cpos] [] pos) (bS fo):=⟨XG hc hr.units hg hm ho.1 hbase hline⟩
end
section
variable {prog:Bh}{w:Bv}{A:Bo}{E:Ac→Ag→Prop}{s:Ag}{l:Af}{its:Bk Ac}{d:Ac}
theorem J3 (a v:Ac):Xg "min" ⟨[a],[(Gd "default",v)]⟩:=by unfold Xg;kernel_rfl
theorem UZ {bt:Ah→Ah→As}{Q:Ac→Ag→Prop}(hh:A.handled=none)(hl:s.heap.IsList l its)(hcmp:oZ prog w A.in1 s.heap .Lt (fun i v=>its[i]? = Aa v) bt)
  (h:∀ v h' tk,(its.size=0∧v=d∨0<its.size∧its[Ht bt (its.size-1)]? = Aa v)→(∀ b o,s.heap.get? b=Aa o→h'.get? b=Aa o)→Q v { s with heap:=h',toks:=tk }) : Ap (Aw prog w) A (call (.builtin "min") [.ref l] [(Gd "default",d)]) Q E s:=by
 have hlt:l<s.heap.objs.size:=by obtain⟨_,e,_⟩:=hl;exact Ax e
 have none_at:∀ b,s.heap.objs.size≤b→s.heap.get? b=none:=fun b hb=>by
  cases q:s.heap.get? b with
  |none=>rfl
  |some o=>exact absurd (Ax q) (Hy.mpr hb)
 refine kmk_tree Xi Wo Wp (J3 _ _) ?_;refine Ad (Kn (show Oe "min" ["key","default"] 0 ⟨[],[(Gd "default",d)]⟩=pure [none,Aa d] from rfl) ?_)
 refine Ad (Al ?_);refine Ad (Ga hl ?_);refine Ad (Dd ?_);have W:=Ue (prog:=prog) (w:=w) (A:=A.in1) hh s.heap.objs.size l (Cc hlt) its;rw[tV];have sz:(s.heap.push { cls:=.type "list_iterator",data:=.fields #[.ref l,.int 0 0] }).objs.size=s.heap.objs.size+1:=Dl ..;have st:=W.frame _ _ _ (show (s.heap.push { cls:=.type "list_iterator",data:=.fields #[.ref l,.int 0 0] }).IsListIter s.heap.objs.size l 0∧(s.heap.push { cls:=.type "list_iterator",data:=.fields #[.ref l,.int 0 0] }).IsList l its from⟨⟨_,Az _ rfl,rfl,rfl⟩,hl.push _⟩) fun b _ o e=>Ai { cls:=.type "list",data:=.seq ([] : Ab Ac).toArray } e
 have back:∀ {v:Ac} {h':Bi} {tk:Ah},(its.size=0∧v=d∨0<its.size∧its[Ht bt (its.size-1)]? = Aa v)→(∀ b o,b ∉ [s.heap.objs.size]→b≠(s.heap.push { cls:=.type "list_iterator",data:=.fields #[.ref l,.int 0 0] }).objs.size→((s.heap.push { cls:=.type "list_iterator",data:=.fields #[.ref l,.int 0 0] }).push { cls:=.type "list",data:=.seq ([] : Ab Ac).toArray }).get? b=Aa o→h'.get? b=Aa o)→Q v { s with heap:=h',toks:=tk }:=fun {v h' tk} hv q=>by
  refine h v h' tk hv fun b o e=>q b o (fun hm=>?_) (fun hm=>?_) (Ai _ (Ai _ e))
  ·simp only[Av,Cj,Fe] at hm
   subst hm;exact absurd (Ax e) (DL _)
  ·subst hm
   exact absurd (Ax e) (by rw[sz];exact Hy.mpr (Jo _))
 by_cases hn:its.size=0
 ·refine Al ⟨Gy Dx _,Fd Ji ?_⟩
  rw[Fa Dx _];refine Ad (Et (Az _ rfl) rfl ?_);refine Ad (Lo (W.done _ _ _ (by rw[hn];exact st) fun h' tk q=>?_))
  exact Ad (Kf (Al (back (.inl ⟨hn,rfl⟩) fun b o z1 _ e=>q b o z1 e)))
 ·refine Al ⟨Gy Dx _,sE (h0:=s.heap) W hcmp ?_ (none_at _ (by rw[sz];exact Jo _)) (fun b hb=>?_) (fun b o e=>Ai _ (Ai _ e)) st (Vg hn) (Az _ rfl) fun v h' tk hv q=>back (.inr ⟨Vg hn,hv⟩) q⟩
  ·rw[sz]
   simp only[Av,Cj,Fe,Us];exact⟨Xj _,Ea (Cc (Jr hlt))⟩
  ·simp only[Av,Cj,Fe] at hb
   subst hb;exact none_at _ (Bd _)
end
def mnD (ds:Ab D)(b:D)(S:Sto):Res D:=match ds with
 |[d]=>match lsD d S with
  |some [] => .ok b S
  |some (x::xs)=>if mOk (x::xs)=true then .ok (kI (x::xs)) S else .bad
  |none=>.bad
 |_=>.bad
def mZ (fA:DA)(fD:DE):DE:=fun env S=>(fA env S).bind fun ds S1=>(fD env S1).bind fun b S2=>mnD ds b S2
section
variable {X:Cx}{e e2:Bq}{fA:DA}{fD:DE}{p pos kp:Ez}{cm:As}{k:Ah}
theorem B4 (hc:X.calm=true)(hu:X.A.units+64<Ds)(hg:Gl X "min")(hm:X.mg "min" = none)(ha:PA X [e] (tDA X fA))(hd:PE X e2 (tD X fD))(he:Bb [e] X.env=(false,eval e X.env)::Bb [] X.env:=by rfl):PE X (.Call (.Name "min" p) [e] [⟨Aa "default",e2,kp⟩] pos) (tD X (mZ fA fD)):=by
 intro pins s σ H Q I h;obtain⟨P,α,env,S,r,re,af⟩:=h;refine Gf (uF I hg hm (u:=.builtin "min") (by decide +kernel) ?_ (by decide) (by decide))
 refine callWith_kw (thn (yO ha I r re af pos) fun us s1 ⟨vs,H1,P1,α1,ds,S1,I1,rv,r1,re1,rp,e1,e2',af1⟩=>kws_cons (thn (xH hd I1 r1 re1 (zA.base e1 e2' af1)) fun u s2 ⟨v,H2,P2,α2,b,S2,G,af2⟩=>kws_nil ?_)) (by rw[he];rfl) (by rw[he];rfl)
 show Ap _ _ (call (.builtin "min") us [(Gd "default",u)]) _ _ s2
 match ds,af2,rp with
 |[],af2,_=>exact Ao af2
 |_::_::_,af2,_=>exact Ao af2
 |[dd],af2,rp =>
  simp only[mnD] at af2;cases hls:lsD dd S2 with
  |none=>rw[hls] at af2;exact Ao af2
  |some xs =>
   rw[hls] at af2;have I:=G.inv;have r:=G.rel;obtain⟨v',u',rfl,rfl,p',q⟩:=uM rp rv;obtain⟨a,ws,its,rfl,t,rvi,hl,ll⟩:=G9 I r hls (Rep.mono G.same G.pre _ _ p');cases (show u'=Ch a from q)
   have okk:xs=[]∨mOk xs=true:=by
    cases xs with
    |nil=>exact .inl rfl
    |cons x xs=>exact .inr (vN (X:=X) af2).1
   have at':∀ (i:Ah) (u:Ac),its.toArray[i]? = Aa u→∃ vv,TrV s2.heap 6 (xs.getD i .non) u∧qI vv u∧Rep X.K P2 α2 (xs.getD i .non) vv∧xs.getD i .non∈xs∧mOk xs=true:=fun i u hi=>by
    have hi':its[i]? = Aa u:=by simpa using hi
    have hii:i<its.length:=(Ba.mp hi').1;have ok:mOk xs=true:=by
     rcases okk with rfl|ok
     ·simp at ll;omega
     ·exact ok
    have hx:xs[i]? = Aa (xs[i]' om):=An om;obtain⟨y,f1,f2⟩:=t.get hx;obtain⟨z,g1,g2⟩:=rvi.get f1;cases g1.symm.trans hi';have e:xs.getD i .non=xs[i]' om:=by rw[Gr,hx];rfl
    rw[e];exact⟨y,aE I r 6 (tU ok (Gk _)).1 f2 g2,g2,f2,Gk _,ok⟩
   have hz:its.toArray.size=xs.length:=by simp only[Be];rw[ll]
   refine UZ (bt:=btN xs) (I.ok.hd hc) hl (fun i j vi vj s' Q' E' hs hi hj hQ=>?_) fun v3 h' tk hv hk=>?_
   ·obtain⟨_,t1,_,_,m1,ok⟩:=at' i vi hi
    obtain⟨_,t2,_,_,m2,_⟩:=at' j vj hj;exact(t1.sup hs).lt (t2.sup hs) ((tU ok m1).2 _ m2) (by show X.A.units+1+6<Ds;omega) _ _ _ _ hQ
   ·rcases hv with⟨h0,rfl⟩|⟨_,hv⟩
    ·have:xs=[]:=Iq.mp om
     subst this;exact⟨v,H2,I.kept (t':=tk) hk,G.val,af2 v H2 P2 α2 r G.same G.pre G.rep⟩
    ·obtain⟨vv,_,rv',rp',m,_⟩:=at' _ v3 hv
     rw[hz] at rp';cases xs with
     |nil=>cases m
     |cons x xs =>
      have af3:=(vN (X:=X) af2).2;exact⟨vv,H2,I.kept (t':=tk) hk,rv',af3 vv H2 P2 α2 r G.same G.pre rp'⟩
theorem M9 (hc:X.calm=true)(hr:RoomC cm k X.A)(hg:Gl X "min")(hm:X.mg "min" = none)(ha:QA X [e] fA)(hd:QE X e2 fD)(he:Bb [e] X.env=(false,eval e X.env)::Bb [] X.env:=by rfl):QE X (.Call (.Name "min" p) [e] [⟨Aa "default",e2,kp⟩] pos) (mZ fA fD):=⟨B4 hc hr.units hg hm ha.1 hd.1 he⟩
end
end _D
namespace _D
open PySem
def Nx (o:Out)(Q:qD→Sto→Prop):Prop:=∃ env S,o=.nx env S∧Q env S
def Rt (o:Out)(Q:D→Sto→Prop):Prop:=∃ d S,o=.rt d S∧Q d S
def Ok {β : Type}(r:Res β)(Q:β→Sto→Prop):Prop:=∃ d S,r=.ok d S∧Q d S
theorem zU {o:Out}{Q:qD→Sto→Prop}{env:qD}{S:Sto}(h:o=.nx env S)(q:Q env S):Nx o Q:=⟨env,S,h,q⟩
theorem GR {o:Out}{Q:D→Sto→Prop}{d:D}{S:Sto}(h:o=.rt d S)(q:Q d S):Rt o Q:=⟨d,S,h,q⟩
theorem zI {β : Type}{r:Res β}{Q:β→Sto→Prop}{d:β}{S:Sto}(h:r=.ok d S)(q:Q d S):Ok r Q:=⟨d,S,h,q⟩
theorem xO {f g:DS}{env:qD}{S:Sto}{Q:qD→Sto→Prop}(h:Nx (f env S) fun env1 S1=>Nx (g env1 S1) Q):Nx (qL f g env S) Q:=by
 obtain⟨env1,S1,e,env2,S2,e2,q⟩:=h;exact⟨env2,S2,by unfold qL;rw[e];exact e2,q⟩
theorem qU {f g:DS}{env:qD}{S:Sto}{Q:D→Sto→Prop}(h:Nx (f env S) fun env1 S1=>Rt (g env1 S1) Q):Rt (qL f g env S) Q:=by
 obtain⟨env1,S1,e,env2,S2,e2,q⟩:=h;exact⟨env2,S2,by unfold qL;rw[e];exact e2,q⟩
theorem xK {t:DT}{f g:DS}{env:qD}{S S1:Sto}{b:As}{Q:qD→Sto→Prop}(h:t env S=.ok b S1)(k:Nx ((if b then f else g) env S1) Q):Nx (sIf t f g env S) Q:=by
 obtain⟨env2,S2,e2,q⟩:=k;refine⟨env2,S2,?_,q⟩;unfold sIf;rw[h];cases b <;> exact e2
theorem xY {f:DE}{i:Ah}{env:qD}{S:Sto}{Q:qD→Sto→Prop}(h:Ok (f env S) fun d S1=>Q (env.set i (Aa d)) S1):Nx (zC f (gNm i) env S) Q:=by
 obtain⟨d,S1,e,q⟩:=h;exact⟨_,S1,by unfold zC gNm;rw[e];rfl,q⟩
theorem o6 {f:DE}{env:qD}{S:Sto}{Q:qD→Sto→Prop}(h:Ok (f env S) fun _ S1=>Q env S1):Nx (yM f env S) Q:=by
 obtain⟨d,S1,e,q⟩:=h;exact⟨_,S1,by unfold yM;rw[e];rfl,q⟩
theorem x9 {f:DE}{env:qD}{S:Sto}{Q:D→Sto→Prop}(h:Ok (f env S) Q):Rt (qX f env S) Q:=by
 obtain⟨d,S1,e,q⟩:=h;exact⟨_,S1,by unfold qX;rw[e];rfl,q⟩
theorem uI {fi:DI}{g:DG}{f:DS}{env:qD}{S S1:Sto}{ds:Ab D}{Q:qD→Sto→Prop}(h:fi env S=.ok ds S1)(k:Nx (wK g f ds env S1) Q):Nx (yF fi g f env S) Q:=by
 obtain⟨env2,S2,e2,q⟩:=k;exact⟨env2,S2,by unfold yF;rw[h];exact e2,q⟩
theorem vH {g:DG}{f:DS}{Q:qD→Sto→Prop}(I:Ab D→qD→Sto→Prop)(turn:∀ d ds env S,I (d::ds) env S→∃ env1 S1,g d env S=.ok env1 S1∧Nx (f env1 S1) (I ds))(last:∀ env S,I [] env S→Q env S) :
  ∀ {ds:Ab D} {env:qD} {S:Sto},I ds env S→Nx (wK g f ds env S) Q
 |[],env,S,h=>⟨env,S,rfl,last env S h⟩
 |d::ds,env,S,h=>by
  obtain⟨env1,S1,e1,env2,S2,e2,h2⟩:=turn d ds env S h;obtain⟨env3,S3,e3,q⟩:=vH I turn last (ds:=ds) h2;refine⟨env3,S3,?_,q⟩;unfold wK;simp only[e1,Res.toS,e2];exact e3
theorem FL {fi:DI2}{g:DG}{f:DS}{env:qD}{S S1:Sto}{o:Am (Ah × MO)}{ds:Ab D}{Q:qD→Sto→Prop}(h:fi env S=.ok (o,ds) S1)(k:Nx (yB o g f ds env S1) Q):Nx (nO fi g f env S) Q:=by
 obtain⟨env2,S2,e2,q⟩:=k;exact⟨env2,S2,by unfold nO;rw[h];exact e2,q⟩
theorem cJ {o:Am (Ah × MO)}{g:DG}{f:DS}{Q:qD→Sto→Prop}(I:Ab D→qD→Sto→Prop)(hI:∀ ds env S,I ds env S→stn o S)(turn:∀ d ds env S,I (d::ds) env S→∃ env1 S1,g d env S=.ok env1 S1∧Nx (f env1 S1) (I ds))(last:∀ env S,I [] env S→Q env S) :
  ∀ {ds:Ab D} {env:qD} {S:Sto},I ds env S→Nx (yB o g f ds env S) Q
 |[],env,S,h=>⟨env,S,by unfold yB;rw[AT (wD.mpr (hI _ _ _ h))],last env S h⟩
 |d::ds,env,S,h=>by
  obtain⟨env1,S1,e1,env2,S2,e2,h2⟩:=turn d ds env S h;obtain⟨env3,S3,e3,q⟩:=cJ I hI turn last (ds:=ds) h2;refine⟨env3,S3,?_,q⟩;unfold yB;rw[AT (wD.mpr (hI _ _ _ h))];simp only[e1,Res.toS,e2];exact e3
theorem lD {o:Am (Ah × MO)}{g:DG}{t:DT}{k:DK}(out:D→Ab D)(C:qD→Sto→Prop)(hC:∀ env S,C env S→stn o S) :
  ∀ (items:Ab D) (env:qD) (S:Sto) (acc:Ab D),C env S→acc.length+(items.flatMap out).length≤lim →
  (∀ d∈items,∀ env S acc,C env S→acc.length+(out d).length≤lim→∃ env1 S1 b S2,g d env S=.ok env1 S1∧t env1 S1=.ok b S2∧((b=false∧out d=[]∧C env1 S2)∨(b=true∧∃ env3 S3,k env1 S2 acc=.ok (env3,acc++out d) S3∧C env3 S3))) →
  ∃ env' S',goL o g t k items env S acc=.ok (env',acc++items.flatMap out) S'∧C env' S'
 |[],env,S,acc,h,hl,_=>⟨env,S,by simp[goL,wD.mpr (hC _ _ h)],h⟩
 |d::ds,env,S,acc,h,hl,step=>by
  rw[Fo,Br] at hl;obtain⟨env1,S1,b,S2,e1,e2,r⟩:=step d (Cs ..) env S acc h om;have hst:=wD.mpr (hC _ _ h);rcases r with⟨rfl,h0,h2⟩|⟨rfl,env3,S3,e3,h3⟩
  ·obtain⟨env',S',e,q⟩:=lD out C hC ds env1 S2 acc h2 om fun d hd=>step d (Bl _ hd)
   refine⟨env',S',?_,q⟩;simp only[goL,hst,De,e1,e2,Res.bind,Bn,Dt,Fo,h0,Kt];exact e
  ·obtain⟨env',S',e,q⟩:=lD out C hC ds env3 S3 (acc++out d) h3 (by rw[Br];omega) fun d hd=>step d (Bl _ hd)
   refine⟨env',S',?_,q⟩;simp only[goL,hst,De,e1,e2,Res.bind,e3,Fo];rw[e,Ej]
theorem mF {fe:DE}{env:qD}{S S1:Sto}{acc:Ab D}{x:D}(h:fe env S=.ok x S1)(hl:acc.length<lim):qV fe env S acc=.ok (env,acc++[x]) S1:=by
 unfold qV;rw[h];simp[Res.bind,hl]
theorem kY {cap:Ab (Am Ah)}{fi:DI2}{g:DG}{t:DT}{k:DK}{env env':qD}{S S1 S':Sto}{o:Am (Ah × MO)}{items ds:Ab D}(h:fi env S=.ok (o,items) S1)(e:goL o g t k items (xF cap env) S1 [] = .ok (env',ds) S'):qO false cap fi g t k env S=.ok (.lst ds) S':=by
 unfold qO;rw[h];simp only[Res.bind,e,mkM];rfl
theorem lZ {n:Ah}{f:DE}{ds:Ab D}{S S':Sto}{d:D}{env:qD}(hs:uO n ds=env)(h:f env S=.ok d S'):qQ n (qX f) ds S=.ok d S':=by
 subst hs;unfold qQ qX;rw[h];rfl
theorem yR {n:Ah}{g:DS}{ds:Ab D}{S S':Sto}{d:D}{env:qD}(hs:uO n ds=env)(h:g env S=.rt d S'):qQ n g ds S=.ok d S':=by
 subst hs;unfold qQ;rw[h];rfl
theorem iM {S S':Sto}{i:Ah}{m:MO}(h:S[i]? = Aa m)(e:S<+:S'):S'[i]? = Aa m:=by
 obtain⟨r,rfl⟩:=e;rw[Cd (Ba.mp h).1];exact h
theorem bY {α β:Type}(sel:α→As)(val:α→β)(l:Ab α) : (l.flatMap fun d=>if sel d then [val d] else []) = (l.filter sel).map val:=by
 induction l with
 |nil=>rfl
 |cons d l ih =>
  rw[Fo,ih];cases h:sel d <;> simp[h]
theorem aQ {α β:Type}(f:α→Ab β)(n:Ah)(l:Ab α)(h:∀ x∈l,(f x).length≤n):(l.flatMap f).length≤l.length*n:=by
 induction l with
 |nil=>simp
 |cons d l ih =>
  rw[Fo,Br,Ci,Zp];have h1:=h d (Cs ..);have h2:=ih fun x hx=>h x (Bl _ hx);omega
section
variable {cap:Ab (Am Ah)}{fi:DI2}{g:DG}{t:DT}{fe:DE}{env:qD}{S S0:Sto}{o:Am (Ah × MO)}{items:Ab D}
theorem IP (hst:stn o S)(sel:D→As)(val:D→D)(C:qD→Prop)(h0:C env)(hl:items.length≤lim)
  (step:∀ d∈items,∀ env,C env→∃ env1,g d env S=.ok env1 S∧C env1∧t env1 S=.ok (sel d) S∧(sel d=true→fe env1 S=.ok (val d) S)) :
  ∃ env',goL o g t (qV fe) items env S [] = .ok (env',(items.filter sel).map val) S:=by
 have lf:(items.flatMap fun d=>if sel d then [val d] else []).length≤lim:=by
  rw[bY,Ar];exact Dy (Ec _ _) hl
 obtain⟨env',S',e,_,q⟩:=lD (o:=o) (g:=g) (t:=t) (k:=qV fe) (fun d=>if sel d then [val d] else []) (fun env S'=>C env∧S'=S) (fun _ _ h=>h.2▸hst) items env S [] ⟨h0,rfl⟩ (by simpa using lf) (fun d hd env S' acc hC hl=>by
  obtain⟨hc,rfl⟩:=hC;obtain⟨env1,e1,c1,e2,k⟩:=step d hd env hc;refine⟨env1,S',sel d,S',e1,e2,?_⟩;cases hs:sel d with
  |false=>exact .inl ⟨rfl,by simp,c1,rfl⟩
  |true =>
   refine .inr ⟨rfl,env1,S',?_,c1,rfl⟩;simp only[De];exact mF (k hs) (by simp only[hs,De,Me] at hl;omega))
 subst q;refine⟨env',?_⟩;rw[e,Kt,bY]
theorem eE (h:fi env S=.ok (o,items) S)(hst:stn o S)(sel:D→As)(val:D→D)(C:qD→Prop)(h0:C (xF cap env))(hl:items.length≤lim)
  (step:∀ d∈items,∀ env,C env→∃ env1,g d env S=.ok env1 S∧C env1∧t env1 S=.ok (sel d) S∧(sel d=true→fe env1 S=.ok (val d) S)) :
  qO false cap fi g t (qV fe) env S=.ok (.lst ((items.filter sel).map val)) S:=by
 obtain⟨env',e⟩:=IP hst sel val C h0 hl step;exact kY h e
end
theorem goT {α : Type}{enc:α→D}{o:Am (Ah × MO)}{g:DG}{t:DT}{k:DK}(out:α→Ab D)(C:qD→Sto→Prop)(hC:∀ env S,C env S→stn o S) :
  ∀ (xs:Ab α) (env:qD) (S:Sto) (acc:Ab D),C env S→acc.length+(xs.flatMap out).length≤lim →
  (∀ x∈xs,∀ env S acc,C env S→acc.length+(out x).length≤lim→∃ env1 S1 b S2,g (enc x) env S=.ok env1 S1∧t env1 S1=.ok b S2∧((b=false∧out x=[]∧C env1 S2)∨(b=true∧∃ env3 S3,k env1 S2 acc=.ok (env3,acc++out x) S3∧C env3 S3))) →
  ∃ env' S',goL o g t k (xs.map enc) env S acc=.ok (env',acc++xs.flatMap out) S'∧C env' S'
 |[],env,S,acc,h,hl,_=>⟨env,S,by simp[goL,wD.mpr (hC _ _ h)],h⟩
 |x::xs,env,S,acc,h,hl,step=>by
  rw[Fo,Br] at hl;obtain⟨env1,S1,b,S2,e1,e2,r⟩:=step x (Cs ..) env S acc h om;have hst:=wD.mpr (hC _ _ h);rcases r with⟨rfl,h0,h2⟩|⟨rfl,env3,S3,e3,h3⟩
  ·obtain⟨env',S',e,q⟩:=goT out C hC xs env1 S2 acc h2 om fun d hd=>step d (Bl _ hd)
   refine⟨env',S',?_,q⟩;simp only[Df,goL,hst,De,e1,e2,Res.bind,Bn,Dt,Fo,h0,Kt];exact e
  ·obtain⟨env',S',e,q⟩:=goT out C hC xs env3 S3 (acc++out x) h3 (by rw[Br];omega) fun d hd=>step d (Bl _ hd)
   refine⟨env',S',?_,q⟩;simp only[Df,goL,hst,De,e1,e2,Res.bind,e3,Fo];rw[e,Ej]
section
variable {α β:Type}{enc:α→D}{enc2:β→D}{cap:Ab (Am Ah)}{fi:DI2}{g:DG}{t:DT}{fe:DE}{env:qD}{S S0:Sto}{o:Am (Ah × MO)}{xs:Ab α}
theorem KZ (hst:stn o S)(sel:α→As)(val:α→D)(C:qD→Prop)(h0:C env)(hl:xs.length≤lim)
  (step:∀ x∈xs,∀ env,C env→∃ env1,g (enc x) env S=.ok env1 S∧C env1∧t env1 S=.ok (sel x) S∧(sel x=true→fe env1 S=.ok (val x) S)) :
  ∃ env',goL o g t (qV fe) (xs.map enc) env S [] = .ok (env',(xs.filter sel).map val) S:=by
 have lf:(xs.flatMap fun d=>if sel d then [val d] else []).length≤lim:=by
  rw[bY,Ar];exact Dy (Ec _ _) hl
 obtain⟨env',S',e,_,q⟩:=goT (enc:=enc) (o:=o) (g:=g) (t:=t) (k:=qV fe) (fun d=>if sel d then [val d] else []) (fun env S'=>C env∧S'=S) (fun _ _ h=>h.2▸hst) xs env S [] ⟨h0,rfl⟩ (by simpa using lf) (fun d hd env S' acc hC hl=>by
  obtain⟨hc,rfl⟩:=hC;obtain⟨env1,e1,c1,e2,k⟩:=step d hd env hc;refine⟨env1,S',sel d,S',e1,e2,?_⟩;cases hs:sel d with
  |false=>exact .inl ⟨rfl,by simp,c1,rfl⟩
  |true =>
   refine .inr ⟨rfl,env1,S',?_,c1,rfl⟩;simp only[De];exact mF (k hs) (by simp only[hs,De,Me] at hl;omega))
 subst q;refine⟨env',?_⟩;rw[e,Kt,bY]
theorem vB (h:fi env S=.ok (o,xs.map enc) S)(hst:stn o S)(sel:α→As)(val:α→D)(C:qD→Prop)(h0:C (xF cap env))(hl:xs.length≤lim)
  (step:∀ x∈xs,∀ env,C env→∃ env1,g (enc x) env S=.ok env1 S∧C env1∧t env1 S=.ok (sel x) S∧(sel x=true→fe env1 S=.ok (val x) S)) :
  qO false cap fi g t (qV fe) env S=.ok (.lst ((xs.filter sel).map val)) S:=by
 obtain⟨env',e⟩:=KZ hst sel val C h0 hl step;exact kY h e
end
theorem qM {o:G2}{f g:DE}{env:qD}{S S1 S2:Sto}{a b:D}(h1:f env S=.ok a S1)(h2:g env S1=.ok b S2):d2 o f g env S=o a b S2:=by
 unfold d2;rw[h1];simp only[Res.bind];rw[h2]
theorem j9 {F:DF}{f1:DE}{env:qD}{S S1:Sto}{a:D}(h1:f1 env S=.ok a S1):qG 1 F (qA f1 (qC)) env S=F [a] S1:=by
 simp only[qG,qA,qC,h1,Res.bind,Ci,Fu,De]
theorem xP {F:DF}{f1 f2:DE}{env:qD}{S S1 S2:Sto}{a b:D}(h1:f1 env S=.ok a S1)(h2:f2 env S1=.ok b S2):qG 2 F (qA f1 (qA f2 (qC))) env S=F [a,b] S2:=by
 simp only[qG,qA,qC,h1,h2,Res.bind,Ci,Fu,De]
theorem kX {F:DF}{f1 f2 f3:DE}{env:qD}{S S1 S2 S3:Sto}{a b c:D}(h1:f1 env S=.ok a S1)(h2:f2 env S1=.ok b S2)(h3:f3 env S2=.ok c S3):qG 3 F (qA f1 (qA f2 (qA f3 (qC)))) env S=F [a,b,c] S3:=by
 simp only[qG,qA,qC,h1,h2,h3,Res.bind,Ci,Fu,De]
theorem wF {F:DF}{f1:DE}{env:qD}{S S1:Sto}{a:D}(h1:f1 env S=.ok a S1):qE F (qA f1 (qC)) env S=F [a] S1:=by
 simp only[qE,qA,qC,h1,Res.bind]
theorem X1 {F:DF}{f1 f2:DE}{env:qD}{S S1 S2:Sto}{a b:D}(h1:f1 env S=.ok a S1)(h2:f2 env S1=.ok b S2):qE F (qA f1 (qA f2 (qC))) env S=F [a,b] S2:=by
 simp only[qE,qA,qC,h1,h2,Res.bind]
theorem w9 {f:DE}{env:qD}{S S1:Sto}{b:As}(h:f env S=.ok (.bl b) S1):dTr f env S=.ok b S1:=by
 unfold dTr;rw[h];rfl
theorem jD {f:DT}{env:qD}{S S1:Sto}{b:As}(h:f env S=.ok b S1):zT f env S=.ok (!b) S1:=by
 unfold zT;rw[h];rfl
theorem jQ {f g:DT}{env:qD}{S S1 S2:Sto}{a b:As}(h:f env S=.ok a S1)(k:a=false→g env S1=.ok b S2)(e:a=true→S1=S2):y8 f g env S=.ok (a||b) S2:=by
 unfold y8;rw[h];cases a with
 |true=>cases e rfl;rfl
 |false=>exact k rfl
theorem rT {f g:DE}{env:qD}{S S1 S2:Sto}{a b:As}(h:f env S=.ok (.bl a) S1)(k:a=true→g env S1=.ok (.bl b) S2)(e:a=false→S1=S2):vL f g env S=.ok (.bl (a&&b)) S2:=by
 unfold vL;rw[h];cases a with
 |false=>cases e rfl;rfl
 |true=>exact k rfl
theorem xS {f1:DE}{env:qD}{S S1:Sto}{a:D}(h1:f1 env S=.ok a S1):qA f1 (qC) env S=.ok [a] S1:=by
 simp only[qA,qC,h1,Res.bind]
theorem zM {f1 f2:DE}{env:qD}{S S1 S2:Sto}{a b:D}(h1:f1 env S=.ok a S1)(h2:f2 env S1=.ok b S2):qA f1 (qA f2 (qC)) env S=.ok [a,b] S2:=by
 simp only[qA,qC,h1,h2,Res.bind]
theorem zO {f:DE}{g:DA}{env:qD}{S S1 S2:Sto}{a:D}{as:Ab D}(h:f env S=.ok a S1)(k:g env S1=.ok as S2):qA f g env S=.ok (a::as) S2:=by
 simp only[qA,h,k,Res.bind]
theorem wG {g:DA}{env:qD}{S S1:Sto}{as:Ab D}(k:g env S=.ok as S1)(h:as.length≤lim):zN g env S=.ok (.lst as) S1:=by
 simp only[zN,k,Res.bind,h,De]
theorem zP {g:DA}{env:qD}{S S1:Sto}{as:Ab D}(k:g env S=.ok as S1)(h:as.length≤lim):qT g env S=.ok (.tup as) S1:=by
 simp only[qT,k,Res.bind,h,De]
theorem w5 {env:qD}{i:Ah}{d:D}{S:Sto}(h:env[i]? = Aa (Aa d)):qB i env S=.ok d S:=by simp only[qB,h]
theorem wX {α : Type}(l:Ab α) : l.filter (fun _=>true)=l:=by simp
theorem X0 {α : Type}(p:α→As)(l:Ab α) : xX (l.map fun x=>D.bl (p x))=Aa (l.map p):=by
 induction l with
 |nil=>rfl
 |cons x l ih =>
  show (xX (l.map fun x=>D.bl (p x))).map (p x::·)=_
  rw[ih];rfl
theorem rS {α : Type}{f:DE}{env:qD}{S S1:Sto}{l:Ab α}{p:α→As}(h:f env S=.ok (.lst (l.map fun x=>D.bl (p x))) S1):qE (uX false) (qA f (qC)) env S=.ok (.bl (l.all p)) S1:=by
 rw[wF h];show (match (xE (.lst (l.map fun x=>D.bl (p x)))).bind xX with|some bs=>Res.ok (D.bl (bs.all id)) S1|none=>.bad)=_
 rw[show (xE (.lst (l.map fun x=>D.bl (p x)))).bind xX=Aa (l.map p) from X0 p l]
 simp only[Ir];rfl
theorem tY {i j:Ah}{f1 f2:DE}{env:qD}{S S1 S2:Sto}{a b:D}{Q:qD→Sto→Prop}(h1:f1 env S=.ok a S1)(h2:f2 env S1=.ok b S2)(q:Q ((env.set i (Aa a)).set j (Aa b)) S2):Nx (pG i j (qA f1 (qA f2 (qC))) env S) Q:=by
 unfold pG;rw[zM h1 h2];exact zU rfl q
theorem zX {f:DE}{g:DG}{env env1:qD}{S S1 S2:Sto}{d:D}{Q:qD→Sto→Prop}(h1:f env S=.ok d S1)(h2:g d env S1=.ok env1 S2)(q:Q env1 S2):Nx (zC f g env S) Q:=by
 unfold zC;rw[h1];simp only[Res.toS];rw[h2];exact zU rfl q
theorem jE {t:DT}{f g:DS}{env:qD}{S S1:Sto}{b:As}{Q:D→Sto→Prop}(h:t env S=.ok b S1)(k:Rt ((if b then f else g) env S1) Q):Rt (sIf t f g env S) Q:=by
 unfold sIf;rw[h];cases b <;> exact k
end _D
namespace _K
open PySem _D
theorem OW (b:As)(S:Sto):w4 (.bl b) S=Aa b:=rfl
theorem OV (i:Aj)(S:Sto):w4 (.int i) S=Aa (i != 0):=rfl
theorem EE (i:Aj)(S:Sto):tyD (.int i) S=Aa "int":=rfl
theorem qAD (b:As)(S:Sto):tyD (.bl b) S=Aa "bool":=rfl
theorem OY (S:Sto):tyD .non S=Aa "NoneType":=rfl
theorem OZ (x:Au)(S:Sto):tyD (.str x) S=Aa "str":=rfl
theorem qAA (x:Ab D)(S:Sto):tyD (.tup x) S=Aa "tuple":=rfl
theorem OX (x:Ab D)(S:Sto):tyD (.lst x) S=Aa "list":=rfl
theorem OS (x:Ab D):xE (.tup x)=Aa x:=rfl
theorem OR (x:Ab D):xE (.lst x)=Aa x:=rfl
theorem FS (d:D)(S:Sto):jN (.rt d S)=.ok d S:=rfl
theorem OU (e:qD)(S:Sto):jN (.nx e S)=.ok .non S:=rfl
theorem OT (c:Ac)(x:D)(e:qD)(S:Sto):jN (.ex c x e S)=.ex c x S:=rfl
theorem IY (i j:Ah)(env:qD)(S:Sto)(x y:D):cN i j env S [x,y]=.nx ((env.set i (Aa x)).set j (Aa y)) S:=rfl
theorem AS (i j k:Ah)(env:qD)(S:Sto)(x y z:D):oB i j k env S [x,y,z]=.nx (((env.set i (Aa x)).set j (Aa y)).set k (Aa z)) S:=rfl
theorem LX (C:Aj→Aj→As)(f:Aj→Aj→D)(i j:Aj)(S:Sto):i2 C f (.int i) (.int j) S=if C i j=true then .ok (f i j) S else .bad:=rfl
theorem BO (b:As)(S:Sto):eR [.bl b] S=.ok (.int (b01 b)) S:=rfl
theorem bZ {xs:Ab D}{k:Aj}{d:D}(h:_L.atI xs k=Aa d)(S:Sto):gIx (.lst xs) (.int k) S=.ok d S:=by
 show _D.vV (_L.atI xs k) S=_;rw[h];rfl
end _K
open PySem _D _K
namespace _K
open PySem PySem.Spec PyProof.Rows _L _D
def top (i:Ah):Eu:=PySem.Challenge.pw_fewdistances_k11_points_as_far_from_two.main.body.getD i (.Pass ⟨0,0,0,0⟩)
structure Cl where
 (FarError NoPoint NoLot NoNumber NoCircle NoMarks NoFars NoText NoLine NoDeed Alike TooMany:Af)
def wH (c:Cl):Ab Af:=[c.NoPoint,c.NoLot,c.NoNumber,c.NoCircle,c.NoMarks,c.NoFars,c.NoText,c.NoLine,c.NoDeed,c.Alike,c.TooMany]
def kE (c:Cl):Ab Ac:=[.ref c.NoPoint,.ref c.NoLot,.ref c.NoNumber,.ref c.NoCircle,.ref c.NoMarks,.ref c.NoFars,.ref c.NoText,.ref c.NoLine,.ref c.NoDeed]
abbrev clt (c:Cl):Ab (Au × Af):=[("FarError",c.FarError),("NoPoint",c.NoPoint),("NoLot",c.NoLot),("NoNumber",c.NoNumber),("NoCircle",c.NoCircle),("NoMarks",c.NoMarks),("NoFars",c.NoFars),("NoText",c.NoText),("NoLine",c.NoLine),("NoDeed",c.NoDeed),("Alike",c.Alike),("TooMany",c.TooMany)]
abbrev plt (c:Cl):Ab (Au × Af):=[("NoPoint",c.NoPoint),("NoLot",c.NoLot),("NoNumber",c.NoNumber),("NoCircle",c.NoCircle),("NoMarks",c.NoMarks),("NoFars",c.NoFars),("NoText",c.NoText),("NoLine",c.NoLine),("NoDeed",c.NoDeed)]
abbrev cst:Ab (Au × Aj):=[("LEAST_NUMBER",-1000),("MOST_NUMBER",1000),("MOST_POINTS",40)]
abbrev bl:Ab Au:=["ValueError","all","bool","int","isinstance","len","list","min","range","set","sorted","str","tuple","zip"]
abbrev tab:Ab (Au × Ah × Ab Au):=[(("is_whole" : Au),(14:Ah),[("thing" : Au)]),(("is_within" : Au),(15:Ah),[("thing" : Au),("least" : Au),("most" : Au)]),(("is_rising" : Au),(16:Ah),[("some" : Au)]),(("is_point" : Au),(21:Ah),[("thing" : Au)]),(("is_lot" : Au),(22:Ah),[("thing" : Au)]),(("need_point" : Au),(23:Ah),[("thing" : Au)]),(("need_lot" : Au),(24:Ah),[("thing" : Au)]),(("far_between" : Au),(25:Ah),[("one" : Au),("other" : Au)]),(("rings" : Au),(27:Ah),[("lot" : Au),("point" : Au)]),(("from_point" : Au),(28:Ah),[("lot" : Au),("point" : Au)]),(("even_threes" : Au),(29:Ah),[("lot" : Au)]),(("first_even" : Au),(30:Ah),[("lot" : Au)]),(("_law_cell" : Au),(32:Ah),[("_law_script" : Au),("_law_k" : Au)]),(("_law_pen" : Au),(33:Ah),[("_law_cell_here" : Au)]),(("_law_draw" : Au),(34:Ah),[("_law_pen_here" : Au),("_law_many" : Au)]),(("_law_whole" : Au),(35:Ah),[("_law_thing" : Au)]),(("_law_same" : Au),(36:Ah),[("_law_found" : Au),("_law_due" : Au)]),(("_law_kind_of" : Au),(37:Ah),[("_law_e" : Au)]),(("_law_point" : Au),(38:Ah),[("_law_pen_here" : Au),("_law_wide" : Au)]),(("_law_lot" : Au),(39:Ah),[("_law_pen_here" : Au),("_law_most" : Au)]),(("_law_is_point" : Au),(40:Ah),[("_law_thing" : Au)]),(("_law_is_lot" : Au),(41:Ah),[("_law_thing" : Au)]),(("_law_no_point" : Au),(42:Ah),[("_law_pen_here" : Au),("_law_point_here" : Au)]),(("_law_no_lot" : Au),(43:Ah),[("_law_pen_here" : Au),("_law_lot_here" : Au)]),(("_law_far" : Au),(44:Ah),[("_law_one" : Au),("_law_other" : Au)]),(("_law_pairs" : Au),(45:Ah),[("_law_lot_here" : Au)]),(("_law_came" : Au),(46:Ah),[("_law_way" : Au),("_law_lot_here" : Au),("_law_point_here" : Au)]),(("_law_rings" : Au),(47:Ah),[("_law_lot_here" : Au),("_law_point_here" : Au)]),(("law" : Au),(48:Ah),[("_law_script" : Au)])]
abbrev Txt (K:Ak)(mg:Au→Am Ac)(c:Cl):Prop:=TxS K mg top tab bl (clt c) (plt c) (kE c) (wH c) cst
@[reducible] def b_is_whole:DS:=qX (vL (qE zK (qA (qB 0) (qA (dC (.ty "int")) (qC)))) (QJ (qE zK (qA (qB 0) (qA (dC (.ty "bool")) (qC))))))
@[irreducible] def S_is_whole:DF:=sh (qQ 1 b_is_whole)
theorem jJ:S_is_whole=qQ 1 b_is_whole:=by delta S_is_whole;exact zY _
@[reducible] def b_is_within:DS:=qX (vL (qG 1 S_is_whole (qA (qB 0) (qC))) (xR gLe gLe (qB 1) (qB 0) (qB 2)))
@[irreducible] def S_is_within:DF:=sh (qQ 3 b_is_within)
theorem uV:S_is_within=qQ 3 b_is_within:=by delta S_is_within;exact zY _
@[reducible] def b_is_rising:DS:=qX (qE (uX false) (qA (qO false [none,none] (y0 (pY (qA (qB 0) (qA (dSl (qB 0) (qY (dC (.int 1))) (zE)) (qC))))) (gTp 2 (qZ (gNm 0) (qZ (gNm 1) (xQ)))) (z9) (qV (d2 mB (qB 0) (qB 1)))) (qC)))
@[irreducible] def S_is_rising:DF:=sh (qQ 1 b_is_rising)
theorem gJ:S_is_rising=qQ 1 b_is_rising:=by delta S_is_rising;exact zY _
@[reducible] def b_is_point:DS:=qL (sIf (y8 (zT (dTr (qE zK (qA (qB 0) (qA (dC (.ty "tuple")) (qC)))))) (dTr (d2 gNe (qE zH (qA (qB 0) (qC))) (dC (.int 2))))) (qX (dC (.bl false))) (zD)) (qX (qE (uX false) (qA (qO false [none] (dIt (qB 0)) (gNm 0) (z9) (qV (qG 3 (okO S_is_within) (qA (qB 0) (qA (dC (.int (-1000))) (qA (dC (.int (1000))) (qC))))))) (qC))))
@[irreducible] def S_is_point:DF:=sh (qQ 1 b_is_point)
theorem pM:S_is_point=qQ 1 b_is_point:=by delta S_is_point;exact zY _
@[reducible] def b_is_lot:DS:=qL (sIf (y8 (zT (dTr (qE zK (qA (qB 0) (qA (dC (.ty "tuple")) (qC)))))) (zT (dTr (xR gLe gLe (dC (.int 1)) (qE zH (qA (qB 0) (qC))) (dC (.int (40))))))) (qX (dC (.bl false))) (zD)) (qX (vL (qE (uX false) (qA (qO false [none] (dIt (qB 0)) (gNm 0) (z9) (qV (qG 1 (okO S_is_point) (qA (qB 0) (qC))))) (qC))) (qG 1 S_is_rising (qA (qB 0) (qC)))))
@[irreducible] def S_is_lot:DF:=sh (qQ 1 b_is_lot)
theorem fS:S_is_lot=qQ 1 b_is_lot:=by delta S_is_lot;exact zY _
@[reducible] def b_need_point (c:Cl):DS:=sIf (zT (dTr (qG 1 S_is_point (qA (qB 0) (qC))))) (yS (.ref c.NoPoint) (qA (dC (.str "a point is needed")) (qC))) (zD)
@[irreducible] def S_need_point (c:Cl):DF:=sh (qQ 1 (b_need_point c))
theorem kW (c:Cl):S_need_point c=qQ 1 (b_need_point c):=by delta S_need_point;exact zY _
@[reducible] def b_need_lot (c:Cl):DS:=sIf (zT (dTr (qG 1 S_is_lot (qA (qB 0) (qC))))) (yS (.ref c.NoLot) (qA (dC (.str "a lot is needed")) (qC))) (zD)
@[irreducible] def S_need_lot (c:Cl):DF:=sh (qQ 1 (b_need_lot c))
theorem pN (c:Cl):S_need_lot c=qQ 1 (b_need_lot c):=by delta S_need_lot;exact zY _
@[reducible] def b_far_between:DS:=qL (zC (d2 xA (d2 gIx (qB 0) (dC (.int 0))) (d2 gIx (qB 1) (dC (.int 0)))) (gNm 2)) (qL (zC (d2 xA (d2 gIx (qB 0) (dC (.int 1))) (d2 gIx (qB 1) (dC (.int 1)))) (gNm 3)) (qX (d2 qR (d2 xV (qB 2) (qB 2)) (d2 xV (qB 3) (qB 3)))))
@[irreducible] def S_far_between:DF:=sh (qQ 4 b_far_between)
theorem kA:S_far_between=qQ 4 b_far_between:=by delta S_far_between;exact zY _
@[reducible] def b_rings:DS:=qL (zC (VS) (gNm 2)) (qL (yF (wN (qB 0)) (gNm 3) (sIf (dTr (d2 gNe (qB 3) (qB 1))) (qL (zC (qG 2 S_far_between (qA (qB 1) (qA (qB 3) (qC)))) (gNm 4)) (zC (d2 qR (dBm "dict" b5 (qB 2) (qA (qB 4) (qA (qT (qC)) (qC)))) (qT (qA (qB 3) (qC)))) (gSb (qB 2) (qB 4) vO))) (zD))) (qX (bS (qB 2))))
@[irreducible] def S_rings:DF:=sh (qQ 5 b_rings)
theorem mW:S_rings=qQ 5 b_rings:=by delta S_rings;exact zY _
@[reducible] def b_from_point (c:Cl):DS:=qL (yM (qG 1 (S_need_lot c) (qA (qB 0) (qC)))) (qL (yM (qG 1 (S_need_point c) (qA (qB 1) (qC)))) (qL (sIf (dTr (d2 yP (qB 1) (qB 0))) (yS (.ref c.NoPoint) (qA (dC (.str "the point is none of the lot")) (qC))) (zD)) (qX (qG 2 S_rings (qA (qB 0) (qA (qB 1) (qC)))))))
@[irreducible] def S_from_point (c:Cl):DF:=sh (qQ 2 (b_from_point c))
theorem wU (c:Cl):S_from_point c=qQ 2 (b_from_point c):=by delta S_from_point;exact zY _
@[reducible] def b_even_threes (c:Cl):DS:=qL (yM (qG 1 (S_need_lot c) (qA (qB 0) (qC)))) (qL (zC (dC (.int 0)) (gNm 1)) (qL (yF (wN (qB 0)) (gNm 2) (nO (dIt (qG 2 S_rings (qA (qB 0) (qA (qB 2) (qC))))) (gTp 2 (qZ (gNm 3) (qZ (gNm 4) (xQ)))) (mM 1 rF (d2 yZ (d2 xV (qE zH (qA (qB 4) (qC))) (d2 xA (qE zH (qA (qB 4) (qC))) (dC (.int 1)))) (dC (.int 2)))))) (qX (qB 1))))
@[irreducible] def S_even_threes (c:Cl):DF:=sh (qQ 5 (b_even_threes c))
theorem vS (c:Cl):S_even_threes c=qQ 5 (b_even_threes c):=by delta S_even_threes;exact zY _
@[reducible] def b_first_even (c:Cl):DS:=qL (yM (qG 1 (S_need_lot c) (qA (qB 0) (qC)))) (qL (yF (wN (qB 0)) (gNm 1) (qL (zC (qO false [none,none,Aa 1] (dIt (qG 2 S_rings (qA (qB 0) (qA (qB 1) (qC))))) (gTp 2 (qZ (gNm 0) (qZ (gNm 1) (xQ)))) (wJ (dTr (d2 gGt (qE zH (qA (qB 1) (qC))) (dC (.int 1)))) (z9)) (qV (qT (qA (qB 2) (qA (d2 gIx (qB 1) (dC (.int 0))) (qA (d2 gIx (qB 1) (dC (.int 1))) (qC))))))) (gNm 2)) (sIf (dTr (qB 2)) (qX (qE tE (qA (qB 2) (qC)))) (zD)))) (qX (dC .non)))
@[irreducible] def S_first_even (c:Cl):DF:=sh (qQ 3 (b_first_even c))
theorem uB (c:Cl):S_first_even c=qQ 3 (b_first_even c):=by delta S_first_even;exact zY _
@[reducible] def b__law_cell:DS:=qL (sIf (dTr (d2 gLt (qB 1) (qE zH (qA (qB 0) (qC))))) (qX (d2 gIx (qB 0) (qB 1))) (zD)) (qX (dC (.int 0)))
@[irreducible] def S__law_cell:DF:=sh (qQ 2 b__law_cell)
theorem gH:S__law_cell=qQ 2 b__law_cell:=by delta S__law_cell;exact zY _
@[reducible] def b__law_pen:DS:=qX (mY (qA (qB 0) (qA (qE eR (qA (d2 gGe (qB 0) (d2 uZ (dC (.int 10)) (dC (.int 18)))) (qC))) (qC))))
@[irreducible] def S__law_pen:DF:=sh (qQ 1 b__law_pen)
theorem pL:S__law_pen=qQ 1 b__law_pen:=by delta S__law_pen;exact zY _
@[reducible] def b__law_draw:DS:=qL (sIf (dTr (d2 gEq (d2 gIx (qB 0) (dC (.int 1))) (dC (.int 1)))) (qL (zC (d2 vT (d2 gIx (qB 0) (dC (.int 0))) (qB 1)) (gNm 2)) (qL (zC (d2 yZ (d2 gIx (qB 0) (dC (.int 0))) (qB 1)) (gSb (qB 0) (dC (.int 0)) vO)) (qX (qB 2)))) (zD)) (qL (zC (d2 vT (d2 qR (d2 xV (d2 vT (d2 gIx (qB 0) (dC (.int 0))) (dC (.int 2147483629))) (dC (.int 48271))) (dC (.int 11))) (dC (.int 2147483629))) (gSb (qB 0) (dC (.int 0)) vO)) (qX (d2 vT (d2 yZ (d2 vT (d2 qR (d2 xV (d2 gIx (qB 0) (dC (.int 0))) (d2 gIx (qB 0) (dC (.int 0)))) (d2 xV (dC (.int 40692)) (d2 gIx (qB 0) (dC (.int 0))))) (dC (.int 2147483647))) (dC (.int 8))) (qB 1))))
@[irreducible] def S__law_draw:DF:=sh (qQ 3 b__law_draw)
theorem gI:S__law_draw=qQ 3 b__law_draw:=by delta S__law_draw;exact zY _
@[reducible] def b__law_whole:DS:=qX (vL (qE zK (qA (qB 0) (qA (dC (.ty "int")) (qC)))) (QJ (qE zK (qA (qB 0) (qA (dC (.ty "bool")) (qC))))))
@[irreducible] def S__law_whole:DF:=sh (qQ 1 b__law_whole)
theorem uA:S__law_whole=qQ 1 b__law_whole:=by delta S__law_whole;exact zY _
@[reducible] def b__law_same (S__law_same:DF):DS:=qL (sIf (dTr (d2 gIs (qB 1) (dC .non))) (qX (d2 gIs (qB 0) (dC .non))) (zD)) (qL (sIf (y8 (dTr (qE zK (qA (qB 1) (qA (dC (.ty "tuple")) (qC))))) (dTr (qE zK (qA (qB 1) (qA (dC (.ty "list")) (qC)))))) (qL (sIf (y8 (dTr (d2 gNe (qE zK (qA (qB 0) (qA (dC (.ty "tuple")) (qC)))) (qE zK (qA (qB 1) (qA (dC (.ty "tuple")) (qC)))))) (dTr (d2 gNe (qE zK (qA (qB 0) (qA (dC (.ty "list")) (qC)))) (qE zK (qA (qB 1) (qA (dC (.ty "list")) (qC))))))) (qX (dC (.bl false))) (zD)) (qL (sIf (dTr (d2 gNe (qE zH (qA (qB 0) (qC))) (qE zH (qA (qB 1) (qC))))) (qX (dC (.bl false))) (zD)) (qL (yF (pY (qA (qB 0) (qA (qB 1) (qC)))) (gTp 2 (qZ (gNm 2) (qZ (gNm 3) (xQ)))) (sIf (zT (dTr (qG 2 S__law_same (qA (qB 2) (qA (qB 3) (qC)))))) (qX (dC (.bl false))) (zD))) (qX (dC (.bl true)))))) (zD)) (qL (sIf (dTr (qE zK (qA (qB 1) (qA (dC (.ty "str")) (qC))))) (qX (vL (qE zK (qA (qB 0) (qA (dC (.ty "str")) (qC)))) (d2 gEq (qB 0) (qB 1)))) (zD)) (qX (vL (d2 gEq (qE zK (qA (qB 0) (qA (dC (.ty "bool")) (qC)))) (qE zK (qA (qB 1) (qA (dC (.ty "bool")) (qC))))) (vL (qE zK (qA (qB 0) (qA (dC (.ty "int")) (qC)))) (d2 gEq (qB 0) (qB 1)))))))
def pH:Ah→DF
 |0=>fun _ _=>.bad
 |n+1=>qQ 4 (b__law_same (pH n))
@[irreducible] def S__law_same:DF:=sh (pH 6)
theorem uU:S__law_same=pH 6:=by delta S__law_same;exact zY _
@[reducible] def b__law_kind_of (c:Cl):DS:=qL (zC (zN (qA (qE (xB (wH c)) (qA (qB 0) (qA (dC (.obj c.NoPoint)) (qC)))) (qA (qE (xB (wH c)) (qA (qB 0) (qA (dC (.obj c.NoLot)) (qC)))) (qA (qE (xB (wH c)) (qA (qB 0) (qA (dC (.obj c.NoNumber)) (qC)))) (qA (qE (xB (wH c)) (qA (qB 0) (qA (dC (.obj c.NoCircle)) (qC)))) (qC)))))) (gNm 1)) (qL (zC (d2 qR (qB 1) (zN (qA (qE (xB (wH c)) (qA (qB 0) (qA (dC (.obj c.NoMarks)) (qC)))) (qA (qE (xB (wH c)) (qA (qB 0) (qA (dC (.obj c.NoFars)) (qC)))) (qA (qE (xB (wH c)) (qA (qB 0) (qA (dC (.obj c.NoText)) (qC)))) (qA (qE (xB (wH c)) (qA (qB 0) (qA (dC (.obj c.NoLine)) (qC)))) (qC))))))) (gNm 1)) (qL (zC (d2 qR (qB 1) (zN (qA (qE (xB (wH c)) (qA (qB 0) (qA (dC (.obj c.NoDeed)) (qC)))) (qA (qE (xB (wH c)) (qA (qB 0) (qA (dC (.obj c.Alike)) (qC)))) (qA (qE (xB (wH c)) (qA (qB 0) (qA (dC (.obj c.TooMany)) (qC)))) (qC)))))) (gNm 1)) (qL (sIf (y8 (zT (dTr (qE (xB (wH c)) (qA (qB 0) (qA (dC (.ty "ValueError")) (qC)))))) (dTr (d2 gNe (dBm "list" tG (qB 1) (qA (dC (.bl true)) (qC))) (dC (.int 1))))) (qX (dC (.str "other"))) (zD)) (qL (sIf (dTr (qE (xB (wH c)) (qA (qB 0) (qA (dC (.obj c.Alike)) (qC))))) (qX (zN (qA (dC (.str "alike")) (qA (pW) (qA (pW) (qA (pW) (qA (pW) (qC)))))))) (zD)) (qL (sIf (dTr (qE (xB (wH c)) (qA (qB 0) (qA (dC (.obj c.TooMany)) (qC))))) (qX (zN (qA (dC (.str "many")) (qA (pW) (qA (pW) (qC)))))) (zD)) (qL (zC (zN (qA (dC (.str "point")) (qA (dC (.str "lot")) (qA (dC (.str "number")) (qA (dC (.str "circle")) (qA (dC (.str "marks")) (qA (dC (.str "fars")) (qA (dC (.str "text")) (qA (dC (.str "line")) (qA (dC (.str "deed")) (qC))))))))))) (gNm 2)) (qX (d2 gIx (qB 2) (dBm "list" tH (qB 1) (qA (dC (.bl true)) (qC)))))))))))
@[irreducible] def S__law_kind_of (c:Cl):DF:=sh (qQ 3 (b__law_kind_of c))
theorem vK (c:Cl):S__law_kind_of c=qQ 3 (b__law_kind_of c):=by delta S__law_kind_of;exact zY _
@[reducible] def b__law_point:DS:=qX (qT (qA (d2 xA (qG 2 S__law_draw (qA (qB 0) (qA (d2 qR (d2 xV (dC (.int 2)) (qB 1)) (dC (.int 1))) (qC)))) (qB 1)) (qA (d2 xA (qG 2 S__law_draw (qA (qB 0) (qA (d2 qR (d2 xV (dC (.int 2)) (qB 1)) (dC (.int 1))) (qC)))) (qB 1)) (qC))))
@[irreducible] def S__law_point:DF:=sh (qQ 2 b__law_point)
theorem kT:S__law_point=qQ 2 b__law_point:=by delta S__law_point;exact zY _
@[reducible] def b__law_lot:DS:=qL (pG 2 3 (qA (qG 2 S__law_draw (qA (qB 0) (qA (dC (.int 7)) (qC)))) (qA (d2 qR (dC (.int 1)) (qG 2 S__law_draw (qA (qB 0) (qA (qB 1) (qC))))) (qC)))) (qL (zC (qT (qA (d2 gIx (zN (qA (dC (.int 1)) (qA (dC (.int 2)) (qA (dC (.int 4)) (qA (dC (.int 12)) (qA (dC (.int 1000)) (qC))))))) (qG 2 S__law_draw (qA (qB 0) (qA (dC (.int 5)) (qC))))) (qA (qG 2 S__law_point (qA (qB 0) (qA (dC (.int 400)) (qC)))) (qC)))) (gTp 2 (qZ (gNm 4) (qZ (gNm 5) (xQ))))) (qL (zC (d2 qR (dC (.int 1)) (qG 2 S__law_draw (qA (qB 0) (qA (dC (.int 9)) (qC))))) (gNm 6)) (qL (zC (qO false [none,Aa 0,Aa 4] (y0 (yW (qA (qB 3) (qC)))) (gNm 0) (z9) (qV (qG 2 (okO S__law_point) (qA (qB 1) (qA (qB 2) (qC)))))) (gNm 7)) (qL (sIf (dTr (d2 gEq (qB 2) (dC (.int 0)))) (zC (qO false [none,Aa 5] (y0 (yW (qA (qB 3) (qC)))) (gNm 0) (z9) (qV (qT (qA (d2 qR (d2 gIx (qB 1) (dC (.int 0))) (d2 vT (qB 0) (dC (.int 4)))) (qA (d2 qR (d2 gIx (qB 1) (dC (.int 1))) (d2 yZ (qB 0) (dC (.int 4)))) (qC)))))) (gNm 7)) (zD)) (qL (sIf (dTr (d2 gEq (qB 2) (dC (.int 1)))) (zC (qO false [none,Aa 5,Aa 6] (y0 (yW (qA (qB 3) (qC)))) (gNm 0) (z9) (qV (qT (qA (d2 qR (d2 gIx (qB 1) (dC (.int 0))) (d2 xV (qB 2) (qB 0))) (qA (d2 xA (d2 gIx (qB 1) (dC (.int 1))) (qB 0)) (qC)))))) (gNm 7)) (zD)) (qL (sIf (dTr (d2 gEq (qB 2) (dC (.int 2)))) (qL (zC (dSl (qB 7) (zE) (qY (d2 qR (dC (.int 1)) (d2 yZ (qB 3) (dC (.int 4)))))) (gNm 8)) (qL (zC (d2 qR (d2 qR (qB 8) (qO false [none,none] (dIt (qB 8)) (gTp 2 (qZ (gNm 0) (qZ (gNm 1) (xQ)))) (z9) (qV (qT (qA (d2 xA (dC (.int 0)) (qB 1)) (qA (qB 0) (qC))))))) (qO false [none,none] (dIt (qB 8)) (gTp 2 (qZ (gNm 0) (qZ (gNm 1) (xQ)))) (z9) (qV (qT (qA (d2 xA (dC (.int 0)) (qB 0)) (qA (d2 xA (dC (.int 0)) (qB 1)) (qC))))))) (gNm 7)) (zC (d2 qR (qB 7) (qO false [none,none] (dIt (qB 8)) (gTp 2 (qZ (gNm 0) (qZ (gNm 1) (xQ)))) (z9) (qV (qT (qA (qB 1) (qA (d2 xA (dC (.int 0)) (qB 0)) (qC))))))) (gNm 7)))) (zD)) (qX (qE wW (qA (xN (dSl (qB 7) (zE) (qY (qB 3)))) (qC))))))))))
@[irreducible] def S__law_lot:DF:=sh (qQ 9 b__law_lot)
theorem pK:S__law_lot=qQ 9 b__law_lot:=by delta S__law_lot;exact zY _
@[reducible] def b__law_is_point:DS:=qL (sIf (y8 (zT (dTr (qE zK (qA (qB 0) (qA (dC (.ty "tuple")) (qC)))))) (dTr (d2 gNe (qE zH (qA (qB 0) (qC))) (dC (.int 2))))) (qX (dC (.bl false))) (zD)) (qX (qE (uX false) (qA (qO false [none] (dIt (qB 0)) (gNm 0) (z9) (qV (vL (qG 1 (okO S__law_whole) (qA (qB 0) (qC))) (xR gLe gLe (d1 yJ (dC (.int 1000))) (qB 0) (dC (.int 1000)))))) (qC))))
@[irreducible] def S__law_is_point:DF:=sh (qQ 1 b__law_is_point)
theorem jB:S__law_is_point=qQ 1 b__law_is_point:=by delta S__law_is_point;exact zY _
@[reducible] def b__law_is_lot:DS:=qL (sIf (y8 (zT (dTr (qE zK (qA (qB 0) (qA (dC (.ty "tuple")) (qC)))))) (y8 (zT (dTr (xR gLe gLe (dC (.int 1)) (qE zH (qA (qB 0) (qC))) (dC (.int 40))))) (zT (dTr (qE (uX false) (qA (qO false [none] (dIt (qB 0)) (gNm 0) (z9) (qV (qG 1 (okO S__law_is_point) (qA (qB 0) (qC))))) (qC))))))) (qX (dC (.bl false))) (zD)) (qX (d2 gEq (qE bX (qA (qB 0) (qC))) (xN (qB 0))))
@[irreducible] def S__law_is_lot:DF:=sh (qQ 1 b__law_is_lot)
theorem k8:S__law_is_lot=qQ 1 b__law_is_lot:=by delta S__law_is_lot;exact zY _
@[reducible] def b__law_no_point:DS:=qL (pG 2 3 (qA (qG 2 S__law_draw (qA (qB 0) (qA (dC (.int 12)) (qC)))) (qA (qG 2 S__law_draw (qA (qB 0) (qA (dC (.int 2)) (qC)))) (qC)))) (qL (zC (d2 gIx (zN (qA (dC (.int 1001)) (qA (d1 yJ (dC (.int 1001))) (qA (dC (.bl true)) (qA (dC (.bl false)) (qA (dC .non) (qA (dC (.str "0")) (qA (qT (qA (dC (.int 0)) (qC))) (qA (d2 uZ (dC (.int 10)) (dC (.int 29))) (qA (zN (qA (dC (.int 0)) (qC))) (qA (gY) (qC)))))))))))) (qG 2 S__law_draw (qA (qB 0) (qA (dC (.int 10)) (qC))))) (gNm 4)) (qL (zC (d2 qR (d2 qR (dSl (qB 1) (zE) (qY (qB 3))) (qT (qA (qB 4) (qC)))) (dSl (qB 1) (qY (d2 qR (qB 3) (dC (.int 1)))) (zE))) (gNm 5)) (qL (zC (zN (qA (qB 5) (qA (qB 5) (qA (qB 5) (qA (qB 5) (qA (dSl (qB 1) (zE) (qY (dC (.int 1)))) (qA (d2 qR (qB 1) (qT (qA (dC (.int 0)) (qC)))) (qA (qE bX (qA (qB 1) (qC))) (qA (dC .non) (qA (dC (.int 7)) (qA (dC (.str "0,0")) (qC)))))))))))) (gNm 6)) (qX (d2 gIx (d2 qR (qB 6) (zN (qA (gY) (qA (qT (qA (qB 1) (qC))) (qC))))) (qB 2))))))
@[irreducible] def S__law_no_point:DF:=sh (qQ 7 b__law_no_point)
theorem jC:S__law_no_point=qQ 7 b__law_no_point:=by delta S__law_no_point;exact zY _
@[reducible] def b__law_no_lot:DS:=qL (pG 2 3 (qA (qG 2 S__law_draw (qA (qB 0) (qA (dC (.int 14)) (qC)))) (qA (qG 2 S__law_draw (qA (qB 0) (qA (qE zH (qA (qB 1) (qC))) (qC)))) (qC)))) (qL (zC (d2 qR (d2 qR (dSl (qB 1) (zE) (qY (qB 3))) (qT (qA (qG 2 S__law_no_point (qA (qB 0) (qA (d2 gIx (qB 1) (qB 3)) (qC)))) (qC)))) (dSl (qB 1) (qY (d2 qR (qB 3) (dC (.int 1)))) (zE))) (gNm 4)) (qL (zC (zN (qA (qB 4) (qA (qB 4) (qA (qE bX (qA (qB 1) (qC))) (qA (bT (qB 1) (d1 yJ (dC (.int 1)))) (qA (d2 qR (qB 1) (dSl (qB 1) (qY (d1 yJ (dC (.int 1)))) (zE))) (qA (d2 qR (dSl (qB 1) (zE) (qY (d2 qR (qB 3) (dC (.int 1))))) (dSl (qB 1) (qY (qB 3)) (zE))) (qA (qT (qC)) (qA (dC .non) (qA (dC (.int 7)) (qA (dC (.str "0,0")) (qA (gY) (qC))))))))))))) (gNm 5)) (qL (zC (qE wW (qA (qO false [none] (y0 (yW (qA (dC (.int 41)) (qC)))) (gNm 0) (z9) (qV (qT (qA (d2 yZ (qB 0) (dC (.int 8))) (qA (d2 vT (qB 0) (dC (.int 8))) (qC)))))) (qC))) (gNm 6)) (qL (zC (d2 gIx (d2 qR (qB 5) (zN (qA (qT (qA (qB 1) (qC))) (qA (qB 6) (qA (d2 gIx (qB 1) (dC (.int 0))) (qC)))))) (qB 2)) (gNm 7)) (qX (dIf (dTr (qG 1 S__law_is_lot (qA (qB 7) (qC)))) (qT (qC)) (qB 7)))))))
@[irreducible] def S__law_no_lot:DF:=sh (qQ 8 b__law_no_lot)
theorem k9:S__law_no_lot=qQ 8 b__law_no_lot:=by delta S__law_no_lot;exact zY _
@[reducible] def b__law_far:DS:=qX (d2 qR (d2 uZ (d2 xA (d2 gIx (qB 0) (dC (.int 0))) (d2 gIx (qB 1) (dC (.int 0)))) (dC (.int 2))) (d2 uZ (d2 xA (d2 gIx (qB 0) (dC (.int 1))) (d2 gIx (qB 1) (dC (.int 1)))) (dC (.int 2))))
@[irreducible] def S__law_far:DF:=sh (qQ 2 b__law_far)
theorem pJ:S__law_far=qQ 2 b__law_far:=by delta S__law_far;exact zY _
@[reducible] def b__law_pairs:DS:=qL (zC (zN (qC)) (gNm 1)) (qL (yF (yW (qA (qE zH (qA (qB 0) (qC))) (qC))) (gNm 2) (zC (d2 qR (qB 1) (qO false [none,Aa 2,Aa 0] (dIt (dSl (qB 0) (qY (d2 qR (qB 2) (dC (.int 1)))) (zE))) (gNm 0) (z9) (qV (qT (qA (d2 gIx (qB 2) (qB 1)) (qA (qB 0) (qC))))))) (gNm 1))) (qX (qB 1)))
@[irreducible] def S__law_pairs:DF:=sh (qQ 3 b__law_pairs)
theorem kS:S__law_pairs=qQ 3 b__law_pairs:=by delta S__law_pairs;exact zY _
@[reducible] def b__law_came (c:Cl):DS:=mO 4 3 (kE c) (qX (dIf (dTr (d2 gEq (qB 0) (dC (.int 0)))) (qG 2 (S_from_point c) (qA (qB 1) (qA (qB 2) (qC)))) (nZ [(1,(S_even_threes c)),(1,(S_first_even c))] (d2 xA (qB 0) (dC (.int 1))) (qA (qB 1) (qC))))) (qX (qG 1 (S__law_kind_of c) (qA (qB 3) (qC))))
@[irreducible] def S__law_came (c:Cl):DF:=sh (qQ 4 (b__law_came c))
theorem uT (c:Cl):S__law_came c=qQ 4 (b__law_came c):=by delta S__law_came;exact zY _
@[reducible] def b__law_rings:DS:=qL (zC (qO false [none,Aa 1] (dIt (qB 0)) (gNm 0) (wJ (dTr (d2 gNe (qB 0) (qB 1))) (z9)) (qV (qB 0))) (gNm 2)) (qL (zC (xN (qO false [none,Aa 1] (dIt (qB 2)) (gNm 0) (z9) (qV (qG 2 (okO S__law_far) (qA (qB 1) (qA (qB 0) (qC))))))) (gNm 3)) (qX (qO false [none,Aa 2,Aa 1] (dIt (qB 3)) (gNm 0) (z9) (qV (qT (qA (qB 0) (qA (qE wW (qA (qO false [none,Aa 0,Aa 2] (dIt (qB 1)) (gNm 0) (wJ (dTr (d2 gEq (qG 2 (okO S__law_far) (qA (qB 2) (qA (qB 0) (qC)))) (qB 1))) (z9)) (qV (qB 0))) (qC))) (qC))))))))
@[irreducible] def S__law_rings:DF:=sh (qQ 4 b__law_rings)
theorem kU:S__law_rings=qQ 4 b__law_rings:=by delta S__law_rings;exact zY _
@[reducible] def b_law (c:Cl):DS:=qL (yF (wN (d2 qR (zN (qA (qG 2 S__law_cell (qA (qB 0) (qA (dC (.int 0)) (qC)))) (qC))) (dSl (qB 0) (qY (dC (.int 1))) (qY (dC (.int 4)))))) (gNm 1) (qL (zC (qG 1 S__law_pen (qA (qB 1) (qC))) (gNm 2)) (qL (zC (qG 2 S__law_lot (qA (qB 2) (qA (dC (.int 40)) (qC)))) (gNm 3)) (qL (zC (mY (qC)) (gNm 4)) (qL (yF (wN (qB 3)) (gNm 5) (yF (wN (qG 1 S__law_pairs (qA (qE wW (qA (qO false [none,Aa 5] (dIt (qB 3)) (gNm 0) (wJ (dTr (d2 gNe (qB 0) (qB 1))) (z9)) (qV (qB 0))) (qC))) (qC)))) (gTp 2 (qZ (gNm 6) (qZ (gNm 7) (xQ)))) (sIf (dTr (d2 gEq (qG 2 S__law_far (qA (qB 5) (qA (qB 6) (qC)))) (qG 2 S__law_far (qA (qB 5) (qA (qB 7) (qC)))))) (yM (dBm "list" vE (qB 4) (qA (qT (qA (qB 5) (qA (qB 6) (qA (qB 7) (qC))))) (qC)))) (zD)))) (qL (yF (yW (qA (dC (.int 2)) (qC))) (gNm 8) (qL (sIf (zT (dTr (qG 2 S__law_same (qA (zN (qA (qG 3 (S__law_came c) (qA (dC (.int 1)) (qA (qB 3) (qA (dC (.int 0)) (qC))))) (qA (qG 3 (S__law_came c) (qA (dC (.int 2)) (qA (qB 3) (qA (dC (.int 0)) (qC))))) (qC)))) (qA (zN (qA (qE zH (qA (qB 4) (qC))) (qA (mZ (qA (qB 4) (qC)) (dC .non)) (qC)))) (qC)))))) (qX (dC (.bl false))) (zD)) (yF (wN (qB 3)) (gNm 5) (qL (zC (qG 3 (S__law_came c) (qA (dC (.int 0)) (qA (qB 3) (qA (qB 5) (qC))))) (gNm 9)) (qL (sIf (zT (dTr (qG 2 (uG S__law_same) (qA (qB 9) (qA (qG 2 S__law_rings (qA (qB 3) (qA (qB 5) (qC)))) (qC)))))) (qX (dC (.bl false))) (zD)) (yM (dBm "list" vE (qB 9) (qA (dC (.int 0)) (qC))))))))) (qL (pG 10 7 (qA (qG 3 (S__law_came c) (qA (dC (.int 0)) (qA (qB 3) (qA (d2 gIx (qB 3) (dC (.int 0))) (qC))))) (qA (qG 3 (S__law_came c) (qA (dC (.int 0)) (qA (qB 3) (qA (d2 gIx (qB 3) (d1 yJ (dC (.int 1)))) (qC))))) (qC)))) (qL (sIf (zT (dTr (qG 2 (uG S__law_same) (qA (zN (qA (qB 10) (qA (qB 7) (qC)))) (qA (zN (qA (qG 2 S__law_rings (qA (qB 3) (qA (d2 gIx (qB 3) (dC (.int 0))) (qC)))) (qA (qG 2 S__law_rings (qA (qB 3) (qA (d2 gIx (qB 3) (d1 yJ (dC (.int 1)))) (qC)))) (qC)))) (qC)))))) (qX (dC (.bl false))) (zD)) (qL (zC (qT (qA (qG 2 S__law_no_lot (qA (qB 2) (qA (qB 3) (qC)))) (qA (qG 2 S__law_no_point (qA (qB 2) (qA (d2 gIx (qB 3) (dC (.int 0))) (qC)))) (qC)))) (gTp 2 (qZ (gNm 11) (qZ (gNm 12) (xQ))))) (qL (zC (qO false [none,Aa 3] (dIt (zN (qA (qT (qA (dC (.int 999)) (qA (dC (.int 998)) (qC)))) (qA (qT (qA (d1 yJ (dC (.int 997))) (qA (dC (.int 3)) (qC)))) (qA (qT (qA (dC (.int 0)) (qA (dC (.int 0)) (qC)))) (qA (qT (qA (dC (.int 1)) (qA (dC (.int 0)) (qC)))) (qC))))))) (gNm 0) (wJ (dTr (d2 yP (qB 0) (qB 1))) (z9)) (qV (qB 0))) (gNm 13)) (qL (sIf (dTr (d2 gNe (qO false [none,Aa 11,Aa 12] (y0 (yW (qA (dC (.int 3)) (qC)))) (gNm 0) (z9) (qV (qG 3 (okO (S__law_came c)) (qA (qB 0) (qA (qB 1) (qA (qB 2) (qC))))))) (d2 g6 (zN (qA (dC (.str "lot")) (qC))) (dC (.int 3))))) (qX (dC (.bl false))) (zD)) (qL (sIf (dTr (d2 gNe (qO false [none,Aa 3] (dIt (d2 qR (zN (qA (qB 12) (qC))) (qB 13))) (gNm 0) (z9) (qV (qG 3 (okO (S__law_came c)) (qA (dC (.int 0)) (qA (qB 1) (qA (qB 0) (qC))))))) (d2 g6 (zN (qA (dC (.str "point")) (qC))) (d2 qR (dC (.int 1)) (qE zH (qA (qB 13) (qC))))))) (qX (dC (.bl false))) (zD)) (qL (zC (qE wW (qA (xN (d2 qR (dSl (qB 3) (zE) (qY (dC (.int 39)))) (qT (qA (qT (qA (dC (.int 1)) (qA (dC (.int 0)) (qC)))) (qC))))) (qC))) (gNm 14)) (sIf (dTr (d2 gNe (qO false [none,Aa 14] (dIt (zN (qA (qT (qA (dC (.bl true)) (qA (dC (.int 0)) (qC)))) (qA (qT (qA (dC (.int 1)) (qA (dC (.bl false)) (qC)))) (qA (zN (qA (dC (.int 1)) (qA (dC (.int 0)) (qC)))) (qC)))))) (gNm 0) (z9) (qV (qG 3 (okO (S__law_came c)) (qA (dC (.int 0)) (qA (qB 1) (qA (qB 0) (qC))))))) (d2 g6 (zN (qA (dC (.str "point")) (qC))) (dC (.int 3))))) (qX (dC (.bl false))) (zD))))))))))))))) (qX (dC (.bl true)))
end _K
namespace _K
open PySem _D
theorem jW (i j:Aj)(S:Sto):gEq (.int i) (.int j) S=.ok (.bl (decide (i=j))) S:=by kernel_rfl!
theorem iL (i j:Aj)(S:Sto):gNe (.int i) (.int j) S=.ok (.bl (decide (i≠j))) S:=by
 have h:gNe (.int i) (.int j) S=.ok (.bl (!decide (i=j))) S:=by kernel_rfl!
 rw[h,← decide_not]
theorem u3 (i j:Aj)(S:Sto)(h : -(2 ^ 64)<i∧i<2 ^ 64):xV (.int i) (.int j) S=.ok (.int (i*j)) S:=by
 unfold xV i2;rw[rZ];unfold rY;simp only[h,and_self,decide_true,Zr,De]
theorem wB (i j:Aj)(S:Sto):qR (.int i) (.int j) S=.ok (.int (i+j)) S:=rfl
theorem yY {xs ys:Ab D}(h:xs.length+ys.length≤lim)(S:Sto):qR (.lst xs) (.lst ys) S=.ok (.lst (xs++ys)) S:=AT h
theorem GY {S:Sto}{j:Ah}{xs:Ab D}(h:S[j]? = Aa (.lst xs)):tyD (.loc j) S=Aa "list":=by
 show (match S[j]? with|some (.lst _)=>Aa "list" | some (.dct _)=>Aa "dict" | _=>none)=_
 rw[h]
theorem ZW {S:Sto}{j:Ah}{xs:Ab D}(h:S[j]? = Aa (.lst xs))(hl:xs.length<lim)(d:D):vE (.loc j) [d] S=.ok .non (S.set j (.lst (xs++[d]))):=by
 show (match S[j]? with|some (.lst xs)=>(if xs.length<lim then Res.ok D.non (S.set j (.lst (xs++[d]))) else .bad)|_=>.bad)=_
 rw[h];exact AT hl
theorem gL (d:D)(b a:Du)(S:Sto)(ho:j2 b=true)(h:tyD d S=Aa a):zK [d,.ty b] S=.ok (.bl (w6 a b)) S:=by
 unfold zK;simp[ho,h]
theorem mG (xs:Ab D)(S:Sto):zH [.lst xs] S=.ok (.int xs.length) S:=rfl
theorem j1 (xs:Ab D)(S:Sto):zH [.tup xs] S=.ok (.int xs.length) S:=rfl
theorem jY:j2 "int" = true∧j2 "bool" = true∧j2 "tuple" = true∧j2 "list" = true∧j2 "str" = true:=kd
theorem MW:w6 "int" "tuple" = false∧w6 "int" "list" = false∧w6 "int" "str" = false∧w6 "int" "bool" = false∧w6 "int" "int" = true∧w6 "tuple" "tuple" = true∧w6 "tuple" "list" = false∧w6 "list" "tuple" = false∧w6 "list" "list" = true:=kd
theorem uY (i j:Aj)(S:Sto)(h:0<j):vT (.int i) (.int j) S=.ok (.int (i % j)) S:=by
 unfold vT i2;simp[h]
theorem jV (i j:Aj)(S:Sto)(h:0<j∧j<1073741824):yZ (.int i) (.int j) S=.ok (.int (i/j)) S:=by
 unfold yZ i2 N4;simp[h]
def yV (d:D):Prop:=∀ S,tyD d S=Aa "NoneType" ∨ tyD d S=Aa "bool" ∨ tyD d S=Aa "str" ∨ tyD d S=Aa "tuple" ∨ tyD d S=Aa "list" ∨ tyD d S=Aa "dict"
theorem lR (i:Aj)(S:Sto):S_is_whole [.int i] S=.ok (.bl true) S:=by
 rw[jJ]
 kernel_rfl!
theorem r8 (d:D)(S:Sto)(h:yV d):S_is_whole [d] S=.ok (.bl false) S:=by
 rw[jJ];unfold b_is_whole;rcases h S with h|h|h|h|h|h <;> simp[qQ,uO,FS,OU,OT,qL,sIf,qX,zD,yM,zC,gNm,gSb,gTp,qZ,xQ,pG,IY,qAC,AS,dC,qB,d1,d2,qA,qC,qE,qG,dTr,zT,y8,z9,vL,QJ,dIf,xR,qT,zN,mY,dBm,dSl,qY,zE,wN,yW,Res.bind,Res.toS,_D.uN,_D.vV,OW,OV,EE,qAD,OY,OZ,qAA,OX,OS,OR,LX,gLt,gLe,gGt,gGe,_D.xA,rF,gL _ _ _ _ jY.1 h,gL _ _ _ _ jY.2.1 h,w6]
theorem JX (i a b:Aj)(S:Sto):S_is_within [.int i,.int a,.int b] S=.ok (.bl (decide (a≤i∧i≤b))) S:=by
 rw[uV];unfold b_is_within;simp[qQ,uO,FS,OU,OT,qL,sIf,qX,zD,yM,zC,gNm,gSb,gTp,qZ,xQ,pG,IY,qAC,AS,dC,qB,d1,d2,qA,qC,qE,qG,dTr,zT,y8,z9,vL,QJ,dIf,xR,qT,zN,mY,dBm,dSl,qY,zE,wN,yW,Res.bind,Res.toS,_D.uN,_D.vV,OW,OV,EE,qAD,OY,OZ,qAA,OX,OS,OR,LX,gLt,gLe,gGt,gGe,_D.xA,rF,lR];by_cases h:a≤i <;> simp[h,FS]
theorem aY (d:D)(a b:Aj)(S:Sto)(h:yV d):S_is_within [d,.int a,.int b] S=.ok (.bl false) S:=by
 rw[uV];unfold b_is_within;simp[qQ,uO,FS,OU,OT,qL,sIf,qX,zD,yM,zC,gNm,gSb,gTp,qZ,xQ,pG,IY,qAC,AS,dC,qB,d1,d2,qA,qC,qE,qG,dTr,zT,y8,z9,vL,QJ,dIf,xR,qT,zN,mY,dBm,dSl,qY,zE,wN,yW,Res.bind,Res.toS,_D.uN,_D.vV,OW,OV,EE,qAD,OY,OZ,qAA,OX,OS,OR,LX,gLt,gLe,gGt,gGe,_D.xA,rF,r8 d S h]
theorem DW:yV .non:=fun _=>.inl rfl
theorem HY (b:As):yV (.bl b):=fun _=>.inr (.inl rfl)
theorem DX (x:Au):yV (.str x):=fun _=>.inr (.inr (.inl rfl))
theorem DY (x:Ab D):yV (.tup x):=fun _=>.inr (.inr (.inr (.inl rfl)))
theorem DV (x:Ab D):yV (.lst x):=fun _=>.inr (.inr (.inr (.inr (.inl rfl))))
theorem DU:yV .dct0:=fun _=>.inr (.inr (.inr (.inr (.inr rfl))))
def zV (S:Sto)(p:Ah):Prop:=∃ v f:Aj,S[p]? = Aa (.lst [.int v,.int f])
theorem eX (p:Ah)(k:Aj)(xs:Ab D)(d:D)(S:Sto)(h:S[p]? = Aa (.lst xs))(hk:_L.atI xs k=Aa d):gIx (.loc p) (.int k) S=.ok d S:=by
 show (match S[p]? with|some (.lst xs)=>_D.vV (_L.atI xs k) S|_=>.bad)=_
 rw[h];show _D.vV (_L.atI xs k) S=_;rw[hk];rfl
theorem GK (v f:Aj):_L.atI [D.int v,D.int f] 0=Aa (.int v):=rfl
theorem CM (v f:Aj):_L.atI [D.int v,D.int f] 1=Aa (.int f):=rfl
theorem oC (p:Ah)(v f w:Aj)(S:Sto)(h:S[p]? = Aa (.lst [.int v,.int f])):vO (.loc p) (.int 0) (.int w) S=.ok () (S.set p (.lst [.int w,.int f])):=by
 simp[vO,mC,h,_L.ixN]
theorem RW (S:Sto)(p:Ah)(m:Aj)(h:zV S p)(hm:0<m∧m<1073741824):∃ r v f:Aj,S__law_draw [.loc p,.int m] S=.ok (.int r) (S.set p (.lst [.int v,.int f]))∧0≤r∧r<m:=by
 obtain⟨v,f,hp⟩:=h;have hpl:=(Ba.mp hp).1;have g0:=eX p 0 _ _ S hp (GK v f);have g1:=eX p 1 _ _ S hp (CM v f);rw[gI];unfold b__law_draw;by_cases hf:f=1
 ·refine⟨v % m,v/m,f,?_,Jg _ om,Hr _ hm.1⟩
  subst hf;simp[qQ,uO,FS,OU,OT,qL,sIf,qX,zD,yM,zC,gNm,gSb,gTp,qZ,xQ,pG,IY,qAC,AS,dC,qB,d1,d2,qA,qC,qE,qG,dTr,zT,y8,z9,vL,QJ,dIf,xR,qT,zN,mY,dBm,dSl,qY,zE,wN,yW,Res.bind,Res.toS,_D.uN,_D.vV,OW,OV,EE,qAD,OY,OZ,qAA,OX,OS,OR,LX,gLt,gLe,gGt,gGe,_D.xA,rF,g0,g1,jW,uY v m S hm.1,jV v m S hm,oC p v 1 (v/m) S hp]
 ·obtain⟨w,hw⟩:∃ w:Aj,w=(v % 2147483629*48271+11) % 2147483629:=⟨_,rfl⟩
  have hw1:0≤w∧w<2147483629:=by rw[hw];exact⟨Jg _ om,Hr _ om⟩
  have hv1:0≤v % 2147483629∧v % 2147483629<2147483629:=⟨Jg _ om,Hr _ om⟩;have hp':(S.set p (MO.lst [.int w,.int f]))[p]? = Aa (.lst [.int w,.int f]):=by simp[hpl]
  have k0:=eX p 0 _ _ (S.set p (MO.lst [.int w,.int f])) hp' (GK w f);have m1:=u3 (v % 2147483629) 48271 S ⟨by omega,by omega⟩
  have m2:=u3 w w (S.set p (MO.lst [.int w,.int f])) ⟨by omega,by omega⟩
  have m3:=u3 40692 w (S.set p (MO.lst [.int w,.int f])) ⟨by omega,by omega⟩
  have d1:=uY v 2147483629 S om;have d2':=uY (v % 2147483629*48271+11) 2147483629 S om;rw[← hw] at d2';have d3:=uY (w*w+40692*w) 2147483647 (S.set p (MO.lst [.int w,.int f])) om;have d4:=jV ((w*w+40692*w) % 2147483647) 8 (S.set p (MO.lst [.int w,.int f])) om;have d5:=uY ((w*w+40692*w) % 2147483647/8) m (S.set p (MO.lst [.int w,.int f])) hm.1;refine⟨(w*w+40692*w) % 2147483647/8 % m,w,f,?_,Jg _ om,Hr _ hm.1⟩;simp[qQ,uO,FS,OU,OT,qL,sIf,qX,zD,yM,zC,gNm,gSb,gTp,qZ,xQ,pG,IY,qAC,AS,dC,qB,d1,d2,qA,qC,qE,qG,dTr,zT,y8,z9,vL,QJ,dIf,xR,qT,zN,mY,dBm,dSl,qY,zE,wN,yW,Res.bind,Res.toS,_D.uN,_D.vV,OW,OV,EE,qAD,OY,OZ,qAA,OX,OS,OR,LX,gLt,gLe,gGt,gGe,_D.xA,rF,g0,g1,jW,hf,d1,m1,wB,d2',oC p v f w S hp,k0,m2,m3,d3,d4,d5]
theorem JH {S:Sto}{p:Ah}(h:zV S p)(v f:Aj):zV (S.set p (.lst [.int v,.int f])) p:=by
 obtain⟨v0,f0,hp⟩:=h;have hpl:=(Ba.mp hp).1;exact⟨v,f,by simp[hpl]⟩
theorem fE {S S':Sto}{p:Ah}(h:zV S p)(e:S<+:S'):zV S' p:=by
 obtain⟨v0,f0,hp⟩:=h;obtain⟨r,rfl⟩:=e;exact⟨v0,f0,by rw[Cd (Ba.mp hp).1];exact hp⟩
theorem R3 (S:Sto):uZ (.int 10) (.int 18) S=.ok (.int 1000000000000000000) S:=rfl
theorem R4 (S:Sto):uZ (.int 10) (.int 29) S=.ok (.int 100000000000000000000000000000) S:=rfl
theorem CZ (x:Aj)(S:Sto):∃ f:Aj,S__law_pen [.int x] S=.ok (.loc S.length) (S++[.lst [.int x,.int f]]):=by
 refine⟨b01 (decide (1000000000000000000≤x)),?_⟩;have l2:2≤lim:=by decide
 rw[pL];unfold b__law_pen;simp[qQ,uO,FS,OU,OT,qL,sIf,qX,zD,yM,zC,gNm,gSb,gTp,qZ,xQ,pG,IY,qAC,AS,dC,qB,d1,d2,qA,qC,qE,qG,dTr,zT,y8,z9,vL,QJ,dIf,xR,qT,zN,mY,dBm,dSl,qY,zE,wN,yW,Res.bind,Res.toS,_D.uN,_D.vV,OW,OV,EE,qAD,OY,OZ,qAA,OX,OS,OR,LX,gLt,gLe,gGt,gGe,_D.xA,rF,R3,BO,l2]
theorem RV (ns:Ab Aj)(S:Sto):∃ x:Aj,S__law_cell [.lst (ns.map D.int),.int 0] S=.ok (.int x) S:=by
 rw[gH];unfold b__law_cell;cases ns with
 |nil=>exact⟨0,by simp[qQ,uO,FS,OU,OT,qL,sIf,qX,zD,yM,zC,gNm,gSb,gTp,qZ,xQ,pG,IY,qAC,AS,dC,qB,d1,d2,qA,qC,qE,qG,dTr,zT,y8,z9,vL,QJ,dIf,xR,qT,zN,mY,dBm,dSl,qY,zE,wN,yW,Res.bind,Res.toS,_D.uN,_D.vV,OW,OV,EE,qAD,OY,OZ,qAA,OX,OS,OR,LX,gLt,gLe,gGt,gGe,_D.xA,rF,mG]⟩
 |cons n ns =>
  refine⟨n,?_⟩;have h:(0:Aj)<(ns.length:Aj)+1:=by omega
  have a:_L.atI (D.int n::ns.map D.int) 0=Aa (.int n):=by simp[_L.atI,_L.ixN,h]
  simp[qQ,uO,FS,OU,OT,qL,sIf,qX,zD,yM,zC,gNm,gSb,gTp,qZ,xQ,pG,IY,qAC,AS,dC,qB,d1,d2,qA,qC,qE,qG,dTr,zT,y8,z9,vL,QJ,dIf,xR,qT,zN,mY,dBm,dSl,qY,zE,wN,yW,Res.bind,Res.toS,_D.uN,_D.vV,OW,OV,EE,qAD,OY,OZ,qAA,OX,OS,OR,LX,gLt,gLe,gGt,gGe,_D.xA,rF,mG,bZ a,h]
theorem pS (xs:Ab D)(r:Aj)(h:0≤r∧r<xs.length):∃ d,_L.atI xs r=Aa d∧d∈xs:=by
 have e:_L.ixN xs.length r=Aa r.toNat:=by simp[_L.ixN,h]
 have hl:r.toNat<xs.length:=by omega
 exact⟨xs[r.toNat],by simp[_L.atI,e,hl],Gk hl⟩
theorem PX (ns:Ab Aj)(lo hi:Am Aj):∃ ms:Ab Aj,zW (ns.map D.int) lo hi=ms.map D.int∧ms.length≤ns.length:=by
 unfold zW;rw[← Ul,← List.map_take];exact⟨_,rfl,by simp;omega⟩
def eS:DG:=gTp 2 (qZ (gNm 2) (qZ (gNm 3) (xQ)))
def tF (S:DF):DS:=sIf (zT (dTr (qG 2 S (qA (qB 2) (qA (qB 3) (qC)))))) (qX (dC (.bl false))) (zD)
theorem N3 (S:DF):b__law_same S=qL (sIf (dTr (d2 gIs (qB 1) (dC .non))) (qX (d2 gIs (qB 0) (dC .non))) (zD)) (qL (sIf (y8 (dTr (qE zK (qA (qB 1) (qA (dC (.ty "tuple")) (qC))))) (dTr (qE zK (qA (qB 1) (qA (dC (.ty "list")) (qC)))))) (qL (sIf (y8 (dTr (d2 gNe (qE zK (qA (qB 0) (qA (dC (.ty "tuple")) (qC)))) (qE zK (qA (qB 1) (qA (dC (.ty "tuple")) (qC)))))) (dTr (d2 gNe (qE zK (qA (qB 0) (qA (dC (.ty "list")) (qC)))) (qE zK (qA (qB 1) (qA (dC (.ty "list")) (qC))))))) (qX (dC (.bl false))) (zD)) (qL (sIf (dTr (d2 gNe (qE zH (qA (qB 0) (qC))) (qE zH (qA (qB 1) (qC))))) (qX (dC (.bl false))) (zD)) (qL (yF (pY (qA (qB 0) (qA (qB 1) (qC)))) eS (tF S)) (qX (dC (.bl true)))))) (zD)) (qL (sIf (dTr (qE zK (qA (qB 1) (qA (dC (.ty "str")) (qC))))) (qX (vL (qE zK (qA (qB 0) (qA (dC (.ty "str")) (qC)))) (d2 gEq (qB 0) (qB 1)))) (zD)) (qX (vL (d2 gEq (qE zK (qA (qB 0) (qA (dC (.ty "bool")) (qC)))) (qE zK (qA (qB 1) (qA (dC (.ty "bool")) (qC))))) (vL (qE zK (qA (qB 0) (qA (dC (.ty "int")) (qC)))) (d2 gEq (qB 0) (qB 1))))))):=rfl
theorem WB (F:DF)(x y:Am D)(S:Sto):∀ (ws:Ab D),(∀ d∈ws,F [d,d] S=.ok (.bl true) S)→∀ u v,∃ u' v',wK eS (tF F) (yT ws ws) [x,y,u,v] S=.nx [x,y,u',v'] S:=by
 intro ws
 induction ws with
 |nil=>exact fun _ u v=>⟨u,v,rfl⟩
 |cons w ws ih =>
  intro h u v;obtain⟨u',v',e⟩:=ih (fun d hd=>h d (Bl _ hd)) (Aa w) (Aa w);refine⟨u',v',?_⟩;have hw:=h w (Cs ..);have hg:eS (.tup [w,w]) [x,y,u,v] S=.ok [x,y,Aa w,Aa w] S:=rfl;have hf:tF F [x,y,Aa w,Aa w] S=.nx [x,y,Aa w,Aa w] S:=by
   unfold tF;simp[qQ,uO,FS,OU,OT,qL,sIf,qX,zD,yM,zC,gNm,gSb,gTp,qZ,xQ,pG,IY,qAC,AS,dC,qB,d1,d2,qA,qC,qE,qG,dTr,zT,y8,z9,vL,QJ,dIf,xR,qT,zN,mY,dBm,dSl,qY,zE,wN,yW,Res.bind,Res.toS,_D.uN,_D.vV,OW,OV,EE,qAD,OY,OZ,qAA,OX,OS,OR,LX,gLt,gLe,gGt,gGe,_D.xA,rF,hw]
  have hz:yT (w::ws) (w::ws)=D.tup [w,w]::yT ws ws:=rfl;rw[hz];unfold wK;simp only[hg,Res.toS,hf];exact e
def okD:Ah→D→Prop
 |n+1,.tup xs=>∀ x∈xs,okD n x
 |n+1,.lst xs=>∀ x∈xs,okD n x
 |_,.int _=>Jz
 |_,.bl _=>Jz
 |_,.non=>Jz
 |_,_=>Fc
theorem SE:∀ (n:Ah) (d:D),okD n d→okD (n+1) d:=by
 intro n
 induction n with
 |zero =>
  intro d h;cases d with
  |int _=>trivial
  |bl _=>trivial
  |non=>trivial
  |_=>exact Ao h
 |succ n ih =>
  intro d h;cases d with
  |int _=>trivial
  |bl _=>trivial
  |non=>trivial
  |tup xs=>exact fun x hx=>ih x (h x hx)
  |lst xs=>exact fun x hx=>ih x (h x hx)
  |_=>exact Ao h
theorem WQ {n m:Ah}(h:n≤m){d:D}(k:okD n d):okD m d:=by
 induction h with
 |refl=>exact k
 |step _ ih=>exact SE _ _ ih
theorem E0 {t:DT}{f g:DS}{env:qD}{S S1:Sto}{b:As}{Q:D→Sto→Prop}(h:t env S=.ok b S1)(k:Rt ((if b then f else g) env S1) Q):Rt (sIf t f g env S) Q:=by
 obtain⟨d,S2,e2,q⟩:=k;refine⟨d,S2,?_,q⟩;unfold sIf;rw[h];cases b <;> exact e2
theorem u4 {f g:DS}{env:qD}{S:Sto}{Q:D→Sto→Prop}(h:Rt (f env S) Q):Rt (qL f g env S) Q:=by
 obtain⟨d,S2,e2,q⟩:=h;exact⟨d,S2,by unfold qL;rw[e2],q⟩
theorem kM {n:Ah}{g:DS}{ds:Ab D}{S S':Sto}{d:D}{env:qD}(hs:uO n ds=env)(h:Rt (g env S) fun d' S1=>d'=d∧S1=S'):qQ n g ds S=.ok d S':=by
 obtain⟨d',S1,e,rfl,rfl⟩:=h;exact yR hs e
theorem cZ (F:DF)(d:D)(ws:Ab D)(S:Sto)(h1:gIs d .non S=.ok (.bl false) S)(h2:y8 (dTr (qE zK (qA (qB 1) (qA (dC (.ty "tuple")) (qC))))) (dTr (qE zK (qA (qB 1) (qA (dC (.ty "list")) (qC))))) [Aa d,Aa d,none,none] S=.ok true S)
  (h3:y8 (dTr (d2 gNe (qE zK (qA (qB 0) (qA (dC (.ty "tuple")) (qC)))) (qE zK (qA (qB 1) (qA (dC (.ty "tuple")) (qC)))))) (dTr (d2 gNe (qE zK (qA (qB 0) (qA (dC (.ty "list")) (qC)))) (qE zK (qA (qB 1) (qA (dC (.ty "list")) (qC)))))) [Aa d,Aa d,none,none] S=.ok false S)
  (h4:zH [d] S=.ok (.int ws.length) S) (h5:ZU [d,d]=Aa (yT ws ws)) (ih:∀ x∈ws,F [x,x] S=.ok (.bl true) S):qQ 4 (b__law_same F) [d,d] S=.ok (.bl true) S:=by
 rw[N3];obtain⟨u',v',e⟩:=WB F (Aa d) (Aa d) S ws ih none none;have h1':dTr (d2 gIs (qB 1) (dC .non)) [Aa d,Aa d,none,none] S=.ok false S:=by
  show (Res.bind (gIs d .non S) fun d S1=>uN (w4 d S1) S1)=_;rw[h1];rfl
 have h4':dTr (d2 gNe (qE zH (qA (qB 0) (qC))) (qE zH (qA (qB 1) (qC)))) [Aa d,Aa d,none,none] S=.ok false S:=by
  show (Res.bind (Res.bind (zH [d] S) fun a S1=>Res.bind (zH [d] S1) fun b S2=>gNe a b S2) fun d S1=>uN (w4 d S1) S1)=_;rw[h4];show (Res.bind (Res.bind (zH [d] S) fun b S2=>gNe (.int ws.length) b S2) fun d S1=>uN (w4 d S1) S1)=_;rw[h4];show (Res.bind (gNe (.int ws.length) (.int ws.length) S) fun d S1=>uN (w4 d S1) S1)=_;rw[iL,Bu (fun h=>h rfl)];rfl
 have h5':pY (qA (qB 0) (qA (qB 1) (qC))) [Aa d,Aa d,none,none] S=.ok (yT ws ws) S:=by
  show _D.vV (ZU [d,d]) S=_;rw[h5];rfl
 exact kM rfl (qU (xK h1' (zU rfl (u4 (E0 h2 (qU (xK h3 (zU rfl (qU (xK h4' (zU rfl (qU (uI h5' (zU e (x9 (zI rfl ⟨rfl,rfl⟩))))))))))))))))
theorem a8 (F:DF)(i:Aj)(S:Sto):qQ 4 (b__law_same F) [.int i,.int i] S=.ok (.bl true) S:=by
 have h:qQ 4 (b__law_same F) [.int i,.int i] S=.ok (.bl (i == i)) S:=by kernel_rfl!
 rw[h,Ex]
theorem oK (F:DF)(b:As)(S:Sto):qQ 4 (b__law_same F) [.bl b,.bl b] S=.ok (.bl true) S:=by
 cases b <;> kernel_rfl!
theorem a9 (F:DF)(S:Sto):qQ 4 (b__law_same F) [.non,.non] S=.ok (.bl true) S:=by kernel_rfl!
theorem sO:∀ (n:Ah) (d:D) (S:Sto),okD n d→pH (n+1) [d,d] S=.ok (.bl true) S:=by
 intro n
 induction n with
 |zero =>
  intro d S h;cases d with
  |int i=>exact a8 _ i S
  |bl b=>exact oK _ b S
  |non=>exact a9 _ S
  |_=>exact Ao h
 |succ n ih =>
  intro d S h;cases d with
  |tup ws=>exact cZ (pH (n+1)) (.tup ws) ws S rfl (by kernel_rfl!) (by kernel_rfl!) rfl rfl fun x hx=>ih x S (h x hx)
  |lst ws=>exact cZ (pH (n+1)) (.lst ws) ws S rfl (by kernel_rfl!) (by kernel_rfl!) rfl rfl fun x hx=>ih x S (h x hx)
  |int i=>exact a8 _ i S
  |bl b=>exact oK _ b S
  |non=>exact a9 _ S
  |_=>exact Ao h
theorem fM (S:Sto):∀ (n m:Ah) (d:D),okD n d→n≤m→v9 m S d=Aa d:=by
 have mp:∀ (f:D→Am D) (xs:Ab D),(∀ x∈xs,f x=Aa x)→mapO f xs=Aa xs:=by
  intro f xs
  induction xs with
  |nil=>exact fun _=>rfl
  |cons x xs ih =>
   intro h;have h1:=h x (Cs ..);have h2:=ih fun y hy=>h y (Bl _ hy);simp[mapO,h1,h2]
 intro n
 induction n with
 |zero =>
  intro m d h _;cases d <;> cases m <;> first|rfl|exact Ao h
 |succ n ih =>
  intro m d h hm;obtain⟨m,rfl⟩:∃ k,m=k+1:=⟨m-1,by omega⟩
  cases d with
  |tup ws =>
   show (mapO (v9 m S) ws).map D.tup=_;rw[mp _ ws fun x hx=>ih m x (h x hx) om];rfl
  |lst ws =>
   show (mapO (v9 m S) ws).map D.lst=_;rw[mp _ ws fun x hx=>ih m x (h x hx) om];rfl
  |int i=>rfl
  |bl b=>rfl
  |non=>rfl
  |_=>exact Ao h
theorem MK (S:Sto)(j n:Ah)(xs:Ab D)(h:S[j]? = Aa (.lst xs))(hx:okD n (.lst xs))(hn:n≤20):v9 20 S (.loc j)=Aa (.lst xs):=by
 have:=fM S n 20 (.lst xs) hx hn;show (match S[j]? with|some (.lst xs)=>(mapO (v9 19 S) xs).map D.lst|_=>none)=_
 rw[h];exact this
theorem sD (S:Sto)(a b d:D)(n:Ah)(ha:v9 20 S a=Aa d)(hb:v9 20 S b=Aa d)(hd:okD n d)(hn:n+1=6):uG S__law_same [a,b] S=.ok (.bl true) S:=by
 have h:=sO n d (bV S) hd;rw[hn] at h;unfold uG;rw[uU];simp only[mapO,VY,ha,hb];rw[h];rfl
theorem UN {cl:Ab Af}{C B:Af}(hC:C∈cl)(hB:B∈cl)(S:Sto):xB cl [.exn (.ref C),.obj B] S=.ok (.bl (C == B)) S:=by
 show (if (cl.contains C&&cl.contains B)=true then Res.ok (D.bl (C == B)) S else .bad)=_
 rw[Ey.mpr hC,Ey.mpr hB];rfl
theorem F0 {cl:Ab Af}{C:Af}(hC:C∈cl)(S:Sto):xB cl [.exn (.ref C),.ty "ValueError"] S=.ok (.bl true) S:=by
 show (if (cl.contains C&&(("ValueError" : Du) == "ValueError"))=true then Res.ok (D.bl true) S else .bad)=_
 rw[Ey.mpr hC];rfl
theorem xJ {cl:Ab Af}(nd:cl.Nodup){i j:Ah}{a b:Af}(ha:cl[i]? = Aa a)(hb:cl[j]? = Aa b)(h:i≠j):(a == b)=false:=by
 rw[Ng];rintro rfl;obtain⟨h1,e1⟩:=Ba.mp ha;obtain⟨h2,e2⟩:=Ba.mp hb;exact h ((Qh nd).mp (e1.trans e2.symm))
theorem xC {cl:Ab Af}{env:qD}{S:Sto}{C B:Af}{b:As}(h0:env[0]? = Aa (Aa (.exn (.ref C))))(hC:C∈cl)(hB:B∈cl)(e:(C == B)=b):qE (xB cl) (qA (qB 0) (qA (dC (.obj B)) (qC))) env S=.ok (.bl b) S:=by
 unfold qE qA qB;rw[h0];exact(UN hC hB S).trans (e▸rfl)
theorem G0 {cl:Ab Af}{env:qD}{S:Sto}{C:Af}(h0:env[0]? = Aa (Aa (.exn (.ref C))))(hC:C∈cl):qE (xB cl) (qA (qB 0) (qA (dC (.ty "ValueError")) (qC))) env S=.ok (.bl true) S:=by
 unfold qE qA qB;rw[h0];exact F0 hC S
theorem wQ {f:DE}{g:DA}{env:qD}{S:Sto}{a:D}{as:Ab D}(h:f env S=.ok a S)(k:g env S=.ok as S):qA f g env S=.ok (a::as) S:=by
 unfold qA;rw[h,Res.bind_ok,k];rfl
theorem l7 {g:DA}{env:qD}{S:Sto}{as:Ab D}(k:g env S=.ok as S)(h:as.length≤lim):zN g env S=.ok (.lst as) S:=by
 unfold zN;rw[k,Res.bind_ok,AT h]
theorem Z3 {o:G2}{f g:DE}{env:qD}{S:Sto}{a b:D}(h1:f env S=.ok a S)(h2:g env S=.ok b S):d2 o f g env S=o a b S:=by
 unfold d2;rw[h1,Res.bind_ok,h2];rfl
theorem d9 {f:DE}{env:qD}{S:Sto}{b:As}(h:f env S=.ok (.bl b) S):dTr f env S=.ok b S:=by
 unfold dTr;rw[h];rfl
theorem GD {f:DT}{env:qD}{S:Sto}{b:As}(h:f env S=.ok b S):zT f env S=.ok (!b) S:=by
 unfold zT;rw[h];rfl
theorem GJ {f g:DT}{env:qD}{S:Sto}(h:f env S=.ok false S)(k:g env S=.ok false S):y8 f g env S=.ok false S:=by
 unfold y8;rw[h];exact k
theorem lS (c:Cl)(nd:(wH c).Nodup)(S:Sto):S__law_kind_of c [.exn (.ref c.NoPoint)] S=.ok (.str "point") S:=by
 have mN:c.NoPoint∈wH c:=.head _;rw[vK];refine kM (env:=[Aa (.exn (.ref c.NoPoint)),none,none]) rfl ?_;refine qU (xY (zI (l7 (wQ (xC (env:=[Aa (.exn (.ref c.NoPoint)),none,none]) rfl mN (.head _) (Ex _)) (wQ (xC (env:=[Aa (.exn (.ref c.NoPoint)),none,none]) rfl mN (.tail _ (.head _)) (xJ (i:=0) (j:=1) nd rfl rfl (by decide))) (wQ (xC (env:=[Aa (.exn (.ref c.NoPoint)),none,none]) rfl mN (.tail _ (.tail _ (.head _))) (xJ (i:=0) (j:=2) nd rfl rfl (by decide))) (wQ (xC (env:=[Aa (.exn (.ref c.NoPoint)),none,none]) rfl mN (.tail _ (.tail _ (.tail _ (.head _)))) (xJ (i:=0) (j:=3) nd rfl rfl (by decide))) rfl)))) (by decide)) ?_))
 refine qU (xY (zI ((Z3 (a:=.lst [.bl true,.bl false,.bl false,.bl false]) rfl (l7 (wQ (xC (env:=[Aa (.exn (.ref c.NoPoint)),Aa (.lst [.bl true,.bl false,.bl false,.bl false]),none]) rfl mN (.tail _ (.tail _ (.tail _ (.tail _ (.head _))))) (xJ (i:=0) (j:=4) nd rfl rfl (by decide))) (wQ (xC (env:=[Aa (.exn (.ref c.NoPoint)),Aa (.lst [.bl true,.bl false,.bl false,.bl false]),none]) rfl mN (.tail _ (.tail _ (.tail _ (.tail _ (.tail _ (.head _)))))) (xJ (i:=0) (j:=5) nd rfl rfl (by decide))) (wQ (xC (env:=[Aa (.exn (.ref c.NoPoint)),Aa (.lst [.bl true,.bl false,.bl false,.bl false]),none]) rfl mN (.tail _ (.tail _ (.tail _ (.tail _ (.tail _ (.tail _ (.head _))))))) (xJ (i:=0) (j:=6) nd rfl rfl (by decide))) (wQ (xC (env:=[Aa (.exn (.ref c.NoPoint)),Aa (.lst [.bl true,.bl false,.bl false,.bl false]),none]) rfl mN (.tail _ (.tail _ (.tail _ (.tail _ (.tail _ (.tail _ (.tail _ (.head _)))))))) (xJ (i:=0) (j:=7) nd rfl rfl (by decide))) rfl)))) (by decide))).trans (c:=.ok (.lst [.bl true,.bl false,.bl false,.bl false,.bl false,.bl false,.bl false,.bl false]) S) (by kernel_rfl!)) ?_))
 refine qU (xY (zI ((Z3 (a:=.lst [.bl true,.bl false,.bl false,.bl false,.bl false,.bl false,.bl false,.bl false]) rfl (l7 (wQ (xC (env:=[Aa (.exn (.ref c.NoPoint)),Aa (.lst [.bl true,.bl false,.bl false,.bl false,.bl false,.bl false,.bl false,.bl false]),none]) rfl mN (.tail _ (.tail _ (.tail _ (.tail _ (.tail _ (.tail _ (.tail _ (.tail _ (.head _))))))))) (xJ (i:=0) (j:=8) nd rfl rfl (by decide))) (wQ (xC (env:=[Aa (.exn (.ref c.NoPoint)),Aa (.lst [.bl true,.bl false,.bl false,.bl false,.bl false,.bl false,.bl false,.bl false]),none]) rfl mN (.tail _ (.tail _ (.tail _ (.tail _ (.tail _ (.tail _ (.tail _ (.tail _ (.tail _ (.head _)))))))))) (xJ (i:=0) (j:=9) nd rfl rfl (by decide))) (wQ (xC (env:=[Aa (.exn (.ref c.NoPoint)),Aa (.lst [.bl true,.bl false,.bl false,.bl false,.bl false,.bl false,.bl false,.bl false]),none]) rfl mN (.tail _ (.tail _ (.tail _ (.tail _ (.tail _ (.tail _ (.tail _ (.tail _ (.tail _ (.tail _ (.head _))))))))))) (xJ (i:=0) (j:=10) nd rfl rfl (by decide))) rfl))) (by decide))).trans (c:=.ok (.lst [.bl true,.bl false,.bl false,.bl false,.bl false,.bl false,.bl false,.bl false,.bl false,.bl false,.bl false]) S) (by kernel_rfl!)) ?_))
 refine qU (xK (b:=false) (S1:=S) (GJ (GD (d9 (G0 (env:=[Aa (.exn (.ref c.NoPoint)),Aa (.lst [.bl true,.bl false,.bl false,.bl false,.bl false,.bl false,.bl false,.bl false,.bl false,.bl false,.bl false]),none]) rfl mN))) (by kernel_rfl!)) (zU (env:=[Aa (.exn (.ref c.NoPoint)),Aa (.lst [.bl true,.bl false,.bl false,.bl false,.bl false,.bl false,.bl false,.bl false,.bl false,.bl false,.bl false]),none]) (S:=S) rfl ?_))
 refine qU (xK (d9 (xC (env:=[Aa (.exn (.ref c.NoPoint)),Aa (.lst [.bl true,.bl false,.bl false,.bl false,.bl false,.bl false,.bl false,.bl false,.bl false,.bl false,.bl false]),none]) rfl mN (.tail _ (.tail _ (.tail _ (.tail _ (.tail _ (.tail _ (.tail _ (.tail _ (.tail _ (.head _)))))))))) (xJ (i:=0) (j:=9) nd rfl rfl (by decide)))) (zU (env:=[Aa (.exn (.ref c.NoPoint)),Aa (.lst [.bl true,.bl false,.bl false,.bl false,.bl false,.bl false,.bl false,.bl false,.bl false,.bl false,.bl false]),none]) (S:=S) rfl ?_))
 refine qU (xK (d9 (xC (env:=[Aa (.exn (.ref c.NoPoint)),Aa (.lst [.bl true,.bl false,.bl false,.bl false,.bl false,.bl false,.bl false,.bl false,.bl false,.bl false,.bl false]),none]) rfl mN (.tail _ (.tail _ (.tail _ (.tail _ (.tail _ (.tail _ (.tail _ (.tail _ (.tail _ (.tail _ (.head _))))))))))) (xJ (i:=0) (j:=10) nd rfl rfl (by decide)))) (zU (env:=[Aa (.exn (.ref c.NoPoint)),Aa (.lst [.bl true,.bl false,.bl false,.bl false,.bl false,.bl false,.bl false,.bl false,.bl false,.bl false,.bl false]),none]) (S:=S) rfl ?_))
 exact GR (d:=.str "point") (S:=S) (by kernel_rfl!) ⟨rfl,rfl⟩
theorem cT (c:Cl)(nd:(wH c).Nodup)(S:Sto):S__law_kind_of c [.exn (.ref c.NoLot)] S=.ok (.str "lot") S:=by
 have mN:c.NoLot∈wH c:=.tail _ (.head _);rw[vK];refine kM (env:=[Aa (.exn (.ref c.NoLot)),none,none]) rfl ?_;refine qU (xY (zI (l7 (wQ (xC (env:=[Aa (.exn (.ref c.NoLot)),none,none]) rfl mN (.head _) (xJ (i:=1) (j:=0) nd rfl rfl (by decide))) (wQ (xC (env:=[Aa (.exn (.ref c.NoLot)),none,none]) rfl mN (.tail _ (.head _)) (Ex _)) (wQ (xC (env:=[Aa (.exn (.ref c.NoLot)),none,none]) rfl mN (.tail _ (.tail _ (.head _))) (xJ (i:=1) (j:=2) nd rfl rfl (by decide))) (wQ (xC (env:=[Aa (.exn (.ref c.NoLot)),none,none]) rfl mN (.tail _ (.tail _ (.tail _ (.head _)))) (xJ (i:=1) (j:=3) nd rfl rfl (by decide))) rfl)))) (by decide)) ?_))
 refine qU (xY (zI ((Z3 (a:=.lst [.bl false,.bl true,.bl false,.bl false]) rfl (l7 (wQ (xC (env:=[Aa (.exn (.ref c.NoLot)),Aa (.lst [.bl false,.bl true,.bl false,.bl false]),none]) rfl mN (.tail _ (.tail _ (.tail _ (.tail _ (.head _))))) (xJ (i:=1) (j:=4) nd rfl rfl (by decide))) (wQ (xC (env:=[Aa (.exn (.ref c.NoLot)),Aa (.lst [.bl false,.bl true,.bl false,.bl false]),none]) rfl mN (.tail _ (.tail _ (.tail _ (.tail _ (.tail _ (.head _)))))) (xJ (i:=1) (j:=5) nd rfl rfl (by decide))) (wQ (xC (env:=[Aa (.exn (.ref c.NoLot)),Aa (.lst [.bl false,.bl true,.bl false,.bl false]),none]) rfl mN (.tail _ (.tail _ (.tail _ (.tail _ (.tail _ (.tail _ (.head _))))))) (xJ (i:=1) (j:=6) nd rfl rfl (by decide))) (wQ (xC (env:=[Aa (.exn (.ref c.NoLot)),Aa (.lst [.bl false,.bl true,.bl false,.bl false]),none]) rfl mN (.tail _ (.tail _ (.tail _ (.tail _ (.tail _ (.tail _ (.tail _ (.head _)))))))) (xJ (i:=1) (j:=7) nd rfl rfl (by decide))) rfl)))) (by decide))).trans (c:=.ok (.lst [.bl false,.bl true,.bl false,.bl false,.bl false,.bl false,.bl false,.bl false]) S) (by kernel_rfl!)) ?_))
 refine qU (xY (zI ((Z3 (a:=.lst [.bl false,.bl true,.bl false,.bl false,.bl false,.bl false,.bl false,.bl false]) rfl (l7 (wQ (xC (env:=[Aa (.exn (.ref c.NoLot)),Aa (.lst [.bl false,.bl true,.bl false,.bl false,.bl false,.bl false,.bl false,.bl false]),none]) rfl mN (.tail _ (.tail _ (.tail _ (.tail _ (.tail _ (.tail _ (.tail _ (.tail _ (.head _))))))))) (xJ (i:=1) (j:=8) nd rfl rfl (by decide))) (wQ (xC (env:=[Aa (.exn (.ref c.NoLot)),Aa (.lst [.bl false,.bl true,.bl false,.bl false,.bl false,.bl false,.bl false,.bl false]),none]) rfl mN (.tail _ (.tail _ (.tail _ (.tail _ (.tail _ (.tail _ (.tail _ (.tail _ (.tail _ (.head _)))))))))) (xJ (i:=1) (j:=9) nd rfl rfl (by decide))) (wQ (xC (env:=[Aa (.exn (.ref c.NoLot)),Aa (.lst [.bl false,.bl true,.bl false,.bl false,.bl false,.bl false,.bl false,.bl false]),none]) rfl mN (.tail _ (.tail _ (.tail _ (.tail _ (.tail _ (.tail _ (.tail _ (.tail _ (.tail _ (.tail _ (.head _))))))))))) (xJ (i:=1) (j:=10) nd rfl rfl (by decide))) rfl))) (by decide))).trans (c:=.ok (.lst [.bl false,.bl true,.bl false,.bl false,.bl false,.bl false,.bl false,.bl false,.bl false,.bl false,.bl false]) S) (by kernel_rfl!)) ?_))
 refine qU (xK (b:=false) (S1:=S) (GJ (GD (d9 (G0 (env:=[Aa (.exn (.ref c.NoLot)),Aa (.lst [.bl false,.bl true,.bl false,.bl false,.bl false,.bl false,.bl false,.bl false,.bl false,.bl false,.bl false]),none]) rfl mN))) (by kernel_rfl!)) (zU (env:=[Aa (.exn (.ref c.NoLot)),Aa (.lst [.bl false,.bl true,.bl false,.bl false,.bl false,.bl false,.bl false,.bl false,.bl false,.bl false,.bl false]),none]) (S:=S) rfl ?_))
 refine qU (xK (d9 (xC (env:=[Aa (.exn (.ref c.NoLot)),Aa (.lst [.bl false,.bl true,.bl false,.bl false,.bl false,.bl false,.bl false,.bl false,.bl false,.bl false,.bl false]),none]) rfl mN (.tail _ (.tail _ (.tail _ (.tail _ (.tail _ (.tail _ (.tail _ (.tail _ (.tail _ (.head _)))))))))) (xJ (i:=1) (j:=9) nd rfl rfl (by decide)))) (zU (env:=[Aa (.exn (.ref c.NoLot)),Aa (.lst [.bl false,.bl true,.bl false,.bl false,.bl false,.bl false,.bl false,.bl false,.bl false,.bl false,.bl false]),none]) (S:=S) rfl ?_))
 refine qU (xK (d9 (xC (env:=[Aa (.exn (.ref c.NoLot)),Aa (.lst [.bl false,.bl true,.bl false,.bl false,.bl false,.bl false,.bl false,.bl false,.bl false,.bl false,.bl false]),none]) rfl mN (.tail _ (.tail _ (.tail _ (.tail _ (.tail _ (.tail _ (.tail _ (.tail _ (.tail _ (.tail _ (.head _))))))))))) (xJ (i:=1) (j:=10) nd rfl rfl (by decide)))) (zU (env:=[Aa (.exn (.ref c.NoLot)),Aa (.lst [.bl false,.bl true,.bl false,.bl false,.bl false,.bl false,.bl false,.bl false,.bl false,.bl false,.bl false]),none]) (S:=S) rfl ?_))
 exact GR (d:=.str "lot") (S:=S) (by kernel_rfl!) ⟨rfl,rfl⟩
def Pn (d:D):Prop:=∃ p,pyD d=Aa p
theorem WW {d:D}(h:Pn d):(∃ i,d=.int i)∨yV d:=by
 obtain⟨p,h⟩:=h;cases d with
 |int i=>exact .inl ⟨i,rfl⟩
 |non=>exact .inr DW
 |bl b=>exact .inr (HY b)
 |str x=>exact .inr (DX x)
 |tup x=>exact .inr (DY x)
 |lst x=>exact .inr (DV x)
 |dct0=>exact .inr DU
 |_=>simp[pyD] at h
theorem pns {xs:Ab D}:∀ {ps:Ab PyData},kJ xs=Aa ps→∀ x∈xs,Pn x:=by
 induction xs with
 |nil=>intro ps _ x hx;cases hx
 |cons d ds ih =>
  intro ps h x hx;simp only[kJ] at h;obtain⟨p,h1,h2⟩:=EQ.mp h;obtain⟨ps',h3,_⟩:=Ep.mp h2;rcases Av.mp hx with rfl|hx
  ·exact⟨p,h1⟩
  ·exact ih h3 x hx
theorem WX {xs:Ab D}(h:Pn (.tup xs)):∀ x∈xs,Pn x:=by
 obtain⟨p,h⟩:=h;simp only[pyD] at h;obtain⟨ps,h1,_⟩:=Ep.mp h;exact pns h1
theorem ZE {d:D}(h:Pn d):(∃ xs,d=.tup xs)∨∀ S,zT (dTr (qE zK (qA (qB 0) (qA (dC (.ty "tuple")) (qC))))) [Aa d] S=.ok true S:=by
 have one:∀ (a:Du),(∀ S,tyD d S=Aa a)→w6 a "tuple" = false→∀ S,zT (dTr (qE zK (qA (qB 0) (qA (dC (.ty "tuple")) (qC))))) [Aa d] S=.ok true S:=fun a h1 h2 S=>by
  have:=jD (w9 ((X1 (f1:=qB 0) (f2:=dC (.ty "tuple")) (env:=[Aa d]) (S:=S) rfl rfl).trans (gL d "tuple" a S jY.2.2.1 (h1 S))));rw[h2] at this;exact this
 obtain⟨p,h⟩:=h;cases d with
 |tup xs=>exact .inl ⟨xs,rfl⟩
 |int i=>exact .inr (one "int" (fun _=>rfl) (kd))
 |non=>exact .inr (one "NoneType" (fun _=>rfl) (kd))
 |bl b=>exact .inr (one "bool" (fun _=>rfl) (kd))
 |str x=>exact .inr (one "str" (fun _=>rfl) (kd))
 |lst x=>exact .inr (one "list" (fun _=>rfl) (kd))
 |dct0=>exact .inr (one "dict" (fun _=>rfl) (kd))
 |_=>simp[pyD] at h
theorem j0 (xs:Ab D)(S:Sto):zT (dTr (qE zK (qA (qB 0) (qA (dC (.ty "tuple")) (qC))))) [Aa (.tup xs)] S=.ok false S:=by
 have:=jD (w9 ((X1 (f1:=qB 0) (f2:=dC (.ty "tuple")) (env:=[Aa (.tup xs)]) (S:=S) rfl rfl).trans (gL (.tup xs) "tuple" "tuple" S jY.2.2.1 rfl)));rw[MW.2.2.2.2.2.1] at this;exact this
def isI:D→As
 |.int i=>decide (-1000≤i∧i≤1000)
 |_=>false
def qW:D→As
 |.tup [a,b]=>isI a&&isI b
 |_=>false
theorem W0 {d:D}(h:yV d):isI d=false:=by
 cases d with
 |int i =>
  rcases h [] with h|h|h|h|h|h <;> (rw[EE] at h;exact absurd (Cp h) (by decide))
 |_=>rfl
theorem OA (x:D)(S:Sto)(h:Pn x):S_is_within [x,.int (-1000),.int 1000] S=.ok (.bl (isI x)) S:=by
 rcases WW h with⟨i,rfl⟩|h
 ·exact JX i _ _ S
 ·rw[W0 h];exact aY x _ _ S h
theorem aX (i:Aj)(S:Sto):S__law_whole [.int i] S=.ok (.bl true) S:=by
 rw[uA]
 kernel_rfl!
theorem ZG (d:D)(S:Sto)(h:yV d):S__law_whole [d] S=.ok (.bl false) S:=by
 rw[uA];unfold b__law_whole;rcases h S with h|h|h|h|h|h <;> simp[qQ,uO,FS,OU,OT,qL,sIf,qX,zD,yM,zC,gNm,gSb,gTp,qZ,xQ,pG,IY,qAC,AS,dC,qB,d1,d2,qA,qC,qE,qG,dTr,zT,y8,z9,vL,QJ,dIf,xR,qT,zN,mY,dBm,dSl,qY,zE,wN,yW,Res.bind,Res.toS,_D.uN,_D.vV,OW,OV,EE,qAD,OY,OZ,qAA,OX,OS,OR,LX,gLt,gLe,gGt,gGe,_D.xA,rF,gL _ _ _ _ jY.1 h,gL _ _ _ _ jY.2.1 h,w6]
theorem VL (i:Aj)(S:Sto):xR gLe gLe (d1 yJ (dC (.int 1000))) (qB 0) (dC (.int 1000)) [Aa (.int i)] S=.ok (.bl (decide (-1000≤i∧i≤1000))) S:=by
 have e:d1 yJ (dC (.int 1000)) [Aa (.int i)] S=.ok (.int (-1000)) S:=rfl;unfold xR;rw[e];simp[qQ,uO,FS,OU,OT,qL,sIf,qX,zD,yM,zC,gNm,gSb,gTp,qZ,xQ,pG,IY,qAC,AS,dC,qB,d1,d2,qA,qC,qE,qG,dTr,zT,y8,z9,vL,QJ,dIf,xR,qT,zN,mY,dBm,dSl,qY,zE,wN,yW,Res.bind,Res.toS,_D.uN,_D.vV,OW,OV,EE,qAD,OY,OZ,qAA,OX,OS,OR,LX,gLt,gLe,gGt,gGe,_D.xA,rF,Res.bind];by_cases h:(-1000:Aj)≤i <;> simp[h]
theorem CW (x:D)(S:Sto)(h:Pn x):vL (qG 1 (okO S__law_whole) (qA (qB 0) (qC))) (xR gLe gLe (d1 yJ (dC (.int 1000))) (qB 0) (dC (.int 1000))) [Aa x] S=.ok (.bl (isI x)) S:=by
 rcases WW h with⟨i,rfl⟩|h
 ·exact rT (a:=true) ((j9 (f1:=qB 0) rfl).trans (uJ (aX i S))) (fun _=>VL i S) (by intro z;cases z)
 ·rw[W0 h]
  exact rT (a:=false) (b:=false) ((j9 (f1:=qB 0) rfl).trans (uJ (ZG x S h))) (by intro z;cases z) (fun _=>rfl)
theorem sI (fe:DE)(S:Sto)(hfe:∀ x,Pn x→fe [Aa x] S=.ok (.bl (isI x)) S)(d:D)(h:Pn d) :
  Rt (qL (sIf (y8 (zT (dTr (qE zK (qA (qB 0) (qA (dC (.ty "tuple")) (qC)))))) (dTr (d2 gNe (qE zH (qA (qB 0) (qC))) (dC (.int 2))))) (qX (dC (.bl false))) (zD)) (qX (qE (uX false) (qA (qO false [none] (dIt (qB 0)) (gNm 0) (z9) (qV fe)) (qC)))) [Aa d] S) fun d' S1=>d'=.bl (qW d)∧S1=S:=by
 rcases ZE h with⟨xs,rfl⟩|hn
 ·have hl:dTr (d2 gNe (qE zH (qA (qB 0) (qC))) (dC (.int 2))) [Aa (.tup xs)] S=.ok (decide ((xs.length:Aj)≠2)) S:=w9 ((qM ((wF (f1:=qB 0) rfl).trans (j1 xs S)) rfl).trans (iL _ _ _))
  have ht:=jQ (j0 xs S) (fun _=>hl) (by intro z;cases z)
  rw[Mf] at ht;by_cases h2:xs.length=2
  ·rw[Bu om] at ht
   refine qU (xK ht (zU (S:=S) rfl (x9 (zI ?_ (d:=.bl (qW (.tup xs))) (S:=S) ⟨rfl,rfl⟩))));have hc:=eE (cap:=[none]) (g:=gNm 0) (t:=z9) (fe:=fe) (fi:=dIt (qB 0)) (env:=[Aa (.tup xs)]) (S:=S) (o:=none) (items:=xs) rfl trivial (fun _=>true) (fun x=>.bl (isI x)) (fun env=>∃ a,env=[a]) ⟨none,rfl⟩ (by rw[h2];decide)
    (fun x hx env ⟨a,q⟩=>by subst q;exact⟨[Aa x],rfl,⟨_,rfl⟩,rfl,fun _=>hfe x (WX h x hx)⟩)
   rw[wX] at hc;rw[rS (p:=isI) hc]
   match xs,h2 with
   |[a,b],_=>simp[qW]
  ·rw[Cn om] at ht
   refine u4 (jE ht (x9 (zI (d:=.bl false) (S:=S) rfl ⟨?_,rfl⟩)))
   match xs,h2 with
   |[],_=>rfl
   |[a],_=>rfl
   |[a,b],h=>exact absurd rfl h
   |a::b::c::r,_=>rfl
 ·have ht:=jQ (b:=false) (g:=dTr (d2 gNe (qE zH (qA (qB 0) (qC))) (dC (.int 2)))) (hn S) (by intro z;cases z) (fun _=>rfl)
  refine u4 (jE ht (x9 (zI (d:=.bl false) (S:=S) rfl ⟨?_,rfl⟩)))
  congr 1
  unfold qW
  split
  ·have:=hn S
   rw[j0] at this;cases this
  ·rfl
theorem nJ (d:D)(S:Sto)(h:Pn d):S_is_point [d] S=.ok (.bl (qW d)) S:=by
 rw[pM];exact kM (env:=[Aa d]) rfl (sI _ S (fun x hx=>(kX (f1:=qB 0) rfl rfl rfl).trans (uJ (OA x S hx))) d h)
theorem aW (d:D)(S:Sto)(h:Pn d):S__law_is_point [d] S=.ok (.bl (qW d)) S:=by
 rw[jB];exact kM (env:=[Aa d]) rfl (sI _ S (fun x hx=>CW x S hx) d h)
def upB (ks:Ab (Ab Aj)):As:=(ks.zip (ks.drop 1)).all fun p=>_H.lexLt p.1 p.2
def xW:D→As
 |.tup xs=>decide (1≤xs.length∧xs.length≤40)&&xs.all qW&&(match vR xs with|some ks=>upB ks|none=>false)
 |_=>false
set_option tactic.hygienic true in
theorem nF:∀ (xs:Ab D),xs.all qW=true→∃ ks:Ab (Ab Aj),xs=ks.map tpD
 |[],_=>⟨[],rfl⟩
 |d::ds,h=>by
  rw[Mk,Ay] at h;obtain⟨ks,rfl⟩:=nF ds h.2;have h1:=h.1;unfold qW at h1
  split at h1
  ·rename_i a b
   rw[Ay] at h1;cases a with
   |int x =>
    cases b with
    |int y=>exact⟨[x,y]::ks,rfl⟩
    |_=>simp[isI] at h1
   |_=>simp[isI] at h1
  ·cases h1
theorem HW (a b:Ab Aj)(S:Sto):mB (tpD a) (tpD b) S=.ok (.bl (_H.lexLt a b)) S:=by
 unfold mB tpD;simp only[b8]
theorem bM:∀ (ks:Ab (Ab Aj)),upB ks=true↔ks.Pairwise (fun a b=>_H.lexLt a b=true)
 |[]=>by simp[upB]
 |[a]=>by simp[upB]
 |a::b::r=>by
  have ih:=bM (b::r);have e:upB (a::b::r)=(_H.lexLt a b&&upB (b::r)):=by simp[upB]
  rw[e,Ay,ih,Cz (a:=a)];constructor
  ·rintro⟨h1,h2⟩
   refine⟨fun x hx=>?_,h2⟩;rcases Av.mp hx with rfl|hx
   ·exact h1
   ·exact _S.xU.tr h1 ((Cz.mp h2).1 x hx)
  ·rintro⟨h1,h2⟩
   exact⟨h1 b (by simp),h2⟩
theorem ET (ks ms:Ab (Ab Aj)):yT (ks.map tpD) (ms.map tpD)=(ks.zip ms).map fun p=>D.tup [tpD p.1,tpD p.2]:=by
 unfold yT
 induction ks generalizing ms with
 |nil=>rfl
 |cons k ks ih =>
  cases ms with
  |nil=>rfl
  |cons m ms=>exact congrArg (_::·) (ih ms)
theorem EX (xs:Ab D):zW xs (Aa 1) none=xs.drop 1:=by
 unfold zW;have h1:_H.sIx xs.length 0 (Aa 1)=min 1 xs.length:=rfl;have h2:_H.sIx xs.length xs.length none=xs.length:=rfl;rw[h1,h2];cases xs with
 |nil=>rfl
 |cons x r=>simp
theorem aU (ks:Ab (Ab Aj))(S:Sto)(hl:ks.length≤lim):S_is_rising [.tup (ks.map tpD)] S=.ok (.bl (upB ks)) S:=by
 rw[gJ];refine lZ (env:=[Aa (.tup (ks.map tpD))]) rfl ?_;have hz:y0 (pY (qA (qB 0) (qA (dSl (qB 0) (qY (dC (.int 1))) (zE)) (qC)))) [Aa (.tup (ks.map tpD))] S=.ok (none,(ks.zip (ks.drop 1)).map fun p=>D.tup [tpD p.1,tpD p.2]) S:=by
  have hs:dSl (qB 0) (qY (dC (.int 1))) (zE) [Aa (.tup (ks.map tpD))] S=.ok (.tup ((ks.drop 1).map tpD)) S:=by
   have:gSl (.tup (ks.map tpD)) (Aa 1) none S=.ok (.tup ((ks.drop 1).map tpD)) S:=by
    show Res.ok (D.tup (zW (ks.map tpD) (Aa 1) none)) S=_;rw[EX,Ul]
   exact this
  unfold y0 pY;rw[zM (f1:=qB 0) rfl hs];show Res.ok (none,yT (ks.map tpD) ((ks.drop 1).map tpD)) S=_;rw[ET]
 have hc:=vB (enc:=fun p:Ab Aj × Ab Aj=>D.tup [tpD p.1,tpD p.2]) (cap:=[none,none]) (g:=gTp 2 (qZ (gNm 0) (qZ (gNm 1) (xQ)))) (t:=z9) (fe:=d2 mB (qB 0) (qB 1)) hz trivial (fun _=>true) (fun p=>.bl (_H.lexLt p.1 p.2)) (fun env=>∃ a b,env=[a,b]) ⟨none,none,rfl⟩ (by simp;omega)
  (fun p _ env ⟨a,b,q⟩=>by
   subst q;exact⟨[Aa (tpD p.1),Aa (tpD p.2)],rfl,⟨_,_,rfl⟩,rfl,fun _=>(qM (a:=tpD p.1) (b:=tpD p.2) rfl rfl).trans (HW _ _ _)⟩)
 rw[wX] at hc;exact rS (p:=fun p:Ab Aj × Ab Aj=>_H.lexLt p.1 p.2) hc
theorem c0 (xs:Ab D)(S:Sto)(f:DE)(hf:f [Aa (.tup xs)] S=.ok (.int 40) S):zT (dTr (xR gLe gLe (dC (.int 1)) (qE zH (qA (qB 0) (qC))) f)) [Aa (.tup xs)] S=.ok (!decide (1≤xs.length∧xs.length≤40)) S:=by
 have hl:qE zH (qA (qB 0) (qC)) [Aa (.tup xs)] S=.ok (.int xs.length) S:=(wF (f1:=qB 0) rfl).trans (j1 xs S);refine jD (w9 ?_);unfold xR;rw[show dC (.int 1) [Aa (.tup xs)] S=.ok (.int 1) S from rfl]
 simp only[Res.bind];rw[hl];simp[qQ,uO,FS,OU,OT,qL,sIf,qX,zD,yM,zC,gNm,gSb,gTp,qZ,xQ,pG,IY,qAC,AS,dC,qB,d1,d2,qA,qC,qE,qG,dTr,zT,y8,z9,vL,QJ,dIf,xR,qT,zN,mY,dBm,dSl,qY,zE,wN,yW,Res.bind,Res.toS,_D.uN,_D.vV,OW,OV,EE,qAD,OY,OZ,qAA,OX,OS,OR,LX,gLt,gLe,gGt,gGe,_D.xA,rF,hf];by_cases h:1≤xs.length
 ·have h':(1:Aj)≤(xs.length:Aj):=by omega
  simp[h,h'];omega
 ·have h':¬ (1:Aj)≤(xs.length:Aj):=by omega
  simp[h,h']
theorem cQ (F:DF)(xs:Ab D)(S:Sto)(hF:∀ x,Pn x→F [x] S=.ok (.bl (qW x)) S)(h:Pn (.tup xs))(hl:xs.length≤40):qE (uX false) (qA (qO false [none] (dIt (qB 0)) (gNm 0) (z9) (qV (qG 1 (okO F) (qA (qB 0) (qC))))) (qC)) [Aa (.tup xs)] S=.ok (.bl (xs.all qW)) S:=by
 have hc:=eE (cap:=[none]) (g:=gNm 0) (t:=z9) (fe:=qG 1 (okO F) (qA (qB 0) (qC))) (fi:=dIt (qB 0)) (env:=[Aa (.tup xs)]) (S:=S) (o:=none) (items:=xs) rfl trivial (fun _=>true) (fun x=>.bl (qW x)) (fun env=>∃ a,env=[a]) ⟨none,rfl⟩ (by unfold lim;omega)
  (fun x hx env ⟨a,q⟩=>by subst q;exact⟨[Aa x],rfl,⟨_,rfl⟩,rfl,fun _=>(j9 (f1:=qB 0) rfl).trans (uJ (hF x (WX h x hx)))⟩)
 rw[wX] at hc;exact rS (p:=qW) hc
theorem JU (d:D)(S:Sto)(h:Pn d):S_is_lot [d] S=.ok (.bl (xW d)) S:=by
 rw[fS];refine kM (env:=[Aa d]) rfl ?_;unfold b_is_lot;rcases ZE h with⟨xs,rfl⟩|hn
 ·have ht:=jQ (j0 xs S) (fun _=>c0 xs S (dC (.int (40))) rfl) (by intro z;cases z)
  rw[Mf] at ht;by_cases hl:1≤xs.length∧xs.length≤40
  ·rw[Cn hl] at ht
   refine qU (xK ht (zU (S:=S) rfl (x9 (zI ?_ (d:=.bl (xW (.tup xs))) (S:=S) ⟨rfl,rfl⟩))));have hp:=cQ S_is_point xs S (fun x hx=>nJ x S hx) h hl.2;have e:xW (.tup xs)=(xs.all qW&&(match vR xs with|some ks=>upB ks|none=>false)):=by
    show (decide (1≤xs.length∧xs.length≤40)&&xs.all qW&&_)=_;rw[Cn hl,Mo]
   rw[e];refine rT hp (fun ha=>?_) (fun _=>rfl);obtain⟨ks,rfl⟩:=nF xs ha;rw[jH];exact(j9 (f1:=qB 0) rfl).trans (aU ks S (by rw[Ar] at hl;unfold lim;omega))
  ·rw[Bu hl] at ht
   refine u4 (jE ht (x9 (zI (d:=.bl false) (S:=S) rfl ⟨?_,rfl⟩)));show _=D.bl (decide (1≤xs.length∧xs.length≤40)&&xs.all qW&&_);rw[Bu hl];rfl
 ·have ht:=jQ (b:=false) (g:=zT (dTr (xR gLe gLe (dC (.int 1)) (qE zH (qA (qB 0) (qC))) (dC (.int (40)))))) (hn S) (by intro z;cases z) (fun _=>rfl)
  refine u4 (jE ht (x9 (zI (d:=.bl false) (S:=S) rfl ⟨?_,rfl⟩)))
  congr 1
  unfold xW
  split
  ·have:=hn S
   rw[j0] at this;cases this
  ·rfl
theorem eU {K:Type}(lt':K→K→As)(x:K):∀ l:Ab K,(_S.kG lt' x l).length≤l.length+1
 |[]=>by simp[_S.kG]
 |y::l=>by
  have:=eU lt' x l;unfold _S.kG
  split
  ·simp
  ·split
   ·simp
    omega
   ·simp
theorem fN {K:Type}(lt':K→K→As):∀ l:Ab K,(_S.srt lt' l).length≤l.length
 |[]=>by simp[_S.srt]
 |x::l=>by
  have h1:=eU lt' x (_S.srt lt' l);have h2:=fN lt' l;rw[_S.srt,Ci];omega
theorem oP (ks:Ab (Ab Aj))(h:ks≠[])(hl:ks.length<64)(he:∀ k∈ks,k≠[]):wY (ks.map tpD)=Aa ((_S.srt _H.lexLt ks).map tpD):=by
 unfold wY;have h0:vF (ks.map tpD)=none:=by
  cases ks with
  |nil=>exact absurd rfl h
  |cons k r=>rfl
 rw[h0,jH];have h1:=fN _H.lexLt ks;have h2:(ks.all fun k=>!k.isEmpty)=true:=by
  rw[Aq];intro k hk;have:=he k hk;cases k with
  |nil=>exact absurd rfl this
  |cons _ _=>rfl
 have h3:(decide ((_S.srt _H.lexLt ks).length≤63)&&ks.all fun k=>!k.isEmpty)=true:=by
  rw[h2,Cn om];rfl
 show (if (decide ((_S.srt _H.lexLt ks).length≤63)&&ks.all fun k=>!k.isEmpty)=true then _ else _)=_
 rw[AT h3]
theorem EI (ks:Ab (Ab Aj)):upB ks=decide (ks=_S.srt _H.lexLt ks):=by
 by_cases h:upB ks=true
 ·rw[h]
  symm
  rw[Cm];exact _S.fP _S.xU ((bM ks).mp h) (_S.jF _S.xU ks) fun x=>(_S.vJ _S.xU x ks).symm
 ·have h':upB ks=false:=by simpa using h
  rw[h']
  symm
  rw[Lh];intro e;apply h;rw[bM,e];exact _S.jF _S.xU ks
theorem iH:∀ (a b:Ab Aj),xI (a.map D.int) (b.map D.int)=decide (a=b)
 |[],[]=>rfl
 |[],_::_=>rfl
 |_::_,[]=>rfl
 |x::a,y::b=>by
  show ((x == y)&&xI (a.map D.int) (b.map D.int))=_;rw[iH a b];by_cases h1:x=y <;> by_cases h2:a=b <;> simp[h1,h2]
theorem XM:∀ (a b:Ab (Ab Aj)),xI (a.map tpD) (b.map tpD)=decide (a=b)
 |[],[]=>rfl
 |[],_::_=>rfl
 |_::_,[]=>rfl
 |x::a,y::b=>by
  show (xI (x.map D.int) (y.map D.int)&&xI (a.map tpD) (b.map tpD))=_;rw[iH,XM a b];by_cases h1:x=y <;> by_cases h2:a=b <;> simp[h1,h2]
theorem WV (ks:Ab (Ab Aj)):pl zZ (.lst (ks.map tpD))=true:=by
 show (ks.map tpD).all (pl 29)=true;rw[Ir,Aq];intro k _;show (k.map D.int).all (pl 28)=true;rw[Ir,Aq];intro i _;rfl
theorem YG (d:D)(S:Sto)(h:Pn d):S__law_is_lot [d] S=.ok (.bl (xW d)) S:=by
 rw[k8];refine kM (env:=[Aa d]) rfl ?_;unfold b__law_is_lot;rcases ZE h with⟨xs,rfl⟩|hn
 ·by_cases hl:1≤xs.length∧xs.length≤40
  ·have hp:=jD (w9 (cQ S__law_is_point xs S (fun x hx=>aW x S hx) h hl.2))
   have ht:=jQ (j0 xs S) (fun _=>jQ (c0 xs S (dC (.int 40)) rfl) (fun _=>hp) (fun _=>rfl)) (by intro z;cases z)
   have e:xW (.tup xs)=(xs.all qW&&(match vR xs with|some ks=>upB ks|none=>false)):=by
    show (decide (1≤xs.length∧xs.length≤40)&&xs.all qW&&_)=_;rw[Cn hl,Mo]
   rw[e];rw[Cn hl,Mf,Jh,Mf] at ht;cases ha:xs.all qW with
   |true =>
    rw[ha] at ht;obtain⟨ks,rfl⟩:=nF xs ha;rw[Ar] at hl;have hne:∀ k∈ks,k≠[]:=fun k hk z=>by
     subst z;have:=Aq.mp ha (tpD []) (Hf hk);cases this
    have hs:xN (qB 0) [Aa (.tup (ks.map tpD))] S=.ok (.lst ((_S.srt _H.lexLt ks).map tpD)) S:=by
     unfold xN;rw[show qB 0 [Aa (D.tup (ks.map tpD))] S=.ok (.tup (ks.map tpD)) S from rfl]
     simp only[Res.bind,mQ,Qp,oP ks (by intro z;subst z;simp at hl) om hne]
    have hli:qE bX (qA (qB 0) (qC)) [Aa (.tup (ks.map tpD))] S=.ok (.lst (ks.map tpD)) S:=(wF (f1:=qB 0) rfl).trans rfl;refine qU (xK ht (zU (S:=S) rfl (x9 (zI ((qM hli hs).trans ?_) (d:=.bl _) (S:=S) ⟨rfl,rfl⟩))));rw[jH];show _=Res.ok (D.bl (upB ks)) S;rw[EI];unfold gEq;rw[WV,WV];show Res.ok (D.bl (xI (ks.map tpD) ((_S.srt _H.lexLt ks).map tpD))) S=_;rw[XM]
   |false =>
    rw[ha] at ht;exact u4 (jE ht (x9 (zI (d:=.bl false) (S:=S) rfl ⟨rfl,rfl⟩)))
  ·have ht:=jQ (j0 xs S) (fun _=>jQ (b:=false) (g:=zT (dTr (qE (uX false) (qA (qO false [none] (dIt (qB 0)) (gNm 0) (z9) (qV (qG 1 (okO S__law_is_point) (qA (qB 0) (qC))))) (qC))))) (c0 xs S (dC (.int 40)) rfl) (fun z=>by rw[Bu hl] at z;cases z) (fun _=>rfl)) (by intro z;cases z)
   rw[Bu hl] at ht;refine u4 (jE ht (x9 (zI (d:=.bl false) (S:=S) rfl ⟨?_,rfl⟩)));show _=D.bl (decide (1≤xs.length∧xs.length≤40)&&xs.all qW&&_);rw[Bu hl];rfl
 ·have ht:=jQ (b:=false) (g:=y8 (zT (dTr (xR gLe gLe (dC (.int 1)) (qE zH (qA (qB 0) (qC))) (dC (.int 40))))) (zT (dTr (qE (uX false) (qA (qO false [none] (dIt (qB 0)) (gNm 0) (z9) (qV (qG 1 (okO S__law_is_point) (qA (qB 0) (qC))))) (qC)))))) (hn S) (by intro z;cases z) (fun _=>rfl)
  refine u4 (jE ht (x9 (zI (d:=.bl false) (S:=S) rfl ⟨?_,rfl⟩)))
  congr 1
  unfold xW
  split
  ·have:=hn S
   rw[j0] at this;cases this
  ·rfl
theorem cP:∀ {xs:Ab D},(∀ x∈xs,Pn x)→∃ ps,kJ xs=Aa ps
 |[],_=>⟨[],rfl⟩
 |d::ds,h=>by
  obtain⟨p,e⟩:=h d (.head _);obtain⟨ps,es⟩:=cP fun x hx=>h x (.tail _ hx);exact⟨p::ps,by simp only[kJ,e,es];rfl⟩
theorem cF {xs:Ab D}(h:∀ x∈xs,Pn x):Pn (.tup xs):=by
 obtain⟨ps,e⟩:=cP h;exact⟨.tuple ps,by simp only[pyD,e];rfl⟩
theorem DQ {xs:Ab D}(h:∀ x∈xs,Pn x):Pn (.lst xs):=by
 obtain⟨ps,e⟩:=cP h;exact⟨.list ps,by simp only[pyD,e];rfl⟩
set_option tactic.hygienic true in
theorem bG {d:D}(h:qW d=true):∃ x y:Aj,d=.tup [.int x,.int y]∧(-1000≤x∧x≤1000)∧(-1000≤y∧y≤1000):=by
 unfold qW at h
 split at h
 ·rename_i a b
  rw[Ay] at h;cases a with
  |int x =>
   cases b with
   |int y=>exact⟨x,y,rfl,Bw h.1,Bw h.2⟩
   |_=>simp[isI] at h
  |_=>simp[isI] at h
 ·cases h
theorem nE {d:D}(h:qW d=true):Pn d:=by
 obtain⟨x,y,rfl,_⟩:=bG h;exact⟨_,rfl⟩
theorem gS {xs:Ab D}(h:xs.all qW=true):Pn (.tup xs):=cF fun x hx=>nE (Aq.mp h x hx)
theorem y9 {S S1:Sto}{p i:Ah}{m:Aj}{f2:DE}{env:qD}(h:zV S1 p)(hm:0<m∧m<1073741824)(he:env[i]? = Aa (Aa (.loc p)))(h2:f2 env S=.ok (.int m) S1):∃ (r:Ah) (S':Sto),qG 2 S__law_draw (qA (qB i) (qA f2 (qC))) env S=.ok (.int (r:Aj)) S'∧(r:Aj)<m∧zV S' p:=by
 obtain⟨r,v,f,e,a1,a2⟩:=RW S1 p m h hm;obtain⟨n,rfl⟩:=Int.eq_ofNat_of_zero_le a1;exact⟨n,_,(xP (a:=.loc p) (S1:=S) (by simp only[qB,he]) h2).trans e,a2,JH h v f⟩
theorem GL {f:DE}{env:qD}{S S':Sto}{r:Ah}(h:f env S=.ok (.int (r:Aj)) S'):d2 qR (dC (.int 1)) f env S=.ok (.int ((r+1:Ah):Aj)) S':=by
 refine(qM (a:=.int 1) (S1:=S) rfl h).trans ?_;rw[wB]
 congr 2
 omega
theorem goE {g:DG}{t:DT}{fe:DE}(C:qD→Sto→Prop)(R:D→Prop):∀ (items:Ab D) (env:qD) (S:Sto) (acc:Ab D),
  C env S→acc.length+items.length≤lim→(∀ d env S,d∈items→C env S→∃ env1 x S1,g d env S=.ok env1 S∧t env1 S=.ok true S∧fe env1 S=.ok x S1∧C env1 S1∧R x) →
  ∃ ys env' S',goL none g t (qV fe) items env S acc=.ok (env',acc++ys) S'∧ys.length=items.length∧(∀ y∈ys,R y)∧C env' S'
 |[],env,S,acc,c,_,_=>by
  have hs:pI none S=true:=wD.mpr trivial;exact⟨[],env,S,by simp only[goL,hs,De,Ft],rfl,(fun y hy=>by cases hy),c⟩
 |d::ds,env,S,acc,c,hl,step=>by
  have hs:pI none S=true:=wD.mpr trivial;obtain⟨env1,x,S1,h1,h2,h3,c1,hx⟩:=step d env S (by simp) c
  rw[Ci] at hl;obtain⟨ys,env',S',e,l,hy,c'⟩:=goE C R ds env1 S1 (acc++[x]) c1 (by rw[Br];simp;omega) fun d' env S hd=>step d' env S (by simp[hd])
  refine⟨x::ys,env',S',?_,by simp[l],?_,c'⟩
  ·have hk:=mF h3 (show acc.length<lim by omega)
   simp only[goL,hs,De,h1,h2,hk,Res.bind];rw[e,Ej];rfl
  ·intro y hy'
   rcases Av.mp hy' with rfl|hy'
   ·exact hx
   ·exact hy y hy'
theorem rE {cap:Ab (Am Ah)}{fi:DI2}{g:DG}{t:DT}{fe:DE}{env:qD}{S S0:Sto}{items:Ab D}(C:qD→Sto→Prop)(R:D→Prop)(h:fi env S0=.ok (none,items) S)(h0:C (xF cap env) S)(hl:items.length≤lim)
  (step:∀ d env S,d∈items→C env S→∃ env1 x S1,g d env S=.ok env1 S∧t env1 S=.ok true S∧fe env1 S=.ok x S1∧C env1 S1∧R x) :
  ∃ ys env' S',qO false cap fi g t (qV fe) env S0=.ok (.lst ys) S'∧ys.length=items.length∧(∀ y∈ys,R y)∧C env' S':=by
 obtain⟨ys,env',S',e,l,hy,c⟩:=goE C R items (xF cap env) S [] h0 (by simpa using hl) step
 exact⟨ys,env',S',kY h e,l,hy,c⟩
theorem YV (w:Aj)(env:qD)(S:Sto)(h1:env[1]? = Aa (Aa (.int w))):d2 qR (d2 xV (dC (.int 2)) (qB 1)) (dC (.int 1)) env S=.ok (.int (2*w+1)) S:=
 (qM ((qM (a:=.int 2) rfl (w5 h1)).trans (u3 2 w S om)) rfl).trans (wB _ _ _)
theorem oF (S:Sto)(p:Ah)(w:Aj)(h:zV S p)(hw:0≤w∧w≤2000):∃ (x y:Aj) (S':Sto),S__law_point [.loc p,.int w] S=.ok (.tup [.int x,.int y]) S'∧(-w≤x∧x≤w)∧(-w≤y∧y≤w)∧zV S' p:=by
 obtain⟨a,S1,e1,ha,p1⟩:=y9 (S:=S) (i:=0) (env:=[Aa (.loc p),Aa (.int w)]) (m:=2*w+1) h om rfl (YV w _ S rfl);obtain⟨b,S2,e2,hb,p2⟩:=y9 (S:=S1) (i:=0) (env:=[Aa (.loc p),Aa (.int w)]) (m:=2*w+1) p1 om rfl (YV w _ S1 rfl);refine⟨a-w,b-w,S2,?_,by omega,by omega,p2⟩
 rw[kT];refine lZ (env:=[Aa (.loc p),Aa (.int w)]) rfl ?_;have d1:d2 xA (qG 2 S__law_draw (qA (qB 0) (qA (d2 qR (d2 xV (dC (.int 2)) (qB 1)) (dC (.int 1))) (qC)))) (qB 1) [Aa (.loc p),Aa (.int w)] S=.ok (.int (a-w)) S1:=(qM e1 rfl).trans rfl;have d2':d2 xA (qG 2 S__law_draw (qA (qB 0) (qA (d2 qR (d2 xV (dC (.int 2)) (qB 1)) (dC (.int 1))) (qC)))) (qB 1) [Aa (.loc p),Aa (.int w)] S1=.ok (.int (b-w)) S2:=(qM e2 rfl).trans rfl;exact zP (zM d1 d2') (by show 2≤lim;decide)
theorem fG {x y:Aj}(hx : -1000≤x∧x≤1000)(hy : -1000≤y∧y≤1000):qW (.tup [.int x,.int y])=true:=by
 show (decide (-1000≤x∧x≤1000)&&decide (-1000≤y∧y≤1000))=true;rw[Cn hx,Cn hy];rfl
def iD (n:Ah):D:=.int (n:Aj)
theorem A2 (n:Ah)(h:n≤1000000):bH [.int (n:Aj)]=Aa (yE 0 (n:Aj).toNat):=by
 unfold bH;have : -(2 ^ 62)≤(n:Aj)∧(n:Aj)<2 ^ 62:=⟨by omega,by omega⟩
 exact AT this
theorem JY (n:Ah):yE 0 (n:Aj).toNat=(Cy n).map iD:=by
 unfold yE;rw[Fl]
 congr 1
 funext i
 unfold iD;rw[Int.zero_add]
theorem oJ (n:Ah)(h:n≤1000000):bH [.int (n:Aj)]=Aa ((Cy n).map iD):=by
 rw[A2 n h,JY]
theorem sM {β : Type}(b:β)(S:Sto):_D.vV (Aa b) S=.ok b S:=rfl
theorem b9 (f:DE)(n:Ah)(env:qD)(S:Sto)(h:n≤1000)(e:f env S=.ok (.int (n:Aj)) S):y0 (yW (qA f qC)) env S=.ok (none,(Cy n).map iD) S:=by
 have e1:qA f qC env S=.ok [.int (n:Aj)] S:=xS e;unfold y0 yW;rw[e1,Res.bind_ok,oJ n om,sM,Res.bind_ok]
inductive IvL (p w m:Ah)(e1:Am D)(ax ay st:Aj)(env:qD)(S:Sto):Prop
 |mk (wi:Aj) (ys:Ab D) (e8:Am D) (h_0:env=[Aa (.loc p),e1,Aa (.int (w:Aj)),Aa (.int (m:Aj)),Aa (.int wi),Aa (.tup [.int ax,.int ay]),Aa (.int st),Aa (.lst ys),e8]) (h_1:ys.all qW=true) (h_2:1≤ys.length∧ys.length≤200) (h_3:zV S p):IvL p w m e1 ax ay st env S
theorem rB {ys:Ab D}(h:∀ y∈ys,qW y=true):ys.all qW=true:=Aq.mpr h
theorem ZT (w:Ah)(k:Aj)(env:qD)(S:Sto)(h:env[2]? = Aa (Aa (.int (w:Aj)))):dTr (d2 gEq (qB 2) (dC (.int k))) env S=.ok (decide ((w:Aj)=k)) S:=w9 ((qM (w5 h) rfl).trans (jW _ _ _))
section
variable {p w m:Ah}{e1:Am D}{ax ay st:Aj}{env:qD}{S:Sto}
theorem TC (hm:1≤m∧m≤40)(ha : -400≤ax∧ax≤400)(hb : -400≤ay∧ay≤400)(h:IvL p w m e1 ax ay st env S) :
  Nx (sIf (dTr (d2 gEq (qB 2) (dC (.int 0)))) (zC (qO false [none,Aa 5] (y0 (yW (qA (qB 3) (qC)))) (gNm 0) (z9) (qV (qT (qA (d2 qR (d2 gIx (qB 1) (dC (.int 0))) (d2 vT (qB 0) (dC (.int 4)))) (qA (d2 qR (d2 gIx (qB 1) (dC (.int 1))) (d2 yZ (qB 0) (dC (.int 4)))) (qC)))))) (gNm 7)) (zD) env S) (IvL p w m e1 ax ay st):=by
 obtain⟨wi,ys,e8,rfl,h1,h2,h3⟩:=h;refine xK (ZT w 0 _ S rfl) ?_;by_cases hw:(w:Aj)=0
 ·rw[Cn hw]
  have hr:=b9 (qB 3) m [Aa (.loc p),e1,Aa (.int (w:Aj)),Aa (.int (m:Aj)),Aa (.int wi),Aa (.tup [.int ax,.int ay]),Aa (.int st),Aa (.lst ys),e8] S om rfl;obtain⟨zs,env',S',e,l,hz,_,_,rfl⟩:=rE (cap:=[none,Aa 5]) (g:=gNm 0) (t:=z9) (fe:=qT (qA (d2 qR (d2 gIx (qB 1) (dC (.int 0))) (d2 vT (qB 0) (dC (.int 4)))) (qA (d2 qR (d2 gIx (qB 1) (dC (.int 1))) (d2 yZ (qB 0) (dC (.int 4)))) (qC)))) (fun env S'=>∃ a,env=[a,Aa (.tup [.int ax,.int ay])]∧S'=S) (fun d=>qW d=true) hr ⟨none,rfl,rfl⟩ (by rw[Ar,Fm];unfold lim;omega)
   (fun d env S' hd ⟨a,q1,q2⟩=>by
    subst q1 q2;obtain⟨i,hi,rfl⟩:=Bt.mp hd;have hi:=Eg.mp hi;refine⟨[Aa (iD i),Aa (.tup [.int ax,.int ay])],.tup [.int (ax+(i:Aj) % 4),.int (ay+(i:Aj)/4)],S',rfl,rfl,?_,⟨_,rfl,rfl⟩,fG om om⟩;refine zP (zM (a:=.int (ax+(i:Aj) % 4)) (b:=.int (ay+(i:Aj)/4)) (S1:=S') ?_ ?_) (by show 2≤lim;decide)
    ·exact(qM (a:=.int ax) (b:=.int ((i:Aj) % 4)) rfl ((qM (a:=.int (i:Aj)) rfl rfl).trans (uY _ _ _ om))).trans (wB _ _ _)
    ·exact(qM (a:=.int ay) (b:=.int ((i:Aj)/4)) rfl ((qM (a:=.int (i:Aj)) rfl rfl).trans (jV _ _ _ om))).trans (wB _ _ _))
  rw[Ar,Fm] at l;exact zX e rfl ⟨wi,zs,e8,rfl,rB hz,by omega,h3⟩
 ·rw[Bu hw]
  exact zU rfl ⟨wi,ys,e8,rfl,h1,h2,h3⟩
theorem TF (hm:1≤m∧m≤40)(ha : -400≤ax∧ax≤400)(hb : -400≤ay∧ay≤400)(hst:1≤st∧st≤9)(h:IvL p w m e1 ax ay st env S) :
  Nx (sIf (dTr (d2 gEq (qB 2) (dC (.int 1)))) (zC (qO false [none,Aa 5,Aa 6] (y0 (yW (qA (qB 3) (qC)))) (gNm 0) (z9) (qV (qT (qA (d2 qR (d2 gIx (qB 1) (dC (.int 0))) (d2 xV (qB 2) (qB 0))) (qA (d2 xA (d2 gIx (qB 1) (dC (.int 1))) (qB 0)) (qC)))))) (gNm 7)) (zD) env S) (IvL p w m e1 ax ay st):=by
 obtain⟨wi,ys,e8,rfl,h1,h2,h3⟩:=h;refine xK (ZT w 1 _ S rfl) ?_;by_cases hw:(w:Aj)=1
 ·rw[Cn hw]
  have hr:=b9 (qB 3) m [Aa (.loc p),e1,Aa (.int (w:Aj)),Aa (.int (m:Aj)),Aa (.int wi),Aa (.tup [.int ax,.int ay]),Aa (.int st),Aa (.lst ys),e8] S om rfl;obtain⟨zs,env',S',e,l,hz,_,_,rfl⟩:=rE (cap:=[none,Aa 5,Aa 6]) (g:=gNm 0) (t:=z9) (fe:=qT (qA (d2 qR (d2 gIx (qB 1) (dC (.int 0))) (d2 xV (qB 2) (qB 0))) (qA (d2 xA (d2 gIx (qB 1) (dC (.int 1))) (qB 0)) (qC)))) (fun env S'=>∃ a,env=[a,Aa (.tup [.int ax,.int ay]),Aa (.int st)]∧S'=S) (fun d=>qW d=true) hr ⟨none,rfl,rfl⟩ (by rw[Ar,Fm];unfold lim;omega)
   (fun d env S' hd ⟨a,q1,q2⟩=>by
    subst q1 q2;obtain⟨i,hi,rfl⟩:=Bt.mp hd;have hi:=Eg.mp hi;have hmul:0≤st*(i:Aj)∧st*(i:Aj)≤9*39:=⟨Int.mul_nonneg om om,Int.mul_le_mul om om om om⟩;refine⟨[Aa (iD i),Aa (.tup [.int ax,.int ay]),Aa (.int st)],.tup [.int (ax+st*(i:Aj)),.int (ay-(i:Aj))],S',rfl,rfl,?_,⟨_,rfl,rfl⟩,fG om om⟩;refine zP (zM (a:=.int (ax+st*(i:Aj))) (b:=.int (ay-(i:Aj))) (S1:=S') ?_ ?_) (by show 2≤lim;decide)
    ·exact(qM (a:=.int ax) (b:=.int (st*(i:Aj))) rfl ((qM (a:=.int st) (b:=.int (i:Aj)) rfl rfl).trans (u3 _ _ _ om))).trans (wB _ _ _)
    ·exact(qM (a:=.int ay) (b:=.int (i:Aj)) rfl rfl).trans rfl)
  rw[Ar,Fm] at l;exact zX e rfl ⟨wi,zs,e8,rfl,rB hz,by omega,h3⟩
 ·rw[Bu hw]
  exact zU rfl ⟨wi,ys,e8,rfl,h1,h2,h3⟩
theorem dA (fe:DE)(hfe:∀ (x y:Aj) (S:Sto),∃ x' y':Aj,fe [Aa (.int x),Aa (.int y)] S=.ok (.tup [.int x',.int y']) S∧((x'=x∨x' = -x)∧(y'=y∨y' = -y)∨(x'=y∨x' = -y)∧(y'=x∨y' = -x)))(ys:Ab D)(hy:ys.all qW=true)(hl:ys.length≤200)(env:qD)(S:Sto)(h8:env[8]? = Aa (Aa (.lst ys))) :
  ∃ zs,qO false [none,none] (dIt (qB 8)) (gTp 2 (qZ (gNm 0) (qZ (gNm 1) (xQ)))) (z9) (qV fe) env S=.ok (.lst zs) S∧zs.all qW=true∧zs.length=ys.length:=by
 have hit:dIt (qB 8) env S=.ok (none,ys) S:=by
  unfold dIt;rw[w5 h8];rfl
 obtain⟨zs,env',S',e,l,hz,_,_,_,rfl⟩:=rE (cap:=[none,none]) (g:=gTp 2 (qZ (gNm 0) (qZ (gNm 1) (xQ)))) (t:=z9) (fe:=fe) (fun env S'=>∃ a b,env=[a,b]∧S'=S) (fun d=>qW d=true) hit ⟨none,none,rfl,rfl⟩ (by unfold lim;omega)
  (fun d env S' hd ⟨a,b,q1,q2⟩=>by
   subst q1 q2;obtain⟨x,y,rfl,hx,hy'⟩:=bG (Aq.mp hy d hd);obtain⟨x',y',e,hc⟩:=hfe x y S';exact⟨[Aa (.int x),Aa (.int y)],_,S',rfl,rfl,e,⟨_,_,rfl,rfl⟩,fG om om⟩)
 exact⟨zs,e,rB hz,l⟩
theorem jU {a b:Ab D}(ha:a.all qW=true)(hb:b.all qW=true):(a++b).all qW=true:=by rw[List.all_append,ha,hb];rfl
theorem PY (ys:Ab D)(lo hi:Am Aj)(h:ys.all qW=true):(zW ys lo hi).all qW=true:=by
 rw[Aq];intro y hy;exact Aq.mp h y (Mt (Gz hy))
theorem gK (ys:Ab D)(n:Ah):zW ys none (Aa (n:Aj))=ys.take n:=by
 unfold zW;have h1:_H.sIx ys.length 0 none=0:=rfl;have h2:_H.sIx ys.length ys.length (Aa (n:Aj))=min n ys.length:=by
  show (if (n:Aj)<0 then ((n:Aj)+(ys.length:Aj)).toNat else min (n:Aj).toNat ys.length)=_
  rw[Bc om,Fl]
 rw[h1,h2,List.drop_zero,Nat.sub_zero];rcases Nat.le_total n ys.length with h|h
 ·rw[Si h]
 ·rw[Xk h,Jj h,Jj (Bd _)]
theorem TH (hm:1≤m∧m≤40)(h:IvL p w m e1 ax ay st env S) :
  Nx (sIf (dTr (d2 gEq (qB 2) (dC (.int 2)))) (qL (zC (dSl (qB 7) (zE) (qY (d2 qR (dC (.int 1)) (d2 yZ (qB 3) (dC (.int 4)))))) (gNm 8)) (qL (zC (d2 qR (d2 qR (qB 8) (qO false [none,none] (dIt (qB 8)) (gTp 2 (qZ (gNm 0) (qZ (gNm 1) (xQ)))) (z9) (qV (qT (qA (d2 xA (dC (.int 0)) (qB 1)) (qA (qB 0) (qC))))))) (qO false [none,none] (dIt (qB 8)) (gTp 2 (qZ (gNm 0) (qZ (gNm 1) (xQ)))) (z9) (qV (qT (qA (d2 xA (dC (.int 0)) (qB 0)) (qA (d2 xA (dC (.int 0)) (qB 1)) (qC))))))) (gNm 7)) (zC (d2 qR (qB 7) (qO false [none,none] (dIt (qB 8)) (gTp 2 (qZ (gNm 0) (qZ (gNm 1) (xQ)))) (z9) (qV (qT (qA (qB 1) (qA (d2 xA (dC (.int 0)) (qB 0)) (qC))))))) (gNm 7)))) (zD) env S) (IvL p w m e1 ax ay st):=by
 obtain⟨wi,ys,e8,rfl,h1,h2,h3⟩:=h;refine xK (ZT w 2 _ S rfl) ?_;by_cases hw:(w:Aj)=2
 ·rw[Cn hw,AT rfl]
  have hs:dSl (qB 7) (zE) (qY (d2 qR (dC (.int 1)) (d2 yZ (qB 3) (dC (.int 4))))) [Aa (.loc p),e1,Aa (.int (w:Aj)),Aa (.int (m:Aj)),Aa (.int wi),Aa (.tup [.int ax,.int ay]),Aa (.int st),Aa (.lst ys),e8] S=.ok (.lst (ys.take (1+m/4))) S:=by
   have hd:d2 qR (dC (.int 1)) (d2 yZ (qB 3) (dC (.int 4))) [Aa (.loc p),e1,Aa (.int (w:Aj)),Aa (.int (m:Aj)),Aa (.int wi),Aa (.tup [.int ax,.int ay]),Aa (.int st),Aa (.lst ys),e8] S=.ok (.int ((1+m/4:Ah):Aj)) S:=by
    refine(qM (a:=.int 1) (b:=.int ((m:Aj)/4)) rfl ((qM (a:=.int (m:Aj)) rfl rfl).trans (jV _ _ _ om))).trans ?_;rw[wB,show (1:Aj)+(m:Aj)/4=((1+m/4:Ah):Aj) by omega]
   unfold dSl;rw[w5 (env:=[Aa (.loc p),e1,Aa (.int (w:Aj)),Aa (.int (m:Aj)),Aa (.int wi),Aa (.tup [.int ax,.int ay]),Aa (.int st),Aa (.lst ys),e8]) (i:=7) rfl];simp only[Res.bind,zE,qY,hd];show Res.ok (D.lst (zW ys none (Aa ((1+m/4:Ah):Aj)))) S=_;rw[gK]
  have l1:(ys.take (1+m/4)).length≤11:=by rw[Ev];omega
  have l0:1≤(ys.take (1+m/4)).length:=by rw[Ev];omega
  have ps:(ys.take (1+m/4)).all qW=true:=Aq.mpr fun y hy=>Aq.mp h1 y (Gz hy);generalize ys.take (1+m/4)=zs at hs l1 l0 ps;have l2:2≤lim:=by decide
  refine xO (zX hs rfl ?_);obtain⟨a1,c1,q1,n1⟩:=dA (qT (qA (d2 xA (dC (.int 0)) (qB 1)) (qA (qB 0) (qC)))) (fun x y S=>⟨0-y,x,zP (zM rfl rfl) l2,by omega⟩) zs ps om [Aa (.loc p),e1,Aa (.int (w:Aj)),Aa (.int (m:Aj)),Aa (.int wi),Aa (.tup [.int ax,.int ay]),Aa (.int st),Aa (.lst ys),Aa (.lst zs)] S rfl
  obtain⟨a2,c2,q2,n2⟩:=dA (qT (qA (d2 xA (dC (.int 0)) (qB 0)) (qA (d2 xA (dC (.int 0)) (qB 1)) (qC)))) (fun x y S=>⟨0-x,0-y,zP (zM rfl rfl) l2,by omega⟩) zs ps om [Aa (.loc p),e1,Aa (.int (w:Aj)),Aa (.int (m:Aj)),Aa (.int wi),Aa (.tup [.int ax,.int ay]),Aa (.int st),Aa (.lst ys),Aa (.lst zs)] S rfl
  refine xO (zX (d:=.lst (zs++a1++a2)) (S1:=S) ((qM ((qM rfl c1).trans (yY (by unfold lim;omega) S)) c2).trans (yY (by rw[Br];unfold lim;omega) S)) rfl ?_)
  obtain⟨a3,c3,q3,n3⟩:=dA (qT (qA (qB 1) (qA (d2 xA (dC (.int 0)) (qB 0)) (qC)))) (fun x y S=>⟨y,0-x,zP (zM rfl rfl) l2,by omega⟩) zs ps om [Aa (.loc p),e1,Aa (.int (w:Aj)),Aa (.int (m:Aj)),Aa (.int wi),Aa (.tup [.int ax,.int ay]),Aa (.int st),Aa (.lst (zs++a1++a2)),Aa (.lst zs)] S rfl
  refine zX (d:=.lst (zs++a1++a2++a3)) (S1:=S) ((qM rfl c3).trans (yY (by simp only[Br];unfold lim;omega) S)) rfl ⟨wi,_,_,rfl,jU (jU (jU ps q1) q2) q3,?_,h3⟩
  simp only[Br];omega
 ·rw[Bu hw]
  exact zU rfl ⟨wi,ys,e8,rfl,h1,h2,h3⟩
end
theorem ix5 (r:Ah)(h:r<5)(S:Sto):∃ m:Aj,gIx (.lst [.int 1,.int 2,.int 4,.int 12,.int 1000]) (.int (r:Aj)) S=.ok (.int m) S∧1≤m∧m≤1000:=by
 match r,h with
 |0,_=>exact⟨1,rfl,by omega⟩
 |1,_=>exact⟨2,rfl,by omega⟩
 |2,_=>exact⟨4,rfl,by omega⟩
 |3,_=>exact⟨12,rfl,by omega⟩
 |4,_=>exact⟨1000,rfl,by omega⟩
theorem IJ (env:qD)(S:Sto):zN (qA (dC (.int 1)) (qA (dC (.int 2)) (qA (dC (.int 4)) (qA (dC (.int 12)) (qA (dC (.int 1000)) (qC)))))) env S=.ok (.lst [.int 1,.int 2,.int 4,.int 12,.int 1000]) S:=by
 have l5:5≤lim:=by decide
 simp[qQ,uO,FS,OU,OT,qL,sIf,qX,zD,yM,zC,gNm,gSb,gTp,qZ,xQ,pG,IY,qAC,AS,dC,qB,d1,d2,qA,qC,qE,qG,dTr,zT,y8,z9,vL,QJ,dIf,xR,qT,zN,mY,dBm,dSl,qY,zE,wN,yW,Res.bind,Res.toS,_D.uN,_D.vV,OW,OV,EE,qAD,OY,OZ,qAA,OX,OS,OR,LX,gLt,gLe,gGt,gGe,_D.xA,rF,l5]
theorem nQ (zs:Ab D)(h:zs.all qW=true)(hl:1≤zs.length∧zs.length≤40):∃ xs:Ab D,wY zs=Aa xs∧xs.all qW=true∧(1≤xs.length∧xs.length≤40)∧xW (.tup xs)=true:=by
 obtain⟨ks,rfl⟩:=nF zs h;rw[Ar] at hl;have pk:∀ k∈ks,qW (tpD k)=true:=fun k hk=>Aq.mp h _ (Hf hk);have hne:∀ k∈ks,k≠[]:=fun k hk z=>by
  subst z;have:=pk [] hk;cases this
 have c1:((_S.srt _H.lexLt ks).map tpD).all qW=true:=by
  rw[Ir,Aq];intro k hk;exact pk k ((_S.vJ _S.xU k ks).mp hk)
 have c2:1≤((_S.srt _H.lexLt ks).map tpD).length∧((_S.srt _H.lexLt ks).map tpD).length≤40:=by
  rw[Ar];refine⟨?_,?_⟩
  ·cases ks with
   |nil=>simp at hl
   |cons k r=>exact Lz ((_S.vJ _S.xU k (k::r)).mpr (by simp))
  ·have:=fN _H.lexLt ks
   omega
 refine⟨(_S.srt _H.lexLt ks).map tpD,oP ks (by intro z;subst z;simp at hl) om hne,c1,c2,?_⟩
 show (decide (1≤((_S.srt _H.lexLt ks).map tpD).length∧((_S.srt _H.lexLt ks).map tpD).length≤40)&&((_S.srt _H.lexLt ks).map tpD).all qW&&(match vR ((_S.srt _H.lexLt ks).map tpD) with|some ks=>upB ks|none=>false))=true
 rw[Cn c2,c1,jH];exact(bM _).mpr (_S.jF _S.xU ks)
theorem CY (S:Sto)(p:Ah)(h:zV S p):∃ (xs:Ab D) (S':Sto),S__law_lot [.loc p,.int 40] S=.ok (.tup xs) S'∧xs.all qW=true∧(1≤xs.length∧xs.length≤40)∧xW (.tup xs)=true∧zV S' p:=by
 have key:Rt (b__law_lot [Aa (.loc p),Aa (.int 40),none,none,none,none,none,none,none] S) fun d S'=>∃ xs,d=.tup xs∧xs.all qW=true∧(1≤xs.length∧xs.length≤40)∧xW (.tup xs)=true∧zV S' p:=by
  unfold b__law_lot;obtain⟨w,S1,c1,hw,p1⟩:=y9 (S:=S) (i:=0) (f2:=dC (.int 7)) (env:=[Aa (.loc p),Aa (.int 40),none,none,none,none,none,none,none]) (m:=7) h om rfl rfl;obtain⟨m0,S2,c2,hm0,p2⟩:=y9 (S:=S1) (i:=0) (f2:=qB 1) (env:=[Aa (.loc p),Aa (.int 40),none,none,none,none,none,none,none]) (m:=40) p1 om rfl rfl;refine qU (tY c1 (GL c2) ?_);clear c1 c2;have hm:1≤m0+1∧m0+1≤40:=by omega
  generalize m0+1=m at hm;simp only[Bx,By];obtain⟨k,S3,c3,hk,p3⟩:=y9 (S:=S2) (i:=0) (f2:=dC (.int 5)) (env:=[Aa (.loc p),Aa (.int 40),Aa (.int (w:Aj)),Aa (.int (m:Aj)),none,none,none,none,none]) (m:=5) p2 om rfl rfl;obtain⟨wi,hwi,w1,w2⟩:=ix5 k om S3;obtain⟨ax,ay,S4,c4,ha,hb,p4⟩:=oF S3 p 400 p3 om;have l2:2≤lim:=by decide
  refine qU (zX (zP (zM ((qM (IJ _ _) c3).trans hwi) ((xP (a:=.loc p) (b:=.int 400) rfl rfl).trans c4)) l2) (env1:=[Aa (.loc p),Aa (.int 40),Aa (.int (w:Aj)),Aa (.int (m:Aj)),Aa (.int wi),Aa (.tup [.int ax,.int ay]),none,none,none]) (S2:=S4) rfl ?_);clear c3 c4 hwi;obtain⟨s0,S5,c5,hs0,p5⟩:=y9 (S:=S4) (i:=0) (f2:=dC (.int 9)) (env:=[Aa (.loc p),Aa (.int 40),Aa (.int (w:Aj)),Aa (.int (m:Aj)),Aa (.int wi),Aa (.tup [.int ax,.int ay]),none,none,none]) (m:=9) p4 om rfl rfl;refine qU (zX (GL c5) rfl ?_);clear c5;have hst:(1:Aj)≤((s0+1:Ah):Aj)∧((s0+1:Ah):Aj)≤9:=by omega
  generalize ((s0+1:Ah):Aj)=st at hst;simp only[Bx,By];have hr:=b9 (qB 3) m [Aa (.loc p),Aa (.int 40),Aa (.int (w:Aj)),Aa (.int (m:Aj)),Aa (.int wi),Aa (.tup [.int ax,.int ay]),Aa (.int st),none,none] S5 om rfl;obtain⟨ys,env',S6,c6,l6,h6,_,_,p6⟩:=rE (cap:=[none,Aa 0,Aa 4]) (g:=gNm 0) (t:=z9) (fe:=qG 2 (okO S__law_point) (qA (qB 1) (qA (qB 2) (qC)))) (fun env S'=>∃ a,env=[a,Aa (.loc p),Aa (.int wi)]∧zV S' p) (fun d=>qW d=true) hr ⟨none,rfl,p5⟩ (by rw[Ar,Fm];unfold lim;omega)
   (fun d env S' hd ⟨a,q1,q2⟩=>by
    subst q1;obtain⟨x,y,S'',e,hx,hy,p''⟩:=oF S' p wi q2 om;exact⟨[Aa d,Aa (.loc p),Aa (.int wi)],_,S'',rfl,rfl,(xP (a:=.loc p) (b:=.int wi) rfl rfl).trans (uJ e),⟨_,rfl,p''⟩,fG om om⟩)
  rw[Ar,Fm] at l6;refine qU (zX c6 rfl ?_);clear c6 hr;simp only[Bx,By];have I0:IvL p w m (Aa (.int 40)) ax ay st [Aa (.loc p),Aa (.int 40),Aa (.int (w:Aj)),Aa (.int (m:Aj)),Aa (.int wi),Aa (.tup [.int ax,.int ay]),Aa (.int st),Aa (.lst ys),none] S6:=⟨wi,ys,none,rfl,rB h6,by omega,p6⟩
  obtain⟨env1,T1,e1,I1⟩:=TC hm ha hb I0;refine qU ⟨env1,T1,e1,?_⟩;obtain⟨env2,T2,e2,I2⟩:=TF hm ha hb hst I1;refine qU ⟨env2,T2,e2,?_⟩;obtain⟨env3,T3,e3,I3⟩:=TH hm I2;refine qU ⟨env3,T3,e3,?_⟩;obtain⟨wi',zs,e8,rfl,z1,z2,z3⟩:=I3;have ht:(zs.take m).all qW=true:=Aq.mpr fun y hy=>Aq.mp z1 y (Gz hy);have htl:1≤(zs.take m).length∧(zs.take m).length≤40:=by rw[Ev];omega
  obtain⟨xs,hs,x1,x2,x4⟩:=nQ (zs.take m) ht htl;have hc:dSl (qB 7) (zE) (qY (qB 3)) [Aa (.loc p),Aa (.int 40),Aa (.int (w:Aj)),Aa (.int (m:Aj)),Aa (.int wi'),Aa (.tup [.int ax,.int ay]),Aa (.int st),Aa (.lst zs),e8] T3=.ok (.lst (zs.take m)) T3:=by
   show Res.ok (D.lst (zW zs none (Aa (m:Aj)))) T3=_;rw[gK]
  have hd:xN (dSl (qB 7) (zE) (qY (qB 3))) [Aa (.loc p),Aa (.int 40),Aa (.int (w:Aj)),Aa (.int (m:Aj)),Aa (.int wi'),Aa (.tup [.int ax,.int ay]),Aa (.int st),Aa (.lst zs),e8] T3=.ok (.lst xs) T3:=by
   unfold xN;rw[hc];simp only[Res.bind,mQ,Qp,hs]
  exact x9 (zI ((wF hd).trans rfl) ⟨xs,rfl,x1,x2,x4,z3⟩)
 obtain⟨d,S',e,xs,rfl,x1,x2,x4,x3⟩:=key;rw[pK];exact⟨xs,S',yR rfl e,x1,x2,x4,x3⟩
theorem wO {xs ys:Ab D}(h:xs.length+ys.length≤lim)(S:Sto):qR (.tup xs) (.tup ys) S=.ok (.tup (xs++ys)) S:=AT h
theorem QL (env:qD)(S:Sto):qC env S=.ok [] S:=rfl
def bE:Ab D:=[.int 1001,.int (-1001),.bl true,.bl false,.non,.str "0",.tup [.int 0],.int 100000000000000000000000000000,.lst [.int 0],.dct0]
theorem FP:∀ d∈bE,Pn d:=by
 intro d hd;simp only[bE,Av,Cj,Fe] at hd;rcases hd with rfl|rfl|rfl|rfl|rfl|rfl|rfl|rfl|rfl|rfl <;> exact⟨_,rfl⟩
theorem FO (env:qD)(S:Sto):zN (qA (dC (.int 1001)) (qA (d1 yJ (dC (.int 1001))) (qA (dC (.bl true)) (qA (dC (.bl false)) (qA (dC .non) (qA (dC (.str "0")) (qA (qT (qA (dC (.int 0)) (qC))) (qA (d2 uZ (dC (.int 10)) (dC (.int 29))) (qA (zN (qA (dC (.int 0)) (qC))) (qA (gY) (qC))))))))))) env S=.ok (.lst bE) S:=by
 have l1:1≤lim:=by decide
 have l10:10≤lim:=by decide
 refine wG (zO rfl (zO rfl (zO rfl (zO rfl (zO rfl (zO rfl (zO (zP (xS rfl) l1) (zO (R4 S) (zO (wG (xS rfl) l1) (zO rfl (QL _ _))))))))))) l10
def pt0 (x y:Aj):D:=.tup [.int x,.int y]
def wV (x y:Aj)(o:D):Ah→Ab D
 |0=>[o,.int y]
 |_=>[.int x,o]
theorem PJ (x y:Aj)(o:D)(a:Ah)(ha:a<2)(env:qD)(S:Sto)(h1:env[1]? = Aa (Aa (pt0 x y)))(h3:env[3]? = Aa (Aa (.int (a:Aj))))(h4:env[4]? = Aa (Aa o)) :
  d2 qR (d2 qR (dSl (qB 1) (zE) (qY (qB 3))) (qT (qA (qB 4) (qC)))) (dSl (qB 1) (qY (d2 qR (qB 3) (dC (.int 1)))) (zE)) env S=.ok (.tup (wV x y o a)) S:=by
 have l1:1≤lim:=by decide
 have hs:dSl (qB 1) (zE) (qY (qB 3)) env S=.ok (.tup (zW [.int x,.int y] none (Aa (a:Aj)))) S:=by
  simp only[dSl,w5 h1,w5 h3,Res.bind,zE,qY];rfl
 have ht:dSl (qB 1) (qY (d2 qR (qB 3) (dC (.int 1)))) (zE) env S=.ok (.tup (zW [.int x,.int y] (Aa ((a:Aj)+1)) none)) S:=by
  simp only[dSl,w5 h1,Res.bind,zE,qY,qM (o:=qR) (w5 (S:=S) h3) (show dC (.int 1) env S=.ok (.int 1) S from rfl),wB]
  rfl
 have ho:=zP (xS (w5 (S:=S) h4)) l1
 match a,ha with
 |0,_ =>
  rw[qM ((qM hs ho).trans (wO (by show 1≤lim;decide) S)) ht,wO (by show 2≤lim;decide)]
  rfl
 |1,_ =>
  rw[qM ((qM hs ho).trans (wO (by show 2≤lim;decide) S)) ht,wO (by show 2≤lim;decide)]
  rfl
def tW (x y:Aj)(b:D):Ab D:=[b,b,b,b,.tup [.int x],.tup [.int x,.int y,.int 0],.lst [.int x,.int y],.non,.int 7,.str "0,0",.dct0,.tup [pt0 x y]]
theorem JA (x y:Aj)(b:D)(hb:Pn b):∀ d∈tW x y b,Pn d:=by
 intro d hd;simp only[tW,Av,Cj,Fe] at hd;rcases hd with rfl|rfl|rfl|rfl|rfl|rfl|rfl|rfl|rfl|rfl|rfl|rfl <;> first|exact hb|exact⟨_,rfl⟩
theorem PL (x y:Aj)(o:D)(a:Ah)(ho:o∈bE):Pn (.tup (wV x y o a)):=by
 obtain⟨p,e⟩:=FP o ho;cases a with
 |zero=>exact⟨.tuple [p,.int y],by simp only[wV,pyD,kJ,e];rfl⟩
 |succ a=>exact⟨.tuple [.int x,p],by simp only[wV,pyD,kJ,e];rfl⟩
theorem o8:∀ d∈bE,isI d=false:=by
 intro d hd;simp only[bE,Av,Cj,Fe] at hd;rcases hd with rfl|rfl|rfl|rfl|rfl|rfl|rfl|rfl|rfl|rfl <;> rfl
theorem J9 (x y:Aj)(o:D)(a:Ah)(ho:o∈bE):∀ d∈tW x y (.tup (wV x y o a)),qW d=false:=by
 have hb:qW (.tup (wV x y o a))=false:=by
  cases a with
  |zero =>
   show (isI o&&isI (.int y))=false;rw[o8 o ho];rfl
  |succ a =>
   show (isI (.int x)&&isI o)=false;rw[o8 o ho,Ny]
 intro d hd;simp only[tW,Av,Cj,Fe] at hd;rcases hd with rfl|rfl|rfl|rfl|rfl|rfl|rfl|rfl|rfl|rfl|rfl|rfl <;> first|exact hb|rfl
theorem nM (S:Sto)(p:Ah)(x y:Aj)(h:zV S p)(hx : -1000≤x∧x≤1000)(hy : -1000≤y∧y≤1000):∃ (d:D) (S':Sto),S__law_no_point [.loc p,pt0 x y] S=.ok d S'∧Pn d∧qW d=false∧zV S' p:=by
 have key:Rt (b__law_no_point [Aa (.loc p),Aa (pt0 x y),none,none,none,none,none] S) fun d S'=>Pn d∧qW d=false∧zV S' p:=by
  unfold b__law_no_point;obtain⟨w,S1,c1,hw,p1⟩:=y9 (S:=S) (i:=0) (f2:=dC (.int 12)) (env:=[Aa (.loc p),Aa (pt0 x y),none,none,none,none,none]) (m:=12) h om rfl rfl;obtain⟨a,S2,c2,ha,p2⟩:=y9 (S:=S1) (i:=0) (f2:=dC (.int 2)) (env:=[Aa (.loc p),Aa (pt0 x y),none,none,none,none,none]) (m:=2) p1 om rfl rfl;refine qU (tY c1 c2 ?_);clear c1 c2;simp only[Bx,By];obtain⟨k,S3,c3,hk,p3⟩:=y9 (S:=S2) (i:=0) (f2:=dC (.int 10)) (env:=[Aa (.loc p),Aa (pt0 x y),Aa (.int (w:Aj)),Aa (.int (a:Aj)),none,none,none]) (m:=10) p2 om rfl rfl;obtain⟨o,ho,ho'⟩:=pS bE (k:Aj) ⟨by omega,by show (k:Aj)<10;omega⟩
  refine qU (zX ((qM (FO _ _) c3).trans (bZ ho S3)) rfl ?_);clear c3;simp only[Bx,By];refine qU (zX (PJ x y o a om _ S3 rfl rfl rfl) rfl ?_);simp only[Bx,By];have l10:10≤lim:=by decide
  have l2:2≤lim:=by decide
  have l1:1≤lim:=by decide
  have h3:d2 qR (qB 1) (qT (qA (dC (.int 0)) (qC))) [Aa (.loc p),Aa (pt0 x y),Aa (.int (w:Aj)),Aa (.int (a:Aj)),Aa o,Aa (.tup (wV x y o a)),none] S3=.ok (.tup [.int x,.int y,.int 0]) S3:=
   (qM (a:=pt0 x y) (b:=.tup [.int 0]) rfl (zP (xS rfl) l1)).trans (wO (by show 3≤lim;decide) S3)
  refine qU (zX (wG (zO (a:=.tup (wV x y o a)) rfl (zO (a:=.tup (wV x y o a)) rfl (zO (a:=.tup (wV x y o a)) rfl (zO (a:=.tup (wV x y o a)) rfl (zO (a:=.tup [.int x]) rfl (zO h3 (zO (a:=.lst [.int x,.int y]) rfl (zO (a:=.non) rfl (zO (a:=.int 7) rfl (zO (a:=.str "0,0") rfl (QL _ _))))))))))) l10) rfl ?_);simp only[Bx,By];obtain⟨d,hd,hd'⟩:=pS (tW x y (.tup (wV x y o a))) (w:Aj) ⟨by omega,by show (w:Aj)<12;omega⟩
  have hl:zN (qA (gY) (qA (qT (qA (qB 1) (qC))) (qC))) [Aa (.loc p),Aa (pt0 x y),Aa (.int (w:Aj)),Aa (.int (a:Aj)),Aa o,Aa (.tup (wV x y o a)),Aa (.lst [.tup (wV x y o a),.tup (wV x y o a),.tup (wV x y o a),.tup (wV x y o a),.tup [.int x],.tup [.int x,.int y,.int 0],.lst [.int x,.int y],.non,.int 7,.str "0,0"])] S3=.ok (.lst [.dct0,.tup [pt0 x y]]) S3:=wG (zM rfl (zP (xS rfl) l1)) l2;exact x9 (zI ((qM ((qM rfl hl).trans (yY (by show 12≤lim;decide) S3)) rfl).trans (bZ hd S3)) ⟨JA x y _ (PL x y o a ho') d hd',J9 x y o a ho' d hd',p3⟩)
 obtain⟨d,S',e,n,p'⟩:=key;rw[jC];exact⟨d,S',yR rfl e,n,p'⟩
theorem eI (ys:Ab D)(n:Ah)(h:n≤ys.length):zW ys (Aa (n:Aj)) none=ys.drop n:=by
 unfold zW;have h1:_H.sIx ys.length ys.length none=ys.length:=rfl;have h2:_H.sIx ys.length 0 (Aa (n:Aj))=min n ys.length:=by
  show (if (n:Aj)<0 then ((n:Aj)+(ys.length:Aj)).toNat else min (n:Aj).toNat ys.length)=_
  rw[Bc om,Fl]
 rw[h1,h2,Si h];exact Jj (by rw[Hg];exact Bd _)
theorem VP (ys:Ab D)(h:1≤ys.length):(zW ys (Aa (-1)) none).length≤1:=by
 unfold zW;have h1:_H.sIx ys.length ys.length none=ys.length:=rfl;have h2:_H.sIx ys.length 0 (Aa (-1))=ys.length-1:=by
  show (if (-1:Aj)<0 then ((-1:Aj)+(ys.length:Aj)).toNat else min (-1:Aj).toNat ys.length)=_
  rw[AT om];omega
 rw[h1,h2,Ev];omega
theorem ZN (n:Ah):_H.stepN n (-1)=n:=by
 unfold _H.stepN _H.stepLo _H.stepHi Fy Fz;simp
 split <;> omega
theorem K5 {xs:Ab D}{k:Aj}{x:D}(h:x∈_H.stepL xs k):x∈xs:=by
 unfold _H.stepL at h;obtain⟨m,_,e⟩:=Iw.mp h;exact Ca e
theorem K7 {xs:Ab D}{k:Aj}(h:xs.all qW=true):(_H.stepL xs k).all qW=true:=Aq.mpr fun x hx=>Aq.mp h x (K5 hx)
theorem MT (xs:Ab D)(k:Aj)(f:DE)(env:qD)(i:Ah)(S:Sto)(hi:env[i]? = Aa (Aa (.tup xs)))(hf:f env S=.ok (.int k) S)(h:k≠0∧k≠1∧_H.stepN xs.length k≤lim):bT (qB i) f env S=.ok (.tup (_H.stepL xs k)) S:=by
 unfold bT;rw[qM (w5 hi) hf];exact AT h
theorem BU (k n:Ah)(hk:1≤k∧k≤8)(hn:n≤41)(env:qD)(S:Sto):qE wW (qA (qO false [none] (y0 (yW (qA (dC (.int (n:Aj))) (qC)))) (gNm 0) (z9) (qV (qT (qA (d2 yZ (qB 0) (dC (.int (k:Aj)))) (qA (d2 vT (qB 0) (dC (.int (k:Aj)))) (qC)))))) (qC)) env S=.ok (.tup ((Cy n).map fun i:Ah=>D.tup [.int ((i:Aj)/k),.int ((i:Aj) % k)])) S:=by
 have hr:=b9 (dC (.int (n:Aj))) n env S om rfl;have l2:2≤lim:=by decide
 have hc:=vB (enc:=iD) (cap:=[none]) (g:=gNm 0) (t:=z9) (fe:=qT (qA (d2 yZ (qB 0) (dC (.int (k:Aj)))) (qA (d2 vT (qB 0) (dC (.int (k:Aj)))) (qC)))) hr trivial (fun _=>true) (fun i:Ah=>.tup [.int ((i:Aj)/k),.int ((i:Aj) % k)]) (fun env=>∃ a,env=[a]) ⟨none,rfl⟩ (by rw[Fm];unfold lim;omega)
  (fun i _ env ⟨a,q⟩=>by
   subst q;exact⟨[Aa (iD i)],rfl,⟨_,rfl⟩,rfl,fun _=>zP (zM ((qM (a:=.int (i:Aj)) (b:=.int (k:Aj)) rfl rfl).trans (jV _ _ _ om)) ((qM (a:=.int (i:Aj)) (b:=.int (k:Aj)) rfl rfl).trans (uY _ _ _ om))) l2⟩)
 rw[wX] at hc;exact(wF hc).trans rfl
theorem UJ (k n:Ah)(hk:1≤k∧k≤8)(hn:n≤41):((Cy n).map fun i:Ah=>D.tup [.int ((i:Aj)/k),.int ((i:Aj) % k)]).all qW=true:=by
 rw[Ir,Aq];intro i hi;have hi:=Eg.mp hi;have h0:(0:Aj)<(k:Aj):=by omega
 have h1:=Jg (i:Aj) (show (k:Aj)≠0 by omega)
 have h2:=Hr (i:Aj) h0;have h3:(0:Aj)≤(i:Aj)/k:=Int.ediv_nonneg om om;have h4:(i:Aj)/k≤i:=Int.ediv_le_self _ om;exact fG om om
def bD (xs:Ab D)(b:D)(a:Ah):Ab D:=[b,b,.lst xs,.tup (_H.stepL xs (-1)),.tup (xs++zW xs (Aa (-1)) none),.tup (xs.take (a+1)++xs.drop a),.tup [],.non,.int 7,.str "0,0",.dct0]
theorem VC (xs:Ab D)(h:xs.all qW=true)(o:D)(ho:Pn o)(a:Ah):Pn (.tup (xs.take a++[o]++xs.drop (a+1))):=by
 refine cF fun z hz=>?_;rcases Cu.mp hz with hz|hz
 ·rcases Cu.mp hz with hz|hz
  ·exact nE (Aq.mp h z (Gz hz))
  ·rw[Fb.mp hz];exact ho
 ·exact nE (Aq.mp h z (Mt hz))
theorem WN (xs:Ab D)(h:xs.all qW=true)(b:D)(hb:Pn b)(a:Ah):∀ d∈bD xs b a,Pn d:=by
 intro d hd;simp only[bD,Av,Cj,Fe] at hd;rcases hd with rfl|rfl|rfl|rfl|rfl|rfl|rfl|rfl|rfl|rfl|rfl
 ·exact hb
 ·exact hb
 ·exact DQ fun x hx=>nE (Aq.mp h x hx)
 ·exact gS (K7 h)
 ·exact gS (jU h (PY xs _ _ h))
 ·exact gS (jU (Aq.mpr fun y hy=>Aq.mp h y (Gz hy)) (Aq.mpr fun y hy=>Aq.mp h y (Mt hy)))
 all_goals exact⟨_,rfl⟩
theorem uE {xs:Ab D}{k:Aj}{d:D}(h:_L.atI xs k=Aa d)(S:Sto):gIx (.tup xs) (.int k) S=.ok d S:=by
 show _D.vV (_L.atI xs k) S=_;rw[h];rfl
theorem JW (S:Sto)(p:Ah)(xs:Ab D)(h:zV S p)(hx:xs.all qW=true)(hl:1≤xs.length∧xs.length≤40):∃ (d:D) (S':Sto),S__law_no_lot [.loc p,.tup xs] S=.ok d S'∧Pn d∧xW d=false∧zV S' p:=by
 have key:Rt (b__law_no_lot [Aa (.loc p),Aa (.tup xs),none,none,none,none,none,none] S) fun d S'=>Pn d∧xW d=false∧zV S' p:=by
  unfold b__law_no_lot;obtain⟨w,S1,c1,hw,p1⟩:=y9 (S:=S) (i:=0) (f2:=dC (.int 14)) (env:=[Aa (.loc p),Aa (.tup xs),none,none,none,none,none,none]) (m:=14) h om rfl rfl;obtain⟨a,S2,c2,ha,p2⟩:=y9 (S:=S1) (i:=0) (f2:=qE zH (qA (qB 1) (qC))) (env:=[Aa (.loc p),Aa (.tup xs),none,none,none,none,none,none]) (m:=(xs.length:Aj)) p1 om rfl ((wF (f1:=qB 1) rfl).trans (j1 xs S1));refine qU (tY c1 c2 ?_);clear c1 c2;simp only[Bx,By];have l1:1≤lim:=by decide
  have l3:3≤lim:=by decide
  have l11:11≤lim:=by decide
  have ha':a<xs.length:=by omega
  obtain⟨q,hq,hq'⟩:=pS xs (a:Aj) ⟨by omega,ha⟩
  obtain⟨x,y,rfl,bx,by'⟩:=bG (Aq.mp hx q hq');obtain⟨o,S3,c3,ho,_,p3⟩:=nM S2 p x y p2 bx by';have s1:dSl (qB 1) (zE) (qY (qB 3)) [Aa (.loc p),Aa (.tup xs),Aa (.int (w:Aj)),Aa (.int (a:Aj)),none,none,none,none] S2=.ok (.tup (xs.take a)) S2:=by
   show Res.ok (D.tup (zW xs none (Aa (a:Aj)))) S2=_;rw[gK]
  have s2:dSl (qB 1) (qY (d2 qR (qB 3) (dC (.int 1)))) (zE) [Aa (.loc p),Aa (.tup xs),Aa (.int (w:Aj)),Aa (.int (a:Aj)),none,none,none,none] S3=.ok (.tup (xs.drop (a+1))) S3:=by
   show Res.ok (D.tup (zW xs (Aa ((a:Aj)+1)) none)) S3=_;rw[show (a:Aj)+1=((a+1:Ah):Aj) by omega,eI xs (a+1) om]
  have s3:qT (qA (qG 2 S__law_no_point (qA (qB 0) (qA (d2 gIx (qB 1) (qB 3)) (qC)))) (qC)) [Aa (.loc p),Aa (.tup xs),Aa (.int (w:Aj)),Aa (.int (a:Aj)),none,none,none,none] S2=.ok (.tup [o]) S3:=
   zP (xS ((xP (a:=.loc p) (b:=pt0 x y) rfl ((qM (a:=.tup xs) (b:=.int (a:Aj)) rfl rfl).trans (uE hq S2))).trans c3)) l1
  have b1:(xs.take a).length+[o].length≤lim:=by
   rw[Ev];show _+1≤lim;unfold lim;omega
  have b2:(xs.take a++[o]).length+(xs.drop (a+1)).length≤lim:=by
   simp only[Br,Ev,Hg,Ci,Fu];unfold lim;omega
  refine qU (zX ((qM ((qM s1 s3).trans (wO b1 S3)) s2).trans (wO b2 S3)) rfl ?_);clear s1 s2 s3 c3;have hb:=VC xs hx o ho a;generalize D.tup (xs.take a++[o]++xs.drop (a+1))=b at hb;simp only[Bx,By];have i4:bT (qB 1) (d1 yJ (dC (.int 1))) [Aa (.loc p),Aa (.tup xs),Aa (.int (w:Aj)),Aa (.int (a:Aj)),Aa b,none,none,none] S3=.ok (.tup (_H.stepL xs (-1))) S3:=
   MT xs (-1) _ _ 1 S3 rfl rfl ⟨by omega,by omega,by rw[ZN];unfold lim;omega⟩
  have i5:d2 qR (qB 1) (dSl (qB 1) (qY (d1 yJ (dC (.int 1)))) (zE)) [Aa (.loc p),Aa (.tup xs),Aa (.int (w:Aj)),Aa (.int (a:Aj)),Aa b,none,none,none] S3=.ok (.tup (xs++zW xs (Aa (-1)) none)) S3:=
   (qM (a:=.tup xs) (b:=.tup (zW xs (Aa (-1)) none)) rfl rfl).trans (wO (by have:=VP xs hl.1;unfold lim;omega) S3)
  have t1:dSl (qB 1) (zE) (qY (d2 qR (qB 3) (dC (.int 1)))) [Aa (.loc p),Aa (.tup xs),Aa (.int (w:Aj)),Aa (.int (a:Aj)),Aa b,none,none,none] S3=.ok (.tup (xs.take (a+1))) S3:=by
   show Res.ok (D.tup (zW xs none (Aa ((a:Aj)+1)))) S3=_;rw[show (a:Aj)+1=((a+1:Ah):Aj) by omega,gK]
  have t2:dSl (qB 1) (qY (qB 3)) (zE) [Aa (.loc p),Aa (.tup xs),Aa (.int (w:Aj)),Aa (.int (a:Aj)),Aa b,none,none,none] S3=.ok (.tup (xs.drop a)) S3:=by
   show Res.ok (D.tup (zW xs (Aa (a:Aj)) none)) S3=_;rw[eI xs a om]
  have i6:=(qM t1 t2).trans (wO (by simp only[Ev,Hg];unfold lim;omega) S3)
  have z0:∀ env:qD,qT (qC) env S3=.ok (.tup []) S3:=fun env=>zP (QL _ _) (by show 0≤lim;decide)
  refine qU (zX (d:=.lst (bD xs b a)) (S1:=S3) (wG (zO rfl (zO rfl (zO (a:=.lst xs) rfl (zO i4 (zO i5 (zO i6 (zO (z0 _) (zO rfl (zO rfl (zO rfl (zO rfl (QL _ _)))))))))))) l11) rfl ?_);clear i4 i5 i6 t1 t2;have hno:=WN xs hx b hb a;have nl:(bD xs b a).length=11:=rfl;generalize bD xs b a=L at hno nl;simp only[Bx,By];refine qU (zX (BU 8 41 om om _ S3) rfl ?_);have gp:=UJ 8 41 om om;have gl:((Cy 41).map fun i:Ah=>D.tup [.int ((i:Aj)/(8:Ah)),.int ((i:Aj) % (8:Ah))]).length≤41:=by simp
  generalize ((Cy 41).map fun i:Ah=>D.tup [.int ((i:Aj)/(8:Ah)),.int ((i:Aj) % (8:Ah))])=G at gp gl;simp only[Bx,By];obtain⟨q0,hq0,hq0'⟩:=pS xs 0 ⟨by omega,by omega⟩
  have h3:zN (qA (qT (qA (qB 1) (qC))) (qA (qB 6) (qA (d2 gIx (qB 1) (dC (.int 0))) (qC)))) [Aa (.loc p),Aa (.tup xs),Aa (.int (w:Aj)),Aa (.int (a:Aj)),Aa b,Aa (.lst L),Aa (.tup G),none] S3=.ok (.lst [.tup [.tup xs],.tup G,q0]) S3:=
   wG (zO (zP (xS rfl) l1) (zM rfl ((qM (a:=.tup xs) (b:=.int 0) rfl rfl).trans (uE hq0 S3)))) l3
  have hall:∀ d∈L++[.tup [.tup xs],.tup G,q0],Pn d:=by
   intro d hd;rcases Cu.mp hd with hd|hd
   ·exact hno d hd
   ·simp only[Av,Cj,Fe] at hd
    rcases hd with rfl|rfl|rfl
    ·refine cF fun z hz=>?_
     rw[Fb.mp hz];exact gS hx
    ·exact gS gp
    ·exact nE (Aq.mp hx _ hq0')
  obtain⟨d,hd,hd'⟩:=pS (L++[.tup [.tup xs],.tup G,q0]) (w:Aj) ⟨by omega,by rw[Br,nl];show (w:Aj)<((11+3:Ah):Aj);omega⟩
  have td:=hall d hd';refine qU (zX ((qM ((qM rfl h3).trans (yY (by rw[nl];show 14≤lim;decide) S3)) rfl).trans (bZ hd S3)) rfl ?_)
  clear h3;simp only[Bx,By];have hi:=w9 ((j9 (f1:=qB 7) (env:=[Aa (.loc p),Aa (.tup xs),Aa (.int (w:Aj)),Aa (.int (a:Aj)),Aa b,Aa (.lst L),Aa (.tup G),Aa d]) (S:=S3) rfl).trans (YG d S3 td));cases hb':xW d with
  |true =>
   rw[hb'] at hi;refine x9 (zI (d:=.tup []) (S:=S3) ?_ ⟨gS rfl,rfl,p3⟩);unfold dIf;rw[hi];exact z0 [Aa (.loc p),Aa (.tup xs),Aa (.int (w:Aj)),Aa (.int (a:Aj)),Aa b,Aa (.lst L),Aa (.tup G),Aa d]
  |false =>
   rw[hb'] at hi;refine x9 (zI (d:=d) (S:=S3) ?_ ⟨td,hb',p3⟩);unfold dIf;rw[hi];rfl
 obtain⟨d,S',e,n,n',p'⟩:=key;rw[k9];exact⟨d,S',yR rfl e,n,n',p'⟩
theorem cU (v:Ac)(x:Au)(env:qD)(S:Sto):yS v (qA (dC (.str x)) (qC)) env S=.ex v .non env S:=by
 have l1:1≤lim:=by decide
 unfold yS;rw[xS (show dC (.str x) env S=.ok (.str x) S from rfl)]
 show (if ([D.str x]:Ab D).length≤lim then Out.ex v D.non env S else Out.bad)=_
 exact AT l1
theorem cG (F:DF)(v:Ac)(x:Au)(d:D)(b:As)(S:Sto)(h:F [d] S=.ok (.bl b) S):qQ 1 (sIf (zT (dTr (qG 1 F (qA (qB 0) (qC))))) (yS v (qA (dC (.str x)) (qC))) (zD)) [d] S=if b then .ok .non S else .ex v .non S:=by
 have ht:=jD (w9 ((j9 (f1:=qB 0) (env:=[Aa d]) (S:=S) rfl).trans h));show jN (sIf _ _ _ [Aa d] S)=_;unfold sIf;rw[ht];cases b with
 |true=>rfl
 |false =>
  show jN (yS v (qA (dC (.str x)) (qC)) [Aa d] S)=_;rw[cU];rfl
theorem jS (c:Cl)(d:D)(S:Sto)(h:Pn d):S_need_lot c [d] S=if xW d then .ok .non S else .ex (.ref c.NoLot) .non S:=by
 rw[pN];exact cG _ _ _ _ _ S (JU d S h)
theorem kK (c:Cl)(d:D)(S:Sto)(h:Pn d):S_need_point c [d] S=if qW d then .ok .non S else .ex (.ref c.NoPoint) .non S:=by
 rw[kW];exact cG _ _ _ _ _ S (nJ d S h)
abbrev Pt:=Aj × Aj
def pD (q:Pt):D:=.tup [.int q.1,.int q.2]
def kP (q:Pt):Ab Aj:=[q.1,q.2]
theorem lL:∀ {xs:Ab D},xs.all qW=true→∃ ps:Ab Pt,xs=ps.map pD
 |[],_=>⟨[],rfl⟩
 |d::ds,h=>by
  rw[Mk,Ay] at h;obtain⟨ps,rfl⟩:=lL h.2;obtain⟨x,y,rfl,_⟩:=bG h.1;exact⟨(x,y)::ps,rfl⟩
theorem DM (ps:Ab Pt):ps.map pD=(ps.map kP).map tpD:=by rw[Gv];rfl
theorem DD {ps:Ab Pt}(h:xW (.tup (ps.map pD))=true):(ps.map kP).Pairwise (fun a b=>_H.lexLt a b=true):=by
 have h':(decide (1≤(ps.map pD).length∧(ps.map pD).length≤40)&&(ps.map pD).all qW&&(match vR (ps.map pD) with|some ks=>upB ks|none=>false))=true:=h
 rw[Ay] at h';have h2:=h'.2;rw[DM,jH] at h2;exact(bM _).mp h2
theorem cR:∀ qs:Ab Pt,∃ l,kJ (qs.map pD)=Aa l
 |[]=>⟨[],rfl⟩
 |q::qs=>by
  obtain⟨l,e⟩:=cR qs;refine⟨.tuple [.int q.1,.int q.2]::l,?_⟩;show (pyD (pD q)).bind (fun x=>(kJ (qs.map pD)).map (x::·))=_
  rw[e];rfl
theorem R0 (qs:Ab Pt):Pn (.tup (qs.map pD)):=by
 obtain⟨l,e⟩:=cR qs;exact⟨.tuple l,by simp only[pyD,e,Rz]⟩
theorem GM (q:Pt):Pn (pD q):=⟨.tuple [.int q.1,.int q.2],rfl⟩
structure Lt (ps:Ab Pt):Prop where
 pt:(ps.map pD).all qW=true
 ne:1≤ps.length
 le:ps.length≤40
 lot:xW (.tup (ps.map pD))=true
theorem Lt.pn {ps:Ab Pt}(h:Lt ps):Pn (.tup (ps.map pD)):=R0 ps
theorem Lt.up {ps:Ab Pt}(h:Lt ps):(ps.map kP).Pairwise (fun a b=>_H.lexLt a b=true):=DD h.lot
theorem Lt.bd {ps:Ab Pt}(h:Lt ps){q:Pt}(hq:q∈ps):(-1000≤q.1∧q.1≤1000)∧(-1000≤q.2∧q.2≤1000):=by
 have:=Aq.mp h.pt (pD q) (Hf hq);obtain⟨x,y,e,hx,hy⟩:=bG this;unfold pD at e;injection e with e
 injection e with e1 e2
 injection e2 with e2 _
 cases e1;cases e2;exact⟨hx,hy⟩
theorem BY {q:Pt}(h:(-1000≤q.1∧q.1≤1000)∧(-1000≤q.2∧q.2≤1000)):qW (pD q)=true:=fG h.1 h.2
theorem LZ (ps:Ab Pt)(env:qD)(i:Ah)(S:Sto)(h:env[i]? = Aa (Aa (.tup (ps.map pD)))):dIt (qB i) env S=.ok (none,ps.map pD) S:=by
 unfold dIt;rw[w5 h];rfl
theorem uW {F:DF}{env:qD}{S:Sto}{i:Ah}{d:D}(h:env[i]? = Aa (Aa d))(hF:F [d] S=.ok .non S):yM (qG 1 F (qA (qB i) (qC))) env S=.nx env S:=by
 unfold yM;rw[(j9 (w5 h)).trans hF];rfl
theorem tB {F:DF}{env:qD}{S:Sto}{i:Ah}{d:D}{v:Ac}(h:env[i]? = Aa (Aa d))(hF:F [d] S=.ex v .non S):yM (qG 1 F (qA (qB i) (qC))) env S=.ex v .non env S:=by
 unfold yM;rw[(j9 (w5 h)).trans hF];rfl
theorem gR {f g:DS}{env env1:qD}{S S1:Sto}(h:f env S=.nx env1 S1):qL f g env S=g env1 S1:=by
 unfold qL;rw[h]
theorem bI {f g:DS}{env env1:qD}{S S1:Sto}{v:Ac}{x:D}(h:f env S=.ex v x env1 S1):qL f g env S=.ex v x env1 S1:=by
 unfold qL;rw[h]
def far (p q:Pt):Aj:=(p.1-q.1)*(p.1-q.1)+(p.2-q.2)*(p.2-q.2)
def jI (p:Pt):Prop:=-2000≤p.1∧p.1≤2000 ∧ -2000≤p.2∧p.2≤2000
theorem eY (p:Pt)(S:Sto):gIx (pD p) (.int 0) S=.ok (.int p.1) S:=rfl
theorem eZ (p:Pt)(S:Sto):gIx (pD p) (.int 1) S=.ok (.int p.2) S:=rfl
theorem CV (p q:Pt)(S:Sto)(hp:jI p)(hq:jI q):S_far_between [pD p,pD q] S=.ok (.int (far p q)) S:=by
 obtain⟨a1,a2,a3,a4⟩:=hp;obtain⟨b1,b2,b3,b4⟩:=hq;have m1:=u3 (p.1-q.1) (p.1-q.1) S ⟨by omega,by omega⟩
 have m2:=u3 (p.2-q.2) (p.2-q.2) S ⟨by omega,by omega⟩
 rw[kA];unfold b_far_between;simp[qQ,uO,FS,OU,OT,qL,sIf,qX,zD,yM,zC,gNm,gSb,gTp,qZ,xQ,pG,IY,qAC,AS,dC,qB,d1,d2,qA,qC,qE,qG,dTr,zT,y8,z9,vL,QJ,dIf,xR,qT,zN,mY,dBm,dSl,qY,zE,wN,yW,Res.bind,Res.toS,_D.uN,_D.vV,OW,OV,EE,qAD,OY,OZ,qAA,OX,OS,OR,LX,gLt,gLe,gGt,gGe,_D.xA,rF,eY,eZ,m1,m2,wB,far]
theorem NH (xs:Ab D)(i:Ah):zW xs (Aa ((i:Aj)+1)) none=xs.drop (i+1):=by
 unfold zW;have e1:_H.sIx xs.length 0 (Aa ((i:Aj)+1))=min (i+1) xs.length:=by
  have:((i:Aj)+1)=((i+1:Ah):Aj):=by omega
  rw[this,_H.sIx_nat]
 rw[e1,_H.sIx_none];by_cases h:i+1≤xs.length
 ·rw[Si h,Jj (by simp)]
 ·have:xs.drop (i+1)=[]:=Je om
  rw[this,Xk om];simp
def wA:Ab Pt→Ab (Pt × Pt)
 |[]=>[]
 |p::ps=>ps.map (fun q=>(p,q))++wA ps
set_option tactic.hygienic true in
theorem MV {l:Ab Aj}{k x:Aj}:x∈Cr l k↔x∈l∨x=k:=by
 unfold Cr
 split
 ·rename_i h
  simp at h;constructor
  ·exact fun z=>.inl z
  ·rintro (z|rfl)
   ·exact z
   ·exact h
 ·simp
theorem MU {l:Ab Aj}{k:Aj}(h:k∈l):Cr l k=l:=by
 unfold Cr;rw[AT (by simpa using h)]
theorem K6 {l:Ab Aj}{k:Aj}(h:k ∉ l):Cr l k=l++[k]:=by
 unfold Cr;rw[Bc (by simpa using h)]
theorem UE {ks:Ab Aj}:∀ {l:Ab Aj} {x:Aj},x∈ks.foldl Cr l↔x∈l∨x∈ks:=by
 induction ks with
 |nil=>intro l x;simp
 |cons k ks ih =>
  intro l x;rw[Km,ih,MV,Av];constructor
  ·rintro ((h|h)|h)
   ·exact .inl h
   ·exact .inr (.inl h)
   ·exact .inr (.inr h)
  ·rintro (h|h|h)
   ·exact .inl (.inl h)
   ·exact .inl (.inr h)
   ·exact .inr h
theorem UD {ks:Ab Aj}:∀ {l:Ab Aj},(ks.foldl Cr l).length≤l.length+ks.length:=by
 induction ks with
 |nil=>intro l;simp
 |cons k ks ih =>
  intro l;rw[Km];have h1:=ih (l:=Cr l k);have h2:(Cr l k).length≤l.length+1:=by
   unfold Cr
   split <;> simp
  rw[Ci];omega
set_option tactic.hygienic true in
theorem BP:∀ (ks l:Ab Aj),l.Nodup→(ks.foldl Cr l).Nodup:=by
 intro ks
 induction ks with
 |nil=>exact fun l h=>h
 |cons k ks ih =>
  intro l h;rw[Km];apply ih;unfold Cr
  split
  ·exact h
  ·rename_i hn
   rw[Pg];refine⟨h,by simp,?_⟩
   intro a ha b hb hab;simp at hb hn;subst hb;subst hab;exact hn ha
theorem VA (l:Ab Pt):(wA l).length≤l.length*l.length:=by
 induction l with
 |nil=>simp[wA]
 |cons p l ih =>
  have e:(p::l).length*(p::l).length=l.length*l.length+l.length+l.length+1:=by
   simp only[Ci,Nat.add_mul,Nat.mul_add];omega
  rw[e];simp only[wA,Br,Ar];omega
theorem R5 {S S':Sto}(h:∀ m,m<S.length→S'[m]? = S[m]?):S<+:S':=by
 rw[List.prefix_iff_getElem?];intro i hi;rw[h i hi,An hi]
theorem rR {l:Ab Pt}{x:Pt × Pt}(h:x∈wA l):x.1∈l∧x.2∈l:=by
 induction l with
 |nil=>simp[wA] at h
 |cons p l ih =>
  simp only[wA,Cu,Bt] at h;rcases h with⟨q,hq,rfl⟩|h
  ·exact⟨Cs ..,Bl _ hq⟩
  ·exact⟨Bl _ (ih h).1,Bl _ (ih h).2⟩
theorem Z8 {l:Ab Pt}(h:l.length≤41):(wA l).length<4000:=by
 have h1:=VA l;have h2:l.length*l.length≤41*41:=Nat.mul_le_mul h h;omega
theorem bK (n:Ah)(p:Pt):trb (n+1) (pD p)=true:=by cases n <;> rfl
theorem MZ (n:Ah)(l:Ab Pt):trb (n+2) (.tup (l.map pD))=true:=Aq.mpr fun x hx=>by
 obtain⟨p,_,rfl⟩:=Bt.mp hx;exact bK n p
theorem eD:∀ a b:Ab Pt,yU (a.map pD) (b.map pD)=true
 |[],_=>rfl
 |_::_,[]=>rfl
 |p::a,q::b=>by
  show (yI (pD p) (pD q)&&yU (a.map pD) (b.map pD))=true;rw[eD a b];rfl
theorem bW (p q:Pt):eqD (pD p) (pD q)=decide (p=q):=by
 show (p.1 == q.1&&(p.2 == q.2&&true))=_;rw[Ks];simp[Prod.ext_iff]
theorem rJ (n:Ah)(p:Pt):pl (n+1) (pD p)=true:=by cases n <;> rfl
theorem GB (p q:Pt)(S:Sto):gNe (pD p) (pD q) S=.ok (.bl (decide (p≠q))) S:=by
 unfold gNe;rw[show pl zZ (pD p)=true from rJ 29 p,show pl zZ (pD q)=true from rJ 29 q,bW]
 simp
def oth (l:Ab Pt)(p:Pt):Ab Pt:=l.filter fun q=>decide (q≠p)
def at' (p:Pt)(qs:Ab Pt)(n:Aj):Ab Pt:=qs.filter fun q=>far p q == n
def ded (p:Pt)(qs:Ab Pt):Ab Aj:=(qs.map (far p)).foldl Cr []
def kvO (p:Pt)(qs:Ab Pt):Ab (_L.Key × D):=(ded p qs).map fun n=>(Ig n,D.tup ((at' p qs n).map pD))
def ns (p:Pt)(qs:Ab Pt):Ab Aj:=_S.srt _S.ltI (qs.map (far p))
def rD (x:Aj × Ab Pt):D:=.tup [.int x.1,.tup (x.2.map pD)]
def rg (p:Pt)(qs:Ab Pt):Ab (Aj × Ab Pt):=(ns p qs).map fun n=>(n,at' p qs n)
theorem iG {p:Pt}{qs:Ab Pt}{n:Aj}:n∈ded p qs↔n∈qs.map (far p):=by
 unfold ded;rw[UE];simp
theorem NW (p:Pt)(qs:Ab Pt):(ded p qs).Nodup:=BP _ _ Yp
theorem iF (p:Pt)(qs:Ab Pt):(ded p qs).length≤qs.length:=by
 have:=UD (ks:=qs.map (far p)) (l:=[]);simpa [ded] using this
theorem PF {p:Pt}{qs:Ab Pt}{n:Aj}(h:n ∉ qs.map (far p)):at' p qs n=[]:=by
 unfold at';rw[List.filter_eq_nil_iff];intro q hq e;exact h (Bt.mpr ⟨q,hq,by simpa using e⟩)
theorem oW (f:Aj→D)(n:Aj):∀ ds:Ab Aj,uS (ds.map fun m=>(Ig m,f m)) (.inl n)=if n∈ds then Aa (f n) else none
 |[]=>rfl
 |d::ds=>by
  have ih:=oW f n ds;unfold uS at *;rw[Df,Ia];by_cases h:d=n
  ·subst h
   simp
  ·have:decide ((Ig d:_L.Key)=.inl n)=false:=Bu fun e=>h (Wq e)
   rw[this];simp only;rw[ih];simp[Ea h]
set_option tactic.hygienic true in
theorem tR (p:Pt)(qs:Ab Pt)(n:Aj):(uS (kvO p qs) (.inl n)).getD (.tup []) = .tup ((at' p qs n).map pD):=by
 unfold kvO;rw[oW (fun n=>D.tup ((at' p qs n).map pD)) n]
 split
 ·rfl
 ·rename_i h
  rw[PF fun z=>h (iG.mpr z)];rfl
theorem M4 (f:Aj→D)(n:Aj)(d:D)(ds:Ab Aj):jO (ds.map fun m=>(Ig m,f m)) (.inl n) d=(if n∈ds then ds else ds++[n]).map fun m=>(Ig m,if m=n then d else f m):=by
 unfold jO;have hany:((ds.map fun m=>((Ig m:_L.Key),f m)).any fun kv=>decide (kv.1=.inl n))=decide (n∈ds):=by
  rw[Qv,Ks,Xl,Cm];constructor
  ·rintro⟨m,hm,e⟩
   have:(Ig m:_L.Key)=.inl n:=by simpa using e
   cases this;exact hm
  ·intro h
   exact⟨n,h,by simp⟩
 rw[hany];by_cases h:n∈ds
 ·rw[AT (by simpa using h),AT h,Gv]
  apply Io;intro m _;show (if (Ig m:_L.Key)=.inl n then _ else _)=_
  by_cases e:m=n
  ·subst e;simp
  ·rw[Bc fun z=>e (Wq z),Bc e]
 ·rw[Bc (by simpa using h),Bc h,Jk]
  congr 1
  ·apply Io
   intro m hm;rw[Bc];rintro rfl;exact h hm
  ·simp
set_option tactic.hygienic true in
theorem D9 (p:Pt)(qs:Ab Pt)(q:Pt):jO (kvO p qs) (.inl (far p q)) (.tup ((at' p qs (far p q)).map pD++[pD q]))=kvO p (qs++[q]):=by
 unfold kvO;rw[M4 (fun n=>D.tup ((at' p qs n).map pD))];have e:ded p (qs++[q])=if far p q∈ded p qs then ded p qs else ded p qs++[far p q]:=by
  unfold ded;rw[Jk,List.foldl_append];show Cr _ (far p q)=_
  split
  ·rename_i h;exact MU h
  ·rename_i h;exact K6 h
 rw[e];apply Io;intro m _;have ea:at' p (qs++[q]) m=at' p qs m++if far p q=m then [q] else []:=by
  unfold at';rw[Iy]
  congr 1
  by_cases h:far p q=m
  ·simp[h]
  ·simp[h]
 rw[ea];by_cases h:m=far p q
 ·subst h
  rw[AT rfl,AT rfl,Jk];rfl
 ·rw[Bc h,Bc (Ea h),Ft]
theorem CT {a b:Aj}(h:a<b)(x y:Ab Pt):ltN (rD (a,x)) (rD (b,y))=true:=by
 unfold rD;rw[gN,yH (n:=0) (m:=0) (.int _ _) (.int _ _) rfl,Bc,gM]
 ·exact Cn h
 ·show ¬ (a == b)=true
  simp;omega
theorem DH {a b:D}(h:ltN a b=true):ltN b a=false:=by
 cases q:ltN b a with
 |false=>rfl
 |true=>exact absurd (_S.xU.tr h q) (by rw[_S.xU.irr];simp)
theorem GV (x:Aj × Ab Pt):trb 6 (rD x)=true:=by
 show (true&&(trb 5 (.tup (x.2.map pD))&&true))=true;rw[MZ 3];rfl
theorem EV (x y:Aj × Ab Pt):yI (rD x) (rD y)=true:=by
 show (true&&(yU (x.2.map pD) (y.2.map pD)&&true))=true;rw[eD];rfl
theorem tQ (p:Pt)(qs:Ab Pt):yK (kvO p qs)=((ded p qs).map fun n=>(n,at' p qs n)).map rD:=by
 unfold yK kvO;rw[Gv,Gv];rfl
theorem cI {p:Pt}{qs:Ab Pt}{n:Aj}:n∈ns p qs↔n∈qs.map (far p):=_S.vJ _S.JD n _
theorem GF (p:Pt)(qs:Ab Pt):(ns p qs).Pairwise fun a b=>a<b:=(_S.jF _S.JD _).imp fun h=>Bw h
theorem GE (p:Pt)(qs:Ab Pt):(ns p qs).Nodup:=(GF p qs).imp fun h=>Int.ne_of_lt h
theorem YQ (p:Pt)(qs:Ab Pt):bJ (yK (kvO p qs))=(rg p qs).map rD:=by
 rw[tQ];refine MS (n:=6) (fun x hx=>?_) ?_ ?_
 ·obtain⟨y,_,rfl⟩:=Bt.mp hx
  exact rO (GV y)
 ·refine Zl _ (Zl _ ((Ot (GE p qs) (NW p qs)).mpr fun n=>?_))
  rw[cI,iG]
 ·unfold rg
  rw[Gb,Gb];exact(GF p qs).imp fun h=>DH (CT h _ _)
theorem oA (a:Ab Pt)(q p:Pt):oth (a++[q]) p=if q=p then oth a p else oth a p++[q]:=by
 unfold oth;rw[Iy];by_cases h:q=p
 ·simp[h]
 ·simp[h]
theorem E6 {S:Sto}{j:Ah}{kvs:Ab (_L.Key × D)}(h:S[j]? = Aa (.dct kvs))(hl:kvs.length<lim)(n:Aj)(d:D):vO (.loc j) (.int n) d S=.ok () (S.set j (.dct (jO kvs (.inl n) d))):=by
 show (match S[j]? with|some (.dct kvs)=>(match jM (.int n) with|some k=>(if kvs.length<lim then Res.ok () (S.set j (.dct (jO kvs k d))) else .bad)|none=>.bad)|_=>mC (.loc j) (.int n) d S)=_
 rw[h];exact AT hl
theorem LV {S:Sto}{j:Ah}{kvs:Ab (_L.Key × D)}(h:S[j]? = Aa (.dct kvs))(n:Aj)(x:D):b5 (.loc j) [.int n,x] S=.ok ((uS kvs (.inl n)).getD x) S:=by
 show (match S[j]? with|some (.dct kvs)=>(match jM (.int n) with|some k=>Res.ok ((uS kvs k).getD x) S|none=>.bad)|_=>.bad)=_
 rw[h];rfl
theorem Q9 {ty:Du}{g:D→Ab D→Sto→Res D}{fo:DE}{fa:DA}{env:qD}{S S1 S2:Sto}{o:D}{ds:Ab D}(h1:fo env S=.ok o S1)(ht:tyD o S1=Aa ty)(h2:fa env S1=.ok ds S2):dBm ty g fo fa env S=g o ds S2:=by
 unfold dBm;rw[h1,Res.bind_ok,ht,AT (by simp),h2,Res.bind_ok]
theorem A4 {f o i:DE}{h:G3}{env:qD}{S S1 S2 S3 S4:Sto}{d a b:D}(h1:f env S=.ok d S1)(h2:o env S1=.ok a S2)(h3:i env S2=.ok b S3)(h4:h a b d S3=.ok () S4):zC f (gSb o i h) env S=.nx env S4:=by
 simp only[zC,gSb,h1,h2,h3,h4,Res.toS,Res.bind]
theorem NK {S:Sto}{n:Ah}{kvs:Ab (_L.Key × D)}(h:S[n]? = Aa (.dct kvs)):bU (.loc n) S=Aa kvs:=by
 show (match S[n]? with|some (.dct kvs)=>Aa kvs|_=>none)=_
 rw[h]
inductive IvR (l:Ab Pt)(p:Pt)(S:Sto)(ds:Ab D)(env:qD)(S':Sto):Prop
 |mk (a b:Ab Pt) (e3 e4:Am D) (h_0:a++b=l) (h_1:ds=b.map pD) (h_2:env=[Aa (.tup (l.map pD)),Aa (pD p),Aa (.loc S.length),e3,e4]) (h_3:S'[S.length]? = Aa (.dct (kvO p (oth a p)))) (h_4:∀ m,m<S.length→S'[m]? = S[m]?):IvR l p S ds env S'
theorem lT (l:Ab Pt)(p:Pt)(S:Sto)(hok:∀ q∈l,jI q)(hp:jI p)(hl:l.length≤40):∃ (j:Ah) (S':Sto),S_rings [.tup (l.map pD),pD p] S=.ok (.loc j) S'∧S'[j]? = Aa (.lst ((rg p (oth l p)).map rD))∧S.length≤j∧S<+:S':=by
 have key:Rt (b_rings [Aa (.tup (l.map pD)),Aa (pD p),none,none,none] S) fun d S'=>∃ j,d=.loc j∧S'[j]? = Aa (.lst ((rg p (oth l p)).map rD))∧S.length≤j∧S<+:S':=by
  unfold b_rings;have l1:1≤lim:=by decide
  have l0:0≤lim:=by decide
  refine qU (xY (zI rfl ?_));simp only[Bx,By];refine qU (uI (ds:=l.map pD) (S1:=S++[.dct []]) rfl ?_);refine vH (IvR l p S) ?_ ?_ ⟨[],l,none,none,rfl,rfl,rfl,by simp;rfl,fun m hm=>Cd hm⟩
  ·rintro d ds env S' ⟨a,b,e3,e4,hab,hds,rfl,hd,hpre⟩
   cases b with
   |nil=>cases hds
   |cons q b =>
    injection hds with h1 h2
    subst h1 h2;have hql:q∈l:=by rw[← hab];simp
    have hlen:(oth a p).length≤40:=by
     have h1:=Ec (fun q=>decide (q≠p)) a;have h2:=congrArg Mb hab;rw[Br] at h2;show (a.filter _).length≤40;omega
    refine⟨[Aa (.tup (l.map pD)),Aa (pD p),Aa (.loc S.length),Aa (pD q),e4],S',rfl,?_⟩;refine xK (b:=decide (q≠p)) (S1:=S') (w9 ((qM (a:=pD q) (b:=pD p) rfl rfl).trans (GB q p S'))) ?_;by_cases hqp:q=p
    ·rw[Bc (by simpa using hqp)]
     refine zU rfl ⟨a++[q],b,_,_,by rw[← hab];simp,rfl,rfl,?_,hpre⟩
     rw[oA,AT hqp];exact hd
    ·rw[AT (by simpa using hqp)]
     refine xO (xY (zI ((xP (a:=pD p) (b:=pD q) rfl rfl).trans (CV p q S' hp (hok q hql))) ?_));simp only[Bx,By];have g1:=(Q9 (ty:="dict") (g:=b5) (fo:=qB 2) (env:=[Aa (.tup (l.map pD)),Aa (pD p),Aa (.loc S.length),Aa (pD q),Aa (.int (far p q))]) (S:=S') (o:=.loc S.length) rfl (YY hd) (zM (f1:=qB 4) (a:=.int (far p q)) rfl (zP (g:=qC) (as:=[]) rfl l0))).trans (LV hd (far p q) (.tup []));rw[tR] at g1;have hat:((at' p (oth a p) (far p q)).map pD).length+[pD q].length≤lim:=by
      rw[Ar];have h1:=Ec (fun r=>far p r == far p q) (oth a p);show (Xm _ _).length+1≤lim;unfold lim;omega
     have g2:=(qM g1 (zP (xS (f1:=qB 3) (a:=pD q) rfl) l1)).trans (wO hat S');refine zU (A4 g2 (a:=.loc S.length) (b:=.int (far p q)) rfl rfl (E6 hd ?_ _ _)) ?_
     ·have:=iF p (oth a p)
      unfold kvO;rw[Ar];unfold lim;omega
     ·have hlt:=(Ba.mp hd).1
      refine⟨a++[q],b,_,_,by rw[← hab];simp,rfl,rfl,?_,fun m hm=>?_⟩
      ·rw[oA,Bc hqp,← D9,En hlt]
      ·rw[Ek om]
       exact hpre m hm
  ·rintro env S' ⟨a,b,e3,e4,hab,hds,rfl,hd,hpre⟩
   cases b with
   |cons _ _=>cases hds
   |nil =>
    have:a=l:=by simpa using hab
    subst this;have hlt:=(Ba.mp hd).1;have hsz:(yK (kvO p (oth a p))).length≤63:=by
     have h1:=iF p (oth a p);have h2:=Ec (fun q=>decide (q≠p)) a;rw[tQ,Ar,Ar];have h3:(oth a p).length≤a.length:=h2;omega
    have hs:bS (qB 2) [Aa (.tup (a.map pD)),Aa (pD p),Aa (.loc S.length),e3,e4] S'=.ok (.loc S'.length) (S'++[.lst ((rg p (oth a p)).map rD)]):=by
     show (match bU (.loc S.length) S' with|some kvs=>if (decide ((yK kvs).length≤63)&&sOk (yK kvs))=true then Res.ok (D.loc S'.length) (S'++[MO.lst (bJ (yK kvs))]) else .bad|none=>.bad)=_
     rw[NK hd];dsimp only;rw[AT,YQ];rw[Ay,Cm];refine⟨hsz,Aq.mpr fun x hx=>?_⟩;rw[tQ] at hx;obtain⟨y,_,rfl⟩:=Bt.mp hx;rw[GV,Ud,Ay];refine⟨rfl,Aq.mpr fun z hz=>?_⟩;rw[tQ] at hz;obtain⟨w,_,rfl⟩:=Bt.mp hz;exact EV y w
    refine x9 (zI hs ⟨S'.length,rfl,by simp,by omega,(R5 hpre).trans (Hn _ _)⟩)
 obtain⟨d,S',e,j,rfl,h1,h2,h3⟩:=key;refine⟨j,S',?_,h1,h2,h3⟩;rw[mW];exact yR rfl e
def prD (x:Pt × Pt):D:=.tup [pD x.1,pD x.2]
theorem KW (i:Aj)(h:i.natAbs<2 ^ 64)(S:Sto):uZ (.int i) (.int 2) S=.ok (.int (i*i)) S:=by
 unfold uZ;rw[LX,AT (by unfold N5;exact Cn ⟨by omega,by omega,h⟩)]
 show Res.ok (D.int (i ^ (0+1+1))) S=_;rw[dL,dL,Int.pow_zero,Int.one_mul]
theorem nK (p q:Pt)(S:Sto)(hp:jI p)(hq:jI q):S__law_far [pD p,pD q] S=.ok (.int (far p q)) S:=by
 obtain⟨a1,a2,a3,a4⟩:=hp;obtain⟨b1,b2,b3,b4⟩:=hq;rw[pJ];have sub:∀ (i j:Aj),xA (.int i) (.int j) S=.ok (.int (i-j)) S:=fun _ _=>rfl;have k1:d2 uZ (d2 xA (d2 gIx (qB 0) (dC (.int 0))) (d2 gIx (qB 1) (dC (.int 0)))) (dC (.int 2)) [Aa (pD p),Aa (pD q)] S=.ok (.int ((p.1-q.1)*(p.1-q.1))) S:=
  (qM ((qM ((qM (a:=pD p) (b:=.int 0) rfl rfl).trans (eY p S)) ((qM (a:=pD q) (b:=.int 0) rfl rfl).trans (eY q S))).trans (sub _ _)) rfl).trans (KW _ om S)
 have k2:d2 uZ (d2 xA (d2 gIx (qB 0) (dC (.int 1))) (d2 gIx (qB 1) (dC (.int 1)))) (dC (.int 2)) [Aa (pD p),Aa (pD q)] S=.ok (.int ((p.2-q.2)*(p.2-q.2))) S:=
  (qM ((qM ((qM (a:=pD p) (b:=.int 1) rfl rfl).trans (eZ p S)) ((qM (a:=pD q) (b:=.int 1) rfl rfl).trans (eZ q S))).trans (sub _ _)) rfl).trans (KW _ om S)
 exact lZ (env:=[Aa (pD p),Aa (pD q)]) rfl ((qM k1 k2).trans (wB _ _ S))
inductive IvP (l:Ab Pt)(S0:Sto)(ds:Ab D)(env:qD)(S:Sto):Prop
 |mk (i m:Ah) (e2:Am D) (done:Ab (Pt × Pt)) (h_0:env=[Aa (.tup (l.map pD)),Aa (.lst (done.map prD)),e2]) (h_1:ds=(wE i m).map iD) (h_2:i+m=l.length) (h_3:done++wA (l.drop i)=wA l) (h_4:S=S0):IvP l S0 ds env S
theorem JV (l:Ab Pt)(S:Sto)(hl:l.length≤41):S__law_pairs [.tup (l.map pD)] S=.ok (.lst ((wA l).map prD)) S:=by
 have hA:=Z8 hl;have key:Rt (b__law_pairs [Aa (.tup (l.map pD)),none,none] S) fun d S'=>d=.lst ((wA l).map prD)∧S'=S:=by
  unfold b__law_pairs;refine qU (zX (d:=.lst []) (S1:=S) rfl rfl ?_);have hr:yW (qA (qE zH (qA (qB 0) (qC))) (qC)) [Aa (.tup (l.map pD)),Aa (.lst []),none] S=.ok ((wE 0 l.length).map iD) S:=by
   have e1:qE zH (qA (qB 0) (qC)) [Aa (.tup (l.map pD)),Aa (.lst []),none] S=.ok (.int (l.length:Aj)) S:=by
    rw[wF (a:=.tup (l.map pD)) rfl,j1,Ar]
   unfold yW;rw[xS e1,Res.bind_ok,oJ l.length om,sM,List.range_eq_range']
  refine qU (uI hr ?_);refine vH (IvP l S) ?_ ?_ ⟨0,l.length,none,[],rfl,rfl,by omega,rfl,rfl⟩
  ·rintro d ds env S' ⟨i,m,e2,done,rfl,hds,hm,hall,rfl⟩
   cases m with
   |zero=>cases hds
   |succ m =>
    rw[List.range'_succ,Df] at hds;injection hds with h1 h2
    subst h1 h2;have hi:i<l.length:=by omega
    have hdr:l.drop i=l[i]::l.drop (i+1):=Ib hi;rw[hdr] at hall;refine⟨[Aa (.tup (l.map pD)),Aa (.lst (done.map prD)),Aa (iD i)],S',rfl,?_⟩;have hsl:dIt (dSl (qB 0) (qY (d2 qR (qB 2) (dC (.int 1)))) (zE)) [Aa (.tup (l.map pD)),Aa (.lst (done.map prD)),Aa (iD i)] S'=.ok (none,(l.drop (i+1)).map pD) S':=by
     have e1:gSl (.tup (l.map pD)) (Aa ((i:Aj)+1)) none S'=.ok (.tup ((l.drop (i+1)).map pD)) S':=by
      show Res.ok (D.tup (zW (l.map pD) (Aa ((i:Aj)+1)) none)) S'=_;rw[NH,← Ul]
     unfold iD;have e2:dSl (qB 0) (qY (d2 qR (qB 2) (dC (.int 1)))) (zE) [Aa (.tup (l.map pD)),Aa (.lst (done.map prD)),Aa (.int (i:Aj))] S'=.ok (.tup ((l.drop (i+1)).map pD)) S':=by
      simp[qQ,uO,FS,OU,OT,qL,sIf,qX,zD,yM,zC,gNm,gSb,gTp,qZ,xQ,pG,IY,qAC,AS,dC,qB,d1,d2,qA,qC,qE,qG,dTr,zT,y8,z9,vL,QJ,dIf,xR,qT,zN,mY,dBm,dSl,qY,zE,wN,yW,Res.bind,Res.toS,_D.uN,_D.vV,OW,OV,EE,qAD,OY,OZ,qAA,OX,OS,OR,LX,gLt,gLe,gGt,gGe,_D.xA,rF,wB,e1]
     unfold dIt;rw[e2];rfl
    have hat:_L.atI (l.map pD) (i:Aj)=Aa (pD l[i]):=_L.PD (by rw[Dm,An hi];rfl)
    have hc:=vB (enc:=pD) (cap:=[none,Aa 2,Aa 0]) (g:=gNm 0) (t:=z9) (fe:=qT (qA (d2 gIx (qB 2) (qB 1)) (qA (qB 0) (qC)))) hsl trivial (fun _=>true) (fun q=>prD (l[i],q)) (fun env=>∃ a,env=[a,Aa (iD i),Aa (.tup (l.map pD))]) ⟨none,rfl⟩ (by rw[Hg];unfold lim;omega)
     (fun q hq env ⟨a,z⟩=>by
      subst z;exact⟨[Aa (pD q),Aa (iD i),Aa (.tup (l.map pD))],rfl,⟨_,rfl⟩,rfl,fun _=>zP (zM ((qM (a:=.tup (l.map pD)) (b:=.int (i:Aj)) rfl rfl).trans (uE hat S')) rfl) (by show 2≤lim;decide)⟩)
    rw[wX] at hc;have hlen:done.length+(l.drop (i+1)).length≤lim:=by
     have:=congrArg Mb hall;simp only[wA,Br,Ar] at this;unfold lim;omega
    refine zX ((qM (a:=.lst (done.map prD)) rfl hc).trans (yY (by rw[Ar,Ar];exact hlen) S')) rfl ?_
    refine⟨i+1,m,Aa (iD i),done++(l.drop (i+1)).map fun q=>(l[i],q),?_,rfl,by omega,?_,rfl⟩
    ·rw[Jk,Gv]
     rfl
    ·rw[Ej]
     exact hall
  ·rintro env S' ⟨i,m,e2,done,rfl,hds,hm,hall,rfl⟩
   have hm0:m=0:=by
    have:=congrArg Mb hds;simpa using this.symm
   rw[List.drop_of_length_le om,wA,Ft] at hall;subst hall;exact x9 (zI (S:=S') rfl ⟨rfl,rfl⟩)
 obtain⟨d,S',e,rfl,rfl⟩:=key;rw[kS];exact yR rfl e
theorem bP {f:DE}{env:qD}{S:Sto}{b:As}(h:f env S=.ok (.bl b) S):wJ (dTr f) z9 env S=.ok b S:=by
 unfold wJ;rw[w9 h];cases b <;> rfl
theorem j3 (l:Ab Pt)(p:Pt):(oth l p).length≤l.length:=Ec _ _
theorem WR (l:Ab Pt)(p:Pt)(env:qD)(i j:Ah)(S:Sto)(hl:l.length≤40)(hi:env[i]? = Aa (Aa (.tup (l.map pD))))(hj:env[j]? = Aa (Aa (pD p))):qO false [none,Aa j] (dIt (qB i)) (gNm 0) (wJ (dTr (d2 gNe (qB 0) (qB 1))) (z9)) (qV (qB 0)) env S=.ok (.lst ((oth l p).map pD)) S:=by
 have hs:xF [none,Aa j] env=[none,Aa (pD p)]:=by simp[xF,hj]
 exact vB (enc:=pD) (cap:=[none,Aa j]) (g:=gNm 0) (t:=wJ (dTr (d2 gNe (qB 0) (qB 1))) (z9)) (fe:=qB 0) (LZ l env i S hi) trivial (fun q=>decide (q≠p)) pD (fun env=>∃ a,env=[a,Aa (pD p)]) ⟨none,hs⟩ (by unfold lim;omega)
  (fun q hq env ⟨a,e⟩=>by
   subst e;exact⟨[Aa (pD q),Aa (pD p)],rfl,⟨_,rfl⟩,bP ((qM (a:=pD q) (b:=pD p) rfl rfl).trans (GB q p S)),fun _=>rfl⟩)
theorem tX (p:Pt)(qs:Ab Pt):(ns p qs).length≤qs.length:=by
 have:=fN _S.ltI (qs.map (far p))
 rwa [Ar] at this
theorem mL (l:Ab Pt)(p:Pt)(S:Sto)(hok:∀ q∈l,jI q)(hp:jI p)(hl:l.length≤40):S__law_rings [.tup (l.map pD),pD p] S=.ok (.lst ((rg p (oth l p)).map rD)) S:=by
 have ho:=j3 l p;have hoo:∀ q∈oth l p,jI q:=fun q hq=>hok q (Fq.mp hq).1;have key:Rt (b__law_rings [Aa (.tup (l.map pD)),Aa (pD p),none,none] S) fun d S'=>d=.lst ((rg p (oth l p)).map rD)∧S'=S:=by
  unfold b__law_rings;refine qU (xY (zI (WR l p _ 0 1 S hl rfl rfl) ?_));simp only[Bx,By];generalize oth l p=qs at ho hoo;have h2:=vB (enc:=pD) (cap:=[none,Aa 1]) (fi:=dIt (qB 2)) (g:=gNm 0) (t:=z9) (fe:=qG 2 (okO S__law_far) (qA (qB 1) (qA (qB 0) (qC)))) (env:=[Aa (.tup (l.map pD)),Aa (pD p),Aa (.lst (qs.map pD)),none]) (S:=S) (o:=none) rfl trivial (fun _=>true) (fun q=>D.int (far p q)) (fun env=>∃ a,env=[a,Aa (pD p)]) ⟨none,rfl⟩ (by unfold lim;omega)
   (fun q hq env ⟨a,e⟩=>by
    subst e;exact⟨[Aa (pD q),Aa (pD p)],rfl,⟨_,rfl⟩,rfl,fun _=>(xP (a:=pD p) (b:=pD q) rfl rfl).trans (uJ (nK p q S hp (hoo q hq)))⟩)
  rw[wX] at h2;have e2:(qs.map fun q=>D.int (far p q))=(qs.map (far p)).map D.int:=by rw[Gv];rfl
  rw[e2] at h2;have h3:xN (qO false [none,Aa 1] (dIt (qB 2)) (gNm 0) (z9) (qV (qG 2 (okO S__law_far) (qA (qB 1) (qA (qB 0) (qC)))))) [Aa (.tup (l.map pD)),Aa (pD p),Aa (.lst (qs.map pD)),none] S=.ok (.lst ((ns p qs).map D.int)) S:=by
   unfold xN;rw[h2,Res.bind_ok];have hz:(_S.srt _S.ltI (qs.map (far p))).length≤63:=by
    have:=tX p qs;show (ns p qs).length≤63;omega
   have:(mQ (.lst ((qs.map (far p)).map D.int))).bind wY=Aa ((ns p qs).map D.int):=by
    show wY ((qs.map (far p)).map D.int)=_;unfold wY;rw[b8];exact AT hz
   rw[this]
  refine qU (xY (zI h3 ?_));clear h2 h3;simp only[Bx,By];have l2:2≤lim:=by decide
  have h4:=vB (enc:=D.int) (cap:=[none,Aa 2,Aa 1]) (fi:=dIt (qB 3)) (g:=gNm 0) (t:=z9) (fe:=qT (qA (qB 0) (qA (qE wW (qA (qO false [none,Aa 0,Aa 2] (dIt (qB 1)) (gNm 0) (wJ (dTr (d2 gEq (qG 2 (okO S__law_far) (qA (qB 2) (qA (qB 0) (qC)))) (qB 1))) (z9)) (qV (qB 0))) (qC))) (qC)))) (env:=[Aa (.tup (l.map pD)),Aa (pD p),Aa (.lst (qs.map pD)),Aa (.lst ((ns p qs).map D.int))]) (S:=S) (o:=none) rfl trivial (fun _=>true) (fun n=>rD (n,at' p qs n)) (fun env=>∃ a,env=[a,Aa (.lst (qs.map pD)),Aa (pD p)]) ⟨none,rfl⟩ (by have:=tX p qs;unfold lim;omega)
   (fun n hn env ⟨a,e⟩=>by
    subst e;refine⟨[Aa (.int n),Aa (.lst (qs.map pD)),Aa (pD p)],rfl,⟨_,rfl⟩,rfl,fun _=>?_⟩;have hin:=vB (enc:=pD) (cap:=[none,Aa 0,Aa 2]) (fi:=dIt (qB 1)) (g:=gNm 0) (t:=wJ (dTr (d2 gEq (qG 2 (okO S__law_far) (qA (qB 2) (qA (qB 0) (qC)))) (qB 1))) (z9)) (fe:=qB 0) (env:=[Aa (.int n),Aa (.lst (qs.map pD)),Aa (pD p)]) (S:=S) (o:=none) rfl trivial (fun q=>far p q == n) pD (fun env=>∃ a,env=[a,Aa (.int n),Aa (pD p)]) ⟨none,rfl⟩ (by unfold lim;omega)
     (fun q hq env ⟨a,e⟩=>by
      subst e;refine⟨[Aa (pD q),Aa (.int n),Aa (pD p)],rfl,⟨_,rfl⟩,bP ((qM ((xP (a:=pD p) (b:=pD q) rfl rfl).trans (uJ (nK p q S hp (hoo q hq)))) (b:=.int n) rfl).trans ?_),fun _=>rfl⟩;rw[jW];rfl)
    exact zP (zM (a:=.int n) rfl ((wF hin).trans (rfl:wW [.lst ((at' p qs n).map pD)] S=.ok (.tup ((at' p qs n).map pD)) S))) l2)
  rw[wX] at h4;have e4:((ns p qs).map fun n=>rD (n,at' p qs n))=(rg p qs).map rD:=by unfold rg;rw[Gv];rfl
  rw[e4] at h4;exact x9 (zI h4 ⟨rfl,rfl⟩)
 obtain⟨d,S',e,rfl,rfl⟩:=key;rw[kU];exact yR rfl e
def thr (p:Pt)(qs:Ab Pt):Ab (Pt × Pt):=(wA qs).filter fun x=>far p x.1 == far p x.2
def thL (l:Ab Pt)(p:Pt):Ab (Pt × Pt × Pt):=(thr p (oth l p)).map fun x=>(p,x.1,x.2)
def T (l:Ab Pt):Ab (Pt × Pt × Pt):=l.flatMap (thL l)
def c2 (c:Ah):Aj:=(c:Aj)*((c:Aj)-1)/2
theorem PM (c:Ah):c2 (c+1)=c2 c+c:=by
 unfold c2;have e:((c+1:Ah):Aj)*(((c+1:Ah):Aj)-1)=(c:Aj)*((c:Aj)-1)+(c:Aj)*2:=by
  have:((c+1:Ah):Aj)=(c:Aj)+1:=by omega
  rw[this,Int.add_sub_cancel,Int.add_mul,Int.mul_sub];omega
 rw[e,Int.add_mul_ediv_right _ _ (by decide)]
def eqp:Ab Aj→Ah
 |[]=>0
 |x::l=>l.count x+eqp l
theorem oR {α : Type}(f g:α→Aj):∀ l:Ab α,(l.map fun x=>f x+g x).sum=(l.map f).sum+(l.map g).sum
 |[]=>rfl
 |x::l=>by
  simp only[Df,Ps,oR f g l];omega
theorem oS (x:Aj)(c:Aj):∀ ds:Ab Aj,ds.Nodup→(ds.map fun v=>if v=x then c else 0).sum=if x∈ds then c else 0
 |[],_=>rfl
 |d::ds,nd=>by
  obtain⟨h1,h2⟩:=HT.mp nd;rw[Df,Ps,oS x c ds h2];by_cases h:d=x
  ·subst h
   simp[h1]
  ·simp[h,Ea h]
theorem YR (ds:Ab Aj)(nd:ds.Nodup):∀ fs:Ab Aj,(∀ f∈fs,f∈ds)→(ds.map fun v=>c2 (fs.count v)).sum=(eqp fs:Aj)
 |[],_=>by
  show (ds.map fun v=>c2 0).sum=0;have:∀ l:Ab Aj,(l.map fun _=>c2 0).sum=0:=fun l=>by
   induction l with
   |nil=>rfl
   |cons x l ih=>rw[Df,Ps,ih];rfl
  exact this ds
 |x::fs,h=>by
  have ih:=YR ds nd fs fun f hf=>h f (by simp[hf])
  have e:(ds.map fun v=>c2 ((x::fs).count v))=ds.map fun v=>c2 (fs.count v)+if v=x then (fs.count x:Aj) else 0:=by
   apply Io;intro v _;rw[List.count_cons];by_cases hv:v=x
   ·subst hv
    simp only[Zb,De];exact PM _
   ·have:(x == v)=false:=by simpa using Ea hv
    rw[this];simp[hv]
  rw[e,oR,ih,oS x _ ds nd,AT (h x (by simp))]
  show (eqp fs:Aj)+(fs.count x:Aj)=((fs.count x+eqp fs:Ah):Aj);omega
theorem oU (p:Pt):∀ qs:Ab Pt,(thr p qs).length=eqp (qs.map (far p))
 |[]=>rfl
 |q::qs=>by
  have ih:=oU p qs;unfold thr at *;show (Xm _ (qs.map (fun r=>(q,r))++wA qs)).length=(qs.map (far p)).count (far p q)+eqp (qs.map (far p));rw[Iy,Br,ih,List.filter_map,Ar]
  congr 1
  rw[Tn,Ry,Nq]
  congr 1
  apply List.filter_congr;intro r _;show (far p q == far p r)=(far p r == far p q);rw[Ks];simp only[Jm];exact⟨Eq.symm,Eq.symm⟩
theorem N2 (p:Pt)(qs:Ab Pt)(n:Aj):(at' p qs n).length=(qs.map (far p)).count n:=by
 unfold at';rw[Tn,Ry,Nq];rfl
theorem OC (p:Pt)(qs:Ab Pt):((rg p qs).map fun x=>c2 x.2.length).sum=((thr p qs).length:Aj):=by
 unfold rg;rw[Gv,oU,← YR (ns p qs) (GE p qs) (qs.map (far p)) fun f hf=>cI.mpr hf]
 congr 1
 apply Io;intro n _;show c2 (at' p qs n).length=_;rw[N2]
theorem oT (l:Ab Pt)(p:Pt):(thL l p).length=(thr p (oth l p)).length:=by unfold thL;rw[Ar]
theorem DZ {i:Ah}{g:G2}{fe:DE}{env:qD}{S S1 S2:Sto}{x y z:D}{Q:qD→Sto→Prop}(h0:env[i]? = Aa (Aa x))(h1:fe env S=.ok y S1)(h2:g x y S1=.ok z S2)(q:Q (env.set i (Aa z)) S2):Nx (mM i g fe env S) Q:=
 zU (env:=env.set i (Aa z)) (S:=S2) (by simp only[mM,h0,h1,h2,Res.toS]) q
theorem W2 {S:Sto}{j:Ah}{xs:Ab D}{f:DE}{env:qD}{S0:Sto}(h:f env S0=.ok (.loc j) S)(hj:S[j]? = Aa (.lst xs)):dIt f env S0=.ok (Aa (j,.lst xs),xs) S:=by
 unfold dIt;rw[h];simp only[Res.bind,itD,hj]
theorem RZ (p:Pt)(qs:Ab Pt){x:Aj × Ab Pt}(h:x∈rg p qs):x.2.length≤qs.length:=by
 obtain⟨n,_,rfl⟩:=Bt.mp h;exact Ec _ _
inductive IvE (l:Ab Pt)(S:Sto)(ds:Ab D)(env:qD)(S':Sto):Prop
 |mk (a b:Ab Pt) (e2 e3 e4:Am D) (h_0:a++b=l) (h_1:ds=b.map pD) (h_2:env=[Aa (.tup (l.map pD)),Aa (.int (((a.flatMap (thL l)).length:Ah):Aj)),e2,e3,e4]) (h_3:S<+:S'):IvE l S ds env S'
inductive IvF (l:Ab Pt)(p:Pt)(t:Aj)(S1:Sto)(ds:Ab D)(env:qD)(S':Sto):Prop
 |mk (a b:Ab (Aj × Ab Pt)) (e3 e4:Am D) (h_0:a++b=rg p (oth l p)) (h_1:ds=b.map rD) (h_2:env=[Aa (.tup (l.map pD)),Aa (.int (t+(a.map fun x=>c2 x.2.length).sum)),Aa (pD p),e3,e4]) (h_3:S'=S1):IvF l p t S1 ds env S'
theorem RX (c:Cl)(l:Ab Pt)(L:Lt l)(S:Sto):∃ S',S_even_threes c [.tup (l.map pD)] S=.ok (.int ((T l).length:Aj)) S'∧S<+:S':=by
 have hok:∀ q∈l,jI q:=fun q hq=>by
  obtain⟨⟨a,b⟩,c,d⟩:=L.bd hq;exact⟨by omega,by omega,by omega,by omega⟩
 have key:Rt (b_even_threes c [Aa (.tup (l.map pD)),none,none,none,none] S) fun d S'=>d=.int ((T l).length:Aj)∧S<+:S':=by
  unfold b_even_threes;have hn:=jS c (.tup (l.map pD)) S L.pn;rw[AT L.lot] at hn;refine qU (zU (uW rfl hn) ?_);refine qU (xY (zI rfl ?_));simp only[Bx,By];refine qU (uI (ds:=l.map pD) (S1:=S) rfl ?_);refine vH (IvE l S) ?_ ?_ ⟨[],l,none,none,none,rfl,rfl,rfl,Bg _⟩
  ·rintro d ds env S' ⟨a,b,e2,e3,e4,hab,hds,rfl,hpre⟩
   cases b with
   |nil=>cases hds
   |cons p b =>
    injection hds with h1 h2
    subst h1 h2;have hpl:p∈l:=by rw[← hab];simp
    refine⟨[Aa (.tup (l.map pD)),Aa (.int (((a.flatMap (thL l)).length:Ah):Aj)),Aa (pD p),e3,e4],S',rfl,?_⟩;obtain⟨j,S1,c1,hj,_,q1⟩:=lT l p S' hok (hok p hpl) L.le;refine FL (W2 ((xP (a:=.tup (l.map pD)) (b:=pD p) rfl rfl).trans c1) hj) ?_;refine cJ (IvF l p (((a.flatMap (thL l)).length:Ah):Aj) S1) ?_ ?_ ?_ ⟨[],_,e3,e4,rfl,rfl,by simp,rfl⟩
    ·rintro ds env S2 ⟨a,b,e3,e4,_,_,_,rfl⟩
     exact hj
    ·rintro d ds env S2 ⟨xs,ys,e3,e4,hxy,hds,rfl,rfl⟩
     cases ys with
     |nil=>cases hds
     |cons y ys =>
      injection hds with h1 h2
      subst h1 h2;have hy:y∈rg p (oth l p):=by rw[← hxy];simp
      have hyl:=RZ p (oth l p) hy;have hol:=j3 l p;have h40:=L.le;refine⟨[Aa (.tup (l.map pD)),Aa (.int ((((a.flatMap (thL l)).length:Ah):Aj)+(xs.map fun x=>c2 x.2.length).sum)),Aa (pD p),Aa (.int y.1),Aa (.tup (y.2.map pD))],S2,rfl,?_⟩;have hlen:qE zH (qA (qB 4) (qC)) [Aa (.tup (l.map pD)),Aa (.int ((((a.flatMap (thL l)).length:Ah):Aj)+(xs.map fun x=>c2 x.2.length).sum)),Aa (pD p),Aa (.int y.1),Aa (.tup (y.2.map pD))] S2=.ok (.int (y.2.length:Aj)) S2:=by
       rw[wF (a:=.tup (y.2.map pD)) rfl,j1,Ar]
      have hval:=(qM (g:=dC (.int 2)) ((qM hlen ((qM (g:=dC (.int 1)) hlen (b:=.int 1) rfl).trans (rfl:xA (.int (y.2.length:Aj)) (.int 1) S2=.ok (.int ((y.2.length:Aj)-1)) S2))).trans (u3 _ _ S2 ⟨by omega,by omega⟩)) (b:=.int 2) rfl).trans (jV _ 2 S2 ⟨by omega,by omega⟩)
      refine DZ rfl hval (rfl:rF (.int _) (.int _) S2=.ok (.int _) S2) ⟨xs++[y],ys,Aa (.int y.1),Aa (.tup (y.2.map pD)),by rw[← hxy];simp,rfl,?_,rfl⟩
      simp only[Bx,By,Jk,Df,Nc,List.sum_append,Ps,List.sum_nil,Int.add_zero];rw[Int.add_assoc];rfl
    ·rintro env S2 ⟨xs,ys,e3,e4,hxy,hds,rfl,rfl⟩
     cases ys with
     |cons _ _=>cases hds
     |nil =>
      have:xs=rg p (oth l p):=by simpa using hxy
      subst this;refine⟨a++[p],b,Aa (pD p),e3,e4,by rw[← hab];simp,rfl,?_,hpre.trans q1⟩
      rw[OC,Um,Br];simp only[Fo,Xn,Ft,oT];rw[Yb]
  ·rintro env S' ⟨a,b,e2,e3,e4,hab,hds,rfl,hpre⟩
   cases b with
   |cons _ _=>cases hds
   |nil =>
    have:a=l:=by simpa using hab
    subst this;exact x9 (zI rfl ⟨rfl,hpre⟩)
 obtain⟨d,S',e,rfl,h⟩:=key;refine⟨S',?_,h⟩;rw[vS];exact yR rfl e
theorem rV (xs:Ab D)(i:Ah)(d:D)(h:xs[i]? = Aa d):_L.atI xs (i:Aj)=Aa d:=by
 have hl:=(Ba.mp h).1;have e:_L.ixN xs.length (i:Aj)=Aa i:=by
  unfold _L.ixN;simp[hl]
 unfold _L.atI;rw[e];exact h
def tD (x:Pt × Pt × Pt):D:=.tup [pD x.1,pD x.2.1,pD x.2.2]
def f2 (p:Pt)(qs:Ab Pt):Ab (Pt × Pt × Pt):=((rg p qs).filter fun x=>decide (1<x.2.length)).map fun x=>(p,x.2.getD 0 p,x.2.getD 1 p)
def ltP (p q:Pt):As:=_H.lexLt (kP p) (kP q)
theorem fO (n:Ah)(p:Pt):Tr (n+1) (pD p):=rO (bK n p)
theorem ZO (x:Pt × Pt × Pt):trb 6 (tD x)=true:=by
 show (trb 5 (pD x.1)&&(trb 5 (pD x.2.1)&&(trb 5 (pD x.2.2)&&true)))=true;rw[bK 4,bK 4,bK 4];rfl
theorem EC (x:Pt × Pt × Pt):Tr 6 (tD x):=rO (ZO x)
theorem cB (p q:Pt):ltN (pD p) (pD q)=ltP p q:=by
 have h1:=@yH 0 0 (.int p.1) (.int q.1) [.int p.2] [.int q.2] (.int _ _) (.int _ _) rfl;have h2:=@yH 0 0 (.int p.2) (.int q.2) [] [] (.int _ _) (.int _ _) rfl;unfold pD;rw[gN,h1,h2,gM,gM];unfold ltP kP;rw[_H.lexLt_cons,_H.lexLt_cons];show (if (p.1 == q.1)=true then if (p.2 == q.2)=true then _ else _ else _)=_
 simp only[Jm];rfl
theorem DJ (a b c x y z:Pt):ltN (tD (a,b,c)) (tD (x,y,z))=if a=x then (if b=y then (if c=z then false else ltP c z) else ltP b y) else ltP a x:=by
 unfold tD;rw[gN,yH (fO 0 a) (fO 0 x) rfl,yH (fO 0 b) (fO 0 y) rfl,yH (fO 0 c) (fO 0 z) rfl,bW,bW,bW,cB,cB,cB];simp only[Cm];rfl
theorem f9 (p:Pt):ltP p p=false:=_S.xU.irr _
theorem cC {p q:Pt}(h:ltP p q=true):ltP q p=false:=by
 cases z:ltP q p with
 |false=>rfl
 |true=>exact absurd (_S.xU.tr h z) (by rw[_S.xU.irr];simp)
theorem cD {p q:Pt}(h:ltP p q=true):p≠q:=fun e=>by subst e;rw[f9] at h;cases h
abbrev Up (l:Ab Pt):Prop:=l.Pairwise fun p q=>ltP p q=true
theorem Lt.upP {l:Ab Pt}(L:Lt l):Up l:=by
 have:=L.up;rw[Gb] at this;exact this
theorem PC {l:Ab Pt}(h:Up l){x:Pt × Pt}(hx:x∈wA l):ltP x.1 x.2=true:=by
 induction l with
 |nil=>cases hx
 |cons p l ih =>
  obtain⟨h1,h2⟩:=Cz.mp h;rcases Cu.mp (show x∈l.map (fun q=>(p,q))++wA l from hx) with hx|hx
  ·obtain⟨q,hq,rfl⟩:=Bt.mp hx
   exact h1 q hq
  ·exact ih h2 hx
theorem P9 {l:Ab Pt}(h:Up l){a b:Pt}(ha:a∈l)(hb:b∈l)(hab:ltP a b=true):(a,b)∈wA l:=by
 induction l with
 |nil=>cases ha
 |cons p l ih =>
  obtain⟨h1,h2⟩:=Cz.mp h;show (a,b)∈l.map (fun q=>(p,q))++wA l;rw[Cu];rcases Av.mp ha with ea|ha'
  ·rcases Av.mp hb with eb|hb'
   ·rw[ea,eb,f9] at hab;cases hab
   ·exact .inl (Bt.mpr ⟨b,hb',by rw[ea]⟩)
  ·rcases Av.mp hb with eb|hb'
   ·have:=cC (h1 a ha')
    rw[← eb,hab] at this;cases this
   ·exact .inr (ih h2 ha' hb')
theorem mX {p:Pt}{qs:Ab Pt}{n:Aj}{q:Pt}:q∈at' p qs n↔q∈qs∧far p q=n:=by
 unfold at';rw[Fq,Jm]
theorem XQ {p:Pt}{qs:Ab Pt}{x:Pt × Pt × Pt}(h:x∈f2 p qs):∃ n a b r,at' p qs n=a::b::r∧x=(p,a,b):=by
 obtain⟨y,hy,rfl⟩:=Bt.mp h;obtain⟨hy,hl⟩:=Fq.mp hy;obtain⟨n,_,rfl⟩:=Bt.mp hy;have hl':1<(at' p qs n).length:=by simpa using hl
 show ∃ n' a b r,at' p qs n'=a::b::r∧(p,(at' p qs n).getD 0 p,(at' p qs n).getD 1 p)=(p,a,b);cases hc:at' p qs n with
 |nil=>rw[hc] at hl';simp at hl'
 |cons a r =>
  cases r with
  |nil=>rw[hc] at hl';simp at hl'
  |cons b r=>exact⟨n,a,b,r,hc,by simp⟩
theorem HH {p:Pt}{qs:Ab Pt}{n:Aj}{a b:Pt}{r:Ab Pt}(h:at' p qs n=a::b::r):(p,a,b)∈f2 p qs:=by
 have ha:a∈at' p qs n:=by rw[h];simp
 refine Bt.mpr ⟨(n,at' p qs n),Fq.mpr ⟨Bt.mpr ⟨n,cI.mpr ?_,rfl⟩,by rw[h];simp⟩,by rw[h];simp⟩
 obtain⟨h1,h2⟩:=mX.mp ha;exact Bt.mpr ⟨a,h1,h2⟩
theorem nD {l:Ab Pt}(h:Up l)(p:Pt):Up (oth l p):=h.filter _
theorem XR {l:Ab Pt}(h:Up l){p:Pt}{x:Pt × Pt × Pt}(hx:x∈f2 p (oth l p)):x∈thL l p:=by
 obtain⟨n,a,b,r,e,rfl⟩:=XQ hx;have ha:=mX.mp (show a∈at' p (oth l p) n by rw[e];simp)
 have hb:=mX.mp (show b∈at' p (oth l p) n by rw[e];simp)
 have hu:Up (at' p (oth l p) n):=(nD h p).filter _;rw[e] at hu;have hab:=(Cz.mp hu).1 b (by simp)
 refine Bt.mpr ⟨(a,b),Fq.mpr ⟨P9 (nD h p) ha.1 hb.1 hab,?_⟩,rfl⟩;rw[Jm,ha.2,hb.2]
theorem YS {l:Ab Pt}(h:Up l){p a b:Pt}(hx:(p,a,b)∈thL l p):∃ y∈f2 p (oth l p),ltN (tD (p,a,b)) (tD y)=false:=by
 obtain⟨⟨a',b'⟩,hm,e⟩:=Bt.mp hx;have e1:a'=a:=congrArg (fun x:Pt × Pt × Pt=>x.2.1) e;have e2:b'=b:=congrArg (fun x:Pt × Pt × Pt=>x.2.2) e;subst e1 e2;obtain⟨hm,hf⟩:=Fq.mp hm;have hf':far p a'=far p b':=by simpa using hf
 have hlt:=PC (nD h p) hm;obtain⟨ma,mb⟩:=rR hm;have hu:Up (at' p (oth l p) (far p a')):=(nD h p).filter _;have ha:a'∈at' p (oth l p) (far p a'):=mX.mpr ⟨ma,rfl⟩;have hb:b'∈at' p (oth l p) (far p a'):=mX.mpr ⟨mb,hf'.symm⟩;have hlt':ltP a' b'=true:=hlt;cases hc:at' p (oth l p) (far p a') with
 |nil=>rw[hc] at ha;cases ha
 |cons r0 r =>
  rw[hc] at ha hb hu;obtain⟨u1,u2⟩:=Cz.mp hu;cases r with
  |nil =>
   have q1:a'=r0:=by simpa using ha
   have q2:b'=r0:=by simpa using hb
   rw[q1,q2,f9] at hlt';cases hlt'
  |cons r1 r =>
   refine⟨(p,r0,r1),HH hc,?_⟩;rw[DJ,AT rfl];rcases Av.mp ha with rfl|ha
   ·rw[AT rfl]
    have hb':b'∈r1::r:=by
     rcases Av.mp hb with q|q
     ·rw[q,f9] at hlt';cases hlt'
     ·exact q
    rcases Av.mp hb' with rfl|hb'
    ·rw[AT rfl]
    ·have:=(Cz.mp u2).1 b' hb'
     rw[Bc (Ea (cD this))];exact cC this
   ·have:=u1 a' ha
    rw[Bc (Ea (cD this))];exact cC this
theorem cE {X:Ab (Pt × Pt × Pt)}(h:X≠[]):∃ m∈X,kI (X.map tD)=tD m∧∀ y∈X,ltN (tD y) (tD m)=false:=by
 have hz:0<(X.map tD).length:=by rw[Ar];exact Nr.mpr h
 obtain⟨m1,m2⟩:=WH hz;obtain⟨m,hm,e⟩:=Bt.mp m1;exact⟨m,hm,e.symm,fun y hy=>by rw[e];exact m2 _ (Bt.mpr ⟨y,hy,rfl⟩)⟩
theorem UV {n m:Ah}{a b:D}(ha:Tr n a)(hb:Tr m b)(h1:ltN a b=false)(h2:ltN b a=false):a=b:=by
 rcases _S.xU.tri h1 with e|e
 ·exact gW ha hb e
 ·exact absurd e (by unfold ltN at h2;rw[h2];simp)
theorem WI {a b:Ab Pt}{p:Pt}(h:Up (a++p::b))(ha:∀ q∈a,thL (a++p::b) q=[])(hp:f2 p (oth (a++p::b) p)≠[]):kI ((f2 p (oth (a++p::b) p)).map tD)=kI ((T (a++p::b)).map tD):=by
 generalize hl:a++p::b=l at *;have pin:p∈l:=by rw[← hl];simp
 have sub:∀ x∈f2 p (oth l p),x∈T l:=fun x hx=>Qq.mpr ⟨p,pin,XR h hx⟩;obtain⟨m,m1,m2,m3⟩:=cE hp;have hT:T l≠[]:=fun z=>by
  have:=sub m m1;rw[z] at this;cases this
 obtain⟨t,t1,t2,t3⟩:=cE hT;rw[m2,t2];have s1:ltN (tD m) (tD t)=false:=t3 m (sub m m1);obtain⟨q,hq,ht⟩:=Qq.mp t1;have et:t.1=q:=by
  obtain⟨x,_,rfl⟩:=Bt.mp ht;rfl
 have em:m.1=p:=by
  obtain⟨n,x,y,r,_,rfl⟩:=XQ m1;rfl
 have hqp:q=p:=by
  rw[← hl] at hq;rcases Cu.mp hq with hq|hq
  ·rw[ha q hq] at ht;cases ht
  ·rcases Av.mp hq with rfl|hq
   ·rfl
   ·have hlt:ltP p q=true:=by
     rw[← hl] at h;exact(Cz.mp (Ms.mp h).2.1).1 q hq
    obtain⟨m0,m0',m0''⟩:=m;obtain⟨t0,t0',t0''⟩:=t;dsimp only at em et;subst em et;rw[DJ,Bc (cD hlt),hlt] at s1;cases s1
 subst hqp;refine UV (EC m) (EC t) s1 ?_;obtain⟨t0,x,y⟩:=t;dsimp only at et;subst et;obtain⟨z,z1,z2⟩:=YS h ht;exact WE z2 (m3 z z1)
theorem LO {l:Ab Pt}(h:Up l){p:Pt}(hp:f2 p (oth l p)=[]):thL l p=[]:=by
 cases hc:thL l p with
 |nil=>rfl
 |cons x r =>
  have hx:x∈thL l p:=by rw[hc];simp
  obtain⟨y,hy,e⟩:=Bt.mp (show x∈(thr p (oth l p)).map fun x=>(p,x.1,x.2) from hx)
  subst e;obtain⟨z,hz,_⟩:=YS h hx;rw[hp] at hz;cases hz
theorem c8 {g:DG}{f:DS}{Q:qD→Sto→Prop}{R:D→Sto→Prop}(I:Ab D→qD→Sto→Prop)(turn:∀ d ds env S,I (d::ds) env S→∃ env1 S1,g d env S=.ok env1 S1∧(Nx (f env1 S1) (I ds)∨Rt (f env1 S1) R))(last:∀ env S,I [] env S→Q env S) :
  ∀ {ds:Ab D} {env:qD} {S:Sto},I ds env S→Nx (wK g f ds env S) Q∨Rt (wK g f ds env S) R
 |[],env,S,h=>.inl ⟨env,S,rfl,last env S h⟩
 |d::ds,env,S,h=>by
  obtain⟨env1,S1,e1,h1|h1⟩:=turn d ds env S h
  ·obtain⟨env2,S2,e2,h2⟩:=h1
   have e:wK g f (d::ds) env S=wK g f ds env2 S2:=by
    conv=>lhs;unfold wK
    simp only[e1,Res.toS,e2]
   rw[e];exact c8 I turn last (ds:=ds) h2
  ·obtain⟨d',S2,e2,h2⟩:=h1
   refine .inr ⟨d',S2,?_,h2⟩;unfold wK;simp only[e1,Res.toS,e2]
theorem MN {fi:DI}{g:DG}{f h:DS}{env:qD}{S S1:Sto}{ds:Ab D}{R:D→Sto→Prop}(e:fi env S=.ok ds S1)(k:Nx (wK g f ds env S1) (fun env S=>Rt (h env S) R)∨Rt (wK g f ds env S1) R):Rt (qL (yF fi g f) h env S) R:=by
 have e':yF fi g f env S=wK g f ds env S1:=by unfold yF;rw[e];rfl
 rcases k with⟨env2,S2,e2,k⟩|⟨d,S2,e2,k⟩
 ·obtain⟨d,S3,e3,k⟩:=k
  exact⟨d,S3,by unfold qL;rw[e',e2];exact e3,k⟩
 ·exact⟨d,S2,by unfold qL;rw[e',e2],k⟩
def jK (l:Ab Pt):D:=if T l=[] then .non else kI ((T l).map tD)
theorem FI {X:Ab (Pt × Pt × Pt)}(h:X≠[])(S:Sto):tE [.lst (X.map tD)] S=.ok (kI (X.map tD)) S:=by
 have ok:mOk (X.map tD)=true:=Aq.mpr fun x hx=>by
  obtain⟨a,_,rfl⟩:=Bt.mp hx;rw[ZO,Mo];exact Aq.mpr fun y hy=>by
   obtain⟨b,_,rfl⟩:=Bt.mp hy;rfl
 have hz:0<(X.map tD).length:=by rw[Ar];exact Nr.mpr h
 generalize X.map tD=xs at hz ok;cases xs with
 |nil=>cases hz
 |cons x xs=>exact AT ok
theorem HG (l:Ab Pt)(p:Pt)(env:qD)(S S1:Sto)(j:Ah)(hl:l.length≤40)(h1:env[1]? = Aa (Aa (pD p)))(c1:qG 2 S_rings (qA (qB 0) (qA (qB 1) (qC))) env S=.ok (.loc j) S1)(hj:S1[j]? = Aa (.lst ((rg p (oth l p)).map rD))) :
  qO false [none,none,Aa 1] (dIt (qG 2 S_rings (qA (qB 0) (qA (qB 1) (qC))))) (gTp 2 (qZ (gNm 0) (qZ (gNm 1) (xQ)))) (wJ (dTr (d2 gGt (qE zH (qA (qB 1) (qC))) (dC (.int 1)))) (z9)) (qV (qT (qA (qB 2) (qA (d2 gIx (qB 1) (dC (.int 0))) (qA (d2 gIx (qB 1) (dC (.int 1))) (qC)))))) env S=.ok (.lst ((f2 p (oth l p)).map tD)) S1:=by
 have hs:xF [none,none,Aa 1] env=[none,none,Aa (pD p)]:=by simp[xF,h1]
 have l3:3≤lim:=by decide
 have hol:=j3 l p;have hnl:=tX p (oth l p);obtain⟨env',e⟩:=KZ (enc:=rD) (xs:=rg p (oth l p)) (o:=Aa (j,.lst ((rg p (oth l p)).map rD))) (env:=xF [none,none,Aa 1] env) (g:=gTp 2 (qZ (gNm 0) (qZ (gNm 1) (xQ)))) (t:=wJ (dTr (d2 gGt (qE zH (qA (qB 1) (qC))) (dC (.int 1)))) (z9)) (fe:=qT (qA (qB 2) (qA (d2 gIx (qB 1) (dC (.int 0))) (qA (d2 gIx (qB 1) (dC (.int 1))) (qC))))) (S:=S1) hj
  (fun x=>decide (1<x.2.length)) (fun x=>tD (p,x.2.getD 0 p,x.2.getD 1 p)) (fun env=>∃ a b,env=[a,b,Aa (pD p)]) ⟨none,none,hs⟩ (by unfold rg;rw[Ar];unfold lim;omega)
  (fun x hx env ⟨a,b,e⟩=>by
   subst e;refine⟨[Aa (.int x.1),Aa (.tup (x.2.map pD)),Aa (pD p)],rfl,⟨_,_,rfl⟩,bP ((qM ((wF (a:=.tup (x.2.map pD)) rfl).trans (j1 _ S1)) (b:=.int 1) rfl).trans ?_),fun hs=>?_⟩
   ·show Res.ok (D.bl (decide ((1:Aj)<((x.2.map pD).length:Aj)))) S1=_
    rw[Ar]
    congr 2
    rw[decide_eq_decide];omega
   ·have hl2:1<x.2.length:=by simpa using hs
    obtain⟨n,r⟩:=x;dsimp only at hl2;cases r with
    |nil=>simp at hl2
    |cons q0 r =>
     cases r with
     |nil=>simp at hl2
     |cons q1 r=>exact zP (zO (a:=pD p) rfl (zM ((qM (a:=.tup ((q0::q1::r).map pD)) (b:=.int 0) rfl rfl).trans (uE (d:=pD q0) (rV _ 0 _ rfl) S1)) ((qM (a:=.tup ((q0::q1::r).map pD)) (b:=.int 1) rfl rfl).trans (uE (d:=pD q1) (rV _ 1 _ rfl) S1)))) l3)
 rw[kY (W2 c1 hj) e];unfold f2;rw[Gv];rfl
inductive IvG (l:Ab Pt)(S:Sto)(ds:Ab D)(env:qD)(S':Sto):Prop
 |mk (a b:Ab Pt) (e1 e2:Am D) (h_0:a++b=l) (h_1:ds=b.map pD) (h_2:env=[Aa (.tup (l.map pD)),e1,e2]) (h_3:∀ q∈a,thL l q=[]) (h_4:S<+:S'):IvG l S ds env S'
theorem MJ (c:Cl)(l:Ab Pt)(L:Lt l)(S:Sto):∃ S',S_first_even c [.tup (l.map pD)] S=.ok (jK l) S'∧S<+:S':=by
 have hok:∀ q∈l,jI q:=fun q hq=>by
  obtain⟨⟨a,b⟩,c,d⟩:=L.bd hq;exact⟨by omega,by omega,by omega,by omega⟩
 have hu:=L.upP;have key:Rt (b_first_even c [Aa (.tup (l.map pD)),none,none] S) fun d S'=>d=jK l∧S<+:S':=by
  unfold b_first_even;have hn:=jS c (.tup (l.map pD)) S L.pn;rw[AT L.lot] at hn;refine qU (zU (uW rfl hn) ?_);refine MN (ds:=l.map pD) (S1:=S) rfl ?_;refine c8 (IvG l S) ?_ ?_ ⟨[],l,none,none,rfl,rfl,rfl,fun q hq=>(by cases hq),Bg _⟩
  ·rintro d ds env S' ⟨a,b,e1,e2,hab,hds,rfl,hno,hpre⟩
   cases b with
   |nil=>cases hds
   |cons p b =>
    injection hds with h1 h2
    subst h1 h2;have hpl:p∈l:=by rw[← hab];simp
    refine⟨[Aa (.tup (l.map pD)),Aa (pD p),e2],S',rfl,?_⟩;obtain⟨j,S1,c1,hj,_,q1⟩:=lT l p S' hok (hok p hpl) L.le;have hc:=HG l p [Aa (.tup (l.map pD)),Aa (pD p),e2] S' S1 j L.le rfl ((xP (a:=.tup (l.map pD)) (b:=pD p) rfl rfl).trans c1) hj;cases hf:f2 p (oth l p) with
    |nil =>
     rw[hf] at hc;refine .inl (xO (xY (zI hc ?_)));refine xK (b:=false) (S1:=S1) rfl (zU rfl ⟨a++[p],b,Aa (pD p),Aa (.lst []),by rw[← hab];simp,rfl,rfl,fun q hq=>?_,hpre.trans q1⟩)
     rcases Cu.mp hq with hq|hq
     ·exact hno q hq
     ·have:q=p:=by simpa using hq
      subst this;exact LO hu hf
    |cons x r =>
     have hne:f2 p (oth l p)≠[]:=by rw[hf];simp
     have hT:T l≠[]:=fun z=>by
      have hx:x∈T l:=Qq.mpr ⟨p,hpl,XR hu (by rw[hf];simp)⟩
      rw[z] at hx;cases hx
     have hm:=WI (a:=a) (b:=b) (p:=p) (by rw[hab];exact hu) (by rw[hab];exact hno) (by rw[hab];exact hne)
     rw[hab] at hm;refine .inr (qU (xY (zI hc ?_)));refine jE (b:=true) (S1:=S1) (by rw[hf];rfl) ?_
     rw[AT rfl];refine x9 (zI ((wF (a:=.lst ((f2 p (oth l p)).map tD)) rfl).trans (FI hne S1)) ⟨?_,hpre.trans q1⟩);unfold jK;rw[Bc hT,hm]
  ·rintro env S' ⟨a,b,e1,e2,hab,hds,rfl,hno,hpre⟩
   cases b with
   |cons _ _=>cases hds
   |nil =>
    have:a=l:=by simpa using hab
    subst this;refine x9 (zI (d:=.non) (S:=S') rfl ⟨?_,hpre⟩);unfold jK;rw[AT];unfold T;rw[List.flatMap_eq_nil_iff];exact hno
 obtain⟨d,S',e,rfl,h⟩:=key;refine⟨S',?_,h⟩;rw[uB];exact yR rfl e
theorem mK (p:Pt)(l:Ab Pt)(S:Sto):yP (pD p) (.tup (l.map pD)) S=.ok (.bl (!decide (p∈l))) S:=by
 have h:(l.map pD).all (pl zZ)=true:=by
  rw[Ir,Aq];intro q _;exact rJ 29 q
 have e:((l.map pD).any fun y=>eqD y (pD p))=decide (p∈l):=by
  rw[Ks,Xl,Cm];constructor
  ·rintro⟨y,hy,q⟩
   obtain⟨z,hz,rfl⟩:=Bt.mp hy;rw[bW] at q;rw[← Bw q];exact hz
  ·intro hx
   exact⟨pD p,Hf hx,by rw[bW];simp⟩
 have hi:inI (pD p) (.tup (l.map pD))=Aa (decide (p∈l)):=by
  show (if ((l.map pD).all (pl zZ)&&pl zZ (pD p))=true then Aa ((l.map pD).any fun y=>eqD y (pD p)) else none)=_
  rw[h,show pl zZ (pD p)=true from rJ 29 p,e]
  rfl
 unfold yP;rw[hi]
theorem Lt.oks {l:Ab Pt}(L:Lt l):∀ q∈l,jI q:=fun q hq=>by
 obtain⟨⟨a,b⟩,c,d⟩:=L.bd hq;exact⟨by omega,by omega,by omega,by omega⟩
theorem Lt.need {l:Ab Pt}(L:Lt l)(c:Cl)(S:Sto):S_need_lot c [.tup (l.map pD)] S=.ok .non S:=by
 have hn:=jS c (.tup (l.map pD)) S L.pn
 rwa [AT L.lot] at hn
theorem RY (c:Cl)(l:Ab Pt)(L:Lt l)(p:Pt)(hp:p∈l)(S:Sto):∃ (j:Ah) (S':Sto),S_from_point c [.tup (l.map pD),pD p] S=.ok (.loc j) S'∧S'[j]? = Aa (.lst ((rg p (oth l p)).map rD))∧S.length≤j∧S<+:S':=by
 obtain⟨j,S',e,h1,h2,h3⟩:=lT l p S L.oks (L.oks p hp) L.le;refine⟨j,S',?_,h1,h2,h3⟩;have n2:=kK c (pD p) S (GM p);rw[AT (BY (L.bd hp))] at n2;rw[wU];show jN (b_from_point c [Aa (.tup (l.map pD)),Aa (pD p)] S)=_;unfold b_from_point;rw[gR (uW (i:=0) rfl (L.need c S)),gR (uW (i:=1) rfl n2)];have t:dTr (d2 yP (qB 1) (qB 0)) [Aa (.tup (l.map pD)),Aa (pD p)] S=.ok false S:=w9 (((qM (a:=pD p) (b:=.tup (l.map pD)) rfl rfl).trans (mK p l S)).trans (by rw[Cn hp];rfl))
 rw[gR (f:=sIf (dTr (d2 yP (qB 1) (qB 0))) (yS (.ref c.NoPoint) (qA (dC (.str "the point is none of the lot")) (qC))) (zD)) (env1:=[Aa (.tup (l.map pD)),Aa (pD p)]) (S1:=S) (by unfold sIf;rw[t];rfl)]
 unfold qX;rw[(xP (a:=.tup (l.map pD)) (b:=pD p) rfl rfl).trans e];rfl
theorem c9 {c:Cl}{d:D}{S:Sto}(hp:Pn d)(h:xW d=false):S_need_lot c [d] S=.ex (.ref c.NoLot) .non S:=by
 have n1:=jS c d S hp
 rwa [h,Bc (by simp)] at n1
theorem UF (c:Cl)(d o:D)(S:Sto)(hp:Pn d)(h:xW d=false):S_from_point c [d,o] S=.ex (.ref c.NoLot) .non S:=by
 rw[wU];show jN (b_from_point c [Aa d,Aa o] S)=_;unfold b_from_point;rw[bI (tB (i:=0) rfl (c9 hp h))];rfl
theorem BR (c:Cl)(l:Ab Pt)(L:Lt l)(d:D)(S:Sto)(hp:Pn d)(h:qW d=false):S_from_point c [.tup (l.map pD),d] S=.ex (.ref c.NoPoint) .non S:=by
 have n2:=kK c d S hp;rw[h,Bc (by simp)] at n2
 rw[wU];show jN (b_from_point c [Aa (.tup (l.map pD)),Aa d] S)=_;unfold b_from_point;rw[gR (uW (i:=0) rfl (L.need c S)),bI (tB (i:=1) rfl n2)];rfl
theorem UG (c:Cl)(l:Ab Pt)(L:Lt l)(p:Pt)(S:Sto)(hp:qW (pD p)=true)(h:p ∉ l):S_from_point c [.tup (l.map pD),pD p] S=.ex (.ref c.NoPoint) .non S:=by
 have n2:=kK c (pD p) S (GM p);rw[AT hp] at n2;rw[wU];show jN (b_from_point c [Aa (.tup (l.map pD)),Aa (pD p)] S)=_;unfold b_from_point;rw[gR (uW (i:=0) rfl (L.need c S)),gR (uW (i:=1) rfl n2)];have t:dTr (d2 yP (qB 1) (qB 0)) [Aa (.tup (l.map pD)),Aa (pD p)] S=.ok true S:=w9 (((qM (a:=pD p) (b:=.tup (l.map pD)) rfl rfl).trans (mK p l S)).trans (by rw[Bu h];rfl))
 rw[bI (f:=sIf (dTr (d2 yP (qB 1) (qB 0))) (yS (.ref c.NoPoint) (qA (dC (.str "the point is none of the lot")) (qC))) (zD)) (v:=.ref c.NoPoint) (x:=.non) (env1:=[Aa (.tup (l.map pD)),Aa (pD p)]) (S1:=S) (by unfold sIf;rw[t];exact cU (.ref c.NoPoint) "the point is none of the lot" [Aa (.tup (l.map pD)),Aa (pD p)] S)]
 rfl
theorem UA (c:Cl)(d:D)(S:Sto)(hp:Pn d)(h:xW d=false):S_even_threes c [d] S=.ex (.ref c.NoLot) .non S:=by
 rw[vS];show jN (b_even_threes c [Aa d,none,none,none,none] S)=_;unfold b_even_threes;rw[bI (tB (i:=0) rfl (c9 hp h))];rfl
theorem XS (c:Cl)(d:D)(S:Sto)(hp:Pn d)(h:xW d=false):S_first_even c [d] S=.ex (.ref c.NoLot) .non S:=by
 rw[uB];show jN (b_first_even c [Aa d,none,none] S)=_;unfold b_first_even;rw[bI (tB (i:=0) rfl (c9 hp h))];rfl
def ans (c:Cl)(w:Ah)(l a:D)(S:Sto):Res D:=match w with
 |0=>S_from_point c [l,a] S
 |1=>S_even_threes c [l] S
 |_=>S_first_even c [l] S
theorem ZZ (c:Cl)(w:Ah)(hw:w<3)(l a:D)(S:Sto):dIf (dTr (d2 gEq (qB 0) (dC (.int 0)))) (qG 2 (S_from_point c) (qA (qB 1) (qA (qB 2) (qC)))) (nZ [(1,(S_even_threes c)),(1,(S_first_even c))] (d2 xA (qB 0) (dC (.int 1))) (qA (qB 1) (qC))) [Aa (.int (w:Aj)),Aa l,Aa a,none] S=ans c w l a S:=by
 have ht:=w9 ((qM (a:=.int (w:Aj)) (b:=.int 0) (env:=[Aa (.int (w:Aj)),Aa l,Aa a,none]) (S:=S) (f:=qB 0) (g:=dC (.int 0)) rfl rfl).trans (jW _ _ _));unfold dIf;rw[ht]
 match w,hw with
 |0,_=>rfl
 |1,_=>rfl
 |2,_=>rfl
theorem nX (c:Cl)(w:Ah)(hw:w<3)(l a x:D)(S S':Sto)(h:ans c w l a S=.ok x S'):S__law_came c [.int (w:Aj),l,a] S=.ok x S':=by
 rw[uT];unfold b__law_came;refine yR (env:=[Aa (.int (w:Aj)),Aa l,Aa a,none]) rfl ?_;unfold mO qX;rw[ZZ c w hw,h];rfl
theorem i7 (c:Cl)(w:Ah)(hw:w<3)(l a:D)(v:Af)(x:Au)(S S':Sto)(h:ans c w l a S=.ex (.ref v) .non S')(hc:(kE c).contains (.ref v)=true)(hk:S__law_kind_of c [.exn (.ref v)] S'=.ok (.str x) S'):S__law_came c [.int (w:Aj),l,a] S=.ok (.str x) S':=by
 rw[uT];unfold b__law_came;refine yR (env:=[Aa (.int (w:Aj)),Aa l,Aa a,none]) rfl ?_;unfold mO qX;rw[ZZ c w hw,h];simp only[Res.toS,hc,De];simp[qQ,uO,FS,OU,OT,qL,sIf,qX,zD,yM,zC,gNm,gSb,gTp,qZ,xQ,pG,IY,qAC,AS,dC,qB,d1,d2,qA,qC,qE,qG,dTr,zT,y8,z9,vL,QJ,dIf,xR,qT,zN,mY,dBm,dSl,qY,zE,wN,yW,Res.bind,Res.toS,_D.uN,_D.vV,OW,OV,EE,qAD,OY,OZ,qAA,OX,OS,OR,LX,gLt,gLe,gGt,gGe,_D.xA,rF,hk]
theorem ID (c:Cl):(kE c).contains (.ref c.NoLot)=true:=by rw[Ey];simp[kE]
theorem IE (c:Cl):(kE c).contains (.ref c.NoPoint)=true:=by rw[Ey];simp[kE]
theorem VH (c:Cl)(nd:(wH c).Nodup)(w:Ah)(hw:w<3)(d o:D)(S:Sto)(hp:Pn d)(h:xW d=false):S__law_came c [.int (w:Aj),d,o] S=.ok (.str "lot") S:=by
 refine i7 c w hw _ _ _ _ S S ?_ (ID c) (cT c nd S)
 match w,hw with
 |0,_=>exact UF c d o S hp h
 |1,_=>exact UA c d S hp h
 |2,_=>exact XS c d S hp h
inductive NoP (l:Ab Pt)(d:D):Prop
 |odd (hp:Pn d) (h:qW d=false)
 |out (p:Pt) (e:d=pD p) (hp:qW (pD p)=true) (h:p ∉ l)
theorem PN (c:Cl)(nd:(wH c).Nodup)(l:Ab Pt)(L:Lt l)(d:D)(h:NoP l d)(S:Sto):S__law_came c [.int 0,.tup (l.map pD),d] S=.ok (.str "point") S:=by
 refine i7 c 0 om _ _ _ _ S S ?_ (IE c) (lS c nd S);cases h with
 |odd hp h=>exact BR c l L d S hp h
 |out p e hp h=>subst e;exact UG c l L p S hp h
theorem eA (c:Cl)(l:Ab Pt)(L:Lt l)(p:Pt)(hp:p∈l)(S:Sto):∃ (j:Ah) (S':Sto),S__law_came c [.int 0,.tup (l.map pD),pD p] S=.ok (.loc j) S'∧S'[j]? = Aa (.lst ((rg p (oth l p)).map rD))∧S.length≤j∧S<+:S':=by
 obtain⟨j,S',e,h⟩:=RY c l L p hp S;exact⟨j,S',nX c 0 om _ _ _ S S' e,h⟩
theorem N6 (c:Cl)(l:Ab Pt)(L:Lt l)(a:D)(S:Sto):∃ S',S__law_came c [.int 1,.tup (l.map pD),a] S=.ok (.int ((T l).length:Aj)) S'∧S<+:S':=by
 obtain⟨S',e,h⟩:=RX c l L S;exact⟨S',nX c 1 om _ _ _ S S' e,h⟩
theorem N7 (c:Cl)(l:Ab Pt)(L:Lt l)(a:D)(S:Sto):∃ S',S__law_came c [.int 2,.tup (l.map pD),a] S=.ok (jK l) S'∧S<+:S':=by
 obtain⟨S',e,h⟩:=MJ c l L S;exact⟨S',nX c 2 om _ _ _ S S' e,h⟩
theorem GH (p:Pt):okD 1 (pD p):=by
 intro x hx;simp at hx;rcases hx with rfl|rfl <;> trivial
theorem SH (l:Ab Pt):okD 2 (.tup (l.map pD)):=by
 intro x hx;obtain⟨p,_,rfl⟩:=Bt.mp hx;exact GH p
theorem IW (x:Aj × Ab Pt):okD 3 (rD x):=by
 intro y hy;simp only[Av,Cj,Fe] at hy;rcases hy with rfl|rfl
 ·trivial
 ·exact SH _
theorem n8 (X:Ab (Aj × Ab Pt)):okD 4 (.lst (X.map rD)):=by
 intro x hx;obtain⟨y,_,rfl⟩:=Bt.mp hx;exact IW y
theorem IX (x:Pt × Pt × Pt):okD 2 (tD x):=by
 intro y hy;simp only[Av,Cj,Fe] at hy;rcases hy with rfl|rfl|rfl <;> exact GH _
set_option tactic.hygienic true in
theorem SG (l:Ab Pt):okD 2 (jK l):=by
 unfold jK
 split
 ·trivial
 ·rename_i h
  obtain⟨m,_,e,_⟩:=cE h;rw[e];exact IX m
theorem MQ (S:Sto)(j:Ah)(X:Ab (Aj × Ab Pt))(hj:S[j]? = Aa (.lst (X.map rD))):uG S__law_same [.loc j,.lst (X.map rD)] S=.ok (.bl true) S:=
 sD S _ _ _ 5 (MK S j 4 _ hj (n8 X) om) (fM S 4 20 _ (n8 X) om) (WQ om (n8 X)) rfl
theorem oI (S:Sto)(j:Ah)(X:Ab (Aj × Ab Pt))(hj:S[j]? = Aa (.lst (X.map rD))):v9 19 S (.loc j)=Aa (.lst (X.map rD)):=by
 have h1:=fM S 4 19 (.lst (X.map rD)) (n8 X) om;show (match S[j]? with|some (.lst xs)=>(mapO (v9 18 S) xs).map D.lst|_=>none)=_
 rw[hj];exact h1
theorem K2 (S:Sto)(i j:Ah)(X Y:Ab (Aj × Ab Pt))(hi:S[i]? = Aa (.lst (X.map rD)))(hj:S[j]? = Aa (.lst (Y.map rD))):uG S__law_same [.lst [.loc i,.loc j],.lst [.lst (X.map rD),.lst (Y.map rD)]] S=.ok (.bl true) S:=by
 have ok:okD 5 (.lst [.lst (X.map rD),.lst (Y.map rD)]):=by
  intro x hx;simp only[Av,Cj,Fe] at hx;rcases hx with rfl|rfl <;> exact n8 _
 refine sD S _ _ _ 5 ?_ (fM S 5 20 _ ok om) ok rfl;have h4:mapO (v9 19 S) [.loc i,.loc j]=Aa [.lst (X.map rD),.lst (Y.map rD)]:=by simp only[mapO,oI S i X hi,oI S j Y hj]
 show (mapO (v9 19 S) [.loc i,.loc j]).map D.lst=_;rw[h4];rfl
theorem YM (S:Sto)(n:Aj)(l:Ab Pt):S__law_same [.lst [.int n,jK l],.lst [.int n,jK l]] S=.ok (.bl true) S:=by
 rw[uU];refine sO 5 _ S (WQ (n:=3) om ?_);intro x hx;simp only[Av,Cj,Fe] at hx;rcases hx with rfl|rfl
 ·trivial
 ·exact SG l
theorem FH {S:Sto}{j:Ah}(l:Ab Pt)(hj:S[j]? = Aa (.lst ((T l).map tD))):mnD [.loc j] .non S=.ok (jK l) S:=by
 have hls:lsD (.loc j) S=Aa ((T l).map tD):=by
  show (match S[j]? with|some (.lst xs)=>Aa xs|_=>none)=_
  rw[hj]
 show (match lsD (.loc j) S with|some [] => Res.ok D.non S|some (x::xs)=>if mOk (x::xs)=true then .ok (kI (x::xs)) S else .bad|none=>.bad)=_
 rw[hls];have ok:mOk ((T l).map tD)=true:=Aq.mpr fun x hx=>by
  obtain⟨a,_,rfl⟩:=Bt.mp hx;rw[ZO,Mo];exact Aq.mpr fun y hy=>by
   obtain⟨b,_,rfl⟩:=Bt.mp hy;rfl
 unfold jK;by_cases h:T l=[]
 ·rw[AT h,h]
  rfl
 ·rw[Bc h]
  have hz:0<((T l).map tD).length:=by rw[Ar];exact Nr.mpr h
  generalize (T l).map tD=xs at hz ok;cases xs with
  |nil=>cases hz
  |cons x xs=>exact AT ok
theorem d8 (x:Au)(k:Ah)(S:Sto):gNe (.lst (Cg k (.str x))) (.lst (Cg k (.str x))) S=.ok (.bl false) S:=by
 have h1:pl zZ (.lst (Cg k (.str x)))=true:=Aq.mpr fun y hy=>by
  rw[(Vh.mp hy).2];rfl
 have h2:eqD (.lst (Cg k (.str x))) (.lst (Cg k (.str x)))=true:=by
  show xI _ _=true
  induction k with
  |zero=>rfl
  |succ k ih =>
   rw[Ew,b0,ih (by
    refine Aq.mpr fun y hy=>?_;rw[(Vh.mp hy).2];rfl)]
   show (x == x&&true)=true;simp
 unfold gNe;rw[h1,h2];rfl
theorem WU {S:Sto}{p j:Ah}{m:MO}(h:zV S p)(ne:p≠j):zV (S.set j m) p:=by
 obtain⟨v,f,e⟩:=h;exact⟨v,f,by rw[Ek om];exact e⟩
theorem WT {S:Sto}{p:Ah}(h:zV S p):p<S.length:=by
 obtain⟨v,f,e⟩:=h;exact(Ba.mp e).1
theorem J7 (x:Au)(k:Ah)(hk:k≤1000)(f:DE)(env:qD)(S:Sto)(hf:f env S=.ok (.int (k:Aj)) S):d2 g6 (zN (qA (dC (.str x)) (qC))) f env S=.ok (.lst (Cg k (.str x))) S:=by
 have l1:1≤lim:=by decide
 refine(qM (wG (xS (a:=.str x) rfl) l1) hf).trans ?_;have h:(0:Aj)≤(k:Aj)∧(k:Aj)<2 ^ 62∧[D.str x].length*(k:Aj).toNat≤lim:=⟨by omega,by omega,by
  show 1*(k:Aj).toNat≤lim;unfold lim;omega⟩
 simp only[g6];rw[AT h,Fl]
 congr 2
 clear h hf hk
 induction k with
 |zero=>rfl
 |succ k ih=>rw[Ew,Hb,ih,Ew];rfl
abbrev eL (nn:Ab Aj)(y:Aj)(p:Ah)(l:Ab Pt)(t:Ah)(e5 e6 e7 e8 e9 e10 e11 e12 e13 e14:Am D):qD:=[Aa (.lst (nn.map D.int)),Aa (.int y),Aa (.loc p),Aa (.tup (l.map pD)),Aa (.loc t),e5,e6,e7,e8,e9,e10,e11,e12,e13,e14]
theorem YT {l:Ab Pt}(hl:l.length≤40)(p:Pt):(thL l p).length≤4000:=by
 rw[oT];have h1:=Ec (fun x:Pt × Pt=>far p x.1 == far p x.2) (wA (oth l p));have h2:=Z8 (l:=oth l p) (by have:=j3 l p;omega)
 show (Xm _ _).length≤4000;omega
theorem UC {l:Ab Pt}(hl:l.length≤40)(a:Ab Pt)(ha:a.length≤40):(a.flatMap (thL l)).length≤160000:=by
 have h1:=aQ (thL l) 4000 a fun q _=>YT hl q;have h2:a.length*4000≤40*4000:=Nat.mul_le_mul_right _ ha;omega
inductive IvO (nn:Ab Aj)(y:Aj)(p:Ah)(l:Ab Pt)(t:Ah)(e8 e9 e10 e11 e12 e13 e14:Am D)(ds:Ab D)(env:qD)(S:Sto):Prop
 |mk (a b:Ab Pt) (e5 e6 e7:Am D) (h_0:a++b=l) (h_1:ds=b.map pD) (h_2:env=eL nn y p l t e5 e6 e7 e8 e9 e10 e11 e12 e13 e14) (h_3:S[t]? = Aa (.lst ((a.flatMap (thL l)).map tD))) (h_4:zV S p):IvO nn y p l t e8 e9 e10 e11 e12 e13 e14 ds env S
inductive IvI (nn:Ab Aj)(y:Aj)(p:Ah)(l:Ab Pt)(t:Ah)(q:Pt)(D0:Ab (Pt × Pt × Pt))(e8 e9 e10 e11 e12 e13 e14:Am D)(ds:Ab D)(env:qD)(S:Sto):Prop
 |mk (xs ys:Ab (Pt × Pt)) (e6 e7:Am D) (h_0:xs++ys=wA (oth l q)) (h_1:ds=ys.map prD) (h_2:env=eL nn y p l t (Aa (pD q)) e6 e7 e8 e9 e10 e11 e12 e13 e14) (h_3:S[t]? = Aa (.lst ((D0++(xs.filter fun x=>far q x.1 == far q x.2).map fun x=>(q,x.1,x.2)).map tD))) (h_4:zV S p):IvI nn y p l t q D0 e8 e9 e10 e11 e12 e13 e14 ds env S
theorem YU {nn:Ab Aj}{y:Aj}{p:Ah}{l:Ab Pt}(L:Lt l){t:Ah}(hpt:p≠t){e5 e6 e7 e8 e9 e10 e11 e12 e13 e14:Am D}{S:Sto}(ht:S[t]? = Aa (.lst []))(hp:zV S p){Q:qD→Sto→Prop}
  (k:∀ e5 e6 e7 S',S'[t]? = Aa (.lst ((T l).map tD))→zV S' p→Q (eL nn y p l t e5 e6 e7 e8 e9 e10 e11 e12 e13 e14) S') :
  Nx (yF (wN (qB 3)) (gNm 5) (yF (wN (qG 1 S__law_pairs (qA (qE wW (qA (qO false [none,Aa 5] (dIt (qB 3)) (gNm 0) (wJ (dTr (d2 gNe (qB 0) (qB 1))) (z9)) (qV (qB 0))) (qC))) (qC)))) (gTp 2 (qZ (gNm 6) (qZ (gNm 7) (xQ)))) (sIf (dTr (d2 gEq (qG 2 S__law_far (qA (qB 5) (qA (qB 6) (qC)))) (qG 2 S__law_far (qA (qB 5) (qA (qB 7) (qC)))))) (yM (dBm "list" vE (qB 4) (qA (qT (qA (qB 5) (qA (qB 6) (qA (qB 7) (qC))))) (qC)))) (zD))) (eL nn y p l t e5 e6 e7 e8 e9 e10 e11 e12 e13 e14) S) Q:=by
 have l3:3≤lim:=by decide
 have hok:=L.oks;have h40:=L.le;refine uI (ds:=l.map pD) (S1:=S) rfl ?_;refine vH (IvO nn y p l t e8 e9 e10 e11 e12 e13 e14) ?_ ?_ ⟨[],l,e5,e6,e7,rfl,rfl,rfl,ht,hp⟩
 ·rintro d ds env S ⟨a,b,e5,e6,e7,hab,hds,rfl,ht,hp⟩
  cases b with
  |nil=>cases hds
  |cons q b =>
   injection hds with h1 h2
   subst h1 h2;have hql:q∈l:=by rw[← hab];simp
   have hal:a.length≤40:=by have:=congrArg Mb hab;simp at this;omega
   have hsm:=UC h40 a hal;refine⟨eL nn y p l t (Aa (pD q)) e6 e7 e8 e9 e10 e11 e12 e13 e14,S,rfl,?_⟩;have hit:wN (qG 1 S__law_pairs (qA (qE wW (qA (qO false [none,Aa 5] (dIt (qB 3)) (gNm 0) (wJ (dTr (d2 gNe (qB 0) (qB 1))) (z9)) (qV (qB 0))) (qC))) (qC))) (eL nn y p l t (Aa (pD q)) e6 e7 e8 e9 e10 e11 e12 e13 e14) S=.ok ((wA (oth l q)).map prD) S:=by
    unfold wN;rw[(j9 ((wF (WR l q (eL nn y p l t (Aa (pD q)) e6 e7 e8 e9 e10 e11 e12 e13 e14) 3 5 S h40 rfl rfl)).trans (rfl:wW [.lst ((oth l q).map pD)] S=.ok (.tup ((oth l q).map pD)) S))).trans (JV (oth l q) S (by have:=j3 l q;omega))]
    rfl
   refine uI hit ?_;clear hit;refine vH (IvI nn y p l t q (a.flatMap (thL l)) e8 e9 e10 e11 e12 e13 e14) ?_ ?_ ⟨[],_,e6,e7,rfl,rfl,rfl,by simpa using ht,hp⟩
   ·rintro d ds env S ⟨xs,ys,e6,e7,hxy,hds,rfl,ht,hp⟩
    cases ys with
    |nil=>cases hds
    |cons x ys =>
     injection hds with h1 h2
     subst h1 h2;have hx:x∈wA (oth l q):=by rw[← hxy];simp
     obtain⟨m1,m2⟩:=rR hx;have o1:=hok _ (Fq.mp m1).1;have o2:=hok _ (Fq.mp m2).1;refine⟨eL nn y p l t (Aa (pD q)) (Aa (pD x.1)) (Aa (pD x.2)) e8 e9 e10 e11 e12 e13 e14,S,rfl,?_⟩;refine xK (b:=far q x.1 == far q x.2) (S1:=S) (w9 ((qM ((xP (a:=pD q) (b:=pD x.1) rfl rfl).trans (nK q x.1 S (hok q hql) o1)) ((xP (a:=pD q) (b:=pD x.2) rfl rfl).trans (nK q x.2 S (hok q hql) o2))).trans (jW _ _ _))) ?_;cases hc:far q x.1 == far q x.2 with
     |false =>
      rw[Bc (by simp)]
      refine zU rfl ⟨xs++[x],ys,_,_,by rw[← hxy];simp,rfl,rfl,?_,hp⟩
      rw[Iy];simp[hc];simpa using ht
     |true =>
      rw[AT rfl];have hln:((a.flatMap (thL l)++(xs.filter fun x=>far q x.1 == far q x.2).map fun x=>(q,x.1,x.2)).map tD).length<lim:=by
       have h1:=Ec (fun x:Pt × Pt=>far q x.1 == far q x.2) xs;have h2:=congrArg Mb hxy;have h3:=Z8 (l:=oth l q) (by have:=j3 l q;omega)
       rw[Br] at h2;rw[Ar,Br,Ar];unfold lim;omega
      have htl:=(Ba.mp ht).1;refine o6 (zI ((Q9 (o:=.loc t) rfl (GY ht) (xS (zP (zO (a:=pD q) rfl (zM (a:=pD x.1) (b:=pD x.2) rfl rfl)) l3))).trans (ZW ht hln _)) ⟨xs++[x],ys,_,_,by rw[← hxy];simp,rfl,rfl,?_,WU hp hpt⟩)
      rw[En htl,Iy];simp only[Xd,hc,De,List.filter_nil,Jk,Df,Nc,Ej];rfl
   ·rintro env S ⟨xs,ys,e6,e7,hxy,hds,rfl,ht,hp⟩
    cases ys with
    |cons _ _=>cases hds
    |nil =>
     have:xs=wA (oth l q):=by simpa using hxy
     subst this;refine⟨a++[q],b,_,_,_,by rw[← hab];simp,rfl,rfl,?_,hp⟩
     rw[Um];simp only[Fo,Xn,Ft];exact ht
 ·rintro env S ⟨a,b,e5,e6,e7,hab,hds,rfl,ht,hp⟩
  cases b with
  |cons _ _=>cases hds
  |nil =>
   have:a=l:=by simpa using hab
   subst this;exact k e5 e6 e7 S ht hp
theorem VJ (ns:Ab Aj)(hl:ns.length≤63)(env:qD)(S:Sto)(h0:env[0]? = Aa (Aa (.lst (ns.map D.int)))):∃ ms:Ab Aj,wN (d2 qR (zN (qA (qG 2 S__law_cell (qA (qB 0) (qA (dC (.int 0)) (qC)))) (qC))) (dSl (qB 0) (qY (dC (.int 1))) (qY (dC (.int 4))))) env S=.ok (ms.map D.int) S:=by
 obtain⟨x,hx⟩:=RV ns S;obtain⟨ms,hm,hml⟩:=PX ns (Aa 1) (Aa 4);refine⟨x::ms,?_⟩;have l1:1≤lim:=by decide
 have hs:dSl (qB 0) (qY (dC (.int 1))) (qY (dC (.int 4))) env S=.ok (.lst (ms.map D.int)) S:=by
  simp only[dSl,w5 h0,Res.bind,qY,dC];show Res.ok (D.lst (zW (ns.map D.int) (Aa 1) (Aa 4))) S=_;rw[hm]
 have hc:zN (qA (qG 2 S__law_cell (qA (qB 0) (qA (dC (.int 0)) (qC)))) (qC)) env S=.ok (.lst [.int x]) S:=wG (xS ((xP (w5 h0) rfl).trans hx)) l1;unfold wN;rw[qM hc hs,yY (by rw[Ar];show 1+ms.length≤lim;unfold lim;omega)]
 rfl
theorem atN {l:Ab Pt}(hl:1≤l.length):∃ a∈l,∀ S:Sto,gIx (.tup (l.map pD)) (.int 0) S=.ok (pD a) S:=by
 cases l with
 |nil=>simp at hl
 |cons a l=>exact⟨a,by simp,fun S=>uE (rV _ 0 _ rfl) S⟩
theorem atZ {l:Ab Pt}(hl:1≤l.length):∃ a∈l,∀ S:Sto,gIx (.tup (l.map pD)) (.int (-1)) S=.ok (pD a) S:=by
 have hne:l≠[]:=fun e=>by subst e;simp at hl
 refine⟨l.getLast hne,List.getLast_mem hne,fun S=>uE ?_ S⟩;have hn:_L.ixN (l.map pD).length (-1)=Aa (l.length-1):=by
  unfold _L.ixN;rw[Ar];simp;omega
 unfold _L.atI;rw[hn];simp only[Qp];rw[Dm,An om,List.getLast_eq_getElem];rfl
def lO:Ab Pt:=[(999,998),(-997,3),(0,0),(1,0)]
theorem FT:∀ q∈lO,qW (pD q)=true:=by decide
inductive IvC (nn:Ab Aj)(ds:Ab D)(env:qD)(S:Sto):Prop
 |mk (ms:Ab Aj) (e1 e2 e3 e4 e5 e6 e7 e8 e9 e10 e11 e12 e13 e14:Am D) (h_0:ds=ms.map D.int) (h_1:env=[Aa (.lst (nn.map D.int)),e1,e2,e3,e4,e5,e6,e7,e8,e9,e10,e11,e12,e13,e14]):IvC nn ds env S
structure Kp (S:Sto)(p t:Ah)(l:Ab Pt):Prop where
 pen:zV S p
 ths:S[t]? = Aa (.lst ((T l).map tD))
theorem Kp.pre {S S':Sto}{p t:Ah}{l:Ab Pt}(h:Kp S p t l)(e:S<+:S'):Kp S' p t l:=⟨fE h.pen e,iM h.ths e⟩
theorem Kp.set {S:Sto}{p t j:Ah}{l:Ab Pt}{m:MO}(h:Kp S p t l)(h1:p≠j)(h2:t≠j):Kp (S.set j m) p t l:=⟨WU h.pen h1,by rw[Ek (Ea h2)];exact h.ths⟩
theorem Kp.lt {S:Sto}{p t:Ah}{l:Ab Pt}(h:Kp S p t l):p<S.length∧t<S.length:=⟨WT h.pen,(Ba.mp h.ths).1⟩
inductive IvT (nn:Ab Aj)(y:Aj)(p:Ah)(l:Ab Pt)(t:Ah)(e6 e7 e10 e11 e12 e13 e14:Am D)(ds:Ab D)(env:qD)(S:Sto):Prop
 |mk (e5 e8 e9:Am D) (h_0:env=eL nn y p l t e5 e6 e7 e8 e9 e10 e11 e12 e13 e14) (h_1:Kp S p t l):IvT nn y p l t e6 e7 e10 e11 e12 e13 e14 ds env S
inductive IvP2 (nn:Ab Aj)(y:Aj)(p:Ah)(l:Ab Pt)(t:Ah)(e6 e7 e8 e10 e11 e12 e13 e14:Am D)(ds:Ab D)(env:qD)(S:Sto):Prop
 |mk (b:Ab Pt) (e5 e9:Am D) (h_0:ds=b.map pD) (h_1:∀ q∈b,q∈l) (h_2:env=eL nn y p l t e5 e6 e7 e8 e9 e10 e11 e12 e13 e14) (h_3:Kp S p t l):IvP2 nn y p l t e6 e7 e8 e10 e11 e12 e13 e14 ds env S
theorem UR (c:Cl)(nd:(wH c).Nodup)(nn:Ab Aj)(hl:nn.length≤63):∃ S,qQ 15 (b_law c) [.lst (nn.map D.int)] [] = .ok (.bl true) S:=by
 have l0:0≤lim:=by decide
 have l1:1≤lim:=by decide
 have l2:2≤lim:=by decide
 have l3:3≤lim:=by decide
 have l4:4≤lim:=by decide
 have key:Rt (b_law c [Aa (.lst (nn.map D.int)),none,none,none,none,none,none,none,none,none,none,none,none,none,none] []) fun d _=>d=.bl true:=by
  unfold b_law;obtain⟨ms,hms⟩:=VJ nn hl [Aa (.lst (nn.map D.int)),none,none,none,none,none,none,none,none,none,none,none,none,none,none] [] rfl;refine qU (uI hms ?_);refine vH (IvC nn) ?_ ?_ ⟨ms,_,_,_,_,_,_,_,_,_,_,_,_,_,_,rfl,rfl⟩
  ·rintro d ds env S ⟨ms,e1,e2,e3,e4,e5,e6,e7,e8,e9,e10,e11,e12,e13,e14,hds,rfl⟩
   cases ms with
   |nil=>cases hds
   |cons y ms =>
    injection hds with h1 h2
    subst h1 h2;refine⟨[Aa (.lst (nn.map D.int)),Aa (.int y),e2,e3,e4,e5,e6,e7,e8,e9,e10,e11,e12,e13,e14],S,rfl,?_⟩;obtain⟨f,hpen⟩:=CZ y S;refine xO (zX ((j9 (a:=.int y) rfl).trans hpen) rfl ?_);have p0:zV (S++[.lst [.int y,.int f]]) S.length:=⟨y,f,by simp⟩
    generalize S++[.lst [.int y,.int f]]=S0 at p0;generalize S.length=p at p0;simp only[Bx,By];obtain⟨xs,S1,c1,hx,hxl,hlot,p1⟩:=CY S0 p p0;refine xO (zX ((xP (a:=.loc p) (b:=.int 40) rfl rfl).trans c1) rfl ?_);clear c1 hpen hms;simp only[Bx,By];obtain⟨l,rfl⟩:=lL hx;rw[Ar] at hxl;have L:Lt l:=⟨hx,hxl.1,hxl.2,hlot⟩;refine xO (xY (zI (rfl:mY qC _ S1=.ok (.loc S1.length) (S1++[.lst []])) ?_));simp only[Bx,By];have hpt:p≠S1.length:=by have:=WT p1;omega
    refine xO (YU (nn:=nn) (y:=y) (p:=p) (l:=l) (t:=S1.length) L hpt (by simp) (fE p1 (Hn _ _)) fun e5 e6 e7 S2 ht hp=>?_)
    have K0:Kp S2 p S1.length l:=⟨hp,ht⟩;clear ht hp p0 p1;generalize S1.length=t at K0 hpt;have hr2:∀ env S,yW (qA (dC (.int 2)) (qC)) env S=.ok [.int 0,.int 1] S:=fun env S=>rfl;refine xO (uI (hr2 _ _) ?_);refine vH (IvT nn y p l t e6 e7 e10 e11 e12 e13 e14) ?_ ?_ ⟨e5,e8,e9,rfl,K0⟩
    ·rintro d ds env S ⟨e5,e8,e9,rfl,K⟩
     refine⟨eL nn y p l t e5 e6 e7 (Aa d) e9 e10 e11 e12 e13 e14,S,rfl,?_⟩;obtain⟨Sa,ca,qa⟩:=N6 c l L (.int 0) S;obtain⟨Sb,cb,qb⟩:=N7 c l L (.int 0) Sa;have Kb:=(K.pre qa).pre qb;have hlen:qE zH (qA (qB 4) (qC)) (eL nn y p l t e5 e6 e7 (Aa d) e9 e10 e11 e12 e13 e14) Sb=.ok (.int ((T l).length:Aj)) Sb:=by
      refine(wF (a:=.loc t) rfl).trans ?_;show m9 [.loc t] Sb=_;simp only[m9,US,Kb.ths,Ar]
     have hmin:mZ (qA (qB 4) (qC)) (dC .non) (eL nn y p l t e5 e6 e7 (Aa d) e9 e10 e11 e12 e13 e14) Sb=.ok (jK l) Sb:=by
      unfold mZ;rw[xS (a:=.loc t) rfl,Res.bind_ok];exact FH l Kb.ths
     refine xO (xK (b:=false) (S1:=Sb) (jD (b:=true) (w9 ((xP (wG (zM ((kX (a:=.int 1) (b:=.tup (l.map pD)) (c:=.int 0) rfl rfl rfl).trans ca) ((kX (a:=.int 2) (b:=.tup (l.map pD)) (c:=.int 0) rfl rfl rfl).trans cb)) l2) (wG (zM hlen hmin) l2)).trans (YM Sb _ l)))) (zU rfl ?_));clear ca cb hlen hmin;refine uI (ds:=l.map pD) (S1:=Sb) rfl ?_;refine vH (IvP2 nn y p l t e6 e7 (Aa d) e10 e11 e12 e13 e14) ?_ ?_ ⟨l,e5,e9,rfl,fun q hq=>hq,rfl,Kb⟩
     ·rintro d2 ds env S ⟨b,e5,e9,hds,hb,rfl,K⟩
      cases b with
      |nil=>cases hds
      |cons q b =>
       injection hds with h1 h2
       subst h1 h2;have hq:=hb q (by simp)
       refine⟨eL nn y p l t (Aa (pD q)) e6 e7 (Aa d) e9 e10 e11 e12 e13 e14,S,rfl,?_⟩;obtain⟨j,Sc,cc,hj,hjl,qc⟩:=eA c l L q hq S;refine xO (xY (zI ((kX (a:=.int 0) (b:=.tup (l.map pD)) (c:=pD q) rfl rfl rfl).trans cc) ?_));clear cc;simp only[Bx,By];have Kc:=K.pre qc;have hkl:=K.lt;refine xO (xK (b:=false) (S1:=Sc) (jD (b:=true) (w9 ((xP (f1:=qB 9) (a:=.loc j) rfl ((xP (a:=.tup (l.map pD)) (b:=pD q) rfl rfl).trans (mL l q Sc L.oks (L.oks q hq) L.le))).trans (MQ Sc j _ hj)))) (zU rfl ?_));have hlj:((rg q (oth l q)).map rD).length<lim:=by
        have h1:=tX q (oth l q);have h2:=j3 l q;have h3:=L.le;rw[Ar];unfold rg;rw[Ar];unfold lim;omega
       refine o6 (zI ((Q9 (o:=.loc j) rfl (GY hj) (xS (a:=.int 0) rfl)).trans (ZW hj hlj _)) ?_);exact⟨b,_,_,rfl,fun r hr=>hb r (by simp[hr]),rfl,Kc.set om om⟩
     ·rintro env S ⟨b,e5,e9,hds,hb,rfl,K⟩
      exact⟨_,_,_,rfl,K⟩
    ·rintro env S ⟨e5,e8,e9,rfl,K⟩
     obtain⟨a0,m0,i0⟩:=atN (l:=l) hxl.1;obtain⟨az,mz,iz⟩:=atZ (l:=l) hxl.1;obtain⟨i,Sa,ca,hi,_,qa⟩:=eA c l L a0 m0 S;obtain⟨j,Sb,cb,hj,_,qb⟩:=eA c l L az mz Sa;have x0:∀ env S,env[3]? = Aa (Aa (.tup (l.map pD)))→d2 gIx (qB 3) (dC (.int 0)) env S=.ok (pD a0) S:=fun env S h=>(qM (w5 h) rfl).trans (i0 S);have xz:∀ env S,env[3]? = Aa (Aa (.tup (l.map pD)))→d2 gIx (qB 3) (d1 yJ (dC (.int 1))) env S=.ok (pD az) S:=fun env S h=>(qM (w5 h) (rfl:d1 yJ (dC (.int 1)) env S=.ok (.int (-1)) S)).trans (iz S);refine xO (tY ((kX (a:=.int 0) (b:=.tup (l.map pD)) rfl rfl (x0 _ _ rfl)).trans ca) ((kX (a:=.int 0) (b:=.tup (l.map pD)) rfl rfl (xz _ _ rfl)).trans cb) ?_);clear ca cb;simp only[Bx,By];have hi':=iM hi qb;have hp:=fE (fE K.pen qa) qb;refine xO (xK (b:=false) (S1:=Sb) (jD (b:=true) (w9 ((xP (wG (zM (f1:=qB 10) (f2:=qB 7) (a:=.loc i) (b:=.loc j) rfl rfl) l2) (wG (zM ((xP (a:=.tup (l.map pD)) rfl (x0 _ _ rfl)).trans (mL l a0 Sb L.oks (L.oks a0 m0) L.le)) ((xP (a:=.tup (l.map pD)) rfl (xz _ _ rfl)).trans (mL l az Sb L.oks (L.oks az mz) L.le))) l2)).trans (K2 Sb i j _ _ hi' hj)))) (zU rfl ?_));clear hi hi' hj;obtain⟨bad,S4,c4,td,hd,p4⟩:=JW Sb p (l.map pD) hp L.pt (by rw[Ar];exact hxl)
     obtain⟨odd,S5,c5,to,ho,p5⟩:=nM S4 p a0.1 a0.2 p4 (L.bd m0).1 (L.bd m0).2;refine xO (zX (zP (zM ((xP (a:=.loc p) (b:=.tup (l.map pD)) rfl rfl).trans c4) ((xP (a:=.loc p) (b:=pD a0) rfl (x0 _ _ rfl)).trans c5)) l2) (env1:=eL nn y p l t e5 e6 (Aa (.loc j)) e8 e9 (Aa (.loc i)) (Aa bad) (Aa odd) e13 e14) (S2:=S5) rfl ?_);clear c4 c5;have h13:qO false [none,Aa 3] (dIt (zN (qA (qT (qA (dC (.int 999)) (qA (dC (.int 998)) (qC)))) (qA (qT (qA (d1 yJ (dC (.int 997))) (qA (dC (.int 3)) (qC)))) (qA (qT (qA (dC (.int 0)) (qA (dC (.int 0)) (qC)))) (qA (qT (qA (dC (.int 1)) (qA (dC (.int 0)) (qC)))) (qC))))))) (gNm 0) (wJ (dTr (d2 yP (qB 0) (qB 1))) (z9)) (qV (qB 0)) (eL nn y p l t e5 e6 (Aa (.loc j)) e8 e9 (Aa (.loc i)) (Aa bad) (Aa odd) e13 e14) S5=.ok (.lst ((lO.filter fun q=>!decide (q∈l)).map pD)) S5:=by
      have hit:dIt (zN (qA (qT (qA (dC (.int 999)) (qA (dC (.int 998)) (qC)))) (qA (qT (qA (d1 yJ (dC (.int 997))) (qA (dC (.int 3)) (qC)))) (qA (qT (qA (dC (.int 0)) (qA (dC (.int 0)) (qC)))) (qA (qT (qA (dC (.int 1)) (qA (dC (.int 0)) (qC)))) (qC)))))) (eL nn y p l t e5 e6 (Aa (.loc j)) e8 e9 (Aa (.loc i)) (Aa bad) (Aa odd) e13 e14) S5=.ok (none,lO.map pD) S5:=by
       unfold dIt;rw[wG (zO (zP (zM (a:=.int 999) (b:=.int 998) rfl rfl) l2) (zO (zP (zM (a:=.int (-997)) (b:=.int 3) rfl rfl) l2) (zM (zP (zM (a:=.int 0) (b:=.int 0) rfl rfl) l2) (zP (zM (a:=.int 1) (b:=.int 0) rfl rfl) l2)))) l4];rfl
      exact vB (enc:=pD) (cap:=[none,Aa 3]) (g:=gNm 0) (t:=wJ (dTr (d2 yP (qB 0) (qB 1))) (z9)) (fe:=qB 0) hit trivial (fun q=>!decide (q∈l)) pD (fun env=>∃ a,env=[a,Aa (.tup (l.map pD))]) ⟨none,rfl⟩ (by show 4≤lim;decide)
       (fun q hq env ⟨a,e⟩=>by
        subst e;exact⟨[Aa (pD q),Aa (.tup (l.map pD))],rfl,⟨_,rfl⟩,bP ((qM (a:=pD q) (b:=.tup (l.map pD)) rfl rfl).trans (mK q l S5)),fun _=>rfl⟩)
     refine xO (xY (zI h13 ?_));clear h13;simp only[Bx,By];have ool:(lO.filter fun q=>!decide (q∈l)).length≤4:=Ec _ _;have oo:∀ q∈lO.filter (fun q=>!decide (q∈l)),NoP l (pD q):=fun q hq=>by
      obtain⟨m1,m2⟩:=Fq.mp hq;exact .out q rfl (FT q m1) (by simpa using m2)
     generalize lO.filter (fun q=>!decide (q∈l))=O at ool oo;have r3:=b9 (dC (.int 3)) 3 (eL nn y p l t e5 e6 (Aa (.loc j)) e8 e9 (Aa (.loc i)) (Aa bad) (Aa odd) (Aa (.lst (O.map pD))) e14) S5 om rfl;have hc:=vB (enc:=iD) (cap:=[none,Aa 11,Aa 12]) (g:=gNm 0) (t:=z9) (fe:=qG 3 (okO (S__law_came c)) (qA (qB 0) (qA (qB 1) (qA (qB 2) (qC))))) r3 trivial (fun _=>true) (fun _=>D.str "lot") (fun env=>∃ a,env=[a,Aa bad,Aa odd]) ⟨none,rfl⟩ (by show 3≤lim;decide)
      (fun w hw env ⟨a,q⟩=>by
       subst q;have hw:=Eg.mp hw;exact⟨[Aa (iD w),Aa bad,Aa odd],rfl,⟨_,rfl⟩,rfl,fun _=>(kX (a:=.int (w:Aj)) (b:=bad) (c:=odd) rfl rfl rfl).trans (uJ (VH c nd w hw bad odd S5 td hd))⟩)
     rw[wX] at hc;refine xO (xK (b:=false) (S1:=S5) (w9 ((qM hc (J7 "lot" 3 om (dC (.int 3)) _ S5 rfl)).trans (d8 "lot" 3 S5))) (zU rfl ?_));clear hc r3;have pts:∀ (m:Ab Pt) (M:Lt m) (X:Ab D) (fi:DI2) (env:qD) (i:Ah),X.length≤100→(∀ d∈X,NoP m d)→fi env S5=.ok (none,X) S5→env[i]? = Aa (Aa (.tup (m.map pD)))→qO false [none,Aa i] fi (gNm 0) (z9) (qV (qG 3 (okO (S__law_came c)) (qA (dC (.int 0)) (qA (qB 1) (qA (qB 0) (qC)))))) env S5=.ok (.lst (Cg X.length (.str "point"))) S5:=fun m M X fi env i hX hno hfi he=>by
      have hs:xF [none,Aa i] env=[none,Aa (.tup (m.map pD))]:=by simp[xF,he]
      have:=eE (cap:=[none,Aa i]) (g:=gNm 0) (t:=z9) (fe:=qG 3 (okO (S__law_came c)) (qA (dC (.int 0)) (qA (qB 1) (qA (qB 0) (qC))))) hfi trivial (fun _=>true) (fun _=>D.str "point") (fun env=>∃ a,env=[a,Aa (.tup (m.map pD))]) ⟨none,hs⟩ (by unfold lim;omega)
       (fun d hd env ⟨a,q⟩=>by
        subst q;exact⟨[Aa d,Aa (.tup (m.map pD))],rfl,⟨_,rfl⟩,rfl,fun _=>(kX (a:=.int 0) (b:=.tup (m.map pD)) (c:=d) rfl rfl rfl).trans (uJ (PN c nd m M d (hno d hd) S5))⟩)
      rw[wX,List.map_const'] at this;exact this
     have hno:∀ d∈[odd]++O.map pD,NoP l d:=fun d hd'=>by
      rcases Cu.mp hd' with h|h
      ·have:d=odd:=by simpa using h
       subst this;exact .odd to ho
      ·obtain⟨q,hq,rfl⟩:=Bt.mp h
       exact oo q hq
     have hfi:dIt (d2 qR (zN (qA (qB 12) (qC))) (qB 13)) (eL nn y p l t e5 e6 (Aa (.loc j)) e8 e9 (Aa (.loc i)) (Aa bad) (Aa odd) (Aa (.lst (O.map pD))) e14) S5=.ok (none,[odd]++O.map pD) S5:=by
      unfold dIt;rw[(qM (wG (xS (a:=odd) rfl) l1) (b:=.lst (O.map pD)) rfl).trans (yY (by rw[Ar];show 1+O.length≤lim;unfold lim;omega) S5)]
      rfl
     have hk:=pts l L ([odd]++O.map pD) _ _ 3 (by rw[Br,Ar];show 1+O.length≤100;omega) hno hfi rfl
     have hln:([odd]++O.map pD).length=1+O.length:=by rw[Br,Ar];rfl
     rw[hln] at hk;have hcnt:d2 qR (dC (.int 1)) (qE zH (qA (qB 13) (qC))) (eL nn y p l t e5 e6 (Aa (.loc j)) e8 e9 (Aa (.loc i)) (Aa bad) (Aa odd) (Aa (.lst (O.map pD))) e14) S5=.ok (.int ((1+O.length:Ah):Aj)) S5:=by
      refine((qM (f:=dC (.int 1)) (a:=.int 1) rfl ((wF (a:=.lst (O.map pD)) rfl).trans (mG _ S5))).trans (wB _ _ _)).trans ?_;rw[Ar,Yb];rfl
     refine xO (xK (b:=false) (S1:=S5) (w9 ((qM hk (J7 "point" (1+O.length) om _ _ S5 hcnt)).trans (d8 "point" _ S5))) (zU rfl ?_));clear hk hcnt hfi hno;obtain⟨zs,z1,z2,z3,z4⟩:=nQ ((l.map pD).take 39++[pD (1,0)]) (jU (Aq.mpr fun d hd'=>Aq.mp L.pt d (Gz hd')) rfl) ⟨by simp,by simp;omega⟩
     obtain⟨m,rfl⟩:=lL z2;rw[Ar] at z3;have M:Lt m:=⟨z2,z3.1,z3.2,z4⟩;have hon:qE wW (qA (xN (d2 qR (dSl (qB 3) (zE) (qY (dC (.int 39)))) (qT (qA (qT (qA (dC (.int 1)) (qA (dC (.int 0)) (qC)))) (qC))))) (qC)) (eL nn y p l t e5 e6 (Aa (.loc j)) e8 e9 (Aa (.loc i)) (Aa bad) (Aa odd) (Aa (.lst (O.map pD))) e14) S5=.ok (.tup (m.map pD)) S5:=by
      have s1:dSl (qB 3) (zE) (qY (dC (.int 39))) (eL nn y p l t e5 e6 (Aa (.loc j)) e8 e9 (Aa (.loc i)) (Aa bad) (Aa odd) (Aa (.lst (O.map pD))) e14) S5=.ok (.tup ((l.map pD).take 39)) S5:=by
       show Res.ok (D.tup (zW (l.map pD) none (Aa ((39:Ah):Aj)))) S5=_;rw[gK]
      have s2:=(qM s1 (zP (xS (zP (zM (f1:=dC (.int 1)) (f2:=dC (.int 0)) (a:=.int 1) (b:=.int 0) rfl rfl) l2)) l1)).trans (wO (by rw[Ev];show _+1≤lim;unfold lim;omega) S5)
      refine(wF (a:=.lst (m.map pD)) ?_).trans rfl;unfold xN;rw[s2,Res.bind_ok];have:(mQ (.tup ((l.map pD).take 39++[D.tup [.int 1,.int 0]]))).bind wY=Aa (m.map pD):=z1;rw[this]
     refine xO (xY (zI hon ?_));clear hon;simp only[Bx,By];have hfi:dIt (zN (qA (qT (qA (dC (.bl true)) (qA (dC (.int 0)) (qC)))) (qA (qT (qA (dC (.int 1)) (qA (dC (.bl false)) (qC)))) (qA (zN (qA (dC (.int 1)) (qA (dC (.int 0)) (qC)))) (qC))))) (eL nn y p l t e5 e6 (Aa (.loc j)) e8 e9 (Aa (.loc i)) (Aa bad) (Aa odd) (Aa (.lst (O.map pD))) (Aa (.tup (m.map pD)))) S5=.ok (none,[.tup [.bl true,.int 0],.tup [.int 1,.bl false],.lst [.int 1,.int 0]]) S5:=by
      unfold dIt;rw[wG (zO (zP (zM (a:=.bl true) (b:=.int 0) rfl rfl) l2) (zM (zP (zM (a:=.int 1) (b:=.bl false) rfl rfl) l2) (wG (zM (a:=.int 1) (b:=.int 0) rfl rfl) l2))) l3];rfl
     have hk:=pts m M [.tup [.bl true,.int 0],.tup [.int 1,.bl false],.lst [.int 1,.int 0]] _ _ 14 (by show 3≤100;omega) (fun d hd'=>by
      simp only[Av,Cj,Fe] at hd';rcases hd' with rfl|rfl|rfl
      ·exact .odd ⟨_,rfl⟩ rfl
      ·exact .odd ⟨_,rfl⟩ rfl
      ·exact .odd ⟨_,rfl⟩ rfl) hfi rfl
     exact xK (b:=false) (S1:=S5) (w9 ((qM hk (J7 "point" 3 om (dC (.int 3)) _ S5 rfl)).trans (d8 "point" 3 S5))) (zU rfl ⟨ms,_,_,_,_,_,_,_,_,_,_,_,_,_,_,rfl,rfl⟩)
  ·rintro env S ⟨ms,e1,e2,e3,e4,e5,e6,e7,e8,e9,e10,e11,e12,e13,e14,_,rfl⟩
   exact x9 (zI (d:=.bl true) (S:=S) rfl rfl)
 obtain⟨d,S',e,rfl⟩:=key;exact⟨S',yR rfl e⟩
end _K
namespace _K
open PySem PySem.Spec PyProof.Rows _L _D
theorem yD {P:Bh}{w:Bv}{K:Ak}{mg:Au→Am Ac}{base:Bi}{c:Cl}(T:Txt K mg c){k:Ah}{F:DF}(d:DfS F P w K mg base true k "_law_same" 2):DfS (qQ 4 (b__law_same F)) P w K mg base true (k+1) "_law_same" 2:=by
 refine dq P w base k 16 T rfl ck rfl ?_;intro _ _ _ _ _ _ _ hr
 repeat' first
  |with_reducible exact ck
  |((with_reducible show QE _ _ _);with_reducible first|apply aV|apply GN|apply Y5|apply aBt|apply aN|(apply aB;first|apply P8|apply P7)|apply Y4|apply Y6|apply Y2)
  |((with_reducible show _=_);first|exact T.nb ck|exact gO _|exact rfl|with_unfolding_all rfl)
  |((with_reducible show ZOp _ _ _);with_reducible first|apply EJ|apply ES|apply EL)
  |((with_reducible show RoomC _ _ _);first|assumption|exact RoomC.mono (by assumption)|exact RoomC.mono (RoomC.any (by assumption))|exact RoomC.mark (by assumption) _|exact RoomC.mono (RoomC.mark (by assumption) _))
  |((with_reducible show St1 _ _ _ _);exact⟨rfl,rfl⟩)
  |((with_reducible show DfS _ _ _ _ _ _ _ _ _ _);assumption)
  |with_reducible first|apply Y1|apply nG|apply fJ|apply oD|apply Y0|apply YD|apply YC|(apply GP;first|apply nH|apply rL)|apply YE|apply nH|apply rL|apply aNm|apply Y8|apply cS|apply oE|apply Y9|apply YB|apply GO|apply YA|apply KY
  |((with_reducible apply aSt);case hs=>exact rfl)
  |((with_reducible show ZPass _);first|assumption|exact oX)
  |exact⟨rfl,rfl⟩
  |exact⟨rfl,rfl,rfl⟩
  |apply nG
  |apply fJ
  |(intros;rfl)
  |(intro _ h;cases h <;> rfl)
  |intro _
theorem FB {P:Bh}{w:Bv}{K:Ak}{mg:Au→Am Ac}{base:Bi}{c:Cl}(T:Txt K mg c)(nd:(wH c).Nodup):∃ F,rP P w K mg base true 8 "law" ["_law_script"] F∧∀ ns:Ab Aj,ns.length≤63→∃ S,F [.lst (ns.map D.int)] [] = .ok (.bl true) S:=by
 refine hv (fun _=>?_) (dq (cm:=true) P w base 0 0 T rfl ck (jJ) ?_);refine hv (fun _=>?_) (dq (cm:=true) P w base 1 1 T rfl ck (uV) ?_);refine hv (fun _=>?_) (dq (cm:=true) P w base 0 2 T rfl ck (gJ) ?_);refine hv (fun _=>?_) (dq (cm:=true) P w base 2 3 T rfl ck (pM) ?_);refine hv (fun _=>?_) (dq (cm:=true) P w base 3 4 T rfl ck (fS) ?_);refine hv (fun _=>?_) (dq (cm:=true) P w base 3 5 T rfl ck (kW c) ?_);refine hv (fun _=>?_) (dq (cm:=true) P w base 4 6 T rfl ck (pN c) ?_);refine hv (fun _=>?_) (dq (cm:=true) P w base 0 7 T rfl ck (kA) ?_);refine hv (fun _=>?_) (dq (cm:=true) P w base 1 8 T rfl ck (mW) ?_);refine hv (fun _=>?_) (dq (cm:=true) P w base 5 9 T rfl ck (wU c) ?_);refine hv (fun _=>?_) (dq (cm:=true) P w base 5 10 T rfl ck (vS c) ?_);refine hv (fun _=>?_) (dq (cm:=true) P w base 5 11 T rfl ck (uB c) ?_);refine hv (fun _=>?_) (dq (cm:=true) P w base 0 12 T rfl ck (gH) ?_);refine hv (fun _=>?_) (dq (cm:=true) P w base 0 13 T rfl ck (pL) ?_);refine hv (fun _=>?_) (dq (cm:=true) P w base 0 14 T rfl ck (gI) ?_);refine hv (fun _=>?_) (dq (cm:=true) P w base 0 15 T rfl ck (uA) ?_);have s0:DfS (pH 0) P w K mg base true 0 "_law_same" 2:=⟨B6 (T.src 16 rfl)⟩;have d__law_same:DfS S__law_same P w K mg base true 6 "_law_same" 2:=uU▸yD T (yD T (yD T (yD T (yD T (yD T s0)))));refine hv (fun _=>?_) (dq (cm:=false) P w base 0 17 T rfl ck (vK c) ?_);refine hv (fun _=>?_) (dq (cm:=true) P w base 1 18 T rfl ck (kT) ?_);refine hv (fun _=>?_) (dq (cm:=true) P w base 2 19 T rfl ck (pK) ?_);refine hv (fun _=>?_) (dq (cm:=true) P w base 1 20 T rfl ck (jB) ?_);refine hv (fun _=>?_) (dq (cm:=true) P w base 2 21 T rfl ck (k8) ?_);refine hv (fun _=>?_) (dq (cm:=true) P w base 1 22 T rfl ck (jC) ?_);refine hv (fun _=>?_) (dq (cm:=true) P w base 3 23 T rfl ck (k9) ?_);refine hv (fun _=>?_) (dq (cm:=true) P w base 0 24 T rfl ck (pJ) ?_);refine hv (fun _=>?_) (dq (cm:=true) P w base 0 25 T rfl ck (kS) ?_);refine hv (fun _=>?_) (dq (cm:=true) P w base 6 26 T rfl ck (uT c) ?_);refine hv (fun _=>?_) (dq (cm:=true) P w base 1 27 T rfl ck (kU) ?_);refine⟨_,dqP 7 28 T rfl ck ?_,UR c nd⟩
 all_goals
  intro _ _ _ _ _ _ _ hr
  repeat' first
   |with_reducible exact ck
   |((with_reducible show QE _ _ _);with_reducible first|apply aV|apply RE|apply GN|apply RH|apply Y5|apply aBt|apply aGi|apply aCl|apply aL|apply aO|apply aN|(apply aB;first|apply P8|apply P7|apply AG|apply EO|apply EM)|(apply aT;first|apply TM|apply EN|apply AJ)|apply aC|apply RJ|apply RF|apply M8|apply CP|apply JO|apply MA|apply CQ|apply Y4|apply JM|apply RG|apply CS|apply Y6|apply Y2|apply CO|apply M6|apply RD|apply ZF|apply M9|apply Y7|apply aTb|(apply rK;(case slot=>apply Mg);(case' hm=>first|apply AI))|(apply rK;(case slot=>apply PySem.F.slot_list_append);(case' hm=>first|apply KA))|(apply rK;(case slot=>apply Qw);(case' hm=>first|apply TJ))|(apply rK;(case slot=>apply Qx);(case' hm=>first|apply TK))|apply RB)
   |((with_reducible show _=_);first|exact T.nb ck|with_reducible apply Li|with_reducible apply Rg|with_reducible apply Sy|with_reducible apply Qg|with_reducible apply Rh|with_reducible apply Ri|exact gO _|exact rfl|with_unfolding_all rfl)
   |((with_reducible show ZOp _ _ _);with_reducible first|apply AF|apply AR|apply ER|apply AM|apply AH|apply AL|apply AO|apply OP|apply OO|apply OM|apply OL|apply EJ|apply ES|apply EL|apply AK|apply TL)
   |((with_reducible show RoomC _ _ _);first|assumption|exact RoomC.mono (by assumption)|exact RoomC.mono (RoomC.any (by assumption))|exact RoomC.mark (by assumption) _|exact RoomC.mono (RoomC.mark (by assumption) _))
   |((with_reducible show St1 _ _ _ _);exact⟨rfl,rfl⟩)
   |((with_reducible show DfS _ _ _ _ _ _ _ _ _ _);assumption)
   |with_reducible first|apply Y1|apply nG|apply fJ|apply oD|apply Y0|apply aZt|apply KE|apply MD|apply ME|apply YD|apply YC|apply JS|(apply GP;first|apply nH|apply rL)|apply YE|apply nH|apply rL|apply aNm|apply Y8|apply RL|apply cS|apply oE|apply RO|apply JP|apply Y9|apply RN|apply RM|apply MH|apply JT|apply MC|apply YB|apply GO|apply MF|apply MG|apply YA|apply aAu|apply aP2|apply aRs|apply aTr|apply AN|apply ON|apply EK|apply AQ|apply KY|apply Li|apply Rg|apply Sy|apply Qg|apply Rh|apply Ri
   |((with_reducible apply aCs);case hsw=>exact rfl)
   |((with_reducible apply aSt);case hs=>exact rfl)
   |with_reducible apply RP
   |exact T.cls
   |exact T.cl (by kernel_rfl)
   |exact T.rz (by kernel_rfl)
   |exact T.ct
   |exact T.gi (by kernel_rfl)
   |((with_reducible show ZPass _);first|assumption|exact oX)
   |exact⟨rfl,rfl⟩
   |exact⟨rfl,rfl,rfl⟩
   |apply nG
   |apply fJ
   |decide
   |(intros;rfl)
   |(intro _ h;cases h <;> rfl)
   |intro _
end _K
namespace _K
open PySem PySem.Spec PyProof.Rows _L _D
theorem bdf:BdF top tab:=by
 repeat (refine⟨?_,?_⟩;(intro _ _ _ _ _ _ us h;first|(obtain⟨_,rfl⟩:=us1 h;rfl)|(obtain⟨_,_,rfl⟩:=us2 h;rfl)|(obtain⟨_,_,_,rfl⟩:=us3 h;rfl)))
 exact trivial
theorem EU {K:Ak}{C0 C1 C2 C3 C4 C5 C6 C7 C8 C9 C10 C11:Af}(q0:Di K Cf "FarError" = Aa (Aa (.ref C0)))(q1:Di K Cf "NoPoint" = Aa (Aa (.ref C1)))(q2:Di K Cf "NoLot" = Aa (Aa (.ref C2)))(q3:Di K Cf "NoNumber" = Aa (Aa (.ref C3)))(q4:Di K Cf "NoCircle" = Aa (Aa (.ref C4)))(q5:Di K Cf "NoMarks" = Aa (Aa (.ref C5)))(q6:Di K Cf "NoFars" = Aa (Aa (.ref C6)))(q7:Di K Cf "NoText" = Aa (Aa (.ref C7)))(q8:Di K Cf "NoLine" = Aa (Aa (.ref C8)))(q9:Di K Cf "NoDeed" = Aa (Aa (.ref C9)))(q10:Di K Cf "Alike" = Aa (Aa (.ref C10)))(q11:Di K Cf "TooMany" = Aa (Aa (.ref C11))):oY K (clt ⟨C0,C1,C2,C3,C4,C5,C6,C7,C8,C9,C10,C11⟩):=⟨q0,q1,q2,q3,q4,q5,q6,q7,q8,q9,q10,q11,trivial⟩
theorem EW {K:Ak}{k0 k1 k2:Sk}(g0:Di K Cf "LEAST_NUMBER" = Aa (Aa (.int (-1000) k0)))(g1:Di K Cf "MOST_NUMBER" = Aa (Aa (.int (1000) k1)))(g2:Di K Cf "MOST_POINTS" = Aa (Aa (.int (40) k2))):Q0 K cst:=⟨⟨_,g0⟩,⟨_,g1⟩,⟨_,g2⟩,trivial⟩
theorem DB {P:Bh}{w:Bv}{K:Ak}{mg:Au→Am Ac}{c:Cl}{fa:Af}(T:Txt K mg c)(nd:(wH c).Nodup)(hfa:mg "law" = Aa (.ref fa)) :
  ∃ fd:Fj,(∀ (s:Ag) (v:Ac),Nh s fd ⟨[v],[]⟩ [("_law_script",v)])∧∀ base:Bi,K.In base→base.Ns Cf mg→FnOk P w K mg base (CXd P w) 8 fa fd ["_law_script"] (rM K):=
 FC (T.src 28 rfl) hfa (fun kV doc pm an cdv ct s v=>.of_eq rfl) fun base=>FB T nd
end _K
theorem PySem.W.Fast.tw14533606869538395951 : True := trivial
theorem PySem.W.Fast.tw9250411606527024528 : True := trivial
theorem PySem.W.Fast.tw1322218027676074397 : True := trivial
theorem PySem.W.Fast.tw17699647365302021538 : True := trivial
theorem PySem.W.Fast.tw4891736176980336459 : True := trivial
theorem PySem.W.Fast.tw6460951819942744995 : True := trivial
theorem PySem.W.Fast.tw14995288823160331172 : True := trivial
theorem PySem.W.Fast.tw18174579141158031223 : True := trivial
theorem PySem.W.Fast.tw14720191091831277827 : True := trivial
theorem PySem.W.Fast.tw10745046335364336523 : True := trivial
theorem PySem.W.Fast.tw11648214108804232994 : True := trivial
theorem PySem.W.Fast.tw13215416298992829562 : True := trivial
theorem PySem.W.Fast.tw12099342464230365677 : True := trivial
theorem PySem.W.Fast.tw15008118790876631259 : True := trivial
theorem PySem.W.Fast.tw16540942048345227783 : True := trivial
theorem PySem.W.Fast.tw16000372809219428584 : True := trivial
theorem PySem.W.Fast.tw3722318260732403448 : True := trivial
theorem PySem.W.Fast.tw7002149233252901505 : True := trivial
theorem PySem.W.Fast.tw9947211918696759318 : True := trivial
theorem PySem.W.Fast.tw4523035381724986679 : True := trivial
theorem PySem.W.Fast.tw12113218905452185730 : True := trivial
theorem PySem.W.Fast.tw15293361244559211561 : True := trivial
theorem PySem.W.Fast.tw11959971829198586170 : True := trivial
theorem PySem.W.Fast.tw11041935438060525975 : True := trivial
theorem PySem.W.Fast.tw4265080248554688327 : True := trivial
theorem PySem.W.Fast.tw7887042136805111249 : True := trivial
theorem PySem.W.Fast.tw11117578438852928319 : True := trivial
theorem PySem.W.Fast.tw5294658620987483993 : True := trivial
theorem PySem.W.Fast.tw2008600203284883658 : True := trivial
theorem PySem.W.Fast.tw2218796616520036369 : True := trivial
theorem PySem.W.Fast.tw1255995801140390536 : True := trivial
theorem PySem.W.Fast.tw14321471766111301863 : True := trivial
theorem PySem.W.Fast.tw4577067035204648271 : True := trivial
theorem PySem.W.Fast.tw7771510225943136654 : True := trivial
theorem PySem.W.Fast.tw8822619392817316824 : True := trivial
theorem PySem.W.Fast.tw10845364785956202341 : True := trivial
theorem PySem.W.Fast.tw4006100531575461668 : True := trivial
theorem PySem.W.Fast.tw6107916172958678612 : True := trivial
theorem PySem.W.Fast.tw12287146726848135070 : True := trivial
theorem PySem.W.Fast.tw6473937608291420709 : True := trivial
theorem PySem.W.Fast.tw13041091938817002316 : True := trivial
theorem PySem.W.Fast.tw4648697909214798125 : True := trivial
theorem PySem.W.Fast.tw4710135955096770494 : True := trivial
theorem PySem.W.Fast.tw11301513279128874605 : True := trivial
theorem PySem.W.Fast.tw12017445504541308673 : True := trivial
theorem PySem.W.Fast.tw13375798944985100738 : True := trivial
theorem PySem.W.Fast.tw11758749015914852297 : True := trivial
theorem PySem.W.Fast.tw9112094514160022524 : True := trivial
theorem PySem.W.Fast.tw8968906392073158604 : True := trivial
theorem PySem.W.Fast.tw10733796239207174583 : True := trivial
theorem PySem.W.Fast.tw8478126642638208765 : True := trivial
theorem PySem.W.Fast.tw7831077198255799184 : True := trivial
theorem PySem.W.Fast.tw10102153731848912458 : True := trivial
theorem PySem.W.Fast.tw8518778998688112408 : True := trivial
theorem PySem.W.Fast.tw10385838906271021116 : True := trivial
theorem PySem.W.Fast.tw2071215762504328705 : True := trivial
theorem PySem.W.Fast.tw4935827315706504511 : True := trivial
theorem PySem.W.Fast.tw15493218818993789306 : True := trivial
theorem PySem.W.Fast.tw3625067928106811583 : True := trivial
theorem PySem.W.Fast.tw2296316242953840808 : True := trivial
theorem PySem.W.Fast.tw13534531100218960443 : True := trivial
theorem PySem.W.Fast.tw971593308343635432 : True := trivial
theorem PySem.W.Fast.tw15529911248314113794 : True := trivial
theorem PySem.W.Fast.tw14873275754099042230 : True := trivial
theorem PySem.W.Fast.tw18045459645593612794 : True := trivial
theorem PySem.W.Fast.tw11781754823374335204 : True := trivial
theorem PySem.W.Fast.tw291628198027920589 : True := trivial
theorem PySem.W.Fast.tw8506703908187647800 : True := trivial
theorem PySem.W.Fast.tw14968785676609184024 : True := trivial
theorem PySem.W.Fast.tw3336009547787665400 : True := trivial
theorem PySem.W.Fast.tw1652533681378279148 : True := trivial
theorem PySem.W.Fast.tw6618528358136074244 : True := trivial
theorem PySem.W.Fast.tw5273529845130649506 : True := trivial
theorem PySem.W.Fast.tw3464281775021785313 : True := trivial
theorem PySem.W.Fast.tw5779104739302693802 : True := trivial
theorem PySem.W.Fast.tw10409737057032175915 : True := trivial
theorem PySem.W.Fast.tw11231196940530220787 : True := trivial
theorem PySem.W.Fast.tw18140962463551085793 : True := trivial
theorem PySem.W.Fast.tw7945343719710014787 : True := trivial
theorem PySem.W.Fast.tw9045346043022604076 : True := trivial
theorem PySem.W.Fast.tw5490916189529540639 : True := trivial
theorem PySem.W.Fast.tw17279797491210565836 : True := trivial
theorem PySem.W.Fast.tw17533089397803246656 : True := trivial
theorem PySem.W.Fast.tw15826130596266449482 : True := trivial
theorem PySem.W.Fast.tw6634811454960738188 : True := trivial
theorem PySem.W.Fast.tw12850842290971290461 : True := trivial
theorem PySem.W.Fast.tw3319201032232851828 : True := trivial
theorem PySem.W.Fast.tw6382014353262209212 : True := trivial
theorem PySem.W.Fast.tw9186127280266685170 : True := trivial
theorem PySem.W.Fast.tw7784780525630517510 : True := trivial
open PySem PySem.W PyProof.Rows
set_option maxRecDepth 100000 in
set_option maxHeartbeats 0 in
theorem PySem.Challenge.cw_fewdistances_k11_points_as_far_from_two_holds : PySem.Challenge.rw_fewdistances_k11_points_as_far_from_two.Holds := by
 w_on;o_law;z_head;(case hw=>w_witness2)
 refine _D.AE (fun _=>by kernel_rfl) ?_
 refine _D.AD (l:=PySem.Challenge.rw_fewdistances_k11_points_as_far_from_two) (k:=8) (x:="_law_script") rfl rfl ⟨rfl,by decide,by decide,rfl⟩ (fun w h Y=>Y) ?F
 case F =>
  intro w mg fa h KX G hmg
  refine' _K.DB (_D.AB _K.bdf ?hp rfl KX G ?s ?z (_K.EU ?q0 ?q1 ?q2 ?q3 ?q4 ?q5 ?q6 ?q7 ?q8 ?q9 ?q10 ?q11) (_K.EW ?gi0 ?gi1 ?gi2) ?e1 ?e2 ?e3 ?e4 ?e5 ?e6) ?nd hmg
  (case s=>(repeat (refine' ⟨_D.SrcF.mk ?a ?l ?c ?k,?_⟩;(case a=>k_is);(case l=>k_is);(case c=>k_is);(case k=>k_is)));exact trivial)
  (case z=>rfl)
  (case q0=>k_is)
  (case q1=>k_is)
  (case q2=>k_is)
  (case q3=>k_is)
  (case q4=>k_is)
  (case q5=>k_is)
  (case q6=>k_is)
  (case q7=>k_is)
  (case q8=>k_is)
  (case q9=>k_is)
  (case q10=>k_is)
  (case q11=>k_is)
  (case gi0=>k_is)
  (case gi1=>k_is)
  (case gi2=>k_is)
  (case hp=>intro y hy;revert hy;simp;grind)
  (case e1=>rfl)
  (case e2=>rfl)
  (case e3=>rfl)
  (case e4=>rfl)
  (case e5=>rfl)
  (case e6=>rfl)
  (case nd=>decide)
