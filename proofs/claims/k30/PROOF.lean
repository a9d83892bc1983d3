import PyProof.Rows.All
import Wide.All
import OpenK.AllK
import Wide.FinOn
import Lean
import PyProof.EqAt
import PyProof.EqKinds
import PyProof.TupleCall
import KE.KTryMore
import KE.KIsAll
import PyProof.NeKinds
import PyProof.Rows.CountFlat
import PyProof.Rows.FStr
import PyProof.ZipIter
import PyProof.EnumMake
import PyProof.EnumStmt
import KE.KDictLaws
import PyProof.DictWalks
import PyProof.Rows.SetFrom
import PyProof.SumWalkG
import PyProof.Rows.SumGenD
import PyProof.SeqI2
import KE.KItemsList
import PyProof.SetKind
import PyProof.TupleKey
import KE.KSortTup
import PyProof.ReprRoads
import PyProof.ReprBulk
import PyProof.TupleOfSeq
import PyProof.WalkInts
import PyProof.SeqI3
import KE.KPairComp
import KE.KMinKey
import PyProof.Rows.CallKwBuiltin
import PySem.Challenge.RW_fewdistances_k30_likenesses_looked_at
set_option Elab.async false
set_option linter.all false
set_option maxRecDepth 100000
set_option maxHeartbeats 0
set_option tactic.hygienic false
set_option bootstrap.genMatcherCode false
set_option genSizeOf false
set_option compiler.extract_closed false
open Array renaming getElem?_toList→Ca,length_toList→De,getElem?_eq_some_iff→Dt,getElem?_eq_getElem→Dz,toList_push→Hm,getD→Ih,mem_toList_iff→Nh,getD_eq_getD_getElem?→Oy,getElem?_eq_none→Ta,size_map→Ub,forIn_toList→Vt,toList→Vz
open Array.Perm renaming refl→Ld
open Bool renaming and_eq_true→Az,false_eq_true→Bt,noConfusion→Df,and_eq_true_iff→Er,false_ne_true→Fy,not_true→Hd,false_or→Il,true_and→Ip,or_eq_true→La,eq_iff_iff→Nq,false_and→Op,and_false→Os,not_eq_true'→Qf,and_self→Uz,not_false→Zk,and_true→Zy,true_or→wE
open Classical renaming byContradiction→Fl,choose→Mx,choose_spec→My
open False renaming elim→Ap
open ForInStep renaming yield→Jo
open Int renaming toNat_natCast→Fp,emod_lt_of_pos→Hy,emod_nonneg→Jp,le_refl→Jz,not_lt→On,le_trans→Rz,le_of_lt→Sa,le_antisymm→Yu
open List renaming getElem?_eq_getElem→An,all_eq_true→Ar,mem_cons→Av,size_toArray→Ax,length_map→Ay,getElem?_eq_some_iff→Bb,getElem?_append_left→Bl,length_append→Bo,prefix_refl→Bp,set_cons_succ→Bq,set_cons_zero→Br,mem_cons_of_mem→Bu,getElem?_set_ne→Cb,replicate→Cd,mem_append_right→Ch,length_cons→Ci,not_mem_nil→Cj,mem_of_getElem?→Cn,mem_append→Cq,mem_iff_getElem→Cu,mem_map→Cw,range→Cz,mem_cons_self→Dd,map_cons→Dj,getElem?_set_self→Dk,pairwise_cons→Dl,mem_append_left→Do,getElem?_map→Dw,getElem?_append_right→Eb,mem_range→Ek,append_assoc→Eo,replicate_succ→EQ,length_range→Fc,mem_singleton→Fh,length_take→Fn,contains_iff_mem→Ft,length_nil→Fx,getElem_mem→Ga,filterMap_cons→Gd,length_drop→Gn,mem_of_mem_drop→Go,find?_cons→Gw,append_nil→Hf,flatten_cons→Hj,getD→Hk,pairwise_map→Hl,flatMap_cons→Hn,map_append→Ho,length_eq_zero_iff→Hq,mem_map_of_mem→Ht,length_singleton→Ia,getD_eq_getElem?_getD→Ie,nil_append→Ik,drop_eq_getElem_cons→Im,mem_of_find?_eq_some→Ir,mem_of_mem_take→Iw,lookup_cons→Jb,mem_filterMap→Jg,zip_cons_cons→Jh,find?_eq_none→Ji,nodup_cons→Jl,any_cons→Jn,take_of_length_le→Js,length_filter_le→Ka,find?_append→Kb,all_map→Ke,pairwise_append→Kh,findSome?_cons→Kv,foldl_cons→Ky,forIn_cons→Kz,prefix_append→Li,filter_append→Lj,getElem?_replicate→Ll,toArray→Lo,forIn_nil→Lw,nodup_append→Ma,drop_eq_nil_of_le→Mh,range_succ_eq_map→Mi,length_pos_of_mem→Mj,filter_eq_nil_iff→Mk,getElem_inj→Mn,getElem?_eq_none→Mq,lookup→Mr,all_cons→Mu,ext_getElem→Na,map_drop→Nb,mem_filter→Nl,of_mem_zip→No,eq_nil_of_length_eq_zero→Nt,find?_some→Nw,map_map→NE,foldl→Oc,pairwise_iff_getElem→Ql,getElem?_eq_none_iff→Qp,getElem?_take_of_lt→Qr,length_erase_of_mem→Qy,length_filterMap_le→Rb,map_fst_zip→Rl,any_eq_true→Ro,find?_cons_of_neg→Ss,length→Tk,countP_mono_left→Tv,nodup_nil→Ua,mem_erase_of_ne→Ui,map_eq_nil_iff→Vf,lookup_append→Vr,mem_replicate→Vy,map_nil→Wb,any_map→Wg,foldl_append→Xl,zipIdx_cons→Xx,getElem_map→Ya,nodup_range→Yd,filter_cons→Ye,countP_cons→Yh,zipIdx_nil→Yo,length_zip→Yv,Nodup→Zf
open List.Pairwise renaming nil→L2,imp_of_mem→Qx
open List.Perm renaming refl→Zl
open Nat renaming le_refl→Aw,lt_of_lt_of_le→Bn,ne_of_lt→Co,le_trans→Dc,lt_irrefl→Ef,zero_le→Fq,ne_of_gt→Gp,le_of_lt→Gz,not_lt→Ja,le_add_right→Jc,lt_succ_self→Jd,le_of_lt_succ→Jx,succ_pos→Kf,mul_le_mul_right→Ki,lt_trans→Ln,lt_succ_of_lt→Mf,le_succ→Mz,mod_lt→Oh,lt_of_le_of_lt→Pg,add_right_comm→Ph,min_self→Rr,min_eq_left→Td,pos_of_ne_zero→Vv,succ_mul→Wc,mul_comm→Wi,zero_add→Wk,lt_trichotomy→Xf,min_eq_right→Yj,add_comm→v6
open Ne renaming symm→Em
open Option renaming some→Aa,bind_eq_some_iff→Dv,map_eq_some_iff→DL,map_some→Jq,isSome_iff_exists→Qq,getD_some→Ri,bind_some→Rn,isSome_some→Vo,isSome_map→Wv,getD_none→Xu,none→Aa2
open Option.some renaming inj→Ct
open Or renaming inr→Xw,inl→Zq
open PyProof.Rows renaming step_dedup→Bc,slot_tuple_getitem→Cs,seqObj→Ed,envOfC→Gm,callWith_type1→Gr,IntsAre→Iy,entry_tuple_getitem→Kr,get?_update_seq→Le,args_tuple_getitem→Lh,slicePart_none→Lv,IsTup→Ml,AllBare→Mm,callWith_builtin1→Ng,lt_int→Ob,assignInOrder_cons→Pb,slicePart_int→Px,tupleItemsOf_→Py,subscriptTail→Qc,Subscript_→Rf,subscriptTail_builtinR→Sl,isBoolOf→Su,assignInOrder_nil→Wp,entry_list_sort→Yw
open PyProof.Rows.F renaming plain_set_update_loop→Hw,entry_set_update_loop→Lb
open PyProof.Rows.IntsAre renaming int_at→Pa
open PyProof.Rows.IsTup renaming new→Wq
open PySem renaming wpAny_bind→Ac,Value→Ad,Addr→Af,Shared→Ag,wpAny_pure→Aj,wpAny→Ao,Str→As,model→Au,intKind→Bf,Program→Bg,starEach→Bh,Heap→Bk,tupleKeyHash→Bm,Around→Bv,Expr→Bx,World→By,compareOp→Cc,mainGlobals→Cp,Obj→Cr,wpAny_newObj_type→Cy,wpAny_field→Dg,wpAny_holding→Dp,wpAny_callSpecial?_slot→Dq,cLine→Du,wpAny_call_entry→Dx,binaryOp→Eh,sizeLine_eq→Ep,wpAny_setField_rec→Ev,wpAny_seqItems→Ey,Pos→Fa,Stmt→Fd,codeAny_builtin→Fj,Comprehension→Fk,SetTable→Fm,foldedSetIterable→Fo,wpAny_pyIter_list→Fs,wpAny_setState_of→Fu,bootBuiltins→Fv,FuncData→Fw,Scope→Gb,mem_of_lookup→Ge,backTo→Gf,wpAny_pyIter_tuple→Gj,assignEach→Gk,Builtin→Gq,wpAny_mono→Gv,cellsFrom→Hb,NameKind→Hg,sysModules→Hr,plainId_quiet→Hs,wpAny_Call_Name_kw→Hx,IsPair→Ic,wpAny_attempt→Io,argBest→Iq,getItem→IN,wpAny_typeOf→Je,codeAny_mono→Jf,letOwnedTupleGo→Jj,codeAny→Jk,Env→Jt,wpAny_rule→Ju,wpAny_letGo→Jv,codeAny_call_builtin→Kg,wpAny_forIn_list→Kk,wpAny_askSetting→Kl,swappedStores→Kn,swapsWithSole→Ko,behindInMarks→Kp,call_meets→Ks,wpAny_passesOwn→Kw,sliceBounds→Kx,wpAny_updateSeq→Lc,pyNext→Lr,wpAny_setField→Lx,wpAny_tryCatch→Ly,wpAny_sequenceKey→Lz,swapsWith→Mb,ofAClassStatement→Md,wpAny_storeSet_of→Me,rawInt→Mo,wpAny_of_eq→Ms,wpAny_isInstance→Mw,Sem→Nd,wpAny_updateSeq_pair→Nj,Model→Nm,wpAny_execs_nil→Nn,pickOrder→Nu,pyIter→Ny,BindsTo→Oa,wpAny_call→Od,IsTupleKey→Ol,recursionLimit→Oq,firstArgMember→Ou,IsZip→Ov,tupleKind_room_in1→Pd,Tok→Pj,wpAny_newFunctionEnv_cells→Pl,IsPart→Pm,hashByValue→Pp,wpAny_standAt→Ps,wpAny_truthy_bool→Pu,evalPart_none→Pz,evalPart_some→Qb,callerA→Qe,attributeBase→Qh,wpAny_onRaise→Qi,wpAny_binaryOp_repeat_ref→Qk,setSearchFrom→Qm,wpAny_comprehension_free→Qu,noFill_tuple_add→Re,typeIs_int→Rg,checkBuiltinCall→Rh,richCompare_meets_room→Sj,valueAt→Sm,wpAny_specialOf→Sn,codeAny_of_tree→Sw,wpAny_ite_split→Sz,tupleKind→Tg,PassesOwn→Ti,CmpOp→Tj,codeAny_call_function→Tl,IsEnum→To,argsOk→Tp,weight_type_call_type→Ts,builtinLookup_eq_fast→Tt,wpAny_newTuple→T0,isSubtype_stop→TD,newFunctionEnv→TW,wpAny_runValue→Uc,isSubtype_type→Ud,repr_of_reads'→Ue,builtinsNs→Uk,assignInOrder→Ul,bindL→Uo,bindC→Uq,seq_tuple_add→Ur,atKey→Ut,standAt→Uv,intKind_is→Va,wpAny_setEntries_of→Vc,wpAny_newList→Vd,bindName→Vg,Result→Vh,setState→Vi,PyData→Vj,concat_meets→Wa,wpAny_assign_Name→Wo,slot_list_getitem→Wt,list_append→Wu,lastMarks→Ww,ClassData→Wx,noteFrame→Wy,setFlight→Wz,pushCells→WP,wpAny_pyIter_enum→Xa,searchCouldBeSeen→Xe,wpAny_pyIter_slot→Xg,wpAny_collect_seq→Xj,wpAny_eqBool_int→Xn,wpAny_execs_cons→Xo,unaryOp→Xp,richCompare→Xr,wpAny_Slice→Xs,seqIndex_of→Xt,wpAny_pyIter_zip→XV,setAdd→Yf,check_set_init_1→Yg,seqSlot_of→Yi,GenState→Yk,bindArgs→Ym,pushCells_keeps→Yp,wpAny_stack_any→Yq,typeLookup_type→Ys,wpAny_Name→Yy,typeLookup→Za,call→Zb,closureFor→Zc,setsByText→Zh,Params→Zp,setItem→Zv,Keyword→Zz,seqItems?→dL,IsEnumOut→f8,Within→u8,isTrue→wS
open PySem.Around renaming under_plainId→Fg,frames_deeper→Uf,under_plain→Vu
open PySem.AutoSeq1 renaming wpAny_loadPart'→Gh,sub_tuple_tuple→Qs
open PySem.Builtin.Builtins renaming bindParams→Zm
open PySem.Builtin.Frozenset renaming updateFrom→Om,sizeOf→Qz,newClass→Zt
open PySem.Builtin.Getset_descriptor renaming descrCheckInstance→Se,descrNameAndClass→So,descrGetter→Uw,descrGet→Wf
open PySem.Builtin.List renaming listTooLong→Lg,listLengthHint→Ow,listExtendWith→Ox,listSameRef→Ra
open PySem.Builtin.ObjectAttr renaming bindTo→Qg,dataDescriptor?→We,getOf→t0,find→wP
open PySem.Builtin.Range renaming rangeSize→v4
open PySem.Builtin.Slice renaming sliceAdjust→En,slicePlaces→Fi,sliceApplied→Fz,sliceFields→Kq,slicePartIndex→Yz
open PySem.Builtin.SmallTypes renaming nextOf→Dy,ownedTupleIsFree→Eg,ownedTupleHandOut→Gg
open PySem.Builtin.Tuple renaming tupleExact→Di,tupleItemsOf→HT,tupleTooMany→Km,tupleCompareSizes→Mp,tupleIsExact→Zs
open PySem.Calls renaming spliced_cons→Pe,Name_function_global→Pk,spliced_nil→Pw,call_function_entry→Qo,callWith_builtin→Sr,evalArgs_plain→Uh
open PySem.Code renaming quiet_builtin→Pf
open PySem.F renaming called_set→Dm,plain_min_loop→Et,slot_tuple_iterator_next→Ib,entry_min_loop→Jr,slot_enumerate_next→Jw,args_tuple_add_2→Lf,entry_tuple_add→Lm,plainAttrs_dict→Lp,slot_tuple_add→Mg,slot_zip_next→Np,slot_int_rmul→Nr,args_tuple_iterator_next_1→Of,slot_dict_setdefault→Og,type_dict_setdefault→Oo,entry_tuple_iterator_next→Ot,excBase_ValueError→Po,slot_dict_values→Qv,type_list_append→Rc,slot_tuple_mul→Rm,args_tuple_lt_2→Rp,attr_ValueError→Rq,slot_list_count→Ru,slot_list_index→Rv,args_enumerate_next_1→Rw,entry_type_call→Rx,plain_list_iadd→Ry,plainAttrs_list→Sb,type_list_count→Sc,type_list_index→Sd,entry_tuple_lt→Sk,entry_enumerate_next→Sv,typeCall_set_1→Sx,entry_set_init→Sy,slot_tuple_lt→Tn,plain_set_new→Tq,slot_set_iter→Tu,args_list_append_2→Ug,entry_list_append→Us,slot_list_append→Vn,args_zip_next_1→WF,args_int_rmul_2→Xb,slot_tuple_rmul→Xk,entry_zip_next→Xz,slot_int_index→Yb,entry_int_rmul→Yc,fills_int_mul→Yr
open PySem.Heap renaming get?_push_of_some→Ah,lt_size→AT,get?_push_size→Ba,get?_update_other→Bz,size_push→Dr,get?_update_self→Ei,SameBut→Eu,get?_none_of_le→Iu,FlyingW→Nz,MadeExcOf→Tz,IsTuple→Wh,IsList→Xy
open PySem.Heap.IsSliceOf renaming new→Pc
open PySem.Heap.SameBut renaming update→Gx,refl→Qj
open PySem.IsL renaming update→Xv
open PySem.MeetsSeq renaming list_index→ZB,EqGives→Aa1
open PySem.NameKind renaming free→Hc,cell→Mt
open PySem.Obj renaming mapSeq→Ej,mapFields→Vb,data_mapFields→Vs,putSet→Zg
open PySem.PyData renaming showable→Tc,leavesShortAll→Tw,showableAll→Vw,leavesShort→Vx,hasDictAll→Xm,depthAll→Yx,bulkAll→Zn,hasDict→Zo,depth→Aa0,bulk→Aa3
open PySem.SeqAt renaming EqAt→Zd
open PySem.SeqAt.EqAt renaming bool_bool→Zr,same→Zx,int_int→wT,of_refs→xL
open PySem.SetTable renaming insertAt→Bw,below→Cf,sizeAbove→Ew,grown→Gs,runEnd→Gy,insertAt_perm→Hu,fill→Kt,Probe→Mc,toList_insertAt→Qw,tooFull→Rk,laid→Ux,fits→Uy,has→Wj,layClean→Xd,slot→o0
open PySem.SetTable.below renaming go→Xc
open PySem.SetTable.layClean renaming free→Hv
open PySem.SetTable.probe renaming go→Jy
open PySem.Shared renaming heap→Mv,TypeIs→Qn
open PySem.Str renaming ofString→Fb
open PySem.Value renaming ref→Cg,bool→Es,none→Ff,type→Gu,notImplemented→Ni,int→Pq,str→Wn,isStrOf→Zu,builtin→Zw
open PySem.W renaming Frag→Al,nsIn→Ds,kia_one→Ee,keepIn→Ex,fnOf→Ha,exmOne→Ix,cellsFrom_some→Jm,kitOne→Kc,kas_rev→Ku,findIn→Ls,codeIn→Lu,hideAll→Nk,kas_sort→Nv,methodObj→Pr,kitx_list→Pv,nsMap_none_of_in→Qt,instObj→Sg,lookIn→Tx,hideAll_get→Uj,mroIn→Um,WalkO→Uu,mg_of→Ve,of_hideAll→Vk,kitx_tuple→Vl,codeRec_of→Vm,callWith_K→Vp,isNs_of_in→Vq,looks_findIn→Wd,kas_descPart→Wm,specialIn→Wr,kitx_dict→Ws,kas_count→Xh,kas_place→Xi,plainGet→Xq,takesIn→Yl,OpenLaw→Yn,kas_desc→Yt,KasT→Zi,nsOkIn→Zj,kas_asc→sB,kas_tail3→sK
open PySem.Walks renaming list→Ze
open PySem.pickOrder renaming go→Wl
open Sum renaming inl→He,inr→Sf
open Sum.inl renaming inj→Tf
open True renaming intro→Ig
open _root_ renaming List→Ab,Nat→Ai,Int→Ak,Option→Am,Bool→Aq,if_pos→Bd,if_neg→Be,decide_eq_true→Bi,Array→Bj,decide_eq_false→Bs,of_decide_eq_true→Ce,decide_eq_true_eq→Cm,if_true→Dh,String→Ea,if_false→Ec,beq_self_eq_true→El,or_false→Ez,False→Fe,beq_eq_false_iff_ne→Gc,of_decide_eq_false→Hz,True→Kj,decide_eq_false_iff_not→Lq,beq_iff_eq→Oe,not_or→Rj,Unit→Sh,Decidable→Te
noncomputable section
def om {p:Prop}(h:p:=by omega):p:=h
def kd {p:Prop}[Te p](h:p:=by decide +kernel):p:=h
section
namespace _L
open PySem PySem.Spec PyProof.Rows
abbrev Key:=Sum Ak As
def mE:Key→Ad→Aq
 |.inl k,v=>Value.isInt k v
 |.inr x,v=>Zu x v
def OU (w:By):Key→Ak
 |.inl k=>hashInt k
 |.inr x=>hashStr w x
def w5:∀ {k:Key} {v:Ad},mE k v=true→(∃ i t,k=He i∧v=Pq i t)∨(∃ x t,k=Sf x∧v=Wn x t)
 |.inl i,v,h=>by
  obtain⟨t,e⟩:=Value.isInt_shape (k:=i) (v:=v) h;exact .inl ⟨i,t,rfl,e⟩
 |.inr x,v,h=>by
  obtain⟨t,e⟩:=Value.isStrOf_shape (x:=x) (v:=v) h;exact .inr ⟨x,t,rfl,e⟩
def Y0 (i:Ak)(t:Pj):mE (.inl i) (.int i t)=true:=by simp[mE,Value.isInt]
def Y1 (x:As)(t:Pj):mE (.inr x) (.str x t)=true:=by simp[mE,Zu]
def SA (a b:Ak):decide ((He a:Key)=He b)=(a == b):=by
 by_cases e:a=b
 ·subst e;simp
 ·have h:¬ (He a:Key)=He b:=λq=>e (Tf q)
  rw[Bs h];exact(Gc.mpr e).symm
def SD (a b:As):decide ((Sf a:Key)=Sf b)=decide (a=b):=by
 by_cases e:a=b
 ·subst e;simp
 ·have h:¬ (Sf a:Key)=Sf b:=λq=>e (Sum.inr.inj q)
  rw[Bs h,Bs e]
def SB (a:Ak)(b:As):decide ((He a:Key)=Sf b)=false:=Bs (λq=>nomatch q)
def SC (a:As)(b:Ak):decide ((Sf a:Key)=He b)=false:=Bs (λq=>nomatch q)
def xF (prog:Bg)(w:By):PySem.KeyKind prog w Key where
 is:=mE
 hash:=OU w
 inj:=λv a b ha hb=>by
  rcases w5 ha with⟨i,t,rfl,rfl⟩|⟨x,t,rfl,rfl⟩
  ·rcases w5 hb with⟨j,u,rfl,e⟩|⟨y,u,rfl,e⟩
   ·injection e with e1 _;rw[e1]
   ·exact nomatch e
  ·rcases w5 hb with⟨j,u,rfl,e⟩|⟨y,u,rfl,e⟩
   ·exact nomatch e
   ·injection e with e1 _;rw[e1]
 byValue:=λk v h=>by
  rcases w5 h with⟨i,t,rfl,rfl⟩|⟨x,t,rfl,rfl⟩ <;> rfl
 pyHash:=λhv h=>by
  rcases w5 hv with⟨i,t,rfl,rfl⟩|⟨x,t,rfl,rfl⟩
  ·exact wpAny_pyHash_int h
  ·exact wpAny_pyHash_str h
 eqBool:=λhu hv h=>by
  rcases w5 hu with⟨i,t,rfl,rfl⟩|⟨x,t,rfl,rfl⟩
  ·rcases w5 hv with⟨j,u,rfl,rfl⟩|⟨y,u,rfl,rfl⟩
   ·rw[SA] at h;exact Xn h
   ·rw[SB] at h;exact SeqAt.EqAt.int_str i t y u _ _ _ _ h
  ·rcases w5 hv with⟨j,u,rfl,rfl⟩|⟨y,u,rfl,rfl⟩
   ·rw[SC] at h;exact SeqAt.EqAt.str_int x t j u _ _ _ _ h
   ·rw[SD] at h;exact wpAny_eqBool_str h
 «strs»:=λk x t v h=>by
  rcases w5 h with⟨i,u,rfl,e⟩|⟨y,u,rfl,e⟩
  ·exact nomatch e
  ·injection e with e1 _
   subst e1;cases v <;> rfl
def iL (prog:Bg)(w:By)(i:Ak)(t:Pj):(xF prog w).is (.inl i) (.int i t)=true:=Y0 i t
def iM (prog:Bg)(w:By)(x:As)(t:Pj):(xF prog w).is (.inr x) (.str x t)=true:=Y1 x t
end _L
namespace _L
open PySem PySem.Spec PyProof.Rows
variable {us:Ab Ad}{b:Af}
inductive V where
 |non|bl (b:Aq)|int (i:Ak)|str (x:As)|byt (b:Bj UInt8)|flt (b:UInt64)|ref (a:Af)|ty (n:Ea)
 deriving DecidableEq
def qP:V→Ad→Prop
 |.non,u=>u=Ff
 |.bl b,u=>u=Es b
 |.int i,u=>∃ t,u=Pq i t
 |.str x,u=>∃ t,u=Wn x t
 |.byt b,u=>∃ t,u=Value.bytes b t
 |.flt b,u=>∃ t,u=Value.float b t
 |.ref a,u=>u=Cg a
 |.ty n,u=>u=Gu n
abbrev qT:Ab V→Ab Ad→Prop:=Paired qP
def qT.length {xs:Ab V}(r:qT xs us):xs.length=us.length:=Paired.length r
def qT.get:∀ {xs:Ab V} {us:Ab Ad} {i:Ai} {x:V},qT xs us→xs[i]? = Aa x→∃ u,us[i]? = Aa u∧qP x u
 |_,_,_,_,.nil,e=>by simp at e
 |_,_,0,_,.cons r _,e=>by simp at e;subst e;exact⟨_,rfl,r⟩
 |_,_,i+1,x,.cons _ t,e=>by
  obtain⟨u,h1,h2⟩:=qT.get (i:=i) (x:=x) t (by simpa using e)
  exact⟨u,by simpa using h1,h2⟩
def qT.set {x:V}{u:Ad}(r:qP x u):∀ {xs:Ab V} {us:Ab Ad} (i:Ai),qT xs us→qT (xs.set i x) (us.set i u)
 |_,_,_,.nil=>.nil
 |_,_,0,.cons _ t=>.cons r t
 |_,_,i+1,.cons q t=>.cons q (qT.set r i t)
def qT.append {xs ys:Ab V}{ws:Ab Ad}(h:qT xs us)(s:qT ys ws):qT (xs++ys) (us++ws):=by
 induction h with
 |nil=>exact s
 |cons r t ih=>exact .cons r ih
def qT.take:∀ {xs:Ab V} {us:Ab Ad} (n:Ai),qT xs us→qT (xs.take n) (us.take n)
 |_,_,0,_=>.nil
 |_,_,_+1,.nil=>.nil
 |_,_,n+1,.cons r t=>.cons r (qT.take n t)
def qT.drop:∀ {xs:Ab V} {us:Ab Ad} (n:Ai),qT xs us→qT (xs.drop n) (us.drop n)
 |_,_,0,r=>r
 |_,_,_+1,.nil=>.nil
 |_,_,n+1,.cons _ t=>qT.drop n t
def j8:Am V→Am Ad→Prop
 |some v,Aa u=>qP v u
 |none,none=>Kj
 |_,_=>Fe
def KV {κ:Type}:Ab (κ × V)→Ab (κ × Ad)→Prop:=Paired λ(p:κ × V) (q:κ × Ad)=>p.1=q.1∧qP p.2 q.2
def kV:Key→V
 |.inl i=>.int i
 |.inr x=>.str x
inductive HO where
  |lst (xs:Ab V)
  |tup (xs:Ab V)
  |dK (kvs:Ab (Key × V))|dT (kvs:Ab (Ab Key × V))
  |set (S:Ak→Aq) (n:Ai)
  |ins (C dx:Af) (fs:Ab (As × V))
  |own (x:Af)
  |xd (fs:Ab (As × V))
  |met (f x:Af)
  |rng (lo hi:Ak)
  |frz (o:Cr) (u:HO)
  |tbl (ps:Bj Ad)
  |ext (φ : Bk→Prop)
variable {u:HO}
abbrev Hp:=Af→Am HO
def upd (H:Hp)(a:Af)(o:HO):Hp:=λb=>if b=a then Aa o else H b
def zM {H:Hp}{a:Af}{o:HO}:upd H a o a=Aa o:=by unfold upd;rw[Bd rfl]
def qV {H:Hp}{a:Af}{o:HO}(h:b≠a):upd H a o b=H b:=by unfold upd;rw[Be h]
def A2 {H:Hp}{a:Af}{o:HO}(h:H a=Aa o)(h':H b=Aa u)(d:o≠u):a≠b:=by
 intro e;subst e;rw[h] at h';exact d (Ct h')
def zQ {H:Hp}{a:Af}{o:HO}(h:H a=Aa o)(h':H b=none):a≠b:=by
 intro e;subst e;rw[h] at h';cases h'
section
variable (P:Bg)(w:By)
def zV (H:Hp)(h:Bk)(a:Af):HO→Prop
 |.lst xs=>xs.length≤sizeLine∧∃ (its:Ab Ad) (n:Ai),qT xs its∧h.get? a=Aa { cls:=.type "list",data:=.seq its.toArray n }
 |.tup xs=>xs.length≤sizeLine∧∃ its:Ab Ad,qT xs its∧Ml h a its.toArray
 |.dK kvs=>kvs.length≤sizeLine∧(a == Hr)=false∧∃ vs,KV kvs vs∧h.DictOf (xF P w) a vs
 |.dT kvs=>kvs.length≤sizeLine∧(a == Hr)=false∧∃ xs:Ab (Ab Key × Af × Ad),
   Paired (λ(p:Ab Key × V) (q:Ab Key × Af × Ad)=>p.1=q.1∧H q.2.1=Aa (.tup (p.1.map kV))∧qP p.2 q.2.2) kvs xs ∧
   ∃ o es ep,h.get? a=Aa o∧o.ExactDict∧o.data=.dict es ep∧es.toList=xs.map (entryOfKey (Tg (xF P w)))∧(xs.map (·.1)).Nodup
 |.set S n=>h.SetOf (Bf P w) a S n
 |.ins C dx fs=>H dx=Aa (.own a)∧fs.length≤1000∧dx≠a∧h.get? a=Aa (Sg C dx) ∧
   ∃ mA,h.Ns1 dx mA∧(∀ f,j8 (fs.lookup f) (mA f))∧u8 mA (fs.map (·.1))
 |.own _=>∃ o,h.get? a=Aa o
 |.xd fs=>∃ mA,h.Ns1 a mA∧∀ f,j8 (fs.lookup f) (mA f)
 |.rng lo hi=>∃ t u v,h.get? a=Aa { cls:=.type "range",data:=.fields #[.int lo t,.int hi u,.int 1 v] }
 |.frz o u=>h.get? a=Aa o∧zV H h a u
 |.tbl ps=>h.get? a=Aa { cls:=.none,data:=.fields ps }
 |.met f x=>h.get? a=Aa (Pr (.ref f) (.ref x))
 |.ext φ => φ h∧(∃ o,h.get? a=Aa o)∧∀ h1 h2:Bk,φ h1→(∀ o,h1.get? a=Aa o→h2.get? a=Aa o)→φ h2
def HOk (H:Hp)(h:Bk):Prop:=∀ a o,H a=Aa o→zV P w H h a o
end
section
variable {P:Bg}{w:By}{H H':Hp}{h h':Bk}{a:Af}{o:HO}
def zV.lt (x:zV P w H h a o):a<h.objs.size:=by
 cases o with
 |lst xs=>obtain⟨_,_,_,_,e⟩:=x;exact AT e
 |tup xs=>obtain⟨_,_,_,p⟩:=x;exact p.lt
 |dK kvs=>obtain⟨_,_,_,_,o,_,_,e,_⟩:=x;exact AT e
 |dT kvs=>obtain⟨_,_,_,_,o,_,_,e,_⟩:=x;exact AT e
 |set S n=>obtain⟨o,_,_,_,e,_⟩:=x;exact AT e
 |ins C dx fs=>obtain⟨_,_,_,e,_⟩:=x;exact AT e
 |own y=>obtain⟨_,e⟩:=x;exact AT e
 |xd fs=>obtain⟨_,⟨_,_,_,e,_⟩,_⟩:=x;exact AT e
 |rng lo hi=>obtain⟨_,_,_,e⟩:=x;exact AT e
 |frz ob u=>obtain⟨e,_⟩:=x;exact AT e
 |tbl ps=>exact AT (show h.get? a=Aa _ from x)
 |met f y=>exact AT (show h.get? a=Aa _ from x)
 |ext φ => obtain⟨_,⟨_,e⟩,_⟩:=x;exact AT e
def Paired.mapP {α β:Type}{F G:α→β→Prop}{l₁:Ab α}{l₂:Ab β}(h:Paired F l₁ l₂)(f:∀ a b,F a b→G a b):Paired G l₁ l₂:=by
 induction h with
 |nil=>exact .nil
 |cons r t ih=>exact .cons (f _ _ r) ih
def zV.stay (x:zV P w H h a o)(k:∀ b u,(b=a∨H b=Aa (.own a))→h.get? b=Aa u→h'.get? b=Aa u)
  (ho:∀ b,H b=Aa (.own a)→H' b=Aa (.own a)) (ht:∀ b xs,H b=Aa (.tup xs)→H' b=Aa (.tup xs)):zV P w H' h' a o:=by
 induction o with
 |lst xs=>obtain⟨z,its,n,r,e⟩:=x;exact⟨z,its,n,r,k _ _ (.inl rfl) e⟩
 |tup xs=>obtain⟨z,its,r,ob,e,c⟩:=x;exact⟨z,its,r,ob,k _ _ (.inl rfl) e,c⟩
 |dK kvs=>obtain⟨z,y,vs,r,ob,es,ep,e,c⟩:=x;exact⟨z,y,vs,r,ob,es,ep,k _ _ (.inl rfl) e,c⟩
 |dT kvs =>
  obtain⟨z,y,xs,r,ob,es,ep,e,c⟩:=x;exact⟨z,y,xs,Paired.mapP r λp q z=>⟨z.1,ht _ _ z.2.1,z.2.2⟩,ob,es,ep,k _ _ (.inl rfl) e,c⟩
 |set S n=>obtain⟨ob,es,ep,t,e,c⟩:=x;exact⟨ob,es,ep,t,k _ _ (.inl rfl) e,c⟩
 |ins C dx fs =>
  obtain⟨d,z,ne,e,mA,⟨od,es,ep,e2,c⟩,r⟩:=x;exact⟨ho _ d,z,ne,k _ _ (.inl rfl) e,mA,⟨od,es,ep,k _ _ (.inr d) e2,c⟩,r⟩
 |own y=>obtain⟨ob,e⟩:=x;exact⟨ob,k _ _ (.inl rfl) e⟩
 |xd fs=>obtain⟨mA,⟨od,es,ep,e,c⟩,r⟩:=x;exact⟨mA,⟨od,es,ep,k _ _ (.inl rfl) e,c⟩,r⟩
 |rng lo hi=>obtain⟨t,u,v,e⟩:=x;exact⟨t,u,v,k _ _ (.inl rfl) e⟩
 |frz ob u ih=>obtain⟨e,q⟩:=x;exact⟨k _ _ (.inl rfl) e,ih q⟩
 |tbl ps =>
  have e:h.get? a=Aa { cls:=.none,data:=.fields ps }:=x;show h'.get? a=Aa { cls:=.none,data:=.fields ps };exact k a _ (.inl rfl) e
 |met f y =>
  have e:h.get? a=Aa (Pr (.ref f) (.ref y)):=x;show h'.get? a=Aa (Pr (.ref f) (.ref y));exact k a _ (.inl rfl) e
 |ext φ => obtain⟨p,⟨o,e⟩,st⟩:=x;exact⟨st _ _ p λo q=>k _ _ (.inl rfl) q,⟨o,k _ _ (.inl rfl) e⟩,st⟩
def HOk.lt (x:HOk P w H h)(e:H a=Aa o):a<h.objs.size:=(x a o e).lt
def HOk.fresh (x:HOk P w H h)(e:h.objs.size≤a):H a=none:=by
 cases q:H a with
 |none=>rfl
 |some u=>exact absurd (Bn (x.lt q) e) (Ef _)
def HOk.kept (x:HOk P w H h)(k:∀ b u,h.get? b=Aa u→h'.get? b=Aa u):HOk P w H h':=λa o e =>
 (x a o e).stay (λb u _ q=>k b u q) (λ_ q=>q) λ_ _ q=>q
def HOk.laid (x:HOk P w H h)(k:∀ b u,h.get? b=Aa u→h'.get? b=Aa u)(hp:h.objs.size≤a)(new:zV P w (upd H a o) h' a o):HOk P w (upd H a o) h':=λb u e=>by
 have hn:=x.fresh hp;by_cases hb:b=a
 ·subst hb;rw[zM] at e;cases e;exact new
 ·rw[qV hb] at e
  exact(x b u e).stay (λc v _ q=>k c v q) (λc q=>by rw[qV (zQ q hn)];exact q) λc xs q=>by rw[qV (zQ q hn)];exact q
end
def Rd (H:Hp)(a:Af)(u:HO):Prop:=H a=Aa u∨∃ o,H a=Aa (.frz o u)
def Rd.of {H:Hp}{a:Af}(h:H a=Aa u):Rd H a u:=.inl h
def Rd.ok {P:Bg}{w:By}{H:Hp}{h:Bk}{a:Af}(r:Rd H a u)(x:HOk P w H h):zV P w H h a u:=by
 rcases r with r|⟨o,r⟩
 ·exact x a u r
 ·obtain⟨_,q⟩:=x a _ r
  exact q
def Mut:Am HO→Prop
 |some (.lst _)=>Kj
 |some (.dK _)=>Kj
 |some (.dT _)=>Kj
 |some (.set _ _)=>Kj
 |some (.ins _ _ _)=>Kj
 |some (.ext _)=>Kj
 |_=>Fe
section
variable {P:Bg}{w:By}{H:Hp}{h h':Bk}{x e:Af}{o':HO}
def HOk.write (ok:HOk P w H h)(mu:Mut (H x))(he:e=x∨H e=Aa (.own x))(k:∀ b u,b≠e→h.get? b=Aa u→h'.get? b=Aa u)(heo:∃ u,h'.get? e=Aa u)
  (new:zV P w (upd H x o') h' x o'):HOk P w (upd H x o') h':=λb u q=>by
 have nown:∀ c y,H c=Aa (.own y)→c≠x:=λc y r z=>by subst z;rw[r] at mu;exact mu
 have ntup:∀ c xs,H c=Aa (.tup xs)→c≠x:=λc xs r z=>by subst z;rw[r] at mu;exact mu
 by_cases hb:b=x
 ·subst hb;rw[zM] at q;cases q;exact new
 ·rw[qV hb] at q
  by_cases hbe:b=e
  ·have q':H b=Aa (.own x):=by
    rcases he with z|z
    ·exact absurd (hbe.trans z) hb
    ·rw[hbe];exact z
   rw[q] at q';cases q';obtain⟨v,hv⟩:=heo;exact⟨v,by rw[hbe];exact hv⟩
  ·refine(ok b u q).stay (λc v hc r=>k c v ?_ r) (λc r=>by rw[qV (nown c b r)];exact r) λc xs r=>by rw[qV (ntup c xs r)];exact r
   rcases hc with rfl|hc
   ·exact hbe
   ·rintro rfl
    rcases he with z|z
    ·exact nown c b hc z
    ·rw[hc] at z;cases z;exact hb rfl
end
structure Un (fs ex:Ab Af)(H H':Hp)(h h':Bk):Prop where
 keep:∀ b o,h.get? b=Aa o→H b=none→b ∉ fs→b ∉ ex→h'.get? b=Aa o
 slot:∀ b o,h.get? b=Aa o→H b=none→b∈fs→b ∉ ex→∃ sl,h'.get? b=Aa { o with slots:=sl }
 free:∀ b o,h.get? b=Aa o→H b=none→b ∉ ex→H' b=none
 there:∀ b o,h.get? b=Aa o→b ∉ ex→∃ o',h'.get? b=Aa o'
 tups:∀ b xs,H b=Aa (.tup xs)→H' b=Aa (.tup xs)
 frzs:∀ b o u,H b=Aa (.frz o u)→H' b=Aa (.frz o u)
 tbls:∀ b ps,H b=Aa (.tbl ps)→∃ more,H' b=Aa (.tbl (ps++more))
section
variable {fs fs' ex ex':Ab Af}{H H1 H2:Hp}{h h1 h2 h':Bk}{a x e:Af}{o:HO}
def Un.any (u:Un fs ex H H1 h h1){b:Af}{ob:Cr}(q:h.get? b=Aa ob)(n:H b=none)(hx:b ∉ ex):∃ sl,h1.get? b=Aa { ob with slots:=sl }:=by
 by_cases hb:b∈fs
 ·exact u.slot b ob q n hb hx
 ·exact⟨ob.slots,u.keep b ob q n hb hx⟩
def Un.kept (k:∀ b u,h.get? b=Aa u→h'.get? b=Aa u):Un fs ex H H h h':=
 ⟨λb ob q _ _ _=>k b ob q,λb ob q _ _ _=>⟨ob.slots,k b ob q⟩,λ_ _ _ n _=>n,λb ob q _=>⟨ob,k b ob q⟩,λ_ _ q=>q,λ_ _ _ q=>q,λ_ ps q=>⟨#[],by rw[q];simp⟩⟩
def Un.refl:Un fs ex H H h h:=Un.kept λ_ _ q=>q
def Un.laid (k:∀ b u,h.get? b=Aa u→h'.get? b=Aa u)(hp:h.objs.size≤a)(hn:H a=none):Un fs ex H (upd H a o) h h' where
 keep:=λb u q _ _ _=>k b u q
 slot:=λb u q _ _ _=>⟨u.slots,k b u q⟩
 free:=λb u q n _=>by rw[qV (Co (Bn (AT q) hp))];exact n
 there:=λb u q _=>⟨u,k b u q⟩
 tups:=λb xs q=>by rw[qV (zQ q hn)];exact q
 frzs:=λb u xs q=>by rw[qV (zQ q hn)];exact q
 tbls:=λb ps q=>⟨#[],by rw[qV (zQ q hn),q];simp⟩
def Un.write (mu:Mut (H x))(he:e=x∨H e=Aa (.own x))(k:∀ b u,b≠e→h.get? b=Aa u→h'.get? b=Aa u)(heo:∃ u,h'.get? e=Aa u):Un fs ex H (upd H x o) h h':=by
 have hx:∀ b,H b=none→b≠x:=λb n z=>by subst z;rw[n] at mu;exact mu
 have hb:∀ b,H b=none→b≠e:=λb n z=>by
  subst z;rcases he with r|r
  ·exact hx b n r
  ·rw[n] at r;cases r
 have hm:∀ b u,H b=Aa u→¬ Mut (Aa u)→b≠x:=λb u q nm z=>by subst z;rw[q] at mu;exact nm mu
 refine⟨λb u q n _ _=>k b u (hb b n) q,λb u q n _ _=>⟨u.slots,k b u (hb b n) q⟩,λb u q n _=>by rw[qV (hx b n)];exact n,λb u q _=>?_,
  λb xs q=>by rw[qV (hm b _ q λz=>z)];exact q,λb u xs q=>by rw[qV (hm b _ q λz=>z)];exact q,λb ps q=>⟨#[],by rw[qV (hm b _ q λz=>z),q];simp⟩⟩
 by_cases hbe:b=e
 ·subst hbe;exact heo
 ·exact⟨u,k b u hbe q⟩
end
def trk (h:Bk)(H:Hp):Ab Af:=(Cz h.objs.size).filter λa=>(H a).isSome
def pX (h:Bk)(H:Hp):Bk:=Nk h (trk h H)
def WQ (h:Bk)(H:Hp):(pX h H).objs.size=h.objs.size:=PySem.W.hideAll_size _ _
def JL {h:Bk}{H:Hp}{o:Cr}(e:h.get? b=Aa o)(n:H b=none):(pX h H).get? b=Aa o:=
 Uj _ e λhm=>by
  have q:(H b).isSome=true:=(Nl.mp hm).2;rw[n] at q;simp at q
def MG {h:Bk}{H:Hp}{o:Cr}(e:(pX h H).get? b=Aa o):h.get? b=Aa o∧H b=none:=by
 have e':h.get? b=Aa o:=Vk (trk h H) e;refine⟨e',?_⟩;cases q:H b with
 |none=>rfl
 |some x =>
  have hm:b∈trk h H:=Nl.mpr ⟨Ek.mpr (AT e'),by simp[q]⟩
  have z:(pX h H).get? b=none:=PySem.W.hideAll_none (trk h H) hm;rw[z] at e;cases e
end _L
namespace _L
open PySem PySem.Spec PyProof.Rows
variable {ch:Ab Af}{E:Ad→Ag→Prop}{t':Ai}{g':Bj Yk}{d':Drawn}{M:Nm}{Q:Sh→Ag→Prop}
structure Mod (K:Al)(mg:As→Am Ad)(base:Bk):Prop where
 kin:K.In base
 glob:base.Ns Cp mg
 blt:∃ mb,base.Ns Uk mb∧∀ x:As,x ≠ "__name__" → mb x=Fv x
 nolimit:base.NoLimit
structure Cx where
 prog:Bg
 w:By
 K:Al
 mg:As→Am Ad
 base:Bk
 A:Bv
 N:Ab As
 s₀:Ag
 H₀:Hp
 env:Jt
 outer:Ab Jt
 stack:Ab Jt
 ex:Ab Af
 fn:As→Aq
 calm:Aq
 pn:Ab (Af × Cr)
 xe:Ad→Ag→Prop
def frs (l:Ab Jt):Ab Af:=l.filterMap (·.frame)
abbrev Cx.fs (X:Cx):Ab Af:=frs X.outer
def Vis (sc:Gb)(x:As):Prop:=sc.names.lookup x=Aa .local ∨ sc.names.lookup x=Aa .cell∨sc.names.lookup x=Aa .free
def Loc (sc:Gb)(x:As):Prop:=sc.names.lookup x=Aa .local ∨ sc.names.lookup x=Aa .cell
def NP (env:Jt)(h:Bk)(m:As→Am Ad)(x:As)(u:Ad):Prop:=
 (env.kindOf x=Aa .local ∧ m x=Aa u)∨((env.kindOf x=Aa .cell∨env.kindOf x=Aa .free)∧∃ c,env.cells.lookup x=Aa c∧h.IsCell c (Aa u))
structure Cx.Ok (X:Cx):Prop where
 mod:Mod X.K X.mg X.base
 kind:X.env.scope.kind=.function
 glob:X.env.globals=Cp
 blt:X.env.builtins=Uk
 above:X.s₀.heap.objs.size≤X.env.locals
 inj:∀ x y c,X.env.cells.lookup x=Aa c→X.env.cells.lookup y=Aa c→x=y
 has:∀ x,(X.env.kindOf x=Aa .cell∨X.env.kindOf x=Aa .free)→∃ c,X.env.cells.lookup x=Aa c
 cab:∀ x c,X.fn x=true→X.env.cells.lookup x=Aa c→X.s₀.heap.objs.size≤c
 hd:X.calm=true→X.A.handled=none
 frames:X.A.frames=Aa X.stack
 stk:X.stack=X.outer∨(X.stack=X.env::X.outer∧X.env.frame=Aa X.env.locals)
 exf:∀ b∈X.ex,b≠X.env.locals∧∀ x c,X.env.cells.lookup x=Aa c→c≠b
 bs:∀ b o,X.base.get? b=Aa o→X.s₀.heap.get? b=Aa o∧X.H₀ b=none
 bsz:X.base.objs.size≤X.s₀.heap.objs.size
 noex:∀ b o,X.base.get? b=Aa o→b ∉ X.ex
 exfs:∀ b∈X.ex,b ∉ X.fs
 funs:X.s₀.heap.FunFrames X.base X.outer
 frf:∀ b∈X.fs,X.H₀ b=none
structure Inv (X:Cx)(pins:Ab (Af × Cr))(σ : Ab (Am V))(H:Hp)(s:Ag):Prop where
 ok:X.Ok
 os:s.os=X.s₀.os
 bare:Mm s.gens
 base:Un X.fs X.ex X.H₀ H X.s₀.heap s.heap
 loc:∃ m,s.heap.Ns X.env.locals m∧∀ (i:Ai) (x:As) (v:V),X.N[i]? = Aa x→σ[i]? = Aa (Aa v)→Vis X.env.scope x→∃ u,qP v u∧NP X.env s.heap m x u
 cell:∀ x c,X.env.cells.lookup x=Aa c→∃ v,s.heap.IsCell c v
 free:H X.env.locals=none
 freeC:∀ x c,X.env.cells.lookup x=Aa c→H c=none
 pin:∀ p∈X.pn++pins,s.heap.get? p.1=Aa p.2∧H p.1=none∧p.1≠X.env.locals∧p.1 ∉ X.fs∧∀ v,p.2.data≠.cell v
 hok:HOk X.prog X.w H s.heap
 len:σ.length=X.N.length
section
variable {X:Cx}{pins:Ab (Af × Cr)}{σ : Ab (Am V)}{H H':Hp}{s:Ag}{h':Bk}
def Cx.Ok.nofr (ok:X.Ok){b:Af}{o:Cr}(e:X.base.get? b=Aa o):b ∉ X.fs:=λhb=>by
 have:=(ok.funs.mem hb).1;rw[e] at this;cases this
def Inv.bs (I:Inv X pins σ H s):∀ b o,X.base.get? b=Aa o→s.heap.get? b=Aa o∧H b=none:=λb o e =>
 ⟨I.base.keep b o (I.ok.bs b o e).1 (I.ok.bs b o e).2 (I.ok.nofr e) (I.ok.noex b o e),I.base.free b o (I.ok.bs b o e).1 (I.ok.bs b o e).2 (I.ok.noex b o e)⟩
def Inv.bk (I:Inv X pins σ H s):∀ b o,X.base.get? b=Aa o→s.heap.get? b=Aa o:=λb o e=>(I.bs b o e).1
def Inv.mod (I:Inv X pins σ H s):Mod X.K X.mg X.base:=I.ok.mod
def Inv.kIn (I:Inv X pins σ H s):X.K.In s.heap:=I.ok.mod.kin.keeps I.bk
def Inv.nolimit (I:Inv X pins σ H s):s.heap.NoLimit:=I.ok.mod.nolimit.keeps I.bk
def Inv.lt (I:Inv X pins σ H s):X.env.locals<s.heap.objs.size:=let ⟨_,hn,_⟩:=I.loc;hn.lt
def Inv.sz (I:Inv X pins σ H s):X.s₀.heap.objs.size≤s.heap.objs.size:=Dc I.ok.above (Gz I.lt)
def Inv.nofs (I:Inv X pins σ H s){a:Af}(h:s.heap.objs.size≤a):a ∉ X.fs:=λhb=>by
 obtain⟨_,o,ho,_⟩:=I.ok.funs.mem hb;exact absurd (Bn (AT ho) (Dc I.sz h)) (Ef _)
def Inv.cne (I:Inv X pins σ H s):∀ x c,X.env.cells.lookup x=Aa c→c≠X.env.locals:=λx c e z=>by
 obtain⟨v,o,ho,hd⟩:=I.cell x c e;obtain⟨m,⟨o',es,ep,ho',hd',_⟩,_⟩:=I.loc;rw[z,ho'] at ho;cases ho;rw[hd'] at hd;cases hd
def Inv.funs (I:Inv X pins σ H s):s.heap.FunFrames X.base X.outer:=by
 have all:∀ (l:Ab Jt),(∀ b∈frs l,b∈X.fs)→X.s₀.heap.FunFrames X.base l→s.heap.FunFrames X.base l:=by
  intro l
  induction l with
  |nil=>intro _ _;trivial
  |cons env r ih =>
   intro hs hl;obtain⟨hk,⟨L,o,hf,hn,ho,hd⟩,hr⟩:=hl;have hL:L∈X.fs:=hs L (by unfold frs;rw[Gd,hf];exact Dd)
   obtain⟨sl,e⟩:=I.base.slot L o ho (I.ok.frf L hL) hL λz=>I.ok.exfs L z hL;exact⟨hk,⟨L,_,hf,hn,e,hd⟩,ih (λb hb=>hs b (by unfold frs;rw[Gd,hf];exact Bu _ hb)) hr⟩
 exact all X.outer (λ_ hb=>hb) I.ok.funs
def Inv.stack (I:Inv X pins σ H s):s.heap.FunFrames X.base X.stack:=by
 rcases I.ok.stk with e|⟨e,hf⟩
 ·rw[e];exact I.funs
 ·rw[e]
  obtain⟨m,hn,_⟩:=I.loc;refine .cons (by rw[I.ok.kind];decide) hf hn ?_ I.funs
  exact Iu (Dc I.ok.bsz I.ok.above)
def Inv.stkSub (I:Inv X pins σ H s):∀ b∈frs X.stack,b∈X.env.locals::X.fs:=λb hb=>by
 rcases I.ok.stk with e|⟨e,hf⟩
 ·rw[e] at hb;exact Bu _ hb
 ·rw[e] at hb
  unfold frs at hb;rw[Gd,hf] at hb;exact hb
def Inv.stkFree (I:Inv X pins σ H s):∀ b∈frs X.stack,H b=none:=λb hb=>by
 rcases Av.mp (I.stkSub b hb) with e|hb
 ·rw[e];exact I.free
 ·obtain⟨_,o,ho,_⟩:=I.ok.funs.mem hb
  exact I.base.free b o ho (I.ok.frf b hb) λz=>I.ok.exfs b z hb
def Inv.step {g':Bj Yk}{t':Ai}{d':Drawn}(I:Inv X pins σ H s)
  (hch:∀ b∈ch,(b∈X.ex∨X.s₀.heap.objs.size≤b)∧b≠X.env.locals∧(∀ x c,X.env.cells.lookup x=Aa c→c≠b)∧∀ p∈X.pn++pins,p.1≠b)
  (keep:∀ b o,b≠X.env.locals→b ∉ X.fs→b ∉ ch→s.heap.get? b=Aa o→H b=none→h'.get? b=Aa o)
  (slot:∀ b o,b≠X.env.locals→b∈X.fs→b ∉ ch→s.heap.get? b=Aa o→H b=none→∃ sl,h'.get? b=Aa { o with slots:=sl }) (free:∀ b o,b ∉ ch→s.heap.get? b=Aa o→H b=none→H' b=none)
  (there:∀ b o,b ∉ ch→s.heap.get? b=Aa o→∃ o',h'.get? b=Aa o')
  (tups:∀ b xs,H b=Aa (.tup xs)→H' b=Aa (.tup xs)) (frzs:∀ b o u,H b=Aa (.frz o u)→H' b=Aa (.frz o u)) (tbls:∀ b ps,H b=Aa (.tbl ps)→∃ more,H' b=Aa (.tbl (ps++more)))
  (ns:∀ m,s.heap.Ns X.env.locals m→h'.Ns X.env.locals m) (hok:HOk X.prog X.w H' h') (hg:Mm g') :
  Inv X pins σ H' { s with heap:=h',gens:=g',drawn:=d',toks:=t' }:=by
 have neL:∀ b o,X.s₀.heap.get? b=Aa o→b≠X.env.locals:=λb o e=>Co (Bn (AT e) I.ok.above);have neC:∀ b o,X.s₀.heap.get? b=Aa o→b ∉ X.ex→b ∉ ch:=λb o e hx hb=>by
  rcases (hch b hb).1 with z|z
  ·exact hx z
  ·exact absurd (Bn (AT e) z) (Ef _)
 have cellK:∀ x c,X.env.cells.lookup x=Aa c→∀ v,s.heap.IsCell c v→h'.IsCell c v:=λx c e v ⟨o,ho,hd⟩=>by
  have nch:c ∉ ch:=λz=>(hch c z).2.2.1 x c e rfl;by_cases hc:c∈X.fs
  ·obtain⟨sl,q⟩:=slot c o (I.cne x c e) hc nch ho (I.freeC x c e)
   exact⟨_,q,hd⟩
  ·exact⟨o,keep c o (I.cne x c e) hc nch ho (I.freeC x c e),hd⟩
 refine⟨I.ok,I.os,hg,⟨λb o e n hb hx=>?_,λb o e n hb hx=>?_,λb o e n hx=>?_,λb o e hx=>?_,λb xs e=>tups b xs (I.base.tups b xs e),λb o xs e=>frzs b o xs (I.base.frzs b o xs e),λb ps e=>?_⟩,?_,λx c e=>?_,?_,λx c e=>?_,λp hp=>?_,hok,I.len⟩
 ·exact keep b o (neL b o e) hb (neC b o e hx) (I.base.keep b o e n hb hx) (I.base.free b o e n hx)
 ·obtain⟨sl,e1⟩:=I.base.slot b o e n hb hx
  obtain⟨sl',e2⟩:=slot b _ (neL b o e) hb (neC b o e hx) e1 (I.base.free b o e n hx);exact⟨sl',e2⟩
 ·obtain⟨o',e1⟩:=I.base.there b o e hx
  exact free b o' (neC b o e hx) e1 (I.base.free b o e n hx)
 ·obtain⟨o',e1⟩:=I.base.there b o e hx
  exact there b o' (neC b o e hx) e1
 ·obtain⟨m1,e1⟩:=I.base.tbls b ps e
  obtain⟨m2,e2⟩:=tbls b _ e1;exact⟨m1++m2,by rw[e2,Array.append_assoc]⟩
 ·obtain⟨m,hn,hl⟩:=I.loc
  refine⟨m,ns m hn,λi x v e1 e2 e3=>?_⟩;obtain⟨u,r,l⟩:=hl i x v e1 e2 e3;refine⟨u,r,?_⟩;rcases l with l|⟨k,c,e,z⟩
  ·exact .inl l
  ·exact .inr ⟨k,c,e,cellK x c e _ z⟩
 ·obtain⟨v,z⟩:=I.cell x c e
  exact⟨v,cellK x c e v z⟩
 ·obtain⟨m,⟨o,_,_,ho,_⟩,_⟩:=I.loc
  exact free _ o (λz=>(hch _ z).2.1 rfl) ho I.free
 ·obtain⟨v,o,ho,hd⟩:=I.cell x c e
  exact free c o (λz=>(hch c z).2.2.1 x c e rfl) ho (I.freeC x c e)
 ·obtain⟨e,n,ne,nf,d⟩:=I.pin p hp
  have nch:p.1 ∉ ch:=λz=>(hch p.1 z).2.2.2 p hp rfl;exact⟨keep p.1 p.2 ne nf nch e n,free p.1 p.2 nch e n,ne,nf,d⟩
def Inv.un {t':Ai}(I:Inv X pins σ H s)(u:Un X.fs [] H H' s.heap h')(hok:HOk X.prog X.w H' h'):Inv X pins σ H' { s with heap:=h',toks:=t' }:=by
 obtain⟨m,⟨o,es,ep,ho,r⟩,_⟩:=id I.loc;obtain⟨sl,hL⟩:=u.any ho I.free (by simp)
 exact I.step (g':=s.gens) (d':=s.drawn) (ch:=[]) (λ_ z=>nomatch z) (λb o _ hb _ e n=>u.keep b o e n hb (by simp)) (λb o _ hb _ e n=>u.slot b o e n hb (by simp)) (λb o _ e n=>u.free b o e n (by simp)) (λb o _ e=>u.there b o e (by simp)) u.tups u.frzs u.tbls (λm' hm=>by
  obtain⟨o',es',ep',ho',r'⟩:=hm;rw[ho] at ho';cases ho';exact⟨_,es',ep',hL,r'⟩) hok I.bare
def Inv.call {t':Ai}{d':Drawn}(I:Inv X pins σ H s)(u:Un (frs X.stack) ch H H' s.heap h')(hok:HOk X.prog X.w H' h')(hg:Mm g')
  (hch:∀ b∈ch,(b∈X.ex∨X.s₀.heap.objs.size≤b)∧b≠X.env.locals∧(∀ x c,X.env.cells.lookup x=Aa c→c≠b)∧∀ p∈X.pn++pins,p.1≠b) :
  Inv X pins σ H' { s with heap:=h',gens:=g',drawn:=d',toks:=t' }:=by
 obtain⟨m,⟨o,es,ep,ho,r⟩,_⟩:=id I.loc;obtain⟨sl,hL⟩:=u.any ho I.free λz=>(hch _ z).2.1 rfl;exact I.step (ch:=ch) hch (λb o hL hb hc e n=>u.keep b o e n (λz=>(Av.mp (I.stkSub b z)).elim hL hb) hc) (λb o _ _ hc e n=>u.any e n hc) (λb o hc e n=>u.free b o e n hc) (λb o hc e=>u.there b o e hc) u.tups u.frzs u.tbls (λm' hm=>by
  obtain⟨o',es',ep',ho',r'⟩:=hm;rw[ho] at ho';cases ho';exact⟨_,es',ep',hL,r'⟩) hok hg
def Inv.turned {t':Ai}{it:Af}(I:Inv X pins σ H s)(k:∀ b o,b≠it→s.heap.get? b=Aa o→h'.get? b=Aa o)(hn:H it=none)(hL:it≠X.env.locals)
  (h1:it∈X.ex∨X.s₀.heap.objs.size≤it) (h2:∀ x c,X.env.cells.lookup x=Aa c→c≠it) (h3:∀ p∈X.pn++pins,p.1≠it):Inv X pins σ H { s with heap:=h',toks:=t' }:=by
 have nit:∀ b u,H b=Aa u→b≠it:=λb u e z=>by rw[z,hn] at e;cases e
 refine I.step (g':=s.gens) (d':=s.drawn) (ch:=[it]) (λb hb=>?_) (λb o _ _ hc e _=>k b o (λz=>hc (by simp[z])) e) (λb o _ _ hc e _=>⟨o.slots,k b o (λz=>hc (by simp[z])) e⟩) (λ_ _ _ _ n=>n)
  (λb o hc e=>⟨o,k b o (λz=>hc (by simp[z])) e⟩) (λ_ _ e=>e) (λ_ _ _ e=>e) (λb ps e=>⟨#[],by rw[e];simp⟩) (λm hm=>?_) (λb u e=>?_) I.bare
 ·have e:b=it:=by simpa using hb
  subst e;exact⟨h1,hL,h2,h3⟩
 ·obtain⟨o,es,ep,ho,r⟩:=hm
  exact⟨o,es,ep,k _ o (Em hL) ho,r⟩
 ·refine(I.hok b u e).stay (λc v hc q=>k c v ?_ q) (λ_ q=>q) λ_ _ q=>q
  rcases hc with z|z
  ·rw[z];exact nit b u e
  ·exact nit c _ z
def Inv.tok (I:Inv X pins σ H s)(t:Ai):Inv X pins σ H { s with toks:=t }:=I.un (h':=s.heap) (t':=t) Un.refl I.hok
def Inv.kept {t':Ai}(I:Inv X pins σ H s)(k:∀ b u,s.heap.get? b=Aa u→h'.get? b=Aa u):Inv X pins σ H { s with heap:=h',toks:=t' }:=I.un (Un.kept k) (I.hok.kept k)
def Inv.laid {a:Af}{o:HO}{t':Ai}(I:Inv X pins σ H s)(k:∀ b u,s.heap.get? b=Aa u→h'.get? b=Aa u)(hp:s.heap.objs.size≤a)(new:zV X.prog X.w (upd H a o) h' a o) :
  Inv X pins σ (upd H a o) { s with heap:=h',toks:=t' }:=I.un (Un.laid k hp (I.hok.fresh hp)) (I.hok.laid k hp new)
def Inv.write {x e:Af}{o:HO}{t':Ai}(I:Inv X pins σ H s)(mu:Mut (H x))(he:e=x∨H e=Aa (.own x))(k:∀ b u,b≠e→s.heap.get? b=Aa u→h'.get? b=Aa u)(heo:∃ u,h'.get? e=Aa u)
  (new:zV X.prog X.w (upd H x o) h' x o):Inv X pins σ (upd H x o) { s with heap:=h',toks:=t' }:=I.un (Un.write mu he k heo) (I.hok.write mu he k heo new)
def Inv.pins_of {pins':Ab (Af × Cr)}(I:Inv X pins σ H s)(h:∀ p∈pins',s.heap.get? p.1=Aa p.2∧H p.1=none∧p.1≠X.env.locals∧p.1 ∉ X.fs∧∀ v,p.2.data≠.cell v):Inv X pins' σ H s:=
 ⟨I.ok,I.os,I.bare,I.base,I.loc,I.cell,I.free,I.freeC,λp hp=>(Cq.mp hp).elim (λz=>I.pin p (Do _ z)) (h p),I.hok,I.len⟩
def tR {N:Ab As}(hN:N.Nodup){i j:Ai}{x:As}(a:N[i]? = Aa x)(b:N[j]? = Aa x):i=j:=by
 obtain⟨h1,e1⟩:=Bb.mp a;obtain⟨h2,e2⟩:=Bb.mp b;exact(Mn hN).mp (e1.trans e2.symm)
def rQ {A:Bv}{i:Ai}{x:As}{v:V}{u:Ad}(I:Inv X pins σ H s)(hN:X.N.Nodup)(hi:X.N[i]? = Aa x)(hx:Loc X.env.scope x)(r:qP v u)
  (h:∀ s',Inv X pins (σ.set i (Aa v)) H s'→(∃ a,Eu a s.heap s'.heap∧(a=X.env.locals∨X.env.cells.lookup x=Aa a))→Q () s') (hf:X.fn x=true∨X.env.scope.names.lookup x=Aa .local:=by first|exact .inl rfl|exact .inr rfl|assumption):Ao M A (storeName X.env x u) Q E s:=by
 obtain⟨m,hn,hl⟩:=id I.loc;have hcls:(X.env.scope.kind == .class||(X.env.scope.kind == .module&&X.env.locals != X.env.globals))=false:=by rw[I.ok.kind];rfl
 have hiσ:i<σ.length:=by rw[I.len];exact(Bb.mp hi).1
 have cne:=I.cne;have tracked:∀ {a:Af} {h':Bk},(∃ o,s.heap.get? a=Aa o∧H a=none)→Eu a s.heap h'→HOk X.prog X.w H h':=λ{a h'} ha hs b ob e=>by
  obtain⟨_,_,hfree⟩:=ha;refine(I.hok b ob e).stay (λc w' hc q=>(hs.2 c ?_).trans q) (λ_ q=>q) λ_ _ q=>q;rintro rfl;rcases hc with rfl|hc
  ·rw[hfree] at e;cases e
  ·rw[hfree] at hc;cases hc
 rcases hx with hk|hk
 ·refine wpAny_storeName_local hk hn (λh' hn' hs=>?_) hcls
  obtain⟨oL,_,_,hoL,_⟩:=id hn;refine h _ ⟨I.ok,I.os,I.bare,⟨λb o e n hb hx=>?_,λb o e n hb hx=>?_,I.base.free,λb o e hx=>?_,I.base.tups,I.base.frzs,I.base.tbls⟩,⟨_,hn',λj y v' e1 e2 e3=>?_⟩,λy c e=>?_,I.free,I.freeC,λp hp=>?_,tracked ⟨oL,hoL,I.free⟩ hs,by simpa using I.len⟩ ⟨_,hs,.inl rfl⟩
  ·exact(hs.2 b (Co (Bn (AT e) I.ok.above))).trans (I.base.keep b o e n hb hx)
  ·obtain⟨sl,e1⟩:=I.base.slot b o e n hb hx
   exact⟨sl,(hs.2 b (Co (Bn (AT e) I.ok.above))).trans e1⟩
  ·obtain⟨o',e1⟩:=I.base.there b o e hx
   exact⟨o',(hs.2 b (Co (Bn (AT e) I.ok.above))).trans e1⟩
  ·by_cases hj:j=i
   ·subst hj
    rw[hi] at e1;cases e1;rw[Dk hiσ] at e2;cases e2;exact⟨u,r,.inl ⟨hk,by simp⟩⟩
   ·rw[Cb (Em hj)] at e2
    obtain⟨u',r',q⟩:=hl j y v' e1 e2 e3;refine⟨u',r',?_⟩;rcases q with⟨k,e⟩|⟨k,c,e,z⟩
    ·refine .inl ⟨k,?_⟩
     have:y≠x:=λe=>hj (tR hN e1 (e▸hi));simp[this,e]
    ·exact .inr ⟨k,c,e,z.sameBut hs (cne y c e)⟩
  ·obtain⟨w',z⟩:=I.cell y c e
   exact⟨w',z.sameBut hs (cne y c e)⟩
  ·obtain⟨e,n,ne,nf,d⟩:=I.pin p hp
   exact⟨(hs.2 p.1 ne).trans e,n,ne,nf,d⟩
 ·have hfn:X.fn x=true:=by
   rcases hf with z|z
   ·exact z
   ·rw[z] at hk;cases hk
  obtain⟨c,hc⟩:=I.ok.has x (.inl hk);obtain⟨w',z⟩:=I.cell x c hc;refine wpAny_storeName_cell I.ok.kind hk hc z (λh' hc' hs=>?_);obtain⟨oc,hoc,hocd⟩:=id z;refine h { s with heap:=h' } ⟨I.ok,I.os,I.bare,⟨λb o e n hb hx=>?_,λb o e n hb hx=>?_,I.base.free,λb o e hx=>?_,I.base.tups,I.base.frzs,I.base.tbls⟩,⟨m,hn.sameBut hs (Em (cne x c hc)),λj y v' e1 e2 e3=>?_⟩,λy c' e=>?_,I.free,I.freeC,λp hp=>?_,tracked ⟨oc,hoc,I.freeC x c hc⟩ hs,by simpa using I.len⟩ ⟨c,hs,.inr hc⟩
  ·exact(hs.2 b (Co (Bn (AT e) (I.ok.cab x c hfn hc)))).trans (I.base.keep b o e n hb hx)
  ·obtain⟨sl,e1⟩:=I.base.slot b o e n hb hx
   exact⟨sl,(hs.2 b (Co (Bn (AT e) (I.ok.cab x c hfn hc)))).trans e1⟩
  ·obtain⟨o',e1⟩:=I.base.there b o e hx
   exact⟨o',(hs.2 b (Co (Bn (AT e) (I.ok.cab x c hfn hc)))).trans e1⟩
  ·by_cases hj:j=i
   ·subst hj
    rw[hi] at e1;cases e1;rw[Dk hiσ] at e2;cases e2;exact⟨u,r,.inr ⟨.inl hk,c,hc,hc'⟩⟩
   ·rw[Cb (Em hj)] at e2
    obtain⟨u',r',q⟩:=hl j y v' e1 e2 e3;refine⟨u',r',?_⟩;rcases q with q|⟨k,c',e,z'⟩
    ·exact .inl q
    ·refine .inr ⟨k,c',e,z'.sameBut hs ?_⟩
     rintro rfl;exact hj (tR hN e1 (I.ok.inj _ _ _ e hc▸hi))
  ·by_cases hcc:c'=c
   ·subst hcc;exact⟨_,hc'⟩
   ·obtain⟨w2,z2⟩:=I.cell y c' e
    exact⟨w2,z2.sameBut hs hcc⟩
  ·obtain⟨e,n,ne,nf,d⟩:=I.pin p hp
   refine⟨(hs.2 p.1 ?_).trans e,n,ne,nf,d⟩;intro q;rw[q,hoc] at e;have q':oc=p.2:=Ct e;exact d w' (by rw[← q'];exact hocd)
def gG {A:Bv}{i:Ai}{x:As}{v:V}{u:Ad}(I:Inv X pins σ H s)(hN:X.N.Nodup)(hi:X.N[i]? = Aa x)(hx:Loc X.env.scope x)(r:qP v u)
  (h:∀ s',Inv X pins (σ.set i (Aa v)) H s'→Q () s') (hf:X.fn x=true∨X.env.scope.names.lookup x=Aa .local:=by first|exact .inl rfl|exact .inr rfl|assumption):Ao M A (storeName X.env x u) Q E s:=
 rQ I hN hi hx r (λs' I' _=>h s' I') hf
def Inv.call' {s':Ag}(I:Inv X pins σ H s)(ho:s'.os=s.os)(u:Un (frs X.stack) ch H H' s.heap s'.heap)(hok:HOk X.prog X.w H' s'.heap)(hg:Mm s'.gens)
  (hch:∀ b∈ch,(b∈X.ex∨X.s₀.heap.objs.size≤b)∧b≠X.env.locals∧(∀ x c,X.env.cells.lookup x=Aa c→c≠b)∧∀ p∈X.pn++pins,p.1≠b):Inv X pins σ H' s':=by
 obtain⟨h',g',d',t',o'⟩:=s';have e:o'=s.os:=ho;subst e;exact I.call (g':=g') (t':=t') (d':=d') u hok hg hch
end
abbrev XK:=Ad→Am Af→Hp→Prop
abbrev St:=Ab (Am V)
abbrev VK:=V→Hp→Prop
abbrev TE:=St→Hp→VK→Prop
abbrev TT:=St→Hp→(Aq→Hp→Prop)→Prop
abbrev TA:=St→Hp→(Ab V→Hp→Prop)→Prop
structure Ends where
 nx:St→Hp→Prop
 rt:VK
 bk:St→Hp→Prop:=λ_ _=>Fe
 ct:St→Hp→Prop:=λ_ _=>Fe
abbrev TS:=Ends→St→Hp→Prop
inductive EP (X:Cx)(pins:Ab (Af × Cr))(σ : St)(Q:VK)(u:Ad)(s':Ag):Prop
 |mk (v:V) (H':Hp) (I:Inv X pins σ H' s') (r:qP v u) (q:Q v H'):EP X pins σ Q u s'
inductive TP (X:Cx)(pins:Ab (Af × Cr))(σ : St)(Q:Aq→Hp→Prop)(b:Aq)(s':Ag):Prop
 |mk (H':Hp) (I:Inv X pins σ H' s') (q:Q b H'):TP X pins σ Q b s'
inductive AP (X:Cx)(pins:Ab (Af × Cr))(σ : St)(Q:Ab V→Hp→Prop)(us:Ab Ad)(s':Ag):Prop
 |mk (vs:Ab V) (H':Hp) (I:Inv X pins σ H' s') (r:qT vs us) (q:Q vs H'):AP X pins σ Q us s'
def SP (X:Cx)(pins:Ab (Af × Cr))(D:Ends)(f:Flow)(s':Ag):Prop:=
 match f with
 |.next=>∃ σ' H',Inv X pins σ' H' s'∧D.nx σ' H'
 |.brk=>∃ σ' H',Inv X pins σ' H' s'∧D.bk σ' H'
 |.cont=>∃ σ' H',Inv X pins σ' H' s'∧D.ct σ' H'
 |.ret u=>∃ v σ' H',Inv X pins σ' H' s'∧qP v u∧D.rt v H'
def PE (X:Cx)(e:Bx)(t:TE):Prop:=
 ∀ (pins:Ab (Af × Cr)) (s:Ag) (σ : St) (H:Hp) (Q:VK),Inv X pins σ H s→t σ H Q→Ao (Au X.prog X.w) X.A (eval e X.env) (EP X pins σ Q) X.xe s
def PT (X:Cx)(e:Bx)(t:TT):Prop:=
 ∀ (pins:Ab (Af × Cr)) (s:Ag) (σ : St) (H:Hp) (Q:Aq→Hp→Prop),Inv X pins σ H s→t σ H Q→Ao (Au X.prog X.w) X.A (isTrue e X.env (eval e X.env)) (TP X pins σ Q) X.xe s
def PW (X:Cx)(e:Bx)(t:TT):Prop:=
 ∀ (whole:Nd Ad) (pins:Ab (Af × Cr)) (s:Ag) (σ : St) (H:Hp) (Q:Aq→Hp→Prop),Inv X pins σ H s→t σ H Q→Ao (Au X.prog X.w) X.A (isTrue e X.env whole) (TP X pins σ Q) X.xe s
def PA (X:Cx)(es:Ab Bx)(t:TA):Prop:=
 ∀ (pos:Fa) (pins:Ab (Af × Cr)) (s:Ag) (σ : St) (H:Hp) (Q:Ab V→Hp→Prop),Inv X pins σ H s→t σ H Q→Ao (Au X.prog X.w) X.A (spliced (Gf pos (Bh es X.env))) (AP X pins σ Q) X.xe s
def PS (X:Cx)(st:Fd)(t:TS):Prop:=
 ∀ (pins:Ab (Af × Cr)) (s:Ag) (σ : St) (H:Hp) (D:Ends),Inv X pins σ H s→t D σ H→Ao (Au X.prog X.w) X.A (exec st X.env) (SP X pins D) X.xe s
def PSs (X:Cx)(st:Ab Fd)(t:TS):Prop:=
 ∀ (pins:Ab (Af × Cr)) (s:Ag) (σ : St) (H:Hp) (D:Ends),Inv X pins σ H s→t D σ H→Ao (Au X.prog X.w) X.A (execs st X.env) (SP X pins D) X.xe s
def thn {α:Type}{t:Nd α}{Q Q':α→Ag→Prop}{A:Bv}{s:Ag}(h:Ao M A t Q E s)(hQ:∀ a s,Q a s→Q' a s):Ao M A t Q' E s:=Gv h hQ λ_ _ x=>x
end _L
namespace _L
open PySem PySem.Spec PyProof.Rows
variable {pins:Ab (Af × Cr)}{u:Ad}{E Q:Ad→Ag→Prop}
section
variable {X:Cx}
def bin {a b:Bx}{ta tb:TE}(ha:PE X a ta)(hb:PE X b tb){pins:Ab (Af × Cr)}{s:Ag}{σ : St}{H:Hp}{R:V→V→Hp→Prop}(I:Inv X pins σ H s)(h:ta σ H λx H1=>tb σ H1 λy H2=>R x y H2)
  {α:Type} {Q:α→Ag→Prop} {f:Ad→Ad→Nd α}
  (hf:∀ v u s2 x y H2,Inv X pins σ H2 s2→qP x v→qP y u→R x y H2→Ao (Au X.prog X.w) X.A (f v u) Q X.xe s2) :
  Ao (Au X.prog X.w) X.A (eval a X.env) (λv s₁=>Ao (Au X.prog X.w) X.A (eval b X.env) (λu s₂=>Ao (Au X.prog X.w) X.A (f v u) Q X.xe s₂) X.xe s₁) X.xe s:=by
 refine thn (ha pins s σ H _ I h) λv s1 ⟨x,H1,I1,r1,q1⟩=>?_;refine thn (hb pins s1 σ H1 _ I1 q1) λu s2 ⟨y,H2,I2,r2,q2⟩=>?_;exact hf v u s2 x y H2 I2 r1 r2 q2
def H8 (i:Ai):TE:=λσ H Q=>∃ v,σ[i]? = Aa (Aa v)∧Q v H
def tC (v:V):TE:=λ_ H Q=>Q v H
def RS {i:Ai}{x:As}{pos:Fa}(hN:X.N[i]? = Aa x)(hv:Vis X.env.scope x)(hd:(x == ("__debug__" : As))=false:=by decide)(hcd:(x == ("__classdict__" : As))=false:=by decide):PE X (.Name x pos) (H8 i):=by
 intro pins s σ H Q I h;obtain⟨v,e,h⟩:=h;obtain⟨m,hn,hl⟩:=I.loc;obtain⟨u,r,l⟩:=hl i x v hN e hv;have fin:EP X pins σ Q u s:=⟨v,H,I,r,h⟩;rcases l with⟨hk,hm⟩|⟨hk,c,hc,hcell⟩
 ·exact Yy (wpAny_loadName_local I.ok.kind hk hn hm fin) hd
 ·rcases hk with hk|hk
  ·exact Yy (wpAny_loadName_cell I.ok.kind hk hc hcell fin) hd
  ·exact Yy (wpAny_loadName_free I.ok.kind hk hc hcell fin hcd) hd
def RM:PE X (.Constant (.int i) j pos) (tC (.int i)):=λ_ _ _ H _ I h=>wpAny_Constant_int ⟨.int i,H,I.tok _,⟨_,rfl⟩,h⟩
def AH:PE X (.Constant (.bool b) j pos) (tC (.bl b)):=λ_ _ _ H _ I h=>Constant_bool ⟨.bl b,H,I,rfl,h⟩
def RN:PE X (.Constant .none j pos) (tC .non):=λ_ _ _ H _ I h=>Constant_none ⟨.non,H,I,rfl,h⟩
def RP:PE X (.Constant (.str x) j pos) (tC (.str x)):=λ_ _ _ H _ I h=>Calls.Constant_str ⟨.str x,H,I.tok _,⟨_,rfl⟩,h⟩
def Gl (X:Cx)(x:As):Prop:=X.env.kindOf x=Aa .globalImplicit
def pI {s:Ag}{σ:St}{H:Hp}{x:As}{pos:Fa}(I:Inv X pins σ H s)(hg:Gl X x)(hm:X.mg x=Aa u)(h:Q u s)
  (hd:(x == ("__debug__" : As))=false:=by decide):Ao (Au X.prog X.w) X.A (eval (.Name x pos) X.env) Q E s:=
 Pk I.ok.kind hg (Calls.loadGlobal_global (by rw[I.ok.glob];exact I.mod.glob.keeps I.bk) hm h) hd
def uX {s:Ag}{σ:St}{H:Hp}{x:As}{pos:Fa}(I:Inv X pins σ H s)(hg:Gl X x)(hm:X.mg x=none)(hv:Fv x=Aa u)(h:Q u s)
  (hn:x ≠ "__name__":=by decide) (hd:(x == ("__debug__" : As))=false:=by decide):Ao (Au X.prog X.w) X.A (eval (.Name x pos) X.env) Q E s:=by
 obtain⟨mb,h1,h2⟩:=I.mod.blt;exact Pk I.ok.kind hg (Calls.loadGlobal_builtin (by rw[I.ok.glob];exact I.mod.glob.keeps I.bk) hm (by rw[I.ok.blt];exact h1.keeps I.bk) ((h2 x hn).trans hv) h) hd
def MM {x:As}{v:V}{pos:Fa}(hg:Gl X x)(hm:X.mg x=Aa u)(r:qP v u)(hd:(x == ("__debug__" : As))=false:=by decide):PE X (.Name x pos) (tC v):=
 λ_ _ _ H _ I h=>pI I hg hm ⟨v,H,I,r,h⟩ hd
def ML {x:As}{v:V}{pos:Fa}(hg:Gl X x)(hm:X.mg x=none)(hv:Fv x=Aa u)(r:qP v u)(hn:x ≠ "__name__":=by decide)(hd:(x == ("__debug__" : As))=false:=by decide):PE X (.Name x pos) (tC v):=
 λ_ _ _ H _ I h=>uX I hg hm hv ⟨v,H,I,r,h⟩ hn hd
variable {a b:Bx}{ta tb:TE}{pos:Fa}
variable {tA tB':TT}{rest:Ab Bx}
def MV (ha:PT X a tA):PW X (.BoolOp .And [a] pos) tA:=by
 intro wh pins s σ H Q I h;refine isTrue_and (thn (ha pins s σ H Q I h) λc s1 e=>?_);cases c with
 |true=>exact isTrue_and_nil e
 |false=>exact e
def E2 (ha:PT X a tA):PW X (.BoolOp .Or [a] pos) tA:=by
 intro wh pins s σ H Q I h;refine isTrue_or (thn (ha pins s σ H Q I h) λc s1 e=>?_);cases c with
 |false=>exact isTrue_or_nil e
 |true=>exact e
def RO {t:TE}(h:PE X a t):PE X (.BoolOp op [a] pos) t:=λpins s σ H Q I hw=>BoolOp_one (h pins s σ H Q I hw)
end
end _L
namespace _L
open PySem PySem.Spec PyProof.Rows
variable {es:Ab Bx}{K:Al}{P:Bg}{tg:Bx}{w:By}
def SqL (K:Al)(H:Hp)(a:Af)(xs:Ab V):Prop:=
 Rd H a (.lst xs) ∨
  ∃ (o:Cr) (its:Bj Ad) (n:Ai),K.lookup a=Aa o∧o.cls=.type "list" ∧ o.dict=none∧o.data=.seq its n∧its.size≤sizeLine∧qT xs its.toList
def SqT (K:Al)(H:Hp)(a:Af)(xs:Ab V):Prop:=
 Rd H a (.tup xs) ∨
  ∃ (o:Cr) (its:Bj Ad) (n:Ai),K.lookup a=Aa o∧o.cls=.type "tuple" ∧ o.data=.seq its n∧its.size≤sizeLine∧qT xs its.toList
def O9:Ad→Am V
 |.none=>Aa .non
 |.bool b=>Aa (.bl b)
 |.int i _=>Aa (.int i)
 |.str x _=>Aa (.str x)
 |.bytes b _=>Aa (.byt b)
 |.float b _=>Aa (.flt b)
 |.ref a=>Aa (.ref a)
 |.type n=>Aa (.ty n)
 |_=>none
def qP.abs {x:V}{u:Ad}(r:qP x u):O9 u=Aa x:=by
 cases x with
 |non=>cases r;rfl
 |bl _=>cases r;rfl
 |int _=>obtain⟨t,rfl⟩:=r;rfl
 |str _=>obtain⟨t,rfl⟩:=r;rfl
 |byt _=>obtain⟨t,rfl⟩:=r;rfl
 |flt _=>obtain⟨t,rfl⟩:=r;rfl
 |ref _=>cases r;rfl
 |ty _=>cases r;rfl
def qP.inj {x y:V}{u:Ad}(r:qP x u)(q:qP y u):x=y:=Ct (r.abs.symm.trans q.abs)
def qT.inj {xs ys:Ab V}{us:Ab Ad}(h:qT xs us)(k:qT ys us):xs=ys:=by
 induction h generalizing ys with
 |nil=>cases k;rfl
 |cons r t ih =>
  cases k with
  |cons r' t'=>rw[r.inj r',ih t']
section
variable {X:Cx}{pins:Ab (Af × Cr)}{σ : St}{H:Hp}{s:Ag}{a:Af}{xs ys:Ab V}
def SqL.of (h:H a=Aa (.lst xs)):SqL K H a xs:=.inl (.inl h)
def SqT.of (h:H a=Aa (.tup xs)):SqT K H a xs:=.inl (.inl h)
def Inv.list (I:Inv X pins σ H s)(h:SqL X.K H a xs):∃ its:Ab Ad,qT xs its∧PlainL s.heap a its.toArray∧xs.length≤sizeLine:=by
 rcases h with h|⟨o,its,n,hk,hc,hd,hs,hz,r⟩
 ·obtain⟨z,its,n,r,e⟩:=h.ok I.hok
  exact⟨its,r,⟨_,n,e,rfl,rfl,rfl⟩,z⟩
 ·refine⟨its.toList,r,⟨o,n,I.kIn a o hk,hc,hd,by simpa using hs⟩,?_⟩
  have e:=r.length;simp only[De] at e;omega
def Inv.tuple (I:Inv X pins σ H s)(h:SqT X.K H a xs):∃ its:Ab Ad,qT xs its∧Ml s.heap a its.toArray∧xs.length≤sizeLine:=by
 rcases h with h|⟨o,its,n,hk,hc,hs,hz,r⟩
 ·obtain⟨z,its,r,p⟩:=h.ok I.hok
  exact⟨its,r,p,z⟩
 ·refine⟨its.toList,r,⟨o,I.kIn a o hk,hc,n,by simpa using hs⟩,?_⟩
  have e:=r.length;simp only[De] at e;omega
def Inv.list_inj (I:Inv X pins σ H s)(h:SqL X.K H a xs)(h':SqL X.K H a ys):xs=ys:=by
 obtain⟨its,r,⟨o,n,e,_,_,d⟩,_⟩:=I.list h;obtain⟨its',r',⟨o',n',e',_,_,d'⟩,_⟩:=I.list h';rw[e] at e';cases e';rw[d] at d';injection d' with d1 _
 have:its=its':=by simpa using congrArg Vz d1
 subst this;exact r.inj r'
def Inv.tuple_inj (I:Inv X pins σ H s)(h:SqT X.K H a xs)(h':SqT X.K H a ys):xs=ys:=by
 obtain⟨its,r,⟨o,e,_,n,d⟩,_⟩:=I.tuple h;obtain⟨its',r',⟨o',e',_,n',d'⟩,_⟩:=I.tuple h';rw[e] at e';cases e';rw[d] at d';injection d' with d1 _
 have:its=its':=by simpa using congrArg Vz d1
 subst this;exact r.inj r'
end
abbrev Cx.wish (X:Cx)(E:Ad→Ag→Prop):Cx:={ X with xe:=E }
abbrev Cx.nox (X:Cx):Cx:=X.wish λ_ _=>Fe
def Cx.Ok.wish {X:Cx}(ok:X.Ok)(E:Ad→Ag→Prop):(X.wish E).Ok:=
 ⟨ok.mod,ok.kind,ok.glob,ok.blt,ok.above,ok.inj,ok.has,ok.cab,ok.hd,ok.frames,ok.stk,ok.exf,ok.bs,ok.bsz,ok.noex,ok.exfs,ok.funs,ok.frf⟩
def Cx.Ok.unwish {X:Cx}{E:Ad→Ag→Prop}(ok:(X.wish E).Ok):X.Ok:=
 ⟨ok.mod,ok.kind,ok.glob,ok.blt,ok.above,ok.inj,ok.has,ok.cab,ok.hd,ok.frames,ok.stk,ok.exf,ok.bs,ok.bsz,ok.noex,ok.exfs,ok.funs,ok.frf⟩
section
variable {X:Cx}{pins:Ab (Af × Cr)}{σ : St}{H:Hp}{s:Ag}{E:Ad→Ag→Prop}
def Inv.wish (I:Inv X pins σ H s)(E:Ad→Ag→Prop):Inv (X.wish E) pins σ H s:=⟨I.ok.wish E,I.os,I.bare,I.base,I.loc,I.cell,I.free,I.freeC,I.pin,I.hok,I.len⟩
def Inv.unwish (I:Inv (X.wish E) pins σ H s):Inv X pins σ H s:=⟨I.ok.unwish,I.os,I.bare,I.base,I.loc,I.cell,I.free,I.freeC,I.pin,I.hok,I.len⟩
def SP.unwish {D:Ends}{f:Flow}{s':Ag}(h:SP (X.wish E) pins D f s'):SP X pins D f s':=by
 cases f with
 |next=>obtain⟨σ',H',I,q⟩:=h;exact⟨σ',H',I.unwish,q⟩
 |brk=>obtain⟨σ',H',I,q⟩:=h;exact⟨σ',H',I.unwish,q⟩
 |cont=>obtain⟨σ',H',I,q⟩:=h;exact⟨σ',H',I.unwish,q⟩
 |ret u=>obtain⟨v,σ',H',I,r,q⟩:=h;exact⟨v,σ',H',I.unwish,r,q⟩
def PE.nox {e:Bx}{t:TE}(h:PE X.nox e t):PE X e t:=λpins s σ H Q I hw =>
 Gv (h pins s σ H Q (I.wish _) hw) (λ_ _ ⟨v,H',I',r,q⟩=>⟨v,H',I'.unwish,r,q⟩) λ_ _ z=>Ap z
def PT.nox {e:Bx}{t:TT}(h:PT X.nox e t):PT X e t:=λpins s σ H Q I hw =>
 Gv (h pins s σ H Q (I.wish _) hw) (λ_ _ ⟨H',I',q⟩=>⟨H',I'.unwish,q⟩) λ_ _ z=>Ap z
def PSs.nox {st:Ab Fd}{t:TS}(h:PSs X.nox st t):PSs X st t:=λpins s σ H D I hw =>
 Gv (h pins s σ H D (I.wish _) hw) (λ_ _ q=>q.unwish) λ_ _ z=>Ap z
end
section
variable {X:Cx}{st:Fd}{rest:Ab Fd}{t u:TS}{e:Bx}{te:TE}{pos:Fa}
def IF:TS:=λD σ H=>D.nx σ H
def qAO (t u:TS):TS:=λD σ H=>t { D with nx:=u D } σ H
def MT:PSs X [] IF:=λ_ _ σ H _ I h=>Nn ⟨σ,H,I,h⟩
def KJ (h1:PS X st t)(h2:PSs X rest u):PSs X (st::rest) (qAO t u):=by
 intro pins s σ H D I h;refine Xo (thn (h1 pins s σ H { D with nx:=u D } I h) λf s1 q=>?_)
 cases f with
 |next =>
  obtain⟨σ',H',I',q⟩:=q;exact h2 pins s1 σ' H' D I' q
 |ret v=>exact q
 |brk=>exact q
 |cont=>exact q
def MU (h1:PS X st t):PSs X [st] t:=by
 intro pins s σ H D I h;refine Xo (thn (h1 pins s σ H D I h) λf s1 q=>?_);cases f with
 |next=>exact Nn q
 |ret v=>exact q
 |brk=>exact q
 |cont=>exact q
def Inv.quiet {pins:Ab (Af × Cr)}{σ:St}{H:Hp}{s:Ag}(I:Inv X pins σ H s):interactive X.env=false:=by simp[interactive,I.ok.kind]
end
abbrev TG:=V→St→Hp→(St→Hp→Prop)→Prop
abbrev TGs:=Ab V→St→Hp→(St→Hp→Prop)→Prop
def PG (X:Cx)(target:Bx)(t:TG):Prop:=
 ∀ (pins:Ab (Af × Cr)) (s:Ag) (σ : St) (H:Hp) (v:V) (u:Ad) (Q:St→Hp→Prop),Inv X pins σ H s→qP v u→t v σ H Q →
  Ao (Au X.prog X.w) X.A (assign target X.env u) (λ_ s'=>∃ σ' H',Inv X pins σ' H' s'∧Q σ' H') X.xe s
def PGs (X:Cx)(ts:Ab Bx)(t:TGs):Prop:=
 ∀ (pins:Ab (Af × Cr)) (s:Ag) (σ : St) (H:Hp) (vs:Ab V) (us:Ab Ad) (Q:St→Hp→Prop),Inv X pins σ H s→qT vs us→t vs σ H Q →
  Ao (Au X.prog X.w) X.A (Ul ((Gk ts X.env).map (·.2)) us) (λ_ s'=>∃ σ' H',Inv X pins σ' H' s'∧Q σ' H') X.xe s
abbrev U7:=V→V→V→Hp→(Hp→Prop)→Prop
def eW (X:Cx)(t:U7):Prop:=
 ∀ (pins:Ab (Af × Cr)) (s:Ag) (σ : St) (H:Hp) (o i v:V) (ov iv u:Ad) (Q:Hp→Prop),Inv X pins σ H s→qP o ov→qP i iv→qP v u→t o i v H Q →
  Ao (Au X.prog X.w) X.A (Zv ov iv u) (λ_ s'=>∃ H',Inv X pins σ H' s'∧Q H') X.xe s
section
variable {X:Cx}{pos:Fa}
def CL (i:Ai):TG:=λv σ H Q=>Q (σ.set i (Aa v)) H
def MN {i:Ai}{x:As}(hN:X.N.Nodup)(hi:X.N[i]? = Aa x)(hx:Loc X.env.scope x)(hf:X.fn x=true∨X.env.scope.names.lookup x=Aa .local:=by first|exact .inl rfl|exact .inr rfl|assumption):PG X (.Name x pos) (CL i):=by
 intro pins s σ H v u Q I r h;exact Wo (gG I hN hi hx r (λs' I'=>⟨_,H,I',h⟩) hf)
def OM:TGs:=λvs σ H Q=>vs=[]∧Q σ H
def CK (t:TG)(u:TGs):TGs:=λvs σ H Q=>∃ v r,vs=v::r∧t v σ H λσ' H'=>u r σ' H' Q
def MP:PGs X [] OM:=by
 intro pins s σ H vs us Q I r h;obtain⟨e,h⟩:=h;subst e;cases r;exact Wp ⟨σ,H,I,h⟩
def KG {e:Bx}{t:TG}{u:TGs}(h1:PG X e t)(h2:PGs X es u)
  (hs:(Gk (e::es) X.env).map (·.2)=assign e X.env::(Gk es X.env).map (·.2):=by rfl):PGs X (e::es) (CK t u):=by
 intro pins s σ H vs us Q I r h;obtain⟨v,vr,e1,h⟩:=h;subst e1;cases r with
 |cons r rr =>
  rw[hs];refine Pb (thn (h1 pins s σ H _ _ _ I r h) λ_ s1 ⟨σ1,H1,I1,q1⟩=>?_);exact h2 pins s1 σ1 H1 _ _ Q I1 rr q1
def ON (K:Al)(n:Ai)(t:TGs):TG:=λv σ H Q=>∃ a xs,v=.ref a∧SqT K H a xs∧xs.length=n∧t xs σ H Q
def RT {k:Ai}{t:TGs}{n:Ai}(hc:X.calm=true)(h:PGs X es t)
  (hn:(Gk es X.env).length=n:=by rfl) (hst:(Gk es X.env).findIdx? (·.1)=none:=by rfl):PG X (.Tuple es k pos) (ON X.K n t):=by
 intro pins s σ H v u Q I r hw;obtain⟨a,xs,e1,hq,hl,hw⟩:=hw;subst e1;cases r;obtain⟨its,rv,ht,hz⟩:=I.tuple hq;refine assign_Tuple_tuple (I.ok.hd hc) ht (by simp[hn,← hl,rv.length]) hst λh' hx=>?_
 have I1:Inv X pins σ H { s with heap:=h' }:=I.kept (t':=s.toks) λb o e=>hx b o (Co (AT e)) e
 exact h pins _ σ H xs _ Q I1 (by simpa using rv) hw
def xR (to ti:TE)(t:U7):TG:=λv σ H Q=>to σ H λo H1=>ti σ H1 λi H2=>t o i v H2 λH3=>Q σ H3
def qAN (i j:Ai)(ta:TA):TS:=λD σ H=>ta σ H λvs H1=>∃ v w,vs=[v,w]∧D.nx ((σ.set i (Aa v)).set j (Aa w)) H1
def RZ {i j:Ai}{x y:As}{a b:Bx}{ta:TA}{px py pt:Fa} {kt k2 pt2} (hc:X.calm=true) (hN:X.N.Nodup) (hi:X.N[i]? = Aa x) (hj:X.N[j]? = Aa y) (hij:i≠j)
  (hx:X.env.scope.names.lookup x=Aa .local) (hy:X.env.scope.names.lookup y=Aa .local) (ha:PA X [a,b] ta)
  (hw:Kn [.Tuple [.Name x px,.Name y py] kt pt] (.Tuple [a,b] k2 pt2) X.env=pure (Aa [x,y]))
  (hs:Ko [.Tuple [.Name x px,.Name y py] kt pt] (.Tuple [a,b] k2 pt2) pos.line X.env=pure false:=by rfl) :
  PS X (.Assign [.Tuple [.Name x px,.Name y py] kt pt] (.Tuple [a,b] k2 pt2) pos) (qAN i j ta):=by
 intro pins s σ H D I h;rw[exec_Assign_arm];refine Ac (Ps ?_);rw[hs];refine Ac (Aj ?_);rw[Be (by decide)]
 refine Ac (Tuple_ (thn (ha _ pins s σ H _ I h) λus s1 ⟨vs,H1,I1,r1,q1⟩=>?_));obtain⟨v,w,e1,q1⟩:=q1;subst e1;obtain⟨u1,u2,rfl,rv,rw'⟩:∃ u1 u2,us=[u1,u2]∧qP v u1∧qP w u2:=by
  cases r1 with
  |cons p q =>
   cases q with
   |cons p' q' =>
    cases q';exact⟨_,_,rfl,p,p'⟩
 refine Cy ?_ (by show 2≤sizeLine;decide)
 have I2:Inv X pins σ H1 { s1 with heap:=s1.heap.push { cls:=.type "tuple",data:=.seq [u1,u2].toArray } }:=I1.kept (t':=s1.toks) λb o e=>Ah _ e
 rw[hw];refine Ac (Aj ?_);show Ao (Au X.prog X.w) X.A (do rule "assign.swapped-stores";let items ← unpackItems (.ref s1.heap.objs.size) 2 none;Ul [λv=>Vg X.env y v,λv=>Vg X.env x v] items.reverse;pure Flow.next) _ _ _
 refine Ac (Ju (Ac (unpackItems_tuple (items:=#[u1,u2]) (I.ok.hd hc) (Wq s1.heap _) λh' hx'=>?_)));have I3:=I2.kept (h':=h') (t':=s1.toks) λb o e=>hx' b o (Co (AT e)) e;show Ao _ _ (Ul [λv=>Vg X.env y v,λv=>Vg X.env x v] [u2,u1] >>= λ_=>pure Flow.next) _ _ _;refine Ac (Pb (wpAny_bindName (gG I3 hN hj (.inl hy) rw' (λs2 I4=>?_) (.inr hy))));refine Pb (wpAny_bindName (gG I4 hN hi (.inl hx) rv (λs3 I5=>Wp (Aj ?_)) (.inr hx)));rw[List.set_comm _ _ (Em hij)] at I5;exact⟨_,H1,I5,q1⟩
end
structure It where
 go:Ai→Hp→Prop
 yld:Ai→Hp→V→Hp→Prop
 stop:Ai→Hp→Prop
def wM (X:Cx)(pins:Ab (Af × Cr))(H:Hp)(b:Af):Prop:=
 H b=none∧b≠X.env.locals∧b ∉ X.fs∧(b∈X.ex∨X.s₀.heap.objs.size≤b)∧(∀ x c,X.env.cells.lookup x=Aa c→c≠b)∧∀ p∈X.pn++pins,p.1≠b
def Inv.fpOk {X:Cx}{pins:Ab (Af × Cr)}{σ:St}{H H':Hp}{s:Ag}{b:Af}(I:Inv X pins σ H s)(hb:s.heap.objs.size≤b)(hn:H' b=none):wM X pins H' b:=by
 refine⟨hn,Gp (Bn I.lt hb),I.nofs hb,.inr (Dc I.sz hb),λx c e z=>?_,λp hp z=>?_⟩
 ·obtain⟨v,q⟩:=I.cell x c e
  exact absurd (Bn q.lt (by rw[z];exact hb)) (Ef _)
 ·exact absurd (Bn (AT (I.pin p hp).1) (by rw[z];exact hb)) (Ef _)
structure Turn (P:Bg)(w:By)(K:Al)(tg:Bx)(J:It)(fp:Ab Af)(it:Af)(tn:Ai→Bk→Prop):Prop where
 mem:it∈fp
 obj:∀ i h,tn i h→∀ b∈fp,∃ o,h.get? b=Aa o∧∀ v,o.data≠.cell v
 keep:∀ i h h',tn i h→(∀ b∈fp,∀ o,h.get? b=Aa o→h'.get? b=Aa o)→tn i h'
 item:∀ (X:Cx),X.prog=P→X.w=w→X.K=K→X.calm=true→∀ (i:Ai) (pins:Ab (Af × Cr)) (s:Ag) (σ : St) (H:Hp) (E:Ad→Ag→Prop),Inv X pins σ H s→(∀ b∈fp,wM X pins H b)→tn i s.heap→J.go i H →
  Ao (Au P w) X.A (Lr (.ref it)) (λr s1=>∃ u,r=Aa u ∧
   Ao (Au P w) X.A (Jj tg (.ref it) u) (λ_ s2=>∃ x H',Inv X pins σ H' s2∧qP x u∧J.yld i H x H'∧tn (i+1) s2.heap∧∀ b∈fp,H' b=none) E s1) E s
 done:∀ (X:Cx),X.prog=P→X.w=w→X.K=K→X.calm=true→∀ (i:Ai) (pins:Ab (Af × Cr)) (s:Ag) (σ : St) (H:Hp) (E:Ad→Ag→Prop),Inv X pins σ H s→(∀ b∈fp,wM X pins H b)→tn i s.heap→J.stop i H →
  Ao (Au P w) X.A (Lr (.ref it)) (λr s1=>r=none∧Inv X pins σ H s1) E s
 self:∀ (A:Bv) (i:Ai) (s:Ag) (Q:Ad→Ag→Prop) (E:Ad→Ag→Prop),tn i s.heap→Q (.ref it) s→Ao (Au P w) A (Ny (.ref it)) Q E s
abbrev TI:=St→Hp→(It→Hp→Prop)→Prop
inductive PIE (X:Cx)(pins:Ab (Af × Cr))(σ : St)(tg:Bx)(R:It→Hp→Prop)(itv:Ad)(s2:Ag):Prop
 |mk (it:Af) (fp:Ab Af) (tn:Ai→Bk→Prop) (J:It) (H':Hp) (e:itv=.ref it) (I:Inv X pins σ H' s2) (t:Turn X.prog X.w X.K tg J fp it tn) (z:tn 0 s2.heap) (f:∀ b∈fp,wM X pins H' b) (q:R J H'):PIE X pins σ tg R itv s2
def PI (X:Cx)(tg iter:Bx)(wi:TI):Prop:=
 ∀ (pins:Ab (Af × Cr)) (s:Ag) (σ : St) (H:Hp) (R:It→Hp→Prop),Inv X pins σ H s→wi σ H R →
  Ao (Au X.prog X.w) X.A (eval iter X.env) (λv s1=>Ao (Au X.prog X.w) X.A (Ny v) (PIE X pins σ tg R) X.xe s1) X.xe s
def eG {M:Nm}{A:Bv}{E:Ad→Ag→Prop}{s:Ag}{it:Af}{u:Ad}{o:Cr}{n:Ea}{vs:Bj Ad}{Q:Sh→Ag→Prop}(ho:s.heap.get? it=Aa o)(hc:o.cls=.type n)(hd:o.data=.fields vs)
    (hn:["enumerate","zip","dict_itemiterator","dict_reverseitemiterator","odict_iterator","itertools.zip_longest","itertools.pairwise"].contains n=false) (hQ:Q () s):Ao M A (Jj tg (.ref it) u) Q E s:=by
  unfold Jj;cases tg <;> first
    |exact Aj hQ
    |(cases u <;> first
        |exact Aj hQ
        | (refine Ac (wpAny_load ho ?_)
           rw[hc,hd];show Ao M A (if (["enumerate","zip","dict_itemiterator","dict_reverseitemiterator","odict_iterator","itertools.zip_longest","itertools.pairwise"].contains n&&vs[0]? == Aa (Mo _))=true then _ else _) Q E s
           rw[Be (by intro h;rw[hn,Op] at h;cases h)]
           exact Aj hQ))
def Itl (K:Al)(a:Af):It:=
 ⟨λi H=>∃ xs x,SqL K H a xs∧xs[i]? = Aa x,λi H x H'=>H'=H∧∀ xs,SqL K H a xs→xs[i]? = Aa x,λi H=>∃ xs,SqL K H a xs∧xs.length≤i⟩
def Itt (K:Al)(a:Af):It:=
 ⟨λi H=>∃ xs x,SqT K H a xs∧xs[i]? = Aa x,λi H x H'=>H'=H∧∀ xs,SqT K H a xs→xs[i]? = Aa x,λi H=>∃ xs,SqT K H a xs∧xs.length≤i⟩
def Itr (lo:Ak)(n:Ai):It:=⟨λi _=>i<n,λi H x H'=>H'=H∧x=.int (lo+i),λi _=>n≤i⟩
def rT (a it:Af):Turn P w K tg (Itl K a) [it] it (λi h=>h.IsListIter it a i) where
 mem:=by simp
 obj:=λi h st b hb=>by
  have e:b=it:=by simpa using hb
  subst e;obtain⟨o,e,c,d⟩:=st;exact⟨o,e,λv z=>by rw[d] at z;cases z⟩
 keep:=λi h h' st k=>st.at λo e=>k it (by simp) o e
 item:=by
  intro X hP hw hK hc i pins s σ H E I hf st hg;subst hP hw hK;obtain⟨xs,x,hq,hx⟩:=hg;obtain⟨its,rv,p,hz⟩:=I.list hq;obtain⟨u,hu,ru⟩:=rv.get hx;obtain⟨f0,f1,f2,f3,f4,f5⟩:=hf it (by simp)
  refine wpAny_pyNext_list_item st p.isList (x:=u) (by simpa using hu) λh' st' sb=>?_
  have I1:Inv X pins σ H { s with heap:=h' }:=I.turned (t':=s.toks) (λb o hb e=>(sb.2 b hb).trans e) f0 f1 f3 f4 f5
  obtain⟨o,e,c,d⟩:=id st';exact⟨u,rfl,eG (s:={ s with heap:=h' }) e c d (by decide) ⟨x,H,I1,ru,⟨rfl,λys hy=>by rw[I.list_inj hy hq];exact hx⟩,st',λb hb=>(hf b hb).1⟩⟩
 done:=by
  intro X hP hw hK hc i pins s σ H E I hf st hg;subst hP hw hK;obtain⟨xs,hq,hx⟩:=hg;obtain⟨its,rv,p,hz⟩:=I.list hq;obtain⟨f0,f1,f2,f3,f4,f5⟩:=hf it (by simp)
  have hl:=rv.length;exact wpAny_pyNext_list_end (I.ok.hd hc) st p.isList (by simp;omega) λh' eb=>⟨rfl,I.turned (t':=s.toks) (λb o hb e=>eb b o hb e) f0 f1 f3 f4 f5⟩
 self:=λ_ _ _ _ _ st h=>wpAny_pyIter_listiter st h
def XG (a it:Af):Turn P w K tg (Itt K a) [it] it (λi h=>h.IsTupleIter it a i) where
 mem:=by simp
 obj:=λi h st b hb=>by
  have e:b=it:=by simpa using hb
  subst e;obtain⟨o,e,c,d⟩:=st;exact⟨o,e,λv z=>by rw[d] at z;cases z⟩
 keep:=λi h h' st k=>st.at λo e=>k it (by simp) o e
 item:=by
  intro X hP hw hK hc i pins s σ H E I hf st hg;subst hP hw hK;obtain⟨xs,x,hq,hx⟩:=hg;obtain⟨its,rv,p,hz⟩:=I.tuple hq;obtain⟨u,hu,ru⟩:=rv.get hx;obtain⟨f0,f1,f2,f3,f4,f5⟩:=hf it (by simp)
  refine wpAny_pyNext_tuple_item st (show s.heap.IsTuple a its.toArray from p) (x:=u) (by simpa using hu) λh' st' sb=>?_
  have I1:Inv X pins σ H { s with heap:=h' }:=I.turned (t':=s.toks) (λb o hb e=>(sb.2 b hb).trans e) f0 f1 f3 f4 f5
  obtain⟨o,e,c,d⟩:=id st';exact⟨u,rfl,eG (s:={ s with heap:=h' }) e c d (by decide) ⟨x,H,I1,ru,⟨rfl,λys hy=>by rw[I.tuple_inj hy hq];exact hx⟩,st',λb hb=>(hf b hb).1⟩⟩
 done:=by
  intro X hP hw hK hc i pins s σ H E I hf st hg;subst hP hw hK;obtain⟨xs,hq,hx⟩:=hg;obtain⟨its,rv,p,hz⟩:=I.tuple hq;obtain⟨f0,f1,f2,f3,f4,f5⟩:=hf it (by simp)
  have hl:=rv.length;exact wpAny_pyNext_tuple_end (I.ok.hd hc) st (show s.heap.IsTuple a its.toArray from p) (by simp;omega) λh' eb=>⟨rfl,I.turned (t':=s.toks) (λb o hb e=>eb b o hb e) f0 f1 f3 f4 f5⟩
 self:=λ_ _ _ _ _ st h=>wpAny_pyIter_tupleiter st h
def XF (it:Af)(lo:Ak)(n:Ai):Turn P w K tg (Itr lo n) [it] it (λi h=>IsRangeIter h it (lo+(i:Ai)*1) ((n:Ak)-(i:Ai)) 1) where
 mem:=by simp
 obj:=λi h st b hb=>by
  have e:b=it:=by simpa using hb
  subst e;exact⟨_,st,λv z=>by
   have z':Data.fields _=Data.cell v:=z;cases z'⟩
 keep:=λi h h' st k=>k it (by simp) _ st
 item:=by
  intro X hP hw hK hc i pins s σ H E I hf st hg;subst hP hw hK;obtain⟨f0,f1,f2,f3,f4,f5⟩:=hf it (by simp)
  have W:=Walks.range (prog:=X.prog) (w:=X.w) (I.ok.hd hc) it lo 1 n;refine W.item i s _ _ hg st λv h' tk hv st' kk=>?_;obtain⟨t,rfl⟩:=hv;have I1:Inv X pins σ H { s with heap:=h',toks:=tk }:=I.turned (λb o hb e=>kk b o (by simpa using hb) e) f0 f1 f3 f4 f5
  refine⟨_,rfl,eG (s:={ s with heap:=h',toks:=tk }) (n:="range_iterator") st' rfl rfl (by decide) ⟨.int (lo+i),H,I1,⟨t,?_⟩,⟨rfl,rfl⟩,st',λb hb=>(hf b hb).1⟩⟩
  rw[Int.mul_one]
 done:=by
  intro X hP hw hK hc i pins s σ H E I hf st hg;subst hP hw hK;obtain⟨f0,f1,f2,f3,f4,f5⟩:=hf it (by simp)
  exact wpAny_pyNext_range_end (I.ok.hd hc) st (by have:n≤i:=hg;omega) λh' eb=>⟨rfl,I.turned (t':=s.toks) (λb o hb e=>eb b o hb e) f0 f1 f3 f4 f5⟩
 self:=λ_ _ _ _ _ st h=>wpAny_pyIter_rangeiter st h
end _L
namespace _L
open PySem PySem.Spec PyProof.Rows
variable {pins:Ab (Af × Cr)}{fp:Ab Af}{s:Ag}{H:Hp}{σ:St}
section
variable {X:Cx}{tg:Bx}
def aW {R:It→Hp→Prop}{E:Ad→Ag→Prop}{lo hi:Ak}{t u v:Pj}{tk:Ai}(I:Inv X pins σ H s)(h1 : -(2 ^ 62)≤lo)(h2:lo<2 ^ 62)(h3 : -(2 ^ 62)≤hi)(h4:hi<2 ^ 62)
  (q:R (Itr lo (hi-lo).toNat) H):Ao (Au X.prog X.w) X.A (Ny (.ref s.heap.objs.size)) (PIE X pins σ tg R) E { s with heap:=s.heap.push { cls:=.type "range",data:=.fields #[.int lo t,.int hi u,.int 1 v] },toks:=tk }:=by
 refine wpAny_pyIter_range (IsRange.new ..) (small_one h1 h2 h3 h4) ?_;have I1:Inv X pins σ H { s with heap:=s.heap.push { cls:=.type "range",data:=.fields #[.int lo t,.int hi u,.int 1 v] },toks:=tk }:=I.kept λb o e=>Ah _ e
 refine⟨(s.heap.push { cls:=.type "range",data:=.fields #[.int lo t,.int hi u,.int 1 v] }).objs.size,[(s.heap.push { cls:=.type "range",data:=.fields #[.int lo t,.int hi u,.int 1 v] }).objs.size],_,_,H,rfl,
  I1.kept (t':=tk) λb o e=>Ah _ e,XF _ lo (hi-lo).toNat,?_,λb hb=>?_,q⟩
 ·have e1:lo+((0:Ai):Ak)*1=lo:=by simp
  have e2:(((hi-lo).toNat:Ai):Ak)-((0:Ai):Ak)=v4 lo hi 1:=by rw[rangeSize_one];split <;> omega
  show IsRangeIter _ _ (lo+((0:Ai):Ak)*1) ((((hi-lo).toNat:Ai):Ak)-((0:Ai):Ak)) 1;rw[e1,e2];exact Ba _ rfl
 ·have e:b=(s.heap.push { cls:=.type "range",data:=.fields #[.int lo t,.int hi u,.int 1 v] }).objs.size:=by simpa using hb
  subst e;exact I1.fpOk (Aw _) (I1.hok.fresh (Aw _))
def qAK (wi:TI)(g:TG)(tb:TS):TS:=λD σ H=>wi σ H λJ H1=>∃ W:Ai→Ai→St→Hp→Prop,(∃ m,W 0 m σ H1)∧∀ i m σ H,W i m σ H →
 (J.stop i H∧D.nx σ H)∨(J.go i H∧∃ N:St→Hp→Prop,(∀ σ' H',N σ' H'→∃ m',m'<m∧W (i+1) m' σ' H')∧∀ x H',J.yld i H x H'→g x σ H' λσ2 H2=>tb { D with nx:=N,ct:=N,bk:=D.nx } σ2 H2)
def j0 (fp:Ab Af)(h:Bk):Ab (Af × Cr):=fp.filterMap λb=>(h.get? b).map λo=>(b,o)
def kG {h:Bk}{b:Af}{o:Cr}(hb:b∈fp)(e:h.get? b=Aa o):(b,o)∈j0 fp h:=Jg.mpr ⟨b,hb,by rw[e];rfl⟩
def rD {h:Bk}{p:Af × Cr}(hp:p∈j0 fp h):p.1∈fp∧h.get? p.1=Aa p.2:=by
 obtain⟨b,hb,e⟩:=Jg.mp hp;cases q:h.get? b with
 |none=>rw[q] at e;cases e
 |some o =>
  rw[q] at e;have e':(b,o)=p:=Ct e;subst e';exact⟨hb,q⟩
def Inv.pinned (I:Inv X pins σ H s)(hf:∀ b∈fp,wM X pins H b)(ho:∀ b∈fp,∃ o,s.heap.get? b=Aa o∧∀ v,o.data≠.cell v):Inv X (pins++j0 fp s.heap) σ H s:=
 I.pins_of λp hp=>(Cq.mp hp).elim (λz=>I.pin p (Ch _ z)) λz=>by
  obtain⟨hb,e⟩:=rD z;obtain⟨f0,f1,f2,_⟩:=hf p.1 hb;obtain⟨o,e',d⟩:=ho p.1 hb;rw[e] at e';cases e';exact⟨e,f0,f1,f2,d⟩
def Inv.unpinned {pl:Ab (Af × Cr)}(I:Inv X (pins++pl) σ H s):Inv X pins σ H s:=I.pins_of λp hp=>I.pin p (Ch _ (Do _ hp))
inductive ForI (X:Cx)(pins:Ab (Af × Cr))(fp:Ab Af)(tn:Ai→Bk→Prop)(W:Ai→Ai→St→Hp→Prop)(n:Ai)(s':Ag):Prop
 |mk (i:Ai) (σ' : St) (H':Hp) (I:Inv X pins σ' H' s') (t:tn i s'.heap) (f:∀ b∈fp,H' b=none) (w:W i n σ' H'):ForI X pins fp tn W n s'
def RY {iter:Bx}{body:Ab Fd}{wi:TI}{g:TG}{tb:TS}{pos:Fa}(hp:Ti (Au X.prog X.w) X.A X.env X.xe)(hc:X.calm=true)(hi:PI X tg iter wi)(hg:PG X tg g)(hb:PSs X body tb)
  (hs:∀ x,Fo iter X.env x=pure x:=by intro _;rfl):PS X (.For tg iter body [] pos) (qAK wi g tb):=by
 intro pins s σ H D I h;refine wpAny_For (thn (hi pins s σ H _ I h) λv s1 h1=>thn h1 λitv s2 h2=>?_) hs;obtain⟨it,fp,tn,J,H2,e,I2,T,st2,f2,W,⟨m0,w0⟩,turn⟩:=h2;subst e;have stat:∀ {H':Hp},(∀ b∈fp,H' b=none)→∀ b∈fp,wM X pins H' b:=λhn b hb=>⟨hn b hb,(f2 b hb).2⟩;refine codeAny_forLoop_any (ForI X pins fp tn W) ?_ m0 ⟨0,σ,H2,I2,st2,λb hb=>(f2 b hb).1,w0⟩;rintro n s3 ⟨i,σ3,H3,I3,st3,fr3,w3⟩;rcases turn i n σ3 H3 w3 with⟨stop,qn⟩|⟨go,N,hN,step⟩
 ·refine Kw hp (thn (T.done X rfl rfl rfl hc i pins s3 σ3 H3 X.xe I3 (stat fr3) st3 stop) λr s4 ⟨hr,I4⟩=>?_)
  subst hr;exact Nn ⟨σ3,H3,I4,qn⟩
 ·refine Kw hp (thn (T.item X rfl rfl rfl hc i pins s3 σ3 H3 X.xe I3 (stat fr3) st3 go) λr s4 ⟨u,hr,h4⟩=>?_)
  subst hr;refine Kw hp (thn h4 λ_ s5 ⟨x,H5,I5,r5,y5,st5,fr5⟩=>?_);have I5':=I5.pinned (stat fr5) (T.obj _ _ st5);refine Kw hp (thn (hg _ s5 σ3 H5 x u _ I5' r5 (step x H5 y5)) λ_ s6 ⟨σ6,H6,I6,q6⟩=>?_);refine Kw hp (thn (hb _ s6 σ6 H6 _ I6 q6) λf s7 q7=>?_);have again:∀ {σ7:St} {H7:Hp},Inv X (pins++j0 fp s5.heap) σ7 H7 s7→N σ7 H7→∃ m,m<n∧ForI X pins fp tn W m s7:=λ{σ7 H7} I7 n7=>by
   obtain⟨m',hm,w7⟩:=hN σ7 H7 n7;refine⟨m',hm,i+1,σ7,H7,I7.unpinned,T.keep _ _ _ st5 λb hb o e=>(I7.pin (b,o) (Ch _ (Ch _ (kG hb e)))).1,λb hb=>?_,w7⟩;obtain⟨o,e,d⟩:=T.obj _ _ st5 b hb;exact(I7.pin (b,o) (Ch _ (Ch _ (kG hb e)))).2.1
  cases f with
  |next=>obtain⟨σ7,H7,I7,n7⟩:=q7;exact again I7 n7
  |cont=>obtain⟨σ7,H7,I7,n7⟩:=q7;exact again I7 n7
  |brk=>obtain⟨σ7,H7,I7,q7⟩:=q7;exact⟨σ7,H7,I7.unpinned,q7⟩
  |ret v=>obtain⟨x7,σ7,H7,I7,r7,q7⟩:=q7;exact⟨x7,σ7,H7,I7.unpinned,r7,q7⟩
end
end _L
namespace _L
open PySem PySem.Spec PyProof.Rows
variable {us:Ab Ad}{f:Ad→Ad→Nd Ad}{g:Ak→Ak→Ak}
abbrev R2:=V→V→Hp→VK→Prop
def OpR (X:Cx)(f:Ad→Ad→Nd Ad)(r:R2):Prop:=
 ∀ (pins:Ab (Af × Cr)) (s:Ag) (σ : St) (H:Hp) (x y:V) (v u:Ad) (Q:VK),Inv X pins σ H s→qP x v→qP y u→r x y H Q →
  Ao (Au X.prog X.w) X.A (f v u) (EP X pins σ Q) X.xe s
def UnR (X:Cx)(f:Ad→Nd Ad)(r:V→Hp→VK→Prop):Prop:=
 ∀ (pins:Ab (Af × Cr)) (s:Ag) (σ : St) (H:Hp) (x:V) (v:Ad) (Q:VK),Inv X pins σ H s→qP x v→r x H Q →
  Ao (Au X.prog X.w) X.A (f v) (EP X pins σ Q) X.xe s
def gI (X:Cx)(f:Ad)(r:Ab V→Hp→VK→Prop):Prop:=
 ∀ (pins:Ab (Af × Cr)) (s:Ag) (σ : St) (H:Hp) (xs:Ab V) (us:Ab Ad) (Q:VK),Inv X pins σ H s→qT xs us→r xs H Q →
  Ao (Au X.prog X.w) X.A (call f us) (EP X pins σ Q) X.xe s
def O8 (X:Cx)(r:V→Hp→(Aq→Hp→Prop)→Prop):Prop:=
 ∀ (pins:Ab (Af × Cr)) (s:Ag) (σ : St) (H:Hp) (x:V) (v:Ad) (Q:Aq→Hp→Prop),Inv X pins σ H s→qP x v→r x H Q →
  Ao (Au X.prog X.w) X.A (truthy v) (TP X pins σ Q) X.xe s
def tOp (r:R2)(ta tb:TE):TE:=λσ H Q=>ta σ H λx H1=>tb σ H1 λy H2=>r x y H2 Q
def rI (C:Ak→Ak→Prop)(g:Ak→Ak→V):R2:=λx y H Q=>∃ i j,x=.int i∧y=.int j∧C i j∧Q (g i j) H
def rI0 (g:Ak→Ak→V):R2:=λx y H Q=>∃ i j,x=.int i∧y=.int j∧Q (g i j) H
def rU (g:Ak→V):V→Hp→VK→Prop:=λx H Q=>∃ i,x=.int i∧Q (g i) H
section
variable {X:Cx}{a b c:Bx}{ta tb tc:TE}{pos:Fa}
def OD (ha:PE X a ta)(hb:PE X b tb){pins:Ab (Af × Cr)}{s:Ag}{σ : St}{H:Hp}{R:V→V→Hp→Prop}(I:Inv X pins σ H s)
  (h:ta σ H λx H1=>tb σ H1 λy H2=>R x y H2) {Q:Ad→Ag→Prop} {f:Ad→Ad→Nd Ad}
  (hf:∀ v u s2 x y H2,Inv X pins σ H2 s2→qP x v→qP y u→R x y H2→Ao (Au X.prog X.w) X.A (f v u) Q X.xe s2) :
  Ao (Au X.prog X.w) X.A (eval a X.env) (λv s₁=>Ao (Au X.prog X.w) X.A (eval b X.env) (λu s₂=>Ao (Au X.prog X.w) X.A (f v u) Q X.xe s₂) X.xe s₁) X.xe s:=by
 refine thn (ha pins s σ H _ I h) λv s1 ⟨x,H1,I1,r1,q1⟩=>?_;refine thn (hb pins s1 σ H1 _ I1 q1) λu s2 ⟨y,H2,I2,r2,q2⟩=>?_;exact hf v u s2 x y H2 I2 r1 r2 q2
def opI {f:Ad→Ad→Nd Ad}{C:Ak→Ak→Prop}
  (rule:∀ (i j:Ak) (t u:Pj) (s:Ag) (Q:Ad→Ag→Prop) (E:Ad→Ag→Prop),C i j→Q (.int (g i j) s.toks) { s with toks:=s.toks+1 } → Ao (Au X.prog X.w) X.A (f (.int i t) (.int j u)) Q E s) :
  OpR X f (rI C λi j=>.int (g i j)):=by
 intro pins s σ H x y v u Q I rx ry h;obtain⟨i,j,rfl,rfl,hc,q⟩:=h;obtain⟨t,rfl⟩:=rx;obtain⟨t',rfl⟩:=ry;exact rule i j t t' s _ _ hc ⟨.int (g i j),H,I.tok _,⟨_,rfl⟩,q⟩
def RE {f:Ad→Ad→Nd Ad}
  (rule:∀ (i j:Ak) (t u:Pj) (s:Ag) (Q:Ad→Ag→Prop) (E:Ad→Ag→Prop),Q (.int (g i j) s.toks) { s with toks:=s.toks+1 } → Ao (Au X.prog X.w) X.A (f (.int i t) (.int j u)) Q E s) :
  OpR X f (rI0 λi j=>.int (g i j)):=by
 intro pins s σ H x y v u Q I rx ry h;obtain⟨i,j,rfl,rfl,q⟩:=h;obtain⟨t,rfl⟩:=rx;obtain⟨t',rfl⟩:=ry;exact rule i j t t' s _ _ ⟨.int (g i j),H,I.tok _,⟨_,rfl⟩,q⟩
def ZS {g:Ak→Ak→Aq}
  (rule:∀ (i j:Ak) (t u:Pj) (s:Ag) (Q:Ad→Ag→Prop) (E:Ad→Ag→Prop),Q (.bool (g i j)) s→Ao (Au X.prog X.w) X.A (f (.int i t) (.int j u)) Q E s) :
  OpR X f (rI0 λi j=>.bl (g i j)):=by
 intro pins s σ H x y v u Q I rx ry h;obtain⟨i,j,rfl,rfl,q⟩:=h;obtain⟨t,rfl⟩:=rx;obtain⟨t',rfl⟩:=ry;exact rule i j t t' s _ _ ⟨.bl (g i j),H,I,rfl,q⟩
def O6 (i j:Ak):Prop:=0<j∧j<1073741824
def O7 (i j:Ak):Prop:=0≤j∧j≤1000000∧i.natAbs<2 ^ 64
def U2 (i j:Ak):Prop:=(-(2 ^ 64)<i∧i<2 ^ 64)∨(-(2 ^ 64)<j∧j<2 ^ 64)
def U2.ok {i j:Ak}(h:U2 i j):IntMulOk i j:=by
 rcases h with⟨h1,h2⟩|⟨h1,h2⟩
 ·exact .of_left (intBits_le_64 h1 h2)
 ·exact .of_right (intBits_le_64 h1 h2)
def RF:OpR X (Eh .Add) (rI0 λi j=>.int (i+j)):=RE λ_ _ _ _ _ _ _ q=>add_int q
def RK:OpR X (Eh .Sub) (rI0 λi j=>.int (i-j)):=RE λ_ _ _ _ _ _ _ q=>sub_int q
def RI:OpR X (Eh .Mult) (rI U2 λi j=>.int (i*j)):=opI λ_ _ _ _ _ _ _ hc q=>mul_int q hc.ok
def MH:OpR X (Eh .FloorDiv) (rI O6 λi j=>.int (i/j)):=opI λi j _ _ _ _ _ hc q=>by
 have h1:(0:Ak)<j:=hc.1;have h2:j<1073741824:=hc.2;exact floordiv_int om (by rw[Int.fdiv_eq_ediv_of_nonneg i om];exact q) (.inl (PyProof.noPylong_small om))
def RH:OpR X (Eh .Mod) (rI (λ_ j=>0<j) λi j=>.int (i % j)):=opI λi j _ _ _ _ _ hc q=>by
 have h1:(0:Ak)<j:=hc;exact mod_int' om (by rw[Int.fmod_eq_emod_of_nonneg i om];exact q)
def RJ:OpR X (Eh .Pow) (rI O7 λi j=>.int (i ^ j.toNat)):=opI λ_ _ _ _ _ _ _ hc q=>pow_int_small hc.1 hc.2.1 hc.2.2 q
def unI {f:Ad→Nd Ad}{g:Ak→Ak}
  (rule:∀ (i:Ak) (t:Pj) (s:Ag) (Q:Ad→Ag→Prop) (E:Ad→Ag→Prop),Q (.int (g i) s.toks) { s with toks:=s.toks+1 } → Ao (Au X.prog X.w) X.A (f (.int i t)) Q E s) :
  UnR X f (rU λi=>.int (g i)):=by
 intro pins s σ H x v Q I rx h;obtain⟨i,rfl,q⟩:=h;obtain⟨t,rfl⟩:=rx;exact rule i t s _ _ ⟨.int (g i),H,I.tok _,⟨_,rfl⟩,q⟩
def HF:UnR X (Xp .USub) (rU λi=>.int (-i)):=unI λ_ _ _ _ _ q=>neg_int q
end
section
variable {X:Cx}{a b c:Bx}{ta tb tc:TE}{pos:Fa}
def WM {pins:Ab (Af × Cr)}{σ:St}{H:Hp}{s:Ag}{Q:VK}{k k':Aq}(I:Inv X pins σ H s)(q:Q (.bl k) H)(e:k=k'):EP X pins σ Q (.bool k') s:=by
 subst e;exact⟨.bl k,H,I,rfl,q⟩
def AF:OpR X (Cc .Lt) (rI0 λi j=>.bl (decide (i<j))):=ZS λ_ _ _ _ _ _ _ q=>lt_int q
def AE:OpR X (Cc .LtE) (rI0 λi j=>.bl (decide (i≤j))):=ZS λ_ _ _ _ _ _ _ q=>le_int q
def AD:OpR X (Cc .Gt) (rI0 λi j=>.bl (decide (j<i))):=ZS λ_ _ _ _ _ _ _ q=>gt_int q
def AC:OpR X (Cc .GtE) (rI0 λi j=>.bl (decide (j≤i))):=ZS λ_ _ _ _ _ _ _ q=>ge_int q
def RG:OpR X (Cc .Is) (λx y H Q=>y=.non∧Q (.bl (decide (x=.non))) H):=by
 intro pins s σ H x y v u Q I rx ry h;obtain⟨rfl,q⟩:=h;cases ry;refine is_none_gen (WM I q ?_);cases x <;> first
  |(cases rx;rfl)
  |(obtain⟨t,rfl⟩:=rx;rfl)
def MI:OpR X (Cc .IsNot) (λx y H Q=>y=.non∧Q (.bl (!decide (x=.non))) H):=by
 intro pins s σ H x y v u Q I rx ry h;obtain⟨rfl,q⟩:=h;cases ry;refine isnot_none_gen (WM I q ?_);cases x <;> first
  |(cases rx;rfl)
  |(obtain⟨t,rfl⟩:=rx;rfl)
def OpR.or {r r':R2}(h:OpR X f r)(h':OpR X f r'):OpR X f (λx y H Q=>r x y H Q∨r' x y H Q):=by
 intro pins s σ H x y v u Q I rx ry q;rcases q with q|q
 ·exact h pins s σ H x y v u Q I rx ry q
 ·exact h' pins s σ H x y v u Q I rx ry q
def pL (b:Bx){op:Tj}(h:op≠.In:=by decide)(h2:op≠.NotIn:=by decide):Kp op b=false:=by
 have e1:(op == CmpOp.In)=false:=by cases op <;> first|rfl|exact absurd rfl h
 have e2:(op == CmpOp.NotIn)=false:=by cases op <;> first|rfl|exact absurd rfl h2
 cases b <;> simp[Kp,e1,e2]
def QX (K:Al)(x:V)(H:Hp)(k:Aq):Prop:=
 match x with
 |.non=>k=false
 |.bl b=>k=b
 |.int i=>k=(i != 0)
 |.str y=>y.length≤sizeLine∧k=((y.length:Ak) != 0)
 |.byt y=>y.size≤sizeLine∧k=((y.size:Ak) != 0)
 |.ref p=>(∃ xs,SqL K H p xs∧k=!xs.isEmpty)∨(∃ xs,SqT K H p xs∧k=!xs.isEmpty)∨∃ kvs,H p=Aa (.dK kvs)∧k=!kvs.isEmpty
 |_=>Fe
def ZL {κ:Type}{kvs:Ab (κ × V)}{vs:Ab (κ × Ad)}(r:KV kvs vs):(!vs.isEmpty)=!kvs.isEmpty:=by
 cases r <;> rfl
def nO {xs:Ab V}{its:Ab Ad}(r:qT xs its):(!its.toArray.isEmpty)=!xs.isEmpty:=by
 cases r <;> simp
def fJ:(sizeLine:Ai)<2 ^ 63:=by rw[Ep];decide
def fX:O8 X (λx H Q=>∃ k,QX X.K x H k∧Q k H):=by
 intro pins s σ H x v Q I rx h;obtain⟨k,e,q⟩:=h;have hl:=fJ;have hs:sizeLine=16777216:=Ep;cases x with
 |non =>
  cases rx;have e':k=false:=e;subst e';exact truthy_none ⟨H,I,q⟩
 |bl b =>
  cases rx;have e':k=b:=e;subst e';exact Pu ⟨H,I,q⟩
 |int i =>
  obtain⟨t,rfl⟩:=rx;have e':k=(i != 0):=e;subst e';exact PySem.P.truthy_int ⟨H,I,q⟩
 |str y =>
  obtain⟨t,rfl⟩:=rx;obtain⟨hy,e'⟩:y.length≤sizeLine∧k=((y.length:Ak) != 0):=e;subst e';exact PySem.P.truthy_str om ⟨H,I.tok _,q⟩
 |byt y =>
  obtain⟨t,rfl⟩:=rx;obtain⟨hy,e'⟩:y.size≤sizeLine∧k=((y.size:Ak) != 0):=e;subst e';exact PySem.W.truthy_bytes om ⟨H,I.tok _,q⟩
 |ref p =>
  cases rx;have e':(∃ xs,SqL X.K H p xs∧k=!xs.isEmpty)∨(∃ xs,SqT X.K H p xs∧k=!xs.isEmpty)∨∃ kvs,H p=Aa (.dK kvs)∧k=!kvs.isEmpty:=e;rcases e' with⟨xs,hx,e'⟩|⟨xs,hx,e'⟩|⟨kvs,hx,e'⟩
  ·subst e'
   obtain⟨its,r,pl,hz⟩:=I.list hx;have hlen:=r.length;exact wpAny_truthy_list pl.isList (by simp only[Ax];omega) ⟨H,I.tok _,by rw[nO r];exact q⟩
  ·subst e'
   obtain⟨its,r,pl,hz⟩:=I.tuple hx;have hlen:=r.length;exact truthy_tuple pl (by simp only[Ax];omega) ⟨H,I.tok _,by rw[nO r];exact q⟩
  ·subst e'
   obtain⟨hz,hS,vs,r,m⟩:kvs.length≤sizeLine∧(p == Hr)=false∧∃ vs,KV kvs vs∧s.heap.DictOf (xF X.prog X.w) p vs:=I.hok p _ hx;have hlen:kvs.length=vs.length:=Paired.length r;exact wpAny_truthy_dict hS m om ⟨H,I.tok _,by rw[ZL r];exact q⟩
 |_=>exact(show Fe from e).elim
def ZT:OpR X (Eh .Add) (λx y H Q=>∃ i j,x=.str i∧y=.str j∧i.length+j.length≤sizeLine∧Q (.str (i++j)) H):=by
 intro pins s σ H x y v u Q I rx ry h;obtain⟨i,j,rfl,rfl,hz,q⟩:=h;obtain⟨t,rfl⟩:=rx;obtain⟨t',rfl⟩:=ry;exact add_str (λt' tk=>⟨.str (i++j),H,I.tok _,⟨_,rfl⟩,q⟩) hz
def gV {x:V}(r:qT [x] us):∃ u,us=[u]∧qP x u:=by
 cases r with
 |cons r1 r2=>cases r2;exact⟨_,rfl,r1⟩
def XI {x y:V}(r:qT [x,y] us):∃ u w',us=[u,w']∧qP x u∧qP y w':=by
 cases r with
 |cons r1 r2 =>
  cases r2 with
  |cons r3 r4=>cases r4;exact⟨_,_,rfl,r1,r3⟩
def sN:gI X (.type "int") (λxs H Q=>(∃ i,xs=[.int i]∧Q (.int i) H)∨∃ k,xs=[.bl k]∧Q (.int (if k then 1 else 0)) H):=by
 intro pins s σ H xs us Q I r h;rcases h with⟨i,rfl,q⟩|⟨k,rfl,q⟩
 ·obtain⟨u,rfl,t,rfl⟩:=gV r
  exact call_int_int ⟨.int i,H,I,⟨_,rfl⟩,q⟩
 ·obtain⟨u,rfl,r1⟩:=gV r
  cases r1;exact call_int_bool ⟨.int (if k then 1 else 0),H,I.tok _,⟨_,rfl⟩,q⟩
def NO (K:Al)(x:V)(H:Hp)(n:Ai):Prop:=
 match x with
 |.str y=>y.length≤sizeLine∧n=y.length
 |.byt y=>y.size≤sizeLine∧n=y.size
 |.ref p=>(∃ xs,SqL K H p xs∧n=xs.length)∨∃ xs,SqT K H p xs∧n=xs.length
 |_=>Fe
def UB:gI X (.builtin "len") (λxs H Q=>∃ x n,xs=[x]∧NO X.K x H n∧Q (.int n) H):=by
 intro pins s σ H xs us Q I r h;obtain⟨x,n,rfl,e,q⟩:=h;obtain⟨u,rfl,rx⟩:=gV r;have hl:=fJ;have hs:sizeLine=16777216:=Ep;cases x with
 |str y =>
  obtain⟨t,rfl⟩:=rx;obtain⟨hy,e'⟩:y.length≤sizeLine∧n=y.length:=e;subst e';exact len_str om ⟨.int _,H,I.tok _,⟨_,rfl⟩,q⟩
 |byt y =>
  obtain⟨t,rfl⟩:=rx;obtain⟨hy,e'⟩:y.size≤sizeLine∧n=y.size:=e;subst e';exact PySem.W.len_bytes om ⟨.int _,H,I.tok _,⟨_,rfl⟩,q⟩
 |ref p =>
  cases rx;have e':(∃ xs,SqL X.K H p xs∧n=xs.length)∨∃ xs,SqT X.K H p xs∧n=xs.length:=e;rcases e' with⟨xs,hx,e'⟩|⟨xs,hx,e'⟩
  ·subst e'
   obtain⟨its,r',pl,hz⟩:=I.list hx;have hlen:=r'.length;exact Calls.call_len_list pl.isList (by simp only[Ax];omega) ⟨.int xs.length,H,I.tok _,⟨_,by simp only[Ax];rw[hlen]⟩,q⟩
  ·subst e'
   obtain⟨its,r',pl,hz⟩:=I.tuple hx;have hlen:=r'.length;exact len_tuple pl (by simp only[Ax];omega) ⟨.int xs.length,H,I.tok _,⟨_,by simp only[Ax];rw[hlen]⟩,q⟩
 |_=>exact(show Fe from e).elim
end
end _L
namespace _L
open PySem PySem.Spec PyProof.Rows
variable {mA:As→Am Ad}
structure ObjM (h:Bk)(x dx C:Af)(mA:As→Am Ad):Prop where
 obj:h.get? x=Aa (Sg C dx)
 ns:h.Ns1 dx mA
 ne:dx≠x
set_option tactic.hygienic true in
def Y5 {h:Bk}{dx:Af}(n:h.Ns1 dx mA):∃ od,h.get? dx=Aa od∧∀ name,Tx name od=Aa (mA name):=by
 obtain⟨o,es,ep,ho,hd,hk,_,hm⟩:=n;refine⟨o,ho,λname=>?_⟩;have e:=hm name;unfold nsFind findBy at e;rw[← Array.find?_toList] at e;unfold Tx;rw[hd];dsimp only
 split
 ·rename_i y q
  rw[q] at e;exact congrArg Aa e
 ·rename_i q
  rw[q] at e;have a:es.toList.any (·.refKey)=false:=by
   rw[List.any_eq_false];intro y hy;obtain⟨z,t,hkey⟩:=hk y (Nh.mp hy);simp[DictEntry.refKey,hkey]
  have a':¬ es.toList.any (·.refKey)=true:=by rw[a];exact Fy
  rw[Be a'];exact congrArg Aa e
def ObjM.look {h:Bk}{x dx C:Af}(I:ObjM h x dx C mA):∃ od,PySem.W.InstAt h x (Sg C dx) C (Aa od)∧∀ name,Tx name od=Aa (mA name):=
 let ⟨od,ho,hl⟩:=Y5 I.ns
 ⟨od,⟨I.obj,rfl,rfl,ho⟩,hl⟩
def j8.some_of {v:V}{o:Am Ad}(r:j8 (Aa v) o):∃ u,o=Aa u∧qP v u:=by
 cases o with
 |none=>exact(show Fe from r).elim
 |some u=>exact⟨u,rfl,r⟩
section
variable {P:Bg}{w:By}{H H':Hp}{h h':Bk}{a C dx:Af}{fs fs':Ab (As × V)}
def FP (hok:HOk P w H h)(e:H a=Aa (.ins C dx fs)):∃ mA,ObjM h a dx C mA∧(∀ f,j8 (fs.lookup f) (mA f))∧u8 mA (fs.map (·.1))∧fs.length≤1000∧H dx=Aa (.own a):=by
 obtain⟨d,z,ne,ob,mA,n,r,q⟩:=(show zV P w H h a (.ins C dx fs) from hok a _ e)
 exact⟨mA,⟨ob,n,ne⟩,r,q,z,d⟩
end
structure Cls (K:Al)(C:Af):Prop where
 pg:Xq K C Str.empty=true
 hd:PySem.W.hasDictIn K C=true
 po:PySem.W.plainOver K C=true
 sa:Ls K (.ref C) "__setattr__" = Aa (Aa (.builtin "object.__setattr__"))
def Cls.get {K:Al}{C:Af}(c:Cls K C)(f:As):Xq K C f=true:=c.pg
section
variable {X:Cx}{pins:Ab (Af × Cr)}{σ : St}{H:Hp}{s:Ag}{A:Bv}{E:Ad→Ag→Prop}{Q:Ad→Ag→Prop}{c:Ad}{b:Aq}
inductive TyOf (K:Al)(H:Hp):V→Ad→Prop where
 |non:TyOf K H .non (.type "NoneType")
 |bl (x:Aq):TyOf K H (.bl x) (.type "bool")
 |int (i:Ak):TyOf K H (.int i) (.type "int")
 |str (x:As):TyOf K H (.str x) (.type "str")
 |flt (x:UInt64):TyOf K H (.flt x) (.type "float")
 |lst {a:Af} {xs:Ab V} (e:H a=Aa (.lst xs)):TyOf K H (.ref a) (.type "list")
 |frz {a:Af} {o:Cr} {xs:Ab V} (e:H a=Aa (.frz o (.lst xs))):TyOf K H (.ref a) (.type "list")
 |tup {a:Af} {xs:Ab V} (e:H a=Aa (.tup xs)):TyOf K H (.ref a) (.type "tuple")
 |dK {a:Af} {kvs:Ab (Key × V)} (e:H a=Aa (.dK kvs)):TyOf K H (.ref a) (.type "dict")
 |dT {a:Af} {kvs:Ab (Ab Key × V)} (e:H a=Aa (.dT kvs)):TyOf K H (.ref a) (.type "dict")
 |ins {a C dx:Af} {fs:Ab (As × V)} (e:H a=Aa (.ins C dx fs)) (cl:Cls K C) (ha:Ls K (.ref C) "__class__" = Aa (Aa (.builtin "object.__class__")))
   (hn:Wr K (.builtin "object.__class__") "__get__" = Aa (Aa (.builtin "getset_descriptor.__get__"))) (htk:Yl K (.builtin "object.__class__")=Aa true)
   (hm:Um K C (.type "object")=Aa true):TyOf K H (.ref a) (.ref C)
def WW {x:V}{u t:Ad}(I:Inv X pins σ H s)(rx:qP x u)(ty:TyOf X.K H x t)(e:Kc X.K t c=Aa b)(h:∀ tk,Q (.bool b) { s with toks:=tk }) :
  Ao (Au X.prog X.w) A (call (.builtin "isinstance") [u,c]) Q E s:=by
 cases ty with
 |non=>cases (show u=Ff from rx);exact Ee PySem.W.kitx_none I.kIn Ig e (λz=>nomatch z) h
 |bl y=>cases (show u=Es y from rx);exact Ee PySem.W.kitx_bool I.kIn Ig e (λz=>nomatch z) h
 |int i=>obtain⟨t,q⟩:=(show ∃ t,u=Pq i t from rx);cases q;exact Ee PySem.W.kitx_int I.kIn Ig e (λz=>nomatch z) h
 |str y=>obtain⟨t,q⟩:=(show ∃ t,u=Wn y t from rx);cases q;exact Ee PySem.W.kitx_str I.kIn Ig e (λz=>nomatch z) h
 |flt y=>obtain⟨t,q⟩:=(show ∃ t,u=Value.float y t from rx);cases q;exact Ee PySem.W.kitx_float I.kIn Ig e (λz=>nomatch z) h
 |@lst a xs ea =>
  cases (show u=Cg a from rx)
  obtain⟨_,_,n,_,h1⟩:=(show zV X.prog X.w H s.heap a (.lst xs) from I.hok a _ ea)
  exact Ee Pv I.kIn ⟨_,h1,rfl⟩ e (λz=>nomatch z) h
 |@frz a ob xs ea =>
  cases (show u=Cg a from rx)
  obtain⟨_,_,_,n,_,h1⟩:=(show zV X.prog X.w H s.heap a (.frz ob (.lst xs)) from I.hok a _ ea)
  exact Ee Pv I.kIn ⟨_,h1,rfl⟩ e (λz=>nomatch z) h
 |@tup a xs ea =>
  cases (show u=Cg a from rx)
  obtain⟨_,_,_,p⟩:=(show zV X.prog X.w H s.heap a (.tup xs) from I.hok a _ ea)
  obtain⟨o,h1,h2,_⟩:=p;exact Ee Vl I.kIn ⟨o,h1,h2⟩ e (λz=>nomatch z) h
 |@dK a kvs ea =>
  cases (show u=Cg a from rx)
  obtain⟨_,_,vs,_,p⟩:=(show zV X.prog X.w H s.heap a (.dK kvs) from I.hok a _ ea)
  obtain⟨o,es,ep,h1,h2,_⟩:=p;exact Ee Ws I.kIn ⟨o,h1,h2.1⟩ e (λz=>nomatch z) h
 |@dT a kvs ea =>
  cases (show u=Cg a from rx)
  obtain⟨_,_,xs,_,o,es,ep,h1,h2,_⟩:=(show zV X.prog X.w H s.heap a (.dT kvs) from I.hok a _ ea)
  exact Ee Ws I.kIn ⟨o,h1,h2.1⟩ e (λz=>nomatch z) h
 |@ins a C dx fs ea cl ha hn htk hm =>
  cases (show u=Cg a from rx)
  obtain⟨mA,O,_⟩:=FP I.hok ea;obtain⟨od,J,_⟩:=O.look;exact Ee (PySem.W.kitx_own (cl.get _) cl.hd ha hn htk hm) I.kIn J e (λz=>nomatch z) h
end
end _L
namespace _L
open PySem PySem.Spec PyProof.Rows
variable {ps:Ab As}{K:Al}{mg:As→Am Ad}{kindOf:As→Am Hg}{A:Bv}{scope:Gb}
structure Room (k:Ai)(A:Bv):Prop where
 hd:A.handled=none
 dp:A.depth+3*k+5<Oq
 un:A.units+16*k+200<Du
 gd:A.guards=Aa []
def Room.deeper {k:Ai}(r:Room (k+1) A)(env:Jt):Room k (A.deeper env):=
 ⟨r.hd,by have:=r.dp;show A.depth+1+3*k+5<_;omega,by have:=r.un;show A.units+3+16*k+200<_;omega,r.gd⟩
def Room.depth {k:Ai}(r:Room k A):A.depth<Oq:=by have:=r.dp;omega
def Room.units {k:Ai}(r:Room k A):A.units+64<Du:=by have:=r.un;omega
def qAM:TA:=λ_ H Q=>Q [] H
section
variable {X:Cx}{e:Bx}{es:Ab Bx}{te:TE}{t:TA}{pos:Fa}
def RL:PA X [] qAM:=λ_ _ _ _ H Q I h=>Pw ⟨[],H,I,.nil,h⟩
def qAP (t:TA):TE:=λσ H Q=>t σ H λxs H1=>xs.length≤sizeLine∧∀ p,H1 p=none→Q (.ref p) (upd H1 p (.tup xs))
def qAL (t:TA):TE:=λσ H Q=>t σ H λxs H1=>xs.length≤sizeLine∧∀ p,H1 p=none→Q (.ref p) (upd H1 p (.lst xs))
def RQ  (h:PA X es t):PE X (.Tuple es x1 pos) (qAP t):=by
 intro pins s σ H Q I hq;refine wpAny_Tuple_spliced (thn (h pos pins s σ H _ I hq) λus s1 ⟨xs,H1,I1,r,z,q⟩=>⟨by rw[← r.length];exact z,?_⟩)
 have hf:H1 s1.heap.objs.size=none:=I1.hok.fresh (Aw _);refine⟨.ref s1.heap.objs.size,upd H1 s1.heap.objs.size (.tup xs),I1.laid (t':=s1.toks) (λb u e=>Ah _ e) (Aw _) ?_,rfl,q _ hf⟩;exact⟨z,us,r,⟨_,Ba _ rfl,rfl,_,rfl⟩⟩
def YS (h:PA X es t):PE X (.List es pos) (qAL t):=by
 intro pins s σ H Q I hq;refine wpAny_List_spliced (thn (h pos pins s σ H _ I hq) λus s1 ⟨xs,H1,I1,r,z,q⟩=>⟨by rw[← r.length];exact z,?_⟩)
 have hf:H1 s1.heap.objs.size=none:=I1.hok.fresh (Aw _);refine⟨.ref s1.heap.objs.size,upd H1 s1.heap.objs.size (.lst xs),I1.laid (t':=s1.toks) (λb u e=>Ah _ e) (Aw _) ?_,rfl,q _ hf⟩;exact⟨z,us,0,r,Ba _ rfl⟩
end
abbrev Sp:=Ab V→Hp→VK→XK→Prop
abbrev CXT:=Ab Jt→Hp→Ag→XK→Ad→Ag→Prop
structure Env0 (P:Bg)(w:By)(K:Al)(mg:As→Am Ad)(base:Bk)(A:Bv)(outer:Ab Jt)(s:Ag)(H:Hp):Prop where
 frames:A.frames=Aa outer
 mod:Mod K mg base
 bs:∀ b o,base.get? b=Aa o→s.heap.get? b=Aa o∧H b=none
 bsz:base.objs.size≤s.heap.objs.size
 funs:s.heap.FunFrames base outer
 frf:∀ b∈frs outer,H b=none
 hok:HOk P w H s.heap
 bare:Mm s.gens
def CE (outer:Ab Jt)(P:Bg)(w:By)(H:Hp)(s:Ag)(Q:VK)(u:Ad)(s':Ag):Prop:=
 ∃ v H',s'.os=s.os∧Mm s'.gens∧Un (frs outer) [] H H' s.heap s'.heap∧HOk P w H' s'.heap∧qP v u∧Q v H'
def CR (CX:CXT)(outer:Ab Jt)(P:Bg)(w:By)(H:Hp)(s:Ag)(Q:VK)(E:XK)(r:Vh)(s':Ag):Prop:=
 match r with
 |.ok (.ret u)=>CE outer P w H s Q u s'
 |.ok _=>Fe
 |.error e=>CX outer H s E e s'
structure FnOk (P:Bg)(w:By)(K:Al)(mg:As→Am Ad)(base:Bk)(CX:CXT)(k:Ai)(f:Af)(fd:Fw)(ps:Ab As)(sp:Sp):Prop where
 len:∀ vs H Q E,sp vs H Q E→vs.length=ps.length
 run:∀ (A:Bv) (outer:Ab Jt) (s:Ag) (H:Hp) (args:Args) (us:Ab Ad) (vs:Ab V) (Q:VK) (E:XK),Room k A→Env0 P w K mg base A outer s H→Oa s fd args (ps.zip us)→qT vs us→sp vs H Q E →
  Jk (Au P w) A (.call (.ref f) args) (CR CX outer P w H s Q E) s
section
variable {X:Cx}{pins:Ab (Af × Cr)}{σ : St}{H:Hp}{s s':Ag}
def Inv.env0 (I:Inv X pins σ H s):Env0 X.prog X.w X.K X.mg X.base X.A X.stack s H:=
 ⟨I.ok.frames,I.ok.mod,I.bs,Dc I.ok.bsz I.sz,I.stack,I.stkFree,I.hok,I.bare⟩
def Inv.after {Q:VK}{u:Ad}(I:Inv X pins σ H s)(h:CE X.stack X.prog X.w H s Q u s'):EP X pins σ Q u s':=by
 obtain⟨v,H',os,bare,un,hok,r,q⟩:=h;obtain⟨hh,g,d,t,os'⟩:=s';obtain rfl:os'=s.os:=os;exact⟨v,H',I.call (h':=hh) (g':=g) (d':=d) (t':=t) (ch:=[]) un hok bare (λb z=>absurd z (by simp)),r,q⟩
end
def kF (K:Al)(fd:Fw)(ps:Ab As)(ds:Ab Ad):Prop:=
 ∀ (s:Ag) (us:Ab Ad),K.In s.heap→(us++ds).length=ps.length→Oa s fd ⟨us,[]⟩ (ps.zip (us++ds))
def kF.all {fd:Fw}(h:∀ us:Ab Ad,us.length=ps.length→Ym fd ⟨us,[]⟩=pure (ps.zip us)):kF K fd ps []:=λs us _ hl=>by
 rw[Hf] at hl ⊢;exact .of_eq (h us hl)
structure FnScope (N P:Ab As)(sc:Gb):Prop where
 kind:sc.kind=.function
 co:sc.isCoroutine=false
 gen:sc.isGenerator=false
 nd:N.Nodup
 pre:N.take P.length=P
 par:∀ x∈P,sc.names.lookup x=Aa .local ∨ sc.names.lookup x=Aa .cell
 nofree:∀ y∈sc.names,y.2≠.free
def sL {x:As}:∀ {binds:Ab (As × Ad)} {m:As→Am Ad},(∀ v,(x,v) ∉ binds)→Uo kindOf binds m x=m x
 |[],_,_=>rfl
 |(n,v)::r,m,h=>by
  unfold Uo;rw[sL λw hw=>h w (Bu _ hw)]
  split
  ·have:x≠n:=by rintro rfl;exact h v Dd
   simp[this]
  ·rfl
def sI {x:As}:∀ {binds:Ab (As × Ad)} {m:As→Am Ad},(∀ v,(x,v) ∉ binds)→Uq kindOf binds m x=m x
 |[],_,_=>rfl
 |(n,v)::r,m,h=>by
  unfold Uq;rw[sI λw hw=>h w (Bu _ hw)]
  split
  ·rfl
  ·have:x≠n:=by rintro rfl;exact h v Dd
   simp[this]
def sJ {x:As}{v:Ad}:∀ {P:Ab As} {vs:Ab Ad} {i:Ai} {m:As→Am Ad},P.Nodup→P[i]? = Aa x→vs[i]? = Aa v→kindOf x=Aa .local →
  Uo kindOf (P.zip vs) m x=Aa v
 |[],_,_,_,_,h,_,_=>by simp at h
 |_::_,[],_,_,_,_,h,_=>by simp at h
 |p::P,w::vs,0,m,nd,h1,h2,hk=>by
  simp at h1 h2;subst h1;subst h2;show Uo kindOf ((p,w)::P.zip vs) m p=_;unfold Uo;rw[sL λv hv=>(Jl.mp nd).1 (No hv).1,Bd hk];simp
 |p::P,w::vs,i+1,m,nd,h1,h2,hk=>by
  show Uo kindOf ((p,w)::P.zip vs) m x=_;unfold Uo;exact sJ (i:=i) (Jl.mp nd).2 (by simpa using h1) (by simpa using h2) hk
def sH {x:As}{v:Ad}:∀ {P:Ab As} {vs:Ab Ad} {i:Ai} {m:As→Am Ad},P.Nodup→P[i]? = Aa x→vs[i]? = Aa v→kindOf x≠Aa .local →
  Uq kindOf (P.zip vs) m x=Aa v
 |[],_,_,_,_,h,_,_=>by simp at h
 |_::_,[],_,_,_,_,h,_=>by simp at h
 |p::P,w::vs,0,m,nd,h1,h2,hk=>by
  simp at h1 h2;subst h1;subst h2;show Uq kindOf ((p,w)::P.zip vs) m p=_;unfold Uq;rw[sI λv hv=>(Jl.mp nd).1 (No hv).1,Be hk];simp
 |p::P,w::vs,i+1,m,nd,h1,h2,hk=>by
  show Uq kindOf ((p,w)::P.zip vs) m x=_;unfold Uq;exact sH (i:=i) (Jl.mp nd).2 (by simpa using h1) (by simpa using h2) hk
def yP (N:Ab As)(vs:Ab V):St:=vs.map Aa++Cd (N.length-vs.length) none
def lW (CX:CXT)(P:Bg)(w:By)(K:Al)(mg:As→Am Ad)(base:Bk)(N:Ab As)(qual:As)(scope:Gb)(f:Af)(cd:Ad)(A:Bv)(outer:Ab Jt)(s:Ag)(H:Hp)(E:XK):Cx where
 prog:=P
 w:=w
 K:=K
 mg:=mg
 base:=base
 A:=A.deeper (Gm qual scope s.heap.objs.size f cd)
 N:=N
 s₀:=s
 H₀:=H
 env:=Gm qual scope s.heap.objs.size f cd
 outer:=outer
 stack:=Gm qual scope s.heap.objs.size f cd::outer
 ex:=[]
 calm:=true
 fn:=λ_=>true
 pn:=[]
 xe:=λe s'=>Ao (Au P w) (A.deeper (Gm qual scope s.heap.objs.size f cd)) (leaving (Gm qual scope s.heap.objs.size f cd) e) (λ_ s''=>CX outer H s E e s'') (λe' s''=>CX outer H s E e' s'') s'
def c8 {sc:Gb}{n:Ai}{x:As}(h:sc.names.lookup x=Aa .cell):∃ c,(Hb n sc.names []).lookup x=Aa c:=by
 have q:=Jm sc.names n [] (.inl h);exact Qq.mp q
def sZ {CX:CXT}{P:Bg}{w:By}{base:Bk}{N:Ab As}{qual:As}{f:Af}{cd:Ad}{outer:Ab Jt}{s s1:Ag}{H:Hp}{E:XK}{us:Ab Ad}{vs:Ab V}
  (S:FnScope N ps scope) (hd:A.handled=none) (e0:Env0 P w K mg base A outer s H) (hl:vs.length=ps.length) (r:qT vs us)
  (x:InCallC s s.heap.objs.size (Uo (Gm qual scope s.heap.objs.size f cd).kindOf (ps.zip us) λ_=>none) (Hb (s.heap.objs.size+1) scope.names []) (Uq (Gm qual scope s.heap.objs.size f cd).kindOf (ps.zip us) λ_=>none) s1) :
  Inv (lW CX P w K mg base N qual scope f cd A outer s H E) [] (yP N vs) H s1:=by
 have hpl:ps.length≤N.length:=by have:=congrArg Tk S.pre;rw[Fn] at this;omega
 obtain⟨h1,tk,rfl,hk⟩:=x.done;have noA:∀ b:Af,b ∉ (lW CX P w K mg base N qual scope f cd A outer s H E).ex:=λb z=>absurd (show b∈([]:Ab Af) from z) (by simp)
 refine⟨⟨e0.mod,S.kind,rfl,rfl,Aw _,λy z c h1 h2=>?_,λy hy=>?_,λy c _ h=>?_,λ_=>hd,Uf e0.frames,.inr ⟨rfl,rfl⟩,λb z=>absurd z (noA b),e0.bs,e0.bsz,λb _ _=>noA b,λb z=>absurd z (noA b),e0.funs,e0.frf⟩,
  rfl,e0.bare,Un.kept hk,⟨_,x.toInCall.ns,λi y v h1 h2 h3=>?_⟩,λy c h=>⟨_,x.cell y c h⟩,e0.hok.fresh (Aw _),λy c h=>?_,λp hp=>absurd (show p∈([]:Ab (Af × Cr)) from hp) (by simp),e0.hok.kept hk,?_⟩
 ·exact name_of_addr x.apart (Ge h1) (Ge h2)
 ·have hy:scope.names.lookup y=Aa .cell∨scope.names.lookup y=Aa .free:=hy
  rcases hy with hy|hy
  ·exact c8 hy
  ·exact absurd rfl (S.nofree _ (Ge hy))
 ·exact Gz (x.above y c (Ge h))
 ·have hi:i<vs.length:=by
   unfold yP at h2;by_cases hi:i<vs.length
   ·exact hi
   ·rw[Eb (by simpa using hi)] at h2
    rw[Ll] at h2
    split at h2 <;> cases h2
  have ha:vs[i]? = Aa v:=by
   unfold yP at h2;rw[Bl (by simpa using hi),Dw] at h2
   cases e:vs[i]? with
   |none=>rw[e] at h2;cases h2
   |some a=>rw[e] at h2;cases h2;rfl
  obtain⟨u,hu,rv⟩:=r.get ha;have hp:ps[i]? = Aa y:=by
   rw[← S.pre,Qr om];exact h1
  have ndP:ps.Nodup:=by rw[← S.pre];exact S.nd.sublist (List.take_sublist _ _)
  refine⟨u,rv,?_⟩;rcases S.par y (Cn hp) with k|k
  ·exact .inl ⟨k,sJ ndP hp hu k⟩
  ·obtain⟨c,e⟩:=c8 (n:=s.heap.objs.size+1) k
   refine .inr ⟨.inl k,c,e,?_⟩;have q:=x.cell y c e;rw[sH ndP hp hu (by show scope.names.lookup y≠_;rw[k];decide)] at q
   exact q
 ·exact e0.hok.fresh (Gz (x.above y c (Ge h)))
 ·unfold yP
  show _=N.length;rw[Bo,Ay,List.length_replicate];omega
def CJ {CX:CXT}{P:Bg}{w:By}{base:Bk}{k:Ai}{f:Af}{name qual:As}{params:Arguments}{body:Ab Fd}{dV kV doc pm cdv ct oc:Ad}{an od:Am Af}
  {osl:Bj (Am Ad)} {N ps:Ab As} {sp:Sp} (lk:K.lookup f=Aa ⟨oc,od,.func (Ha name qual params body scope dV kV doc pm an cdv ct),osl⟩) (hcd:Lu K cdv qual=true) (S:FnScope N ps scope)
  (len:∀ vs H Q E,sp vs H Q E→vs.length=ps.length)
  (hbody:∀ (A:Bv) (outer:Ab Jt) (s:Ag) (H:Hp) (vs:Ab V) (Q:VK) (E:XK),Room k (A.deeper (Gm qual scope s.heap.objs.size f cdv))→sp vs H Q E →
   ∃ t,PSs (lW CX P w K mg base N qual scope f cdv A outer s H E) body t∧t { nx:=λ_ H'=>Q .non H',rt:=Q } (yP N vs) H) :
  FnOk P w K mg base CX (k+1) f (Ha name qual params body scope dV kV doc pm an cdv ct) ps sp:=by
 refine⟨len,λA outer s H args us vs Q E hr e0 hb r hsp=>?_⟩;have hl:=len _ _ _ _ hsp;have KX:K.In s.heap:=e0.mod.kin.keeps λb o e=>(e0.bs b o e).1;have lim:s.heap.NoLimit:=e0.mod.nolimit.keeps λb o e=>(e0.bs b o e).1;have hkind:∀ y∈ps.zip us,scope.names.lookup y.1=Aa .local ∨ (scope.names.lookup y.1=Aa .cell∧((Hb (s.heap.objs.size+1) scope.names []).lookup y.1).isSome=true):=λ⟨n,v⟩ hy=>by
  rcases S.par n (No hy).1 with q|q
  ·exact .inl q
  ·exact .inr ⟨q,Jm _ _ _ (.inl q)⟩
 refine Tl hr.depth (KX _ _ lk) rfl S.co S.gen rfl (Vm KX hcd) (hb _ _ _ _ ?_);refine Pl S.kind hkind λenv he s1 x=>?_;subst he;refine⟨lim.keeps x.toInCall.keep,codeAny_func ?_⟩;obtain⟨t,ht,hq⟩:=hbody A outer s H vs Q E (hr.deeper _) hsp;have I:Inv (lW CX P w K mg base N qual scope f cdv A outer s H E) [] (yP N vs) H s1:=sZ S hr.hd e0 hl r x;refine Gv (ht [] s1 (yP N vs) H _ I hq) (λfl s' hs=>?_) λe s' hs=>hs;have fin:∀ {σ' : St} {H':Hp} {v:V} {u:Ad},Inv (lW CX P w K mg base N qual scope f cdv A outer s H E) [] σ' H' s'→qP v u→Q v H'→CE outer P w H s Q u s':=
  λ{σ' H' v u} J rv q=>⟨v,H',J.os,J.bare,J.base,J.hok,rv,q⟩
 cases fl with
 |ret u =>
  obtain⟨v,σ',H',J,rv,q⟩:=hs;exact fin J rv q
 |next =>
  obtain⟨σ',H',J,q⟩:=hs;exact fin (v:=V.non) (u:=Ff) J rfl q
 |brk =>
  obtain⟨_,_,_,q⟩:=hs;exact Ap q
 |cont =>
  obtain⟨_,_,_,q⟩:=hs;exact Ap q
end _L
namespace _H
open PySem PyProof.Rows
variable {Q:Ad→Ag→Prop}{lo hi:Am Ak}{items:Bj Ad}
def lexLt:Ab Ak→Ab Ak→Aq
 |[],[]=>false
 |[],_::_=>true
 |_::_,[]=>false
 |x::xs,y::ys=>if x=y then lexLt xs ys else decide (x<y)
def lexLt_cons (x y:Ak)(xs ys:Ab Ak):lexLt (x::xs) (y::ys)=if x=y then lexLt xs ys else decide (x<y):=rfl
def lexLt_nil_nil:lexLt [] []=false:=rfl
def dI (y:Ak)(ys:Ab Ak):lexLt [] (y::ys)=true:=rfl
def dH (x:Ak)(xs:Ab Ak):lexLt (x::xs) [] = false:=rfl
def JC (A:Bv)(s:Ag)(a:Ak)(t:Pj)(c:Ak)(u:Pj):∃ e,SeqAt.EqAt A s (.int a t) (.int c u) e∧(e=true↔a=c):=
 ⟨(a == c),SeqAt.EqAt.int_int a t c u,by simp⟩
def G7 (A:Bv)(s:Ag)(a:Ak)(t:Pj)(c:Ak)(u:Pj)(prog:Bg)(w:By)(E:Ad→Ag→Prop)(Q:Ad→Ag→Prop)(h:Q (.bool (decide (a<c))) s) :
  Ao (Au prog w) A (Xr .Lt (.int a t) (.int c u)) Q E s:=
 (Ob h:Ao (Au prog w) A (Cc .Lt (.int a t) (.int c u)) Q E s)
section
open PySem.SeqAt
open PySem.AutoSeq1 (wpAny_loadPart')
open PySem.MeetsSeq PySem.MeetsSeq2 PySem.MeetsSeq3
def eA (l b:Af)(items items2:Bj Ad)(n n2:Ai)(dd dd2:Am Af)(sl sl2:Bj (Am Ad))(ns ms:Ab Ak)(hi:Iy items.toList ns)(hj:Iy items2.toList ms) :
  Meets (Gq.«tuple.__lt__» ⟨[.ref l,.ref b],[]⟩)
   (λ_ R s=>s.heap.get? l=Aa { cls:=.type "tuple",dict:=dd,data:=.seq items n,slots:=sl } ∧ s.heap.get? b=Aa { cls:=.type "tuple",dict:=dd2,data:=.seq items2 n2,slots:=sl2 } ∧
    R (.ok (.ret (.bool (lexLt ns ms)))) s):=
 .of_wp λprog w A R s h=>by
  obtain⟨hp,g,d,tk,os⟩:=s;obtain⟨hl,hb,h⟩:=h;have f2:=Qs;have z1:items.size=ns.length:=by rw[← hi.length];simp
  have z2:items2.size=ms.length:=by rw[← hj.length];simp
  wp_walk using wpAny_loadPart' hl,wpAny_loadPart' hb,Kk _ (λrest b s'=>b.1=none∧s'=⟨hp,g,d,tk,os⟩∧∃ (vs ws:Ab Ad) (ns' ms':Ab Ak),rest=vs.zip ws ∧
   Iy vs ns'∧Iy ws ms'∧ns'.length+items2.size=ms'.length+items.size∧R (.ok (.ret (.bool (lexLt ns' ms')))) ⟨hp,g,d,tk,os⟩) _
  case turn =>
   rintro⟨y,x⟩ rest b s' ⟨hb',rfl,vs,ws,ns',ms',hz,hvi,hwi,hlen,hR⟩;cases hvi with
   |nil=>rw[List.zip_nil_left] at hz;cases hz
   |cons a t hvi' =>
    cases hwi with
    |nil=>rw[List.zip_nil_right] at hz;cases hz
    |cons c u hwi' =>
     rw[Jh] at hz;injection hz with hyx hrest
     injection hyx with hy hx
     subst hy hx;rw[lexLt_cons] at hR;simp only[Ci] at hlen;obtain⟨e,he,hiff⟩:=JC A.in1 ⟨hp,g,d,tk,os⟩ a t c u;refine Ac (he prog w _ _ ?_);cases e with
     |true =>
      rw[Bd (hiff.mp rfl)] at hR
      wp_walk
      exact⟨rfl,rfl,_,_,_,_,hrest,hvi',hwi',by omega,hR⟩
     |false =>
      rw[Be (λq=>absurd (hiff.mpr q) Fy)] at hR;have hri:=G7 A.in1 ⟨hp,g,d,tk,os⟩ a t c u prog w
      wp_walk using hri
      exact⟨_,rfl,by simpa using hR⟩
  case fin =>
   rintro⟨b1,b2⟩ s' ⟨hb',rfl,vs,ws,ns',ms',hz,hvi,hwi,hlen,hR⟩;simp only at hb';subst hb';have hv:lexLt ns' ms'=decide (items.size<items2.size):=by
    cases hvi with
    |nil =>
     cases hwi with
     |nil =>
      simp only[Fx] at hlen;rw[lexLt_nil_nil];exact(Bs om).symm
     |cons c u hw =>
      simp only[Fx,Ci] at hlen;rw[dI];exact(Bi om).symm
    |cons a t hv =>
     cases hwi with
     |nil =>
      simp only[Fx,Ci] at hlen;rw[dH];exact(Bs om).symm
     |cons c u hw =>
      rw[Jh] at hz;cases hz
   rw[hv] at hR
   wp_walk
   exact⟨_,rfl,by simpa [Mp] using hR⟩
  case h =>
   exact⟨rfl,rfl,items.toList,items2.toList,ns,ms,rfl,hi,hj,by omega,h⟩
end
section
variable {prog:Bg}{w:By}{A:Bv}{E:Ad→Ag→Prop}{s:Ag}
def lt_tupInts {l b:Af}{items2:Bj Ad}{ns ms:Ab Ak}(hl:Ml s.heap l items)(hb:Ml s.heap b items2)(hi:Iy items.toList ns)(hj:Iy items2.toList ms)
  (hu:A.units<Du) (h:Q (.bool (lexLt ns ms)) s):Ao (Au prog w) A (Cc .Lt (.ref l) (.ref b)) Q E s:=by
 obtain⟨⟨cls,dd,data,sl⟩,ho,hc,n,hd⟩:=id hl;obtain⟨⟨cls2,dd2,data2,sl2⟩,ho2,hc2,n2,hd2⟩:=id hb;simp only at hc hd hc2 hd2;subst hc hd hc2 hd2;exact Sj (op:=.Lt) ⟨_,ho,rfl⟩ ⟨_,ho2,rfl⟩ Tn Sk (Rp _ _) (eA l b items items2 n n2 dd dd2 sl sl2 ns ms hi hj)
  ⟨ho,ho2,show Es (lexLt ns ms)≠Ni∧Q (.bool (lexLt ns ms)) s from⟨(λx=>nomatch x),h⟩⟩ hu
def cat_tup {t b:Af}{vs ws:Ab Ad}(ht:Ml s.heap t vs.toArray)(hb:Ml s.heap b ws.toArray)(hv:vs≠[])
  (h1:ws=[]→Q (.ref t) s) (h2:ws≠[]→Q (.ref s.heap.objs.size) { s with heap:=s.heap.push { cls:=.type "tuple",data:=.seq (vs++ws).toArray } })
  (hsz:vs.length+ws.length≤sizeLine):Ao (Au prog w) A (Eh .Add (.ref t) (.ref b)) Q E s:=by
 obtain⟨⟨cls,dd,data,sl⟩,ho,hc,n,hd⟩:=id ht;obtain⟨⟨cls2,dd2,data2,sl2⟩,ho2,hc2,n2,hd2⟩:=id hb;simp only at hc hd hc2 hd2;subst hc hd hc2 hd2;have e:vs.toArray++ws.toArray=(vs++ws).toArray:=by simp
 by_cases hw:ws=[]
 ·exact Wa ⟨_,ho,rfl⟩ ⟨_,ho2,rfl⟩ Re Ur Mg Lm (Lf _ _)
   (tuple_addW1 t b vs.toArray ws.toArray n n2 dd dd2 sl sl2 (by simpa using hv) (by simp[hw])) ⟨ho,ho2,h1 hw⟩
 ·refine Wa ⟨_,ho,rfl⟩ ⟨_,ho2,rfl⟩ Re Ur Mg Lm (Lf _ _)
   (tuple_addW2 t b vs.toArray ws.toArray n n2 dd dd2 sl sl2 (by simpa using hv) (by simpa using hw) (by rw[Ax,Ax];exact hsz)) ⟨ho,ho2,?_⟩
  rw[e];exact h2 hw
def sIx (n d:Ai):Am Ak→Ai
 |none=>d
 |some v=>if v<0 then (v+(n:Ak)).toNat else min v.toNat n
def sIx_none (n d:Ai):sIx n d none=d:=rfl
def sIx_nat (n d k:Ai):sIx n d (Aa (k:Ak))=min k n:=by
 show (if (k:Ak)<0 then ((k:Ak)+(n:Ak)).toNat else min (k:Ak).toNat n)=min k n
 rw[Be om,Fp]
def ET (n d:Ai)(hd:d≤n)(o:Am Ak):sIx n d o≤n:=by
 cases o with
 |none=>exact hd
 |some v =>
  show (if v<0 then (v+(n:Ak)).toNat else min v.toNat n)≤n
  by_cases hv:v<0
  ·rw[Bd hv];omega
  ·rw[Be hv];exact Nat.min_le_right _ _
def iU (v:Ak)(n d:Ai):(if v<0 then max (v+(n:Ak)) 0 else min v (n:Ak))=((sIx n d (Aa v):Ai):Ak):=by
 show (if v<0 then max (v+(n:Ak)) 0 else min v (n:Ak))=(((if v<0 then (v+(n:Ak)).toNat else min v.toNat n):Ai):Ak)
 by_cases hv:v<0
 ·simp only[Bd hv];omega
 ·simp only[Be hv];omega
def QZ (lo hi:Am Ak)(n:Ai):En lo hi 1 (n:Ak)=(((sIx n 0 lo:Ai):Ak),((sIx n n hi:Ai):Ak)):=by
 have h1:¬ ((1:Ak)<0):=by omega
 unfold En;simp only[h1,Ec];refine Prod.ext ?_ ?_
 ·cases lo with
  |none=>rfl
  |some v=>exact iU v n 0
 ·cases hi with
  |none=>rfl
  |some v=>exact iU v n n
def ZU (i j:Ai):Fi (i:Ak) (j:Ak) 1=j-i:=by
 unfold Fi;have h1:(1:Ak)>0:=by omega
 simp only[h1,Dh,Int.ediv_one]
 split <;> omega
def lM {v:Ad}{o:Am Ak}{Q:Am Ak→Ag→Prop}(p:Pm v o)(h:Q o s):Ao (Au prog w) A (Yz v) Q E s:=by
 cases p with
 |none=>exact Lv h
 |int i t=>exact Px h
def gE {sl:Af}{vl vu:Ad}{n:Ai}{Q:Ak × Ak × Ai→Ag→Prop}(hs:s.heap.IsSliceOf sl vl vu .none)(pl:Pm vl lo)(pu:Pm vu hi)
  (h:Q (((sIx n 0 lo:Ai):Ak),1,sIx n n hi-sIx n 0 lo) s):Ao (Au prog w) A (Fz (.ref sl) (pure (n:Ak))) Q E s:=by
 obtain⟨os,hos,hcs,hds⟩:=id hs;unfold Fz Kq;refine Ac (Ac (Dg hos hds (x:=vl) rfl (Ac (Dg hos hds (x:=vu) rfl (Ac (Dg hos hds (x:=.none) rfl (Aj ?_)))))));refine Ac (Lv ?_);show Ao _ _ (if ((1:Ak) == 0)=true then _ else _) _ _ s
 rw[Be (by decide)]
 refine Ac (lM pl (Ac (lM pu (Ac (Aj ?_)))));show Ao _ _ (match En lo hi 1 (n:Ak) with|(lo,hi)=>pure (lo,(1:Ak),Fi lo hi 1)) _ _ s
 rw[QZ lo hi n];show Ao _ _ (pure (((sIx n 0 lo:Ai):Ak),(1:Ak),Fi ((sIx n 0 lo:Ai):Ak) ((sIx n n hi:Ai):Ak) 1)) _ _ s;rw[ZU];exact Aj h
def KH (xs:Bj Ad)(i k:Ai):((Cz k).filterMap λ(m:Ai)=>xs[((i:Ak)+(m:Ak)*1).toNat]?).toArray=((xs.toList.drop i).take k).toArray:=by
 have e:(λ(m:Ai)=>xs[((i:Ak)+(m:Ak)*1).toNat]?)=λm=>xs[i+m]?:=by
  funext m
  have:((i:Ak)+(m:Ak)*1).toNat=i+m:=by omega
  rw[this]
 rw[e];have:=pick_run xs i k;rw[List.filterMap_map] at this;have e2:((λx=>xs[x]?)∘λx=>i+x)=λm=>xs[i+m]?:=rfl;rw[e2] at this;rw[this]
def getItem_tuple_cut {t sl:Af}{vl vu:Ad}(ht:Ml s.heap t items)(hs:s.heap.IsSliceOf sl vl vu .none)(pl:Pm vl lo)(pu:Pm vu hi)
  (hw:¬ (sIx items.size 0 lo=0∧sIx items.size items.size hi=items.size))
  (h:Q (.ref s.heap.objs.size) { s with heap:=s.heap.push { cls:=.type "tuple",data:=.seq ((items.toList.drop (sIx items.size 0 lo)).take (sIx items.size items.size hi-sIx items.size 0 lo)).toArray } })
  (hsz:items.size≤sizeLine):Ao (Au prog w) A (IN (.ref t) (.ref sl)) Q E s:=by
 have htake:sizeOk (.seq ((items.toList.drop (sIx items.size 0 lo)).take (sIx items.size items.size hi-sIx items.size 0 lo)).toArray):=by
  show ((items.toList.drop (sIx items.size 0 lo)).take (sIx items.size items.size hi-sIx items.size 0 lo)).toArray.size≤sizeLine;rw[Ax,Fn,Gn,De];omega
 have hj:sIx items.size items.size hi≤items.size:=ET _ _ (Aw _) hi;obtain⟨os,hos,hcs,hds⟩:=id hs;have hTs:s.TypeIs (.ref sl) "slice":=⟨os,hos,hcs⟩;unfold IN
 try with_reducible refine Dp ?_
 first|refine Ac (Aj ?_)|skip
 refine Ac (Lz ht.typeIs (by decide) ?_)
 refine Ac (Dq (name:=Fb "__getitem__") ht.typeIs Cs
  (Dx Cs ht.typeIs Kr ?_ (Lh _ _)))
 show Ao _ _ (HT (.ref t) >>= _) _ _ s;refine Ac (Py ht ?_);refine Ac (Je hTs ?_);rw[Bd (by decide)]
 refine Ac (gE hs pl pu ?_);have hno:¬ ((((sIx items.size 0 lo:Ai):Ak) == 0&&(1:Ak) == 1&&(sIx items.size items.size hi-sIx items.size 0 lo) == items.size)=true):=by
  intro q;rw[Az,Az] at q;have q1:((sIx items.size 0 lo:Ai):Ak)=0:=eq_of_beq q.1.1;have q2:sIx items.size items.size hi-sIx items.size 0 lo=items.size:=eq_of_beq q.2;exact hw ⟨by omega,by omega⟩
 show Ao _ _ (if (((sIx items.size 0 lo:Ai):Ak) == 0&&(1:Ak) == 1&&(sIx items.size items.size hi-sIx items.size 0 lo) == items.size)=true then _ else _) _ _ s
 rw[Be hno,KH]
 first
  |exact Ac (m:=Di _) (Cy (Aj ⟨_,rfl,Aj h⟩) htake)
  |exact Ac (m:=Di _) (Cy (Ac (Aj (Aj ⟨_,rfl,Aj h⟩))) htake)
  |exact Ac (Ac (m:=Di _) (Cy (Aj (Aj ⟨_,rfl,Aj h⟩)) htake))
  |exact Ac (Ac (m:=Di _) (Cy (Aj ⟨_,rfl,Aj h⟩) htake))
end
end _H
namespace _L
open PySem PySem.Spec PyProof.Rows
abbrev TO:=St→Hp→(Am Ak→Hp→Prop)→Prop
def PO (X:Cx)(e:Am Bx)(t:TO):Prop:=
 ∀ (pins:Ab (Af × Cr)) (s:Ag) (σ : St) (H:Hp) (Q:Am Ak→Hp→Prop),Inv X pins σ H s→t σ H Q →
  Ao (Au X.prog X.w) X.A (evalPart e X.env) (λu s'=>∃ o H',Inv X pins σ H' s'∧Pm u o∧Q o H') X.xe s
def N6:TO:=λ_ H Q=>Q none H
def IG (t:TE):TO:=λσ H Q=>t σ H λx H1=>∃ i,x=.int i∧Q (Aa i) H1
def pZ {ns:Ab Ak}:∀ {us:Ab Ad},qT (ns.map V.int) us→Iy us ns:=by
 induction ns with
 |nil=>intro us r;rw[Wb] at r;cases r;exact .nil
 |cons n ns ih =>
  intro us r;rw[Dj] at r;cases r with
  |cons r1 r2 =>
   obtain⟨t,e⟩:=r1;subst e;exact .cons n t (ih r2)
section
variable {X:Cx}{e:Bx}{te:TE}{lo hi:Am Bx}{tl th:TO}{pos p2:Fa}
def MR:PO X none N6:=by
 intro pins s σ H Q I h;rw[Pz];exact Aj ⟨none,H,I,.none,h⟩
def MS (h:PE X e te):PO X (Aa e) (IG te):=by
 intro pins s σ H Q I hw;rw[Qb];refine thn (h pins s σ H _ I hw) λu s1 ⟨x,H1,I1,r1,q1⟩=>?_;obtain⟨i,rfl,q⟩:=q1;obtain⟨t,rfl⟩:=r1;exact⟨Aa i,H1,I1,.int i t,q⟩
def SlR (X:Cx)(r:V→Am Ak→Am Ak→Hp→VK→Prop):Prop:=
 ∀ (pins:Ab (Af × Cr)) (s:Ag) (σ : St) (H:Hp) (x:V) (v vl vu:Ad) (lo hi:Am Ak) (sl:Af) (Q:VK),Inv X pins σ H s→qP x v→s.heap.IsSliceOf sl vl vu .none→Pm vl lo→Pm vu hi→r x lo hi H Q →
  ∃ T id,Za (.type T) "__getitem__" = pure (Aa (.builtin id))∧s.TypeIs v T∧Ao (Au X.prog X.w) X.A (IN v (.ref sl)) (EP X pins σ Q) X.xe s
def SlR.or {r r':V→Am Ak→Am Ak→Hp→VK→Prop}(h:SlR X r)(h':SlR X r'):SlR X (λx lo hi H Q=>r x lo hi H Q∨r' x lo hi H Q):=by
 intro pins s σ H x v vl vu lo hi sl Q I rx hs pl pu q;rcases q with q|q
 ·exact h pins s σ H x v vl vu lo hi sl Q I rx hs pl pu q
 ·exact h' pins s σ H x v vl vu lo hi sl Q I rx hs pl pu q
def tSl (r:V→Am Ak→Am Ak→Hp→VK→Prop)(te:TE)(tl th:TO):TE:=λσ H Q=>te σ H λx H1=>tl σ H1 λl H2=>th σ H2 λu H3=>r x l u H3 Q
def KE {r:V→Am Ak→Am Ak→Hp→VK→Prop}(hr:SlR X r)(he:PE X e te)(hl:PO X lo tl)(hu:PO X hi th):PE X (.Subscript e (.Slice lo hi none p2) pos) (tSl r te tl th):=by
 intro pins s σ H Q I h;refine Rf (thn (he pins s σ H _ I h) λv s1 ⟨x,H1,I1,r1,q1⟩=>?_);refine Xs (thn (hl pins s1 σ H1 _ I1 q1) λvl s2 ⟨l,H2,I2,pl,q2⟩=>thn (hu pins s2 σ H2 _ I2 q2) λvu s3 ⟨u,H3,I3,pu,q3⟩=>?_);rw[Pz];refine Aj ?_;have I4:Inv X pins σ H3 { s3 with heap:=s3.heap.push { cls:=.type "slice",data:=.fields #[vl,vu,.none] } }:=I3.kept (t':=s3.toks) λb ob q=>Ah _ q
 obtain⟨T,id,hT,ht,hg⟩:=hr pins { s3 with heap:=s3.heap.push { cls:=.type "slice",data:=.fields #[vl,vu,.none] } } σ H3 x v vl vu l u s3.heap.objs.size Q I4 r1 (Pc ..) pl pu q3
 show Ao (Au X.prog X.w) X.A (Qc e (.Slice lo hi none p2) v (.ref s3.heap.objs.size)) (EP X pins σ Q) X.xe { s3 with heap:=s3.heap.push { cls:=.type "slice",data:=.fields #[vl,vu,.none] } }
 exact tail_any (ops:=[.ref s3.heap.objs.size,v]) ht hT hg (by with_unfolding_all rfl)
def bV (xs:Ab V)(lo hi:Am Ak):Ab V:=(xs.drop (_H.sIx xs.length 0 lo)).take (_H.sIx xs.length xs.length hi-_H.sIx xs.length 0 lo)
def mW (xs:Ab V)(lo hi:Am Ak):(bV xs lo hi).length≤xs.length:=by
 unfold bV;rw[Fn,Gn];omega
def qAH (K:Al):V→Am Ak→Am Ak→Hp→VK→Prop:=λx lo hi H Q=>∃ a xs,x=.ref a∧SqT K H a xs ∧
 ¬ (_H.sIx xs.length 0 lo=0∧_H.sIx xs.length xs.length hi=xs.length)∧∀ p,H p=none→Q (.ref p) (upd H p (.tup (bV xs lo hi)))
def EY:SlR X (qAH X.K):=by
 intro pins s σ H x v vl vu lo hi sl Q I rx hs pl pu h;obtain⟨a,xs,rfl,hx,hw,q⟩:=h;cases rx;obtain⟨its,r,ht,hz⟩:=I.tuple hx;have hlen:its.toArray.size=xs.length:=by rw[Ax];exact r.length.symm
 refine⟨"tuple",_,Cs.lookup,ht.typeIs,?_⟩;refine _H.getItem_tuple_cut ht hs pl pu (by rw[hlen];exact hw) ?_ (by rw[hlen];exact hz)
 rw[hlen];refine⟨.ref s.heap.objs.size,_,I.laid (t':=s.toks) (o:=.tup (bV xs lo hi)) (λb ob q=>Ah _ q) (Aw _) ?_,rfl,q _ (I.hok.fresh (Aw _))⟩;exact⟨Dc (mW xs lo hi) hz,_,(r.drop (_H.sIx xs.length 0 lo)).take (_H.sIx xs.length xs.length hi-_H.sIx xs.length 0 lo),Wq _ _⟩
end
end _L
namespace _L
open PySem PySem.Spec PyProof.Rows
variable {pins:Ab (Af × Cr)}{s:Ag}{H:Hp}{σ:St}
def ixN (n:Ai)(i:Ak):Am Ai:=if 0≤i then (if i<n then Aa i.toNat else none) else if -(n:Ak)≤i then Aa (i+n).toNat else none
def atI {α:Type}(xs:Ab α)(i:Ak):Am α:=(ixN xs.length i).bind λj=>xs[j]?
def oI {n:Ai}{i:Ak}{j:Ai}(h:ixN n i=Aa j):seqIndex? i n=Aa j∧j<n ∧ -(n:Ak)≤i∧i<n:=by
 unfold ixN at h;by_cases h0:0≤i
 ·rw[Bd h0] at h
  by_cases h1:i<n
  ·rw[Bd h1] at h
   have e:i.toNat=j:=Ct h;exact⟨by rw[Xt h0 h1,e],by omega,by omega,h1⟩
  ·rw[Be h1] at h;cases h
 ·rw[Be h0] at h
  by_cases h1 : -(n:Ak)≤i
  ·rw[Bd h1] at h
   have e:(i+n).toNat=j:=Ct h;exact⟨by rw[seqIndex_neg om h1,e],by omega,h1,by omega⟩
  ·rw[Be h1] at h;cases h
def iR {α:Type}{xs:Ab α}{i:Ak}{v:α}(h:atI xs i=Aa v):∃ j,seqIndex? i xs.length=Aa j∧xs[j]? = Aa v∧j<xs.length ∧ -(xs.length:Ak)≤i∧i<xs.length:=by
 unfold atI at h;cases e:ixN xs.length i with
 |none=>rw[e] at h;cases h
 |some j =>
  rw[e] at h;obtain⟨h1,h2,h3,h4⟩:=oI e;exact⟨j,h1,h,h2,h3,h4⟩
def BF {α:Type}{xs:Ab α}{j:Ai}{v:α}(h:xs[j]? = Aa v):atI xs (j:Ak)=Aa v:=by
 have hj:j<xs.length:=(Bb.mp h).1;have e:ixN xs.length (j:Ak)=Aa j:=by
  unfold ixN;rw[Bd om,Bd om];simp
 unfold atI;rw[e];exact h
def lQ (b:Bx):Prop:=∀ o i,subscripted b false o i=operate [o,i] (IN o i)
def IxR (X:Cx)(r:R2):Prop:=
 ∀ (value slice:Bx) (pins:Ab (Af × Cr)) (s:Ag) (σ : St) (H:Hp) (x y:V) (v u:Ad) (Q:VK),Inv X pins σ H s→qP x v→qP y u→r x y H Q →
  subscripted slice false v u=operate [v,u] (IN v u)→Ao (Au X.prog X.w) X.A (Qc value slice v u) (EP X pins σ Q) X.xe s
def MtR (X:Cx)(id:Ea)(r:V→Ab V→Hp→VK→Prop):Prop:=
 ∀ (pins:Ab (Af × Cr)) (s:Ag) (σ : St) (H:Hp) (x:V) (xs:Ab V) (v:Ad) (us:Ab Ad) (Q:VK),Inv X pins σ H s→qP x v→qT xs us→r x xs H Q →
  Ao (Au X.prog X.w) X.A (call (.builtin id) (v::us)) (EP X pins σ Q) X.xe s
section
variable {X:Cx}{a b:Bx}{ta tb:TE}{pos:Fa}
def IxR.or {r r':R2}(h:IxR X r)(h':IxR X r'):IxR X (λx y H Q=>r x y H Q∨r' x y H Q):=by
 intro value slice pins s σ H x y v u Q I rx ry q hs;rcases q with q|q
 ·exact h value slice pins s σ H x y v u Q I rx ry q hs
 ·exact h' value slice pins s σ H x y v u Q I rx ry q hs
def MtR.or {id:Ea}{r r':V→Ab V→Hp→VK→Prop}(h:MtR X id r)(h':MtR X id r'):MtR X id (λx xs H Q=>r x xs H Q∨r' x xs H Q):=by
 intro pins s σ H x xs v us Q I rx rs q;rcases q with q|q
 ·exact h pins s σ H x xs v us Q I rx rs q
 ·exact h' pins s σ H x xs v us Q I rx rs q
def AI {r:R2}(hr:IxR X r)(ha:PE X a ta)(hb:PE X b tb)(hs:lQ b):PE X (.Subscript a b pos) (tOp r ta tb):=by
 intro pins s σ H Q I h;exact Rf (OD ha hb I h λv u s2 x y H2 I2 rx ry q=>hr a b pins s2 σ H2 x y v u Q I2 rx ry q (hs _ _))
def qAD (K:Al):R2:=λx y H Q=>∃ p xs i v,x=.ref p∧y=.int i∧SqL K H p xs∧atI xs i=Aa v∧Q v H
def qAE (K:Al):R2:=λx y H Q=>∃ p xs i v,x=.ref p∧y=.int i∧SqT K H p xs∧atI xs i=Aa v∧Q v H
def oJ:IxR X (qAD X.K):=by
 intro value slice pins s σ H x y v u Q I rx ry h hs;obtain⟨p,xs,i,z,rfl,rfl,hq,he,q⟩:=h;cases rx;obtain⟨t,rfl⟩:=ry;obtain⟨its,r,pl,hz⟩:=I.list hq;obtain⟨j,h1,h2,h3,h4,h5⟩:=iR he;obtain⟨w,ew,rw'⟩:=r.get h2;have hl:=r.length;have hn:=fJ;have fin:EP X pins σ Q w s:=⟨z,H,I,rw',q⟩;by_cases h0:0≤i
 ·have hj:i.toNat=j:=by
   rw[Xt h0 h5] at h1;exact Ct h1
  exact item_listR pl.isList h0 om (by rw[hj];simpa using ew) fin hs
 ·have hj:(i+(its.toArray.size:Ak)).toNat=j:=by
   rw[seqIndex_neg om h4] at h1;rw[Ax,← hl];exact Ct h1
  exact Sl (x:=w) pl.isList.typeIs Wt.lookup
   (wpAny_getItem_list_neg (Q:=λr s'=>r=w∧EP X pins σ Q r s') pl.isList om (by rw[Ax] <;> omega) om (by rw[hj];simpa using ew) ⟨rfl,fin⟩) hs
def uW:IxR X (qAE X.K):=by
 intro value slice pins s σ H x y v u Q I rx ry h hs;obtain⟨p,xs,i,z,rfl,rfl,hq,he,q⟩:=h;cases rx;obtain⟨t,rfl⟩:=ry;obtain⟨its,r,pl,hz⟩:=I.tuple hq;obtain⟨j,h1,h2,h3,h4,h5⟩:=iR he;obtain⟨w,ew,rw'⟩:=r.get h2;have hl:=r.length;have hn:=fJ;have fin:EP X pins σ Q w s:=⟨z,H,I,rw',q⟩;exact Sl (x:=w) pl.typeIs slot_tuple_getitem.lookup
  (getItem_tuple (j:=j) (Q:=λr s'=>r=w∧EP X pins σ Q r s') pl om om (by rw[Ax,← hl];exact h1) (by simpa using ew) ⟨rfl,fin⟩) hs
def ZR (its:Ab Ad)(n j:Ai)(u:Ad):Ej (·.setIfInBounds j u) { cls:=.type "list",data:=.seq its.toArray n } = { cls:=.type "list",data:=.seq (its.set j u).toArray n }:=by
 simp[Ej]
def Inv.lst {p:Af}{xs:Ab V}(I:Inv X pins σ H s)(h:H p=Aa (.lst xs)) :
  ∃ (its:Ab Ad) (n:Ai),qT xs its∧s.heap.get? p=Aa { cls:=.type "list",data:=.seq its.toArray n } ∧ xs.length≤sizeLine:=by
 obtain⟨z,its,n,r,e⟩:=I.hok p _ h;exact⟨its,n,r,e,z⟩
def Inv.lstUpd {p:Af}{xs ys:Ab V}{its its':Ab Ad}{n n':Ai}{f:Cr→Cr}(I:Inv X pins σ H s)(h:H p=Aa (.lst xs))
  (ho:s.heap.get? p=Aa { cls:=.type "list",data:=.seq its.toArray n }) (hf:f { cls:=.type "list",data:=.seq its.toArray n } = { cls:=.type "list",data:=.seq its'.toArray n' }) (r:qT ys its') (hz:ys.length≤sizeLine) (t:Ai) :
  Inv X pins σ (upd H p (.lst ys)) { s with heap:=s.heap.update p f,toks:=t }:=by
 have e:(s.heap.update p f).get? p=Aa { cls:=.type "list",data:=.seq its'.toArray n' }:=by
  rw[Ei f ho (by rw[hf] <;> rfl),hf]
 refine I.write (x:=p) (e:=p) (by rw[h];trivial) (.inl rfl) (λb u hb q=>(Bz _ _ (Em hb)).trans q) ⟨_,e⟩ ?_
 exact⟨hz,its',n',r,e⟩
def AQ:V→V→V→Hp→(Hp→Prop)→Prop:=λo i v H Q=>∃ p xs k j,o=.ref p∧i=.int k∧H p=Aa (.lst xs)∧ixN xs.length k=Aa j∧Q (upd H p (.lst (xs.set j v)))
def G9:eW X AQ:=by
 intro pins s σ H o i v ov iv u Q I ro ri rv h;obtain⟨p,xs,k,j,rfl,rfl,hp,hj,q⟩:=h;cases ro;obtain⟨t,rfl⟩:=ri;obtain⟨its,n,r,ho,hz⟩:=I.lst hp;obtain⟨h1,h2,h3,h4⟩:=oI hj;have hl:=r.length;have hn:=fJ;have I':Inv X pins σ (upd H p (.lst (xs.set j v))) { s with heap:=s.heap.update p (Ej (·.setIfInBounds j u)) }:=
  I.lstUpd hp ho (ZR its n j u) (r.set rv j) (by rw[List.length_set];exact hz) s.toks
 by_cases h0:0≤k
 ·have hk:k.toNat=j:=by
   rw[Xt h0 h4] at h1;exact Ct h1
  exact PySem.W.ki_setAt ho h0 om (by rw[Ax,← hl];exact h4) (by rw[hk];exact⟨_,I',q⟩)
 ·have hk:(k+(its.toArray.size:Ak)).toNat=j:=by
   rw[seqIndex_neg om h3] at h1;rw[Ax,← hl];exact Ct h1
  exact PySem.W.ki_setBack ho om (by rw[Ax,← hl];exact h3) om (by rw[hk];exact⟨_,I',q⟩)
def i9 (lo hi:Am Ak)(n:Ai):(Kx lo hi none n).1=((_H.sIx n 0 lo:Ai):Ak)∧(Kx lo hi none n).2.1=((_H.sIx n n hi:Ai):Ak)∧(Kx lo hi none n).2.2=1:=by
 refine⟨?_,?_,rfl⟩
 ·cases lo with
  |none=>simp[Kx,_H.sIx]
  |some i =>
   simp only[Kx,_H.sIx,Xu,show (1:Ak)>0 by decide,Dh]
   by_cases h:i<0
   ·simp only[h,Dh] <;> omega
   ·simp only[h,Ec] <;> omega
 ·cases hi with
  |none=>simp[Kx,_H.sIx]
  |some i =>
   simp only[Kx,_H.sIx,Xu,show (1:Ak)>0 by decide,Dh]
   by_cases h:i<0
   ·simp only[h,Dh] <;> omega
   ·simp only[h,Ec] <;> omega
def rZ (its:Ab Ad)(lo hi:Am Ak):slicePick its.toArray lo hi none=((its.drop (_H.sIx its.length 0 lo)).take (_H.sIx its.length its.length hi-_H.sIx its.length 0 lo)).toArray:=by
 obtain⟨h1,h2,h3⟩:=i9 lo hi its.toArray.size;unfold slicePick;rw[h1,h2,h3];simp only[sliceRange_one,pick_run,Ax] <;> rfl
def qAG (K:Al):V→Am Ak→Am Ak→Hp→VK→Prop:=λx lo hi H Q=>∃ a xs,x=.ref a∧SqL K H a xs∧∀ p,H p=none→Q (.ref p) (upd H p (.lst (bV xs lo hi)))
def QF:SlR X (qAG X.K):=by
 intro pins s σ H x v vl vu lo hi sl Q I rx hs pl pu h;obtain⟨a,xs,rfl,hx,q⟩:=h;cases rx;obtain⟨its,r,ht,hz⟩:=I.list hx;have hlen:=r.length;refine⟨"list",_,Wt.lookup,ht.isList.typeIs,?_⟩;refine wpAny_getItem_list_slice ht.isList hs pl pu .none (by simp) ?_ (by rw[Ax] <;> omega)
 rw[rZ,← hlen];refine⟨.ref s.heap.objs.size,_,I.laid (t':=s.toks) (o:=.lst (bV xs lo hi)) (λb ob q=>Ah _ q) (Aw _) ?_,rfl,q _ (I.hok.fresh (Aw _))⟩;exact⟨Dc (mW xs lo hi) hz,_,0,(r.drop (_H.sIx xs.length 0 lo)).take (_H.sIx xs.length xs.length hi-_H.sIx xs.length 0 lo),Ba _ rfl⟩
def gI.or {f:Ad}{r r':Ab V→Hp→VK→Prop}(h:gI X f r)(h':gI X f r'):gI X f (λxs H Q=>r xs H Q∨r' xs H Q):=by
 intro pins s σ H xs us Q I rs q;rcases q with q|q
 ·exact h pins s σ H xs us Q I rs q
 ·exact h' pins s σ H xs us Q I rs q
def bR:gI X (.type "list") (λxs H Q=>∃ p ys,xs=[.ref p]∧(SqL X.K H p ys∨SqT X.K H p ys)∧∀ l,H l=none→Q (.ref l) (upd H l (.lst ys))):=by
 intro pins s σ H xs us Q I r h;obtain⟨p,ys,rfl,hq,q⟩:=h;obtain⟨u,rfl,rx⟩:=gV r;cases rx;have fin:∀ (its:Ab Ad),qT ys its→ys.length≤sizeLine→∀ (h':Bk) (c':Ai),(∀ b o',s.heap.get? b=Aa o'→h'.get? b=Aa o') →
   h'.get? s.heap.objs.size=Aa { cls:=.type "list",dict:=none,data:=.seq its.toArray c',slots:=#[] } → EP X pins σ Q (.ref s.heap.objs.size) { s with heap:=h' }:=λits r' hz h' c' kp e =>
  ⟨.ref s.heap.objs.size,_,I.laid (t':=s.toks) kp (Aw _) (show zV X.prog X.w _ h' _ (.lst ys) from⟨hz,its,c',r',e⟩),rfl,q _ (I.hok.fresh (Aw _))⟩
 rcases hq with hq|hq
 ·obtain⟨its,r',pl,hz⟩:=I.list hq
  have hlen:=r'.length;obtain⟨o,ho,hc,n,hd⟩:=pl.isList;exact call_list_seq p (.inl rfl) ho hc hd (λh' c' kp e=>fin its r' hz h' c' kp e) (by simp only[Ax] <;> omega)
 ·obtain⟨its,r',pl,hz⟩:=I.tuple hq
  have hlen:=r'.length;obtain⟨o,ho,hc,n,hd⟩:=pl;exact call_list_seq p (.inr rfl) ho hc hd (λh' c' kp e=>fin its r' hz h' c' kp e) (by simp only[Ax] <;> omega)
def bL:gI X (.type "tuple") (λxs H Q=>∃ p ys,xs=[.ref p]∧((SqL X.K H p ys∧∀ l,H l=none→Q (.ref l) (upd H l (.tup ys)))∨(SqT X.K H p ys∧Q (.ref p) H))):=by
 intro pins s σ H xs us Q I r h;obtain⟨p,ys,rfl,h⟩:=h;obtain⟨u,rfl,rx⟩:=gV r;cases rx;rcases h with⟨hq,q⟩|⟨hq,q⟩
 ·obtain⟨its,r',pl,hz⟩:=I.list hq
  have hlen:=r'.length;refine call_tuple_list pl.isList (λh' kp=>?_) (by simp only[Ax] <;> omega)
  have I1:Inv X pins σ H { s with heap:=h' }:=I.kept (t':=s.toks) kp
  have I2:Inv X pins σ (upd H h'.objs.size (.tup ys)) { s with heap:=h'.push { cls:=.type "tuple",data:=.seq its.toArray } }:=
   I1.laid (t':=s.toks) (λb o e=>Ah _ e) (Aw _) (show zV X.prog X.w _ _ _ (.tup ys) from⟨hz,its,r',Wq _ _⟩)
  exact⟨.ref h'.objs.size,_,I2,rfl,q _ (I1.hok.fresh (Aw _))⟩
 ·obtain⟨its,r',pl,hz⟩:=I.tuple hq
  exact call_tuple_same pl ⟨.ref p,H,I,rfl,q⟩
def tyV (K:Al)(T:Ea)(x:V)(H:Hp):Prop:=match x with
 |.str _=>T = "str"
 |.int _=>T = "int"
 |.ref p=>(T = "list" ∧ ∃ xs,SqL K H p xs)∨(T = "tuple" ∧ ∃ o,K.lookup p=Aa o∧o.cls=.type "tuple" ∧ o.dict=none) ∨
   (T = "dict" ∧ ((∃ kvs,H p=Aa (.dK kvs))∨∃ kvs,H p=Aa (.dT kvs)))∨(T = "set" ∧ ∃ S n,H p=Aa (.set S n))
 |_=>Fe
def VV {T:Ea}{x:V}{v:Ad}(I:Inv X pins σ H s)(r:qP x v)(ty:tyV X.K T x H) :
  s.TypeIs v T∧∀ a,v=.ref a→∃ ob,s.heap.get? a=Aa ob∧ob.dict=none:=by
 cases x with
 |str z =>
  obtain⟨t,rfl⟩:=r;cases (show T = "str" from ty)
  exact⟨typeIs_str s z t,λ_ e=>nomatch e⟩
 |int i =>
  obtain⟨t,rfl⟩:=r;cases (show T = "int" from ty)
  exact⟨Rg s i t,λ_ e=>nomatch e⟩
 |ref p =>
  cases r;rcases ty with⟨rfl,xs,hq⟩|⟨rfl,o,hk,hc,hd⟩|⟨rfl,hk⟩|⟨rfl,S,n,hk⟩
  ·obtain⟨its,_,pl,_⟩:=I.list hq
   refine⟨pl.isList.typeIs,λa e=>?_⟩;cases e;obtain⟨o,n,e,c,hd,_⟩:=pl;exact⟨o,e,hd⟩
  ·refine⟨⟨o,I.kIn p o hk,hc⟩,λa e=>?_⟩
   cases e;exact⟨o,I.kIn _ o hk,hd⟩
  ·have z:∃ o,s.heap.get? p=Aa o∧o.ExactDict:=by
    rcases hk with⟨kvs,hk⟩|⟨kvs,hk⟩
    ·obtain⟨_,_,_,_,o,_,_,e,ex,_⟩:=I.hok p _ hk
     exact⟨o,e,ex⟩
    ·obtain⟨_,_,_,_,o,_,_,e,ex,_⟩:=I.hok p _ hk
     exact⟨o,e,ex⟩
   obtain⟨o,e,ex⟩:=z;refine⟨⟨o,e,ex.1⟩,λa e2=>?_⟩;cases e2;exact⟨o,e,ex.2.1⟩
  ·obtain⟨o,_,_,_,e,ex,_⟩:=I.hok p _ hk
   refine⟨⟨o,e,ex.1⟩,λa e2=>?_⟩;cases e2;exact⟨o,e,ex.2.1⟩
 |_=>exact Ap ty
variable {o e:Bx}{es:Ab Bx}{to:TE}{t:TA}{name:As}{apos cpos:Fa}{T id:Ea}{r:V→Ab V→Hp→VK→Prop}
/- xs.append(e),list.index on a module's tuple .. are MtR facts of 06m -/
end
end _L
namespace _L
open PySem PySem.Spec PyProof.Rows
variable {us:Ab Ad}
def MtM (X:Cx)(id:Ea)(r:V→Ab V→Hp→VK→Prop):Prop:=
 ∀ (pins:Ab (Af × Cr)) (s:Ag) (σ : St) (H:Hp) (x:V) (xs:Ab V) (v:Ad) (us:Ab Ad) (Q:VK),Inv X pins σ H s→qP x v→qT xs us→r x xs H Q →
  Ao (Au X.prog X.w) X.A (call (.builtin id) (v::us)) (EP X pins σ Q) X.xe s
def qT.one {x:V}(h:qT [x] us):∃ u,us=[u]∧qP x u:=gV h
def qT.two {x y:V}(h:qT [x,y] us):∃ u v,us=[u,v]∧qP x u∧qP y v:=XI h
def qT.rep {xs:Ab V}(h:qT xs us):∀ k:Ai,qT (Cd k xs).flatten (Cd k us).flatten
 |0=>.nil
 |k+1=>by
  rw[EQ,EQ,Hj,Hj];exact qT.append h (qT.rep h k)
def gQ (its:Ab Ad):∀ (k:Ai) (acc:Ab Ad),
  Oc (λx1 x2=>x1++x2) acc.toArray (Cd k its.toArray)=(acc++(Cd k its).flatten).toArray
 |0,acc=>by simp
 |k+1,acc=>by
  have e:acc.toArray++its.toArray=(acc++its).toArray:=by simp
  have e2:(acc++its)++(Cd k its).flatten=acc++(Cd (k+1) its).flatten:=by
   rw[EQ,Hj,Eo]
  rw[← e2,← gQ its k (acc++its),← e,EQ,Ky]
section
variable {X:Cx}{pins:Ab (Af × Cr)}{σ : St}{H:Hp}{s:Ag}{l b:Af}{xs ys zs:Ab V}
def Inv.lset {its its':Ab Ad}{n:Ai}{f:Bj Ad→Bj Ad}{t':Ai}(I:Inv X pins σ H s)(hH:H l=Aa (.lst xs))
  (e:s.heap.get? l=Aa { cls:=.type "list",data:=.seq its.toArray n }) (hf:f its.toArray=its'.toArray) (hv:qT ys its') (hz:ys.length≤sizeLine) :
  Inv X pins σ (upd H l (.lst ys)) { s with heap:=s.heap.update l (Ej f),toks:=t' }:=by
 have q:=Xv e f;rw[hf] at q;refine I.write (x:=l) (e:=l) (by rw[hH];exact trivial) (.inl rfl) (λb' u hb hu=>(Bz s.heap (Ej f) (Em hb)).trans hu) ⟨_,q⟩ ?_
 exact⟨hz,its',_,hv,q⟩
def Inv.lstM (I:Inv X pins σ H s)(hH:H l=Aa (.lst xs)):xs.length≤sizeLine∧∃ (its:Ab Ad) (n:Ai),qT xs its∧xs.length=its.length∧s.heap.get? l=Aa { cls:=.type "list",data:=.seq its.toArray n }:=by
 obtain⟨z,its,n,r,e⟩:=I.hok l _ hH;exact⟨z,its,n,r,r.length,e⟩
def K9 {n:Ai}(h:n≤sizeLine):Lg n=false:=by
 unfold Lg;exact Bs om
end
section
variable {X:Cx}
def TL:V→Ab V→Hp→VK→Prop:=λx vs H Q=>∃ l xs y,x=.ref l∧vs=[y]∧H l=Aa (.lst xs)∧xs.length<sizeLine∧Q .non (upd H l (.lst (xs++[y])))
def YJ:MtM X "list.append" TL:=by
 intro pins s σ H x vs v us Q I rx rv h;obtain⟨l,xs,y,rfl,rfl,hH,hz,q⟩:=h;cases rx;obtain⟨u,rfl,ru⟩:=rv.one;obtain⟨z,its,n,r,hl,e⟩:=I.lstM hH;refine Ks Vn ⟨_,e,rfl⟩ Us (Ug _ _) (Wu l its.toArray n u (by rw[Ax];omega)) ⟨e,?_⟩
 refine⟨.non,_,I.lset (its':=its++[u]) hH e (by simp) (r.append (.cons ru .nil)) ?_,rfl,q⟩
 rw[Bo,Ia];omega
def dG {α:Type}(xs:Ab α)(k:Ai):(Cd k xs).flatten.length=k*xs.length:=by
 induction k with
 |zero=>simp
 |succ k ih=>rw[EQ,Hj,Bo,ih,Wc,v6]
end
end _L
namespace _L
open PySem PySem.Spec PyProof.Rows
variable {xs:Ab (Ab Key × Af × Ad)}{kvs:Ab (Ab Key × V)}{Q:Ad→Ag→Prop}{H':Hp}
section
variable {κ : Type}[DecidableEq κ]
def vT (kvs:Ab (κ × V))(k:κ):Am V:=(kvs.find? λkv=>decide (kv.1=k)).map (·.2)
def uB (kvs:Ab (κ × V))(k:κ)(v:V):Ab (κ × V):=
 if (kvs.any λkv=>decide (kv.1=k))=true then kvs.map (λkv=>if kv.1=k then (kv.1,v) else kv) else kvs++[(k,v)]
def tZ {p:κ × V}{r:Ab (κ × V)}{k:κ}(e:p.1=k):vT (p::r) k=Aa p.2:=by simp[vT,Gw,e]
def tY {p:κ × V}{r:Ab (κ × V)}{k:κ}(e:¬ p.1=k):vT (p::r) k=vT r k:=by simp[vT,Gw,e]
def iG (k:κ):∀ kvs:Ab (κ × V),(kvs.any λkv=>decide (kv.1=k))=(vT kvs k).isSome
 |[]=>rfl
 |p::r=>by
  rw[Jn];by_cases e:p.1=k
  ·simp only[tZ e,Bi e,wE,Vo]
  ·rw[tY e,Bs e,Il];exact iG k r
def gW (kvs:Ab (κ × V))(k:κ)(v:V):(uB kvs k v).length≤kvs.length+1:=by
 unfold uB
 split
 ·rw[Ay];omega
 ·rw[Bo,Ci,Fx];omega
def j8.isSome_eq {o:Am V}{u:Am Ad}(r:j8 o u):o.isSome=u.isSome:=by
 cases o with
 |none=>cases u with
  |none=>rfl
  |some _=>exact(show Fe from r).elim
 |some _=>cases u with
  |none=>exact(show Fe from r).elim
  |some _=>rfl
def j8.getD {o:Am V}{u:Am Ad}{d:V}{d':Ad}(r:j8 o u)(rd:qP d d'):qP (o.getD d) (u.getD d'):=by
 cases o with
 |none=>cases u with
  |none=>exact rd
  |some _=>exact(show Fe from r).elim
 |some _=>cases u with
  |none=>exact(show Fe from r).elim
  |some _=>exact r
def KV.val {kvs:Ab (κ × V)}{vs:Ab (κ × Ad)}(r:KV kvs vs)(k:κ):j8 (vT kvs k) (Sm vs k):=by
 unfold KV at r
 induction r with
 |nil=>exact Ig
 |@cons p q ps qs h t ih =>
  obtain⟨h1,h2⟩:=h;by_cases e:p.1=k
  ·have e':q.1=k:=h1.symm.trans e
   have b:Sm (q::qs) k=Aa q.2:=by simp[Sm,Gw,e']
   rw[tZ e,b];exact h2
  ·have e':¬ q.1=k:=λz=>e (h1.trans z)
   have b:Sm (q::qs) k=Sm qs k:=by simp[Sm,Gw,e']
   rw[tY e,b];exact ih
def KV.any {kvs:Ab (κ × V)}{vs:Ab (κ × Ad)}(r:KV kvs vs)(k:κ):(kvs.any λkv=>decide (kv.1=k))=vs.any λkv=>decide (kv.1=k):=by
 unfold KV at r
 induction r with
 |nil=>rfl
 |cons h t ih=>rw[Jn,Jn,ih,h.1]
def KV.repl {kvs:Ab (κ × V)}{vs:Ab (κ × Ad)}(r:KV kvs vs)(k:κ){y:V}{u:Ad}(ry:qP y u) :
  KV (kvs.map λkv=>if kv.1=k then (kv.1,y) else kv) (vs.map λkv=>if kv.1=k then (kv.1,u) else kv):=by
 unfold KV at r ⊢
 induction r with
 |nil=>exact .nil
 |@cons p q ps qs h t ih =>
  rw[Dj,Dj];refine .cons ?_ ih;obtain⟨h1,h2⟩:=h;by_cases e:p.1=k
  ·rw[Bd e,Bd (h1.symm.trans e)];exact⟨h1,ry⟩
  ·rw[Be e,Be (λz=>e (h1.trans z))];exact⟨h1,h2⟩
def KV.put {kvs:Ab (κ × V)}{vs:Ab (κ × Ad)}(r:KV kvs vs)(k:κ){y:V}{u:Ad}(ry:qP y u):KV (uB kvs k y) (stored vs k u):=by
 unfold uB stored;rw[r.any k];by_cases e:(vs.any λkv=>decide (kv.1=k))=true
 ·rw[Bd e,Bd e];exact r.repl k ry
 ·rw[Be e,Be e];exact Paired.snoc r ⟨rfl,ry⟩
def KV.length {kvs:Ab (κ × V)}{vs:Ab (κ × Ad)}(r:KV kvs vs):kvs.length=vs.length:=Paired.length r
end
def nR {P:Bg}{w:By}{k:Key}{u:Ad}(r:qP (kV k) u):(xF P w).is k u=true:=by
 cases k with
 |inl i=>obtain⟨t,e⟩:=(show ∃ t,u=Pq i t from r);subst e;exact iL P w i t
 |inr x=>obtain⟨t,e⟩:=(show ∃ t,u=Wn x t from r);subst e;exact iM P w x t
def r8 {P:Bg}{w:By}:∀ {ks:Ab Key} {us:Ab Ad},qT (ks.map kV) us→ItemsAre (xF P w) ks us
 |[],_,r=>by rw[Wb] at r;cases r;exact .nil
 |k::ks,_,r=>by
  rw[Dj] at r;cases r with
  |cons h t=>exact .cons (nR h) (r8 t)
abbrev KT (H:Hp):Ab (Ab Key × V)→Ab (Ab Key × Af × Ad)→Prop:=Paired λp q=>p.1=q.1∧H q.2.1=Aa (.tup (p.1.map kV))∧qP p.2 q.2.2
def KT.val {H:Hp}(r:KT H kvs xs)(k:Ab Key):j8 (vT kvs k) ((Ut xs k).map (·.2)):=by
 induction r with
 |nil=>exact Ig
 |@cons p q ps qs h t ih =>
  obtain⟨h1,_,h2⟩:=h;by_cases e:p.1=k
  ·have e':q.1=k:=h1.symm.trans e
   have b:Ut (q::qs) k=Aa q.2:=by simp[Ut,Gw,e']
   rw[tZ e,b];exact h2
  ·have e':¬ q.1=k:=λz=>e (h1.trans z)
   have b:Ut (q::qs) k=Ut qs k:=by simp[Ut,Gw,e']
   rw[tY e,b];exact ih
def KT.repl {H:Hp}(r:KT H kvs xs)(k:Ab Key){y:V}{u:Ad}(ry:qP y u) :
  KT H (kvs.map λkv=>if kv.1=k then (kv.1,y) else kv) (xs.map (putAt k u)):=by
 induction r with
 |nil=>exact .nil
 |@cons p q ps qs h t ih =>
  rw[Dj,Dj];refine .cons ?_ ih;obtain⟨h1,h2,h3⟩:=h;unfold putAt;by_cases e:p.1=k
  ·rw[Bd e,Bd (h1.symm.trans e)];exact⟨h1,h2,ry⟩
  ·rw[Be e,Be (λz=>e (h1.trans z))];exact⟨h1,h2,h3⟩
def KT.put {H:Hp}(r:KT H kvs xs)(k:Ab Key){b:Af}{y:V}{u:Ad}(hb:H b=Aa (.tup (k.map kV)))(ry:qP y u) :
  KT H (uB kvs k y) (storedH xs k b u):=by
 have e:(kvs.any λkv=>decide (kv.1=k))=(Ut xs k).isSome:=by
  rw[iG,(r.val k).isSome_eq,Wv]
 unfold uB storedH;rw[e];by_cases q:(Ut xs k).isSome=true
 ·rw[Bd q,Bd q];exact r.repl k ry
 ·rw[Be q,Be q];exact Paired.snoc r ⟨rfl,hb,ry⟩
def KT.keeps {H:Hp}(r:KT H kvs xs)(ht:∀ b ys,H b=Aa (.tup ys)→H' b=Aa (.tup ys)):KT H' kvs xs:=
 Paired.mapP r λ_ _ z=>⟨z.1,ht _ _ z.2.1,z.2.2⟩
section
variable {P:Bg}{w:By}{H:Hp}{h:Bk}{a:Af}
def B3 {u:HO}(ok:HOk P w H h)(e:Rd H a u):zV P w H h a u:=e.ok ok
def eE {kvs:Ab (Key × V)}(ok:HOk P w H h)(e:Rd H a (.dK kvs)):kvs.length≤sizeLine∧(a == Hr)=false∧∃ vs,KV kvs vs∧h.DictOf (xF P w) a vs:=
 show zV P w H h a (.dK kvs) from B3 ok e
def ZG {kvs:Ab (Key × V)}(ok:HOk P w H h)(e:H a=Aa (.dK kvs)):kvs.length≤sizeLine∧(a == Hr)=false∧∃ vs,KV kvs vs∧h.DictOf (xF P w) a vs:=eE ok (.inl e)
def nU {ks:Ab Key}(ok:HOk P w H h)(e:H a=Aa (.tup (ks.map kV))):(Tg (xF P w)).is h ks a:=by
 obtain⟨_,its,r,o,h1,h2,n,h3⟩:=(show zV P w H h a (.tup (ks.map kV)) from ok a _ e)
 exact⟨o,its.toArray,n,h1,h2,h3,by simpa using r8 r⟩
def eF (ok:HOk P w H h)(e:Rd H a (.dT kvs)):kvs.length≤sizeLine∧(a == Hr)=false ∧
  ∃ xs,KT H kvs xs∧h.DictOfH (Tg (xF P w)) a xs:=by
 obtain⟨z,y,xs,r,o,es,ep,h1,h2,h3,h4,h5⟩:=(show zV P w H h a (.dT kvs) from B3 ok e)
 refine⟨z,y,xs,r,o,es,ep,h1,h2,h3,h4,λx hx=>?_,h5⟩;have all:∀ {l:Ab (Ab Key × V)} {m:Ab (Ab Key × Af × Ad)},KT H l m→∀ x∈m,(Tg (xF P w)).is h x.1 x.2.1:=by
  intro l m q
  induction q with
  |nil=>intro x hx;exact nomatch hx
  |@cons p q ps qs hq t ih =>
   intro x hx;rcases Av.mp hx with e|hx
   ·subst e
    exact nU ok (by rw[← hq.1];exact hq.2.1)
   ·exact ih x hx
 exact all r x hx
def CG (ok:HOk P w H h)(e:H a=Aa (.dT kvs)):kvs.length≤sizeLine∧(a == Hr)=false ∧
  ∃ xs,KT H kvs xs∧h.DictOfH (Tg (xF P w)) a xs:=eF ok (.inl e)
end
def pQ (H:Hp)(a:Af)(y:V)(r:Am V):Prop:=
 (∃ kvs k,Rd H a (.dK kvs)∧y=kV k∧r=vT kvs k)∨∃ kvs k b,Rd H a (.dT kvs)∧y=.ref b∧H b=Aa (.tup (k.map kV))∧r=vT kvs k
def lP (H:Hp)(a:Af)(y v:V)(H':Hp):Prop:=
 (∃ kvs k,H a=Aa (.dK kvs)∧y=kV k∧kvs.length<sizeLine∧H'=upd H a (.dK (uB kvs k v))) ∨
 ∃ kvs k b,H a=Aa (.dT kvs)∧y=.ref b∧H b=Aa (.tup (k.map kV))∧kvs.length<sizeLine∧H'=upd H a (.dT (uB kvs k v))
def pQ.k {H:Hp}{a:Af}{kvs:Ab (Key × V)}{k:Key}(e:H a=Aa (.dK kvs)):pQ H a (kV k) (vT kvs k):=.inl ⟨kvs,k,.inl e,rfl,rfl⟩
def pQ.t {H:Hp}{a b:Af}{k:Ab Key}(e:H a=Aa (.dT kvs))(eb:H b=Aa (.tup (k.map kV))):pQ H a (.ref b) (vT kvs k):=.inr ⟨kvs,k,b,.inl e,rfl,eb,rfl⟩
def lP.k {H:Hp}{a:Af}{kvs:Ab (Key × V)}{k:Key}{v:V}(e:H a=Aa (.dK kvs))(hl:kvs.length<sizeLine):lP H a (kV k) v (upd H a (.dK (uB kvs k v))):=.inl ⟨kvs,k,e,rfl,hl,rfl⟩
def lP.t {H:Hp}{a b:Af}{k:Ab Key}{v:V}(e:H a=Aa (.dT kvs))(eb:H b=Aa (.tup (k.map kV)))(hl:kvs.length<sizeLine) :
  lP H a (.ref b) v (upd H a (.dT (uB kvs k v))):=.inr ⟨kvs,k,b,e,rfl,eb,hl,rfl⟩
section
variable {X:Cx}{pins:Ab (Af × Cr)}{σ : St}{H:Hp}{s:Ag}{a:Af}{y v:V}{u r:Ad}{o:Am V}{A:Bv}{E:Ad→Ag→Prop}
def Inv.big (I:Inv X pins σ H s):Hr<s.heap.objs.size:=by
 have h:Cp<s.heap.objs.size:=(I.mod.glob.keeps I.bk).lt;exact Ln (by decide) h
def W6 (hu:A.units+1<Du)(I:Inv X pins σ H s)(g:pQ H a y (Aa v))(ry:qP y u)(h:∀ w' s',Inv X pins σ H s'→qP v w'→Q w' s') :
  Ao (Au X.prog X.w) A (IN (.ref a) u) Q E s:=by
 rcases g with⟨kvs,k,e,ey,l⟩|⟨kvs,k,b,e,ey,eb,l⟩
 ·subst ey
  obtain⟨z,hd,vs,rel,dd⟩:=eE I.hok e;obtain⟨w',hw,rw'⟩:=j8.some_of (v:=v) (o:=Sm vs k) (by rw[l];exact rel.val k)
  exact wpAny_getItem_of (nR ry) dd.mapOf hw (h w' _ (I.tok _) rw')
 ·subst ey
  cases (show u=Cg b from ry)
  obtain⟨z,hd,xs,rel,dd⟩:=eF I.hok e;obtain⟨w',hw,rw'⟩:=j8.some_of (v:=v) (o:=(Ut xs k).map (·.2)) (by rw[l];exact rel.val k)
  obtain⟨p,hp,hp2⟩:=DL.mp hw;refine wpAny_getItem_heap (Pd hu) (nU I.hok eb) dd hp ?_;rw[hp2];exact h w' _ (I.tok _) rw'
def OJ (hu:A.units+1<Du)(I:Inv X pins σ H s)(g:pQ H a y o)(ry:qP y u)(h:∀ s',Inv X pins σ H s'→Q (.bool o.isSome) s') :
  Ao (Au X.prog X.w) A (Cc .In u (.ref a)) Q E s:=by
 rcases g with⟨kvs,k,e,ey,l⟩|⟨kvs,k,b,e,ey,eb,l⟩
 ·subst ey
  obtain⟨z,hd,vs,rel,dd⟩:=eE I.hok e;refine wpAny_in_of (nR ry) hd dd.mapOf ?_;rw[← (rel.val k).isSome_eq,← l];exact h _ (I.tok _)
 ·subst ey
  cases (show u=Cg b from ry)
  obtain⟨z,hd,xs,rel,dd⟩:=eF I.hok e;refine wpAny_in_heap (Pd hu) (nU I.hok eb) hd dd ?_;have q:=(rel.val k).isSome_eq;rw[Wv] at q;rw[← q,← l];exact h _ (I.tok _)
def lX {h':Bk}{t':Ai}{ob:HO}(I:Inv X pins σ H s)(mu:Mut (H a))(hs:Eu a s.heap h')(he:∃ q,h'.get? a=Aa q)(new:zV X.prog X.w (upd H a ob) h' a ob) :
  Inv X pins σ (upd H a ob) { s with heap:=h',toks:=t' }:=
 I.write (x:=a) (e:=a) mu (.inl rfl) (λb q hb z=>(hs.2 b hb).trans z) he new
def WB {P:Bg}{w:By}{h':Bk}{kvs:Ab (Key × V)}{vs:Ab (Key × Ad)}(z:kvs.length≤sizeLine)(hd:(a == Hr)=false)(rel:KV kvs vs)(dd:h'.DictOf (xF P w) a vs) :
  zV P w H' h' a (.dK kvs):=⟨z,hd,vs,rel,dd⟩
def W7 {Q:Sh→Ag→Prop}(hu:A.units+1<Du)(I:Inv X pins σ H s)(g:lP H a y v H')(ry:qP y u)(rv:qP v r)(h:∀ s',Inv X pins σ H' s'→Q () s') :
  Ao (Au X.prog X.w) A (Zv (.ref a) u r) Q E s:=by
 rcases g with⟨kvs,k,e,ey,l,eH⟩|⟨kvs,k,b,e,ey,eb,l,eH⟩
 ·subst ey eH
  obtain⟨z,hd,vs,rel,dd⟩:=ZG I.hok e;have hz:vs.length≤sizeLine:=by rw[← rel.length];exact z
  have hl:(uB kvs k v).length≤sizeLine:=by have:=gW kvs k v;omega
  refine wpAny_setItem_pairs (hsz:=hz) (nR ry) dd λh' dd' hs=>h _ ?_;have he:∃ q,h'.get? a=Aa q:=let ⟨q,_,_,hq,_⟩:=dd';⟨q,hq⟩
  exact lX I (by rw[e];exact Ig) hs he (WB hl hd (rel.put k rv) dd')
 ·subst ey eH
  cases (show u=Cg b from ry)
  obtain⟨z,hd,xs,rel,dd⟩:=CG I.hok e;have hz:xs.length≤sizeLine:=by rw[← Paired.length rel];exact z
  have hl:(uB kvs k v).length≤sizeLine:=by have:=gW kvs k v;omega
  refine wpAny_setItem_heap (hsz:=hz) (Pd hu) (nU I.hok eb) dd λh' dd' hs=>h _ ?_;obtain⟨q,es,ep,hq,h2,h3,h4,_,h5⟩:=dd';refine lX I (by rw[e];exact Ig) hs ⟨q,hq⟩ ⟨hl,hd,_,(rel.put k eb rv).keeps λc ys ec=>?_,q,es,ep,hq,h2,h3,h4,h5⟩
  rw[qV (A2 ec e (λz=>nomatch z))];exact ec
end
def U5 (i:Bx):Prop:=∀ ov iv,subscripted i false ov iv=operate [ov,iv] (IN ov iv)
def N5 {prog:Bg}{w:By}{A:Bv}{E:Ad→Ag→Prop}{s:Ag}{env:Jt}{value slice:Bx}{pos:Fa}{T id:Ea}
  (hl:Za (.type T) "__getitem__" = pure (Aa (.builtin id))) (hs:U5 slice)
  (h:Ao (Au prog w) A (eval value env) (λo s₁=>Ao (Au prog w) A (eval slice env) (λi s₂=>s₂.TypeIs o T∧Ao (Au prog w) A (IN o i) Q E s₂) E s₁) E s) :
  Ao (Au prog w) A (eval (.Subscript value slice pos) env) Q E s:=by
 refine Rf (Gv h (λo s₁ h₁=>Gv h₁ (λi s₂ h₂=>?_) λ_ _ x=>x) λ_ _ x=>x);obtain⟨hT,h₂⟩:=h₂;unfold Qc;refine Ac ?_;rw[getitemInPython_of_ne hT.not_modules];refine Ac (Sn hT hl ?_);have fin:Ao (Au prog w) A (subscripted slice false o i) (λr s₃=>Ao (Au prog w) A (letTemporaryGo value o r >>= λ_=>pure r) Q E s₃) E s₂:=by
  rw[hs o i];exact wpAny_operating (Gv h₂ (λr s₃ h₃=>Ac (wpAny_letTemporaryGo (Aj h₃))) λ_ _ x=>x)
 first
  |exact Aj (Ac fin)
  |exact Ac (Aj (Ac fin))
  |exact Ac fin
def iK {X:Cx}{pins:Ab (Af × Cr)}{σ:St}{H:Hp}{s:Ag}{a:Af}{y:V}{o:Am V}(I:Inv X pins σ H s)(g:pQ H a y o):s.TypeIs (.ref a) "dict":=by
 rcases g with⟨kvs,k,e,_,_⟩|⟨kvs,k,b,e,_,_,_⟩
 ·obtain⟨_,_,vs,_,dd⟩:=eE I.hok e
  exact dd.typeIs
 ·obtain⟨_,_,xs,_,dd⟩:=eF I.hok e
  exact dd.typeIs
def UX {P:Bg}{w:By}{H:Hp}(h:Bk)(hb:Hr<h.objs.size):zV P w H (h.push { cls:=.type "dict",data:=.dict #[] }) h.objs.size (.dK []):=
 ⟨Fq _,Gc.mpr (Em (Co hb)),[],.nil,Heap.DictOf.new h⟩
def H0:TE:=λ_ H Q=>∀ p,H p=none→Q (.ref p) (upd H p (.dK []))
section
variable {X:Cx}{pos:Fa}
def aI:PE X (.Dict [] [] pos) H0:=λpins s σ H Q I h =>
 wpAny_Dict_empty ⟨.ref s.heap.objs.size,_,I.laid (a:=s.heap.objs.size) (o:=.dK []) (t':=s.toks) (λ_ _ q=>Ah _ q) (Aw _) (UX s.heap I.big),rfl,h _ (I.hok.fresh (Aw _))⟩
end
end _L
namespace _A
open PySem PySem.W PySem.Calls PyProof.Rows
def nN {P:Zp}{h:Bk}:∀ (ns:Ab Ak) (vs:Ab Ad),WellAll P h vs (ns.map WData.int)→Iy vs ns:=by
 intro ns
 induction ns with
 |nil =>
  intro vs w;rw[Wb] at w;cases w;exact .nil
 |cons n ns ih =>
  intro vs w;rw[Dj] at w;cases w with
  |cons a b =>
   cases a;exact .cons _ _ (ih _ b)
def VL {l:OpenLaw}{n:Ai}(hn:l.most=Aa n){P:Zp}{h:Bk}{args:Ab WData}{vals:Ab Ad}
  (hpre:l.row.toRowW.claim.pre args=true) (hwl:WellAll P h vals args) :
  ∃ a vs ns,vals=[Cg a]∧args=[WData.list (ns.map WData.int)]∧h.get? a=Aa { cls:=.type "list",data:=.seq vs.toArray } ∧ Iy vs ns∧ns.length≤n:=by
 have hsh:WShape.hasAll [] args [.list .int]=true:=(pre_splitW hpre).1;have hc:l.pre.holds [] { args:=args } = true:=(pre_splitW hpre).2;obtain⟨d,r,rfl,h1,h2⟩:=hasAllW_cons hsh;obtain rfl:=hasAllW_nil h2;obtain⟨xs,rfl,h3⟩:=hasW_list h1;obtain⟨ns,rfl⟩:=items_int h3;have hlen:ns.length≤n:=by
  unfold OpenLaw.pre at hc;have h4:(WTm.not (.lt (.lit (.int (n:Ak))) (.len (.arg 0)))).holds [] { args:=[.list (ns.map .int)] } = true:=by
   have h4:=(holds_andW hc).1;rw[hn] at h4;exact h4
  have h5:=condW_of h4 (w_not (w_lt w_lit (w_len_list (w_arg rfl))));rw[Ay] at h5;refine Nat.le_of_not_lt λq=>?_;have q':(n:Ak)<((ns.length:Ai):Ak):=by omega
  first
   |(rw[Bi q'] at h5;exact absurd h5 (by decide))
   |(simp at h5;omega)
 cases hwl with
 |cons w1 w2 =>
  cases w2;cases w1 with
  |list ho hall=>exact⟨_,_,ns,rfl,rfl,ho,nN ns _ hall,hlen⟩
def YU (l:OpenLaw)(args:Ab WData):l.row.toRowW.claim.post args (.bool true) args=true:=
 postW_of (r:=l.row.toRowW) (X:=(true == true))
  (show WShape.has [] (.bool true) .bool=true by first|rfl|decide|simp[WShape.has,WShape.arms,WShape.armsAll])
  (show (WTm.eq .res (.lit (.bool true))).value [] { args:=args,res:=Aa (.bool true),after:=args } = Aa (.bool (true == true)) from w_eq_bool (w_res rfl) w_lit) rfl
def attach_call {l:OpenLaw}{n:Ai}{q:Bg}{loose:Ab As}{XP:(As→Am Ad)→Bk→Prop}{YP:By→Bk→Prop}{d:DefRec}
  (hn:l.most=Aa n) (hdf:d.params.defaults=[])
  (call:∀ (w:By) (s₀ s₁:Ag) (mg mb:As→Am Ad) (fa:Af) (o:Cr) (pm cd doc:Ad) (a:Af) (vs:Ab Ad) (ns:Ab Ak),
   Ground q loose [] XP w s₀ mg mb s₁.heap→YP w s₁.heap →
   s₁.heap.get? fa=Aa o→o.data=.func (docDef d.name d.params d.body d.scope pm cd doc)→s₁.heap.CodeRec cd d.name→mg d.name=Aa (.ref fa) →
   s₁.heap.get? a=Aa { cls:=.type "list",data:=.seq vs.toArray } → Iy vs ns→ns.length≤n→s₁.gens=#[] →
   Jk (Au l.prog w) Qe (.call (.ref fa) ⟨[.ref a],[]⟩) (λr s'=>r=.ok (.ret (.bool true))∧OldK s₁.heap s'.heap∧s'.os=s₁.os∧Mm s'.gens) s₁) :
  WalkO q loose XP YP l.row.toRowW d [] (λf vs=>Zb f vs):=by
 intro w s₀ s₁ mg mb G Y fa o pm cd doc dV kV ho hd hcd hD hmg hg args vals as hpre hlay hrd hwl hlo;obtain rfl:dV=.none:=Dflts.none hD hdf;obtain rfl:kV=.none:=Dflts.noKw hD;obtain⟨a,vs,ns,rfl,rfl,hobj,hints,hlen⟩:=VL hn hpre hwl;refine enter_call (Jf (call w s₀ s₁ mg mb fa o pm cd doc a vs ns G Y ho (fd_plain hd) hcd hmg hobj hints hlen hg) λr s' hq=>?_);obtain⟨rfl,h2,h3,h4⟩:=hq;exact⟨.inl ⟨.bool true,.bool true,[],rfl,λ_=>rfl,.bool true,YU l _,λ_=>⟨L2,λ_ hm=>(nomatch hm)⟩⟩,h2,h3,h4⟩
end _A
namespace _L
open PySem PySem.Spec PyProof.Rows
def VY {vs:Ab Ad}{ns:Ab Ak}(h:Iy vs ns):qT (ns.map V.int) vs:=by
 induction h with
 |nil=>exact .nil
 |cons n t h ih=>exact .cons ⟨t,rfl⟩ ih
def SqX (K:Al)(H:Hp)(a:Af)(xs:Ab V):Prop:=
 Rd H a (.lst xs)∨∃ (its:Ab Ad) (n:Ai),K.lookup a=Aa { cls:=.type "list",data:=.seq its.toArray n } ∧ xs.length≤sizeLine∧qT xs its
def SqX.l {K:Al}{H:Hp}{a:Af}{xs:Ab V}(h:SqX K H a xs):SqL K H a xs:=by
 rcases h with h|⟨its,n,e,l,v⟩
 ·exact .inl h
 ·exact .inr ⟨_,its.toArray,n,e,rfl,rfl,rfl,by rw[Ax,← v.length];exact l,by simpa using v⟩
def U6 (H:Hp):Prop:=∀ b,H b=none∨∃ o xs,H b=Aa (.frz o (.lst xs))
def JT {P:Bg}{w:By}{K:Al}{mg mb:As→Am Ad}{CX:CXT}{k:Ai}{fa a:Af}{fd:Fw}{x:As}{sp:Sp}{s₁:Ag}{vs:Ab Ad}{ns:Ab Ak}
  (KX:K.In s₁.heap) (hns:s₁.heap.Ns Cp mg) (hb:s₁.heap.Ns Uk mb) (hbb:∀ x:As,x ≠ "__name__" → mb x=Fv x) (hlim:s₁.heap.NoLimit) (hg:s₁.gens=#[])
  (ha:s₁.heap.get? a=Aa { cls:=.type "list",data:=.seq vs.toArray }) (hi:Iy vs ns) (hl:ns.length≤sizeLine) (hr:Room k Qe)
  (F:∀ base:Bk,K.In base→base.Ns Cp mg→FnOk P w K mg base CX k fa fd [x] sp) (hbind:∀ (s:Ag) (u:Ad),Oa s fd ⟨[u],[]⟩ [(x,u)])
  (hsp:∀ H:Hp,U6 H→SqX K H a (ns.map V.int)→sp [.ref a] H (λv _=>v=.bl true) λ_ _ _=>Fe)
  (hCX:∀ H e s',CX [] H s₁ (λ_ _ _=>Fe) e s'→Fe) :
  Jk (Au P w) Qe (.call (.ref fa) ⟨[.ref a],[]⟩) (λr s'=>r=.ok (.ret (.bool true))∧OldK s₁.heap s'.heap∧s'.os=s₁.os∧Mm s'.gens) s₁:=by
 have rv:=VY hi;have lenV:=hi.length;have core:∀ H:Hp,U6 H→SqX K H a (ns.map V.int)→HOk P w H s₁.heap→(∀ b,H b≠none→b=a)→(H a≠none→K.lookup a=none) →
   Jk (Au P w) Qe (.call (.ref fa) ⟨[.ref a],[]⟩) (λr s'=>r=.ok (.ret (.bool true))∧OldK s₁.heap s'.heap∧s'.os=s₁.os∧Mm s'.gens) s₁:=by
  intro H hO hS hok hA hK;have base_of:∀ {b:Af} {o:Cr},s₁.heap.get? b=Aa o→H b=none→(pX s₁.heap H).get? b=Aa o:=λe n=>JL e n;have noA:∀ {b:Af} {o:Cr} {es:Bj DictEntry} {ep:Ai},s₁.heap.get? b=Aa o→o.data=.dict es ep→H b=none:=λ{b o es ep} e d=>by
   cases q:H b with
   |none=>rfl
   |some u =>
    have e':b=a:=hA b (by rw[q];simp)
    subst e';rw[ha] at e;cases e;have d':Data.seq vs.toArray _=Data.dict es ep:=d;cases d'
  have nsK:∀ {b:Af} {m:As→Am Ad},s₁.heap.Ns b m→(pX s₁.heap H).Ns b m:=λ{b m} ⟨o,es,ep,e,d,r⟩=>⟨o,es,ep,base_of e (noA e d),d,r⟩;have hKb:K.In (pX s₁.heap H):=λb o e=>base_of (KX b o e) (by
   cases q:H b with
   |none=>rfl
   |some u =>
    have e':b=a:=hA b (by rw[q];simp)
    subst e';rw[hK (by rw[q];simp)] at e;cases e)
  have hM:Mod K mg (pX s₁.heap H):=⟨hKb,nsK hns,⟨mb,nsK hb,hbb⟩,let ⟨mc,h1,h2⟩:=hlim;⟨mc,nsK h1,h2⟩⟩
  have e0:Env0 P w K mg (pX s₁.heap H) Qe [] s₁ H:=⟨rfl,hM,λb o e=>MG e,Nat.le_of_eq (WQ _ _),trivial,λb hb=>absurd (show b∈([]:Ab Af) from hb) (by simp),hok,.of_eq hg⟩
  refine Jf ((F _ hKb (nsK hns)).run Qe [] s₁ H ⟨[.ref a],[]⟩ [.ref a] [.ref a] _ _ hr e0 (hbind s₁ (.ref a)) (.cons rfl .nil) (hsp H hO hS)) λr s' h=>?_;cases r with
  |error e=>exact(hCX H e s' h).elim
  |ok fl =>
   cases fl with
   |next=>exact Ap h
   |brk=>exact Ap h
   |cont=>exact Ap h
   |ret u =>
    obtain⟨v,H',os,bare,un,hok',r',q⟩:=h;have q':v=.bl true:=q;subst q';obtain rfl:u=Es true:=r';refine⟨rfl,OldK.of_keep λb o e=>?_,os,bare⟩;cases q:H b with
    |none=>exact un.keep b o e q (by intro z;exact absurd (show b∈([]:Ab Af) from z) (by simp)) (by simp)
    |some u =>
     rcases hO b with z|⟨ob,xs,z⟩
     ·rw[q] at z;cases z
     ·have z2:=un.frzs b ob _ z
      obtain⟨e1,_⟩:=hok b _ z;obtain⟨e2,_⟩:=hok' b _ z2;rw[e] at e1;cases e1;exact e2
 cases hk:K.lookup a with
 |some o =>
  have e:=KX a o hk;rw[ha] at e;cases e;refine core (λ_=>none) (λ_=>.inl rfl) (.inr ⟨vs,_,hk,by rw[Ay];exact hl,rv⟩) (λb u z=>by have z':(none:Am HO)=Aa u:=z;cases z') (λb z=>absurd rfl z) λz=>absurd rfl z
 |none =>
  refine core (λb=>if b=a then Aa (.frz { cls:=.type "list",data:=.seq vs.toArray } (.lst (ns.map V.int))) else none) (λb=>?_) (.inl (.inr ⟨{ cls:=.type "list",data:=.seq vs.toArray },Bd rfl⟩)) (λb u z=>?_) (λb z=>?_) λ_=>hk
  ·by_cases hb:b=a
   ·exact .inr ⟨_,_,Bd hb⟩
   ·exact .inl (Be hb)
  ·by_cases hb:b=a
   ·have z':=(Bd hb).symm.trans z
    cases z';subst hb;exact⟨ha,by rw[Ay];exact hl,vs,_,rv,ha⟩
   ·have z':=(Be hb).symm.trans z
    cases z'
  ·by_cases hb:b=a
   ·exact hb
   ·exact absurd (Be hb) z
end _L
namespace _L
open PySem PySem.Spec PyProof.Rows
def NC {l:Yn}{n k:Ai}{q:Bg}{loose:Ab As}{XP:(As→Am Ad)→Bk→Prop}{YP:By→Bk→Prop}{d:DefRec}{K:Zp→Al}{CX:By→CXT}{sp:By→Sp}{x:As}
  (hn:l.most=Aa n) (hn2:n≤sizeLine) (hdf:d.params.defaults=[]) (hr:Room k Qe)
  (hY:∀ (w:By) (h:Bk),YP w h→(K w.params).In h)
  (F:∀ (w:By) (mg:As→Am Ad) (fa:Af) (h:Bk),(K w.params).In h→h.Ns Cp mg→mg d.name=Aa (.ref fa) →
   ∃ fd:Fw,(∀ (s:Ag) (u:Ad),Oa s fd ⟨[u],[]⟩ [(x,u)]) ∧
    ∀ base:Bk,(K w.params).In base→base.Ns Cp mg→FnOk l.prog w (K w.params) mg base (CX w) k fa fd [x] (sp w))
  (hsp:∀ (w:By) (H:Hp) (a:Af) (ns:Ab Ak),ns.length≤n→U6 H→SqX (K w.params) H a (ns.map V.int)→sp w [.ref a] H (λv _=>v=.bl true) λ_ _ _=>Fe)
  (hCX:∀ (w:By) (H:Hp) (s:Ag) (e:Ad) (s':Ag),CX w [] H s (λ_ _ _=>Fe) e s'→Fe) :
  Uu q loose XP YP l.row.toRowW d [] (λf vs=>Zb f vs):=by
 refine _A.attach_call hn hdf λw s₀ s₁ mg mb fa o pm cd doc a vs ns G Y ho hd hcd hmg hobj hints hlen hg=>?_;have KX:=hY w _ Y;obtain⟨fd,hb,hF⟩:=F w mg fa _ KX G.T.g hmg;exact JT KX G.T.g G.T.b G.T.builtins G.T.nolimit hg hobj hints (Dc hlen hn2) hr hF hb (λH hO hS=>hsp w H a ns hlen hO hS) λH e s'=>hCX w H s₁ e s'
end _L
namespace _L
open PySem PySem.Spec PyProof.Rows
variable {ps:Ab As}{f:Af}{x qual:As}{H:Hp}
def vJ (s:Fd):Arguments:=match s with
 |.FunctionDef _ a _ _ _ _ _ _ _ _=>a
 |_=>{ posonlyargs:=[],args:=[],vararg:=none,kwonlyargs:=[],kw_defaults:=[],kwarg:=none,defaults:=[] }
def xH (s:Fd):Ab Fd:=match s with
 |.FunctionDef _ _ b _ _ _ _ _ _ _=>b
 |_=>[]
def qR (s:Fd):Gb:=match s with
 |.FunctionDef _ _ _ _ _ _ sc _ _ _=>sc
 |_=>{ kind:=.function,names:=[],isGenerator:=false,isCoroutine:=false }
abbrev CX0:CXT:=λ_ _ _ _ _ _=>Fe
structure Fun (K:Al)(x qual:As)(st:Fd)(f:Af)(fd:Fw):Prop where
 ex:∃ (oc:Ad) (od:Am Af) (kV doc pm:Ad) (an:Am Af) (cdv ct:Ad) (osl:Bj (Am Ad)),
  fd=Ha x qual (vJ st) (xH st) (qR st) .none kV doc pm an cdv ct∧K.lookup f=Aa ⟨oc,od,.func fd,osl⟩∧Lu K cdv qual=true
 kp:Ex K (.ref f)=true
section
variable {P:Bg}{w:By}{K:Al}{mg:As→Am Ad}{base:Bk}
def Fun.ok {st:Fd}{fd:Fw}{N:Ab As}{k:Ai}{sp:Sp}(F:Fun K x qual st f fd)(S:FnScope N ps (qR st))(len:∀ vs H Q E,sp vs H Q E→vs.length=ps.length)
  (hbody:∀ (cdv:Ad) (A:Bv) (outer:Ab Jt) (s:Ag) (H:Hp) (vs:Ab V) (Q:VK) (E:XK),Room k (A.deeper (Gm qual (qR st) s.heap.objs.size f cdv))→sp vs H Q E →
   ∃ t,PSs (lW CX0 P w K mg base N qual (qR st) f cdv A outer s H E).nox (xH st) t∧t { nx:=λ_ H'=>Q .non H',rt:=Q } (yP N vs) H):FnOk P w K mg base CX0 (k+1) f fd ps sp:=by
 obtain⟨oc,od,kV,doc,pm,an,cdv,ct,osl,rfl,lk,hcd⟩:=F.ex;refine CJ lk hcd S len λA outer s H vs Q E hr hsp=>?_;obtain⟨t,h,q⟩:=hbody cdv A outer s H vs Q E hr hsp;exact⟨t,h.nox,q⟩
def Fun.binds {st:Fd}{fd:Fw}(F:Fun K x qual st f fd)
  (h:∀ (kV doc pm:Ad) (an:Am Af) (cdv ct:Ad) (us:Ab Ad),us.length=ps.length→Ym (Ha x qual (vJ st) (xH st) (qR st) .none kV doc pm an cdv ct) ⟨us,[]⟩=pure (ps.zip us)):kF K fd ps []:=by
 obtain⟨oc,od,kV,doc,pm,an,cdv,ct,osl,rfl,lk,hcd⟩:=F.ex;exact .all (h kV doc pm an cdv ct)
def DP {st:Fd}{oc:Ad}{od an:Am Af}{osl:Bj (Am Ad)}{kV doc pm cdv ct:Ad}(l:K.lookup f=Aa ⟨oc,od,.func (Ha x qual (vJ st) (xH st) (qR st) .none kV doc pm an cdv ct),osl⟩)
  (c:Lu K cdv qual=true) (k:Ex K (.ref f)=true):Fun K x qual st f (Ha x qual (vJ st) (xH st) (qR st) .none kV doc pm an cdv ct):=⟨⟨oc,od,kV,doc,pm,an,cdv,ct,osl,rfl,l,c⟩,k⟩
end
def qK (H H':Hp):Prop:=∀ b o,H b=Aa o→H' b=Aa o
def qK.refl (H:Hp):qK H H:=λ_ _ h=>h
def qK.trans {H1 H2:Hp}(a:qK H H1)(b:qK H1 H2):qK H H2:=λc o h=>b c o (a c o h)
def qK.free {H':Hp}(e:qK H H'){l:Af}(h:H' l=Aa2):H l=Aa2:=by
 cases q:H l with
 |none=>rfl
 |some o =>
  rw[e l o q] at h;cases h
def qK.seq {K:Al}{H':Hp}{a:Af}{xs:Ab V}(e:qK H H')(h:SqL K H a xs):SqL K H' a xs:=by
 rcases h with (h|⟨o,h⟩)|h
 ·exact .inl (.inl (e _ _ h))
 ·exact .inl (.inr ⟨o,e _ _ h⟩)
 ·exact .inr h
end _L
end
section
namespace _D
open PySem PySem.Spec PyProof.Rows _L
inductive D where
 |non|bl (b:Aq)|int (i:Ak)|str (x:As)|ty (n:Ea)|obj (a:Af)|tup (xs:Ab D)|lst (xs:Ab D)|dct0|loc (i:Ai)|exn (c:Ad)|fd (ks:Ab Key) (ds:Ab D)
def cL (a:Af)(c:Ad):HO:=.ext λh=>∃ ob,h.get? a=Aa ob∧ob.cls=c
inductive MO where
 |dead|lst (xs:Ab D)|dct (kvs:Ab (Key × D))|ins (C:Af) (fs:Ab (As × D))
abbrev Sto:=Ab MO
inductive Res (β : Type) where
 |ok (d:β) (S:Sto)|ex (c:Ad) (x:D) (S:Sto)|bad
@[inline] def Res.bind {β γ:Type}(r:Res β)(f:β→Sto→Res γ) : Res γ:=
 match r with
 |.ok d S=>f d S
 |.ex c x S=>.ex c x S
 |.bad=>.bad
def Res.bind_ok {β γ:Type}(d:β)(S:Sto)(f:β→Sto→Res γ) : (Res.ok d S).bind f=f d S:=rfl
section
variable (K:Al)(P:Hp)(α : Ab Af)
mutual
def Rep:D→V→Prop
 |.non,v=>v=.non
 |.bl b,v=>v=.bl b
 |.int i,v=>v=.int i
 |.str x,v=>v=.str x
 |.ty n,v=>v=.ty n
 |.obj a,v=>v=.ref a∧Ex K (.ref a)=true
 |.tup ds,v=>∃ a vs,v=.ref a∧SqT K P a vs∧qI ds vs
 |.lst ds,v=>∃ a vs,v=.ref a∧SqX K P a vs∧qI ds vs
 |.dct0,v=>∃ a,v=.ref a∧P a=Aa (.dK [])
 |.loc i,v=>∃ a,v=.ref a∧α[i]? = Aa a
 |.exn c,v=>∃ a,v=.ref a∧P a=Aa (cL a c)
 |.fd ks ds,v=>∃ a o vs,v=.ref a∧P a=Aa (.frz o (.dK (ks.zip vs)))∧ks.length=vs.length∧qI ds vs
def qI:Ab D→Ab V→Prop
 |[],vs=>vs=[]
 |d::ds,vs=>∃ w ws,vs=w::ws∧Rep d w∧qI ds ws
end
end
section
variable {K:Al}{P P':Hp}{α α':Ab Af}
def jN (e:qK P P'){a:Af}{xs:Ab V}(h:SqT K P a xs):SqT K P' a xs:=by
 rcases h with (h|⟨o,h⟩)|h
 ·exact .inl (.inl (e _ _ h))
 ·exact .inl (.inr ⟨o,e _ _ h⟩)
 ·exact .inr h
def Q7 (e:qK P P'){a:Af}{u:HO}(h:Rd P a u):Rd P' a u:=by
 rcases h with h|⟨o,h⟩
 ·exact .inl (e _ _ h)
 ·exact .inr ⟨o,e _ _ h⟩
def wU (e:qK P P'){a:Af}{xs:Ab V}(h:SqX K P a xs):SqX K P' a xs:=by
 rcases h with h|h
 ·exact .inl (Q7 e h)
 ·exact .inr h
def mH {i:Ai}{a:Af}(h:α<+:α')(e:α[i]? = Aa a):α'[i]? = Aa a:=by
 obtain⟨r,rfl⟩:=h;rw[Bl (Bb.mp e).1];exact e
mutual
def Rep.mono (e:qK P P')(h:α<+:α'):∀ (d:D) (v:V),Rep K P α d v→Rep K P' α' d v
 |.non,_,r=>by simpa only [Rep] using r
 |.bl _,_,r=>by simpa only [Rep] using r
 |.int _,_,r=>by simpa only [Rep] using r
 |.str _,_,r=>by simpa only [Rep] using r
 |.ty _,_,r=>by simpa only [Rep] using r
 |.obj _,_,r=>by simpa only [Rep] using r
 |.tup ds,v,r=>by
  simp only[Rep] at r ⊢;obtain⟨a,vs,rfl,q,t⟩:=r;exact⟨a,vs,rfl,jN e q,qI.mono e h ds vs t⟩
 |.lst ds,v,r=>by
  simp only[Rep] at r ⊢;obtain⟨a,vs,rfl,q,t⟩:=r;exact⟨a,vs,rfl,wU e q,qI.mono e h ds vs t⟩
 |.dct0,v,r=>by
  simp only[Rep] at r ⊢;obtain⟨a,rfl,q⟩:=r;exact⟨a,rfl,e _ _ q⟩
 |.loc i,v,r=>by
  simp only[Rep] at r ⊢;obtain⟨a,rfl,q⟩:=r;exact⟨a,rfl,mH h q⟩
 |.exn c,v,r=>by
  simp only[Rep] at r ⊢;obtain⟨a,rfl,q⟩:=r;exact⟨a,rfl,e _ _ q⟩
 |.fd ks ds,v,r=>by
  simp only[Rep] at r ⊢;obtain⟨a,o,vs,rfl,q,hl,t⟩:=r;exact⟨a,o,vs,rfl,e _ _ q,hl,qI.mono e h ds vs t⟩
def qI.mono (e:qK P P')(h:α<+:α'):∀ (ds:Ab D) (vs:Ab V),qI K P α ds vs→qI K P' α' ds vs
 |[],vs,r=>by simpa only [qI] using r
 |d::ds,vs,r=>by
  simp only[qI] at r ⊢;obtain⟨w,ws,rfl,r1,r2⟩:=r;exact⟨w,ws,rfl,Rep.mono e h d w r1,qI.mono e h ds ws r2⟩
end
def qI.nil:qI K P α [] []:=by simp only[qI]
def qI.cons {d:D}{v:V}{ds:Ab D}{vs:Ab V}(r:Rep K P α d v)(t:qI K P α ds vs):qI K P α (d::ds) (v::vs):=by
 simp only[qI];exact⟨v,vs,rfl,r,t⟩
def qI.nil_inv {vs:Ab V}(r:qI K P α [] vs):vs=[]:=by simpa only [qI] using r
def qI.cons_inv {d:D}{ds:Ab D}{vs:Ab V}(r:qI K P α (d::ds) vs):∃ w ws,vs=w::ws∧Rep K P α d w∧qI K P α ds ws:=by simpa only [qI] using r
def qI.length:∀ {ds:Ab D} {vs:Ab V},qI K P α ds vs→ds.length=vs.length
 |[],vs,r=>by rw[r.nil_inv];rfl
 |d::ds,vs,r=>by
  obtain⟨w,ws,rfl,_,t⟩:=r.cons_inv;rw[Ci,Ci,t.length]
def qI.append:∀ {ds es:Ab D} {vs ws:Ab V},qI K P α ds vs→qI K P α es ws→qI K P α (ds++es) (vs++ws)
 |[],es,vs,ws,r,t=>by rw[r.nil_inv];exact t
 |d::ds,es,vs,ws,r,t=>by
  obtain⟨w,us,rfl,r1,r2⟩:=r.cons_inv;exact .cons r1 (r2.append t)
def qI.get:∀ {ds:Ab D} {vs:Ab V} {i:Ai} {d:D},qI K P α ds vs→ds[i]? = Aa d→∃ v,vs[i]? = Aa v∧Rep K P α d v
 |[],_,_,_,_,e=>by simp at e
 |d::ds,vs,i,d',r,e=>by
  obtain⟨w,ws,rfl,r1,r2⟩:=r.cons_inv;cases i with
  |zero=>simp at e;subst e;exact⟨w,rfl,r1⟩
  |succ i =>
   obtain⟨v,h1,h2⟩:=r2.get (i:=i) (d:=d') (by simpa using e)
   exact⟨v,by simpa using h1,h2⟩
def qI.drop:∀ {ds:Ab D} {vs:Ab V} (n:Ai),qI K P α ds vs→qI K P α (ds.drop n) (vs.drop n)
 |ds,vs,0,r=>by simpa using r
 |[],vs,n+1,r=>by rw[r.nil_inv];exact .nil
 |d::ds,vs,n+1,r=>by
  obtain⟨w,ws,rfl,_,r2⟩:=r.cons_inv;simpa using r2.drop n
def qI.take:∀ {ds:Ab D} {vs:Ab V} (n:Ai),qI K P α ds vs→qI K P α (ds.take n) (vs.take n)
 |ds,vs,0,r=>by simpa using qI.nil
 |[],vs,n+1,r=>by rw[r.nil_inv];exact .nil
 |d::ds,vs,n+1,r=>by
  obtain⟨w,ws,rfl,r1,r2⟩:=r.cons_inv;simpa using qI.cons r1 (r2.take n)
def qI.set {d:D}{v:V}(q:Rep K P α d v):∀ {ds:Ab D} {vs:Ab V} (n:Ai),qI K P α ds vs→qI K P α (ds.set n d) (vs.set n v)
 |[],vs,n,r=>by rw[r.nil_inv];exact .nil
 |e::ds,vs,0,r=>by
  obtain⟨w,ws,rfl,r1,r2⟩:=r.cons_inv;exact .cons q r2
 |e::ds,vs,n+1,r=>by
  obtain⟨w,ws,rfl,r1,r2⟩:=r.cons_inv;exact .cons r1 (r2.set q n)
end
abbrev qF:=Ab (Am D)
def zP (K:Al)(P:Hp)(α : Ab Af)(σ : _L.St)(env:qF):Prop:=env.length=σ.length∧∀ (i:Ai) (d:D),env[i]? = Aa (Aa d)→∃ v,σ[i]? = Aa (Aa v)∧Rep K P α d v
def KVs (K:Al)(P:Hp)(α : Ab Af){κ : Type}:Ab (κ × D)→Ab (κ × V)→Prop:=Paired λ(p:κ × D) (q:κ × V)=>p.1=q.1∧Rep K P α p.2 q.2
def MOk (K:Al)(H P:Hp)(α : Ab Af)(a:Af):MO→Prop
 |.dead=>Kj
 |.lst ds=>∃ vs,H a=Aa (.lst vs)∧qI K P α ds vs
 |.dct kvs=>∃ vs,H a=Aa (.dK vs)∧KVs K P α kvs vs
 |.ins C fs=>∃ dx vs,H a=Aa (.ins C dx vs)∧KVs K P α fs vs
structure Rel (K:Al)(H P:Hp)(α : Ab Af)(S:Sto):Prop where
 sub:qK P H
 len:α.length=S.length
 nd:α.Nodup
 sep:∀ (i:Ai) (a:Af) (o:MO),α[i]? = Aa a→S[i]? = Aa o→o≠.dead→P a=none
 at':∀ (i:Ai) (a:Af) (o:MO),α[i]? = Aa a→S[i]? = Aa o→MOk K H P α a o
 own:∀ (i:Ai) (a:Af),α[i]? = Aa a→H a≠none
section
variable {K:Al}{H P P':Hp}{α α':Ab Af}{S:Sto}
def zP.mono {σ : _L.St}{env:qF}(e:qK P P')(h:α<+:α')(r:zP K P α σ env):zP K P' α' σ env:=
 ⟨r.1,λi d q=>let ⟨v,h1,h2⟩:=r.2 i d q;⟨v,h1,Rep.mono e h d v h2⟩⟩
def KVs.mono {κ : Type}(e:qK P P')(h:α<+:α'){kvs:Ab (κ × D)}{vs:Ab (κ × V)}(r:KVs K P α kvs vs):KVs K P' α' kvs vs:=by
 refine Paired.mapP r λp q z=>⟨z.1,Rep.mono e h _ _ z.2⟩
def MOk.mono {a:Af}(e:qK P P')(h:α<+:α'):∀ {o:MO},MOk K H P α a o→MOk K H P' α' a o
 |.dead,_=>trivial
 |.lst _,⟨vs,q,r⟩=>⟨vs,q,qI.mono e h _ _ r⟩
 |.dct _,⟨vs,q,r⟩=>⟨vs,q,r.mono e h⟩
 |.ins _ _,⟨dx,vs,q,r⟩=>⟨dx,vs,q,r.mono e h⟩
def Rel.grow {H':Hp}(r:Rel K H P α S)(e:qK H H'):Rel K H' P α S where
 sub:=r.sub.trans e
 len:=r.len
 nd:=r.nd
 sep:=r.sep
 at':=λi a o q1 q2=>by
  have m:=r.at' i a o q1 q2;cases o with
  |dead=>trivial
  |lst ds=>obtain⟨vs,q,t⟩:=m;exact⟨vs,e _ _ q,t⟩
  |dct kvs=>obtain⟨vs,q,t⟩:=m;exact⟨vs,e _ _ q,t⟩
  |ins C fs=>obtain⟨dx,vs,q,t⟩:=m;exact⟨dx,vs,e _ _ q,t⟩
 own:=λi a q=>by
  have m:=r.own i a q;cases z:H a with
  |none=>exact absurd z m
  |some o=>rw[e _ _ z];intro w;cases w
def bD {H:Hp}{a:Af}{o:HO}(h:H a=none):qK H (upd H a o):=λb u e=>by rw[qV (zQ e h)];exact e
def Rel.pure {a:Af}{o:HO}(r:Rel K H P α S)(h:H a=none):Rel K (upd H a o) (upd P a o) α S∧qK P (upd P a o):=by
 have hP:P a=none:=by
  cases z:P a with
  |none=>rfl
  |some u=>rw[r.sub _ _ z] at h;cases h
 have sP:qK P (upd P a o):=bD hP;have r1:=r.grow (bD (o:=o) h);refine⟨⟨λb u e=>?_,r.len,r.nd,λi b u q1 q2 q3=>?_,λi b u q1 q2=>(r1.at' i b u q1 q2).mono sP (Bp _),r1.own⟩,sP⟩
 ·by_cases hb:b=a
  ·subst hb;rw[zM] at e ⊢;exact e
  ·rw[qV hb] at e ⊢;exact r.sub _ _ e
 ·have hb:b≠a:=by rintro rfl;exact r.own i b q1 h
  rw[qV hb];exact r.sep i b u q1 q2 q3
def Rel.new {a:Af}{o:HO}{m:MO}(r:Rel K H P α S)(h:H a=none)(hm:MOk K (upd H a o) P (α ++ [a]) a m):Rel K (upd H a o) P (α ++ [a]) (S++[m]):=by
 have hP:P a=none:=by
  cases z:P a with
  |none=>rfl
  |some u=>rw[r.sub _ _ z] at h;cases h
 have r1:=r.grow (bD (o:=o) h);have hp:α<+:α++[a]:=Li _ _;have split:∀ (i:Ai) (b:Af),(α++[a])[i]? = Aa b→(i<α.length∧α[i]? = Aa b)∨(i=α.length∧b=a):=λi b q=>by
  by_cases hi:i<α.length
  ·rw[Bl hi] at q;exact .inl ⟨hi,q⟩
  ·rw[Eb om] at q
   cases hk:i-α.length with
   |zero=>rw[hk] at q;simp at q;exact .inr ⟨by omega,q.symm⟩
   |succ k=>rw[hk] at q;simp at q
 refine⟨r1.sub,by simp[r.len],?_,λi b u q1 q2 q3=>?_,λi b u q1 q2=>?_,λi b q=>?_⟩
 ·rw[Ma]
  refine⟨r.nd,by simp,λb hb c hc e=>?_⟩
  simp at hc;subst hc;subst e;obtain⟨i,hi,e⟩:=Cu.mp hb;exact r.own i b (by rw[An hi,e]) h
 ·rcases split i b q1 with⟨hi,z⟩|⟨hi,rfl⟩
  ·rw[Bl (by rw[← r.len];exact hi)] at q2
   exact r.sep i b u z q2 q3
  ·exact hP
 ·rcases split i b q1 with⟨hi,z⟩|⟨hi,rfl⟩
  ·rw[Bl (by rw[← r.len];exact hi)] at q2
   exact(r1.at' i b u z q2).mono (qK.refl _) hp
  ·rw[hi,r.len,Eb (Aw _)] at q2
   simp at q2;subst q2;exact hm
 ·rcases split i b q with⟨_,z⟩|⟨_,rfl⟩
  ·exact r1.own i b z
  ·rw[zM];intro z;cases z
def rC {N:Ab Af}(hN:N.Nodup){i j:Ai}{x:Af}(a:N[i]? = Aa x)(b:N[j]? = Aa x):i=j:=by
 obtain⟨h1,e1⟩:=Bb.mp a;obtain⟨h2,e2⟩:=Bb.mp b;exact(Mn hN).mp (e1.trans e2.symm)
def Rel.put {a:Af}{i:Ai}{o:HO}{m m':MO}(r:Rel K H P α S)(ha:α[i]? = Aa a)(hs:S[i]? = Aa m)(hd:m≠.dead)(hm:MOk K (upd H a o) P α a m'):Rel K (upd H a o) P α (S.set i m'):=by
 have hP:=r.sep i a m ha hs hd;have hi:i<S.length:=(Bb.mp hs).1;refine⟨λb u e=>?_,by simp[r.len],r.nd,λj b u q1 q2 q3=>?_,λj b u q1 q2=>?_,λj b q=>?_⟩
 ·have hb:b≠a:=by rintro rfl;rw[hP] at e;cases e
  rw[qV hb];exact r.sub _ _ e
 ·by_cases hj:j=i
  ·subst hj;rw[ha] at q1;cases q1;exact hP
  ·rw[Cb (Em hj)] at q2;exact r.sep j b u q1 q2 q3
 ·by_cases hj:j=i
  ·subst hj;rw[ha] at q1;cases q1
   rw[Dk hi] at q2;cases q2;exact hm
  ·rw[Cb (Em hj)] at q2
   have hb:b≠a:=by rintro rfl;exact hj (rC r.nd q1 ha)
   have z:=r.at' j b u q1 q2;cases u with
   |dead=>trivial
   |lst ds=>obtain⟨vs,q,t⟩:=z;exact⟨vs,by rw[qV hb];exact q,t⟩
   |dct kvs=>obtain⟨vs,q,t⟩:=z;exact⟨vs,by rw[qV hb];exact q,t⟩
   |ins C fs=>obtain⟨dx,vs,q,t⟩:=z;exact⟨dx,vs,by rw[qV hb];exact q,t⟩
 ·by_cases hb:b=a
  ·subst hb;rw[zM];intro z;cases z
  ·rw[qV hb];exact r.own j b q
end
def nn {β : Type}{a:β}{p:Prop}(h:(none:Am β) = Aa a):p:=by cases h
def g9 {β : Type}{c:Prop}[Te c]{a b:β}(h:(if c then Aa a else none)=Aa b):c∧a=b:=by
 by_cases z:c
 ·rw[Bd z] at h;exact⟨z,Ct h⟩
 ·rw[Be z] at h;exact nn h
end _D
end
namespace _D
open PySem PySem.Spec PyProof.Rows _L
variable {more:Ab (Af × Cr)}{us args cs:Ab Ad}{body:Ab Fd}{vs:Ab V}{u vv:Ad}{p C:Af}{od:Am Af}{sl:Bj (Am Ad)}{R:It→Hp→Prop}{M:Nm}{sp:Sp}{S S1:Sto}{Q:VK}
abbrev DE:=qF→Sto→Res D
abbrev DT:=qF→Sto→Res Aq
abbrev DA:=qF→Sto→Res (Ab D)
inductive Out where
 |nx (env:qF) (S:Sto)|rt (d:D) (S:Sto)|bk (env:qF) (S:Sto)|ct (env:qF) (S:Sto)|ex (c:Ad) (x:D) (env:qF) (S:Sto)|bad
abbrev DS:=qF→Sto→Out
def Old (X:Cx)(pins:Ab (Af × Cr))(H:Hp)(b:Af):Prop:=
 (∃ o,X.s₀.heap.get? b=Aa o)∨H b≠none∨(∃ p∈X.pn++pins,p.1=b)∨∃ x,X.env.cells.lookup x=Aa b
def Cv (X:Cx)(pins:Ab (Af × Cr))(H:Hp)(B h:Bk):Prop:=∀ b o,h.get? b=Aa o→Old X pins H b→b ∉ frs X.stack→B.get? b=Aa o
inductive FlyX (X:Cx)(pins:Ab (Af × Cr))(H:Hp)(c:Ad)(e:Af)(h:Bk):Prop where
 |new (g:Bk) (args:Ab Ad):Tz g h e c args→g.FunFrames X.base X.stack→(∀ b o,h.get? b=Aa o→Old X pins H b→g.get? b=Aa o)→FlyX X pins H c e h
 |fly (B:Bk) (a0:Ad):Nz B X.stack e c a0 h→Cv X pins H B h→FlyX X pins H c e h
inductive XOk (X:Cx)(P:Hp)(α : Ab Af)(c:Ad)(x:D)(S:Sto)(u:Ad)(s:Ag):Prop
 |mk (e:Af) (pins:Ab (Af × Cr)) (σ : _L.St) (H:Hp) (P':Hp) (α' : Ab Af) (e1:u=.ref e) (I:Inv X pins σ H s) (r:Rel X.K H P' α' S) (q1:qK P P') (q2:α<+:α') (q3:X.ex=[]∧X.stack=X.env::X.outer∧X.env.frame=Aa X.env.locals) (q4:FlyX X pins H c e s.heap):XOk X P α c x S u s
def XOk.base {X:Cx}{P P1:Hp}{α α1:Ab Af}{c:Ad}{x:D}{s:Ag}(e:qK P P1)(h:α<+:α1)(k:XOk X P1 α1 c x S u s):XOk X P α c x S u s:=by
 obtain⟨a,pins,σ,H,P',α',e1,I,r,q1,q2,q3,q4⟩:=k;exact⟨a,pins,σ,H,P',α',e1,I,r,e.trans q1,h.trans q2,q3,q4⟩
section
variable (X:Cx)
def qQ {β:Type}(P:Hp)(α : Ab Af)(r:Res β)(Ok:β→Sto→Prop):Prop:=
 match r with
 |.ok d S'=>Ok d S'
 |.ex c x S'=>∀ u s',XOk X P α c x S' u s'→X.xe u s'
 |.bad=>Fe
def OkV (P:Hp)(α : Ab Af)(Q:VK)(d:D)(S':Sto):Prop:=∀ v H' P' α',Rel X.K H' P' α' S'→qK P P'→α<+:α'→Rep X.K P' α' d v→Q v H'
def OkT (P:Hp)(α : Ab Af)(Q:Aq→Hp→Prop)(b:Aq)(S':Sto):Prop:=∀ H' P' α',Rel X.K H' P' α' S'→qK P P'→α<+:α'→Q b H'
def OkA (P:Hp)(α : Ab Af)(Q:Ab V→Hp→Prop)(ds:Ab D)(S':Sto):Prop:=∀ vs H' P' α',Rel X.K H' P' α' S'→qK P P'→α<+:α'→qI X.K P' α' ds vs→Q vs H'
abbrev zH (P:Hp)(α : Ab Af)(r:Res D)(Q:VK):Prop:=qQ X P α r (OkV X P α Q)
abbrev yY (P:Hp)(α : Ab Af)(r:Res Aq)(Q:Aq→Hp→Prop):Prop:=qQ X P α r (OkT X P α Q)
abbrev bO (P:Hp)(α : Ab Af)(r:Res (Ab D))(Q:Ab V→Hp→Prop):Prop:=qQ X P α r (OkA X P α Q)
def zR (P:Hp)(α : Ab Af)(r:Out)(D:Ends):Prop:=
 match r with
 |.nx env' S'=>∀ σ' H' P' α',Rel X.K H' P' α' S'→zP X.K P' α' σ' env'→qK P P'→α<+:α'→D.nx σ' H'
 |.bk env' S'=>∀ σ' H' P' α',Rel X.K H' P' α' S'→zP X.K P' α' σ' env'→qK P P'→α<+:α'→D.bk σ' H'
 |.ct env' S'=>∀ σ' H' P' α',Rel X.K H' P' α' S'→zP X.K P' α' σ' env'→qK P P'→α<+:α'→D.ct σ' H'
 |.rt d S'=>∀ v H' P' α',Rel X.K H' P' α' S'→qK P P'→α<+:α'→Rep X.K P' α' d v→D.rt v H'
 |.ex c x _ S'=>∀ u s',XOk X P α c x S' u s'→X.xe u s'
 |.bad=>Fe
inductive tD (f:DE)(σ : _L.St)(H:Hp)(Q:VK):Prop
 |mk (P:Hp) (α : Ab Af) (env:qF) (S:Sto) (r:Rel X.K H P α S) (re:zP X.K P α σ env) (af:zH X P α (f env S) Q):tD f σ H Q
inductive tDT (f:DT)(σ : _L.St)(H:Hp)(Q:Aq→Hp→Prop):Prop
 |mk (P:Hp) (α : Ab Af) (env:qF) (S:Sto) (r:Rel X.K H P α S) (re:zP X.K P α σ env) (af:yY X P α (f env S) Q):tDT f σ H Q
inductive tDA (f:DA)(σ : _L.St)(H:Hp)(Q:Ab V→Hp→Prop):Prop
 |mk (P:Hp) (α : Ab Af) (env:qF) (S:Sto) (r:Rel X.K H P α S) (re:zP X.K P α σ env) (af:bO X P α (f env S) Q):tDA f σ H Q
inductive tDS (f:DS)(D:Ends)(σ : _L.St)(H:Hp):Prop
 |mk (P:Hp) (α : Ab Af) (env:qF) (S:Sto) (r:Rel X.K H P α S) (re:zP X.K P α σ env) (af:zR X P α (f env S) D):tDS f D σ H
end
section
variable {X:Cx}{P P1:Hp}{α α1:Ab Af}
def zH.base {r:Res D}(e:qK P P1)(h:α<+:α1)(k:zH X P α r Q):zH X P1 α1 r Q:=by
 cases r with
 |ok d S=>exact λv H' P' α' r q1 q2 q3=>k v H' P' α' r (e.trans q1) (h.trans q2) q3
 |ex c x S=>exact λu s' q=>k u s' (q.base e h)
 |bad=>exact k
def yY.base {r:Res Aq}{Q:Aq→Hp→Prop}(e:qK P P1)(h:α<+:α1)(k:yY X P α r Q):yY X P1 α1 r Q:=by
 cases r with
 |ok d S=>exact λH' P' α' r q1 q2=>k H' P' α' r (e.trans q1) (h.trans q2)
 |ex c x S=>exact λu s' q=>k u s' (q.base e h)
 |bad=>exact k
def bO.base {r:Res (Ab D)}{Q:Ab V→Hp→Prop}(e:qK P P1)(h:α<+:α1)(k:bO X P α r Q):bO X P1 α1 r Q:=by
 cases r with
 |ok d S=>exact λv H' P' α' r q1 q2 q3=>k v H' P' α' r (e.trans q1) (h.trans q2) q3
 |ex c x S=>exact λu s' q=>k u s' (q.base e h)
 |bad=>exact k
def zR.base {r:Out}{D:Ends}(e:qK P P1)(h:α<+:α1)(k:zR X P α r D):zR X P1 α1 r D:=by
 cases r with
 |nx env S=>exact λv H' P' α' r q0 q1 q2=>k v H' P' α' r q0 (e.trans q1) (h.trans q2)
 |bk env S=>exact λv H' P' α' r q0 q1 q2=>k v H' P' α' r q0 (e.trans q1) (h.trans q2)
 |ct env S=>exact λv H' P' α' r q0 q1 q2=>k v H' P' α' r q0 (e.trans q1) (h.trans q2)
 |rt d S=>exact λv H' P' α' r q1 q2 q3=>k v H' P' α' r (e.trans q1) (h.trans q2) q3
 |ex c x env S=>exact λu s' q=>k u s' (q.base e h)
 |bad=>exact k
def xr {v:V}{H:Hp}{d:D}(k:OkV X P α Q d S)(r:Rel X.K H P α S)(q:Rep X.K P α d v):Q v H:=k v H P α r (qK.refl _) (Bp _) q
end
section
variable {X:Cx}{a b e:Bx}{pos:Fa}
def peW {t t':TE}(h:PE X e t)(w:∀ σ H Q,t' σ H Q→t σ H Q):PE X e t':=λpins s σ H Q I q=>h pins s σ H Q I (w σ H Q q)
def psW {st:Fd}{t t':TS}(h:PS X st t)(w:∀ D σ H,t' D σ H→t D σ H):PS X st t':=λpins s σ H D I q=>h pins s σ H D I (w D σ H q)
def E0 {st:Ab Fd}{t t':TS}(h:PSs X st t)(w:∀ D σ H,t' D σ H→t D σ H):PSs X st t':=λpins s σ H D I q=>h pins s σ H D I (w D σ H q)
def paW {es:Ab Bx}{t t':TA}(h:PA X es t)(w:∀ σ H Q,t' σ H Q→t σ H Q):PA X es t':=λpos pins s σ H Q I q=>h pos pins s σ H Q I (w σ H Q q)
structure Got (X:Cx)(pins:Ab (Af × Cr))(σ : _L.St)(env:qF)(P:Hp)(α : Ab Af)(u:Ad)(s1:Ag)(v:V)(H1 P1:Hp)(α1:Ab Af)(d:D)(S1:Sto):Prop where
 inv:Inv X pins σ H1 s1
 val:qP v u
 rel:Rel X.K H1 P1 α1 S1
 env:zP X.K P1 α1 σ env
 rep:Rep X.K P1 α1 d v
 same:qK P P1
 pre:α<+:α1
inductive GotG (X:Cx)(pins:Ab (Af × Cr))(σ : _L.St)(env:qF)(P:Hp)(α : Ab Af)(u:Ad)(s1:Ag){γ : Type}(g:D→Sto→Res γ)(Ok:γ→Sto→Prop):Prop
 |mk (v:V) (H1 P1:Hp) (α1:Ab Af) (d:D) (S1:Sto) (G:Got X pins σ env P α u s1 v H1 P1 α1 d S1) (q:qQ X P α (g d S1) Ok):GotG X pins σ env P α u s1 g Ok
inductive GotAG (X:Cx)(pins:Ab (Af × Cr))(σ : _L.St)(env:qF)(P:Hp)(α : Ab Af)(us:Ab Ad)(s1:Ag){γ : Type}(g:Ab D→Sto→Res γ)(Ok:γ→Sto→Prop):Prop
 |mk (vs:Ab V) (H1 P1:Hp) (α1:Ab Af) (ds:Ab D) (S1:Sto) (I:Inv X pins σ H1 s1) (rv:qT vs us) (r:Rel X.K H1 P1 α1 S1) (re:zP X.K P1 α1 σ env) (rp:qI X.K P1 α1 ds vs) (e1:qK P P1) (e2:α<+:α1) (q:qQ X P α (g ds S1) Ok):GotAG X pins σ env P α us s1 g Ok
inductive GotT (X:Cx)(pins:Ab (Af × Cr))(σ : _L.St)(env:qF)(P:Hp)(α : Ab Af)(b:Aq)(s1:Ag){γ : Type}(g:Aq→Sto→Res γ)(Ok:γ→Sto→Prop):Prop
 |mk (H1 P1:Hp) (α1:Ab Af) (S1:Sto) (I:Inv X pins σ H1 s1) (r:Rel X.K H1 P1 α1 S1) (re:zP X.K P1 α1 σ env) (e1:qK P P1) (e2:α<+:α1) (q:qQ X P α (g b S1) Ok):GotT X pins σ env P α b s1 g Ok
def zZ {γ:Type}{f:DE}{g:D→Sto→Res γ}{Ok:γ→Sto→Prop}{pins:Ab (Af × Cr)}{s:Ag}{σ:_L.St}{H P:Hp}{α:Ab Af}{env:qF}(he:PE X e (tD X f))(I:Inv X pins σ H s)(r:Rel X.K H P α S)
  (re:zP X.K P α σ env) (af:qQ X P α ((f env S).bind g) Ok) :
  Ao (Au X.prog X.w) X.A (eval e X.env) (λu s1=>GotG X pins σ env P α u s1 g Ok) X.xe s:=by
 refine thn (he pins s σ H (λv H1=>∃ P1 α1 d S1,Rel X.K H1 P1 α1 S1∧zP X.K P1 α1 σ env∧Rep X.K P1 α1 d v∧qK P P1∧α<+:α1∧qQ X P α (g d S1) Ok) I ⟨P,α,env,S,r,re,?_⟩) λu s1 ⟨v,H1,I1,rv,P1,α1,d,S1,q1,q2,q3,q4,q5,q6⟩=>⟨v,H1,P1,α1,d,S1,⟨I1,rv,q1,q2,q3,q4,q5⟩,q6⟩;cases q:f env S with
 |bad=>rw[q] at af;exact af
 |ex c x S'=>rw[q] at af;exact af
 |ok d S' =>
  rw[q] at af;exact λv H' P' α' r' e1 e2 rp=>⟨P',α',d,S',r',re.mono e1 e2,rp,e1,e2,af⟩
def v8 {γ:Type}{es:Ab Bx}{f:DA}{g:Ab D→Sto→Res γ}{Ok:γ→Sto→Prop}{pins:Ab (Af × Cr)}{s:Ag}{σ:_L.St}{H P:Hp}{α:Ab Af}{env:qF}(he:PA X es (tDA X f))(I:Inv X pins σ H s)(r:Rel X.K H P α S)
  (re:zP X.K P α σ env) (af:qQ X P α ((f env S).bind g) Ok) (pos:Fa) :
  Ao (Au X.prog X.w) X.A (spliced (Gf pos (Bh es X.env))) (λus s1=>GotAG X pins σ env P α us s1 g Ok) X.xe s:=by
 refine thn (he pos pins s σ H (λvs H1=>∃ P1 α1 ds S1,Rel X.K H1 P1 α1 S1∧zP X.K P1 α1 σ env∧qI X.K P1 α1 ds vs∧qK P P1∧α<+:α1∧qQ X P α (g ds S1) Ok) I ⟨P,α,env,S,r,re,?_⟩) λu s1 ⟨v,H1,I1,rv,P1,α1,d,S1,q1,q2,q3,q4,q5,q6⟩=>⟨v,H1,P1,α1,d,S1,I1,rv,q1,q2,q3,q4,q5,q6⟩;cases q:f env S with
 |bad=>rw[q] at af;exact af
 |ex c x S'=>rw[q] at af;exact af
 |ok d S' =>
  rw[q] at af;exact λv H' P' α' r' e1 e2 rp=>⟨P',α',d,S',r',re.mono e1 e2,rp,e1,e2,af⟩
def pE {γ:Type}{f:DT}{g:Aq→Sto→Res γ}{Ok:γ→Sto→Prop}{pins:Ab (Af × Cr)}{s:Ag}{σ:_L.St}{H P:Hp}{α:Ab Af}{env:qF}{m:Nd Aq}
  (he:∀ (Q:Aq→Hp→Prop),tDT X f σ H Q→Ao (Au X.prog X.w) X.A m (TP X pins σ Q) X.xe s) (r:Rel X.K H P α S) (re:zP X.K P α σ env) (af:qQ X P α ((f env S).bind g) Ok) :
  Ao (Au X.prog X.w) X.A m (λb s1=>GotT X pins σ env P α b s1 g Ok) X.xe s:=by
 refine thn (he (λb H1=>∃ P1 α1 S1,Rel X.K H1 P1 α1 S1∧zP X.K P1 α1 σ env∧qK P P1∧α<+:α1∧qQ X P α (g b S1) Ok) ⟨P,α,env,S,r,re,?_⟩) λb s1 ⟨H1,I1,P1,α1,S1,q1,q2,q4,q5,q6⟩=>⟨H1,P1,α1,S1,I1,q1,q2,q4,q5,q6⟩;cases q:f env S with
 |bad=>rw[q] at af;exact af
 |ex c x S'=>rw[q] at af;exact af
 |ok d S' =>
  rw[q] at af;exact λH' P' α' r' e1 e2=>⟨P',α',S',r',re.mono e1 e2,e1,e2,af⟩
def dC (d:D):DE:=λ_ S=>.ok d S
def qB (i:Ai):DE:=λenv S=>match env[i]? with
 |some (Aa d)=>.ok d S
 |_=>.bad
def LJ:PE X (.Constant (.int i) j pos) (tD X (dC (.int i))):=peW RM λσ H Q ⟨P,α,env,S,r,re,af⟩=>xr af r (by simp only[Rep])
def HW:PE X (.Constant (.bool i) j pos) (tD X (dC (.bl i))):=peW AH λσ H Q ⟨P,α,env,S,r,re,af⟩=>xr af r (by simp only[Rep])
def LR:PE X (.Constant (.str i) j pos) (tD X (dC (.str i))):=peW RP λσ H Q ⟨P,α,env,S,r,re,af⟩=>xr af r (by simp only[Rep])
def LN:PE X (.Constant .none j pos) (tD X (dC .non)):=peW RN λσ H Q ⟨P,α,env,S,r,re,af⟩=>xr af r (by simp only[Rep])
set_option tactic.hygienic true in
def N7 {i:Ai}{σ:_L.St}{H:Hp}(h:tD X (qB i) σ H Q):H8 i σ H Q:=by
 obtain⟨P,α,env,S,r,re,af⟩:=h;unfold qB at af
 split at af
 ·rename_i d q
  obtain⟨v,h1,h2⟩:=re.2 i d q;exact⟨v,h1,xr af r h2⟩
 ·exact Ap af
def dv (i:Ai){x:As}(hN:X.N[i]? = Aa x:=by rfl)(hv:Vis X.env.scope x:=by first|exact Zq rfl|exact Xw (Zq rfl)|exact Xw (Xw rfl))(hd:(x == ("__debug__" : As))=false:=by decide)
  (hcd:(x == ("__classdict__" : As))=false:=by decide):PE X (.Name x pos) (tD X (qB i)):=peW (RS hN hv hd hcd) λσ H Q h=>N7 h
def iX {x:As}{d:D}{v:V}(hg:Gl X x)(hm:X.mg x=Aa u)(r:qP v u)(q:∀ P α,Rep X.K P α d v)(hd:(x == ("__debug__" : As))=false:=by decide):PE X (.Name x pos) (tD X (dC d)):=
 peW (MM hg hm r hd) λσ H Q ⟨P,α,env,S,r,re,af⟩=>xr af r (q _ _)
def BU {x:As}{n:Ea}(hg:Gl X x)(hm:X.mg x=none)(hv:Fv x=Aa (.type n))(hn:x ≠ "__name__":=by decide)(hd:(x == ("__debug__" : As))=false:=by decide):PE X (.Name x pos) (tD X (dC (.ty n))):=
 peW (ML (v:=.ty n) hg hm hv rfl hn hd) λσ H Q ⟨P,α,env,S,r,re,af⟩=>xr af r (by simp only[Rep])
abbrev G2:=D→D→Sto→Res D
def OpD (X:Cx)(f:Ad→Ad→Nd Ad)(g:G2):Prop:=
 ∀ (pins:Ab (Af × Cr)) (σ : _L.St) (H:Hp) (s:Ag) (P:Hp) (α : Ab Af) (S:Sto) (v u:V) (vv uu:Ad) (a b:D) (Q:VK),Inv X pins σ H s→Rel X.K H P α S→qP v vv→qP u uu→Rep X.K P α a v→Rep X.K P α b u→zH X P α (g a b S) Q →
  Ao (Au X.prog X.w) X.A (f vv uu) (EP X pins σ Q) X.xe s
def OpD.of {f:Ad→Ad→Nd Ad}{r:R2}{g:G2}(h:OpR X f r)(w:∀ H P α S v u a b Q,Rel X.K H P α S→Rep X.K P α a v→Rep X.K P α b u→zH X P α (g a b S) Q→r v u H Q):OpD X f g:=
 λpins σ H s P α S v u vv uu a b Q I rl r1 r2 p1 p2 af=>h pins s σ H v u vv uu Q I r1 r2 (w H P α S v u a b Q rl p1 p2 af)
def UnD (X:Cx)(f:Ad→Nd Ad)(g:D→Sto→Res D):Prop:=
 ∀ (pins:Ab (Af × Cr)) (σ : _L.St) (H:Hp) (s:Ag) (P:Hp) (α : Ab Af) (S:Sto) (v:V) (vv:Ad) (a:D) (Q:VK),Inv X pins σ H s→Rel X.K H P α S→qP v vv→Rep X.K P α a v→zH X P α (g a S) Q →
  Ao (Au X.prog X.w) X.A (f vv) (EP X pins σ Q) X.xe s
def IxD (X:Cx)(g:G2):Prop:=
 ∀ (value slice:Bx) (pins:Ab (Af × Cr)) (σ : _L.St) (H:Hp) (s:Ag) (P:Hp) (α : Ab Af) (S:Sto) (v u:V) (vv uu:Ad) (a b:D) (Q:VK),Inv X pins σ H s→Rel X.K H P α S→qP v vv→qP u uu→Rep X.K P α a v→Rep X.K P α b u→zH X P α (g a b S) Q →
  subscripted slice false vv uu=operate [vv,uu] (IN vv uu)→Ao (Au X.prog X.w) X.A (Qc value slice vv uu) (EP X pins σ Q) X.xe s
def yV (X:Cx)(f:Ad)(g:Ab D→Sto→Res D):Prop:=
 ∀ (pins:Ab (Af × Cr)) (σ : _L.St) (H:Hp) (s:Ag) (P:Hp) (α : Ab Af) (S:Sto) (vs:Ab V) (us:Ab Ad) (ds:Ab D) (Q:VK),Inv X pins σ H s→Rel X.K H P α S→qT vs us→qI X.K P α ds vs→zH X P α (g ds S) Q →
  Ao (Au X.prog X.w) X.A (call f us) (EP X pins σ Q) X.xe s
def d2 (g:G2)(fa fb:DE):DE:=λenv S=>(fa env S).bind λx S1=>(fb env S1).bind λy S2=>g x y S2
def d1 (g:D→Sto→Res D)(fa:DE):DE:=λenv S=>(fa env S).bind g
variable {fa fb:DE}
def cF {g:G2}{f:Ad→Ad→Nd Ad}{pins:Ab (Af × Cr)}{s:Ag}{σ:_L.St}{H:Hp}(ho:OpD X f g)(ha:PE X a (tD X fa))(hb:PE X b (tD X fb))(I:Inv X pins σ H s)(h:tD X (d2 g fa fb) σ H Q) :
  Ao (Au X.prog X.w) X.A (eval a X.env) (λv s₁=>Ao (Au X.prog X.w) X.A (eval b X.env) (λu s₂=>Ao (Au X.prog X.w) X.A (f v u) (EP X pins σ Q) X.xe s₂) X.xe s₁) X.xe s:=by
 obtain⟨P,α,env,S,r,re,af⟩:=h;refine thn (zZ ha I r re af) λvv s1 ⟨v,H1,P1,α1,d,S1,G1,af1⟩=>?_;refine thn (zZ hb G1.inv G1.rel G1.env (P:=P1) (α:=α1) (Ok:=OkV X P1 α1 Q) (g:=λy S2=>g d y S2) ?_) λuu s2 ⟨u,H2,P2,α2,d',S2,G2,af2⟩=>?_
 ·exact zH.base G1.same G1.pre af1
 ·exact ho pins σ H2 s2 P2 α2 S2 v u vv uu d d' Q G2.inv G2.rel G1.val G2.val (Rep.mono G2.same G2.pre _ _ G1.rep) G2.rep (zH.base G2.same G2.pre af2)
def CA {op:Operator}{g:G2}(ho:OpD X (Eh op) g)(ha:PE X a (tD X fa))(hb:PE X b (tD X fb)):PE X (.BinOp a op b pos) (tD X (d2 g fa fb)):=
 λpins s σ H Q I h=>wpAny_BinOp (cF ho ha hb I h)
def LH {op:Tj}{g:G2}(ho:OpD X (Cc op) g)(ha:PE X a (tD X fa))(hb:PE X b (tD X fb))(hm:Kp op b=false:=by first|exact pL _|with_unfolding_all rfl):PE X (.Compare a [op] [b] pos) (tD X (d2 g fa fb)):=
 λpins s σ H Q I h=>wpAny_Compare1 (cF ho ha hb I h) hm
def CB {op:UnaryOp}{g:D→Sto→Res D}(ho:UnD X (Xp op) g)(ha:PE X a (tD X fa)):PE X (.UnaryOp op a pos) (tD X (d1 g fa)):=by
 intro pins s σ H Q I h;obtain⟨P,α,env,S,r,re,af⟩:=h;exact UnaryOp_ (thn (zZ ha I r re af) λvv s1 ⟨v,H1,P1,α1,d,S1,G1,af1⟩=>ho pins σ H1 s1 P1 α1 S1 v vv d Q G1.inv G1.rel G1.val G1.rep (zH.base G1.same G1.pre af1))
def HZ {g:G2}(ho:IxD X g)(ha:PE X a (tD X fa))(hb:PE X b (tD X fb))(hs:lQ b:=by intro _ _;rfl):PE X (.Subscript a b pos) (tD X (d2 g fa fb)):=by
 intro pins s σ H Q I h;obtain⟨P,α,env,S,r,re,af⟩:=h;have IxR':IxR X (λx y H Q=>∃ P α S a b,Rel X.K H P α S∧Rep X.K P α a x∧Rep X.K P α b y∧zH X P α (g a b S) Q):=λvalue slice pins s σ H x y v u Q I rx ry ⟨P,α,S,a,b,r,p1,p2,af⟩ hsl =>
  ho value slice pins σ H s P α S x y v u a b Q I r rx ry p1 p2 af hsl
 refine peW (AI IxR' ha hb hs) (t':=tD X (d2 g fa fb)) (λσ H Q h=>?_) pins s σ H Q I ⟨P,α,env,S,r,re,af⟩;obtain⟨P,α,env,S,r,re,af⟩:=h;refine⟨P,α,env,S,r,re,?_⟩;unfold d2 at af;cases q:fa env S with
 |bad=>rw[q] at af;exact af
 |ex c x S'=>rw[q] at af;exact af
 |ok d S1 =>
  rw[q] at af;intro v H1 P1 α1 r1 e1 e2 rp;refine⟨P1,α1,env,S1,r1,re.mono e1 e2,?_⟩;have af':zH X P α ((fb env S1).bind λy S2=>g d y S2) Q:=af;cases q2:fb env S1 with
  |bad=>rw[q2] at af';exact af'
  |ex c x S'=>rw[q2] at af';exact λu s' z=>af' u s' (z.base e1 e2)
  |ok d' S2 =>
   rw[q2] at af';intro u H2 P2 α2 r2 e3 e4 rp2;exact⟨P2,α2,S2,d,d',r2,Rep.mono e3 e4 _ _ rp,rp2,zH.base (e1.trans e3) (e2.trans e4) af'⟩
def qC:DA:=λ_ S=>.ok [] S
def qA (f:DE)(g:DA):DA:=λenv S=>(f env S).bind λx S1=>(g env S1).bind λxs S2=>.ok (x::xs) S2
def LA:PA X [] (tDA X qC):=paW RL λσ H Q ⟨P,α,env,S,r,re,af⟩=>af [] H P α r (qK.refl _) (Bp _) .nil
def BS {es:Ab Bx}{g:DA}(ha:PE X e (tD X fa))(hr:PA X es (tDA X g))(hs:Bh (e::es) X.env=(false,eval e X.env)::Bh es X.env:=by rfl):PA X (e::es) (tDA X (qA fa g)):=by
 intro pos pins s σ H Q I h;obtain⟨P,α,env,S,r,re,af⟩:=h;rw[hs];show Ao _ _ (spliced ((false,eval e X.env)::Gf pos (Bh es X.env))) _ _ s;refine Pe (thn (zZ ha I r re af) λu s1 ⟨x,H1,P1,α1,d,S1,G1,af1⟩=>?_);refine thn (v8 hr G1.inv G1.rel G1.env (P:=P1) (α:=α1) (Ok:=OkA X P1 α1 Q) (bO.base G1.same G1.pre af1) pos) λus s2 ⟨xs,H2,P2,α2,ds,S2,I2,rv,r2,re2,rp2,e1,e2,af2⟩=>?_;exact⟨x::xs,H2,I2,.cons G1.val rv,af2 _ _ _ _ r2 e1 e2 (.cons (Rep.mono e1 e2 _ _ G1.rep) rp2)⟩
def lim:Ai:=16777216
def xJ:lim=sizeLine:=Ep.symm
def qU (f:DA):DE:=λenv S=>(f env S).bind λxs S1=>if xs.length≤lim then .ok (.tup xs) S1 else .bad
def zJ (f:DA):DE:=λenv S=>(f env S).bind λxs S1=>if xs.length≤lim then .ok (.lst xs) S1 else .bad
def n9 (f:DA):DE:=λenv S=>(f env S).bind λxs S1=>if xs.length≤lim then .ok (.loc S1.length) (S1++[.lst xs]) else .bad
def dU {K:Al}{P:Hp}{α:Ab Af}{a:Af}{ds:Ab D}(h:SqT K P a vs)(r:qI K P α ds vs):Rep K P α (.tup ds) (.ref a):=by simp only[Rep];exact⟨a,vs,rfl,h,r⟩
def mL {K:Al}{P:Hp}{α:Ab Af}{a:Af}{ds:Ab D}(h:SqX K P a vs)(r:qI K P α ds vs):Rep K P α (.lst ds) (.ref a):=by simp only[Rep];exact⟨a,vs,rfl,h,r⟩
def b9 {H P:Hp}{α:Ab Af}{ds:Ab D}(r:Rel X.K H P α S)(hp:H p=none)(rp:qI X.K P α ds vs)(af:OkV X P α Q (.tup ds) S):Q (.ref p) (upd H p (.tup vs)):=by
 obtain⟨r1,e1⟩:=r.pure (o:=.tup vs) hp;exact af _ _ _ α r1 e1 (Bp _) (dU (.of zM) (qI.mono e1 (Bp _) _ _ rp))
def vG {H P:Hp}{α:Ab Af}{ds:Ab D}(r:Rel X.K H P α S)(hp:H p=none)(rp:qI X.K P α ds vs)(af:OkV X P α Q (.lst ds) S):Q (.ref p) (upd H p (.lst vs)):=by
 obtain⟨r1,e1⟩:=r.pure (o:=.lst vs) hp;exact af _ _ _ α r1 e1 (Bp _) (mL (.inl (.inl zM)) (qI.mono e1 (Bp _) _ _ rp))
def oT {H P:Hp}{α:Ab Af}{ds:Ab D}(r:Rel X.K H P α S)(hp:H p=none)(rp:qI X.K P α ds vs)(af:OkV X P α Q (.loc S.length) (S++[.lst ds])):Q (.ref p) (upd H p (.lst vs)):=by
 have hpre:α<+:α++[p]:=Li _ _;have r1:=r.new (o:=.lst vs) (m:=.lst ds) hp ⟨vs,zM,qI.mono (qK.refl _) hpre _ _ rp⟩;refine af _ _ _ _ r1 (qK.refl _) hpre ?_;simp only[Rep];exact⟨p,rfl,by rw[← r.len];simp⟩
def lY {f:DA}{σ:_L.St}{H:Hp}{G:Ab D→Sto→Res D}{mk:Ab V→HO}(h:tD X (λenv S=>(f env S).bind λxs S1=>if xs.length≤lim then G xs S1 else .bad) σ H Q)
  (k:∀ H1 P1 α1 S1 ds vs p,Rel X.K H1 P1 α1 S1→H1 p=none→qI X.K P1 α1 ds vs→zH X P1 α1 (G ds S1) Q→Q (.ref p) (upd H1 p (mk vs))) :
  tDA X f σ H λvs H1=>vs.length≤sizeLine∧∀ p,H1 p=none→Q (.ref p) (upd H1 p (mk vs)):=by
 obtain⟨P,α,env,S,r,re,af⟩:=h;refine⟨P,α,env,S,r,re,?_⟩;have af':zH X P α ((f env S).bind λxs S1=>if xs.length≤lim then G xs S1 else .bad) Q:=af
 cases q:f env S with
 |bad=>rw[q] at af';exact af'
 |ex c x S'=>rw[q] at af';exact af'
 |ok ds S1 =>
  rw[q] at af';intro vs H1 P1 α1 r1 e1 e2 rp;have af2:zH X P α (if ds.length≤lim then G ds S1 else .bad) Q:=af'
  by_cases hl:ds.length≤lim
  ·rw[Bd hl] at af2
   exact⟨by rw[← rp.length,← xJ];exact hl,λp hp=>k H1 P1 α1 S1 ds vs p r1 hp rp (zH.base e1 e2 af2)⟩
  ·rw[Be hl] at af2;exact Ap af2
def LS {es:Ab Bx}{f:DA} {x1} (h:PA X es (tDA X f)):PE X (.Tuple es x1 pos) (tD X (qU f)):=
 peW (RQ h) λσ H Q q=>lY (G:=λxs S1=>.ok (.tup xs) S1) (mk:=.tup) q λH1 P1 α1 S1 ds vs p r hp rp af=>b9 r hp rp af
def LL {es:Ab Bx}{f:DA}(h:PA X es (tDA X f)):PE X (.List es pos) (tD X (zJ f)):=
 peW (YS h) λσ H Q q=>lY (G:=λxs S1=>.ok (.lst xs) S1) (mk:=.lst) q λH1 P1 α1 S1 ds vs p r hp rp af=>vG r hp rp af
def BX {es:Ab Bx}{f:DA}(h:PA X es (tDA X f)):PE X (.List es pos) (tD X (n9 f)):=
 peW (YS h) λσ H Q q=>lY (G:=λxs S1=>.ok (.loc S1.length) (S1++[MO.lst xs])) (mk:=.lst) q λH1 P1 α1 S1 ds vs p r hp rp af=>oT r hp rp af
end
section
variable {X:Cx}{a b c e:Bx}{pos:Fa}{fa fb fc:DE}{ta tb:DT}
def w8:D→Sto→Am Aq
 |.non,_=>Aa false
 |.bl b,_=>Aa b
 |.int i,_=>Aa (i != 0)
 |.str x,_=>if x.length≤lim then Aa ((x.length:Ak) != 0) else none
 |.tup xs,_=>Aa (!xs.isEmpty)
 |.lst xs,_=>Aa (!xs.isEmpty)
 |.dct0,_=>Aa false
 |.loc i,S=>match S[i]? with
  |some (.lst xs)=>Aa (!xs.isEmpty)
  |some (.dct kvs)=>Aa (!kvs.isEmpty)
  |_=>none
 |_,_=>none
def qI.isEmpty {K:Al}{P:Hp}{α:Ab Af}{ds:Ab D}(r:qI K P α ds vs):(!ds.isEmpty)=!vs.isEmpty:=by
 cases ds with
 |nil=>rw[r.nil_inv];rfl
 |cons d ds=>obtain⟨w,ws,rfl,_,_⟩:=r.cons_inv;rfl
def wW {K:Al}{H P:Hp}(e:qK P H){a:Af}{xs:Ab V}(h:SqT K P a xs):SqT K H a xs:=jN e h
def kM {H P:Hp}{α:Ab Af}{v:V}{d:D}{k:Aq}(r:Rel X.K H P α S)(p:Rep X.K P α d v)(h:w8 d S=Aa k):QX X.K v H k:=by
 cases d with
 |non=>simp only[Rep] at p;subst p;cases h;rfl
 |bl b=>simp only[Rep] at p;subst p;cases h;rfl
 |int i=>simp only[Rep] at p;subst p;cases h;rfl
 |str x =>
  simp only[Rep] at p;subst p;obtain⟨hl,rfl⟩:=g9 h;exact⟨by rw[← xJ];exact hl,rfl⟩
 |tup xs =>
  simp only[Rep] at p;obtain⟨a,vs,rfl,q,t⟩:=p;cases h;exact .inr (.inl ⟨vs,wW r.sub q,t.isEmpty⟩)
 |lst xs =>
  simp only[Rep] at p;obtain⟨a,vs,rfl,q,t⟩:=p;cases h;exact .inl ⟨vs,(wU r.sub q).l,t.isEmpty⟩
 |dct0 =>
  simp only[Rep] at p;obtain⟨a,rfl,q⟩:=p;cases h;exact .inr (.inr ⟨[],r.sub _ _ q,rfl⟩)
 |loc i =>
  simp only[Rep] at p;obtain⟨a,rfl,q⟩:=p;have h:(match S[i]? with|some (.lst xs)=>Aa (!xs.isEmpty)|some (.dct kvs)=>Aa (!kvs.isEmpty)|_=>none)=Aa k:=h
  cases hs:S[i]? with
  |none=>rw[hs] at h;exact nn h
  |some m =>
   rw[hs] at h;cases m with
   |lst xs =>
    cases h;obtain⟨vs,z,t⟩:=r.at' i a _ q hs;exact .inl ⟨vs,.of z,t.isEmpty⟩
   |dct kvs =>
    cases h;obtain⟨vs,z,t⟩:=r.at' i a _ q hs;refine .inr (.inr ⟨vs,z,?_⟩);cases t <;> rfl
   |_=>exact nn h
 |ty n=>exact nn h
 |obj a=>exact nn h
 |exn c=>exact nn h
 |fd ks ds=>exact nn h
def BA {pins:Ab (Af × Cr)}{s:Ag}{σ:_L.St}{H P:Hp}{α:Ab Af}{v:V}{d:D}{k:Aq}{Q:Aq→Hp→Prop}(I:Inv X pins σ H s)(r:Rel X.K H P α S)(rv:qP v vv)(p:Rep X.K P α d v)(h:w8 d S=Aa k)(q:Q k H) :
  Ao (Au X.prog X.w) X.A (truthy vv) (TP X pins σ Q) X.xe s:=fX pins s σ H v vv Q I rv ⟨k,kM r p h,q⟩
def j1 (o:Am Aq)(S:Sto):Res Aq:=match o with
 |some b=>.ok b S
 |none=>.bad
def dTr (f:DE):DT:=λenv S=>(f env S).bind λd S1=>j1 (w8 d S1) S1
def dX {o:Am Aq}{P:Hp}{α:Ab Af}{Ok:Aq→Sto→Prop}(h:qQ X P α (j1 o S) Ok):∃ b,o=Aa b∧Ok b S:=by
 cases o with
 |none=>exact Ap h
 |some b=>exact⟨b,rfl,h⟩
def D9 (ha:PE X a (tD X fa))(he:∀ whole,isTrue a X.env whole=(do let v ← whole;Uv a.pos;holding [v] (truthy v)):=by intro _;rfl):PT X a (tDT X (dTr fa)):=by
 intro pins s σ H Q I h;obtain⟨P,α,env,S,r,re,af⟩:=h;refine isTrue_plain (thn (zZ ha I r re af) λvv s1 ⟨v,H1,P1,α1,d,S1,G1,af1⟩=>?_) (he _);obtain⟨k,e1,q⟩:=dX af1;exact BA G1.inv G1.rel G1.val G1.rep e1 (q H1 P1 α1 G1.rel G1.same G1.pre)
def D7 {op:Tj}{g:G2}(ho:OpD X (Cc op) g)(ha:PE X a (tD X fa))(hb:PE X b (tD X fb))(hm:Kp op b=false:=by first|exact pL _|with_unfolding_all rfl):PT X (.Compare a [op] [b] pos) (tDT X (dTr (d2 g fa fb))):=by
 intro pins s σ H Q I h;obtain⟨P,α,env,S,r,re,af⟩:=h;refine wpAny_isTrue_Compare1 ?_ hm;have key:tD X (d2 g fa fb) σ H (λv H1=>∃ k,QX X.K v H1 k∧Q k H1):=by
  refine⟨P,α,env,S,r,re,?_⟩;have af':qQ X P α ((d2 g fa fb env S).bind λd S1=>j1 (w8 d S1) S1) (OkT X P α Q):=af;cases q:d2 g fa fb env S with
  |bad=>rw[q] at af';exact af'
  |ex c x S'=>rw[q] at af';exact af'
  |ok d S1 =>
   rw[q] at af';obtain⟨k,e1,qk⟩:=dX (X:=X) af';exact λv H1 P1 α1 r1 e3 e4 rp=>⟨k,kM r1 rp e1,qk H1 P1 α1 r1 e3 e4⟩
 exact thn (cF ho ha hb I key) λv s1 h1=>thn h1 λu s2 h2=>thn h2 λx s3 ⟨y,H3,I3,r3,k,tk,qk⟩=>fX pins s3 σ H3 y x Q I3 r3 ⟨k,tk,qk⟩
def zY (g g':G2)(fa fb fc:DE):DE:=λenv S=>(fa env S).bind λx S1=>(fb env S1).bind λy S2=>(g x y S2).bind λz S3 =>
 match w8 z S3 with
 |some true=>(fc env S3).bind λw S4=>g' y w S4
 |some false=>.ok z S3
 |none=>.bad
inductive GotO (X:Cx)(pins:Ab (Af × Cr))(σ : _L.St)(P:Hp)(α : Ab Af)(w:Ad)(s1:Ag){γ : Type}(k:D→Sto→Res γ)(Ok:γ→Sto→Prop):Prop
 |mk (y:V) (H1 P1:Hp) (α1:Ab Af) (d:D) (S1:Sto) (I:Inv X pins σ H1 s1) (rv:qP y w) (r:Rel X.K H1 P1 α1 S1) (rp:Rep X.K P1 α1 d y) (e1:qK P P1) (e2:α<+:α1) (q:qQ X P α (k d S1) Ok):GotO X pins σ P α w s1 k Ok
def aG {γ:Type}{f:Ad→Ad→Nd Ad}{g:G2}{k:D→Sto→Res γ}{Ok:γ→Sto→Prop}{pins:Ab (Af × Cr)}{σ:_L.St}{H:Hp}{s:Ag}{P:Hp}{α:Ab Af}{v u:V}{uu:Ad}{a b:D}(ho:OpD X f g)(I:Inv X pins σ H s)(r:Rel X.K H P α S)
  (rv:qP v vv) (ru:qP u uu) (pa:Rep X.K P α a v) (pb:Rep X.K P α b u) (af:qQ X P α ((g a b S).bind k) Ok) :
  Ao (Au X.prog X.w) X.A (f vv uu) (λw s1=>GotO X pins σ P α w s1 k Ok) X.xe s:=by
 refine thn (ho pins σ H s P α S v u vv uu a b (λy H1=>∃ P1 α1 d S1,Rel X.K H1 P1 α1 S1∧Rep X.K P1 α1 d y∧qK P P1∧α<+:α1∧qQ X P α (k d S1) Ok) I r rv ru pa pb ?_) λw s1 ⟨y,H1,I1,r1,P1,α1,d,S1,q1,q2,q3,q4,q5⟩=>⟨y,H1,P1,α1,d,S1,I1,r1,q1,q2,q3,q4,q5⟩;cases q:g a b S with
 |bad=>rw[q] at af;exact af
 |ex c x S'=>rw[q] at af;exact af
 |ok d S' =>
  rw[q] at af;exact λv H' P' α' r' e1 e2 rp=>⟨P',α',d,S',r',rp,e1,e2,af⟩
def qQ.base' {β:Type}{P P1:Hp}{α α1:Ab Af}{r:Res β}{Ok Ok1:β→Sto→Prop}(e:qK P P1)(h:α<+:α1)(ho:∀ d S,Ok d S→Ok1 d S)(k:qQ X P α r Ok):qQ X P1 α1 r Ok1:=by
 cases r with
 |ok d S=>exact ho d S k
 |ex c x S=>exact λu s' q=>k u s' (q.base e h)
 |bad=>exact k
def UR {op op':Tj}{g g':G2}(ho:OpD X (Cc op) g)(ho':OpD X (Cc op') g')(ha:PE X a (tD X fa))(hb:PE X b (tD X fb))(hc:PE X c (tD X fc))
  (hm:Ww [op,op'] [b,c]=false:=by with_unfolding_all rfl):PE X (.Compare a [op,op'] [b,c] pos) (tD X (zY g g' fa fb fc)):=by
 intro pins s σ H Q I h;obtain⟨P,α,env,S,r,re,af⟩:=h;refine Compare_chain (thn (zZ ha I r re af) λvv s1 ⟨v,H1,P1,α1,d,S1,G1,af1⟩=>chain_link (thn (zZ hb G1.inv G1.rel G1.env (zH.base G1.same G1.pre af1)) λuu s2 ⟨u,H2,P2,α2,d',S2,G2,af2⟩ =>
  thn (aG ho G2.inv G2.rel G1.val G2.val (Rep.mono G2.same G2.pre _ _ G1.rep) G2.rep (zH.base G2.same G2.pre af2)) λw s3 ⟨y,H3,P3,α3,z,S3,I3,r3,rl3,rp3,e3,e4,af3⟩=>?_)) hm
 cases ht:w8 z S3 with
 |none=>simp only[ht] at af3;exact Ap af3
 |some k =>
  simp only[ht] at af3;have tv:=kM rl3 rp3 ht;refine thn (fX pins s3 σ H3 y w (λk' H'=>k'=k∧H'=H3) I3 r3 ⟨k,tv,rfl,rfl⟩) λk' s4 ⟨H4,I4,hk,hH⟩=>?_;subst hk;subst hH;cases k' with
  |false=>exact ite_ff ⟨y,H4,I4,r3,af3 y H4 P3 α3 rl3 e3 e4 rp3⟩
  |true =>
   refine ite_tt (chain_last (thn (zZ hc I4 rl3 (G2.env.mono e3 e4) (zH.base e3 e4 af3)) λww s5 ⟨w',H5,P5,α5,d5,S5,G5,af5⟩=>?_));exact ho' pins σ H5 s5 P5 α5 S5 u w' uu ww d' d5 Q G5.inv G5.rel G2.val G5.val (Rep.mono (e3.trans G5.same) (e4.trans G5.pre) _ _ G2.rep) G5.rep (zH.base G5.same G5.pre af5)
def J7 {op op':Tj}{g g':G2}(ho:OpD X (Cc op) g)(ho':OpD X (Cc op') g')(ha:PE X a (tD X fa))(hb:PE X b (tD X fb))(hc:PE X c (tD X fc))
  (hm:Ww [op,op'] [b,c]=false:=by with_unfolding_all rfl):PT X (.Compare a [op,op'] [b,c] pos) (tDT X (dTr (zY g g' fa fb fc))):=by
 intro pins s σ H Q I h;obtain⟨P,α,env,S,r,re,af⟩:=h;have af':qQ X P α ((zY g g' fa fb fc env S).bind λd S1=>j1 (w8 d S1) S1) (OkT X P α Q):=af;have assoc:(zY g g' fa fb fc env S).bind (λd S1=>j1 (w8 d S1) S1)=(fa env S).bind λx S1=>(fb env S1).bind λy S2=>(g x y S2).bind λz S3 =>
   match w8 z S3 with
   |some true=>((fc env S3).bind λw S4=>g' y w S4).bind λd S1=>j1 (w8 d S1) S1
   |some false=>.ok false S3
   |none=>.bad:=by
  unfold zY;cases fa env S with
  |bad=>rfl
  |ex _ _ _=>rfl
  |ok x S1 =>
   show Res.bind (Res.bind (fb env S1) _) _=Res.bind (fb env S1) _;cases fb env S1 with
   |bad=>rfl
   |ex _ _ _=>rfl
   |ok y S2 =>
    show Res.bind (Res.bind (g x y S2) _) _=Res.bind (g x y S2) _;cases g x y S2 with
    |bad=>rfl
    |ex _ _ _=>rfl
    |ok z S3 =>
     show Res.bind (match w8 z S3 with|some true=>(fc env S3).bind λw S4=>g' y w S4|some false=>.ok z S3|none=>.bad) _=_
     cases ht:w8 z S3 with
     |none=>simp only[ht,Res.bind]
     |some k=>cases k <;> simp only[ht,Res.bind,j1]
 rw[assoc] at af';refine isTrue_chain (thn (zZ ha I r re af') λvv s1 ⟨v,H1,P1,α1,d,S1,G1,af1⟩=>test_link (thn (zZ hb G1.inv G1.rel G1.env (yY.base G1.same G1.pre af1)) λuu s2 ⟨u,H2,P2,α2,d',S2,G2,af2⟩ =>
  thn (aG ho G2.inv G2.rel G1.val G2.val (Rep.mono G2.same G2.pre _ _ G1.rep) G2.rep (yY.base G2.same G2.pre af2)) λw s3 ⟨y,H3,P3,α3,z,S3,I3,r3,rl3,rp3,e3,e4,af3⟩=>?_)) hm
 cases ht:w8 z S3 with
 |none=>simp only[ht] at af3;exact Ap af3
 |some k =>
  simp only[ht] at af3;have tv:=kM rl3 rp3 ht;refine thn (fX pins s3 σ H3 y w (λk' H'=>k'=k∧H'=H3) I3 r3 ⟨k,tv,rfl,rfl⟩) λk' s4 ⟨H4,I4,hk,hH⟩=>?_;subst hk;subst hH;cases k' with
  |false=>exact ite_ff ⟨H4,I4,af3 H4 P3 α3 rl3 e3 e4⟩
  |true =>
   have af4:qQ X P2 α2 ((fc env S3).bind λw S4=>(g' d' w S4).bind λd S1=>j1 (w8 d S1) S1) (OkT X P2 α2 Q):=by
    have e:((fc env S3).bind λw S4=>(g' d' w S4).bind λd S1=>j1 (w8 d S1) S1)=(((fc env S3).bind λw S4=>g' d' w S4).bind λd S1=>j1 (w8 d S1) S1):=by
     cases fc env S3 <;> rfl
    rw[e];exact af3
   refine ite_tt (test_last (thn (zZ hc I4 rl3 (G2.env.mono e3 e4) (yY.base e3 e4 af4)) λww s5 ⟨w',H5,P5,α5,d5,S5,G5,af5⟩ =>
    thn (aG ho' G5.inv G5.rel G2.val G5.val (Rep.mono (e3.trans G5.same) (e4.trans G5.pre) _ _ G2.rep) G5.rep (yY.base G5.same G5.pre af5)) λx6 s6 ⟨y6,H6,P6,α6,d6,S6,I6,r6,rl6,rp6,e5,e6,af6⟩=>?_))
   obtain⟨k6,q6,z6⟩:=dX af6;exact BA I6 rl6 r6 rp6 q6 (z6 H6 P6 α6 rl6 e5 e6)
def zO (t:DT):DT:=λenv S=>(t env S).bind λb S1=>.ok (!b) S1
def y9 (t u:DT):DT:=λenv S=>(t env S).bind λb S1=>if b then u env S1 else .ok false S1
def xV (t u:DT):DT:=λenv S=>(t env S).bind λb S1=>if b then .ok true S1 else u env S1
def D8 (ha:PT X a (tDT X ta)):PT X (.UnaryOp .Not a pos) (tDT X (zO ta)):=by
 intro pins s σ H Q I h;obtain⟨P,α,env,S,r,re,af⟩:=h;refine isTrue_not (thn (pE (λQ' q=>ha pins s σ H Q' I q) r re af) λb s1 ⟨H1,P1,α1,S1,I1,r1,re1,e1,e2,af1⟩=>⟨H1,I1,af1 H1 P1 α1 r1 e1 e2⟩)
def PWD (X:Cx)(e:Bx)(t:DT):Prop:=PW X e (tDT X t)
def PWD.pt {t:DT}(h:PWD X e t):PT X e (tDT X t):=h _
def FC (ha:PT X a (tDT X ta)):PWD X (.BoolOp .And [a] pos) ta:=MV ha
def DC (ha:PT X a (tDT X ta)):PWD X (.BoolOp .Or [a] pos) ta:=E2 ha
def DB {rest:Ab Bx}(ha:PT X a (tDT X ta))(hb:PWD X (.BoolOp .And (b::rest) pos) tb):PWD X (.BoolOp .And (a::b::rest) pos) (y9 ta tb):=by
 intro wh pins s σ H Q I h;obtain⟨P,α,env,S,r,re,af⟩:=h;refine isTrue_and (thn (pE (λQ' q=>ha pins s σ H Q' I q) r re af) λk s1 ⟨H1,P1,α1,S1,I1,r1,re1,e1,e2,af1⟩=>?_);cases k with
 |true=>exact hb wh pins s1 σ H1 Q I1 ⟨P1,α1,env,S1,r1,re1,yY.base e1 e2 af1⟩
 |false=>exact⟨H1,I1,af1 H1 P1 α1 r1 e1 e2⟩
def CH {rest:Ab Bx}(ha:PT X a (tDT X ta))(hb:PWD X (.BoolOp .Or (b::rest) pos) tb):PWD X (.BoolOp .Or (a::b::rest) pos) (xV ta tb):=by
 intro wh pins s σ H Q I h;obtain⟨P,α,env,S,r,re,af⟩:=h;refine isTrue_or (thn (pE (λQ' q=>ha pins s σ H Q' I q) r re af) λk s1 ⟨H1,P1,α1,S1,I1,r1,re1,e1,e2,af1⟩=>?_);cases k with
 |true=>exact⟨H1,I1,af1 H1 P1 α1 r1 e1 e2⟩
 |false=>exact hb wh pins s1 σ H1 Q I1 ⟨P1,α1,env,S1,r1,re1,yY.base e1 e2 af1⟩
def y7 (f g:DE):DE:=λenv S=>(f env S).bind λx S1=>match w8 x S1 with
 |some true=>g env S1
 |some false=>.ok x S1
 |none=>.bad
def ZC (f:DE):DE:=λenv S=>(f env S).bind λx S1=>match w8 x S1 with
 |some b=>.ok (.bl (!b)) S1
 |none=>.bad
def LP  (h:PE X a (tD X fa)):PE X (.BoolOp op [a] pos) (tD X fa):=RO h
def HB {pins:Ab (Af × Cr)}{s:Ag}{σ:_L.St}{H:Hp}{v:V}{k:Aq}{R:Aq→Ag→Prop}(I:Inv X pins σ H s)(rv:qP v vv)(t:QX X.K v H k)(h:∀ s',Inv X pins σ H s'→R k s') :
  Ao (Au X.prog X.w) X.A (truthy vv) R X.xe s:=thn (fX pins s σ H v vv (λk' H'=>k'=k∧H'=H) I rv ⟨k,t,rfl,rfl⟩) λk' s4 ⟨H4,I4,hk,hH⟩=>by subst hk;subst hH;exact h s4 I4
def LC {rest:Ab Bx}(ha:PE X a (tD X fa))(hb:PE X (.BoolOp .And (b::rest) pos) (tD X fb)):PE X (.BoolOp .And (a::b::rest) pos) (tD X (y7 fa fb)):=by
 intro pins s σ H Q I h;obtain⟨P,α,env,S,r,re,af⟩:=h;refine BoolOp_and (thn (zZ ha I r re af) λvv s1 ⟨v,H1,P1,α1,d,S1,G1,af1⟩=>?_);cases ht:w8 d S1 with
 |none=>simp only[ht] at af1;exact Ap af1
 |some k =>
  simp only[ht] at af1;refine HB G1.inv G1.val (kM G1.rel G1.rep ht) λs2 I2=>?_;cases k with
  |true=>exact hb pins s2 σ H1 Q I2 ⟨P1,α1,env,S1,G1.rel,G1.env,zH.base G1.same G1.pre af1⟩
  |false=>exact⟨v,H1,I2,G1.val,af1 v H1 P1 α1 G1.rel G1.same G1.pre G1.rep⟩
def LO (ha:PE X a (tD X fa)):PE X (.UnaryOp .Not a pos) (tD X (ZC fa)):=by
 intro pins s σ H Q I h;obtain⟨P,α,env,S,r,re,af⟩:=h;refine UnaryOp_ (thn (zZ ha I r re af) λvv s1 ⟨v,H1,P1,α1,d,S1,G1,af1⟩=>?_);cases ht:w8 d S1 with
 |none=>simp only[ht] at af1;exact Ap af1
 |some k =>
  simp only[ht] at af1;exact not_of (HB G1.inv G1.val (kM G1.rel G1.rep ht) λs2 I2=>⟨.bl (!k),H1,I2,rfl,af1 (.bl (!k)) H1 P1 α1 G1.rel G1.same G1.pre (by simp only[Rep])⟩)
def dIf (t:DT)(f g:DE):DE:=λenv S=>(t env S).bind λb S1=>if b then f env S1 else g env S1
def HY (hc:PT X c (tDT X ta))(ha:PE X a (tD X fa))(hb:PE X b (tD X fb)):PE X (.IfExp c a b pos) (tD X (dIf ta fa fb)):=by
 intro pins s σ H Q I h;obtain⟨P,α,env,S,r,re,af⟩:=h;refine wpAny_IfExp (thn (pE (λQ' q=>hc pins s σ H Q' I q) r re af) λk s1 ⟨H1,P1,α1,S1,I1,r1,re1,e1,e2,af1⟩=>?_);cases k with
 |true=>exact ha pins s1 σ H1 Q I1 ⟨P1,α1,env,S1,r1,re1,zH.base e1 e2 af1⟩
 |false=>exact hb pins s1 σ H1 Q I1 ⟨P1,α1,env,S1,r1,re1,zH.base e1 e2 af1⟩
end
@[inline] def Res.toS {β:Type}(env:qF)(r:Res β)(k:β→Sto→Out):Out:=
 match r with
 |.ok d S=>k d S
 |.ex c x S=>.ex c x env S
 |.bad=>.bad
section
variable {X:Cx}{a b c e:Bx}{pos:Fa}{fa fb fc:DE}{ta tb:DT}{f g:DS}{st:Fd}{rest:Ab Fd}
def zI:DS:=λenv S=>.nx env S
def qM (f g:DS):DS:=λenv S=>match f env S with
 |.nx env1 S1=>g env1 S1
 |o=>o
def D1:PSs X [] (tDS X zI):=E0 MT λD σ H ⟨P,α,env,S,r,re,af⟩=>af σ H P α r re (qK.refl _) (Bp _)
def F9 (h1:PS X st (tDS X f))(h2:PSs X rest (tDS X g)):PSs X (st::rest) (tDS X (qM f g)):=E0 (KJ h1 h2) λD σ H ⟨P,α,env,S,r,re,af⟩=>by
 refine⟨P,α,env,S,r,re,?_⟩;unfold qM at af;cases q:f env S with
 |nx env1 S1 =>
  rw[q] at af;exact λσ' H' P' α' r' re' e1 e2=>⟨P',α',env1,S1,r',re',zR.base e1 e2 af⟩
 |rt d S1=>rw[q] at af;exact af
 |bk env1 S1=>rw[q] at af;exact af
 |ct env1 S1=>rw[q] at af;exact af
 |ex c x env1 S1=>rw[q] at af;exact af
 |bad=>rw[q] at af;exact af
def D2 (h1:PS X st (tDS X f)):PSs X [st] (tDS X f):=MU h1
def vH {β:Type}{P:Hp}{α:Ab Af}{env:qF}{r:Res β}{k:β→Sto→Out}{D:Ends}(h:zR X P α (r.toS env k) D):qQ X P α r λd S=>zR X P α (k d S) D:=by
 cases r with
 |ok d S=>exact h
 |ex c x S=>exact h
 |bad=>exact h
inductive GotS (X:Cx)(pins:Ab (Af × Cr))(σ : _L.St)(env:qF)(P:Hp)(α : Ab Af)(u:Ad)(s1:Ag)(k:D→Sto→Out)(E:Ends):Prop
 |mk (v:V) (H1 P1:Hp) (α1:Ab Af) (d:D) (S1:Sto) (G:Got X pins σ env P α u s1 v H1 P1 α1 d S1) (q:zR X P1 α1 (k d S1) E):GotS X pins σ env P α u s1 k E
def nD {k:D→Sto→Out}{pins:Ab (Af × Cr)}{s:Ag}{σ:_L.St}{H P:Hp}{α:Ab Af}{env:qF}{D:Ends}(he:PE X e (tD X fa))(I:Inv X pins σ H s)(r:Rel X.K H P α S)
  (re:zP X.K P α σ env) (af:zR X P α ((fa env S).toS env k) D) :
  Ao (Au X.prog X.w) X.A (eval e X.env) (λu s1=>GotS X pins σ env P α u s1 k D) X.xe s:=by
 have af1:qQ X P α ((fa env S).bind λd S=>.ok d S) λd S=>zR X P α (k d S) D:=by
  have:=vH af;cases q:fa env S <;> rw[q] at this <;> exact this
 exact thn (zZ he I r re af1) λu s1 ⟨v,H1,P1,α1,d,S1,G,q⟩=>⟨v,H1,P1,α1,d,S1,G,zR.base G.same G.pre q⟩
def yW (f:DE):DS:=λenv S=>(f env S).toS env λ_ S1=>.nx env S1
def FA (he:PE X e (tD X fa))(hs:Mb e none pos.line X.env=pure false:=by rfl):PS X (.Expr e pos) (tDS X (yW fa)):=by
 intro pins s σ H D I h;obtain⟨P,α,env,S,r,re,af⟩:=h;exact wpAny_Expr_any (thn (nD he I r re af) λv s1 ⟨x,H1,P1,α1,d,S1,G,q⟩=>⟨σ,H1,G.inv,q σ H1 P1 α1 G.rel G.env (qK.refl _) (Bp _)⟩) I.quiet hs
def qZ (f:DE):DS:=λenv S=>(f env S).toS env λd S1=>.rt d S1
def D4 (he:PE X e (tD X fa)):PS X (.Return (Aa e) pos) (tDS X (qZ fa)):=by
 intro pins s σ H D I h;obtain⟨P,α,env,S,r,re,af⟩:=h;exact wpAny_Return_some (thn (nD he I r re af) λv s1 ⟨x,H1,P1,α1,d,S1,G,q⟩=>⟨x,σ,H1,G.inv,G.val,q x H1 P1 α1 G.rel (qK.refl _) (Bp _) G.rep⟩)
def sIf (t:DT)(f g:DS):DS:=λenv S=>(t env S).toS env λb S1=>if b then f env S1 else g env S1
def CF {as bs:Ab Fd}(hc:PT X c (tDT X ta))(ha:PSs X as (tDS X f))(hb:PSs X bs (tDS X g)):PS X (.If c as bs pos) (tDS X (sIf ta f g)):=by
 intro pins s σ H D I h;obtain⟨P,α,env,S,r,re,af⟩:=h;have af1:qQ X P α ((ta env S).bind λd S=>.ok d S) λb S=>zR X P α (if b then f env S else g env S) D:=by
  have:=vH af;cases q:ta env S <;> rw[q] at this <;> exact this
 refine wpAny_If (thn (pE (λQ' q=>hc pins s σ H Q' I q) r re af1) λk s1 ⟨H1,P1,α1,S1,I1,r1,re1,e1,e2,af2⟩=>?_);cases k with
 |true=>exact ha pins s1 σ H1 D I1 ⟨P1,α1,env,S1,r1,re1,zR.base e1 e2 af2⟩
 |false=>exact hb pins s1 σ H1 D I1 ⟨P1,α1,env,S1,r1,re1,zR.base e1 e2 af2⟩
abbrev DG:=D→qF→Sto→Res qF
abbrev DGs:=Ab D→qF→Sto→Res qF
def OkE (X:Cx)(P:Hp)(α : Ab Af)(Q:_L.St→Hp→Prop)(env':qF)(S':Sto):Prop:=∀ σ' H' P' α',Rel X.K H' P' α' S'→zP X.K P' α' σ' env'→qK P P'→α<+:α'→Q σ' H'
def tDG (X:Cx)(g:DG):TG:=λv σ H Q=>∃ P α env S d,Rel X.K H P α S∧zP X.K P α σ env∧Rep X.K P α d v∧qQ X P α (g d env S) (OkE X P α Q)
def iA (X:Cx)(g:DGs):TGs:=λvs σ H Q=>∃ P α env S ds,Rel X.K H P α S∧zP X.K P α σ env∧qI X.K P α ds vs∧qQ X P α (g ds env S) (OkE X P α Q)
def zP.set {K:Al}{P:Hp}{α:Ab Af}{σ:_L.St}{env:qF}{d:D}{v:V}(re:zP K P α σ env)(i:Ai)(rp:Rep K P α d v):zP K P α (σ.set i (Aa v)) (env.set i (Aa d)):=by
 refine⟨by simp[re.1],λj d' e=>?_⟩
 by_cases hj:i=j
 ·subst hj
  by_cases hi:i<env.length
  ·rw[Dk hi] at e
   cases e;exact⟨v,by rw[Dk (by rw[← re.1];exact hi)],rp⟩
  ·rw[Mq (by simp;omega)] at e;cases e
 ·rw[Cb hj] at e ⊢
  exact re.2 j d' e
def gNm (i:Ai):DG:=λd env S=>.ok (env.set i (Aa d)) S
def F2 {i:Ai}{x:As}(hN:X.N.Nodup)(hi:X.N[i]? = Aa x:=by rfl)(hx:Loc X.env.scope x:=by first|exact Zq rfl|exact Xw rfl)(hf:X.fn x=true∨X.env.scope.names.lookup x=Aa .local:=by first|exact .inl rfl|exact .inr rfl|assumption):PG X (.Name x pos) (tDG X (gNm i)):=by
 intro pins s σ H v u Q I rv h;obtain⟨P,α,env,S,d,r,re,rp,af⟩:=h;exact MN hN hi hx hf pins s σ H v u Q I rv (af _ H P α r (re.set i rp) (qK.refl _) (Bp _))
def xS:DGs:=λds env S=>match ds with
 |[]=>.ok env S
 |_=>.bad
def zA (g:DG)(gs:DGs):DGs:=λds env S=>match ds with
 |d::r=>(g d env S).bind λenv1 S1=>gs r env1 S1
 |[]=>.bad
def F3:PGs X [] (iA X xS):=by
 intro pins s σ H vs us Q I rv h;obtain⟨P,α,env,S,ds,r,re,rp,af⟩:=h;cases ds with
 |nil=>exact MP pins s σ H vs us Q I rv ⟨rp.nil_inv,af σ H P α r re (qK.refl _) (Bp _)⟩
 |cons d ds=>exact Ap af
def UV {es:Ab Bx}{g:DG}{gs:DGs}(h1:PG X e (tDG X g))(h2:PGs X es (iA X gs))(hs:(Gk (e::es) X.env).map (·.2)=assign e X.env::(Gk es X.env).map (·.2):=by rfl):PGs X (e::es) (iA X (zA g gs)):=by
 intro pins s σ H vs us Q I rv h;obtain⟨P,α,env,S,ds,r,re,rp,af⟩:=h;cases ds with
 |nil=>exact Ap af
 |cons d ds =>
  obtain⟨w,ws,rfl,p1,p2⟩:=rp.cons_inv;refine KG h1 h2 hs pins s σ H _ us Q I rv ⟨w,ws,rfl,P,α,env,S,d,r,re,p1,?_⟩;have af':qQ X P α ((g d env S).bind λenv1 S1=>gs ds env1 S1) (OkE X P α Q):=af;cases q:g d env S with
  |bad=>rw[q] at af';exact af'
  |ex c x S'=>rw[q] at af';exact af'
  |ok env1 S1 =>
   rw[q] at af';intro σ' H' P' α' r' re' e1 e2;refine⟨P',α',env1,S1,ds,r',re',qI.mono e1 e2 _ _ p2,qQ.base' e1 e2 (λenv' S' ok σ2 H2 P2 α2 r2 re2 e3 e4=>ok σ2 H2 P2 α2 r2 re2 (e1.trans e3) (e2.trans e4)) af'⟩
def gTp (n:Ai)(gs:DGs):DG:=λd env S=>match d with
 |.tup xs=>if xs.length=n then gs xs env S else .bad
 |_=>.bad
set_option tactic.hygienic true in
def LW {es:Ab Bx}{k:Ai}{gs:DGs}{n:Ai}(hc:X.calm=true)(h:PGs X es (iA X gs))(hn:(Gk es X.env).length=n:=by rfl)(hst:(Gk es X.env).findIdx? (·.1)=none:=by rfl):PG X (.Tuple es k pos) (tDG X (gTp n gs)):=by
 intro pins s σ H v u Q I rv hw;obtain⟨P,α,env,S,d,r,re,rp,af⟩:=hw;cases d with
 |tup xs =>
  simp only[Rep] at rp;obtain⟨a,vs,rfl,q,t⟩:=rp;simp only[gTp] at af
  split at af
  ·rename_i hl
   exact RT hc h hn hst pins s σ H _ u Q I rv ⟨a,vs,rfl,wW r.sub q,by rw[← t.length];exact hl,P,α,env,S,xs,r,re,t,af⟩
  ·exact Ap af
 |_=>exact Ap af
abbrev G3:=D→D→D→Sto→Res Sh
def OkU (X:Cx)(P:Hp)(α : Ab Af)(Q:Hp→Prop)(_:Sh)(S':Sto):Prop:=∀ H' P' α',Rel X.K H' P' α' S'→qK P P'→α<+:α'→Q H'
def eS (X:Cx)(g:G3):U7:=λo i v H Q=>∃ P α S a b d,Rel X.K H P α S∧Rep X.K P α a o∧Rep X.K P α b i∧Rep X.K P α d v∧qQ X P α (g a b d S) (OkU X P α Q)
def gSb (fo fi:DE)(g:G3):DG:=λd env S=>(fo env S).bind λo S1=>(fi env S1).bind λi S2=>(g o i d S2).bind λ_ S3=>.ok env S3
def LV {o i:Bx}{fo fi:DE}{g:G3}(ho:PE X o (tD X fo))(hi:PE X i (tD X fi))(hs:eW X (eS X g))
  (ha:∀ v,assign (.Subscript o i pos) X.env v=(do
   let ov ← holding [v] (eval o X.env)
   let iv ← holding [v,ov] (eval i X.env)
   Uv pos
   holding [v,ov,iv] (Zv ov iv v)
   release [v,ov,iv] []):=by intro _;rfl):PG X (.Subscript o i pos) (tDG X (gSb fo fi g)):=by
 intro pins s σ H v u Q I rv h;obtain⟨P,α,env,S,d,r,re,rp,af⟩:=h;rw[ha];refine Ac (Dp (thn (zZ ho I r re af) λov s1 ⟨x,H1,P1,α1,d1,S1,G1,af1⟩=>?_));refine Ac (Dp (thn (zZ hi G1.inv G1.rel G1.env (P:=P1) (α:=α1) (Ok:=OkE X P1 α1 Q) (qQ.base' G1.same G1.pre (λenv' S' ok σ2 H2 P2 α2 r2 re2 e3 e4=>ok σ2 H2 P2 α2 r2 re2 (G1.same.trans e3) (G1.pre.trans e4)) af1)) λiv s2 ⟨y,H2,P2,α2,d2,S2,G2,af2⟩=>?_));refine Ac (Ps (Ac (Dp (thn (hs pins s2 σ H2 x y v ov iv u (λH3=>Q σ H3) G2.inv G1.val G2.val rv ⟨P2,α2,S2,d1,d2,d,G2.rel,Rep.mono G2.same G2.pre _ _ G1.rep,G2.rep,Rep.mono (G1.same.trans G2.same) (G1.pre.trans G2.pre) _ _ rp,?_⟩) λ_ s3 ⟨H3,I3,q3⟩=>?_))))
 ·cases q:g d1 d2 d S2 with
  |bad=>rw[q] at af2;exact af2
  |ex c x S'=>rw[q] at af2;exact λu s' z=>af2 u s' (z.base G2.same G2.pre)
  |ok w S3 =>
   rw[q] at af2;exact λH' P' α' r' e1 e2=>af2 σ H' P' α' r' (G2.env.mono e1 e2) (G2.same.trans e1) (G2.pre.trans e2)
 ·exact wpAny_release ⟨σ,H3,I3,q3⟩
def zC (f:DE)(g:DG):DS:=λenv S=>(f env S).toS env λd S1=>(g d env S1).toS env λenv' S2=>.nx env' S2
def XR {g:DG}{d:D}{env:qF}{P:Hp}{α:Ab Af}{D':Ends}(h:zR X P α ((g d env S).toS env λenv' S2=>.nx env' S2) D'):qQ X P α (g d env S) (OkE X P α D'.nx):=by
 cases q:g d env S with
 |bad=>rw[q] at h;exact h
 |ex c x S'=>rw[q] at h;exact h
 |ok env1 S1=>rw[q] at h;exact h
def LZ {tg:Bx}{g:DG}(he:PE X e (tD X fa))(hg:PG X tg (tDG X g))(hs:Ko [tg] e pos.line X.env=pure false:=by rfl)(hw:Kn [tg] e X.env=pure none:=by rfl)
  (h1:(Gk [tg] X.env).map (·.2)=[assign tg X.env]:=by rfl):PS X (.Assign [tg] e pos) (tDS X (zC fa g)):=by
 intro pins s σ H D I h;obtain⟨P,α,env,S,r,re,af⟩:=h;refine wpAny_Assign_stores (thn (nD he I r re af) λv s1 ⟨x,H1,P1,α1,d,S1,G,q⟩=>?_) hs hw;rw[h1];exact thn (hg pins s1 σ H1 x v _ G.inv G.val ⟨P1,α1,env,S1,d,G.rel,G.env,G.rep,XR q⟩) λ_ s2 q=>q
def D5 {i:Ai}{x:As}{pos':Fa}(hN:X.N.Nodup)(he:PE X e (tD X fa))(hi:X.N[i]? = Aa x:=by rfl)(hx:Loc X.env.scope x:=by first|exact Zq rfl|exact Xw rfl)(hs:Mb e (Aa (.Name x pos')) pos.line X.env=pure false:=by rfl)
  (hf:X.fn x=true∨X.env.scope.names.lookup x=Aa .local:=by first|exact .inl rfl|exact .inr rfl|assumption):PS X (.Assign [.Name x pos'] e pos) (tDS X (zC fa (gNm i))):=by
 intro pins s σ H D I h;obtain⟨P,α,env,S,r,re,af⟩:=h;refine wpAny_Assign_Name (thn (nD he I r re af) λv s1 ⟨y,H1,P1,α1,d,S1,G,q⟩=>?_) hs;exact gG G.inv hN hi hx G.val (λs2 I2=>⟨_,H1,I2,q _ H1 P1 α1 G.rel (G.env.set i G.rep) (qK.refl _) (Bp _)⟩) hf
def aH (i j:Ai)(env:qF)(S1:Sto):Ab D→Out
 |[x,y]=>.nx ((env.set i (Aa x)).set j (Aa y)) S1
 |_=>.bad
def kB (i j:Ai)(f:DA):DS:=λenv S=>(f env S).toS env λds S1=>aH i j env S1 ds
def D3 {i j:Ai}{x y:As}{f:DA}{px py pt:Fa} {kt k2 pt2} (hc:X.calm=true) (hN:X.N.Nodup) (ha:PA X [a,b] (tDA X f)) (hi:X.N[i]? = Aa x:=by rfl) (hj:X.N[j]? = Aa y:=by rfl) (hij:i≠j:=by decide)
  (hx:X.env.scope.names.lookup x=Aa .local:=by rfl) (hy:X.env.scope.names.lookup y=Aa .local:=by rfl)
  (hw:Kn [.Tuple [.Name x px,.Name y py] kt pt] (.Tuple [a,b] k2 pt2) X.env=pure (Aa [x,y]):=by rfl)
  (hs:Ko [.Tuple [.Name x px,.Name y py] kt pt] (.Tuple [a,b] k2 pt2) pos.line X.env=pure false:=by rfl) :
  PS X (.Assign [.Tuple [.Name x px,.Name y py] kt pt] (.Tuple [a,b] k2 pt2) pos) (tDS X (kB i j f)):=psW (RZ hc hN hi hj hij hx hy ha hw hs) λD σ H ⟨P,α,env,S,r,re,af⟩=>by
 refine⟨P,α,env,S,r,re,?_⟩;have af1:=vH af;cases q:f env S with
 |bad=>rw[q] at af1;exact af1
 |ex c x S'=>rw[q] at af1;exact af1
 |ok ds S1 =>
  rw[q] at af1;intro vs H' P' α' r' e1 e2 rp;have af2:zR X P α (aH i j env S1 ds) D:=af1;cases ds with
  |nil=>exact Ap af2
  |cons d ds=>cases ds with
   |nil=>exact Ap af2
   |cons d' ds=>cases ds with
    |cons _ _=>exact Ap af2
    |nil =>
     obtain⟨w,ws,rfl,p1,t⟩:=rp.cons_inv;obtain⟨w',ws',rfl,p2,t⟩:=t.cons_inv;rw[t.nil_inv];exact⟨w,w',rfl,af2 _ _ P' α' r' (((re.mono e1 e2).set i p1).set j p2) e1 e2⟩
end
structure ItD (K:Al)(J:It)(P:Hp)(α : Ab Af)(ds:Ab D):Prop where
 go:∀ i H P1 α1 S,i<ds.length→Rel K H P1 α1 S→qK P P1→α<+:α1→J.go i H
 yld:∀ i H x H' P1 α1 S,i<ds.length→Rel K H P1 α1 S→qK P P1→α<+:α1→J.yld i H x H'→∃ P2 d,ds[i]? = Aa d∧Rel K H' P2 α1 S∧qK P1 P2∧Rep K P2 α1 d x
 stop:∀ i H P1 α1 S,ds.length≤i→Rel K H P1 α1 S→qK P P1→α<+:α1→J.stop i H
abbrev DI:=qF→Sto→Res (Ab D)
def OkI (X:Cx)(P:Hp)(α : Ab Af)(R:It→Hp→Prop)(ds:Ab D)(S':Sto):Prop:=∀ J H' P' α',Rel X.K H' P' α' S'→qK P P'→α<+:α'→ItD X.K J P' α' ds→R J H'
inductive tDI (X:Cx)(f:DI)(σ : _L.St)(H:Hp)(R:It→Hp→Prop):Prop
 |mk (P:Hp) (α : Ab Af) (env:qF) (S:Sto) (r:Rel X.K H P α S) (re:zP X.K P α σ env) (af:qQ X P α (f env S) (OkI X P α R)):tDI X f σ H R
def uD {β:Type}(o:Am β)(S:Sto):Res β:=match o with
 |some b=>.ok b S
 |none=>.bad
def jK {X:Cx}{β:Type}{o:Am β}{P:Hp}{α:Ab Af}{Ok:β→Sto→Prop}(h:qQ X P α (uD o S) Ok):∃ b,o=Aa b∧Ok b S:=by
 cases o with
 |none=>exact Ap h
 |some b=>exact⟨b,rfl,h⟩
def vU {X:Cx}{β:Type}{c:Prop}[Te c]{r:Res β}{P:Hp}{α : Ab Af}{Ok:β→Sto→Prop}(h:qQ X P α (if c then r else .bad) Ok):c∧qQ X P α r Ok:=by
 by_cases z:c
 ·rw[Bd z] at h;exact⟨z,h⟩
 ·rw[Be z] at h;exact Ap h
def aF {X:Cx}{β:Type}{ds:Ab D}{g:D→Res β}{P:Hp}{α:Ab Af}{Ok:β→Sto→Prop}(h:qQ X P α (match ds with|[d]=>g d|_=>.bad) Ok):∃ d,ds=[d]∧qQ X P α (g d) Ok:=by
 cases ds with
 |nil=>exact Ap h
 |cons d ds =>
  cases ds with
  |nil=>exact⟨d,rfl,h⟩
  |cons _ _=>exact Ap h
def dP {β:Type}{i:Ai}{f:Ab D→Am β}{g:Ab (Key × D)→Am β}{b:β}(h:(match S[i]? with|some (.lst xs)=>f xs|some (.dct kvs)=>g kvs|_=>none)=Aa b):(∃ xs,S[i]? = Aa (.lst xs)∧f xs=Aa b)∨∃ kvs,S[i]? = Aa (.dct kvs)∧g kvs=Aa b:=by
 cases e:S[i]? with
 |none=>rw[e] at h;exact nn h
 |some m =>
  rw[e] at h;cases m with
  |lst xs=>exact .inl ⟨xs,rfl,h⟩
  |dct kvs=>exact .inr ⟨kvs,rfl,h⟩
  |_=>exact nn h
def SO {β:Type}{i:Ai}{f:Ab D→Am β}{b:β}(h:(match S[i]? with|some (.lst xs)=>f xs|_=>none)=Aa b):∃ xs,S[i]? = Aa (.lst xs)∧f xs=Aa b:=by
 cases e:S[i]? with
 |none=>rw[e] at h;exact nn h
 |some m =>
  rw[e] at h;cases m with
  |lst xs=>exact⟨xs,rfl,h⟩
  |_=>exact nn h
inductive ItV (d:D)(xs:Ab D):Prop
 |tup (e:d=.tup xs)
 |lst (e:d=.lst xs)
def PU {β:Type}(S:Sto)(n:Ai)(f:Ab D→Res β) : Res β:=match S[n]? with
 |some (.lst xs)=>f xs
 |_=>.bad
def b7 {X:Cx}{β:Type}{n:Ai}{f:Ab D→Res β}{P:Hp}{α:Ab Af}{Ok:β→Sto→Prop}(h:qQ X P α (PU S n f) Ok):∃ xs,S[n]? = Aa (.lst xs)∧qQ X P α (f xs) Ok:=by
 unfold PU at h;cases e:S[n]? with
 |none=>rw[e] at h;exact Ap h
 |some m =>
  rw[e] at h;cases m with
  |lst xs=>exact⟨xs,rfl,h⟩
  |_=>exact Ap h
def xI:D→Am (Ab D)
 |.tup xs=>Aa xs
 |.lst xs=>Aa xs
 |_=>none
def itV {d:D}{xs:Ab D}(h:xI d=Aa xs):ItV d xs:=by
 cases d with
 |tup ys=>exact .tup (congrArg D.tup (Ct h))
 |lst ys=>exact .lst (congrArg D.lst (Ct h))
 |_=>exact nn h
def wZ (f:DE):DI:=λenv S=>(f env S).bind λd S1=>uD (xI d) S1
section
variable {X:Cx}{K:Al}{tg e:Bx}{fa:DE}{pos:Fa}
def JQ {P:Hp}{α:Ab Af}{a:Af}{ds:Ab D}(q:SqL K P a vs)(t:qI K P α ds vs):ItD K (Itl K a) P α ds where
 go:=λi H P1 α1 S hi r e _=>⟨vs,vs[i]'(by rw[← t.length];exact hi),(e.trans r.sub).seq q,by simp⟩
 yld:=λi H x H' P1 α1 S hi r e e2 y=>by
  obtain⟨rfl,y⟩:=y;have hx:=y vs ((e.trans r.sub).seq q);obtain⟨v,h1,h2⟩:=t.get (An hi);rw[hx] at h1;cases h1;exact⟨P1,_,An hi,r,qK.refl _,Rep.mono e e2 _ _ h2⟩
 stop:=λi H P1 α1 S hi r e _=>⟨vs,(e.trans r.sub).seq q,by rw[← t.length];exact hi⟩
def FU {P:Hp}{α:Ab Af}{a:Af}{ds:Ab D}(q:SqT K P a vs)(t:qI K P α ds vs):ItD K (Itt K a) P α ds where
 go:=λi H P1 α1 S hi r e _=>⟨vs,vs[i]'(by rw[← t.length];exact hi),jN (e.trans r.sub) q,by simp⟩
 yld:=λi H x H' P1 α1 S hi r e e2 y=>by
  obtain⟨rfl,y⟩:=y;have hx:=y vs (jN (e.trans r.sub) q);obtain⟨v,h1,h2⟩:=t.get (An hi);rw[hx] at h1;cases h1;exact⟨P1,_,An hi,r,qK.refl _,Rep.mono e e2 _ _ h2⟩
 stop:=λi H P1 α1 S hi r e _=>⟨vs,jN (e.trans r.sub) q,by rw[← t.length];exact hi⟩
def cT {pins:Ab (Af × Cr)}{σ:_L.St}{H P:Hp}{α:Ab Af}{s:Ag}{v:V}{d:D}{ds:Ab D}(I:Inv X pins σ H s)(r:Rel X.K H P α S)(rv:qP v vv)(rp:Rep X.K P α d v)(hd:xI d=Aa ds)
  (q:OkI X P α R ds S):Ao (Au X.prog X.w) X.A (Ny vv) (PIE X pins σ tg R) X.xe s:=by
 cases d with
 |tup xs =>
  cases hd;simp only[Rep] at rp;obtain⟨a,vs,rfl,sq,t⟩:=rp;cases rv;obtain⟨its,rv,p,hz⟩:=I.tuple (wW r.sub sq);refine Gj (show s.heap.IsTuple a its.toArray from p) ?_
  refine⟨s.heap.objs.size,[s.heap.objs.size],_,_,H,rfl,I.kept (t':=s.toks) λb o e=>Ah _ e,XG a _,⟨_,Ba _ rfl,rfl,rfl⟩,λb hb=>?_,q _ _ P α r (qK.refl _) (Bp _) (FU sq t)⟩;have e:b=s.heap.objs.size:=by simpa using hb
  subst e;exact I.fpOk (Aw _) (I.hok.fresh (Aw _))
 |lst xs =>
  cases hd;simp only[Rep] at rp;obtain⟨a,vs,rfl,sq,t⟩:=rp;cases rv;obtain⟨its,rv,p,hz⟩:=I.list ((wU r.sub sq).l);refine Fs p.isList ?_;refine⟨s.heap.objs.size,[s.heap.objs.size],_,_,H,rfl,I.kept (t':=s.toks) λb o e=>Ah _ e,rT a _,⟨_,Ba _ rfl,rfl,rfl⟩,λb hb=>?_,q _ _ P α r (qK.refl _) (Bp _) (JQ sq.l t)⟩;have e:b=s.heap.objs.size:=by simpa using hb
  subst e;exact I.fpOk (Aw _) (I.hok.fresh (Aw _))
 |_=>cases hd
def OkI.base {P P1:Hp}{α α1:Ab Af}{ds:Ab D}(e:qK P P1)(h:α<+:α1)(k:OkI X P α R ds S):OkI X P1 α1 R ds S:=λJ H' P' α' r q1 q2 q3=>k J H' P' α' r (e.trans q1) (h.trans q2) q3
def LX (ha:PE X e (tD X fa)):PI X tg e (tDI X (wZ fa)):=by
 intro pins s σ H R I h;obtain⟨P,α,env,S,r,re,af⟩:=h;refine thn (zZ ha I r re af) λvv s1 ⟨v,H1,P1,α1,d,S1,G1,af1⟩=>?_;obtain⟨ds,e1,q⟩:=jK af1;exact cT G1.inv G1.rel G1.val G1.rep e1 (q.base G1.same G1.pre)
def yH (lo:Ak)(n:Ai):Ab D:=(Cz n).map λ(i:Ai)=>D.int (lo+(i:Ak))
def bB (lo:Ak)(n:Ai):(yH lo n).length=n:=by simp[yH]
def r0 {P:Hp}{α:Ab Af}{lo:Ak}{n:Ai}:ItD K (Itr lo n) P α (yH lo n) where
 go:=λi H P1 α1 S hi r e _=>by rw[bB] at hi;exact hi
 yld:=λi H x H' P1 α1 S hi r e e2 y=>by
  obtain⟨rfl,rfl⟩:=y;rw[bB] at hi;exact⟨P1,.int (lo+i),by simp[yH,hi],r,qK.refl _,by simp only[Rep]⟩
 stop:=λi H P1 α1 S hi r e _=>by rw[bB] at hi;exact hi
def fT (ds:Ab D):Am (Ab D):=match ds with
 |[.int j]=>if -(2 ^ 62)≤j∧j<2 ^ 62 then Aa (yH 0 j.toNat) else none
 |[.int i,.int j]=>if -(2 ^ 62)≤i∧i<2 ^ 62 ∧ -(2 ^ 62)≤j∧j<2 ^ 62 then Aa (yH i (j-i).toNat) else none
 |_=>none
def yL (f:DA):DI:=λenv S=>(f env S).bind λds S1=>uD (fT ds) S1
def asI:D→Am Ak
 |.int i=>Aa i
 |_=>none
def t9 {d:D}{i:Ak}(h:asI d=Aa i):d=.int i:=by
 cases d with
 |int k=>exact congrArg D.int (Ct h)
 |_=>exact nn h
inductive RngV:Ab D→Ab D→Prop
 |one (j:Ak) (h : -(2 ^ 62)≤j∧j<2 ^ 62):RngV [.int j] (yH 0 j.toNat)
 |two (i j:Ak) (h : -(2 ^ 62)≤i∧i<2 ^ 62 ∧ -(2 ^ 62)≤j∧j<2 ^ 62):RngV [.int i,.int j] (yH i (j-i).toNat)
def AU (d:D):fT [d]=(asI d).bind λj=>if -(2 ^ 62)≤j∧j<2 ^ 62 then Aa (yH 0 j.toNat) else none:=by cases d <;> rfl
def AV (d d':D):fT [d,d']=(asI d).bind λi=>(asI d').bind λj=>if -(2 ^ 62)≤i∧i<2 ^ 62 ∧ -(2 ^ 62)≤j∧j<2 ^ 62 then Aa (yH i (j-i).toNat) else none:=by
 cases d with
 |int i=>cases d' <;> rfl
 |_=>rfl
def TQ {ds its:Ab D}(h:fT ds=Aa its):RngV ds its:=by
 cases ds with
 |nil=>exact nn h
 |cons d ds =>
  cases ds with
  |nil =>
   obtain⟨j,e,h⟩:=Dv.mp ((AU d).symm.trans h);obtain⟨c,rfl⟩:=g9 h;rw[t9 e];exact .one j c
  |cons d' ds =>
   cases ds with
   |nil =>
    obtain⟨i,e,h⟩:=Dv.mp ((AV d d').symm.trans h);obtain⟨j,e',h⟩:=Dv.mp h;obtain⟨c,rfl⟩:=g9 h;rw[t9 e,t9 e'];exact .two i j c
   |cons _ _ =>
    have h0:∀ d'' t,fT (d::d'::d''::t)=none:=λd'' t=>by cases d <;> first|rfl|(cases d' <;> rfl)
    exact nn ((h0 _ _).symm.trans h)
def dW {P:Hp}{α:Ab Af}{i:Ak}{ds:Ab D}(r:qI K P α (.int i::ds) vs):∃ ws,vs=.int i::ws∧qI K P α ds ws:=by
 obtain⟨w,ws,rfl,p,t⟩:=r.cons_inv;exact⟨ws,congrArg (· :: ws) (by simpa only [Rep] using p),t⟩
def PI.weak {iter:Bx}{t t':TI}(h:PI X tg iter t)(w:∀ σ H R,t' σ H R→t σ H R):PI X tg iter t':=λpins s σ H R I q=>h pins s σ H R I (w σ H R q)
end
section
variable {X:Cx}{tg a b:Bx}{f:DA}{p pos:Fa}
def UW {e:Bx}{es:Ab Bx}(hg:Gl X "range")(hm:X.mg "range" = none)(ha:PA X (e::es) (tDA X f))(hs:Bh (e::es) X.env=(false,eval e X.env)::Bh es X.env:=by rfl)(hpl:(Gf pos (Bh es X.env)).any (·.1)=false:=by rfl) :
  PI X tg (.Call (.Name "range" p) (e::es) [] pos) (tDI X (yL f)):=by
 intro pins s σ H R I h;obtain⟨P,α,env,S,r,re,af⟩:=h;refine Call_ (uX I hg hm boot_range (Gr (thn (v8 ha I r re af pos) λus s1 ⟨vs,H1,P1,α1,ds,S1,I1,rv,r1,re1,rp,e1,e2,af1⟩=>?_) hs hpl));obtain⟨its,hi,q⟩:=jK af1;cases TQ hi with
 |one j c =>
  obtain⟨ws,rfl,t1⟩:=dW rp;cases t1.nil_inv;obtain⟨u,rfl,t,rfl⟩:=gV rv;refine call_range_1 (aW I1 om om c.1 c.2 ?_);have z:=q (Itr 0 j.toNat) H1 P1 α1 r1 e1 e2 r0;rw[Int.sub_zero];exact z
 |two i j c =>
  obtain⟨ws,rfl,t1⟩:=dW rp;obtain⟨ws2,rfl,t2⟩:=dW t1;cases t2.nil_inv;obtain⟨u,u',rfl,⟨t,rfl⟩,t',rfl⟩:=XI rv;exact call_range_2 (aW I1 c.1 c.2.1 c.2.2.1 c.2.2.2 (q (Itr i (j-i).toNat) H1 P1 α1 r1 e1 e2 r0))
def vM (g:DG)(f:DS):Ab D→qF→Sto→Out
 |[],env,S=>.nx env S
 |d::ds,env,S=>(g d env S).toS env λenv1 S1=>match f env1 S1 with
  |.nx env2 S2=>vM g f ds env2 S2
  |.ct env2 S2=>vM g f ds env2 S2
  |.bk env2 S2=>.nx env2 S2
  |o=>o
def yI (fi:DI)(g:DG)(f:DS):DS:=λenv S=>(fi env S).toS env λds S1=>vM g f ds env S1
inductive LoopW (X:Cx)(P1:Hp)(α1:Ab Af)(g:DG)(f:DS)(ds:Ab D)(D:Ends)(i m:Ai)(σ : _L.St)(H:Hp):Prop
 |mk (hi:i≤ds.length) (hm:m=ds.length-i) (P2:Hp) (α2:Ab Af) (env2:qF) (S2:Sto) (r:Rel X.K H P2 α2 S2) (re:zP X.K P2 α2 σ env2) (e1:qK P1 P2) (e2:α1<+:α2) (af:zR X P2 α2 (vM g f (ds.drop i) env2 S2) D):LoopW X P1 α1 g f ds D i m σ H
def D0 {iter:Bx}{fi:DI}{g:DG}{f:DS}(hp:Ti (Au X.prog X.w) X.A X.env X.xe)(hc:X.calm=true)(hi:PI X tg iter (tDI X fi))(hg:PG X tg (tDG X g))(hb:PSs X body (tDS X f))
  (hs:∀ x,Fo iter X.env x=pure x:=by intro _;rfl):PS X (.For tg iter body [] pos) (tDS X (yI fi g f)):=psW (RY hp hc hi hg hb hs) λD σ H ⟨P,α,env,S,r,re,af⟩=>by
 refine⟨P,α,env,S,r,re,?_⟩;have af1:=vH af;cases q:fi env S with
 |bad=>rw[q] at af1;exact af1
 |ex c x S'=>rw[q] at af1;exact af1
 |ok ds S1 =>
  rw[q] at af1;have af2:zR X P α (vM g f ds env S1) D:=af1;intro J H1 P1 α1 r1 e1 e2 it;refine⟨LoopW X P1 α1 g f ds D,
   ⟨ds.length,Fq _,rfl,P1,α1,env,S1,r1,re.mono e1 e2,qK.refl _,Bp _,zR.base e1 e2 af2⟩,?_⟩
  rintro i m σ2 H2 ⟨hi,rfl,P2,α2,env2,S2,r2,re2,e3,e4,af3⟩;by_cases hlt:i<ds.length
  ·refine .inr ⟨it.go i H2 P2 α2 S2 hlt r2 e3 e4,LoopW X P1 α1 g f ds D (i+1) (ds.length-(i+1)),λσ' H' w=>⟨_,?_,w⟩,λx H3 y=>?_⟩
   ·omega
   ·obtain⟨P3,d,hd,r3,e5,rp⟩:=it.yld i H2 x H3 P2 α2 S2 hlt r2 e3 e4 y
    have hdr:ds.drop i=d::ds.drop (i+1):=by
     rw[Im hlt];rw[An hlt] at hd;rw[Ct hd]
    rw[hdr] at af3;have af4:=vH (zR.base e5 (Bp _) af3);refine⟨P3,α2,env2,S2,d,r3,re2.mono e5 (Bp _),rp,?_⟩;cases q2:g d env2 S2 with
    |bad=>rw[q2] at af4;exact af4
    |ex c x S'=>rw[q2] at af4;exact af4
    |ok env3 S3 =>
     rw[q2] at af4;intro σ4 H4 P4 α4 r4 re4 e6 e7;refine⟨P4,α4,env3,S3,r4,re4,?_⟩;have af5:=zR.base e6 e7 af4;cases q3:f env3 S3 with
     |bad=>simp only[q3] at af5;exact af5
     |ex c x env4 S4=>simp only[q3] at af5;exact af5
     |rt d4 S4=>simp only[q3] at af5;exact af5
     |bk env4 S4=>simp only[q3] at af5;exact af5
     |nx env4 S4 =>
      simp only[q3] at af5;exact λσ5 H5 P5 α5 r5 re5 e8 e9=>⟨hlt,rfl,P5,α5,env4,S4,r5,re5,((e3.trans e5).trans e6).trans e8,(e4.trans e7).trans e9,zR.base e8 e9 af5⟩
     |ct env4 S4 =>
      simp only[q3] at af5;exact λσ5 H5 P5 α5 r5 re5 e8 e9=>⟨hlt,rfl,P5,α5,env4,S4,r5,re5,((e3.trans e5).trans e6).trans e8,(e4.trans e7).trans e9,zR.base e8 e9 af5⟩
  ·have hdr:ds.drop i=[]:=Mh om
   rw[hdr] at af3;exact .inl ⟨it.stop i H2 P2 α2 S2 om r2 e3 e4,af3 σ2 H2 P2 α2 r2 re2 (qK.refl _) (Bp _)⟩
end
abbrev DF:=Ab D→Sto→Res D
section
variable {X:Cx}{x:As}{p pos:Fa}{e:Bx}{es:Ab Bx}{F:DF}{fa:DA}
def qE (F:DF)(fa:DA):DE:=λenv S=>(fa env S).bind λds S1=>F ds S1
def sM {pins:Ab (Af × Cr)}{s1:Ag}{σ:_L.St}{H1 P P1:Hp}{α α1:Ab Af}{ds:Ab D}(hc:yV X u F)(I1:Inv X pins σ H1 s1)(r1:Rel X.K H1 P1 α1 S1)(rv:qT vs us)
  (rp:qI X.K P1 α1 ds vs) (e1:qK P P1) (e2:α<+:α1) (af:qQ X P α (F ds S1) (OkV X P α Q)):Ao (Au X.prog X.w) X.A (call u us) (EP X pins σ Q) X.xe s1:=hc pins σ H1 s1 P1 α1 S1 vs us ds Q I1 r1 rv rp (zH.base e1 e2 af)
def UQ {id:Ea}(hc:yV X (.builtin id) F)(hg:Gl X x)(hm:X.mg x=none)(hv:Fv x=Aa (.builtin id))(ha:PA X (e::es) (tDA X fa))(hn:x ≠ "__name__":=by decide)(hdb:(x == ("__debug__" : As))=false:=by decide)
  (he:Bh (e::es) X.env=(false,eval e X.env)::Bh es X.env:=by rfl) (hpl:(Gf pos (Bh es X.env)).any (·.1)=false:=by rfl):PE X (.Call (.Name x p) (e::es) [] pos) (tD X (qE F fa)):=by
 intro pins s σ H Q I h;obtain⟨P,α,env,S,r,re,af⟩:=h;refine Hx (uX I hg hm hv ?_ hn hdb);exact Ng (thn (v8 ha I r re af pos) λus s1 ⟨vs,H1,P1,α1,ds,S1,I1,rv,r1,re1,rp,e1,e2,af1⟩=>sM hc I1 r1 rv rp e1 e2 af1) he hpl
def WA {T:Ea}(hc:yV X (.type T) F)(hg:Gl X x)(hm:X.mg x=none)(hv:Fv x=Aa (.type T))(ha:PA X (e::es) (tDA X fa))(hn:x ≠ "__name__":=by decide)(hdb:(x == ("__debug__" : As))=false:=by decide)
  (he:Bh (e::es) X.env=(false,eval e X.env)::Bh es X.env:=by rfl) (hpl:(Gf pos (Bh es X.env)).any (·.1)=false:=by rfl):PE X (.Call (.Name x p) (e::es) [] pos) (tD X (qE F fa)):=by
 intro pins s σ H Q I h;obtain⟨P,α,env,S,r,re,af⟩:=h;refine Hx (uX I hg hm hv ?_ hn hdb);exact Gr (thn (v8 ha I r re af pos) λus s1 ⟨vs,H1,P1,α1,ds,S1,I1,rv,r1,re1,rp,e1,e2,af1⟩=>sM hc I1 r1 rv rp e1 e2 af1) he hpl
end
def zV.there {P:Bg}{w:By}{H:Hp}{h:Bk}{a:Af}{o:HO}(x:zV P w H h a o):∃ ob,h.get? a=Aa ob:=by
 cases o with
 |lst xs=>obtain⟨_,_,_,_,e⟩:=x;exact⟨_,e⟩
 |tup xs=>obtain⟨_,_,_,ob,e,_⟩:=x;exact⟨_,e⟩
 |dK kvs=>obtain⟨_,_,_,_,o,_,_,e,_⟩:=x;exact⟨_,e⟩
 |dT kvs=>obtain⟨_,_,_,_,o,_,_,e,_⟩:=x;exact⟨_,e⟩
 |set S n=>obtain⟨o,_,_,_,e,_⟩:=x;exact⟨_,e⟩
 |ins C dx fs=>obtain⟨_,_,_,e,_⟩:=x;exact⟨_,e⟩
 |own y=>obtain⟨_,e⟩:=x;exact⟨_,e⟩
 |xd fs=>obtain⟨_,⟨_,_,_,e,_⟩,_⟩:=x;exact⟨_,e⟩
 |rng lo hi=>obtain⟨_,_,_,e⟩:=x;exact⟨_,e⟩
 |frz ob u=>obtain⟨e,_⟩:=x;exact⟨_,e⟩
 |tbl ps=>exact⟨_,show h.get? a=Aa _ from x⟩
 |met f y=>exact⟨_,show h.get? a=Aa _ from x⟩
 |ext φ => obtain⟨_,e,_⟩:=x;exact e
section
variable {X:Cx}{pins:Ab (Af × Cr)}{σ : _L.St}{H:Hp}{s:Ag}{B h':Bk}
abbrev Fn1 (X:Cx):Prop:=X.ex=[]∧X.stack=X.env::X.outer∧X.env.frame=Aa X.env.locals
def Fn1.mem (F:Fn1 X){b:Af}:b∈frs X.stack↔b=X.env.locals∨b∈X.fs:=by
 rw[F.2.1];unfold frs;rw[Gd,F.2.2];exact Av
def Old.there (I:Inv X pins σ H s)(F:Fn1 X){b:Af}(o:Old X pins H b):∃ ob,s.heap.get? b=Aa ob:=by
 rcases o with⟨o,e⟩|e|⟨p,hp,rfl⟩|⟨x,e⟩
 ·exact I.base.there b o e (by rw[F.1];simp)
 ·cases q:H b with
  |none=>exact absurd q e
  |some u=>exact zV.there (I.hok b u q)
 ·exact⟨_,(I.pin p hp).1⟩
 ·obtain⟨v,ob,ho,_⟩:=I.cell x b e
  exact⟨ob,ho⟩
def Inv.fly (I:Inv X pins σ H s)(F:Fn1 X)(cv:Cv X pins H B s.heap)(st:B.StaysIn h')(up:s.heap.UpToSlots h'):Inv X pins σ H { s with heap:=h' } ∧ Cv X pins H B h':=by
 have kp:∀ b o,s.heap.get? b=Aa o→Old X pins H b→b ∉ frs X.stack→h'.get? b=Aa o:=λb o e q n=>st b o (cv b o e q n);have neL:∀ b o,X.s₀.heap.get? b=Aa o→b≠X.env.locals:=λb o e=>Co (Bn (AT e) I.ok.above);have nofr:∀ b o,X.s₀.heap.get? b=Aa o→b ∉ X.fs→b ∉ frs X.stack:=λb o e n z=>(F.mem.mp z).elim (neL b o e) n;have nx:∀ b,b ∉ X.ex:=λb=>by rw[F.1];simp
 have frU:∀ b,b∈frs X.stack→∀ o,s.heap.get? b=Aa o→∃ sl,h'.get? b=Aa { o with slots:=sl }:=λb hb o e=>by
  obtain⟨_,o',e',nf⟩:=I.stack.mem hb;rw[e] at e';cases e';exact up b o e nf
 have cellK:∀ x c,X.env.cells.lookup x=Aa c→∀ v,s.heap.IsCell c v→h'.IsCell c v:=λx c e v ⟨o,ho,hd⟩=>by
  obtain⟨sl,q⟩:=up c o ho λvs z=>by rw[hd] at z;cases z
  exact⟨_,q,hd⟩
 refine⟨⟨I.ok,I.os,I.bare,⟨λb o e n hb hx=>?_,λb o e n hb hx=>?_,I.base.free,λb o e hx=>?_,I.base.tups,I.base.frzs,I.base.tbls⟩,?_,λx c e=>?_,I.free,I.freeC,λp hp=>?_,λa o e=>?_,I.len⟩,λb o e q n=>?_⟩
 ·exact kp b o (I.base.keep b o e n hb hx) (.inl ⟨o,e⟩) (nofr b o e hb)
 ·obtain⟨sl,e1⟩:=I.base.slot b o e n hb hx
  obtain⟨sl',e2⟩:=frU b (F.mem.mpr (.inr hb)) _ e1;exact⟨sl',e2⟩
 ·obtain⟨o',e1⟩:=I.base.there b o e hx
  by_cases hb:b∈frs X.stack
  ·obtain⟨sl,e2⟩:=frU b hb _ e1
   exact⟨_,e2⟩
  ·exact⟨o',kp b o' e1 (.inl ⟨o,e⟩) hb⟩
 ·obtain⟨m,hn,hl⟩:=I.loc
  refine⟨m,up.ns hn,λi x v e1 e2 e3=>?_⟩;obtain⟨u,r,l⟩:=hl i x v e1 e2 e3;refine⟨u,r,?_⟩;rcases l with l|⟨k,c,e,z⟩
  ·exact .inl l
  ·exact .inr ⟨k,c,e,cellK x c e _ z⟩
 ·obtain⟨v,z⟩:=I.cell x c e
  exact⟨v,cellK x c e v z⟩
 ·obtain⟨e,n,ne,nf,d⟩:=I.pin p hp
  exact⟨kp p.1 p.2 e (.inr (.inr (.inl ⟨p,hp,rfl⟩))) λz=>(F.mem.mp z).elim ne nf,n,ne,nf,d⟩
 ·refine(I.hok a o e).stay (λb u hb q=>?_) (λ_ q=>q) λ_ _ q=>q
  have hn:H b≠none:=by
   rcases hb with rfl|hb
   ·rw[e];intro z;cases z
   ·rw[hb];intro z;cases z
  exact kp b u q (.inr (.inl hn)) λz=>hn (I.stkFree b z)
 ·obtain⟨o1,e1⟩:=Old.there I F q
  have e2:=cv b o1 e1 q n;have e3:=st b o1 e2;rw[e] at e3;cases e3;exact e2
def YM {c:Ad}{e:Af}{g:Bk}(I:Inv X pins σ H s)(hm:Tz g s.heap e c args)(hf:g.FunFrames X.base X.stack)(hk:∀ b o,s.heap.get? b=Aa o→Old X pins H b→g.get? b=Aa o) :
  (Nk g (frs X.stack)).StaysIn g∧g.FunFrames (Nk g (frs X.stack)) X.stack∧Cv X pins H (Nk g (frs X.stack)) s.heap:=
 ⟨λb o q=>Vk _ q,PySem.W.funFrames_hide hf λenv he a ha=>Jg.mpr ⟨env,he,ha⟩,λb o e q n=>Uj _ (hk b o e q) n⟩
def Y3 {M:Nm}{A:Bv}{E:Ad→Ag→Prop}{c:Ad}{e:Af}{Q:Sh→Ag→Prop}(I:Inv X pins σ H s)(F:Fn1 X)(hA:A.frames=Aa X.stack)(f:FlyX X pins H c e s.heap)
  (hQ:∀ h' B a0,Nz B X.outer e c a0 h'→Inv X pins σ H { s with heap:=h' } → Cv X pins H B h'→Q () { s with heap:=h' }) : Ao M A (leaving X.env (.ref e)) Q E s:=by
 cases f with
 |new g args hm hf hk =>
  obtain⟨k1,k2,k3⟩:=YM I hm hf hk;rw[F.2.1] at hA;refine wpAny_leaves_madeW hA F.2.2 k1 (by rw[← F.2.1];exact k2) hm λh' t x1 x2 x3 x4=>?_
  obtain⟨I1,cv1⟩:=Inv.fly I F k3 x1.1 x4;exact hQ h' _ _ x1 I1 cv1
 |fly B a0 fl cv =>
  rw[F.2.1] at hA;refine wpAny_leaves_onW hA F.2.2 (by rw[← F.2.1];exact fl) λh' x1 x2=>?_
  obtain⟨I1,cv1⟩:=Inv.fly I F cv x1.1 x2;exact hQ h' _ _ x1 I1 cv1
end
def CXd (P:Bg)(w:By):CXT:=λouter H s E u s' =>
 ∃ e c H' B a0,u=.ref e∧s'.os=s.os∧Mm s'.gens∧Un (frs outer) [] H H' s.heap s'.heap∧HOk P w H' s'.heap∧Nz B outer e c a0 s'.heap ∧
  (∀ b o,s'.heap.get? b=Aa o→((∃ o,s.heap.get? b=Aa o)∨H' b≠none)→b ∉ frs outer→B.get? b=Aa o)∧E c none H'
section
variable {X:Cx}{pins:Ab (Af × Cr)}{σ : _L.St}{H:Hp}{s s':Ag}
def DJ {E:XK}(I:Inv X pins σ H s)(F:Fn1 X)(h:CXd X.prog X.w X.stack H s E u s'):∃ e c H',u=.ref e∧Inv X pins σ H' s'∧FlyX X pins H' c e s'.heap∧E c none H':=by
 obtain⟨e,c,H',B,a0,rfl,os,bare,un,hok,fl,cov,q⟩:=h;have I':Inv X pins σ H' s':=Inv.call' I os un hok bare (ch:=[]) λb z=>absurd z (by simp)
 refine⟨e,c,H',rfl,I',.fly B a0 fl λb o eb old n=>cov b o eb ?_ n,q⟩;rcases old with⟨o,z⟩|z|⟨p,hp,rfl⟩|⟨x,z⟩
 ·exact .inl (I.base.there b o z (by rw[F.1];simp))
 ·exact .inr z
 ·exact .inl ⟨_,(I.pin p hp).1⟩
 ·obtain⟨v,ob,ho,_⟩:=I.cell x b z
  exact .inl ⟨ob,ho⟩
end
structure RoomC (cm:Aq)(k:Ai)(A:Bv):Prop where
 hd:cm=true→A.handled=none
 dp:A.depth+3*k+5<Oq
 un:A.units+16*k+200<Du
 gd:A.guards=Aa []
def RoomC.mono {cm:Aq}{j k:Ai}{A:Bv}(r:RoomC cm k A)(h:j≤k:=by decide):RoomC cm j A:=⟨r.hd,by have:=r.dp;omega,by have:=r.un;omega,r.gd⟩
def RoomC.deeper {cm:Aq}{k:Ai}{A:Bv}(r:RoomC cm (k+1) A)(env:Jt):RoomC cm k (A.deeper env):=
 ⟨r.hd,by have:=r.dp;show A.depth+1+3*k+5<_;omega,by have:=r.un;show A.units+3+16*k+200<_;omega,r.gd⟩
def RoomC.depth {cm:Aq}{k:Ai}{A:Bv}(r:RoomC cm k A):A.depth<Oq:=by have:=r.dp;omega
def RoomC.units {cm:Aq}{k:Ai}{A:Bv}(r:RoomC cm k A):A.units+64<Du:=by have:=r.un;omega
def RoomC.of {k:Ai}{A:Bv}(r:Room k A):RoomC true k A:=⟨λ_=>r.hd,r.dp,r.un,r.gd⟩
def RoomC.any {cm:Aq}{k:Ai}{A:Bv}(r:RoomC cm k A):RoomC false k A:=⟨(λz=>nomatch z),r.dp,r.un,r.gd⟩
def RoomC.mark {cm:Aq}{k:Ai}{A:Bv}(r:RoomC cm k A)(h:Am Ad):RoomC false k (A.mark h):=⟨(λz=>nomatch z),r.dp,r.un,r.gd⟩
abbrev Cx.re (X:Cx)(A:Bv)(cm:Aq)(E:Ad→Ag→Prop):Cx:={ X with A:=A,calm:=cm,xe:=E }
def Inv.re {X:Cx}{pins:Ab (Af × Cr)}{σ:_L.St}{H:Hp}{s:Ag}(I:Inv X pins σ H s)(A:Bv)(cm:Aq)(E:Ad→Ag→Prop)(hf:A.frames=Aa X.stack)(hh:cm=true→A.handled=none):Inv (Cx.re X A cm E) pins σ H s:=
 ⟨⟨I.ok.mod,I.ok.kind,I.ok.glob,I.ok.blt,I.ok.above,I.ok.inj,I.ok.has,I.ok.cab,hh,hf,I.ok.stk,I.ok.exf,I.ok.bs,I.ok.bsz,I.ok.noex,I.ok.exfs,I.ok.funs,I.ok.frf⟩,I.os,I.bare,I.base,I.loc,I.cell,I.free,I.freeC,I.pin,I.hok,I.len⟩
def Inv.unre {X:Cx}{pins:Ab (Af × Cr)}{σ:_L.St}{H:Hp}{s:Ag}{A:Bv}{cm:Aq}{E:Ad→Ag→Prop}(I:Inv (Cx.re X A cm E) pins σ H s)(hf:X.A.frames=Aa X.stack)(hh:X.calm=true→X.A.handled=none):Inv X pins σ H s:=
 ⟨⟨I.ok.mod,I.ok.kind,I.ok.glob,I.ok.blt,I.ok.above,I.ok.inj,I.ok.has,I.ok.cab,hh,hf,I.ok.stk,I.ok.exf,I.ok.bs,I.ok.bsz,I.ok.noex,I.ok.exfs,I.ok.funs,I.ok.frf⟩,I.os,I.bare,I.base,I.loc,I.cell,I.free,I.freeC,I.pin,I.hok,I.len⟩
structure FnX (P:Bg)(w:By)(K:Al)(mg:As→Am Ad)(base:Bk)(cm:Aq)(k:Ai)(f:Af)(fd:Fw)(ps:Ab As)(sp:Sp):Prop where
 len:∀ vs H Q E,sp vs H Q E→vs.length=ps.length
 run:∀ (A:Bv) (outer:Ab Jt) (s:Ag) (H:Hp) (args:Args) (us:Ab Ad) (vs:Ab V) (Q:VK) (E:XK),RoomC cm k A→Env0 P w K mg base A outer s H→Oa s fd args (ps.zip us)→qT vs us→sp vs H Q E →
  Jk (Au P w) A (.call (.ref f) args) (CR (CXd P w) outer P w H s Q E) s
def FnX.ok {P:Bg}{w:By}{K:Al}{mg:As→Am Ad}{base:Bk}{k:Ai}{f:Af}{fd:Fw}{ps:Ab As}(F:FnX P w K mg base true k f fd ps sp):FnOk P w K mg base (CXd P w) k f fd ps sp:=
 ⟨F.len,λA outer s H args us vs Q E hr=>F.run A outer s H args us vs Q E (.of hr)⟩
def FnX.any {P:Bg}{w:By}{K:Al}{mg:As→Am Ad}{base:Bk}{cm:Aq}{k:Ai}{f:Af}{fd:Fw}{ps:Ab As}(F:FnX P w K mg base false k f fd ps sp):FnX P w K mg base cm k f fd ps sp:=
 ⟨F.len,λA outer s H args us vs Q E hr=>F.run A outer s H args us vs Q E hr.any⟩
def FnX.imp {P:Bg}{w:By}{K:Al}{mg:As→Am Ad}{base:Bk}{cm:Aq}{k:Ai}{f:Af}{fd:Fw}{ps:Ab As}{sp':Sp}(F:FnX P w K mg base cm k f fd ps sp)
  (h:∀ vs H Q E,sp' vs H Q E→sp vs H Q E):FnX P w K mg base cm k f fd ps sp':=
 ⟨λvs H Q E q=>F.len vs H Q E (h _ _ _ _ q),λA outer s H args us vs Q E hr he hb hv hs=>F.run A outer s H args us vs Q E hr he hb hv (h _ _ _ _ hs)⟩
def cxC (cm:Aq)(P:Bg)(w:By)(K:Al)(mg:As→Am Ad)(base:Bk)(N:Ab As)(qual:As)(scope:Gb)(f:Af)(cd:Ad)(A:Bv)(outer:Ab Jt)(s:Ag)(H:Hp)(E:XK):Cx where
 prog:=P
 w:=w
 K:=K
 mg:=mg
 base:=base
 A:=A.deeper (Gm qual scope s.heap.objs.size f cd)
 N:=N
 s₀:=s
 H₀:=H
 env:=Gm qual scope s.heap.objs.size f cd
 outer:=outer
 stack:=Gm qual scope s.heap.objs.size f cd::outer
 ex:=[]
 calm:=cm
 fn:=λ_=>true
 pn:=[]
 xe:=λe s'=>Ao (Au P w) (A.deeper (Gm qual scope s.heap.objs.size f cd)) (leaving (Gm qual scope s.heap.objs.size f cd) e) (λ_ s''=>CXd P w outer H s E e s'') (λe' s''=>CXd P w outer H s E e' s'') s'
section
variable {P:Bg}{w:By}{K:Al}{mg:As→Am Ad}{base:Bk}{cm:Aq}{N:Ab As}{qual:As}{scope:Gb}{f:Af}{cd:Ad}{A:Bv}{outer:Ab Jt}{s:Ag}{H:Hp}{E:XK}
def UN:Ti (Au P w) (A.deeper (Gm qual scope s.heap.objs.size f cd)) (Gm qual scope s.heap.objs.size f cd) (cxC cm P w K mg base N qual scope f cd A outer s H E).xe:=PassesOwn.leaving (Q₁:=λe s''=>CXd P w outer H s E e s'')
def W3 {P0:Hp}{α:Ab Af}{c:Ad}{x:D}{s':Ag}(k:XOk (cxC cm P w K mg base N qual scope f cd A outer s H E) P0 α c x S u s')
  (q:∀ H' P' α',Rel K H' P' α' S→qK P0 P'→α<+:α'→E c none H'):(cxC cm P w K mg base N qual scope f cd A outer s H E).xe u s':=by
 obtain⟨e,pins,σ,H1,P1,α1,rfl,I,r,e1,e2,F,fl⟩:=k;refine Y3 (X:=cxC cm P w K mg base N qual scope f cd A outer s H E) I F I.ok.frames fl λh' B a0 x1 I1 cv=>?_;refine⟨e,c,H1,B,a0,rfl,I1.os,I1.bare,I1.base,I1.hok,x1,λb o eb hb n=>cv b o eb ?_ λz=>?_,q H1 P1 α1 r e1 e2⟩
 ·rcases hb with z|z
  ·exact .inl z
  ·exact .inr (.inl z)
 ·rcases (Fn1.mem F).mp z with z|z
  ·subst z
   rcases hb with⟨o',e'⟩|z
   ·exact absurd (AT e') (Ja.mpr I1.ok.above)
   ·exact z I1.free
  ·exact n z
def ZK {ps:Ab As}{s1:Ag}(S:FnScope N ps scope)(hd:cm=true→A.handled=none)(e0:Env0 P w K mg base A outer s H)(hl:vs.length=ps.length)(r:qT vs us)
  (x:InCallC s s.heap.objs.size (Uo (Gm qual scope s.heap.objs.size f cd).kindOf (ps.zip us) λ_=>none) (Hb (s.heap.objs.size+1) scope.names []) (Uq (Gm qual scope s.heap.objs.size f cd).kindOf (ps.zip us) λ_=>none) s1) :
  Inv (cxC cm P w K mg base N qual scope f cd A outer s H E) [] (_L.yP N vs) H s1:=by
 have I:=sZ (CX:=CXd P w) (E:=E) (A:={ A with handled:=none }) S rfl ⟨e0.frames,e0.mod,e0.bs,e0.bsz,e0.funs,e0.frf,e0.hok,e0.bare⟩ hl r x
 have J:=Inv.re I (A.deeper (Gm qual scope s.heap.objs.size f cd)) cm (cxC cm P w K mg base N qual scope f cd A outer s H E).xe (Uf e0.frames) hd;exact J
end
def DM {P:Bg}{w:By}{K:Al}{mg:As→Am Ad}{base:Bk}{cm:Aq}{k:Ai}{f:Af}{x qual:As}{st:Fd}{fd:Fw}{N ps:Ab As}(F:Fun K x qual st f fd)(S:FnScope N ps (qR st))
  (len:∀ vs H Q E,sp vs H Q E→vs.length=ps.length)
  (hbody:∀ (cdv:Ad) (A:Bv) (outer:Ab Jt) (s:Ag) (H:Hp) (vs:Ab V) (Q:VK) (E:XK),RoomC cm k (A.deeper (Gm qual (qR st) s.heap.objs.size f cdv))→sp vs H Q E →
   ∃ t,PSs (cxC cm P w K mg base N qual (qR st) f cdv A outer s H E) (xH st) t∧t { nx:=λ_ H'=>Q .non H',rt:=Q } (_L.yP N vs) H) :
  FnX P w K mg base cm (k+1) f fd ps sp:=by
 obtain⟨oc,od,kV,doc,pm,an,cdv,ct,osl,rfl,lk,hcd⟩:=F.ex;refine⟨len,λA outer s H args us vs Q E hr e0 hb r hsp=>?_⟩;have hl:=len _ _ _ _ hsp;have KX:K.In s.heap:=e0.mod.kin.keeps λb o e=>(e0.bs b o e).1;have lim:s.heap.NoLimit:=e0.mod.nolimit.keeps λb o e=>(e0.bs b o e).1;have hkind:∀ y∈ps.zip us,(qR st).names.lookup y.1=Aa .local ∨ ((qR st).names.lookup y.1=Aa .cell∧((Hb (s.heap.objs.size+1) (qR st).names []).lookup y.1).isSome=true):=λ⟨n,v⟩ hy=>by
  rcases S.par n (No hy).1 with q|q
  ·exact .inl q
  ·exact .inr ⟨q,Jm _ _ _ (.inl q)⟩
 refine Tl hr.depth (KX _ _ lk) rfl S.co S.gen rfl (Vm KX hcd) (hb _ _ _ _ ?_);refine Pl S.kind hkind λenv he s1 x=>?_;subst he;refine⟨lim.keeps x.toInCall.keep,codeAny_func ?_⟩;obtain⟨t,ht,hq⟩:=hbody cdv A outer s H vs Q E (hr.deeper _) hsp;have I:Inv (cxC cm P w K mg base N qual (qR st) f cdv A outer s H E) [] (_L.yP N vs) H s1:=ZK S hr.hd e0 hl r x;refine Gv (ht [] s1 (_L.yP N vs) H _ I hq) (λfl s' hs=>?_) λe s' hs=>hs;have fin:∀ {σ' : _L.St} {H':Hp} {v:V} {u:Ad},Inv (cxC cm P w K mg base N qual (qR st) f cdv A outer s H E) [] σ' H' s'→qP v u→Q v H'→CE outer P w H s Q u s':=
  λ{σ' H' v u} J rv q=>⟨v,H',J.os,J.bare,J.base,J.hok,rv,q⟩
 cases fl with
 |ret u =>
  obtain⟨v,σ',H',J,rv,q⟩:=hs;exact fin J rv q
 |next =>
  obtain⟨σ',H',J,q⟩:=hs;exact fin (v:=V.non) (u:=Ff) J rfl q
 |brk =>
  obtain⟨_,_,_,q⟩:=hs;exact Ap q
 |cont =>
  obtain⟨_,_,_,q⟩:=hs;exact Ap q
def j2 (n:Ai)(ds:Ab D):qF:=ds.map Aa++Cd (n-ds.length) none
def fP:Out→Res D
 |.rt d S=>.ok d S
 |.nx _ S=>.ok .non S
 |.ex c x _ S=>.ex c x S
 |_=>.bad
def z9 (n:Ai)(g:DS):DF:=λds S=>fP (g (j2 n ds) S)
def spD (K:Al)(n:Ai)(F:DF):Sp:=λvs H Q E=>vs.length=n∧∃ P α ds S,Rel K H P α S∧qI K P α ds vs∧match F ds S with
 |.ok d S'=>∀ v H' P' α',Rel K H' P' α' S'→qK P P'→α<+:α'→Rep K P' α' d v→Q v H'
 |.ex c _ S'=>∀ H' P' α',Rel K H' P' α' S'→qK P P'→α<+:α'→E c none H'
 |.bad=>Fe
def X1 {K:Al}{P:Hp}{α:Ab Af}{N:Ab As}{ds:Ab D}(r:qI K P α ds vs):zP K P α (_L.yP N vs) (j2 N.length ds):=by
 refine⟨by simp[j2,_L.yP,r.length],λi d e=>?_⟩
 unfold j2 at e;unfold _L.yP;by_cases hi:i<ds.length
 ·rw[Bl (by simpa using hi),Dw] at e
  rw[Bl (by rw[Ay,← r.length];exact hi),Dw]
  cases q:ds[i]? with
  |none=>rw[q] at e;cases e
  |some d' =>
   rw[q] at e;cases e;obtain⟨v,h1,h2⟩:=r.get q;exact⟨v,by rw[h1];rfl,h2⟩
 ·rw[Eb (by simpa using hi),Ll] at e
  split at e <;> cases e
section
variable {P:Bg}{w:By}{K:Al}{mg:As→Am Ad}{base:Bk}{cm:Aq}
def fnX {x qual:As}{st:Fd}{f:Af}{fd:Fw}{N ps:Ab As}{k:Ai}{g:DS}(F:Fun K x qual st f fd)(S:FnScope N ps (qR st))
  (hbody:∀ (cdv:Ad) (A:Bv) (outer:Ab Jt) (s:Ag) (H:Hp) (E:XK),RoomC cm k (A.deeper (Gm qual (qR st) s.heap.objs.size f cdv)) →
   PSs (cxC cm P w K mg base N qual (qR st) f cdv A outer s H E) (xH st) (tDS (cxC cm P w K mg base N qual (qR st) f cdv A outer s H E) g)) :
  FnX P w K mg base cm (k+1) f fd ps (spD K ps.length (z9 N.length g)):=by
 refine DM F S (λvs H Q E h=>h.1) λcdv A outer s H vs Q E hr h=>?_;obtain⟨hl,P',α,ds,S',r,rp,af⟩:=h;refine⟨_,hbody cdv A outer s H E hr,P',α,j2 N.length ds,S',r,X1 rp,?_⟩;unfold z9 at af;cases q:g (j2 N.length ds) S' with
 |rt d S1=>rw[q] at af;exact λv H' P1 α1 r1 e1 e2 p1=>af v H' P1 α1 r1 e1 e2 p1
 |nx env S1=>rw[q] at af;exact λσ' H' P1 α1 r1 re1 e1 e2=>af .non H' P1 α1 r1 e1 e2 (by simp only[Rep])
 |bk env S1=>rw[q] at af;exact Ap af
 |ct env S1=>rw[q] at af;exact Ap af
 |ex c x env S1=>rw[q] at af;exact λu s' z=>W3 z λH' P1 α1 r1 e1 e2=>af H' P1 α1 r1 e1 e2
 |bad=>rw[q] at af;exact Ap af
end
section
variable {X:Cx}{cm:Aq}{k:Ai}{f:Af}{fd:Fw}{ps:Ab As}{F:DF}{x:As}{p pos:Fa}{e:Bx}{es:Ab Bx}{fa:DA}{n:Ai}
def qG (n:Ai)(F:DF)(fa:DA):DE:=λenv S=>(fa env S).bind λds S1=>if ds.length=n then F ds S1 else .bad
def TU {pins:Ab (Af × Cr)}{σ:_L.St}{H:Hp}{s:Ag}{P:Hp}{α:Ab Af}{ds:Ab D}(G:FnX X.prog X.w X.K X.mg X.base cm k f fd ps (spD X.K n F))(hr:RoomC cm k X.A)(hb:kF X.K fd ps [])(hF:Fn1 X)
  (I:Inv X pins σ H s) (r:Rel X.K H P α S) (rv:qT vs us) (rp:qI X.K P α ds vs) (hn:ds.length=n) (af:zH X P α (F ds S) Q):Ao (Au X.prog X.w) X.A (call (.ref f) us) (EP X pins σ Q) X.xe s:=by
 have hvn:vs.length=n:=by rw[← rp.length];exact hn
 let E:XK:=λc _ H'=>match F ds S with
  |.ex c' _ S'=>c=c'∧∃ P' α',Rel X.K H' P' α' S'∧qK P P'∧α<+:α'
  |_=>Fe
 have hsp:spD X.K n F vs H Q E:=by
  refine⟨hvn,P,α,ds,S,r,rp,?_⟩;cases q:F ds S with
  |ok d S'=>rw[q] at af;exact af
  |ex c x S' =>
   intro H' P' α' r' e1 e2;show match F ds S with|.ex c' _ S'=>c=c'∧∃ P' α',Rel X.K H' P' α' S'∧qK P P'∧α<+:α'|_=>Fe
   rw[q];exact⟨rfl,P',α',r',e1,e2⟩
  |bad=>rw[q] at af;exact af
 have hl:us.length=ps.length:=by rw[← rv.length];exact G.len _ _ _ _ hsp
 have hb':=hb s us I.kIn (by rw[Hf];exact hl)
 rw[Hf] at hb';refine Od (Jf (G.run X.A X.stack s H ⟨us,[]⟩ us vs Q E hr I.env0 hb' rv hsp) λr s' hq=>?_);cases r with
 |error u =>
  obtain⟨a,c,H',rfl,I',fl,q⟩:=DJ I hF hq;cases z:F ds S with
  |ok d S'=>simp only[E,z] at q
  |bad=>simp only[E,z] at q
  |ex c' x' S' =>
   simp only[E,z] at q;obtain⟨rfl,P',α',r',e1,e2⟩:=q;rw[z] at af;exact af _ _ ⟨a,pins,σ,H',P',α',rfl,I',r',e1,e2,hF,fl⟩
 |ok fl =>
  cases fl with
  |ret u=>exact I.after hq
  |next=>exact Ap hq
  |brk=>exact Ap hq
  |cont=>exact Ap hq
def sS {env:qF}{S:Sto}{P:Hp}{α:Ab Af}{ds:Ab D}{Ok:D→Sto→Prop}(h:qQ X P α (if ds.length=n then F ds S1 else .bad) Ok):ds.length=n∧qQ X P α (F ds S1) Ok:=by
 by_cases hn:ds.length=n
 ·rw[Bd hn] at h;exact⟨hn,h⟩
 ·rw[Be hn] at h;exact Ap h
def BV (G:FnX X.prog X.w X.K X.mg X.base cm k f fd ps (spD X.K n F))(hr:RoomC cm k X.A)(hF:Fn1 X)(hg:Gl X x)(hm:X.mg x=Aa (.ref f))(hk:Ex X.K (.ref f)=true)(hb:kF X.K fd ps [])
  (ha:PA X (e::es) (tDA X fa)) (hdb:(x == ("__debug__" : As))=false:=by decide) (he:Bh (e::es) X.env=(false,eval e X.env)::Bh es X.env:=by rfl) (hpl:(Gf pos (Bh es X.env)).any (·.1)=false:=by rfl) :
  PE X (.Call (.Name x p) (e::es) [] pos) (tD X (qG n F fa)):=by
 intro pins s σ H Q I h;obtain⟨P,α,env,S,r,re,af⟩:=h;refine Hx (pI I hg hm ?_ hdb);refine Vp (h₀:=X.base) I.ok.mod.kin hk (thn (v8 ha I r re af pos) λus s1 ⟨vs,H1,P1,α1,ds,S1,I1,rv,r1,re1,rp,e1,e2,af1⟩=>⟨I1.kIn,?_⟩) he hpl;obtain⟨hn,af2⟩:=sS (env:=env) (S:=S) af1;exact TU G hr hb hF I1 r1 rv rp hn (zH.base e1 e2 af2)
end
abbrev eZ:Ab Ad:=[.type "ValueError",.type "Exception",.type "BaseException",.type "object"]
def CO:Ad→Aq
 |.str _ _=>true
 |_=>false
def pO (K:Al)(N:Af):Aq:=(match Mr N K with
 |some o=>match o.data with
  |.dict es _=>es.toList.all λe=>CO e.key
  |_=>false
 |none=>false)&&decide (Ds K N "__init__" = Aa none)
def vO {K:Al}{N:Af}(h:pO K N=true):Zj K N=true∧Ds K N "__init__" = Aa none:=by
 unfold pO at h;rw[Az,Cm] at h;refine⟨?_,h.2⟩;have h1:=h.1;unfold Zj;cases e:Mr N K with
 |none=>rw[e] at h1;cases h1
 |some o =>
  rw[e] at h1;obtain⟨oc,od,dt,sl⟩:=o;cases dt with
  |dict es ep =>
   simp only at h1 ⊢;rw[Array.all_toList] at h1;refine Eq.trans (congrArg (λf=>Array.all es f) (funext λe=>?_)) h1;cases e.key <;> rfl
  |_=>cases h1
def eM (K:Al)(C:Af)(f:Ad→Wx→Bj (Am Ad)→Aq):Aq:=match Mr C K with
 |some o=>(match o.data with|.cls cd=>f o.cls cd o.slots|_=>false)
 |none=>false
def aE {K:Al}{f:Ad→Wx→Bj (Am Ad)→Aq}(h:eM K C f=true):∃ oc od cd sl,Mr C K=Aa ⟨oc,od,.cls cd,sl⟩∧f oc cd sl=true:=by
 unfold eM at h;cases e:Mr C K with
 |none=>rw[e] at h;exact Df h
 |some o =>
  rw[e] at h;obtain⟨oc,od,dt,sl⟩:=o;cases dt with
  |cls cd=>exact⟨oc,od,cd,sl,rfl,h⟩
  |_=>exact Df h
def tG (K:Al)(C A:Af):Aq:=eM K C λoc cd sl=>eM K A λ_ ca _=>decide (oc=.type "type")&&(decide (cd.mro=.ref C::.ref A::eZ)&&(!cd.hasDel&&(pO K cd.ns&&(pO K ca.ns&&(decide (sl.toList.length=6)&&decide (sl.toList[4]? = Aa (Aa (.builtin "ValueError.__new__"))))))))
inductive ExcO (h:Bk)(C:Af):Prop
 |mk (nm q:As) (N:Af) (bs bm:Ab Ad) (hdct:Aq) (sn:Ab As) (sub:Ab Ad) (ab:Aq) (col:Am Aq) (dd:Am Af) (k0 k1 k2 k3 k5:Am Ad) (mN:As→Am Ad) (hC:h.get? C=Aa (excClassObj nm q C N bs bm hdct sn sub ab col dd k0 k1 k2 k3 k5 "ValueError.__new__")) (hN:h.Ns N mN) (hni:mN "__init__" = none) (T:OwnTail h eZ bm):ExcO h C
def dQ {β:Type}{l:Ab β}{n:Ai}(h:l.length=n+1):∃ a t,l=a::t∧t.length=n:=by
 cases l with
 |nil=>exact Nat.noConfusion h
 |cons a t=>exact⟨a,t,rfl,Nat.succ.inj h⟩
def six {β:Type}{l:Ab β}(h:l.length=6):∃ a b c d e f,l=[a,b,c,d,e,f]:=by
 obtain⟨a,t,e1,h⟩:=dQ h;obtain⟨b,t2,e2,h⟩:=dQ h;obtain⟨c,t3,e3,h⟩:=dQ h;obtain⟨d,t4,e4,h⟩:=dQ h;obtain⟨e,t5,e5,h⟩:=dQ h;obtain⟨f,t6,e6,h⟩:=dQ h;exact⟨a,b,c,d,e,f,by rw[e1,e2,e3,e4,e5,e6,Hq.mp h]⟩
def R4 {cd:Wx}{tl:Ab Ad}{k0 k1 k2 k3 k4 k5:Am Ad}{n:Ea}(hm:cd.mro=.ref C::tl)(hd:cd.hasDel=false)(hs:sl.toList=[k0,k1,k2,k3,k4,k5])(hn:sl.toList[4]? = Aa (Aa (.builtin n))) :
  (⟨.type "type",od,.cls cd,sl⟩:Cr)=excClassObj cd.name cd.qualname C cd.ns cd.bases tl cd.hasDict cd.slotNames cd.subclasses cd.abstract cd.collection od k0 k1 k2 k3 k5 n:=by
 rw[hs] at hn;cases hn;cases cd;cases sl;cases hm;cases hd;cases hs;rfl
def FG {K:Al}{h:Bk}{A:Af}{cd:Wx}(KI:K.In h)(e:Mr C K=Aa ⟨.type "type",od,.cls cd,sl⟩)(h2:cd.mro=.ref C::.ref A::eZ)(h3:cd.hasDel=false)(h4:pO K cd.ns=true)(h6:sl.toList.length=6)(h7:sl.toList[4]? = Aa (Aa (.builtin "ValueError.__new__")))(T:OwnTail h eZ (.ref A::eZ)):ExcO h C:=by
 obtain⟨k0,k1,k2,k3,x,k5,es⟩:=six h6;exact⟨_,_,_,_,_,_,_,_,_,_,_,k0,k1,k2,k3,k5,_,(KI _ _ e).trans (congrArg Aa (R4 h2 h3 es h7)),.of_isNs (Vq KI (vO h4).1),Qt KI (vO h4).1 (vO h4).2,T⟩
def FH {K:Al}{h:Bk}{A:Af}(KI:K.In h)(z:tG K C A=true):ExcO h C:=by
 obtain⟨oc,od,cd,sl,e,z⟩:=aE z;obtain⟨qc,qd,ca,ql,e2,z⟩:=aE z;have a1:=Er.mp z;have a2:=Er.mp a1.2;have a3:=Er.mp a2.2;have a4:=Er.mp a3.2;have a5:=Er.mp a4.2;have a6:=Er.mp a5.2;rw[Ce a1.1] at e;exact FG KI e (Ce a2.1) (Qf _▸a3.1) a4.1 (Ce a6.1) (Ce a6.2) (.own (KI _ _ e2) (.of_isNs (Vq KI (vO a5.1).1)) (Qt KI (vO a5.1).1 (vO a5.1).2) .base)
section
variable {X:Cx}{pos:Fa}{fa:DA}
def jZ (c:Ad)(fa:DA):DS:=λenv S=>(fa env S).toS env λds S1=>if ds.length≤lim then .ex c .non env S1 else .bad
inductive GotAS (X:Cx)(pins:Ab (Af × Cr))(σ : _L.St)(env:qF)(P:Hp)(α : Ab Af)(us:Ab Ad)(s1:Ag)(k:Ab D→Sto→Out)(E:Ends):Prop
 |mk (vs:Ab V) (H1 P1:Hp) (α1:Ab Af) (ds:Ab D) (S1:Sto) (I:Inv X pins σ H1 s1) (rv:qT vs us) (r:Rel X.K H1 P1 α1 S1) (re:zP X.K P1 α1 σ env) (rp:qI X.K P1 α1 ds vs) (e1:qK P P1) (e2:α<+:α1) (q:zR X P1 α1 (k ds S1) E):GotAS X pins σ env P α us s1 k E
def BR {es:Ab Bx}{k:Ab D→Sto→Out}{pins:Ab (Af × Cr)}{s:Ag}{σ:_L.St}{H P:Hp}{α:Ab Af}{env:qF}{D:Ends}(he:PA X es (tDA X fa))(I:Inv X pins σ H s)(r:Rel X.K H P α S)
  (re:zP X.K P α σ env) (af:zR X P α ((fa env S).toS env k) D) (pos:Fa) :
  Ao (Au X.prog X.w) X.A (spliced (Gf pos (Bh es X.env))) (λus s1=>GotAS X pins σ env P α us s1 k D) X.xe s:=by
 have af1:qQ X P α ((fa env S).bind λd S=>.ok d S) λd S=>zR X P α (k d S) D:=by
  have:=vH af;cases q:fa env S <;> rw[q] at this <;> exact this
 exact thn (v8 he I r re af1 pos) λu s1 ⟨vs,H1,P1,α1,ds,S1,I1,rv,r1,re1,rp,e1,e2,q⟩=>⟨vs,H1,P1,α1,ds,S1,I1,rv,r1,re1,rp,e1,e2,zR.base e1 e2 q⟩
def J3 {x:As}{Ae:Af}{e₀:Bx}{rest:Ab Bx}{np cpos:Fa}(hc:X.calm=true)(hF:Fn1 X)(hg:Gl X x)(hm:X.mg x=Aa (.ref C))(hx:tG X.K C Ae=true)(ha:PA X (e₀::rest) (tDA X fa))
  (hdb:(x == ("__debug__" : As))=false:=by decide) (he:Bh (e₀::rest) X.env=(false,eval e₀ X.env)::Bh rest X.env:=by rfl) (hpl:(Gf cpos (Bh rest X.env)).any (·.1)=false:=by rfl) :
  PS X (.Raise (Aa (.Call (.Name x np) (e₀::rest) [] cpos)) none pos) (tDS X (jZ (.ref C) fa)):=by
 intro pins s σ H D I h;obtain⟨P,α,env,S,r,re,af⟩:=h;obtain⟨nm,qn,N,bs,tl,hdct,sn,sub,ab,col,dd,k0,k1,k2,k3,k5,mN,hC,hN,hni,T⟩:=FH I.mod.kin hx;refine wpAny_Raise_call_subT (C:=C) (nm:=nm) (q:=qn) (N:=N) (bs:=bs) (bm:=tl) (hdct:=hdct) (sn:=sn) (sub:=sub) (ab:=ab) (col:=col) (dd:=dd) (k0:=k0) (k1:=k1) (k2:=k2) (k3:=k3) (k5:=k5)
  Po (mN:=mN) (T.hasType Po.hasBase) (I.ok.hd hc) (by rw[he];show (false||(Gf cpos (Bh rest X.env)).any (·.1))=false;rw[hpl];rfl) hni (pI I hg hm ⟨rfl,?_⟩ hdb)
 have run:=BR ha I r re af cpos;rw[he] at run ⊢;refine Uh (thn run λus s2 ⟨vs,H1,P1,α1,ds,S1,I1,rv,r1,re1,rp,e1,e2,q⟩=>?_);have hl:us.length=ds.length:=by rw[rp.length,rv.length]
 by_cases hz:ds.length≤lim
 ·rw[Bd hz] at q
  refine⟨rfl,by rw[hl,← xJ];exact hz,I1.bk _ _ hC,hN.keeps I1.bk,T.keeps I1.bk,λh' e hm=>q _ _ ⟨e,pins,σ,H1,P1,α1,rfl,I1.kept (t':=s2.toks) hm.keeps,r1,qK.refl _,Bp _,hF,.new s2.heap us hm I1.stack λb o eb old=>?_⟩⟩
  obtain⟨o1,q1⟩:=Old.there I1 hF old;have q2:=hm.keeps b o1 q1;rw[eb] at q2;cases q2;exact q1
 ·rw[Be hz] at q;exact Ap q
end
section
variable {X:Cx}{pins:Ab (Af × Cr)}{σ : _L.St}{H:Hp}{s:Ag}
def ZQ {M:Nm}{A:Bv}{E:Ad→Ag→Prop}{base h:Bk}{env:Jt}{outer:Ab Jt}{L e:Af}{cls:Ad}{Q:Sh→Ag→Prop}
  (hfr:A.frames=Aa (env::outer)) (hf:env.frame=Aa L) (hkb:base.StaysIn h) (hl:h.FunFrames base (env::outer)) (hx:Tz h s.heap e cls args)
  (hQ:∀ h' a0,Heap.HeldW base (env::outer) e cls a0 L h'→s.heap.UpToSlots h'→Q () { s with heap:=h' }) : Ao M A (Wy (.ref e) env) Q E s:=by
 obtain⟨t,he,htn,ht⟩:=hx.there;have fresh:∀ b,h.get? b=none→base.get? b=none:=λb hb=>by
  cases hq:base.get? b with
  |none=>rfl
  |some o'=>have z:=hkb b o' hq;rw[hb] at z;cases z
 unfold Wy;simp only[hf];refine Ac (Dg he rfl (x:=.none) rfl ?_);rw[Be (by decide)]
 refine wpAny_entryW hfr (hl.of_keeps λb o hb _=>⟨o,hx.keeps b o hb,rfl⟩) hf he (λb o hb=>hx.keeps b o (hkb b o hb)) (fresh e hx.new) rfl (by simp) (a0:=.ref t) rfl λh' hN=>?_
 obtain⟨n1,n2,n3,n4⟩:=hN;exact hQ h' (.ref t) ⟨n1,fresh e hx.new,n2,n3⟩ n4
def JX {M:Nm}{A:Bv}{E:Ad→Ag→Prop}{c:Ad}{e:Af}{Q:Sh→Ag→Prop}(I:Inv X pins σ H s)(F:Fn1 X)(hA:A.frames=Aa X.stack)(f:FlyX X pins H c e s.heap)
  (hQ:∀ h' B a0,Nz B X.stack e c a0 h'→Inv X pins σ H { s with heap:=h' } → Cv X pins H B h'→Q () { s with heap:=h' }) :
  Ao M A (Wy (.ref e) X.env) (λ_ s₂=>Ao M A (Wz (.ref e) none) Q E s₂) E s:=by
 have land:∀ (B:Bk) (a0:Ad) (h1:Bk),Cv X pins H B s.heap→Heap.HeldW B X.stack e c a0 X.env.locals h1→s.heap.UpToSlots h1→Ao M A (Wz (.ref e) none) Q E { s with heap:=h1 }:=λB a0 h1 cv hh up=>by
  refine wpAny_landsW (s:={ s with heap:=h1 }) hh λh2 f2 u2=>?_
  obtain⟨I2,cv2⟩:=Inv.fly I F cv f2.1 (up.trans u2);exact hQ h2 B a0 f2 I2 cv2
 cases f with
 |new g args hm hf hk =>
  obtain⟨k1,k2,k3⟩:=YM I hm hf hk;rw[F.2.1] at hA;exact ZQ hA F.2.2 k1 (by rw[← F.2.1];exact k2) hm λh' a0 x1 x2=>land _ a0 h' k3 (F.2.1▸x1) x2
 |fly B a0 fl cv =>
  rw[F.2.1] at hA;exact wpAny_looks_onW hA F.2.2 (by rw[← F.2.1];exact fl) λh' x1 x2=>land B a0 h' cv (by rw[F.2.1];exact x1) x2
def o8 {B:Bk}{c a0:Ad}{e:Af}(I:Inv X pins σ H s)(F:Fn1 X)(fl:Nz B X.stack e c a0 s.heap)(cv:Cv X pins H B s.heap):¬ Old X pins H e∧e ∉ frs X.stack∧∃ ob,s.heap.get? e=Aa ob∧ob.cls=c:=by
 obtain⟨oe,vs,he,hc,hd,_⟩:=fl.first
 have nf:e ∉ frs X.stack:=λz=>by
  obtain⟨_,o,ho,hn⟩:=I.stack.mem z;rw[he] at ho;cases ho;exact hn vs hd
 refine⟨λz=>?_,nf,oe,he,hc⟩;have q:=cv e oe he z nf;rw[fl.2.1] at q;cases q
def Inv.track {e:Af}{c:Ad}{ob:Cr}(I:Inv X pins σ H s)(F:Fn1 X)(no:¬ Old X pins H e)(nf:e ∉ frs X.stack)(he:s.heap.get? e=Aa ob)(hc:ob.cls=c):Inv X pins σ (upd H e (cL e c)) s:=by
 have hn:H e=none:=by
  cases q:H e with
  |none=>rfl
  |some u=>exact absurd (.inr (.inl (by rw[q];intro z;cases z))) no
 have nL:e≠X.env.locals:=λz=>nf (F.mem.mpr (.inl z));have n0:∀ b o,X.s₀.heap.get? b=Aa o→b≠e:=λb o q z=>no (.inl ⟨o,z▸q⟩);refine⟨I.ok,I.os,I.bare,⟨I.base.keep,I.base.slot,λb o q n hx=>?_,I.base.there,λb xs q=>?_,λb o xs q=>?_,λb ps q=>?_⟩,I.loc,I.cell,?_,λx k q=>?_,λp hp=>?_,λb u q=>?_,I.len⟩
 ·rw[qV (n0 b o q)];exact I.base.free b o q n hx
 ·have z:=I.base.tups b xs q
  rw[qV (zQ z hn)];exact z
 ·have z:=I.base.frzs b o xs q
  rw[qV (zQ z hn)];exact z
 ·obtain⟨m,z⟩:=I.base.tbls b ps q
  exact⟨m,by rw[qV (zQ z hn)];exact z⟩
 ·rw[qV (Em nL)];exact I.free
 ·have z:k≠e:=λz=>no (.inr (.inr (.inr ⟨x,z▸q⟩)))
  rw[qV z];exact I.freeC x k q
 ·obtain⟨a1,a2,a3,a4,a5⟩:=I.pin p hp
  have z:p.1≠e:=λz=>no (.inr (.inr (.inl ⟨p,hp,z⟩)));exact⟨a1,by rw[qV z];exact a2,a3,a4,a5⟩
 ·by_cases hb:b=e
  ·subst hb
   rw[zM] at q;cases q;refine⟨⟨ob,he,hc⟩,⟨ob,he⟩,λh1 h2 ⟨o,q1,q2⟩ k=>⟨o,k o q1,q2⟩⟩
  ·rw[qV hb] at q
   exact(I.hok b u q).stay (λ_ _ _ z=>z) (λk z=>by rw[qV (zQ z hn)];exact z) λk xs z=>by rw[qV (zQ z hn)];exact z
def Inv.gone {i t':Ai}{n:As}{h':Bk}(I:Inv X pins σ H s)(hN:X.N.Nodup)(hi:X.N[i]? = Aa n){m:As→Am Ad}{v:Am Ad}(hl:∀ (j:Ai) (y:As) (w:V),X.N[j]? = Aa y→σ[j]? = Aa (Aa w)→Vis X.env.scope y→∃ u,qP w u∧NP X.env s.heap m y u)(hv:h'.Ns X.env.locals λy=>if y=n then v else m y)(sb:Eu X.env.locals s.heap h') :
  Inv X pins (σ.set i none) H { s with heap:=h',toks:=t' }:=by
 have neL:∀ b o,X.s₀.heap.get? b=Aa o→b≠X.env.locals:=λb o e=>Co (Bn (AT e) I.ok.above);have kp:∀ b o,b≠X.env.locals→s.heap.get? b=Aa o→h'.get? b=Aa o:=λb o n e=>(sb.2 b n).trans e;refine⟨I.ok,I.os,I.bare,⟨λb o e n hb hx=>kp b o (neL b o e) (I.base.keep b o e n hb hx),λb o e n hb hx=>?_,I.base.free,λb o e hx=>?_,I.base.tups,I.base.frzs,I.base.tbls⟩,⟨_,hv,λj y w e1 e2 e3=>?_⟩,λx c e=>?_,I.free,I.freeC,λp hp=>?_,λb u q=>?_,by simpa using I.len⟩
 ·obtain⟨sl,q⟩:=I.base.slot b o e n hb hx
  exact⟨sl,kp b _ (neL b o e) q⟩
 ·obtain⟨o',q⟩:=I.base.there b o e hx
  exact⟨o',kp b o' (neL b o e) q⟩
 ·have hj:i≠j:=λz=>by
   subst z;by_cases hs:i<σ.length
   ·rw[Dk hs] at e2;cases e2
   ·rw[Mq (by simp;omega)] at e2;cases e2
  rw[Cb hj] at e2;obtain⟨u,r,l⟩:=hl j y w e1 e2 e3;refine⟨u,r,?_⟩;rcases l with⟨k,z⟩|⟨k,c,z,zc⟩
  ·refine .inl ⟨k,?_⟩
   have:y≠n:=λz=>hj (tR hN hi (z▸e1));simp[this,z]
  ·exact .inr ⟨k,c,z,zc.sameBut sb (I.cne y c z)⟩
 ·obtain⟨w,z⟩:=I.cell x c e
  exact⟨w,z.sameBut sb (I.cne x c e)⟩
 ·obtain⟨e,n,ne,nf,d⟩:=I.pin p hp
  exact⟨kp p.1 p.2 ne e,n,ne,nf,d⟩
 ·refine(I.hok b u q).stay (λc w hc z=>kp c w ?_ z) (λ_ z=>z) λ_ _ z=>z
  rintro rfl;rcases hc with rfl|hc
  ·rw[I.free] at q;cases q
  ·rw[I.free] at hc;cases hc
def oA {A:Bv}{E:Ad→Ag→Prop}{i:Ai}{n:As}{pos:Fa}{Q:Sh→Ag→Prop}(I:Inv X pins σ H s)(hN:X.N.Nodup)(hi:X.N[i]? = Aa n)(hlo:X.env.scope.names.lookup n=Aa .local)
  (h:∀ s',Inv X pins (σ.set i none) H s'→Q () s'):Ao M A (do Vg X.env n .none;unbindBehindTheSuite X.env n pos) Q E s:=by
 obtain⟨m,hm,hl⟩:=id I.loc;exact wpAny_nameGoes_keeps hlo hm (by rw[I.ok.kind];rfl) λh' v hv sb=>h _ (Inv.gone I hN hi hl hv sb)
end
abbrev Cx.tryIn (X:Cx)(E:Ad→Ag→Prop)(pn:Ab (Af × Cr)):Cx:={ X with xe:=E,pn:=pn }
abbrev Cx.suite (X:Cx)(e:Af):Cx:=Cx.re X (X.A.mark (Aa (.ref e))) false λ_ _=>Fe
def tT (N i:Ai)(cs:Ab Ad)(f g:DS):DS:=λenv S=>match f env S with
 |.ex c x env1 S1=>if cs.contains c then (match g ((Cd N none).set i (Aa (.exn c))) S1 with
   |.rt d S2=>.rt d S2
   |.nx env2 S2=>.nx (env2.set i none) S2
   |_=>.bad) else .bad
 |o=>o
section
variable {X:Cx}{pins:Ab (Af × Cr)}{σ : _L.St}{H:Hp}{s:Ag}
def Inv.inTry (I:Inv X pins σ H s)(E:Ad→Ag→Prop):Inv (Cx.tryIn X E (X.pn++pins)) [] σ H s:=
 ⟨⟨I.ok.mod,I.ok.kind,I.ok.glob,I.ok.blt,I.ok.above,I.ok.inj,I.ok.has,I.ok.cab,I.ok.hd,I.ok.frames,I.ok.stk,I.ok.exf,I.ok.bs,I.ok.bsz,I.ok.noex,I.ok.exfs,I.ok.funs,I.ok.frf⟩,I.os,I.bare,I.base,I.loc,I.cell,I.free,I.freeC,λp hp=>I.pin p (by simpa using hp),I.hok,I.len⟩
def Inv.outTry {E:Ad→Ag→Prop}(I:Inv (Cx.tryIn X E (X.pn++pins)) more σ H s):Inv X pins σ H s:=
 ⟨⟨I.ok.mod,I.ok.kind,I.ok.glob,I.ok.blt,I.ok.above,I.ok.inj,I.ok.has,I.ok.cab,I.ok.hd,I.ok.frames,I.ok.stk,I.ok.exf,I.ok.bs,I.ok.bsz,I.ok.noex,I.ok.exfs,I.ok.funs,I.ok.frf⟩,I.os,I.bare,I.base,I.loc,I.cell,I.free,I.freeC,λp hp=>I.pin p (Do _ hp),I.hok,I.len⟩
def SP.outTry {E:Ad→Ag→Prop}{D:Ends}{f:Flow}{s':Ag}(h:SP (Cx.tryIn X E (X.pn++pins)) [] D f s'):SP X pins D f s':=by
 cases f with
 |next=>obtain⟨σ',H',I,q⟩:=h;exact⟨σ',H',Inv.outTry I,q⟩
 |brk=>obtain⟨σ',H',I,q⟩:=h;exact⟨σ',H',Inv.outTry I,q⟩
 |cont=>obtain⟨σ',H',I,q⟩:=h;exact⟨σ',H',Inv.outTry I,q⟩
 |ret u=>obtain⟨v,σ',H',I,r,q⟩:=h;exact⟨v,σ',H',Inv.outTry I,r,q⟩
def FlyX.outTry {E:Ad→Ag→Prop}{c:Ad}{e:Af}{h:Bk}(f:FlyX (Cx.tryIn X E (X.pn++pins)) more H c e h):FlyX X pins H c e h:=by
 have old:∀ b,Old X pins H b→Old (Cx.tryIn X E (X.pn++pins)) more H b:=λb o=>by
  rcases o with o|o|⟨p,hp,z⟩|o
  ·exact .inl o
  ·exact .inr (.inl o)
  ·exact .inr (.inr (.inl ⟨p,Do _ hp,z⟩))
  ·exact .inr (.inr (.inr o))
 cases f with
 |new g args hm hf hk=>exact .new g args hm hf λb o e q=>hk b o e (old b q)
 |fly B a0 fl cv=>exact .fly B a0 fl λb o e q n=>cv b o e (old b q) n
def VG {K:Al}{P:Hp}{α:Ab Af}{n:Ai}(h:σ.length=n):zP K P α σ (Cd n none):=by
 refine⟨by simp[h],λi d e=>?_⟩
 rw[Ll] at e
 split at e <;> cases e
def zP.unset {K:Al}{P:Hp}{α:Ab Af}{env:qF}(re:zP K P α σ env)(i:Ai):zP K P α (σ.set i none) (env.set i none):=by
 refine⟨by simp[re.1],λj d e=>?_⟩
 by_cases hj:i=j
 ·subst hj
  by_cases hi:i<env.length
  ·rw[Dk hi] at e;cases e
  ·rw[Mq (by simp;omega)] at e;cases e
 ·rw[Cb hj] at e ⊢
  exact re.2 j d e
end
section
variable {X:Cx}{pos:Fa}{f g:DS}
def DQ {pins:Ab (Af × Cr)}{D:Ends}{c:Ad}{e C0:Af}{s':Ag}{σ:_L.St}{H P:Hp}{α:Ab Af}{x n:As}{i:Ai}{b₀:Fd}{suite:Ab Fd}{np hpos:Fa}
  (F:Fn1 X) (hg:Gl X x) (hm:X.mg x=Aa (.ref C0)) (hcs:∀ c∈cs,Ix X.K c (.ref C0)=Aa true) (hN:X.N.Nodup) (hi:X.N[i]? = Aa n) (hlo:X.env.scope.names.lookup n=Aa .local)
  (hs:∀ e,PSs (Cx.suite X e) (b₀::suite) (tDS (Cx.suite X e) g)) (hc:cs.contains c=true) (I:Inv X pins σ H s') (r:Rel X.K H P α S1) (fl:FlyX X pins H c e s'.heap)
  (af:zR X P α (match g ((Cd X.N.length none).set i (Aa (.exn c))) S1 with|.rt d S2=>.rt d S2|.nx env2 S2=>.nx (env2.set i none) S2|_=>.bad) D) (hdb:(x == ("__debug__" : As))=false) :
  Ao (Au X.prog X.w) X.A (Wy (.ref e) X.env) (λ_ s₂=>Ao (Au X.prog X.w) X.A (Wz (.ref e) none) (λ_ s₃ =>
   Ao (Au X.prog X.w) X.A (handleBy (.ref e) X.env [.ExceptHandler (Aa (.Name x np)) (Aa n) (b₀::suite) hpos]) (SP X pins D) X.xe s₃) X.xe s₂) X.xe s':=by
 have hcs':Ix X.K c (.ref C0)=Aa true:=hcs c (by simpa using hc)
 have Z:∀ {σ : _L.St} {H:Hp} {s:Ag},Inv X pins σ H s→Inv (Cx.suite X e) pins σ H s:=λI=>Inv.re I _ false _ I.ok.frames λz=>nomatch z;refine JX I F I.ok.frames fl λh5 B a0 f5 I5 cv5=>?_;refine wpAny_handleBy_cons (codeAny_handlers_test (A:=X.A.mark (Aa (.ref e))) (pI (X:=Cx.suite X e) (Z I5) hg hm ?_ hdb)) (by intro q;cases q)
 obtain⟨no5,nf5,ob5,he5,hc5⟩:=o8 I5 F f5 cv5;refine(PySem.W.exm_one I5.kIn (by subst hc5;exact(PySem.W.Looks.ld he5).andThen .now) hcs').at ?_
 refine codeAny_handlers_suite_as ?_;refine lands_againW (s:={ s' with heap:=h5 }) f5 λh6 f6 u6=>?_
 obtain⟨I6,cv6⟩:=Inv.fly I5 F cv5 f6.1 u6;obtain⟨no6,nf6,ob6,he6,hc6⟩:=o8 I6 F f6 cv6;have J6:Inv X pins σ (upd H e (cL e c)) { s' with heap:=h6 }:=Inv.track I6 F no6 nf6 he6 hc6
 have hn:H e=none:=by
  cases q:H e with
  |none=>rfl
  |some u=>exact absurd (.inr (.inl (by rw[q];intro z;cases z))) no6
 obtain⟨r1,sP⟩:=r.pure (o:=cL e c) hn;refine gG (X:=Cx.suite X e) (v:=.ref e) (Z J6) hN hi (.inl hlo) rfl (λs7 I7=>?_) (.inr hlo);have re7:zP X.K (upd P e (cL e c)) α (σ.set i (Aa (.ref e))) ((Cd X.N.length none).set i (Aa (.exn c))):=(VG I.len).set i (by simp only[Rep];exact⟨e,rfl,zM⟩)
 refine Gv (hs e pins s7 _ _ { nx:=λσ' H'=>D.nx (σ'.set i none) H',rt:=D.rt } I7 ⟨_,α,_,S1,r1,re7,?_⟩) (λfl s8 q=>?_) λ_ _ z=>Ap z
 ·cases q:g ((Cd X.N.length none).set i (Aa (.exn c))) S1 with
  |rt d S2=>rw[q] at af;exact λv H' P' α' r' e1 e2 rp=>af v H' P' α' r' (sP.trans e1) e2 rp
  |nx env2 S2=>rw[q] at af;exact λσ' H' P' α' r' re' e1 e2=>af _ H' P' α' r' (zP.unset re' i) (sP.trans e1) e2
  |bk env2 S2=>rw[q] at af;exact Ap af
  |ct env2 S2=>rw[q] at af;exact Ap af
  |ex c' x' env2 S2=>rw[q] at af;exact Ap af
  |bad=>rw[q] at af;exact Ap af
 ·cases fl with
  |next =>
   obtain⟨σ',H',I8,q⟩:=q;exact oA (Inv.unre I8 I.ok.frames I.ok.hd) hN hi hlo λs9 I9=>⟨_,H',I9,q⟩
  |brk =>
   obtain⟨_,_,_,q⟩:=q;exact Ap q
  |cont =>
   obtain⟨_,_,_,q⟩:=q;exact Ap q
  |ret u =>
   obtain⟨v,σ',H',I8,rv,q⟩:=q;exact oA (Inv.unre I8 I.ok.frames I.ok.hd) hN hi hlo λs9 I9=>⟨v,_,H',I9,rv,q⟩
set_option tactic.hygienic true in
def D6 {x n:As}{C0:Af}{i:Ai}{b₀:Fd}{suite:Ab Fd}{np hpos:Fa}(F:Fn1 X)(hb:∀ E pn,Ti (Au X.prog X.w) X.A X.env E→PSs (Cx.tryIn X E pn) body (tDS (Cx.tryIn X E pn) f))
  (hs:∀ e,PSs (Cx.suite X e) (b₀::suite) (tDS (Cx.suite X e) g)) (hg:Gl X x) (hm:X.mg x=Aa (.ref C0)) (hcs:∀ c∈cs,Ix X.K c (.ref C0)=Aa true) (hN:X.N.Nodup) (hi:X.N[i]? = Aa n:=by rfl) (hlo:X.env.scope.names.lookup n=Aa .local:=by rfl)
  (hdb:(x == ("__debug__" : As))=false:=by decide):PS X (.Try body [.ExceptHandler (Aa (.Name x np)) (Aa n) (b₀::suite) hpos] [] [] pos) (tDS X (tT X.N.length i cs f g)):=by
 intro pins s σ H D I h;obtain⟨P,α,env,S,r,re,af⟩:=h;refine wpAny_Try_except ?_;refine Gv (hb _ (X.pn++pins) (PassesOwn.looking (K:=λe s₂=>Ao (Au X.prog X.w) X.A (Wz e none) (λ_ s₃=>Ao (Au X.prog X.w) X.A (handleBy e X.env [.ExceptHandler (Aa (.Name x np)) (Aa n) (b₀::suite) hpos]) (SP X pins D) X.xe s₃) X.xe s₂) (E₁:=X.xe))
  [] s σ H D (Inv.inTry I _) ⟨P,α,env,S,r,re,?_⟩) (λfl s1 q=>?_) λ_ _ z=>z
 ·unfold tT at af
  cases q:f env S with
  |rt d S2=>rw[q] at af;exact af
  |nx env2 S2=>rw[q] at af;exact af
  |bk env2 S2=>rw[q] at af;exact af
  |ct env2 S2=>rw[q] at af;exact af
  |bad=>rw[q] at af;exact af
  |ex c x' env2 S2 =>
   rw[q] at af;dsimp only at af;intro u s' k;obtain⟨e,pins',σ',H',P',α',rfl,I',r',e1,e2,F',fl⟩:=k
   split at af
   ·rename_i hc
    exact DQ F hg hm hcs hN hi hlo hs hc (Inv.outTry I') r' (FlyX.outTry fl) (zR.base e1 e2 af) hdb
   ·exact Ap af
 ·have q':=SP.outTry q
  cases fl with
  |next=>exact Nn q'
  |brk=>exact q'
  |cont=>exact q'
  |ret u=>exact q'
end
end _D
namespace _D
open PySem PySem.Spec PyProof.Rows _L PySem.W
variable {R:Vh→Ag→Prop}
structure ExnK (K:Al)(C:Af):Prop where
 ga:findIn K (.ref C) "__getattribute__" = Aa (Aa (.builtin "BaseException.__getattribute__"))
 hk:findIn K (.ref C) "__getattr__" = Aa none
 cl:findIn K (.ref C) "__class__" = Aa (Aa (.builtin "object.__class__"))
 sp:specialIn K (.builtin "object.__class__") "__get__" = Aa (Aa (.builtin "getset_descriptor.__get__"))
 tk:takesIn K (.builtin "object.__class__")=Aa true
 mo:mroIn K C (.type "object")=Aa true
 mb:mroIn K C (.type "BaseException")=Aa true
 isC:(clsIn K C).isSome=true
section
variable {prog:Bg}{w:By}{A:Bv}{E:Ad→Ag→Prop}{s:Ag}{K:Al}{x C:Af}
abbrev jO (x C:Af)(h:Bk):Prop:=∃ ob,h.get? x=Aa ob∧ob.cls=.ref C
def jO.type {M:Nm}{h:Bk}(I:jO x C h):Looks M h (typeOf (.ref x)) (.ref C):=by
 obtain⟨ob,e,c⟩:=I;rw[← c];exact(Looks.ld e).andThen .now
def JE {M:Nm}{h:Bk}(X:K.In h)(Z:ExnK K C):Looks M h (wP (.ref x) (.ref C) "__class__") (.bind (.builtin "getset_descriptor.__get__") (.builtin "object.__class__")):=by
 have l1:=Wd (M:=M) X Z.cl;have l2:Looks M h (t0 (Aa (.builtin "object.__class__"))) (Aa (.builtin "getset_descriptor.__get__")):=looks_specialIn X Z.sp;have l3:=looks_takesIn (M:=M) X Z.tk;have l4:Looks M h (We (Aa (.builtin "object.__class__")) (Aa (.builtin "getset_descriptor.__get__"))) (Aa (.builtin "getset_descriptor.__get__",.builtin "object.__class__")):=l3.andThen .now;exact l1.andThen (l2.andThen (l4.andThen (Looks.tag .now)))
def FI {tp:Ad}(X:K.In s.heap)(Z:ExnK K C)(I:jO x C s.heap)(h:R (.ok (.ret (.ref C))) s) :
  Jk (Au prog w) A (.call (.builtin "getset_descriptor.__get__") ⟨[.builtin "object.__class__",.ref x,tp],[]⟩) R s:=by
 have LT:=jO.type (M:=Au prog w) I;have LM:=looks_mroIn (M:=Au prog w) X Z.mo;cases s;refine Kg KF.slot_gs.plain KF.entry_gs (KF.slot_gs.check _ _ _ _ _ _ _ _ KF.type_class (KF.args_gs _ _ _) ?_);unfold Gq.«getset_descriptor.__get__» Wf;rw[dga_obj];refine Ac (Aj ?_);unfold Uw Se So isInstance;simp only[KF.owner_class]
 repeat lk
 refine⟨Pf _ (by decide +kernel),Fj KF.entry_class ?_⟩
 unfold Gq.«object.__class__» shownTypeOf
 repeat lk
 exact h
def DH {tk:Pj}(X:K.In s.heap)(Z:ExnK K C)(I:jO x C s.heap)(h:R (.ok (.ret (.ref C))) s) :
  Jk (Au prog w) A (.call (.builtin "BaseException.__getattribute__") ⟨[.ref x,.str "__class__" tk],[]⟩) R s:=by
 have LT:=jO.type (M:=Au prog w) I;have LM:=looks_mroIn (M:=Au prog w) X Z.mb;have LF:=JE (M:=Au prog w) (x:=x) X Z;have hk:builtinKind "BaseException.__getattribute__" = Aa .slot:=by decide +kernel
 have hsp:splitId "BaseException.__getattribute__" = Aa ("BaseException","__getattribute__"):=by decide +kernel
 have chk:∀ (A:Bv) (Q:Sh→Ag→Prop) (E:Ad→Ag→Prop),Q () s→Ao (Au prog w) A (Rh "BaseException.__getattribute__" ⟨[.ref x,.str "__class__" tk],[]⟩) Q E s:=by
  intro A Q E hq;have ha:=PySem.F.args_bexc_ga (.ref x) (.str "__class__" tk);simp only[Rh,hk,hsp];unfold isInstance;refine Ac (Ac (LT.here (LM.here ?_)))
  repeat (any_goals (first|assumption|wp_step))
 refine Kg Rq.ga.plain PySem.F.entry_bexc_ga (chk _ _ _ ?_);cases s;unfold Gq.«object.__getattribute__»;refine Ac (Ms (show slotArgs "__getattribute__" 1 ⟨[.ref x,.str "__class__" tk],[]⟩=pure (.ref x,[.str "__class__" tk]) from by kernel_rfl) ?_)
 refine Ac (Aj (Ac (LT.at (Ac (LF.at ?_)))));show Ao _ _ (Qg _ _ _ _) _ _ _;unfold Qg;dsimp only;exact Ac (Dp (Od (FI X Z I (Aj h))))
def WL {Q:Am Ad→Ag→Prop}(X:K.In s.heap)(Z:ExnK K C)(I:jO x C s.heap)(h:Q (Aa (.ref C)) { s with toks:=s.toks+1 }) : Ao (Au prog w) A (getAttr? (.ref x) "__class__") Q E s:=by
 have LT:=jO.type (M:=Au prog w) I;have L1:=Wd (M:=Au prog w) X Z.ga;have lk2:=Wd (M:=Au prog w) X Z.hk;unfold getAttr? getAttrBy? getAttrBy;cases s;refine Ac (wpAny_mkText (Ac (Io (Dp (Ac (LT.at (Ac (L1.at ?_))))))));dsimp only;have hx2:(Zw "BaseException.__getattribute__" == Zw "object.__getattribute__")=false:=by decide +kernel
 rw[hx2,Os,Be Fy];unfold getAttrByItsOwn hookBefore;rw[Bd (show onTheHeap (.ref C)=true from rfl)]
 refine Ac (lk2.at (Ac (Io (Dp ?_))));unfold callGetattribute;rw[Op,Be Fy];unfold boundAndCalled;refine Ac (Ms (Rq.ga.bind (.ref x)) ?_);refine Od (DH X Z I ?_);show Ao _ _ (handedOut (.ref C)) _ _ _;exact Aj (Aj h)
set_option tactic.hygienic true in
def cW (Z:ExnK K C):KitX K (.ref x) (.ref C) (jO x C) where
 ty:=λ_ _ _ I=>I.type
 it:=λM h X _=>by
  have z:=Z.isC;unfold clsIn at z
  split at z
  ·rename_i ho
   intro A' Q' E' s' k q;unfold isType loadHead;exact Ac (wpAny_loadPart (k _ _ (X _ _ ho)) (Aj q))
  ·cases z
 ne:=λh tp dd its n sl X htp=>by
  have z:=Z.isC;unfold clsIn at z
  split at z
  ·rename_i ho
   cases hq:(Cg C == Cg tp) with
   |false=>rfl
   |true =>
    obtain rfl:C=tp:=Value.ref.inj (Oe.mp hq);have y:=(X _ _ ho).symm.trans htp;cases y
  ·cases z
 ca:=λX I k=>WL X Z I k
end
end _D
namespace _D
open PySem PySem.Spec PyProof.Rows _L
variable {cells:Ab (As × Af)}{α α1:Ab Af}{ds:Ab D}{E:Ad→Ag→Prop}{a C:Af}{s:Ag}{K:Al}{w:By}{o:Cr}{H P P1:Hp}{S S1:Sto}
def tW {α:Type}{t:Nd α}{Q Q':α→Ag→Prop}{M:Nm}{A:Bv}(h:Ao M A t Q (λ_ _=>Fe) s)(hQ:∀ a s,Q a s→Q' a s):Ao M A t Q' E s:=Gv h hQ λ_ _ x=>x.elim
def gH (ifs:Ab Bx)(env:Jt):Nd Aq:=forIn ifs true λc r=>if r=true then do let ok ← wS c env (eval c env);pure (Jo ok) else pure (Jo r)
def PTs (X:Cx)(ifs:Ab Bx)(t:DT):Prop:=
 ∀ (pins:Ab (Af × Cr)) (s:Ag) (σ : _L.St) (H:Hp) (Q:Aq→Hp→Prop),Inv X pins σ H s→tDT X t σ H Q→Ao (Au X.prog X.w) X.A (gH ifs X.env) (TP X pins σ Q) X.xe s
def zG:DT:=λ_ S=>.ok true S
section
variable {X:Cx}
def t7 {prog:Bg}{A:Bv}{env:Jt}{Q:Aq→Ag→Prop}:∀ (ifs:Ab Bx) {s:Ag},Q false s →
  Ao (Au prog w) A (forIn ifs false λc r=>if r=true then do let ok ← wS c env (eval c env);pure (Jo ok) else pure (Jo r)) Q E s
 |[],s,h=>by rw[Lw];exact Aj h
 |c::cs,s,h=>by
  rw[Kz];rw[Be (by simp)]
  refine Ac (Aj ?_);exact t7 cs h
def FB:PTs X [] zG:=λpins s σ H Q I ⟨P,α,env,S,r,re,af⟩=>by
 unfold gH;rw[Lw];exact Aj ⟨H,I,af H P α r (qK.refl _) (Bp _)⟩
def J8 {c:Bx}{cs:Ab Bx}{t u:DT}(h1:PT X c (tDT X t))(h2:PTs X cs u):PTs X (c::cs) (y9 t u):=λpins s σ H Q I ⟨P,α,env,S,r,re,af⟩=>by
 unfold gH;rw[Kz,Bd rfl];refine Ac (Ac (thn (pE (λQ' q=>h1 pins s σ H Q' I q) r re af) λb s1 ⟨H1,P1,α1,S1,I1,r1,re1,e1,e2,af1⟩=>Aj ?_));cases b with
 |true=>exact h2 pins s1 σ H1 Q I1 ⟨P1,α1,env,S1,r1,re1,yY.base e1 e2 af1⟩
 |false=>exact t7 cs ⟨H1,I1,af1 H1 P1 α1 r1 e1 e2⟩
def qAA {e:Bx}{f:DE}{pins:Ab (Af × Cr)}{σ:_L.St}{env:qF}{d:D}(he:PE X e (tD X f))(I:Inv X pins σ H s)(r:Rel X.K H P α S)(re:zP X.K P α σ env)(q:f env S=.ok d S1) :
  Ao (Au X.prog X.w) X.A (eval e X.env) (λu s1=>∃ v H1 P1 α1,Got X pins σ env P α u s1 v H1 P1 α1 d S1) X.xe s:=by
 refine thn (zZ (g:=λd S=>Res.ok d S) (Ok:=λd' S'=>d'=d∧S'=S1) he I r re (by rw[q];exact⟨rfl,rfl⟩)) λu s1 ⟨v,H1,P1,α1,d',S',G,h1,h2⟩=>?_
 have e1:d'=d:=h1;have e2:S'=S1:=h2;subst e1;subst e2;exact⟨v,H1,P1,α1,G⟩
def AK {ifs:Ab Bx}{t:DT}{pins:Ab (Af × Cr)}{σ:_L.St}{env:qF}{b:Aq}(he:PTs X ifs t)(I:Inv X pins σ H s)(r:Rel X.K H P α S)(re:zP X.K P α σ env)(q:t env S=.ok b S1) :
  Ao (Au X.prog X.w) X.A (gH ifs X.env) (λb' s1=>b'=b∧∃ H1 P1 α1,Inv X pins σ H1 s1∧Rel X.K H1 P1 α1 S1∧zP X.K P1 α1 σ env∧qK P P1∧α<+:α1) X.xe s:=by
 refine thn (he pins s σ H (λb' H1=>b'=b∧∃ P1 α1,Rel X.K H1 P1 α1 S1∧zP X.K P1 α1 σ env∧qK P P1∧α<+:α1) I ⟨P,α,env,S,r,re,?_⟩) λb' s1 ⟨H1,I1,e,P1,α1,q1,q2,q3,q4⟩=>⟨e,H1,P1,α1,I1,q1,q2,q3,q4⟩;rw[q];exact λH' P' α' r' e1 e2=>⟨rfl,P',α',r',re.mono e1 e2,e1,e2⟩
def qAB {tg:Bx}{g:DG}{pins:Ab (Af × Cr)}{σ:_L.St}{env env1:qF}{d:D}{v:V}{u:Ad}(hg:PG X tg (tDG X g))(I:Inv X pins σ H s)(r:Rel X.K H P α S)(re:zP X.K P α σ env)(rv:qP v u)
  (rp:Rep X.K P α d v) (q:g d env S=.ok env1 S1) :
  Ao (Au X.prog X.w) X.A (assign tg X.env u) (λ_ s1=>∃ σ1 H1 P1 α1,Inv X pins σ1 H1 s1∧Rel X.K H1 P1 α1 S1∧zP X.K P1 α1 σ1 env1∧qK P P1∧α<+:α1) X.xe s:=by
 refine thn (hg pins s σ H v u (λσ1 H1=>∃ P1 α1,Rel X.K H1 P1 α1 S1∧zP X.K P1 α1 σ1 env1∧qK P P1∧α<+:α1) I rv ⟨P,α,env,S,d,r,re,rp,?_⟩) λ_ s1 ⟨σ1,H1,I1,P1,α1,q1,q2,q3,q4⟩=>⟨σ1,H1,P1,α1,I1,q1,q2,q3,q4⟩;rw[q];exact λσ' H' P' α' r' re' e1 e2=>⟨P',α',r',re',e1,e2⟩
def lO (K:Al)(P:Hp)(α : Ab Af)(ds:Ab D)(o:Cr):Prop:=∃ (its:Ab Ad) (n:Ai) (vs:Ab V),o={ cls:=.type "list",data:=.seq its.toArray n } ∧ qT vs its∧qI K P α ds vs∧ds.length≤lim
def lO.mono (e:qK P P1)(h:α<+:α1)(a:lO K P α ds o):lO K P1 α1 ds o:=by
 obtain⟨its,n,vs,q1,q2,q3,q4⟩:=a;exact⟨its,n,vs,q1,q2,qI.mono e h _ _ q3,q4⟩
def lO.cell (a:lO K P α ds o):∀ v,o.data≠.cell v:=by
 obtain⟨its,n,vs,rfl,_⟩:=a;intro v z;cases z
def Inv.pin1 {pins:Ab (Af × Cr)}{σ:_L.St}(I:Inv X pins σ H s)(f:wM X pins H a)(e:s.heap.get? a=Aa o)(d:∀ v,o.data≠.cell v):Inv X (pins++[(a,o)]) σ H s:=
 I.pins_of λp hp=>(Cq.mp hp).elim (λz=>I.pin p (Ch _ z)) λz=>by
  have e':p=(a,o):=by simpa using z
  subst e';exact⟨e,f.1,f.2.1,f.2.2.1,d⟩
def Inv.pinned1 {pins:Ab (Af × Cr)}{σ:_L.St}(I:Inv X (pins++[(a,o)]) σ H s):s.heap.get? a=Aa o∧H a=none:=by
 have:=I.pin (a,o) (Ch _ (Ch _ (by simp)))
 exact⟨this.1,this.2.1⟩
end
structure TurnSt (Y:Cx)(pins:Ab (Af × Cr))(P1:Hp)(α1:Ab Af)(fp:Ab Af)(acc:Af)(env:qF)(S:Sto)(ds:Ab D)(s:Ag)(σ : _L.St)(H P:Hp)(α : Ab Af)(o:Cr):Prop where
 inv:Inv Y pins σ H s
 rel:Rel Y.K H P α S
 env:zP Y.K P α σ env
 same:qK P1 P
 pre:α1<+:α
 fpn:∀ b∈fp,H b=none
 acn:H acc=none
 at':s.heap.get? acc=Aa o
 acc:lO Y.K P α ds o
def uU (cells:Ab (As × Af)):Ab (As × Hg)→Ab (As × Af)→Ab (As × Af)
 |[],cs=>cs
 |(n,k)::r,cs=>uU cells r (if k == .free then (n,(cells.lookup n).getD 0)::cs else cs)
def rW {env:Jt}{scope:Gb}(h:∀ y∈scope.names,y.2=.free→∃ c,env.cells.lookup y.1=Aa c):Zc scope env=pure (uU env.cells scope.names []):=by
 have go:∀ (l:Ab (As × Hg)) (cs:Ab (As × Af)),(∀ y∈l,y.2=.free→∃ c,env.cells.lookup y.1=Aa c) →
   (forIn l cs λx cs=>match x with|(name,kind)=>if (kind == Hc)=true then do let a ← cellOf env name;pure (Jo ((name,a)::cs)) else pure (Jo cs):Nd (Ab (As × Af)))=pure (uU env.cells l cs):=by
  intro l
  induction l with
  |nil=>intro cs _;rfl
  |cons y r ih =>
   intro cs hl;obtain⟨n,k⟩:=y;rw[Kz];by_cases hk:k=.free
   ·subst hk
    obtain⟨c,hc⟩:=hl (n,.free) Dd rfl;have hc':env.cells.lookup n=Aa c:=hc;have e:cellOf env n=pure c:=by unfold cellOf;rw[hc']
    simp only[El,Dh,e,pure_bind];rw[ih _ λz hz=>hl z (Bu _ hz)];simp only[uU,El,Dh,hc',Ri]
   ·have hb:(k == Hc)=false:=by simpa using hk
    simp only[hb,Bt,Ec,pure_bind];rw[ih _ λz hz=>hl z (Bu _ hz)];simp only[uU,hb,Bt,Ec]
 unfold Zc;have:=go scope.names [] h;simp only[bind_pure];exact this
def mU {x:As}{c:Af}:∀ (l:Ab (As × Hg)) (cs:Ab (As × Af)),(uU cells l cs).lookup x=Aa c→cs.lookup x=Aa c∨((x,Hc)∈l∧c=(cells.lookup x).getD 0)
 |[],cs,h=>.inl h
 |(n,k)::r,cs,h=>by
  rcases mU r _ h with h|⟨h1,h2⟩
  ·by_cases hk:k=.free
   ·subst hk
    simp only[El,Dh,Jb] at h;cases hb:x == n with
    |true =>
     rw[hb] at h;have e:x=n:=by simpa using hb
     subst e;exact .inr ⟨Dd,(Ct h).symm⟩
    |false=>rw[hb] at h;exact .inl h
   ·have hb:(k == Hc)=false:=by simpa using hk
    simp only[hb,Bt,Ec] at h;exact .inl h
  ·exact .inr ⟨Bu _ h1,h2⟩
def sO {x:As}:∀ (l:Ab (As × Hg)) (cs:Ab (As × Af)),((x,Hc)∈l∨∃ c,cs.lookup x=Aa c)→∃ c,(uU cells l cs).lookup x=Aa c
 |[],cs,h=>by
  rcases h with h|h
  ·cases h
  ·exact h
 |(n,k)::r,cs,h=>by
  refine sO r _ ?_;rcases h with h|⟨c,h⟩
  ·rcases Av.mp h with e|h
   ·cases e
    exact .inr ⟨(cells.lookup x).getD 0,by simp only[El,Dh,Jb]⟩
   ·exact .inl h
  ·by_cases hk:k=.free
   ·subst hk
    simp only[El,Dh,Jb];cases hb:x == n with
    |true=>exact .inr ⟨_,rfl⟩
    |false=>exact .inr ⟨c,h⟩
   ·have hb:(k == Hc)=false:=by simpa using hk
    simp only[hb,Bt,Ec];exact .inr ⟨c,h⟩
structure CompSc (scX:Gb)(NX:Ab As)(scope:Gb)(N':Ab As)(cap:Ab (Am Ai)):Prop where
 kind:scope.kind=.function
 names:∀ y∈scope.names,y.2=.local → scope.names.lookup y.1=Aa .local
 cel:∀ y∈scope.names,y.2=.cell→scope.names.lookup y.1=Aa .cell
 free:∀ y∈scope.names,y.2=.free→scX.names.lookup y.1=Aa .cell∨scX.names.lookup y.1=Aa .free
 fr2:∀ y∈scope.names,y.2=.free→scope.names.lookup y.1=Aa .free
 len:cap.length=N'.length
 caps:((cap.zip N').all λp=>match p.1 with|none=>true|some i=>NX[i]? == Aa p.2&&scope.names.lookup p.2 == Aa .free)=true
 nd:N'.Nodup
def j3 (cap:Ab (Am Ai))(σ : _L.St):_L.St:=cap.map λo=>match o with
 |none=>none
 |some i=>(σ[i]?).join
def wG (cap:Ab (Am Ai))(env:qF):qF:=cap.map λo=>match o with
 |none=>none
 |some i=>(env[i]?).join
def VF {σ:_L.St}{env:qF}(re:zP K P α σ env)(cap:Ab (Am Ai)):zP K P α (j3 cap σ) (wG cap env):=by
 refine⟨by simp[j3,wG],λj d e=>?_⟩
 unfold wG at e;unfold j3;rw[Dw] at e ⊢;cases q:cap[j]? with
 |none=>rw[q] at e;cases e
 |some o =>
  rw[q] at e;cases o with
  |none=>cases e
  |some i =>
   have e':(env[i]?).join=Aa d:=by simpa using e
   cases z:env[i]? with
   |none=>rw[z] at e';cases e'
   |some w =>
    rw[z] at e';have e'':w=Aa d:=e';subst e'';obtain⟨v,h1,h2⟩:=re.2 i d z;exact⟨v,by simp[h1],h2⟩
def zL (X:Cx)(N':Ab As)(scope:Gb)(cl:Ab (As × Af))(C:Af)(ex:Ab Af)(s₀:Ag)(H₀:Hp):Cx:=
 { X with N:=N',s₀:=s₀,H₀:=H₀,env:=compEnvC scope cl C X.env,outer:=X.stack,stack:=X.stack,ex:=ex,fn:=λx=>decide (scope.names.lookup x=Aa .cell),pn:=[],xe:=λ_ _=>Fe }
def gD {scope:Gb}{env:Jt}:∀ {names:Ab (As × Hg)} {x:As} {k:Hg},
  (names.map λ(n,k)=>if (k == Hc&&env.scope.kind == .function&&env.kindOf n == Aa .cell) then (n,Mt) else (n,k)).lookup x=Aa k →
  names.lookup x=Aa k∨(k=.cell∧names.lookup x=Aa .free)
 |[],_,_,h=>by simp at h
 |(n,k0)::r,x,k,h=>by
  rw[Dj,Jb] at h;rw[Jb];dsimp only at h;cases hb:(k0 == Hc&&env.scope.kind == .function&&env.kindOf n == Aa .cell) with
  |true =>
   rw[hb] at h;simp only[Dh] at h;cases hx:x == n with
   |true =>
    rw[hx] at h;have e:Mt=k:=Ct h;have hk:k0=.free:=by
     have:=(Az _ _).mp hb;have:=(Az _ _).mp this.1;simpa using this.1
    subst hk;exact .inr ⟨e.symm,rfl⟩
   |false=>rw[hx] at h;exact gD (scope:=scope) h
  |false =>
   rw[hb] at h;simp only[Bt,Ec] at h;cases hx:x == n with
   |true=>rw[hx] at h;exact .inl h
   |false=>rw[hx] at h;exact gD (scope:=scope) h
section
variable {X:Cx}{scope:Gb}{N':Ab As}{cap:Ab (Am Ai)}{pins:Ab (Af × Cr)}{σ : _L.St}{H2:Hp}{s2:Ag}{fp:Ab Af}
def pT (S:CompSc X.env.scope X.N scope N' cap){x:As}{k:Hg}(h:(relabel scope X.env).names.lookup x=Aa k):scope.names.lookup x=Aa k∨(k=.cell∧scope.names.lookup x=Aa .free):=gD (scope:=scope) h
def W2 (S:CompSc X.env.scope X.N scope N' cap)(ok:X.Ok){x:As}{c:Af}(h:(uU X.env.cells scope.names []).lookup x=Aa c):X.env.cells.lookup x=Aa c∧(x,Hc)∈scope.names:=by
 rcases mU _ _ h with h|⟨hm,hc⟩
 ·cases h
 ·have:=S.free _ hm rfl
  obtain⟨c',hc'⟩:=ok.has x this;rw[hc',Ri] at hc;rw[hc',hc];exact⟨rfl,hm⟩
def KC (scope:Gb)(C:Af):Ab (As × Af):=Hb (C+1) scope.names []
def pR (X:Cx)(scope:Gb)(C:Af):Ab (As × Af):=Hb (C+1) scope.names (uU X.env.cells scope.names [])
def uH:∀ (names:Ab (As × Hg)) (lo:Ai) (acc:Ab (As × Af)),Hb lo names acc=Hb lo names [] ++ acc
 |[],_,_=>rfl
 |(n,k)::r,lo,acc=>by
  unfold Hb
  split
  ·rw[uH r _ ((n,lo)::acc),uH r _ [(n,lo)],Eo];rfl
  ·exact uH r lo acc
set_option tactic.hygienic true in
def bT:∀ (names:Ab (As × Hg)) (lo:Ai) {n:As} {c:Af},(n,c)∈Hb lo names [] → (n,Mt)∈names
 |[],_,_,_,h=>by cases h
 |(n0,k)::r,lo,n,c,h=>by
  unfold Hb at h
  split at h
  ·rename_i hk
   rw[uH] at h;rcases Cq.mp h with h|h
   ·exact Bu _ (bT r _ h)
   ·have e:(n,c)=(n0,lo):=by simpa using h
    cases e;have:k=Mt:=by simpa using hk
    rw[this];exact Dd
  ·exact Bu _ (bT r _ h)
def wI (S:CompSc X.env.scope X.N scope N' cap)(ok:X.Ok){C:Af}{x:As}{c:Af}(h:(pR X scope C).lookup x=Aa c):((x,c)∈KC scope C∧scope.names.lookup x=Aa .cell)∨(X.env.cells.lookup x=Aa c∧(x,Hc)∈scope.names):=by
 unfold pR at h;rw[uH,Vr] at h;cases q:(Hb (C+1) scope.names []).lookup x with
 |some c' =>
  rw[q] at h;cases h;have m:=Ge q;exact .inl ⟨m,S.cel _ (bT _ _ m) rfl⟩
 |none =>
  rw[q] at h;exact .inr (W2 S ok h)
def cC (S:CompSc X.env.scope X.N scope N' cap)(ok:X.Ok){C:Af}{x:As}(h:scope.names.lookup x=Aa .cell∨scope.names.lookup x=Aa .free):∃ c,(pR X scope C).lookup x=Aa c:=by
 unfold pR;rw[uH,Vr];rcases h with h|h
 ·have:=Jm scope.names (C+1) [] (x:=x) (.inl h)
  obtain⟨c,hc⟩:=Qq.mp this;exact⟨c,by rw[hc];rfl⟩
 ·obtain⟨c',hc'⟩:=sO (cells:=X.env.cells) scope.names [] (.inl (Ge h))
  rw[hc'];cases (Hb (C+1) scope.names []).lookup x with
  |none=>exact⟨c',rfl⟩
  |some c=>exact⟨c,rfl⟩
def BO (S:CompSc X.env.scope X.N scope N' cap)(I2:Inv X pins σ H2 s2)(hf:∀ b∈fp,wM X pins H2 b)(hlt:∀ b∈fp,b<s2.heap.objs.size)(hC:s2.heap.objs.size≤C){h1:Bk}(co:CellsOk h1 (C+1) (KC scope C)) :
  (zL X N' scope (pR X scope C) C fp s2 H2).Ok where
 mod:=I2.ok.mod
 kind:=S.kind
 glob:=I2.ok.glob
 blt:=I2.ok.blt
 above:=hC
 inj:=λx y c h1 h2=>by
  rcases wI S I2.ok h1 with⟨m1,_⟩|⟨m1,_⟩ <;> rcases wI S I2.ok h2 with⟨m2,_⟩|⟨m2,_⟩
  ·exact PySem.name_of_addr co.apart m1 m2
  ·obtain⟨v,ob,hob,_⟩:=I2.cell y c m2
   exact absurd (Bn (AT hob) hC) (Ja.mpr (Gz (co.empty x c m1).2))
  ·obtain⟨v,ob,hob,_⟩:=I2.cell x c m1
   exact absurd (Bn (AT hob) hC) (Ja.mpr (Gz (co.empty y c m2).2))
  ·exact I2.ok.inj x y c m1 m2
 has:=λx hx=>by
  have hx':(relabel scope X.env).names.lookup x=Aa .cell∨(relabel scope X.env).names.lookup x=Aa .free:=hx;refine cC S I2.ok ?_;rcases hx' with h|h
  ·rcases pT S h with h|⟨_,h⟩
   ·exact .inl h
   ·exact .inr h
  ·rcases pT S h with h|⟨z,_⟩
   ·exact .inr h
   ·cases z
 cab:=λx c h h2=>by
  have hx:scope.names.lookup x=Aa .cell:=Ce h;rcases wI S I2.ok h2 with⟨m,_⟩|⟨_,m⟩
  ·exact Dc hC (Gz (co.empty x c m).2)
  ·have:=S.fr2 _ m rfl
   have this':scope.names.lookup x=Aa .free:=this;rw[hx] at this';cases this'
 hd:=I2.ok.hd
 frames:=I2.ok.frames
 stk:=.inl rfl
 exf:=λb hb=>⟨Co (Bn (hlt b hb) hC),λx c h=>by
  rcases wI S I2.ok h with⟨m,_⟩|⟨m,_⟩
  ·exact Em (Co (Ln (Bn (hlt b hb) hC) (co.empty x c m).2))
  ·exact(hf b hb).2.2.2.2.1 x c m⟩
 bs:=I2.bs
 bsz:=Dc I2.ok.bsz I2.sz
 noex:=λb o e hb=>by
  obtain⟨_,_,_,h,_⟩:=hf b hb;rcases h with h|h
  ·exact I2.ok.noex b o e h
  ·exact absurd (Bn (AT e) (Dc I2.ok.bsz h)) (Ef _)
 exfs:=λb hb hb2=>by
  obtain⟨_,h1,h2,_⟩:=hf b hb;rcases Av.mp (I2.stkSub b hb2) with z|z
  ·exact h1 z
  ·exact h2 z
 funs:=I2.stack
 frf:=I2.stkFree
def UL {s4:Ag}{m:As→Am Ad}(S:CompSc X.env.scope X.N scope N' cap)(I2:Inv X pins σ H2 s2)(hf:∀ b∈fp,wM X pins H2 b)(hlt:∀ b∈fp,b<s2.heap.objs.size)(hC:s2.heap.objs.size≤C)
  (hn:s4.heap.Ns C m) (os:s4.os=s2.os) (gens:s4.gens=s2.gens) (keep:∀ b o,s2.heap.get? b=Aa o→s4.heap.get? b=Aa o) (co:CellsOk s4.heap (C+1) (KC scope C)) :
  Inv (zL X N' scope (pR X scope C) C fp s2 H2) [] (j3 cap σ) H2 s4 where
 ok:=BO S I2 hf hlt hC co
 os:=os
 bare:=gens▸I2.bare
 base:=Un.kept keep
 loc:=by
  refine⟨m,hn,λj x v h1 h2 h3=>?_⟩;have h1':N'[j]? = Aa x:=h1;unfold j3 at h2;rw[Dw] at h2;cases q:cap[j]? with
  |none=>rw[q] at h2;cases h2
  |some o =>
   rw[q] at h2;cases o with
   |none=>cases h2
   |some i =>
    have e':(σ[i]?).join=Aa v:=by simpa using h2
    have hσ:σ[i]? = Aa (Aa v):=by
     cases z:σ[i]? with
     |none=>rw[z] at e';cases e'
     |some w=>rw[z] at e';have:w=Aa v:=e';rw[this]
    have hz:(Aa i,x)∈cap.zip N':=by
     refine List.mem_iff_getElem?.mpr ⟨j,?_⟩;rw[List.getElem?_zip_eq_some];exact⟨q,h1'⟩
    have hc:=Ar.mp S.caps _ hz;simp only[Az,Oe] at hc;obtain⟨hN,hfr⟩:=hc;have hk:=S.free _ (Ge hfr) rfl;obtain⟨mo,hmo,hl⟩:=I2.loc;have vis:Vis X.env.scope x:=by
     rcases hk with k|k
     ·exact .inr (.inl k)
     ·exact .inr (.inr k)
    obtain⟨u,ru,lk⟩:=hl i x v hN hσ vis;refine⟨u,ru,?_⟩;rcases lk with⟨kl,_⟩|⟨_,c,hcl,hcell⟩
    ·have kl':X.env.scope.names.lookup x=Aa .local:=kl
     rcases hk with k|k
     ·have k':X.env.scope.names.lookup x=Aa .cell:=k
      rw[kl'] at k';cases k'
     ·have k':X.env.scope.names.lookup x=Aa .free:=k
      rw[kl'] at k';cases k'
    ·obtain⟨c',hc'⟩:=cC S I2.ok (C:=C) (.inr hfr)
     have e2:X.env.cells.lookup x=Aa c':=by
      rcases wI S I2.ok hc' with⟨_,z⟩|⟨z,_⟩
      ·rw[hfr] at z;cases z
      ·exact z
     rw[hcl] at e2;cases e2;refine .inr ⟨?_,c,hc',?_⟩
     ·have h3':Vis (relabel scope X.env) x:=h3
      rcases h3' with h|h|h
      ·rcases pT S h with h|⟨z,_⟩
       ·rw[hfr] at h;cases h
       ·cases z
      ·exact .inl h
      ·exact .inr h
     ·obtain⟨ob,hob,hd⟩:=hcell
      exact⟨ob,keep c ob hob,hd⟩
 cell:=λx c h=>by
  rcases wI S I2.ok h with⟨m,_⟩|⟨m,_⟩
  ·exact⟨none,(co.empty x c m).1⟩
  ·obtain⟨v,ob,hob,hd⟩:=I2.cell x c m
   exact⟨v,ob,keep c ob hob,hd⟩
 free:=I2.hok.fresh hC
 freeC:=λx c h=>by
  rcases wI S I2.ok h with⟨m,_⟩|⟨m,_⟩
  ·exact I2.hok.fresh (Dc hC (Gz (co.empty x c m).2))
  ·exact I2.freeC x c m
 pin:=λp hp=>absurd (show p∈([]:Ab (Af × Cr)) from hp) (by simp)
 hok:=I2.hok.kept keep
 len:=by
  show (j3 cap σ).length=N'.length;simp[j3,S.len]
end
def WS {P:Bg}{h:Bk}{o:HO}(x:HOk P w H h)(hn:H a=none)(new:zV P w (upd H a o) h a o):HOk P w (upd H a o) h:=λb u e=>by
 by_cases hb:b=a
 ·subst hb;rw[zM] at e;cases e;exact new
 ·rw[qV hb] at e
  exact(x b u e).stay (λc v _ q=>q) (λc q=>by rw[qV (zQ q hn)];exact q) λc xs q=>by rw[qV (zQ q hn)];exact q
def WR {P:Bg}{h h':Bk}(x:HOk P w H h)(hn:H C=none)(k:∀ b o,b≠C→h.get? b=Aa o→h'.get? b=Aa o):HOk P w H h':=λb u e =>
 (x b u e).stay (λc v hc q=>k c v (by
  rintro rfl;rcases hc with z|z
  ·subst z;rw[hn] at e;cases e
  ·rw[hn] at z;cases z) q) (λ_ q=>q) λ_ _ q=>q
section
variable {X:Cx}{elt tg iter:Bx}{ifs:Ab Bx}{scope:Gb}{pos:Fa}{N':Ab As}{cap:Ab (Am Ai)}{fi:DI}{g:DG}{t:DT}{fe:DE}
def m4 (X:Cx)(pins:Ab (Af × Cr))(σ : _L.St)(P1:Hp)(α1:Ab Af)(ds:Ab D)(SF:Sto)(acc C:Af)(s:Ag):Prop:=
 ∃ (H' P':Hp) (α' : Ab Af) (vs:Ab V),Inv X pins σ (upd H' acc (.lst vs)) s∧Rel X.K H' P' α' SF∧H' acc=none∧qK P1 P'∧α1<+:α'∧qI X.K P' α' ds vs∧H' C=none
def UK {Y:Cx}{pins:Ab (Af × Cr)}{σ σ':_L.St}{H2:Hp}{s2 s':Ag}{fp:Ab Af}{acc:Af}{H' P':Hp}{α':Ab Af}{envF:qF}{SF:Sto}{cl:Ab (As × Af)}(I2:Inv X pins σ H2 s2)
  (hf:∀ b∈fp,wM X pins H2 b) (hY:Y=zL X N' scope cl C fp s2 H2) (hC:s2.heap.objs.size≤C) (hA:s2.heap.objs.size≤acc) (hne:acc≠C) (st:TurnSt Y [] P1 α1 fp acc envF SF ds s' σ' H' P' α' o)
  {h':Bk} (sb:Eu C s'.heap h'):m4 X pins σ P1 α1 ds SF acc C { s' with heap:=h' }:=by
 subst hY;obtain⟨its,n,vs,rfl,rv,rp,hz⟩:=st.acc;have kC:∀ b o,b≠C→s'.heap.get? b=Aa o→h'.get? b=Aa o:=λb o hb e=>(sb.2 b hb).trans e;have nC:∀ b o,s2.heap.get? b=Aa o→b≠C:=λb o e=>Co (Bn (AT e) hC);have nA:∀ b o,s2.heap.get? b=Aa o→b≠acc:=λb o e=>Co (Bn (AT e) hA);have base:Un (frs X.stack) fp H2 H' s2.heap s'.heap:=st.inv.base;have nt:∀ b u,H' b=Aa u→b≠acc:=λb u e=>zQ e st.acn;have un:Un (frs X.stack) fp H2 (upd H' acc (.lst vs)) s2.heap h':=by
  refine⟨λb ob q hn hb hx=>kC b ob (nC b ob q) (base.keep b ob q hn hb hx),λb ob q hn hb hx=>?_,λb ob q hn hx=>?_,λb ob q hx=>?_,λb xs q=>?_,λb ob u q=>?_,λb ps q=>?_⟩
  ·obtain⟨sl,e⟩:=base.slot b ob q hn hb hx
   exact⟨sl,kC b _ (nC b ob q) e⟩
  ·rw[qV (nA b ob q)];exact base.free b ob q hn hx
  ·obtain⟨o',e⟩:=base.there b ob q hx
   exact⟨o',kC b o' (nC b ob q) e⟩
  ·have:=base.tups b xs q;rw[qV (nt _ _ this)];exact this
  ·have:=base.frzs b ob u q;rw[qV (nt _ _ this)];exact this
  ·obtain⟨more,e⟩:=base.tbls b ps q
   exact⟨more,by rw[qV (nt _ _ e)];exact e⟩
 have hok':HOk X.prog X.w H' h':=WR st.inv.hok st.inv.free kC;have hat:h'.get? acc=Aa { cls:=.type "list",data:=.seq its.toArray n }:=kC acc _ hne st.at';have hok:HOk X.prog X.w (upd H' acc (.lst vs)) h':=WS hok' st.acn ⟨by rw[← rp.length,← xJ];exact hz,its,n,rv,hat⟩
 refine⟨H',P',α',vs,?_,st.rel,st.acn,st.same,st.pre,rp,st.inv.free⟩;exact I2.call' (s':={ s' with heap:=h' }) (ch:=fp) (st.inv.os) un hok st.inv.bare λb hb=>by
  obtain⟨_,h1,h2,h3,h4,h5⟩:=hf b hb;exact⟨h3,h1,h4,h5⟩
def iV (S:CompSc X.env.scope X.N scope N' cap)(ok:X.Ok):Zc scope X.env=pure (uU X.env.cells scope.names []):=rW λy hy hk=>ok.has y.1 (S.free y hy hk)
def FE {pins:Ab (Af × Cr)}{σ:_L.St}{SF:Sto}{acc:Af}{Q:VK}(c:m4 X pins σ P1 α1 ds SF acc C s)(ok:OkV X P1 α1 Q (.lst ds) SF):EP X pins σ Q (.ref acc) s:=by
 obtain⟨H',P',α',vs,I,r,hn,e1,e2,rp,_⟩:=c;exact⟨.ref acc,_,I,rfl,vG r hn rp λv H2 P2 α2 r2 q1 q2 q3=>ok v H2 P2 α2 r2 (e1.trans q1) (e2.trans q2) q3⟩
end
end _D
section
namespace _D
open PySem PySem.Spec PyProof.Rows _L PySem.SeqAt
def b01 (b:Aq):Ak:=if b then 1 else 0
mutual
def eqD:D→D→Aq
 |.non,.non=>true
 |.bl a,.bl b=>a == b
 |.bl a,.int b=>b01 a == b
 |.int a,.bl b=>a == b01 b
 |.int a,.int b=>a == b
 |.str a,.str b=>a == b
 |.tup xs,.tup ys=>xM xs ys
 |.lst xs,.lst ys=>xM xs ys
 |_,_=>false
def xM:Ab D→Ab D→Aq
 |[],[]=>true
 |x::xs,y::ys=>eqD x y&&xM xs ys
 |_,_=>false
end
def pl:Ai→D→Aq
 |_,.non=>true
 |_,.bl _=>true
 |_,.int _=>true
 |_,.str _=>true
 |n+1,.tup xs=>xs.all (pl n)
 |n+1,.lst xs=>xs.all (pl n)
 |_,_=>false
def f7 (x y:D)(xs ys:Ab D):xM (x::xs) (y::ys)=(eqD x y&&xM xs ys):=rfl
def v9:∀ (xs ys:Ab D),xM xs ys=((Cz (min xs.length ys.length)).all (λj=>eqD (xs.getD j .non) (ys.getD j .non))&&xs.length == ys.length)
 |[],[]=>rfl
 |[],y::ys=>rfl
 |x::xs,[]=>rfl
 |x::xs,y::ys=>by
  have ih:=v9 xs ys;rw[f7,ih,Ci,Ci,Nat.succ_min_succ,Mi,Mu,Ke,Bool.and_assoc];have e:(xs.length+1 == ys.length+1)=(xs.length == ys.length):=by simp
  rw[e];rfl
def JD {xs ys:Ab D}(h:xs.length≠ys.length):xM xs ys=false:=by
 rw[v9];simp[h]
def d7 (xs ys:Ab D):eqD (.tup xs) (.tup ys)=xM xs ys:=rfl
def d0 (xs ys:Ab D):eqD (.lst xs) (.lst ys)=xM xs ys:=rfl
section
variable {X:Cx}{pins:Ab (Af × Cr)}{σ : _L.St}{H P:Hp}{α : Ab Af}{S:Sto}{s:Ag}
inductive Kd (X:Cx)(P:Hp)(α : Ab Af)(s:Ag):D→Ad→Prop where
 |non:Kd X P α s .non .none
 |bl (b:Aq):Kd X P α s (.bl b) (.bool b)
 |int (i:Ak) (t:Pj):Kd X P α s (.int i) (.int i t)
 |str (x:As) (t:Pj):Kd X P α s (.str x) (.str x t)
 |tup (a:Af) (xs:Ab D) (its:Ab Ad) (vs:Ab V) (rp:qI X.K P α xs vs) (rv:qT vs its) (h:s.heap.IsTuple a its.toArray) (q:SqT X.K P a vs):Kd X P α s (.tup xs) (.ref a)
 |lst (a:Af) (xs:Ab D) (its:Ab Ad) (vs:Ab V) (rp:qI X.K P α xs vs) (rv:qT vs its) (h:s.heap.IsList a its.toArray) (q:SqX X.K P a vs):Kd X P α s (.lst xs) (.ref a)
def vY (I:Inv X pins σ H s)(r:Rel X.K H P α S){n:Ai}{d:D}{v:V}{u:Ad}(h:pl n d=true)(p:Rep X.K P α d v)(rv:qP v u):Kd X P α s d u:=by
 cases d with
 |non=>simp only[Rep] at p;subst p;cases rv;exact .non
 |bl b=>simp only[Rep] at p;subst p;cases rv;exact .bl b
 |int i=>simp only[Rep] at p;subst p;obtain⟨t,rfl⟩:=rv;exact .int i t
 |str x=>simp only[Rep] at p;subst p;obtain⟨t,rfl⟩:=rv;exact .str x t
 |tup xs =>
  simp only[Rep] at p;obtain⟨a,vs,rfl,q,t⟩:=p;cases rv;obtain⟨its,r1,p1,_⟩:=I.tuple (wW r.sub q);exact .tup a xs its vs t r1 p1 q
 |lst xs =>
  simp only[Rep] at p;obtain⟨a,vs,rfl,q,t⟩:=p;cases rv;obtain⟨its,r1,p1,_⟩:=I.list ((wU r.sub q).l);exact .lst a xs its vs t r1 p1.isList q
 |_=>cases n <;> exact Df h
def yM {ds:Ab D}{vs:Ab V}{its:Ab Ad}(rp:qI X.K P α ds vs)(rv:qT vs its){j:Ai}(h:j<its.toArray.size):∃ v,Rep X.K P α (ds.getD j .non) v∧qP v its.toArray[j]∧ds.getD j .non∈ds:=by
 have l1:=rp.length;have l2:=rv.length;have hj:j<its.length:=by simpa using h
 have hd:j<ds.length:=by omega
 obtain⟨v,e1,p⟩:=rp.get (An hd);obtain⟨u,e2,q⟩:=rv.get e1;have e3:its.toArray[j]=u:=by
  have:its[j]? = Aa its[j]:=An hj;rw[this] at e2;simpa using Ct e2
 have e4:ds.getD j .non=ds[j]:=by simp[Hk,hd]
 rw[e3,e4];exact⟨v,p,q,Ga hd⟩
def yB {n:Ai}{ds:Ab D}(h:ds.all (pl n)=true){d:D}(hd:d∈ds):pl n d=true:=Ar.mp h d hd
def dD {h:Bk}{a:Af}{xs ys:Bj Ad}(h1:h.IsTuple a xs)(h2:h.IsTuple a ys):xs=ys:=by
 obtain⟨o,e,_,n,d⟩:=h1;obtain⟨o',e',_,n',d'⟩:=h2;cases e.symm.trans e';cases d.symm.trans d';rfl
def oG {h:Bk}{a:Af}{xs ys:Bj Ad}(h1:h.IsList a xs)(h2:h.IsList a ys):xs=ys:=by
 obtain⟨o,e,_,n,d⟩:=h1;obtain⟨o',e',_,n',d'⟩:=h2;cases e.symm.trans e';cases d.symm.trans d';rfl
def ZM {h:Bk}{a:Af}{xs ys:Bj Ad}(h1:h.IsTuple a xs)(h2:h.IsList a ys):Fe:=by
 obtain⟨o,e,c,_⟩:=h1;obtain⟨o',e',c',_⟩:=h2;cases e.symm.trans e';exact absurd (c.symm.trans c') (by decide)
inductive Seqs (X:Cx)(P:Hp)(α : Ab Af)(xs ys:Ab D)(its its2:Ab Ad):Prop
 |mk (vs ws:Ab V) (rp:qI X.K P α xs vs) (rv:qT vs its) (rp2:qI X.K P α ys ws) (rv2:qT ws its2):Seqs X P α xs ys its its2
def Seqs.len1 {xs ys:Ab D}{its its2:Ab Ad}(q:Seqs X P α xs ys its its2):xs.length=its.length:=by
 obtain⟨vs,ws,rp,rv,_,_⟩:=q;exact rp.length.trans rv.length
def Seqs.len2 {xs ys:Ab D}{its its2:Ab Ad}(q:Seqs X P α xs ys its its2):ys.length=its2.length:=by
 obtain⟨vs,ws,_,_,rp,rv⟩:=q;exact rp.length.trans rv.length
inductive SameR (X:Cx)(P:Hp)(α : Ab Af):D→D→Prop
 |eq {d d':D} (h:eqD d d'=true):SameR X P α d d'
 |tt (xs ys:Ab D) (its:Ab Ad) (q:Seqs X P α xs ys its its):SameR X P α (.tup xs) (.tup ys)
 |ll (xs ys:Ab D) (its:Ab Ad) (q:Seqs X P α xs ys its its):SameR X P α (.lst xs) (.lst ys)
def QC {d d':D}{u:Ad}(k1:Kd X P α s d u)(k2:Kd X P α s d' u):SameR X P α d d':=by
 cases k1 with
 |non=>cases k2;exact .eq rfl
 |bl b=>cases k2;exact .eq (El _)
 |int i t=>cases k2;exact .eq (El _)
 |str x t=>cases k2;exact .eq (El _)
 |tup a xs its vs rp rv h q =>
  cases k2 with
  |tup _ ys its2 ws rp2 rv2 h2 q2 =>
   cases dD h h2;exact .tt xs ys its ⟨vs,ws,rp,rv,rp2,rv2⟩
  |lst _ ys its2 ws rp2 rv2 h2 q2=>exact(ZM h h2).elim
 |lst a xs its vs rp rv h q =>
  cases k2 with
  |lst _ ys its2 ws rp2 rv2 h2 q2 =>
   cases oG h h2;exact .ll xs ys its ⟨vs,ws,rp,rv,rp2,rv2⟩
  |tup _ ys its2 ws rp2 rv2 h2 q2=>exact(ZM h2 h).elim
def sU (I:Inv X pins σ H s)(r:Rel X.K H P α S){m:Ai}(ih:∀ (d d':D) (u:Ad),pl m d=true→pl m d'=true→Kd X P α s d u→Kd X P α s d' u→eqD d d'=true){xs ys:Ab D}{its:Ab Ad}(h1:xs.all (pl m)=true)(h2:ys.all (pl m)=true)(q:Seqs X P α xs ys its its):xM xs ys=true:=by
 obtain⟨vs,ws,rp,rv,rp2,rv2⟩:=q;have l1:=rp.length.trans rv.length;have l2:=rp2.length.trans rv2.length;rw[v9,l1,l2,Rr,Az];refine⟨Ar.mpr λj hj=>?_,BEq.rfl⟩;have hj:j<its.toArray.size:=Ek.mp hj;obtain⟨w1,y1,z1,m1⟩:=yM rp rv hj;obtain⟨w2,y2,z2,m2⟩:=yM rp2 rv2 hj;exact ih _ _ _ (yB h1 m1) (yB h2 m2) (vY I r (yB h1 m1) y1 z1) (vY I r (yB h2 m2) y2 z2)
def o2 (I:Inv X pins σ H s)(r:Rel X.K H P α S):∀ (n:Ai) (d d':D) (u:Ad),pl n d=true→pl n d'=true→Kd X P α s d u→Kd X P α s d' u→eqD d d'=true:=by
 intro n
 induction n with
 |zero =>
  intro d d' u h1 h2 k1 k2;cases QC k1 k2 with
  |eq h=>exact h
  |tt=>exact Df h1
  |ll=>exact Df h1
 |succ m ih =>
  intro d d' u h1 h2 k1 k2;cases QC k1 k2 with
  |eq h=>exact h
  |tt xs ys its q=>exact(d7 xs ys).trans (sU I r ih h1 h2 q)
  |ll xs ys its q=>exact(d0 xs ys).trans (sU I r ih h1 h2 q)
structure E3 (A:Bv)(s:Ag)(u u':Ad)(b:Aq):Prop where
 eq:Zd A s u u' b
 rc:RcAt A s u u' b
 ne:RcNeAt A s u u' (!b)
inductive EqR (X:Cx)(P:Hp)(α : Ab Af)(A:Bv)(s:Ag):D→D→Ad→Ad→Prop
 |of {d d':D} {u u':Ad} (b:Aq) (e:eqD d d'=b) (h:E3 A s u u' b):EqR X P α A s d d' u u'
 |tt (a b:Af) (xs ys:Ab D) (its its2:Ab Ad) (ha:s.heap.IsTuple a its.toArray) (hb:s.heap.IsTuple b its2.toArray) (q:Seqs X P α xs ys its its2):EqR X P α A s (.tup xs) (.tup ys) (.ref a) (.ref b)
 |ll (a b:Af) (xs ys:Ab D) (its its2:Ab Ad) (ha:s.heap.IsList a its.toArray) (hb:s.heap.IsList b its2.toArray) (q:Seqs X P α xs ys its its2):EqR X P α A s (.lst xs) (.lst ys) (.ref a) (.ref b)
def GU {A:Bv}{d d':D}{u u':Ad}(hu:A.units<Du)(k1:Kd X P α s d u)(k2:Kd X P α s d' u'):EqR X P α A s d d' u u':=by
 cases k1 with
 |non  =>
  cases k2 with
  |non  => exact .of _ rfl ⟨Zx _,RcAt.none_none,RcNeAt.none_none⟩
  |bl b=>exact .of _ rfl ⟨EqAt.none_bool b,RcAt.none_bool b,RcNeAt.none_bool b⟩
  |int b tb=>exact .of _ rfl ⟨EqAt.none_int b tb,RcAt.none_int b tb,RcNeAt.none_int b tb⟩
  |str b tb=>exact .of _ rfl ⟨EqAt.none_str b tb,RcAt.none_str b tb,RcNeAt.none_str b tb⟩
  |tup b ys its2 ws rp2 rv2 hb qb=>exact .of _ rfl ⟨EqAt.none_tuple hb hu,RcAt.none_tuple hb hu,RcNeAt.none_tuple hb hu⟩
  |lst b ys its2 ws rp2 rv2 hb qb=>exact .of _ rfl ⟨EqAt.none_list hb hu,RcAt.none_list hb hu,RcNeAt.none_list hb hu⟩
 |bl a =>
  cases k2 with
  |non  => exact .of _ rfl ⟨EqAt.bool_none a,RcAt.bool_none a,RcNeAt.bool_none a⟩
  |bl b=>exact .of _ rfl ⟨EqAt.bool_bool a b,RcAt.bool_bool a b,RcNeAt.bool_bool a b⟩
  |int b tb=>exact .of _ rfl ⟨EqAt.bool_int a b tb,RcAt.bool_int a b tb,RcNeAt.bool_int a b tb⟩
  |str b tb=>exact .of _ rfl ⟨EqAt.bool_str a b tb,RcAt.bool_str a b tb,RcNeAt.bool_str a b tb⟩
  |tup b ys its2 ws rp2 rv2 hb qb=>exact .of _ rfl ⟨EqAt.bool_tuple a hb hu,RcAt.bool_tuple a hb hu,RcNeAt.bool_tuple a hb hu⟩
  |lst b ys its2 ws rp2 rv2 hb qb=>exact .of _ rfl ⟨EqAt.bool_list a hb hu,RcAt.bool_list a hb hu,RcNeAt.bool_list a hb hu⟩
 |int a ta =>
  cases k2 with
  |non  => exact .of _ rfl ⟨EqAt.int_none a ta,RcAt.int_none a ta,RcNeAt.int_none a ta⟩
  |bl b=>exact .of _ rfl ⟨EqAt.int_bool a ta b,RcAt.int_bool a ta b,RcNeAt.int_bool a ta b⟩
  |int b tb=>exact .of _ rfl ⟨wT a ta b tb,RcAt.int_int a ta b tb,RcNeAt.int_int a ta b tb⟩
  |str b tb=>exact .of _ rfl ⟨EqAt.int_str a ta b tb,RcAt.int_str a ta b tb,RcNeAt.int_str a ta b tb⟩
  |tup b ys its2 ws rp2 rv2 hb qb=>exact .of _ rfl ⟨EqAt.int_tuple a ta hb hu,RcAt.int_tuple a ta hb hu,RcNeAt.int_tuple a ta hb hu⟩
  |lst b ys its2 ws rp2 rv2 hb qb=>exact .of _ rfl ⟨EqAt.int_list a ta hb hu,RcAt.int_list a ta hb hu,RcNeAt.int_list a ta hb hu⟩
 |str a ta =>
  cases k2 with
  |non  => exact .of _ rfl ⟨EqAt.str_none a ta,RcAt.str_none a ta,RcNeAt.str_none a ta⟩
  |bl b=>exact .of _ rfl ⟨EqAt.str_bool a ta b,RcAt.str_bool a ta b,RcNeAt.str_bool a ta b⟩
  |int b tb=>exact .of _ rfl ⟨EqAt.str_int a ta b tb,RcAt.str_int a ta b tb,RcNeAt.str_int a ta b tb⟩
  |str b tb=>exact .of _ rfl ⟨EqAt.str_str a ta b tb,RcAt.str_str a ta b tb,RcNeAt.str_str a ta b tb⟩
  |tup b ys its2 ws rp2 rv2 hb qb=>exact .of _ rfl ⟨EqAt.str_tuple a ta hb hu,RcAt.str_tuple a ta hb hu,RcNeAt.str_tuple a ta hb hu⟩
  |lst b ys its2 ws rp2 rv2 hb qb=>exact .of _ rfl ⟨EqAt.str_list a ta hb hu,RcAt.str_list a ta hb hu,RcNeAt.str_list a ta hb hu⟩
 |tup a xs its vs rp rv ha qa =>
  cases k2 with
  |non  => exact .of _ rfl ⟨EqAt.tuple_none ha hu,RcAt.tuple_none ha hu,RcNeAt.tuple_none ha hu⟩
  |bl b=>exact .of _ rfl ⟨EqAt.tuple_bool b ha hu,RcAt.tuple_bool b ha hu,RcNeAt.tuple_bool b ha hu⟩
  |int b tb=>exact .of _ rfl ⟨EqAt.tuple_int b tb ha hu,RcAt.tuple_int b tb ha hu,RcNeAt.tuple_int b tb ha hu⟩
  |str b tb=>exact .of _ rfl ⟨EqAt.tuple_str b tb ha hu,RcAt.tuple_str b tb ha hu,RcNeAt.tuple_str b tb ha hu⟩
  |tup b ys its2 ws rp2 rv2 hb qb=>exact .tt a b xs ys its its2 ha hb ⟨vs,ws,rp,rv,rp2,rv2⟩
  |lst b ys its2 ws rp2 rv2 hb qb=>exact .of _ rfl ⟨EqAt.tuple_list ha hb hu,RcAt.tuple_list ha hb hu,RcNeAt.tuple_list ha hb hu⟩
 |lst a xs its vs rp rv ha qa =>
  cases k2 with
  |non  => exact .of _ rfl ⟨EqAt.list_none ha hu,RcAt.list_none ha hu,RcNeAt.list_none ha hu⟩
  |bl b=>exact .of _ rfl ⟨EqAt.list_bool b ha hu,RcAt.list_bool b ha hu,RcNeAt.list_bool b ha hu⟩
  |int b tb=>exact .of _ rfl ⟨EqAt.list_int b tb ha hu,RcAt.list_int b tb ha hu,RcNeAt.list_int b tb ha hu⟩
  |str b tb=>exact .of _ rfl ⟨EqAt.list_str b tb ha hu,RcAt.list_str b tb ha hu,RcNeAt.list_str b tb ha hu⟩
  |tup b ys its2 ws rp2 rv2 hb qb=>exact .of _ rfl ⟨EqAt.list_tuple ha hb hu,RcAt.list_tuple ha hb hu,RcNeAt.list_tuple ha hb hu⟩
  |lst b ys its2 ws rp2 rv2 hb qb=>exact .ll a b xs ys its its2 ha hb ⟨vs,ws,rp,rv,rp2,rv2⟩
def E3.cast {A:Bv}{u u':Ad}{b c:Aq}(e:c=b)(h:E3 A s u u' b):E3 A s u u' c:=e▸h
def GV {A:Bv}{a b:Af}{xs ys:Ab D}{its its2:Ab Ad}(hu:A.units<Du)(ha:s.heap.IsTuple a its.toArray)(hb:s.heap.IsTuple b its2.toArray)(l1:xs.length=its.length)(l2:ys.length=its2.length)
  (sub:∀ j (h1:j<its.toArray.size) (h2:j<its2.toArray.size),Zd A.in1 s its.toArray[j] its2.toArray[j] (eqD (xs.getD j .non) (ys.getD j .non))) (same:a=b→xM xs ys=true):E3 A s (.ref a) (.ref b) (xM xs ys):=by
 have e:xM xs ys=((Cz (min its.toArray.size its2.toArray.size)).all (λj=>eqD (xs.getD j .non) (ys.getD j .non))&&its.toArray.size == its2.toArray.size):=by rw[v9,l1,l2];rfl
 have R1:=RcAt.tuples ha hb hu sub;have R2:=RcNeAt.tuples ha hb hu sub;rw[← e] at R1 R2;refine⟨?_,R1,R2⟩;by_cases hab:a=b
 ·rw[same hab,hab]
  exact Zx _
 ·exact xL hab R1
def CI {A:Bv}{a b:Af}{xs ys:Ab D}{its its2:Ab Ad}(hu:A.units<Du)(ha:s.heap.IsList a its.toArray)(hb:s.heap.IsList b its2.toArray)(l1:xs.length=its.length)(l2:ys.length=its2.length)
  (sub:∀ j (h1:j<its.toArray.size) (h2:j<its2.toArray.size),Zd A.in1 s its.toArray[j] its2.toArray[j] (eqD (xs.getD j .non) (ys.getD j .non))) (same:a=b→xM xs ys=true):E3 A s (.ref a) (.ref b) (xM xs ys):=by
 have R:RcAt A s (.ref a) (.ref b) (xM xs ys)∧RcNeAt A s (.ref a) (.ref b) (!xM xs ys):=by
  by_cases hl:its.length=its2.length
  ·have e:xM xs ys=(Cz its.toArray.size).all (λj=>eqD (xs.getD j .non) (ys.getD j .non)):=by rw[v9,l1,l2,← hl,Rr,BEq.rfl,Zy];rfl
   rw[e];exact⟨RcAt.lists ha hb hl hu sub,RcNeAt.lists ha hb hl hu sub⟩
  ·rw[JD (by rw[l1,l2];exact hl)]
   have hn:(its.toArray.size != its2.toArray.size)=true:=bne_iff_ne.mpr hl;exact⟨RcAt.lists_lengths ha hb hn hu,RcNeAt.lists_lengths ha hb hn hu⟩
 refine⟨?_,R.1,R.2⟩;by_cases hab:a=b
 ·rw[same hab,hab]
  exact Zx _
 ·exact xL hab R.1
def cI (I:Inv X pins σ H s)(r:Rel X.K H P α S):∀ (n:Ai) (A:Bv) (d d':D) (u u':Ad),A.units+n<Du→pl n d=true→pl n d'=true→Kd X P α s d u→Kd X P α s d' u'→E3 A s u u' (eqD d d'):=by
 intro n
 induction n with
 |zero =>
  intro A d d' u u' hu h1 h2 k1 k2;cases GU hu k1 k2 with
  |of b e h=>exact h.cast e
  |tt=>exact Df h1
  |ll=>exact Df h1
 |succ m ih =>
  intro A d d' u u' hu h1 h2 k1 k2;have hu0:A.units<Du:=Pg (Jc _ _) hu;have hu1:A.in1.units+m<Du:=by show A.units+1+m<Du;omega
  have sub:∀ {xs ys:Ab D} {its its2:Ab Ad},xs.all (pl m)=true→ys.all (pl m)=true→Seqs X P α xs ys its its2 →
    ∀ j (h1:j<its.toArray.size) (h2:j<its2.toArray.size),Zd A.in1 s its.toArray[j] its2.toArray[j] (eqD (xs.getD j .non) (ys.getD j .non)):=λ{xs ys its its2} a1 a2 ⟨vs,ws,b1,b2,c1,c2⟩ j g1 g2=>by
   obtain⟨w1,y1,z1,m1⟩:=yM b1 b2 g1;obtain⟨w2,y2,z2,m2⟩:=yM c1 c2 g2;exact(ih A.in1 _ _ _ _ hu1 (yB a1 m1) (yB a2 m2) (vY I r (yB a1 m1) y1 z1) (vY I r (yB a2 m2) y2 z2)).eq
  cases GU hu0 k1 k2 with
  |of b e h=>exact h.cast e
  |tt a b xs ys its its2 ha hb q=>exact(GV hu0 ha hb q.len1 q.len2 (sub h1 h2 q) λe=>by subst e;exact(d7 xs ys).symm.trans (o2 I r (m+1) _ _ _ h1 h2 k1 k2)).cast (d7 xs ys)
  |ll a b xs ys its its2 ha hb q=>exact(CI hu0 ha hb q.len1 q.len2 (sub h1 h2 q) λe=>by subst e;exact(d0 xs ys).symm.trans (o2 I r (m+1) _ _ _ h1 h2 k1 k2)).cast (d0 xs ys)
def xB:Ai:=30
def gEq:G2:=λa b S=>if pl xB a&&pl xB b then .ok (.bl (eqD a b)) S else .bad
def gNe:G2:=λa b S=>if pl xB a&&pl xB b then .ok (.bl (!eqD a b)) S else .bad
set_option tactic.hygienic true in
def A5 (hu:X.A.units+64<Du):OpD X (Cc .Eq) gEq:=by
 intro pins σ H s P α S v u vv uu a b Q I r rv ru pa pb af;unfold gEq at af
 split at af
 ·rename_i h
  rw[Az] at h;exact(cI I r xB X.A a b vv uu (by unfold xB;omega) h.1 h.2 (vY I r h.1 pa rv) (vY I r h.2 pb ru)).rc _ _ _ _ ⟨.bl _,H,I,rfl,xr af r (by simp only[Rep])⟩
 ·exact Ap af
set_option tactic.hygienic true in
def AB (hu:X.A.units+64<Du):OpD X (Cc .NotEq) gNe:=by
 intro pins σ H s P α S v u vv uu a b Q I r rv ru pa pb af;unfold gNe at af
 split at af
 ·rename_i h
  rw[Az] at h;exact(cI I r xB X.A a b vv uu (by unfold xB;omega) h.1 h.2 (vY I r h.1 pa rv) (vY I r h.2 pb ru)).ne _ _ _ _ ⟨.bl _,H,I,rfl,xr af r (by simp only[Rep])⟩
 ·exact Ap af
end
end _D
end
namespace _D
open PySem PySem.Spec PyProof.Rows _L
variable {pins:Ab (Af × Cr)}{kvs:Ab (Key × D)}{its us:Ab Ad}{xs ds:Ab D}{vs:Ab V}{f:Ad→Ad→Nd Ad}{s:Ag}{a d:D}{H:Hp}{S:Sto}{v:V}{Q:VK}{σ:_L.St}
section
variable {X:Cx}
def i2 (C:Ak→Ak→Aq)(f:Ak→Ak→D):G2:=λa b S=>match a,b with
 |.int i,.int j=>if C i j then .ok (f i j) S else .bad
 |_,_=>.bad
def P7 {C:Ak→Ak→Aq}{f:Ak→Ak→D}{b:D}{P:Hp}{α:Ab Af}{Ok:D→Sto→Prop}(h:qQ X P α (i2 C f a b S) Ok):∃ i j,a=.int i∧b=.int j∧C i j=true∧Ok (f i j) S:=by
 cases a with
 |int i =>
  cases b with
  |int j =>
   obtain⟨hc,h⟩:=vU (X:=X) h;exact⟨i,j,rfl,rfl,hc,h⟩
  |_=>exact Ap h
 |_=>exact Ap h
def wL {P:Hp}{α:Ab Af}{i:Ak}(r:Rep X.K P α (.int i) v):v=.int i:=by simpa only [Rep] using r
def lC {C':Ak→Ak→Prop}{v:Ak→Ak→V}{C:Ak→Ak→Aq}{d:Ak→Ak→D}(h:OpR X f (rI C' v))(hC:∀ i j,C i j=true→C' i j)(hv:∀ P α i j,Rep X.K P α (d i j) (v i j)):OpD X f (i2 C d):=
 OpD.of h λH P α S x y a b Q r p1 p2 af=>by
  obtain⟨i,j,rfl,rfl,hc,ok⟩:=P7 af;exact⟨i,j,wL p1,wL p2,hC i j hc,xr ok r (hv P α i j)⟩
def fO {v:Ak→Ak→V}{d:Ak→Ak→D}(h:OpR X f (rI0 v))(hv:∀ P α i j,Rep X.K P α (d i j) (v i j)):OpD X f (i2 (λ_ _=>true) d):=
 OpD.of h λH P α S x y a b Q r p1 p2 af=>by
  obtain⟨i,j,rfl,rfl,_,ok⟩:=P7 af;exact⟨i,j,wL p1,wL p2,xr ok r (hv P α i j)⟩
def xR:G2:=i2 (λ_ _=>true) λi j=>.int (i-j)
def RC:OpD X (Eh .Sub) xR:=fO RK λP α i j=>by simp only[Rep]
def hJ (i j:Ak):Aq:=decide (-(2 ^ 64)<i∧i<2 ^ 64)||decide (-(2 ^ 64)<j∧j<2 ^ 64)
def MC:OpD X (Eh .Mult) (i2 hJ λi j=>.int (i*j)):=lC RI (λi j h=>by
 unfold hJ at h;rw[La] at h;rcases h with h|h
 ·exact .inl (Ce h)
 ·exact .inr (Ce h)) λP α i j=>by simp only[Rep]
def NZ (i j:Ak):Aq:=decide (0<j∧j<1073741824)
def vR:G2:=i2 NZ λi j=>.int (i/j)
def R6:OpD X (Eh .FloorDiv) vR:=lC MH (λi j h=>(Ce h:0<j∧j<1073741824)) λP α i j=>by simp only[Rep]
def u7:G2:=i2 (λ_ j=>decide (0<j)) λi j=>.int (i % j)
def RA:OpD X (Eh .Mod) u7:=lC RH (λi j h=>Ce h) λP α i j=>by simp only[Rep]
def L0 (i j:Ak):Aq:=decide (0≤j∧j≤1000000∧i.natAbs<2 ^ 64)
def jG:G2:=i2 L0 λi j=>.int (i ^ j.toNat)
def RB:OpD X (Eh .Pow) jG:=lC RJ (λi j h=>(Ce h:0≤j∧j≤1000000∧i.natAbs<2 ^ 64)) λP α i j=>by simp only[Rep]
def gLt:G2:=i2 (λ_ _=>true) λi j=>.bl (decide (i<j))
def gLe:G2:=i2 (λ_ _=>true) λi j=>.bl (decide (i≤j))
def gGt:G2:=i2 (λ_ _=>true) λi j=>.bl (decide (j<i))
def gGe:G2:=i2 (λ_ _=>true) λi j=>.bl (decide (j≤i))
def PR:OpD X (Cc .Lt) gLt:=fO AF λP α i j=>by simp only[Rep]
def AA:OpD X (Cc .LtE) gLe:=fO AE λP α i j=>by simp only[Rep]
def A7:OpD X (Cc .Gt) gGt:=fO AD λP α i j=>by simp only[Rep]
def A6:OpD X (Cc .GtE) gGe:=fO AC λP α i j=>by simp only[Rep]
def u9:D→Sto→Res D:=λa S=>match a with
 |.int i=>.ok (.int (-i)) S
 |_=>.bad
def HE:UnD X (Xp .USub) u9:=by
 intro pins σ H s P α S v vv a Q I r rv p af;cases a with
 |int i=>exact HF pins s σ H v vv Q I rv ⟨i,wL p,xr af r (by simp only[Rep])⟩
 |_=>exact Ap af
def gIs:G2:=λa b S=>match b with
 |.non=>match a with
  |.non=>.ok (.bl true) S
  |_=>.ok (.bl false) S
 |_=>.bad
def pH:G2:=λa b S=>match b with
 |.non=>match a with
  |.non=>.ok (.bl false) S
  |_=>.ok (.bl true) S
 |_=>.bad
def oV {P:Hp}{α:Ab Af}(r:Rep X.K P α d v):decide (v=.non)=(match d with|.non=>true|_=>false):=by
 cases d <;> simp only[Rep] at r
 case non=>subst r;rfl
 case bl=>subst r;rfl
 case int=>subst r;rfl
 case str=>subst r;rfl
 case ty=>subst r;rfl
 case obj=>obtain⟨rfl,_⟩:=r;rfl
 case tup=>obtain⟨a,vs,rfl,_⟩:=r;rfl
 case lst=>obtain⟨a,vs,rfl,_⟩:=r;rfl
 case dct0=>obtain⟨a,rfl,_⟩:=r;rfl
 case loc=>obtain⟨a,rfl,_⟩:=r;rfl
 case exn=>obtain⟨a,rfl,_⟩:=r;rfl
 case fd=>obtain⟨a,o,vs,rfl,_⟩:=r;rfl
def A9:OpD X (Cc .Is) gIs:=OpD.of RG λH P α S x y a b Q r p1 p2 af=>by
 cases b with
 |non =>
  simp only[Rep] at p2;refine⟨p2,?_⟩;rw[oV p1];cases a <;> exact xr af r (by simp only[Rep])
 |_=>exact Ap af
def KA:OpD X (Cc .IsNot) pH:=OpD.of MI λH P α S x y a b Q r p1 p2 af=>by
 cases b with
 |non =>
  simp only[Rep] at p2;refine⟨p2,?_⟩;rw[oV p1];cases a <;> exact xr af r (by simp only[Rep] <;> rfl)
 |_=>exact Ap af
def qL:G2:=λa b S=>match a,b with
 |.int i,.int j=>.ok (.int (i+j)) S
 |.str x,.str y=>if x.length+y.length≤lim then .ok (.str (x++y)) S else .bad
 |.tup xs,.tup ys=>if xs.length+ys.length≤lim then .ok (.tup (xs++ys)) S else .bad
 |.lst xs,.lst ys=>if xs.length+ys.length≤lim then .ok (.lst (xs++ys)) S else .bad
 |_,_=>.bad
def yJ {P:Hp}{α:Ab Af}(I:Inv X pins σ H s)(r:Rel X.K H P α S)(p:Rep X.K P α (.tup xs) v) :
  ∃ a vs its,v=.ref a∧SqT X.K P a vs∧qI X.K P α xs vs∧qT vs its∧Ml s.heap a its.toArray∧xs.length=its.length∧xs.length≤lim:=by
 simp only[Rep] at p;obtain⟨a,vs,rfl,q,t⟩:=p;obtain⟨its,rv,p1,z⟩:=I.tuple (wW r.sub q);exact⟨a,vs,its,rfl,q,t,rv,p1,by rw[t.length,rv.length],by rw[t.length,xJ];exact z⟩
def vV {P:Hp}{α:Ab Af}(I:Inv X pins σ H s)(r:Rel X.K H P α S)(p:Rep X.K P α (.lst xs) v) :
  ∃ a vs its n,v=.ref a∧SqX X.K P a vs∧qI X.K P α xs vs∧qT vs its∧s.heap.get? a=Aa { cls:=.type "list",data:=.seq its.toArray n } ∧ xs.length=its.length∧xs.length≤lim:=by
 simp only[Rep] at p;obtain⟨a,vs,rfl,q,t⟩:=p;have:∃ its n,qT vs its∧s.heap.get? a=Aa { cls:=.type "list",data:=.seq its.toArray n } ∧ vs.length≤sizeLine:=by
  rcases q with q|⟨its,n,e,z,rv⟩
  ·obtain⟨z,its,n,rv,e⟩:=(Q7 r.sub q).ok I.hok
   exact⟨its,n,rv,e,z⟩
  ·exact⟨its,n,rv,I.kIn _ _ e,z⟩
 obtain⟨its,n,rv,e,z⟩:=this;exact⟨a,vs,its,n,rfl,q,t,rv,e,by rw[t.length,rv.length],by rw[t.length,xJ];exact z⟩
def b5 {P:Hp}{α:Ab Af}(I:Inv X pins σ H s)(r:Rel X.K H P α S)(t:qI X.K P α xs vs)(rv:qT vs its)(hz:xs.length≤lim)
  (ok:OkV X P α Q (.tup xs) S):EP X pins σ Q (.ref s.heap.objs.size) { s with heap:=s.heap.push { cls:=.type "tuple",data:=.seq its.toArray } }:=by
 refine⟨.ref s.heap.objs.size,_,I.laid (t':=s.toks) (o:=.tup vs) (λb ob q=>Ah _ q) (Aw _) ⟨by rw[← t.length,← xJ];exact hz,its,rv,Wq _ _⟩,rfl,b9 r (I.hok.fresh (Aw _)) t ok⟩
def cX {P:Hp}{α:Ab Af}(I:Inv X pins σ H s)(r:Rel X.K H P α S)(t:qI X.K P α xs vs)(rv:qT vs its)(hz:xs.length≤lim)
  (ok:OkV X P α Q (.lst xs) S):EP X pins σ Q (.ref s.heap.objs.size) { s with heap:=s.heap.push { cls:=.type "list",data:=.seq its.toArray } }:=by
 refine⟨.ref s.heap.objs.size,_,I.laid (t':=s.toks) (o:=.lst vs) (λb ob q=>Ah _ q) (Aw _) ⟨by rw[← t.length,← xJ];exact hz,its,0,rv,Ba _ rfl⟩,rfl,vG r (I.hok.fresh (Aw _)) t ok⟩
def NT {P:Hp}{α:Ab Af}{ys:Ab D}{u:V}{vv uu:Ad}(I:Inv X pins σ H s)(r:Rel X.K H P α S)(rv:qP v vv)(ru:qP u uu)(pa:Rep X.K P α (.tup xs) v)(pb:Rep X.K P α (.tup ys) u)(hl:xs.length+ys.length≤lim)(af:OkV X P α Q (.tup (xs++ys)) S) :
  Ao (Au X.prog X.w) X.A (Eh .Add vv uu) (EP X pins σ Q) X.xe s:=by
 obtain⟨a,vs,its,rfl,q1,t1,rv1,h1,l1,_⟩:=yJ I r pa;obtain⟨b,ws,its2,rfl,q2,t2,rv2,h2,l2,_⟩:=yJ I r pb;cases rv;cases ru;by_cases hx:its=[]
 ·obtain⟨⟨cls,dd,data,sl⟩,ho,hc,n,hd⟩:=id h1
  obtain⟨⟨cls2,dd2,data2,sl2⟩,ho2,hc2,n2,hd2⟩:=id h2;simp only at hc hd hc2 hd2;subst hc hd hc2 hd2;have hxs:xs=[]:=Hq.mp (by rw[l1,hx];rfl)
  subst hxs;exact Wa ⟨_,ho,rfl⟩ ⟨_,ho2,rfl⟩ Re Ur Mg Lm (Lf _ _) (tuple_addW0 a b its.toArray its2.toArray n n2 dd dd2 sl sl2 (by simp[hx]))
   ⟨ho,ho2,⟨.ref b,H,I,rfl,xr af r pb⟩⟩
 ·refine _H.cat_tup h1 h2 hx (λz=>⟨.ref a,H,I,rfl,xr af r ?_⟩) (λz=>?_) (by rw[← l1,← l2,← xJ];exact hl)
  ·have hys:ys=[]:=Hq.mp (by rw[l2,z];rfl)
   rw[hys,Hf];exact pa
  ·exact b5 I r (t1.append t2) (rv1.append rv2) (by rw[Bo];exact hl) af
def NS {P:Hp}{α:Ab Af}{ys:Ab D}{u:V}{vv uu:Ad}(I:Inv X pins σ H s)(r:Rel X.K H P α S)(rv:qP v vv)(ru:qP u uu)(pa:Rep X.K P α (.lst xs) v)(pb:Rep X.K P α (.lst ys) u)(hl:xs.length+ys.length≤lim)(af:OkV X P α Q (.lst (xs++ys)) S) :
  Ao (Au X.prog X.w) X.A (Eh .Add vv uu) (EP X pins σ Q) X.xe s:=by
 obtain⟨a,vs,its,n,rfl,q1,t1,rv1,h1,l1,_⟩:=vV I r pa;obtain⟨b,ws,its2,n2,rfl,q2,t2,rv2,h2,l2,_⟩:=vV I r pb;cases rv;cases ru;refine PySem.P.add_list h1 h2 ?_ (by rw[Ax,Ax,← l1,← l2,← xJ];exact hl)
 rw[List.append_toArray];exact cX I r (t1.append t2) (rv1.append rv2) (by rw[Bo];exact hl) af
inductive AddV (a b:D)(S:Sto):Prop
 |bad (e:qL a b S=.bad)
 |int (i j:Ak) (ea:a=.int i) (eb:b=.int j)
 |str (x y:As) (ea:a=.str x) (eb:b=.str y)
 |tup (x y:Ab D) (ea:a=.tup x) (eb:b=.tup y)
 |lst (x y:Ab D) (ea:a=.lst x) (eb:b=.lst y)
def OC (a b:D)(S:Sto):AddV a b S:=by
 cases a with
 |int i=>cases b with
  |int j=>exact .int i j rfl rfl
  |_=>exact .bad rfl
 |str i=>cases b with
  |str j=>exact .str i j rfl rfl
  |_=>exact .bad rfl
 |tup i=>cases b with
  |tup j=>exact .tup i j rfl rfl
  |_=>exact .bad rfl
 |lst i=>cases b with
  |lst j=>exact .lst i j rfl rfl
  |_=>exact .bad rfl
 |_=>exact .bad rfl
def R5:OpD X (Eh .Add) qL:=by
 intro pins σ H s P α S v u vv uu a b Q I r rv ru pa pb af;cases OC a b S with
 |bad e=>rw[e] at af;exact Ap af
 |int i j ea eb =>
  subst ea eb;exact RF pins s σ H v u vv uu Q I rv ru ⟨i,j,wL pa,wL pb,xr af r (by simp only[Rep])⟩
 |str x y ea eb =>
  subst ea eb;obtain⟨hl,af⟩:=vU (X:=X) af;simp only[Rep] at pa pb;exact ZT pins s σ H v u vv uu Q I rv ru ⟨x,y,pa,pb,by rw[← xJ];exact hl,xr af r (by simp only[Rep])⟩
 |tup xs ys ea eb =>
  subst ea eb;obtain⟨hl,af⟩:=vU (X:=X) af;exact NT I r rv ru pa pb hl af
 |lst xs ys ea eb =>
  subst ea eb;obtain⟨hl,af⟩:=vU (X:=X) af;exact NS I r rv ru pa pb hl af
def gIx:G2:=λa b S=>match b with
 |.int k=>match a with
  |.tup xs=>uD (atI xs k) S
  |.lst xs=>uD (atI xs k) S
  |.loc i=>match S[i]? with
   |some (.lst xs)=>uD (atI xs k) S
   |_=>.bad
  |_=>.bad
 |_=>.bad
def lT {P:Hp}{α:Ab Af}{k:Ak}(rp:qI X.K P α ds vs)(h:atI ds k=Aa d):∃ v,atI vs k=Aa v∧Rep X.K P α d v:=by
 unfold atI at h ⊢;rw[← rp.length];cases q:ixN ds.length k with
 |none=>rw[q] at h;cases h
 |some j =>
  rw[q] at h;obtain⟨v,h1,h2⟩:=rp.get (show ds[j]? = Aa d from h)
  exact⟨v,h1,h2⟩
def OT:IxD X gIx:=by
 intro value slice pins σ H s P α S v u vv uu a b Q I r rv ru pa pb af hs;cases b with
 |int k =>
  have hk:=wL pb;cases a with
  |tup xs =>
   obtain⟨d,e,ok⟩:=jK (X:=X) af;simp only[Rep] at pa;obtain⟨p,vs,rfl,q,t⟩:=pa;obtain⟨w,e1,rw'⟩:=lT t e;exact uW value slice pins s σ H _ u vv uu Q I rv ru ⟨p,vs,k,w,rfl,hk,wW r.sub q,e1,xr ok r rw'⟩ hs
  |lst xs =>
   obtain⟨d,e,ok⟩:=jK (X:=X) af;simp only[Rep] at pa;obtain⟨p,vs,rfl,q,t⟩:=pa;obtain⟨w,e1,rw'⟩:=lT t e;exact oJ value slice pins s σ H _ u vv uu Q I rv ru ⟨p,vs,k,w,rfl,hk,(wU r.sub q).l,e1,xr ok r rw'⟩ hs
  |loc i =>
   obtain⟨xs,hS,af⟩:=b7 (X:=X) (f:=λxs=>uD (atI xs k) S) af;obtain⟨d,e,ok⟩:=jK (X:=X) af;simp only[Rep] at pa;obtain⟨p,rfl,q⟩:=pa;obtain⟨vs,z,t⟩:=r.at' i p _ q hS;obtain⟨w,e1,rw'⟩:=lT t e;exact oJ value slice pins s σ H _ u vv uu Q I rv ru ⟨p,vs,k,w,rfl,hk,.of z,e1,xr ok r rw'⟩ hs
  |_=>exact Ap af
 |_=>exact Ap af
def tK:G3:=λo i d S=>match o,i with
 |.loc n,.int k=>match S[n]? with
  |some (.lst xs)=>match ixN xs.length k with
   |some j=>.ok () (S.set n (.lst (xs.set j d)))
   |none=>.bad
  |_=>.bad
 |_,_=>.bad
def IB:eW X (eS X tK):=by
 intro pins s σ H o i v ov iv u Q I ro ri rv h;obtain⟨P,α,S,a,b,d,r,pa,pb,pd,af⟩:=h;cases a with
 |loc n =>
  cases b with
  |int k =>
   obtain⟨xs,hS,af⟩:=b7 (X:=X) (f:=λxs=>match ixN xs.length k with|some j=>.ok () (S.set n (.lst (xs.set j d)))|none=>.bad) af
   cases hj:ixN xs.length k with
   |none=>rw[hj] at af;exact Ap af
   |some j =>
    rw[hj] at af;simp only[Rep] at pa;obtain⟨p,rfl,q⟩:=pa;obtain⟨vs,z,t⟩:=r.at' n p _ q hS;refine G9 pins s σ H _ i v ov iv u Q I ro ri rv ⟨p,vs,k,j,rfl,wL pb,z,by rw[← t.length];exact hj,?_⟩
    refine af _ P α (r.put (m':=.lst (xs.set j d)) q hS (by intro z;cases z) ⟨vs.set j v,zM,t.set pd j⟩) (qK.refl _) (Bp _)
  |_=>exact Ap af
 |_=>exact Ap af
def SH:D→Sto→Am Ai
 |.tup xs,_=>Aa xs.length
 |.lst xs,_=>Aa xs.length
 |.str x,_=>if x.length≤lim then Aa x.length else none
 |.dct0,_=>Aa 0
 |.loc i,S=>match S[i]? with
  |some (.lst xs)=>Aa xs.length
  |_=>none
 |_,_=>none
def cM:DF:=λds S=>match ds with
 |[d]=>match SH d S with
  |some n=>.ok (.int n) S
  |none=>.bad
 |_=>.bad
end
section
variable {X:Cx}
def vP {P:Hp}{α:Ab Af}(rp:qI X.K P α [d] vs)(rv:qT vs us):∃ v u,vs=[v]∧us=[u]∧Rep X.K P α d v∧qP v u:=by
 obtain⟨v,ws,rfl,p,t⟩:=rp.cons_inv;have:=t.nil_inv;subst this;obtain⟨u,rfl,q⟩:=gV rv;exact⟨v,u,rfl,rfl,p,q⟩
def mM {P:Hp}{α:Ab Af}{e:D}(rp:qI X.K P α [d,e] vs)(rv:qT vs us):∃ v w u x,vs=[v,w]∧us=[u,x]∧Rep X.K P α d v∧Rep X.K P α e w∧qP v u∧qP w x:=by
 obtain⟨v,ws,rfl,p,t⟩:=rp.cons_inv;obtain⟨w,ws,rfl,p',t⟩:=t.cons_inv;have:=t.nil_inv;subst this;obtain⟨u,x,rfl,q,q'⟩:=XI rv;exact⟨v,w,u,x,rfl,rfl,p,p',q,q'⟩
def ZO (d:D)(S:Sto):Am Ai:=match d with
 |.dct0=>none
 |_=>SH d S
def SI {P:Hp}{α:Ab Af}{n:Ai}(r:Rel X.K H P α S)(p:Rep X.K P α d v)(hn:ZO d S=Aa n):NO X.K v H n:=by
 cases d with
 |str x =>
  cases (show v=.str x from p)
  obtain⟨hl,rfl⟩:=g9 hn;exact⟨by rw[← xJ];exact hl,rfl⟩
 |tup xs =>
  simp only[Rep] at p;obtain⟨a,ws,rfl,sq,t⟩:=p;cases hn;exact .inr ⟨ws,wW r.sub sq,t.length⟩
 |lst xs =>
  simp only[Rep] at p;obtain⟨a,ws,rfl,sq,t⟩:=p;cases hn;exact .inl ⟨ws,(wU r.sub sq).l,t.length⟩
 |loc i =>
  simp only[Rep] at p;obtain⟨a,rfl,e⟩:=p;obtain⟨xs,hS,hn⟩:=SO (f:=λxs=>Aa xs.length) hn;cases hn;obtain⟨ws,z,t⟩:=r.at' i a _ e hS;exact .inl ⟨ws,.of z,t.length⟩
 |_=>exact nn hn
inductive LenD1 (ds:Ab D)(S:Sto)(r:Res D):Prop
 |bad (e:r=.bad)
 |of (d:D) (n:Ai) (ed:ds=[d]) (hn:ZO d S=Aa n) (e:r=.ok (.int n) S)
def CT (ds:Ab D)(S:Sto):LenD1 ds S (match ds with|[.dct0]=>.bad|_=>cM ds S):=by
 cases ds with
 |nil=>exact .bad rfl
 |cons d ds =>
  cases ds with
  |cons _ _=>cases d <;> exact .bad rfl
  |nil =>
   have z:(match [d] with|[D.dct0]=>Res.bad|_=>cM [d] S)=(match ZO d S with|some n=>Res.ok (D.int n) S|none=>.bad):=by cases d <;> rfl
   rw[z];cases hn:ZO d S with
   |none=>exact .bad rfl
   |some n=>exact .of d n rfl hn rfl
def L5 (hD:Kj):yV X (.builtin "len") (λds S=>match ds with|[.dct0]=>.bad|_=>cM ds S):=by
 intro pins σ H s P α S vs us ds Q I r rv rp af;have af1:qQ X P α (match ds with|[D.dct0]=>Res.bad|_=>cM ds S) (OkV X P α Q):=af
 clear af;cases CT ds S with
 |bad e=>rw[e] at af1;exact Ap af1
 |of d n ed hn e =>
  rw[e] at af1;subst ed;obtain⟨v,u,rfl,rfl,p,q⟩:=vP rp rv;exact UB pins s σ H _ _ Q I rv ⟨v,n,rfl,SI r p hn,xr af1 r (by simp only[Rep])⟩
def tyD:D→Sto→Am Ea
 |.non,_=>Aa "NoneType"
 |.bl _,_=>Aa "bool"
 |.int _,_=>Aa "int"
 |.str _,_=>Aa "str"
 |.tup _,_=>Aa "tuple"
 |.lst _,_=>Aa "list"
 |.dct0,_=>Aa "dict"
 |.loc i,S=>match S[i]? with
  |some (.lst _)=>Aa "list"
  |some (.dct _)=>Aa "dict"
  |_=>none
 |_,_=>none
def w4 (a b:Ea):Aq:=a == b||(a == "bool" && b == "int")
def jJ (b:Ea):Aq:=b == "int" || b == "bool" || b == "tuple" || b == "list" || b == "str" || b == "dict"
def SE (a b:Ea):Am Aq:=if (Gu a == Gu b)=true then Aa true else if PySem.W.kitMeta b=true then (fastBuiltinMro a).map (·.contains (.type b)) else none
def tyL:Ab Ea:=["NoneType","bool","int","str","tuple","list","dict"]
def okL:Ab Ea:=["int","bool","tuple","list","str","dict"]
def FX:(tyL.all λa=>okL.all λb=>decide (SE a b=Aa (w4 a b)))=true:=by decide +kernel
def RD {b:Ea}(hb:jJ b=true):b∈okL:=by simpa [jJ,okL,or_assoc] using hb
def FY {K:Al}{a b:Ea}(ha:a∈tyL)(hb:jJ b=true):Kc K (.type a) (.type b)=Aa (w4 a b):=
 Ce (p:=SE a b=Aa (w4 a b)) (Ar.mp (Ar.mp FX a ha) b (RD hb))
def zK:DF:=λds S=>match ds with
 |[d,.ty b]=>if jJ b then match tyD d S with
   |some a=>.ok (.bl (w4 a b)) S
   |none=>.bad
  else .bad
 |_=>.bad
inductive TyV (X:Cx)(H:Hp)(v:V)(a:Ea):Prop
 |of (t:TyOf X.K H v (.type a))
 |tup (p:Af) (vs:Ab V) (e:v=.ref p) (q:SqT X.K H p vs) (ea:a = "tuple")
 |lst (p:Af) (vs:Ab V) (e:v=.ref p) (q:SqL X.K H p vs) (ea:a = "list")
def HD {a:Ea}(h:tyD d S=Aa a):a∈tyL:=by
 cases d with
 |non=>cases h;exact .head _
 |bl b=>cases h;exact .tail _ (.head _)
 |int i=>cases h;exact .tail _ (.tail _ (.head _))
 |str x=>cases h;exact .tail _ (.tail _ (.tail _ (.head _)))
 |tup xs=>cases h;exact .tail _ (.tail _ (.tail _ (.tail _ (.head _))))
 |lst xs=>cases h;exact .tail _ (.tail _ (.tail _ (.tail _ (.tail _ (.head _)))))
 |dct0=>cases h;exact .tail _ (.tail _ (.tail _ (.tail _ (.tail _ (.tail _ (.head _))))))
 |loc i =>
  rcases dP (f:=λ_=>Aa "list") (g:=λ_=>Aa "dict") h with⟨_,_,h⟩|⟨_,_,h⟩
  ·cases h;exact .tail _ (.tail _ (.tail _ (.tail _ (.tail _ (.head _)))))
  ·cases h;exact .tail _ (.tail _ (.tail _ (.tail _ (.tail _ (.tail _ (.head _))))))
 |_=>exact nn h
def IJ {P:Hp}{α:Ab Af}{a:Ea}(r:Rel X.K H P α S)(p:Rep X.K P α d v)(h:tyD d S=Aa a):TyV X H v a:=by
 cases d with
 |non=>cases h;cases (show v=.non from p);exact .of .non
 |bl b=>cases h;cases (show v=.bl b from p);exact .of (.bl b)
 |int i=>cases h;cases (show v=.int i from p);exact .of (.int i)
 |str x=>cases h;cases (show v=.str x from p);exact .of (.str x)
 |tup xs =>
  cases h;simp only[Rep] at p;obtain⟨a,vs,e,q,t⟩:=p;exact .tup a vs e (wW r.sub q) rfl
 |lst xs =>
  cases h;simp only[Rep] at p;obtain⟨a,vs,e,q,t⟩:=p;exact .lst a vs e (wU r.sub q).l rfl
 |dct0 =>
  cases h;simp only[Rep] at p;obtain⟨a,rfl,q⟩:=p;exact .of (.dK (r.sub _ _ q))
 |loc i =>
  simp only[Rep] at p;obtain⟨a,rfl,q⟩:=p;rcases dP (f:=λ_=>Aa "list") (g:=λ_=>Aa "dict") h with⟨xs,hS,h⟩|⟨kvs,hS,h⟩
  ·cases h
   obtain⟨vs,z,t⟩:=r.at' i a _ q hS;exact .of (.lst z)
  ·cases h
   obtain⟨vs,z,t⟩:=r.at' i a _ q hS;exact .of (.dK z)
 |_=>exact nn h
inductive IsiV (ds:Ab D)(S:Sto):Prop
 |bad (e:zK ds S=.bad)
 |of (d:D) (b a:Ea) (ed:ds=[d,.ty b]) (hb:jJ b=true) (ha:tyD d S=Aa a) (e:zK ds S=.ok (.bl (w4 a b)) S)
def OS (ds:Ab D)(S:Sto):IsiV ds S:=by
 cases ds with
 |nil=>exact .bad rfl
 |cons d ds =>
  cases ds with
  |nil=>exact .bad rfl
  |cons e ds =>
   cases ds with
   |cons _ _=>cases e <;> exact .bad rfl
   |nil =>
    cases e with
    |ty b =>
     have z:zK [d,.ty b] S=if jJ b then (match tyD d S with|some a=>.ok (.bl (w4 a b)) S|none=>.bad) else .bad:=rfl
     by_cases hb:jJ b=true
     ·rw[Bd hb] at z
      cases ha:tyD d S with
      |none=>rw[ha] at z;exact .bad z
      |some a=>rw[ha] at z;exact .of d b a rfl hb ha z
     ·rw[Be hb] at z
      exact .bad z
    |_=>exact .bad rfl
def XY:yV X (.builtin "isinstance") zK:=by
 intro pins σ H s P α S vs us ds Q I r rv rp af;cases OS ds S with
 |bad e=>rw[e] at af;exact Ap af
 |of d b a ed hb ha e =>
  subst ed;rw[e] at af;obtain⟨v,w,u,x,rfl,rfl,p,p',q,q'⟩:=mM rp rv;simp only[Rep] at p';subst p';cases (show x=Gu b from q')
  have kit:=FY (K:=X.K) (HD ha) hb;have fin:∀ tk,EP X pins σ Q (.bool (w4 a b)) { s with toks:=tk }:=λtk=>⟨.bl _,H,I.tok tk,rfl,xr af r (by simp only[Rep])⟩
  cases IJ r p ha with
  |of ht=>exact WW I q ht kit fin
  |tup p' ws e sq ea =>
   subst e ea;cases (show u=Cg p' from q)
   obtain⟨its,rv',⟨o,h1,h2,_⟩,_⟩:=I.tuple sq;exact Ee Vl I.kIn ⟨o,h1,h2⟩ kit (λz=>nomatch z) fin
  |lst p' ws e sq ea =>
   subst e ea;cases (show u=Cg p' from q)
   obtain⟨its,rv',⟨o,_,h1,h2,_⟩,_⟩:=I.list sq;exact Ee Pv I.kIn ⟨o,h1,h2⟩ kit (λz=>nomatch z) fin
def w6:Ab D→Am (Ab Aq)
 |[]=>Aa []
 |.bl b::r=>(w6 r).map (b::·)
 |_=>none
def uT {P:Hp}{α:Ab Af}:∀ {ds:Ab D} {bs:Ab Aq} {vs:Ab V} {us:Ab Ad},w6 ds=Aa bs→qI X.K P α ds vs→qT vs us→us=bs.map Es
 |[],bs,vs,us,h,rp,rv=>by
  cases h;have:=rp.nil_inv;subst this;cases rv;rfl
 |d::ds,bs,vs,us,h,rp,rv=>by
  cases d with
  |bl b =>
   obtain⟨bs',q,rfl⟩:=DL.mp (show (w6 ds).map (b::·)=Aa bs from h)
   obtain⟨w,ws,rfl,p,t⟩:=rp.cons_inv;simp only[Rep] at p;subst p;cases rv with
   |cons q1 q2 =>
    cases (show _=Es b from q1)
    rw[uT q t q2];rfl
  |_=>exact nn h
def vA (any:Aq):DF:=λds S=>match ds with
 |[d]=>match (xI d).bind w6 with
  |some bs=>.ok (.bl (if any then bs.any id else bs.all id)) S
  |none=>.bad
 |_=>.bad
def rG (bs:Ab Aq):((Cz bs.length).all λi=>bs.getD i false)=bs.all id:=by
 induction bs with
 |nil=>rfl
 |cons b bs ih =>
  rw[Ci,Mi,Mu,Ke,Mu,← ih];rfl
def rH (bs:Ab Aq):((Cz bs.length).any λi=>bs.getD i false)=bs.any id:=by
 induction bs with
 |nil=>rfl
 |cons b bs ih =>
  rw[Ci,Mi,Jn,Wg,Jn,← ih];rfl
def WX {o:Cr}{h':Bk}{tk:Ai}(I:Inv X pins σ H s)(k:∀ b ob,b ∉ [s.heap.objs.size]→(s.heap.push o).get? b=Aa ob→h'.get? b=Aa ob):Inv X pins σ H { s with heap:=h',toks:=tk }:=
 I.kept λb u e=>k b u (by simp;exact Co (AT e)) (Ah _ e)
def gT {bs:Ab Aq}(hi:its=bs.map Es){A:Bv}:TruthOf X.prog X.w A (λi v=>its.toArray[i]? = Aa v) (λi=>bs.getD i false):=λi v s' Q' E' hv hQ=>by
 subst hi;have hv':(bs.map Es)[i]? = Aa v:=by simpa using hv
 rw[Dw] at hv';cases e:bs[i]? with
 |none=>rw[e] at hv';exact nn hv'
 |some b =>
  rw[e] at hv';cases Ct hv';have:bs.getD i false=b:=by simp[Hk,e]
  have hQ':Q' (bs.getD i false) s':=hQ;rw[this] at hQ';exact Pu hQ'
def FJ {any:Aq}{P:Hp}{α:Ab Af}{Ok:D→Sto→Prop}(h:qQ X P α (vA any ds S) Ok):∃ d xs bs,ds=[d]∧ItV d xs∧w6 xs=Aa bs∧Ok (.bl (if any then bs.any id else bs.all id)) S:=by
 obtain⟨d,rfl,h1⟩:=aF (X:=X) (β:=D) (g:=λd=>match (xI d).bind w6 with|some bs=>.ok (D.bl (if any then bs.any id else bs.all id)) S|none=>.bad) h
 cases hb:(xI d).bind w6 with
 |none=>rw[hb] at h1;exact Ap h1
 |some bs =>
  rw[hb] at h1;obtain⟨xs,hx,hbs⟩:=Dv.mp hb;exact⟨d,xs,bs,rfl,itV hx,hbs,h1⟩
def L3 (any:Aq)(hc:X.calm=true):yV X (.builtin (if any then "any" else "all")) (vA any):=by
 intro pins σ H s P α S vs us ds Q I r rv rp af;obtain⟨d,xs,bs,ed,hd,hbs,ok⟩:=FJ af;clear af;subst ed;obtain⟨v,u,rfl,rfl,p,q⟩:=vP rp rv;clear rp;have fin:∀ {o:Cr} (h':Bk) (tk:Ai),(∀ b ob,b ∉ [s.heap.objs.size]→(s.heap.push o).get? b=Aa ob→h'.get? b=Aa ob)→EP X pins σ Q (.bool (if any then bs.any id else bs.all id)) { s with heap:=h',toks:=tk }:=
  λ{o} h' tk k=>⟨.bl _,H,WX I k,rfl,xr ok r (by simp only[Rep])⟩
 clear rv ok;have hh:X.A.in1.handled=none:=I.ok.hd hc;cases hd with
 |tup ed =>
  subst ed;obtain⟨a,ws,its,rfl,sq,t,rvi,ht,hl,_⟩:=yJ I r p;cases (show u=Cg a from q)
  have hi:=uT hbs t rvi;have hlen:its.toArray.size=bs.length:=by rw[hi];simp
  have hne:a≠s.heap.objs.size:=by obtain⟨o,e,_⟩:=ht;exact Co (AT e)
  have W:=Walks.tuple (prog:=X.prog) (w:=X.w) hh s.heap.objs.size a hne its.toArray;have hT:∀ o,(s.heap.push o).IsTuple a its.toArray:=λo=>by obtain⟨o,e,c⟩:=ht;exact⟨o,Ah _ e,c⟩
  have ht':s.heap.IsTuple a its.toArray:=ht;cases any with
  |false =>
   refine call_all_walk (Gj ht' ⟨s.heap.objs.size,_,_,_,_,_,_,rfl,W,⟨⟨_,Ba _ rfl,rfl,rfl⟩,hT _⟩,gT hi,λh' tk k=>?_⟩);rw[hlen,rG];exact fin h' tk k
  |true =>
   refine call_any_walk (Gj ht' ⟨s.heap.objs.size,_,_,_,_,_,_,rfl,W,⟨⟨_,Ba _ rfl,rfl,rfl⟩,hT _⟩,gT hi,λh' tk k=>?_⟩);rw[hlen,rH];exact fin h' tk k
 |lst ed =>
  subst ed;obtain⟨a,ws,its,n,rfl,sq,t,rvi,ht,hl,_⟩:=vV I r p;cases (show u=Cg a from q)
  have hL:s.heap.IsList a its.toArray:=⟨_,ht,rfl,n,rfl⟩;have hi:=uT hbs t rvi;have hlen:its.toArray.size=bs.length:=by rw[hi];simp
  have hne:a≠s.heap.objs.size:=Co (AT ht);have W:=Ze (prog:=X.prog) (w:=X.w) hh s.heap.objs.size a hne its.toArray;have hL':∀ o,(s.heap.push o).IsList a its.toArray:=λo=>⟨_,Ah _ ht,rfl,n,rfl⟩;cases any with
  |false =>
   refine call_all_walk (Fs hL ⟨s.heap.objs.size,_,_,_,_,_,_,rfl,W,⟨⟨_,Ba _ rfl,rfl,rfl⟩,hL' _⟩,gT hi,λh' tk k=>?_⟩);rw[hlen,rG];exact fin h' tk k
  |true =>
   refine call_any_walk (Fs hL ⟨s.heap.objs.size,_,_,_,_,_,_,rfl,W,⟨⟨_,Ba _ rfl,rfl,rfl⟩,hL' _⟩,gT hi,λh' tk k=>?_⟩);rw[hlen,rH];exact fin h' tk k
def kU:DF:=λds S=>match ds with
 |[.int i]=>.ok (.int i) S
 |[.bl b]=>.ok (.int (b01 b)) S
 |_=>.bad
inductive IntV (ds:Ab D)(S:Sto):Prop
 |bad (e:kU ds S=.bad)
 |int (i:Ak) (e:ds=[.int i])
 |bl (b:Aq) (e:ds=[.bl b])
def OP (ds:Ab D)(S:Sto):IntV ds S:=by
 cases ds with
 |nil=>exact .bad rfl
 |cons d ds =>
  cases ds with
  |cons _ _=>cases d <;> exact .bad rfl
  |nil =>
   cases d with
   |int i=>exact .int i rfl
   |bl b=>exact .bl b rfl
   |_=>exact .bad rfl
def L4:yV X (.type "int") kU:=by
 intro pins σ H s P α S vs us ds Q I r rv rp af;cases OP ds S with
 |bad e=>rw[e] at af;exact Ap af
 |int i e =>
  subst e;obtain⟨v,u,rfl,rfl,p,q⟩:=vP rp rv;exact sN pins s σ H _ _ Q I rv (.inl ⟨_,by rw[wL p],xr af r (by simp only[Rep])⟩)
 |bl b e =>
  subst e;obtain⟨v,u,rfl,rfl,p,q⟩:=vP rp rv;simp only[Rep] at p;subst p;exact sN pins s σ H _ _ Q I rv (.inr ⟨_,rfl,xr af r (by simp only[Rep];rfl)⟩)
def wN:DF:=λds S=>match ds with
 |[d]=>match xI d with
  |some xs=>.ok (.tup xs) S
  |none=>.bad
 |_=>.bad
def UF:yV X (.type "tuple") wN:=by
 intro pins σ H s P α S vs us ds Q I r rv rp af;obtain⟨d,rfl,af1⟩:=aF (X:=X) (β:=D) (g:=λd=>match xI d with|some xs=>.ok (D.tup xs) S|none=>.bad) af
 obtain⟨xs,hx,af2⟩:∃ xs,xI d=Aa xs∧OkV X P α Q (.tup xs) S:=by
  cases hx:xI d with
  |none=>rw[hx] at af1;exact Ap af1
  |some xs=>rw[hx] at af1;exact⟨xs,rfl,af1⟩
 obtain⟨v,u,rfl,rfl,p,q⟩:=vP rp rv;cases itV hx with
 |tup e =>
  subst e;have p0:=p;simp only[Rep] at p;obtain⟨a,ws,rfl,sq,t⟩:=p;exact bL pins s σ H _ _ Q I rv ⟨a,ws,rfl,.inr ⟨wW r.sub sq,xr af2 r p0⟩⟩
 |lst e =>
  subst e;simp only[Rep] at p;obtain⟨a,ws,rfl,sq,t⟩:=p;exact bL pins s σ H _ _ Q I rv ⟨a,ws,rfl,.inl ⟨(wU r.sub sq).l,λl hl=>b9 r hl t af2⟩⟩
def jQ:DF:=λds S=>match ds with
 |[d]=>match xI d with
  |some xs=>.ok (.lst xs) S
  |none=>.bad
 |_=>.bad
def BM:yV X (.type "list") jQ:=by
 intro pins σ H s P α S vs us ds Q I r rv rp af;obtain⟨d,rfl,af1⟩:=aF (X:=X) (β:=D) (g:=λd=>match xI d with|some xs=>.ok (D.lst xs) S|none=>.bad) af
 obtain⟨xs,hx,af2⟩:∃ xs,xI d=Aa xs∧OkV X P α Q (.lst xs) S:=by
  cases hx:xI d with
  |none=>rw[hx] at af1;exact Ap af1
  |some xs=>rw[hx] at af1;exact⟨xs,rfl,af1⟩
 obtain⟨v,u,rfl,rfl,p,q⟩:=vP rp rv;cases itV hx with
 |tup e =>
  subst e;simp only[Rep] at p;obtain⟨a,ws,rfl,sq,t⟩:=p;exact bR pins s σ H _ _ Q I rv ⟨a,ws,rfl,.inr (wW r.sub sq),λl hl=>vG r hl t af2⟩
 |lst e =>
  subst e;simp only[Rep] at p;obtain⟨a,ws,rfl,sq,t⟩:=p;exact bR pins s σ H _ _ Q I rv ⟨a,ws,rfl,.inl ((wU r.sub sq).l),λl hl=>vG r hl t af2⟩
end
section
variable {X:Cx}
structure ClsK (K:Al)(cl:Ab Af):Prop where
 ex:∀ C∈cl,ExnK K C
 one:∀ C∈cl,∀ B∈cl,Kc K (.ref C) (.ref B)=Aa (C == B)
 ve:∀ C∈cl,Kc K (.ref C) (.type "ValueError")=Aa true
def xE (cl:Ab Af):DF:=λds S=>match ds with
 |[.exn (.ref C),.obj B]=>if cl.contains C&&cl.contains B then .ok (.bl (C == B)) S else .bad
 |[.exn (.ref C),.ty b]=>if cl.contains C&&(b == "ValueError") then .ok (.bl true) S else .bad
 |_=>zK ds S
def WK {P:Hp}{α:Ab Af}{C:Af}{u:Ad}(I:Inv X pins σ H s)(r:Rel X.K H P α S)(p:Rep X.K P α (.exn (.ref C)) v)(q:qP v u):∃ a,u=.ref a∧jO a C s.heap:=by
 simp only[Rep] at p;obtain⟨a,rfl,z⟩:=p;obtain⟨y,_⟩:=I.hok a _ (r.sub _ _ z);exact⟨a,q,y⟩
inductive IsiE (cl:Ab Af)(ds:Ab D)(S:Sto):Prop
 |bad (e:xE cl ds S=.bad)
 |old (e:xE cl ds S=zK ds S)
 |obj (C B:Af) (ed:ds=[.exn (.ref C),.obj B]) (h1:C∈cl) (h2:B∈cl) (e:xE cl ds S=.ok (.bl (C == B)) S)
 |ve (C:Af) (ed:ds=[.exn (.ref C),.ty "ValueError"]) (h1:C∈cl) (e:xE cl ds S=.ok (.bl true) S)
def CP (cl:Ab Af)(C:Af)(d:D)(S:Sto):IsiE cl [.exn (.ref C),d] S:=by
 cases d with
 |obj B =>
  have z:xE cl [.exn (.ref C),.obj B] S=if (cl.contains C&&cl.contains B)=true then .ok (.bl (C == B)) S else .bad:=rfl
  by_cases h:(cl.contains C&&cl.contains B)=true
  ·rw[Bd h] at z
   have h':=Er.mp h;exact .obj C B rfl (Ft.mp h'.1) (Ft.mp h'.2) z
  ·rw[Be h] at z
   exact .bad z
 |ty b =>
  have z:xE cl [.exn (.ref C),.ty b] S=if (cl.contains C&&(b == "ValueError"))=true then .ok (.bl true) S else .bad:=rfl
  by_cases h:(cl.contains C&&(b == "ValueError"))=true
  ·rw[Bd h] at z
   have h':=Er.mp h;cases (Oe.mp h'.2);exact .ve C rfl (Ft.mp h'.1) z
  ·rw[Be h] at z
   exact .bad z
 |_=>exact .old rfl
def OR (cl:Ab Af)(ds:Ab D)(S:Sto):IsiE cl ds S:=by
 cases ds with
 |nil=>exact .old rfl
 |cons a ds =>
  cases a with
  |exn c =>
   cases c with
   |ref C =>
    cases ds with
    |nil=>exact .old rfl
    |cons b ds =>
     cases ds with
     |nil=>exact CP cl C b S
     |cons _ _=>cases b <;> exact .old rfl
   |_=>exact .old rfl
  |_=>exact .old rfl
def BK {cl:Ab Af}(hK:ClsK X.K cl):yV X (.builtin "isinstance") (xE cl):=by
 intro pins σ H s P α S vs us ds Q I r rv rp af;cases OR cl ds S with
 |bad e=>rw[e] at af;exact Ap af
 |old e=>rw[e] at af;exact XY pins σ H s P α S vs us ds Q I r rv rp af
 |obj C B ed h1 h2 e =>
  rw[e] at af;subst ed;obtain⟨v,w,u,x,rfl,rfl,p,p',q,q'⟩:=mM rp rv;simp only[Rep] at p';obtain⟨rfl,_⟩:=p';cases (show x=Cg B from q')
  obtain⟨a,rfl,ha⟩:=WK I r p q;exact Ee (cW (hK.ex C h1)) I.kIn ha (hK.one C h1 B h2) (λz=>nomatch z) λtk=>⟨.bl _,H,I.tok tk,rfl,xr af r (by simp only[Rep])⟩
 |ve C ed h1 e =>
  rw[e] at af;subst ed;obtain⟨v,w,u,x,rfl,rfl,p,p',q,q'⟩:=mM rp rv;simp only[Rep] at p';subst p';cases (show x=Gu "ValueError" from q')
  obtain⟨a,rfl,ha⟩:=WK I r p q;exact Ee (cW (hK.ex C h1)) I.kIn ha (hK.ve C h1) (λz=>nomatch z) λtk=>⟨.bl _,H,I.tok tk,rfl,xr af r (by simp only[Rep])⟩
def MtD (X:Cx)(id:Ea)(g:D→Ab D→Sto→Res D):Prop:=
 ∀ (pins:Ab (Af × Cr)) (σ : _L.St) (H:Hp) (s:Ag) (P:Hp) (α : Ab Af) (S:Sto) (v:V) (vv:Ad) (vs:Ab V) (us:Ab Ad) (a:D) (ds:Ab D) (Q:VK),Inv X pins σ H s→Rel X.K H P α S→qP v vv→Rep X.K P α a v→qT vs us→qI X.K P α ds vs→zH X P α (g a ds S) Q →
  Ao (Au X.prog X.w) X.A (call (.builtin id) (vv::us)) (EP X pins σ Q) X.xe s
def dBm (T:Ea)(g:D→Ab D→Sto→Res D)(fo:DE)(fa:DA):DE:=λenv S=>(fo env S).bind λa S1=>if (tyD a S1 == Aa T)=true then (fa env S1).bind λds S2=>g a ds S2 else .bad
def VW {P:Hp}{α:Ab Af}{T:Ea}(r:Rel X.K H P α S)(p:Rep X.K P α a v)(h:tyD a S=Aa T)(hT:T = "list" ∨ T = "dict" ∨ T = "int" ∨ T = "str"):tyV X.K T v H:=by
 cases a with
 |int i=>cases h;simp only[Rep] at p;subst p;rfl
 |str x=>cases h;simp only[Rep] at p;subst p;rfl
 |lst xs =>
  cases h;simp only[Rep] at p;obtain⟨b,vs,rfl,q,t⟩:=p;exact .inl ⟨rfl,vs,(wU r.sub q).l⟩
 |dct0 =>
  cases h;simp only[Rep] at p;obtain⟨b,rfl,q⟩:=p;exact .inr (.inr (.inl ⟨rfl,.inl ⟨[],r.sub _ _ q⟩⟩))
 |loc i =>
  simp only[Rep] at p;obtain⟨b,rfl,q⟩:=p;rcases dP (f:=λ_=>Aa "list") (g:=λ_=>Aa "dict") h with⟨xs,hS,h⟩|⟨kvs,hS,h⟩
  ·cases h
   obtain⟨vs,z,t⟩:=r.at' i b _ q hS;exact .inl ⟨rfl,vs,SqL.of z⟩
  ·cases h
   obtain⟨vs,z,t⟩:=r.at' i b _ q hS;exact .inr (.inr (.inl ⟨rfl,.inl ⟨vs,z⟩⟩))
 |non=>cases h;exact absurd hT (by decide)
 |bl b=>cases h;exact absurd hT (by decide)
 |tup xs=>cases h;exact absurd hT (by decide)
 |_=>exact nn h
variable {o e:Bx}{es:Ab Bx}{fo:DE}{fa:DA}{name:As}{apos cpos:Fa}{T id:Ea}{g:D→Ab D→Sto→Res D}
def LB {P:Hp}{α:Ab Af}{β:Type}{k:Res β}{Ok:β→Sto→Prop}(h:qQ X P α (if (tyD a S == Aa T)=true then k else .bad) Ok):tyD a S=Aa T∧qQ X P α k Ok:=by
 by_cases z:(tyD a S == Aa T)=true
 ·rw[Bd z] at h;exact⟨Oe.mp z,h⟩
 ·rw[Be z] at h;exact Ap h
def HX (pa:PlainAttrs T)(slot:Slot T name id)(hty:typeOf (.builtin id)=pure (.type "method_descriptor"))(hT:T = "list" ∨ T = "dict" ∨ T = "int" ∨ T = "str")(hm:MtD X id g)(ho:PE X o (tD X fo))(ha:PA X (e::es) (tDA X fa))
  (hbase:Qh o name X.env (eval o X.env)=eval o X.env:=by rfl)
  (hfew:((Gf cpos (Bh (e::es) X.env)).all (λx=>!x.1)&&(backToKw cpos (keywordEach [] X.env)).all (λx=>x.1.isSome)
   && decide ((e::es).length+([]:Ab Zz).length+(if ([] : Ab Zz).isEmpty then 0 else 1)<30))=true:=by rfl)
  (hline:(apos.endLine == cpos.line)=true:=by rfl) (hs:Bh (e::es) X.env=(false,eval e X.env)::Bh es X.env:=by rfl) (hplain:(Gf cpos (Bh es X.env)).any (·.1)=false:=by rfl) :
  PE X (.Call (.Attribute o name apos) (e::es) [] cpos) (tD X (dBm T g fo fa)):=by
 intro pins s σ H Q I h;obtain⟨P,α,env,S,r,re,af⟩:=h;refine wpAny_Call_method_late hbase hfew hline rfl (thn (zZ ho I r re af) λvv s1 ⟨v,H1,P1,α1,d,S1,G1,af1⟩=>?_);obtain⟨ht,af2⟩:=LB af1;obtain⟨h1,h2⟩:=VV G1.inv G1.val (VW G1.rel G1.rep ht hT);refine⟨T,id,pa,slot,hty,h1,h2,?_⟩;have hA:=v8 ha G1.inv G1.rel G1.env (P:=P1) (α:=α1) (Ok:=OkV X P1 α1 Q) (zH.base G1.same G1.pre (r:=(fa env S1).bind λds S2=>g d ds S2) af2) cpos;rw[hs] at hA ⊢;refine Sr (by show (false||(Gf cpos (Bh es X.env)).any (·.1))=false;rw[hplain] <;> rfl) (Uh ?_)
 exact thn hA λus s2 ⟨vs,H2,P2,α2,ds,S2,I2,rv,r2,re2,rp2,e1,e2,af3⟩=>hm pins σ H2 s2 P2 α2 S2 v vv vs us d ds Q I2 r2 G1.val (Rep.mono e1 e2 _ _ G1.rep) rv rp2 (zH.base e1 e2 af3)
def yD:D→Ab D→Sto→Res D:=λa ds S=>match a,ds with
 |.loc i,[d]=>match S[i]? with
  |some (.lst xs)=>if xs.length<lim then .ok .non (S.set i (.lst (xs++[d]))) else .bad
  |_=>.bad
 |_,_=>.bad
inductive ApV (a:D)(ds:Ab D)(S:Sto):Prop
 |bad (e:yD a ds S=.bad)
 |of (i:Ai) (d:D) (xs:Ab D) (ea:a=.loc i) (ed:ds=[d]) (hS:S[i]? = Aa (.lst xs)) (hl:xs.length<lim) (e:yD a ds S=.ok .non (S.set i (.lst (xs++[d]))))
def apV (a:D)(ds:Ab D)(S:Sto):ApV a ds S:=by
 cases a with
 |loc i =>
  cases ds with
  |nil=>exact .bad rfl
  |cons d ds =>
   cases ds with
   |cons _ _=>exact .bad rfl
   |nil =>
    have z:yD (.loc i) [d] S=(match S[i]? with|some (.lst xs)=>(if xs.length<lim then .ok .non (S.set i (.lst (xs++[d]))) else .bad)|_=>.bad):=rfl
    cases hS:S[i]? with
    |none=>rw[hS] at z;exact .bad z
    |some m =>
     rw[hS] at z;cases m with
     |lst xs =>
      by_cases hl:xs.length<lim
      ·exact .of i d xs rfl rfl hS hl (z.trans (Bd hl))
      ·exact .bad (z.trans (Be hl))
     |_=>exact .bad z
 |_=>exact .bad rfl
def YE:MtD X "list.append" yD:=by
 intro pins σ H s P α S v vv vs us a ds Q I r rv p rvs rps af;cases apV a ds S with
 |bad e=>rw[e] at af;exact Ap af
 |of i d xs ea ed hS hl e =>
  rw[e] at af;subst ea ed;obtain⟨w,u,rfl,rfl,p',q'⟩:=vP rps rvs;simp only[Rep] at p;obtain⟨b,rfl,q⟩:=p;obtain⟨ws,z,t⟩:=r.at' i b _ q hS;refine YJ pins s σ H (.ref b) [w] vv [u] Q I rv (.cons q' .nil) ⟨b,ws,w,rfl,rfl,z,by rw[← t.length,← xJ];exact hl,?_⟩
  exact xr af (r.put (m':=.lst (xs++[d])) q hS (by intro z;cases z) ⟨ws++[w],zM,t.append (.cons p' .nil)⟩) (by simp only[Rep])
end
def vB:D→Am Key
 |.int i=>Aa (.inl i)
 |.str x=>Aa (.inr x)
 |_=>none
def xN (kvs:Ab (Key × D))(k:Key):Am D:=(kvs.find? λkv=>decide (kv.1=k)).map (·.2)
def yN (kvs:Ab (Key × D))(k:Key)(v:D):Ab (Key × D):=
 if (kvs.any λkv=>decide (kv.1=k))=true then kvs.map (λkv=>if kv.1=k then (kv.1,v) else kv) else kvs++[(k,v)]
section
variable {K:Al}{P:Hp}{α : Ab Af}
def oK {vs:Ab (Key × V)}(r:KVs K P α kvs vs):kvs.length=vs.length:=Paired.length r
def mF {k:Key}:∀ {kvs:Ab (Key × D)} {vs:Ab (Key × V)},KVs K P α kvs vs→(∀ d,xN kvs k=Aa d→∃ v,vT vs k=Aa v∧Rep K P α d v)∧(xN kvs k=none→vT vs k=none)
 |_,_,.nil=>⟨λd h=>by simp[xN] at h,λ_=>rfl⟩
 |(k1,d1)::kvs,(k2,v2)::vs,.cons z t=>by
  obtain⟨e,r⟩:=z;dsimp only at e r;subst e;obtain⟨h1,h2⟩:=mF (k:=k) t;unfold xN vT at *;by_cases hk:k1=k
  ·subst hk
   constructor
   ·intro d h
    simp at h;subst h;exact⟨v2,by simp,r⟩
   ·intro h
    simp at h
  ·constructor
   ·intro d h
    rw[Ss (by simpa using hk)] at h ⊢
    exact h1 d h
   ·intro h
    rw[Ss (by simpa using hk)] at h ⊢
    exact h2 h
def FZ {k:Key}{vs:Ab (Key × V)}(h:KVs K P α kvs vs):(kvs.any λkv=>decide (kv.1=k))=(vs.any λkv=>decide (kv.1=k)):=by
 induction h with
 |nil=>rfl
 |cons z t ih=>rw[Jn,Jn,ih,z.1]
def M1 {k:Key}(q:Rep K P α d v){kvs:Ab (Key × D)}{vs:Ab (Key × V)}(h:KVs K P α kvs vs):KVs K P α (kvs.map λkv=>if kv.1=k then (kv.1,d) else kv) (vs.map λkv=>if kv.1=k then (kv.1,v) else kv):=by
 induction h with
 |nil=>exact .nil
 |cons z t ih =>
  rw[Dj,Dj];refine .cons ?_ ih;rw[← z.1]
  split
  ·exact⟨rfl,q⟩
  ·exact z
def M0 {k:Key}(q:Rep K P α d v){kvs:Ab (Key × D)}{vs:Ab (Key × V)}(h:KVs K P α kvs vs):KVs K P α (kvs++[(k,d)]) (vs++[(k,v)]):=by
 induction h with
 |nil=>exact .cons ⟨rfl,q⟩ .nil
 |cons z t ih=>exact .cons z ih
def oM {k:Key}(q:Rep K P α d v){kvs:Ab (Key × D)}{vs:Ab (Key × V)}(r:KVs K P α kvs vs):KVs K P α (yN kvs k d) (uB vs k v):=by
 unfold yN uB;rw[FZ r]
 split
 ·exact M1 q r
 ·exact M0 q r
def nT {k:Key}(h:vB d=Aa k)(r:Rep K P α d v):v=kV k:=by
 cases d with
 |int i=>cases h;simp only[Rep] at r;exact r
 |str x=>cases h;simp only[Rep] at r;exact r
 |_=>cases h
end
section
variable {X:Cx}{o i e:Bx}{pos:Fa}{fo fi:DE}
def Z9:DE:=λ_ S=>.ok (.loc S.length) (S++[.dct []])
def LI:PE X (.Dict [] [] pos) (tD X Z9):=by
 refine peW aI λσ H Q ⟨P,α,env,S,r,re,af⟩ p hp=>?_;have hpre:α<+:α++[p]:=Li _ _;have r1:=r.new (o:=.dK []) (m:=.dct []) hp ⟨[],zM,.nil⟩;refine af _ _ _ _ r1 (qK.refl _) hpre ?_;simp only[Rep];exact⟨p,rfl,by rw[← r.len];simp⟩
def vI:DE:=λ_ S=>.ok .dct0 S
def BW:PE X (.Dict [] [] pos) (tD X vI):=by
 refine peW aI λσ H Q ⟨P,α,env,S,r,re,af⟩ p hp=>?_;obtain⟨r1,e1⟩:=r.pure (o:=.dK []) hp;refine af _ _ _ α r1 e1 (Bp _) ?_;simp only[Rep];exact⟨p,rfl,zM⟩
def vL:G3:=λo i d S=>match o with
 |.loc n=>match S[n]? with
  |some (.dct kvs)=>match vB i with
   |some k=>if kvs.length<lim then .ok () (S.set n (.dct (yN kvs k d))) else .bad
   |none=>.bad
  |_=>tK o i d S
 |_=>tK o i d S
inductive Set2V (a b d:D)(S:Sto):Prop
 |bad (e:vL a b d S=.bad)
 |old (e:vL a b d S=tK a b d S)
 |of (n:Ai) (kvs:Ab (Key × D)) (k:Key) (ea:a=.loc n) (hS:S[n]? = Aa (.dct kvs)) (hk:vB b=Aa k) (hl:kvs.length<lim) (e:vL a b d S=.ok () (S.set n (.dct (yN kvs k d))))
def IA (a b d:D)(S:Sto):Set2V a b d S:=by
 cases a with
 |loc n =>
  have z:vL (.loc n) b d S=(match S[n]? with|some (.dct kvs)=>(match vB b with|some k=>(if kvs.length<lim then .ok () (S.set n (.dct (yN kvs k d))) else .bad)|none=>.bad)|_=>tK (.loc n) b d S):=rfl
  cases hS:S[n]? with
  |none=>rw[hS] at z;exact .old z
  |some m =>
   rw[hS] at z;cases m with
   |dct kvs =>
    cases hk:vB b with
    |none=>rw[hk] at z;exact .bad z
    |some k =>
     rw[hk] at z;by_cases hl:kvs.length<lim
     ·exact .of n kvs k rfl hS hk hl (z.trans (Bd hl))
     ·exact .bad (z.trans (Be hl))
   |_=>exact .old z
 |_=>exact .old rfl
def EW (hu:X.A.units+1<Du):eW X (eS X vL):=by
 intro pins s σ H o i v ov iv u Q I ro ri rv h;obtain⟨P,α,S,a,b,d,r,pa,pb,pd,af⟩:=h;cases IA a b d S with
 |bad e=>rw[e] at af;exact Ap af
 |old e =>
  rw[e] at af;exact IB pins s σ H o i v ov iv u Q I ro ri rv ⟨P,α,S,a,b,d,r,pa,pb,pd,af⟩
 |of n kvs k ea hS hk hl e =>
  rw[e] at af;subst ea;simp only[Rep] at pa;obtain⟨p,rfl,q⟩:=pa;obtain⟨vs,z,t⟩:=r.at' n p _ q hS;cases nT hk pb;cases (show ov=Cg p from ro)
  refine W7 hu I (lP.k (v:=v) z (by rw[← oK t,← xJ];exact hl)) ri rv λs' I'=>⟨_,I',?_⟩
  exact af _ P α (r.put (m':=.dct (yN kvs k d)) q hS (by intro z;cases z) ⟨_,zM,oM pd t⟩) (qK.refl _) (Bp _)
def qAj:D→Ab D→Sto→Res D:=λa ds S=>match a,ds with
 |.loc n,[i,x]=>match S[n]? with
  |some (.dct kvs)=>match vB i with
   |some k=>.ok ((xN kvs k).getD x) S
   |none=>.bad
  |_=>.bad
 |_,_=>.bad
def nJ:D→Ab D→Sto→Res D:=λa ds S=>match a,ds with
 |.lst xs,[.bl k]=>match w6 xs with
  |some bs=>.ok (.int (bs.countP (· == k):Ai)) S
  |none=>.bad
 |_,_=>.bad
def dA (k:Aq):Ab Aq→Am Ai
 |[]=>none
 |b::r=>if b=k then Aa 0 else (dA k r).map (· + 1)
def nK:D→Ab D→Sto→Res D:=λa ds S=>match a,ds with
 |.lst xs,[.bl k]=>match (w6 xs).bind (dA k) with
  |some j=>.ok (.int j) S
  |none=>.bad
 |_,_=>.bad
def cJ (k:Aq){bs:Ab Aq}{y:Ad}(hy:y∈(bs.map Es).toArray):Aa1 y (.bool k) (Su k y):=by
 have hy':y∈bs.map Es:=by rwa [List.mem_toArray] at hy
 obtain⟨b,_,rfl⟩:=Cw.mp hy';exact λprog w A E s Q h=>Zr b k prog w E Q h
def iJ (k:Aq)(bs:Ab Aq):(bs.map Es).countP (Su k)=bs.countP (· == k):=by
 rw[List.countP_map];rfl
def XO {β:Type}{r:Res β}{P:Hp}{α:Ab Af}{Ok:β→Sto→Prop}(e:r=.bad)(h:qQ X P α r Ok):Fe:=by
 rw[e] at h;exact h
inductive BlV (a:D)(ds:Ab D):Prop
 |no (h:∀ (g:Ab D→Aq→Res D),(match a,ds with|.lst xs,[.bl k]=>g xs k|_,_=>.bad)=.bad)
 |of (xs:Ab D) (k:Aq) (ea:a=.lst xs) (ed:ds=[.bl k])
def blV (a:D)(ds:Ab D):BlV a ds:=by
 cases a with
 |lst xs =>
  cases ds with
  |nil=>exact .no λ_=>rfl
  |cons d ds =>
   cases ds with
   |cons _ _=>cases d <;> exact .no λ_=>rfl
   |nil =>
    cases d with
    |bl k=>exact .of xs k rfl rfl
    |_=>exact .no λ_=>rfl
 |_=>exact .no λ_=>rfl
def K0:MtD X "list.count" nJ:=by
 intro pins σ H s P α S v vv vs us a ds Q I r rv p rvs rps af;cases blV a ds with
 |no h=>exact(XO (X:=X) (r:=nJ a ds S) (h _) af).elim
 |of xs k ea ed =>
  subst ea ed;have af:qQ X P α (match w6 xs with|some bs=>Res.ok (D.int (bs.countP (· == k):Ai)) S|none=>.bad) (OkV X P α Q):=af
  cases hb:w6 xs with
  |none=>rw[hb] at af;exact Ap af
  |some bs =>
   rw[hb] at af;obtain⟨vx,ux,rfl,rfl,px,qx⟩:=vP rps rvs;simp only[Rep] at px;subst px;cases (show ux=Es k from qx)
   obtain⟨b,ws,its,n,rfl,sq,t,rvi,ht,hl,_⟩:=vV I r p;cases (show vv=Cg b from rv)
   have hi:=uT hb t rvi;subst hi;refine Ks Ru ⟨_,ht,rfl⟩ PySem.F.entry_list_count (PySem.F.args_list_count_2 _ _) (PySem.SeqAt.list_countAt b (bs.map Es).toArray n none #[] (.bool k) (Su k)) ⟨ht,λy hy=>(cJ k hy).at _ _,?_⟩;refine⟨.int _,H,I.tok _,⟨_,rfl⟩,?_⟩;rw[show (bs.map Es).toArray.toList=bs.map Es from rfl,iJ]
   exact xr af r (by simp only[Rep])
def oC {k:Aq}:∀ {bs:Ab Aq} {j:Ai},dA k bs=Aa j→∃ h:j<bs.length,bs[j]=k∧∀ m (hm:m<bs.length),m<j→bs[m]≠k
 |[],j,h=>by cases h
 |b::r,j,h=>by
  unfold dA at h;by_cases hb:b=k
  ·rw[Bd hb] at h
   cases h;exact⟨by simp,by simpa using hb,λm hm z=>absurd z (Nat.not_lt_zero _)⟩
  ·rw[Be hb] at h
   obtain⟨i,hi,rfl⟩:=DL.mp h;obtain⟨h1,h2,h3⟩:=oC hi;refine⟨by simp;omega,by simpa using h2,λm hm hl=>?_⟩
   cases m with
   |zero=>simpa using hb
   |succ m=>simpa using h3 m (by simp at hm;omega) om
def K1:MtD X "list.index" nK:=by
 intro pins σ H s P α S v vv vs us a ds Q I r rv p rvs rps af;cases blV a ds with
 |no h=>exact(XO (X:=X) (r:=nK a ds S) (h _) af).elim
 |of xs k ea ed =>
  subst ea ed;have af:qQ X P α (match (w6 xs).bind (dA k) with|some j=>Res.ok (D.int j) S|none=>.bad) (OkV X P α Q):=af
  cases hj:(w6 xs).bind (dA k) with
  |none=>rw[hj] at af;exact Ap af
  |some j =>
   rw[hj] at af;obtain⟨bs,hb,hi⟩:=Dv.mp hj;obtain⟨vx,ux,rfl,rfl,px,qx⟩:=vP rps rvs;simp only[Rep] at px;subst px;cases (show ux=Es k from qx)
   obtain⟨b,ws,its,n,rfl,sq,t,rvi,ht,hl,hz⟩:=vV I r p;cases (show vv=Cg b from rv)
   have hi':=uT hb t rvi;subst hi';obtain⟨h1,h2,h3⟩:=oC hi;have hlen:bs.length≤sizeLine:=by
    have e1:=t.length;have e2:=rvi.length;rw[Ay] at e2;rw[xJ] at hz;omega
   refine Ks Rv ⟨_,ht,rfl⟩ PySem.F.entry_list_index (PySem.F.args_list_index_2 _ _) (ZB b (bs.map Es).toArray n (.bool k) (Su k) (λy hy=>cJ k hy) j (by simpa using h1) ?_ ?_ ?_) ⟨ht,?_⟩
   ·rw[Ep] at hlen;omega
   ·simp[Su,h2]
   ·intro m hm hl'
    have hm':m<bs.length:=by simpa using hm
    have:=h3 m hm' hl';simp[Su,this]
   ·exact⟨.int _,H,I.tok _,⟨_,rfl⟩,xr af r (by simp only[Rep])⟩
end
section
variable {X:Cx}{a b c e:Bx}{pos:Fa}{fa fe:DE}
def qAk (i:Ai)(g:G2)(fe:DE):DS:=λenv S=>match env[i]? with
 |some (Aa x)=>(fe env S).toS env λy S1=>(g x y S1).toS env λz S2=>.nx (env.set i (Aa z)) S2
 |_=>.bad
def qAg:G2:=i2 (λ_ _=>true) λi j=>.int (i+j)
def Q1 (i j k:Ai)(env:qF)(S1:Sto):Ab D→Out
 |[x,y,z]=>.nx (((env.set i (Aa x)).set j (Aa y)).set k (Aa z)) S1
 |_=>.bad
def qAh (i j k:Ai)(f:DA):DS:=λenv S=>(f env S).toS env λds S1=>Q1 i j k env S1 ds
def xA (xs:Ab D)(lo hi:Am Ak):Ab D:=(xs.drop (_H.sIx xs.length 0 lo)).take (_H.sIx xs.length xs.length hi-_H.sIx xs.length 0 lo)
abbrev DO:=qF→Sto→Res (Am Ak)
def OkO (X:Cx)(P:Hp)(α : Ab Af)(Q:Am Ak→Hp→Prop)(o:Am Ak)(S':Sto):Prop:=∀ H' P' α',Rel X.K H' P' α' S'→qK P P'→α<+:α'→Q o H'
def tDO (X:Cx)(f:DO):TO:=λσ H Q=>∃ P α env S,Rel X.K H P α S∧zP X.K P α σ env∧qQ X P α (f env S) (OkO X P α Q)
def qS:DO:=λ_ S=>.ok none S
def qN (f:DE):DO:=λenv S=>(f env S).bind λd S1=>match d with
 |.int i=>.ok (Aa i) S1
 |_=>.bad
def F7:PO X none (tDO X qS):=λpins s σ H Q I ⟨P,α,env,S,r,re,af⟩=>MR pins s σ H Q I (af H P α r (qK.refl _) (Bp _))
def F8 (he:PE X e (tD X fe)):PO X (Aa e) (tDO X (qN fe)):=by
 intro pins s σ H Q I h;obtain⟨P,α,env,S,r,re,af⟩:=h;refine MS (te:=tD X fe) he pins s σ H Q I ⟨P,α,env,S,r,re,?_⟩;have af':qQ X P α ((fe env S).bind λd S1=>match d with|.int i=>.ok (Aa i) S1|_=>.bad) (OkO X P α Q):=af
 cases q:fe env S with
 |bad=>rw[q] at af';exact af'
 |ex c x S'=>rw[q] at af';exact af'
 |ok d S1 =>
  rw[q] at af';intro v H1 P1 α1 r1 e1 e2 rp;cases d with
  |int i=>exact⟨i,wL rp,af' H1 P1 α1 r1 e1 e2⟩
  |_=>exact Ap af'
def qI.cut {K:Al}{P:Hp}{α:Ab Af}(r:qI K P α ds vs)(lo hi:Am Ak):qI K P α (xA ds lo hi) (bV vs lo hi):=by
 unfold xA bV;rw[r.length];exact(r.drop _).take _
def gSl (d:D)(lo hi:Am Ak)(S:Sto):Res D:=match d with
 |.lst xs=>.ok (.lst (xA xs lo hi)) S
 |.loc i=>match S[i]? with
  |some (.lst xs)=>.ok (.lst (xA xs lo hi)) S
  |_=>.bad
 |.tup xs=>.ok (.tup (xA xs lo hi)) S
 |_=>.bad
def dSl (fe:DE)(fl fh:DO):DE:=λenv S=>(fe env S).bind λd S1=>(fl env S1).bind λlo S2=>(fh env S2).bind λhi S3=>gSl d lo hi S3
end
end _D
namespace _D
open PySem PySem.Spec PyProof.Rows _L _H
section
variable {prog:Bg}{w:By}{A:Bv}{E:Ad→Ag→Prop}{s:Ag}
def bN {t sl:Af}{items:Bj Ad}{vl vu:Ad}{lo hi:Am Ak}{Q:Ad→Ag→Prop}(ht:Ml s.heap t items)(hs:s.heap.IsSliceOf sl vl vu .none)(pl:Pm vl lo)(pu:Pm vu hi)
  (hw:sIx items.size 0 lo=0∧sIx items.size items.size hi=items.size) (h:Q (.ref t) s):Ao (Au prog w) A (IN (.ref t) (.ref sl)) Q E s:=by
 obtain⟨ob,hob,hcb,_⟩:=id hs;have hTs:s.TypeIs (.ref sl) "slice":=⟨ob,hob,hcb⟩;unfold IN
 try with_reducible refine Dp ?_
 first|refine Ac (Aj ?_)|skip
 refine Ac (Lz ht.typeIs (by decide) ?_)
 refine Ac (Dq (name:=Fb "__getitem__") ht.typeIs Cs
  (Dx Cs ht.typeIs Kr ?_ (Lh _ _)))
 show Ao _ _ (HT (.ref t) >>= _) _ _ s;refine Ac (Py ht ?_);refine Ac (Je hTs ?_);rw[Bd (by decide)]
 refine Ac (gE hs pl pu ?_);show Ao _ _ (if (((sIx items.size 0 lo:Ai):Ak) == 0&&(1:Ak) == 1&&(sIx items.size items.size hi-sIx items.size 0 lo) == items.size)=true then _ else _) _ _ s
 rw[hw.1,hw.2,Bd (by simp)]
 unfold Zs;refine Ac (Ac (Je ht.typeIs (Aj ?_)));rw[Bd (by decide)]
 exact Ac (Ju (Aj ⟨_,rfl,Aj h⟩))
end
section
variable {X:Cx}{e:Bx}{fe:DE}{pos p2:Fa}
def qAF (X:Cx):V→Am Ak→Am Ak→Hp→VK→Prop:=λx lo hi H Q=>∃ P α S d,Rel X.K H P α S∧Rep X.K P α d x∧zH X P α (gSl d lo hi S) Q
def qAJ:SlR X (qAF X):=by
 intro pins s σ H x v vl vu lo hi sl Q I rx hs pl pu h;obtain⟨P,α,S,d,r,p,af⟩:=h;cases d with
 |lst xs =>
  simp only[Rep] at p;obtain⟨a,vs,rfl,q,t⟩:=p;exact QF pins s σ H _ v vl vu lo hi sl Q I rx hs pl pu ⟨a,vs,rfl,(wU r.sub q).l,λb hb=>vG r hb (qI.cut t lo hi) af⟩
 |loc i =>
  obtain⟨xs,hS,af⟩:=b7 (X:=X) (f:=λxs=>Res.ok (D.lst (xA xs lo hi)) S) af;simp only[Rep] at p;obtain⟨a,rfl,q⟩:=p;obtain⟨vs,z,t⟩:=r.at' i a _ q hS;exact QF pins s σ H _ v vl vu lo hi sl Q I rx hs pl pu ⟨a,vs,rfl,SqL.of z,λb hb=>vG r hb (qI.cut t lo hi) af⟩
 |tup xs =>
  have p0:=p;simp only[Rep] at p;obtain⟨a,vs,rfl,q,t⟩:=p;by_cases hw:sIx vs.length 0 lo=0∧sIx vs.length vs.length hi=vs.length
  ·cases rx
   obtain⟨its,rv,ht,hz⟩:=I.tuple (wW r.sub q);have hlen:its.toArray.size=vs.length:=by rw[Ax];exact rv.length.symm
   refine⟨"tuple",_,Cs.lookup,ht.typeIs,bN ht hs pl pu (by rw[hlen];exact hw) ⟨.ref a,H,I,rfl,xr af r ?_⟩⟩
   have e:xA xs lo hi=xs:=by
    unfold xA;rw[t.length,hw.1,hw.2,← t.length];simp
   rw[e];exact p0
  ·exact EY pins s σ H _ v vl vu lo hi sl Q I rx hs pl pu ⟨a,vs,rfl,wW r.sub q,hw,λb hb=>b9 r hb (qI.cut t lo hi) af⟩
 |_=>exact Ap af
def UT {lo hi:Am Bx}{fl fh:DO}(he:PE X e (tD X fe))(hl:PO X lo (tDO X fl))(hu:PO X hi (tDO X fh)):PE X (.Subscript e (.Slice lo hi none p2) pos) (tD X (dSl fe fl fh)):=
 peW (KE qAJ he hl hu) λσ H Q ⟨P,α,env,S,r,re,af⟩=>by
  refine⟨P,α,env,S,r,re,?_⟩;have af':qQ X P α ((fe env S).bind λd S1=>(fl env S1).bind λlo S2=>(fh env S2).bind λhi S3=>gSl d lo hi S3) (OkV X P α Q):=af;cases q:fe env S with
  |bad=>rw[q] at af';exact af'
  |ex c x S'=>rw[q] at af';exact af'
  |ok d S1 =>
   rw[q] at af';intro v H1 P1 α1 r1 e1 e2 rp;refine⟨P1,α1,env,S1,r1,re.mono e1 e2,?_⟩;have af2:qQ X P1 α1 ((fl env S1).bind λlo S2=>(fh env S2).bind λhi S3=>gSl d lo hi S3) (OkV X P1 α1 Q):=zH.base e1 e2 af';cases q2:fl env S1 with
   |bad=>rw[q2] at af2;exact af2
   |ex c x S'=>rw[q2] at af2;exact af2
   |ok l S2 =>
    rw[q2] at af2;intro H2 P2 α2 r2 e3 e4;refine⟨P2,α2,env,S2,r2,(re.mono e1 e2).mono e3 e4,?_⟩;have af3:qQ X P2 α2 ((fh env S2).bind λhi S3=>gSl d l hi S3) (OkV X P2 α2 Q):=zH.base e3 e4 af2;cases q3:fh env S2 with
    |bad=>rw[q3] at af3;exact af3
    |ex c x S'=>rw[q3] at af3;exact af3
    |ok u S3 =>
     rw[q3] at af3;intro H3 P3 α3 r3 e5 e6;exact⟨P3,α3,S3,d,r3,Rep.mono (e3.trans e5) (e4.trans e6) _ _ rp,zH.base e5 e6 af3⟩
end
end _D
namespace _D
open PySem PySem.Spec PyProof.Rows _L
variable {α:Ab Af}{N:Ab As}{its ds dsF:Ab D}{body:Ab Fd}{vs:Ab V}{Q:Ad→Ag→Prop}{C:Af}{Qa Qd:Ag→Prop}{m:Ai}{o':Am (Ai × MO)}{tp:Aq}{xs ys:Bj Ad}{h':Bk}{R:It→Hp→Prop}{S SF:Sto}{env envF:qF}
def zT (tp:Aq)(h:Bk)(it l:Af)(k:Ai):Prop:=if tp then h.IsTupleIter it l k else h.IsListIter it l k
def wX (tp:Aq)(h:Bk)(l:Af)(xs:Bj Ad):Prop:=if tp then h.IsTuple l xs else h.IsList l xs
def zT.keep {h:Bk}{it l:Af}{k:Ai}(x:zT tp h it l k)(q:∀ o,h.get? it=Aa o→h'.get? it=Aa o):zT tp h' it l k:=by
 cases tp <;> (obtain⟨o,e,r⟩:=x;exact⟨o,q o e,r⟩)
def wX.keep {h:Bk}{l:Af}(x:wX tp h l xs)(q:∀ o,h.get? l=Aa o→h'.get? l=Aa o):wX tp h' l xs:=by
 cases tp <;> (obtain⟨o,e,r⟩:=x;exact⟨o,q o e,r⟩)
def zT.there {h:Bk}{it l:Af}{k:Ai}(x:zT tp h it l k):∃ o,h.get? it=Aa o∧∀ v,o.data≠.cell v:=by
 cases tp <;> (obtain⟨o,e,_,d⟩:=x;exact⟨o,e,λv z=>by rw[d] at z;cases z⟩)
section
variable {prog:Bg}{w:By}{A:Bv}{E:Ad→Ag→Prop}{s:Ag}
def K6 {it t:Af}{i:Ai}{items:Bj Ad}{x:Ad}(hit:s.heap.IsTupleIter it t i)(ht:s.heap.IsTuple t items)(hx:items[i]? = Aa x)
  (hQ:∀ h',h'.IsTupleIter it t (i+1)→Eu it s.heap h'→Q x { s with heap:=h' }) : Ao (Au prog w) A (Dy (.ref it)) Q E s:=by
 obtain⟨o,e,c,d⟩:=id hit;obtain⟨u,eu,_,m,du⟩:=ht;unfold Dy;refine Ac (Dq (name:=Fb "__next__") hit.typeIs Ib (Dx Ib hit.typeIs Ot ?_ (Of _)));show Ao _ _ (field (.ref it) 0 >>= _) _ _ s;refine Ac (Dg e d (x:=.ref t) rfl ?_);show Ao _ _ (if (Cg t == Ff)=true then _ else _) _ _ s;rw[Be (show ¬ ((Cg t == Ff)=true) from Fy)]
 show Ao _ _ (field (.ref it) 1 >>= _) _ _ s;refine Ac (Dg e d (x:=.int i 0) rfl ?_);show Ao _ _ (dL (.ref t) >>= _) _ _ s;refine Ac (Ey eu du ?_);simp only[Fp,hx];refine Ac (Lx e d (by simp) (Aj ⟨x,rfl,Aj (hQ _ ⟨_,Ei _ e (Obj.isFreed_of_fields (Vs d _)),(Obj.cls_mapFields ..).trans c,?_⟩ (Gx ..))⟩))
 rw[Vs d];simp[Mo]
def aA {it t:Af}{i:Ai}{items:Bj Ad}{Q:Ad→Ag→Prop}(hh:A.handled=none)(hit:s.heap.IsTupleIter it t i)(ht:s.heap.IsTuple t items)(hx:items[i]? = none)
  (hE:∀ h' e,Heap.ExtBut it s.heap h'→(∃ o,h'.get? e=Aa o∧o.cls=.type "StopIteration")→E (.ref e) { s with heap:=h' }) : Ao (Au prog w) A (Dy (.ref it)) Q E s:=by
 obtain⟨o,e,c,d⟩:=id hit;obtain⟨u,eu,_,m,du⟩:=ht;unfold Dy;refine Ac (Dq (name:=Fb "__next__") hit.typeIs Ib (Dx Ib hit.typeIs Ot ?_ (Of _)));show Ao _ _ (field (.ref it) 0 >>= _) _ _ s;refine Ac (Dg e d (x:=.ref t) rfl ?_);show Ao _ _ (if (Cg t == Ff)=true then _ else _) _ _ s;rw[Be (show ¬ ((Cg t == Ff)=true) from Fy)]
 show Ao _ _ (field (.ref it) 1 >>= _) _ _ s;refine Ac (Dg e d (x:=.int i 0) rfl ?_);show Ao _ _ (dL (.ref t) >>= _) _ _ s;refine Ac (Ey eu du ?_);simp only[Fp,hx];refine Ac (Ju (Ac (Lx e d (by simp) ?_)))
 show Ao _ _ (newExc (.type "StopIteration") [] >>= _) _ _ _;refine Ac ?_;simp only[newExc,newTuple];refine Ac (Cy ?_ (by size_fits))
 refine Ac (m:=Ou _ _) (Ms (a:=Ff) (by first|rfl|(simp only[Ou];rfl)) (Cy ?_ (by size_fits)))
 simp only[raiseNew];refine Ac (wpAny_handled ?_)
 first|rw[show A.in1.handled=none from hh]|rw[hh]
 exact Ac (Aj (wpAny_throw (hE _ _ (((Gx ..).extBut.push _).push _) ⟨_,Ba _ rfl,rfl⟩)))
def b6 {it l:Af}{k:Ai}{x:Ad}(hit:zT tp s.heap it l k)(hl:wX tp s.heap l xs)(hx:xs[k]? = Aa x)
  (hQ:∀ h',zT tp h' it l (k+1)→Eu it s.heap h'→Q x { s with heap:=h' }) : Ao (Au prog w) A (Dy (.ref it)) Q E s:=by
 cases tp with
 |false=>exact wpAny_nextOf_list_item hit hl hx hQ
 |true=>exact K6 hit hl hx hQ
def gB {it l:Af}{k:Ai}{Q:Ad→Ag→Prop}(hh:A.handled=none)(hit:zT tp s.heap it l k)(hl:wX tp s.heap l xs)(hx:xs[k]? = none)
  (hE:∀ h' e,Heap.ExtBut it s.heap h'→(∃ o,h'.get? e=Aa o∧o.cls=.type "StopIteration")→E (.ref e) { s with heap:=h' }) : Ao (Au prog w) A (Dy (.ref it)) Q E s:=by
 cases tp with
 |false=>exact wpAny_nextOf_list_end hh hit hl hx hE
 |true=>exact aA hh hit hl hx hE
structure ZA (z I O i j:Af):Prop where
 Iz:I≠z
 Oz:O≠z
 iz:i≠z
 jz:j≠z
 IO:I≠O
 Ii:I≠i
 Ij:I≠j
 Oi:O≠i
 Oj:O≠j
 ij:i≠j
structure Off (z O i j a:Af):Prop where
 z:a≠z
 O:a≠O
 i:a≠i
 j:a≠j
abbrev U4 (z O i j:Af)(h h':Bk):Prop:=∀ c o,c≠z→c≠O→c≠i→c≠j→h.get? c=Aa o→h'.get? c=Aa o
def GO {tq:Aq}{z I O i j a b:Af}{k:Ai}{x y p q:Ad}(D:ZA z I O i j)(Da:Off z O i j a)(Db:Off z O i j b)
  (hz:Ov s.heap z I O .none) (hI:Ic s.heap I (.ref i) (.ref j)) (hO:Ic s.heap O p q) (h1:zT tp s.heap i a k) (h2:zT tq s.heap j b k) (ha:wX tp s.heap a xs) (hb:wX tq s.heap b ys) (hx:xs[k]? = Aa x) (hy:ys[k]? = Aa y)
  (hQ:∀ h',Ov h' z I O (Mo s.heap.objs.size)→Ic h' O x y→zT tp h' i a (k+1)→zT tq h' j b (k+1)→Ic h' s.heap.objs.size x y→h'.objs.size=s.heap.objs.size+1→U4 z O i j s.heap h'→Q (.ref s.heap.objs.size) { s with heap:=h' }) :
  Ao (Au prog w) A (Gq.«zip.__next__» ⟨[.ref z],[]⟩) (λfin s'=>∃ v,fin=.done (.ret v)∧Q v s') E s:=by
 show Ao _ _ (field (.ref z) 2 >>= _) _ _ _;refine Ac (Dg hz rfl (x:=.bool false) rfl ?_);show Ao _ _ (field (.ref z) 3 >>= _) _ _ _;refine Ac (Dg hz rfl (x:=.ref I) rfl (Ac (Ey hI rfl ?_)));show Ao _ _ (Eg (.ref z) >>= _) _ _ _;refine Ac ?_;unfold Eg;refine Ac (Dg hz rfl (x:=.none) rfl (Aj ?_));simp only[Dh];refine Ac (Ju (Ac (Dg hz rfl (x:=.ref O) rfl (Ac (Ev hz (by simp) λg1 z1 s1=>?_)))))
 replace z1:Ov g1 z I O .ellipsis:=z1
 refine Ac ?_;simp only[Xx,Yo,Kz,Lw];refine Ac (Ac (Qi ?_));show Ao _ _ (Dy (.ref i) >>= _) _ _ _;refine Ac (b6 (h1.keep λo e=>s1.extBut _ _ D.iz e) (ha.keep λo e=>s1.extBut _ _ Da.z e) hx λg2 i2 s2=>Aj ?_);have O2:Ic g2 O p q:=s2.extBut _ _ D.Oi (s1.extBut _ _ D.Oz hO);refine Ac (Ey O2 rfl (Ac (Nj O2 λg3 O3 s3=>Ac (Jv (Aj ?_)))))
 replace O3:Ic g3 O x q:=O3
 refine Ac (Ac (Qi ?_));show Ao _ _ (Dy (.ref j) >>= _) _ _ _;refine Ac (b6 (h2.keep λo e=>s3.extBut _ _ D.Oj.symm (s2.extBut _ _ D.ij.symm (s1.extBut _ _ D.jz e))) (hb.keep λo e=>s3.extBut _ _ Db.O (s2.extBut _ _ Db.i (s1.extBut _ _ Db.z e))) hy λg4 j4 s4=>Aj ?_);have O4:Ic g4 O x q:=s4.extBut _ _ D.Oj O3;refine Ac (Ey O4 rfl (Ac (Nj O4 λg5 O5 s5=>Ac (Jv (Aj (Aj ?_))))))
 replace O5:Ic g5 O x y:=O5
 refine Ac (Ey O5 rfl (Ac (T0 ?_)));have sz:g5.objs.size=s.heap.objs.size:=by rw[s5.1,s4.1,s3.1,s2.1,s1.1]
 have z5:Ov g5 z I O .ellipsis:=s5.extBut _ _ D.Oz.symm (s4.extBut _ _ D.jz.symm (s3.extBut _ _ D.Oz.symm (s2.extBut _ _ D.iz.symm z1)));have k5:U4 z O i j s.heap g5:=λc o c1 c2 c3 c4 e=>s5.extBut _ _ c2 (s4.extBut _ _ c4 (s3.extBut _ _ c2 (s2.extBut _ _ c3 (s1.extBut _ _ c1 e))));have i5:zT tp g5 i a (k+1):=i2.keep λo e=>s5.extBut _ _ D.Oi.symm (s4.extBut _ _ D.ij (s3.extBut _ _ D.Oi.symm e));have j5:zT tq g5 j b (k+1):=j4.keep λo e=>s5.extBut _ _ D.Oj.symm e;have zl:z<g5.objs.size:=AT z5;show Ao _ _ (Gg (.ref z) (.ref g5.objs.size) >>= _) _ _ _;refine Ac ?_;unfold Gg;have z6:Ov (g5.push { cls:=.type "tuple",data:=.seq #[x,y] }) z I O .ellipsis:=Ah _ z5;refine Ac (Ev z6 (by simp) λg7 z7 s7=>?_)
 replace z7:Ov g7 z I O (Mo g5.objs.size):=z7
 refine Ev z7 (by simp) λg8 z8 s8=>?_
 replace z8:Ov g8 z I O (Mo g5.objs.size):=z8
 have up:∀ c o,c≠z→g5.get? c=Aa o→g8.get? c=Aa o:=λc o c1 e=>s8.extBut _ _ c1 (s7.extBut _ _ c1 (Ah _ e));have T8:Ic g8 g5.objs.size x y:=s8.extBut _ _ (Gp zl) (s7.extBut _ _ (Gp zl) (Ba _ rfl));have sz8:g8.objs.size=g5.objs.size+1:=by rw[s8.1,s7.1,Dr]
 rw[sz] at z8 T8 sz8;refine Aj ⟨_,rfl,?_⟩;show Q (.ref g5.objs.size) _;rw[sz];exact hQ g8 z8 (up _ _ D.Oz O5) (i5.keep λo e=>up _ o D.iz e) (j5.keep λo e=>up _ o D.jz e) T8 sz8 λc o c1 c2 c3 c4 e=>up c o c1 (k5 c o c1 c2 c3 c4 e)
end
section
variable {prog:Bg}{w:By}{A:Bv}{E:Ad→Ag→Prop}{s:Ag}
def GP {tq:Aq}{z I O i j a b:Af}{k:Ai}{p q:Ad}{Q:Fin→Ag→Prop}(hh:A.handled=none)(D:ZA z I O i j)(Da:Off z O i j a)(Db:Off z O i j b)
  (hz:Ov s.heap z I O .none) (hI:Ic s.heap I (.ref i) (.ref j)) (hO:Ic s.heap O p q) (h1:zT tp s.heap i a k) (h2:zT tq s.heap j b k) (ha:wX tp s.heap a xs) (hb:wX tq s.heap b ys) (hend:xs[k]? = none∨ys[k]? = none)
  (hE:∀ h' e,U4 z O i j s.heap h'→(∃ o,h'.get? e=Aa o∧o.cls=.type "StopIteration")→E (.ref e) { s with heap:=h' }) : Ao (Au prog w) A (Gq.«zip.__next__» ⟨[.ref z],[]⟩) Q E s:=by
 show Ao _ _ (field (.ref z) 2 >>= _) _ _ _;refine Ac (Dg hz rfl (x:=.bool false) rfl ?_);show Ao _ _ (field (.ref z) 3 >>= _) _ _ _;refine Ac (Dg hz rfl (x:=.ref I) rfl (Ac (Ey hI rfl ?_)));show Ao _ _ (Eg (.ref z) >>= _) _ _ _;refine Ac ?_;unfold Eg;refine Ac (Dg hz rfl (x:=.none) rfl (Aj ?_));simp only[Dh];refine Ac (Ju (Ac (Dg hz rfl (x:=.ref O) rfl (Ac (Ev hz (by simp) λg1 z1 s1=>?_)))))
 replace z1:Ov g1 z I O .ellipsis:=z1
 refine Ac ?_;simp only[Xx,Yo,Kz,Lw];refine Ac (Ac (Qi ?_));show Ao _ _ (Dy (.ref i) >>= _) _ _ _;have it1:zT tp g1 i a k:=h1.keep λo e=>s1.extBut _ _ D.iz e;have sq1:wX tp g1 a xs:=ha.keep λo e=>s1.extBut _ _ Da.z e;cases hx:xs[k]? with
 |none =>
  refine Ac (gB hh it1 sq1 hx λg2 e x2 he=>?_);obtain⟨oe,h3,h4⟩:=he;have z2:Ov g2 z I O .ellipsis:=x2 _ _ D.iz.symm z1;have ne:e≠z:=λy=>by subst y;rw[z2] at h3;cases h3;simp at h4
  exact Ev z2 (by simp) λg3 _ s3=>hE g3 e (λc o c1 _ c3 _ y=>s3.extBut _ _ c1 (x2 _ _ c3 (s1.extBut _ _ c1 y))) ⟨oe,s3.extBut _ _ ne h3,h4⟩
 |some x =>
  have hy:ys[k]? = none:=by
   rcases hend with y|y
   ·rw[hx] at y;cases y
   ·exact y
  refine Ac (b6 it1 sq1 hx λg2 i2 s2=>Aj ?_);have O2:Ic g2 O p q:=s2.extBut _ _ D.Oi (s1.extBut _ _ D.Oz hO);refine Ac (Ey O2 rfl (Ac (Nj O2 λg3 O3 s3=>Ac (Jv (Aj ?_)))));refine Ac (Ac (Qi ?_));show Ao _ _ (Dy (.ref j) >>= _) _ _ _;refine Ac (gB hh (h2.keep λo e=>s3.extBut _ _ D.Oj.symm (s2.extBut _ _ D.ij.symm (s1.extBut _ _ D.jz e))) (hb.keep λo e=>s3.extBut _ _ Db.O (s2.extBut _ _ Db.i (s1.extBut _ _ Db.z e))) hy λg4 e x4 he=>?_);obtain⟨oe,h3,h4⟩:=he;have z4:Ov g4 z I O .ellipsis:=x4 _ _ D.jz.symm (s3.extBut _ _ D.Oz.symm (s2.extBut _ _ D.iz.symm z1));have ne:e≠z:=λy=>by subst y;rw[z4] at h3;cases h3;simp at h4
  exact Ev z4 (by simp) λg5 _ s5=>hE g5 e (λc o c1 c2 c3 c4 y=>s5.extBut _ _ c1 (x4 _ _ c4 (s3.extBut _ _ c2 (s2.extBut _ _ c3 (s1.extBut _ _ c1 y))))) ⟨oe,s5.extBut _ _ ne h3,h4⟩
abbrev jS (tp:Aq)(l:Af):Cr:={ cls:=.type (if tp then "tuple_iterator" else "list_iterator"),data:=.fields #[.ref l,.int 0 0] }
abbrev zh1 (tp:Aq)(h:Bk)(a:Af):Bk:=h.push (jS tp a)
abbrev zh2 (tp tq:Aq)(h:Bk)(a b:Af):Bk:=(zh1 tp h a).push (jS tq b)
abbrev zh3 (tp tq:Aq)(h:Bk)(a b:Af):Bk:=(zh2 tp tq h a b).push { cls:=.type "tuple",data:=.seq #[.ref h.objs.size,.ref (zh1 tp h a).objs.size] }
abbrev zh4 (tp tq:Aq)(h:Bk)(a b:Af):Bk:=(zh3 tp tq h a b).push { cls:=.type "tuple",data:=.seq #[.none,.none] }
abbrev zh5 (tp tq:Aq)(h:Bk)(a b:Af):Bk:=(zh4 tp tq h a b).push { cls:=.type "zip",data:=.fields #[.none,.bool false,.bool false,.ref (zh2 tp tq h a b).objs.size,.ref (zh3 tp tq h a b).objs.size] }
set_option maxHeartbeats 4000000 in
def NN (tp:Aq)(a b:Af)(xs ys:Bj Ad) :
  Meets (Gq.«zip.__new__» ⟨[.type "zip",.ref a,.ref b],[]⟩) (λ_ R s=>wX tp s.heap a xs∧wX tp s.heap b ys∧R (.ok (.ret (.ref (zh4 tp tp s.heap a b).objs.size))) { s with heap:=zh5 tp tp s.heap a b }):=
 .of_wp λprog w A R s h=>by
  obtain⟨hp,g,d,tk,os⟩:=s;obtain⟨q1,q2,h⟩:=h;have hsub:=sub_zip;have e2:∀ ob:Cr,wX tp (hp.push ob) b ys:=λob=>q2.keep λo e=>Ah _ e;cases tp
  ·have l1:Xy (Mv ⟨hp,g,d,tk,os⟩) a xs:=q1
   have l2:Xy (Mv ⟨hp.push { cls:=.type "list_iterator",data:=.fields #[.ref a,.int 0 0] },g,d,tk,os⟩) b ys:=e2 _
   wp_walk using Fs l1,Fs l2
   exact⟨_,rfl,h⟩
  ·have l1:Wh (Mv ⟨hp,g,d,tk,os⟩) a xs:=q1
   have l2:Wh (Mv ⟨hp.push { cls:=.type "tuple_iterator",data:=.fields #[.ref a,.int 0 0] },g,d,tk,os⟩) b ys:=e2 _
   wp_walk using Gj l1,Gj l2
   exact⟨_,rfl,h⟩
def b0 {h:Bk}{it l:Af}(e:h.get? it=Aa (jS tp l)):zT tp h it l 0:=by
 cases tp
 ·exact⟨_,e,rfl,rfl⟩
 ·exact⟨_,e,rfl,rfl⟩
def UD {a b:Af}(ha:wX tp s.heap a xs)(hb:wX tp s.heap b ys)
  (h:∀ h',Ov h' (s.heap.objs.size+4) (s.heap.objs.size+2) (s.heap.objs.size+3) .none→Ic h' (s.heap.objs.size+2) (.ref s.heap.objs.size) (.ref (s.heap.objs.size+1)) →
   Ic h' (s.heap.objs.size+3) .none .none→zT tp h' s.heap.objs.size a 0→zT tp h' (s.heap.objs.size+1) b 0→h'.objs.size=s.heap.objs.size+5→(∀ c o,s.heap.get? c=Aa o→h'.get? c=Aa o)→Q (.ref (s.heap.objs.size+4)) { s with heap:=h' }) :
  Ao (Au prog w) A (call (.type "zip") [.ref a,.ref b]) Q E s:=by
 refine callType_new F.called_zip (by decide) (F.typeCall_zip_2 _ _) (F.newCall_zip_2 _ _) (λobj=>F.args_object_init_3 obj _ _) F.entry_zip_new (NN tp a b xs ys) ⟨ha,hb,?_⟩
 have y1:(zh1 tp s.heap a).objs.size=s.heap.objs.size+1:=Dr ..;have y2:(zh2 tp tp s.heap a b).objs.size=s.heap.objs.size+2:=by rw[Dr,y1]
 have y3:(zh3 tp tp s.heap a b).objs.size=s.heap.objs.size+3:=by rw[Dr,y2]
 have y4:(zh4 tp tp s.heap a b).objs.size=s.heap.objs.size+4:=by rw[Dr,y3]
 have y5:(zh5 tp tp s.heap a b).objs.size=s.heap.objs.size+5:=by rw[Dr,y4]
 have g5:(zh5 tp tp s.heap a b).get? (zh4 tp tp s.heap a b).objs.size=Aa _:=Ba _ rfl;have g4:(zh5 tp tp s.heap a b).get? (zh3 tp tp s.heap a b).objs.size=Aa _:=Ah _ (Ba _ rfl);have g3:(zh5 tp tp s.heap a b).get? (zh2 tp tp s.heap a b).objs.size=Aa _:=Ah _ (Ah _ (Ba _ rfl));have g2:(zh5 tp tp s.heap a b).get? (zh1 tp s.heap a).objs.size=Aa (jS tp b):=Ah _ (Ah _ (Ah _ (Ba _ rfl)));have g1:(zh5 tp tp s.heap a b).get? s.heap.objs.size=Aa (jS tp a):=Ah _ (Ah _ (Ah _ (Ah _ (Ba _ rfl))));have kp:∀ c o,s.heap.get? c=Aa o→(zh5 tp tp s.heap a b).get? c=Aa o:=λc o e=>Ah _ (Ah _ (Ah _ (Ah _ (Ah _ e))));show _∧_;rw[y2,y3,y4] at g5;rw[y1,y2] at g3;rw[y3] at g4;rw[y1] at g2;rw[y4];exact⟨⟨_,g5,rfl⟩,h _ g5 g3 g4 (b0 g1) (b0 g2) y5 kp⟩
end
def Sq (tp:Aq)(K:Al)(H:Hp)(a:Af)(xs:Ab V):Prop:=if tp then SqT K H a xs else SqL K H a xs
section
variable {X:Cx}{pins:Ab (Af × Cr)}{σ : _L.St}{H:Hp}{s:Ag}
def Sq.at {a:Af}{xs:Ab V}(I:Inv X pins σ H s)(q:Sq tp X.K H a xs):∃ its,qT xs its∧wX tp s.heap a its.toArray:=by
 cases tp with
 |true =>
  obtain⟨its,rv,p,_⟩:=I.tuple q;exact⟨its,rv,p⟩
 |false =>
  obtain⟨its,rv,p,_⟩:=I.list q;exact⟨its,rv,p.isList⟩
def Sq.inj {a:Af}{xs ys:Ab V}(I:Inv X pins σ H s)(q:Sq tp X.K H a xs)(q':Sq tp X.K H a ys):xs=ys:=by
 cases tp with
 |true=>exact I.tuple_inj q q'
 |false=>exact I.list_inj q q'
def Sq.off {a b:Af}{xs:Ab V}(I:Inv X pins σ H s)(q:Sq tp X.K H a xs)(f:wM X pins H b):a≠b:=by
 have key:H a≠none∨∃ o,X.K.lookup a=Aa o:=by
  cases tp with
  |true =>
   rcases q with (q|⟨o,q⟩)|⟨o,_,_,q,_⟩
   ·exact .inl (by rw[q];intro z;cases z)
   ·exact .inl (by rw[q];intro z;cases z)
   ·exact .inr ⟨_,q⟩
  |false =>
   rcases q with (q|⟨o,q⟩)|⟨o,_,_,q,_⟩
   ·exact .inl (by rw[q];intro z;cases z)
   ·exact .inl (by rw[q];intro z;cases z)
   ·exact .inr ⟨_,q⟩
 rintro rfl;rcases key with k|⟨o,k⟩
 ·exact k f.1
 ·have e:=I.mod.kin a o k
  rcases f.2.2.2.1 with z|z
  ·exact I.ok.noex a o e z
  ·exact absurd (AT (I.ok.bs a o e).1) (Ja.mpr z)
def Inv.turnLay {fp:Ab Af}{T:Af}{xs:Ab V}{its:Ab Ad}(I:Inv X pins σ H s)(hf:∀ b∈fp,wM X pins H b)(k:∀ b o,b ∉ fp→s.heap.get? b=Aa o→h'.get? b=Aa o)(th:∀ b∈fp,∃ o,h'.get? b=Aa o)
  (hT:s.heap.objs.size≤T) (rv:qT xs its) (hx:Ml h' T its.toArray) (hz:xs.length≤sizeLine):Inv X pins σ (upd H T (.tup xs)) { s with heap:=h' }:=by
 have hn:H T=none:=I.hok.fresh hT;have ne:∀ b o,s.heap.get? b=Aa o→b≠T:=λb o e=>Co (Bn (AT e) hT);refine I.step (g':=s.gens) (d':=s.drawn) (t':=s.toks) (ch:=fp) (λb hb=>⟨(hf b hb).2.2.2.1,(hf b hb).2.1,(hf b hb).2.2.2.2.1,(hf b hb).2.2.2.2.2⟩) (λb o _ _ hc e _=>k b o hc e) (λb o _ _ hc e _=>⟨o.slots,k b o hc e⟩)
  (λb o _ e n=>by rw[qV (ne b o e)];exact n) (λb o hc e=>⟨o,k b o hc e⟩) (λb ys e=>by rw[qV (zQ e hn)];exact e) (λb o u e=>by rw[qV (zQ e hn)];exact e)
  (λb ps e=>⟨#[],by rw[qV (zQ e hn),e];simp⟩) (λm hm=>?_) (λb u e=>?_) I.bare
 ·obtain⟨o,es,ep,ho,r⟩:=hm
  exact⟨o,es,ep,k _ o (λz=>(hf _ z).2.1 rfl) ho,r⟩
 ·by_cases hb:b=T
  ·subst hb
   rw[zM] at e;cases e;exact⟨hz,its,rv,hx⟩
  ·rw[qV hb] at e
   refine(I.hok b u e).stay (λc v hc q=>k c v (λz=>?_) q) (λc q=>by rw[qV (zQ q hn)];exact q) λc ys q=>by rw[qV (zQ q hn)];exact q
   have hcn:=(hf c z).1;rcases hc with rfl|hc
   ·rw[hcn] at e;cases e
   ·rw[hcn] at hc;cases hc
def Inv.turnL {fp:Ab Af}(I:Inv X pins σ H s)(hf:∀ b∈fp,wM X pins H b)(k:∀ b o,b ∉ fp→s.heap.get? b=Aa o→h'.get? b=Aa o):Inv X pins σ H { s with heap:=h' }:=by
 refine I.step (g':=s.gens) (d':=s.drawn) (t':=s.toks) (ch:=fp) (λb hb=>⟨(hf b hb).2.2.2.1,(hf b hb).2.1,(hf b hb).2.2.2.2.1,(hf b hb).2.2.2.2.2⟩) (λb o _ _ hc e _=>k b o hc e) (λb o _ _ hc e _=>⟨o.slots,k b o hc e⟩)
  (λb o _ e n=>n) (λb o hc e=>⟨o,k b o hc e⟩) (λb ys e=>e) (λb o u e=>e) (λb ps e=>⟨#[],by rw[e];simp⟩) (λm hm=>?_) (λb u e=>?_) I.bare
 ·obtain⟨o,es,ep,ho,r⟩:=hm
  exact⟨o,es,ep,k _ o (λz=>(hf _ z).2.1 rfl) ho,r⟩
 ·refine(I.hok b u e).stay (λc v hc q=>k c v (λz=>?_) q) (λc q=>q) λc ys q=>q
  have hcn:=(hf c z).1;rcases hc with rfl|hc
  ·rw[hcn] at e;cases e
  ·rw[hcn] at hc;cases hc
end
def Itz (tp:Aq)(K:Al)(a b:Af):It:=
  ⟨λi H=>∃ xs ys x y,Sq tp K H a xs∧Sq tp K H b ys∧xs[i]? = Aa x∧ys[i]? = Aa y,
   λi H v H'=>∃ T x y,v=.ref T∧H T=none∧H'=upd H T (.tup [x,y])∧(∀ xs,Sq tp K H a xs→xs[i]? = Aa x)∧∀ ys,Sq tp K H b ys→ys[i]? = Aa y,
   λi H=>∃ xs ys,Sq tp K H a xs∧Sq tp K H b ys∧(xs.length≤i∨ys.length≤i)⟩
def QY (tp:Aq)(z I O i j a b:Af)(k:Ai)(h:Bk):Prop:=∃ p q,Ov h z I O .none∧Ic h I (.ref i) (.ref j)∧Ic h O p q∧zT tp h i a k∧zT tp h j b k
def fZ {z I O i j a b:Af}{k:Ai}{h:Bk}(st:QY tp z I O i j a b k h):∀ c∈[z,I,O,i,j],∃ o,h.get? c=Aa o∧∀ v,o.data≠.cell v:=λc hc=>by
 obtain⟨p,q,s1,s2,s3,s4,s5⟩:=st;simp only[Av,Cj,Ez] at hc;rcases hc with rfl|rfl|rfl|rfl|rfl
 ·exact⟨_,s1,λv y=>by cases y⟩
 ·exact⟨_,s2,λv y=>by cases y⟩
 ·exact⟨_,s3,λv y=>by cases y⟩
 ·exact s4.there
 ·exact s5.there
def PQ {c z I O i j:Af}(h:c ∉ [z,I,O,i,j]):c≠z∧c≠O∧c≠i∧c≠j:=by
 simp only[Av,Cj,Ez,Rj] at h;exact⟨h.1,h.2.2.1,h.2.2.2.1,h.2.2.2.2⟩
def GG {P:Bg}{w:By}{K:Al}{elts:Ab Bx}{x1:Ai}{tpos:Fa}{z I O i j a b:Af}(D:ZA z I O i j):Turn P w K (.Tuple elts x1 tpos) (Itz tp K a b) [z,I,O,i,j] z (QY tp z I O i j a b) where
 mem:=.head _
 obj:=λk h st=>fZ st
 keep:=λk h h' st kp=>by
  obtain⟨p,q,s1,s2,s3,s4,s5⟩:=st;exact⟨p,q,kp z (.head _) _ s1,kp I (.tail _ (.head _)) _ s2,kp O (.tail _ (.tail _ (.head _))) _ s3,s4.keep λo e=>kp i (.tail _ (.tail _ (.tail _ (.head _)))) o e,s5.keep λo e=>kp j (.tail _ (.tail _ (.tail _ (.tail _ (.head _))))) o e⟩
 item:=by
  intro X hP hw hK hc k pins s σ H E Iv hf st hg;subst hP hw hK;obtain⟨p,q,s1,s2,s3,s4,s5⟩:=st;obtain⟨xs,ys,x,y,qa,qb,hx,hy⟩:=hg;obtain⟨ia,ra,ha⟩:=qa.at Iv;obtain⟨ib,rb,hb⟩:=qb.at Iv;obtain⟨u,hu,ru⟩:=ra.get hx;obtain⟨u',hu',ru'⟩:=rb.get hy;have off:∀ {c:Af} {zs:Ab V},Sq tp X.K H c zs→Off z O i j c:=λ{c zs} qc=>⟨qc.off Iv (hf z (.head _)),qc.off Iv (hf O (.tail _ (.tail _ (.head _)))),qc.off Iv (hf i (.tail _ (.tail _ (.tail _ (.head _))))),qc.off Iv (hf j (.tail _ (.tail _ (.tail _ (.tail _ (.head _))))))⟩;have hT:s.TypeIs (.ref z) "zip":=⟨_,s1,rfl⟩;unfold Lr;refine Ac (Io (Dq (name:=Fb "__next__") hT Np (Dx Np hT Xz
   (GO D (off qa) (off qb) s1 s2 s3 s4 s5 ha hb (by simpa using hu) (by simpa using hu') λh' a1 a2 a3 a4 a5 a6 a7=>Aj ?_) (WF _))))
  refine⟨_,rfl,wpAny_letOwnedTupleGo_zip (s:={ s with heap:=h' }) a1 λh2 b1 b2=>?_⟩
  have up:∀ c o,c≠z→h'.get? c=Aa o→h2.get? c=Aa o:=λc o n e=>(b2.2 c n).trans e;have zl:z<s.heap.objs.size:=AT s1;have T2:Ic h2 s.heap.objs.size u u':=up _ _ (Gp zl) a5;have st2:QY tp z I O i j a b (k+1) h2:=⟨u,u',b1,up _ _ D.Iz (a7 I _ D.Iz D.IO D.Ii D.Ij s2),up _ _ D.Oz a2,a3.keep λo e=>up _ o D.iz e,a4.keep λo e=>up _ o D.jz e⟩;refine⟨.ref s.heap.objs.size,upd H s.heap.objs.size (.tup [x,y]),?_,rfl,⟨_,x,y,rfl,Iv.hok.fresh (Aw _),rfl,λzs qz=>by rw[qz.inj Iv qa];exact hx,λzs qz=>by rw[qz.inj Iv qb];exact hy⟩,st2,λc hc=>?_⟩
  ·show _L.Inv X pins σ (upd H s.heap.objs.size (.tup [x,y])) { s with heap:=h2 }
   refine Inv.turnLay (fp:=[z,I,O,i,j]) (its:=[u,u']) Iv hf (λc o hc e=>?_) (λc hc=>?_) (Aw _) (.cons ru (.cons ru' .nil)) ⟨_,T2,rfl,_,rfl⟩ (by show 2≤sizeLine;decide)
   ·have hc:=PQ hc
    exact up c o hc.1 (a7 c o hc.1 hc.2.1 hc.2.2.1 hc.2.2.2 e)
   ·obtain⟨o,e,_⟩:=fZ st2 c hc
    exact⟨o,e⟩
  ·have hn:=(hf c hc).1
   rw[qV ?_]
   ·exact hn
   ·rintro rfl
    obtain⟨o,e,_⟩:=fZ ⟨p,q,s1,s2,s3,s4,s5⟩ _ hc;exact absurd (AT e) (Ef _)
 done:=by
  intro X hP hw hK hc k pins s σ H E Iv hf st hg;subst hP hw hK;obtain⟨p,q,s1,s2,s3,s4,s5⟩:=st;obtain⟨xs,ys,qa,qb,hend⟩:=hg;obtain⟨ia,ra,ha⟩:=qa.at Iv;obtain⟨ib,rb,hb⟩:=qb.at Iv;have off:∀ {c:Af} {zs:Ab V},Sq tp X.K H c zs→Off z O i j c:=λ{c zs} qc=>⟨qc.off Iv (hf z (.head _)),qc.off Iv (hf O (.tail _ (.tail _ (.head _)))),qc.off Iv (hf i (.tail _ (.tail _ (.tail _ (.head _))))),qc.off Iv (hf j (.tail _ (.tail _ (.tail _ (.tail _ (.head _))))))⟩;have hT:s.TypeIs (.ref z) "zip":=⟨_,s1,rfl⟩;have l1:=ra.length;have l2:=rb.length;unfold Lr;refine Ac (Io (Dq (name:=Fb "__next__") hT Np (Dx Np hT Xz
   (GP (Iv.ok.hd hc) D (off qa) (off qb) s1 s2 s3 s4 s5 ha hb ?_ λh' e kp he=>?_) (WF _))))
  ·rcases hend with y|y
   ·exact .inl (by simp;omega)
   ·exact .inr (by simp;omega)
  ·obtain⟨o,ho,hcl⟩:=he
   refine Ac (Mw (T:="StopIteration") (b:=true) ⟨o,ho,hcl⟩ TD (Aj ⟨rfl,Inv.turnL (fp:=[z,I,O,i,j]) Iv hf λc o hc e=>?_⟩));have hc:=PQ hc;exact kp c o hc.1 hc.2.1 hc.2.2.1 hc.2.2.2 e
 self:=λ_ _ _ _ _ st h=>by
  obtain⟨p,q,s1,_⟩:=st;exact XV s1 h
def yU (xs ys:Ab D):Ab D:=List.zipWith (λx y=>D.tup [x,y]) xs ys
def XM (ds:Ab D):Am (Ab D):=match ds with
 |[.tup xs,.tup ys]=>Aa (yU xs ys)
 |[.lst xs,.lst ys]=>Aa (yU xs ys)
 |_=>none
def bY (f:DA):DI:=λenv S=>(f env S).bind λds S1=>uD (XM ds) S1
def GN {xs ys:Ab D}{i:Ai}:(yU xs ys)[i]? = match xs[i]?,ys[i]? with|some x,Aa y=>Aa (D.tup [x,y])|_,_=>none:=by
 unfold yU;rw[List.getElem?_zipWith];cases xs[i]? <;> cases ys[i]? <;> rfl
def n6 (xs ys:Ab D):(yU xs ys).length=min xs.length ys.length:=by simp[yU]
section
variable {K:Al}
def Sq.mono {P P':Hp}(e:qK P P'){a:Af}{xs:Ab V}(q:Sq tp K P a xs):Sq tp K P' a xs:=by
 cases tp with
 |true=>exact jN e q
 |false=>exact e.seq q
def FV {P:Hp}{a b:Af}{xs ys:Ab D}{ws:Ab V}(qa:Sq tp K P a vs)(qb:Sq tp K P b ws)(ta:qI K P α xs vs)(tb:qI K P α ys ws):ItD K (Itz tp K a b) P α (yU xs ys) where
 go:=λi H P1 α1 S hi r e _=>by
  rw[n6] at hi;have h1:i<vs.length:=by rw[← ta.length];omega
  have h2:i<ws.length:=by rw[← tb.length];omega
  exact⟨vs,ws,vs[i],ws[i],qa.mono (e.trans r.sub),qb.mono (e.trans r.sub),by simp,by simp⟩
 yld:=λi H x H' P1 α1 S hi r e e2 y=>by
  obtain⟨T,u,w,rfl,hT,rfl,hu,hw⟩:=y;rw[n6] at hi;have h1:i<xs.length:=by omega
  have h2:i<ys.length:=by omega
  obtain⟨v1,z1,p1⟩:=ta.get (An h1);obtain⟨v2,z2,p2⟩:=tb.get (An h2);have eu:=hu vs (qa.mono (e.trans r.sub));have ew:=hw ws (qb.mono (e.trans r.sub));rw[z1] at eu;cases eu;rw[z2] at ew;cases ew;obtain⟨r1,s1⟩:=r.pure (o:=.tup [u,w]) hT;refine⟨_,.tup [xs[i],ys[i]],?_,r1,s1,?_⟩
  ·rw[GN,An h1,An h2]
  ·exact dU (.of zM) (.cons (Rep.mono (e.trans s1) e2 _ _ p1) (.cons (Rep.mono (e.trans s1) e2 _ _ p2) .nil))
 stop:=λi H P1 α1 S hi r e _=>by
  rw[n6] at hi;have l1:=ta.length;have l2:=tb.length;exact⟨vs,ws,qa.mono (e.trans r.sub),qb.mono (e.trans r.sub),by omega⟩
end
section
variable {X:Cx}{e1 e2:Bx}{elts:Ab Bx}{x1:Ai}{tpos:Fa}{f:DA}{p pos:Fa}
def U1 {pins:Ab (Af × Cr)}{σ:_L.St}{H P:Hp}{s:Ag}{a b:Af}{xs ys:Ab D}{ws:Ab V}(I:Inv X pins σ H s)(r:Rel X.K H P α S)(qa:Sq tp X.K P a vs)(qb:Sq tp X.K P b ws)(ta:qI X.K P α xs vs)(tb:qI X.K P α ys ws)
  (q:OkI X P α R (yU xs ys) S):Ao (Au X.prog X.w) X.A (call (.type "zip") [.ref a,.ref b]) (λv s1=>Ao (Au X.prog X.w) X.A (Ny v) (PIE X pins σ (.Tuple elts x1 tpos) R) X.xe s1) X.xe s:=by
 obtain⟨ia,ra,ha⟩:=(qa.mono r.sub).at I;obtain⟨ib,rb,hb⟩:=(qb.mono r.sub).at I;refine UD ha hb λh' z1 z2 z3 z4 z5 z6 z7=>?_;refine XV (s:={ s with heap:=h' }) z1 ?_
 have D:ZA (s.heap.objs.size+4) (s.heap.objs.size+2) (s.heap.objs.size+3) s.heap.objs.size (s.heap.objs.size+1):=by constructor <;> (intro z;simp at z)
 refine⟨_,[s.heap.objs.size+4,s.heap.objs.size+2,s.heap.objs.size+3,s.heap.objs.size,s.heap.objs.size+1],_,_,H,rfl,I.kept (t':=s.toks) z7,GG (a:=a) (b:=b) D,⟨_,_,z1,z2,z3,z4,z5⟩,λc hc=>?_,q _ _ P α r (qK.refl _) (Bp _) (FV qa qb ta tb)⟩;have hl:s.heap.objs.size≤c:=by
  simp only[Av,Cj,Ez] at hc;rcases hc with rfl|rfl|rfl|rfl|rfl <;> simp
 exact I.fpOk hl (I.hok.fresh hl)
inductive ZipV (ds:Ab D)(its:Ab D):Prop
 |tup (xs ys:Ab D) (ed:ds=[.tup xs,.tup ys]) (e:its=yU xs ys)
 |lst (xs ys:Ab D) (ed:ds=[.lst xs,.lst ys]) (e:its=yU xs ys)
def NM (h:XM ds=Aa its):ZipV ds its:=by
 cases ds with
 |nil=>exact nn h
 |cons a ds =>
  cases a with
  |tup xs =>
   cases ds with
   |nil=>exact nn h
   |cons b ds =>
    cases b with
    |tup ys =>
     cases ds with
     |nil=>exact .tup xs ys rfl (Ct h).symm
     |cons _ _=>exact nn h
    |_=>exact nn h
  |lst xs =>
   cases ds with
   |nil=>exact nn h
   |cons b ds =>
    cases b with
    |lst ys =>
     cases ds with
     |nil=>exact .lst xs ys rfl (Ct h).symm
     |cons _ _=>exact nn h
    |_=>exact nn h
  |_=>exact nn h
def LY (hg:Gl X "zip")(hm:X.mg "zip" = none)(ha:PA X [e1,e2] (tDA X f))(hs:Bh [e1,e2] X.env=(false,eval e1 X.env)::Bh [e2] X.env:=by rfl)(hpl:(Gf pos (Bh [e2] X.env)).any (·.1)=false:=by rfl) :
  PI X (.Tuple elts x1 tpos) (.Call (.Name "zip" p) [e1,e2] [] pos) (tDI X (bY f)):=by
 intro pins s σ H R I h;obtain⟨P,α,env,S,r,re,af⟩:=h;refine Call_ (uX I hg hm boot_zip (Gr (thn (v8 ha I r re af pos) λus s1 ⟨vs,H1,P1,α1,ds,S1,I1,rv,r1,re1,rp,e1,e2,af1⟩=>?_) hs hpl));obtain⟨its,hi,q⟩:=jK af1;cases NM hi with
 |tup xs ys ed e =>
  subst ed e;obtain⟨v,w,u,x,rfl,rfl,p1,p2,q1,q2⟩:=mM rp rv;simp only[Rep] at p1 p2;obtain⟨a,va,rfl,qa,ta⟩:=p1;obtain⟨b,vb,rfl,qb,tb⟩:=p2;cases (show u=Cg a from q1)
  cases (show x=Cg b from q2)
  exact U1 (tp:=true) I1 r1 qa qb ta tb (q.base e1 e2)
 |lst xs ys ed e =>
  subst ed e;obtain⟨v,w,u,x,rfl,rfl,p1,p2,q1,q2⟩:=mM rp rv;simp only[Rep] at p1 p2;obtain⟨a,va,rfl,qa,ta⟩:=p1;obtain⟨b,vb,rfl,qb,tb⟩:=p2;cases (show u=Cg a from q1)
  cases (show x=Cg b from q2)
  exact U1 (tp:=false) I1 r1 qa.l qb.l ta tb (q.base e1 e2)
end
def Src (K:Al)(mg:As→Am Ad)(x:As)(st:Fd)(ps:Ab As):Prop:=∃ f fd,mg x=Aa (.ref f)∧Fun K x x st f fd∧kF K fd ps []
def Lk (K:Al)(f:Af)(fd:Fw):Prop:=∃ oc od osl,K.lookup f=Aa ⟨oc,od,.func fd,osl⟩
def eI {K:Al}{x q:As}{st:Fd}{f:Af}{fd:Fw}(F:Fun K x q st f fd):Lk K f fd:=by
 obtain⟨oc,od,kV,doc,pm,an,cdv,ct,osl,_,lk,_⟩:=F.ex;exact⟨oc,od,osl,lk⟩
def Lk.one {K:Al}{f:Af}{fd fd':Fw}(h:Lk K f fd)(h':Lk K f fd'):fd=fd':=by
 obtain⟨oc,od,osl,e⟩:=h;obtain⟨oc',od',osl',e'⟩:=h';rw[e] at e';cases e';rfl
def Def (P:Bg)(w:By)(K:Al)(mg:As→Am Ad)(base:Bk)(cm:Aq)(k:Ai)(x:As)(n:Ai)(F:DF):Prop:=
 ∃ f fd ps,ps.length=n∧mg x=Aa (.ref f)∧Ex K (.ref f)=true∧kF K fd ps [] ∧ Lk K f fd∧FnX P w K mg base cm k f fd ps (spD K n F)
def eU (P:Bg)(w:By)(K:Al)(mg:As→Am Ad)(base:Bk)(cm:Aq)(k:Ai)(x:As)(ps:Ab As)(F:DF):Prop:=
 ∃ f fd,mg x=Aa (.ref f)∧Ex K (.ref f)=true∧kF K fd ps [] ∧ Lk K f fd∧FnX P w K mg base cm k f fd ps (spD K ps.length F)
section
variable {P:Bg}{w:By}{K:Al}{mg:As→Am Ad}{base:Bk}{cm:Aq}
def LU {x:As}{st:Fd}{ps:Ab As}{k:Ai}{g:DS}(h:Src K mg x st ps)(S:FnScope N ps (qR st))
  (hbody:∀ (f:Af) (cdv:Ad) (A:Bv) (outer:Ab Jt) (s:Ag) (H:Hp) (E:XK),RoomC cm k (A.deeper (Gm x (qR st) s.heap.objs.size f cdv)) →
   PSs (cxC cm P w K mg base N x (qR st) f cdv A outer s H E) (xH st) (tDS (cxC cm P w K mg base N x (qR st) f cdv A outer s H E) g)):Def P w K mg base cm (k+1) x ps.length (z9 N.length g):=by
 obtain⟨f,fd,hm,F,hb⟩:=h;exact⟨f,fd,ps,rfl,hm,F.kp,hb,eI F,fnX F S λcdv A outer s H E hr=>hbody f cdv A outer s H E hr⟩
def F1 {x:As}{st:Fd}{ps:Ab As}{k:Ai}{g:DS}(h:Src K mg x st ps)(S:FnScope N ps (qR st))
  (hbody:∀ (f:Af) (cdv:Ad) (A:Bv) (outer:Ab Jt) (s:Ag) (H:Hp) (E:XK),RoomC cm k (A.deeper (Gm x (qR st) s.heap.objs.size f cdv)) →
   PSs (cxC cm P w K mg base N x (qR st) f cdv A outer s H E) (xH st) (tDS (cxC cm P w K mg base N x (qR st) f cdv A outer s H E) g)):eU P w K mg base cm (k+1) x ps (z9 N.length g):=by
 obtain⟨f,fd,hm,F,hb⟩:=h;exact⟨f,fd,hm,F.kp,hb,eI F,fnX F S λcdv A outer s H E hr=>hbody f cdv A outer s H E hr⟩
def Def.any {x:As}{k n:Ai}{F:DF}(h:Def P w K mg base false k x n F):Def P w K mg base cm k x n F:=by
 obtain⟨f,fd,ps,hn,hm,kp,hb,hl,X⟩:=h;exact⟨f,fd,ps,hn,hm,kp,hb,hl,X.any⟩
end
section
variable {X:Cx}{cm:Aq}{k n:Ai}{F:DF}{x:As}{p pos:Fa}{e:Bx}{es:Ab Bx}{fa:DA}
def dcN (G:Def X.prog X.w X.K X.mg X.base cm k x n F)(hr:RoomC cm k X.A)(hF:Fn1 X)(hg:Gl X x)(ha:PA X (e::es) (tDA X fa))(hdb:(x == ("__debug__" : As))=false:=by decide)(he:Bh (e::es) X.env=(false,eval e X.env)::Bh es X.env:=by rfl)(hpl:(Gf pos (Bh es X.env)).any (·.1)=false:=by rfl) :
  PE X (.Call (.Name x p) (e::es) [] pos) (tD X (qG n F fa)):=by
 obtain⟨f,fd,ps,hn,hm,kp,hb,hl,G⟩:=G;exact BV G hr hF hg hm kp hb ha hdb he hpl
def LG (hg:Gl X x)(hm:X.mg x=Aa (.ref C))(hk:Ex X.K (.ref C)=true)(hd:(x == ("__debug__" : As))=false:=by decide):PE X (.Name x pos) (tD X (dC (.obj C))):=
 iX hg hm (v:=.ref C) rfl (λP α => by simp only[Rep];exact⟨trivial,hk⟩) hd
end
def zE:DF:=λds S=>match ds with
 |[.dct0]=>.bad
 |_=>cM ds S
def BL {X:Cx}:yV X (.builtin "len") zE:=L5 trivial
def bW:DE:=λ_ _=>.bad
def LD {X:Cx}{e:Bx}:PE X e (tD X bW):=λ_ _ _ _ _ _ ⟨_,_,_,_,_,_,h⟩=>Ap h
def GS:∃ C:Ak→Ak→Aq,C=hJ:=⟨_,rfl⟩
def GR:Ak→Ak→Aq:=Mx GS
def hW:GR=hJ:=My GS
def w9:G2:=i2 GR λi j=>.int (i*j)
def oY {X:Cx}:OpD X (Eh .Mult) w9:=by
 unfold w9;rw[hW];exact MC
def hu1 {cm:Aq}{k:Ai}{A:Bv}(hr:RoomC cm k A):A.units+1<Du:=by have:=hr.units;omega
def okO (F:DF):DF:=λds S=>match F ds S with
 |.ok d S'=>.ok d S'
 |_=>.bad
def vE {F:DF}{S':Sto}{d:D}(h:F ds S=.ok d S'):okO F ds S=.ok d S':=by unfold okO;rw[h]
section
variable {X:Cx}{cm:Aq}{k n:Ai}{F:DF}{x:As}{p pos:Fa}{e:Bx}{es:Ab Bx}{fa:DA}{f:Af}{fd:Fw}{ps:Ab As}
def TR {pins:Ab (Af × Cr)}{σ:_L.St}{H:Hp}{s:Ag}{Q:VK}{us:Ab Ad}{P:Hp}(G:FnX X.prog X.w X.K X.mg X.base cm k f fd ps (spD X.K n F))(hr:RoomC cm k X.A)(hb:kF X.K fd ps [])
  (I:Inv X pins σ H s) (r:Rel X.K H P α S) (rv:qT vs us) (rp:qI X.K P α ds vs) (hn:ds.length=n) (af:zH X P α (okO F ds S) Q):Ao (Au X.prog X.w) X.A (call (.ref f) us) (EP X pins σ Q) X.xe s:=by
 have hvn:vs.length=n:=by rw[← rp.length];exact hn
 have hsp:spD X.K n F vs H Q λ_ _ _=>Fe:=by
  refine⟨hvn,P,α,ds,S,r,rp,?_⟩;unfold okO at af;cases q:F ds S with
  |ok d S'=>rw[q] at af;exact af
  |ex c x S'=>rw[q] at af;exact Ap af
  |bad=>rw[q] at af;exact af
 have hl:us.length=ps.length:=by rw[← rv.length];exact G.len _ _ _ _ hsp
 have hb':=hb s us I.kIn (by rw[Hf];exact hl)
 rw[Hf] at hb';refine Od (Jf (G.run X.A X.stack s H ⟨us,[]⟩ us vs Q _ hr I.env0 hb' rv hsp) λr s' hq=>?_);cases r with
 |error u =>
  obtain⟨_,_,_,_,_,_,_,_,_,_,_,_,z⟩:=hq;exact Ap z
 |ok fl =>
  cases fl with
  |ret u=>exact I.after hq
  |next=>exact Ap hq
  |brk=>exact Ap hq
  |cont=>exact Ap hq
def dcO (G:Def X.prog X.w X.K X.mg X.base cm k x n F)(hr:RoomC cm k X.A)(hg:Gl X x)(ha:PA X (e::es) (tDA X fa))(hdb:(x == ("__debug__" : As))=false:=by decide)(he:Bh (e::es) X.env=(false,eval e X.env)::Bh es X.env:=by rfl)(hpl:(Gf pos (Bh es X.env)).any (·.1)=false:=by rfl) :
  PE X (.Call (.Name x p) (e::es) [] pos) (tD X (qG n (okO F) fa)):=by
 obtain⟨f,fd,ps,hn0,hm,hk,hb,hl,G⟩:=G;intro pins s σ H Q I h;obtain⟨P,α,env,S,r,re,af⟩:=h;refine Hx (pI I hg hm ?_ hdb);refine Vp (h₀:=X.base) I.ok.mod.kin hk (thn (v8 ha I r re af pos) λus s1 ⟨vs,H1,P1,α1,ds,S1,I1,rv,r1,re1,rp,e1,e2,af1⟩=>⟨I1.kIn,?_⟩) he hpl;obtain⟨hn,af2⟩:=sS (env:=env) (S:=S) af1;exact TR G hr hb I1 r1 rv rp hn (zH.base e1 e2 af2)
end
structure QE (X:Cx)(e:Bx)(f:DE):Prop where
 get:PE X e (tD X f)
structure QT (X:Cx)(e:Bx)(t:DT):Prop where
 get:PT X e (tDT X t)
structure QW (X:Cx)(e:Bx)(t:DT):Prop where
 get:PWD X e t
structure QA (X:Cx)(es:Ab Bx)(f:DA):Prop where
 get:PA X es (tDA X f)
structure QO (X:Cx)(e:Am Bx)(f:DO):Prop where
 get:PO X e (tDO X f)
structure QG (X:Cx)(t:Bx)(g:DG):Prop where
 get:PG X t (tDG X g)
structure QGs (X:Cx)(ts:Ab Bx)(g:DGs):Prop where
 get:PGs X ts (iA X g)
structure QI (X:Cx)(tg it:Bx)(f:DI):Prop where
 get:PI X tg it (tDI X f)
structure QS (X:Cx)(s:Fd)(f:DS):Prop where
 get:PS X s (tDS X f)
structure QB (X:Cx)(ss:Ab Fd)(f:DS):Prop where
 get:PSs X ss (tDS X f)
structure ZOp (X:Cx)(f:Ad→Ad→Nd Ad)(g:G2):Prop where
 get:OpD X f g
structure ZUn (X:Cx)(f:Ad→Nd Ad)(g:D→Sto→Res D):Prop where
 get:UnD X f g
structure ZIx (X:Cx)(g:G2):Prop where
 get:IxD X g
structure ZCall (X:Cx)(f:Ad)(F:DF):Prop where
 get:yV X f F
structure ZMt (X:Cx)(id:Ea)(g:D→Ab D→Sto→Res D):Prop where
 get:MtD X id g
structure ZSet (X:Cx)(g:G3):Prop where
 get:eW X (eS X g)
structure ZPass (X:Cx):Prop where
 get:Ti (Au X.prog X.w) X.A X.env X.xe
section
variable {X:Cx}{a b c e e1 e2 o i:Bx}{es rest:Ab Bx}{fa fb fc fe fo fi:DE}{ta tb:DT}{fA:DA}{f g:DS}{st:Fd}{sts:Ab Fd}{x:As}{p pos:Fa}{n k:Ai}{cm:Aq}{F:DF}{G2':G2}
def V1:QE X (.Constant .none j pos) (dC .non):=⟨LN⟩
def PZ:QE X (.Constant (.bool v) j pos) (dC (.bl v)):=⟨HW⟩
def E7:QE X (.Constant (.int v) j pos) (dC (.int v)):=⟨LJ⟩
def EC:QE X (.Constant (.str v) j pos) (dC (.str v)):=⟨LR⟩
def EE (m:Ai)(hN:X.N[m]? = Aa x)(hv:Vis X.env.scope x)(hd:(x == ("__debug__" : As))=false)(hcd:(x == ("__classdict__" : As))=false):QE X (.Name x pos) (qB m):=⟨dv m hN hv hd hcd⟩
def MW {nm:Ea}(hg:Gl X x)(hm:X.mg x=none)(hv:Fv x=Aa (.type nm))(hn:x ≠ "__name__")(hd:(x == ("__debug__" : As))=false):QE X (.Name x pos) (dC (.ty nm)):=⟨BU hg hm hv hn hd⟩
def E5 (hg:Gl X x)(hm:X.mg x=Aa (.ref C))(hk:Ex X.K (.ref C)=true)(hd:(x == ("__debug__" : As))=false):QE X (.Name x pos) (dC (.obj C)):=⟨LG hg hm hk hd⟩
def MY {v:Ak}(hg:Gl X x)(hm:∃ t,X.mg x=Aa (.int v t))(hd:(x == ("__debug__" : As))=false):QE X (.Name x pos) (dC (.int v)):=⟨let ⟨_,h⟩:=hm;iX (v:=.int v) hg h ⟨_,rfl⟩ (λ_ _=>by simp only[Rep]) hd⟩
def E4:QE X e bW:=⟨LD⟩
def AO {op:UnaryOp}{h:D→Sto→Res D}(ho:ZUn X (Xp op) h)(ha:QE X a fa):QE X (.UnaryOp op a pos) (d1 h fa):=⟨CB ho.1 ha.1⟩
def EA (ha:QE X a fa):QE X (.UnaryOp .Not a pos) (ZC fa):=⟨LO ha.1⟩
def AN {op:Operator}(ho:ZOp X (Eh op) G2')(ha:QE X a fa)(hb:QE X b fb):QE X (.BinOp a op b pos) (d2 G2' fa fb):=⟨CA ho.1 ha.1 hb.1⟩
def V0 {op:Tj}(ho:ZOp X (Cc op) G2')(ha:QE X a fa)(hb:QE X b fb)(hm:Kp op b=false:=by first|exact pL _|with_unfolding_all rfl):QE X (.Compare a [op] [b] pos) (d2 G2' fa fb):=⟨LH ho.1 ha.1 hb.1 hm⟩
def KM {op op':Tj}{g':G2}(ho:ZOp X (Cc op) G2')(ho':ZOp X (Cc op') g')(ha:QE X a fa)(hb:QE X b fb)(hc:QE X c fc)(hm:Ww [op,op'] [b,c]=false:=by with_unfolding_all rfl):QE X (.Compare a [op,op'] [b,c] pos) (zY G2' g' fa fb fc):=⟨UR ho.1 ho'.1 ha.1 hb.1 hc.1 hm⟩
def V2  (h:QE X a fa):QE X (.BoolOp op [a] pos) fa:=⟨LP h.1⟩
def YY (ha:QE X a fa)(hb:QE X (.BoolOp .And (b::rest) pos) fb):QE X (.BoolOp .And (a::b::rest) pos) (y7 fa fb):=⟨LC ha.1 hb.1⟩
def AL (hc:QT X c ta)(ha:QE X a fa)(hb:QE X b fb):QE X (.IfExp c a b pos) (dIf ta fa fb):=⟨HY hc.1 ha.1 hb.1⟩
def ED  (h:QA X es fA):QE X (.Tuple es x1 pos) (qU fA):=⟨LS h.1⟩
def E9 (h:QA X es fA):QE X (.List es pos) (zJ fA):=⟨LL h.1⟩
def MZ (h:QA X es fA):QE X (.List es pos) (n9 fA):=⟨BX h.1⟩
def E6:QE X (.Dict [] [] pos) Z9:=⟨LI⟩
def MX:QE X (.Dict [] [] pos) vI:=⟨BW⟩
def AM (ho:ZIx X G2')(ha:QE X a fa)(hb:QE X b fb)(hs:lQ b:=by intro _ _;rfl):QE X (.Subscript a b pos) (d2 G2' fa fb):=⟨HZ ho.1 ha.1 hb.1 hs⟩
def KO {lo hi:Am Bx}{fl fh:DO}{p2:Fa}(he:QE X e fe)(hl:QO X lo fl)(hu:QO X hi fh):QE X (.Subscript e (.Slice lo hi none p2) pos) (dSl fe fl fh):=⟨UT he.1 hl.1 hu.1⟩
def TF:QO X none qS:=⟨F7⟩
def TH (he:QE X e fe):QO X (Aa e) (qN fe):=⟨F8 he.1⟩
def YW:QA X [] qC:=⟨LA⟩
def Q3 (ha:QE X e fa)(hr:QA X es fA)(hs:Bh (e::es) X.env=(false,eval e X.env)::Bh es X.env:=by rfl):QA X (e::es) (qA fa fA):=⟨BS ha.1 hr.1 hs⟩
def qcN (G:Def X.prog X.w X.K X.mg X.base cm k x n F)(hr:RoomC cm k X.A)(hF:Fn1 X)(hg:Gl X x)(ha:QA X (e::es) fA)(hdb:(x == ("__debug__" : As))=false)(he:Bh (e::es) X.env=(false,eval e X.env)::Bh es X.env:=by rfl)(hpl:(Gf pos (Bh es X.env)).any (·.1)=false:=by rfl):QE X (.Call (.Name x p) (e::es) [] pos) (qG n F fA):=⟨dcN G hr hF hg ha.1 hdb he hpl⟩
def KL {id:Ea}(hc:ZCall X (.builtin id) F)(hg:Gl X x)(hm:X.mg x=none)(hv:Fv x=Aa (.builtin id))(ha:QA X (e::es) fA)(hn:x ≠ "__name__")(hdb:(x == ("__debug__" : As))=false)(he:Bh (e::es) X.env=(false,eval e X.env)::Bh es X.env:=by rfl)(hpl:(Gf pos (Bh es X.env)).any (·.1)=false:=by rfl):QE X (.Call (.Name x p) (e::es) [] pos) (qE F fA):=⟨UQ hc.1 hg hm hv ha.1 hn hdb he hpl⟩
def YZ {T:Ea}(hc:ZCall X (.type T) F)(hg:Gl X x)(hm:X.mg x=none)(hv:Fv x=Aa (.type T))(ha:QA X (e::es) fA)(hn:x ≠ "__name__")(hdb:(x == ("__debug__" : As))=false)(he:Bh (e::es) X.env=(false,eval e X.env)::Bh es X.env:=by rfl)(hpl:(Gf pos (Bh es X.env)).any (·.1)=false:=by rfl):QE X (.Call (.Name x p) (e::es) [] pos) (qE F fA):=⟨WA hc.1 hg hm hv ha.1 hn hdb he hpl⟩
def eP {T id:Ea}{name:As}{apos:Fa}{h:D→Ab D→Sto→Res D}(pa:PlainAttrs T)(slot:Slot T name id)(hty:typeOf (.builtin id)=pure (.type "method_descriptor"))(hT:T = "list" ∨ T = "dict" ∨ T = "int" ∨ T = "str")(hm:ZMt X id h)(ho:QE X o fo)(ha:QA X (e::es) fA)
  (hbase:Qh o name X.env (eval o X.env)=eval o X.env:=by rfl)
  (hfew:((Gf pos (Bh (e::es) X.env)).all (λx=>!x.1)&&(backToKw pos (keywordEach [] X.env)).all (λx=>x.1.isSome)&&decide ((e::es).length+([]:Ab Zz).length+(if ([] : Ab Zz).isEmpty then 0 else 1)<30))=true:=by rfl)
  (hline:(apos.endLine == pos.line)=true:=by rfl) (hs:Bh (e::es) X.env=(false,eval e X.env)::Bh es X.env:=by rfl) (hplain:(Gf pos (Bh es X.env)).any (·.1)=false:=by rfl):QE X (.Call (.Attribute o name apos) (e::es) [] pos) (dBm T h fo fA):=⟨HX pa slot hty hT hm.1 ho.1 ha.1 hbase hfew hline hs hplain⟩
def B1 (h:QW X e ta):QT X e ta:=⟨PWD.pt h.1⟩
def Q5 (ha:QT X a ta):QW X (.BoolOp .And [a] pos) ta:=⟨FC ha.1⟩
def lJ (ha:QT X a ta):QW X (.BoolOp .Or [a] pos) ta:=⟨DC ha.1⟩
def VB (ha:QT X a ta)(hb:QW X (.BoolOp .And (b::rest) pos) tb):QW X (.BoolOp .And (a::b::rest) pos) (y9 ta tb):=⟨DB ha.1 hb.1⟩
def eQ (ha:QT X a ta)(hb:QW X (.BoolOp .Or (b::rest) pos) tb):QW X (.BoolOp .Or (a::b::rest) pos) (xV ta tb):=⟨CH ha.1 hb.1⟩
def V8 (ha:QT X a ta):QT X (.UnaryOp .Not a pos) (zO ta):=⟨D8 ha.1⟩
def V7 {op:Tj}(ho:ZOp X (Cc op) G2')(ha:QE X a fa)(hb:QE X b fb)(hm:Kp op b=false:=by first|exact pL _|with_unfolding_all rfl):QT X (.Compare a [op] [b] pos) (dTr (d2 G2' fa fb)):=⟨D7 ho.1 ha.1 hb.1 hm⟩
def KS {op op':Tj}{g':G2}(ho:ZOp X (Cc op) G2')(ho':ZOp X (Cc op') g')(ha:QE X a fa)(hb:QE X b fb)(hc:QE X c fc)(hm:Ww [op,op'] [b,c]=false:=by with_unfolding_all rfl):QT X (.Compare a [op,op'] [b,c] pos) (dTr (zY G2' g' fa fb fc)):=⟨J7 ho.1 ho'.1 ha.1 hb.1 hc.1 hm⟩
def V9 (ha:QE X a fa)(he:∀ whole,isTrue a X.env whole=(do let v ← whole;Uv a.pos;holding [v] (truthy v)):=by intro _;rfl):QT X a (dTr fa):=⟨D9 ha.1 he⟩
def T7 (hN:X.N.Nodup)(hi:X.N[m]? = Aa x)(hx:Loc X.env.scope x)(hf:X.fn x=true∨X.env.scope.names.lookup x=Aa .local):QG X (.Name x pos) (gNm m):=⟨F2 hN hi hx hf⟩
def Q4:QGs X [] xS:=⟨F3⟩
def aQ {h:DG}{gs:DGs}(h1:QG X e h)(h2:QGs X es gs)(hs:(Gk (e::es) X.env).map (·.2)=assign e X.env::(Gk es X.env).map (·.2):=by rfl):QGs X (e::es) (zA h gs):=⟨UV h1.1 h2.1 hs⟩
def V3 {kk:Ai}{gs:DGs}(hc:X.calm=true)(h:QGs X es gs)(hn:(Gk es X.env).length=n:=by rfl)(hst:(Gk es X.env).findIdx? (·.1)=none:=by rfl):QG X (.Tuple es kk pos) (gTp n gs):=⟨LW hc h.1 hn hst⟩
def EF {h:G3}(ho:QE X o fo)(hi:QE X i fi)(hs:ZSet X h)
  (ha:∀ v,assign (.Subscript o i pos) X.env v=(do
   let ov ← holding [v] (eval o X.env)
   let iv ← holding [v,ov] (eval i X.env)
   Uv pos
   holding [v,ov,iv] (Zv ov iv v)
   release [v,ov,iv] []):=by intro _;rfl):QG X (.Subscript o i pos) (gSb fo fi h):=⟨LV ho.1 hi.1 hs.1 ha⟩
def EI {tg:Bx}(ha:QE X e fa):QI X tg e (wZ fa):=⟨LX ha.1⟩
def KP {tg:Bx}(hg:Gl X "range")(hm:X.mg "range" = none)(ha:QA X (e::es) fA)(hs:Bh (e::es) X.env=(false,eval e X.env)::Bh es X.env:=by rfl)(hpl:(Gf pos (Bh es X.env)).any (·.1)=false:=by rfl):QI X tg (.Call (.Name "range" p) (e::es) [] pos) (yL fA):=⟨UW hg hm ha.1 hs hpl⟩
def V4 {elts:Ab Bx}{x1:Ai}{tpos:Fa}(hg:Gl X "zip")(hm:X.mg "zip" = none)(ha:QA X [e1,e2] fA)(hs:Bh [e1,e2] X.env=(false,eval e1 X.env)::Bh [e2] X.env:=by rfl)(hpl:(Gf pos (Bh [e2] X.env)).any (·.1)=false:=by rfl):QI X (.Tuple elts x1 tpos) (.Call (.Name "zip" p) [e1,e2] [] pos) (bY fA):=⟨LY hg hm ha.1 hs hpl⟩
def YX:QB X [] zI:=⟨D1⟩
def lI (h:QS X st f):QB X [st] f:=⟨D2 h.1⟩
def mK (h1:QS X st f)(h2:QB X sts g):QB X (st::sts) (qM f g):=⟨F9 h1.1 h2.1⟩
def TJ (he:QE X e fa)(hs:Mb e none pos.line X.env=pure false:=by rfl):QS X (.Expr e pos) (yW fa):=⟨FA he.1 hs⟩
def V6 (he:QE X e fa):QS X (.Return (Aa e) pos) (qZ fa):=⟨D4 he.1⟩
def B0 {as bs:Ab Fd}(hc:QT X c ta)(ha:QB X as f)(hb:QB X bs g):QS X (.If c as bs pos) (sIf ta f g):=⟨CF hc.1 ha.1 hb.1⟩
def V5 {tg iter:Bx}{fI:DI}{h:DG}(hp:ZPass X)(hc:X.calm=true)(hi:QI X tg iter fI)(hg:QG X tg h)(hb:QB X body f)(hs:∀ x,Fo iter X.env x=pure x:=by intro _;rfl):QS X (.For tg iter body [] pos) (yI fI h f):=⟨D0 hp.1 hc hi.1 hg.1 hb.1 hs⟩
def EL {pos':Fa}(hN:X.N.Nodup)(he:QE X e fa)(hi:X.N[m]? = Aa x)(hx:Loc X.env.scope x)(hs:Mb e (Aa (.Name x pos')) pos.line X.env=pure false)(hf:X.fn x=true∨X.env.scope.names.lookup x=Aa .local):QS X (.Assign [.Name x pos'] e pos) (zC fa (gNm m)):=⟨D5 hN he.1 hi hx hs hf⟩
def EJ {tg:Bx}{h:DG}(he:QE X e fa)(hg:QG X tg h)(hs:Ko [tg] e pos.line X.env=pure false:=by rfl)(hw:Kn [tg] e X.env=pure none:=by rfl)(h1:(Gk [tg] X.env).map (·.2)=[assign tg X.env]:=by rfl):QS X (.Assign [tg] e pos) (zC fa h):=⟨LZ he.1 hg.1 hs hw h1⟩
def EK {l:Ai}{y:As}{px py pt:Fa} {kt k2 pt2} (hc:X.calm=true) (hN:X.N.Nodup) (ha:QA X [a,b] fA) (hi:X.N[m]? = Aa x) (hj:X.N[l]? = Aa y) (hij:m≠l) (hx:X.env.scope.names.lookup x=Aa .local) (hy:X.env.scope.names.lookup y=Aa .local)
  (hw:Kn [.Tuple [.Name x px,.Name y py] kt pt] (.Tuple [a,b] k2 pt2) X.env=pure (Aa [x,y]):=by rfl) (hs:Ko [.Tuple [.Name x px,.Name y py] kt pt] (.Tuple [a,b] k2 pt2) pos.line X.env=pure false:=by rfl) :
  QS X (.Assign [.Tuple [.Name x px,.Name y py] kt pt] (.Tuple [a,b] k2 pt2) pos) (kB m l fA):=⟨D3 hc hN ha.1 hi hj hij hx hy hw hs⟩
def KR {Ae:Af}{np cpos:Fa}(hc:X.calm=true)(hF:Fn1 X)(hg:Gl X x)(hm:X.mg x=Aa (.ref C))(hx:tG X.K C Ae=true)(ha:QA X (e::rest) fA)(hdb:(x == ("__debug__" : As))=false)(he:Bh (e::rest) X.env=(false,eval e X.env)::Bh rest X.env:=by rfl)(hpl:(Gf cpos (Bh rest X.env)).any (·.1)=false:=by rfl) :
  QS X (.Raise (Aa (.Call (.Name x np) (e::rest) [] cpos)) none pos) (jZ (.ref C) fA):=⟨J3 hc hF hg hm hx ha.1 hdb he hpl⟩
def EM {nm:As}{C0:Af}{b₀:Fd}{suite:Ab Fd}{np hpos:Fa}{cs:Ab Ad}(hF:Fn1 X)(hb:∀ E pn,ZPass (Cx.tryIn X E pn)→QB (Cx.tryIn X E pn) body f)(hs:∀ e,QB (Cx.suite X e) (b₀::suite) g)(hg:Gl X x)(hm:X.mg x=Aa (.ref C0))(hcs:∀ c∈cs,Ix X.K c (.ref C0)=Aa true)(hN:X.N.Nodup)(hi:X.N[m]? = Aa nm)(hlo:X.env.scope.names.lookup nm=Aa .local)(hdb:(x == ("__debug__" : As))=false)(hn:X.N.length=n) :
  QS X (.Try body [.ExceptHandler (Aa (.Name x np)) (Aa nm) (b₀::suite) hpos] [] [] pos) (tT n m cs f g):=⟨hn▸D6 hF (λE pn hp=>(hb E pn ⟨hp⟩).1) (λe=>(hs e).1) hg hm hcs hN hi hlo hdb⟩
def IM:ZOp X (Eh .Add) qL:=⟨R5⟩
def O0:ZOp X (Eh .Sub) xR:=⟨RC⟩
def IW:ZOp X (Eh .Mult) w9:=⟨oY⟩
def IQ:ZOp X (Eh .FloorDiv) vR:=⟨R6⟩
def IV:ZOp X (Eh .Mod) u7:=⟨RA⟩
def IY:ZOp X (Eh .Pow) jG:=⟨RB⟩
def qAV:ZOp X (Cc .Lt) gLt:=⟨PR⟩
def qAU:ZOp X (Cc .LtE) gLe:=⟨AA⟩
def qAR:ZOp X (Cc .Gt) gGt:=⟨A7⟩
def qAQ:ZOp X (Cc .GtE) gGe:=⟨A6⟩
def HI:ZOp X (Cc .Is) gIs:=⟨A9⟩
def NJ:ZOp X (Cc .IsNot) pH:=⟨KA⟩
def HH (hr:RoomC cm k X.A):ZOp X (Cc .Eq) gEq:=⟨A5 hr.units⟩
def HN (hr:RoomC cm k X.A):ZOp X (Cc .NotEq) gNe:=⟨AB hr.units⟩
def IX:ZUn X (Xp .USub) u9:=⟨HE⟩
def qAT:ZIx X gIx:=⟨OT⟩
def BC:ZCall X (.builtin "isinstance") zK:=⟨XY⟩
def HJ {cl:Ab Af}(h:ClsK X.K cl):ZCall X (.builtin "isinstance") (xE cl):=⟨BK h⟩
def BD:ZCall X (.builtin "len") zE:=⟨BL⟩
def IP (hc:X.calm=true):ZCall X (.builtin "all") (vA false):=⟨L3 false hc⟩
def IS:ZCall X (.type "int") kU:=⟨L4⟩
def NL:ZCall X (.type "tuple") wN:=⟨UF⟩
def HK:ZCall X (.type "list") jQ:=⟨BM⟩
def GJ:ZMt X "list.append" yD:=⟨YE⟩
def NH:ZMt X "list.count" nJ:=⟨K0⟩
def NI:ZMt X "list.index" nK:=⟨K1⟩
def IZ (hr:RoomC cm k X.A):ZSet X vL:=⟨EW (hu1 hr)⟩
end
section
variable {P:Bg}{w:By}{K:Al}{mg:As→Am Ad}{base:Bk}{cm:Aq}
def QN {qual:As}{scope:Gb}{f:Af}{cd:Ad}{A:Bv}{outer:Ab Jt}{s:Ag}{H:Hp}{E:XK}:ZPass (cxC cm P w K mg base N qual scope f cd A outer s H E):=⟨UN⟩
def OK {x:As}{st:Fd}{ps:Ab As}{k:Ai}{g:DS}(h:Src K mg x st ps)(S:FnScope N ps (qR st))(hbd:xH st=body)
  (hbody:∀ (f:Af) (cdv:Ad) (A:Bv) (outer:Ab Jt) (s:Ag) (H:Hp) (E:XK),RoomC cm k (A.deeper (Gm x (qR st) s.heap.objs.size f cdv)) →
   QB (cxC cm P w K mg base N x (qR st) f cdv A outer s H E) body g):Def P w K mg base cm (k+1) x ps.length (z9 N.length g):=
 LU h S λf cdv A outer s H E hr=>hbd▸(hbody f cdv A outer s H E hr).1
def CC {x:As}{st:Fd}{ps:Ab As}{k:Ai}{g:DS}(h:Src K mg x st ps)(S:FnScope N ps (qR st))(hbd:xH st=body)
  (hbody:∀ (f:Af) (cdv:Ad) (A:Bv) (outer:Ab Jt) (s:Ag) (H:Hp) (E:XK),RoomC cm k (A.deeper (Gm x (qR st) s.heap.objs.size f cdv)) →
   QB (cxC cm P w K mg base N x (qR st) f cdv A outer s H E) body g):eU P w K mg base cm (k+1) x ps (z9 N.length g):=
 F1 h S λf cdv A outer s H E hr=>hbd▸(hbody f cdv A outer s H E hr).1
def F0 {x:As}{st:Fd}{ps:Ab As}(h:Src K mg x st ps):Def P w K mg base cm 0 x ps.length λ_ _=>.bad:=by
 obtain⟨f,fd,hm,F,hb⟩:=h;exact⟨f,fd,ps,rfl,hm,F.kp,hb,eI F,⟨λvs H Q E z=>z.1,λA outer s H args us vs Q E _ _ _ _ z=>by obtain⟨_,_,_,_,_,_,_,z⟩:=z;exact Ap z⟩⟩
end
structure QTs (X:Cx)(ifs:Ab Bx)(t:DT):Prop where
 get:PTs X ifs t
section
variable {X:Cx}{elt tg iter e:Bx}{ifs es:Ab Bx}{scope:Gb}{pos p:Fa}{N':Ab As}{cap:Ab (Am Ai)}{fi:DI}{g:DG}{t u:DT}{fe:DE}{fa:DA}{x:As}{cm:Aq}{k n:Ai}{F:DF}
def TK:QTs X [] zG:=⟨FB⟩
def KU (h1:QT X e t)(h2:QTs X es u):QTs X (e::es) (y9 t u):=⟨J8 h1.1 h2.1⟩
def qcO (G:Def X.prog X.w X.K X.mg X.base cm k x n F)(hr:RoomC cm k X.A)(hg:Gl X x)(ha:QA X (e::es) fa)(hdb:(x == ("__debug__" : As))=false)(he:Bh (e::es) X.env=(false,eval e X.env)::Bh es X.env:=by rfl)(hpl:(Gf pos (Bh es X.env)).any (·.1)=false:=by rfl) :
  QE X (.Call (.Name x p) (e::es) [] pos) (qG n (okO F) fa):=⟨dcO G hr hg ha.1 hdb he hpl⟩
end
def stn (o:Am (Ai × MO))(S:Sto):Prop:=match o with
 |none=>Kj
 |some p=>S[p.1]? = Aa p.2
open Classical in
def sE (o:Am (Ai × MO))(S:Sto):Aq:=decide (stn o S)
def yQ {o:Am (Ai × MO)}:sE o S=true↔stn o S:=by simp[sE]
structure ItD2 (K:Al)(J:It)(P:Hp)(α : Ab Af)(o:Am (Ai × MO))(ds:Ab D):Prop where
 go:∀ i H P1 α1 S,i<ds.length→Rel K H P1 α1 S→stn o S→qK P P1→α<+:α1→J.go i H
 yld:∀ i H x H' P1 α1 S,i<ds.length→Rel K H P1 α1 S→stn o S→qK P P1→α<+:α1→J.yld i H x H'→∃ P2 d,ds[i]? = Aa d∧Rel K H' P2 α1 S∧qK P1 P2∧Rep K P2 α1 d x
 stop:∀ i H P1 α1 S,ds.length≤i→Rel K H P1 α1 S→stn o S→qK P P1→α<+:α1→J.stop i H
def ItD.two {K:Al}{J:It}{P:Hp}(h:ItD K J P α ds):ItD2 K J P α none ds:=
 ⟨λi H P1 α1 S a b _ c d=>h.go i H P1 α1 S a b c d,λi H x H' P1 α1 S a b _ c d e=>h.yld i H x H' P1 α1 S a b c d e,λi H P1 α1 S a b _ c d=>h.stop i H P1 α1 S a b c d⟩
abbrev DI2:=qF→Sto→Res (Am (Ai × MO) × Ab D)
inductive tDI2 (X:Cx)(f:DI2)(σ : _L.St)(H:Hp)(R:It→Hp→Prop):Prop
 |mk (P:Hp) (α : Ab Af) (env:qF) (S:Sto) (r:Rel X.K H P α S) (re:zP X.K P α σ env) (af:qQ X P α (f env S) (λp S'=>∀ J H' P' α',Rel X.K H' P' α' S'→qK P P'→α<+:α'→ItD2 X.K J P' α' p.1 p.2→R J H')):tDI2 X f σ H R
def wB (f:DI):DI2:=λenv S=>(f env S).bind λds S1=>.ok (none,ds) S1
section
variable {X:Cx}{K:Al}{tg e:Bx}{fa:DE}{pos:Fa}
def F5 {f:DI}(h:PI X tg e (tDI X f)):PI X tg e (tDI2 X (wB f)):=PI.weak h λσ H R ⟨P,α,env,S,r,re,af⟩=>by
 refine⟨P,α,env,S,r,re,?_⟩;unfold wB at af;cases q:f env S with
 |bad=>rw[q] at af;exact af
 |ex c x S'=>rw[q] at af;exact af
 |ok ds S1 =>
  rw[q] at af;exact λJ H' P' α' r' e1 e2 it=>af J H' P' α' r' e1 e2 it.two
def FT {P:Hp}{a:Af}{n:Ai}(hα:α[n]? = Aa a):ItD2 K (Itl K a) P α (Aa (n,.lst ds)) ds where
 go:=λi H P1 α1 S hi r st e e2=>by
  obtain⟨vs,z,t⟩:=r.at' n a _ (mH e2 hα) st;exact⟨vs,vs[i]'(by rw[← t.length];exact hi),.of z,by simp⟩
 yld:=λi H x H' P1 α1 S hi r st e e2 y=>by
  obtain⟨rfl,y⟩:=y;obtain⟨vs,z,t⟩:=r.at' n a _ (mH e2 hα) st;have hx:=y vs (.of z);obtain⟨v,h1,h2⟩:=t.get (An hi);rw[hx] at h1;cases h1;exact⟨P1,_,An hi,r,qK.refl _,h2⟩
 stop:=λi H P1 α1 S hi r st e e2=>by
  obtain⟨vs,z,t⟩:=r.at' n a _ (mH e2 hα) st;exact⟨vs,.of z,by rw[← t.length];exact hi⟩
def itD (d:D)(S:Sto):Res (Am (Ai × MO) × Ab D):=match d with
 |.tup xs=>.ok (none,xs) S
 |.lst xs=>.ok (none,xs) S
 |.loc n=>match S[n]? with
  |some (.lst xs)=>.ok (Aa (n,.lst xs),xs) S
  |_=>.bad
 |_=>.bad
def dIt (f:DE):DI2:=λenv S=>(f env S).bind λd S1=>itD d S1
def CD (ha:PE X e (tD X fa)):PI X tg e (tDI2 X (dIt fa)):=by
 intro pins s σ H R I h;obtain⟨P,α,env,S,r,re,af⟩:=h;refine thn (zZ ha I r re af) λvv s1 ⟨v,H1,P1,α1,d,S1,G1,af1⟩=>?_;have seq:∀ ds,xI d=Aa ds→(∀ J H' P' α',Rel X.K H' P' α' S1→qK P P'→α<+:α'→ItD2 X.K J P' α' none ds→R J H')→Ao (Au X.prog X.w) X.A (Ny vv) (PIE X pins σ tg R) X.xe s1:=λds e1 q =>
  cT G1.inv G1.rel G1.val G1.rep e1 λJ H' P' α' r' h1 h2 it=>q J H' P' α' r' (G1.same.trans h1) (G1.pre.trans h2) it.two
 cases d with
 |tup xs=>exact seq xs rfl af1
 |lst xs=>exact seq xs rfl af1
 |loc n =>
  obtain⟨xs,hS,af1⟩:=b7 (X:=X) (f:=λxs=>Res.ok (Aa (n,MO.lst xs),xs) S1) af1;have rp:=G1.rep;simp only[Rep] at rp;obtain⟨a,rfl,ha⟩:=rp;cases (show vv=Cg a from G1.val)
  obtain⟨vs,z,t⟩:=G1.rel.at' n a _ ha hS;obtain⟨its,rv,p,hz⟩:=G1.inv.list (SqL.of z);refine Fs p.isList ?_;refine⟨s1.heap.objs.size,[s1.heap.objs.size],_,_,H1,rfl,G1.inv.kept (t':=s1.toks) λb o e=>Ah _ e,rT a _,⟨_,Ba _ rfl,rfl,rfl⟩,λb hb=>?_,af1 _ _ P1 α1 G1.rel G1.same G1.pre (FT ha)⟩;have e:b=s1.heap.objs.size:=by simpa using hb
  subst e;exact G1.inv.fpOk (Aw _) (G1.inv.hok.fresh (Aw _))
 |_=>exact Ap af1
end
def wJ (elt:Bx)(gens:Ab Fk)(scope:Gb)(pos:Fa)(k:Ai)(acc:Ad)(env:Jt):Nd Sh:=
 match gens[k+1]? with
 |some g'=>do
  let x ← eval g'.iter env
  Uv g'.iter.pos
  let x ← Fo g'.iter env x
  let it ← holding [x] (Ny x)
  let _ ← runOwn (.compStart (.ListComp elt gens scope pos) (k+1) it acc env) env
 |none=>do let _ ← call (.builtin "list.append") [acc,← eval elt env]
def GF (elt target iter:Bx)(ifs:Ab Bx)(gens:Ab Fk)(scope:Gb)(pos:Fa)(it acc:Ad)(env:Jt)(k:Ai)(hg:gens[k]? = Aa ⟨target,iter,ifs,0⟩)(ha:∀ g',gens[k+1]? = Aa g'→g'.is_async=0) :
  compTurn (.ListComp elt gens scope pos) k it acc env=(do
   Uv iter.pos
   match ← Lr it with
   |none=>pure (.done .next)
   |some v =>
    Jj target it v
    assign target env v
    let mut ok:=true
    for c in ifs do
     if ok then ok ← isTrue c env (eval c env)
    if ok then wJ elt gens scope pos k acc env
    again (.compLoop (.ListComp elt gens scope pos) k it acc env)):=by
 unfold compTurn wJ;simp only[hg];cases q:gens[k+1]? with
 |none=>rfl
 |some g' =>
  have h0:=ha g' q;have e0:(g'.is_async != 0)=false:=by rw[h0];rfl
  simp only[e0,Bt,Ec,bind_assoc,pure_bind];rfl
abbrev DK:=qF→Sto→Ab D→Res (qF × Ab D)
def goL (o:Am (Ai × MO))(g:DG)(t:DT)(k:DK):Ab D→DK
 |[],env,S,acc=>if sE o S then .ok (env,acc) S else .bad
 |d::ds,env,S,acc=>if sE o S then (g d env S).bind λenv1 S1=>(t env1 S1).bind λb S2 =>
   if b then (k env1 S2 acc).bind λp S3=>goL o g t k ds p.1 S3 p.2 else goL o g t k ds env1 S2 acc
  else .bad
def zD (fe:DE):DK:=λenv S acc=>(fe env S).bind λx S1=>if acc.length<lim then .ok (env,acc++[x]) S1 else .bad
def GQ (Y:Cx)(pins:Ab (Af × Cr))(P1:Hp)(α1:Ab Af)(acc:Af)(env:qF)(S:Sto)(ds:Ab D)(s:Ag):Prop:=
 ∃ σ H P α o,TurnSt Y pins P1 α1 [] acc env S ds s σ H P α o
def PK (Y:Cx)(step:Ad→Nd Sh)(k:DK):Prop:=
 ∀ (pins:Ab (Af × Cr)) (P1:Hp) (α1:Ab Af) (acc:Af) (env env':qF) (S S':Sto) (ds ds':Ab D) (s:Ag),(∀ H:Hp,H acc=none→wM Y pins H acc)→GQ Y pins P1 α1 acc env S ds s→k env S ds=.ok (env',ds') S' →
  Ao (Au Y.prog Y.w) Y.A (step (.ref acc)) (λ_ s'=>GQ Y pins P1 α1 acc env' S' ds' s') (λ_ _=>Fe) s
section
variable {Y:Cx}{elt tg iter:Bx}{ifs:Ab Bx}{gens:Ab Fk}{scope:Gb}{pos:Fa}{k:Ai}{g:DG}{t:DT}{fe:DE}{it acc:Af}{fp:Ab Af}{J:It}{tn:Ai→Bk→Prop}{items:Ab D}{P1:Hp}{α1:Ab Af}{pins:Ab (Af × Cr)}
def WO {X:Cx}{H:Hp}{b:Af}{h:Bk}(f:wM X pins H b)(hn:b ∉ fp):wM X (pins++j0 fp h) H b:=by
 obtain⟨f0,f1,f2,f3,f4,f5⟩:=f;refine⟨f0,f1,f2,f3,f4,λp hp=>?_⟩;rcases Cq.mp hp with z|z
 ·exact f5 p (Do _ z)
 ·rcases Cq.mp z with z|z
  ·exact f5 p (Ch _ z)
  ·rintro rfl
   exact hn (rD z).1
def Res.bind_inv {β γ:Type}{r:Res β}{f:β→Sto→Res γ}{x:γ}(h:r.bind f=.ok x S):∃ b S1,r=.ok b S1∧f b S1=.ok x S:=by
 cases r with
 |ok b S1=>exact⟨b,S1,rfl,h⟩
 |_=>cases h
inductive GoC (o:Am (Ai × MO))(g:DG)(t:DT)(k:DK)(d:D)(ds acc:Ab D)(env:qF)(S SF:Sto)(x:qF × Ab D):Prop
 |no (env1:qF) (S1 S2:Sto) (z:stn o S) (q1:g d env S=.ok env1 S1) (q2:t env1 S1=.ok false S2) (r:goL o g t k ds env1 S2 acc=.ok x SF):GoC o g t k d ds acc env S SF x
 |yes (env1:qF) (S1 S2:Sto) (env5:qF) (ds5:Ab D) (S5:Sto) (z:stn o S) (q1:g d env S=.ok env1 S1) (q2:t env1 S1=.ok true S2) (q3:k env1 S2 acc=.ok (env5,ds5) S5) (r:goL o g t k ds env5 S5 ds5=.ok x SF):GoC o g t k d ds acc env S SF x
set_option tactic.hygienic true in
def JJ {o:Am (Ai × MO)}{k:DK}{d:D}{acc:Ab D}{x:qF × Ab D}(h:goL o g t k (d::ds) env S acc=.ok x SF):GoC o g t k d ds acc env S SF x:=by
 simp only[goL] at h
 split at h
 ·rename_i z
  obtain⟨env1,S1,q1,h⟩:=Res.bind_inv h;obtain⟨b,S2,q2,h⟩:=Res.bind_inv h;cases b with
  |false=>exact .no env1 S1 S2 (yQ.mp z) q1 q2 h
  |true =>
   obtain⟨⟨env5,ds5⟩,S5,q3,h⟩:=Res.bind_inv h;exact .yes env1 S1 S2 env5 ds5 S5 (yQ.mp z) q1 q2 q3 h
 ·cases h
set_option tactic.hygienic true in
def FN {o:Am (Ai × MO)}{k:DK}{acc:Ab D}(h:goL o g t k [] env S acc=.ok (envF,dsF) SF):stn o S∧env=envF∧acc=dsF∧S=SF:=by
 simp only[goL] at h
 split at h
 ·rename_i z
  cases h;exact⟨yQ.mp z,rfl,rfl,rfl⟩
 ·cases h
inductive LpI (Y:Cx)(pins:Ab (Af × Cr))(P1:Hp)(α1:Ab Af)(fp:Ab Af)(acc:Af)(tn:Ai→Bk→Prop)(G:Ab D→DK)(items:Ab D)(x:qF × Ab D)(SF:Sto)(n:Ai)(s:Ag):Prop
 |mk (i:Ai) (σ : _L.St) (H P:Hp) (α : Ab Af) (o:Cr) (env:qF) (S:Sto) (ds:Ab D) (hn:n=items.length-i) (hi:i≤items.length) (st:TurnSt Y pins P1 α1 fp acc env S ds s σ H P α o) (st1:tn i s.heap) (run:G (items.drop i) env S ds=.ok x SF):LpI Y pins P1 α1 fp acc tn G items x SF n s
def N8 {M:Nm}{A:Bv}{Q:Fin→Ag→Prop}{E:Ad→Ag→Prop}{s:Ag}{it acc:Ad}{en:Jt}(hgk:gens[k]? = Aa ⟨tg,iter,ifs,0⟩)(has:∀ g',gens[k+1]? = Aa g'→g'.is_async=0)
  (ha:∀ s,Qa s→Q (.again (.compLoop (.ListComp elt gens scope pos) k it acc en)) s) (hd:∀ s,Qd s→Q (.done .next) s)
  (h:Ao M A (Lr it) (λr s1=>(r=none→Qd s1)∧∀ v,r=Aa v→Ao M A (Jj tg it v) (λ_ s2=>Ao M A (assign tg en v) (λ_ s3=>Ao M A (gH ifs en) (λb s4=>(b=false→Qa s4)∧(b=true→Ao M A (wJ elt gens scope pos k acc en) (λ_ s5=>Qa s5) E s4)) E s3) E s2) E s1) E s) :
  Ao M A (compTurn (.ListComp elt gens scope pos) k it acc en) Q E s:=by
 rw[GF elt tg iter ifs gens scope pos it acc en k hgk has];refine Ac (Ps (Ac (thn h λr s1 ⟨h0,h1⟩=>?_)));cases r with
 |none=>exact Aj (hd _ (h0 rfl))
 |some v =>
  refine Ac (thn (h1 v rfl) λ_ s2 h2=>Ac (thn h2 λ_ s3 h3=>Ac (thn h3 λb s4 h4=>?_)));cases b with
  |false=>exact Aj (ha _ (h4.1 rfl))
  |true=>exact Ac (thn (h4.2 rfl) λ_ s5 h5=>Aj (ha _ h5))
def FL (hfp:∀ H:Hp,(∀ b∈fp,H b=none)→∀ b∈fp,wM Y pins H b)(hne:acc ∉ fp)(o:Cr)(H':Hp)(hn:∀ b∈fp,H' b=none):∀ b∈fp,wM Y (pins++[(acc,o)]) H' b:=λb hb=>by
 obtain⟨f0,f1,f2,f3,f4,f5⟩:=hfp H' hn b hb;refine⟨f0,f1,f2,f3,f4,λp hp=>?_⟩;rcases Cq.mp hp with z|z
 ·exact f5 p (Do _ z)
 ·rcases Cq.mp z with z|z
  ·exact f5 p (Ch _ z)
  ·rw[Fh.mp z]
   rintro rfl;exact hne hb
def gU {i:Ai}{h:Bk}(T:Turn Y.prog Y.w Y.K tg J fp it tn)(st2:tn (i+1) h)(pl:∀ b∈fp,∃ o,h.get? b=Aa o∧∀ v,o.data≠.cell v){s5:Ag}{σ5:_L.St}{H5:Hp}(I5:Inv Y (pins++j0 fp h) σ5 H5 s5):tn (i+1) s5.heap∧(∀ b∈fp,H5 b=none):=by
 refine⟨T.keep _ _ _ st2 λb hb o' e=>(I5.pin (b,o') (Ch _ (Ch _ (kG hb e)))).1,λb hb=>?_⟩;obtain⟨o',e,d'⟩:=pl b hb;exact(I5.pin (b,o') (Ch _ (Ch _ (kG hb e)))).2.1
def Z7 {kk:DK}{E:Ad→Ag→Prop}{s:Ag}{σ:_L.St}{H P:Hp}{o:Cr}{i:Ai}(hc:Y.calm=true)(hx:Y.xe=λ_ _=>Fe)
  (T:Turn Y.prog Y.w Y.K tg J fp it tn) (hit:ItD2 Y.K J P1 α1 o' items) (hg:PG Y tg (tDG Y g)) (ht:PTs Y ifs t) (he:PK Y (λacc=>wJ elt gens scope pos k acc Y.env) kk) (hacc:∀ H:Hp,H acc=none→wM Y pins H acc) (hfp:∀ H:Hp,(∀ b∈fp,H b=none)→∀ b∈fp,wM Y pins H b) (hne:acc ∉ fp)
  (hi:i≤items.length) (st:TurnSt Y pins P1 α1 fp acc env S ds s σ H P α o) (st1:tn i s.heap) (run:goL o' g t kk (items.drop i) env S ds=.ok (envF,dsF) SF)
  (hA:∀ s' σ' H' P' α' o1 env1 S' ds',i<items.length→TurnSt Y pins P1 α1 fp acc env1 S' ds' s' σ' H' P' α' o1→tn (i+1) s'.heap→goL o' g t kk (items.drop (i+1)) env1 S' ds'=.ok (envF,dsF) SF→Qa s')
  (hD:∀ s' σ' H' P' α' o',TurnSt Y pins P1 α1 fp acc envF SF dsF s' σ' H' P' α' o'→Qd s') :
  Ao (Au Y.prog Y.w) Y.A (Lr (.ref it)) (λr s1=>(r=none→Qd s1)∧∀ v,r=Aa v→Ao (Au Y.prog Y.w) Y.A (Jj tg (.ref it) v) (λ_ s2=>Ao (Au Y.prog Y.w) Y.A (assign tg Y.env v) (λ_ s3=>Ao (Au Y.prog Y.w) Y.A (gH ifs Y.env) (λb s4=>(b=false→Qa s4)∧(b=true→Ao (Au Y.prog Y.w) Y.A (wJ elt gens scope pos k (.ref acc) Y.env) (λ_ s5=>Qa s5) E s4)) E s3) E s2) E s1) E s:=by
 have I1:=_D.Inv.pin1 st.inv (hacc H st.acn) st.at' st.acc.cell;have fp1:=FL hfp hne o;by_cases hlt:i<items.length
 ·have hdr:items.drop i=items[i]::items.drop (i+1):=Im hlt
  rw[hdr] at run;have run:=JJ run;have hst:stn o' S:=by cases run with|no _ _ _ z=>exact z|yes _ _ _ _ _ _ z=>exact z
  refine tW (T.item Y rfl rfl rfl hc i _ s σ H (λ_ _=>Fe) I1 (fp1 H st.fpn) st1 (hit.go i H P α S hlt st.rel hst st.same st.pre)) λr s1 ⟨u,hr,h1⟩=>⟨λz=>(by rw[hr] at z;cases z),λv hv=>?_⟩
  obtain rfl:v=u:=Ct (hv.symm.trans hr);refine tW h1 λ_ s2 ⟨x,H2,I2,rx,y,st2,fr2⟩=>?_;obtain⟨P2,d,hd,r2,e2,rp⟩:=hit.yld i H x H2 P α S hlt st.rel hst st.same st.pre y;cases (An hlt).symm.trans hd;have pl:=T.obj _ _ st2;have I2':=I2.pinned (fp1 _ fr2) pl;have two:∀ env1 S1 b S2,g items[i] env S=.ok env1 S1→t env1 S1=.ok b S2→(∀ s4 σ3 H4 P4 α4 (I4:Inv Y (pins++j0 fp s2.heap) σ3 H4 s4),TurnSt Y pins P1 α1 fp acc env1 S2 ds s4 σ3 H4 P4 α4 o→tn (i+1) s4.heap→(b=false→Qa s4)∧(b=true→Ao (Au Y.prog Y.w) Y.A (wJ elt gens scope pos k (.ref acc) Y.env) (λ_ s5=>Qa s5) E s4))→Ao (Au Y.prog Y.w) Y.A (assign tg Y.env v) (λ_ s3=>Ao (Au Y.prog Y.w) Y.A (gH ifs Y.env) (λb s4=>(b=false→Qa s4)∧(b=true→Ao (Au Y.prog Y.w) Y.A (wJ elt gens scope pos k (.ref acc) Y.env) (λ_ s5=>Qa s5) E s4)) E s3) E s2:=by
   intro env1 S1 b S2 q1 q2 next;refine tW (hx▸qAB hg I2' r2 (st.env.mono e2 (Bp _)) rx rp q1) λ_ s3 ⟨σ3,H3,P3,α3,I3,r3,re3,e3,e3'⟩=>?_;refine tW (hx▸AK ht I3 r3 re3 q2) λb' s4 ⟨hb,H4,P4,α4,I4,r4,re4,e4,e4'⟩=>?_;have I4':Inv Y (pins++j0 fp s2.heap) σ3 H4 s4:=I4.pins_of λp hp=>I4.pin p (Ch _ ((Cq.mp hp).elim (λz=>Do _ (Do _ z)) λz=>Ch _ z));have a4:=I4.pin (acc,o) (Ch _ (Do _ (Ch _ (Fh.mpr rfl))));rw[hb];exact next s4 σ3 H4 P4 α4 I4' ⟨I4'.unpinned,r4,re4,((st.same.trans e2).trans e3).trans e4,(st.pre.trans e3').trans e4',(gU T st2 pl I4').2,a4.2.1,a4.1,st.acc.mono ((e2.trans e3).trans e4) (e3'.trans e4')⟩ (gU T st2 pl I4').1
  cases run with
  |no env1 S1 S2 _ q1 q2 run=>exact two env1 S1 false S2 q1 q2 λs4 σ3 H4 P4 α4 I4 st4 tn4=>⟨λ_=>hA s4 σ3 H4 P4 α4 o env1 S2 ds hlt st4 tn4 run,λz=>(by cases z)⟩
  |yes env1 S1 S2 env5 ds5 S5 _ q1 q2 q3 run =>
   refine two env1 S1 true S2 q1 q2 λs4 σ3 H4 P4 α4 I4 st4 tn4=>⟨λz=>(by cases z),λ_=>?_⟩
   refine tW (he (pins++j0 fp s2.heap) P1 α1 acc env1 env5 S2 S5 ds ds5 s4 (λH hn=>WO (hacc H hn) hne) ⟨σ3,H4,P4,α4,o,I4,st4.rel,st4.env,st4.same,st4.pre,λb hb=>(by cases hb),st4.acn,st4.at',st4.acc⟩ q3) λ_ s5 ⟨σ5,H5,P5,α5,o5,T5⟩=>?_
   exact hA s5 σ5 H5 P5 α5 o5 env5 S5 ds5 hlt ⟨T5.inv.unpinned,T5.rel,T5.env,T5.same,T5.pre,(gU T st2 pl T5.inv).2,T5.acn,T5.at',T5.acc⟩ (gU T st2 pl T5.inv).1 run
 ·rw[Mh om] at run
  obtain⟨z,rfl,rfl,rfl⟩:=FN run;refine tW (T.done Y rfl rfl rfl hc i _ s σ H (λ_ _=>Fe) I1 (fp1 H st.fpn) st1 (hit.stop i H P α _ om st.rel z st.same st.pre)) λr s1 ⟨hr,I2⟩=>⟨λ_=>?_,λv hv=>(by rw[hr] at hv;cases hv)⟩
  have a:=_D.Inv.pinned1 I2;exact hD s1 σ H P α o ⟨I2.unpinned,st.rel,st.env,st.same,st.pre,st.fpn,a.2,a.1,st.acc⟩
def Z6 {kk:DK}{R:Vh→Ag→Prop}{s:Ag}{σ:_L.St}{H P:Hp}{ds0:Ab D}{o:Cr}(hc:Y.calm=true)(hx:Y.xe=λ_ _=>Fe)(hgk:gens[k]? = Aa ⟨tg,iter,ifs,0⟩)(has:∀ g',gens[k+1]? = Aa g'→g'.is_async=0)
  (T:Turn Y.prog Y.w Y.K tg J fp it tn) (hit:ItD2 Y.K J P1 α1 o' items) (hg:PG Y tg (tDG Y g)) (ht:PTs Y ifs t) (he:PK Y (λacc=>wJ elt gens scope pos k acc Y.env) kk) (hacc:∀ H:Hp,H acc=none→wM Y pins H acc) (hfp:∀ H:Hp,(∀ b∈fp,H b=none)→∀ b∈fp,wM Y pins H b) (hne:acc ∉ fp)
  (st:TurnSt Y pins P1 α1 fp acc env S ds0 s σ H P α o) (st0:tn 0 s.heap) (run:goL o' g t kk items env S ds0=.ok (envF,dsF) SF)
  (hR:∀ s' σ' H' P' α' o',TurnSt Y pins P1 α1 fp acc envF SF dsF s' σ' H' P' α' o'→R (.ok .next) s') :
  Jk (Au Y.prog Y.w) Y.A (.compLoop (.ListComp elt gens scope pos) k (.ref it) (.ref acc) Y.env) R s:=by
 refine codeAny_loop rfl (LpI Y pins P1 α1 fp acc tn (goL o' g t kk) items (envF,dsF) SF) (λn s hI=>?_) items.length ⟨0,σ,H,P,α,o,env,S,ds0,rfl,Fq _,st,st0,run⟩;obtain⟨i,σ,H,P,α,o,env,S,ds,hn,hi,st,st1,run⟩:=hI;subst hn;refine wpAny_noted (N8 hgk has (Qa:=λs'=>∃ m,m<items.length-i∧LpI Y pins P1 α1 fp acc tn (goL o' g t kk) items (envF,dsF) SF m s') (Qd:=R (.ok .next)) (λ_ h=>⟨rfl,h⟩) (λ_ h=>h) ?_);exact Z7 hc hx T hit hg ht he hacc hfp hne hi st st1 run (λs' σ' H' P' α' o1 env1 S' ds' hlt st' tn' run'=>⟨_,Nat.sub_succ_lt_self _ _ hlt,i+1,σ',H',P',α',o1,env1,S',ds',rfl,hlt,st',tn',run'⟩) hR
set_option tactic.hygienic true in
def MQ (hx:Y.xe=λ_ _=>Fe)(hlast:gens[k+1]? = none)(he:PE Y elt (tD Y fe)):PK Y (λacc=>wJ elt gens scope pos k acc Y.env) (zD fe):=by
 intro pins P1 α1 acc env env' S S' ds ds' s hacc ⟨σ,H,P,α,o,st⟩ run;show Ao _ _ (wJ elt gens scope pos k (.ref acc) Y.env) _ _ s;unfold wJ;rw[hlast];dsimp only;unfold zD at run;cases q3:fe env S with
 |bad=>rw[q3] at run;cases run
 |ex c z S'=>rw[q3] at run;cases run
 |ok d5 S5 =>
  rw[q3,Res.bind_ok] at run
  split at run
  ·rename_i hlen
   cases run;have fA:=hacc H st.acn;have I1:=_D.Inv.pin1 st.inv fA st.at' st.acc.cell;refine Ac (tW (hx▸qAA he I1 st.rel st.env q3) λu5 s5 ⟨v5,H5,P5,α5,G5⟩=>?_);have J:=_D.Inv.pinned1 G5.inv;have J1:=G5.inv.unpinned;obtain⟨J4,J5⟩:=J;obtain⟨its,n5,vs,ho,rvs,rps,hz⟩:=st.acc;subst ho;have hlen':vs.length=ds.length:=rps.length.symm;have hl2:=rvs.length;refine Ac (Ks Vn ⟨_,J4,rfl⟩ Us (Ug _ _) (Wu acc its.toArray n5 u5 (by rw[Ax];rw[← xJ];omega)) ⟨J4,?_⟩)
   have q:=Xv J4 (·.push u5)
   have fA5:=hacc H5 J5;have keep:∀ b o,b≠acc→s5.heap.get? b=Aa o→(s5.heap.update acc (Ej (·.push u5))).get? b=Aa o:=λb o hb e=>(Bz s5.heap _ (Em hb)).trans e
   have I6:=J1.turned (t':=s5.toks) keep J5 fA5.2.1 fA5.2.2.2.1 fA5.2.2.2.2.1 fA5.2.2.2.2.2;refine Aj ⟨σ,H5,P5,α5,_,I6,G5.rel,G5.env,st.same.trans G5.same,st.pre.trans G5.pre,λb hb=>(by simp at hb),J5,q,?_⟩
   refine⟨its++[u5],_,vs++[v5],by simp <;> rfl,rvs.append (.cons G5.val .nil),?_,by simp;omega⟩
   exact(qI.mono G5.same G5.pre _ _ rps).append (.cons G5.rep .nil)
  ·cases run
end
def mkM (m:Aq)(r:Res (qF × Ab D)):Res D:=match r with
 |.ok p S2=>if m then .ok (.loc S2.length) (S2++[.lst p.2]) else .ok (.lst p.2) S2
 |_=>.bad
def qX (m:Aq)(cap:Ab (Am Ai))(fi:DI2)(g:DG)(t:DT)(k:DK):DE:=λenv S=>(fi env S).bind λp S1=>mkM m (goL p.1 g t k p.2 (wG cap env) S1 [])
section
variable {X:Cx}{elt tg iter:Bx}{ifs:Ab Bx}{scope:Gb}{pos:Fa}{N':Ab As}{cap:Ab (Am Ai)}{fi:DI2}{g:DG}{t:DT}{kk:DK}{rest:Ab Fk}{mm:Aq}
def YH {P:Hp}{r:Res (qF × Ab D)}{Ok:D→Sto→Prop}(h:qQ X P α (mkM mm r) Ok):∃ envF ds SF,r=.ok (envF,ds) SF∧(if mm then Ok (.loc SF.length) (SF++[.lst ds]) else Ok (.lst ds) SF):=by
 cases r with
 |ok p S =>
  obtain⟨envF,ds⟩:=p;refine⟨envF,ds,S,rfl,?_⟩;cases mm <;> exact h
 |ex c x S=>exact Ap h
 |bad=>exact Ap h
def J9 {pins:Ab (Af × Cr)}{σ:_L.St}{P1:Hp}{α1:Ab Af}{acc:Af}{s:Ag}{Q:VK}(c:m4 X pins σ P1 α1 ds SF acc C s)(ok:if mm then OkV X P1 α1 Q (.loc SF.length) (SF++[.lst ds]) else OkV X P1 α1 Q (.lst ds) SF):EP X pins σ Q (.ref acc) s:=by
 cases mm with
 |false=>exact FE c ok
 |true =>
  obtain⟨H',P',α',vs,I,r,hn,e1,e2,rp,_⟩:=c;exact⟨.ref acc,_,I,rfl,oT r hn rp λv H2 P2 α2 r2 q1 q2 q3=>ok v H2 P2 α2 r2 (e1.trans q1) (e2.trans q2) q3⟩
def WH {M:Nm}{A:Bv}{E:Ad→Ag→Prop}{s:Ag}{globals:Af}{closure:Ab (As × Af)}{qual:As}{env:Jt}{Q:Jt→Ag→Prop}
  (hQ:Q (newEnv scope s.heap.objs.size globals (Hb (s.heap.objs.size+1) scope.names closure) qual none .none (Aa env) Uk) { s with heap:=WP (s.heap.push { cls:=.type "dict",data:=.dict #[] }) scope.names }) :
  Ao M A (TW scope globals closure [] qual none .none (Aa env)) Q E s:=by
 simp only[TW,Vo,Dh];refine Ac (wpAny_alloc ?_);refine Ac (wpAny_layCells _ (λname kind cells=>by cases hkc:kind == Mt <;> simp[hkc]) _ _ _ _ ?_)
 rw[show ({ s with heap:=s.heap.push { cls:=.type "dict",data:=.dict #[] } } : Ag).heap.objs.size=s.heap.objs.size+1 from Dr ..]
 refine Ac ?_;rw[Lw];exact Aj (Aj hQ)
def mV {pins:Ab (Af × Cr)}{σ:_L.St}{H2 P1:Hp}{α1:Ab Af}{s2:Ag}{S1:Sto}{items:Ab D}{it:Af}{fp:Ab Af}{tn:Ai→Bk→Prop}{J:It}{E:Ad→Ag→Prop}{RR:Ad→Af→Vh→Ag→Prop}
  (hc:X.calm=true) (S:CompSc X.env.scope X.N scope N' cap) (has:∀ g',(⟨tg,iter,ifs,0⟩::rest:Ab Fk)[0+1]? = Aa g'→g'.is_async=0)
  (hg:∀ cl C ex s₀ H₀,PG (zL X N' scope cl C ex s₀ H₀) tg (tDG (zL X N' scope cl C ex s₀ H₀) g))
  (ht:∀ cl C ex s₀ H₀,PTs (zL X N' scope cl C ex s₀ H₀) ifs t) (he:∀ cl C ex s₀ H₀,PK (zL X N' scope cl C ex s₀ H₀) (λacc=>wJ elt (⟨tg,iter,ifs,0⟩::rest) scope pos 0 acc (zL X N' scope cl C ex s₀ H₀).env) kk)
  (I2:Inv X pins σ H2 s2) (r:Rel X.K H2 P1 α1 S1) (re:zP X.K P1 α1 σ env) (T:Turn X.prog X.w X.K tg J fp it tn) (st0:tn 0 s2.heap) (hf:∀ b∈fp,wM X pins H2 b) (hit:ItD2 X.K J P1 α1 o' items) (run:goL o' g t kk items (wG cap env) S1 [] = .ok (envF,ds) SF)
  (hRR:∀ acc C s',s2.heap.objs.size≤acc→(∃ m,s'.heap.Ns C m)→s2.heap.objs.size≤C→acc≠C→(∀ h',Eu C s'.heap h'→m4 X pins σ P1 α1 ds SF acc C { s' with heap:=h' }) → RR (.ref acc) C (.ok .next) s') :
  Ao (Au X.prog X.w) X.A (newList []) (λacc s₃=>Ao (Au X.prog X.w) X.A (TW scope X.env.globals (uU X.env.cells scope.names []) [] X.env.qual none .none (Aa X.env)) (λcenv s₄ =>
   Jk (Au X.prog X.w) X.A (.compStart (.ListComp elt (⟨tg,iter,ifs,0⟩::rest) scope pos) 0 (.ref it) acc { cenv with scope:=relabel scope X.env }) (RR acc cenv.locals) s₄) E s₃) E s2:=by
 have hlt:∀ b∈fp,b<s2.heap.objs.size:=λb hb=>by
  obtain⟨o,e,_⟩:=T.obj 0 _ st0 b hb;exact AT e
 refine Cy (WH ?_);dsimp only;generalize hH2:s2.heap.push { cls:=.type "list",dict:=none,data:=.seq ([] : Ab Ad).toArray } = Hh;have hsz:Hh.objs.size=s2.heap.objs.size+1:=by rw[← hH2,Dr]
 have hC:s2.heap.objs.size≤Hh.objs.size:=by rw[hsz];exact Mz _
 have hne:s2.heap.objs.size≠Hh.objs.size:=by rw[hsz];exact Co (Jd _)
 have kp:∀ b o,Hh.get? b=Aa o→(WP (Hh.push { cls:=.type "dict",data:=.dict #[] }) scope.names).get? b=Aa o:=λb o e=>Yp _ _ b o (Ah _ e);have hns₁:(WP (Hh.push { cls:=.type "dict",data:=.dict #[] }) scope.names).Ns Hh.objs.size (λ_=>none):=(Heap.Ns.new Hh (.type "dict")).keeps (Yp _ _);have co:=cellsFrom_ok scope.names (Hh.push { cls:=.type "dict",data:=.dict #[] }) (Hh.objs.size+1) [] ⟨λ_ _ hm=>(nomatch hm),L2⟩ (by rw[Dr];exact Aw _)
 rw[Dr] at co;generalize hh₁:WP (Hh.push { cls:=.type "dict",data:=.dict #[] }) scope.names=h₁ at kp hns₁ co ⊢;have keep:∀ b o,s2.heap.get? b=Aa o→h₁.get? b=Aa o:=λb o e=>kp b o (hH2▸Ah _ e);have hacc:h₁.get? s2.heap.objs.size=Aa { cls:=.type "list",data:=.seq ([] : Ab Ad).toArray }:=kp _ _ (hH2▸Ba _ rfl);have I4:∀ tk,Inv (zL X N' scope (pR X scope Hh.objs.size) Hh.objs.size fp s2 H2) [] (j3 cap σ) H2 { s2 with heap:=h₁,toks:=tk }:=λtk =>
  UL (s4:={ s2 with heap:=h₁,toks:=tk }) S I2 hf hlt hC hns₁ rfl rfl keep co
 have loop:∀ tk,Jk (Au X.prog X.w) X.A (.compLoop (.ListComp elt (⟨tg,iter,ifs,0⟩::rest) scope pos) 0 (.ref it) (.ref s2.heap.objs.size) (compEnvC scope (pR X scope Hh.objs.size) Hh.objs.size X.env)) (RR (.ref s2.heap.objs.size) Hh.objs.size) { s2 with heap:=h₁,toks:=tk }:=λtk=>by
  refine Z6 (kk:=kk) (o':=o') (Y:=zL X N' scope (pR X scope Hh.objs.size) Hh.objs.size fp s2 H2) (pins:=[]) (fp:=fp) (acc:=s2.heap.objs.size) (P1:=P1) (α1:=α1) (σ:=j3 cap σ) (H:=H2) (P:=P1) (α:=α1) (o:={ cls:=.type "list",data:=.seq ([] : Ab Ad).toArray }) hc rfl rfl has T hit
   (hg _ _ _ _ _) (ht _ _ _ _ _) (he _ _ _ _ _) (λH hn=>?_) (λH hn b hb=>?_) (λhm=>Ef _ (hlt _ hm)) ⟨I4 tk,r,VF re cap,qK.refl _,Bp _,λb hb=>(hf b hb).1,I2.hok.fresh (Aw _),hacc,⟨[],0,[],rfl,.nil,.nil,Fq _⟩⟩ (T.keep _ _ _ st0 λb hb o e=>keep b o e) run λs' σ' H' P' α' o' st=>?_
  ·refine⟨hn,hne,λhm=>?_,.inr (Aw _),λx c h z=>?_,λp hp=>absurd (show p∈([]:Ab (Af × Cr)) from hp) (by simp)⟩
   ·obtain⟨_,o,ho,_⟩:=I2.stack.mem hm
    exact Ef _ (AT ho)
   ·rcases wI S I2.ok h with⟨m,_⟩|⟨m,_⟩
    ·exact Ef _ (Pg hC (z▸(co.empty x c m).2))
    ·obtain⟨v,ob,hob,_⟩:=I2.cell x c m
     rw[z] at hob;exact Ef _ (AT hob)
  ·obtain⟨_,h1,h2,h3,h4,h5⟩:=hf b hb
   refine⟨hn b hb,Co (Bn (hlt b hb) hC),λhm=>?_,.inl hb,λx c h=>(by
    rcases wI S I2.ok h with⟨m,_⟩|⟨m,_⟩
    ·exact Em (Co (Ln (Bn (hlt b hb) hC) (co.empty x c m).2))
    ·exact h4 x c m),λp hp=>absurd (show p∈([]:Ab (Af × Cr)) from hp) (by simp)⟩
   rcases Av.mp (I2.stkSub b hm) with z|z
   ·exact h1 z
   ·exact h2 z
  ·obtain⟨m,hm,_⟩:=st.inv.loc
   exact hRR _ _ s' (Aw _) ⟨m,hm⟩ hC hne λh' sb=>UK I2 hf rfl hC (Aw _) hne st sb
 exact codeAny_compStart_list (loop _) (T.self X.A 0 _ _ _ (T.keep _ _ _ st0 λb hb o e=>keep b o e) (loop _))
def US (hc:X.calm=true)(S:CompSc X.env.scope X.N scope N' cap)(hi:PI X tg iter (tDI2 X fi))
  (hg:∀ cl C ex s₀ H₀,PG (zL X N' scope cl C ex s₀ H₀) tg (tDG (zL X N' scope cl C ex s₀ H₀) g))
  (ht:∀ cl C ex s₀ H₀,PTs (zL X N' scope cl C ex s₀ H₀) ifs t) (has:∀ g',(⟨tg,iter,ifs,0⟩::rest:Ab Fk)[0+1]? = Aa g'→g'.is_async=0) (he:∀ cl C ex s₀ H₀,PK (zL X N' scope cl C ex s₀ H₀) (λacc=>wJ elt (⟨tg,iter,ifs,0⟩::rest) scope pos 0 acc (zL X N' scope cl C ex s₀ H₀).env) kk)
  (hs:∀ x,Fo iter X.env x=pure x:=by intro _;rfl):PE X (.ListComp elt (⟨tg,iter,ifs,0⟩::rest) scope pos) (tD X (qX mm cap fi g t kk)):=by
 intro pins s σ H Q I h;obtain⟨P,α,env,S0,r,re,af⟩:=h;rw[eval_ListComp];have af':qQ X P α ((fi env S0).bind λp S1=>mkM mm (goL p.1 g t kk p.2 (wG cap env) S1 [])) (OkV X P α Q):=af;refine Qu (use:=none) rfl hs (iV S I.ok) S.kind S.names ?_;refine thn (hi pins s σ H (λJ H1=>∃ (P1:Hp) (α1:Ab Af) (p:Am (Ai × MO) × Ab _D.D) (S1:Sto),Rel X.K H1 P1 α1 S1∧qK P P1∧α<+:α1∧ItD2 X.K J P1 α1 p.1 p.2∧qQ X P α (mkM mm (goL p.1 g t kk p.2 (wG cap env) S1 [])) (OkV X P α Q)) I ⟨P,α,env,S0,r,re,?_⟩) λxv s1 h1=>thn h1 λitv s2 h2=>?_
 ·cases q:fi env S0 with
  |bad=>rw[q] at af';exact af'
  |ex c x S'=>rw[q] at af';exact af'
  |ok p S1=>rw[q] at af';exact λJ H1 P1 α1 r1 e1 e2 it=>⟨P1,α1,p,S1,r1,e1,e2,it,af'⟩
 obtain⟨it,fp,tn,J,H2,rfl,I2,T,st0,hf,P1,α1,p,S1,r1,e1,e2,hit,af1⟩:=h2;obtain⟨envF,ds,SF,run,ok⟩:=YH af1;refine mV (RR:=λacc C=>compPost (Au X.prog X.w) X.A X.xe none (EP X pins σ Q) acc C) hc S has hg ht he I2 r1 (re.mono e1 e2) T st0 hf hit run ?_;intro acc C s' hA ⟨m,hm⟩ hC hne fin;refine⟨m,hm,λh' sb=>J9 (mm:=mm) (fin h' sb) ?_⟩;cases mm with
 |false=>exact λv H3 P3 α3 r3 q1 q2 q3=>ok v H3 P3 α3 r3 (e1.trans q1) (e2.trans q2) q3
 |true=>exact λv H3 P3 α3 r3 q1 q2 q3=>ok v H3 P3 α3 r3 (e1.trans q1) (e2.trans q2) q3
def J2 {i:Ai}{y:As}{py spos:Fa}(hc:X.calm=true)(hN:X.N.Nodup)(S:CompSc X.env.scope X.N scope N' cap)(hi:PI X tg iter (tDI2 X fi))
  (hg:∀ cl C ex s₀ H₀,PG (zL X N' scope cl C ex s₀ H₀) tg (tDG (zL X N' scope cl C ex s₀ H₀) g))
  (ht:∀ cl C ex s₀ H₀,PTs (zL X N' scope cl C ex s₀ H₀) ifs t) (has:∀ g',(⟨tg,iter,ifs,0⟩::rest:Ab Fk)[0+1]? = Aa g'→g'.is_async=0) (he:∀ cl C ex s₀ H₀,PK (zL X N' scope cl C ex s₀ H₀) (λacc=>wJ elt (⟨tg,iter,ifs,0⟩::rest) scope pos 0 acc (zL X N' scope cl C ex s₀ H₀).env) kk)
  (hy:X.N[i]? = Aa y:=by rfl) (hyl:Loc X.env.scope y:=by first|exact Zq rfl|exact Xw rfl) (hf:X.fn y=true∨X.env.scope.names.lookup y=Aa .local:=by first|exact .inl rfl|exact .inr rfl|assumption)
  (hsw:Mb (.ListComp elt (⟨tg,iter,ifs,0⟩::rest) scope pos) (Aa (.Name y py)) spos.line X.env=pure true:=by rfl)
  (hs:∀ x,Fo iter X.env x=pure x:=by intro _;rfl):PS X (.Assign [.Name y py] (.ListComp elt (⟨tg,iter,ifs,0⟩::rest) scope pos) spos) (tDS X (zC (qX mm cap fi g t kk) (gNm i))):=by
 intro pins s σ H D I h;obtain⟨P,α,env,S0,r,re,af⟩:=h;have af0:=vH af;have af':qQ X P α ((fi env S0).bind λp S1=>mkM mm (goL p.1 g t kk p.2 (wG cap env) S1 [])) (λd S=>zR X P α (.nx (env.set i (Aa d)) S) D):=af0;rw[exec_Assign_Name_used _ _ _ _ hsw];refine Ac (Ps (Ac ?_));show Ao _ X.A (do let _ ← comprehension (.ListComp elt (⟨tg,iter,ifs,0⟩::rest) scope pos) scope X.env _ (newList []) false (eval iter X.env) (Aa (assign (.Name y py) X.env))) _ _ s
 refine Ac (Gv (Qu (use:=Aa (assign (.Name y py) X.env)) (Q:=λ_ s'=>SP X pins D .next s') rfl hs (iV S I.ok) S.kind S.names ?_) (λ_ s' hq=>Aj (Aj hq)) λ_ _ e=>e);refine thn (hi pins s σ H (λJ H1=>∃ (P1:Hp) (α1:Ab Af) (p:Am (Ai × MO) × Ab _D.D) (S1:Sto),Rel X.K H1 P1 α1 S1∧qK P P1∧α<+:α1∧ItD2 X.K J P1 α1 p.1 p.2∧qQ X P α (mkM mm (goL p.1 g t kk p.2 (wG cap env) S1 [])) (λd S=>zR X P α (.nx (env.set i (Aa d)) S) D)) I ⟨P,α,env,S0,r,re,?_⟩) λxv s1 h1=>thn h1 λitv s2 h2=>?_
 ·cases q:fi env S0 with
  |bad=>rw[q] at af';exact af'
  |ex c x S'=>rw[q] at af';exact af'
  |ok p S1=>rw[q] at af';exact λJ H1 P1 α1 r1 e1 e2 it=>⟨P1,α1,p,S1,r1,e1,e2,it,af'⟩
 obtain⟨it,fp,tn,J,H2,rfl,I2,T,st0,hfp,P1,α1,p,S1,r1,e1,e2,hit,af1⟩:=h2;obtain⟨envF,ds,SF,run,ok⟩:=YH af1;refine mV (RR:=λacc C=>compPost (Au X.prog X.w) X.A X.xe (Aa (assign (.Name y py) X.env)) (λ_ s'=>SP X pins D .next s') acc C) hc S has hg ht he I2 r1 (re.mono e1 e2) T st0 hfp hit run ?_;intro acc C s' hA ⟨m,hm⟩ hC hne fin;show Ao _ X.A (assign (.Name y py) X.env (.ref acc)) _ _ s';obtain⟨H3,P3,α3,vs,I3,r3,hn3,q1,q2,rp,hCn⟩:=fin s'.heap (Qj _ _);obtain⟨r4,e4⟩:=r3.pure (o:=.lst vs) hn3;have hCn':(upd H3 acc (.lst vs)) C=none:=by rw[qV (Em hne)];exact hCn
 have fC:=I2.fpOk hC hCn';refine Wo (rQ I3 hN hy hyl (show qP (V.ref acc) (Cg acc) from rfl) (λs5 I5 ⟨a,sb,ha⟩=>?_) hf)
 have hCa:C≠a:=by
  rcases ha with rfl|ha
  ·exact fC.2.1
  ·exact λz=>fC.2.2.2.2.1 _ _ ha z.symm
 refine⟨m,hm.sameBut sb hCa,λh' sb'=>?_⟩;have I6:Inv X pins (σ.set i (Aa (V.ref acc))) (upd H3 acc (.lst vs)) { s5 with heap:=h' }:=I5.turned (t':=s5.toks) (λb o hb e=>(sb'.2 b hb).trans e) hCn' fC.2.1 fC.2.2.2.1 fC.2.2.2.2.1 fC.2.2.2.2.2
 cases mm with
 |false =>
  refine⟨_,_,I6,ok _ _ (upd P3 acc (.lst vs)) α3 r4 ?_ ((e1.trans q1).trans e4) (e2.trans q2)⟩;exact((re.mono e1 e2).mono (q1.trans e4) q2).set i (mL (.inl (.inl zM)) (qI.mono e4 (Bp _) _ _ rp))
 |true =>
  have hpre:α3<+:α3++[acc]:=Li _ _;have r5:=r3.new (o:=.lst vs) (m:=.lst ds) hn3 ⟨vs,zM,qI.mono (qK.refl _) hpre _ _ rp⟩;refine⟨_,_,I6,ok _ _ P3 (α3++[acc]) r5 ?_ (e1.trans q1) ((e2.trans q2).trans hpre)⟩;refine((re.mono e1 e2).mono q1 (q2.trans hpre)).set i ?_;simp only[Rep];exact⟨acc,rfl,by rw[← r3.len];simp⟩
end
section
variable {prog:Bg}{w:By}{A:Bv}{E:Ad→Ag→Prop}{s:Ag}
def WG {e it l:Af}{i:Ai}{x old:Ad}(he:To s.heap e it i old)(hit:zT tp s.heap it l i)(hl:wX tp s.heap l xs)(hx:xs[i]? = Aa x)(ne:e≠it)
  (hQ:∀ g,f8 g e it ((i:Ak)+1) x s.heap.objs.size→zT tp g it l (i+1)→Ic g s.heap.objs.size (.int i s.toks) x→g.objs.size=s.heap.objs.size+1→(∀ b o,b≠e→b≠it→s.heap.get? b=Aa o→g.get? b=Aa o)→Q (.ref s.heap.objs.size) { s with heap:=g,toks:=s.toks+1 }) :
  Ao (Au prog w) A (Gq.«enumerate.__next__» ⟨[.ref e],[]⟩) (λfin s'=>∃ v,fin=.done (.ret v)∧Q v s') E s:=by
 obtain⟨hp,gn,dr,tk,os⟩:=s;show Ao _ _ (field (.ref e) 2 >>= _) _ _ _;refine Ac (Dg he rfl (x:=.ref it) rfl (Ac (b6 hit hl hx λg1 i1 s1=>?_)))
 replace s1:Eu it hp g1:=s1
 have e1:To g1 e it i old:=(s1.2 e ne).trans he;show Ao _ _ (field (.ref e) 3 >>= _) _ _ ⟨g1,gn,dr,tk,os⟩;refine Ac (Dg e1 rfl (x:=Mo i) rfl ?_);show Ao _ _ (field (.ref e) 4 >>= _) _ _ ⟨g1,gn,dr,tk,os⟩;refine Ac (Dg e1 rfl (x:=.none) rfl ?_);show Ao _ _ (mkInt i >>= _) _ _ ⟨g1,gn,dr,tk,os⟩;refine Ac (wpAny_mkInt ?_);show Ao _ _ (setField (.ref e) 3 (Mo ((i:Ak)+1)) >>= _) _ _ ⟨g1,gn,dr,tk+1,os⟩;refine Ac (Ev e1 (by simp) λg2 e2 s2=>?_)
 replace s2:Eu e g1 g2:=s2
 replace e2:To g2 e it ((i:Ak)+1) old:=e2
 show Ao _ _ (setField (.ref e) 4 .none >>= _) _ _ ⟨g2,gn,dr,tk+1,os⟩;refine Ac (Ev e2 (by simp) λg3 e3 s3=>?_)
 replace s3:Eu e g2 g3:=s3
 replace e3:To g3 e it ((i:Ak)+1) old:=e3
 show Ao _ _ (newTuple [.int i tk,x] >>= _) _ _ ⟨g3,gn,dr,tk+1,os⟩;refine Ac (T0 ?_);have e4:To (g3.push { cls:=.type "tuple",data:=.seq #[.int i tk,x] }) e it ((i:Ak)+1) old:=Ah _ e3;generalize q4:g3.push { cls:=.type "tuple",data:=.seq #[.int i tk,x] } = g4 at e4;have sz:g3.objs.size=hp.objs.size:=by rw[s3.1,s2.1,s1.1]
 have el:e<hp.objs.size:=AT he;have t4:Ic g4 hp.objs.size (.int i tk) x:=by rw[← q4,← sz];exact Ba _ rfl
 have z4:g4.objs.size=hp.objs.size+1:=by rw[← q4,Dr,sz]
 have k4:∀ b o,b≠e→b≠it→hp.get? b=Aa o→g4.get? b=Aa o:=λb o b1 b2 q=>by
  rw[← q4];exact Ah _ (s3.extBut b o b1 (s2.extBut b o b1 (s1.extBut b o b2 q)))
 have i4:zT tp g4 it l (i+1):=i1.keep λo q=>by rw[← q4];exact Ah _ (s3.extBut _ o ne.symm (s2.extBut _ o ne.symm q))
 show Ao _ _ (Eg (.ref e) >>= _) _ _ ⟨g4,gn,dr,tk+1,os⟩;rw[sz];refine Ac ?_;unfold Eg;refine Ac (Dg e4 rfl (x:=.none) rfl (Aj ?_));simp only[Dh];refine Ac (Ju (Ac (Dg e4 rfl (x:=old) rfl (Ac (Ev e4 (by simp) λg5 e5 s5=>?_)))))
 replace s5:Eu e g4 g5:=s5
 replace e5:To g5 e it ((i:Ak)+1) x:=e5
 show Ao _ _ (Gg (.ref e) (.ref hp.objs.size) >>= _) _ _ ⟨g5,gn,dr,tk+1,os⟩;refine Ac ?_;unfold Gg;refine Ac (Ev e5 (by simp) λg6 e6 s6=>?_)
 replace s6:Eu e g5 g6:=s6
 replace e6:f8 g6 e it ((i:Ak)+1) x hp.objs.size:=e6
 refine Ev e6 (by simp) λg7 e7 s7=>?_
 replace s7:Eu e g6 g7:=s7
 replace e7:f8 g7 e it ((i:Ak)+1) x hp.objs.size:=e7
 have up:∀ b o,b≠e→g4.get? b=Aa o→g7.get? b=Aa o:=λb o b1 q=>s7.extBut b o b1 (s6.extBut b o b1 (s5.extBut b o b1 q));exact Ac (Jv (Aj ⟨_,rfl,hQ g7 e7 (i4.keep λo q=>up _ o ne.symm q) (up _ _ (Gp el) t4) (by rw[s7.1,s6.1,s5.1,z4]) λb o b1 b2 q=>up b o b1 (k4 b o b1 b2 q)⟩))
set_option maxHeartbeats 4000000 in
set_option tactic.hygienic true in
def JB (tp:Aq)(l:Af)(xs:Bj Ad) :
  Meets (Gq.«enumerate.__new__» ⟨[.type "enumerate",.ref l],[]⟩) (λ_ R s=>(∃ n dct sl,s.heap.get? l=Aa { cls:=.type (if tp then "tuple" else "list"),dict:=dct,data:=.seq xs n,slots:=sl }) ∧ R (.ok (.ret (.ref (s.heap.push (jS tp l)).objs.size))) { s with heap:=(s.heap.push (jS tp l)).push { cls:=.type "enumerate",data:=.fields #[.none,.bool false,.ref s.heap.objs.size,Mo 0,.none,.none] } }):=
 .of_wp λprog w A R s h=>by
  obtain⟨hp,gn,dr,tk,os⟩:=s;obtain⟨⟨n,dct,sl,hl⟩,h⟩:=h;have hsub:=sub_enumerate;cases tp
  ·have L1:Xy (Mv ⟨hp,gn,dr,tk,os⟩) l xs:=⟨_,hl,rfl,n,rfl⟩
   wp_walk using Gh hl
   refine Yq λst=>Aj ?_
   split
   ·rename_i c _ _ _ _ _
    cases (c == Gu "enumerate") <;> (wp_walk using Gh hl,Fs L1;exact⟨_,rfl,h⟩)
   ·wp_walk using Gh hl,Fs L1;exact⟨_,rfl,h⟩
  ·have L1:Wh (Mv ⟨hp,gn,dr,tk,os⟩) l xs:=⟨_,hl,rfl,n,rfl⟩
   wp_walk using Gh hl
   refine Yq λst=>Aj ?_
   split
   ·rename_i c _ _ _ _ _
    cases (c == Gu "enumerate") <;> (wp_walk using Gh hl,Gj L1;exact⟨_,rfl,h⟩)
   ·wp_walk using Gh hl,Gj L1;exact⟨_,rfl,h⟩
def XW {tp:Aq}{l:Af}{xs:Bj Ad}{Q:Ad→Ag→Prop}(hl:∃ n dct sl,s.heap.get? l=Aa { cls:=.type (if tp then "tuple" else "list"),dict:=dct,data:=.seq xs n,slots:=sl })
  (h:∀ g,To g (s.heap.objs.size+1) s.heap.objs.size 0 .none→zT tp g s.heap.objs.size l 0→(∀ b o,s.heap.get? b=Aa o→g.get? b=Aa o)→Q (.ref (s.heap.objs.size+1)) { s with heap:=g }) :
  Ao (Au prog w) A (call (.type "enumerate") [.ref l]) Q E s:=by
 refine callType_new F.called_enumerate (by decide) (F.typeCall_enumerate_1 _) (F.newCall_enumerate_1 _) (λobj=>F.args_object_init_2 obj _) F.entry_enumerate_new (JB tp l xs) ⟨hl,?_⟩
 have hz:(s.heap.push (jS tp l)).objs.size=s.heap.objs.size+1:=Dr ..;show _∧_;have he:((s.heap.push (jS tp l)).push { cls:=.type "enumerate",data:=.fields #[.none,.bool false,.ref s.heap.objs.size,Mo 0,.none,.none] }).get? (s.heap.push (jS tp l)).objs.size=Aa _:=Ba _ rfl;rw[hz] at he ⊢;exact⟨⟨_,he,rfl⟩,h _ he (b0 (Ah _ (Ba _ rfl))) λb o x=>Ah _ (Ah _ x)⟩
end
def Ite (tp:Aq)(K:Al)(a:Af):It:=
  ⟨λi H=>∃ xs x,Sq tp K H a xs∧xs[i]? = Aa x,
   λi H v H'=>∃ T x,v=.ref T∧H T=none∧H'=upd H T (.tup [.int i,x])∧∀ xs,Sq tp K H a xs→xs[i]? = Aa x,
   λi H=>∃ xs,Sq tp K H a xs∧xs.length≤i⟩
def XN (tp:Aq)(e it l:Af)(k:Ai)(h:Bk):Prop:=∃ old,To h e it k old∧zT tp h it l k
def VS {P:Bg}{w:By}{K:Al}{elts:Ab Bx}{x1:Ai}{tpos:Fa}{e it a:Af}(ne:e≠it):Turn P w K (.Tuple elts x1 tpos) (Ite tp K a) [e,it] e (XN tp e it a) where
 mem:=by simp
 obj:=λk h st c hc=>by
  obtain⟨old,s1,s2⟩:=st;simp only[Av,Cj,Ez] at hc;rcases hc with rfl|rfl
  ·exact⟨_,s1,λv y=>by cases y⟩
  ·exact s2.there
 keep:=λk h h' st kp=>by
  obtain⟨old,s1,s2⟩:=st;exact⟨old,kp e (by simp) _ s1,s2.keep λo q=>kp it (by simp) o q⟩
 item:=by
  intro X hP hw hK hc k pins s σ H E Iv hf st hg;subst hP hw hK;obtain⟨old,s1,s2⟩:=st;obtain⟨xs,x,qa,hx⟩:=hg;obtain⟨ia,ra,ha⟩:=qa.at Iv;obtain⟨u,hu,ru⟩:=ra.get hx;have hT:s.TypeIs (.ref e) "enumerate":=⟨_,s1,rfl⟩;unfold Lr;refine Ac (Io (Dq (name:=Fb "__next__") hT Jw (Dx Jw hT Sv
   (WG s1 s2 ha (by simpa using hu) ne λh' a1 a2 a3 a4 a5=>Aj ?_) (Rw _))))
  refine⟨_,rfl,wpAny_letOwnedTupleGo_enum (s:={ s with heap:=h',toks:=s.toks+1 }) a1 λh2 b1 b2=>?_⟩
  have up:∀ c o,c≠e→h'.get? c=Aa o→h2.get? c=Aa o:=λc o n q=>(b2.2 c n).trans q;have el:e<s.heap.objs.size:=AT s1;have T2:Ic h2 s.heap.objs.size (.int k s.toks) u:=up _ _ (Gp el) a3;have st2:XN tp e it a (k+1) h2:=⟨u,b1,a2.keep λo q=>up _ o ne.symm q⟩;refine⟨.ref s.heap.objs.size,upd H s.heap.objs.size (.tup [.int k,x]),?_,rfl,⟨_,x,rfl,Iv.hok.fresh (Aw _),rfl,λzs qz=>by rw[qz.inj Iv qa];exact hx⟩,st2,λc hc=>?_⟩
  ·have:=Inv.turnLay (fp:=[e,it]) (its:=[.int k s.toks,u]) (h':=h2) (xs:=[.int k,x]) Iv hf (λc o hc q=>by
    simp only[Av,Cj,Ez,Rj] at hc;exact up c o hc.1 (a5 c o hc.1 hc.2 q)) (λc hc=>by
    obtain⟨old',t1,t2⟩:=st2;simp only[Av,Cj,Ez] at hc;rcases hc with rfl|rfl
    ·exact⟨_,t1⟩
    ·obtain⟨o,q,_⟩:=t2.there;exact⟨o,q⟩) (Aw _) (.cons ⟨_,rfl⟩ (.cons ru .nil)) ⟨_,T2,rfl,_,rfl⟩ (by show 2≤sizeLine;decide)
   exact this.tok (s.toks+1)
  ·have hn:=(hf c hc).1
   rw[qV ?_]
   ·exact hn
   ·rintro rfl
    obtain⟨o,q,_⟩:∃ o,s.heap.get? s.heap.objs.size=Aa o∧Kj:=by
     simp only[Av,Cj,Ez] at hc;rcases hc with z|z
     ·exact⟨_,z▸s1,trivial⟩
     ·obtain⟨o,e',_⟩:=s2.there;exact⟨o,z▸e',trivial⟩
    exact absurd (AT q) (Ef _)
 done:=by
  intro X hP hw hK hc k pins s σ H E Iv hf st hg;subst hP hw hK;obtain⟨old,s1,s2⟩:=st;obtain⟨xs,qa,hend⟩:=hg;obtain⟨ia,ra,ha⟩:=qa.at Iv;have hT:s.TypeIs (.ref e) "enumerate":=⟨_,s1,rfl⟩;have l1:=ra.length;unfold Lr;refine Ac (Io (Dq (name:=Fb "__next__") hT Jw (Dx Jw hT Sv ?_ (Rw _))));show Ao _ _ (field (.ref e) 2 >>= _) _ _ _;refine Ac (Dg s1 rfl (x:=.ref it) rfl (Ac (gB (Iv.ok.hd hc) s2 ha (by simp;omega) λh' x kp hx'=>?_)))
  obtain⟨o,ho,hcl⟩:=hx';refine Ac (Mw (T:="StopIteration") (b:=true) ⟨o,ho,hcl⟩ TD (Aj ⟨rfl,Inv.turnL (fp:=[e,it]) Iv hf λc o hc q=>?_⟩));simp only[Av,Cj,Ez,Rj] at hc;exact kp c o hc.2 q
 self:=λ_ _ _ _ _ st h=>by
  obtain⟨old,s1,_⟩:=st;exact Xa s1 h
def vW (xs:Ab D):Ab D:=xs.mapIdx λi x=>D.tup [.int i,x]
def GT (ds:Ab D):Am (Ab D):=match ds with
 |[.tup xs]=>Aa (vW xs)
 |[.lst xs]=>Aa (vW xs)
 |_=>none
def n8 (f:DA):DI:=λenv S=>(f env S).bind λds S1=>uD (GT ds) S1
def WE (xs:Ab D)(i:Ai):(vW xs)[i]? = (xs[i]?).map λx=>D.tup [.int i,x]:=by
 unfold vW;rw[List.getElem?_mapIdx]
def bZ (xs:Ab D):(vW xs).length=xs.length:=by simp[vW]
def JP {K:Al}{P:Hp}{a:Af}{xs:Ab D}(qa:Sq tp K P a vs)(ta:qI K P α xs vs):ItD K (Ite tp K a) P α (vW xs) where
 go:=λi H P1 α1 S hi r e _=>by
  rw[bZ] at hi;have h1:i<vs.length:=by rw[← ta.length];omega
  exact⟨vs,vs[i],qa.mono (e.trans r.sub),by simp⟩
 yld:=λi H x H' P1 α1 S hi r e e2 y=>by
  obtain⟨T,u,rfl,hT,rfl,hu⟩:=y;rw[bZ] at hi;obtain⟨v1,z1,p1⟩:=ta.get (An hi);have eu:=hu vs (qa.mono (e.trans r.sub));rw[z1] at eu;cases eu;obtain⟨r1,s1⟩:=r.pure (o:=.tup [.int i,u]) hT;refine⟨_,.tup [.int i,xs[i]],?_,r1,s1,?_⟩
  ·rw[WE,An hi];rfl
  ·exact dU (.of zM) (.cons (by simp only[Rep]) (.cons (Rep.mono (e.trans s1) e2 _ _ p1) .nil))
 stop:=λi H P1 α1 S hi r e _=>by
  rw[bZ] at hi;have l1:=ta.length;exact⟨vs,qa.mono (e.trans r.sub),by omega⟩
section
variable {X:Cx}{e1:Bx}{elts:Ab Bx}{x1:Ai}{tpos:Fa}{f:DA}{p pos:Fa}
def Sq.obj {pins:Ab (Af × Cr)}{σ:_L.St}{H:Hp}{s:Ag}{a:Af}{xs:Ab V}(I:Inv X pins σ H s)(q:Sq tp X.K H a xs):∃ its:Ab Ad,qT xs its∧∃ n dct sl,s.heap.get? a=Aa { cls:=.type (if tp then "tuple" else "list"),dict:=dct,data:=.seq its.toArray n,slots:=sl }:=by
 obtain⟨its,rv,h⟩:=q.at I;refine⟨its,rv,?_⟩;cases tp with
 |true =>
  obtain⟨o,ho,hc,n,hd⟩:=h;obtain⟨c,d,dt,sl⟩:=o;dsimp only at hc hd;subst hc;subst hd;exact⟨n,_,_,ho⟩
 |false =>
  obtain⟨o,ho,hc,n,hd⟩:=h;obtain⟨c,d,dt,sl⟩:=o;dsimp only at hc hd;subst hc;subst hd;exact⟨n,_,_,ho⟩
def iY {pins:Ab (Af × Cr)}{σ:_L.St}{H P:Hp}{s:Ag}{a:Af}{xs:Ab D}(I:Inv X pins σ H s)(r:Rel X.K H P α S)(qa:Sq tp X.K P a vs)(ta:qI X.K P α xs vs)
  (q:OkI X P α R (vW xs) S):Ao (Au X.prog X.w) X.A (call (.type "enumerate") [.ref a]) (λv s1=>Ao (Au X.prog X.w) X.A (Ny v) (PIE X pins σ (.Tuple elts x1 tpos) R) X.xe s1) X.xe s:=by
 obtain⟨ia,ra,ha⟩:=Sq.obj I (qa.mono r.sub);refine XW (tp:=tp) ha λh' z1 z2 z7=>?_;refine Xa (s:={ s with heap:=h' }) z1 ?_
 refine⟨_,[s.heap.objs.size+1,s.heap.objs.size],_,_,H,rfl,I.kept (t':=s.toks) z7,VS (tp:=tp) (a:=a) (by intro z;simp at z),⟨_,z1,z2⟩,λc hc=>?_,q _ _ P α r (qK.refl _) (Bp _) (JP qa ta)⟩
 have hl:s.heap.objs.size≤c:=by
  simp only[Av,Cj,Ez] at hc;rcases hc with rfl|rfl <;> simp
 exact I.fpOk hl (I.hok.fresh hl)
def lV:Fv "enumerate" = Aa (.type "enumerate"):=by decide +kernel
def JA (h:GT ds=Aa its):∃ d xs,ds=[d]∧ItV d xs∧its=vW xs:=by
 cases ds with
 |nil=>exact nn h
 |cons d ds =>
  cases ds with
  |cons _ _=>cases d <;> exact nn h
  |nil =>
   cases d with
   |tup xs=>exact⟨_,xs,rfl,.tup rfl,(Ct h).symm⟩
   |lst xs=>exact⟨_,xs,rfl,.lst rfl,(Ct h).symm⟩
   |_=>exact nn h
def F4 (hg:Gl X "enumerate")(hm:X.mg "enumerate" = none)(ha:PA X [e1] (tDA X f))(hs:Bh [e1] X.env=(false,eval e1 X.env)::Bh [] X.env:=by rfl)(hpl:(Gf pos (Bh [] X.env)).any (·.1)=false:=by rfl) :
  PI X (.Tuple elts x1 tpos) (.Call (.Name "enumerate" p) [e1] [] pos) (tDI X (n8 f)):=by
 intro pins s σ H R I h;obtain⟨P,α,env,S,r,re,af⟩:=h;refine Call_ (uX I hg hm lV (Gr (thn (v8 ha I r re af pos) λus s1 ⟨vs,H1,P1,α1,ds,S1,I1,rv,r1,re1,rp,e1,e2,af1⟩=>?_) hs hpl));obtain⟨its,hi,q⟩:=jK af1;obtain⟨d,xs,rfl,hd,rfl⟩:=JA hi;obtain⟨v,u,rfl,rfl,p1,q1⟩:=vP rp rv;cases hd with
 |tup ed =>
  subst ed;simp only[Rep] at p1;obtain⟨a,va,rfl,qa,ta⟩:=p1;cases (show u=Cg a from q1)
  exact iY (tp:=true) I1 r1 qa ta (q.base e1 e2)
 |lst ed =>
  subst ed;simp only[Rep] at p1;obtain⟨a,va,rfl,qa,ta⟩:=p1;cases (show u=Cg a from q1)
  exact iY (tp:=false) I1 r1 qa.l ta (q.base e1 e2)
end
section
variable {X:Cx}
def yE:D→Ab D→Sto→Res D:=λa ds S=>match a,ds with
 |.loc n,[i,x]=>match S[n]? with
  |some (.dct kvs)=>match vB i with
   |some k=>match xN kvs k with
    |some d=>.ok d S
    |none=>if kvs.length<lim then .ok x (S.set n (.dct (yN kvs k x))) else .bad
   |none=>.bad
  |_=>.bad
 |_,_=>.bad
def mR (a b c:Ad):Tp "dict.setdefault" ⟨[a,b,c],[]⟩:=by unfold Tp;kernel_rfl
inductive SdV (a:D)(ds:Ab D)(S:Sto):Prop
 |bad (e:yE a ds S=.bad)
 |of (n:Ai) (i x:D) (kvs:Ab (Key × D)) (k:Key) (ea:a=.loc n) (ed:ds=[i,x]) (hS:S[n]? = Aa (.dct kvs)) (hk:vB i=Aa k) (e:yE a ds S=(match xN kvs k with|some d=>.ok d S|none=>if kvs.length<lim then .ok x (S.set n (.dct (yN kvs k x))) else .bad))
def sdV (a:D)(ds:Ab D)(S:Sto):SdV a ds S:=by
 cases a with
 |loc n =>
  cases ds with
  |nil=>exact .bad rfl
  |cons i ds =>
   cases ds with
   |nil=>exact .bad rfl
   |cons x ds =>
    cases ds with
    |cons _ _=>exact .bad rfl
    |nil =>
     have z:yE (.loc n) [i,x] S=(match S[n]? with|some (.dct kvs)=>(match vB i with|some k=>(match xN kvs k with|some d=>.ok d S|none=>if kvs.length<lim then .ok x (S.set n (.dct (yN kvs k x))) else .bad)|none=>.bad)|_=>.bad):=rfl
     cases hS:S[n]? with
     |none=>rw[hS] at z;exact .bad z
     |some m =>
      rw[hS] at z;cases m with
      |dct kvs =>
       cases hk:vB i with
       |none=>rw[hk] at z;exact .bad z
       |some k=>rw[hk] at z;exact .of n i x kvs k rfl rfl hS hk z
      |_=>exact .bad z
 |_=>exact .bad rfl
def YF:MtD X "dict.setdefault" yE:=by
 intro pins σ H s P α S v vv vs us a ds Q I r rv p rvs rps af;cases sdV a ds S with
 |bad e=>rw[e] at af;exact Ap af
 |of n i x kvs k ea ed hS hk e =>
  rw[e] at af;subst ea ed;clear e;obtain⟨vi,vx,ui,ux,rfl,rfl,pi,px,qi,qx⟩:=mM rps rvs;simp only[Rep] at p;obtain⟨b,rfl,q⟩:=p;obtain⟨ws,z,t⟩:=r.at' n b _ q hS;cases nT hk pi;cases (show vv=Cg b from rv)
  obtain⟨hz,hd,us',rel,dd⟩:=ZG I.hok z;have hz':us'.length≤sizeLine:=by rw[← rel.length];exact hz
  obtain⟨k1,k2⟩:=mF (k:=k) t;have er:=rel.val k;refine call_meetsIn Og dd.typeIs PySem.F.entry_dict_setdefault (mR _ _ _) (kt_meets_setdefault (xF X.prog X.w) b (nR qi) hd ux) ⟨us',dd,hz',λv' hv'=>?_,λhn h' dd' hs=>?_⟩
  ·cases hv:xN kvs k with
   |none =>
    rw[k2 hv,hv'] at er;exact Ap er
   |some d =>
    obtain⟨w',e1,e2⟩:=k1 d hv;rw[hv] at af;rw[e1,hv'] at er;exact⟨w',H,I.tok _,er,xr af r e2⟩
  ·cases hv:xN kvs k with
   |some d =>
    obtain⟨w',e1,e2⟩:=k1 d hv;rw[e1,hn] at er;exact Ap er
   |none =>
    rw[hv] at af;obtain⟨hl,af⟩:=vU (X:=X) af;have hl':(uB ws k vx).length≤sizeLine:=by
     have:=gW ws k vx;have e3:=oK t;rw[← xJ];omega
    have he:∃ q,h'.get? b=Aa q:=let ⟨q,_,_,hq,_⟩:=dd';⟨q,hq⟩
    have I':=lX (t':=s.toks+1) I (by rw[z];exact Ig) hs he (WB hl' hd (rel.put k qx) dd')
    exact⟨vx,_,I',qx,af _ _ P α (r.put (m':=.dct (yN kvs k x)) q hS (by intro z;cases z) ⟨_,zM,oM px t⟩) (qK.refl _) (Bp _) px⟩
def yA:Ab D→Am (Ab Ak)
 |[]=>Aa []
 |.int i::r=>(yA r).map (i::·)
 |_::_=>none
def sY (ns:Ab Ak):yA (ns.map D.int)=Aa ns:=by
 induction ns with
 |nil=>rfl
 |cons n r ih=>exact congrArg (Option.map (n::·)) ih
def kY:∀ {ds:Ab D} {ns:Ab Ak},yA ds=Aa ns→ds=ns.map D.int
 |[],ns,h=>by cases h;rfl
 |d::r,ns,h=>by
  cases d with
  |int i =>
   obtain⟨m,h1,rfl⟩:=DL.mp (show (yA r).map (i::·)=Aa ns from h)
   rw[kY h1];rfl
  |_=>exact nn h
def uK {K:Al}{P:Hp}:∀ {ns:Ab Ak} {vs:Ab V},qI K P α (ns.map D.int) vs→vs=ns.map V.int
 |[],vs,r=>by rw[r.nil_inv];rfl
 |n::ns,vs,r=>by
  obtain⟨w,ws,rfl,p,t⟩:=r.cons_inv;simp only[Rep] at p;rw[p,uK t];rfl
def tJ:G2:=λa b S=>match a,b with
 |.tup xs,.tup ys=>match yA xs,yA ys with
  |some ns,Aa ms=>.ok (.bl (_H.lexLt ns ms)) S
  |_,_=>.bad
 |_,_=>gLt a b S
end
section
variable {X:Cx}
def iC {pins:Ab (Af × Cr)}{σ:_L.St}{H P:Hp}{s:Ag}{xs:Ab D}{v:V}{vv:Ad}{ns:Ab Ak}(I:Inv X pins σ H s)(r:Rel X.K H P α S)(rv:qP v vv)(p:Rep X.K P α (.tup xs) v)(h:yA xs=Aa ns) :
  ∃ a its,vv=.ref a∧Ml s.heap a (Lo its)∧Iy its ns:=by
 have:=kY h;subst this;obtain⟨a,vs,its,rfl,q1,t1,rv1,h1,l1,_⟩:=yJ I r p;have:=uK t1;subst this;exact⟨a,its,rv,h1,by simpa using pZ rv1⟩
set_option tactic.hygienic true in
def R9 (hu:X.A.units<Du):OpD X (Cc .Lt) tJ:=by
 intro pins σ H s P α S v u vv uu a b Q I r rv ru pa pb af;unfold tJ at af
 split at af
 ·rename_i xs ys
  split at af
  ·rename_i ns ms h1 h2
   obtain⟨a,its,rfl,t1,i1⟩:=iC I r rv pa h1;obtain⟨b,its2,rfl,t2,i2⟩:=iC I r ru pb h2;exact _H.lt_tupInts t1 t2 (by simpa using i1) (by simpa using i2) hu ⟨.bl _,H,I,rfl,xr af r (by simp only[Rep])⟩
  ·exact Ap af
 ·exact PR pins σ H s P α S v u vv uu a b Q I r rv ru pa pb af
end
end _D
namespace _D
open PySem PySem.Spec PyProof.Rows _L PySem.SeqAt
section
variable {X:Cx}{pins:Ab (Af × Cr)}{σ : _L.St}{H P:Hp}{α : Ab Af}{S:Sto}{s:Ag}
inductive Same2 (X:Cx)(P:Hp)(α : Ab Af)(d d':D):Prop
 |eq (h:d=d')
 |tt (xs ys:Ab D) (its:Ab Ad) (ed:d=.tup xs) (ed':d'=.tup ys) (q:Seqs X P α xs ys its its)
 |ll (xs ys:Ab D) (its:Ab Ad) (ed:d=.lst xs) (ed':d'=.lst ys) (q:Seqs X P α xs ys its its)
def B5 {d d':D}{u:Ad}(k1:Kd X P α s d u)(k2:Kd X P α s d' u):Same2 X P α d d':=by
 cases k1 with
 |non=>cases k2;exact .eq rfl
 |bl b=>cases k2;exact .eq rfl
 |int i t=>cases k2;exact .eq rfl
 |str x t=>cases k2;exact .eq rfl
 |tup a xs its vs rp rv h q =>
  cases k2 with
  |tup _ ys its2 ws rp2 rv2 h2 q2 =>
   cases dD h h2;exact .tt xs ys its rfl rfl ⟨vs,ws,rp,rv,rp2,rv2⟩
  |lst _ ys its2 ws rp2 rv2 h2 q2=>exact(ZM h h2).elim
 |lst a xs its vs rp rv h q =>
  cases k2 with
  |lst _ ys its2 ws rp2 rv2 h2 q2 =>
   cases oG h h2;exact .ll xs ys its rfl rfl ⟨vs,ws,rp,rv,rp2,rv2⟩
  |tup _ ys its2 ws rp2 rv2 h2 q2=>exact(ZM h2 h).elim
def sT (I:Inv X pins σ H s)(r:Rel X.K H P α S){m:Ai}(ih:∀ (d d' e:D) (u:Ad),pl m d=true→pl m d'=true→Kd X P α s d u→Kd X P α s d' u→eqD d e=eqD d' e){xs ys zs:Ab D}{its:Ab Ad}(h1:xs.all (pl m)=true)(h2:ys.all (pl m)=true)(q:Seqs X P α xs ys its its):xM xs zs=xM ys zs:=by
 obtain⟨vs,ws,rp,rv,rp2,rv2⟩:=q;have l1:=rp.length.trans rv.length;have l2:=rp2.length.trans rv2.length;rw[v9,v9,l1,l2]
 congr 1
 have key:∀ j∈Cz (min its.length zs.length),eqD (xs.getD j .non) (zs.getD j .non)=eqD (ys.getD j .non) (zs.getD j .non):=λj hj=>by
  have hj':=Ek.mp hj;have hj:j<its.toArray.size:=by rw[Ax];omega
  obtain⟨w1,y1,z1,m1⟩:=yM rp rv hj;obtain⟨w2,y2,z2,m2⟩:=yM rp2 rv2 hj;exact ih _ _ _ _ (yB h1 m1) (yB h2 m2) (vY I r (yB h1 m1) y1 z1) (vY I r (yB h2 m2) y2 z2)
 rw[Nq,Ar,Ar];exact⟨λh j hj=>(key j hj)▸h j hj,λh j hj=>(key j hj).symm▸h j hj⟩
def FF (I:Inv X pins σ H s)(r:Rel X.K H P α S):∀ (n:Ai) (d d' e:D) (u:Ad),pl n d=true→pl n d'=true→Kd X P α s d u→Kd X P α s d' u→eqD d e=eqD d' e:=by
 intro n
 induction n with
 |zero =>
  intro d d' e u h1 h2 k1 k2;cases B5 k1 k2 with
  |eq h=>rw[h]
  |tt _ _ _ ed=>subst ed;exact Df h1
  |ll _ _ _ ed=>subst ed;exact Df h1
 |succ m ih =>
  intro d d' e u h1 h2 k1 k2;cases B5 k1 k2 with
  |eq h=>rw[h]
  |tt xs ys its ed ed' q =>
   subst ed ed';cases e with
   |tup zs=>exact sT I r ih h1 h2 q
   |_=>rfl
  |ll xs ys its ed ed' q =>
   subst ed ed';cases e with
   |lst zs=>exact sT I r ih h1 h2 q
   |_=>rfl
open Classical in
def eOf (X:Cx)(P:Hp)(α : Ab Af)(s:Ag)(xs:Ab D)(d:D)(y:Ad):Aq:=if h:∃ z,z∈xs∧Kd X P α s z y then eqD (Mx h) d else false
def WC (I:Inv X pins σ H s)(r:Rel X.K H P α S){n:Ai}{xs:Ab D}{vs:Ab V}{its:Ab Ad}{d:D}(h:xs.all (pl n)=true)(rp:qI X.K P α xs vs)(rv:qT vs its){j:Ai}(hj:j<its.length):∃ z,z∈xs∧Kd X P α s z its[j]∧eOf X P α s xs d its[j]=eqD z d∧eqD z d=eqD (xs.getD j .non) d:=by
 obtain⟨w,y,z,m⟩:=yM rp rv (j:=j) (by rw[Ax];exact hj)
 have k:=vY I r (yB h m) y z;have ex:∃ z,z∈xs∧Kd X P α s z its[j]:=⟨_,m,k⟩;have hs:=My ex;refine⟨Mx ex,hs.1,hs.2,?_,FF I r n _ _ d _ (yB h hs.1) (yB h m) hs.2 k⟩;unfold eOf;rw[dif_pos ex]
def FD (I:Inv X pins σ H s)(r:Rel X.K H P α S){n:Ai}{xs:Ab D}{vs:Ab V}{its:Ab Ad}{d:D}(h:xs.all (pl n)=true)(rp:qI X.K P α xs vs)(rv:qT vs its):its.map (eOf X P α s xs d)=xs.map λx=>eqD x d:=by
 have l:=rp.length.trans rv.length;refine Na (by rw[Ay,Ay,l]) λj h1 h2=>?_
 rw[Ay] at h1 h2;rw[Ya,Ya];obtain⟨z,_,_,e1,e2⟩:=WC (d:=d) I r h rp rv h1;rw[e1,e2];simp[Hk,h2]
def WD (I:Inv X pins σ H s)(r:Rel X.K H P α S){n:Ai}{A:Bv}{xs:Ab D}{vs:Ab V}{its:Ab Ad}{d:D}{v:V}{u:Ad}(hu:A.units+n<Du)(h:xs.all (pl n)=true)(hd:pl n d=true)(rp:qI X.K P α xs vs)(rv:qT vs its)(p:Rep X.K P α d v)(q:qP v u):∀ y,y∈its.toArray→Zd A s y u (eOf X P α s xs d y):=λy hy=>by
 obtain⟨j,hj,rfl⟩:=Cu.mp (show y∈its by simpa using hy)
 obtain⟨z,hz,k,e1,_⟩:=WC (d:=d) I r h rp rv hj;rw[e1];exact(cI I r n A z d _ u hu (yB h hz) hd k (vY I r hd p q)).eq
def inI (a b:D):Am Aq:=match xI b with
 |some xs=>if xs.all (pl xB)&&pl xB a then Aa (xs.any λx=>eqD x a) else none
 |none=>none
def gIn:G2:=λa b S=>match inI a b with
 |some k=>.ok (.bl k) S
 |none=>.bad
def kW:G2:=λa b S=>match inI a b with
 |some k=>.ok (.bl (!k)) S
 |none=>.bad
def JN {a b:D}{k:Aq}(h:inI a b=Aa k):∃ xs,ItV b xs∧xs.all (pl xB)=true∧pl xB a=true∧k=xs.any λx=>eqD x a:=by
 unfold inI at h;cases e:xI b with
 |none=>rw[e] at h;exact nn h
 |some xs =>
  rw[e] at h;obtain⟨c,rfl⟩:=g9 h;have c':=Er.mp c;exact⟨xs,itV e,c'.1,c'.2,rfl⟩
def P8 (hu:X.A.units+64<Du)(I:Inv X pins σ H s)(r:Rel X.K H P α S){a b:D}{v u:V}{vv uu:Ad}{k:Aq}(rv:qP v vv)(ru:qP u uu)(pa:Rep X.K P α a v)(pb:Rep X.K P α b u)(h:inI a b=Aa k) :
  (∀ {Q:Ad→Ag→Prop} {E:Ad→Ag→Prop},Q (.bool k) s→Ao (Au X.prog X.w) X.A (Cc .In vv uu) Q E s)∧∀ {Q:Ad→Ag→Prop} {E:Ad→Ag→Prop},Q (.bool (!k)) s→Ao (Au X.prog X.w) X.A (Cc .NotIn vv uu) Q E s:=by
 obtain⟨xs,hb,h1,h2,rfl⟩:=JN h;have hu':X.A.in1.units+xB<Du:=by show X.A.units+1+xB<Du;unfold xB;omega
 have any:∀ {vs:Ab V} {its:Ab Ad},qI X.K P α xs vs→qT vs its→its.toArray.any (eOf X P α s xs a)=xs.any λx=>eqD x a:=λrp rvi=>by
  rw[← Array.any_toList];have e:=congrArg (λl=>l.any id) (FD (d:=a) I r h1 rp rvi);rw[Wg,Wg] at e;exact e
 cases hb with
 |tup ed =>
  subst ed;obtain⟨l,ws,its,rfl,sq,t,rvi,ht,_,_⟩:=yJ I r pb;cases (show uu=Cg l from ru)
  have he:=WD I r hu' h1 h2 t rvi pa rv;exact⟨λq=>in_tupleAt (eOf X P α s xs a) ht he (by rw[any t rvi];exact q),λq=>notIn_tupleAt (eOf X P α s xs a) ht he (by rw[any t rvi];exact q)⟩
 |lst ed =>
  subst ed;obtain⟨l,ws,its,n,rfl,sq,t,rvi,ht,_,_⟩:=vV I r pb;cases (show uu=Cg l from ru)
  have hL:s.heap.IsList l its.toArray:=⟨_,ht,rfl,n,rfl⟩;have he:=WD I r hu' h1 h2 t rvi pa rv;exact⟨λq=>in_listAt (eOf X P α s xs a) hL he (by rw[any t rvi];exact q),λq=>notIn_listAt (eOf X P α s xs a) hL he (by rw[any t rvi];exact q)⟩
def A8 (hu:X.A.units+64<Du):OpD X (Cc .In) gIn:=by
 intro pins σ H s P α S v u vv uu a b Q I r rv ru pa pb af;have af1:qQ X P α (match inI a b with|some k=>Res.ok (D.bl k) S|none=>.bad) (OkV X P α Q):=af
 clear af;cases e:inI a b with
 |none=>rw[e] at af1;exact Ap af1
 |some k =>
  rw[e] at af1;exact(P8 hu I r rv ru pa pb e).1 ⟨.bl _,H,I,rfl,xr af1 r (by simp only[Rep])⟩
def KB (hu:X.A.units+64<Du):OpD X (Cc .NotIn) kW:=by
 intro pins σ H s P α S v u vv uu a b Q I r rv ru pa pb af;have af1:qQ X P α (match inI a b with|some k=>Res.ok (D.bl (!k)) S|none=>.bad) (OkV X P α Q):=af
 clear af;cases e:inI a b with
 |none=>rw[e] at af1;exact Ap af1
 |some k =>
  rw[e] at af1;exact(P8 hu I r rv ru pa pb e).2 ⟨.bl _,H,I,rfl,xr af1 r (by simp only[Rep])⟩
end
end _D
namespace _D
open PySem PySem.Spec PyProof.Rows _L
variable {a:Af}
section
variable {K:Al}{H P:Hp}{α : Ab Af}{S:Sto}
def Rel.still {n:Ai}{m:MO}{o:HO}(r:Rel K H P α S)(ha:α[n]? = Aa a)(hs:S[n]? = Aa m)(hd:m≠.dead):Rel K (upd H a o) (upd P a o) α (S.set n .dead)∧qK P (upd P a o):=by
 have hP:=r.sep n a m ha hs hd;have sP:qK P (upd P a o):=bD hP;have r1:=r.put (o:=o) (m':=.dead) ha hs hd trivial;have hn:n<S.length:=(Bb.mp hs).1;refine⟨⟨λb u e=>?_,r1.len,r1.nd,λi b u q1 q2 q3=>?_,λi b u q1 q2=>(r1.at' i b u q1 q2).mono sP (Bp _),r1.own⟩,sP⟩
 ·by_cases hb:b=a
  ·subst hb;rw[zM] at e ⊢;exact e
  ·rw[qV hb] at e ⊢;exact r.sub _ _ e
 ·have hb:b≠a:=by
   rintro rfl;have:=rC r.nd q1 ha;subst this;rw[Dk hn] at q2;cases q2;exact q3 rfl
  rw[qV hb];exact r1.sep i b u q1 q2 q3
end
def Itv (a:Af)(o:Cr)(vs:Ab V):It:=
 ⟨λi H=>(∃ u,H a=Aa (.frz o u))∧i<vs.length,λi H x H'=>H'=H∧vs[i]? = Aa x,λi H=>(∃ u,H a=Aa (.frz o u))∧vs.length≤i⟩
def VT {P:Bg}{w:By}{K:Al}{tg:Bx}{it:Af}{o:Cr}{vs:Ab (Key × V)}{us:Ab (Key × Ad)}{ep:Ai}(kv:KV vs us)(at':∀ h:Bk,h.get? a=Aa o→h.DictAt (xF P w) a us ep) :
  Turn P w K tg (Itv a o (vs.map (·.2))) [it] it (λi h=>h.IsValIter it a i us.length ep) where
 mem:=by simp
 obj:=λi h st b hb=>by
  have e:b=it:=by simpa using hb
  subst e;obtain⟨o,e,c,d⟩:=st;exact⟨o,e,λv z=>by rw[d] at z;cases z⟩
 keep:=λi h h' st k=>st.at λo e=>k it (by simp) o e
 item:=by
  intro X hP hw hK hc i pins s σ H E I hf st hg;subst hP hw hK;obtain⟨⟨u0,hu⟩,hlt⟩:=hg;have ho:s.heap.get? a=Aa o:=(I.hok a _ hu).1;have hlt':i<vs.length:=by simpa using hlt
  have get:∀ {vs:Ab (Key × V)} {us:Ab (Key × Ad)},KV vs us→∀ {i:Ai} (h:i<vs.length),∃ k u,us[i]? = Aa (k,u)∧qP (vs[i]).2 u:=by
   intro vs us kv
   induction kv with
   |nil=>intro i h;simp at h
   |cons z t ih =>
    intro i h;cases i with
    |zero=>exact⟨_,_,rfl,z.2⟩
    |succ i =>
     obtain⟨k,u,e1,e2⟩:=ih (i:=i) (by simpa using h)
     exact⟨k,u,by simpa using e1,by simpa using e2⟩
  obtain⟨k,u,e1,e2⟩:=get kv hlt';obtain⟨f0,f1,f2,f3,f4,f5⟩:=hf it (by simp)
  refine wpAny_pyNext_values_item st (at' _ ho) e1 λh' st' sb=>?_;have I1:Inv X pins σ H { s with heap:=h' }:=I.turned (t':=s.toks) (λb o hb e=>(sb.2 b hb).trans e) f0 f1 f3 f4 f5
  obtain⟨oi,ei,c,d⟩:=id st';exact⟨u,rfl,eG (s:={ s with heap:=h' }) ei c d (by decide) ⟨(vs[i]).2,H,I1,e2,⟨rfl,by simp[hlt']⟩,st',λb hb=>(hf b hb).1⟩⟩
 done:=by
  intro X hP hw hK hc i pins s σ H E I hf st hg;subst hP hw hK;obtain⟨⟨u0,hu⟩,hle⟩:=hg;have ho:s.heap.get? a=Aa o:=(I.hok a _ hu).1;obtain⟨f0,f1,f2,f3,f4,f5⟩:=hf it (by simp)
  have hl:=kv.length;have hle':us.length≤i:=by rw[← hl];simpa using hle
  exact wpAny_pyNext_values_end (I.ok.hd hc) st (at' _ ho) (by simp;omega) λh' eb=>⟨rfl,I.turned (t':=s.toks) (λb o hb e=>eb b o hb e) f0 f1 f3 f4 f5⟩
 self:=λ_ _ _ _ _ st h=>wpAny_pyIter_valiter st h
def pU (f:DE):DI:=λenv S=>(f env S).bind λd S1=>match d with
 |.loc n=>match S1[n]? with
  |some (.dct kvs)=>.ok (kvs.map (·.2)) (S1.set n .dead)
  |_=>.bad
 |_=>.bad
def oN {K:Al}{P:Hp}{α:Ab Af}:∀ {kvs:Ab (Key × D)} {vs:Ab (Key × V)},KVs K P α kvs vs→qI K P α (kvs.map (·.2)) (vs.map (·.2))
 |_,_,.nil=>.nil
 |_,_,.cons z t=>.cons z.2 (oN t)
def JR {K:Al}{P:Hp}{α:Ab Af}{o:Cr}{u:HO}{ds:Ab D}{vs:Ab V}(q:P a=Aa (.frz o u))(t:qI K P α ds vs):ItD K (Itv a o vs) P α ds where
 go:=λi H P1 α1 S hi r e _=>⟨⟨u,r.sub _ _ (e _ _ q)⟩,by rw[← t.length];exact hi⟩
 yld:=λi H x H' P1 α1 S hi r e e2 y=>by
  obtain⟨rfl,hx⟩:=y;obtain⟨v,h1,h2⟩:=t.get (An hi);rw[hx] at h1;cases h1;exact⟨P1,_,An hi,r,qK.refl _,Rep.mono e e2 _ _ h2⟩
 stop:=λi H P1 α1 S hi r e _=>⟨⟨u,r.sub _ _ (e _ _ q)⟩,by rw[← t.length];exact hi⟩
section
variable {X:Cx}{tg o:Bx}{fo:DE}{apos cpos:Fa}
def VX {S:Sto}{n:Ai}{kvs:Ab (Key × D)}(h:S[n]? = Aa (.dct kvs)):tyD (.loc n) S=Aa "dict":=by
 show (match S[n]? with|some (.lst _)=>Aa "list" | some (.dct _)=>Aa "dict" | _=>none)=_
 rw[h]
set_option tactic.hygienic true in
def F6 (ho:PE X o (tD X fo))(hbase:Qh o "values" X.env (eval o X.env)=eval o X.env:=by rfl)(hline:(apos.endLine == cpos.line)=true:=by rfl):PI X tg (.Call (.Attribute o "values" apos) [] [] cpos) (tDI X (pU fo)):=by
 intro pins s σ H R I h;obtain⟨P,α,env,S,r,re,af⟩:=h;refine wpAny_Call_method0_late hbase hline (thn (zZ ho I r re af) λvv s1 ⟨v,H1,P1,α1,d,S1,G1,af1⟩=>?_);cases d with
 |loc n =>
  simp only at af1
  split at af1
  ·rename_i kvs hS
   have rp:=G1.rep;have I1:=G1.inv;have r1:=G1.rel;have ht:tyD (.loc n) S1=Aa "dict":=VX hS;obtain⟨h1,h2⟩:=VV I1 G1.val (VW r1 rp ht (by simp))
   simp only[Rep] at rp;obtain⟨a,rfl,ha⟩:=rp;cases (show vv=Cg a from G1.val)
   obtain⟨vs,z,t⟩:=r1.at' n a _ ha hS;obtain⟨hz,hd,us,rel,dd⟩:=ZG I1.hok z;refine⟨"dict","dict.values",Lp,Qv,PySem.F.type_dict_values,h1,h2,Sr rfl (PySem.evalArgs_none ?_)⟩;refine call_meetsIn Qv dd.typeIs PySem.F.entry_dict_values (PySem.F.args_dict_values_1 _) (meets_dict_values (xF X.prog X.w) a hd) ⟨⟨us,dd⟩,?_⟩;obtain⟨ep,oa,es,hoa,rest⟩:=dd.dictAt;have at':∀ h:Bk,h.get? a=Aa oa→h.DictAt (xF X.prog X.w) a us ep:=λh e=>⟨oa,es,e,rest⟩;have hne:s1.heap.objs.size≠a:=Gp (AT hoa);obtain⟨r2,e2⟩:=r1.still (o:=.frz oa (.dK vs)) ha hS (by intro q;cases q)
   have I2:Inv X pins σ (upd H1 a (.frz oa (.dK vs))) { s1 with heap:=s1.heap,toks:=s1.toks }:=I1.write (x:=a) (e:=a) (by rw[z];exact Ig) (.inl rfl) (λb q hb e=>e) ⟨oa,hoa⟩ ⟨hoa,hz,hd,us,rel,dd⟩
   have I3:=I2.kept (t':=s1.toks) (h':=s1.heap.push { cls:=.type "dict_values",data:=.fields #[.ref a] }) λb u e=>Ah _ e;refine wpAny_pyIter_values (s:={ s1 with heap:=s1.heap.push { cls:=.type "dict_values",data:=.fields #[.ref a] } }) (knd:=xF X.prog X.w) (d:=a) (kvs:=us) (ep:=ep) ⟨_,Ba _ rfl,rfl,rfl⟩ (at' _ (Ah _ hoa)) ?_
   have I4:=I3.kept (t':=s1.toks) (h':=(s1.heap.push { cls:=.type "dict_values",data:=.fields #[.ref a] }).push { cls:=.type "dict_valueiterator",data:=.fields #[.ref a,.int 0 0,.int us.length 0,.int ep 0] }) λb u e=>Ah _ e;refine⟨_,[_],_,_,_,rfl,I4,VT rel at',⟨_,Ba _ rfl,rfl,rfl⟩,λb hb=>?_,af1 _ _ _ α1 r2 (G1.same.trans e2) G1.pre (JR (u:=.dK vs) zM (qI.mono e2 (Bp _) _ _ (oN t)))⟩;have e:b=(s1.heap.push { cls:=.type "dict_values",data:=.fields #[.ref a] }).objs.size:=by simpa using hb
   subst e;exact I3.fpOk (Aw _) (I3.hok.fresh (Aw _))
  ·exact Ap af1
 |_=>exact Ap af1
end
section
variable {X:Cx}
def pV:G2:=λa b S=>match a,b with
 |.lst xs,.int k=>if 0≤k∧k<2 ^ 62∧xs.length*k.toNat≤lim then .ok (.lst (Cd k.toNat xs).flatten) S else .bad
 |_,_=>w9 a b S
def tS {K:Al}{P:Hp}{α:Ab Af}{ds:Ab D}{vs:Ab V}(r:qI K P α ds vs):∀ k:Ai,qI K P α (Cd k ds).flatten (Cd k vs).flatten
 |0=>by simpa using qI.nil
 |k+1=>by
  rw[EQ,EQ,Hj,Hj];exact r.append (tS r k)
inductive MulV (a b:D)(S:Sto):Prop
 |old (e:pV a b S=w9 a b S)
 |of (xs:Ab D) (k:Ak) (ea:a=.lst xs) (eb:b=.int k)
def OX (a b:D)(S:Sto):MulV a b S:=by
 cases a with
 |lst xs=>cases b with
  |int k=>exact .of xs k rfl rfl
  |_=>exact .old rfl
 |_=>exact .old rfl
def oX:OpD X (Eh .Mult) pV:=by
 intro pins σ H s P α S v u vv uu a b Q I r rv ru pa pb af;cases OX a b S with
 |old e =>
  rw[e] at af;exact oY pins σ H s P α S v u vv uu a b Q I r rv ru pa pb af
 |of xs k ea eb =>
  subst ea eb;obtain⟨hk,af⟩:=vU (X:=X) af;obtain⟨h1,h2,hz⟩:=hk;obtain⟨l,vs,its,n,rfl,q1,t1,rv1,e,l1,_⟩:=vV I r pa;cases (show vv=Cg l from rv)
  have:=wL pb;subst this;obtain⟨t,rfl⟩:=ru;have hl:its.length=vs.length:=rv1.length.symm;have hlen:its.toArray.size*k.toNat≤sizeLine:=by rw[Ax,← l1,← xJ];exact hz
  have hcap:¬ its.toArray.size*k.toNat>(2 ^ 63-1)/8:=by
   have:(sizeLine:Ai)≤(2 ^ 63-1)/8:=by decide
   omega
  have hfit:¬ (!Builtin.List.listFitsIndex k)=true:=by
   rw[fitsIndex_both om om];exact Fy
  have hlong:¬ Lg (its.toArray.size*k.toNat)=true:=by
   rw[K9 hlen];exact Fy
  have hnew:Oc (λx1 x2=>x1++x2) #[] (Cd (if its.toArray.isEmpty=true then 0 else k.toNat) its.toArray)=(Cd k.toNat its).flatten.toArray:=by
   have f0:∀ m:Ai,Oc (λx1 x2=>x1++x2) #[] (Cd m its.toArray)=(Cd m its).flatten.toArray:=λm=>by
    have:=gQ its m [];rw[Ik] at this;exact this
   rw[f0];cases its with
   |nil=>simp
   |cons a r'=>rw[Be (by simp)]
  refine Qk (T:="list") (U:="int") (by decide) ⟨_,e,rfl⟩ (λs'=>Rg s' k t) noFill_list_mul Yr Nr repeat_list Yb.lookup
   (Ks Nr (Rg s k t) Yc (Xb _ _) (int___rmul___int_list k t l its.toArray n)
    ⟨e,rfl,⟨_,e,rfl⟩,Ks F.slot_list_mul ⟨_,e,rfl⟩ F.entry_list_mul (F.args_list_mul_2 _ _) (AutoListH.list___mul___list_int_3 l its.toArray n k t hfit hcap hlong) ⟨e,?_⟩⟩)
  rw[hnew];exact cX I r (tS t1 k.toNat) (rv1.rep k.toNat) (by rw[dG,Wi];exact hz) af
def UA:Fv "set" = Aa (.type "set"):=by decide +kernel
variable {e:Bx}{fa:DE}{p1 p2 pos1 pos2:Fa}
end
structure QI2 (X:Cx)(tg it:Bx)(f:DI2):Prop where
 get:PI X tg it (tDI2 X f)
structure QK (Y:Cx)(step:Ad→Nd Sh)(k:DK):Prop where
 get:PK Y step k
section
variable {X Y:Cx}{tg it e o elt iter ie:Bx}{es ifs rest:Ab Bx}{fa fo fe fi:DE}{fA:DA}{fI:DI}{f2:DI2}{g:DG}{t:DT}{kk:DK}{p pos:Fa}{n k:Ai}{x:As}{cm:Aq}{F:DF}{f:DS}{gens grest:Ab Fk}{scope:Gb}{N':Ab As}{cap:Ab (Am Ai)}{mm:Aq}
def EH (h:QI X tg it fI):QI2 X tg it (wB fI):=⟨F5 h.1⟩
def EG (h:QE X e fa):QI2 X tg e (dIt fa):=⟨CD h.1⟩
def T9 {e1:Bx}{elts:Ab Bx}{x1:Ai}{tpos:Fa}(hg:Gl X "enumerate")(hm:X.mg "enumerate" = none)(ha:QA X [e1] fA)(hs:Bh [e1] X.env=(false,eval e1 X.env)::Bh [] X.env:=by rfl)(hpl:(Gf pos (Bh [] X.env)).any (·.1)=false:=by rfl) :
  QI X (.Tuple elts x1 tpos) (.Call (.Name "enumerate" p) [e1] [] pos) (n8 fA):=⟨F4 hg hm ha.1 hs hpl⟩
def TB {apos:Fa}(ho:QE X o fo)(hbase:Qh o "values" X.env (eval o X.env)=eval o X.env:=by rfl)(hline:(apos.endLine == pos.line)=true:=by rfl):QI X tg (.Call (.Attribute o "values" apos) [] [] pos) (pU fo):=⟨F6 ho.1 hbase hline⟩
def TC (hx:Y.xe=λ_ _=>Fe)(hlast:gens[k+1]? = none)(he:QE Y elt fe):QK Y (λacc=>wJ elt gens scope pos k acc Y.env) (zD fe):=⟨MQ hx hlast he.1⟩
def KN (hc:X.calm=true)(S:CompSc X.env.scope X.N scope N' cap)(hi:QI2 X tg iter f2)(hg:∀ cl C ex s₀ H₀,QG (zL X N' scope cl C ex s₀ H₀) tg g)(ht:∀ cl C ex s₀ H₀,QTs (zL X N' scope cl C ex s₀ H₀) ifs t)
  (has:∀ g',(⟨tg,iter,ifs,0⟩::grest:Ab Fk)[0+1]? = Aa g'→g'.is_async=0)
  (he:∀ cl C ex s₀ H₀,QK (zL X N' scope cl C ex s₀ H₀) (λacc=>wJ elt (⟨tg,iter,ifs,0⟩::grest) scope pos 0 acc (zL X N' scope cl C ex s₀ H₀).env) kk) (hs:∀ x,Fo iter X.env x=pure x) :
  QE X (.ListComp elt (⟨tg,iter,ifs,0⟩::grest) scope pos) (qX mm cap f2 g t kk):=
 ⟨US hc S hi.1 (λcl C ex s H=>(hg cl C ex s H).1) (λcl C ex s H=>(ht cl C ex s H).1) has (λcl C ex s H=>(he cl C ex s H).1) hs⟩
def KQ {m:Ai}{y:As}{py spos:Fa}(hc:X.calm=true)(hN:X.N.Nodup)(S:CompSc X.env.scope X.N scope N' cap)(hi:QI2 X tg iter f2)(hg:∀ cl C ex s₀ H₀,QG (zL X N' scope cl C ex s₀ H₀) tg g)(ht:∀ cl C ex s₀ H₀,QTs (zL X N' scope cl C ex s₀ H₀) ifs t)
  (has:∀ g',(⟨tg,iter,ifs,0⟩::grest:Ab Fk)[0+1]? = Aa g'→g'.is_async=0)
  (he:∀ cl C ex s₀ H₀,QK (zL X N' scope cl C ex s₀ H₀) (λacc=>wJ elt (⟨tg,iter,ifs,0⟩::grest) scope pos 0 acc (zL X N' scope cl C ex s₀ H₀).env) kk) (hy:X.N[m]? = Aa y) (hyl:Loc X.env.scope y) (hf:X.fn y=true∨X.env.scope.names.lookup y=Aa .local)
  (hsw:Mb (.ListComp elt (⟨tg,iter,ifs,0⟩::grest) scope pos) (Aa (.Name y py)) spos.line X.env=pure true) (hs:∀ x,Fo iter X.env x=pure x):QS X (.Assign [.Name y py] (.ListComp elt (⟨tg,iter,ifs,0⟩::grest) scope pos) spos) (zC (qX mm cap f2 g t kk) (gNm m)):=
 ⟨J2 hc hN S hi.1 (λcl C ex s H=>(hg cl C ex s H).1) (λcl C ex s H=>(ht cl C ex s H).1) has (λcl C ex s H=>(he cl C ex s H).1) hy hyl hf hsw hs⟩
def GL:ZMt X "dict.setdefault" yE:=⟨YF⟩
def IU (hr:RoomC cm k X.A):ZOp X (Cc .Lt) tJ:=⟨R9 (by have:=hu1 hr;omega)⟩
def HL:ZOp X (Eh .Mult) pV:=⟨oX⟩
end
def uF (H:Hp):Ab (Af × HO)→Hp
 |[]=>H
 |p::ps=>uF (upd H p.1 p.2) ps
def mQ {b:Af}:∀ {L:Ab (Af × HO)} {H:Hp},b ∉ L.map (·.1)→uF H L b=H b
 |[],_,_=>rfl
 |p::ps,H,h=>by
  simp only[Dj,Av,Rj] at h;show uF (upd H p.1 p.2) ps b=H b;rw[mQ h.2,qV h.1]
def iF {o:HO}:∀ {L:Ab (Af × HO)} {H:Hp},(L.map (·.1)).Nodup→(a,o)∈L→uF H L a=Aa o
 |p::ps,H,nd,h=>by
  simp only[Dj,Jl] at nd;show uF (upd H p.1 p.2) ps a=Aa o;rcases Av.mp h with rfl|h
  ·rw[mQ nd.1,zM]
  ·exact iF nd.2 h
def iE {b:Af}{u:HO}:∀ {L:Ab (Af × HO)} {H:Hp},uF H L b=Aa u→(b,u)∈L∨H b=Aa u
 |[],_,h=>.inr h
 |p::ps,H,h=>by
  rcases iE (L:=ps) (H:=upd H p.1 p.2) h with h|h
  ·exact .inl (Bu _ h)
  ·by_cases hb:b=p.1
   ·subst hb
    rw[zM] at h;cases h;exact .inl (Dd ..)
   ·rw[qV hb] at h
    exact .inr h
section
variable {K:Al}
def Rel.pureL {α:Ab Af}{S:Sto}:∀ {L:Ab (Af × HO)} {H P:Hp},(∀ p∈L,H p.1=none)→(L.map (·.1)).Nodup→Rel K H P α S→Rel K (uF H L) (uF P L) α S∧qK P (uF P L)
 |[],_,_,_,_,r=>⟨r,qK.refl _⟩
 |p::ps,H,P,hn,nd,r=>by
  simp only[Dj,Jl] at nd;obtain⟨r1,e1⟩:=r.pure (o:=p.2) (hn p (Dd ..));obtain⟨r2,e2⟩:=Rel.pureL (L:=ps) (λq hq=>by
   have:q.1≠p.1:=λe=>nd.1 (e▸Cw.mpr ⟨q,hq,rfl⟩);rw[qV this];exact hn q (Bu _ hq)) nd.2 r1
  exact⟨r2,e1.trans e2⟩
end
section
variable {X:Cx}{pins:Ab (Af × Cr)}{σ : _L.St}{H:Hp}{s:Ag}
def Inv.laidL {L:Ab (Af × HO)}{h':Bk}{t':Ai}(I:Inv X pins σ H s)(k:∀ b u,s.heap.get? b=Aa u→h'.get? b=Aa u)(hp:∀ p∈L,s.heap.objs.size≤p.1)(new:∀ p∈L,zV X.prog X.w (uF H L) h' p.1 p.2) :
  Inv X pins σ (uF H L) { s with heap:=h',toks:=t' }:=by
 have old:∀ b u,H b=Aa u→uF H L b=Aa u:=λb u e=>by
  rw[mQ (L:=L)]
  ·exact e
  ·intro hb
   obtain⟨p,hp',rfl⟩:=Cw.mp hb;rw[I.hok.fresh (hp p hp')] at e;cases e
 have low:∀ b,b<s.heap.objs.size→uF H L b=H b:=λb hb=>mQ λhm=>by
  obtain⟨p,hp',rfl⟩:=Cw.mp hm;exact absurd (Bn hb (hp p hp')) (Ef _)
 refine I.un ⟨λb u q _ _ _=>k b u q,λb u q _ _ _=>⟨u.slots,k b u q⟩,λb u q n _=>by rw[low b (AT q)];exact n,λb u q _=>⟨u,k b u q⟩,λb xs q=>old b _ q,λb o xs q=>old b _ q,λb ps q=>⟨#[],by rw[old b _ q];simp⟩⟩ λb u e=>?_
 rcases iE e with hm|hb
 ·exact new (b,u) hm
 ·exact(I.hok b u hb).stay (λc v _ q=>k c v q) (λc q=>old c _ q) λc xs q=>old c _ q
end
section
variable {X:Cx}{cm:Aq}{k:Ai}
def qAS (hr:RoomC cm k X.A):ZOp X (Cc .In) gIn:=⟨A8 hr.units⟩
def NK (hr:RoomC cm k X.A):ZOp X (Cc .NotIn) kW:=⟨KB hr.units⟩
end
end _D
namespace _S
open PySem
variable {mask:Ai}{xs:Bj Ai}
def Rs (xs:Bj Ai):Prop:=xs.toList.Pairwise (· < ·)
def Rs.lt (h:Rs xs){a b:Ai}{x y:Ai}(hab:a<b)(ha:xs[a]? = Aa x)(hb:xs[b]? = Aa y):x<y:=by
 obtain⟨h1,e1⟩:=Dt.mp ha;obtain⟨h2,e2⟩:=Dt.mp hb;have:=Ql.mp h a b (by simpa using h1) (by simpa using h2) hab
 rw[← e1,← e2];simpa using this
def getD_some {i x d:Ai}(h:xs[i]? = Aa x):xs.getD i d=x:=by
 obtain⟨h1,e1⟩:=Dt.mp h;simp[Ih,h1,e1]
structure Bel (xs:Bj Ai)(j p:Ai):Prop where
 le:p≤xs.size
 lo:∀ i x,i<p→xs[i]? = Aa x→x<j
 hi:∀ i x,p≤i→xs[i]? = Aa x→j≤x
set_option tactic.hygienic true in
def tF (h:Rs xs)(j:Ai):∀ (fuel lo hi:Ai),hi-lo≤fuel→lo≤hi→hi≤xs.size →
  (∀ i x,i<lo→xs[i]? = Aa x→x<j)→(∀ i x,hi≤i→xs[i]? = Aa x→j≤x)→Bel xs j (Xc xs j fuel lo hi)
 |0,lo,hi,h1,h2,h3,h4,h5=>by
  have:lo=hi:=by omega
  subst this;exact⟨h3,h4,h5⟩
 |fuel+1,lo,hi,h1,h2,h3,h4,h5=>by
  unfold Xc;by_cases hlt:lo<hi
  ·rw[Bd hlt]
   have hm:(lo+hi)/2<xs.size:=by omega
   have e:xs[(lo+hi)/2]? = Aa xs[(lo+hi)/2]:=Dz hm;simp only[getD_some e]
   split
   ·rename_i hc
    refine tF h j fuel _ hi (by omega) (by omega) h3 (λi x hi' ex=>?_) h5
    by_cases q:i=(lo+hi)/2
    ·subst q;rw[e] at ex;cases ex;exact hc
    ·exact Ln (h.lt (by omega) ex e) hc
   ·rename_i hc
    refine tF h j fuel lo _ (by omega) (by omega) (by omega) h4 (λi x hi' ex=>?_)
    by_cases q:i=(lo+hi)/2
    ·subst q;rw[e] at ex;cases ex;omega
    ·have:=h.lt (show (lo+hi)/2<i by omega) e ex
     omega
  ·rw[Be hlt]
   have:lo=hi:=by omega
   subst this;exact⟨h3,h4,h5⟩
def kS (h:Rs xs)(j:Ai):Bel xs j (Cf xs j):=
 tF h j _ _ _ (by omega) (by omega) (Aw _) (λi x hi=>by omega) λi x hi ex=>by
  have:=(Dt.mp ex).1;omega
def tE (h:Rs xs){i j:Ai}(e:xs[i]? = Aa j):Cf xs j=i:=by
 have b:=kS h j;have hi:=(Dt.mp e).1;by_cases h1:Cf xs j<i
 ·have e2:xs[Cf xs j]? = Aa xs[Cf xs j]:=Dz (by omega)
  have:=h.lt h1 e2 e;have:=b.hi _ _ (Aw _) e2;omega
 ·by_cases h2:i<Cf xs j
  ·have:=b.lo _ _ h2 e
   omega
  ·omega
def Z2 (h:Rs xs){i j:Ai}(e:xs[i]? = Aa j):Cf xs (j+1)=i+1:=by
 have b:=kS h (j+1);have hi:=(Dt.mp e).1;have h1:i<Cf xs (j+1):=by
  apply Fl;intro q;have:=b.hi _ _ (by omega) e
  omega
 by_cases h2:i+1<Cf xs (j+1)
 ·have hz:i+1<xs.size:=by have:=b.le;omega
  have e2:xs[i+1]? = Aa xs[i+1]:=Dz hz;have:=b.lo _ _ h2 e2;have:=h.lt (Jd i) e e2;omega
 ·omega
def Z3 (h:Rs xs):Cf xs 0=0:=by
 have b:=kS h 0;apply Fl;intro q;have hz:0<xs.size:=by have:=b.le;omega
 have e2:xs[0]? = Aa xs[0]:=Dz hz;have:=b.lo _ _ (by omega) e2
 omega
structure Tb (t:Fm):Prop where
 rs:Rs t.place
 dm:t.dummies=#[]
def oB (j:Ai):Wj #[] j=false:=by simp[Wj]
def rM {t:Fm}(T:Tb t){i j:Ai}(e:t.place[i]? = Aa j):t.slot j=.live i:=by
 unfold o0;simp only[tE T.rs e,e];simp
def X5 {t:Fm}(T:Tb t)(j:Ai):(∃ i,t.slot j=.live i∧t.place[i]? = Aa j)∨(t.slot j=.empty∧j ∉ t.place.toList):=by
 by_cases h:j∈t.place.toList
 ·obtain⟨i,hi,e⟩:=Cu.mp h
  have e':t.place[i]? = Aa j:=by rw[← Ca,An hi,e]
  exact .inl ⟨i,rM T e',e'⟩
 ·refine .inr ⟨?_,h⟩
  unfold o0;simp only[T.dm,oB];rw[Be,Be (by simp)]
  intro q;apply h;have:t.place[Cf t.place j]? = Aa j:=by simpa using q
  obtain⟨h1,e1⟩:=Dt.mp this;rw[← e1];simp
def VJ (h:Rs xs){j:Ai}(hj:j ∉ xs.toList):Rs (Bw xs (Cf xs j) j):=by
 have b:=kS h j;unfold Rs;rw[Qw];have key:∀ (i:Ai) (x:Ai),xs.toList[i]? = Aa x→(i<Cf xs j→x<j)∧(Cf xs j≤i→j<x):=λi x e=>by
  have e':xs[i]? = Aa x:=by rw[← Ca];exact e
  refine⟨λq=>b.lo _ _ q e',λq=>?_⟩;have h1:=b.hi _ _ q e';have:x≠j:=by
   rintro rfl;exact hj (Cn e)
  omega
 have tk:∀ x∈xs.toList.take (Cf xs j),x<j:=λx hx=>by
  obtain⟨i,hi,e⟩:=Cu.mp hx;rw[Fn] at hi;rw[List.getElem_take] at e;exact(key i x (by rw[An (by omega),e])).1 (by omega)
 have dr:∀ x∈xs.toList.drop (Cf xs j),j<x:=λx hx=>by
  obtain⟨i,hi,e⟩:=Cu.mp hx;rw[Gn] at hi;rw[List.getElem_drop] at e;exact(key (Cf xs j+i) x (by rw[An (by omega),e])).2 (by omega)
 rw[Kh,Dl];refine⟨List.Pairwise.take h,⟨dr,List.Pairwise.drop h⟩,λx hx y hy=>?_⟩;rcases Av.mp hy with rfl|hy
 ·exact tk x hx
 ·exact Ln (tk x hx) (dr y hy)
def nM {α:Type}(xs:Bj α){p:Ai}(hp:p≤xs.size)(x:α)(i:Ai):(Bw xs p x)[i]? = if i<p then xs[i]? else if i=p then Aa x else xs[i-1]?:=by
 rw[← Ca,Qw];have hl:(xs.toList.take p).length=p:=by simp;omega
 by_cases h1:i<p
 ·rw[Bd h1,Bl (by omega),Qr h1,Ca]
 ·rw[Be h1,Eb (by omega),hl]
  by_cases h2:i=p
  ·subst h2;simp
  ·rw[Be h2]
   obtain⟨k,hk⟩:∃ k,i-p=k+1:=⟨i-p-1,by omega⟩
   rw[hk,List.getElem?_cons_succ,List.getElem?_drop,Ca]
   congr 1;omega
def jR {α:Type}(xs:Bj α)(p:Ai)(x:α):(Bw xs p x).size=xs.size+1:=by
 have:=(Hu xs p x).length_eq;simpa using this
def E1 {t:Fm}(T:Tb t){j:Ai}(hj:j ∉ t.place.toList):Tb (t.put j).1:=by
 refine⟨VJ T.rs hj,?_⟩;show (if Wj t.dummies j then _ else t.dummies)=#[]
 rw[T.dm,oB];rfl
open PySem.SetTable (Probe leap runEnd turns bits)
def adv (mask:Ai)(p:Mc):Mc:=if p.more>0 then { p with j:=p.j+1,more:=p.more-1 } else { p with j:=(leap mask p.i p.perturb).1,more:=Gy mask (leap mask p.i p.perturb).1-(leap mask p.i p.perturb).1,i:=(leap mask p.i p.perturb).1,perturb:=(leap mask p.i p.perturb).2 }
def NU (t:Fm)(p:Mc):t.advance p=adv t.mask p:=rfl
def it (mask:Ai):Ai→Mc→Mc
 |0,p=>p
 |n+1,p=>it mask n (adv mask p)
def mD (mask:Ai):∀ (n:Ai) (p:Mc),it mask (n+1) p=adv mask (it mask n p)
 |0,p=>rfl
 |n+1,p=>mD mask n (adv mask p)
def nP (mask:Ai):∀ (m n:Ai) (p:Mc),it mask (m+n) p=it mask n (it mask m p)
 |0,n,p=>by rw[Wk];rfl
 |m+1,n,p=>by rw[Ph];exact nP mask m n (adv mask p)
def rs (mask i pert:Ai):Mc:={ j:=i,more:=Gy mask i-i,i,perturb:=pert,dummy:=none }
def st (mask:Ai)(h:Ak):Mc:=rs mask (bits h % (mask+1)) (bits h)
def ID (t:Fm)(h:Ak):t.probeStart h=st t.mask h:=rfl
def fF (mask i pert:Ai):∀ k,k≤Gy mask i-i→it mask k (rs mask i pert)={ j:=i+k,more:=Gy mask i-i-k,i,perturb:=pert,dummy:=none }
 |0,_=>rfl
 |k+1,hk=>by
  rw[mD,fF mask i pert k (by omega)]
  unfold adv;rw[Bd (by show Gy mask i-i-k>0;omega)]
  simp only[Probe.mk.injEq,and_true,true_and];omega
def oH (mask i pert:Ai):it mask (Gy mask i-i+1) (rs mask i pert)=rs mask (leap mask i pert).1 (leap mask i pert).2:=by
 rw[mD,fF mask i pert _ (Aw _)];unfold adv;rw[Be (by show ¬ (Gy mask i-i-(Gy mask i-i)>0);omega)]
 rfl
def ES (mask i:Ai):Gy mask i-i+1≤10:=by
 unfold Gy
 split <;> omega
def lp (mask:Ai):Ai→Ai × Ai→Ai × Ai
 |0,q=>q
 |n+1,q=>lp mask n (leap mask q.1 q.2)
def Y8 (mask:Ai):∀ (m n:Ai) (q:Ai × Ai),lp mask (m+n) q=lp mask n (lp mask m q)
 |0,n,p=>by rw[Wk];rfl
 |m+1,n,p=>by rw[Ph];exact Y8 mask m n _
def PD (mask:Ai):∀ (n i pert:Ai),∃ k,k≤10*n∧it mask k (rs mask i pert)=rs mask (lp mask n (i,pert)).1 (lp mask n (i,pert)).2
 |0,i,pert=>⟨0,by omega,rfl⟩
 |n+1,i,pert=>by
  obtain⟨k,hk,e⟩:=PD mask n (leap mask i pert).1 (leap mask i pert).2;refine⟨(Gy mask i-i+1)+k,by have:=ES mask i;omega,?_⟩
  rw[nP,oH,e];rfl
def oR (mask:Ai):∀ (n i pert:Ai),(lp mask n (i,pert)).2=pert/32 ^ n
 |0,i,pert=>by simp[lp]
 |n+1,i,pert=>by
  show (lp mask n ((leap mask i pert).1,pert/32)).2=_;rw[oR mask n _ (pert/32),Nat.div_div_eq_div_mul,← Nat.pow_succ']
def dF (mask i pert:Ai):(leap mask i pert).1≤mask:=Jx (Oh _ (Kf _))
def PJ (mask:Ai):∀ (n i pert:Ai),i≤mask→(lp mask n (i,pert)).1≤mask
 |0,i,pert,h=>h
 |n+1,i,pert,h=>PJ mask n _ _ (dF mask i pert)
def iS (h:Ak):bits h<2 ^ 64:=by
 unfold bits;have h1:(0:Ak)≤h % 2 ^ 64:=Jp _ (by decide)
 have h2:h % 2 ^ 64<(2 ^ 64:Ak):=Hy _ (by decide)
 omega
def cyc (mask:Ai):Ai→Ai→Ai
 |0,i=>i
 |n+1,i=>cyc mask n ((i*5+1) % (mask+1))
def m8 (mask:Ai):∀ (m n i:Ai),cyc mask (m+n) i=cyc mask n (cyc mask m i)
 |0,n,p=>by rw[Wk];rfl
 |m+1,n,p=>by rw[Ph];exact m8 mask m n _
def Y9 (mask:Ai):∀ (n i:Ai),(lp mask n (i,0)).1=cyc mask n i
 |0,i=>rfl
 |n+1,i=>by
  show (lp mask n (leap mask i 0)).1=_;have:leap mask i 0=((i*5+1) % (mask+1),0):=by simp[leap]
  rw[this,Y9 mask n];rfl
def Msk (mask:Ai):Prop:=mask=7∨mask=31∨mask=127∨mask=511∨mask=2047
def orb (mask:Ai):Ai→Ai→Ai→Ai
 |0,_,acc=>acc
 |n+1,i,acc=>orb mask n ((i*5+1) % (mask+1)) (acc ||| 1 <<< i)
def W4 (mask:Ai):Aq:=orb mask (mask+1) 0 0 == 2 ^ (mask+1)-1&&cyc mask (mask+1) 0 == 0
def W5 (h:Msk mask):W4 mask=true:=by
 rcases h with rfl|rfl|rfl|rfl|rfl <;> decide +kernel
def Q0 (mask e:Ai):∀ (n i acc:Ai),(orb mask n i acc).testBit e=true→acc.testBit e=true∨∃ m,m<n∧cyc mask m i=e
 |0,i,acc,h=>.inl h
 |n+1,i,acc,h=>by
  rcases Q0 mask e n _ _ h with q|⟨m,hm,q⟩
  ·rw[Nat.testBit_or,La] at q
   rcases q with q|q
   ·exact .inl q
   ·rw[Nat.one_shiftLeft,Nat.testBit_two_pow,Cm] at q
    exact .inr ⟨0,by omega,q⟩
  ·exact .inr ⟨m+1,by omega,q⟩
def UO (h:Msk mask){i e:Ai}(hi:i≤mask)(he:e≤mask):∃ n,n≤mask∧cyc mask n i=e:=by
 have a:=W5 h;unfold W4 at a;rw[Az] at a;obtain⟨a1,a2⟩:=a;have a1:orb mask (mask+1) 0 0=2 ^ (mask+1)-1:=by simpa using a1
 have g:∀ e,e≤mask→∃ n,n≤mask∧cyc mask n 0=e:=λe he=>by
  have q:(orb mask (mask+1) 0 0).testBit e=true:=by rw[a1,Nat.testBit_two_pow_sub_one];simp;omega
  rcases Q0 mask e _ _ _ q with q|⟨n,hn,q⟩
  ·simp at q
  ·exact⟨n,by omega,q⟩
 have a3:cyc mask (mask+1) 0=0:=by simpa using a2
 obtain⟨m,hm,em⟩:=g i hi;obtain⟨n,hn,en⟩:=g e he;by_cases q:m≤n
 ·refine⟨n-m,by omega,?_⟩
  rw[← em,← m8,show m+(n-m)=n by omega]
  exact en
 ·refine⟨n+(mask+1)-m,by omega,?_⟩
  rw[← em,← m8,show m+(n+(mask+1)-m)=(mask+1)+n by omega,m8,a3]
  exact en
def a8 (h:Msk mask){i pert e:Ai}(hi:i≤mask)(hp:pert<2 ^ 64)(he:e≤mask):∃ n,n≤mask+13∧(lp mask n (i,pert)).1=e:=by
 have h0:(lp mask 13 (i,pert)).2=0:=by
  rw[oR];apply Nat.div_eq_of_lt;exact Ln hp (by decide)
 obtain⟨n,hn,q⟩:=UO h (PJ mask 13 i pert hi) he;refine⟨13+n,by omega,?_⟩
 rw[Y8];have:lp mask 13 (i,pert)=((lp mask 13 (i,pert)).1,0):=by rw[← h0]
 rw[this,Y9];exact q
def cS (h:Msk mask)(hs:Ak){e:Ai}(he:e≤mask):∃ n,n<10*turns mask∧(it mask n (st mask hs)).j=e:=by
 obtain⟨n,hn,q⟩:=a8 h (i:=bits hs % (mask+1)) (Jx (Oh _ (Kf _))) (iS hs) he;obtain⟨k,hk,e1⟩:=PD mask n (bits hs % (mask+1)) (bits hs);refine⟨k,by unfold turns;omega,?_⟩
 show (it mask k (rs mask _ _)).j=e;rw[e1];exact q
def tM (mask:Ai):∀ (n:Ai) (p:Mc),(it mask n p).dummy=p.dummy
 |0,p=>rfl
 |n+1,p=>by
  show (it mask n (adv mask p)).dummy=_;rw[tM mask n];unfold adv
  split <;> rfl
def Way (t:Fm)(p:Mc)(n:Ai):Prop:=∀ m,m<n→(it t.mask m p).j∈t.place.toList
inductive Meets (t:Fm)(hashAt:Ai→Ak)(h:Ak)(p:Mc)(fuel:Ai):Am SetTable.Met→Prop
 |emp (n:Ai) (hn:n<fuel) (w:Way t p n) (e:(it t.mask n p).j ∉ t.place.toList) (q:∀ m i,m<n→t.place[i]? = Aa (it t.mask m p).j→hashAt i≠h):Meets t hashAt h p fuel (Aa (.empty (it t.mask n p).j none))
 |cand (n i:Ai) (hn:n<fuel) (w:Way t p n) (e:t.place[i]? = Aa (it t.mask n p).j) (hh:hashAt i=h) (q:∀ m i,m<n→t.place[i]? = Aa (it t.mask m p).j→hashAt i≠h):Meets t hashAt h p fuel (Aa (.candidate (it t.mask n p).j i (it t.mask (n+1) p)))
def VI (h:Rs xs){a b x:Ai}(ha:xs[a]? = Aa x)(hb:xs[b]? = Aa x):a=b:=by rw[← tE h ha,tE h hb]
set_option tactic.hygienic true in
def pW {t:Fm}(T:Tb t)(hashAt:Ai→Ak)(h:Ak):∀ (fuel:Ai) (p:Mc),p.dummy=none→(∃ n,n<fuel∧(it t.mask n p).j ∉ t.place.toList)→Meets t hashAt h p fuel (Jy t hashAt h fuel p)
 |0,p,_,⟨n,hn,_⟩=>by omega
 |fuel+1,p,hd,⟨n,hn,hne⟩=>by
  unfold Jy;rcases X5 T p.j with⟨i,e,ei⟩|⟨e,q⟩
  ·rw[e]
   simp only
   split
   ·rename_i hh
    exact Meets.cand 0 i (by omega) (λm hm=>by omega) ei (by simpa using hh) λm i hm=>by omega
   ·rename_i hh
    have hh':hashAt i≠h:=by simpa using hh
    have hn0:n≠0:=by
     rintro rfl;exact hne (Cn (by rw[Ca];exact ei))
    obtain⟨n',rfl⟩:∃ n',n=n'+1:=⟨n-1,by omega⟩
    have ih:=pW T hashAt h fuel (adv t.mask p) (by rw[← hd];exact tM t.mask 1 p) ⟨n',by omega,hne⟩
    rw[NU];have mem0:p.j∈t.place.toList:=Cn (by rw[Ca];exact ei)
    have up:∀ {k:Ai},Way t (adv t.mask p) k→Way t p (k+1):=λ{k} w m hm=>by
     cases m with
     |zero=>exact mem0
     |succ m=>exact w m (by omega)
    have upq:∀ {k:Ai},(∀ m i,m<k→t.place[i]? = Aa (it t.mask m (adv t.mask p)).j→hashAt i≠h)→∀ m i,m<k+1→t.place[i]? = Aa (it t.mask m p).j→hashAt i≠h:=λ{k} q m i' hm e'=>by
     cases m with
     |zero=>rw[VI T.rs e' ei];exact hh'
     |succ m=>exact q m i' (by omega) e'
    generalize hg:Jy t hashAt h fuel (adv t.mask p)=r at ih;cases ih with
    |emp k hk w e1 q1=>exact Meets.emp (p:=p) (k+1) (by omega) (up w) e1 (upq q1)
    |cand k i' hk w e1 hh1 q1=>exact Meets.cand (p:=p) (k+1) i' (by omega) (up w) e1 hh1 (upq q1)
  ·rw[e]
   simp only[hd];exact Meets.emp (p:=p) 0 (by omega) (λm hm=>by omega) q λm i hm=>by omega
end _S
namespace _S
open PySem
open PySem.SetTable (Probe leap runEnd turns bits)
variable {us:Ab Ai}{mask:Ai}{owner:Bj (Am Ai)}
structure Own (mask:Ai)(owner:Bj (Am Ai))(us:Ab Ai):Prop where
 size:owner.size=mask+1
 nd:us.Nodup
 le:∀ u∈us,u≤mask
 at':∀ j k,j≤mask→(owner.getD j (Aa 0)=Aa k↔us[k]? = Aa j)
def dY {i:Ai}(hi:i≤mask):Gy mask i≤mask:=by
 unfold Gy
 split <;> omega
def dZ (mask i:Ai):i≤Gy mask i:=by
 unfold Gy
 split <;> omega
def Own.none (O:Own mask owner us){j:Ai}(hj:j≤mask):(owner.getD j (Aa 0)).isNone=true↔j ∉ us:=by
 constructor
 ·intro h hm
  obtain⟨k,hk,e⟩:=Cu.mp hm;have:=(O.at' j k hj).mpr (by rw[An hk,e])
  rw[this] at h;cases h
 ·intro h
  cases q:owner.getD j (Aa 0) with
  |none=>rfl
  |some k=>exact absurd (Cn ((O.at' j k hj).mp q)) h
def sW (O:Own mask owner us):∀ (fuel i pert:Ai),i≤mask→(∃ L,L<fuel∧(lp mask L (i,pert)).1 ∉ us) →
  ∃ n,Hv mask owner fuel i pert=Aa (it mask n (rs mask i pert)).j∧(it mask n (rs mask i pert)).j≤mask∧(it mask n (rs mask i pert)).j ∉ us∧∀ m,m<n→(it mask m (rs mask i pert)).j∈us
 |0,i,pert,hi,⟨L,hL,_⟩=>by omega
 |fuel+1,i,pert,hi,⟨L,hL,hne⟩=>by
  unfold Hv;have hmx:=dY hi;have hmn:=dZ mask i;cases hf:(Cz (Gy mask i+1-i)).find? λk=>(owner.getD (i+k) (Aa 0)).isNone with
  |some k =>
   obtain⟨h1,h2,h3⟩:=List.find?_range_eq_some.mp hf;have hk:k<Gy mask i+1-i:=Ek.mp h2;have ej:(it mask k (rs mask i pert)).j=i+k:=by rw[fF mask i pert k (by omega)]
   refine⟨k,?_,?_,?_,λm hm=>?_⟩
   ·rw[ej]
   ·rw[ej];omega
   ·rw[ej];exact(O.none (by omega)).mp h1
   ·rw[fF mask i pert m (by omega)]
    have:=h3 m hm;apply Fl;intro q;rw[(O.none (show i+m≤mask by omega)).mpr q] at this
    cases this
  |none =>
   have hall:∀ k,k<Gy mask i+1-i→i+k∈us:=λk hk=>by
    have:=Ji.mp hf k (Ek.mpr hk);apply Fl;intro q;exact this ((O.none (show i+k≤mask by omega)).mpr q)
   have hL0:L≠0:=by
    rintro rfl;exact hne (hall 0 (by omega))
   obtain⟨L',rfl⟩:∃ L',L=L'+1:=⟨L-1,by omega⟩
   obtain⟨n,q1,q2,q3,q4⟩:=sW O fuel (leap mask i pert).1 (leap mask i pert).2 (dF mask i pert) ⟨L',by omega,hne⟩
   have e:∀ m,it mask (Gy mask i-i+1+m) (rs mask i pert)=it mask m (rs mask (leap mask i pert).1 (leap mask i pert).2):=λm=>by rw[nP,oH]
   refine⟨Gy mask i-i+1+n,?_,?_,?_,λm hm=>?_⟩
   ·rw[e];exact q1
   ·rw[e];exact q2
   ·rw[e];exact q3
   ·by_cases hlt:m<Gy mask i-i+1
    ·rw[fF mask i pert m (by omega)]
     exact hall m (by omega)
    ·obtain⟨m',rfl⟩:∃ m',m=Gy mask i-i+1+m':=⟨m-(Gy mask i-i+1),by omega⟩
     rw[e];exact q4 m' (by omega)
def gap (h:us.length≤mask):∃ e,e≤mask∧e ∉ us:=by
 apply Fl;intro q;have:Cz (mask+1) ⊆ us:=λe he=>by
  apply Fl;intro r;exact q ⟨e,by have:=Ek.mp he;omega,r⟩
 have:=List.Nodup.length_le_of_subset Yd this;rw[Fc] at this;omega
def MK (mask:Ai):Own mask (Array.replicate (mask+1) none) []:=by
 refine⟨by simp,Ua,λu hu=>by simp at hu,λj k hj=>?_⟩
 have:j<mask+1:=by omega
 simp[Ih,this]
def KD (O:Own mask owner us){j:Ai}(hj:j≤mask)(hn:j ∉ us):Own mask (owner.setIfInBounds j (Aa us.length)) (us++[j]):=by
 refine⟨by simp[O.size],?_,λu hu=>?_,λi k hi=>?_⟩
 ·rw[Ma]
  refine⟨O.nd,by simp,λa ha b hb=>?_⟩
  simp at hb;rintro rfl;subst hb;exact hn ha
 ·rcases Cq.mp hu with h|h
  ·exact O.le u h
  ·simp at h;omega
 ·have hsz:=O.size
  have hi':i<owner.size:=by omega
  have hk:∀ {k},us[k]? = Aa i→k<us.length:=λq=>(Bb.mp q).1;by_cases hij:j=i
  ·subst hij
   have e1:(owner.setIfInBounds j (Aa us.length)).getD j (Aa 0)=Aa us.length:=by simp[Ih,hi']
   rw[e1];constructor
   ·intro q;cases q;simp
   ·intro q
    by_cases h1:k<us.length
    ·rw[Bl h1] at q
     exact absurd (Cn q) hn
    ·rw[Eb (by omega)] at q
     have:k-us.length=0:=by
      cases hz:k-us.length with
      |zero=>rfl
      |succ z=>rw[hz] at q;simp at q
     congr 1;omega
  ·have e1:(owner.setIfInBounds j (Aa us.length)).getD i (Aa 0)=owner.getD i (Aa 0):=by
    simp[Ih,hi',Array.getElem_setIfInBounds,hij]
   rw[e1,O.at' i k hi];constructor
   ·intro q;rw[Bl (hk q)];exact q
   ·intro q
    by_cases h1:k<us.length
    ·rw[Bl h1] at q;exact q
    ·rw[Eb (by omega)] at q
     cases hz:k-us.length with
     |zero=>rw[hz] at q;simp at q;exact absurd q hij
     |succ z=>rw[hz] at q;simp at q
def QR (mask:Ai)(us:Ab Ai)(hs:Ab Ak):Prop:=∀ (k:Ai) (h:Ak),hs[k]? = Aa h→∃ n,us[k]? = Aa (it mask n (st mask h)).j∧∀ m,m<n→(it mask m (st mask h)).j∈us
def sV (hM:Msk mask):∀ (hs done:Ab Ak) (owner:Bj (Am Ai)) (us:Ab Ai),Own mask owner us→us.length=done.length→done.length+hs.length≤mask→QR mask us done →
  ∃ owner' us',hs.foldl (λacc h=>do
   let (owner,k) ← acc
   let j ← Hv mask owner (turns mask) (bits h % (mask+1)) (bits h)
   pure (owner.setIfInBounds j (Aa k),k+1)) (Aa (owner,us.length))=Aa (owner',us'.length)∧Own mask owner' us'∧us'.length=done.length+hs.length∧QR mask us' (done++hs)
 |[],done,owner,us,O,hl,_,hL=>⟨owner,us,rfl,O,by simpa using hl,by simpa using hL⟩
 |h::hs,done,owner,us,O,hl,hlen,hL=>by
  rw[Ci] at hlen;obtain⟨e,he,hne⟩:=gap (mask:=mask) (us:=us) (by omega)
  obtain⟨L,hLn,hLe⟩:=a8 hM (i:=bits h % (mask+1)) (Jx (Oh _ (Kf _))) (iS h) he;obtain⟨n,q1,q2,q3,q4⟩:=sW O (turns mask) (bits h % (mask+1)) (bits h) (Jx (Oh _ (Kf _))) ⟨L,by unfold turns;omega,by rw[hLe];exact hne⟩
  have O':=KD O q2 q3;have hL':QR mask (us++[(it mask n (rs mask (bits h % (mask+1)) (bits h))).j]) (done++[h]):=λk h' e'=>by
   by_cases hk:k<done.length
   ·rw[Bl hk] at e'
    obtain⟨n',w1,w2⟩:=hL k h' e';exact⟨n',by rw[Bl (by omega)];exact w1,λm hm=>Do _ (w2 m hm)⟩
   ·rw[Eb (by omega)] at e'
    cases hz:k-done.length with
    |succ z=>rw[hz] at e';simp at e'
    |zero =>
     rw[hz] at e';simp at e';subst e';refine⟨n,?_,λm hm=>Do _ (q4 m hm)⟩;rw[Eb (by omega),hl,hz]
     rfl
  obtain⟨owner',us',r1,r2,r3,r4⟩:=sV hM hs (done++[h]) _ _ O' (by simp[hl]) (by simp;omega) hL'
  refine⟨owner',us',?_,r2,by simpa [Nat.add_assoc,v6 1] using r3,by simpa using r4⟩
  rw[Ky];rw[Bo] at r1;have e0:(do
   let (owner,k) ← Aa (owner,us.length)
   let j ← Hv mask owner (turns mask) (bits h % (mask+1)) (bits h)
   pure (owner.setIfInBounds j (Aa k),k+1))=Aa (owner.setIfInBounds (it mask n (rs mask (bits h % (mask+1)) (bits h))).j (Aa us.length),us.length+1):=by
   show (Hv mask owner (turns mask) (bits h % (mask+1)) (bits h)).bind _=_;rw[q1];rfl
  rw[e0];exact r1
def rX (hM:Msk mask)(hs:Bj Ak)(hlen:hs.size≤mask):∃ owner us,Xd mask hs=Aa owner∧Own mask owner us∧us.length=hs.size∧QR mask us hs.toList:=by
 obtain⟨owner',us',r1,r2,r3,r4⟩:=sV hM hs.toList [] _ [] (MK mask) rfl (by simpa using hlen) (λk h e=>by simp at e)
 refine⟨owner',us',?_,r2,by simpa using r3,by simpa using r4⟩
 unfold Xd;rw[← Array.foldl_toList];have:(([]:Ab Ai).length)=0:=rfl;rw[this] at r1
 erw [r1]
 rfl
structure Laid (mask:Ai)(hs:Bj Ak)(t:Fm)(zB:Bj Ai):Prop where
 msk:t.mask=mask
 tb:Tb t
 size:t.place.size=hs.size
 le:∀ x∈t.place.toList,x≤mask
 perm:zB.toList.Perm (Cz hs.size)
 way:∀ (i k:Ai) (h:Ak),zB[i]? = Aa k→hs[k]? = Aa h→∃ n,t.place[i]? = Aa (it mask n (st mask h)).j∧Way t (st mask h) n
def Y2 (hM:Msk mask)(hs:Bj Ak)(hlen:hs.size≤mask)(finger moves:Ai)(led plain:Aq) :
  ∃ t zB,Ux mask finger moves led plain hs=Aa (t,zB)∧t.led=led∧t.plain=plain∧Laid mask hs t zB:=by
 obtain⟨owner,us,e,O,hl,hL⟩:=rX hM hs hlen;have hg:∀ j,j≤mask→owner.getD j none=owner.getD j (Aa 0):=λj hj=>by
  have:j<owner.size:=by rw[O.size];omega
  simp[Ih,this]
 generalize hlv:((Cz (mask+1)).filterMap λj=>(owner.getD j none).map (j,·))=live
 have mem:∀ (j k:Ai),(j,k)∈live↔us[k]? = Aa j:=λj k=>by
  rw[← hlv,Jg];constructor
  ·rintro⟨j',hj',q⟩
   have hj'':j'≤mask:=by have:=Ek.mp hj';omega
   rw[hg j' hj''] at q;cases hz:owner.getD j' (Aa 0) with
   |none=>rw[hz] at q;cases q
   |some k' =>
    rw[hz] at q;simp at q;obtain⟨rfl,rfl⟩:=q;exact(O.at' _ _ hj'').mp hz
  ·intro q
   have hj:j≤mask:=O.le j (Cn q);refine⟨j,Ek.mpr (by omega),?_⟩
   rw[hg j hj,(O.at' j k hj).mpr q];rfl
 have hfst:live.map (·.1)=(Cz (mask+1)).filter λj=>(owner.getD j none).isSome:=by
  rw[← hlv,List.map_filterMap];generalize owner.getD=f
  induction Cz (mask+1) with
  |nil=>rfl
  |cons a l ih =>
   rw[Gd,Ye];cases hz:f a none with
   |none=>simpa using ih
   |some k=>simpa using ih
 have hR:(live.map (·.1)).Pairwise (· < ·):=by
  rw[hfst];exact List.Pairwise.filter _ List.pairwise_lt_range
 have ndl:(live.map (·.2)).Nodup:=by
  unfold Zf;rw[Hl];have h1:=Hl.mp hR;refine Qx (λ{a b} ha hb hab=>?_) h1;intro q;have ea:=(mem a.1 a.2).mp ha;have eb:=(mem b.1 b.2).mp hb;rw[← q,ea] at eb;simp at eb;omega
 have pm:(live.map (·.2)).Perm (Cz hs.size):=by
  rw[List.perm_ext_iff_of_nodup ndl Yd];intro k;rw[Cw,Ek,← hl];constructor
  ·rintro⟨⟨j,k'⟩,h1,rfl⟩
   exact(Bb.mp ((mem j k').mp h1)).1
  ·intro hk
   exact⟨(us[k],k),(mem _ _).mpr (An hk),rfl⟩
 have hmem:∀ j,j∈live.map (·.1)↔j∈us:=λj=>by
  rw[Cw];constructor
  ·rintro⟨⟨j',k⟩,h1,rfl⟩
   exact Cn ((mem _ _).mp h1)
  ·intro h1
   obtain⟨k,hk,e⟩:=Cu.mp h1;exact⟨(j,k),(mem _ _).mpr (by rw[An hk,e]),rfl⟩
 refine⟨{ mask,place:=(live.map (·.1)).toArray,dummies:=#[],finger,led,moves,plain },(live.map (·.2)).toArray,?_,rfl,rfl,rfl,⟨?_,rfl⟩,?_,λx hx=>?_,?_,λi k h e1 e2=>?_⟩
 ·unfold Ux
  rw[e,← hlv];rfl
 ·exact hR
 ·have:=pm.length_eq
  simp at this ⊢;exact this
 ·exact O.le x ((hmem x).mp hx)
 ·exact pm
 ·have e1':(live.map (·.2))[i]? = Aa k:=by simpa using e1
  rw[Dw] at e1';cases hz:live[i]? with
  |none=>rw[hz] at e1';cases e1'
  |some jk =>
   rw[hz] at e1';simp at e1';have hin:=Cn hz;have hu:=(mem jk.1 jk.2).mp hin;obtain⟨n,w1,w2⟩:=hL k h (by rw[Ca];exact e2)
   rw[← e1'] at w1;rw[hu] at w1;refine⟨n,?_,λm hm=>?_⟩
   ·rw[← w1]
    simp[hz]
   ·have:=(hmem _).mpr (w2 m hm)
    simpa using this
def TY {t:Fm}{hs:Bj Ak}{w:Ai}:SetTable.relaid t hs w=Ux (Ew w-1) t.finger (t.movedTo (Ew w-1)) t.led t.plain hs:=rfl
end _S
namespace _S
open PySem
open PySem.SetTable (Probe leap runEnd turns bits)
structure Set0 {K:Type}(is:K→Ad→Prop)(hash:K→Ak)(es:Bj (Ak × Ad))(seen:Ab K):Prop where
 good:∀ e∈es.toList,∃ k,e.1=hash k∧is k e.2
 nd:es.toList.Pairwise λa b=>∀ k,is k a.2→¬ is k b.2
 mem:∀ k,k∈seen↔∃ e∈es.toList,is k e.2
section
variable {K:Type}{is:K→Ad→Prop}{hash:K→Ak}{es es':Bj (Ak × Ad)}{seen seen':Ab K}
def Set0.perm (Z:Set0 is hash es seen)(p:es'.toList.Perm es.toList):Set0 is hash es' seen:=
 ⟨λe he=>Z.good e (p.mem_iff.mp he),(p.pairwise_iff λ{x y} h k hy hx=>h k hx hy).mpr Z.nd,λk=>(Z.mem k).trans ⟨λ⟨e,he,q⟩=>⟨e,p.mem_iff.mpr he,q⟩,λ⟨e,he,q⟩=>⟨e,p.mem_iff.mp he,q⟩⟩⟩
def Set0.nil:Set0 is hash #[] []:=⟨λe he=>by simp at he,by simp,λk=>by simp⟩
def Set0.push (Z:Set0 is hash es seen)(inj:∀ {k k':K} {v:Ad},is k v→is k' v→k=k'){k:K}{x:Ad}(hk:is k x)(hn:k ∉ seen)(p:es'.toList.Perm (es.toList++[(hash k,x)])):Set0 is hash es' (k::seen):=by
 refine Set0.perm (es:=es.push (hash k,x)) ⟨λe he=>?_,?_,λk'=>?_⟩ (by simpa using p)
 ·rw[Hm] at he
  rcases Cq.mp he with he|he
  ·exact Z.good e he
  ·simp at he;subst he;exact⟨k,rfl,hk⟩
 ·rw[Hm,Kh]
  refine⟨Z.nd,by simp,λa ha b hb k' h1 h2=>?_⟩
  simp at hb;subst hb;have:=inj hk h2;subst this;exact hn ((Z.mem k).mpr ⟨a,ha,h1⟩)
 ·rw[Av,Z.mem,Hm]
  constructor
  ·rintro (rfl|⟨e,he,q⟩)
   ·exact⟨(hash k',x),by simp,hk⟩
   ·exact⟨e,Do _ he,q⟩
  ·rintro⟨e,he,q⟩
   rcases Cq.mp he with he|he
   ·exact .inr ⟨e,he,q⟩
   ·simp at he;subst he;exact .inl (inj q hk)
def Set0.again (Z:Set0 is hash es seen){k:K}(hk:k∈seen):Set0 is hash es (k::seen):=
 ⟨Z.good,Z.nd,λk'=>by rw[Av,Z.mem];exact⟨λh=>h.elim (λe=>by subst e;exact(Z.mem _).mp hk) id,.inr⟩⟩
end
section
open Classical in
def tP {K:Type}{is:K→Ad→Prop}:∀ (L:Ab (Ak × Ad)) (U:Ab K),L.Pairwise (λa b=>∀ k,is k a.2→¬ is k b.2)→(∀ e∈L,∃ k∈U,is k e.2)→L.length≤U.length
 |[],U,_,_=>Fq _
 |e::L,U,nd,h=>by
  rw[Dl] at nd;obtain⟨k0,hk0,q0⟩:=h e (by simp)
  have ih:=tP L (U.erase k0) nd.2 λe' he'=>by
   obtain⟨k,hk,q⟩:=h e' (by simp[he'])
   have:k≠k0:=λz=>nd.1 e' he' k0 q0 (z▸q);exact⟨k,(Ui this).mpr hk,q⟩
  rw[Qy hk0] at ih;have:0<U.length:=Mj hk0;rw[Ci];omega
open Classical in
def Set0.few {K:Type}{is:K→Ad→Prop}{hash:K→Ak}{es:Bj (Ak × Ad)}{seen U:Ab K}{k:K}(Z:Set0 is hash es seen)(hU:∀ k'∈seen,k'∈U)(hk:k∈U)(hn:k ∉ seen):es.size<U.length:=by
 have:=tP es.toList (U.erase k) Z.nd λe he=>by
  obtain⟨k',_,q⟩:=Z.good e he;have hs:=(Z.mem k').mpr ⟨e,he,q⟩;have hne:k'≠k:=λz=>hn (z▸hs);exact⟨k',(Ui hne).mpr (hU k' hs),q⟩
 rw[Qy hk,De] at this;have:0<U.length:=Mj hk;omega
end
structure TabT (t:Fm)(es:Bj (Ak × Ad)):Prop where
 tb:Tb t
 msk:Msk t.mask
 size:t.place.size=es.size
 le:∀ x∈t.place.toList,x≤t.mask
 few:es.size*5<t.mask*3
 way:∀ (i:Ai) (e:Ak × Ad),es[i]? = Aa e→∃ n,t.place[i]? = Aa (it t.mask n (st t.mask e.1)).j∧Way t (st t.mask e.1) n
 plain:t.plain=true
def TabT.fits {t:Fm}{es:Bj (Ak × Ad)}(T:TabT t es):t.fits es.size=true:=by
 have h1:=T.size;have h2:=T.few;have h3:t.fill=es.size:=by unfold Kt;rw[T.tb.dm,h1];rfl
 unfold Uy;rw[h3,h1];rcases T.msk with h|h|h|h|h <;> rw[h] at h2 ⊢ <;> simp <;> omega
def TabT.gap {t:Fm}{es:Bj (Ak × Ad)}(T:TabT t es):∃ e,e≤t.mask∧e ∉ t.place.toList:=by
 apply _S.gap;rw[De,T.size];have h2:=T.few;rcases T.msk with h|h|h|h|h <;> rw[h] at h2 ⊢ <;> omega
def TabT.odd {t:Fm}{es:Bj (Ak × Ad)}(T:TabT t es):t.gaveWay=false:=by
 unfold SetTable.gaveWay;rcases T.msk with h|h|h|h|h <;> rw[h] <;> rfl
def TabT.put {t:Fm}{es:Bj (Ak × Ad)}(T:TabT t es){h:Ak}{x:Ad}{n:Ai}(w:Way t (st t.mask h) n)(hn:(it t.mask n (st t.mask h)).j ∉ t.place.toList)(hle:(it t.mask n (st t.mask h)).j≤t.mask) :
  let es':=Bw es (t.put (it t.mask n (st t.mask h)).j).2 (h,x)
  Tb (t.put (it t.mask n (st t.mask h)).j).1∧(t.put (it t.mask n (st t.mask h)).j).1.place.size=es'.size∧(∀ y∈(t.put (it t.mask n (st t.mask h)).j).1.place.toList,y≤t.mask) ∧
  (∀ (i:Ai) (e:Ak × Ad),es'[i]? = Aa e→∃ m,(t.put (it t.mask n (st t.mask h)).j).1.place[i]? = Aa (it t.mask m (st t.mask e.1)).j∧Way (t.put (it t.mask n (st t.mask h)).j).1 (st t.mask e.1) m):=by
 generalize hj:(it t.mask n (st t.mask h)).j=j at *;have pm:∀ y,y∈(t.put j).1.place.toList↔y=j∨y∈t.place.toList:=λy=>by
  show y∈(Bw t.place (Cf t.place j) j).toList↔_;rw[(Hu _ _ _).mem_iff];simp[or_comm]
 have hb:Cf t.place j≤t.place.size:=(kS T.tb.rs j).le;have wm:∀ {p:Mc} {m:Ai},Way t p m→Way (t.put j).1 p m:=λ{p m} w q hq=>(pm _).mpr (.inr (w q hq));refine⟨E1 T.tb hn,?_,λy hy=>?_,λi e he=>?_⟩
 ·show (Bw t.place _ j).size=(Bw es _ (h,x)).size
  rw[jR,jR,T.size]
 ·rcases (pm y).mp hy with rfl|hy
  ·exact hle
  ·exact T.le y hy
 ·have he':(if i<Cf t.place j then es[i]? else if i=Cf t.place j then Aa (h,x) else es[i-1]?)=Aa e:=by
   rw[← nM es (by rw[← T.size];exact hb)]
   exact he
  have pl:(t.put j).1.place[i]? = if i<Cf t.place j then t.place[i]? else if i=Cf t.place j then Aa j else t.place[i-1]?:=nM t.place hb j i
  rw[pl];by_cases h1:i<Cf t.place j
  ·rw[Bd h1] at he' ⊢
   obtain⟨m,q1,q2⟩:=T.way i e he';exact⟨m,q1,wm q2⟩
  ·rw[Be h1] at he' ⊢
   by_cases h2:i=Cf t.place j
   ·rw[Bd h2] at he' ⊢
    cases he';exact⟨n,by rw[hj],wm w⟩
   ·rw[Be h2] at he' ⊢
    obtain⟨m,q1,q2⟩:=T.way _ e he';exact⟨m,q1,wm q2⟩
def PC {mask:Ai}(p:Mc)(hp:p.j+p.more≤mask):∀ n,(it mask n p).j+(it mask n p).more≤mask
 |0=>hp
 |n+1=>by
  rw[mD];have ih:=PC p hp n;unfold adv
  split
  ·show (it mask n p).j+1+((it mask n p).more-1)≤mask
   omega
  ·show (leap mask _ _).1+(Gy mask (leap mask _ _).1-(leap mask _ _).1)≤mask
   have h1:=dY (dF mask (it mask n p).i (it mask n p).perturb);have h2:=dZ mask (leap mask (it mask n p).i (it mask n p).perturb).1;omega
def B8 (mask:Ai)(h:Ak)(n:Ai):(it mask n (st mask h)).j≤mask:=by
 have h0:bits h % (mask+1)≤mask:=Jx (Oh _ (Kf _));have:=PC (mask:=mask) (st mask h) (by
  show bits h % (mask+1)+(Gy mask (bits h % (mask+1))-bits h % (mask+1))≤mask;have h1:=dY h0;have h2:=dZ mask (bits h % (mask+1));omega) n
 omega
def mZ {t:Fm}{es:Bj (Ak × Ad)}(hM:Msk t.mask)(hp:t.plain=true)(h1:t.place.size=es.size)(h2:es.size≤1001)(hf:t.tooFull=true)(hd:t.dummies=#[])(h3:(es.size-1)*5<t.mask*3)(h4:0<es.size) :
  Ew (Gs es.size)≤2048∧∃ t' zB,t.relaid (es.map (·.1)) (Gs es.size)=Aa (t',zB)∧t'.led=t.led∧(zB.filterMap (es[·]?)).toList.Perm es.toList∧TabT t' (zB.filterMap (es[·]?))∧zB.toList.Perm (Cz es.size):=by
 have hfill:t.fill=es.size:=by unfold Kt;rw[hd,h1];rfl
 have hful:t.mask*3≤es.size*5:=by
  unfold Rk at hf;rw[hfill] at hf;simpa using hf
 have hcase:(es.size=5∧Ew (Gs es.size)=32)∨(es.size=19∧Ew (Gs es.size)=128)∨(es.size=77∧Ew (Gs es.size)=512)∨(es.size=307∧Ew (Gs es.size)=2048):=by
  rcases hM with h|h|h|h|h <;> rw[h] at hful h3
  ·have:es.size=5:=by omega
   exact .inl ⟨this,by rw[this];decide⟩
  ·have:es.size=19:=by omega
   exact .inr (.inl ⟨this,by rw[this];decide⟩)
  ·have:es.size=77:=by omega
   exact .inr (.inr (.inl ⟨this,by rw[this];decide⟩))
  ·have:es.size=307:=by omega
   exact .inr (.inr (.inr ⟨this,by rw[this];decide⟩))
  ·omega
 have hM':Msk (Ew (Gs es.size)-1):=by
  rcases hcase with⟨_,h⟩|⟨_,h⟩|⟨_,h⟩|⟨_,h⟩ <;> rw[h]
  ·exact .inr (.inl rfl)
  ·exact .inr (.inr (.inl rfl))
  ·exact .inr (.inr (.inr (.inl rfl)))
  ·exact .inr (.inr (.inr (.inr rfl)))
 have hle:(es.map (·.1)).size≤Ew (Gs es.size)-1:=by
  rw[Ub];rcases hcase with⟨h5,h⟩|⟨h5,h⟩|⟨h5,h⟩|⟨h5,h⟩ <;> rw[h,h5] <;> omega
 obtain⟨t',zB,e,l1,l2,L⟩:=Y2 hM' (es.map (·.1)) hle t.finger (t.movedTo (Ew (Gs es.size)-1)) t.led t.plain
 have hosz:zB.size=es.size:=by
  have:=L.perm.length_eq;simpa using this
 have hord:∀ i k,zB[i]? = Aa k→k<es.size:=λi k q=>by
  have:k∈Cz (es.map (·.1)).size:=L.perm.mem_iff.mp (Cn (by rw[Ca];exact q))
  simpa using this
 have hfm:(zB.filterMap (es[·]?)).toList=zB.toList.map λk=>es.toList.getD k (0,.none):=by
  rw[Array.toList_filterMap];have:∀ l:Ab Ai,(∀ k∈l,k<es.size)→l.filterMap (es[·]?)=l.map λk=>es.toList.getD k (0,.none):=by
   intro l
   induction l with
   |nil=>intro _;rfl
   |cons a l ih =>
    intro hl;have ha:=hl a (by simp)
    rw[Gd,Dj,ih λk hk=>hl k (by simp[hk])]
    rw[Dz ha];simp[ha]
  refine this _ λk hk=>?_;obtain⟨i,hi,q⟩:=Cu.mp hk;exact hord i k (by rw[← Ca,An hi,q])
 have hperm:(zB.filterMap (es[·]?)).toList.Perm es.toList:=by
  rw[hfm];have p1:=L.perm.map λk=>es.toList.getD k (0,Ff);refine p1.trans ?_;have e2:(Cz (es.map (·.1)).size).map (λk=>es.toList.getD k (0,Ff))=es.toList:=by
   apply Na
   ·simp
   ·intro i a1 a2
    have a3:i<es.size:=by simpa using a2
    simp[a3]
  rw[e2]
 have hsz:(zB.filterMap (es[·]?)).size=es.size:=by rw[← De,hperm.length_eq,De]
 have hentry:∀ i,(zB.filterMap (es[·]?))[i]? = (zB[i]?).map λk=>es.toList.getD k (0,.none):=λi=>by
  rw[← Ca,hfm,Dw,Ca]
 refine⟨by rcases hcase with⟨_,h⟩|⟨_,h⟩|⟨_,h⟩|⟨_,h⟩ <;> rw[h] <;> decide,t',zB,by rw[TY];exact e,l1,hperm,⟨L.tb,by rw[L.msk];exact hM',by rw[L.size,hsz,Ub],by rw[L.msk];exact L.le,?_,λi en q=>?_,by rw[l2];exact hp⟩,by have:=L.perm;rwa [Ub] at this⟩
 ·rw[hsz,L.msk]
  rcases hcase with⟨h5,h⟩|⟨h5,h⟩|⟨h5,h⟩|⟨h5,h⟩ <;> rw[h,h5] <;> omega
 ·rw[hentry] at q
  cases hz:zB[i]? with
  |none=>rw[hz] at q;cases q
  |some k =>
   rw[hz] at q;simp only[Jq,Option.some.injEq] at q;have hk:=hord i k hz;have:(es.map (·.1))[k]? = Aa en.1:=by
    rw[Array.getElem?_map,Dz hk];rw[← q];simp[hk]
   rw[L.msk];exact L.way i k en.1 hz this
end _S
namespace _S
open PySem
open PySem.SetTable (Probe leap runEnd turns bits)
variable {Q:Aq→Ag→Prop}
def Sup (h0 h:Bk):Prop:=∀ b o,h0.get? b=Aa o→h.get? b=Aa o
def isT (prog:Bg)(w:By)(h0:Bk)(ks:Ab Ak)(v:Ad):Prop:=∃ a,v=.ref a∧Ol (Bf prog w) h0 ks a
section
variable {prog:Bg}{w:By}{h0:Bk}
def isT.inj {x y:Ab Ak}{v:Ad}(hx:isT prog w h0 x v)(hy:isT prog w h0 y v):x=y:=by
 obtain⟨a,rfl,h1⟩:=hx;obtain⟨b,e,h2⟩:=hy;cases e;exact h1.inj h2
def k7 {h:Bk}{ks:Ab Ak}{a:Af}(hS:Sup h0 h)(hx:Ol (Bf prog w) h0 ks a):Ol (Bf prog w) h ks a:=by
 obtain⟨o,items,n,ho,r⟩:=hx;exact⟨o,items,n,hS _ _ ho,r⟩
variable {A:Bv}{E:Ad→Ag→Prop}{s:Ag}
def CN {k:Ab Ak}{v:Ad}{Q:Ak→Ag→Prop}(hu:A.units<Du)(hS:Sup h0 s.heap)(hx:isT prog w h0 k v)(h:Q (Bm (Bf prog w) k) { s with toks:=s.toks+(k.length+1) }) : Ao (Au prog w) A (pyHash v) Q E s:=by
 obtain⟨a,rfl,hx⟩:=hx;exact wpAny_pyHash_tuple hu (k7 hS hx) h
def eqT {k k':Ab Ak}{v v':Ad}(hu:A.units<Du)(hS:Sup h0 s.heap)(hx:isT prog w h0 k v)(hy:isT prog w h0 k' v')(h:Q (decide (k=k')) s):Ao (Au prog w) A (eqBool v v') Q E s:=by
 obtain⟨a,rfl,hx⟩:=hx;obtain⟨b,rfl,hy⟩:=hy;exact wpAny_eqBool_tuple hu (k7 hS hx) (k7 hS hy) h
def nQ:∀ {ks:Ab Ak} {vs:Ab Ad},ItemsAre (Bf prog w) ks vs→∀ v∈vs,∃ i t,v=.int i t:=by
 intro ks vs h
 induction h with
 |nil=>intro v hv;simp at hv
 |@cons k v' ks vs h1 _ ih =>
  intro v hv;rcases Av.mp hv with rfl|hv
  ·cases v <;> first|exact⟨_,_,rfl⟩|exact absurd h1 (by rintro⟨⟩)
  ·exact ih v hv
def OE {k:Ab Ak}{v:Ad}(hS:Sup h0 s.heap)(hx:isT prog w h0 k v)(h:Q true s):Ao (Au prog w) A (Pp 8 v) Q E s:=by
 obtain⟨a,rfl,hx⟩:=hx;have hx:=k7 hS hx;have hT:=hx.typeIs;obtain⟨o,items,n,ho,_,hd,hi⟩:=hx;unfold Pp;refine Ac (Sn hT F.slot_tuple_hash.lookup ?_);show Ao _ _ (dL (.ref a) >>= _) Q E s;refine Ac (Ey ho hd ?_);refine Ac ?_;show Ao _ _ (forIn items _ _) _ _ s;rw[← Vt];refine Kk _ (λrest r s'=>r.1=none∧s'=s∧∀ v∈rest,∃ i t,v=.int i t) _ ?_ ?_ _ _ ⟨rfl,rfl,nQ hi⟩
 ·rintro v rest r s' ⟨hr,rfl,hall⟩
  obtain⟨i,t,rfl⟩:=hall v Dd;show Ao _ _ (Pp 7 (.int i t) >>= _) _ _ _;rw[show Pp 7 (.int i t)=pure true from rfl]
  refine Ac (Aj ?_);simp only[Hd,Bt,Ec];exact Aj ⟨rfl,rfl,λu hu'=>hall u (Bu _ hu')⟩
 ·rintro⟨r1,r2⟩ s' ⟨hr,rfl,_⟩
  simp only at hr;subst hr;exact Aj h
def W0 {k:Ab Ak}{v:Ad}(hS:Sup h0 s.heap)(hx:isT prog w h0 k v)(h:Q false s):Ao (Au prog w) A (Md 8 v) Q E s:=by
 obtain⟨a,rfl,hx⟩:=hx;have hx:=k7 hS hx;have hT:=hx.typeIs;obtain⟨o,items,n,ho,_,hd,hi⟩:=hx;unfold Md;refine Ac (Je hT ?_);dsimp only;refine Ac (Aj ?_);simp only[Hd,Bt,Ec];refine Ac (Ey ho hd ?_);refine Ac ?_;show Ao _ _ (forIn items _ _) _ _ s;rw[← Vt];refine Kk _ (λrest r s'=>r.1=none∧s'=s∧∀ v∈rest,∃ i t,v=.int i t) _ ?_ ?_ _ _ ⟨rfl,rfl,nQ hi⟩
 ·rintro v rest r s' ⟨hr,rfl,hall⟩
  obtain⟨i,t,rfl⟩:=hall v Dd;show Ao _ _ (Md 7 (.int i t) >>= _) _ _ _;rw[show Md 7 (.int i t)=pure false from rfl]
  refine Ac (Aj ?_);simp only[Bt,Ec];exact Aj ⟨rfl,rfl,λu hu'=>hall u (Bu _ hu')⟩
 ·rintro⟨r1,r2⟩ s' ⟨hr,rfl,_⟩
  simp only at hr;subst hr;exact Aj h
def VA {k:Ab Ak}{v:Ad}(hS:Sup h0 s.heap)(hx:isT prog w h0 k v)(h:Q true s):Ao (Au prog w) A (eqIsQuiet 8 v) Q E s:=by
 obtain⟨a,rfl,hx⟩:=hx;exact wpAny_eqIsQuiet_tuple (k7 hS hx) h
def ZN {α:Type}{c:Prop}[Te c]{M:Nm}{t u:Nd α}{Q:α→Ag→Prop}(h1:c→Ao M A t Q E s)(h2:¬ c→Ao M A u Q E s):Ao M A (if c then t else u) Q E s:=by
 by_cases h:c
 ·rw[Bd h];exact h1 h
 ·rw[Be h];exact h2 h
def AZ {k:Ab Ak}{x:Ad}{ys:Ab Ad}(hS:Sup h0 s.heap)(hx:isT prog w h0 k x)(hy:∀ y∈ys,∃ k',isT prog w h0 k' y)(h:Q false s):Ao (Au prog w) A (Xe x ys) Q E s:=by
 unfold Xe;refine Ac ?_;refine Kk _ (λrest r s'=>r.1=none∧s'=s∧∀ v∈rest,∃ k',isT prog w h0 k' v) _ ?_ ?_ _ _ ⟨rfl,rfl,hy⟩
 ·rintro v rest r s' ⟨hr,rfl,hall⟩
  obtain⟨k',hv⟩:=hall v Dd;have hrest:∀ u∈rest,∃ k',isT prog w h0 k' u:=λu hu'=>hall u (Bu _ hu');dsimp only;refine ZN (λ_=>Aj ⟨rfl,rfl,hrest⟩) λ_=>?_
  ·refine Ac (VA hS hx ?_)
   simp only[Hd,Bt,Ec];refine Ac (VA hS hv ?_);simp only[Hd,Bt,Ec];refine Ac (W0 hS hx ?_);simp only[Bt,Ec];refine Ac (W0 hS hv ?_);simp only[Bt,Ec];exact Aj ⟨rfl,rfl,hrest⟩
 ·rintro⟨r1,r2⟩ s' ⟨hr,rfl,_⟩
  simp only at hr;subst hr;exact Aj h
def AX {k:Ab Ak}{v:Ad}(hx:isT prog w h0 k v)(h:Q true s):Ao (Au prog w) A (isSame v v) Q E s:=by
 obtain⟨a,rfl,hx⟩:=hx;unfold isSame;simp only[El,Dh];exact Aj h
def GW {k:Ab Ak}{x:Ad}{S:Af}{o:Cr}{es:Bj (Ak × Ad)}{ep:Ai}{t:Fm}{seen:Ab (Ab Ak)}(hu:A.units<Du)(hS:Sup h0 s.heap)(ho:s.heap.get? S=Aa o)(hd:o.data=.set es ep t)
  (T:TabT t es) (Z:Set0 (isT prog w h0) (Bm (Bf prog w)) es seen) (hx:isT prog w h0 k x) (N:Ai) (hNw:Way t (st t.mask (Bm (Bf prog w) k)) N)
  (hNe:(it t.mask N (st t.mask (Bm (Bf prog w) k))).j ∉ t.place.toList) (hNf:N<10*turns t.mask) {Q:SetFound→Ag→Prop}
  (h1:k∈seen→Q (.there none) s) (h2:k ∉ seen→Q (.free (it t.mask N (st t.mask (Bm (Bf prog w) k))).j false) s) :
  ∀ (fuel n:Ai) (stand:Am Mc),stand.getD (t.probeStart (Bm (Bf prog w) k))=it t.mask n (st t.mask (Bm (Bf prog w) k))→n≤N→N-n<fuel →
   (∀ (m i:Ai) (e:Ak × Ad),m<n→t.place[i]? = Aa (it t.mask m (st t.mask (Bm (Bf prog w) k))).j→es[i]? = Aa e→¬ isT prog w h0 k e.2) →
   Ao (Au prog w) A (Qm S x (Bm (Bf prog w) k) true fuel stand) Q E s
 |0,n,stand,_,_,hf,_=>by omega
 |fuel+1,n,stand,hst,hn,hf,hq=>by
  unfold Qm;refine Ac (Fu ho hd T.fits ?_);dsimp only;rw[T.odd];simp only[Bt,Ec];rw[hst];generalize hg:t.probe _ (Bm (Bf prog w) k) (it t.mask n (st t.mask (Bm (Bf prog w) k)))=r;obtain⟨H,hH,hg⟩:∃ H:Ai→Ak,(∀ i,H i=(es[i]?.map (·.1)).getD 0)∧t.probe H (Bm (Bf prog w) k) (it t.mask n (st t.mask (Bm (Bf prog w) k)))=r:=⟨_,λi=>rfl,hg⟩
  have itn:∀ m,it t.mask m (it t.mask n (st t.mask (Bm (Bf prog w) k)))=it t.mask (n+m) (st t.mask (Bm (Bf prog w) k)):=λm=>(nP _ _ _ _).symm;have gm:Meets t H (Bm (Bf prog w) k) (it t.mask n (st t.mask (Bm (Bf prog w) k))) (10*turns t.mask) r:=by
   rw[← hg];refine pW T.tb H _ _ _ (by rw[tM];rfl) ⟨N-n,by omega,?_⟩
   rw[itn,show n+(N-n)=N by omega]
   exact hNe
  have miss:∀ j:Ai,(∀ m i:Ai,m<j→t.place[i]? = Aa (it t.mask m (it t.mask n (st t.mask (Bm (Bf prog w) k)))).j→H i≠Bm (Bf prog w) k) →
    ∀ (m i:Ai) (e:Ak × Ad),m<n+j→t.place[i]? = Aa (it t.mask m (st t.mask (Bm (Bf prog w) k))).j→es[i]? = Aa e→¬ isT prog w h0 k e.2:=λj qj m i e hm ei ee hk=>by
   by_cases hmn:m<n
   ·exact hq m i e hmn ei ee hk
   ·refine qj (m-n) i (by omega) (by rw[itn,show n+(m-n)=m by omega];exact ei) ?_
    rw[hH,ee];obtain⟨k',e1,e2⟩:=Z.good e (Cn (by rw[Ca];exact ee))
    rw[isT.inj hk e2];simpa using e1
  cases gm with
  |emp j hj w' e' q =>
   rw[itn] at e';have hjN:n+j=N:=by
    rcases Xf (n+j) N with h|h|h
    ·exact absurd (hNw _ h) e'
    ·exact h
    ·have:=w' (N-n) (by omega)
     rw[itn,show n+(N-n)=N by omega] at this
     exact absurd this hNe
   dsimp only;rw[itn,hjN];refine Aj (h2 λhk=>?_);obtain⟨e,he,hke⟩:=(Z.mem k).mp hk;obtain⟨i,hi,ei⟩:=Cu.mp he;have ei':es[i]? = Aa e:=by rw[← Ca,An hi,ei]
   obtain⟨m,w1,w2⟩:=T.way i e ei';obtain⟨k',g1,g2⟩:=Z.good e he;have:=isT.inj hke g2;subst this;rw[g1] at w1 w2;have hmN:m<N:=by
    apply Fl;intro hc;by_cases hmN:m=N
    ·subst hmN
     exact hNe (Cn (by rw[Ca];exact w1))
    ·exact hNe (w2 N (by omega))
   exact miss j q m i e (by omega) w1 ei' hke
  |cand j i hj w' e' hh q =>
   rw[itn] at e';have hi:i<es.size:=by
    rw[← T.size];exact(Dt.mp e').1
   have ei:es[i]? = Aa es[i]:=Dz hi;have hjN:n+j<N:=by
    rcases Xf (n+j) N with h|h|h
    ·exact h
    ·rw[h] at e'
     exact absurd (Cn (by rw[Ca];exact e')) hNe
    ·have:=w' (N-n) (by omega)
     rw[itn,show n+(N-n)=N by omega] at this
     exact absurd this hNe
   obtain⟨k',g1,g2⟩:=Z.good es[i] (by simp)
   dsimp only;have main:Ao (Au prog w) A (do
     let Aa (_,y):=es[i]?|unsupported "internal:set-entry"
     let equal ← holding [y] (eqBool y x)
     let (es',_,t') ← Vi S
     if true&&equal then return .there none
     let Aa same:=t'.sameMemory t.moves t.mask|unsupported "set.changed-during-lookup:is-the-new-block-at-the-old-address"
     let still ← match (if same then t'.slot (it t.mask j (it t.mask n (st t.mask (Bm (Bf prog w) k)))).j else .empty) with
      |.live i'=>match es'[i']? with
       |some (_,y')=>do pure (if ← isSame y' y then Aa i' else none)
       |none=>pure none
      |_=>pure none
     match still with
     |none=>rule "set.search.anew";Qm S x (Bm (Bf prog w) k) true fuel none
     |some i'=>if equal then return .there (Aa i') else Qm S x (Bm (Bf prog w) k) true fuel (Aa (it t.mask (j+1) (it t.mask n (st t.mask (Bm (Bf prog w) k)))))) Q E s:=by
    rw[ei];dsimp only;refine Ac (Dp (eqT hu hS g2 hx ?_));refine Ac (Fu ho hd T.fits ?_);by_cases hkk:k'=k
    ·subst hkk
     simp only[decide_true,Uz,Dh];exact Aj (h1 ((Z.mem k').mpr ⟨es[i],by simp,g2⟩))
    ·simp only[hkk,decide_false,Os,Bt,Ec]
     have hm:t.sameMemory t.moves t.mask=Aa true:=by simp[SetTable.sameMemory]
     rw[hm];dsimp only;rw[itn,rM T.tb e'];simp only[Dh,ei];refine Ac (AX g2 ?_);simp only[Dh];refine Ac (Aj ?_);dsimp only;refine GW hu hS ho hd T Z hx N hNw hNe hNf h1 h2 fuel (n+j+1) _ ?_ (by omega) (by omega) λm i' e hm ei' ee hk=>?_
     ·rw[Ri,itn]
      rfl
     ·by_cases hmj:m<n+j
      ·exact miss j q m i' e hmj ei' ee hk
      ·have:m=n+j:=by omega
       subst this;have:=VI T.tb.rs ei' e';subst this;rw[ei] at ee;cases ee;exact hkk (isT.inj g2 hk)
   refine ZN (λ_=>?_) λ_=>?_
   ·refine Ac (AZ hS hx (λy hy=>?_) ?_)
    ·obtain⟨e,he,rfl⟩:=Cw.mp hy
     have:e∈es.toList:=by
      have:=(Nh.mp he);exact Nh.mpr (Array.mem_filter.mp this).1
     obtain⟨k2,_,g⟩:=Z.good e this;exact⟨k2,g⟩
    ·simp only[Bt,Ec]
     exact main
   ·exact main
end
end _S
namespace _S
open PySem
open PySem.SetTable (Probe leap runEnd turns bits)
@[reducible] def setO (es:Bj (Ak × Ad))(ep:Ai)(t:Fm):Cr:={ cls:=.type "set",dict:=none,data:=.set es ep t }
def mJ {h:Bk}{S:Af}{es es':Bj (Ak × Ad)}{ep:Ai}{t t':Fm}(ho:h.get? S=Aa (setO es ep t)):(h.update S (Zg es' t')).get? S=Aa (setO es' (ep+1) t'):=Ei _ ho rfl
structure SetK {K:Type}(is:K→Ad→Prop)(hash:K→Ak)(S:Af)(led:Aq)(V:Ab Ad)(seen:Ab K)(h:Bk):Prop where
 ex:∃ es ep t,h.get? S=Aa (setO es ep t)∧Set0 is hash es seen∧TabT t es∧t.led=led∧∀ e∈es.toList,e.2∈V
section
variable {prog:Bg}{w:By}{h0:Bk}{A:Bv}{E:Ad→Ag→Prop}{s:Ag}{S:Af}{led:Aq}{V:Ab Ad}
def G8 (a:Af)(wanted:Ai):setRelay a wanted=(do
  let (es,_,t) ← Vi a
  if Ew wanted>sizeLine then unsupported "set:memory"
  let (es,t) ← (do
   let Aa (t,zB):=t.relaid (es.map (·.1)) wanted|unsupported "internal:set-table-without-room"
   let es':=zB.filterMap (es[·]?)
   if es'.size != es.size then unsupported "internal:set-table-lost-an-element"
   pure (es',t))
  storeSet a es t):=rfl
def OB {seen:Ab (Ab Ak)}{k:Ab Ak}{x:Ad}{Q:Aq→Ag→Prop}(hu:A.units<Du)(hS:Sup h0 s.heap)(Z:SetK (isT prog w h0) (Bm (Bf prog w)) S led V seen s.heap)(hx:isT prog w h0 k x)(hV:x∈V){U:Ab (Ab Ak)}(hU:U.length≤1000)(hU1:∀ k'∈seen,k'∈U)(hU2:k∈U)
  (h:∀ (b:Aq) (h':Bk) (tk:Ai),s.toks≤tk→Eu S s.heap h'→SetK (isT prog w h0) (Bm (Bf prog w)) S led V (k::seen) h'→Q b { s with heap:=h',toks:=tk }) : Ao (Au prog w) A (Yf S x) Q E s:=by
 obtain⟨es,ep,t,ho,Z,T,hl,hm⟩:=Z;unfold Yf;refine Dp (Ac (CN hu hS hx ?_));unfold setAddHashed setAddHashedIn;refine Dp (Ac (Fu (s:={ s with toks:=s.toks+(k.length+1) }) ho rfl T.fits ?_))
 dsimp only;have hsc:byScan x es=false:=by
  obtain⟨a,rfl,_⟩:=hx;rfl
 rw[hsc];simp only[Bt,Ec];obtain⟨e,he,hne⟩:=T.gap;have first:∃ N,Way t (st t.mask (Bm (Bf prog w) k)) N∧(it t.mask N (st t.mask (Bm (Bf prog w) k))).j ∉ t.place.toList∧N<10*turns t.mask:=by
  obtain⟨N,hN,eN⟩:=cS T.msk (Bm (Bf prog w) k) he;have gm:=pW T.tb (λ_=>Bm (Bf prog w) k+1) (Bm (Bf prog w) k) (10*turns t.mask) (st t.mask (Bm (Bf prog w) k)) rfl ⟨N,hN,by rw[eN];exact hne⟩
  generalize Jy t _ _ _ _=r at gm;cases gm with
  |emp j hj w' e' q=>exact⟨j,w',e',hj⟩
  |cand j i hj w' e' hh q=>exact absurd hh (by omega)
 obtain⟨N,hNw,hNe,hNf⟩:=first
 have hNt:N<100000:=by
  have:turns t.mask≤2200:=by
   unfold turns;rcases T.msk with h|h|h|h|h <;> rw[h] <;> omega
  omega
 refine Ac (GW (s:={ s with toks:=s.toks+(k.length+1) }) hu hS ho rfl T Z hx N hNw hNe hNf (λhk=>?_) (λhk=>?_) 100000 0 none rfl (by omega) (by omega) λm i e hm=>by omega)
 ·exact Aj (h _ s.heap _ (by omega) (Qj _ _) ⟨es,ep,t,ho,Z.again hk,T,hl,hm⟩)
 ·have hle:es.size<1000:=Bn (Z.few hU1 hU2 hk) hU
  dsimp only;refine Ac (Fu (s:={ s with toks:=s.toks+(k.length+1) }) ho rfl T.fits ?_)
  obtain⟨p1,p2,p3,p4⟩:=T.put (h:=Bm (Bf prog w) k) (x:=x) hNw hNe (B8 _ _ _);generalize hj:(it t.mask N (st t.mask (Bm (Bf prog w) k))).j=j at *;have m1:(t.put j).1.mask=t.mask:=rfl;have m2:(t.put j).1.plain=true:=T.plain;have m3:(t.put j).1.led=led:=hl;generalize hp:t.put j=tp at *;obtain⟨t1,p⟩:=tp;dsimp only at p1 p2 p3 p4 m1 m2 m3 ⊢;rw[m2];simp only[Dh];refine Ac (OE (s:={ s with toks:=s.toks+(k.length+1) }) hS hx ?_)
  simp only[Dh,Zk,Ip];have hsz:(Bw es p (Bm (Bf prog w) k,x)).size=es.size+1:=jR _ _ _;have hline:es.size+1≤sizeLine:=by rw[Ep];omega
  refine Ac (Me (s:={ s with toks:=s.toks+(k.length+1) }) ho rfl ?_ (by rw[hsz];exact hline))
  have Z1:Set0 (isT prog w h0) (Bm (Bf prog w)) (Bw es p (Bm (Bf prog w) k,x)) (k::seen):=by
   refine Z.push (λa b=>isT.inj a b) hx hk ?_;have:=Hu es p (Bm (Bf prog w) k,x);rw[Hm] at this;exact this
  have hm1:∀ e∈(Bw es p (Bm (Bf prog w) k,x)).toList,e.2∈V:=λe he=>by
   have:=(Hu es p (Bm (Bf prog w) k,x)).mem_iff.mp he;rw[Hm] at this;rcases Cq.mp this with h1|h1
   ·exact hm e h1
   ·simp at h1;subst h1;exact hV
  have ho1:=mJ (es':=Bw es p (Bm (Bf prog w) k,x)) (t':=t1) ho;have sb1:=Gx s.heap S (Zg (Bw es p (Bm (Bf prog w) k,x)) t1);have hfit:t1.fits (Bw es p (Bm (Bf prog w) k,x)).size=true:=by
   have h3:t1.fill=es.size+1:=by unfold Kt;rw[p1.dm,p2,hsz];rfl
   have h2:=T.few;unfold Uy;rw[h3,p2,hsz,m1];rcases T.msk with h|h|h|h|h <;> rw[h] at h2 ⊢ <;> simp <;> omega
  refine ZN (λhf=>?_) λhf=>?_
  ·have hM1:Msk t1.mask:=by rw[m1];exact T.msk
   have h3:((Bw es p (Bm (Bf prog w) k,x)).size-1)*5<t1.mask*3:=by rw[hsz,m1];exact T.few
   obtain⟨q1,t2,zB,q2,q3,q4,q5,_⟩:=mZ hM1 m2 p2 (by rw[hsz];omega) (by simpa using hf) p1.dm h3 (by rw[hsz];omega)
   rw[hsz] at q1 q2;rw[G8];refine Ac ?_;refine Ac (Fu (s:={ s with heap:=_,toks:=s.toks+(k.length+1) }) ho1 rfl hfit ?_)
   dsimp only;rw[Be (by rw[Ep];omega)]
   refine Ac ?_;rw[q2];dsimp only;have hs2:(zB.filterMap λx_1=>(Bw es p (Bm (Bf prog w) k,x))[x_1]?).size=es.size+1:=by rw[← De,q4.length_eq,De,hsz]
   rw[Be (by rw[hs2,hsz];simp)]
   refine Aj ?_;refine Me (s:={ s with heap:=_,toks:=s.toks+(k.length+1) }) ho1 rfl ?_ (by rw[hs2];exact hline)
   refine Aj (h _ _ _ (Jc _ _) (sb1.trans (Gx _ S _)) ⟨_,_,t2,mJ ho1,Z1.perm q4,q5,by rw[q3];exact m3,λe he=>hm1 e (q4.mem_iff.mp he)⟩)
  ·refine Aj (h _ _ _ (Jc _ _) sb1 ⟨_,_,t1,ho1,Z1,⟨p1,by rw[m1];exact T.msk,p2,by rw[m1];exact p3,?_,by rw[m1];exact p4,m2⟩,m3,hm1⟩)
   have h3:t1.fill=es.size+1:=by unfold Kt;rw[p1.dm,p2,hsz];rfl
   unfold Rk at hf;rw[h3] at hf;rw[hsz];simpa using hf
end
end _S
namespace _S
open PySem
open PySem.SetTable (Probe leap runEnd turns bits)
variable {seen:Ab Ak}
def isI (prog:Bg)(w:By)(k:Ak)(v:Ad):Prop:=(Bf prog w).is k v=true
section
variable {prog:Bg}{w:By}{A:Bv}{E:Ad→Ag→Prop}{s:Ag}{S:Af}{led:Aq}{V:Ab Ad}
set_option tactic.hygienic true in
def yT {k:Ak}{v:Ad}(h:isI prog w k v):∃ t,v=.int k t:=by
 cases v <;> first|(exact absurd h (by rintro⟨⟩)) | skip
 rename_i i t;refine⟨t,?_⟩;have:i=k:=(Bf prog w).inj (.int i t) i k (Va _ _ _ _) h;rw[this]
def cG {es:Bj (Ak × Ad)}(Z:Set0 (isI prog w) (Bf prog w).hash es seen):ElemsOf (Bf prog w) es.toList:=λe he=>by
 obtain⟨k,h1,h2⟩:=Z.good e he;refine⟨⟨k,h2,h1⟩,?_⟩;obtain⟨t,q⟩:=yT h2;rw[q];rfl
def OA {k:Ak}{x:Ad}{Q:Aq→Ag→Prop}(Z:SetK (isI prog w) (Bf prog w).hash S led V seen s.heap)(hx:isI prog w k x)(hV:x∈V){U:Ab Ak}(hU:U.length≤1000)(hU1:∀ k'∈seen,k'∈U)(hU2:k∈U)
  (h:∀ (b:Aq) (h':Bk) (tk:Ai),s.toks≤tk→Eu S s.heap h'→SetK (isI prog w) (Bf prog w).hash S led V (k::seen) h'→Q b { s with heap:=h',toks:=tk }) : Ao (Au prog w) A (Yf S x) Q E s:=by
 obtain⟨es,ep,t,ho,Z,T,hl,hm⟩:=Z;have hsc:x.scannable=true:=by
  obtain⟨tk,q⟩:=yT hx;rw[q];rfl
 have hf:=T.fits;have hb:es.size<scanBound:=by
  have h1:=T.few;have:scanBound=4096:=rfl;rcases T.msk with h|h|h|h|h <;> rw[h] at h1 <;> omega
 unfold Yf;refine Dp (Ac ((Bf prog w).pyHash (k:=k) hx ?_));unfold setAddHashed setAddHashedIn;refine Dp (Ac (Fu (s:={ s with toks:=s.toks+1 }) ho rfl hf ?_))
 dsimp only;rw[byScan_of hsc hb (cG Z)];simp only[Dh];unfold setAddByScan;refine Ac (Ac (Ju (Ac (wpAny_setScan_of (s:={ s with toks:=s.toks+1 }) hx ho rfl hf (cG Z) ?_))))
 cases hr:es.toList.findIdx? (λe=>(Bf prog w).is k e.2) with
 |some j =>
  dsimp only;obtain⟨hj,hpj,_⟩:=List.findIdx?_eq_some_iff_getElem.mp hr;have hk:k∈seen:=(Z.mem k).mpr ⟨es.toList[j],Ga hj,hpj⟩;exact Aj (Aj (h _ s.heap _ (Jc _ _) (Qj _ _) ⟨es,ep,t,ho,Z.again hk,T,hl,hm⟩))
 |none =>
  dsimp only;have hk:k ∉ seen:=λhk=>by
   obtain⟨e,he,q⟩:=(Z.mem k).mp hk;have:=List.findIdx?_eq_none_iff.mp hr e he;rw[show (Bf prog w).is k e.2=true from q] at this
   cases this
  have hle:es.size<1000:=Bn (Z.few hU1 hU2 hk) hU;obtain⟨e,he,hne⟩:=T.gap;have first:∃ N,Way t (st t.mask ((Bf prog w).hash k)) N∧(it t.mask N (st t.mask ((Bf prog w).hash k))).j ∉ t.place.toList∧t.freeSlot ((Bf prog w).hash k)=Aa ((it t.mask N (st t.mask ((Bf prog w).hash k))).j,false):=by
   obtain⟨N,hN,eN⟩:=cS T.msk ((Bf prog w).hash k) he;have gm:=pW T.tb (λ_=>(Bf prog w).hash k+1) ((Bf prog w).hash k) (10*turns t.mask) (st t.mask ((Bf prog w).hash k)) rfl ⟨N,hN,by rw[eN];exact hne⟩
   unfold SetTable.freeSlot SetTable.probe;rw[ID];generalize Jy t _ _ _ _=r at gm;cases gm with
   |emp j hj w' e' q=>exact⟨j,w',e',rfl⟩
   |cand j i hj w' e' hh q=>exact absurd hh (by omega)
  obtain⟨N,hNw,hNe,hfs⟩:=first
  obtain⟨p1,p2,p3,p4⟩:=T.put (h:=(Bf prog w).hash k) (x:=x) hNw hNe (B8 _ _ _);generalize hj:(it t.mask N (st t.mask ((Bf prog w).hash k))).j=j at *;have m1:(t.put j).1.mask=t.mask:=rfl;have m2:(t.put j).1.plain=true:=T.plain;have m3:(t.put j).1.led=led:=hl;generalize hp:t.put j=tp at *;obtain⟨t1,p⟩:=tp;dsimp only at p1 p2 p3 p4 m1 m2 m3 ⊢;have hsz:(Bw es p ((Bf prog w).hash k,x)).size=es.size+1:=jR _ _ _;have hfit:t1.fits (Bw es p ((Bf prog w).hash k,x)).size=true:=by
   have h3:t1.fill=es.size+1:=by unfold Kt;rw[p1.dm,p2,hsz];rfl
   have h2:=T.few;unfold Uy;rw[h3,p2,hsz,m1];rcases T.msk with h|h|h|h|h <;> rw[h] at h2 ⊢ <;> simp <;> omega
  have lay:layNew t es ((Bf prog w).hash k) x=(Bw es p ((Bf prog w).hash k,x),t1,false,false):=by
   unfold layNew;rw[hfs];dsimp only;rw[hp];dsimp only;unfold SetTable.orStandIn;rw[hfit];rfl
  rw[lay];dsimp only;refine Ac (Aj (a:=()) ?_);have hbv:Pp 8 x=pure true:=by
   rw[hashByValue_scannable 8 hsc];obtain⟨tk,q⟩:=yT hx;subst q;rfl
  rw[hbv,ite_self];refine Ac (Aj ?_);simp only[Dh];have hline:es.size+1≤sizeLine:=by rw[Ep];omega
  refine Ac (Me (s:={ s with toks:=s.toks+1 }) ho rfl ?_ (by rw[hsz];exact hline))
  have pm:(Bw es p ((Bf prog w).hash k,x)).toList.Perm (es.toList++[((Bf prog w).hash k,x)]):=by
   have:=Hu es p ((Bf prog w).hash k,x);rw[Hm] at this;exact this
  have Z1:Set0 (isI prog w) (Bf prog w).hash (Bw es p ((Bf prog w).hash k,x)) (k::seen):=Z.push (λa b=>(Bf prog w).inj _ _ _ a b) hx hk pm;have hm1:∀ e∈(Bw es p ((Bf prog w).hash k,x)).toList,e.2∈V:=λe he=>by
   rcases Cq.mp (pm.mem_iff.mp he) with h1|h1
   ·exact hm e h1
   ·simp at h1;subst h1;exact hV
  have ho1:=mJ (es':=Bw es p ((Bf prog w).hash k,x)) (t':=t1) ho;have sb1:=Gx s.heap S (Zg (Bw es p ((Bf prog w).hash k,x)) t1);refine ZN (λhf=>?_) λhf=>?_
  ·have hM1:Msk t1.mask:=by rw[m1];exact T.msk
   have h3:((Bw es p ((Bf prog w).hash k,x)).size-1)*5<t1.mask*3:=by rw[hsz,m1];exact T.few
   obtain⟨q1,t2,zB,q2,q3,q4,q5,q6⟩:=mZ hM1 m2 p2 (by rw[hsz];omega) (by simpa using hf) p1.dm h3 (by rw[hsz];omega)
   have hs2:(zB.filterMap λx_1=>(Bw es p ((Bf prog w).hash k,x))[x_1]?).size=es.size+1:=by rw[← De,q4.length_eq,De,hsz]
   have rl:relayAll t1 (Bw es p ((Bf prog w).hash k,x)) (Gs (Bw es p ((Bf prog w).hash k,x)).size)=(zB.filterMap λx_1=>(Bw es p ((Bf prog w).hash k,x))[x_1]?,t2,false):=by
    unfold relayAll;rw[q2];dsimp only;have c1:coversAll zB (Bw es p ((Bf prog w).hash k,x)).size=true:=by
     unfold coversAll;exact List.isPerm_iff.mpr q6
    rw[c1,q5.fits];rfl
   rw[rl];dsimp only;refine Ac (Aj (a:=()) ?_);refine Ac (Me (s:={ s with heap:=_,toks:=s.toks+1 }) ho1 rfl ?_ (by rw[hs2];exact hline))
   exact Aj (Aj (h _ _ _ (Jc _ _) (sb1.trans (Gx _ S _)) ⟨_,_,t2,mJ ho1,Z1.perm q4,q5,by rw[q3];exact m3,λe he=>hm1 e (q4.mem_iff.mp he)⟩))
  ·refine Aj (Aj (h _ _ _ (Jc _ _) sb1 ⟨_,_,t1,ho1,Z1,⟨p1,by rw[m1];exact T.msk,p2,by rw[m1];exact p3,?_,by rw[m1];exact p4,m2⟩,m3,hm1⟩))
   have h3:t1.fill=es.size+1:=by unfold Kt;rw[p1.dm,p2,hsz];rfl
   unfold Rk at hf;rw[h3] at hf;rw[hsz];simpa using hf
end
end _S
namespace _S
open PySem
variable {Q:Ad→Ag→Prop}{i:Ai}
structure AddS (prog:Bg)(w:By){K:Type}(is:K→Ad→Prop)(hash:K→Ak)(h0:Bk):Prop where
 add:∀ {A:Bv} {E:Ad→Ag→Prop} {s:Ag} {S:Af} {led:Aq} {V:Ab Ad} {seen U:Ab K} {k:K} {x:Ad} {Q:Aq→Ag→Prop},A.units<Du→Sup h0 s.heap→SetK is hash S led V seen s.heap→is k x→x∈V→U.length≤1000→(∀ k'∈seen,k'∈U)→k∈U →
  (∀ (b:Aq) (h':Bk) (tk:Ai),s.toks≤tk→Eu S s.heap h'→SetK is hash S led V (k::seen) h'→Q b { s with heap:=h',toks:=tk }) → Ao (Au prog w) A (Yf S x) Q E s
def NR {prog:Bg}{w:By}(h0:Bk):AddS prog w (isT prog w h0) (Bm (Bf prog w)) h0:=⟨λhu hS Z hx hV h1 h2 h3 h=>OB hu hS Z hx hV h1 h2 h3 h⟩
def NQ {prog:Bg}{w:By}(h0:Bk):AddS prog w (isI prog w) (Bf prog w).hash h0:=⟨λ_ _ Z hx hV h1 h2 h3 h=>OA Z hx hV h1 h2 h3 h⟩
def vK {K:Type}(key:Ai→K):Ai→Ab K
 |0=>[]
 |i+1=>key i::vK key i
def gR {K:Type}{key:Ai→K}{k:K}:∀ {n:Ai},k∈vK key n↔∃ i,i<n∧key i=k
 |0=>by simp[vK]
 |n+1=>by
  rw[vK,Av,gR];constructor
  ·rintro (rfl|⟨i,h,e⟩)
   ·exact⟨n,by omega,rfl⟩
   ·exact⟨i,by omega,e⟩
  ·rintro⟨i,h,e⟩
   by_cases hi:i=n
   ·subst hi;exact .inl e.symm
   ·exact .inr ⟨i,by omega,e⟩
section
variable {prog:Bg}{w:By}{A:Bv}{R:Vh→Ag→Prop}{I:Af}{fp wr:Ab Af}{G:Bj Yk→Bj Yk→Prop}{n:Ai}{P:Ai→Ad→Prop}{St:Ai→Ag→Prop}
variable {K:Type}{is:K→Ad→Prop}{hash:K→Ak}{h0:Bk}{led:Aq}{V:Ab Ad}{U:Ab K}
def SetK.sup {S:Af}{seen:Ab K}{h h':Bk}(Z:SetK is hash S led V seen h)(e:∀ o,h.get? S=Aa o→h'.get? S=Aa o):SetK is hash S led V seen h':=by
 obtain⟨es,ep,t,ho,r⟩:=Z;exact⟨es,ep,t,e _ ho,r⟩
def QD (a:AddS prog w is hash h0)(W:WalksS prog w A.in1 I fp wr G n P St)(S:Af)(hSf:S ∉ fp)(hu:A.in1.units<Du)(key:Ai→K)(hkey:∀ i v,P i v→is (key i) v∧v∈V)(hU:U.length≤1000)(hUk:∀ i,i<n→key i∈U)
  (hS0:h0.get? S=none) (hw0:∀ b∈wr,h0.get? b=none):∀ (k i:Ai) (s:Ag),n-i=k→i≤n→St i s→Sup h0 s.heap→SetK is hash S led V (vK key i) s.heap →
   (∀ s',Moved (S::wr) G s s'→SetK is hash S led V (vK key n) s'.heap→R (.ok (.ret .none)) s')→Jk (Au prog w) A (.builtin "set.update.loop" ⟨[.ref S,.ref I],[]⟩) R s:=by
 have hSw:S ∉ wr:=λh=>hSf (W.sub _ h);have hsub:∀ b∈wr,b∈S::wr:=λb hb=>Bu _ hb;intro k
 induction k with
 |zero =>
  intro i s hk hi hst hS Z hR;have hin:i=n:=by omega
  subst hin;refine Fj Lb ?_;rw[Fg Hw _];show Ao _ A.in1 (Lr (.ref I) >>= _) _ _ s;refine Ac (W.done s _ _ hst λs' hm=>?_);exact Aj (hR s' (hm.mono hsub) (Z.sup λo e=>hm.heap S _ hSw e))
 |succ k ih =>
  intro i s hk hi hst hS Z hR;have hlt:i<n:=by omega
  refine Fj Lb ?_;rw[Fg Hw _];show Ao _ A.in1 (Lr (.ref I) >>= _) _ _ s;refine Ac (W.item i s _ _ hlt hst λv s' hP hst' hm=>?_);obtain⟨q1,q2⟩:=hkey i v hP;have hS':Sup h0 s'.heap:=λb o e=>hm.heap b o (λhb=>by rw[hw0 b hb] at e;cases e) (hS b o e)
  show Ao _ A.in1 (holding [v] (Yf S v) >>= _) _ _ s';refine Ac (Dp (a.add hu hS' (Z.sup λo e=>hm.heap S _ hSw e) q1 q2 hU (λk' hk'=>?_) (hUk i hlt) λb h' tk htk hsb Z'=>?_))
  ·obtain⟨j,hj,e⟩:=gR.mp hk'
   exact e▸hUk j (by omega)
  ·refine Aj ⟨Hs Hw _,ih (i+1) _ (by omega) hlt (W.frame _ s' _ _ hst' htk λb hb o e=>?_) (λb o e=>?_) Z' λs'' hm'' Z''=>?_⟩
   ·rw[hsb.2 b (λh:b=S=>hSf (by rw[← h];exact hb))];exact e
   ·rw[hsb.2 b (λh:b=S=>by rw[h,hS0] at e;cases e)];exact hS' b o e
   ·refine hR s'' (Moved.trans W.gtrans ((hm.mono hsub).then_heap htk λb o hb e=>?_) hm'') Z''
    rw[hsb.2 b (λh:b=S=>hb (by rw[h];exact Dd))];exact e
end
section
variable {prog:Bg}{w:By}{A:Bv}{E:Ad→Ag→Prop}{s:Ag}
def yR (w:By):Aq:=!w.params.followText "set-order"
@[reducible] def set0 (w:By):Cr:=setO #[] 0 (.fresh 0 0 (yR w))
def mX (a:Ad){Q₁:Ad→Ag→Prop}(h:Q₁ (.ref s.heap.objs.size) { s with heap:=s.heap.push (set0 w) }) : Jk (Au prog w) A (.call (.builtin "set.__new__") ⟨[.type "set",a],[]⟩) (wants Q₁ E) s:=by
 refine Sw ?_;show Ao _ A.in1 (do Rh "set.__new__" ⟨[.type "set",a],[]⟩;again (.builtin "set.__new__" ⟨[.type "set",a],[]⟩)) _ _ s
 refine Ac (Ms (PySem.F.newCall_set_1 a) (Aj ⟨Hs Tq _,Fj PySem.F.entry_set_new ?_⟩));rw[Fg Tq _];unfold Gq.«set.__new__» Zt;have hsub:=PySem.sub_set_self;obtain⟨hp,g,d,tk,os⟩:=s;dsimp only
 wp_walk
 refine Kl (Aj ?_);dsimp only;simp only[newObj];exact Ac (wpAny_alloc (Aj (Aj h)))
def rR (w:By):TabT (.fresh 0 0 (yR w)) #[]:=⟨⟨by unfold Rs;exact L2,rfl⟩,.inl rfl,rfl,λx hx=>(by cases hx),(show 0*5<7*3 by decide),λi e h=>(by simp at h),rfl⟩
variable {K:Type}{is:K→Ad→Prop}{hash:K→Ak}{U:Ab K}
def UC (a:AddS prog w is hash s.heap){l:Af}{items:Bj Ad}{Q:Ad→Ag→Prop}(hh:A.handled=none)(hu:A.units+8<Du)(hl:s.heap.IsList l items)(key:Ai→K)(hkey:∀ i v,items[i]? = Aa v→is (key i) v)(hU:U.length≤1000)(hUk:∀ i,i<items.size→key i∈U)
  (h:∀ (h':Bk) (tk:Ai),SetK is hash s.heap.objs.size (yR w) items.toList (vK key items.size) h'→(∀ b o,s.heap.get? b=Aa o→h'.get? b=Aa o)→Q (.ref s.heap.objs.size) { s with heap:=h',toks:=tk }) :
  Ao (Au prog w) A (call (.type "set") [.ref l]) Q E s:=by
 obtain⟨c,tl,hmro⟩:=Dm.mro;have hmade:=Dm.made;have hsub:=Dm.sub;refine Od (Sw ?_);show Ao _ _ (callAny (.type "set") _) _ _ _;refine Aj ⟨Pf _ (by decide +kernel),Fj Rx ?_⟩
 rw[Vu (Ts "set" [.ref l] []) rfl];have h1:=Dm.notType;have h2:=Dm.canCreate;have hct:=Sx (.ref l)
 repeat (any_goals (first|assumption|wp_step))
 refine Jf (mX (.ref l) (E:=E) (Q₁:=λobj s₁=>obj=.ref s.heap.objs.size∧s₁={ s with heap:=s.heap.push (set0 w) }) ⟨rfl,rfl⟩) λr s₁ hr=>?_
 cases r with
 |error e=>exact hr
 |ok fl =>
  cases fl with
  |ret obj =>
   obtain⟨rfl,rfl⟩:=hr;have hS:(s.heap.push (set0 w)).get? s.heap.objs.size=Aa (set0 w):=Ba _ rfl;have hT:Qn { s with heap:=s.heap.push (set0 w) } (.ref s.heap.objs.size) "set":=⟨_,hS,rfl⟩
   have hli:=Dm.init.lookup;have hbi:=Dm.init.bind (.ref s.heap.objs.size)
   repeat (any_goals (first|assumption|wp_step))
   refine Jf (Kg (R:=wants (λr s₂=>r=.none∧∃ h' tk,s₂={ s with heap:=h',toks:=tk } ∧ SetK is hash s.heap.objs.size (yR w) items.toList (vK key items.size) h'∧∀ b o,s.heap.get? b=Aa o→h'.get? b=Aa o) E) Dm.init.plain Sy (Yg hT ?_)) λr₂ s₂ hr₂=>?_
   ·obtain⟨ol,hol,hcl,nl,hdl⟩:=hl
    obtain⟨ocls,odict,odata,oslots⟩:=ol;simp only at hcl hdl;subst hcl;subst hdl;have hol':(s.heap.push (set0 w)).get? l=Aa { cls:=.type "list",dict:=odict,data:=.seq items nl,slots:=oslots }:=Ah _ hol;have hsls:=PySem.F.sub_list_set;have hslf:=PySem.F.sub_list_frozenset;have hne:(Gu "list" == Gu "dict")=false:=by decide
    have hl1:(s.heap.push (set0 w)).IsList l items:=⟨_,hol',rfl,nl,rfl⟩;unfold Gq.«set.__init__» noKeywords Om;generalize hPI:Ny=PI
    wp_walk
    subst hPI;refine Fs hl1 ?_;refine Ac (Uc ?_);have hlS:l<s.heap.objs.size:=AT hol;have hneI:l≠(s.heap.push (set0 w)).objs.size:=by
     rw[Dr];exact Co (Mf hlS)
    have nS:s.heap.get? s.heap.objs.size=none:=Iu (Aw _);have nI:s.heap.get? (s.heap.push (set0 w)).objs.size=none:=Iu (by rw[Dr];exact Mz _)
    refine QD (led:=yR w) (V:=items.toList) a ((Ze (A:=A.in1.in1.in1) (by simp[hh]) _ l hneI items).toS) s.heap.objs.size ?_ (by show A.units+3<Du;omega) key (λi v hv=>⟨hkey i v hv,?_⟩) hU hUk nS (λb hb=>?_) (items.size-0) 0 _ (by omega) (Fq _)
     ⟨⟨_,Ba _ rfl,rfl,rfl⟩,hl1.push _⟩ (λb o e=>Ah _ (Ah _ e)) ?_ λs' hm hS'=>?_
    ·rw[Dr];simp only[Av,Fh,Cj,Ez,Rj]
     exact⟨Co (Jd _),Gp hlS⟩
    ·exact Cn (by rw[Ca];exact hv)
    ·rw[Fh.mp hb];exact nI
    ·exact⟨#[],0,_,Ah _ hS,Set0.nil,rR w,rfl,λe he=>by simp at he⟩
    ·obtain⟨h',g',d',tk',os'⟩:=s'
     have eg:g'=s.gens:=hm.gens;have ed:d'=s.drawn:=hm.drawn;have eo:os'=s.os:=hm.os;subst eg;subst ed;subst eo;refine Aj (Aj ⟨rfl,h',tk',rfl,hS',λb o e=>?_⟩);refine hm.heap b o (λhb=>?_) (Ah _ (Ah _ e));rcases Av.mp hb with rfl|hb
     ·rw[nS] at e;cases e
     ·rw[Fh.mp hb,nI] at e;cases e
   ·cases r₂ with
    |error e=>exact hr₂
    |ok fl₂ =>
     cases fl₂ with
     |ret r =>
      obtain⟨rfl,h',tk,rfl,hS',hk'⟩:=hr₂
      repeat (any_goals (first|assumption|wp_step))
      exact h _ _ hS' hk'
     |_=>exact hr₂.elim
  |_=>exact hr.elim
def XX (a:AddS prog w is hash s.heap){l:Af}{items:Bj Ad}{Q:Ad→Ag→Prop}(hh:A.handled=none)(hu:A.units+8<Du)(hl:s.heap.IsTuple l items)(key:Ai→K)(hkey:∀ i v,items[i]? = Aa v→is (key i) v)(hU:U.length≤1000)(hUk:∀ i,i<items.size→key i∈U)
  (h:∀ (h':Bk) (tk:Ai),SetK is hash s.heap.objs.size (yR w) items.toList (vK key items.size) h'→(∀ b o,s.heap.get? b=Aa o→h'.get? b=Aa o)→Q (.ref s.heap.objs.size) { s with heap:=h',toks:=tk }) :
  Ao (Au prog w) A (call (.type "set") [.ref l]) Q E s:=by
 obtain⟨c,tl,hmro⟩:=Dm.mro;have hmade:=Dm.made;have hsub:=Dm.sub;refine Od (Sw ?_);show Ao _ _ (callAny (.type "set") _) _ _ _;refine Aj ⟨Pf _ (by decide +kernel),Fj Rx ?_⟩
 rw[Vu (Ts "set" [.ref l] []) rfl];have h1:=Dm.notType;have h2:=Dm.canCreate;have hct:=Sx (.ref l)
 repeat (any_goals (first|assumption|wp_step))
 refine Jf (mX (.ref l) (E:=E) (Q₁:=λobj s₁=>obj=.ref s.heap.objs.size∧s₁={ s with heap:=s.heap.push (set0 w) }) ⟨rfl,rfl⟩) λr s₁ hr=>?_
 cases r with
 |error e=>exact hr
 |ok fl =>
  cases fl with
  |ret obj =>
   obtain⟨rfl,rfl⟩:=hr;have hS:(s.heap.push (set0 w)).get? s.heap.objs.size=Aa (set0 w):=Ba _ rfl;have hT:Qn { s with heap:=s.heap.push (set0 w) } (.ref s.heap.objs.size) "set":=⟨_,hS,rfl⟩
   have hli:=Dm.init.lookup;have hbi:=Dm.init.bind (.ref s.heap.objs.size)
   repeat (any_goals (first|assumption|wp_step))
   refine Jf (Kg (R:=wants (λr s₂=>r=.none∧∃ h' tk,s₂={ s with heap:=h',toks:=tk } ∧ SetK is hash s.heap.objs.size (yR w) items.toList (vK key items.size) h'∧∀ b o,s.heap.get? b=Aa o→h'.get? b=Aa o) E) Dm.init.plain Sy (Yg hT ?_)) λr₂ s₂ hr₂=>?_
   ·obtain⟨ol,hol,hcl,nl,hdl⟩:=hl
    obtain⟨ocls,odict,odata,oslots⟩:=ol;simp only at hcl hdl;subst hcl;subst hdl;have hol':(s.heap.push (set0 w)).get? l=Aa { cls:=.type "tuple",dict:=odict,data:=.seq items nl,slots:=oslots }:=Ah _ hol;have hsls:=PySem.F.sub_tuple_set;have hslf:=PySem.F.sub_tuple_frozenset;have hne:(Gu "tuple" == Gu "dict")=false:=by decide
    have hl1:(s.heap.push (set0 w)).IsTuple l items:=⟨_,hol',rfl,nl,rfl⟩;unfold Gq.«set.__init__» noKeywords Om;generalize hPI:Ny=PI
    wp_walk
    subst hPI;refine Gj hl1 ?_;refine Ac (Uc ?_);have hlS:l<s.heap.objs.size:=AT hol;have hneI:l≠(s.heap.push (set0 w)).objs.size:=by
     rw[Dr];exact Co (Mf hlS)
    have nS:s.heap.get? s.heap.objs.size=none:=Iu (Aw _);have nI:s.heap.get? (s.heap.push (set0 w)).objs.size=none:=Iu (by rw[Dr];exact Mz _)
    refine QD (led:=yR w) (V:=items.toList) a ((Walks.tuple (A:=A.in1.in1.in1) (by simp[hh]) _ l hneI items).toS) s.heap.objs.size ?_ (by show A.units+3<Du;omega) key (λi v hv=>⟨hkey i v hv,?_⟩) hU hUk nS (λb hb=>?_) (items.size-0) 0 _ (by omega) (Fq _)
     ⟨⟨_,Ba _ rfl,rfl,rfl⟩,hl1.push _⟩ (λb o e=>Ah _ (Ah _ e)) ?_ λs' hm hS'=>?_
    ·rw[Dr];simp only[Av,Fh,Cj,Ez,Rj]
     exact⟨Co (Jd _),Gp hlS⟩
    ·exact Cn (by rw[Ca];exact hv)
    ·rw[Fh.mp hb];exact nI
    ·exact⟨#[],0,_,Ah _ hS,Set0.nil,rR w,rfl,λe he=>by simp at he⟩
    ·obtain⟨h',g',d',tk',os'⟩:=s'
     have eg:g'=s.gens:=hm.gens;have ed:d'=s.drawn:=hm.drawn;have eo:os'=s.os:=hm.os;subst eg;subst ed;subst eo;refine Aj (Aj ⟨rfl,h',tk',rfl,hS',λb o e=>?_⟩);refine hm.heap b o (λhb=>?_) (Ah _ (Ah _ e));rcases Av.mp hb with rfl|hb
     ·rw[nS] at e;cases e
     ·rw[Fh.mp hb,nI] at e;cases e
   ·cases r₂ with
    |error e=>exact hr₂
    |ok fl₂ =>
     cases fl₂ with
     |ret r =>
      obtain⟨rfl,h',tk,rfl,hS',hk'⟩:=hr₂
      repeat (any_goals (first|assumption|wp_step))
      exact h _ _ hS' hk'
     |_=>exact hr₂.elim
  |_=>exact hr.elim
def Z5 (a:AddS prog w is hash s.heap){l:Af}{items:Bj Ad}{Q:Ad→Ag→Prop}(hh:A.handled=none)(hu:A.units+8<Du)(hl:s.heap.IsList l items∨s.heap.IsTuple l items)(key:Ai→K)(hkey:∀ i v,items[i]? = Aa v→is (key i) v)(hU:U.length≤1000)(hUk:∀ i,i<items.size→key i∈U)
  (h:∀ (h':Bk) (tk:Ai),SetK is hash s.heap.objs.size (yR w) items.toList (vK key items.size) h'→(∀ b o,s.heap.get? b=Aa o→h'.get? b=Aa o)→Q (.ref s.heap.objs.size) { s with heap:=h',toks:=tk }) :
  Ao (Au prog w) A (call (.type "set") [.ref l]) Q E s:=by
 rcases hl with hl|hl
 ·exact UC a hh hu hl key hkey hU hUk h
 ·exact XX a hh hu hl key hkey hU hUk h
end
def nG {α:Type}:∀ {l:Ab α} {i:Ai} (h:i<l.length),(l[i]::l.eraseIdx i).Perm l
 |a::l,0,h=>by simp
 |a::l,i+1,h=>by
  rw[List.eraseIdx_cons_succ,List.getElem_cons_succ];exact(List.Perm.swap _ _ _).trans ((nG (l:=l) (i:=i) (by simpa using h)).cons a)
def rE {α:Type}(next:Ai→Ai):∀ (fuel k:Ai) (left:Ab α) (out:Bj α),left.length=fuel→(Wl next fuel k left out).toList.Perm (out.toList++left)
 |0,k,left,out,h=>by
  have:left=[]:=Nt h;subst this;unfold Wl;simp
 |fuel+1,k,left,out,h=>by
  unfold Wl;have hlt:next k % left.length<left.length:=Oh _ (by omega)
  rw[An hlt];dsimp only;refine(rE next fuel (k+1) _ _ (by rw[List.length_eraseIdx,Bd hlt];omega)).trans ?_
  rw[Hm,Eo];refine List.Perm.append_left _ ?_;exact nG hlt
def dR {α:Type}(next:Ai→Ai)(xs:Bj α) : (Nu next xs).toList.Perm xs.toList:=by
 have:=rE next xs.size 0 xs.toList #[] (by simp)
 simpa [Nu] using this
def uM:Slot "set_iterator" "__next__" "set_iterator.__next__":=
 .of (owner:="set_iterator") (n:="__next__") (by rw[Ys,Tt];kernel_rfl) (by decide +kernel) (by decide +kernel) (by decide +kernel) (.inl (by decide +kernel)) (by rw[Ud];kernel_rfl)
def nF:entryFor table "set_iterator.__next__" = Aa Gq.«set_iterator.__next__»:=entryFor_of_fast (by kernel_rfl)
def sG (a:Ad):Tp "set_iterator.__next__" ⟨[a],[]⟩:=by unfold Tp;kernel_rfl
def rN:Slot "set_iterator" "__iter__" "set_iterator.__iter__":=
 .of (owner:="set_iterator") (n:="__iter__") (by rw[Ys,Tt];kernel_rfl) (by decide +kernel) (by decide +kernel) (by decide +kernel) (.inl (by decide +kernel)) (by rw[Ud];kernel_rfl)
def ZI:entryFor table "set_iterator.__iter__" = Aa Gq.«dict_keyiterator.__iter__»:=entryFor_alias (id':="dict_keyiterator.__iter__") (by kernel_rfl) rfl (by decide +kernel) (by kernel_rfl)
def XQ (a:Ad):Tp "set_iterator.__iter__" ⟨[a],[]⟩:=by unfold Tp;kernel_rfl
def ZH:entryFor table "set.__iter__" = Aa Gq.«frozenset.__iter__»:=entryFor_alias (id':="frozenset.__iter__") (by kernel_rfl) rfl (by decide +kernel) (by kernel_rfl)
def MA (a:Af)(slot given epochThen:Ai):setNext a slot given epochThen=(do
  let (es,epoch,t) ← Vi a
  if ← Zh then
   if epoch != epochThen then unsupported "set_iterator.__next__:elements-changed"
   return ((← setWalk a)[given]?).map λe=>(e.2,slot)
  if !t.plain&&es.size>1 then unsupported "set_iterator.__next__:the-table-is-plain-no-more"
  (do if !t.led&&!es.isEmpty then unsupported "set:maker-not-led")
  return match es[Cf t.place slot]?,t.place[Cf t.place slot]? with
   |some (_,x),Aa j=>Aa (x,j+1)
   |_,_=>none):=rfl
def NB (a:Af):setWalk a=(do
  let (es,epoch,t) ← Vi a
  if ← Zh then return Nu ((← ask).params.setOrder a epoch) es
  if !t.plain&&es.size>1 then return (← drawOrder es.size es.toList).toArray
  (do if !t.led&&es.size>1 then unsupported "set:maker-not-led")
  return es):=rfl
def J0 (a:Af):setDrawn a=(do
  let (es,_,t) ← Vi a
  let byText ← Zh
  return !byText&&(!t.plain&&es.size>1)):=rfl
structure Still (w:By)(S:Af)(es:Bj (Ak × Ad))(ep:Ai)(t:Fm):Prop where
 tab:TabT t es
 led:t.led=yR w
def zB (w:By)(S:Af)(ep:Ai)(es:Bj (Ak × Ad)):Bj (Ak × Ad):=if w.params.followText "set-order" = true then Nu (w.params.setOrder S ep) es else es
def lD (w:By)(S:Af)(ep:Ai)(es:Bj (Ak × Ad)):(zB w S ep es).toList.Perm es.toList:=by
 unfold zB
 split
 ·exact dR _ _
 ·exact Zl _
def kI (w:By)(S:Af)(ep:Ai)(es:Bj (Ak × Ad)):(zB w S ep es).size=es.size:=by
 rw[← De,(lD w S ep es).length_eq,De]
def itO (slot i:Ai)(S:Af)(n ep:Ai):Cr:={ cls:=.type "set_iterator",data:=.fields #[.int slot 0,.int i 0,.ref S,.int n 0,.int ep 0] }
def At (w:By)(I S:Af)(es:Bj (Ak × Ad))(ep:Ai)(t:Fm)(i:Ai)(h:Bk):Prop:=
 ∃ slot,h.get? I=Aa (itO slot i S es.size ep)∧h.get? S=Aa (setO es ep t)∧(w.params.followText "set-order" = true∨Cf t.place slot=i)
section
variable {prog:Bg}{w:By}{A:Bv}{E:Ad→Ag→Prop}{s:Ag}{S I:Af}{es:Bj (Ak × Ad)}{ep:Ai}{t:Fm}
def X4 {slot:Ai}{Q:Am (Ad × Ai)→Ag→Prop}(Z:Still w S es ep t)(ho:s.heap.get? S=Aa (setO es ep t))(hs:w.params.followText "set-order" = true∨Cf t.place slot=i)
  (h1:∀ e slot',(zB w S ep es)[i]? = Aa e→(w.params.followText "set-order" = true∨Cf t.place slot'=i+1)→Q (Aa (e.2,slot')) s) (h2:(zB w S ep es)[i]? = none→Q none s):Ao (Au prog w) A (setNext S slot i ep) Q E s:=by
 rw[MA];refine Ac (Fu ho rfl Z.tab.fits ?_);dsimp only;refine Ac (Ac (Kl (Aj ?_)));cases hf:w.params.followText "set-order" with
 |true =>
  show Ao _ _ (if (w.params.followText "set-order")=true then _ else _) _ _ _
  rw[Bd hf];have hb:(ep != ep)=false:=by simp
  rw[hb];simp only[Bt,Ec];refine Ac ?_;rw[NB];refine Ac (Fu ho rfl Z.tab.fits ?_);dsimp only;refine Ac (Ac (Kl (Aj ?_)));show Ao _ _ (if (w.params.followText "set-order")=true then _ else _) _ _ _
  rw[Bd hf];refine Ac (Kl (Aj (Aj ?_)));show Q (((Nu (w.params.setOrder S ep) es)[i]?).map λe=>(e.2,slot)) s;have ho':zB w S ep es=Nu (w.params.setOrder S ep) es:=by unfold zB;rw[Bd hf]
  rw[ho'] at h1 h2;cases hx:(Nu (w.params.setOrder S ep) es)[i]? with
  |none=>exact h2 hx
  |some e=>exact h1 e slot hx (.inl hf)
 |false =>
  show Ao _ _ (if (w.params.followText "set-order")=true then _ else _) _ _ _
  rw[Be (by rw[hf];decide),Z.tab.plain,Z.led]
  unfold yR;rw[hf];simp only[Hd,Op,Bt,Ec,Zk];have hb:Cf t.place slot=i:=by
   rcases hs with h|h
   ·rw[hf] at h;cases h
   ·exact h
  rw[hb];have ho':zB w S ep es=es:=by unfold zB;rw[Be (by rw[hf];decide)]
  rw[ho'] at h1 h2;refine Aj ?_;cases hx:es[i]? with
  |none=>exact h2 hx
  |some e =>
   have hi:i<t.place.size:=by rw[Z.tab.size];exact(Dt.mp hx).1
   have hp:t.place[i]? = Aa t.place[i]:=Dz hi;rw[hp];exact h1 e _ hx (.inr (Z2 Z.tab.tb.rs hp))
def At.type (h:At w I S es ep t i s.heap):s.TypeIs (.ref I) "set_iterator":=by
 obtain⟨slot,h,_⟩:=h;exact⟨_,h,rfl⟩
def rB (Z:Still w S es ep t)(hI:At w I S es ep t i s.heap)
  (h1:∀ e slot' slot,(zB w S ep es)[i]? = Aa e→s.heap.get? I=Aa (itO slot i S es.size ep)→s.heap.get? S=Aa (setO es ep t)→(w.params.followText "set-order" = true∨Cf t.place slot'=i+1) →
   Q e.2 { s with heap:=(s.heap.update I (Vb (·.setIfInBounds 0 (Mo slot')))).update I (Vb (·.setIfInBounds 1 (Mo ((i:Ak)+1)))) })
  (h2:(zB w S ep es)[i]? = none→Ao (Au prog w) A (do setField (.ref I) 2 .none;raiseNew (← newExc (.type "StopIteration") [])) (λ(fin:PySem.Fin) s'=>∃ r,fin=.done (.ret r)∧Q r s') E s) :
  Ao (Au prog w) A (Gq.«set_iterator.__next__» ⟨[.ref I],[]⟩) (λfin s'=>∃ r,fin=.done (.ret r)∧Q r s') E s:=by
 obtain⟨slot,hg,hS,hb⟩:=hI;show Ao _ _ (fieldsOf (.ref I) >>= _) _ _ s;refine Ac (wpAny_fieldsOf hg rfl ?_);show Ao _ _ (setEntries S >>= _) _ _ s;refine Ac (Vc hS rfl Z.tab.fits ?_);have hne:(((es.size:Ai):Ak) != ((es.size:Ai):Ak))=false:=by simp
 rw[hne];simp only[Bt,Ec];show Ao _ _ (setNext S (slot:Ak).toNat (i:Ak).toNat (ep:Ak).toNat >>= _) _ _ s;rw[Fp,Fp,Fp];refine Ac (X4 Z hS hb (λe slot' he hb'=>?_) λhe=>?_)
 ·dsimp only
  refine Ac (Lx hg rfl (by show 0<5;decide) ?_)
  have hg2:=Ei (Vb (·.setIfInBounds 0 (Mo slot'))) hg rfl
  refine Ac (Lx hg2 rfl (by show 1<5;decide) ?_)
  exact Aj ⟨_,rfl,h1 e slot' slot he hg hS hb'⟩
 ·exact h2 he
def NA (hh:A.handled=none)(hne:S≠I)(Z:Still w S es ep t):Walks prog w A I [I,S] [I] es.size (λi v=>∃ e,(zB w S ep es)[i]? = Aa e∧e.2=v) (λi h=>At w I S es ep t i h) where
 sub:=λb hb=>by simp at hb;simp[hb]
 frame:=λi h h' ⟨slot,h1,h2,h3⟩ hk=>⟨slot,hk I (by simp) _ h1,hk S (by simp) _ h2,h3⟩
 item:=λi s Q E hi st hQ=>by
  unfold Lr;refine Ac (Io (Dq (name:=Fb "__next__") st.type uM (Dx uM st.type nF (rB Z st (λe slot' slot he hg hS hb=>?_) λhe=>?_) (sG _))))
  ·refine Aj (hQ e.2 _ s.toks ⟨e,he,rfl⟩ ⟨slot',?_,?_,hb⟩ λb o hb e=>?_)
   ·exact Ei _ (Ei _ hg rfl) rfl
   ·rw[Bz _ _ hne.symm,Bz _ _ hne.symm];exact hS
   ·have hb:I≠b:=λz=>hb (by simp[z])
    rw[Bz _ _ hb,Bz _ _ hb];exact e
  ·have:=Array.getElem?_eq_none_iff.mp he
   rw[kI] at this;omega
 done:=λs Q E st hQ=>by
  unfold Lr;refine Ac (Io (Dq (name:=Fb "__next__") st.type uM (Dx uM st.type nF (rB Z st (λe slot' slot he hg hS hb=>?_) λhe=>?_) (sG _))))
  ·have:=(Dt.mp he).1
   rw[kI] at this;omega
  ·obtain⟨slot,hg,hS,hb⟩:=st
   refine Ac (Lx hg rfl (by show 2<5;decide) ?_)
   refine Ac ?_;simp only[newExc,newTuple];refine Ac (Cy ?_ (by size_fits))
   refine Ac (m:=Ou _ _) (Ms (a:=Ff) (by first|rfl|(simp only[Ou];rfl)) ?_)
   refine Cy ?_ (by size_fits)
   simp only[raiseNew];refine Ac (wpAny_handled ?_);rw[show A.in1.handled=none from hh]
   refine Ac (Aj (wpAny_throw ?_));refine Ac (Mw (T:="StopIteration") (b:=true) ⟨_,Ba _ rfl,rfl⟩ TD ?_);refine Aj (hQ _ s.toks λb o hb e=>?_);exact(((Gx ..).extBut.push _).push _) b o (λz=>hb (by simp[z])) e
 self:=λi s Q E st hQ=>by
  refine Xg st.type rN (Dx rN st.type ZI ?_ (XQ _));show Ao _ _ (ret (.ref I)) _ _ s;exact Aj ⟨_,rfl,"set_iterator",_,st.type,uM.lookup,hQ⟩
def JS (Z:Still w S es ep t)(ho:s.heap.get? S=Aa (setO es ep t))(h:Q (.ref s.heap.objs.size) { s with heap:=s.heap.push (itO 0 0 S es.size ep) }) : Ao (Au prog w) A (Ny (.ref S)) Q E s:=by
 have hT:s.TypeIs (.ref S) "set":=⟨_,ho,rfl⟩;refine Xg hT Tu (Dx Tu hT ZH ?_ (PySem.F.args_set_iter_1 _));show Ao _ _ (Qz S >>= _) _ _ s;unfold Qz;refine Ac (Ac (Vc ho rfl Z.tab.fits (Aj ?_)));refine Ac ?_;rw[J0];refine Ac (Fu ho rfl Z.tab.fits ?_);dsimp only;refine Ac (Ac (Kl (Aj (Aj ?_))));rw[Z.tab.plain];simp only[Hd,Op,Os,Bt,Ec];refine Ac (Aj ?_);unfold setEpoch;refine Ac (Ac (Fu ho rfl Z.tab.fits (Aj ?_)));refine Ac (Cy (Aj ⟨_,rfl,"set_iterator",_,⟨_,Ba _ rfl,rfl⟩,uM.lookup,h⟩))
def BG (Z:Still w S es ep t)(ho:s.heap.get? S=Aa (setO es ep t)):At w s.heap.objs.size S es ep t 0 (s.heap.push (itO 0 0 S es.size ep)):=
 ⟨0,Ba _ rfl,Ah _ ho,.inr (Z3 Z.tab.tb.rs)⟩
end
end _S
namespace _S
open PySem PySem.W PyProof.Rows
variable {vs:Ab Ad}{N:Ai}
structure Ord {K:Type}(lt:K→K→Aq):Prop where
 irr:∀ a,lt a a=false
 tr:∀ {a b c},lt a b=true→lt b c=true→lt a c=true
 tri:∀ {a b},lt a b=false→a=b∨lt b a=true
def ltI (a b:Ak):Aq:=decide (a<b)
def OY:Ord ltI:=⟨λa=>by simp[ltI],λ{a b c} h1 h2=>by simp only[ltI,Cm] at *;omega,λ{a b} h=>by simp only[ltI,Cm,Lq] at *;omega⟩
def oP:∀ a:Ab Ak,_H.lexLt a a=false
 |[]=>rfl
 |x::xs=>by rw[_H.lexLt_cons,Bd rfl];exact oP xs
def Y4:∀ {a b c:Ab Ak},_H.lexLt a b=true→_H.lexLt b c=true→_H.lexLt a c=true
 |_,[],[],_,h=>by cases h
 |_,_::_,[],_,h=>by cases h
 |[],_,_::_,_,_=>rfl
 |_::_,[],_::_,h,_=>by cases h
 |x::xs,y::ys,z::zs,h1,h2=>by
  rw[_H.lexLt_cons] at h1 h2 ⊢;by_cases e1:x=y
  ·subst e1
   rw[Bd rfl] at h1;by_cases e2:x=z
   ·rw[Bd e2] at h2 ⊢;exact Y4 h1 h2
   ·rw[Be e2] at h2 ⊢;exact h2
  ·rw[Be e1] at h1
   have h1:=Ce h1;by_cases e2:y=z
   ·subst e2;rw[Be e1];exact Bi h1
   ·rw[Be e2] at h2
    have h2:=Ce h2;rw[Be (by omega)]
    exact Bi (by omega)
def oQ:∀ {a b:Ab Ak},_H.lexLt a b=false→a=b∨_H.lexLt b a=true
 |[],[],_=>.inl rfl
 |[],_::_,h=>by cases h
 |_::_,[],_=>.inr rfl
 |x::xs,y::ys,h=>by
  rw[_H.lexLt_cons] at h ⊢;by_cases e:x=y
  ·subst e
   rw[Bd rfl] at h ⊢;rcases oQ h with h|h
   ·exact .inl (by rw[h])
   ·exact .inr h
  ·rw[Be e] at h
   have h:=Hz h;rw[Be (Em e)];exact .inr (Bi (by omega))
def vS:Ord _H.lexLt:=⟨oP,Y4,oQ⟩
def sR {α:Type}{p q:α→Aq}:∀ {l:Ab α},(∀ x∈l,p x=true→q x=true)→(∃ x∈l,q x=true∧p x=false)→l.countP p<l.countP q
 |[],_,⟨x,h,_⟩=>by simp at h
 |a::l,h,⟨x,hx,h1,h2⟩=>by
  have le:l.countP p≤l.countP q:=Tv λy hy=>h y (by simp[hy])
  rw[Yh,Yh];rcases Av.mp hx with rfl|hx
  ·rw[Be (by rw[h2];decide),Bd h1];omega
  ·have ih:=sR (l:=l) (λy hy=>h y (by simp[hy])) ⟨x,hx,h1,h2⟩
   have:=h a (by simp)
   cases hp:p a with
   |false=>rw[Be (by decide)];split <;> omega
   |true=>rw[Bd rfl,Bd (this hp)];omega
section
variable {K:Type}{lt':K→K→Aq}
def lL (lt':K→K→Aq)(ks:Ab K)(x:K):Ak:=(ks.countP (λk=>lt' k x):Ai)
def aX (O:Ord lt'){ks:Ab K}{x y:K}(hx:x∈ks):lt' x y=decide (lL lt' ks x<lL lt' ks y):=by
 unfold lL;cases h:lt' x y with
 |true =>
  refine(Bi ?_).symm;have:=sR (l:=ks) (p:=λk=>lt' k x) (q:=λk=>lt' k y) (λz _ hz=>O.tr hz h) ⟨x,hx,h,O.irr x⟩;omega
 |false =>
  refine(Bs ?_).symm;have:ks.countP (λk=>lt' k y)≤ks.countP (λk=>lt' k x):=by
   rcases O.tri h with e|h'
   ·rw[e];exact Aw _
   ·exact Tv λz _ hz=>O.tr hz h'
  omega
def bQ (lt':K→K→Aq)(ks:Ab K)(d:K)(i j:Ai):Aq:=lt' (ks.getD i d) (ks.getD j d)
def Nf (lt':K→K→Aq)(l:Ab K):Prop:=l.Pairwise λa b=>lt' b a=false
def oU (O:Ord lt'):∀ {a b:Ab K},Nf lt' a→Nf lt' b→a.Perm b→a=b
 |[],b,_,_,p=>(List.nil_perm.mp p).symm
 |x::a,b,ha,hb,p=>by
  cases b with
  |nil=>exact absurd p.symm (by simp)
  |cons y b =>
   unfold Nf at ha hb;rw[Dl] at ha hb;have e:x=y:=by
    rcases Av.mp (p.mem_iff.mp (.head _)) with e|e
    ·exact e
    ·rcases Av.mp (p.mem_iff.mpr (.head _)) with e'|e'
     ·exact e'.symm
     ·have h1:=ha.1 y e'
      have h2:=hb.1 x e;rcases O.tri h1 with e|h
      ·exact e.symm
      ·rw[h2] at h;cases h
   subst e;rw[oU O ha.2 hb.2 (List.Perm.cons_inv p)]
def YN (O:Ord lt'){l:Ab K}(h:Nf lt' l)(nd:l.Nodup):l.Pairwise λa b=>lt' a b=true:=by
 refine List.Pairwise.imp₂ (λ{a b} h1 h2=>?_) h nd;exact(O.tri h1).elim (λe=>absurd e.symm h2) id
def fV (lt':K→K→Aq)(l:Ab K):Ab K:=l.mergeSort λa b=>!lt' b a
def rP (l:Ab K):(fV lt' l).Perm l:=List.mergeSort_perm _ _
def N1 (O:Ord lt')(l:Ab K):Nf lt' (fV lt' l):=by
 have:=List.pairwise_mergeSort (le:=λa b=>!lt' b a) (λa b c h1 h2=>?_) (λa b=>?_) l
 ·exact this.imp λh=>by simpa using h
 ·have h1:lt' b a=false:=by simpa using h1
  have h2:lt' c b=false:=by simpa using h2
  cases h3:lt' c a with
  |false=>rfl
  |true =>
   rcases O.tri h1 with e|h
   ·rw[← e] at h3;rw[h3] at h2;cases h2
   ·have:=O.tr h3 h;rw[h2] at this;cases this
 ·cases h:lt' b a with
  |false=>rfl
  |true =>
   cases h':lt' a b with
   |false=>rfl
   |true=>have:=O.tr h h';rw[O.irr] at this;cases this
def kX (lt':K→K→Aq)(x:K):Ab K→Ab K
 |[]=>[x]
 |y::l=>if lt' x y then x::y::l else if lt' y x then y::kX lt' x l else y::l
def srt (lt':K→K→Aq):Ab K→Ab K
 |[]=>[]
 |x::xs=>kX lt' x (srt lt' xs)
set_option tactic.hygienic true in
def tL (O:Ord lt')(x y:K):∀ l:Ab K,y∈kX lt' x l↔y=x∨y∈l
 |[]=>by simp[kX]
 |z::l=>by
  unfold kX
  split
  ·simp
  ·rename_i h1
   split
   ·rw[Av,tL O x y l,Av]
    exact⟨λh=>by rcases h with h|h|h <;> simp[h],λh=>by rcases h with h|h|h <;> simp[h]⟩
   ·rename_i h2
    have:x=z:=(O.tri (by simpa using h1)).elim id λh=>absurd h h2
    subst this;simp
set_option tactic.hygienic true in
def oF (O:Ord lt')(x:K):∀ l:Ab K,l.Pairwise (λa b=>lt' a b=true)→(kX lt' x l).Pairwise (λa b=>lt' a b=true)
 |[],_=>by simp[kX]
 |z::l,h=>by
  rw[Dl] at h;unfold kX
  split
  ·rename_i h1
   refine Dl.mpr ⟨λy hy=>?_,Dl.mpr h⟩;rcases Av.mp hy with rfl|hy
   ·exact h1
   ·exact O.tr h1 (h.1 y hy)
  ·split
   ·rename_i h2
    refine Dl.mpr ⟨λy hy=>?_,oF O x l h.2⟩;rcases (tL O x y l).mp hy with rfl|hy
    ·exact h2
    ·exact h.1 y hy
   ·exact Dl.mpr h
def uN (O:Ord lt')(y:K):∀ l:Ab K,y∈srt lt' l↔y∈l
 |[]=>by simp[srt]
 |x::l=>by rw[srt,tL O,uN O y l,Av]
def gF (O:Ord lt'):∀ l:Ab K,(srt lt' l).Pairwise (λa b=>lt' a b=true)
 |[]=>by simp[srt]
 |x::l=>oF O x _ (gF O l)
def mP (O:Ord lt'):∀ {a b:Ab K},a.Pairwise (λa b=>lt' a b=true)→b.Pairwise (λa b=>lt' a b=true)→(∀ x,x∈a↔x∈b)→a=b
 |[],[],_,_,_=>rfl
 |[],y::b,_,_,h=>by have:=(h y).mpr (by simp);simp at this
 |x::a,[],_,_,h=>by have:=(h x).mp (by simp);simp at this
 |x::a,y::b,ha,hb,h=>by
  rw[Dl] at ha hb;have asym:∀ {u v},lt' u v=true→lt' v u=true→Fe:=λp q=>by have:=O.tr p q;rw[O.irr] at this;cases this
  have e:x=y:=by
   rcases Av.mp ((h x).mp (by simp)) with e|e
   ·exact e
   ·rcases Av.mp ((h y).mpr (by simp)) with e'|e'
    ·exact e'.symm
    ·exact(asym (hb.1 x e) (ha.1 y e')).elim
  subst e;have ne:∀ {z:K} {l:Ab K},(∀ y∈l,lt' x y=true)→z∈l→z≠x:=λh hz e=>by subst e;have:=h _ hz;rw[O.irr] at this;cases this
  rw[mP O ha.2 hb.2 λz=>⟨λhz=>?_,λhz=>?_⟩]
  ·exact(Av.mp ((h z).mp (by simp[hz]))).elim (λe=>absurd e (ne ha.1 hz)) id
  ·exact(Av.mp ((h z).mpr (by simp[hz]))).elim (λe=>absurd e (ne hb.1 hz)) id
def SW (O:Ord lt'){l xs:Ab K}(h:Nf lt' l)(nd:l.Nodup)(m:∀ x,x∈l↔x∈xs):l=srt lt' xs:=
 mP O (YN O h nd) (gF O xs) λx=>by rw[m,uN O]
end
def M5:Za (.type "set") "__len__" = pure (Aa (.builtin "set.__len__")):=PySem.F.slot_set_len.lookup
section
variable {prog:Bg}{w:By}{A:Bv}{E:Ad→Ag→Prop}{s:Ag}{S:Af}{es:Bj (Ak × Ad)}{ep:Ai}{t:Fm}
def JM {r:Af}(hT:s.TypeIs (.ref r) "set"){Q:Aq→Ag→Prop}(h:Q false s):Ao (Au prog w) A (Ow (.ref r)) Q E s:=by
 unfold Ow;refine Ac (Sn hT M5 ?_);generalize hid:("set.__len__" : Ea)=id0
 wp_delta
 rw[show splitId id0=Aa ("set","__len__") from by subst hid;decide +kernel]
 subst hid;refine Ac (Mw (T:="set") (b:=true) hT (by rw[Ud];kernel_rfl) ?_)
 refine Sz (λhab=>absurd hab (by decide)) (λ_=>?_)
 refine Sz (λ_=>?_) (λhab=>absurd (by decide +kernel) hab)
 exact Ac (Je hT (Aj h))
def iI {Q:Ab Ad→Ag→Prop}(hh:A.handled=none)(Z:Still w S es ep t)(ho:s.heap.get? S=Aa (setO es ep t))(hn:es.size≤1000)
  (h:∀ h' tk,(∀ b o,s.heap.get? b=Aa o→h'.get? b=Aa o)→s.heap.objs.size<h'.objs.size→Q ((zB w S ep es).toList.map (·.2)) { s with heap:=h',toks:=tk }) : Ao (Au prog w) A (collect (.ref S)) Q E s:=by
 have hS:S<s.heap.objs.size:=AT ho;unfold collect;refine Ac (Uc (Fj PySem.F.entry_proto_collect ?_));rw[Fg PySem.F.plain_proto_collect _];show Ao _ A.in1 (newList [] >>= λl=>again (.builtin "list.__iadd__" ⟨[l,.ref S],[]⟩)) _ _ s;refine Ac (Cy (Aj ⟨Hs Ry _,Fj PySem.F.entry_list_iadd ?_⟩));rw[Fg Ry _];have hD:(s.heap.push { cls:=.type "list",data:=.seq ([] : Ab Ad).toArray }).get? s.heap.objs.size=Aa { cls:=.type "list",data:=.seq #[] }:=Ba _ rfl;have ho1:(s.heap.push { cls:=.type "list",data:=.seq ([] : Ab Ad).toArray }).get? S=Aa (setO es ep t):=Ah _ ho;show Ao _ A.in1 (Ox (.ref s.heap.objs.size) (.ref S) (.ref s.heap.objs.size)) _ _ _;unfold Ox;have hT1:Qn { s with heap:=s.heap.push { cls:=.type "list",data:=.seq ([] : Ab Ad).toArray } } (.ref S) "set":=⟨_,ho1,rfl⟩
 refine Ac (Je hT1 ?_);have h1:Ra (.ref s.heap.objs.size) (.ref S)=false:=by simp[Ra];exact Gp hS
 rw[Be (by rw[h1];decide)]
 refine Ac (JS (s:={ s with heap:=s.heap.push { cls:=.type "list",data:=.seq ([] : Ab Ad).toArray } }) Z ho1 ?_)
 have hD2:=Ah (itO 0 0 S es.size ep) hD;have hT2:Qn { s with heap:=(s.heap.push { cls:=.type "list",data:=.seq ([] : Ab Ad).toArray }).push (itO 0 0 S es.size ep) } (.ref S) "set":=⟨_,Ah _ ho1,rfl⟩
 refine Ac (Dp (JM hT2 ?_));refine Sz (λ_=>?_) (λhab=>absurd (by decide) hab)
 refine Ac (Ju (Ac ?_));show Ao _ _ (updateSeq s.heap.objs.size (·.push .none) >>= λ_=>updateSeq s.heap.objs.size (·.pop)) _ _ _
 refine Ac (Lc hD2 rfl ?_);have hD3:=Ei (Ej (·.push Ff)) hD2 rfl
 refine Lc (hz:=by seq_fits) hD3 rfl ?_
 have hD4:=Ei (Ej (·.pop)) hD3 rfl
 have sz:(s.heap.push { cls:=.type "list",data:=.seq ([] : Ab Ad).toArray }).objs.size=s.heap.objs.size+1:=Dr ..;have oth:∀ {b:Af} {o:Cr},b≠s.heap.objs.size→((s.heap.push { cls:=.type "list",data:=.seq ([] : Ab Ad).toArray }).push (itO 0 0 S es.size ep)).get? b=Aa o →
   ((((s.heap.push { cls:=.type "list",data:=.seq ([] : Ab Ad).toArray }).push (itO 0 0 S es.size ep)).update s.heap.objs.size (Ej (·.push Ff))).update s.heap.objs.size (Ej (·.pop))).get? b=Aa o:=
  λhb e=>(Bz _ _ (Em hb)).trans ((Bz _ _ (Em hb)).trans e)
 have at0:=BG (w:=w) (s:={ s with heap:=s.heap.push { cls:=.type "list",data:=.seq ([] : Ab Ad).toArray } }) Z ho1
 refine Aj ⟨Hs PySem.F.plain_extend_loop _,?_⟩;refine codeAny_extend_loopS ((NA (prog:=prog) (A:=A.in1) (I:=(s.heap.push { cls:=.type "list",data:=.seq ([] : Ab Ad).toArray }).objs.size) hh (by rw[sz];exact Co (Mf hS)) Z).toS) (by rw[Ep];omega) s.heap.objs.size ?_ _ es.size 0 _ #[] _ rfl (Fq _) ?_ hD4 (ItemsOf.nil _) λs' acc c hm hS' hacc=>?_
 ·rw[sz]
  simp only[Av,Cj,Ez,Rj];exact⟨Co (Jd _),Gp hS⟩
 ·obtain⟨slot,a1,a2,a3⟩:=at0
  exact⟨slot,oth (by rw[sz];exact Gp (Jd _)) a1,oth (Co hS) a2,a3⟩
 ·show Ao _ A (load s.heap.objs.size >>= _) _ _ s'
  refine Ac (wpAny_load hS' ?_);obtain⟨h',g',d',tk',os'⟩:=s';have eg:g'=s.gens:=hm.gens;have ed:d'=s.drawn:=hm.drawn;have eo:os'=s.os:=hm.os;subst eg;subst ed;subst eo;have e:acc.toList=(zB w S ep es).toList.map (·.2):=by
   refine List.ext_getElem? λi=>?_;rw[Ca,Dw,Ca];by_cases hi:i<es.size
   ·have hi':i<acc.size:=by rw[hacc.1];exact hi
    obtain⟨e,he,q⟩:=hacc.2 i acc[i] (Dz hi');rw[Dz hi',he,Jq,q]
   ·rw[Ta (by rw[hacc.1];omega),Ta (by rw[kI];omega)]
    rfl
  refine Aj ?_;show Q acc.toList _;rw[e];refine h h' tk' (λb o q=>?_) (AT hS');have hb:b<s.heap.objs.size:=AT q;refine hm.heap b o (λhx=>?_) (oth (Co hb) (Ah _ (Ah _ q)));simp only[Av,Cj,Ez] at hx;rcases hx with hx|hx
  ·exact absurd hb (by rw[hx];exact Ef _)
  ·exact absurd hb (by rw[hx,sz];exact Ja.mpr (Mz _))
end
def run (f:Ai→Ai→Aq){α : Type}:Zi α → α
 |.ret a=>a
 |.ask i j k=>run f (k (f i j))
def jL (f:Ai→Ai→Aq){α β:Type}(g:α→Zi β) : ∀ t:Zi α,run f (t.bind g)=run f (g (run f t))
 |.ret _=>rfl
 |.ask i j k=>jL f g (k (f i j))
section
variable (r:Ai→Ak)
def lt (i j:Ai):Aq:=decide (r i<r j)
def ky (p:Bj Ai)(k:Ai):Ak:=r (p.getD k 0)
def Up (p:Bj Ai)(n:Ai):Prop:=∀ i j,i≤j→j<n→ky r p i≤ky r p j
def Dn (p:Bj Ai)(n:Ai):Prop:=∀ i j,i≤j→j<n→ky r p j≤ky r p i
variable {r}
def nV {p q:Bj Ai}{i j:Ai}(h:p[i]? = q[j]?):ky r p i=ky r q j:=by
 unfold ky;rw[Oy,Oy,h]
set_option tactic.hygienic true in
def nW {p:Bj Ai}{i j:Ai}(hj:j≤p.size)(k:Ai):ky r (Ku p i j) k=if i≤k∧k<j then ky r p (i+j-1-k) else ky r p k:=by
 have:=getElem?_mirror_all (xs:=p) (i:=i) hj k;unfold Ku
 split
 ·rename_i h;rw[Bd h] at this;exact nV this
 ·rename_i h;rw[Be h] at this;exact nV this
def uE (p:Bj Ai)(i j:Ai):(Ku p i j).size=p.size:=mirror_size _ _ _ _
def yO (p:Bj Ai)(i j:Ai):(Ku p i j).Perm p:=mirror_perm _ _ _ _
def tB (p:Bj Ai):∀ (f n:Ai),1≤n→let m:=run (lt r) (sB p f n);n≤m∧m≤n+f∧(∀ k,n≤k→k<m→ky r p (k-1)≤ky r p k)∧(m<n+f→ky r p m<ky r p (m-1))
 |0,n,_=>⟨Aw _,Aw _,λk h1 h2=>by have:k<n:=h2;omega,λh=>by have:n<n+0:=h;omega⟩
 |f+1,n,hn=>by
  simp only[sB,run];cases hc:lt r (p.getD n 0) (p.getD (n-1) 0) with
  |true =>
   simp only[Dh,run];exact⟨Aw _,by omega,λk h1 h2=>by omega,λ_=>Ce hc⟩
  |false =>
   simp only[Bt,Ec];obtain⟨h1,h2,h3,h4⟩:=tB p f (n+1) (by omega)
   refine⟨by omega,by omega,λk a b=>?_,λh=>h4 (by omega)⟩
   by_cases hk:k=n
   ·subst hk
    exact On.mp (Hz hc)
   ·exact h3 k (by omega) b
def BB {p:Bj Ai}{m:Ai}(h:∀ k,1≤k→k<m→ky r p (k-1)≤ky r p k):Up r p m:=by
 intro i j hij hj
 induction j with
 |zero =>
  have:i=0:=by omega
  subst this;exact Jz _
 |succ j ih =>
  by_cases e:i=j+1
  ·subst e;exact Jz _
  ·exact Rz (ih (by omega) (by omega)) (h (j+1) (by omega) hj)
def Eqs (p:Bj Ai)(n q:Ai):Prop:=q<n∧∀ k,n-(q+1)≤k→k<n→ky r p k=ky r p (n-1)
def cK (p:Bj Ai)(n:Ai):Eqs (r:=r) p (n+1) 0:=⟨Kf _,λk a b=>by
 have:k=n:=by omega
 subst this;rfl⟩
set_option tactic.hygienic true in
def o3 {p:Bj Ai}{n q:Ai}(hn:n≤p.size)(h:Eqs (r:=r) p n q)(k:Ai):ky r (Ku p (n-(q+1)) n) k=ky r p k:=by
 rw[nW hn]
 split
 ·rename_i hk
  rw[h.2 k hk.1 hk.2,h.2 (n-(q+1)+n-1-k) (by omega) (by omega)]
 ·rfl
def lZ {p p':Bj Ai}(h:∀ k,ky r p' k=ky r p k){n:Ai}(d:Dn r p n):Dn r p' n:=λi j a b=>by rw[h,h];exact d i j a b
def gN:∀ (f:Ai) (p:Bj Ai) (n q:Ai),n+f≤p.size→1≤n→Dn r p n→Eqs (r:=r) p n q →
  let o:=run (lt r) (Yt f p n q);o.1.size=p.size∧o.1.Perm p∧n≤o.2.1∧o.2.1≤n+f∧Dn r o.1 o.2.1∧Eqs (r:=r) o.1 o.2.1 o.2.2
 |0,p,n,q,_,_,d,e=>⟨rfl,Ld _,Aw _,Aw _,d,e⟩
 |f+1,p,n,q,hs,hn,d,e=>by
  simp only[Yt,run];cases hc:lt r (p.getD n 0) (p.getD (n-1) 0) with
  |true =>
   have hlt:ky r p n<ky r p (n-1):=Ce hc;simp only[Dh];have d':Dn r p (n+1):=λi j a b=>by
    by_cases hj:j=n
    ·subst hj
     by_cases hi:i=j
     ·subst hi;exact Jz _
     ·exact Rz (Sa hlt) (d i (j-1) (by omega) (by omega))
    ·exact d i j a (by omega)
   have e':∀ p:Bj Ai,Eqs (r:=r) p (n+1) 0:=λp=>cK p n;by_cases hq:q>0
   ·rw[Bd hq]
    have hk:=o3 (r:=r) (p:=p) (n:=n) (q:=q) (by omega) e
    obtain⟨a1,a2,a3,a4,a5,a6⟩:=gN f (Ku p (n-(q+1)) n) (n+1) 0 (by rw[uE];omega) (by omega) (lZ hk d') (e' _)
    exact⟨by rw[a1,uE],a2.trans (yO _ _ _),by omega,by omega,a5,a6⟩
   ·rw[Be hq]
    obtain⟨a1,a2,a3,a4,a5,a6⟩:=gN f p (n+1) 0 (by omega) (by omega) d' (e' _)
    exact⟨a1,a2,by omega,by omega,a5,a6⟩
  |false =>
   simp only[Bt,Ec,run];cases hd:lt r (p.getD (n-1) 0) (p.getD n 0) with
   |true =>
    simp only[Dh,run];exact⟨by trivial,Ld _,Aw _,by omega,d,e⟩
   |false =>
    simp only[Bt,Ec];have he:ky r p n=ky r p (n-1):=Yu (On.mp (Hz hd)) (On.mp (Hz hc));have d':Dn r p (n+1):=λi j a b=>by
     by_cases hj:j=n
     ·subst hj
      by_cases hi:i=j
      ·subst hi;exact Jz _
      ·rw[he];exact d i (j-1) (by omega) (by omega)
     ·exact d i j a (by omega)
    have e':Eqs (r:=r) p (n+1) (q+1):=⟨by have:=e.1;omega,λk a b=>by
     by_cases hk:k=n
     ·subst hk;rfl
     ·rw[e.2 k (by omega) (by omega)];exact he.symm⟩
    obtain⟨a1,a2,a3,a4,a5,a6⟩:=gN f p (n+1) (q+1) (by omega) (by omega) d' e'
    exact⟨a1,a2,by omega,by omega,a5,a6⟩
structure Got (r:Ai→Ak)(p:Bj Ai)(N:Ai)(o:Ai × Bj Ai):Prop where
 size:o.2.size=p.size
 perm:o.2.Perm p
 pos:1≤o.1
 le:o.1≤N
 up:Up r o.2 o.1
def rS {p:Bj Ai}{n:Ai}(hN:N≤p.size)(hn:1≤n)(hnN:n≤N)(d:Dn r p n):Got r p N (run (lt r) (sK n N p)):=by
 unfold sK;rw[jL];obtain⟨h1,h2,h3,h4⟩:=tB (r:=r) (Ku p 0 n) (N-n) n hn;refine⟨uE _ _ _,yO _ _ _,Dc hn h1,Dc h2 (by omega),BB λk a b=>?_⟩
 show ky r (Ku p 0 n) (k-1)≤ky r (Ku p 0 n) k;by_cases hk:n≤k
 ·exact h3 k hk b
 ·rw[nW (by omega),nW (by omega),Bd (by omega),Bd (by omega)]
  exact d _ _ (by omega) (by omega)
def bM {p:Bj Ai}{n:Ai}(hN:N≤p.size)(hn:1≤n)(hnN:n+1≤N)(d:Dn r p (n+1)):Got r p N (run (lt r) (Wm n N p)):=by
 unfold Wm;rw[jL];obtain⟨a1,a2,a3,a4,a5,a6⟩:=gN (r:=r) (N-(n+1)) p (n+1) 0 (by omega) (by omega) d (cK p n)
 generalize run (lt r) (Yt (N-(n+1)) p (n+1) 0)=o at *
 split
 ·have hk:=o3 (r:=r) (p:=o.1) (n:=o.2.1) (q:=o.2.2) (by omega) a6
  have g:=rS (p:=Ku o.1 (o.2.1-(o.2.2+1)) o.2.1) (N:=N) (by rw[uE];omega) (by omega) (by omega) (lZ hk a5)
  exact⟨by rw[g.size,uE,a1],(g.perm.trans (yO _ _ _)).trans a2,g.pos,g.le,g.up⟩
 ·have g:=rS (p:=o.1) (N:=N) (by omega) (by omega) (by omega) a5
  exact⟨by rw[g.size,a1],g.perm.trans a2,g.pos,g.le,g.up⟩
def Z8 {p:Bj Ai}(hN:N≤p.size)(h1:1≤N):Got r p N (run (lt r) (Xh N p)):=by
 unfold Xh;rw[jL];obtain⟨b1,b2,b3,b4⟩:=tB (r:=r) p (N-1) 1 (Aw _);generalize run (lt r) (sB p (N-1) 1)=n at *;have up:Up r p n:=BB b3;by_cases hn:n=N
 ·subst hn
  rw[Bd (by simp)]
  exact⟨rfl,Ld _,h1,Aw _,up⟩
 ·rw[Be (by simpa using hn)]
  have hlt:=b4 (by omega)
  by_cases hn1:n>1
  ·rw[Bd hn1]
   simp only[run];cases hc:lt r (p.getD 0 0) (p.getD (n-1) 0) with
   |true=>simp only[Dh,run];exact⟨rfl,Ld _,by show 1≤n;omega,by show n≤N;omega,up⟩
   |false =>
    simp only[Bt,Ec];have hle:ky r p (n-1)≤ky r p 0:=On.mp (Hz hc);have all:∀ k,k<n→ky r p k=ky r p 0:=λk hk=>Yu (Rz (up k (n-1) (by omega) (by omega)) hle) (up 0 k (by omega) hk)
    have keys:∀ k,ky r (Ku p 0 n) k=ky r p k:=λk=>by
     rw[nW (by omega)]
     split
     ·rw[all k (by omega),all _ (by omega)]
     ·rfl
    have g:=bM (p:=Ku p 0 n) (n:=n) (N:=N) (by rw[uE];omega) (by omega) (by omega) (lZ keys λi j a b=>by
     by_cases hj:j=n
     ·subst hj
      by_cases hi:i=j
      ·subst hi;exact Jz _
      ·rw[all i (by omega),← all (j-1) (by omega)];exact Sa hlt
     ·rw[all i (by omega),all j (by omega)];exact Jz _)
    exact⟨by rw[g.size,uE],g.perm.trans (yO _ _ _),g.pos,g.le,g.up⟩
  ·rw[Be hn1]
   have e:n=1:=by omega
   subst e;exact bM hN (Aw _) (by omega) λi j a b=>by
    by_cases hij:i=j
    ·subst hij;exact Jz _
    ·have:i=0:=by omega
     have:j=1:=by omega
     subst i j;exact Sa hlt
def b8 (p:Bj Ai)(k:Ai)(up:Up r p k):∀ (f l h:Ai),h-l≤f→l≤h→h≤k→(∀ i,i<l→ky r p i≤ky r p k)→(∀ i,h≤i→i<k→ky r p k<ky r p i) →
  let m:=run (lt r) (Xi p k f l h);m≤k∧(∀ i,i<m→ky r p i≤ky r p k)∧(∀ i,m≤i→i<k→ky r p k<ky r p i)
 |0,l,h,hf,hl,hk,a,b=>by
  have:l=h:=by omega
  subst this;exact⟨hk,a,b⟩
 |f+1,l,h,hf,hl,hk,a,b=>by
  simp only[Xi];by_cases hc:l≥h
  ·rw[Bd hc]
   have:l=h:=by omega
   subst this;exact⟨hk,a,b⟩
  ·rw[Be hc]
   simp only[run];cases hq:lt r (p.getD k 0) (p.getD ((l+h)/2) 0) with
   |true =>
    simp only[Dh];have hlt:ky r p k<ky r p ((l+h)/2):=Ce hq;exact b8 p k up f l ((l+h)/2) (by omega) (by omega) (by omega) a λi x y=>Int.lt_of_lt_of_le hlt (up _ _ x y)
   |false =>
    simp only[Bt,Ec];have hle:ky r p ((l+h)/2)≤ky r p k:=On.mp (Hz hq);exact b8 p k up f ((l+h)/2+1) h (by omega) (by omega) hk (λi x=>Rz (up _ _ (by omega) (by omega)) hle) b
def r9 {p:Bj Ai}{k l:Ai}(hk:k<p.size)(hl:l≤k)(i:Ai):ky r (bubble p k (k-l)) i=if i=l then ky r p k else if l<i∧i≤k then ky r p (i-1) else ky r p i:=by
 have h:=getElem?_bubble (xs:=p) hk (k-l) (by omega) i
 rw[show k-(k-l)=l by omega] at h
 by_cases h1:i=l
 ·rw[Bd h1] at h ⊢;exact nV h
 ·rw[Be h1] at h ⊢
  by_cases h2:l<i∧i≤k
  ·rw[Bd h2] at h ⊢;exact nV h
  ·rw[Be h2] at h ⊢;exact nV h
def eY:∀ (f:Ai) (p:Bj Ai) (k:Ai),k+f≤p.size→Up r p k→let o:=run (lt r) (kas_bin f p k);o.size=p.size∧o.Perm p∧Up r o (k+f)
 |0,p,k,_,up=>⟨rfl,Ld _,up⟩
 |f+1,p,k,hs,up=>by
  simp only[kas_bin];rw[jL];obtain⟨h1,h2,h3⟩:=b8 p k up k 0 k (by omega) (by omega) (Aw _) (λi hi=>by omega) λi a b=>by omega
  generalize run (lt r) (Xi p k k 0 k)=l at *;have up':Up r (bubble p k (k-l)) (k+1):=λi j a b=>by
   rw[r9 (by omega) h1,r9 (by omega) h1]
   by_cases e1:i=l
   ·rw[Bd e1]
    by_cases e2:j=l
    ·rw[Bd e2];exact Jz _
    ·rw[Be e2,Bd (by omega)]
     exact Sa (h3 (j-1) (by omega) (by omega))
   ·rw[Be e1]
    by_cases e3:l<i∧i≤k
    ·rw[Bd e3,Be (by omega),Bd (by omega)]
     exact up _ _ (by omega) (by omega)
    ·rw[Be e3]
     by_cases e2:j=l
     ·rw[Bd e2];exact h2 i (by omega)
     ·rw[Be e2]
      by_cases e4:l<j∧j≤k
      ·rw[Bd e4];exact up _ _ (by omega) (by omega)
      ·rw[Be e4];exact up _ _ a (by omega)
  obtain⟨a1,a2,a3⟩:=eY f (bubble p k (k-l)) (k+1) (by rw[bubble_size];omega) up'
  exact⟨by rw[a1,bubble_size],a2.trans (bubble_perm _ _ _),by rw[show k+(f+1)=k+1+f by omega];exact a3⟩
set_option tactic.hygienic true in
def VO {n:Ai}(hn:1≤n):let o:=run (lt r) (Nv n);o.toList.Perm (Cz n)∧Up r o n:=by
 unfold Nv;simp only[jL];have hz:(Lo (Cz n)).size=n:=by simp
 have g:=Z8 (r:=r) (p:=Lo (Cz n)) (N:=n) (by omega) hn
 generalize run (lt r) (Xh n (Lo (Cz n)))=c at *;have pm:∀ {o:Bj Ai},o.Perm (Lo (Cz n))→o.toList.Perm (Cz n):=λh=>by simpa using Array.perm_iff_toList_perm.mp h
 split
 ·rename_i hlt
  have hm:max c.1 1=c.1:=by have:=g.pos;omega
  rw[hm];obtain⟨a1,a2,a3⟩:=eY (n-c.1) c.2 c.1 (by rw[g.size,hz];omega) g.up
  refine⟨pm (a2.trans g.perm),?_⟩;rw[show c.1+(n-c.1)=n by omega] at a3
  exact a3
 ·rename_i hlt
  have:c.1=n:=by have:=g.le;omega
  refine⟨pm g.perm,?_⟩;have u:=g.up;rw[this] at u;exact u
end
def Inn (n:Ai){α : Type}(T:α→Prop):Zi α → Prop
 |.ret a=>T a
 |.ask i j k=>i<n∧j<n∧∀ b,Inn n T (k b)
def PB (n:Ai)(p:Bj Ai):Prop:=∀ k,p.getD k 0<n
def PB.perm {p q:Bj Ai}{n:Ai}(h:PB n p)(e:q.Perm p):PB n q:=λk=>by
 by_cases hk:k<q.size
 ·have e1:q.getD k 0=q[k]:=by simp[Ih,hk]
  rw[e1];have:q[k]∈p:=e.mem_iff.mp (Array.getElem_mem hk);obtain⟨j,hj,e2⟩:=Array.mem_iff_getElem.mp this;have:=h j;rw[show p.getD j 0=p[j] by simp[Ih,hj]] at this
  rw[← e2];exact this
 ·have e1:q.getD k 0=0:=by simp[Ih,hk]
  rw[e1];exact Pg (Fq _) (h 0)
def Inn.bind {n:Ai}{α β:Type}{T:α→Prop}{U:β→Prop}{g:α→Zi β} : ∀ {t:Zi α},Inn n T t→(∀ a,T a→Inn n U (g a))→Inn n U (t.bind g)
 |.ret a,h,hg=>hg a h
 |.ask i j k,⟨h1,h2,h3⟩,hg=>⟨h1,h2,λb=>Inn.bind (h3 b) hg⟩
def VZ {n:Ai}{f:Ai→Ai→Aq}{cmp:Ai→Ai→(Aq→Ag→Prop)→Ag→Prop}{s:Ag}(hc:∀ i j (C:Aq→Ag→Prop),i<n→j<n→C (f i j) s→cmp i j C s){α : Type}{T:α→Prop}{G:α→Ag→Prop}:∀ t:Zi α,Inn n T t→G (run f t) s→t.kasWp cmp G s
 |.ret _,_,h=>h
 |.ask i j k,⟨h1,h2,h3⟩,h=>hc i j _ h1 h2 (VZ hc (k (f i j)) (h3 _) h)
def yF {n:Ai}{α:Type}{T:α→Prop}{c:Prop}[Te c]{a b:Zi α}(h1:Inn n T a)(h2:Inn n T b):Inn n T (if c then a else b):=by
 split
 ·exact h1
 ·exact h2
section
variable {n:Ai}
def dB {p:Bj Ai}(h:PB n p):∀ f m,Inn n (λ_=>Kj) (sB p f m)
 |0,m=>trivial
 |f+1,m=>⟨h _,h _,λb=>yF trivial (dB h f (m+1))⟩
def pY:∀ (f:Ai) {p:Bj Ai} (m q:Ai),PB n p→Inn n (λo=>PB n o.1) (Yt f p m q)
 |0,p,m,q,h=>h
 |f+1,p,m,q,h=>⟨h _,h _,λb=>yF (yF (pY f _ _ (h.perm (yO _ _ _))) (pY f _ _ h)) ⟨h _,h _,λd=>yF h (pY f _ _ h)⟩⟩
def sX {p:Bj Ai}(h:PB n p)(m N:Ai):Inn n (λo=>PB n o.2) (sK m N p):=Inn.bind (dB (h.perm (yO _ _ _)) _ _) λ_ _=>h.perm (yO _ _ _)
def fB {p:Bj Ai}(h:PB n p)(m N:Ai):Inn n (λo=>PB n o.2) (Wm m N p):=Inn.bind (pY _ _ _ h) λo ho=>yF (sX (ho.perm (yO _ _ _)) _ _) (sX ho _ _)
def WT {p:Bj Ai}(h:PB n p)(N:Ai):Inn n (λo=>PB n o.2) (Xh N p):=Inn.bind (dB h _ _) λm _=>yF h (yF ⟨h _,h _,λb=>yF h (fB (h.perm (yO _ _ _)) _ _)⟩ (fB h _ _))
def fE {p:Bj Ai}(h:PB n p)(k:Ai):∀ f l r,Inn n (λ_=>Kj) (Xi p k f l r)
 |0,l,r=>trivial
 |f+1,l,r=>yF (T:=λ_=>Kj) trivial ⟨h _,h _,λb=>yF (fE h k f _ _) (fE h k f _ _)⟩
def oE:∀ (f:Ai) {p:Bj Ai} (k:Ai),PB n p→Inn n (λ_=>Kj) (kas_bin f p k)
 |0,p,k,h=>trivial
 |f+1,p,k,h=>Inn.bind (fE h k k 0 k) λl _=>oE f (k+1) (h.perm (bubble_perm _ _ _))
def cP (hn:0<n):Inn n (λ_=>Kj) (Nv n):=by
 have h:PB n (Lo (Cz n)):=λk=>by
  by_cases hk:k<n
  ·simp[Ih,hk]
  ·simp[Ih,hk,hn]
 exact Inn.bind (WT h n) λo ho=>yF (oE _ _ ho) (show Inn n (λ_=>Kj) (.ret o.2) from trivial)
end
structure Cmps (prog:Bg)(w:By)(h0:Bk)(vs:Ab Ad)(f:Ai→Ai→Aq):Prop where
 ex:∃ κ,∀ (A:Bv),A.units+8<Du→∀ (s:Ag),Sup h0 s.heap→(∀ (Q:SortKind→Ag→Prop) (E:Ad→Ag→Prop),Q κ s→Ao (Au prog w) A (keyKind' vs.toArray) Q E s)∧∀ i j (C:Aq→Ag→Prop),i<vs.length→j<vs.length→C (f i j) s→kas_ask prog w A κ vs i j C s
def rL {n:Ai}{f g:Ai→Ai→Aq}(h:∀ i j,i<n→j<n→f i j=g i j){α : Type}{T:α→Prop}:∀ t:Zi α,Inn n T t→run f t=run g t
 |.ret _,_=>rfl
 |.ask i j k,⟨h1,h2,h3⟩=>by
  show run f (k (f i j))=run g (k (g i j));rw[h i j h1 h2];exact rL h _ (h3 _)
section
variable {prog:Bg}{w:By}{A:Bv}{E:Ad→Ag→Prop}{s:Ag}
def PL {K:Type}{is:K→Ad→Prop}{lt':K→K→Aq}{d:K}(O:Ord lt')(inj:∀ {k k':K} {v:Ad},is k v→is k' v→k=k'){a:Af}{vs:Ab Ad}{ks:Ab K}{n:Ai}{h0:Bk}{P:PySem.Fin→Ag→Prop}(hlen:vs.length=ks.length)(hks:∀ i v,vs[i]? = Aa v→is (ks.getD i d) v)(ho:s.heap.get? a=Aa (Ed "list" vs.toArray n))(hu:A.units+8<Du)(hz:vs.length≤63)(c:2≤vs.length→Cmps prog w h0 vs (bQ lt' ks d))(hS:Sup h0 s.heap)(ha:h0.get? a=none)
  (h:∀ ps:Ab (K × Ad),ps.Perm (ks.zip vs)→Nf lt' (ps.map (·.1))→P (.done (.ret .none)) { s with heap:=sortedHeap s.heap a vs (ps.map (·.2)).toArray }) : Ao (Au prog w) A (Gq.«list.sort» ⟨[.ref a],[]⟩) P E s:=by
 rw[list_sort_plain];have hb:a<s.heap.objs.size:=AT ho;have hsz:vs.toArray.size=vs.length:=by simp
 refine Ac (listItems_at ho rfl (Ac (listUpdate_at ho rfl ?_ (by rw[hsz,Ep];omega) (Fq _))))
 obtain⟨e1,ho1⟩:∃ e1,(s.heap.update a (Ej λ_=>#[])).get? a=Aa (Ed "list" #[] e1):=⟨_,Le ho (λ_=>#[])⟩;refine Ac (seqEpoch_at ho1 rfl (Ac (T0 (Ac (Vd (Dp ?_) (Fq _))) (by show vs.length≤_;rw[Ep];omega))))
 have ho6:(((s.heap.update a (Ej λ_=>#[])).push (Ed "tuple" vs.toArray 0)).push (Ed "list" #[] 0)).get? a=Aa (Ed "list" #[] e1):=
  Ah _ (Ah _ ho1)
 have S6:Sup h0 (((s.heap.update a (Ej λ_=>#[])).push (Ed "tuple" vs.toArray 0)).push (Ed "list" #[] 0)):=λb o e =>
  Ah _ (Ah _ ((Bz _ _ (λz:a=b=>by rw[← z,ha] at e;cases e)).trans (hS b o e)))
 show Ao (Au prog w) A _ P E { s with heap:=((s.heap.update a (Ej λ_=>#[])).push (Ed "tuple" vs.toArray 0)).push (Ed "list" #[] 0) }
 dsimp only;have fin:∀ (st':SortSt) (ps:Ab (K × Ad)),(arrOf st').map (·.2)=(ps.map (·.2)).toArray→failedOf st'=none→ps.Perm (ks.zip vs)→Nf lt' (ps.map (·.1))→Ao (Au prog w) A (do
   let touched:=(← seqEpoch a) != e1
   Builtin.List.listUpdate (.ref a) λ_=>(arrOf st').map (·.2)
   if let Aa e:=failedOf st' then rule "list.sort.comparison-raised";throw e
   if touched then rule "list.sort.modified";raiseError "ValueError" "list modified during sort"
   ret .none) P E { s with heap:=((s.heap.update a (Ej λ_=>#[])).push (Ed "tuple" vs.toArray 0)).push (Ed "list" #[] 0) }:=by
  intro st' ps h1 h2 h3 h4;have hl:(ps.map (·.2)).length=vs.length:=by rw[Ay,h3.length_eq,Yv,hlen,Rr]
  refine Ac (seqEpoch_at ho6 rfl ?_);rw[h1];refine Ac (listUpdate_at ho6 rfl ?_ (Fq _) (by show (ps.map (·.2)).toArray.size≤_;rw[Ax,hl,Ep];omega))
  rw[h2];simp only[bne_self_eq_false,Bt,Ec];exact Aj (h ps h3 h4)
 by_cases h2:vs.toArray.size<2
 ·rw[Bd h2,Bd h2]
  refine Ac (Aj ?_);rw[StateT.run_pure];refine Ac (Aj ?_);refine fin (SortSt.mk' general' (vs.toArray.zip vs.toArray) #[] 7 none) (ks.zip vs) ?_ rfl (Zl _) ?_
  ·show (vs.toArray.zip vs.toArray).map (·.2)=_
   apply Array.toList_inj.mp;simp[List.map_snd_zip,hlen]
  ·rw[Rl (by omega)]
   match ks,hlen with
   |[],_=>exact L2
   |[_],_=>exact List.pairwise_singleton _ _
   |_::_::_,e=>simp at e h2;omega
 ·rw[Be h2,Be h2]
  have h2':2≤vs.length:=by omega
  obtain⟨κ,C⟩:=c h2';obtain⟨k1,k2⟩:=C A hu { s with heap:=((s.heap.update a (Ej λ_=>#[])).push (Ed "tuple" vs.toArray 0)).push (Ed "list" #[] 0) } S6
  have km:∀ i,i<vs.length→ks.getD i d∈ks:=λi hi=>by
   have:i<ks.length:=by omega
   simp[Hk,this]
  have rc:run (bQ lt' ks d) (Nv vs.length)=run (lt λi=>lL lt' ks (ks.getD i d)) (Nv vs.length):=rL (λi j hi _=>aX O (km i hi)) _ (cP (n:=vs.length) (by omega))
  obtain⟨sp1,sp2⟩:=VO (r:=λi=>lL lt' ks (ks.getD i d)) (n:=vs.length) (by omega)
  rw[← rc] at sp1 sp2;refine Ac (k1 _ _ ?_);refine Ac (Gv (kat_run (ks:=vs) (vs:=vs) (Q:=λst' s'=>(arrOf st').map (·.2)=((run (bQ lt' ks d) (Nv vs.length)).toList.map λi=>vs.getD i Ff).toArray∧failedOf st'=none∧s'={ s with heap:=((s.heap.update a (Ej λ_=>#[])).push (Ed "tuple" vs.toArray 0)).push (Ed "list" #[] 0) })
   (G:=λp s'=>p=run (bQ lt' ks d) (Nv vs.length)∧s'={ s with heap:=((s.heap.update a (Ej λ_=>#[])).push (Ed "tuple" vs.toArray 0)).push (Ed "list" #[] 0) }) rfl h2' (by omega) (λp st' s' a1 a2 a3 a4=>⟨?_,a3,a4.2⟩) (VZ k2 _ (cP (by omega)) ⟨rfl,rfl⟩)) ?_ λ_ _ e=>e)
  ·rw[kat_snds rfl a2,a4.1]
  ·rintro⟨⟨⟩,st'⟩ s' ⟨q1,q2,rfl⟩
   generalize run (bQ lt' ks d) (Nv vs.length)=p at sp1 sp2 q1;have bd:∀ i (hi:i<p.toList.length),p.toList[i]<vs.length:=λi hi=>Ek.mp (sp1.mem_iff.mp (Ga hi));refine fin _ (p.toList.map λi=>(ks.getD i d,vs.getD i Ff)) ?_ q2 ?_ ?_
   ·rw[q1,NE];rfl
   ·refine(sp1.map _).trans (List.Perm.of_eq ?_)
    apply Na
    ·simp[hlen]
    ·intro i h1 h2
     have h3:i<vs.length:=by simpa using h1
     have h4:i<ks.length:=by omega
     simp[h3,h4]
   ·rw[NE]
    unfold Nf;rw[Hl];refine Ql.mpr λi j hi hj hij=>?_;have hp:=sp1.length_eq;rw[Fc] at hp;have u:=sp2 i j (Gz hij) (by omega)
    have gd:∀ k (hk:k<p.toList.length),p.getD k 0=p.toList[k]:=λk hk=>by
     have:k<p.size:=by simpa using hk
     simp[Ih,this]
    unfold ky at u;rw[gd i hi,gd j hj] at u;show lt' (ks.getD p.toList[j] d) (ks.getD p.toList[i] d)=false;rw[aX O (km _ (bd j hj))];exact Bs (On.mpr u)
end
section
variable {prog:Bg}{w:By}{h0:Bk}
def M6 {A:Bv}{s:Ag}{b:Aq}{Q:Aq→Ag→Prop}:∀ {xs ys:Ab Ak} {us vs:Ab Ad} {i:Ai} {N M:Ai},ItemsAre (Bf prog w) xs us→ItemsAre (Bf prog w) ys vs→N+ys.length=M+xs.length→Q (_H.lexLt xs ys) s→KatLex prog w A b (decide (N<M)) Q (us.zip vs) i s:=by
 intro xs ys us vs i N M hx
 induction hx generalizing ys vs i with
 |nil =>
  intro hy hl h;cases hy with
  |nil =>
   have:decide (N<M)=false:=Bs (by simp at hl;omega)
   rw[this];exact h
  |@cons k v ys vs q r =>
   have:decide (N<M)=true:=Bi (by simp at hl;omega)
   rw[this];exact h
 |@cons x u xs us qx rx ih =>
  intro hy hl h;cases hy with
  |nil =>
   have:decide (N<M)=false:=Bs (by simp at hl;omega)
   rw[this];exact h
  |@cons y v ys vs qy ry =>
   obtain⟨t,rfl⟩:=yT (prog:=prog) (w:=w) qx;obtain⟨t',rfl⟩:=yT (prog:=prog) (w:=w) qy;rw[Jh];refine kat_cons (Xn ?_);rw[_H.lexLt_cons] at h;refine kat_go (λe=>kat_yes ?_) λe=>kat_no ?_
   ·rw[Bd (by simpa using e)] at h
    exact ih ry (by simp at hl;omega) h
   ·rw[Be (by simpa using e)] at h
    cases b&&i == 0 with
    |true=>exact oneLt_int h
    |false=>exact kat_one _ _ (Ob h)
def QM {h:Bk}:∀ {vs:Ab Ad} {ks:Ab (Ab Ak)},vs.length=ks.length→(∀ i v,vs[i]? = Aa v→isT prog w h (ks.getD i []) v)→(∀ k∈ks,k≠[])→∃ fs,KatTups h vs fs∧fs.length=vs.length∧∀ f∈fs,∃ n t,f=Pq n t
 |[],[],_,_,_=>⟨[],trivial,rfl,λf hf=>by simp at hf⟩
 |v::vs,k::ks,hl,hv,hne=>by
  obtain⟨fs,a1,a2,a3⟩:=QM (vs:=vs) (ks:=ks) (by simpa using hl) (λi u hu=>by simpa using hv (i+1) u (by simpa using hu)) λk hk=>hne k (by simp[hk])
  obtain⟨a,rfl,o,items,n,ho,hc,hd,hi⟩:=hv 0 v rfl;have hk:k≠[]:=hne k (by simp)
  have hi':ItemsAre (Bf prog w) k items.toList:=hi;cases hz:items.toList with
  |nil=>rw[hz] at hi';cases hi';exact absurd rfl hk
  |cons f rest =>
   rw[hz] at hi';cases hi' with
   |cons q _ =>
    obtain⟨t,rfl⟩:=yT (prog:=prog) (w:=w) q;refine⟨_::fs,KatTups.cons ho hc hd (by rw[← Ca,hz];rfl) a1,by simp[a2],λf hf=>?_⟩
    rcases Av.mp hf with rfl|hf
    ·exact⟨_,_,rfl⟩
    ·exact a3 f hf
def L9 {ks:Ab (Ab Ak)}(hl:vs.length=ks.length)(hv:∀ i v,vs[i]? = Aa v→isT prog w h0 (ks.getD i []) v)(hne:∀ k∈ks,k≠[])(h2:2≤vs.length):Cmps prog w h0 vs (bQ _H.lexLt ks []):=by
 refine⟨tuples' (Gu "int" != Gu "tuple"),λA hu s hS=>⟨λQ E h=>?_,λi j C hi hj h=>?_⟩⟩
 ·obtain⟨fs,a1,a2,a3⟩:=QM (h:=s.heap) hl (λi v hv'=>by obtain⟨a,e,q⟩:=hv i v hv';exact⟨a,e,k7 hS q⟩) hne
  refine kat_kind a1 (by omega) (λv hv'=>?_) (by decide) h
  obtain⟨n,t,rfl⟩:=a3 v hv';exact Looks.of_pure rfl
 ·have g:∀ k (hk:k<vs.length),∃ a,vs.getD k Ff=.ref a∧Ol (Bf prog w) s.heap (ks.getD k []) a:=λk hk=>by
   obtain⟨a,e,q⟩:=hv k vs[k] (An hk);exact⟨a,by rw[← e];simp[Hk,hk],k7 hS q⟩
  obtain⟨a,ea,oa,ia,na,ha,_,da,qa⟩:=g i hi;obtain⟨b,eb,ob,ib,nb,hb,_,db,qb⟩:=g j hj;unfold kas_ask;rw[ea,eb];refine kat_lt ha da hb db (M6 qa qb ?_ h);have la:=qa.length;have lb:=qb.length;simp only[De] at la lb;omega
def L8 {ks:Ab Ak}(hl:vs.length=ks.length)(hv:∀ i v,vs[i]? = Aa v→isI prog w (ks.getD i 0) v)(h2:2≤vs.length):Cmps prog w h0 vs (bQ ltI ks 0):=by
 have hi:∀ v∈vs,∃ n t,v=Pq n t:=λv hm=>by
  obtain⟨i,hi,e⟩:=Cu.mp hm;obtain⟨t,q⟩:=yT (hv i v (by rw[An hi,e]))
  exact⟨_,t,q⟩
 refine⟨oneType',λA hu s hS=>⟨λQ E h=>?_,λi j C hi hj h=>?_⟩⟩
 ·obtain⟨v₁,v₂,rest,rfl⟩:∃ v₁ v₂ rest,vs=v₁::v₂::rest:=by
   match vs,h2 with
   |v₁::v₂::rest,_=>exact⟨v₁,v₂,rest,rfl⟩
  rw[keyKind_ints (intsAre_map _ hi)];exact Aj h
 ·have g:∀ k (hk:k<vs.length),∃ t,vs.getD k Ff=.int (ks.getD k 0) t:=λk hk=>by
   obtain⟨t,q⟩:=yT (hv k vs[k] (An hk));exact⟨t,by rw[← q];simp[Hk,hk]⟩
  obtain⟨t,et⟩:=g i hi;obtain⟨u,eu⟩:=g j hj;unfold kas_ask;rw[et,eu];exact kat_lt_int h
end
section
variable {K:Type}{lt':K→K→Aq}
def U0 {α:Type}{ks:Ab K}{vs:Ab α}{d:K}(hl:vs.length=ks.length){p:K × α}(h:p∈ks.zip vs):∃ i,vs[i]? = Aa p.2∧ks.getD i d=p.1:=by
 obtain⟨i,hi,e⟩:=Cu.mp h;have h1:i<ks.length:=by rw[Yv] at hi;omega
 have h2:i<vs.length:=by omega
 rw[List.getElem_zip] at e;subst e;exact⟨i,An h2,by simp[h1]⟩
end
structure Kind (prog:Bg)(w:By){K:Type}(is:K→Ad→Prop)(hash:K→Ak)(lt':K→K→Aq)(d:K)(Fit:K→Prop)(h0:Bk):Prop where
 ord:Ord lt'
 inj:∀ {k k':K} {v:Ad},is k v→is k' v→k=k'
 cmps:∀ {vs:Ab Ad} {ks:Ab K},vs.length=ks.length→(∀ i v,vs[i]? = Aa v→is (ks.getD i d) v)→(∀ k∈ks,Fit k)→2≤vs.length→Cmps prog w h0 vs (bQ lt' ks d)
def PH (prog:Bg)(w:By)(h0:Bk):Kind prog w (isT prog w h0) (Bm (Bf prog w)) _H.lexLt [] (·≠[]) h0:=⟨vS,isT.inj,λh1 h2 h3 h4=>L9 h1 h2 h3 h4⟩
def PF (prog:Bg)(w:By)(h0:Bk):Kind prog w (isI prog w) (Bf prog w).hash ltI 0 (λ_=>Kj) h0:=⟨OY,λa b=>(Bf prog w).inj _ _ _ a b,λh1 h2 _ h4=>L8 h1 h2 h4⟩
section
variable {prog:Bg}{w:By}{A:Bv}{E:Ad→Ag→Prop}{s:Ag}{K:Type}{is:K→Ad→Prop}{hash:K→Ak}{lt':K→K→Aq}{d:K}{Fit:K→Prop}{h0:Bk}{S:Af}{V:Ab Ad}{seen:Ab K}
open Classical in
def kOf (is:K→Ad→Prop)(d:K)(e:Ak × Ad):K:=if h:∃ k,is k e.2 then choose h else d
open Classical in
def DY {e:Ak × Ad}(h:∃ k,is k e.2):is (kOf is d e) e.2:=by
 unfold kOf;rw[dif_pos h];exact choose_spec h
def X9 {Q:Ad→Ag→Prop}(kd:Kind prog w is hash lt' d Fit h0)(hh:A.handled=none)(hu:A.units+16<Du)(hS:Sup h0 s.heap)(Z:SetK is hash S (yR w) V seen s.heap)(hf:∀ k∈seen,Fit k){U:Ab K}(hU:U.length≤63)(hU1:∀ k∈seen,k∈U)
  (h:∀ h' tk D c (ps:Ab (K × Ad)),(∀ b o,s.heap.get? b=Aa o→h'.get? b=Aa o)→s.heap.objs.size≤D→h'.get? D=Aa (Ed "list" (ps.map (·.2)).toArray c)→ps.map (·.1)=srt lt' seen→(∀ p∈ps,is p.1 p.2∧p.2∈V)→ps.length≤63→Q (.ref D) { s with heap:=h',toks:=tk }) :
  Ao (Au prog w) A (call (.builtin "sorted") [.ref S]) Q E s:=by
 obtain⟨es,ep,t,ho,Z0,T,hl,hV⟩:=Z;have st:Still w S es ep t:=⟨T,hl⟩;have hn:es.size≤63:=by
  have:=tP es.toList U Z0.nd λe he=>by
   obtain⟨k',_,q⟩:=Z0.good e he;exact⟨k',hU1 k' ((Z0.mem k').mpr ⟨e,he,q⟩),q⟩
  rw[De] at this;omega
 have op:=lD w S ep es;have osz:=kI w S ep es;have good:∀ e∈(zB w S ep es).toList,is (kOf is d e) e.2∧e.2∈V:=λe he=>by
  have he':=op.mem_iff.mp he;obtain⟨k,_,q⟩:=Z0.good e he';exact⟨DY ⟨k,q⟩,hV e he'⟩
 have nd0:(zB w S ep es).toList.Pairwise λa b=>∀ k,is k a.2→¬ is k b.2:=(op.pairwise_iff λ{x y} h k hy hx=>h k hx hy).mpr Z0.nd;generalize hoe:(zB w S ep es).toList=oe at *;have hoel:oe.length≤63:=by rw[op.length_eq,De];exact hn
 have hks:∀ i v,(oe.map (·.2))[i]? = Aa v→is ((oe.map (kOf is d)).getD i d) v∧v∈V:=λi v hv=>by
  rw[Dw] at hv;cases hi:oe[i]? with
  |none=>rw[hi] at hv;cases hv
  |some e =>
   rw[hi] at hv;cases hv;have g:=good e (Cn hi);have:(oe.map (kOf is d)).getD i d=kOf is d e:=by rw[Ie,Dw,hi];rfl
   rw[this];exact g
 have nd:(oe.map (kOf is d)).Nodup:=by
  unfold Zf;rw[Hl];refine Qx (λ{a b} ha hb h e=>?_) nd0;exact h _ (good a ha).1 (e▸(good b hb).1)
 have mem:∀ x,x∈oe.map (kOf is d)↔x∈seen:=λx=>by
  rw[Z0.mem,Cw];constructor
  ·rintro⟨e,he,rfl⟩
   exact⟨e,op.mem_iff.mp he,(good e he).1⟩
  ·rintro⟨e,he,q⟩
   exact⟨e,op.mem_iff.mpr he,kd.inj (good e (op.mem_iff.mpr he)).1 q⟩
 have hlen:(oe.map (·.2)).length=(oe.map (kOf is d)).length:=by simp
 refine Qo kind_sorted plain_sorted entry_sorted (args_sorted1 _) ?_;unfold Gq.«sorted»;refine Ac (m:=checkCount "sorted" 1 1 _) (Aj ?_);refine Ac (iI hh st ho (by omega) λh1 tk1 kp1 hlt=>?_)
 rw[hoe];refine Ac (Vd ?_ (by rw[Ep,Ay];omega))
 have hD:(h1.push (Ed "list" (oe.map (·.2)).toArray 0)).get? h1.objs.size=Aa (Ed "list" (oe.map (·.2)).toArray 0):=Ba _ rfl
 have n0:h0.get? h1.objs.size=none:=by
  cases q:h0.get? h1.objs.size with
  |none=>rfl
  |some o=>exact absurd (AT (hS _ _ q)) (Ja.mpr (Gz hlt))
 show Ao _ _ _ _ _ { s with heap:=h1.push (Ed "list" (oe.map (·.2)).toArray 0),toks:=tk1 }
 refine Ac (Dp (Dx slot_list_sort ⟨_,hD,rfl⟩ Yw (PL (h0:=h0) (is:=is) kd.ord kd.inj (d:=d) (vs:=oe.map (·.2)) hlen (λi v hv=>(hks i v hv).1) hD (by show A.units+2+8<Du;omega) (by rw[Ay];omega) (λh2=>kd.cmps hlen (λi v hv=>(hks i v hv).1) (λk hk=>hf k ((mem k).mp hk)) h2) (λb o e=>Ah _ (kp1 b o (hS b o e))) n0 λps pm nf=>⟨_,rfl,?_⟩) (args_list_sort _)))
 refine Aj ⟨_,rfl,?_⟩;have hz:(h1.push (Ed "list" (oe.map (·.2)).toArray 0)).objs.size=h1.objs.size+1:=size_push' ..
 have old:∀ b o,b≠h1.objs.size→(h1.push (Ed "list" (oe.map (·.2)).toArray 0)).get? b=Aa o→((((h1.push (Ed "list" (oe.map (·.2)).toArray 0)).update h1.objs.size (Ej λ_=>#[])).push (Ed "tuple" (oe.map (·.2)).toArray 0)).push (Ed "list" #[] 0)).get? b=Aa o:=λb o hb e =>
  Ah _ (Ah _ ((Bz _ _ (Em hb)).trans e))
 obtain⟨e1,he1⟩:∃ e1,((h1.push (Ed "list" (oe.map (·.2)).toArray 0)).update h1.objs.size (Ej λ_=>#[])).get? h1.objs.size=Aa (Ed "list" #[] e1):=⟨_,Le hD (λ_=>#[])⟩
 have he6:=Le (Ah (Ed "list" #[] 0) (Ah (Ed "tuple" (oe.map (·.2)).toArray 0) he1)) (λ_=>(ps.map (·.2)).toArray)
 have pk:(ps.map (·.1)).Perm (oe.map (kOf is d)):=by
  have:=pm.map (·.1)
  rwa [Rl (by omega)] at this
 refine h _ tk1 h1.objs.size _ ps (λb o e=>?_) (Gz hlt) he6 (SW kd.ord nf (pk.nodup_iff.mpr nd) λx=>by rw[pk.mem_iff,mem]) (λp hp=>?_) (by have:=pk.length_eq;rw[Ay,Ay] at this;omega)
 ·have hb:b≠h1.objs.size:=λz=>by
   subst z;exact absurd (AT e) (Ja.mpr (Gz hlt))
  exact(Bz _ _ (Em hb)).trans (old b o hb (Ah _ (kp1 b o e)))
 ·obtain⟨i,e1,e2⟩:=U0 (d:=d) hlen (pm.mem_iff.mp hp)
  exact e2▸hks i _ e1
end
end _S
namespace _D
open PySem PySem.Spec PyProof.Rows _L
def yX:Ab D→Am (Ab (Ab Ak))
 |[]=>Aa []
 |.tup ys::r=>(yA ys).bind λk=>(yX r).map (k::·)
 |_::_=>none
def tpD (k:Ab Ak):D:=.tup (k.map D.int)
def tX:∀ {ds:Ab D} {ks:Ab (Ab Ak)},yX ds=Aa ks→ds=ks.map tpD
 |[],ks,h=>by cases h;rfl
 |d::r,ks,h=>by
  cases d with
  |tup ys =>
   obtain⟨k,h1,h2⟩:=Dv.mp (show (yA ys).bind (λk=>(yX r).map (k::·))=Aa ks from h)
   obtain⟨m,h3,rfl⟩:=DL.mp h2;rw[tX h3,kY h1];rfl
  |_=>cases h
def uO (ks:Ab (Ab Ak)):yX (ks.map tpD)=Aa ks:=by
 induction ks with
 |nil=>rfl
 |cons k ks ih =>
  show (yA (k.map D.int)).bind (λk=>(yX (ks.map tpD)).map (k::·))=_
  rw[sY,ih];rfl
def jM (xs:Ab D):Am (Ab D):=match yA xs with
 |some ns=>if (_S.srt _S.ltI ns).length≤63 then Aa ((_S.srt _S.ltI ns).map D.int) else none
 |none=>match yX xs with
  |some ks=>if ((_S.srt _H.lexLt ks).length≤63&&ks.all λk=>!k.isEmpty) then Aa ((_S.srt _H.lexLt ks).map tpD) else none
  |none=>none
def tU:D→Am (Ab D)
 |.lst xs=>Aa xs
 |.tup xs=>Aa xs
 |_=>none
def v7 (f:DE):DE:=λenv S=>(f env S).bind λd S1=>match (tU d).bind jM with
 |some ys=>.ok (.lst ys) S1
 |none=>.bad
def GB {K:Type}{lt':K→K→Aq}(O:_S.Ord lt')(ks:Ab K)(d:K):_S.srt lt' (_S.vK (λi=>ks.getD i d) ks.length)=_S.srt lt' ks:=
 _S.mP O (_S.gF O _) (_S.gF O _) λx=>by
  rw[_S.uN O,_S.uN O,_S.gR];constructor
  ·rintro⟨i,hi,rfl⟩
   simp[Hk,hi]
  ·intro hx
   obtain⟨i,hi,e⟩:=Cu.mp hx;exact⟨i,hi,by simp[Hk,hi,e]⟩
section
variable {X:Cx}{pins:Ab (Af × Cr)}{σ : _L.St}{H P:Hp}{α : Ab Af}{S:Sto}{s:Ag}
inductive NewL (X:Cx)(pins:Ab (Af × Cr))(σ : _L.St)(P:Hp)(α : Ab Af)(S:Sto)(ys:Ab D)(u:Ad)(s':Ag):Prop
 |mk (v:V) (H' P':Hp) (I:Inv X pins σ H' s') (rv:qP v u) (r:Rel X.K H' P' α S) (e:qK P P') (rp:Rep X.K P' α (.lst ys) v):NewL X pins σ P α S ys u s'
def lN {K:Type}{is:K→Ad→Prop}{hash:K→Ak}{lt':K→K→Aq}{d:K}{Fit:K→Prop}(kd:_S.Kind X.prog X.w is hash lt' d Fit s.heap)(ad:_S.AddS X.prog X.w is hash s.heap)(hc:X.calm=true)(hu:X.A.units+64<Du)(I:Inv X pins σ H s)(r:Rel X.K H P α S){a:Af}{its:Ab Ad}
  (ha:s.heap.IsList a its.toArray∨s.heap.IsTuple a its.toArray) (ks:Ab K) (hl:ks.length=its.length) (hk:∀ i v,its[i]? = Aa v→is (ks.getD i d) v) (hn:(_S.srt lt' ks).length≤63) (hf:∀ k∈ks,Fit k) (enc:K→D)
  (back:∀ k v,is k v→v∈its→∃ vv,qP vv v∧Rep X.K P α (enc k) vv) {E:Ad→Ag→Prop} :
  Ao (Au X.prog X.w) X.A (call (.type "set") [.ref a]) (λu s1=>Ao (Au X.prog X.w) X.A (call (.builtin "sorted") [u]) (NewL X pins σ P α S ((_S.srt lt' ks).map enc)) E s1) E s:=by
 have hsz:its.toArray.size=ks.length:=by rw[Ax,hl]
 have mem:∀ k,k∈_S.srt lt' ks↔k∈ks:=λk=>_S.uN kd.ord k ks;have inn:∀ i,i<ks.length→ks.getD i d∈ks:=λi hi=>by simp[Hk,hi]
 refine _S.Z5 (U:=_S.srt lt' ks) ad (I.ok.hd hc) om ha (λi=>ks.getD i d) (λi v hv=>hk i v (by simpa using hv)) om (λi hi=>(mem _).mpr (inn i (by rw[← hsz];exact hi))) λh1 tk1 Z kp=>?_
 have seen:∀ k∈_S.vK (λi=>ks.getD i d) its.toArray.size,k∈ks:=λk hk'=>by
  obtain⟨i,hi,rfl⟩:=_S.gR.mp hk';exact inn i (by rw[← hsz];exact hi)
 have I1:Inv X pins σ H { s with heap:=h1,toks:=tk1 }:=I.kept kp
 refine _S.X9 (s:={ s with heap:=h1,toks:=tk1 }) kd (I.ok.hd hc) om kp Z (λk hk'=>hf k (seen k hk')) (U:=_S.srt lt' ks) om (λk hk'=>(mem k).mpr (seen k hk')) λh2 tk2 D c ps kp2 hD hob hps hp hpl=>?_
 rw[hsz,GB kd.ord] at hps;have vv:∀ (ps:Ab (K × Ad)),(∀ p∈ps,is p.1 p.2∧p.2∈its)→∃ vs,qT vs (ps.map (·.2))∧qI X.K P α ((ps.map (·.1)).map enc) vs:=by
  intro ps
  induction ps with
  |nil=>exact λ_=>⟨[],.nil,.nil⟩
  |cons p ps ih =>
   intro h;obtain⟨vs,a1,a2⟩:=ih λq hq=>h q (by simp[hq])
   obtain⟨v,b1,b2⟩:=back p.1 p.2 (h p (by simp)).1 (h p (by simp)).2
   exact⟨v::vs,.cons b1 a1,.cons b2 a2⟩
 obtain⟨vs,a1,a2⟩:=vv ps λp hpm=>by simpa using hp p hpm
 rw[hps] at a2;have nd:([(D,HO.lst vs)].map (·.1)).Nodup:=by simp
 have I2:Inv X pins σ (uF H [(D,HO.lst vs)]) { s with heap:=h2,toks:=tk2 }:=Inv.laidL (s:={ s with heap:=h1,toks:=tk1 }) (L:=[(D,HO.lst vs)]) (t':=tk2) I1 kp2 (λp hpm=>by
  have:p=(D,HO.lst vs):=by simpa using hpm
  subst this;exact hD) λp hpm=>by
  have:p=(D,HO.lst vs):=by simpa using hpm
  subst this;refine⟨?_,ps.map (·.2),c,a1,hob⟩
  have:=a1.length;rw[Ay] at this;rw[this,Ep];omega
 obtain⟨r2,e2⟩:=r.pureL (L:=[(D,HO.lst vs)]) (λp hpm=>I1.hok.fresh (by
  have:p=(D,HO.lst vs):=by simpa using hpm
  subst this;exact hD)) nd
 exact⟨.ref D,_,_,I2,rfl,r2,e2,mL (.inl (.inl (iF nd (by simp)))) (qI.mono e2 (Bp _) _ _ a2)⟩
end
section
variable {X:Cx}{e:Bx}{fa:DE}{p1 p2 pos1 pos2:Fa}
def XU:Fv "sorted" = Aa (.builtin "sorted"):=by decide +kernel
def dE {prog:Bg}{w:By}:∀ {k:Ab Ak} {us:Ab Ad},qT (k.map V.int) us→ItemsAre (Bf prog w) k us
 |[],us,h=>by cases h;exact .nil
 |i::k,us,h=>by
  cases h with
  |cons q t =>
   obtain⟨tk,rfl⟩:=q;exact .cons (Va _ _ _ _) (dE t)
def VM {pins:Ab (Af × Cr)}{σ : _L.St}{H P:Hp}{α : Ab Af}{S:Sto}{s:Ag}{d:D}{xs:Ab D}{v:V}{vv:Ad}(I:Inv X pins σ H s)(r:Rel X.K H P α S)(p:Rep X.K P α d v)(q:qP v vv)(h:tU d=Aa xs) :
  ∃ a vs its,vv=.ref a∧qI X.K P α xs vs∧qT vs its∧(s.heap.IsList a its.toArray∨s.heap.IsTuple a its.toArray)∧xs.length=its.length:=by
 cases d with
 |lst ys =>
  cases h;obtain⟨a,vs,its,n,rfl,_,t,rv,e,l,_⟩:=vV I r p;exact⟨a,vs,its,q,t,rv,.inl ⟨_,e,rfl,n,rfl⟩,l⟩
 |tup ys =>
  cases h;obtain⟨a,vs,its,rfl,_,t,rv,⟨o,e,hc,n,hd⟩,l,_⟩:=yJ I r p;exact⟨a,vs,its,q,t,rv,.inr ⟨o,e,hc,n,hd⟩,l⟩
 |_=>cases h
set_option tactic.hygienic true in
def ZF (hc:X.calm=true)(hu:X.A.units+64<Du)(hg:Gl X "sorted")(hm:X.mg "sorted" = none)(hg2:Gl X "set")(hm2:X.mg "set" = none)(ha:PE X e (tD X fa))(he:Bh [e] X.env=(false,eval e X.env)::Bh [] X.env:=by rfl) :
  PE X (.Call (.Name "sorted" p1) [.Call (.Name "set" p2) [e] [] pos2] [] pos1) (tD X (v7 fa)):=by
 intro pins s σ H Q I h;obtain⟨P,α,env,S,r,re,af⟩:=h;refine Hx (uX I hg hm XU ?_);refine Ng ?_ rfl rfl;refine Pe ?_;refine Call_ (uX I hg2 hm2 UA (Gr ?_ he rfl));rw[he];refine Pe (thn (zZ ha I r re af) λvv s1 ⟨v,H1,P1,α1,d,S1,G1,af1⟩=>Pw ?_);cases hq:(tU d).bind jM with
 |none=>simp only[hq] at af1;exact Ap af1
 |some ys =>
   simp only[hq] at af1;obtain⟨xs,hd,hs⟩:=Dv.mp hq;obtain⟨a,vs,its,rfl,t1,rv1,e1,l1⟩:=VM G1.inv G1.rel G1.rep G1.val hd;have main:Ao (Au X.prog X.w) X.A (call (.type "set") [.ref a]) (λu s1=>Ao (Au X.prog X.w) X.A (call (.builtin "sorted") [u]) (NewL X pins σ P1 α1 S1 ys) X.xe s1) X.xe s1:=by
    unfold jM at hs;cases hi:yA xs with
    |some ns =>
     rw[hi] at hs;dsimp only at hs
     split at hs
     ·rename_i hlt
      cases hs;have:=kY hi;subst this;have:=uK t1;subst this;refine lN (d:=0) (_S.PF X.prog X.w s1.heap) (_S.NQ s1.heap) hc hu G1.inv G1.rel e1 ns (by simpa using l1) (λi u hu'=>?_) hlt (λ_ _=>trivial) D.int λk u hk _=>?_
      ·have hi:Iy its ns:=by simpa using pZ rv1
       obtain⟨t,rfl⟩:=Pa hi i u hu';exact Va _ _ _ _
      ·obtain⟨t,rfl⟩:=_S.yT hk
       exact⟨.int k,⟨t,rfl⟩,by simp only[Rep]⟩
     ·cases hs
    |none =>
     rw[hi] at hs;dsimp only at hs;cases ht:yX xs with
     |none=>rw[ht] at hs;cases hs
     |some ks =>
      rw[ht] at hs;dsimp only at hs
      split at hs
      ·rename_i hlt
       cases hs;have hlt':=Er.mp hlt;have:=tX ht;subst this;have at':∀ (i:Ai) (u:Ad),its[i]? = Aa u→∃ b,u=.ref b∧Ol (Bf X.prog X.w) s1.heap (ks.getD i []) b∧∃ vv,qP vv u∧Rep X.K P1 α1 (tpD (ks.getD i [])) vv:=λi u hu'=>by
        have hii:i<its.length:=(Bb.mp hu').1;have hik:i<ks.length:=by rw[Ay] at l1;omega
        obtain⟨v,p,q,_⟩:=yM t1 rv1 (j:=i) (by rw[Ax];exact hii)
        have hd:(ks.map tpD).getD i D.non=tpD (ks.getD i []):=by simp[Hk,hik]
        rw[hd] at p;have hu2:its.toArray[i]'(by rw[Ax];exact hii)=u:=by
         rw[An hii] at hu';simpa using hu'
        rw[hu2] at q;obtain⟨b,ws,us,rfl,sq,t,rv,⟨o,ho,hcl,m,hd⟩,_,_⟩:=yJ G1.inv G1.rel (show Rep X.K P1 α1 (.tup ((ks.getD i []).map D.int)) v from p)
        cases (show u=Cg b from q)
        have:=uK t;subst this;exact⟨b,rfl,⟨o,us.toArray,m,ho,hcl,hd,by simpa using dE rv⟩,.ref b,rfl,p⟩
       refine lN (d:=[]) (_S.PH X.prog X.w s1.heap) (_S.NR s1.heap) hc hu G1.inv G1.rel e1 ks (by simpa using l1) (λi u hu'=>?_) (Ce hlt'.1) (λk hk=>?_) tpD λk u hk hm'=>?_
       ·obtain⟨b,rfl,q,_⟩:=at' i u hu'
        exact⟨b,rfl,q⟩
       ·have:=Ar.mp hlt'.2 k hk
        intro z;subst z;cases this
       ·obtain⟨i,hi',rfl⟩:=Cu.mp hm'
        obtain⟨b,eb,q,w,rw',pw⟩:=at' i _ (An hi');have:k=ks.getD i []:=_S.isT.inj hk ⟨b,eb,q⟩;rw[this];exact⟨w,rw',pw⟩
      ·cases hs
   refine thn main λu s2 h2=>Pw (thn h2 λu' s3 ⟨v,H',P',I',rv,r',e',rp⟩=>?_);exact⟨v,H',I',rv,af1 v H' P' α1 r' (G1.same.trans e') G1.pre rp⟩
end
section
variable {X:Cx}{cm:Aq}{k:Ai}{e:Bx}{fa:DE}{p1 p2 pos1 pos2:Fa}
def ZX (hc:X.calm=true)(hr:RoomC cm k X.A)(hg:Gl X "sorted")(hm:X.mg "sorted" = none)(hg2:Gl X "set")(hm2:X.mg "set" = none)(ha:QE X e fa)(he:Bh [e] X.env=(false,eval e X.env)::Bh [] X.env:=by rfl) :
  QE X (.Call (.Name "sorted" p1) [.Call (.Name "set" p2) [e] [] pos2] [] pos1) (v7 fa):=⟨ZF hc hr.units hg hm hg2 hm2 ha.1 he⟩
end
end _D
section
namespace _D
open PySem PySem.Spec PyProof.Rows _L
mutual
def pyD:D→Am Vj
 |.non=>Aa .none
 |.bl b=>Aa (.bool b)
 |.int i=>Aa (.int i)
 |.str x=>Aa (.str x)
 |.tup xs=>(uC xs).map .tuple
 |.lst xs=>(uC xs).map .list
 |.dct0=>Aa (.dict [])
 |_=>none
def uC:Ab D→Am (Ab Vj)
 |[]=>Aa []
 |d::ds=>(pyD d).bind λx=>(uC ds).map (x::·)
end
mutual
def kH:D→Aq
 |.lst _=>false
 |.tup xs=>pK xs
 |_=>true
def pK:Ab D→Aq
 |[]=>true
 |d::ds=>kH d&&pK ds
end
def fS (d:D)(p:Vj):Aq:=p.showable&&p.leavesShort 40&&decide (p.bulk≤2 ^ 16)&&decide (p.depth≤60)&&(!p.hasDict||kH d)
def kJ (d:D):Am As:=(pyD d).bind λp=>if fS d p then Aa p.shown else none
def mB:DF:=λds S=>match ds with
 |[d]=>match kJ d with
  |some x=>.ok (.str x) S
  |none=>.bad
 |_=>.bad
section
variable {X:Cx}{pins:Ab (Af × Cr)}{σ : _L.St}{H P:Hp}{α : Ab Af}{S:Sto}{s:Ag}
mutual
def aY (I:Inv X pins σ H s)(r:Rel X.K H P α S):∀ (d:D) (p:Vj) (v:V) (u:Ad),pyD d=Aa p→Rep X.K P α d v→qP v u→∃ as,Reads s.heap u p as∧(kH d=true→Hr ∉ as)
 |.non,p,v,u,h,q,rv=>by
  cases h;simp only[Rep] at q;subst q;cases (show u=Ff from rv);exact⟨_,.none,by simp⟩
 |.bl b,p,v,u,h,q,rv=>by
  cases h;simp only[Rep] at q;subst q;cases (show u=Es b from rv);exact⟨_,.bool b,by simp⟩
 |.int i,p,v,u,h,q,rv=>by
  cases h;simp only[Rep] at q;subst q;obtain⟨t,rfl⟩:=rv;exact⟨_,.int i t,by simp⟩
 |.str x,p,v,u,h,q,rv=>by
  cases h;simp only[Rep] at q;subst q;obtain⟨t,rfl⟩:=rv;exact⟨_,.str x t,by simp⟩
 |.tup xs,p,v,u,h,q,rv=>by
  simp only[pyD] at h;obtain⟨ps,h1,rfl⟩:=DL.mp h;obtain⟨a,vs,its,rfl,_,t,rvs,⟨o,e,hc,n,hd⟩,_,_⟩:=yJ I r q;cases (show u=Cg a from rv)
  obtain⟨as,ra,ha⟩:=fR I r xs ps vs its h1 t rvs;exact⟨as,.tuple e hc hd (by simpa using ra),λz=>ha (by simpa only [kH] using z)⟩
 |.lst xs,p,v,u,h,q,rv=>by
  simp only[pyD] at h;obtain⟨ps,h1,rfl⟩:=DL.mp h;obtain⟨a,vs,its,n,rfl,_,t,rvs,e,_,_⟩:=vV I r q;cases (show u=Cg a from rv)
  obtain⟨as,ra,_⟩:=fR I r xs ps vs its h1 t rvs;exact⟨a::as,.list e rfl rfl (by simpa using ra),λz=>by simp[kH] at z⟩
 |.dct0,p,v,u,h,q,rv=>by
  cases h;simp only[Rep] at q;obtain⟨a,rfl,q⟩:=q;cases (show u=Cg a from rv)
  obtain⟨_,ne,vs,kv,o,es,ep,e,hx,hd,_,hp,_⟩:=I.hok _ _ (r.sub _ _ q);cases kv;have he:es.toList=[]:=by
   generalize es.toList=l at hp;cases hp;rfl
  refine⟨[a]++[],.dict (kvs:=[]) e hx.1 hd ?_ ?_,λ_=>by simpa using (λz=>(Gc.mp ne) z.symm)⟩
  ·rw[he];exact .nil
  ·rw[he];exact .nil
 |.ty _,p,v,u,h,_,_=>by simp[pyD] at h
 |.obj _,p,v,u,h,_,_=>by simp[pyD] at h
 |.loc _,p,v,u,h,_,_=>by simp[pyD] at h
 |.exn _,p,v,u,h,_,_=>by simp[pyD] at h
 |.fd _ _,p,v,u,h,_,_=>by simp[pyD] at h
def fR (I:Inv X pins σ H s)(r:Rel X.K H P α S):∀ (ds:Ab D) (ps:Ab Vj) (vs:Ab V) (us:Ab Ad),uC ds=Aa ps→qI X.K P α ds vs→qT vs us→∃ as,ReadsAll s.heap us ps as∧(pK ds=true→Hr ∉ as)
 |[],ps,vs,us,h,q,rv=>by
  cases h;cases q.nil_inv;cases rv;exact⟨[],.nil,by simp⟩
 |d::ds,ps,vs,us,h,q,rv=>by
  simp only[uC] at h;obtain⟨p,h1,h2⟩:=Dv.mp h;obtain⟨ps',h3,rfl⟩:=DL.mp h2;obtain⟨w,ws,rfl,q1,q2⟩:=q.cons_inv;cases rv with
  |cons r1 r2 =>
   obtain⟨as,a1,a2⟩:=aY I r d p w _ h1 q1 r1;obtain⟨bs,b1,b2⟩:=fR I r ds ps' ws _ h3 q2 r2;refine⟨as++bs,.cons a1 b1,λz=>?_⟩;simp only[pK,Az] at z;simp only[Cq,Rj];exact⟨a2 z.1,b2 z.2⟩
end
set_option tactic.hygienic true in
def VH {d:D}{x:As}(h:kJ d=Aa x):∃ p,pyD d=Aa p∧p.shown=x∧p.showable=true∧p.shown.length≤sizeLine∧p.depth≤60∧(p.hasDict=true→kH d=true):=by
 unfold kJ at h;obtain⟨p,h1,h2⟩:=Dv.mp h
 split at h2
 ·rename_i hk
  cases h2;simp only[fS,Az,Cm,La,Qf] at hk;obtain⟨⟨⟨⟨k1,k2⟩,k3⟩,k4⟩,k5⟩:=hk;refine⟨p,h1,rfl,k1,?_,k4,λz=>k5.resolve_left (by rw[z];simp)⟩
  have:=PyData.shown_le_bulk 40 om p k2;rw[Ep];omega
 ·cases h2
def BN (hg:X.A.guards=Aa [])(hu:X.A.units+64<Du):yV X (.builtin "repr") mB:=by
 intro pins σ H s P α S vs us ds Q I r rv rp af
 match ds,af,rp with
 |[],af,_=>exact Ap af
 |_::_::_,af,_=>exact Ap af
 |[d],af,rp =>
  simp only[mB] at af;cases hd:kJ d with
  |none=>rw[hd] at af;exact Ap af
  |some x =>
   rw[hd] at af;obtain⟨p,h1,rfl,hs,hz,hp,hn⟩:=VH hd;obtain⟨v,u,rfl,rfl,q,rv1⟩:=vP rp rv;obtain⟨as,ra,ha⟩:=aY I r d p v u h1 q rv1;have fin:∀ (h':Bk) (u tk:Pj),(∀ b o,s.heap.get? b=Aa o→h'.get? b=Aa o)→EP X pins σ Q (.str p.shown u) { s with heap:=h',toks:=tk }:=λh' u tk hk =>
    ⟨.str p.shown,H,I.kept hk,⟨u,rfl⟩,xr af r (by simp only[Rep])⟩
   cases ra with
   |none=>exact PySem.P.repr_of_none (fin s.heap _ _ λ_ _ e=>e)
   |bool b=>exact PySem.P.repr_of_bool (fin s.heap _ _ λ_ _ e=>e)
   |int i t=>exact PySem.P.repr_of_int (by simpa [Tc] using hs) (fin s.heap _ _ λ_ _ e=>e)
   |str y t=>exact PySem.P.repr_of_str (fin s.heap _ _ λ_ _ e=>e) hz
   |list a1 a2 a3 a4=>exact Ue (.list a1 a2 a3 a4) hs (λz=>ha (hn z)) hg om (λ_ _ e=>e) fin hz
   |tuple a1 a2 a3 a4=>exact Ue (.tuple a1 a2 a3 a4) hs (λz=>ha (hn z)) hg om (λ_ _ e=>e) fin hz
   |dict a1 a2 a3 a4 a5=>exact Ue (.dict a1 a2 a3 a4 a5) hs (λz=>ha (hn z)) hg om (λ_ _ e=>e) fin hz
end
end _D
end
section
namespace _H
open PySem PyProof.Rows
def stepLo (n:Ai)(k:Ak):Ak:=(En none none k (n:Ak)).1
def stepHi (n:Ai)(k:Ak):Ak:=(En none none k (n:Ak)).2
def stepN (n:Ai)(k:Ak):Ai:=Fi (stepLo n k) (stepHi n k) k
def stepL {α:Type}(xs:Ab α)(k:Ak):Ab α:=(Cz (stepN xs.length k)).filterMap λ(m:Ai)=>xs[(stepLo xs.length k+(m:Ak)*k).toNat]?
section
variable {prog:Bg}{w:By}{A:Bv}{E:Ad→Ag→Prop}{s:Ag}
def mS {sl:Af}{k:Ak}{t:Pj}{n:Ai}{Q:Ak × Ak × Ai→Ag→Prop}(hs:s.heap.IsSliceOf sl .none .none (.int k t))(hk:k≠0)
  (h:Q (stepLo n k,k,stepN n k) s):Ao (Au prog w) A (Fz (.ref sl) (pure (n:Ak))) Q E s:=by
 obtain⟨os,hos,hcs,hds⟩:=id hs;unfold Fz Kq;refine Ac (Ac (Dg hos hds (x:=.none) rfl (Ac (Dg hos hds (x:=.none) rfl (Ac (Dg hos hds (x:=.int k t) rfl (Aj ?_)))))));refine Ac (Px ?_);show Ao _ _ (if (k == 0)=true then _ else _) _ _ s
 rw[Be (by simpa using hk)]
 refine Ac (Lv (Ac (Lv (Ac (Aj ?_)))));exact Aj h
def stepL_length {α:Type}(xs:Ab α)(k:Ak):(stepL xs k).length≤stepN xs.length k:=by
 unfold stepL;exact Dc (Rb _ _) (by rw[Fc];exact Aw _)
def getItem_tuple_step {t sl:Af}{items:Bj Ad}{k:Ak}{u:Pj}{Q:Ad→Ag→Prop}(ht:Ml s.heap t items)(hs:s.heap.IsSliceOf sl .none .none (.int k u))(h0:k≠0)(h1:k≠1)
  (h:Q (.ref s.heap.objs.size) { s with heap:=s.heap.push { cls:=.type "tuple",data:=.seq (stepL items.toList k).toArray } })
  (hsz:stepN items.size k≤sizeLine):Ao (Au prog w) A (IN (.ref t) (.ref sl)) Q E s:=by
 have htake:sizeOk (.seq (stepL items.toList k).toArray):=by
  show (stepL items.toList k).toArray.size≤sizeLine;rw[Ax];exact Dc (stepL_length _ _) (by simpa using hsz)
 obtain⟨os,hos,hcs,hds⟩:=id hs;have hTs:s.TypeIs (.ref sl) "slice":=⟨os,hos,hcs⟩;unfold IN
 try with_reducible refine Dp ?_
 first|refine Ac (Aj ?_)|skip
 refine Ac (Lz ht.typeIs (by decide) ?_)
 refine Ac (Dq (name:=Fb "__getitem__") ht.typeIs Cs
  (Dx Cs ht.typeIs Kr ?_ (Lh _ _)))
 show Ao _ _ (HT (.ref t) >>= _) _ _ s;refine Ac (Py ht ?_);refine Ac (Je hTs ?_);rw[Bd (by decide)]
 refine Ac (mS hs h0 ?_);have hno:¬ ((stepLo items.size k == 0&&k == 1&&stepN items.size k == items.size)=true):=by
  intro q;rw[Az,Az] at q;exact h1 (eq_of_beq q.1.2)
 show Ao _ _ (if (stepLo items.size k == 0&&k == 1&&stepN items.size k == items.size)=true then _ else _) _ _ s
 rw[Be hno];have e:((Cz (stepN items.size k)).filterMap λ(m:Ai)=>items[(stepLo items.size k+(m:Ak)*k).toNat]?)=stepL items.toList k:=by
  unfold stepL;simp
 rw[e]
 first
  |exact Ac (m:=Di _) (Cy (Aj ⟨_,rfl,Aj h⟩) htake)
  |exact Ac (m:=Di _) (Cy (Ac (Aj (Aj ⟨_,rfl,Aj h⟩))) htake)
  |exact Ac (Ac (m:=Di _) (Cy (Aj (Aj ⟨_,rfl,Aj h⟩)) htake))
  |exact Ac (Ac (m:=Di _) (Cy (Aj ⟨_,rfl,Aj h⟩) htake))
end
end _H
namespace _D
open PySem PySem.Spec PyProof.Rows _L
def ZJ:G2:=λd k S=>match d,k with
 |.tup xs,.int k=>if k≠0∧k≠1∧_H.stepN xs.length k≤lim then .ok (.tup (_H.stepL xs k)) S else .bad
 |_,_=>.bad
def m9 (fe fk:DE):DE:=d2 ZJ fe fk
section
variable {X:Cx}{e ek:Bx}{fe fk:DE}{p2 pos:Fa}
def rV {vs:Ab V}{us:Ab Ad}(rv:qT vs us)(l:Ab Ai)(f:Ai→Ai):qT (l.filterMap λm=>vs[f m]?) (l.filterMap λm=>us[f m]?):=by
 induction l with
 |nil=>exact .nil
 |cons m l ih =>
  simp only[Gd];cases h:vs[f m]? with
  |none =>
   have:us[f m]? = none:=by
    rw[Qp] at h ⊢;rw[← rv.length];exact h
   rw[this];exact ih
  |some v =>
   obtain⟨u,hu,r⟩:=rv.get h;rw[hu];exact .cons r ih
def rJ {K:Al}{P:Hp}{α:Ab Af}{ds:Ab D}{vs:Ab V}(rp:qI K P α ds vs)(l:Ab Ai)(f:Ai→Ai):qI K P α (l.filterMap λm=>ds[f m]?) (l.filterMap λm=>vs[f m]?):=by
 induction l with
 |nil=>exact .nil
 |cons m l ih =>
  simp only[Gd];cases h:ds[f m]? with
  |none =>
   have:vs[f m]? = none:=by
    rw[Qp] at h ⊢;rw[← rp.length];exact h
   rw[this];exact ih
  |some d =>
   obtain⟨u,hu,r⟩:=rp.get h;rw[hu];exact .cons r ih
set_option tactic.hygienic true in
def BZ (he:PE X e (tD X fe))(hk:PE X ek (tD X fk)):PE X (.Subscript e (.Slice none none (Aa ek) p2) pos) (tD X (m9 fe fk)):=by
 intro pins s σ H Q I h;obtain⟨P,α,env,S,r,re,af⟩:=h;have af':qQ X P α ((fe env S).bind λd S1=>(fk env S1).bind λk S2=>ZJ d k S2) (OkV X P α Q):=af;refine Rf (thn (zZ he I r re af') λv s1 ⟨x,H1,P1,α1,d,S1,G1,af1⟩=>?_);refine Xs ?_;rw[Pz];refine Aj (Aj ?_);rw[Qb];refine thn (zZ hk G1.inv G1.rel G1.env (zH.base G1.same G1.pre af1)) λvk s2 ⟨y,H2,P2,α2,k,S2,G2,af2⟩=>?_;have af2:=zH.base G2.same G2.pre af2;cases d with
 |tup xs =>
  cases k with
  |int k =>
   simp only[ZJ] at af2
   split at af2
   ·rename_i hk'
    have rp:=Rep.mono G2.same G2.pre _ _ G1.rep;obtain⟨a,vs,its,rfl,q,t,rvs,ht,hl,_⟩:=yJ G2.inv G2.rel rp;cases (show v=Cg a from G1.val)
    have gr:=G2.rep;simp only[Rep] at gr;subst gr;obtain⟨tk,rfl⟩:=G2.val;have I4:Inv X pins σ H2 { s2 with heap:=s2.heap.push { cls:=.type "slice",data:=.fields #[.none,.none,.int k tk] } }:=G2.inv.kept (t':=s2.toks) λb ob q=>Ah _ q
    have ht':Ml (s2.heap.push { cls:=.type "slice",data:=.fields #[.none,.none,.int k tk] }) a its.toArray:=ht.keeps λb ob q=>Ah _ q;refine tail_any (ops:=[.ref a,.ref s2.heap.objs.size]) (s:={ s2 with heap:=s2.heap.push { cls:=.type "slice",data:=.fields #[.none,.none,.int k tk] } }) ht'.typeIs Cs.lookup ?_ (by with_unfolding_all rfl)
    refine _H.getItem_tuple_step (s:={ s2 with heap:=s2.heap.push { cls:=.type "slice",data:=.fields #[.none,.none,.int k tk] } }) ht' (Pc ..) hk'.1 hk'.2.1 ?_ ?_
    ·have lv:vs.length=its.length:=rvs.length
     have ld:xs.length=vs.length:=t.length;have t':qI X.K P2 α2 (_H.stepL xs k) (_H.stepL vs k):=by
      unfold _H.stepL;rw[ld];exact rJ t _ λm=>(_H.stepLo vs.length k+(m:Ak)*k).toNat
     have rv':qT (_H.stepL vs k) (_H.stepL its k):=by
      unfold _H.stepL;rw[lv];exact rV rvs _ λm=>(_H.stepLo its.length k+(m:Ak)*k).toNat
     exact b5 I4 G2.rel t' rv' (Dc (_H.stepL_length _ _) hk'.2.2) af2
    ·rw[Ax,← hl,← xJ];exact hk'.2.2
   ·exact Ap af2
  |_=>exact Ap af2
 |_=>exact Ap af2
end
end _D
end
namespace _D
open PySem PySem.Spec PyProof.Rows _L
section
variable {X:Cx}{cm:Aq}{k:Ai}{e ek:Bx}{fe fk:DE}{p2 pos:Fa}
def HP (hr:RoomC cm k X.A):ZCall X (.builtin "repr") mB:=⟨BN hr.gd hr.units⟩
def T6 (he:QE X e fe)(hk:QE X ek fk):QE X (.Subscript e (.Slice none none (Aa ek) p2) pos) (m9 fe fk):=⟨BZ he.1 hk.1⟩
end
end _D
namespace _S
open PySem PySem.W PyProof.Rows
section
variable {prog:Bg}{w:By}{A:Bv}{E:Ad→Ag→Prop}{s:Ag}{K:Type}{is:K→Ad→Prop}{hash:K→Ak}{lt':K→K→Aq}{d:K}{Fit:K→Prop}{h0:Bk}
def X8 {Q:Ad→Ag→Prop}(kd:Kind prog w is hash lt' d Fit h0)(hu:A.units+16<Du)(hS:Sup h0 s.heap){l:Af}{vs:Ab Ad}(hl:s.heap.IsList l vs.toArray∨s.heap.IsTuple l vs.toArray)(ks:Ab K)(hlen:vs.length=ks.length)(hks:∀ i v,vs[i]? = Aa v→is (ks.getD i d) v)(hf:∀ k∈ks,Fit k)(hoel:vs.length≤63)
  (h:∀ (h1 h':Bk) (tk:Ai) (D:Af) (c:Ai) (ps:Ab (K × Ad)),(∀ b o,s.heap.get? b=Aa o→h1.get? b=Aa o)→(∀ b o,h1.get? b=Aa o→h'.get? b=Aa o)→h1.objs.size≤D→h'.get? D=Aa (Ed "list" (ps.map (·.2)).toArray c)→ps.map (·.1)=fV lt' ks→(∀ p∈ps,is p.1 p.2∧p.2∈vs)→ps.length=ks.length→Q (.ref D) { s with heap:=h',toks:=tk }) :
  Ao (Au prog w) A (call (.builtin "sorted") [.ref l]) Q E s:=by
 refine Qo kind_sorted plain_sorted entry_sorted (args_sorted1 _) ?_;unfold Gq.«sorted»;refine Ac (m:=checkCount "sorted" 1 1 _) (Aj ?_);have hcol:∀ {R:Ab Ad→Ag→Prop},(∀ h1:Bk,(∀ b o,s.heap.get? b=Aa o→h1.get? b=Aa o)→R vs { s with heap:=h1 }) → Ao (Au prog w) A.in1 (collect (.ref l)) R E s:=λ{R} hR=>by
  have e:vs.toArray.toList=vs:=by simp
  rcases hl with⟨o,ho,hc,n,hd⟩|⟨o,ho,hc,n,hd⟩
  ·exact Xj l (.inl rfl) ho hc hd (λh' hk=>by rw[e];exact hR h' hk) (by rw[Ax,Ep];omega)
  ·exact Xj l (.inr rfl) ho hc hd (λh' hk=>by rw[e];exact hR h' hk) (by rw[Ax,Ep];omega)
 refine Ac (hcol λh1 kp1=>?_);refine Ac (Vd ?_ (by rw[Ep];omega))
 have hD:(h1.push (Ed "list" vs.toArray 0)).get? h1.objs.size=Aa (Ed "list" vs.toArray 0):=Ba _ rfl;have n0:h0.get? h1.objs.size=none:=by
  cases q:h0.get? h1.objs.size with
  |none=>rfl
  |some o=>exact absurd (AT (kp1 _ _ (hS _ _ q))) (Ef _)
 show Ao _ _ _ _ _ { s with heap:=h1.push (Ed "list" vs.toArray 0),toks:=s.toks }
 refine Ac (Dp (Dx slot_list_sort ⟨_,hD,rfl⟩ Yw (PL (h0:=h0) (is:=is) kd.ord kd.inj (d:=d) (vs:=vs) hlen hks hD (by show A.units+2+8<Du;omega) hoel (λh2=>kd.cmps hlen hks hf h2) (λb o e=>Ah _ (kp1 b o (hS b o e))) n0 λps pm nf=>⟨_,rfl,?_⟩) (args_list_sort _)))
 refine Aj ⟨_,rfl,?_⟩;have hz:(h1.push (Ed "list" vs.toArray 0)).objs.size=h1.objs.size+1:=size_push' ..;have old:∀ b o,b≠h1.objs.size→(h1.push (Ed "list" vs.toArray 0)).get? b=Aa o→((((h1.push (Ed "list" vs.toArray 0)).update h1.objs.size (Ej λ_=>#[])).push (Ed "tuple" vs.toArray 0)).push (Ed "list" #[] 0)).get? b=Aa o:=λb o hb e =>
  Ah _ (Ah _ ((Bz _ _ (Em hb)).trans e))
 obtain⟨e1,he1⟩:∃ e1,((h1.push (Ed "list" vs.toArray 0)).update h1.objs.size (Ej λ_=>#[])).get? h1.objs.size=Aa (Ed "list" #[] e1):=⟨_,Le hD (λ_=>#[])⟩;have he6:=Le (Ah (Ed "list" #[] 0) (Ah (Ed "tuple" vs.toArray 0) he1)) (λ_=>(ps.map (·.2)).toArray)
 have pk:(ps.map (·.1)).Perm ks:=by
  have:=pm.map (·.1)
  rwa [Rl (by omega)] at this
 refine h h1 _ s.toks h1.objs.size _ ps kp1 (λb o e=>?_) (Aw _) he6 (oU kd.ord nf (N1 kd.ord ks) (pk.trans (rP ks).symm)) (λp hp=>?_) (by have:=pk.length_eq;rwa [Ay] at this)
 ·have hb:b≠h1.objs.size:=λz=>by
   subst z;exact absurd (AT e) (Ef _)
  exact(Bz _ _ (Em hb)).trans (old b o hb (Ah _ e))
 ·obtain⟨i,e1,e2⟩:=U0 (d:=d) hlen (pm.mem_iff.mp hp)
  exact⟨e2▸hks i _ e1,Cn e1⟩
end
end _S
namespace _D
open PySem PySem.Spec PyProof.Rows _L
variable {K:Al}{mg:As→Am Ad}
def bE (xs:Ab D):Am (Ab D):=match yA xs with
 |some ns=>if ns.length≤63 then Aa ((_S.fV _S.ltI ns).map D.int) else none
 |none=>match yX xs with
  |some ks=>if (decide (ks.length≤63)&&ks.all λk=>!k.isEmpty) then Aa ((_S.fV _H.lexLt ks).map tpD) else none
  |none=>none
def GA (R:Ab D→Sto→Res D):DF:=λds S=>match ds with
 |[d]=>match (tU d).bind bE with
  |some ys=>R ys S
  |none=>.bad
 |_=>.bad
def pF:DF:=GA λys S=>.ok (.lst ys) S
section
variable {X:Cx}{pins:Ab (Af × Cr)}{σ : _L.St}{H P:Hp}{α : Ab Af}{S:Sto}{s:Ag}
inductive NewR (X:Cx)(pins:Ab (Af × Cr))(σ : _L.St)(H P:Hp)(α : Ab Af)(ys:Ab D)(u:Ad)(s':Ag):Prop
 |mk (D:Af) (vs:Ab V) (e:u=.ref D) (hn:H D=none) (I:Inv X pins σ (upd H D (.lst vs)) s') (rp:qI X.K P α ys vs):NewR X pins σ H P α ys u s'
def rO {K:Type}{is:K→Ad→Prop}{hash:K→Ak}{lt':K→K→Aq}{d:K}{Fit:K→Prop}(kd:_S.Kind X.prog X.w is hash lt' d Fit s.heap)(hu:X.A.units+64<Du)(I:Inv X pins σ H s)(r:Rel X.K H P α S){a:Af}{its:Ab Ad}
  (ha:s.heap.IsList a its.toArray∨s.heap.IsTuple a its.toArray) (ks:Ab K) (hl:ks.length=its.length) (hk:∀ i v,its[i]? = Aa v→is (ks.getD i d) v) (hn:ks.length≤63) (hf:∀ k∈ks,Fit k) (enc:K→D)
  (back:∀ k v,is k v→v∈its→∃ vv,qP vv v∧Rep X.K P α (enc k) vv) {E:Ad→Ag→Prop} :
  Ao (Au X.prog X.w) X.A (call (.builtin "sorted") [.ref a]) (NewR X pins σ H P α ((_S.fV lt' ks).map enc)) E s:=by
 refine _S.X8 kd om (λ_ _ e=>e) ha ks hl.symm hk hf om λh1 h2 tk2 D c ps kp1 kp2 hD hob hps hp hpl=>?_;have I1:Inv X pins σ H { s with heap:=h1,toks:=s.toks }:=I.kept kp1
 have vv:∀ (ps:Ab (K × Ad)),(∀ p∈ps,is p.1 p.2∧p.2∈its)→∃ vs,qT vs (ps.map (·.2))∧qI X.K P α ((ps.map (·.1)).map enc) vs:=by
  intro ps
  induction ps with
  |nil=>exact λ_=>⟨[],.nil,.nil⟩
  |cons p ps ih =>
   intro h;obtain⟨vs,a1,a2⟩:=ih λq hq=>h q (by simp[hq])
   obtain⟨v,b1,b2⟩:=back p.1 p.2 (h p (by simp)).1 (h p (by simp)).2
   exact⟨v::vs,.cons b1 a1,.cons b2 a2⟩
 obtain⟨vs,a1,a2⟩:=vv ps hp;rw[hps] at a2;have nd:([(D,HO.lst vs)].map (·.1)).Nodup:=by simp
 have I2:Inv X pins σ (uF H [(D,HO.lst vs)]) { s with heap:=h2,toks:=tk2 }:=Inv.laidL (s:={ s with heap:=h1,toks:=s.toks }) (L:=[(D,HO.lst vs)]) (t':=tk2) I1 kp2 (λp hpm=>by
  have:p=(D,HO.lst vs):=by simpa using hpm
  subst this;exact hD) λp hpm=>by
  have:p=(D,HO.lst vs):=by simpa using hpm
  subst this;refine⟨?_,ps.map (·.2),c,a1,hob⟩
  have:=a1.length;rw[Ay] at this;rw[this,Ep];omega
 exact⟨D,vs,rfl,I1.hok.fresh hD,I2,a2⟩
set_option tactic.hygienic true in
def X6 {E:Ad→Ag→Prop}(hu:X.A.units+64<Du)(I:Inv X pins σ H s)(r:Rel X.K H P α S){a:Af}{xs ys:Ab D}{vs:Ab V}{its:Ab Ad}(t1:qI X.K P α xs vs)(rv1:qT vs its)(e1:s.heap.IsList a its.toArray∨s.heap.IsTuple a its.toArray)(l1:xs.length=its.length)(hs:bE xs=Aa ys) :
  Ao (Au X.prog X.w) X.A (call (.builtin "sorted") [.ref a]) (NewR X pins σ H P α ys) E s:=by
 unfold bE at hs;cases hi:yA xs with
 |some ns =>
  rw[hi] at hs;dsimp only at hs
  split at hs
  ·rename_i hlt
   cases hs;have:=kY hi;subst this;have:=uK t1;subst this;refine rO (d:=0) (_S.PF X.prog X.w s.heap) hu I r e1 ns (by simpa using l1) (λi u hu'=>?_) hlt (λ_ _=>trivial) D.int λk u hk _=>?_
   ·have hi:Iy its ns:=by simpa using pZ rv1
    obtain⟨t,rfl⟩:=Pa hi i u hu';exact Va _ _ _ _
   ·obtain⟨t,rfl⟩:=_S.yT hk
    exact⟨.int k,⟨t,rfl⟩,by simp only[Rep]⟩
  ·cases hs
 |none =>
  rw[hi] at hs;dsimp only at hs;cases ht:yX xs with
  |none=>rw[ht] at hs;cases hs
  |some ks =>
   rw[ht] at hs;dsimp only at hs
   split at hs
   ·rename_i hlt
    cases hs;rw[Az,Cm] at hlt;have:=tX ht;subst this;have at':∀ (i:Ai) (u:Ad),its[i]? = Aa u→∃ b,u=.ref b∧Ol (Bf X.prog X.w) s.heap (ks.getD i []) b∧∃ vv,qP vv u∧Rep X.K P α (tpD (ks.getD i [])) vv:=λi u hu'=>by
     have hii:i<its.length:=(Bb.mp hu').1;have hik:i<ks.length:=by rw[Ay] at l1;omega
     obtain⟨v,p,q,_⟩:=yM t1 rv1 (j:=i) (by rw[Ax];exact hii)
     have hd:(ks.map tpD).getD i D.non=tpD (ks.getD i []):=by simp[Hk,hik]
     rw[hd] at p;have hu2:its.toArray[i]'(by rw[Ax];exact hii)=u:=by
      rw[An hii] at hu';simpa using hu'
     rw[hu2] at q;obtain⟨b,ws,us,rfl,sq,t,rv,⟨o,ho,hcl,m,hd⟩,_,_⟩:=yJ I r (show Rep X.K P α (.tup ((ks.getD i []).map D.int)) v from p)
     cases (show u=Cg b from q)
     have:=uK t;subst this;exact⟨b,rfl,⟨o,us.toArray,m,ho,hcl,hd,by simpa using dE rv⟩,.ref b,rfl,p⟩
    refine rO (d:=[]) (_S.PH X.prog X.w s.heap) hu I r e1 ks (by simpa using l1) (λi u hu'=>?_) hlt.1 (λk hk=>?_) tpD λk u hk hm'=>?_
    ·obtain⟨b,rfl,q,_⟩:=at' i u hu'
     exact⟨b,rfl,q⟩
    ·have:=Ar.mp hlt.2 k hk
     intro z;subst z;cases this
    ·obtain⟨i,hi',rfl⟩:=Cu.mp hm'
     obtain⟨b,eb,q,w,rw',pw⟩:=at' i _ (An hi');have:k=ks.getD i []:=_S.isT.inj hk ⟨b,eb,q⟩;rw[this];exact⟨w,rw',pw⟩
   ·cases hs
def IC (hu:X.A.units+64<Du){vs:Ab V}{us:Ab Ad}{ds:Ab D}{Q:VK}{R:Ab D→Sto→Res D}(I:Inv X pins σ H s)(r:Rel X.K H P α S)(rv:qT vs us)(rp:qI X.K P α ds vs)(af:zH X P α (GA R ds S) Q)
  (k:∀ ys D vs',H D=none→qI X.K P α ys vs'→zH X P α (R ys S) Q→Q (.ref D) (upd H D (.lst vs'))):Ao (Au X.prog X.w) X.A (call (.builtin "sorted") us) (EP X pins σ Q) X.xe s:=by
 match ds,af,rp with
 |[],af,_=>exact Ap af
 |_::_::_,af,_=>exact Ap af
 |[d],af,rp =>
  simp only[GA] at af;cases hq:(tU d).bind bE with
  |none=>rw[hq] at af;exact Ap af
  |some ys =>
   rw[hq] at af;obtain⟨xs,hd,hs⟩:=Dv.mp hq;obtain⟨v,u,rfl,rfl,p,q⟩:=vP rp rv;obtain⟨a,vs,its,rfl,t1,rv1,e1,l1⟩:=VM I r p q hd;refine thn (X6 hu I r t1 rv1 e1 l1 hs) λu' s3 ⟨D,vs',e,hn,I',rp'⟩=>?_;subst e;exact⟨.ref D,_,I',rfl,k ys D vs' hn rp' af⟩
def XZ (hu:X.A.units+64<Du):yV X (.builtin "sorted") pF:=by
 intro pins σ H s P α S vs us ds Q I r rv rp af;exact IC hu I r rv rp af λys D vs' hn rp' af'=>vG r hn rp' af'
end
section
variable {X:Cx}{cm:Aq}{k:Ai}
def GM (hr:RoomC cm k X.A):ZCall X (.builtin "sorted") pF:=⟨XZ hr.units⟩
end
def EZ {h:Bk}(X:K.In h)(G:h.Ns Cp mg){x:As}{st:Fd}{ps:Ab As}{f:Af}{oc:Ad}{od an:Am Af}{osl:Bj (Am Ad)}{kV doc pm cdv ct:Ad}
  (a:Ds K Cp x=Aa (Aa (.ref f)))
  (l:K.lookup f=Aa ⟨oc,od,.func (Ha x x (vJ st) (xH st) (qR st) .none kV doc pm an cdv ct),osl⟩) (c:Lu K cdv x=true) (k:Ex K (.ref f)=true)
  (hb:∀ (kV doc pm:Ad) (an:Am Af) (cdv ct:Ad) (us:Ab Ad),us.length=ps.length→Ym (Ha x x (vJ st) (xH st) (qR st) .none kV doc pm an cdv ct) ⟨us,[]⟩=pure (ps.zip us)):Src K mg x st ps:=
 have F:=DP (st:=st) l c k
 ⟨f,_,Ve X G a,F,F.binds hb⟩
def cA (K:Al)(C:Af):Aq:=
 decide (Ls K (.ref C) "__getattribute__" = Aa (Aa (.builtin "BaseException.__getattribute__")))&&decide (Ls K (.ref C) "__getattr__" = Aa none)
 && decide (Ls K (.ref C) "__class__" = Aa (Aa (.builtin "object.__class__")))&&decide (Um K C (.type "object")=Aa true)&&decide (Um K C (.type "BaseException")=Aa true)
 && (PySem.W.clsIn K C).isSome&&decide (Kc K (.ref C) (.type "ValueError")=Aa true)
def UI (K:Al):Aq:=
 decide (Wr K (.builtin "object.__class__") "__get__" = Aa (Aa (.builtin "getset_descriptor.__get__")))&&decide (Yl K (.builtin "object.__class__")=Aa true)
def L6 (K:Al)(cl:Ab Af):Aq:=cl.all λC=>cl.all λB=>decide (Kc K (.ref C) (.ref B)=Aa (C == B))
def L7 {cl:Ab Af}(h1:cl.all (cA K)=true)(h2:UI K=true)(h3:L6 K cl=true):ClsK K cl:=by
 have g:=h2;unfold UI at g;simp only[Az,Cm] at g;have k1:∀ C∈cl,cA K C=true:=Ar.mp h1;refine⟨λC hC=>?_,λC hC B hB=>?_,λC hC=>?_⟩
 ·have e:=k1 C hC
  unfold cA at e;simp only[Az,Cm] at e;obtain⟨⟨⟨⟨⟨⟨e1,e2⟩,e3⟩,e4⟩,e5⟩,e6⟩,e7⟩:=e;exact⟨e1,e2,e3,g.1,g.2,e4,e5,e6⟩
 ·have e:=Ar.mp (Ar.mp h3 C hC) B hB
  exact Ce e
 ·have e:=k1 C hC
  unfold cA at e;simp only[Az,Cm] at e;exact e.2
def OI (K:Al)(cs:Ab Ad)(A:Af):Aq:=cs.all λv=>decide (Ix K v (.ref A)=Aa true)
def OG (K:Al)(cs:Ab Af)(A:Af):Aq:=cs.all λC=>tG K C A
def OH (K:Al)(cs:Ab Af):Aq:=cs.all λC=>Ex K (.ref C)
def eR (K:Al):Sp:=λvs H Q E=>∃ a ns,vs=[.ref a]∧SqX K H a (List.map V.int ns)∧ns.length≤63∧∀ H',Q (.bl true) H'
def i0 {P:Hp}{α:Ab Af}:∀ ns:Ab Ak,qI K P α (ns.map D.int) (ns.map V.int)
 |[]=>.nil
 |n::ns=>.cons (by simp only[Rep]) (i0 ns)
def M3 {P:Bg}{w:By}{fa:Af}{st:Fd}{k:Ai}{x:As}(hs:Src K mg "law" st [x])(hfa:mg "law" = Aa (.ref fa))
  (hbd:∀ (kV doc pm:Ad) (an:Am Af) (cdv ct:Ad) (s:Ag) (v:Ad),Oa s (Ha "law" "law" (vJ st) (xH st) (qR st) .none kV doc pm an cdv ct) ⟨[v],[]⟩ [(x,v)])
  (hall:∀ base:Bk,∃ F,eU P w K mg base true k "law" [x] F∧∀ ns:Ab Ak,ns.length≤63→∃ S,F [.lst (ns.map D.int)] [] = .ok (.bl true) S) :
  ∃ fd:Fw,(∀ (s:Ag) (v:Ad),Oa s fd ⟨[v],[]⟩ [(x,v)])∧∀ base:Bk,K.In base→base.Ns Cp mg→FnOk P w K mg base (CXd P w) k fa fd [x] (eR K):=by
 obtain⟨f,fd,hm,F,hb⟩:=hs;cases hfa.symm.trans hm;refine⟨fd,?_,λbase _ _=>?_⟩
 ·obtain⟨oc,od,kV,doc,pm,an,cdv,ct,osl,rfl,_,_⟩:=F.ex
  exact hbd kV doc pm an cdv ct
 ·obtain⟨G,⟨f',fd',hm',_,hb',hl,X⟩,hG⟩:=hall base
  cases hm.symm.trans hm';cases hl.one (eI F);refine(X.imp λvs H Q E h=>?_).ok;obtain⟨a,ns,rfl,hS,hl,k⟩:=h;obtain⟨S,e⟩:=hG ns hl;refine⟨rfl,H,[],[.lst (ns.map D.int)],[],⟨qK.refl _,rfl,.nil,by simp,by simp,by simp⟩,.cons (mL hS (i0 ns)) .nil,?_⟩
  rw[e];intro v H' P' α' _ _ _ rv;simp only[Rep] at rv;subst rv;exact k H'
def IK {l:Yn}{q:Bg}{loose:Ab As}{XP:(As→Am Ad)→Bk→Prop}{YP:By→Bk→Prop}{d:DefRec}{K:Zp→Al}{k:Ai}{x:As}(hn:l.most=Aa 63)(hdf:d.params.defaults=[])(hr:Room k Qe)
  (hY:∀ (w:By) (h:Bk),YP w h→(K w.params).In h)
  (F:∀ (w:By) (mg:As→Am Ad) (fa:Af) (h:Bk),(K w.params).In h→h.Ns Cp mg→mg d.name=Aa (.ref fa) →
   ∃ fd:Fw,(∀ (s:Ag) (u:Ad),Oa s fd ⟨[u],[]⟩ [(x,u)])∧∀ base:Bk,(K w.params).In base→base.Ns Cp mg→FnOk l.prog w (K w.params) mg base (CXd l.prog w) k fa fd [x] (eR (K w.params))) :
  Uu q loose XP YP l.row.toRowW d [] (λf vs=>Zb f vs):=
 _L.NC (n:=63) (k:=k) (x:=x) (CX:=λw=>CXd l.prog w) (sp:=λw=>eR (K w.params)) hn (by decide) hdf hr hY F (λ_ _ a ns hl _ hS=>⟨a,ns,rfl,hS,hl,λ_=>rfl⟩) λw H s e s' h=>by
  obtain⟨_,_,_,_,_,_,_,_,_,_,_,_,z⟩:=h;exact z
end _D
namespace _D
open PySem
variable {us:Ab Ad}
def us0 (h:us.length=0):us=[]:=Nt h
def usS {n:Ai}(h:us.length=n+1):∃ a vs,us=a::vs∧vs.length=n:=by
 cases us with
 |nil=>exact absurd h (by simp)
 |cons a vs=>exact⟨a,vs,rfl,by simpa using h⟩
def us1 (h:us.length=1):∃ a,us=[a]:=by
 obtain⟨a,vs,rfl,h'⟩:=usS h;exact⟨a,by rw[us0 h']⟩
def us2 (h:us.length=2):∃ a b,us=[a,b]:=by
 obtain⟨a,vs,rfl,h'⟩:=usS h;obtain⟨b,rfl⟩:=us1 h';exact⟨a,b,rfl⟩
def us3 (h:us.length=3):∃ a b c,us=[a,b,c]:=by
 obtain⟨a,vs,rfl,h'⟩:=usS h;obtain⟨b,c,rfl⟩:=us2 h';exact⟨a,b,c,rfl⟩
end _D
namespace _D
open PySem PySem.Spec PyProof.Rows _L
variable {sc:Gb}
def B7 (F:DF):∃ G:DF,G=F:=⟨F,rfl⟩
def sh (F:DF):DF:=Mx (B7 F)
def xD (F:DF):sh F=F:=My (B7 F)
def isV:Am Hg→Aq
 |some .local => true
 |some .cell=>true
 |some .free=>true
 |_=>false
def isL:Am Hg→Aq
 |some .local => true
 |some .cell=>true
 |_=>false
def isG:Am Hg→Aq
 |some .globalImplicit=>true
 |_=>false
def okN (x:As):Aq:=!(x == ("__debug__" : As))&&(!(x == ("__classdict__" : As))&&!decide (x = "__name__"))
def okG (X:Cx)(x:As):Aq:=isG (X.env.kindOf x)&&okN x
def okB (v:Ad)(x:As):Aq:=decide (Fv x=Aa v)
def dJ (sc:Gb):Ab As:=sc.names.filterMap λy=>if isL (Aa y.2) then Aa y.1 else none
def vZ (sc:Gb):Ab As:=(sc.names.filterMap λy=>if isL (Aa y.2)&&!(y.1 == (".0" : As)) then Aa y.1 else none)++sc.names.filterMap λy=>if y.2 == .free then Aa y.1 else none
def Ck (b:Aq):Prop:=b=true
def ck {b:Aq}(h:b=true:=by kernel_rfl):Ck b:=h
structure DfS (F:DF)(P:Bg)(w:By)(K:Al)(mg:As→Am Ad)(base:Bk)(cm:Aq)(k:Ai)(x:As)(n:Ai):Prop where
 get:Def P w K mg base cm k x n F
def okT (X:Cx)(m:Ai)(x:As):Aq:=decide (X.N[m]? = Aa x)&&(isL (X.env.scope.names.lookup x)&&(decide X.N.Nodup&&(X.fn x||decide (X.env.scope.names.lookup x=Aa .local))))
def okP (X:Cx)(m:Ai)(x:As):Aq:=decide (X.N[m]? = Aa x)&&decide (X.env.scope.names.lookup x=Aa .local)
def eD (scX:Gb)(NX:Ab As)(scope:Gb)(cap:Ab (Am Ai)):Aq:=
 decide (scope.kind=.function)&&(decide (∀ y∈scope.names,y.2=.local → scope.names.lookup y.1=Aa .local)&&(decide (∀ y∈scope.names,y.2=.cell→scope.names.lookup y.1=Aa .cell)&&(decide (∀ y∈scope.names,y.2=.free→scX.names.lookup y.1=Aa .cell∨scX.names.lookup y.1=Aa .free)
 && (decide (∀ y∈scope.names,y.2=.free→scope.names.lookup y.1=Aa .free)&&(decide (cap.length=(vZ scope).length)&&(((cap.zip (vZ scope)).all λp=>match p.1 with|none=>true|some i=>NX[i]? == Aa p.2&&scope.names.lookup p.2 == Aa .free)&&decide (vZ scope).Nodup))))))
def fnB (N P:Ab As)(sc:Gb):Aq:=
 decide (sc.kind=.function)&&(decide (sc.isCoroutine=false)&&(decide (sc.isGenerator=false)&&(decide N.Nodup&&(decide (N.take P.length=P)&&(decide (∀ x∈P,sc.names.lookup x=Aa .local ∨ sc.names.lookup x=Aa .cell)&&decide (∀ y∈sc.names,y.2≠.free))))))
def cB {scX:Gb}{NX:Ab As}{scope:Gb}{cap:Ab (Am Ai)}(h:eD scX NX scope cap=true):CompSc scX NX scope (vZ scope) cap:=by
 simp only[eD,Az,Cm] at h;obtain⟨a,b,c,d,e,f,g,k⟩:=h;exact⟨a,b,c,d,e,f,g,k⟩
def WN {N P:Ab As}(h:fnB N P sc=true):FnScope N P sc:=by
 simp only[fnB,Az,Cm] at h;obtain⟨a,b,c,d,e,f,g⟩:=h;exact⟨a,b,c,d,e,f,g⟩
section
variable {X:Cx}{a b c e o elt tg iter:Bx}{ifs rest:Ab Bx}{f g:DS}{fa:DE}{f2:DI2}{dg:DG}{t:DT}{kk:DK}{gens grest:Ab Fk}{scope:Gb}{cap:Ab (Am Ai)}{mm:Aq}{l q:Ai}{y z:As}{G2':G2}{es:Ab Bx}{fA:DA}{x:As}{p pos:Fa}{cm:Aq}{k n m:Ai}{F:DF}
def FR (h:isV (sc.names.lookup x)=true):Vis sc x:=by
 unfold Vis
 revert h
 cases sc.names.lookup x with
 |none=>intro h;cases h
 |some y=>cases y <;> intro h <;> first|cases h;done|exact .inl rfl|exact .inr (.inl rfl)|exact .inr (.inr rfl)
def FQ (h:isL (sc.names.lookup x)=true):_L.Loc sc x:=by
 unfold _L.Loc
 revert h
 cases sc.names.lookup x with
 |none=>intro h;cases h
 |some y=>cases y <;> intro h <;> first|cases h;done|exact .inl rfl|exact .inr rfl
def lB (h:okN x=true):(x == ("__debug__" : As))=false∧(x == ("__classdict__" : As))=false∧x ≠ "__name__":=by
 unfold okN at h;rw[Az,Az] at h;exact⟨by simpa using h.1,by simpa using h.2.1,by simpa using h.2.2⟩
def vD (h:okG X x=true):Gl X x∧(x == ("__debug__" : As))=false∧x ≠ "__name__":=by
 have h:=(Az _ _).mp h;refine⟨?_,(lB h.2).1,(lB h.2).2.2⟩;have z:=h.1;unfold Gl
 revert z
 cases X.env.kindOf x with
 |none=>intro z;cases z
 |some y=>cases y <;> intro z <;> first|cases z;done|rfl
def aD (h:okT X m x=true):X.N[m]? = Aa x∧_L.Loc X.env.scope x∧X.N.Nodup∧(X.fn x=true∨X.env.scope.names.lookup x=Aa .local):=by
 simp only[okT,Az,Cm,La] at h;exact⟨h.1,FQ h.2.1,h.2.2⟩
def pM (h:okP X m x=true):X.N[m]? = Aa x∧X.env.scope.names.lookup x=Aa .local:=by
 simp only[okP,Az,Cm] at h;exact h
def GZ (h:Ck (okG X x)):Gl X x:=(vD h).1
def aV (h:Ck (decide (X.N[m]? = Aa x)&&(isV (X.env.scope.names.lookup x)&&okN x))):QE X (.Name x pos) (qB m):=by
 unfold Ck at h;simp only[Az,Cm] at h;exact EE m h.1 (FR h.2.1) (lB h.2.2).1 (lB h.2.2).2.1
def aBt {nm:Ea}(h:Ck (okG X x))(hm:X.mg x=none)(hb:Ck (okB (.type nm) x)):QE X (.Name x pos) (dC (.ty nm)):=
 have h:=vD h
 MW h.1 hm (Ce hb) h.2.2 h.2.1
def aCl {C:Af}(h:Ck (okG X x))(hm:X.mg x=Aa (.ref C)∧Ex X.K (.ref C)=true):QE X (.Name x pos) (dC (.obj C)):=
 have h:=vD h
 E5 h.1 hm.1 hm.2 h.2.1
def aGi {v:Ak}(h:Ck (okG X x))(hm:∃ t,X.mg x=Aa (.int v t)):QE X (.Name x pos) (dC (.int v)):=
 have h:=vD h
 MY h.1 hm h.2.1
abbrev St1 (X:Cx)(e:Bx)(es:Ab Bx)(pos:Fa):Prop:=Bh (e::es) X.env=(false,eval e X.env)::Bh es X.env∧(Gf pos (Bh es X.env)).any (·.1)=false
def aN (G:DfS F X.prog X.w X.K X.mg X.base cm k x n)(hr:RoomC cm k X.A)(hF:Fn1 X)(h:Ck (okG X x))(ha:QA X (e::es) fA)(s:St1 X e es pos):QE X (.Call (.Name x p) (e::es) [] pos) (qG n F fA):=
 have h:=vD h
 qcN G.1 hr hF h.1 ha h.2.1 s.1 s.2
def aO (G:DfS F X.prog X.w X.K X.mg X.base cm k x n)(hr:RoomC cm k X.A)(h:Ck (okG X x))(ha:QA X (e::es) fA)(s:St1 X e es pos):QE X (.Call (.Name x p) (e::es) [] pos) (qG n (okO F) fA):=
 have h:=vD h
 qcO G.1 hr h.1 ha h.2.1 s.1 s.2
def aB {id:Ea}(hc:ZCall X (.builtin id) F)(h:Ck (okG X x))(hm:X.mg x=none)(hb:Ck (okB (.builtin id) x))(ha:QA X (e::es) fA)(s:St1 X e es pos):QE X (.Call (.Name x p) (e::es) [] pos) (qE F fA):=
 have h:=vD h
 KL hc h.1 hm (Ce hb) ha h.2.2 h.2.1 s.1 s.2
def aT {T:Ea}(hc:ZCall X (.type T) F)(h:Ck (okG X x))(hm:X.mg x=none)(hb:Ck (okB (.type T) x))(ha:QA X (e::es) fA)(s:St1 X e es pos):QE X (.Call (.Name x p) (e::es) [] pos) (qE F fA):=
 have h:=vD h
 YZ hc h.1 hm (Ce hb) ha h.2.2 h.2.1 s.1 s.2
def aC (S:Ck (eD X.env.scope X.N scope cap))(hc:X.calm=true)(hi:QI2 X tg iter f2)(hg:∀ cl C ex s₀ H₀,QG (zL X (vZ scope) scope cl C ex s₀ H₀) tg dg)(ht:∀ cl C ex s₀ H₀,QTs (zL X (vZ scope) scope cl C ex s₀ H₀) ifs t)
  (has:∀ g',(⟨tg,iter,ifs,0⟩::grest:Ab Fk)[0+1]? = Aa g'→g'.is_async=0)
  (he:∀ cl C ex s₀ H₀,QK (zL X (vZ scope) scope cl C ex s₀ H₀) (λacc=>wJ elt (⟨tg,iter,ifs,0⟩::grest) scope pos 0 acc (zL X (vZ scope) scope cl C ex s₀ H₀).env) kk) (hs:∀ x,Fo iter X.env x=pure x) :
  QE X (.ListComp elt (⟨tg,iter,ifs,0⟩::grest) scope pos) (qX mm cap f2 dg t kk):=KN hc (cB S) hi hg ht has he hs
def aCs {py spos:Fa}(hsw:Mb (.ListComp elt (⟨tg,iter,ifs,0⟩::grest) scope pos) (Aa (.Name y py)) spos.line X.env=pure true)(S:Ck (eD X.env.scope X.N scope cap))(hN:Ck (okT X m y))(hc:X.calm=true)(hi:QI2 X tg iter f2)(hg:∀ cl C ex s₀ H₀,QG (zL X (vZ scope) scope cl C ex s₀ H₀) tg dg)(ht:∀ cl C ex s₀ H₀,QTs (zL X (vZ scope) scope cl C ex s₀ H₀) ifs t)
  (has:∀ g',(⟨tg,iter,ifs,0⟩::grest:Ab Fk)[0+1]? = Aa g'→g'.is_async=0)
  (he:∀ cl C ex s₀ H₀,QK (zL X (vZ scope) scope cl C ex s₀ H₀) (λacc=>wJ elt (⟨tg,iter,ifs,0⟩::grest) scope pos 0 acc (zL X (vZ scope) scope cl C ex s₀ H₀).env) kk) (hs:∀ x,Fo iter X.env x=pure x) :
  QS X (.Assign [.Name y py] (.ListComp elt (⟨tg,iter,ifs,0⟩::grest) scope pos) spos) (zC (qX mm cap f2 dg t kk) (gNm m)):=
 have h:=aD hN
 KQ hc h.2.2.1 (cB S) hi hg ht has he h.1 h.2.1 h.2.2.2 hsw hs
def aNm (h:Ck (okT X m x)):QG X (.Name x pos) (gNm m):=
 have h:=aD h
 T7 h.2.2.1 h.1 h.2.1 h.2.2.2
def aSt {pos':Fa}(hs:Mb e (Aa (.Name x pos')) pos.line X.env=pure false)(he:QE X e fa)(h:Ck (okT X m x)):QS X (.Assign [.Name x pos'] e pos) (zC fa (gNm m)):=
 have h:=aD h
 EL h.2.2.1 he h.1 h.2.1 hs h.2.2.2
def aP2 {px py pt:Fa} {kt k2 pt2} (h:Ck (decide X.N.Nodup&&(okP X m x&&(okP X l y&&!decide (m=l))))) (hc:X.calm=true) (ha:QA X [a,b] fA)
  (hw:Kn [.Tuple [.Name x px,.Name y py] kt pt] (.Tuple [a,b] k2 pt2) X.env=pure (Aa [x,y])) (hs:Ko [.Tuple [.Name x px,.Name y py] kt pt] (.Tuple [a,b] k2 pt2) pos.line X.env=pure false) :
  QS X (.Assign [.Tuple [.Name x px,.Name y py] kt pt] (.Tuple [a,b] k2 pt2) pos) (kB m l fA):=by
 unfold Ck at h;simp only[Az,Cm,Qf,Lq] at h;exact EK hc h.1 ha (pM h.2.1).1 (pM h.2.2.1).1 h.2.2.2 (pM h.2.1).2 (pM h.2.2.1).2 hw hs
def aRs {C:Af}{np cpos:Fa}(h:Ck (okG X x))(hc:X.calm=true)(hF:Fn1 X)(hm:∃ Ae,X.mg x=Aa (.ref C)∧tG X.K C Ae=true)(ha:QA X (e::rest) fA)(s:St1 X e rest cpos) :
  QS X (.Raise (Aa (.Call (.Name x np) (e::rest) [] cpos)) none pos) (jZ (.ref C) fA):=
 have h:=vD h
 let ⟨_,hm,hx⟩:=hm
 KR hc hF h.1 hm hx ha h.2.1 s.1 s.2
def aTr {nm:As}{body:Ab Fd}{b₀:Fd}{suite:Ab Fd}{np hpos:Fa}{cs:Ab Ad}(h:Ck (okG X x&&(okP X m nm&&(decide X.N.Nodup&&decide (X.N.length=n)))))(hF:Fn1 X)(hm:∃ C0,X.mg x=Aa (.ref C0)∧∀ c∈cs,Ix X.K c (.ref C0)=Aa true)(hb:∀ E pn,ZPass (Cx.tryIn X E pn)→QB (Cx.tryIn X E pn) body f)(hs:∀ e,QB (Cx.suite X e) (b₀::suite) g) :
  QS X (.Try body [.ExceptHandler (Aa (.Name x np)) (Aa nm) (b₀::suite) hpos] [] [] pos) (tT n m cs f g):=by
 unfold Ck at h;simp only[Az,Cm] at h;obtain⟨C0,hm,hcs⟩:=hm;exact EM hF hb hs (vD h.1).1 hm hcs h.2.2.1 (pM h.2.1).1 (pM h.2.1).2 (vD h.1).2.1 h.2.2.2
end
structure TxS (K:Al)(mg:As→Am Ad)(tp:Ai→Fd)(tab:Ab (As × Ai × Ab As))(bl:Ab As)(clt plt:Ab (As × Af))(cs:Ab Ad)(exl:Ab Af)(cst:Ab (As × Ak)):Prop where
 src:∀ (j:Ai) {x:As} {i:Ai} {ps:Ab As},tab[j]? = Aa (x,i,ps)→Src K mg x (tp i) ps
 nb:∀ {x:As},Ck (bl.contains x)→mg x=none
 cl:∀ {x:As} {C:Af},clt.lookup x=Aa C→mg x=Aa (.ref C)∧Ex K (.ref C)=true
 rz:∀ {x:As} {C:Af},plt.lookup x=Aa C→∃ Ae,mg x=Aa (.ref C)∧tG K C Ae=true
 ct:∃ C0,mg "FarError" = Aa (.ref C0)∧∀ c∈cs,Ix K c (.ref C0)=Aa true
 cls:ClsK K exl
 gi:∀ {x:As} {v:Ak},cst.lookup x=Aa v→∃ t,mg x=Aa (.int v t)
section
variable {K:Al}{mg:As→Am Ad}{cm:Aq}{tp:Ai→Fd}{tab:Ab (As × Ai × Ab As)}{bl:Ab As}{clt plt:Ab (As × Af)}{cs:Ab Ad}{exl:Ab Af}{cst:Ab (As × Ak)}{x:As}{i m:Ai}{ps:Ab As}{F:DF}{g:DS}
def dq (P:Bg)(w:By)(base:Bk)(k j:Ai)(T:TxS K mg tp tab bl clt plt cs exl cst)(hj:tab[j]? = Aa (x,i,ps))(h:Ck (fnB (dJ (qR (tp i))) ps (qR (tp i))&&decide ((dJ (qR (tp i))).length=m)))(hF:F=z9 m g)
  (hb:∀ (f:Af) (cdv:Ad) (A:Bv) (outer:Ab Jt) (s:Ag) (H:Hp) (E:XK),RoomC cm k (A.deeper (Gm x (qR (tp i)) s.heap.objs.size f cdv)) →
   QB (cxC cm P w K mg base (dJ (qR (tp i))) x (qR (tp i)) f cdv A outer s H E) (xH (tp i)) g):DfS F P w K mg base cm (k+1) x ps.length:=by
 unfold Ck at h;simp only[Az,Cm] at h;obtain⟨h,rfl⟩:=h;exact⟨hF▸OK (T.src j hj) (WN h) rfl hb⟩
def dqP {P:Bg}{w:By}{base:Bk}(k j:Ai)(T:TxS K mg tp tab bl clt plt cs exl cst)(hj:tab[j]? = Aa (x,i,ps))(h:Ck (fnB (dJ (qR (tp i))) ps (qR (tp i))&&decide ((dJ (qR (tp i))).length=m)))
  (hb:∀ (f:Af) (cdv:Ad) (A:Bv) (outer:Ab Jt) (s:Ag) (H:Hp) (E:XK),RoomC cm k (A.deeper (Gm x (qR (tp i)) s.heap.objs.size f cdv)) →
   QB (cxC cm P w K mg base (dJ (qR (tp i))) x (qR (tp i)) f cdv A outer s H E) (xH (tp i)) g):eU P w K mg base cm (k+1) x ps (z9 m g):=by
 unfold Ck at h;simp only[Az,Cm] at h;obtain⟨h,rfl⟩:=h;exact CC (T.src j hj) (WN h) rfl hb
end
def hv {a b:Prop}(f:a→b)(h:a):b:=f h
inductive SrcF (K:Al)(x:As)(st:Fd)(ps:Ab As):Prop
 |mk {f:Af} {oc:Ad} {od an:Am Af} {osl:Bj (Am Ad)} {kV doc pm cdv ct:Ad} (a:Ds K Cp x=Aa (Aa (.ref f)))
  (l:K.lookup f=Aa ⟨oc,od,.func (Ha x x (vJ st) (xH st) (qR st) .none kV doc pm an cdv ct),osl⟩) (c:Lu K cdv x=true) (k:Ex K (.ref f)=true):SrcF K x st ps
def QV (K:Al)(tp:Ai→Fd):Ab (As × Ai × Ab As)→Prop
 |[]=>Kj
 |(x,i,ps)::t=>SrcF K x (tp i) ps∧QV K tp t
def BdF (tp:Ai→Fd):Ab (As × Ai × Ab As)→Prop
 |[]=>Kj
 |(x,i,ps)::t=>(∀ (kV doc pm:Ad) (an:Am Af) (cdv ct:Ad) (us:Ab Ad),us.length=ps.length→Ym (Ha x x (vJ (tp i)) (xH (tp i)) (qR (tp i)) .none kV doc pm an cdv ct) ⟨us,[]⟩=pure (ps.zip us))∧BdF tp t
def QP (K:Al):Ab (As × Af)→Prop
 |[]=>Kj
 |(x,C)::t=>Ds K Cp x=Aa (Aa (.ref C))∧QP K t
def QQ (K:Al):Ab (As × Ak)→Prop
 |[]=>Kj
 |(x,v)::t=>(∃ k,Ds K Cp x=Aa (Aa (.int v k)))∧QQ K t
def OQ:Am (Am Ad)→Aq
 |some none=>true
 |_=>false
section
variable {K:Al}{h:Bk}{mg:As→Am Ad}{tp:Ai→Fd}
def QJ (X:K.In h)(G:h.Ns Cp mg):∀ (tab:Ab (As × Ai × Ab As)),QV K tp tab→BdF tp tab→∀ (j:Ai) {x:As} {i:Ai} {ps:Ab As},tab[j]? = Aa (x,i,ps)→Src K mg x (tp i) ps
 |[],_,_,_,_,_,_,e=>by cases e
 |(x,i,ps)::t,H,B,0,_,_,_,e=>by
  cases e;obtain⟨a,l,c,k⟩:=H.1;exact EZ X G a l c k B.1
 |(x,i,ps)::t,H,B,j+1,_,_,_,e=>QJ X G t H.2 B.2 j e
def vC {β:Type}{p:As→β→Prop}{x:As}{C:β}:∀ {l:Ab (As × β)},(∀ y∈l,p y.1 y.2)→l.lookup x=Aa C→p x C
 |[],_,e=>by cases e
 |(y,b)::t,H,e=>by
  rw[Jb] at e;cases q:x == y with
  |true =>
   rw[q] at e;cases e;rw[eq_of_beq q];exact H (y,_) (.head _)
  |false =>
   rw[q] at e;exact vC (λz hz=>H z (.tail _ hz)) e
def m5 (X:K.In h)(G:h.Ns Cp mg):∀ {l:Ab (As × Af)},QP K l→∀ y∈l,mg y.1=Aa (.ref y.2)
 |(x,C)::t,H,y,hy=>by
  rcases Av.mp hy with rfl|hy
  ·exact Ve X G H.1
  ·exact m5 X G H.2 y hy
def iW (X:K.In h)(G:h.Ns Cp mg):∀ {l:Ab (As × Ak)},QQ K l→∀ y∈l,∃ k,mg y.1=Aa (.int y.2 k)
 |(x,C)::t,H,y,hy=>by
  rcases Av.mp hy with rfl|hy
  ·obtain⟨k,e⟩:=H.1
   exact⟨k,Ve X G e⟩
  ·exact iW X G H.2 y hy
def II {tab:Ab (As × Ai × Ab As)}{bl:Ab As}{clt plt:Ab (As × Af)}{cs:Ab Ad}{exl:Ab Af}{cst:Ab (As × Ak)}{far:Af}(B:BdF tp tab)(hp:∀ y∈plt,y∈clt)(hf:clt.lookup ("FarError" : As)=Aa far)(X:K.In h)(G:h.Ns Cp mg)
  (s:QV K tp tab) (z:(bl.all λx=>OQ (Ds K Cp x))=true) (q:QP K clt) (g:QQ K cst) (e1:exl.all (cA K)=true) (e2:UI K=true) (e3:L6 K exl=true) (e4:OI K cs far=true) (e5:OG K (plt.map (·.2)) far=true) (e6:OH K (clt.map (·.2))=true):TxS K mg tp tab bl clt plt cs exl cst where
 src:=QJ X G tab s B
 nb:=λ{x} hx=>by
  have e:=Ar.mp z x (by simpa using Ft.mp hx)
  refine PySem.W.mg_none_of X G ?_
  revert e
  cases Ds K Cp x with
  |none=>intro e;cases e
  |some y=>cases y with
   |none=>intro _;rfl
   |some y=>intro e;cases e
 cl:=λh=>⟨vC (p:=λx C=>mg x=Aa (.ref C)) (m5 X G q) h,vC (p:=λ_ C=>Ex K (.ref C)=true) (λy hy=>Ar.mp e6 y.2 (Ht hy)) h⟩
 rz:=λh=>⟨far,vC (p:=λx C=>mg x=Aa (.ref C)) (λy hy=>m5 X G q y (hp y hy)) h,vC (p:=λ_ C=>tG K C far=true) (λy hy=>Ar.mp e5 y.2 (Ht hy)) h⟩
 ct:=⟨far,vC (p:=λx C=>mg x=Aa (.ref C)) (m5 X G q) hf,λv hv=>Ce (Ar.mp e4 v hv)⟩
 cls:=L7 e1 e2 e3
 gi:=λh=>vC (p:=λx v=>∃ k,mg x=Aa (.int v k)) (iW X G g) h
end
def IL {q:Bg}{loose:Ab As}{XP:(As→Am Ad)→Bk→Prop}{r:PySem.W.RowW}{d:DefRec}{kwd:Ab (As × Bx)}{run:Ad→Ab Ad→Nd Ad}{K:Zp→Al}{as:Ab Af}{n t:Ai}(e:∀ P,as=(K P).map (·.1))
  (h:Uu q loose XP (λw h=>(K w.params).In h) r d kwd run):PySem.W.WalkX q loose XP (PySem.W.X.obsZ as) (PySem.W.X.valZ K n t) r d kwd run:=
 λw s₀ s₁ mg mb G Y a o pm cd doc dV kV h1 h2 h3 h4 h5 h6 args vals as' L=>h w s₀ s₁ mg mb G (PySem.W.InK.keeps w _ _ (PySem.W.X.z_facts e Y).2.1 L.keeps) a o pm cd doc dV kV h1 h2 h3 h4 h5 h6 args vals as'
section
variable {X:Cx}{o:Bx}{fo:DE}{apos cpos:Fa}{elts:Ab Bx}{x1:Ai}{tpos:Fa}
def kL:G2:=λa b S=>match a,b with
 |.bl x,.bl y=>.ok (.bl (x != y)) S
 |_,_=>.bad
def YR:OpD X (Cc .IsNot) kL:=by
 intro pins σ H s P α S v u vv uu a b Q I r rv ru pa pb af;cases a with
 |bl x =>
  cases b with
  |bl y =>
   simp only[Rep] at pa pb;subst pa pb;cases (show vv=Es x from rv)
   cases (show uu=Es y from ru)
   have h:EP X pins σ Q (.bool (x != y)) s:=⟨.bl _,H,I,rfl,xr af r (by simp only[Rep])⟩
   cases x <;> cases y <;> exact Aj h
  |_=>exact Ap af
 |_=>exact Ap af
def GK:ZOp X (Cc .IsNot) kL:=⟨YR⟩
end
end _D
section
namespace _D
open PySem PySem.Spec PyProof.Rows _L
mutual
def yK:D→Ab Ak
 |.int n=>[1,n]
 |.tup xs=>2::zU xs
 |_=>[]
def zU:Ab D→Ab Ak
 |[]=>[0]
 |x::xs=>yK x++zU xs
end
mutual
def jC:D→D→Aq
 |.int _,.int _=>true
 |.tup xs,.tup ys=>gM xs ys
 |_,_=>false
def gM:Ab D→Ab D→Aq
 |x::xs,y::ys=>jC x y&&gM xs ys
 |_,_=>true
end
def ltN (a b:D):Aq:=_H.lexLt (yK a) (yK b)
def trb:Ai→D→Aq
 |_,.int _=>true
 |n+1,.tup xs=>xs.all (trb n)
 |_,_=>false
inductive Tr:Ai→D→Prop
 |int (n:Ai) (i:Ak):Tr n (.int i)
 |tup (n:Ai) (xs:Ab D) (h:∀ x∈xs,Tr n x):Tr (n+1) (.tup xs)
def XB:∀ {n:Ai} {d:D},trb n d=true→Tr n d:=by
 intro n
 induction n with
 |zero=>intro d h;cases d <;> first|exact .int _ _|exact Df h
 |succ n ih =>
  intro d h;cases d with
  |int i=>exact .int _ i
  |tup xs=>exact .tup n xs λx hx=>ih (Ar.mp (show xs.all (trb n)=true from h) x hx)
  |_=>exact Df h
def kK {n:Ai}{d:D}(h:Tr n d):∃ k r,yK d=k::r∧0<k:=by
 cases h with
 |int _ i=>exact⟨1,[i],rfl,by decide⟩
 |tup n xs=>exact⟨2,zU xs,rfl,by decide⟩
def xZ (x:D)(xs:Ab D):zU (x::xs)=yK x++zU xs:=rfl
def rA:∀ {xs ys:Ab D} {n m:Ai},(∀ x∈xs,Tr n x)→(∀ y∈ys,Tr m y)→(∀ x∈xs,∀ y∈ys,jC x y=true→∀ r r':Ab Ak,_H.lexLt (yK x++r) (yK y++r')=if eqD x y=true then _H.lexLt r r' else ltN x y)→gM xs ys=true →
  ∀ r r':Ab Ak,_H.lexLt (zU xs++r) (zU ys++r')=if xM xs ys=true then _H.lexLt r r' else _H.lexLt (zU xs) (zU ys)
 |[],[],_,_,_,_,_,_,r,r'=>rfl
 |[],y::ys,_,_,_,h2,_,_,r,r'=>by
  obtain⟨k,t,e,p⟩:=kK (h2 y (by simp))
  rw[Be (by intro z;cases z),xZ,e]
  show _H.lexLt (0::r) (k::_)=_H.lexLt [0] (k::_);rw[_H.lexLt_cons,_H.lexLt_cons,Be om,Be om]
 |x::xs,[],_,_,h1,_,_,_,r,r'=>by
  obtain⟨k,t,e,p⟩:=kK (h1 x (by simp))
  rw[Be (by intro z;cases z),xZ,e]
  show _H.lexLt (k::_) (0::r')=_H.lexLt (k::_) [0];rw[_H.lexLt_cons,_H.lexLt_cons,Be om,Be om]
 |x::xs,y::ys,_,_,h1,h2,h3,hc,r,r'=>by
  have hc':(jC x y&&gM xs ys)=true:=hc;rw[Az] at hc';have ih:=rA (λz hz=>h1 z (by simp[hz])) (λz hz=>h2 z (by simp[hz])) (λz hz y' hy=>h3 z (by simp[hz]) y' (by simp[hy])) hc'.2
  rw[xZ,xZ,Eo,Eo,h3 x (by simp) y (by simp) hc'.1,h3 x (by simp) y (by simp) hc'.1,ih,f7]
  cases eqD x y <;> cases xM xs ys <;> simp
def JV {n:Ai}{a:D}(ha:Tr n a):∀ {m:Ai} {b:D},Tr m b→jC a b=true→∀ r r':Ab Ak,_H.lexLt (yK a++r) (yK b++r')=if eqD a b=true then _H.lexLt r r' else ltN a b:=by
 induction ha with
 |int n i =>
  intro m b hb hc r r';cases hb with
  |int _ j =>
   show _H.lexLt (1::i::r) (1::j::r')=if (i == j)=true then _ else _H.lexLt [1,i] [1,j]
   simp only[_H.lexLt_cons,Dh,Oe]
   split <;> rfl
  |tup _ ys=>exact Df hc
 |tup n xs hx ih =>
  intro m b hb hc r r';cases hb with
  |int _ j=>exact Df hc
  |tup m ys hy =>
   have h:=rA hx hy (λx hx' y hy' hc'=>ih x hx' (hy y hy') hc') hc r r';show _H.lexLt (2::(zU xs++r)) (2::(zU ys++r'))=if xM xs ys=true then _ else _H.lexLt (2::zU xs) (2::zU ys)
   rw[_H.lexLt_cons,_H.lexLt_cons,Bd rfl,Bd rfl,h]
def mG {xs ys:Ab D}:ltN (.tup xs) (.tup ys)=_H.lexLt (zU xs) (zU ys):=by
 show _H.lexLt (2::_) (2::_)=_;rw[_H.lexLt_cons,Bd rfl]
def y0 {n m:Ai}{x y:D}{xs ys:Ab D}(hx:Tr n x)(hy:Tr m y)(hc:jC x y=true):_H.lexLt (zU (x::xs)) (zU (y::ys))=if eqD x y=true then _H.lexLt (zU xs) (zU ys) else ltN x y:=JV hx hy hc _ _
set_option tactic.hygienic true in
def dM (i j:Ak):ltN (.int i) (.int j)=decide (i<j):=by
 show _H.lexLt [1,i] [1,j]=_;rw[_H.lexLt_cons,Bd rfl,_H.lexLt_cons]
 split
 ·rename_i h;subst h;simp[_H.lexLt_nil_nil]
 ·rfl
def sQ:∀ {xs ys:Ab D} {n m:Ai},(∀ x∈xs,Tr n x)→(∀ y∈ys,Tr m y)→(∀ x∈xs,∀ y∈ys,∀ r r':Ab Ak,yK x++r=yK y++r'→x=y∧r=r')→∀ r r':Ab Ak,zU xs++r=zU ys++r'→xs=ys∧r=r'
 |[],[],_,_,_,_,_,r,r',e=>⟨rfl,by injection e⟩
 |[],y::ys,_,_,_,h2,_,r,r',e=>by
  obtain⟨k,t,e',p⟩:=kK (h2 y (by simp))
  rw[xZ,e'] at e;injection e with e1 e2
  omega
 |x::xs,[],_,_,h1,_,_,r,r',e=>by
  obtain⟨k,t,e',p⟩:=kK (h1 x (by simp))
  rw[xZ,e'] at e;injection e with e1 e2
  omega
 |x::xs,y::ys,_,_,h1,h2,h3,r,r',e=>by
  rw[xZ,xZ,Eo,Eo] at e;obtain⟨e1,e2⟩:=h3 x (by simp) y (by simp) _ _ e
  obtain⟨e3,e4⟩:=sQ (λz hz=>h1 z (by simp[hz])) (λz hz=>h2 z (by simp[hz])) (λz hz y' hy=>h3 z (by simp[hz]) y' (by simp[hy])) _ _ e2
  exact⟨by rw[e1,e3],e4⟩
def W1 {n:Ai}{a:D}(ha:Tr n a):∀ {m:Ai} {b:D},Tr m b→∀ r r':Ab Ak,yK a++r=yK b++r'→a=b∧r=r':=by
 induction ha with
 |int n i =>
  intro m b hb r r' e;cases hb with
  |int _ j=>injection e with _ e;injection e with e1 e2;exact⟨by rw[e1],e2⟩
  |tup _ ys=>injection e with e _;cases e
 |tup n xs hx ih =>
  intro m b hb r r' e;cases hb with
  |int _ j=>injection e with e _;cases e
  |tup m ys hy =>
   injection e with _ e
   obtain⟨e1,e2⟩:=sQ hx hy (λx hx' y hy'=>ih x hx' (hy y hy')) r r' e;exact⟨by rw[e1],e2⟩
def UJ {n m:Ai}{a b:D}(ha:Tr n a)(hb:Tr m b)(e:yK a=yK b):a=b:=(W1 ha hb [] [] (by rw[e])).1
def DD {n:Ai}{a:D}(ha:Tr n a):eqD a a=true:=by
 induction ha with
 |int n i=>show (i == i)=true;simp
 |tup n xs _ ih =>
  show xM xs xs=true;rw[v9];simp only[Rr,BEq.rfl,Zy,Ar,Ek];intro j hj;exact ih _ (by simp[Hk,hj])
def pS:∀ {xs ys:Ab D},gM xs ys=true→∀ {j:Ai} {x y:D},xs[j]? = Aa x→ys[j]? = Aa y→jC x y=true
 |[],_,_,j,x,y,e,_=>by simp at e
 |_::_,[],_,j,x,y,_,e=>by simp at e
 |a::xs,b::ys,h,j,x,y,e1,e2=>by
  have h':(jC a b&&gM xs ys)=true:=h;rw[Az] at h';cases j with
  |zero=>cases e1;cases e2;exact h'.1
  |succ j=>exact pS h'.2 (j:=j) (by simpa using e1) (by simpa using e2)
end _D
end
namespace _D
open PySem PySem.Spec PyProof.Rows _L PySem.SeqAt
variable {n:Ai}{h:Bk}
def QU (A:Bv)(s:Ag)(u v:Ad)(c:Aq):Prop:=∀ (prog:Bg) (w:By) (E:Ad→Ag→Prop) (Q:Ad→Ag→Prop),Q (.bool c) s→Ao (Au prog w) A (Xr .Lt u v) Q E s
inductive LexV (A:Bv)(s:Ag):Ab Ad→Ab Ad→Aq→Prop
 |nn:LexV A s [] [] false
 |nc (v:Ad) (vs:Ab Ad):LexV A s [] (v::vs) true
 |cn (u:Ad) (us:Ab Ad):LexV A s (u::us) [] false
 |eq (u v:Ad) (us vs:Ab Ad) (b:Aq) (he:Zd A s u v true) (h:LexV A s us vs b):LexV A s (u::us) (v::vs) b
 |ne (u v:Ad) (us vs:Ab Ad) (b:Aq) (he:Zd A s u v false) (h:QU A s u v b):LexV A s (u::us) (v::vs) b
section
open PySem.SeqAt
open PySem.AutoSeq1 (wpAny_loadPart')
open PySem.MeetsSeq PySem.MeetsSeq2 PySem.MeetsSeq3
def XD (l b:Af)(items items2:Bj Ad)(n n2:Ai)(dd dd2:Am Af)(sl sl2:Bj (Am Ad))(r:Aq) :
  Meets (Gq.«tuple.__lt__» ⟨[.ref l,.ref b],[]⟩)
   (λA R s=>s.heap.get? l=Aa { cls:=.type "tuple",dict:=dd,data:=.seq items n,slots:=sl } ∧ s.heap.get? b=Aa { cls:=.type "tuple",dict:=dd2,data:=.seq items2 n2,slots:=sl2 } ∧
    LexV A.in1 s items.toList items2.toList r∧R (.ok (.ret (.bool r))) s):=
 .of_wp λprog w A R s h=>by
  obtain⟨hp,g,d,tk,os⟩:=s;obtain⟨hl,hb,hx,h⟩:=h;have f2:=Qs
  wp_walk using wpAny_loadPart' hl,wpAny_loadPart' hb,Kk _ (λrest b s'=>b.1=none∧s'=⟨hp,g,d,tk,os⟩∧∃ (us vs:Ab Ad),rest=us.zip vs∧LexV A.in1 ⟨hp,g,d,tk,os⟩ us vs r∧us.length+items2.size=vs.length+items.size) _
  case turn =>
   rintro⟨y,x⟩ rest b s' ⟨hb',rfl,us,vs,hz,hx',hlen⟩;cases hx' with
   |nn=>cases hz
   |nc v vs=>cases hz
   |cn u us=>cases hz
   |eq u v us vs _ he h' =>
    rw[Jh] at hz;injection hz with hyx hrest
    injection hyx with hy hx
    subst hy hx;refine Ac (he prog w _ _ ?_)
    wp_walk
    exact⟨rfl,rfl,_,_,hrest,h',by simp only[Ci] at hlen;omega⟩
   |ne u v us vs _ he h' =>
    rw[Jh] at hz;injection hz with hyx hrest
    injection hyx with hy hx
    subst hy hx;refine Ac (he prog w _ _ ?_);have hri:=h' prog w
    wp_walk using hri
    exact⟨_,rfl,by simpa using h⟩
  case fin =>
   rintro⟨b1,b2⟩ s' ⟨hb',rfl,us,vs,hz,hx',hlen⟩;simp only at hb';subst hb';have hv:r=decide (items.size<items2.size):=by
    cases hx' with
    |nn=>simp only[Fx] at hlen;exact(Bs om).symm
    |nc v vs=>simp only[Fx,Ci] at hlen;exact(Bi om).symm
    |cn u us=>simp only[Fx,Ci] at hlen;exact(Bs om).symm
    |eq u v us vs _ he h'=>cases hz
    |ne u v us vs _ he h'=>cases hz
   rw[hv] at h
   wp_walk
   exact⟨_,rfl,by simpa [Mp] using h⟩
  case h =>
   exact⟨rfl,rfl,items.toList,items2.toList,rfl,hx,by simp;omega⟩
end
def JZ {A:Bv}{s:Ag}{l b:Af}{items items2:Bj Ad}{r:Aq}(hl:s.heap.IsTuple l items)(hb:s.heap.IsTuple b items2)(hu:A.units<Du)(h:LexV A.in1 s items.toList items2.toList r):QU A s (.ref l) (.ref b) r:=by
 intro prog w E Q hQ;obtain⟨⟨cls,dd,data,sl⟩,ho,hc,n,hd⟩:=id hl;obtain⟨⟨cls2,dd2,data2,sl2⟩,ho2,hc2,n2,hd2⟩:=id hb;simp only at hc hd hc2 hd2;subst hc hd hc2 hd2;exact Sj (op:=.Lt) ⟨_,ho,rfl⟩ ⟨_,ho2,rfl⟩ Tn Sk (Rp _ _) (XD l b items items2 n n2 dd dd2 sl sl2 r)
  ⟨ho,ho2,h,show Es r≠Ni∧Q (.bool r) s from⟨(λx=>nomatch x),hQ⟩⟩ hu
inductive TrV (h:Bk):Ai→D→Ad→Prop
 |int (n:Ai) (i:Ak) (t:Pj):TrV h n (.int i) (.int i t)
 |tup (n:Ai) (a:Af) (xs:Ab D) (its:Ab Ad) (ht:h.IsTuple a its.toArray) (hl:xs.length=its.length) (hs:∀ (j:Ai) (x:D) (v:Ad),xs[j]? = Aa x→its[j]? = Aa v→TrV h n x v):TrV h (n+1) (.tup xs) (.ref a)
def TrV.tr {d:D}{v:Ad}(t:TrV h n d v):Tr n d:=by
 induction t with
 |int n i t=>exact .int n i
 |tup n a xs its ht hl hs ih =>
  refine .tup n xs λx hx=>?_;obtain⟨j,hj,e⟩:=Cu.mp hx;exact ih j x (its[j]' om) (by rw[An hj,e]) (An om)
def TrV.sup {h':Bk}(S:_S.Sup h h'){n:Ai}{d:D}{v:Ad}(t:TrV h n d v):TrV h' n d v:=by
 induction t with
 |int n i t=>exact .int n i t
 |tup n a xs its ht hl hs ih =>
  obtain⟨o,ho,r⟩:=ht;exact .tup n a xs its ⟨o,S _ _ ho,r⟩ hl ih
def TrV.det {d:D}{v:Ad}(t:TrV h n d v):∀ {m:Ai} {d':D},TrV h m d' v→d=d':=by
 induction t with
 |int n i t=>intro m d' t';cases t' with|int _ _ _=>rfl
 |tup n a xs its ht hl hs ih =>
  intro m d' t';cases t' with
  |tup m _ ys its2 ht2 hl2 hs2 =>
   have e:=dD ht ht2;have e':its=its2:=by simpa using congrArg Vz e
   subst e';have:xs=ys:=Na om λj h1 h2=>ih j _ (its[j]' om) (An h1) (An om) (hs2 j _ _ (An h2) (An om));rw[this]
def TrV.eq {s:Ag}{a:D}{u:Ad}(t:TrV s.heap n a u):∀ {m:Ai} {b:D} {v:Ad} {A:Bv},TrV s.heap m b v→jC a b=true→A.units+n<Du→Zd A s u v (eqD a b):=by
 induction t with
 |int n i t =>
  intro m b v A t' hc hu;cases t' with
  |int _ j t'=>exact wT i t j t'
  |tup _ _ _ _ _ _ _=>exact Df hc
 |tup n a xs its ht hl hs ih =>
  intro m b v A t' hc hu;cases t' with
  |int _ j t'=>exact Df hc
  |tup m b ys its2 ht2 hl2 hs2 =>
   refine(GV om ht ht2 hl hl2 (λj h1 h2=>?_) λe=>?_).eq
   ·have h1':j<its.length:=by simpa using h1
    have h2':j<its2.length:=by simpa using h2
    have e1:xs[j]? = Aa (xs.getD j .non):=by simp[Hk,show j<xs.length by omega]
    have e2:ys[j]? = Aa (ys.getD j .non):=by simp[Hk,show j<ys.length by omega]
    have f1:its[j]? = Aa its.toArray[j]:=by simp[h1']
    have f2:its2[j]? = Aa its2.toArray[j]:=by simp[h2']
    exact ih j _ _ e1 f1 (hs2 j _ _ e2 f2) (pS hc e1 e2) (by show A.units+1+n<Du;omega)
   ·subst e
    have:=TrV.det (.tup n a xs its ht hl hs) (.tup m a ys its2 ht2 hl2 hs2);injection this with this
    subst this;exact DD (TrV.tr (.tup n a xs its ht hl hs))
def oO {A:Bv}{s:Ag}:∀ {xs ys:Ab D} {us vs:Ab Ad} {n m:Ai},xs.length=us.length→ys.length=vs.length→(∀ x∈xs,Tr n x)→(∀ y∈ys,Tr m y)→gM xs ys=true →
  (∀ (j:Ai) (x y:D) (u v:Ad),xs[j]? = Aa x→ys[j]? = Aa y→us[j]? = Aa u→vs[j]? = Aa v→Zd A s u v (eqD x y)∧QU A s u v (ltN x y))→LexV A s us vs (_H.lexLt (zU xs) (zU ys))
 |[],[],[],[],_,_,_,_,_,_,_,_=>.nn
 |[],y::ys,[],v::vs,_,_,_,_,_,h2,_,_=>by
  obtain⟨k,t,e,p⟩:=kK (h2 y (by simp))
  have:_H.lexLt (zU []) (zU (y::ys))=true:=by
   rw[xZ,e];show _H.lexLt [0] (k::_)=_;rw[_H.lexLt_cons,Be om];exact Bi p
  rw[this];exact .nc v vs
 |x::xs,[],u::us,[],_,_,_,_,h1,_,_,_=>by
  obtain⟨k,t,e,p⟩:=kK (h1 x (by simp))
  have:_H.lexLt (zU (x::xs)) (zU []) = false:=by
   rw[xZ,e];show _H.lexLt (k::_) [0]=_;rw[_H.lexLt_cons,Be om];exact Bs om
  rw[this];exact .cn u us
 |x::xs,y::ys,u::us,v::vs,_,_,l1,l2,h1,h2,hc,h=>by
  have hc':(jC x y&&gM xs ys)=true:=hc;rw[Az] at hc';obtain⟨e1,e2⟩:=h 0 x y u v rfl rfl rfl rfl;rw[y0 (h1 x (by simp)) (h2 y (by simp)) hc'.1]
  cases hq:eqD x y with
  |true =>
   rw[hq] at e1;exact .eq u v us vs _ e1 (oO (by simpa using l1) (by simpa using l2) (λz hz=>h1 z (by simp[hz])) (λz hz=>h2 z (by simp[hz])) hc'.2 λj a b c d q1 q2 q3 q4=>h (j+1) a b c d (by simpa using q1) (by simpa using q2) (by simpa using q3) (by simpa using q4))
  |false =>
   rw[hq] at e1;exact .ne u v us vs _ e1 e2
 |[],_,_::_,_,_,_,l1,_,_,_,_,_=>by simp at l1
 |_::_,_,[],_,_,_,l1,_,_,_,_,_=>by simp at l1
 |_,[],_,_::_,_,_,_,l2,_,_,_,_=>by simp at l2
 |_,_::_,_,[],_,_,_,l2,_,_,_,_=>by simp at l2
def TrV.lt {s:Ag}{a:D}{u:Ad}(t:TrV s.heap n a u):∀ {m:Ai} {b:D} {v:Ad} {A:Bv},TrV s.heap m b v→jC a b=true→A.units+n<Du→QU A s u v (ltN a b):=by
 induction t with
 |int n i t =>
  intro m b v A t' hc hu;cases t' with
  |int _ j t' =>
   intro prog w E Q hQ;rw[dM] at hQ;exact(Ob hQ:Ao (Au prog w) A (Cc .Lt (.int i t) (.int j t')) Q E s)
  |tup _ _ _ _ _ _ _=>exact Df hc
 |tup n a xs its ht hl hs ih =>
  intro m b v A t' hc hu;cases t' with
  |int _ j t'=>exact Df hc
  |tup m b ys its2 ht2 hl2 hs2 =>
   have t1:=TrV.tr (.tup n a xs its ht hl hs);have t2:=TrV.tr (.tup m b ys its2 ht2 hl2 hs2);cases t1 with
   |tup _ _ t1 =>
    cases t2 with
    |tup _ _ t2 =>
     refine JZ ht ht2 om ?_;rw[mG];refine oO (by simpa using hl) (by simpa using hl2) t1 t2 hc λj x y u v e1 e2 e3 e4=>?_
     have hu':A.in1.units+n<Du:=by show A.units+1+n<Du;omega
     have e3':its[j]? = Aa u:=by simpa using e3
     have e4':its2[j]? = Aa v:=by simpa using e4
     exact⟨(hs j x u e1 e3').eq (hs2 j y v e2 e4') (pS hc e1 e2) hu',ih j x u e1 e3' (hs2 j y v e2 e4') (pS hc e1 e2) hu'⟩
section
variable {X:Cx}{pins:Ab (Af × Cr)}{σ : _L.St}{H P:Hp}{α : Ab Af}{S:Sto}{s:Ag}
def iB (I:Inv X pins σ H s)(r:Rel X.K H P α S):∀ (n:Ai) {d:D} {v:V} {u:Ad},trb n d=true→Rep X.K P α d v→qP v u→TrV s.heap n d u:=by
 intro n
 induction n with
 |zero =>
  intro d v u h p q;cases d with
  |int i=>simp only[Rep] at p;subst p;obtain⟨t,rfl⟩:=q;exact .int _ i t
  |_=>exact Df h
 |succ n ih =>
  intro d v u h p q;cases d with
  |int i=>simp only[Rep] at p;subst p;obtain⟨t,rfl⟩:=q;exact .int _ i t
  |tup xs =>
   obtain⟨a,vs,its,rfl,q1,t1,rv1,h1,l1,_⟩:=yJ I r p;cases (show u=Cg a from q)
   have la:=t1.length;have lb:=rv1.length;refine .tup n a xs its h1 om λj x w e1 e2=>?_;obtain⟨y,f1,f2⟩:=t1.get e1;obtain⟨z,g1,g2⟩:=rv1.get f1;cases g1.symm.trans e2;exact ih (Ar.mp (show xs.all (trb n)=true from h) x (Cn e1)) f2 g2
  |_=>exact Df h
end
end _D
namespace _D
open PySem PySem.Spec PyProof.Rows _L
def nE (d:D)(S:Sto):Am (Ab (Key × D)):=match d with
 |.loc n=>match S[n]? with
  |some (.dct kvs)=>Aa kvs
  |_=>none
 |_=>none
def f9:G2:=λa b S=>match nE a S,vB b with
 |some kvs,Aa k=>match xN kvs k with
  |some d=>.ok d S
  |none=>.bad
 |_,_=>.bad
section
variable {X:Cx}{pins:Ab (Af × Cr)}{σ : _L.St}{H P:Hp}{α : Ab Af}{S:Sto}{s:Ag}
set_option tactic.hygienic true in
def W8 (r:Rel X.K H P α S){d:D}{kvs:Ab (Key × D)}{v:V}(h:nE d S=Aa kvs)(p:Rep X.K P α d v):∃ a ws,v=.ref a∧H a=Aa (.dK ws)∧KVs X.K P α kvs ws:=by
 unfold nE at h
 split at h
 ·split at h
  ·rename_i hS
   cases h;simp only[Rep] at p;obtain⟨b,rfl,q⟩:=p;obtain⟨ws,z,t⟩:=r.at' _ b _ q hS;exact⟨b,ws,rfl,z,t⟩
  ·cases h
 ·cases h
set_option tactic.hygienic true in
def LK {o i:Bx}{fo fi:DE}{pos:Fa}(hu:X.A.units+1<Du)(ho:PE X o (tD X fo))(hi:PE X i (tD X fi))(hs:U5 i:=by intro _ _;rfl):PE X (.Subscript o i pos) (tD X (d2 f9 fo fi)):=by
 intro pins s σ H Q I h;obtain⟨P,α,env,S,r,re,af⟩:=h;refine N5 PySem.F.slot_dict_getitem.lookup hs (thn (zZ ho I r re af) λvv s1 ⟨v,H1,P1,α1,a,S1,G1,af1⟩=>?_);refine thn (zZ hi G1.inv G1.rel G1.env (P:=P1) (α:=α1) (Ok:=OkV X P1 α1 Q) (g:=λy S2=>f9 a y S2) (zH.base G1.same G1.pre af1)) λuu s2 ⟨u,H2,P2,α2,b,S2,G2,af2⟩=>?_;have pa:=Rep.mono G2.same G2.pre _ _ G1.rep;have pb:=G2.rep;have I2:=G2.inv;have r2:=G2.rel;have af3:=zH.base G2.same G2.pre af2;unfold f9 at af3
 split at af3
 ·rename_i kvs k hd hk
  split at af3
  ·rename_i d hv
   obtain⟨p,ws,rfl,z,t⟩:=W8 r2 hd pa;have ei:=nT hk pb;subst ei;cases (show vv=Cg p from G1.val)
   obtain⟨w,h1,h2⟩:=(mF t).1 d hv;have g:pQ H2 p (kV k) (Aa w):=.inl ⟨_,k,.inl z,rfl,h1.symm⟩;exact⟨iK I2 g,W6 hu I2 g G2.val λw' s3 I3 rw'=>⟨w,H2,I3,rw',xr af3 r2 h2⟩⟩
  ·exact Ap af3
 ·exact Ap af3
end
def btN (xs:Ab D)(i j:Ai):Aq:=ltN (xs.getD i .non) (xs.getD j .non)
def dO (xs:Ab D):D:=xs.getD (Iq (btN xs) (xs.length-1)) .non
def NV (xs:Ab D):∀ k,Iq (btN xs) k≤k∧∀ j,j≤k→btN xs j (Iq (btN xs) k)=false
 |0=>⟨Aw _,λj hj=>by
  have:j=0:=by omega
  subst this;exact _S.vS.irr _⟩
 |k+1=>by
  obtain⟨h1,h2⟩:=NV xs k;rw[Iq];cases h:btN xs (k+1) (Iq (btN xs) k) with
  |true =>
   rw[Bd rfl];refine⟨Aw _,λj hj=>?_⟩;cases q:btN xs j (k+1) with
   |false=>rfl
   |true =>
    by_cases hk:j=k+1
    ·subst hk;exact absurd (_S.vS.irr _) (by unfold btN ltN at q;rw[q];simp)
    ·exact absurd (show btN xs j (Iq (btN xs) k)=true from _S.vS.tr q h) (by rw[h2 j om];simp)
  |false =>
   rw[Be (by simp)]
   refine⟨by omega,λj hj=>?_⟩
   by_cases hk:j=k+1
   ·subst hk;exact h
   ·exact h2 j om
def YG {xs:Ab D}(h:0<xs.length):dO xs∈xs∧∀ y∈xs,ltN y (dO xs)=false:=by
 obtain⟨h1,h2⟩:=NV xs (xs.length-1);have hm:Iq (btN xs) (xs.length-1)<xs.length:=by omega
 refine⟨by unfold dO;rw[Ie,An hm];exact Ga _,λy hy=>?_⟩
 obtain⟨j,hj,e⟩:=Cu.mp hy;have:=h2 j om;unfold btN at this;rw[Ie,An hj] at this;rw[← e];exact this
def mOk (xs:Ab D):Aq:=xs.all λa=>trb 6 a&&xs.all λb=>jC a b
def lsD (d:D)(S:Sto):Am (Ab D):=match d with
 |.lst xs=>Aa xs
 |.loc n=>match S[n]? with
  |some (.lst xs)=>Aa xs
  |_=>none
 |_=>none
section
variable {prog:Bg}{w:By}{A:Bv}{R:Vh→Ag→Prop}{I:Af}{fp wr:Ab Af}{n:Ai}{P:Ai→Ad→Prop}{St:Ai→Bk→Prop}{bt:Ai→Ai→Aq}{S:Af}{h0:Bk}{kw:Ab (As × Ad)}
def U3 (prog:Bg)(w:By)(A:Bv)(h0:Bk)(op:Tj)(P:Ai→Ad→Prop)(bt:Ai→Ai→Aq):Prop:=
 ∀ i j vi vj (s:Ag) (Q:Ad→Ag→Prop) (E:Ad→Ag→Prop),_S.Sup h0 s.heap→P i vi→P j vj→Q (.bool (bt i j)) s→Ao (Au prog w) A (Xr op vi vj) Q E s
def eJ:(toString "min" ++ toString ".loop" : Ea) = "min.loop":=by decide
def K3 (W:Walks prog w A.in1 I fp wr n P St)(hcmp:U3 prog w A.in1 h0 .Lt P bt)(hf:S ∉ fp)(hS0:h0.get? S=none)(hw0:∀ b∈wr,h0.get? b=none) :
  ∀ (k j:Ai) (s:Ag) (u:Ad) (c:Ai),j+1+k=n→_S.Sup h0 s.heap→St (j+1) s.heap→P (Iq bt j) u→s.heap.get? S=Aa { cls:=.type "list",dict:=none,data:=.seq #[u,u] c,slots:=#[] } →
  (∀ v h' tk,P (Iq bt (n-1)) v→(∀ b o,b ∉ wr→b≠S→s.heap.get? b=Aa o→h'.get? b=Aa o)→R (.ok (.ret v)) { s with heap:=h',toks:=tk }) →
  Jk (Au prog w) A (.builtin "min.loop" ⟨[.ref I,.none,.ref S],kw⟩) R s:=by
 have hw:S ∉ wr:=λz=>hf (W.sub _ z);intro k
 induction k with
 |zero =>
  intro j s u c hk hs st hu hS hR;have hn:j+1=n:=by omega
  subst hn;refine Fj Jr ?_;rw[Fg Et _];refine Ac (Ey hS rfl ?_);refine Ac (Ly (W.done s _ _ st λh' tk q=>?_));refine Ac ?_;exact Lc (q S _ hw hS) rfl (Ac (Jv (Aj (hR u _ tk hu λb o z1 z2 e=>(Bz _ _ (Em z2)).trans (q b o z1 e)))))
 |succ k ih =>
  intro j s u c hk hs st hu hS hR;refine Fj Jr ?_;rw[Fg Et _];refine Ac (Ey hS rfl ?_);refine Ac (Ly (W.item (j+1) s _ _ om st λv h' tk hv st' q=>?_));have hS':=q S _ hw hS;have hs':_S.Sup h0 h':=λb o e=>q b o (λz=>by rw[hw0 b z] at e;cases e) (hs b o e)
  refine Ac (Aj ?_);refine Ac (Ly (Dp (Ac (hcmp (j+1) (Iq bt j) v u _ _ _ hs' hv hu ?_))));refine Ac (Dp (Pu ?_));refine Ac (Jv (Aj ?_));cases hb:bt (j+1) (Iq bt j) with
  |true =>
   rw[Bd rfl];refine Ac ?_;refine Lc hS' rfl (Ac (Jv ?_));rw[eJ];refine Aj ⟨Hs Et _,ih (j+1) _ v _ om (λb o e=>(Bz _ _ λy:S=b=>by rw[← y,hS0] at e;cases e).trans (hs' b o e)) (W.frame _ _ _ st' λb z o e=>(Bz _ _ λy:S=b=>hf (y▸z)).trans e) ?_ (Ei _ hS' rfl) λv' h2 tk2 p2 q2=>hR v' h2 tk2 p2 λb o z1 z2 e=>q2 b o z1 z2 ((Bz _ _ (Em z2)).trans (q b o z1 e))⟩
   rw[Iq,Bd hb];exact hv
  |false =>
   rw[Be (by simp)]
   refine Ac (Jv ?_);rw[eJ];refine Aj ⟨Hs Et _,ih (j+1) _ u c om hs' st' ?_ hS' λv' h2 tk2 p2 q2=>hR v' h2 tk2 p2 λb o z1 z2 e=>q2 b o z1 z2 (q b o z1 e)⟩;rw[Iq,Be (by rw[hb];simp)]
   exact hu
def YI (W:Walks prog w A.in1 I fp wr n P St)(hcmp:U3 prog w A.in1 h0 .Lt P bt)(hf:S ∉ fp)(hS0:h0.get? S=none)(hw0:∀ b∈wr,h0.get? b=none){s:Ag}{c:Ai}(hs:_S.Sup h0 s.heap)(st:St 0 s.heap)(hn:0<n)(hS:s.heap.get? S=Aa { cls:=.type "list",dict:=none,data:=.seq #[] c,slots:=#[] })
  (hR:∀ v h' tk,P (Iq bt (n-1)) v→(∀ b o,b ∉ wr→b≠S→s.heap.get? b=Aa o→h'.get? b=Aa o)→R (.ok (.ret v)) { s with heap:=h',toks:=tk }) :
  Jk (Au prog w) A (.builtin "min.loop" ⟨[.ref I,.none,.ref S],kw⟩) R s:=by
 have hw:S ∉ wr:=λz=>hf (W.sub _ z);refine Fj Jr ?_;rw[Fg Et _];refine Ac (Ey hS rfl ?_);refine Ac (Ly (W.item 0 s _ _ hn st λv h' tk hv st' q=>?_));have hS':=q S _ hw hS;have hs':_S.Sup h0 h':=λb o e=>q b o (λz=>by rw[hw0 b z] at e;cases e) (hs b o e)
 refine Ac (Aj ?_);refine Ac ?_;refine Lc hS' rfl ?_;rw[eJ];refine Aj ⟨Hs Et _,K3 W hcmp hf hS0 hw0 (n-1) 0 _ v _ om (λb o e=>(Bz _ _ λy:S=b=>by rw[← y,hS0] at e;cases e).trans (hs' b o e)) (W.frame _ _ _ st' λb z o e=>(Bz _ _ λy:S=b=>hf (y▸z)).trans e) hv (Ei _ hS' rfl) λv' h2 tk2 p2 q2=>hR v' h2 tk2 p2 λb o z1 z2 e=>q2 b o z1 z2 ((Bz _ _ (Em z2)).trans (q b o z1 e))⟩
end
section
variable {X:Cx}{pins:Ab (Af × Cr)}{σ : _L.St}{H P:Hp}{α : Ab Af}{S:Sto}{s:Ag}
set_option tactic.hygienic true in
def CV (I:Inv X pins σ H s)(r:Rel X.K H P α S){d:D}{xs:Ab D}{v:V}(h:lsD d S=Aa xs)(p:Rep X.K P α d v):∃ a vs its,v=.ref a∧qI X.K P α xs vs∧qT vs its∧s.heap.IsList a its.toArray∧xs.length=its.length:=by
 unfold lsD at h
 split at h
 ·cases h
  obtain⟨a,ws,its,n,rfl,_,t,rvi,e,l,_⟩:=vV I r p;exact⟨a,ws,its,rfl,t,rvi,⟨_,e,rfl,n,rfl⟩,l⟩
 ·split at h
  ·rename_i hS
   cases h;simp only[Rep] at p;obtain⟨b,rfl,q⟩:=p;obtain⟨ws,z,t⟩:=r.at' _ b _ q hS;obtain⟨its,rvi,pl,_⟩:=I.list (.inl (.inl z));exact⟨b,ws,its,rfl,t,rvi,pl.isList,by rw[t.length,rvi.length]⟩
  ·cases h
 ·cases h
def YC {xs:Ab D}(h:mOk xs=true){x:D}(hx:x∈xs):trb 6 x=true∧∀ y∈xs,jC x y=true:=by
 have:=Ar.mp h x hx;simp only[Az] at this;exact⟨this.1,λy hy=>Ar.mp this.2 y hy⟩
end
section
variable {prog:Bg}{w:By}{A:Bv}{E:Ad→Ag→Prop}{s:Ag}{l:Af}{its:Bj Ad}{d:Ad}
def K4 (a v:Ad):Tp "min" ⟨[a],[(Fb "default",v)]⟩:=by unfold Tp;kernel_rfl
def K2 {bt:Ai→Ai→Aq}{Q:Ad→Ag→Prop}(hh:A.handled=none)(hl:s.heap.IsList l its)(hcmp:U3 prog w A.in1 s.heap .Lt (λi v=>its[i]? = Aa v) bt)
  (h:∀ v h' tk,(its.size=0∧v=d∨0<its.size∧its[Iq bt (its.size-1)]? = Aa v)→(∀ b o,s.heap.get? b=Aa o→h'.get? b=Aa o)→Q v { s with heap:=h',toks:=tk }) : Ao (Au prog w) A (call (.builtin "min") [.ref l] [(Fb "default",d)]) Q E s:=by
 have hlt:l<s.heap.objs.size:=by obtain⟨_,e,_⟩:=hl;exact AT e
 have none_at:∀ b,s.heap.objs.size≤b→s.heap.get? b=none:=λb hb=>by
  cases q:s.heap.get? b with
  |none=>rfl
  |some o=>exact absurd (AT q) (Ja.mpr hb)
 refine kmk_tree PySem.F.kind_min PySem.F.plain_min PySem.F.entry_min (K4 _ _) ?_;refine Ac (Ms (show Zm "min" ["key","default"] 0 ⟨[],[(Fb "default",d)]⟩=pure [none,Aa d] from rfl) ?_)
 refine Ac (Aj ?_);refine Ac (Fs hl ?_);refine Ac (Cy ?_);have W:=Ze (prog:=prog) (w:=w) (A:=A.in1) hh s.heap.objs.size l (Co hlt) its;rw[eJ];have sz:(s.heap.push { cls:=.type "list_iterator",data:=.fields #[.ref l,.int 0 0] }).objs.size=s.heap.objs.size+1:=Dr ..;have st:=W.frame _ _ _ (show (s.heap.push { cls:=.type "list_iterator",data:=.fields #[.ref l,.int 0 0] }).IsListIter s.heap.objs.size l 0∧(s.heap.push { cls:=.type "list_iterator",data:=.fields #[.ref l,.int 0 0] }).IsList l its from⟨⟨_,Ba _ rfl,rfl,rfl⟩,hl.push _⟩) λb _ o e=>Ah { cls:=.type "list",data:=.seq ([] : Ab Ad).toArray } e
 have back:∀ {v:Ad} {h':Bk} {tk:Ai},(its.size=0∧v=d∨0<its.size∧its[Iq bt (its.size-1)]? = Aa v)→(∀ b o,b ∉ [s.heap.objs.size]→b≠(s.heap.push { cls:=.type "list_iterator",data:=.fields #[.ref l,.int 0 0] }).objs.size→((s.heap.push { cls:=.type "list_iterator",data:=.fields #[.ref l,.int 0 0] }).push { cls:=.type "list",data:=.seq ([] : Ab Ad).toArray }).get? b=Aa o→h'.get? b=Aa o)→Q v { s with heap:=h',toks:=tk }:=λ{v h' tk} hv q=>by
  refine h v h' tk hv λb o e=>q b o (λhm=>?_) (λhm=>?_) (Ah _ (Ah _ e))
  ·simp only[Av,Cj,Ez] at hm
   subst hm;exact absurd (AT e) (Ef _)
  ·subst hm
   exact absurd (AT e) (by rw[sz];exact Ja.mpr (Mz _))
 by_cases hn:its.size=0
 ·refine Aj ⟨Hs Et _,Fj Jr ?_⟩
  rw[Fg Et _];refine Ac (Ey (Ba _ rfl) rfl ?_);refine Ac (Ly (W.done _ _ _ (by rw[hn];exact st) λh' tk q=>?_))
  exact Ac (Ju (Aj (back (.inl ⟨hn,rfl⟩) λb o z1 _ e=>q b o z1 e)))
 ·refine Aj ⟨Hs Et _,YI (h0:=s.heap) W hcmp ?_ (none_at _ (by rw[sz];exact Mz _)) (λb hb=>?_) (λb o e=>Ah _ (Ah _ e)) st (Vv hn) (Ba _ rfl) λv h' tk hv q=>back (.inr ⟨Vv hn,hv⟩) q⟩
  ·rw[sz]
   simp only[Av,Cj,Ez,Rj];exact⟨Nat.succ_ne_self _,Em (Co (Mf hlt))⟩
  ·simp only[Av,Cj,Ez] at hb
   subst hb;exact none_at _ (Aw _)
end
def mnD (ds:Ab D)(b:D)(S:Sto):Res D:=match ds with
 |[d]=>match lsD d S with
  |some [] => .ok b S
  |some (x::xs)=>if mOk (x::xs)=true then .ok (dO (x::xs)) S else .bad
  |none=>.bad
 |_=>.bad
def nB (fA:DA)(fD:DE):DE:=λenv S=>(fA env S).bind λds S1=>(fD env S1).bind λb S2=>mnD ds b S2
section
variable {X:Cx}{e e2:Bx}{fA:DA}{fD:DE}{p pos kp:Fa}{cm:Aq}{k:Ai}
def BY (hc:X.calm=true)(hu:X.A.units+64<Du)(hg:Gl X "min")(hm:X.mg "min" = none)(ha:PA X [e] (tDA X fA))(hd:PE X e2 (tD X fD))(he:Bh [e] X.env=(false,eval e X.env)::Bh [] X.env:=by rfl):PE X (.Call (.Name "min" p) [e] [⟨Aa "default",e2,kp⟩] pos) (tD X (nB fA fD)):=by
 intro pins s σ H Q I h;obtain⟨P,α,env,S,r,re,af⟩:=h;refine Hx (uX I hg hm (u:=.builtin "min") (by decide +kernel) ?_ (by decide) (by decide))
 refine callWith_kw (thn (v8 ha I r re af pos) λus s1 ⟨vs,H1,P1,α1,ds,S1,I1,rv,r1,re1,rp,e1,e2',af1⟩=>kws_cons (thn (zZ hd I1 r1 re1 (zH.base e1 e2' af1)) λu s2 ⟨v,H2,P2,α2,b,S2,G,af2⟩=>kws_nil ?_)) (by rw[he];rfl) (by rw[he];rfl)
 show Ao _ _ (call (.builtin "min") us [(Fb "default",u)]) _ _ s2
 match ds,af2,rp with
 |[],af2,_=>exact Ap af2
 |_::_::_,af2,_=>exact Ap af2
 |[dd],af2,rp =>
  simp only[mnD] at af2;cases hls:lsD dd S2 with
  |none=>rw[hls] at af2;exact Ap af2
  |some xs =>
   rw[hls] at af2;have I:=G.inv;have r:=G.rel;obtain⟨v',u',rfl,rfl,p',q⟩:=vP rp rv;obtain⟨a,ws,its,rfl,t,rvi,hl,ll⟩:=CV I r hls (Rep.mono G.same G.pre _ _ p');cases (show u'=Cg a from q)
   have okk:xs=[]∨mOk xs=true:=by
    cases xs with
    |nil=>exact .inl rfl
    |cons x xs=>exact .inr (vU (X:=X) af2).1
   have at':∀ (i:Ai) (u:Ad),its.toArray[i]? = Aa u→∃ vv,TrV s2.heap 6 (xs.getD i .non) u∧qP vv u∧Rep X.K P2 α2 (xs.getD i .non) vv∧xs.getD i .non∈xs∧mOk xs=true:=λi u hi=>by
    have hi':its[i]? = Aa u:=by simpa using hi
    have hii:i<its.length:=(Bb.mp hi').1;have ok:mOk xs=true:=by
     rcases okk with rfl|ok
     ·simp at ll;omega
     ·exact ok
    have hx:xs[i]? = Aa (xs[i]' om):=An om;obtain⟨y,f1,f2⟩:=t.get hx;obtain⟨z,g1,g2⟩:=rvi.get f1;cases g1.symm.trans hi';have e:xs.getD i .non=xs[i]' om:=by rw[Ie,hx];rfl
    rw[e];exact⟨y,iB I r 6 (YC ok (Ga _)).1 f2 g2,g2,f2,Ga _,ok⟩
   have hz:its.toArray.size=xs.length:=by simp only[Ax];rw[ll]
   refine K2 (bt:=btN xs) (I.ok.hd hc) hl (λi j vi vj s' Q' E' hs hi hj hQ=>?_) λv3 h' tk hv hk=>?_
   ·obtain⟨_,t1,_,_,m1,ok⟩:=at' i vi hi
    obtain⟨_,t2,_,_,m2,_⟩:=at' j vj hj;exact(t1.sup hs).lt (t2.sup hs) ((YC ok m1).2 _ m2) (by show X.A.units+1+6<Du;omega) _ _ _ _ hQ
   ·rcases hv with⟨h0,rfl⟩|⟨_,hv⟩
    ·have:xs=[]:=Hq.mp om
     subst this;exact⟨v,H2,I.kept (t':=tk) hk,G.val,af2 v H2 P2 α2 r G.same G.pre G.rep⟩
    ·obtain⟨vv,_,rv',rp',m,_⟩:=at' _ v3 hv
     rw[hz] at rp';cases xs with
     |nil=>cases m
     |cons x xs =>
      have af3:=(vU (X:=X) af2).2;exact⟨vv,H2,I.kept (t':=tk) hk,rv',af3 vv H2 P2 α2 r G.same G.pre rp'⟩
def T4 (hc:X.calm=true)(hr:RoomC cm k X.A)(hg:Gl X "min")(hm:X.mg "min" = none)(ha:QA X [e] fA)(hd:QE X e2 fD)(he:Bh [e] X.env=(false,eval e X.env)::Bh [] X.env:=by rfl):QE X (.Call (.Name "min" p) [e] [⟨Aa "default",e2,kp⟩] pos) (nB fA fD):=⟨BY hc hr.units hg hm ha.1 hd.1 he⟩
end
def kA:G2:=λa b S=>if (trb 8 a&&trb 8 b&&jC a b)=true then .ok (.bl (ltN a b)) S else .bad
def tI:G2:=λa b S=>match nE b S,vB a with
 |some kvs,Aa k=>.ok (.bl (xN kvs k).isSome) S
 |_,_=>.bad
def uV:G2:=λa b S=>match a,b with
 |.tup xs,.int k=>if 2≤k∧k<2 ^ 62∧xs≠[]∧xs.length*k.toNat≤lim then .ok (.tup (Cd k.toNat xs).flatten) S else .bad
 |_,_=>pV a b S
section
variable {X:Cx}
def R8 (hu:X.A.units+8<Du):OpD X (Cc .Lt) kA:=by
 intro pins σ H s P α S v u vv uu a b Q I r rv ru pa pb af;obtain⟨hk,af⟩:=vU (X:=X) af;rw[Az,Az] at hk;have t1:=iB I r 8 hk.1.1 pa rv;have t2:=iB I r 8 hk.1.2 pb ru;exact(t1.lt (A:=X.A) t2 hk.2 hu X.prog X.w _ _ ⟨.bl _,H,I,rfl,xr af r (by simp only[Rep])⟩)
set_option tactic.hygienic true in
def R7 (hu:X.A.units+1<Du):OpD X (Cc .In) tI:=by
 intro pins σ H s P α S v u vv uu a b Q I r rv ru pa pb af;unfold tI at af
 split at af
 ·rename_i kvs k hd hk
  obtain⟨p,ws,rfl,z,t⟩:=W8 r hd pb;have ei:=nT hk pa;subst ei;cases (show uu=Cg p from ru)
  obtain⟨k1,k2⟩:=mF (k:=k) t;have g:pQ H p (kV k) (vT ws k):=.inl ⟨_,k,.inl z,rfl,rfl⟩;refine OJ hu I g rv λs' I'=>⟨.bl _,H,I',rfl,?_⟩;cases hv:xN kvs k with
  |none=>rw[hv] at af;rw[k2 hv];exact xr af r (by simp only[Rep];rfl)
  |some d =>
   obtain⟨w',e1,e2⟩:=k1 d hv;rw[hv] at af;rw[e1];exact xr af r (by simp only[Rep];rfl)
 ·exact Ap af
end
section
open PySem.AutoSeq1 (wpAny_loadPart')
def tQ:fillsNumberSlot (.type "tuple") "mul" = pure false:=
 PySem.fillsNumberSlot_seq (id:="tuple.__mul__") (r:=Aa (.builtin "tuple.__rmul__")) Rm.lookup (by decide +kernel) Xk.lookup (by decide +kernel)
def aZ:seqRepeat? (.type "tuple")=pure (Aa (.builtin "tuple.__mul__")):=by
 unfold seqRepeat?;rw[Yi (T:="tuple") (name:="__mul__") (id:="tuple.__mul__") Rm.lookup (by decide +kernel),Yi (T:="tuple") (name:="__rmul__") (id:="tuple.__rmul__") Xk.lookup (by decide +kernel)]
 rfl
def X2 (a:Ak)(t:Pj)(l:Af)(items:Bj Ad)(n:Ai)(dd:Am Af)(sl:Bj (Am Ad)) :
  Meets (Gq.«int.__rmul__» ⟨[.int a t,.ref l],[]⟩) (λ_ R s=>s.heap.get? l=Aa { cls:=.type "tuple",dict:=dd,data:=.seq items n,slots:=sl } ∧ R (.ok (.ret Ni)) s):=
 .of_wp λprog w A R s h=>by obtain⟨hp,g,d,tk,os⟩:=s;obtain⟨hl,h⟩:=h;wp_walk;exact⟨_,rfl,h⟩
def VR (l:Af)(items:Bj Ad)(n:Ai)(dd:Am Af)(sl:Bj (Am Ad))(x:Ak)(u:Pj)(h2:2≤x)(h3:x<2 ^ 62)(h0:¬ items.isEmpty=true)(hsz:items.size*x.toNat≤sizeLine) :
  Meets (Gq.«tuple.__mul__» ⟨[.ref l,.int x u],[]⟩) (λ_ R s=>s.heap.get? l=Aa { cls:=.type "tuple",dict:=dd,data:=.seq items n,slots:=sl } ∧ R (.ok (.ret (Cg s.heap.objs.size))) { s with heap:=s.heap.push { cls:=Gu "tuple",data:=Data.seq (Oc (λx1 x2=>x1++x2) #[] (Cd x.toNat items)) },toks:=s.toks }):=
 .of_wp λprog w A R s h=>by
  obtain⟨hp,g,d,tk,os⟩:=s;obtain⟨hl,h⟩:=h;have f1:=AutoSeq1.idx_int;have c1:¬ (decide (x < -(2 ^ 63))||decide (x≥2 ^ 63))=true:=by simp;omega
  have c2:¬ (items.isEmpty||x == 1)=true:=by simp at h0 ⊢;exact⟨h0,by omega⟩
  have c3:¬ (decide (x≤0)||items.isEmpty)=true:=by simp at h0 ⊢;exact⟨by omega,h0⟩
  wp_walk using wpAny_loadPart' hl
  rw[Be c1]
  wp_walk using wpAny_loadPart' hl
  rw[Be c2];show Ao _ _ (if (decide (x≤0)||items.isEmpty)=true then _ else _) _ _ _
  rw[Be c3];have e:(items.size:Ak)*x=((items.size*x.toNat:Ai):Ak):=by rw[Int.natCast_mul,Int.toNat_of_nonneg om]
  have c4:¬ ((items.size:Ak)*x>(2 ^ 63-1)/8):=by
   have:(sizeLine:Ai)≤(2 ^ 63-1)/8:=by decide
   rw[e];omega
  show Ao _ _ (if (items.size:Ak)*x>(2 ^ 63-1)/8 then _ else _) _ _ _
  rw[Be c4];have c5:¬ Km ((items.size:Ak)*x)=true:=by
   unfold Km;rw[e,Bs om];exact Fy
  show Ao _ _ (if Km ((items.size:Ak)*x)=true then _ else _) _ _ _
  rw[Be c5];have hz2:¬ (Oc (λx1 x2=>x1++x2) #[] (Cd x.toNat items)).size>sizeLine:=by
   obtain⟨its⟩:=items;have:=gQ its x.toNat [];rw[Ik] at this;rw[this,Ax,dG,Wi];exact Ja.mpr hsz
  wp_walk
  exact⟨_,rfl,h⟩
end
section
variable {X:Cx}
set_option tactic.hygienic true in
def MD:OpD X (Eh .Mult) uV:=by
 intro pins σ H s P α S v u vv uu a b Q I r rv ru pa pb af;unfold uV at af
 split at af
 ·rename_i xs k
  obtain⟨hk,af⟩:=vU (X:=X) af;obtain⟨h1,h2,h3,hz⟩:=hk;obtain⟨l,vs,its,rfl,q1,t1,rv1,ht,l1,_⟩:=yJ I r pa;cases (show vv=Cg l from rv)
  have:=wL pb;subst this;obtain⟨t,rfl⟩:=ru;obtain⟨⟨cls,dd,data,sl⟩,ho,hc,n,hd⟩:=id ht;simp only at hc hd;subst hc hd;have hlen:its.toArray.size*k.toNat≤sizeLine:=by rw[Ax,← l1,← xJ];exact hz
  have he:¬ its.toArray.isEmpty=true:=by
   intro z;have:its=[]:=by simpa using z
   rw[this] at l1;exact h3 (Hq.mp l1)
  have hnew:Oc (λx1 x2=>x1++x2) #[] (Cd k.toNat its.toArray)=(Cd k.toNat its).flatten.toArray:=by
   have:=gQ its k.toNat [];rw[Ik] at this;exact this
  refine Qk (T:="tuple") (U:="int") (by decide) ⟨_,ho,rfl⟩ (λs'=>Rg s' k t) tQ Yr Nr aZ Yb.lookup
   (Ks Nr (Rg s k t) Yc (Xb _ _) (X2 k t l its.toArray n dd sl)
    ⟨ho,rfl,⟨_,ho,rfl⟩,Ks Rm ⟨_,ho,rfl⟩ F.entry_tuple_mul (F.args_tuple_mul_2 _ _) (VR l its.toArray n dd sl k t h1 h2 he hlen) ⟨ho,?_⟩⟩)
  rw[hnew];exact b5 I r (tS t1 k.toNat) (rv1.rep k.toNat) (by rw[dG,Wi];exact hz) af
 ·exact oX pins σ H s P α S v u vv uu a b Q I r rv ru pa pb af
end
end _D
section
namespace _H
open PySem PyProof.Rows
def stpLo (lo:Ak)(n:Ai)(k:Ak):Ak:=(En (Aa lo) none k (n:Ak)).1
def IE (lo:Ak)(n:Ai)(k:Ak):Ak:=(En (Aa lo) none k (n:Ak)).2
def stpN (lo:Ak)(n:Ai)(k:Ak):Ai:=Fi (stpLo lo n k) (IE lo n k) k
def stpL {α:Type}(lo:Ak)(xs:Ab α)(k:Ak):Ab α:=(Cz (stpN lo xs.length k)).filterMap λ(m:Ai)=>xs[(stpLo lo xs.length k+(m:Ak)*k).toNat]?
section
variable {prog:Bg}{w:By}{A:Bv}{E:Ad→Ag→Prop}{s:Ag}
def tV {sl:Af}{k lo:Ak}{t tl:Pj}{n:Ai}{Q:Ak × Ak × Ai→Ag→Prop}(hs:s.heap.IsSliceOf sl (.int lo tl) .none (.int k t))(hk:k≠0)
  (h:Q (stpLo lo n k,k,stpN lo n k) s):Ao (Au prog w) A (Fz (.ref sl) (pure (n:Ak))) Q E s:=by
 obtain⟨os,hos,hcs,hds⟩:=id hs;unfold Fz Kq;refine Ac (Ac (Dg hos hds (x:=.int lo tl) rfl (Ac (Dg hos hds (x:=.none) rfl (Ac (Dg hos hds (x:=.int k t) rfl (Aj ?_)))))));refine Ac (Px ?_);show Ao _ _ (if (k == 0)=true then _ else _) _ _ s
 rw[Be (by simpa using hk)]
 refine Ac (Px (Ac (Lv (Ac (Aj ?_)))));exact Aj h
def stpL_length {α:Type}(lo:Ak)(xs:Ab α)(k:Ak):(stpL lo xs k).length≤stpN lo xs.length k:=by
 unfold stpL;exact Dc (Rb _ _) (by rw[Fc];exact Aw _)
def getItem_tuple_stp {t sl:Af}{items:Bj Ad}{k lo:Ak}{u tl:Pj}{Q:Ad→Ag→Prop}(ht:Ml s.heap t items)(hs:s.heap.IsSliceOf sl (.int lo tl) .none (.int k u))(h0:k≠0)(h1:k≠1)
  (h:Q (.ref s.heap.objs.size) { s with heap:=s.heap.push { cls:=.type "tuple",data:=.seq (stpL lo items.toList k).toArray } })
  (hsz:stpN lo items.size k≤sizeLine):Ao (Au prog w) A (IN (.ref t) (.ref sl)) Q E s:=by
 have htake:sizeOk (.seq (stpL lo items.toList k).toArray):=by
  show (stpL lo items.toList k).toArray.size≤sizeLine;rw[Ax];exact Dc (stpL_length _ _ _) (by simpa using hsz)
 obtain⟨os,hos,hcs,hds⟩:=id hs;have hTs:s.TypeIs (.ref sl) "slice":=⟨os,hos,hcs⟩;unfold IN
 try with_reducible refine Dp ?_
 first|refine Ac (Aj ?_)|skip
 refine Ac (Lz ht.typeIs (by decide) ?_)
 refine Ac (Dq (name:=Fb "__getitem__") ht.typeIs Cs
  (Dx Cs ht.typeIs Kr ?_ (Lh _ _)))
 show Ao _ _ (HT (.ref t) >>= _) _ _ s;refine Ac (Py ht ?_);refine Ac (Je hTs ?_);rw[Bd (by decide)]
 refine Ac (tV hs h0 ?_);have hno:¬ ((stpLo lo items.size k == 0&&k == 1&&stpN lo items.size k == items.size)=true):=by
  intro q;rw[Az,Az] at q;exact h1 (eq_of_beq q.1.2)
 show Ao _ _ (if (stpLo lo items.size k == 0&&k == 1&&stpN lo items.size k == items.size)=true then _ else _) _ _ s
 rw[Be hno];have e:((Cz (stpN lo items.size k)).filterMap λ(m:Ai)=>items[(stpLo lo items.size k+(m:Ak)*k).toNat]?)=stpL lo items.toList k:=by
  unfold stpL;simp
 rw[e]
 first
  |exact Ac (m:=Di _) (Cy (Aj ⟨_,rfl,Aj h⟩) htake)
  |exact Ac (m:=Di _) (Cy (Ac (Aj (Aj ⟨_,rfl,Aj h⟩))) htake)
  |exact Ac (Ac (m:=Di _) (Cy (Aj (Aj ⟨_,rfl,Aj h⟩)) htake))
  |exact Ac (Ac (m:=Di _) (Cy (Aj ⟨_,rfl,Aj h⟩) htake))
end
end _H
namespace _D
open PySem PySem.Spec PyProof.Rows _L
def JI:D→D→D→Sto→Res D:=λd i k S=>match d,i,k with
 |.tup xs,.int lo,.int k=>if k≠0∧k≠1∧_H.stpN lo xs.length k≤lim then .ok (.tup (_H.stpL lo xs k)) S else .bad
 |_,_,_=>.bad
def ZD (fe fi fk:DE):DE:=λenv S=>(fe env S).bind λd S1=>(fi env S1).bind λi S2=>(fk env S2).bind λk S3=>JI d i k S3
section
variable {X:Cx}{e ei ek:Bx}{fe fi fk:DE}{p2 pos:Fa}
set_option tactic.hygienic true in
def LQ (he:PE X e (tD X fe))(hi:PE X ei (tD X fi))(hk:PE X ek (tD X fk)):PE X (.Subscript e (.Slice (Aa ei) none (Aa ek) p2) pos) (tD X (ZD fe fi fk)):=by
 intro pins s σ H Q I h;obtain⟨P,α,env,S,r,re,af⟩:=h;have af':qQ X P α ((fe env S).bind λd S1=>(fi env S1).bind λi S2=>(fk env S2).bind λk S3=>JI d i k S3) (OkV X P α Q):=af;refine Rf (thn (zZ he I r re af') λv s1 ⟨x,H1,P1,α1,d,S1,G1,af1⟩=>?_);refine Xs ?_;rw[Qb];refine thn (zZ hi G1.inv G1.rel G1.env (zH.base G1.same G1.pre af1)) λvi si ⟨xi,Hi,Pi,αi,i,Si,Gi,afi⟩=>?_;rw[Pz];refine Aj ?_;rw[Qb];refine thn (zZ hk Gi.inv Gi.rel Gi.env (zH.base Gi.same Gi.pre afi)) λvk s2 ⟨y,H2,P2,α2,k,S2,G2,af2⟩=>?_;have af2:=zH.base G2.same G2.pre af2;cases d with
 |tup xs =>
  cases i with
  |int lo =>
   cases k with
   |int k =>
    simp only[JI] at af2
    split at af2
    ·rename_i hk'
     have rp:=Rep.mono G2.same G2.pre _ _ (Rep.mono Gi.same Gi.pre _ _ G1.rep);obtain⟨a,vs,its,rfl,q,t,rvs,ht,hl,_⟩:=yJ G2.inv G2.rel rp;cases (show v=Cg a from G1.val)
     have gi:=Gi.rep;simp only[Rep] at gi;subst gi;obtain⟨tl,rfl⟩:=Gi.val;have gr:=G2.rep;simp only[Rep] at gr;subst gr;obtain⟨tk,rfl⟩:=G2.val;have I4:Inv X pins σ H2 { s2 with heap:=s2.heap.push { cls:=.type "slice",data:=.fields #[.int lo tl,.none,.int k tk] } }:=G2.inv.kept (t':=s2.toks) λb ob q=>Ah _ q
     have ht':Ml (s2.heap.push { cls:=.type "slice",data:=.fields #[.int lo tl,.none,.int k tk] }) a its.toArray:=ht.keeps λb ob q=>Ah _ q;refine tail_any (ops:=[.ref a,.ref s2.heap.objs.size]) (s:={ s2 with heap:=s2.heap.push { cls:=.type "slice",data:=.fields #[.int lo tl,.none,.int k tk] } }) ht'.typeIs Cs.lookup ?_ (by with_unfolding_all rfl)
     refine _H.getItem_tuple_stp (s:={ s2 with heap:=s2.heap.push { cls:=.type "slice",data:=.fields #[.int lo tl,.none,.int k tk] } }) ht' (Pc ..) hk'.1 hk'.2.1 ?_ ?_
     ·have lv:vs.length=its.length:=rvs.length
      have ld:xs.length=vs.length:=t.length;have t':qI X.K P2 α2 (_H.stpL lo xs k) (_H.stpL lo vs k):=by
       unfold _H.stpL;rw[ld];exact rJ t _ λm=>(_H.stpLo lo vs.length k+(m:Ak)*k).toNat
      have rv':qT (_H.stpL lo vs k) (_H.stpL lo its k):=by
       unfold _H.stpL;rw[lv];exact rV rvs _ λm=>(_H.stpLo lo its.length k+(m:Ak)*k).toNat
      exact b5 I4 G2.rel t' rv' (Dc (_H.stpL_length _ _ _) hk'.2.2) af2
     ·rw[Ax,← hl,← xJ];exact hk'.2.2
    ·exact Ap af2
   |_=>exact Ap af2
  |_=>exact Ap af2
 |_=>exact Ap af2
end
end _D
end
namespace _D
open PySem PySem.Spec PyProof.Rows _L
section
variable {X:Cx}{cm:Aq}{k:Ai}{o i:Bx}{fo fi:DE}{pos:Fa}
def E8 (hr:RoomC cm k X.A)(ho:QE X o fo)(hi:QE X i fi)(hs:U5 i:=by intro _ _;rfl):QE X (.Subscript o i pos) (d2 f9 fo fi):=⟨LK (hu1 hr) ho.1 hi.1 hs⟩
end
section
variable {X:Cx}{cm:Aq}{k:Ai}{e ei ek:Bx}{fe fi fk:DE}{p2 pos:Fa}
def IT (hr:RoomC cm k X.A):ZOp X (Cc .Lt) kA:=⟨R8 (by have:=hr.units;omega)⟩
def IR (hr:RoomC cm k X.A):ZOp X (Cc .In) tI:=⟨R7 (hu1 hr)⟩
def HM:ZOp X (Eh .Mult) uV:=⟨MD⟩
def EB (he:QE X e fe)(hi:QE X ei fi)(hk:QE X ek fk):QE X (.Subscript e (.Slice (Aa ei) none (Aa ek) p2) pos) (ZD fe fi fk):=⟨LQ he.1 hi.1 hk.1⟩
end
end _D
namespace _D
open PySem
variable {ds as:Ab D}{i:Ai}{b:Aq}{a:D}{f f1 f2:DE}{F:DF}{S1 S' S2:Sto}{env:qF}{Q:qF→Sto→Prop}
def Nx (o:Out)(Q:qF→Sto→Prop):Prop:=∃ env S,o=.nx env S∧Q env S
def Rt (o:Out)(Q:D→Sto→Prop):Prop:=∃ d S,o=.rt d S∧Q d S
def Ok {β:Type}(r:Res β)(Q:β→Sto→Prop):Prop:=∃ d S,r=.ok d S∧Q d S
def xC {o:Out}{S:Sto}(h:o=.nx env S)(q:Q env S):Nx o Q:=⟨env,S,h,q⟩
def X3 {o:Out}{Q:D→Sto→Prop}{d:D}{S:Sto}(h:o=.rt d S)(q:Q d S):Rt o Q:=⟨d,S,h,q⟩
def xG {β:Type}{r:Res β}{Q:β→Sto→Prop}{d:β}{S:Sto}(h:r=.ok d S)(q:Q d S):Ok r Q:=⟨d,S,h,q⟩
def xT {f g:DS}{S:Sto}(h:Nx (f env S) λenv1 S1=>Nx (g env1 S1) Q):Nx (qM f g env S) Q:=by
 obtain⟨env1,S1,e,env2,S2,e2,q⟩:=h;exact⟨env2,S2,by unfold qM;rw[e];exact e2,q⟩
def qY {f g:DS}{S:Sto}{Q:D→Sto→Prop}(h:Nx (f env S) λenv1 S1=>Rt (g env1 S1) Q):Rt (qM f g env S) Q:=by
 obtain⟨env1,S1,e,env2,S2,e2,q⟩:=h;exact⟨env2,S2,by unfold qM;rw[e];exact e2,q⟩
def xQ {t:DT}{f g:DS}{S:Sto}(h:t env S=.ok b S1)(k:Nx ((if b then f else g) env S1) Q):Nx (sIf t f g env S) Q:=by
 obtain⟨env2,S2,e2,q⟩:=k;refine⟨env2,S2,?_,q⟩;unfold sIf;rw[h];cases b <;> exact e2
def lA {S:Sto}(h:Ok (f env S) λd S1=>Q (env.set i (Aa d)) S1):Nx (zC f (gNm i) env S) Q:=by
 obtain⟨d,S1,e,q⟩:=h;exact⟨_,S1,by unfold zC gNm;rw[e];rfl,q⟩
def oW {S:Sto}(h:Ok (f env S) λ_ S1=>Q env S1):Nx (yW f env S) Q:=by
 obtain⟨d,S1,e,q⟩:=h;exact⟨_,S1,by unfold yW;rw[e];rfl,q⟩
def xK {S:Sto}{Q:D→Sto→Prop}(h:Ok (f env S) Q):Rt (qZ f env S) Q:=by
 obtain⟨d,S1,e,q⟩:=h;exact⟨_,S1,by unfold qZ;rw[e];rfl,q⟩
def uY {fi:DI}{g:DG}{f:DS}{S:Sto}(h:fi env S=.ok ds S1)(k:Nx (vM g f ds env S1) Q):Nx (yI fi g f env S) Q:=by
 obtain⟨env2,S2,e2,q⟩:=k;exact⟨env2,S2,by unfold yI;rw[h];exact e2,q⟩
def vN {g:DG}{f:DS}(I:Ab D→qF→Sto→Prop)(turn:∀ d ds env S,I (d::ds) env S→∃ env1 S1,g d env S=.ok env1 S1∧Nx (f env1 S1) (I ds))(last:∀ env S,I [] env S→Q env S) :
  ∀ {ds:Ab D} {env:qF} {S:Sto},I ds env S→Nx (vM g f ds env S) Q
 |[],env,S,h=>⟨env,S,rfl,last env S h⟩
 |d::ds,env,S,h=>by
  obtain⟨env1,S1,e1,env2,S2,e2,h2⟩:=turn d ds env S h;obtain⟨env3,S3,e3,q⟩:=vN I turn last (ds:=ds) h2;refine⟨env3,S3,?_,q⟩;unfold vM;simp only[e1,Res.toS,e2];exact e3
def d9 {o:Am (Ai × MO)}{g:DG}{t:DT}{k:DK}(out:D→Ab D)(C:qF→Sto→Prop)(hC:∀ env S,C env S→stn o S) :
  ∀ (items:Ab D) (env:qF) (S:Sto) (acc:Ab D),C env S→acc.length+(items.flatMap out).length≤lim →
  (∀ d∈items,∀ env S acc,C env S→acc.length+(out d).length≤lim→∃ env1 S1 b S2,g d env S=.ok env1 S1∧t env1 S1=.ok b S2∧((b=false∧out d=[]∧C env1 S2)∨(b=true∧∃ env3 S3,k env1 S2 acc=.ok (env3,acc++out d) S3∧C env3 S3))) →
  ∃ env' S',goL o g t k items env S acc=.ok (env',acc++items.flatMap out) S'∧C env' S'
 |[],env,S,acc,h,hl,_=>⟨env,S,by simp[goL,yQ.mpr (hC _ _ h)],h⟩
 |d::ds,env,S,acc,h,hl,step=>by
  rw[Hn,Bo] at hl;obtain⟨env1,S1,b,S2,e1,e2,r⟩:=step d (Dd ..) env S acc h om;have hst:=yQ.mpr (hC _ _ h);rcases r with⟨rfl,h0,h2⟩|⟨rfl,env3,S3,e3,h3⟩
  ·obtain⟨env',S',e,q⟩:=d9 out C hC ds env1 S2 acc h2 om λd hd=>step d (Bu _ hd)
   refine⟨env',S',?_,q⟩;simp only[goL,hst,Dh,e1,e2,Res.bind,Bt,Ec,Hn,h0,Ik];exact e
  ·obtain⟨env',S',e,q⟩:=d9 out C hC ds env3 S3 (acc++out d) h3 (by rw[Bo];omega) λd hd=>step d (Bu _ hd)
   refine⟨env',S',?_,q⟩;simp only[goL,hst,Dh,e1,e2,Res.bind,e3,Hn];rw[e,Eo]
def tN {fe:DE}{S:Sto}{acc:Ab D}{x:D}(h:fe env S=.ok x S1)(hl:acc.length<lim):zD fe env S acc=.ok (env,acc++[x]) S1:=by
 unfold zD;rw[h];simp[Res.bind,hl]
def bX {cap:Ab (Am Ai)}{fi:DI2}{g:DG}{t:DT}{k:DK}{env':qF}{S:Sto}{o:Am (Ai × MO)}{items:Ab D}(h:fi env S=.ok (o,items) S1)(e:goL o g t k items (wG cap env) S1 [] = .ok (env',ds) S'):qX false cap fi g t k env S=.ok (.lst ds) S':=by
 unfold qX;rw[h];simp only[Res.bind,e,mkM];rfl
def sA {n:Ai}{S:Sto}{d:D}(hs:j2 n ds=env)(h:f env S=.ok d S'):z9 n (qZ f) ds S=.ok d S':=by
 subst hs;unfold z9 qZ;rw[h];rfl
def yS {n:Ai}{g:DS}{S:Sto}{d:D}(hs:j2 n ds=env)(h:g env S=.rt d S'):z9 n g ds S=.ok d S':=by
 subst hs;unfold z9;rw[h];rfl
def mC {α β:Type}(sel:α→Aq)(val:α→β)(l:Ab α) : (l.flatMap λd=>if sel d then [val d] else []) = (l.filter sel).map val:=by
 induction l with
 |nil=>rfl
 |cons d l ih =>
  rw[Hn,ih];cases h:sel d <;> simp[h]
section
variable {cap:Ab (Am Ai)}{fi:DI2}{g:DG}{t:DT}{fe:DE}{env:qF}{S S0:Sto}{o:Am (Ai × MO)}{items:Ab D}
def OO (hst:stn o S)(sel:D→Aq)(val:D→D)(C:qF→Prop)(h0:C env)(hl:items.length≤lim)
  (step:∀ d∈items,∀ env,C env→∃ env1,g d env S=.ok env1 S∧C env1∧t env1 S=.ok (sel d) S∧(sel d=true→fe env1 S=.ok (val d) S)) :
  ∃ env',goL o g t (zD fe) items env S [] = .ok (env',(items.filter sel).map val) S:=by
 have lf:(items.flatMap λd=>if sel d then [val d] else []).length≤lim:=by
  rw[mC,Ay];exact Dc (Ka _ _) hl
 obtain⟨env',S',e,_,q⟩:=d9 (o:=o) (g:=g) (t:=t) (k:=zD fe) (λd=>if sel d then [val d] else []) (λenv S'=>C env∧S'=S) (λ_ _ h=>h.2▸hst) items env S [] ⟨h0,rfl⟩ (by simpa using lf) (λd hd env S' acc hC hl=>by
  obtain⟨hc,rfl⟩:=hC;obtain⟨env1,e1,c1,e2,k⟩:=step d hd env hc;refine⟨env1,S',sel d,S',e1,e2,?_⟩;cases hs:sel d with
  |false=>exact .inl ⟨rfl,by simp,c1,rfl⟩
  |true =>
   refine .inr ⟨rfl,env1,S',?_,c1,rfl⟩;simp only[Dh];exact tN (k hs) (by simp only[hs,Dh,Ia] at hl;omega))
 subst q;refine⟨env',?_⟩;rw[e,Ik,mC]
def bU (h:fi env S=.ok (o,items) S)(hst:stn o S)(sel:D→Aq)(val:D→D)(C:qF→Prop)(h0:C (wG cap env))(hl:items.length≤lim)
  (step:∀ d∈items,∀ env,C env→∃ env1,g d env S=.ok env1 S∧C env1∧t env1 S=.ok (sel d) S∧(sel d=true→fe env1 S=.ok (val d) S)) :
  qX false cap fi g t (zD fe) env S=.ok (.lst ((items.filter sel).map val)) S:=by
 obtain⟨env',e⟩:=OO hst sel val C h0 hl step;exact bX h e
end
def goT {α:Type}{enc:α→D}{o:Am (Ai × MO)}{g:DG}{t:DT}{k:DK}(out:α→Ab D)(C:qF→Sto→Prop)(hC:∀ env S,C env S→stn o S) :
  ∀ (xs:Ab α) (env:qF) (S:Sto) (acc:Ab D),C env S→acc.length+(xs.flatMap out).length≤lim →
  (∀ x∈xs,∀ env S acc,C env S→acc.length+(out x).length≤lim→∃ env1 S1 b S2,g (enc x) env S=.ok env1 S1∧t env1 S1=.ok b S2∧((b=false∧out x=[]∧C env1 S2)∨(b=true∧∃ env3 S3,k env1 S2 acc=.ok (env3,acc++out x) S3∧C env3 S3))) →
  ∃ env' S',goL o g t k (xs.map enc) env S acc=.ok (env',acc++xs.flatMap out) S'∧C env' S'
 |[],env,S,acc,h,hl,_=>⟨env,S,by simp[goL,yQ.mpr (hC _ _ h)],h⟩
 |x::xs,env,S,acc,h,hl,step=>by
  rw[Hn,Bo] at hl;obtain⟨env1,S1,b,S2,e1,e2,r⟩:=step x (Dd ..) env S acc h om;have hst:=yQ.mpr (hC _ _ h);rcases r with⟨rfl,h0,h2⟩|⟨rfl,env3,S3,e3,h3⟩
  ·obtain⟨env',S',e,q⟩:=goT out C hC xs env1 S2 acc h2 om λd hd=>step d (Bu _ hd)
   refine⟨env',S',?_,q⟩;simp only[Dj,goL,hst,Dh,e1,e2,Res.bind,Bt,Ec,Hn,h0,Ik];exact e
  ·obtain⟨env',S',e,q⟩:=goT out C hC xs env3 S3 (acc++out x) h3 (by rw[Bo];omega) λd hd=>step d (Bu _ hd)
   refine⟨env',S',?_,q⟩;simp only[Dj,goL,hst,Dh,e1,e2,Res.bind,e3,Hn];rw[e,Eo]
section
variable {α β:Type}{enc:α→D}{enc2:β→D}{cap:Ab (Am Ai)}{fi:DI2}{g:DG}{t:DT}{fe:DE}{env:qF}{S S0:Sto}{o:Am (Ai × MO)}{xs:Ab α}
def CM (hst:stn o S)(sel:α→Aq)(val:α→D)(C:qF→Prop)(h0:C env)(hl:xs.length≤lim)
  (step:∀ x∈xs,∀ env,C env→∃ env1,g (enc x) env S=.ok env1 S∧C env1∧t env1 S=.ok (sel x) S∧(sel x=true→fe env1 S=.ok (val x) S)) :
  ∃ env',goL o g t (zD fe) (xs.map enc) env S [] = .ok (env',(xs.filter sel).map val) S:=by
 have lf:(xs.flatMap λd=>if sel d then [val d] else []).length≤lim:=by
  rw[mC,Ay];exact Dc (Ka _ _) hl
 obtain⟨env',S',e,_,q⟩:=goT (enc:=enc) (o:=o) (g:=g) (t:=t) (k:=zD fe) (λd=>if sel d then [val d] else []) (λenv S'=>C env∧S'=S) (λ_ _ h=>h.2▸hst) xs env S [] ⟨h0,rfl⟩ (by simpa using lf) (λd hd env S' acc hC hl=>by
  obtain⟨hc,rfl⟩:=hC;obtain⟨env1,e1,c1,e2,k⟩:=step d hd env hc;refine⟨env1,S',sel d,S',e1,e2,?_⟩;cases hs:sel d with
  |false=>exact .inl ⟨rfl,by simp,c1,rfl⟩
  |true =>
   refine .inr ⟨rfl,env1,S',?_,c1,rfl⟩;simp only[Dh];exact tN (k hs) (by simp only[hs,Dh,Ia] at hl;omega))
 subst q;refine⟨env',?_⟩;rw[e,Ik,mC]
def jD (h:fi env S=.ok (o,xs.map enc) S)(hst:stn o S)(sel:α→Aq)(val:α→D)(C:qF→Prop)(h0:C (wG cap env))(hl:xs.length≤lim)
  (step:∀ x∈xs,∀ env,C env→∃ env1,g (enc x) env S=.ok env1 S∧C env1∧t env1 S=.ok (sel x) S∧(sel x=true→fe env1 S=.ok (val x) S)) :
  qX false cap fi g t (zD fe) env S=.ok (.lst ((xs.filter sel).map val)) S:=by
 obtain⟨env',e⟩:=CM hst sel val C h0 hl step;exact bX h e
end
def qJ {o:G2}{g:DE}{S:Sto}{b:D}(h1:f env S=.ok a S1)(h2:g env S1=.ok b S2):d2 o f g env S=o a b S2:=by
 unfold d2;rw[h1];simp only[Res.bind];rw[h2]
def y8 {S:Sto}(h1:f1 env S=.ok a S1):qG 1 F (qA f1 (qC)) env S=F [a] S1:=by
 simp only[qG,qA,qC,h1,Res.bind,Ci,Fx,Dh]
def xY {S:Sto}{b:D}(h1:f1 env S=.ok a S1)(h2:f2 env S1=.ok b S2):qG 2 F (qA f1 (qA f2 (qC))) env S=F [a,b] S2:=by
 simp only[qG,qA,qC,h1,h2,Res.bind,Ci,Fx,Dh]
def jP {f3:DE}{S S3:Sto}{b c:D}(h1:f1 env S=.ok a S1)(h2:f2 env S1=.ok b S2)(h3:f3 env S2=.ok c S3):qG 3 F (qA f1 (qA f2 (qA f3 (qC)))) env S=F [a,b,c] S3:=by
 simp only[qG,qA,qC,h1,h2,h3,Res.bind,Ci,Fx,Dh]
def xO {S:Sto}(h1:f1 env S=.ok a S1):qE F (qA f1 (qC)) env S=F [a] S1:=by
 simp only[qE,qA,qC,h1,Res.bind]
def hX {S:Sto}{b:D}(h1:f1 env S=.ok a S1)(h2:f2 env S1=.ok b S2):qE F (qA f1 (qA f2 (qC))) env S=F [a,b] S2:=by
 simp only[qE,qA,qC,h1,h2,Res.bind]
def zX {S:Sto}(h:f env S=.ok (.bl b) S1):dTr f env S=.ok b S1:=by
 unfold dTr;rw[h];rfl
def wR {f:DT}{S:Sto}(h:f env S=.ok b S1):zO f env S=.ok (!b) S1:=by
 unfold zO;rw[h];rfl
def wC {f g:DT}{S:Sto}{a:Aq}(h:f env S=.ok a S1)(k:a=false→g env S1=.ok b S2)(e:a=true→S1=S2):xV f g env S=.ok (a||b) S2:=by
 unfold xV;rw[h];cases a with
 |true=>cases e rfl;rfl
 |false=>exact k rfl
def kR {g:DE}{S:Sto}{a:Aq}(h:f env S=.ok (.bl a) S1)(k:a=true→g env S1=.ok (.bl b) S2)(e:a=false→S1=S2):y7 f g env S=.ok (.bl (a&&b)) S2:=by
 unfold y7;rw[h];cases a with
 |false=>cases e rfl;rfl
 |true=>exact k rfl
def yC {S:Sto}(h1:f1 env S=.ok a S1):qA f1 (qC) env S=.ok [a] S1:=by
 simp only[qA,qC,h1,Res.bind]
def xP {S:Sto}{b:D}(h1:f1 env S=.ok a S1)(h2:f2 env S1=.ok b S2):qA f1 (qA f2 (qC)) env S=.ok [a,b] S2:=by
 simp only[qA,qC,h1,h2,Res.bind]
def zN {g:DA}{S:Sto}(h:f env S=.ok a S1)(k:g env S1=.ok as S2):qA f g env S=.ok (a::as) S2:=by
 simp only[qA,h,k,Res.bind]
def yG {g:DA}{S:Sto}(k:g env S=.ok as S1)(h:as.length≤lim):zJ g env S=.ok (.lst as) S1:=by
 simp only[zJ,k,Res.bind,h,Dh]
def xU {g:DA}{S:Sto}(k:g env S=.ok as S1)(h:as.length≤lim):qU g env S=.ok (.tup as) S1:=by
 simp only[qU,k,Res.bind,h,Dh]
def zS {d:D}{S:Sto}(h:env[i]? = Aa (Aa d)):qB i env S=.ok d S:=by simp only[qB,h]
def wK {α:Type}(l:Ab α) : l.filter (λ_=>true)=l:=by simp
def XT {α:Type}(p:α→Aq)(l:Ab α) : w6 (l.map λx=>D.bl (p x))=Aa (l.map p):=by
 induction l with
 |nil=>rfl
 |cons x l ih =>
  show (w6 (l.map λx=>D.bl (p x))).map (p x::·)=_
  rw[ih];rfl
def bP {α:Type}{S:Sto}{l:Ab α}{p:α→Aq}(h:f env S=.ok (.lst (l.map λx=>D.bl (p x))) S1):qE (vA false) (qA f (qC)) env S=.ok (.bl (l.all p)) S1:=by
 rw[xO h];show (match (xI (.lst (l.map λx=>D.bl (p x)))).bind w6 with|some bs=>Res.ok (D.bl (bs.all id)) S1|none=>.bad)=_
 rw[show (xI (.lst (l.map λx=>D.bl (p x)))).bind w6=Aa (l.map p) from XT p l]
 simp only[Ke];rfl
def gC {j:Ai}{S:Sto}{b:D}(h1:f1 env S=.ok a S1)(h2:f2 env S1=.ok b S2)(q:Q ((env.set i (Aa a)).set j (Aa b)) S2):Nx (kB i j (qA f1 (qA f2 (qC))) env S) Q:=by
 unfold kB;rw[xP h1 h2];exact xC rfl q
def zF {g:DG}{env1:qF}{S:Sto}{d:D}(h1:f env S=.ok d S1)(h2:g d env S1=.ok env1 S2)(q:Q env1 S2):Nx (zC f g env S) Q:=by
 unfold zC;rw[h1];simp only[Res.toS];rw[h2];exact xC rfl q
def jX {t:DT}{f g:DS}{S:Sto}{Q:D→Sto→Prop}(h:t env S=.ok b S1)(k:Rt ((if b then f else g) env S1) Q):Rt (sIf t f g env S) Q:=by
 unfold sIf;rw[h];cases b <;> exact k
end _D
namespace _K
open PySem _D
def qAb (b:Aq)(S:Sto):w8 (.bl b) S=Aa b:=rfl
def qAa (i:Ak)(S:Sto):w8 (.int i) S=Aa (i != 0):=rfl
def HC (i:Ak)(S:Sto):tyD (.int i) S=Aa "int":=rfl
def qAi (b:Aq)(S:Sto):tyD (.bl b) S=Aa "bool":=rfl
def qAd (S:Sto):tyD .non S=Aa "NoneType":=rfl
def qAe (x:As)(S:Sto):tyD (.str x) S=Aa "str":=rfl
def qAf (x:Ab D)(S:Sto):tyD (.tup x) S=Aa "tuple":=rfl
def qAc (x:Ab D)(S:Sto):tyD (.lst x) S=Aa "list":=rfl
def qAX (x:Ab D):xI (.tup x)=Aa x:=rfl
def qAW (x:Ab D):xI (.lst x)=Aa x:=rfl
def MJ (d:D)(S:Sto):fP (.rt d S)=.ok d S:=rfl
def qAZ (e:qF)(S:Sto):fP (.nx e S)=.ok .non S:=rfl
def qAY (c:Ad)(x:D)(e:qF)(S:Sto):fP (.ex c x e S)=.ex c x S:=rfl
def OZ (i j:Ai)(env:qF)(S:Sto)(x y:D):aH i j env S [x,y]=.nx ((env.set i (Aa x)).set j (Aa y)) S:=rfl
def O1 (i j k:Ai)(env:qF)(S:Sto)(x y z:D):Q1 i j k env S [x,y,z]=.nx (((env.set i (Aa x)).set j (Aa y)).set k (Aa z)) S:=rfl
def DR (C:Ak→Ak→Aq)(f:Ak→Ak→D)(i j:Ak)(S:Sto):i2 C f (.int i) (.int j) S=if C i j=true then .ok (f i j) S else .bad:=rfl
def o6 (b:Aq)(S:Sto):kU [.bl b] S=.ok (.int (b01 b)) S:=rfl
def uJ {xs:Ab D}{k:Ak}{d:D}(h:_L.atI xs k=Aa d)(S:Sto):gIx (.lst xs) (.int k) S=.ok d S:=by
 show _D.uD (_L.atI xs k) S=_;rw[h];rfl
end _K
open PySem _D _K
namespace _K
open PySem PySem.Spec PyProof.Rows _L _D
def top (i:Ai):Fd:=PySem.Challenge.pw_fewdistances_k30_likenesses_looked_at.main.body.getD i (.Pass ⟨0,0,0,0⟩)
structure Cl where
 (FarError NoPoint NoLot NoNumber NoCircle NoMarks NoFars NoText NoLine NoDeed Alike TooMany:Af)
def wH (c:Cl):Ab Af:=[c.NoPoint,c.NoLot,c.NoNumber,c.NoCircle,c.NoMarks,c.NoFars,c.NoText,c.NoLine,c.NoDeed,c.Alike,c.TooMany]
def bS (c:Cl):Ab Ad:=[.ref c.NoPoint,.ref c.NoLot,.ref c.NoNumber,.ref c.NoCircle,.ref c.NoMarks,.ref c.NoFars,.ref c.NoText,.ref c.NoLine,.ref c.NoDeed]
abbrev clt (c:Cl):Ab (As × Af):=[("FarError",c.FarError),("NoPoint",c.NoPoint),("NoLot",c.NoLot),("NoNumber",c.NoNumber),("NoCircle",c.NoCircle),("NoMarks",c.NoMarks),("NoFars",c.NoFars),("NoText",c.NoText),("NoLine",c.NoLine),("NoDeed",c.NoDeed),("Alike",c.Alike),("TooMany",c.TooMany)]
abbrev plt (c:Cl):Ab (As × Af):=[("NoPoint",c.NoPoint),("NoLot",c.NoLot),("NoNumber",c.NoNumber),("NoCircle",c.NoCircle),("NoMarks",c.NoMarks),("NoFars",c.NoFars),("NoText",c.NoText),("NoLine",c.NoLine),("NoDeed",c.NoDeed)]
abbrev cst:Ab (As × Ak):=[("LEAST_NUMBER",-1000),("MOST_NUMBER",1000),("MOST_POINTS",40)]
abbrev bl:Ab As:=["ValueError","all","bool","enumerate","int","isinstance","len","list","min","range","repr","set","sorted","str","tuple","zip"]
abbrev tab:Ab (As × Ai × Ab As):=[(("is_whole" : As),(14:Ai),[("thing" : As)]),(("is_within" : As),(15:Ai),[("thing" : As),("least" : As),("most" : As)]),(("is_rising" : As),(16:Ai),[("some" : As)]),(("is_point" : As),(21:Ai),[("thing" : As)]),(("is_lot" : As),(22:Ai),[("thing" : As)]),(("need_lot" : As),(23:Ai),[("thing" : As)]),(("far_between" : As),(24:Ai),[("one" : As),("other" : As)]),(("pairs_by_far" : As),(25:Ai),[("points" : As)]),(("is_likeness" : As),(27:Ai),[("lot" : As),("thing" : As)]),(("first_like" : As),(28:Ai),[("lot" : As)]),(("_law_cell" : As),(30:Ai),[("_law_script" : As),("_law_k" : As)]),(("_law_pen" : As),(31:Ai),[("_law_cell_here" : As)]),(("_law_draw" : As),(32:Ai),[("_law_pen_here" : As),("_law_many" : As)]),(("_law_whole" : As),(33:Ai),[("_law_thing" : As)]),(("_law_same" : As),(34:Ai),[("_law_found" : As),("_law_due" : As)]),(("_law_kind_of" : As),(35:Ai),[("_law_e" : As)]),(("_law_point" : As),(36:Ai),[("_law_pen_here" : As),("_law_wide" : As)]),(("_law_lot" : As),(37:Ai),[("_law_pen_here" : As),("_law_most" : As)]),(("_law_is_point" : As),(38:Ai),[("_law_thing" : As)]),(("_law_is_lot" : As),(39:Ai),[("_law_thing" : As)]),(("_law_no_point" : As),(40:Ai),[("_law_pen_here" : As),("_law_point_here" : As)]),(("_law_no_lot" : As),(41:Ai),[("_law_pen_here" : As),("_law_lot_here" : As)]),(("_law_far" : As),(42:Ai),[("_law_one" : As),("_law_other" : As)]),(("_law_pairs" : As),(43:Ai),[("_law_lot_here" : As)]),(("_law_is_likeness" : As),(44:Ai),[("_law_lot_here" : As),("_law_thing" : As)]),(("_law_first_like" : As),(45:Ai),[("_law_lot_here" : As)]),(("_law_came" : As),(46:Ai),[("_law_way" : As),("_law_lot_here" : As),("_law_thing" : As)]),(("_law_bent" : As),(47:Ai),[("_law_pen_here" : As),("_law_lot_here" : As),("_law_thing" : As)]),(("law" : As),(48:Ai),[("_law_script" : As)])]
abbrev Txt (K:Al)(mg:As→Am Ad)(c:Cl):Prop:=TxS K mg top tab bl (clt c) (plt c) (bS c) (wH c) cst
@[reducible] def b_is_whole:DS:=qZ (y7 (qE zK (qA (qB 0) (qA (dC (.ty "int")) (qC)))) (ZC (qE zK (qA (qB 0) (qA (dC (.ty "bool")) (qC))))))
@[irreducible] def S_is_whole:DF:=sh (z9 1 b_is_whole)
def k9:S_is_whole=z9 1 b_is_whole:=by delta S_is_whole;exact xD _
@[reducible] def b_is_within:DS:=qZ (y7 (qG 1 S_is_whole (qA (qB 0) (qC))) (zY gLe gLe (qB 1) (qB 0) (qB 2)))
@[irreducible] def S_is_within:DF:=sh (z9 3 b_is_within)
def jB:S_is_within=z9 3 b_is_within:=by delta S_is_within;exact xD _
@[reducible] def b_is_rising:DS:=qZ (qE (vA false) (qA (qX false [none,none] (wB (bY (qA (qB 0) (qA (dSl (qB 0) (qN (dC (.int 1))) (qS)) (qC))))) (gTp 2 (zA (gNm 0) (zA (gNm 1) (xS)))) (zG) (zD (d2 tJ (qB 0) (qB 1)))) (qC)))
@[irreducible] def S_is_rising:DF:=sh (z9 1 b_is_rising)
def p8:S_is_rising=z9 1 b_is_rising:=by delta S_is_rising;exact xD _
@[reducible] def b_is_point:DS:=qM (sIf (xV (zO (dTr (qE zK (qA (qB 0) (qA (dC (.ty "tuple")) (qC)))))) (dTr (d2 gNe (qE zE (qA (qB 0) (qC))) (dC (.int 2))))) (qZ (dC (.bl false))) (zI)) (qZ (qE (vA false) (qA (qX false [none] (dIt (qB 0)) (gNm 0) (zG) (zD (qG 3 (okO S_is_within) (qA (qB 0) (qA (dC (.int (-1000))) (qA (dC (.int (1000))) (qC))))))) (qC))))
@[irreducible] def S_is_point:DF:=sh (z9 1 b_is_point)
def bJ:S_is_point=z9 1 b_is_point:=by delta S_is_point;exact xD _
@[reducible] def b_is_lot:DS:=qM (sIf (xV (zO (dTr (qE zK (qA (qB 0) (qA (dC (.ty "tuple")) (qC)))))) (zO (dTr (zY gLe gLe (dC (.int 1)) (qE zE (qA (qB 0) (qC))) (dC (.int (40))))))) (qZ (dC (.bl false))) (zI)) (qZ (y7 (qE (vA false) (qA (qX false [none] (dIt (qB 0)) (gNm 0) (zG) (zD (qG 1 (okO S_is_point) (qA (qB 0) (qC))))) (qC))) (qG 1 S_is_rising (qA (qB 0) (qC)))))
@[irreducible] def S_is_lot:DF:=sh (z9 1 b_is_lot)
def mT:S_is_lot=z9 1 b_is_lot:=by delta S_is_lot;exact xD _
@[reducible] def b_need_lot (c:Cl):DS:=sIf (zO (dTr (qG 1 S_is_lot (qA (qB 0) (qC))))) (jZ (.ref c.NoLot) (qA (dC (.str "a lot is needed")) (qC))) (zI)
@[irreducible] def S_need_lot (c:Cl):DF:=sh (z9 1 (b_need_lot c))
def bK (c:Cl):S_need_lot c=z9 1 (b_need_lot c):=by delta S_need_lot;exact xD _
@[reducible] def b_far_between:DS:=qM (zC (d2 xR (d2 gIx (qB 0) (dC (.int 0))) (d2 gIx (qB 1) (dC (.int 0)))) (gNm 2)) (qM (zC (d2 xR (d2 gIx (qB 0) (dC (.int 1))) (d2 gIx (qB 1) (dC (.int 1)))) (gNm 3)) (qZ (d2 qL (d2 w9 (qB 2) (qB 2)) (d2 w9 (qB 3) (qB 3)))))
@[irreducible] def S_far_between:DF:=sh (z9 4 b_far_between)
def kQ:S_far_between=z9 4 b_far_between:=by delta S_far_between;exact xD _
@[reducible] def b_pairs_by_far:DS:=qM (zC (Z9) (gNm 1)) (qM (yI (n8 (qA (qB 0) (qC))) (gTp 2 (zA (gNm 2) (zA (gNm 3) (xS)))) (yI (wZ (dSl (qB 0) (qN (d2 qL (qB 2) (dC (.int 1)))) (qS))) (gNm 4) (yW (dBm "list" yD (dBm "dict" yE (qB 1) (qA (qG 2 S_far_between (qA (qB 3) (qA (qB 4) (qC)))) (qA (n9 (qC)) (qC)))) (qA (qU (qA (qB 3) (qA (qB 4) (qC)))) (qC)))))) (qZ (qB 1)))
@[irreducible] def S_pairs_by_far:DF:=sh (z9 5 b_pairs_by_far)
def kE:S_pairs_by_far=z9 5 b_pairs_by_far:=by delta S_pairs_by_far;exact xD _
@[reducible] def b_is_likeness (c:Cl):DS:=qM (yW (qG 1 (S_need_lot c) (qA (qB 0) (qC)))) (qM (sIf (xV (zO (dTr (qE zK (qA (qB 1) (qA (dC (.ty "tuple")) (qC)))))) (dTr (d2 gNe (qE zE (qA (qB 1) (qC))) (dC (.int 4))))) (qZ (dC (.bl false))) (zI)) (qM (sIf (zO (dTr (qE (vA false) (qA (qX false [none,Aa 0] (dIt (qB 1)) (gNm 0) (zG) (zD (y7 (qG 1 (okO S_is_point) (qA (qB 0) (qC))) (d2 gIn (qB 0) (qB 1))))) (qC))))) (qZ (dC (.bl false))) (zI)) (qM (zC (qB 1) (gTp 4 (zA (gNm 2) (zA (gNm 3) (zA (gNm 4) (zA (gNm 5) (xS))))))) (qZ (y7 (d2 kA (qB 2) (qB 3)) (y7 (d2 kA (qB 4) (qB 5)) (y7 (d2 kA (qU (qA (qB 2) (qA (qB 3) (qC)))) (qU (qA (qB 4) (qA (qB 5) (qC))))) (d2 gEq (qG 2 S_far_between (qA (qB 2) (qA (qB 3) (qC)))) (qG 2 S_far_between (qA (qB 4) (qA (qB 5) (qC))))))))))))
@[irreducible] def S_is_likeness (c:Cl):DF:=sh (z9 6 (b_is_likeness c))
def u4 (c:Cl):S_is_likeness c=z9 6 (b_is_likeness c):=by delta S_is_likeness;exact xD _
@[reducible] def b_first_like (c:Cl):DS:=qM (yW (qG 1 (S_need_lot c) (qA (qB 0) (qC)))) (qM (yI (pU (qG 1 S_pairs_by_far (qA (qB 0) (qC)))) (gNm 1) (sIf (dTr (d2 gGt (qE zE (qA (qB 1) (qC))) (dC (.int 1)))) (qZ (d2 qL (d2 gIx (qB 1) (dC (.int 0))) (d2 gIx (qB 1) (dC (.int 1))))) (zI))) (qZ (dC .non)))
@[irreducible] def S_first_like (c:Cl):DF:=sh (z9 2 (b_first_like c))
def uR (c:Cl):S_first_like c=z9 2 (b_first_like c):=by delta S_first_like;exact xD _
@[reducible] def b__law_cell:DS:=qM (sIf (dTr (d2 gLt (qB 1) (qE zE (qA (qB 0) (qC))))) (qZ (d2 gIx (qB 0) (qB 1))) (zI)) (qZ (dC (.int 0)))
@[irreducible] def S__law_cell:DF:=sh (z9 2 b__law_cell)
def gY:S__law_cell=z9 2 b__law_cell:=by delta S__law_cell;exact xD _
@[reducible] def b__law_pen:DS:=qZ (n9 (qA (qB 0) (qA (qE kU (qA (d2 gGe (qB 0) (d2 jG (dC (.int 10)) (dC (.int 18)))) (qC))) (qC))))
@[irreducible] def S__law_pen:DF:=sh (z9 1 b__law_pen)
def bI:S__law_pen=z9 1 b__law_pen:=by delta S__law_pen;exact xD _
@[reducible] def b__law_draw:DS:=qM (sIf (dTr (d2 gEq (d2 gIx (qB 0) (dC (.int 1))) (dC (.int 1)))) (qM (zC (d2 u7 (d2 gIx (qB 0) (dC (.int 0))) (qB 1)) (gNm 2)) (qM (zC (d2 vR (d2 gIx (qB 0) (dC (.int 0))) (qB 1)) (gSb (qB 0) (dC (.int 0)) vL)) (qZ (qB 2)))) (zI)) (qM (zC (d2 u7 (d2 qL (d2 w9 (d2 u7 (d2 gIx (qB 0) (dC (.int 0))) (dC (.int 2147483629))) (dC (.int 48271))) (dC (.int 11))) (dC (.int 2147483629))) (gSb (qB 0) (dC (.int 0)) vL)) (qZ (d2 u7 (d2 vR (d2 u7 (d2 qL (d2 w9 (d2 gIx (qB 0) (dC (.int 0))) (d2 gIx (qB 0) (dC (.int 0)))) (d2 w9 (dC (.int 40692)) (d2 gIx (qB 0) (dC (.int 0))))) (dC (.int 2147483647))) (dC (.int 8))) (qB 1))))
@[irreducible] def S__law_draw:DF:=sh (z9 3 b__law_draw)
def gZ:S__law_draw=z9 3 b__law_draw:=by delta S__law_draw;exact xD _
@[reducible] def b__law_whole:DS:=qZ (y7 (qE zK (qA (qB 0) (qA (dC (.ty "int")) (qC)))) (ZC (qE zK (qA (qB 0) (qA (dC (.ty "bool")) (qC))))))
@[irreducible] def S__law_whole:DF:=sh (z9 1 b__law_whole)
def uQ:S__law_whole=z9 1 b__law_whole:=by delta S__law_whole;exact xD _
@[reducible] def b__law_same (S__law_same:DF):DS:=qM (sIf (dTr (d2 gIs (qB 1) (dC .non))) (qZ (d2 gIs (qB 0) (dC .non))) (zI)) (qM (sIf (xV (dTr (qE zK (qA (qB 1) (qA (dC (.ty "tuple")) (qC))))) (dTr (qE zK (qA (qB 1) (qA (dC (.ty "list")) (qC)))))) (qM (sIf (xV (dTr (d2 gNe (qE zK (qA (qB 0) (qA (dC (.ty "tuple")) (qC)))) (qE zK (qA (qB 1) (qA (dC (.ty "tuple")) (qC)))))) (dTr (d2 gNe (qE zK (qA (qB 0) (qA (dC (.ty "list")) (qC)))) (qE zK (qA (qB 1) (qA (dC (.ty "list")) (qC))))))) (qZ (dC (.bl false))) (zI)) (qM (sIf (dTr (d2 gNe (qE zE (qA (qB 0) (qC))) (qE zE (qA (qB 1) (qC))))) (qZ (dC (.bl false))) (zI)) (qM (yI (bY (qA (qB 0) (qA (qB 1) (qC)))) (gTp 2 (zA (gNm 2) (zA (gNm 3) (xS)))) (sIf (zO (dTr (qG 2 S__law_same (qA (qB 2) (qA (qB 3) (qC)))))) (qZ (dC (.bl false))) (zI))) (qZ (dC (.bl true)))))) (zI)) (qM (sIf (dTr (qE zK (qA (qB 1) (qA (dC (.ty "str")) (qC))))) (qZ (y7 (qE zK (qA (qB 0) (qA (dC (.ty "str")) (qC)))) (d2 gEq (qB 0) (qB 1)))) (zI)) (qZ (y7 (d2 gEq (qE zK (qA (qB 0) (qA (dC (.ty "bool")) (qC)))) (qE zK (qA (qB 1) (qA (dC (.ty "bool")) (qC))))) (y7 (qE zK (qA (qB 0) (qA (dC (.ty "int")) (qC)))) (d2 gEq (qB 0) (qB 1)))))))
def bC:Ai→DF
 |0=>λ_ _=>.bad
 |n+1=>z9 4 (b__law_same (bC n))
@[irreducible] def S__law_same:DF:=sh (bC 4)
def jA:S__law_same=bC 4:=by delta S__law_same;exact xD _
@[reducible] def b__law_kind_of (c:Cl):DS:=qM (zC (zJ (qA (qE (xE (wH c)) (qA (qB 0) (qA (dC (.obj c.NoPoint)) (qC)))) (qA (qE (xE (wH c)) (qA (qB 0) (qA (dC (.obj c.NoLot)) (qC)))) (qA (qE (xE (wH c)) (qA (qB 0) (qA (dC (.obj c.NoNumber)) (qC)))) (qA (qE (xE (wH c)) (qA (qB 0) (qA (dC (.obj c.NoCircle)) (qC)))) (qC)))))) (gNm 1)) (qM (zC (d2 qL (qB 1) (zJ (qA (qE (xE (wH c)) (qA (qB 0) (qA (dC (.obj c.NoMarks)) (qC)))) (qA (qE (xE (wH c)) (qA (qB 0) (qA (dC (.obj c.NoFars)) (qC)))) (qA (qE (xE (wH c)) (qA (qB 0) (qA (dC (.obj c.NoText)) (qC)))) (qA (qE (xE (wH c)) (qA (qB 0) (qA (dC (.obj c.NoLine)) (qC)))) (qC))))))) (gNm 1)) (qM (zC (d2 qL (qB 1) (zJ (qA (qE (xE (wH c)) (qA (qB 0) (qA (dC (.obj c.NoDeed)) (qC)))) (qA (qE (xE (wH c)) (qA (qB 0) (qA (dC (.obj c.Alike)) (qC)))) (qA (qE (xE (wH c)) (qA (qB 0) (qA (dC (.obj c.TooMany)) (qC)))) (qC)))))) (gNm 1)) (qM (sIf (xV (zO (dTr (qE (xE (wH c)) (qA (qB 0) (qA (dC (.ty "ValueError")) (qC)))))) (dTr (d2 gNe (dBm "list" nJ (qB 1) (qA (dC (.bl true)) (qC))) (dC (.int 1))))) (qZ (dC (.str "other"))) (zI)) (qM (sIf (dTr (qE (xE (wH c)) (qA (qB 0) (qA (dC (.obj c.Alike)) (qC))))) (qZ (zJ (qA (dC (.str "alike")) (qA (bW) (qA (bW) (qA (bW) (qA (bW) (qC)))))))) (zI)) (qM (sIf (dTr (qE (xE (wH c)) (qA (qB 0) (qA (dC (.obj c.TooMany)) (qC))))) (qZ (zJ (qA (dC (.str "many")) (qA (bW) (qA (bW) (qC)))))) (zI)) (qM (zC (zJ (qA (dC (.str "point")) (qA (dC (.str "lot")) (qA (dC (.str "number")) (qA (dC (.str "circle")) (qA (dC (.str "marks")) (qA (dC (.str "fars")) (qA (dC (.str "text")) (qA (dC (.str "line")) (qA (dC (.str "deed")) (qC))))))))))) (gNm 2)) (qZ (d2 gIx (qB 2) (dBm "list" nK (qB 1) (qA (dC (.bl true)) (qC)))))))))))
@[irreducible] def S__law_kind_of (c:Cl):DF:=sh (z9 3 (b__law_kind_of c))
def kD (c:Cl):S__law_kind_of c=z9 3 (b__law_kind_of c):=by delta S__law_kind_of;exact xD _
@[reducible] def b__law_point:DS:=qZ (qU (qA (d2 xR (qG 2 S__law_draw (qA (qB 0) (qA (d2 qL (d2 w9 (dC (.int 2)) (qB 1)) (dC (.int 1))) (qC)))) (qB 1)) (qA (d2 xR (qG 2 S__law_draw (qA (qB 0) (qA (d2 qL (d2 w9 (dC (.int 2)) (qB 1)) (dC (.int 1))) (qC)))) (qB 1)) (qC))))
@[irreducible] def S__law_point:DF:=sh (z9 2 b__law_point)
def gK:S__law_point=z9 2 b__law_point:=by delta S__law_point;exact xD _
@[reducible] def b__law_lot:DS:=qM (kB 2 3 (qA (qG 2 S__law_draw (qA (qB 0) (qA (dC (.int 7)) (qC)))) (qA (d2 qL (dC (.int 1)) (qG 2 S__law_draw (qA (qB 0) (qA (qB 1) (qC))))) (qC)))) (qM (zC (qU (qA (d2 gIx (zJ (qA (dC (.int 1)) (qA (dC (.int 2)) (qA (dC (.int 4)) (qA (dC (.int 12)) (qA (dC (.int 1000)) (qC))))))) (qG 2 S__law_draw (qA (qB 0) (qA (dC (.int 5)) (qC))))) (qA (qG 2 S__law_point (qA (qB 0) (qA (dC (.int 400)) (qC)))) (qC)))) (gTp 2 (zA (gNm 4) (zA (gNm 5) (xS))))) (qM (zC (d2 qL (dC (.int 1)) (qG 2 S__law_draw (qA (qB 0) (qA (dC (.int 9)) (qC))))) (gNm 6)) (qM (zC (qX false [none,Aa 0,Aa 4] (wB (yL (qA (qB 3) (qC)))) (gNm 0) (zG) (zD (qG 2 (okO S__law_point) (qA (qB 1) (qA (qB 2) (qC)))))) (gNm 7)) (qM (sIf (dTr (d2 gEq (qB 2) (dC (.int 0)))) (zC (qX false [none,Aa 5] (wB (yL (qA (qB 3) (qC)))) (gNm 0) (zG) (zD (qU (qA (d2 qL (d2 gIx (qB 1) (dC (.int 0))) (d2 u7 (qB 0) (dC (.int 4)))) (qA (d2 qL (d2 gIx (qB 1) (dC (.int 1))) (d2 vR (qB 0) (dC (.int 4)))) (qC)))))) (gNm 7)) (zI)) (qM (sIf (dTr (d2 gEq (qB 2) (dC (.int 1)))) (zC (qX false [none,Aa 5,Aa 6] (wB (yL (qA (qB 3) (qC)))) (gNm 0) (zG) (zD (qU (qA (d2 qL (d2 gIx (qB 1) (dC (.int 0))) (d2 w9 (qB 2) (qB 0))) (qA (d2 xR (d2 gIx (qB 1) (dC (.int 1))) (qB 0)) (qC)))))) (gNm 7)) (zI)) (qM (sIf (dTr (d2 gEq (qB 2) (dC (.int 2)))) (qM (zC (dSl (qB 7) (qS) (qN (d2 qL (dC (.int 1)) (d2 vR (qB 3) (dC (.int 4)))))) (gNm 8)) (qM (zC (d2 qL (d2 qL (qB 8) (qX false [none,none] (dIt (qB 8)) (gTp 2 (zA (gNm 0) (zA (gNm 1) (xS)))) (zG) (zD (qU (qA (d2 xR (dC (.int 0)) (qB 1)) (qA (qB 0) (qC))))))) (qX false [none,none] (dIt (qB 8)) (gTp 2 (zA (gNm 0) (zA (gNm 1) (xS)))) (zG) (zD (qU (qA (d2 xR (dC (.int 0)) (qB 0)) (qA (d2 xR (dC (.int 0)) (qB 1)) (qC))))))) (gNm 7)) (zC (d2 qL (qB 7) (qX false [none,none] (dIt (qB 8)) (gTp 2 (zA (gNm 0) (zA (gNm 1) (xS)))) (zG) (zD (qU (qA (qB 1) (qA (d2 xR (dC (.int 0)) (qB 0)) (qC))))))) (gNm 7)))) (zI)) (qZ (qE wN (qA (v7 (dSl (qB 7) (qS) (qN (qB 3)))) (qC))))))))))
@[irreducible] def S__law_lot:DF:=sh (z9 9 b__law_lot)
def bH:S__law_lot=z9 9 b__law_lot:=by delta S__law_lot;exact xD _
@[reducible] def b__law_is_point:DS:=qM (sIf (xV (zO (dTr (qE zK (qA (qB 0) (qA (dC (.ty "tuple")) (qC)))))) (dTr (d2 gNe (qE zE (qA (qB 0) (qC))) (dC (.int 2))))) (qZ (dC (.bl false))) (zI)) (qZ (qE (vA false) (qA (qX false [none] (dIt (qB 0)) (gNm 0) (zG) (zD (y7 (qG 1 (okO S__law_whole) (qA (qB 0) (qC))) (zY gLe gLe (d1 u9 (dC (.int 1000))) (qB 0) (dC (.int 1000)))))) (qC))))
@[irreducible] def S__law_is_point:DF:=sh (z9 1 b__law_is_point)
def jT:S__law_is_point=z9 1 b__law_is_point:=by delta S__law_is_point;exact xD _
@[reducible] def b__law_is_lot:DS:=qM (sIf (xV (zO (dTr (qE zK (qA (qB 0) (qA (dC (.ty "tuple")) (qC)))))) (xV (zO (dTr (zY gLe gLe (dC (.int 1)) (qE zE (qA (qB 0) (qC))) (dC (.int 40))))) (zO (dTr (qE (vA false) (qA (qX false [none] (dIt (qB 0)) (gNm 0) (zG) (zD (qG 1 (okO S__law_is_point) (qA (qB 0) (qC))))) (qC))))))) (qZ (dC (.bl false))) (zI)) (qZ (d2 gEq (qE jQ (qA (qB 0) (qC))) (v7 (qB 0))))
@[irreducible] def S__law_is_lot:DF:=sh (z9 1 b__law_is_lot)
def kN:S__law_is_lot=z9 1 b__law_is_lot:=by delta S__law_is_lot;exact xD _
@[reducible] def b__law_no_point:DS:=qM (kB 2 3 (qA (qG 2 S__law_draw (qA (qB 0) (qA (dC (.int 12)) (qC)))) (qA (qG 2 S__law_draw (qA (qB 0) (qA (dC (.int 2)) (qC)))) (qC)))) (qM (zC (d2 gIx (zJ (qA (dC (.int 1001)) (qA (d1 u9 (dC (.int 1001))) (qA (dC (.bl true)) (qA (dC (.bl false)) (qA (dC .non) (qA (dC (.str "0")) (qA (qU (qA (dC (.int 0)) (qC))) (qA (d2 jG (dC (.int 10)) (dC (.int 29))) (qA (zJ (qA (dC (.int 0)) (qC))) (qA (vI) (qC)))))))))))) (qG 2 S__law_draw (qA (qB 0) (qA (dC (.int 10)) (qC))))) (gNm 4)) (qM (zC (d2 qL (d2 qL (dSl (qB 1) (qS) (qN (qB 3))) (qU (qA (qB 4) (qC)))) (dSl (qB 1) (qN (d2 qL (qB 3) (dC (.int 1)))) (qS))) (gNm 5)) (qM (zC (zJ (qA (qB 5) (qA (qB 5) (qA (qB 5) (qA (qB 5) (qA (dSl (qB 1) (qS) (qN (dC (.int 1)))) (qA (d2 qL (qB 1) (qU (qA (dC (.int 0)) (qC)))) (qA (qE jQ (qA (qB 1) (qC))) (qA (dC .non) (qA (dC (.int 7)) (qA (dC (.str "0,0")) (qC)))))))))))) (gNm 6)) (qZ (d2 gIx (d2 qL (qB 6) (zJ (qA (vI) (qA (qU (qA (qB 1) (qC))) (qC))))) (qB 2))))))
@[irreducible] def S__law_no_point:DF:=sh (z9 7 b__law_no_point)
def jU:S__law_no_point=z9 7 b__law_no_point:=by delta S__law_no_point;exact xD _
@[reducible] def b__law_no_lot:DS:=qM (kB 2 3 (qA (qG 2 S__law_draw (qA (qB 0) (qA (dC (.int 14)) (qC)))) (qA (qG 2 S__law_draw (qA (qB 0) (qA (qE zE (qA (qB 1) (qC))) (qC)))) (qC)))) (qM (zC (d2 qL (d2 qL (dSl (qB 1) (qS) (qN (qB 3))) (qU (qA (qG 2 S__law_no_point (qA (qB 0) (qA (d2 gIx (qB 1) (qB 3)) (qC)))) (qC)))) (dSl (qB 1) (qN (d2 qL (qB 3) (dC (.int 1)))) (qS))) (gNm 4)) (qM (zC (zJ (qA (qB 4) (qA (qB 4) (qA (qE jQ (qA (qB 1) (qC))) (qA (m9 (qB 1) (d1 u9 (dC (.int 1)))) (qA (d2 qL (qB 1) (dSl (qB 1) (qN (d1 u9 (dC (.int 1)))) (qS))) (qA (d2 qL (dSl (qB 1) (qS) (qN (d2 qL (qB 3) (dC (.int 1))))) (dSl (qB 1) (qN (qB 3)) (qS))) (qA (qU (qC)) (qA (dC .non) (qA (dC (.int 7)) (qA (dC (.str "0,0")) (qA (vI) (qC))))))))))))) (gNm 5)) (qM (zC (qE wN (qA (qX false [none] (wB (yL (qA (dC (.int 41)) (qC)))) (gNm 0) (zG) (zD (qU (qA (d2 vR (qB 0) (dC (.int 8))) (qA (d2 u7 (qB 0) (dC (.int 8))) (qC)))))) (qC))) (gNm 6)) (qM (zC (d2 gIx (d2 qL (qB 5) (zJ (qA (qU (qA (qB 1) (qC))) (qA (qB 6) (qA (d2 gIx (qB 1) (dC (.int 0))) (qC)))))) (qB 2)) (gNm 7)) (qZ (dIf (dTr (qG 1 S__law_is_lot (qA (qB 7) (qC)))) (qU (qC)) (qB 7)))))))
@[irreducible] def S__law_no_lot:DF:=sh (z9 8 b__law_no_lot)
def kO:S__law_no_lot=z9 8 b__law_no_lot:=by delta S__law_no_lot;exact xD _
@[reducible] def b__law_far:DS:=qZ (d2 qL (d2 jG (d2 xR (d2 gIx (qB 0) (dC (.int 0))) (d2 gIx (qB 1) (dC (.int 0)))) (dC (.int 2))) (d2 jG (d2 xR (d2 gIx (qB 0) (dC (.int 1))) (d2 gIx (qB 1) (dC (.int 1)))) (dC (.int 2))))
@[irreducible] def S__law_far:DF:=sh (z9 2 b__law_far)
def bG:S__law_far=z9 2 b__law_far:=by delta S__law_far;exact xD _
@[reducible] def b__law_pairs:DS:=qM (zC (zJ (qC)) (gNm 1)) (qM (yI (yL (qA (qE zE (qA (qB 0) (qC))) (qC))) (gNm 2) (zC (d2 qL (qB 1) (qX false [none,Aa 2,Aa 0] (dIt (dSl (qB 0) (qN (d2 qL (qB 2) (dC (.int 1)))) (qS))) (gNm 0) (zG) (zD (qU (qA (d2 gIx (qB 2) (qB 1)) (qA (qB 0) (qC))))))) (gNm 1))) (qZ (qB 1)))
@[irreducible] def S__law_pairs:DF:=sh (z9 3 b__law_pairs)
def gJ:S__law_pairs=z9 3 b__law_pairs:=by delta S__law_pairs;exact xD _
@[reducible] def b__law_is_likeness:DS:=qM (sIf (xV (zO (dTr (qE zK (qA (qB 1) (qA (dC (.ty "tuple")) (qC)))))) (xV (dTr (d2 gNe (qE zE (qA (qB 1) (qC))) (dC (.int 4)))) (zO (dTr (qE (vA false) (qA (qX false [none] (dIt (qB 1)) (gNm 0) (zG) (zD (qG 1 (okO S__law_is_point) (qA (qB 0) (qC))))) (qC))))))) (qZ (dC (.bl false))) (zI)) (qM (sIf (dTr (d2 gNe (qX false [none,Aa 0] (dIt (qB 1)) (gNm 0) (y9 (dTr (d2 kW (qB 0) (qB 1))) (zG)) (zD (qB 0))) (zJ (qC)))) (qZ (dC (.bl false))) (zI)) (qM (zC (qB 1) (gTp 4 (zA (gNm 2) (zA (gNm 3) (zA (gNm 4) (zA (gNm 5) (xS))))))) (qM (sIf (xV (zO (dTr (d2 kA (qB 2) (qB 3)))) (xV (zO (dTr (d2 kA (qB 4) (qB 5)))) (zO (dTr (d2 kA (qU (qA (qB 2) (qA (qB 3) (qC)))) (qU (qA (qB 4) (qA (qB 5) (qC))))))))) (qZ (dC (.bl false))) (zI)) (qZ (d2 gEq (qG 2 S__law_far (qA (qB 2) (qA (qB 3) (qC)))) (qG 2 S__law_far (qA (qB 4) (qA (qB 5) (qC)))))))))
@[irreducible] def S__law_is_likeness:DF:=sh (z9 6 b__law_is_likeness)
def uG:S__law_is_likeness=z9 6 b__law_is_likeness:=by delta S__law_is_likeness;exact xD _
@[reducible] def b__law_first_like:DS:=qM (kB 1 2 (qA (Z9) (qA (n9 (qC)) (qC)))) (qM (yI (wZ (qG 1 S__law_pairs (qA (qB 0) (qC)))) (gTp 2 (zA (gNm 3) (zA (gNm 4) (xS)))) (qM (zC (qG 2 S__law_far (qA (qB 3) (qA (qB 4) (qC)))) (gNm 5)) (sIf (dTr (d2 tI (qB 5) (qB 1))) (yW (dBm "list" yD (qB 2) (qA (d2 qL (d2 f9 (qB 1) (qB 5)) (qU (qA (qB 3) (qA (qB 4) (qC))))) (qC)))) (zC (qU (qA (qB 3) (qA (qB 4) (qC)))) (gSb (qB 1) (qB 5) vL))))) (qZ (nB (qA (qB 2) (qC)) (dC .non))))
@[irreducible] def S__law_first_like:DF:=sh (z9 6 b__law_first_like)
def uP:S__law_first_like=z9 6 b__law_first_like:=by delta S__law_first_like;exact xD _
@[reducible] def b__law_came (c:Cl):DS:=tT 4 3 (bS c) (qZ (dIf (dTr (d2 gEq (qB 0) (dC (.int 0)))) (qG 1 (S_first_like c) (qA (qB 1) (qC))) (qG 2 (S_is_likeness c) (qA (qB 1) (qA (qB 2) (qC)))))) (qZ (qG 1 (S__law_kind_of c) (qA (qB 3) (qC))))
@[irreducible] def S__law_came (c:Cl):DF:=sh (z9 4 (b__law_came c))
def j9 (c:Cl):S__law_came c=z9 4 (b__law_came c):=by delta S__law_came;exact xD _
@[reducible] def b__law_bent:DS:=qM (kB 3 4 (qA (qG 2 S__law_draw (qA (qB 0) (qA (dC (.int 12)) (qC)))) (qA (qG 2 S__law_draw (qA (qB 0) (qA (dC (.int 4)) (qC)))) (qC)))) (qM (zC (d2 gIx (qB 1) (qG 2 S__law_draw (qA (qB 0) (qA (qE zE (qA (qB 1) (qC))) (qC))))) (gNm 5)) (qM (zC (qE wN (qA (qX false [none] (dIt (qB 2)) (gNm 0) (zG) (zD (qE wN (qA (qX false [none] (dIt (qB 0)) (gNm 0) (zG) (zD (d2 gIx (zJ (qA (qB 0) (qA (d2 gEq (qB 0) (dC (.int 1))) (qC)))) (qE kU (qA (zY gLe gLt (dC (.int 0)) (qB 0) (dC (.int 2))) (qC)))))) (qC))))) (qC))) (gNm 6)) (qM (zC (zJ (qA (d2 qL (dSl (qB 2) (qN (dC (.int 2))) (qS)) (dSl (qB 2) (qS) (qN (dC (.int 2))))) (qA (d2 qL (ZD (qB 2) (dC (.int 1)) (d1 u9 (dC (.int 1)))) (dSl (qB 2) (qN (dC (.int 2))) (qS))) (qA (d2 qL (d2 qL (dSl (qB 2) (qS) (qN (qB 4))) (qU (qA (qB 5) (qC)))) (dSl (qB 2) (qN (d2 qL (qB 4) (dC (.int 1)))) (qS))) (qA (qE jQ (qA (qB 2) (qC))) (qC)))))) (gNm 7)) (qM (zC (d2 qL (qB 7) (zJ (qA (dSl (qB 2) (qS) (qN (dC (.int 3)))) (qA (d2 qL (qB 2) (dSl (qB 2) (qS) (qN (dC (.int 1))))) (qA (qB 6) (qA (qU (qA (dSl (qB 2) (qS) (qN (dC (.int 2)))) (qA (dSl (qB 2) (qN (dC (.int 2))) (qS)) (qC)))) (qA (d2 uV (dSl (qB 2) (qS) (qN (dC (.int 2)))) (dC (.int 2))) (qA (dC .non) (qC))))))))) (gNm 7)) (qM (zC (d2 gIx (zJ (qA (dC .non) (qA (qE jQ (qA (qB 5) (qC))) (qA (vI) (qA (qU (qA (qB 5) (qC))) (qC)))))) (qB 4)) (gNm 8)) (qZ (d2 gIx (d2 qL (qB 7) (zJ (qA (d2 qL (d2 qL (dSl (qB 2) (qS) (qN (qB 4))) (qU (qA (qB 8) (qC)))) (dSl (qB 2) (qN (d2 qL (qB 4) (dC (.int 1)))) (qS))) (qA (d2 uV (qU (qA (vI) (qC))) (dC (.int 4))) (qC))))) (qB 3))))))))
@[irreducible] def S__law_bent:DF:=sh (z9 9 b__law_bent)
def gX:S__law_bent=z9 9 b__law_bent:=by delta S__law_bent;exact xD _
@[reducible] def b_law (c:Cl):DS:=qM (zC (zJ (qA (qU (qA (qU (qA (dC (.int 5)) (qA (dC (.int 5)) (qC)))) (qA (qU (qA (dC (.int 5)) (qA (dC (.int 6)) (qC)))) (qA (qU (qA (dC (.int 7)) (qA (dC (.int 7)) (qC)))) (qA (qU (qA (dC (.int 7)) (qA (dC (.int 8)) (qC)))) (qC)))))) (qA (qU (qA (qU (qA (dC (.int 0)) (qA (dC (.int 0)) (qC)))) (qA (qU (qA (dC (.int 0)) (qA (dC (.int 1)) (qC)))) (qA (qU (qA (dC (.int 0)) (qA (dC (.int 1)) (qC)))) (qA (qU (qA (dC (.int 0)) (qA (dC (.int 2)) (qC)))) (qC)))))) (qC)))) (gNm 1)) (qM (yI (wZ (d2 qL (qB 1) (zJ (qA (qU (qA (qU (qA (d1 u9 (dC (.int 1))) (qA (dC (.int 0)) (qC)))) (qA (qU (qA (dC (.int 0)) (qA (dC (.int 0)) (qC)))) (qA (qU (qA (dC (.int 0)) (qA (dC (.int 0)) (qC)))) (qA (qU (qA (dC (.int 0)) (qA (dC (.int 1)) (qC)))) (qC)))))) (qC))))) (gNm 2) (sIf (dTr (d2 kL (qG 3 (S__law_came c) (qA (dC (.int 1)) (qA (qU (qA (qU (qA (dC (.int 0)) (qA (dC (.int 0)) (qC)))) (qA (qU (qA (dC (.int 0)) (qA (dC (.int 1)) (qC)))) (qC)))) (qA (qB 2) (qC))))) (dC (.bl false)))) (qZ (dC (.bl false))) (zI))) (qM (yI (wZ (d2 qL (zJ (qA (qG 2 S__law_cell (qA (qB 0) (qA (dC (.int 0)) (qC)))) (qC))) (dSl (qB 0) (qN (dC (.int 1))) (qN (dC (.int 4)))))) (gNm 3) (qM (zC (qG 1 S__law_pen (qA (qB 3) (qC))) (gNm 4)) (qM (zC (qU (qA (qG 2 S__law_lot (qA (qB 4) (qA (dC (.int 14)) (qC)))) (qA (qG 2 S__law_lot (qA (qB 4) (qA (dC (.int 40)) (qC)))) (qC)))) (gTp 2 (zA (gNm 5) (zA (gNm 6) (xS))))) (qM (kB 7 8 (qA (qG 1 S__law_pairs (qA (qB 5) (qC))) (qA (qG 1 S__law_first_like (qA (qB 5) (qC))) (qC)))) (qM (sIf (xV (zO (dTr (qG 2 S__law_same (qA (qG 3 (S__law_came c) (qA (dC (.int 0)) (qA (qB 5) (qA (dC (.int 0)) (qC))))) (qA (qB 8) (qC)))))) (zO (dTr (qG 2 S__law_same (qA (qG 3 (S__law_came c) (qA (dC (.int 0)) (qA (qB 5) (qA (dC (.int 0)) (qC))))) (qA (qB 8) (qC))))))) (qZ (dC (.bl false))) (zI)) (qM (zC (qG 1 S__law_first_like (qA (qB 6) (qC))) (gNm 9)) (qM (sIf (zO (dTr (qG 2 S__law_same (qA (qG 3 (S__law_came c) (qA (dC (.int 0)) (qA (qB 6) (qA (dC (.int 0)) (qC))))) (qA (qB 9) (qC)))))) (qZ (dC (.bl false))) (zI)) (qM (sIf (y9 (dTr (d2 pH (qB 9) (dC .non))) (dTr (d2 kL (qG 3 (S__law_came c) (qA (dC (.int 1)) (qA (qB 6) (qA (qB 9) (qC))))) (dC (.bl true))))) (qZ (dC (.bl false))) (zI)) (qM (zC (zJ (qC)) (gNm 10)) (qM (yI (n8 (qA (qB 7) (qC))) (gTp 2 (zA (gNm 11) (zA (gNm 12) (xS)))) (qM (zC (qG 2 S__law_far (qA (d2 gIx (qB 12) (dC (.int 0))) (qA (d2 gIx (qB 12) (dC (.int 1))) (qC)))) (gNm 13)) (zC (d2 qL (qB 10) (qX false [none,Aa 13,Aa 12] (dIt (dSl (qB 7) (qN (d2 qL (qB 11) (dC (.int 1)))) (qS))) (gNm 0) (y9 (dTr (d2 gEq (qG 2 (okO S__law_far) (qA (d2 gIx (qB 0) (dC (.int 0))) (qA (d2 gIx (qB 0) (dC (.int 1))) (qC)))) (qB 1))) (zG)) (zD (d2 qL (qB 2) (qB 0))))) (gNm 10)))) (qM (zC (qE wN (qA (qX false [none,Aa 5,Aa 4] (wB (yL (qA (dC (.int 4)) (qC)))) (gNm 0) (zG) (zD (d2 gIx (qB 1) (qG 2 (okO S__law_draw) (qA (qB 2) (qA (qE zE (qA (qB 1) (qC))) (qC))))))) (qC))) (gNm 14)) (qM (zC (dIf (dTr (d2 gNe (qB 10) (zJ (qC)))) (d2 gIx (qB 10) (qG 2 S__law_draw (qA (qB 4) (qA (qE zE (qA (qB 10) (qC))) (qC))))) (qB 14)) (gNm 1)) (qM (zC (zJ (qA (qB 1) (qA (qB 14) (qA (qU (qC)) (qA (dC .non) (qA (dC (.str "0,0")) (qA (vI) (qA (qE wN (qA (qE pF (qA (qB 14) (qC))) (qC))) (qC))))))))) (gNm 15)) (qM (yI (wZ (d2 qL (d2 qL (qB 15) (qX false [none,Aa 5,Aa 4,Aa 1] (wB (yL (qA (dC (.int 4)) (qC)))) (gNm 0) (zG) (zD (qG 3 (okO S__law_bent) (qA (qB 2) (qA (qB 1) (qA (qB 3) (qC)))))))) (zJ (qA (qG 3 S__law_bent (qA (qB 4) (qA (qB 5) (qA (qB 14) (qC))))) (qC))))) (gNm 2) (qM (kB 16 17 (qA (qE mB (qA (qB 2) (qC))) (qA (qG 2 S__law_is_likeness (qA (qB 5) (qA (qB 2) (qC)))) (qC)))) (sIf (xV (zO (dTr (qG 2 S__law_same (qA (qG 3 (S__law_came c) (qA (dC (.int 1)) (qA (qB 5) (qA (qB 2) (qC))))) (qA (qB 17) (qC)))))) (dTr (d2 gNe (qE mB (qA (qB 2) (qC))) (qB 16)))) (qZ (dC (.bl false))) (zI)))) (qM (zC (qG 2 S__law_no_lot (qA (qB 4) (qA (qB 5) (qC)))) (gNm 18)) (sIf (dTr (d2 gNe (qX false [none,Aa 18,Aa 1] (wB (yL (qA (dC (.int 2)) (qC)))) (gNm 0) (zG) (zD (qG 3 (okO (S__law_came c)) (qA (qB 0) (qA (qB 1) (qA (qB 2) (qC))))))) (d2 pV (zJ (qA (dC (.str "lot")) (qC))) (dC (.int 2))))) (qZ (dC (.bl false))) (zI))))))))))))))))) (qZ (dC (.bl true)))))
end _K
namespace _K
open PySem _D
variable {kvs:Ab (_L.Key × D)}{cl:Ab Af}{ks:Ab Ak}{xs ys as:Ab D}{C B:Af}{j n i:Ai}{b:Aq}{f:DE}{g:DS}{P:D→Prop}{Q:D→Sto→Prop}{S' S1:Sto}
def uI (i j:Ak)(S:Sto):gEq (.int i) (.int j) S=.ok (.bl (decide (i=j))) S:=by kernel_rfl!
def d8 (i j:Ak)(S:Sto):gNe (.int i) (.int j) S=.ok (.bl (decide (i≠j))) S:=by
 have h:gNe (.int i) (.int j) S=.ok (.bl (!decide (i=j))) S:=by kernel_rfl!
 rw[h,← decide_not]
def jF (i j:Ak)(S:Sto)(h : -(2 ^ 64)<i∧i<2 ^ 64):w9 (.int i) (.int j) S=.ok (.int (i*j)) S:=by
 unfold w9 i2;rw[hW];unfold hJ;simp only[h,and_self,decide_true,wE,Dh]
def wD (i j:Ak)(S:Sto):qL (.int i) (.int j) S=.ok (.int (i+j)) S:=rfl
def wF (h:xs.length+ys.length≤lim)(S:Sto):qL (.lst xs) (.lst ys) S=.ok (.lst (xs++ys)) S:=Bd h
def XH {S:Sto}(h:S[j]? = Aa (.lst xs)):tyD (.loc j) S=Aa "list":=by
 show (match S[j]? with|some (.lst _)=>Aa "list" | some (.dct _)=>Aa "dict" | _=>none)=_
 rw[h]
def eX {S:Sto}(h:S[j]? = Aa (.lst xs))(hl:xs.length<lim)(d:D):yD (.loc j) [d] S=.ok .non (S.set j (.lst (xs++[d]))):=by
 show (match S[j]? with|some (.lst xs)=>(if xs.length<lim then Res.ok D.non (S.set j (.lst (xs++[d]))) else .bad)|_=>.bad)=_
 rw[h];exact Bd hl
def jV (d:D)(b a:Ea)(S:Sto)(ho:jJ b=true)(h:tyD d S=Aa a):zK [d,.ty b] S=.ok (.bl (w4 a b)) S:=by
 unfold zK;simp[ho,h]
def tO (xs:Ab D)(S:Sto):zE [.lst xs] S=.ok (.int xs.length) S:=rfl
def uA (xs:Ab D)(S:Sto):zE [.tup xs] S=.ok (.int xs.length) S:=rfl
def uL:jJ "int" = true∧jJ "bool" = true∧jJ "tuple" = true∧jJ "list" = true∧jJ "str" = true:=kd
def QL:w4 "int" "tuple" = false∧w4 "int" "list" = false∧w4 "int" "str" = false∧w4 "int" "bool" = false∧w4 "int" "int" = true∧w4 "tuple" "tuple" = true∧w4 "tuple" "list" = false∧w4 "list" "tuple" = false∧w4 "list" "list" = true:=kd
def jE (i j:Ak)(S:Sto)(h:0<j):u7 (.int i) (.int j) S=.ok (.int (i % j)) S:=by
 unfold u7 i2;simp[h]
def pG (i j:Ak)(S:Sto)(h:0<j∧j<1073741824):vR (.int i) (.int j) S=.ok (.int (i/j)) S:=by
 unfold vR i2 NZ;simp[h]
def yZ (d:D):Prop:=∀ S,tyD d S=Aa "NoneType" ∨ tyD d S=Aa "bool" ∨ tyD d S=Aa "str" ∨ tyD d S=Aa "tuple" ∨ tyD d S=Aa "list" ∨ tyD d S=Aa "dict"
def dS (i:Ak)(S:Sto):S_is_whole [.int i] S=.ok (.bl true) S:=by
 rw[k9]
 kernel_rfl!
def rY (d:D)(S:Sto)(h:yZ d):S_is_whole [d] S=.ok (.bl false) S:=by
 rw[k9];unfold b_is_whole;rcases h S with h|h|h|h|h|h <;> simp[z9,j2,MJ,qAZ,qAY,qM,sIf,qZ,zI,yW,zC,gNm,gSb,gTp,zA,xS,kB,OZ,qAh,O1,dC,qB,d1,d2,qA,qC,qE,qG,dTr,zO,xV,zG,y7,ZC,dIf,zY,qU,zJ,n9,dBm,dSl,qN,qS,wZ,yL,Res.bind,Res.toS,_D.j1,_D.uD,qAb,qAa,HC,qAi,qAd,qAe,qAf,qAc,qAX,qAW,DR,gLt,gLe,gGt,gGe,_D.xR,qAg,jV _ _ _ _ uL.1 h,jV _ _ _ _ uL.2.1 h,w4]
def G0 (i a b:Ak)(S:Sto):S_is_within [.int i,.int a,.int b] S=.ok (.bl (decide (a≤i∧i≤b))) S:=by
 rw[jB];unfold b_is_within;simp[z9,j2,MJ,qAZ,qAY,qM,sIf,qZ,zI,yW,zC,gNm,gSb,gTp,zA,xS,kB,OZ,qAh,O1,dC,qB,d1,d2,qA,qC,qE,qG,dTr,zO,xV,zG,y7,ZC,dIf,zY,qU,zJ,n9,dBm,dSl,qN,qS,wZ,yL,Res.bind,Res.toS,_D.j1,_D.uD,qAb,qAa,HC,qAi,qAd,qAe,qAf,qAc,qAX,qAW,DR,gLt,gLe,gGt,gGe,_D.xR,qAg,dS];by_cases h:a≤i <;> simp[h,MJ]
def iP (d:D)(a b:Ak)(S:Sto)(h:yZ d):S_is_within [d,.int a,.int b] S=.ok (.bl false) S:=by
 rw[jB];unfold b_is_within;simp[z9,j2,MJ,qAZ,qAY,qM,sIf,qZ,zI,yW,zC,gNm,gSb,gTp,zA,xS,kB,OZ,qAh,O1,dC,qB,d1,d2,qA,qC,qE,qG,dTr,zO,xV,zG,y7,ZC,dIf,zY,qU,zJ,n9,dBm,dSl,qN,qS,wZ,yL,Res.bind,Res.toS,_D.j1,_D.uD,qAb,qAa,HC,qAi,qAd,qAe,qAf,qAc,qAX,qAW,DR,gLt,gLe,gGt,gGe,_D.xR,qAg,rY d S h]
def SZ:yZ .non:=λ_=>.inl rfl
def A3 (b:Aq):yZ (.bl b):=λ_=>.inr (.inl rfl)
def R0 (x:As):yZ (.str x):=λ_=>.inr (.inr (.inl rfl))
def R3 (x:Ab D):yZ (.tup x):=λ_=>.inr (.inr (.inr (.inl rfl)))
def SY (x:Ab D):yZ (.lst x):=λ_=>.inr (.inr (.inr (.inr (.inl rfl))))
def SX:yZ .dct0:=λ_=>.inr (.inr (.inr (.inr (.inr rfl))))
def zW (S:Sto)(p:Ai):Prop:=∃ v f:Ak,S[p]? = Aa (.lst [.int v,.int f])
def fG (p:Ai)(k:Ak)(xs:Ab D)(d:D)(S:Sto)(h:S[p]? = Aa (.lst xs))(hk:_L.atI xs k=Aa d):gIx (.loc p) (.int k) S=.ok d S:=by
 show (match S[p]? with|some (.lst xs)=>_D.uD (_L.atI xs k) S|_=>.bad)=_
 rw[h];show _D.uD (_L.atI xs k) S=_;rw[hk];rfl
def PV (v f:Ak):_L.atI [D.int v,D.int f] 0=Aa (.int v):=rfl
def AJ (v f:Ak):_L.atI [D.int v,D.int f] 1=Aa (.int f):=rfl
def Q2 (p:Ai)(v f w:Ak)(S:Sto)(h:S[p]? = Aa (.lst [.int v,.int f])):vL (.loc p) (.int 0) (.int w) S=.ok () (S.set p (.lst [.int w,.int f])):=by
 simp[vL,tK,h,_L.ixN]
def VD (S:Sto)(p:Ai)(m:Ak)(h:zW S p)(hm:0<m∧m<1073741824):∃ r v f:Ak,S__law_draw [.loc p,.int m] S=.ok (.int r) (S.set p (.lst [.int v,.int f]))∧0≤r∧r<m:=by
 obtain⟨v,f,hp⟩:=h;have hpl:=(Bb.mp hp).1;have g0:=fG p 0 _ _ S hp (PV v f);have g1:=fG p 1 _ _ S hp (AJ v f);rw[gZ];unfold b__law_draw;by_cases hf:f=1
 ·refine⟨v % m,v/m,f,?_,Jp _ om,Hy _ hm.1⟩
  subst hf;simp[z9,j2,MJ,qAZ,qAY,qM,sIf,qZ,zI,yW,zC,gNm,gSb,gTp,zA,xS,kB,OZ,qAh,O1,dC,qB,d1,d2,qA,qC,qE,qG,dTr,zO,xV,zG,y7,ZC,dIf,zY,qU,zJ,n9,dBm,dSl,qN,qS,wZ,yL,Res.bind,Res.toS,_D.j1,_D.uD,qAb,qAa,HC,qAi,qAd,qAe,qAf,qAc,qAX,qAW,DR,gLt,gLe,gGt,gGe,_D.xR,qAg,g0,g1,uI,jE v m S hm.1,pG v m S hm,Q2 p v 1 (v/m) S hp]
 ·obtain⟨w,hw⟩:∃ w:Ak,w=(v % 2147483629*48271+11) % 2147483629:=⟨_,rfl⟩
  have hw1:0≤w∧w<2147483629:=by rw[hw];exact⟨Jp _ om,Hy _ om⟩
  have hv1:0≤v % 2147483629∧v % 2147483629<2147483629:=⟨Jp _ om,Hy _ om⟩;have hp':(S.set p (MO.lst [.int w,.int f]))[p]? = Aa (.lst [.int w,.int f]):=by simp[hpl]
  have k0:=fG p 0 _ _ (S.set p (MO.lst [.int w,.int f])) hp' (PV w f);have m1:=jF (v % 2147483629) 48271 S ⟨by omega,by omega⟩
  have m2:=jF w w (S.set p (MO.lst [.int w,.int f])) ⟨by omega,by omega⟩
  have m3:=jF 40692 w (S.set p (MO.lst [.int w,.int f])) ⟨by omega,by omega⟩
  have d1:=jE v 2147483629 S om;have d2':=jE (v % 2147483629*48271+11) 2147483629 S om;rw[← hw] at d2';have d3:=jE (w*w+40692*w) 2147483647 (S.set p (MO.lst [.int w,.int f])) om;have d4:=pG ((w*w+40692*w) % 2147483647) 8 (S.set p (MO.lst [.int w,.int f])) om;have d5:=jE ((w*w+40692*w) % 2147483647/8) m (S.set p (MO.lst [.int w,.int f])) hm.1;refine⟨(w*w+40692*w) % 2147483647/8 % m,w,f,?_,Jp _ om,Hy _ hm.1⟩;simp[z9,j2,MJ,qAZ,qAY,qM,sIf,qZ,zI,yW,zC,gNm,gSb,gTp,zA,xS,kB,OZ,qAh,O1,dC,qB,d1,d2,qA,qC,qE,qG,dTr,zO,xV,zG,y7,ZC,dIf,zY,qU,zJ,n9,dBm,dSl,qN,qS,wZ,yL,Res.bind,Res.toS,_D.j1,_D.uD,qAb,qAa,HC,qAi,qAd,qAe,qAf,qAc,qAX,qAW,DR,gLt,gLe,gGt,gGe,_D.xR,qAg,g0,g1,uI,hf,d1,m1,wD,d2',Q2 p v f w S hp,k0,m2,m3,d3,d4,d5]
def aJ {S:Sto}{p:Ai}(h:zW S p)(v f:Ak):zW (S.set p (.lst [.int v,.int f])) p:=by
 obtain⟨v0,f0,hp⟩:=h;have hpl:=(Bb.mp hp).1;exact⟨v,f,by simp[hpl]⟩
def pN {S:Sto}{p:Ai}(h:zW S p)(e:S<+:S'):zW S' p:=by
 obtain⟨v0,f0,hp⟩:=h;obtain⟨r,rfl⟩:=e;exact⟨v0,f0,by rw[Bl (Bb.mp hp).1];exact hp⟩
def RW (S:Sto):jG (.int 10) (.int 18) S=.ok (.int 1000000000000000000) S:=rfl
def RX (S:Sto):jG (.int 10) (.int 29) S=.ok (.int 100000000000000000000000000000) S:=rfl
def AS (x:Ak)(S:Sto):∃ f:Ak,S__law_pen [.int x] S=.ok (.loc S.length) (S++[.lst [.int x,.int f]]):=by
 refine⟨b01 (decide (1000000000000000000≤x)),?_⟩;have l2:2≤lim:=by decide
 rw[bI];unfold b__law_pen;simp[z9,j2,MJ,qAZ,qAY,qM,sIf,qZ,zI,yW,zC,gNm,gSb,gTp,zA,xS,kB,OZ,qAh,O1,dC,qB,d1,d2,qA,qC,qE,qG,dTr,zO,xV,zG,y7,ZC,dIf,zY,qU,zJ,n9,dBm,dSl,qN,qS,wZ,yL,Res.bind,Res.toS,_D.j1,_D.uD,qAb,qAa,HC,qAi,qAd,qAe,qAf,qAc,qAX,qAW,DR,gLt,gLe,gGt,gGe,_D.xR,qAg,RW,o6,l2]
def EN (ns:Ab Ak)(S:Sto):∃ x:Ak,S__law_cell [.lst (ns.map D.int),.int 0] S=.ok (.int x) S:=by
 rw[gY];unfold b__law_cell;cases ns with
 |nil=>exact⟨0,by simp[z9,j2,MJ,qAZ,qAY,qM,sIf,qZ,zI,yW,zC,gNm,gSb,gTp,zA,xS,kB,OZ,qAh,O1,dC,qB,d1,d2,qA,qC,qE,qG,dTr,zO,xV,zG,y7,ZC,dIf,zY,qU,zJ,n9,dBm,dSl,qN,qS,wZ,yL,Res.bind,Res.toS,_D.j1,_D.uD,qAb,qAa,HC,qAi,qAd,qAe,qAf,qAc,qAX,qAW,DR,gLt,gLe,gGt,gGe,_D.xR,qAg,tO]⟩
 |cons n ns =>
  refine⟨n,?_⟩;have h:(0:Ak)<(ns.length:Ak)+1:=by omega
  have a:_L.atI (D.int n::ns.map D.int) 0=Aa (.int n):=by simp[_L.atI,_L.ixN,h]
  simp[z9,j2,MJ,qAZ,qAY,qM,sIf,qZ,zI,yW,zC,gNm,gSb,gTp,zA,xS,kB,OZ,qAh,O1,dC,qB,d1,d2,qA,qC,qE,qG,dTr,zO,xV,zG,y7,ZC,dIf,zY,qU,zJ,n9,dBm,dSl,qN,qS,wZ,yL,Res.bind,Res.toS,_D.j1,_D.uD,qAb,qAa,HC,qAi,qAd,qAe,qAf,qAc,qAX,qAW,DR,gLt,gLe,gGt,gGe,_D.xR,qAg,tO,uJ a,h]
def pC (xs:Ab D)(r:Ak)(h:0≤r∧r<xs.length):∃ d,_L.atI xs r=Aa d∧d∈xs:=by
 have e:_L.ixN xs.length r=Aa r.toNat:=by simp[_L.ixN,h]
 have hl:r.toNat<xs.length:=by omega
 exact⟨xs[r.toNat],by simp[_L.atI,e,hl],Ga hl⟩
def BP (ns:Ab Ak)(lo hi:Am Ak):∃ ms:Ab Ak,xA (ns.map D.int) lo hi=ms.map D.int∧ms.length≤ns.length:=by
 unfold xA;rw[← Nb,← List.map_take];exact⟨_,rfl,by simp;omega⟩
def cO:DG:=gTp 2 (zA (gNm 2) (zA (gNm 3) (xS)))
def nH (S:DF):DS:=sIf (zO (dTr (qG 2 S (qA (qB 2) (qA (qB 3) (qC)))))) (qZ (dC (.bl false))) (zI)
def NW (S:DF):b__law_same S=qM (sIf (dTr (d2 gIs (qB 1) (dC .non))) (qZ (d2 gIs (qB 0) (dC .non))) (zI)) (qM (sIf (xV (dTr (qE zK (qA (qB 1) (qA (dC (.ty "tuple")) (qC))))) (dTr (qE zK (qA (qB 1) (qA (dC (.ty "list")) (qC)))))) (qM (sIf (xV (dTr (d2 gNe (qE zK (qA (qB 0) (qA (dC (.ty "tuple")) (qC)))) (qE zK (qA (qB 1) (qA (dC (.ty "tuple")) (qC)))))) (dTr (d2 gNe (qE zK (qA (qB 0) (qA (dC (.ty "list")) (qC)))) (qE zK (qA (qB 1) (qA (dC (.ty "list")) (qC))))))) (qZ (dC (.bl false))) (zI)) (qM (sIf (dTr (d2 gNe (qE zE (qA (qB 0) (qC))) (qE zE (qA (qB 1) (qC))))) (qZ (dC (.bl false))) (zI)) (qM (yI (bY (qA (qB 0) (qA (qB 1) (qC)))) cO (nH S)) (qZ (dC (.bl true)))))) (zI)) (qM (sIf (dTr (qE zK (qA (qB 1) (qA (dC (.ty "str")) (qC))))) (qZ (y7 (qE zK (qA (qB 0) (qA (dC (.ty "str")) (qC)))) (d2 gEq (qB 0) (qB 1)))) (zI)) (qZ (y7 (d2 gEq (qE zK (qA (qB 0) (qA (dC (.ty "bool")) (qC)))) (qE zK (qA (qB 1) (qA (dC (.ty "bool")) (qC))))) (y7 (qE zK (qA (qB 0) (qA (dC (.ty "int")) (qC)))) (d2 gEq (qB 0) (qB 1))))))):=rfl
def Y6 (F:DF)(x y:Am D)(S:Sto):∀ (ws:Ab D),(∀ d∈ws,F [d,d] S=.ok (.bl true) S)→∀ u v,∃ u' v',vM cO (nH F) (yU ws ws) [x,y,u,v] S=.nx [x,y,u',v'] S:=by
 intro ws
 induction ws with
 |nil=>exact λ_ u v=>⟨u,v,rfl⟩
 |cons w ws ih =>
  intro h u v;obtain⟨u',v',e⟩:=ih (λd hd=>h d (Bu _ hd)) (Aa w) (Aa w);refine⟨u',v',?_⟩;have hw:=h w (Dd ..);have hg:cO (.tup [w,w]) [x,y,u,v] S=.ok [x,y,Aa w,Aa w] S:=rfl;have hf:nH F [x,y,Aa w,Aa w] S=.nx [x,y,Aa w,Aa w] S:=by
   unfold nH;simp[z9,j2,MJ,qAZ,qAY,qM,sIf,qZ,zI,yW,zC,gNm,gSb,gTp,zA,xS,kB,OZ,qAh,O1,dC,qB,d1,d2,qA,qC,qE,qG,dTr,zO,xV,zG,y7,ZC,dIf,zY,qU,zJ,n9,dBm,dSl,qN,qS,wZ,yL,Res.bind,Res.toS,_D.j1,_D.uD,qAb,qAa,HC,qAi,qAd,qAe,qAf,qAc,qAX,qAW,DR,gLt,gLe,gGt,gGe,_D.xR,qAg,hw]
  have hz:yU (w::ws) (w::ws)=D.tup [w,w]::yU ws ws:=rfl;rw[hz];unfold vM;simp only[hg,Res.toS,hf];exact e
def okD:Ai→D→Prop
 |n+1,.tup xs=>∀ x∈xs,okD n x
 |n+1,.lst xs=>∀ x∈xs,okD n x
 |_,.int _=>Kj
 |_,.bl _=>Kj
 |_,.non=>Kj
 |_,_=>Fe
def ER {t:DT}{f:DS}{env:qF}{S:Sto}(h:t env S=.ok b S1)(k:Rt ((if b then f else g) env S1) Q):Rt (sIf t f g env S) Q:=by
 obtain⟨d,S2,e2,q⟩:=k;refine⟨d,S2,?_,q⟩;unfold sIf;rw[h];cases b <;> exact e2
def vQ {f:DS}{env:qF}{S:Sto}(h:Rt (f env S) Q):Rt (qM f g env S) Q:=by
 obtain⟨d,S2,e2,q⟩:=h;exact⟨d,S2,by unfold qM;rw[e2],q⟩
def jY {ds:Ab D}{S:Sto}{d:D}{env:qF}(hs:j2 n ds=env)(h:Rt (g env S) λd' S1=>d'=d∧S1=S'):z9 n g ds S=.ok d S':=by
 obtain⟨d',S1,e,rfl,rfl⟩:=h;exact yS hs e
def i3 (F:DF)(d:D)(ws:Ab D)(S:Sto)(h1:gIs d .non S=.ok (.bl false) S)(h2:xV (dTr (qE zK (qA (qB 1) (qA (dC (.ty "tuple")) (qC))))) (dTr (qE zK (qA (qB 1) (qA (dC (.ty "list")) (qC))))) [Aa d,Aa d,none,none] S=.ok true S)
  (h3:xV (dTr (d2 gNe (qE zK (qA (qB 0) (qA (dC (.ty "tuple")) (qC)))) (qE zK (qA (qB 1) (qA (dC (.ty "tuple")) (qC)))))) (dTr (d2 gNe (qE zK (qA (qB 0) (qA (dC (.ty "list")) (qC)))) (qE zK (qA (qB 1) (qA (dC (.ty "list")) (qC)))))) [Aa d,Aa d,none,none] S=.ok false S)
  (h4:zE [d] S=.ok (.int ws.length) S) (h5:XM [d,d]=Aa (yU ws ws)) (ih:∀ x∈ws,F [x,x] S=.ok (.bl true) S):z9 4 (b__law_same F) [d,d] S=.ok (.bl true) S:=by
 rw[NW];obtain⟨u',v',e⟩:=Y6 F (Aa d) (Aa d) S ws ih none none;have h1':dTr (d2 gIs (qB 1) (dC .non)) [Aa d,Aa d,none,none] S=.ok false S:=by
  show (Res.bind (gIs d .non S) λd S1=>j1 (w8 d S1) S1)=_;rw[h1];rfl
 have h4':dTr (d2 gNe (qE zE (qA (qB 0) (qC))) (qE zE (qA (qB 1) (qC)))) [Aa d,Aa d,none,none] S=.ok false S:=by
  show (Res.bind (Res.bind (zE [d] S) λa S1=>Res.bind (zE [d] S1) λb S2=>gNe a b S2) λd S1=>j1 (w8 d S1) S1)=_;rw[h4];show (Res.bind (Res.bind (zE [d] S) λb S2=>gNe (.int ws.length) b S2) λd S1=>j1 (w8 d S1) S1)=_;rw[h4];show (Res.bind (gNe (.int ws.length) (.int ws.length) S) λd S1=>j1 (w8 d S1) S1)=_;rw[d8,Bs (λh=>h rfl)];rfl
 have h5':bY (qA (qB 0) (qA (qB 1) (qC))) [Aa d,Aa d,none,none] S=.ok (yU ws ws) S:=by
  show _D.uD (XM [d,d]) S=_;rw[h5];rfl
 exact jY rfl (qY (xQ h1' (xC rfl (vQ (ER h2 (qY (xQ h3 (xC rfl (qY (xQ h4' (xC rfl (qY (uY h5' (xC e (xK (xG rfl ⟨rfl,rfl⟩))))))))))))))))
def i7 (F:DF)(i:Ak)(S:Sto):z9 4 (b__law_same F) [.int i,.int i] S=.ok (.bl true) S:=by
 have h:z9 4 (b__law_same F) [.int i,.int i] S=.ok (.bl (i == i)) S:=by kernel_rfl!
 rw[h,El]
def Q9 (F:DF)(b:Aq)(S:Sto):z9 4 (b__law_same F) [.bl b,.bl b] S=.ok (.bl true) S:=by
 cases b <;> kernel_rfl!
def i8 (F:DF)(S:Sto):z9 4 (b__law_same F) [.non,.non] S=.ok (.bl true) S:=by kernel_rfl!
def fU:∀ (n:Ai) (d:D) (S:Sto),okD n d→bC (n+1) [d,d] S=.ok (.bl true) S:=by
 intro n
 induction n with
 |zero =>
  intro d S h;cases d with
  |int i=>exact i7 _ i S
  |bl b=>exact Q9 _ b S
  |non=>exact i8 _ S
  |_=>exact Ap h
 |succ n ih =>
  intro d S h;cases d with
  |tup ws=>exact i3 (bC (n+1)) (.tup ws) ws S rfl (by kernel_rfl!) (by kernel_rfl!) rfl rfl λx hx=>ih x S (h x hx)
  |lst ws=>exact i3 (bC (n+1)) (.lst ws) ws S rfl (by kernel_rfl!) (by kernel_rfl!) rfl rfl λx hx=>ih x S (h x hx)
  |int i=>exact i7 _ i S
  |bl b=>exact Q9 _ b S
  |non=>exact i8 _ S
  |_=>exact Ap h
def JO (hC:C∈cl)(hB:B∈cl)(S:Sto):xE cl [.exn (.ref C),.obj B] S=.ok (.bl (C == B)) S:=by
 show (if (cl.contains C&&cl.contains B)=true then Res.ok (D.bl (C == B)) S else .bad)=_
 rw[Ft.mpr hC,Ft.mpr hB];rfl
def FS (hC:C∈cl)(S:Sto):xE cl [.exn (.ref C),.ty "ValueError"] S=.ok (.bl true) S:=by
 show (if (cl.contains C&&(("ValueError" : Ea) == "ValueError"))=true then Res.ok (D.bl true) S else .bad)=_
 rw[Ft.mpr hC];rfl
def A1 (nd:cl.Nodup){i j:Ai}{a b:Af}(ha:cl[i]? = Aa a)(hb:cl[j]? = Aa b)(h:i≠j):(a == b)=false:=by
 rw[Gc];rintro rfl;obtain⟨h1,e1⟩:=Bb.mp ha;obtain⟨h2,e2⟩:=Bb.mp hb;exact h ((Mn nd).mp (e1.trans e2.symm))
def P9 {env:qF}{S:Sto}(h0:env[0]? = Aa (Aa (.exn (.ref C))))(hC:C∈cl)(hB:B∈cl)(e:(C == B)=b):qE (xE cl) (qA (qB 0) (qA (dC (.obj B)) (qC))) env S=.ok (.bl b) S:=by
 unfold qE qA qB;rw[h0];exact(JO hC hB S).trans (e▸rfl)
def CQ {env:qF}{S:Sto}(h0:env[0]? = Aa (Aa (.exn (.ref C))))(hC:C∈cl):qE (xE cl) (qA (qB 0) (qA (dC (.ty "ValueError")) (qC))) env S=.ok (.bl true) S:=by
 unfold qE qA qB;rw[h0];exact FS hC S
def kT {g:DA}{env:qF}{S:Sto}{a:D}(h:f env S=.ok a S)(k:g env S=.ok as S):qA f g env S=.ok (a::as) S:=by
 unfold qA;rw[h,Res.bind_ok,k];rfl
def UP {g:DA}{env:qF}{S:Sto}(k:g env S=.ok as S)(h:as.length≤lim):zJ g env S=.ok (.lst as) S:=by
 unfold zJ;rw[k,Res.bind_ok,Bd h]
def DZ {o:G2}{g:DE}{env:qF}{S:Sto}{a b:D}(h1:f env S=.ok a S)(h2:g env S=.ok b S):d2 o f g env S=o a b S:=by
 unfold d2;rw[h1,Res.bind_ok,h2];rfl
def GE {env:qF}{S:Sto}(h:f env S=.ok (.bl b) S):dTr f env S=.ok b S:=by
 unfold dTr;rw[h];rfl
def A4 {f:DT}{env:qF}{S:Sto}(h:f env S=.ok b S):zO f env S=.ok (!b) S:=by
 unfold zO;rw[h];rfl
def AG {f g:DT}{env:qF}{S:Sto}(h:f env S=.ok false S)(k:g env S=.ok false S):xV f g env S=.ok false S:=by
 unfold xV;rw[h];exact k
def vX {c:Cl}{env:qF}{S:Sto}(nd:(wH c).Nodup)(j:Ai)(h0:env[0]? = Aa (Aa (.exn (.ref c.NoLot))))(hj:(wH c)[j]? = Aa B)(h:1≠j):qE (xE (wH c)) (qA (qB 0) (qA (dC (.obj B)) (qC))) env S=.ok (.bl false) S:=P9 h0 (.tail _ (.head _)) (Cn hj) (A1 (i:=1) (j:=j) nd rfl hj h)
def aR (c:Cl)(nd:(wH c).Nodup)(S:Sto):S__law_kind_of c [.exn (.ref c.NoLot)] S=.ok (.str "lot") S:=by
 have mN:c.NoLot∈wH c:=.tail _ (.head _);rw[kD];refine jY (env:=[Aa (.exn (.ref c.NoLot)),none,none]) rfl ?_;refine qY (lA (xG (UP (kT (vX nd 0 rfl rfl (by decide)) (kT (P9 rfl mN (.tail _ (.head _)) (El _)) (kT (vX nd 2 rfl rfl (by decide)) (kT (vX nd 3 rfl rfl (by decide)) rfl)))) (by decide)) ?_))
 refine qY (lA (xG ((DZ (a:=.lst [.bl false,.bl true,.bl false,.bl false]) rfl (UP (kT (vX nd 4 rfl rfl (by decide)) (kT (vX nd 5 rfl rfl (by decide)) (kT (vX nd 6 rfl rfl (by decide)) (kT (vX nd 7 rfl rfl (by decide)) rfl)))) (by decide))).trans (c:=.ok (.lst [.bl false,.bl true,.bl false,.bl false,.bl false,.bl false,.bl false,.bl false]) S) (by kernel_rfl!)) ?_))
 refine qY (lA (xG ((DZ (a:=.lst [.bl false,.bl true,.bl false,.bl false,.bl false,.bl false,.bl false,.bl false]) rfl (UP (kT (vX nd 8 rfl rfl (by decide)) (kT (vX nd 9 rfl rfl (by decide)) (kT (vX nd 10 rfl rfl (by decide)) rfl))) (by decide))).trans (c:=.ok (.lst [.bl false,.bl true,.bl false,.bl false,.bl false,.bl false,.bl false,.bl false,.bl false,.bl false,.bl false]) S) (by kernel_rfl!)) ?_))
 refine qY (xQ (b:=false) (S1:=S) (AG (A4 (GE (CQ (env:=[Aa (.exn (.ref c.NoLot)),Aa (.lst [.bl false,.bl true,.bl false,.bl false,.bl false,.bl false,.bl false,.bl false,.bl false,.bl false,.bl false]),none]) rfl mN))) (by kernel_rfl!)) (xC (env:=[Aa (.exn (.ref c.NoLot)),Aa (.lst [.bl false,.bl true,.bl false,.bl false,.bl false,.bl false,.bl false,.bl false,.bl false,.bl false,.bl false]),none]) (S:=S) rfl ?_))
 refine qY (xQ (GE (vX nd 9 rfl rfl (by decide))) (xC (env:=[Aa (.exn (.ref c.NoLot)),Aa (.lst [.bl false,.bl true,.bl false,.bl false,.bl false,.bl false,.bl false,.bl false,.bl false,.bl false,.bl false]),none]) (S:=S) rfl ?_))
 refine qY (xQ (GE (vX nd 10 rfl rfl (by decide))) (xC (env:=[Aa (.exn (.ref c.NoLot)),Aa (.lst [.bl false,.bl true,.bl false,.bl false,.bl false,.bl false,.bl false,.bl false,.bl false,.bl false,.bl false]),none]) (S:=S) rfl ?_))
 exact X3 (d:=.str "lot") (S:=S) (by kernel_rfl!) ⟨rfl,rfl⟩
def Pn (d:D):Prop:=∃ p,pyD d=Aa p
def YT {d:D}(h:Pn d):(∃ i,d=.int i)∨yZ d:=by
 obtain⟨p,h⟩:=h;cases d with
 |int i=>exact .inl ⟨i,rfl⟩
 |non=>exact .inr SZ
 |bl b=>exact .inr (A3 b)
 |str x=>exact .inr (R0 x)
 |tup x=>exact .inr (R3 x)
 |lst x=>exact .inr (SY x)
 |dct0=>exact .inr SX
 |_=>simp[pyD] at h
def pns:∀ {ps:Ab Vj},uC xs=Aa ps→∀ x∈xs,Pn x:=by
 induction xs with
 |nil=>intro ps _ x hx;cases hx
 |cons d ds ih =>
  intro ps h x hx;simp only[uC] at h;obtain⟨p,h1,h2⟩:=Dv.mp h;obtain⟨ps',h3,_⟩:=DL.mp h2;rcases Av.mp hx with rfl|hx
  ·exact⟨p,h1⟩
  ·exact ih h3 x hx
def lE (h:Pn (.tup xs)):∀ x∈xs,Pn x:=by
 obtain⟨p,h⟩:=h;simp only[pyD] at h;obtain⟨ps,h1,_⟩:=DL.mp h;exact pns h1
def ZW {d:D}(h:Pn d):(∃ xs,d=.tup xs)∨∀ S,zO (dTr (qE zK (qA (qB 0) (qA (dC (.ty "tuple")) (qC))))) [Aa d] S=.ok true S:=by
 have one:∀ (a:Ea),(∀ S,tyD d S=Aa a)→w4 a "tuple" = false→∀ S,zO (dTr (qE zK (qA (qB 0) (qA (dC (.ty "tuple")) (qC))))) [Aa d] S=.ok true S:=λa h1 h2 S=>by
  have:=wR (zX ((hX (f1:=qB 0) (f2:=dC (.ty "tuple")) (env:=[Aa d]) (S:=S) rfl rfl).trans (jV d "tuple" a S uL.2.2.1 (h1 S))));rw[h2] at this;exact this
 obtain⟨p,h⟩:=h;cases d with
 |tup xs=>exact .inl ⟨xs,rfl⟩
 |int i=>exact .inr (one "int" (λ_=>rfl) (kd))
 |non=>exact .inr (one "NoneType" (λ_=>rfl) (kd))
 |bl b=>exact .inr (one "bool" (λ_=>rfl) (kd))
 |str x=>exact .inr (one "str" (λ_=>rfl) (kd))
 |lst x=>exact .inr (one "list" (λ_=>rfl) (kd))
 |dct0=>exact .inr (one "dict" (λ_=>rfl) (kd))
 |_=>simp[pyD] at h
def jI (xs:Ab D)(S:Sto):zO (dTr (qE zK (qA (qB 0) (qA (dC (.ty "tuple")) (qC))))) [Aa (.tup xs)] S=.ok false S:=by
 have:=wR (zX ((hX (f1:=qB 0) (f2:=dC (.ty "tuple")) (env:=[Aa (.tup xs)]) (S:=S) rfl rfl).trans (jV (.tup xs) "tuple" "tuple" S uL.2.2.1 rfl)));rw[QL.2.2.2.2.2.1] at this;exact this
def isI:D→Aq
 |.int i=>decide (-1000≤i∧i≤1000)
 |_=>false
def qO:D→Aq
 |.tup [a,b]=>isI a&&isI b
 |_=>false
def WU {d:D}(h:yZ d):isI d=false:=by
 cases d with
 |int i =>
  rcases h [] with h|h|h|h|h|h <;> (rw[HC] at h;exact absurd (Ct h) (by decide))
 |_=>rfl
def qAI (x:D)(S:Sto)(h:Pn x):S_is_within [x,.int (-1000),.int 1000] S=.ok (.bl (isI x)) S:=by
 rcases YT h with⟨i,rfl⟩|h
 ·exact G0 i _ _ S
 ·rw[WU h];exact iP x _ _ S h
def iO (i:Ak)(S:Sto):S__law_whole [.int i] S=.ok (.bl true) S:=by
 rw[uQ]
 kernel_rfl!
def X0 (d:D)(S:Sto)(h:yZ d):S__law_whole [d] S=.ok (.bl false) S:=by
 rw[uQ];unfold b__law_whole;rcases h S with h|h|h|h|h|h <;> simp[z9,j2,MJ,qAZ,qAY,qM,sIf,qZ,zI,yW,zC,gNm,gSb,gTp,zA,xS,kB,OZ,qAh,O1,dC,qB,d1,d2,qA,qC,qE,qG,dTr,zO,xV,zG,y7,ZC,dIf,zY,qU,zJ,n9,dBm,dSl,qN,qS,wZ,yL,Res.bind,Res.toS,_D.j1,_D.uD,qAb,qAa,HC,qAi,qAd,qAe,qAf,qAc,qAX,qAW,DR,gLt,gLe,gGt,gGe,_D.xR,qAg,jV _ _ _ _ uL.1 h,jV _ _ _ _ uL.2.1 h,w4]
def UH (i:Ak)(S:Sto):zY gLe gLe (d1 u9 (dC (.int 1000))) (qB 0) (dC (.int 1000)) [Aa (.int i)] S=.ok (.bl (decide (-1000≤i∧i≤1000))) S:=by
 have e:d1 u9 (dC (.int 1000)) [Aa (.int i)] S=.ok (.int (-1000)) S:=rfl;unfold zY;rw[e];simp[z9,j2,MJ,qAZ,qAY,qM,sIf,qZ,zI,yW,zC,gNm,gSb,gTp,zA,xS,kB,OZ,qAh,O1,dC,qB,d1,d2,qA,qC,qE,qG,dTr,zO,xV,zG,y7,ZC,dIf,zY,qU,zJ,n9,dBm,dSl,qN,qS,wZ,yL,Res.bind,Res.toS,_D.j1,_D.uD,qAb,qAa,HC,qAi,qAd,qAe,qAf,qAc,qAX,qAW,DR,gLt,gLe,gGt,gGe,_D.xR,qAg,Res.bind];by_cases h:(-1000:Ak)≤i <;> simp[h]
def AR (x:D)(S:Sto)(h:Pn x):y7 (qG 1 (okO S__law_whole) (qA (qB 0) (qC))) (zY gLe gLe (d1 u9 (dC (.int 1000))) (qB 0) (dC (.int 1000))) [Aa x] S=.ok (.bl (isI x)) S:=by
 rcases YT h with⟨i,rfl⟩|h
 ·exact kR (a:=true) ((y8 (f1:=qB 0) rfl).trans (vE (iO i S))) (λ_=>UH i S) (by intro z;cases z)
 ·rw[WU h]
  exact kR (a:=false) (b:=false) ((y8 (f1:=qB 0) rfl).trans (vE (X0 x S h))) (by intro z;cases z) (λ_=>rfl)
def rF (fe:DE)(S:Sto)(hfe:∀ x,Pn x→fe [Aa x] S=.ok (.bl (isI x)) S)(d:D)(h:Pn d) :
  Rt (qM (sIf (xV (zO (dTr (qE zK (qA (qB 0) (qA (dC (.ty "tuple")) (qC)))))) (dTr (d2 gNe (qE zE (qA (qB 0) (qC))) (dC (.int 2))))) (qZ (dC (.bl false))) (zI)) (qZ (qE (vA false) (qA (qX false [none] (dIt (qB 0)) (gNm 0) (zG) (zD fe)) (qC)))) [Aa d] S) λd' S1=>d'=.bl (qO d)∧S1=S:=by
 rcases ZW h with⟨xs,rfl⟩|hn
 ·have hl:dTr (d2 gNe (qE zE (qA (qB 0) (qC))) (dC (.int 2))) [Aa (.tup xs)] S=.ok (decide ((xs.length:Ak)≠2)) S:=zX ((qJ ((xO (f1:=qB 0) rfl).trans (uA xs S)) rfl).trans (d8 _ _ _))
  have ht:=wC (jI xs S) (λ_=>hl) (by intro z;cases z)
  rw[Il] at ht;by_cases h2:xs.length=2
  ·rw[Bs om] at ht
   refine qY (xQ ht (xC (S:=S) rfl (xK (xG ?_ (d:=.bl (qO (.tup xs))) (S:=S) ⟨rfl,rfl⟩))));have hc:=bU (cap:=[none]) (g:=gNm 0) (t:=zG) (fe:=fe) (fi:=dIt (qB 0)) (env:=[Aa (.tup xs)]) (S:=S) (o:=none) (items:=xs) rfl trivial (λ_=>true) (λx=>.bl (isI x)) (λenv=>∃ a,env=[a]) ⟨none,rfl⟩ (by rw[h2];decide)
    (λx hx env ⟨a,q⟩=>by subst q;exact⟨[Aa x],rfl,⟨_,rfl⟩,rfl,λ_=>hfe x (lE h x hx)⟩)
   rw[wK] at hc;rw[bP (p:=isI) hc]
   match xs,h2 with
   |[a,b],_=>simp[qO]
  ·rw[Bi om] at ht
   refine vQ (jX ht (xK (xG (d:=.bl false) (S:=S) rfl ⟨?_,rfl⟩)))
   match xs,h2 with
   |[],_=>rfl
   |[a],_=>rfl
   |[a,b],h=>exact absurd rfl h
   |a::b::c::r,_=>rfl
 ·have ht:=wC (b:=false) (g:=dTr (d2 gNe (qE zE (qA (qB 0) (qC))) (dC (.int 2)))) (hn S) (by intro z;cases z) (λ_=>rfl)
  refine vQ (jX ht (xK (xG (d:=.bl false) (S:=S) rfl ⟨?_,rfl⟩)))
  congr 1
  unfold qO
  split
  ·have:=hn S
   rw[jI] at this;cases this
  ·rfl
def lK (d:D)(S:Sto)(h:Pn d):S_is_point [d] S=.ok (.bl (qO d)) S:=by
 rw[bJ];exact jY (env:=[Aa d]) rfl (rF _ S (λx hx=>(jP (f1:=qB 0) rfl rfl rfl).trans (vE (qAI x S hx))) d h)
def mY (d:D)(S:Sto)(h:Pn d):S__law_is_point [d] S=.ok (.bl (qO d)) S:=by
 rw[jT];exact jY (env:=[Aa d]) rfl (rF _ S (λx hx=>AR x S hx) d h)
def upB (ks:Ab (Ab Ak)):Aq:=(ks.zip (ks.drop 1)).all λp=>_H.lexLt p.1 p.2
def wA:D→Aq
 |.tup xs=>decide (1≤xs.length∧xs.length≤40)&&xs.all qO&&(match yX xs with|some ks=>upB ks|none=>false)
 |_=>false
set_option tactic.hygienic true in
def lH:∀ (xs:Ab D),xs.all qO=true→∃ ks:Ab (Ab Ak),xs=ks.map tpD
 |[],_=>⟨[],rfl⟩
 |d::ds,h=>by
  rw[Mu,Az] at h;obtain⟨ks,rfl⟩:=lH ds h.2;have h1:=h.1;unfold qO at h1
  split at h1
  ·rename_i a b
   rw[Az] at h1;cases a with
   |int x =>
    cases b with
    |int y=>exact⟨[x,y]::ks,rfl⟩
    |_=>simp[isI] at h1
   |_=>simp[isI] at h1
  ·cases h1
def CW (a b:Ab Ak)(S:Sto):tJ (tpD a) (tpD b) S=.ok (.bl (_H.lexLt a b)) S:=by
 unfold tJ tpD;simp only[sY]
def fY:∀ (ks:Ab (Ab Ak)),upB ks=true↔ks.Pairwise (λa b=>_H.lexLt a b=true)
 |[]=>by simp[upB]
 |[a]=>by simp[upB]
 |a::b::r=>by
  have ih:=fY (b::r);have e:upB (a::b::r)=(_H.lexLt a b&&upB (b::r)):=by simp[upB]
  rw[e,Az,ih,Dl (a:=a)];constructor
  ·rintro⟨h1,h2⟩
   refine⟨λx hx=>?_,h2⟩;rcases Av.mp hx with rfl|hx
   ·exact h1
   ·exact _S.vS.tr h1 ((Dl.mp h2).1 x hx)
  ·rintro⟨h1,h2⟩
   exact⟨h1 b (by simp),h2⟩
def HQ (ks ms:Ab (Ab Ak)):yU (ks.map tpD) (ms.map tpD)=(ks.zip ms).map λp=>D.tup [tpD p.1,tpD p.2]:=by
 unfold yU
 induction ks generalizing ms with
 |nil=>rfl
 |cons k ks ih =>
  cases ms with
  |nil=>rfl
  |cons m ms=>exact congrArg (_::·) (ih ms)
def HV (xs:Ab D):xA xs (Aa 1) none=xs.drop 1:=by
 unfold xA;have h1:_H.sIx xs.length 0 (Aa 1)=min 1 xs.length:=rfl;have h2:_H.sIx xs.length xs.length none=xs.length:=rfl;rw[h1,h2];cases xs with
 |nil=>rfl
 |cons x r=>simp
def iN (ks:Ab (Ab Ak))(S:Sto)(hl:ks.length≤lim):S_is_rising [.tup (ks.map tpD)] S=.ok (.bl (upB ks)) S:=by
 rw[p8];refine sA (env:=[Aa (.tup (ks.map tpD))]) rfl ?_;have hz:wB (bY (qA (qB 0) (qA (dSl (qB 0) (qN (dC (.int 1))) (qS)) (qC)))) [Aa (.tup (ks.map tpD))] S=.ok (none,(ks.zip (ks.drop 1)).map λp=>D.tup [tpD p.1,tpD p.2]) S:=by
  have hs:dSl (qB 0) (qN (dC (.int 1))) (qS) [Aa (.tup (ks.map tpD))] S=.ok (.tup ((ks.drop 1).map tpD)) S:=by
   have:gSl (.tup (ks.map tpD)) (Aa 1) none S=.ok (.tup ((ks.drop 1).map tpD)) S:=by
    show Res.ok (D.tup (xA (ks.map tpD) (Aa 1) none)) S=_;rw[HV,Nb]
   exact this
  unfold wB bY;rw[xP (f1:=qB 0) rfl hs];show Res.ok (none,yU (ks.map tpD) ((ks.drop 1).map tpD)) S=_;rw[HQ]
 have hc:=jD (enc:=λp:Ab Ak × Ab Ak=>D.tup [tpD p.1,tpD p.2]) (cap:=[none,none]) (g:=gTp 2 (zA (gNm 0) (zA (gNm 1) (xS)))) (t:=zG) (fe:=d2 tJ (qB 0) (qB 1)) hz trivial (λ_=>true) (λp=>.bl (_H.lexLt p.1 p.2)) (λenv=>∃ a b,env=[a,b]) ⟨none,none,rfl⟩ (by simp;omega)
  (λp _ env ⟨a,b,q⟩=>by
   subst q;exact⟨[Aa (tpD p.1),Aa (tpD p.2)],rfl,⟨_,_,rfl⟩,rfl,λ_=>(qJ (a:=tpD p.1) (b:=tpD p.2) rfl rfl).trans (CW _ _ _)⟩)
 rw[wK] at hc;exact bP (p:=λp:Ab Ak × Ab Ak=>_H.lexLt p.1 p.2) hc
def cY (xs:Ab D)(S:Sto)(f:DE)(hf:f [Aa (.tup xs)] S=.ok (.int 40) S):zO (dTr (zY gLe gLe (dC (.int 1)) (qE zE (qA (qB 0) (qC))) f)) [Aa (.tup xs)] S=.ok (!decide (1≤xs.length∧xs.length≤40)) S:=by
 have hl:qE zE (qA (qB 0) (qC)) [Aa (.tup xs)] S=.ok (.int xs.length) S:=(xO (f1:=qB 0) rfl).trans (uA xs S);refine wR (zX ?_);unfold zY;rw[show dC (.int 1) [Aa (.tup xs)] S=.ok (.int 1) S from rfl]
 simp only[Res.bind];rw[hl];simp[z9,j2,MJ,qAZ,qAY,qM,sIf,qZ,zI,yW,zC,gNm,gSb,gTp,zA,xS,kB,OZ,qAh,O1,dC,qB,d1,d2,qA,qC,qE,qG,dTr,zO,xV,zG,y7,ZC,dIf,zY,qU,zJ,n9,dBm,dSl,qN,qS,wZ,yL,Res.bind,Res.toS,_D.j1,_D.uD,qAb,qAa,HC,qAi,qAd,qAe,qAf,qAc,qAX,qAW,DR,gLt,gLe,gGt,gGe,_D.xR,qAg,hf];by_cases h:1≤xs.length
 ·have h':(1:Ak)≤(xs.length:Ak):=by omega
  simp[h,h'];omega
 ·have h':¬ (1:Ak)≤(xs.length:Ak):=by omega
  simp[h,h']
def aM (F:DF)(xs:Ab D)(S:Sto)(hF:∀ x,Pn x→F [x] S=.ok (.bl (qO x)) S)(h:Pn (.tup xs))(hl:xs.length≤40):qE (vA false) (qA (qX false [none] (dIt (qB 0)) (gNm 0) (zG) (zD (qG 1 (okO F) (qA (qB 0) (qC))))) (qC)) [Aa (.tup xs)] S=.ok (.bl (xs.all qO)) S:=by
 have hc:=bU (cap:=[none]) (g:=gNm 0) (t:=zG) (fe:=qG 1 (okO F) (qA (qB 0) (qC))) (fi:=dIt (qB 0)) (env:=[Aa (.tup xs)]) (S:=S) (o:=none) (items:=xs) rfl trivial (λ_=>true) (λx=>.bl (qO x)) (λenv=>∃ a,env=[a]) ⟨none,rfl⟩ (by unfold lim;omega)
  (λx hx env ⟨a,q⟩=>by subst q;exact⟨[Aa x],rfl,⟨_,rfl⟩,rfl,λ_=>(y8 (f1:=qB 0) rfl).trans (vE (hF x (lE h x hx)))⟩)
 rw[wK] at hc;exact bP (p:=qO) hc
def KY (d:D)(S:Sto)(h:Pn d):S_is_lot [d] S=.ok (.bl (wA d)) S:=by
 rw[mT];refine jY (env:=[Aa d]) rfl ?_;unfold b_is_lot;rcases ZW h with⟨xs,rfl⟩|hn
 ·have ht:=wC (jI xs S) (λ_=>cY xs S (dC (.int (40))) rfl) (by intro z;cases z)
  rw[Il] at ht;by_cases hl:1≤xs.length∧xs.length≤40
  ·rw[Bi hl] at ht
   refine qY (xQ ht (xC (S:=S) rfl (xK (xG ?_ (d:=.bl (wA (.tup xs))) (S:=S) ⟨rfl,rfl⟩))));have hp:=aM S_is_point xs S (λx hx=>lK x S hx) h hl.2;have e:wA (.tup xs)=(xs.all qO&&(match yX xs with|some ks=>upB ks|none=>false)):=by
    show (decide (1≤xs.length∧xs.length≤40)&&xs.all qO&&_)=_;rw[Bi hl,Ip]
   rw[e];refine kR hp (λha=>?_) (λ_=>rfl);obtain⟨ks,rfl⟩:=lH xs ha;rw[uO];exact(y8 (f1:=qB 0) rfl).trans (iN ks S (by rw[Ay] at hl;unfold lim;omega))
  ·rw[Bs hl] at ht
   refine vQ (jX ht (xK (xG (d:=.bl false) (S:=S) rfl ⟨?_,rfl⟩)));show _=D.bl (decide (1≤xs.length∧xs.length≤40)&&xs.all qO&&_);rw[Bs hl];rfl
 ·have ht:=wC (b:=false) (g:=zO (dTr (zY gLe gLe (dC (.int 1)) (qE zE (qA (qB 0) (qC))) (dC (.int (40)))))) (hn S) (by intro z;cases z) (λ_=>rfl)
  refine vQ (jX ht (xK (xG (d:=.bl false) (S:=S) rfl ⟨?_,rfl⟩)))
  congr 1
  unfold wA
  split
  ·have:=hn S
   rw[jI] at this;cases this
  ·rfl
def cQ {K:Type}(lt':K→K→Aq)(x:K):∀ l:Ab K,(_S.kX lt' x l).length≤l.length+1
 |[]=>by simp[_S.kX]
 |y::l=>by
  have:=cQ lt' x l;unfold _S.kX
  split
  ·simp
  ·split
   ·simp
    omega
   ·simp
def sD {K:Type}(lt':K→K→Aq):∀ l:Ab K,(_S.srt lt' l).length≤l.length
 |[]=>by simp[_S.srt]
 |x::l=>by
  have h1:=cQ lt' x (_S.srt lt' l);have h2:=sD lt' l;rw[_S.srt,Ci];omega
def QH (ks:Ab (Ab Ak))(h:ks≠[])(hl:ks.length<64)(he:∀ k∈ks,k≠[]):jM (ks.map tpD)=Aa ((_S.srt _H.lexLt ks).map tpD):=by
 unfold jM;have h0:yA (ks.map tpD)=none:=by
  cases ks with
  |nil=>exact absurd rfl h
  |cons k r=>rfl
 rw[h0,uO];have h1:=sD _H.lexLt ks;have h2:(ks.all λk=>!k.isEmpty)=true:=by
  rw[Ar];intro k hk;have:=he k hk;cases k with
  |nil=>exact absurd rfl this
  |cons _ _=>rfl
 have h3:(decide ((_S.srt _H.lexLt ks).length≤63)&&ks.all λk=>!k.isEmpty)=true:=by
  rw[h2,Bi om];rfl
 show (if (decide ((_S.srt _H.lexLt ks).length≤63)&&ks.all λk=>!k.isEmpty)=true then _ else _)=_
 rw[Bd h3]
def HG (ks:Ab (Ab Ak)):upB ks=decide (ks=_S.srt _H.lexLt ks):=by
 by_cases h:upB ks=true
 ·rw[h]
  symm
  rw[Cm];exact _S.mP _S.vS ((fY ks).mp h) (_S.gF _S.vS ks) λx=>(_S.uN _S.vS x ks).symm
 ·have h':upB ks=false:=by simpa using h
  rw[h']
  symm
  rw[Lq];intro e;apply h;rw[fY,e];exact _S.gF _S.vS ks
def iZ:∀ (a b:Ab Ak),xM (a.map D.int) (b.map D.int)=decide (a=b)
 |[],[]=>rfl
 |[],_::_=>rfl
 |_::_,[]=>rfl
 |x::a,y::b=>by
  show ((x == y)&&xM (a.map D.int) (b.map D.int))=_;rw[iZ a b];by_cases h1:x=y <;> by_cases h2:a=b <;> simp[h1,h2]
def WI:∀ (a b:Ab (Ab Ak)),xM (a.map tpD) (b.map tpD)=decide (a=b)
 |[],[]=>rfl
 |[],_::_=>rfl
 |_::_,[]=>rfl
 |x::a,y::b=>by
  show (xM (x.map D.int) (y.map D.int)&&xM (a.map tpD) (b.map tpD))=_;rw[iZ,WI a b];by_cases h1:x=y <;> by_cases h2:a=b <;> simp[h1,h2]
def aK (ks:Ab (Ab Ak)):pl xB (.lst (ks.map tpD))=true:=by
 show (ks.map tpD).all (pl 29)=true;rw[Ke,Ar];intro k _;show (k.map D.int).all (pl 28)=true;rw[Ke,Ar];intro i _;rfl
def VE (d:D)(S:Sto)(h:Pn d):S__law_is_lot [d] S=.ok (.bl (wA d)) S:=by
 rw[kN];refine jY (env:=[Aa d]) rfl ?_;unfold b__law_is_lot;rcases ZW h with⟨xs,rfl⟩|hn
 ·by_cases hl:1≤xs.length∧xs.length≤40
  ·have hp:=wR (zX (aM S__law_is_point xs S (λx hx=>mY x S hx) h hl.2))
   have ht:=wC (jI xs S) (λ_=>wC (cY xs S (dC (.int 40)) rfl) (λ_=>hp) (λ_=>rfl)) (by intro z;cases z)
   have e:wA (.tup xs)=(xs.all qO&&(match yX xs with|some ks=>upB ks|none=>false)):=by
    show (decide (1≤xs.length∧xs.length≤40)&&xs.all qO&&_)=_;rw[Bi hl,Ip]
   rw[e];rw[Bi hl,Il,Hd,Il] at ht;cases ha:xs.all qO with
   |true =>
    rw[ha] at ht;obtain⟨ks,rfl⟩:=lH xs ha;rw[Ay] at hl;have hne:∀ k∈ks,k≠[]:=λk hk z=>by
     subst z;have:=Ar.mp ha (tpD []) (Ht hk);cases this
    have hs:v7 (qB 0) [Aa (.tup (ks.map tpD))] S=.ok (.lst ((_S.srt _H.lexLt ks).map tpD)) S:=by
     unfold v7;rw[show qB 0 [Aa (D.tup (ks.map tpD))] S=.ok (.tup (ks.map tpD)) S from rfl]
     simp only[Res.bind,tU,Rn,QH ks (by intro z;subst z;simp at hl) om hne]
    have hli:qE jQ (qA (qB 0) (qC)) [Aa (.tup (ks.map tpD))] S=.ok (.lst (ks.map tpD)) S:=(xO (f1:=qB 0) rfl).trans rfl;refine qY (xQ ht (xC (S:=S) rfl (xK (xG ((qJ hli hs).trans ?_) (d:=.bl _) (S:=S) ⟨rfl,rfl⟩))));rw[uO];show _=Res.ok (D.bl (upB ks)) S;rw[HG];unfold gEq;rw[aK,aK];show Res.ok (D.bl (xM (ks.map tpD) ((_S.srt _H.lexLt ks).map tpD))) S=_;rw[WI]
   |false =>
    rw[ha] at ht;exact vQ (jX ht (xK (xG (d:=.bl false) (S:=S) rfl ⟨rfl,rfl⟩)))
  ·have ht:=wC (jI xs S) (λ_=>wC (b:=false) (g:=zO (dTr (qE (vA false) (qA (qX false [none] (dIt (qB 0)) (gNm 0) (zG) (zD (qG 1 (okO S__law_is_point) (qA (qB 0) (qC))))) (qC))))) (cY xs S (dC (.int 40)) rfl) (λz=>by rw[Bs hl] at z;cases z) (λ_=>rfl)) (by intro z;cases z)
   rw[Bs hl] at ht;refine vQ (jX ht (xK (xG (d:=.bl false) (S:=S) rfl ⟨?_,rfl⟩)));show _=D.bl (decide (1≤xs.length∧xs.length≤40)&&xs.all qO&&_);rw[Bs hl];rfl
 ·have ht:=wC (b:=false) (g:=xV (zO (dTr (zY gLe gLe (dC (.int 1)) (qE zE (qA (qB 0) (qC))) (dC (.int 40))))) (zO (dTr (qE (vA false) (qA (qX false [none] (dIt (qB 0)) (gNm 0) (zG) (zD (qG 1 (okO S__law_is_point) (qA (qB 0) (qC))))) (qC)))))) (hn S) (by intro z;cases z) (λ_=>rfl)
  refine vQ (jX ht (xK (xG (d:=.bl false) (S:=S) rfl ⟨?_,rfl⟩)))
  congr 1
  unfold wA
  split
  ·have:=hn S
   rw[jI] at this;cases this
  ·rfl
def aL:∀ {xs:Ab D},(∀ x∈xs,Pn x)→∃ ps,uC xs=Aa ps
 |[],_=>⟨[],rfl⟩
 |d::ds,h=>by
  obtain⟨p,e⟩:=h d (.head _);obtain⟨ps,es⟩:=aL λx hx=>h x (.tail _ hx);exact⟨p::ps,by simp only[uC,e,es];rfl⟩
def l8 (h:∀ x∈xs,Pn x):Pn (.tup xs):=by
 obtain⟨ps,e⟩:=aL h;exact⟨.tuple ps,by simp only[pyD,e];rfl⟩
def SR (h:∀ x∈xs,Pn x):Pn (.lst xs):=by
 obtain⟨ps,e⟩:=aL h;exact⟨.list ps,by simp only[pyD,e];rfl⟩
set_option tactic.hygienic true in
def vF {d:D}(h:qO d=true):∃ x y:Ak,d=.tup [.int x,.int y]∧(-1000≤x∧x≤1000)∧(-1000≤y∧y≤1000):=by
 unfold qO at h
 split at h
 ·rename_i a b
  rw[Az] at h;cases a with
  |int x =>
   cases b with
   |int y=>exact⟨x,y,rfl,Ce h.1,Ce h.2⟩
   |_=>simp[isI] at h
  |_=>simp[isI] at h
 ·cases h
def lG {d:D}(h:qO d=true):Pn d:=by
 obtain⟨x,y,rfl,_⟩:=vF h;exact⟨_,rfl⟩
def pP (h:xs.all qO=true):Pn (.tup xs):=l8 λx hx=>lG (Ar.mp h x hx)
def xX {S:Sto}{p:Ai}{m:Ak}{f2:DE}{env:qF}(h:zW S1 p)(hm:0<m∧m<1073741824)(he:env[i]? = Aa (Aa (.loc p)))(h2:f2 env S=.ok (.int m) S1):∃ (r:Ai) (S':Sto),qG 2 S__law_draw (qA (qB i) (qA f2 (qC))) env S=.ok (.int (r:Ak)) S'∧(r:Ak)<m∧zW S' p:=by
 obtain⟨r,v,f,e,a1,a2⟩:=VD S1 p m h hm;obtain⟨n,rfl⟩:=Int.eq_ofNat_of_zero_le a1;exact⟨n,_,(xY (a:=.loc p) (S1:=S) (by simp only[qB,he]) h2).trans e,a2,aJ h v f⟩
def PX {env:qF}{S:Sto}{r:Ai}(h:f env S=.ok (.int (r:Ak)) S'):d2 qL (dC (.int 1)) f env S=.ok (.int ((r+1:Ai):Ak)) S':=by
 refine(qJ (a:=.int 1) (S1:=S) rfl h).trans ?_;rw[wD]
 congr 2
 omega
def goE {g:DG}{t:DT}{fe:DE}(C:qF→Sto→Prop)(R:D→Prop):∀ (items:Ab D) (env:qF) (S:Sto) (acc:Ab D),
  C env S→acc.length+items.length≤lim→(∀ d env S,d∈items→C env S→∃ env1 x S1,g d env S=.ok env1 S∧t env1 S=.ok true S∧fe env1 S=.ok x S1∧C env1 S1∧R x) →
  ∃ ys env' S',goL none g t (zD fe) items env S acc=.ok (env',acc++ys) S'∧ys.length=items.length∧(∀ y∈ys,R y)∧C env' S'
 |[],env,S,acc,c,_,_=>by
  have hs:sE none S=true:=yQ.mpr trivial;exact⟨[],env,S,by simp only[goL,hs,Dh,Hf],rfl,(λy hy=>by cases hy),c⟩
 |d::ds,env,S,acc,c,hl,step=>by
  have hs:sE none S=true:=yQ.mpr trivial;obtain⟨env1,x,S1,h1,h2,h3,c1,hx⟩:=step d env S (by simp) c
  rw[Ci] at hl;obtain⟨ys,env',S',e,l,hy,c'⟩:=goE C R ds env1 S1 (acc++[x]) c1 (by rw[Bo];simp;omega) λd' env S hd=>step d' env S (by simp[hd])
  refine⟨x::ys,env',S',?_,by simp[l],?_,c'⟩
  ·have hk:=tN h3 (show acc.length<lim by omega)
   simp only[goL,hs,Dh,h1,h2,hk,Res.bind];rw[e,Eo];rfl
  ·intro y hy'
   rcases Av.mp hy' with rfl|hy'
   ·exact hx
   ·exact hy y hy'
def m6 {cap:Ab (Am Ai)}{fi:DI2}{g:DG}{t:DT}{fe:DE}{env:qF}{S S0:Sto}{items:Ab D}(C:qF→Sto→Prop)(R:D→Prop)(h:fi env S0=.ok (none,items) S)(h0:C (wG cap env) S)(hl:items.length≤lim)
  (step:∀ d env S,d∈items→C env S→∃ env1 x S1,g d env S=.ok env1 S∧t env1 S=.ok true S∧fe env1 S=.ok x S1∧C env1 S1∧R x) :
  ∃ ys env' S',qX false cap fi g t (zD fe) env S0=.ok (.lst ys) S'∧ys.length=items.length∧(∀ y∈ys,R y)∧C env' S':=by
 obtain⟨ys,env',S',e,l,hy,c⟩:=goE C R items (wG cap env) S [] h0 (by simpa using hl) step
 exact⟨ys,env',S',bX h e,l,hy,c⟩
def VU (w:Ak)(env:qF)(S:Sto)(h1:env[1]? = Aa (Aa (.int w))):d2 qL (d2 w9 (dC (.int 2)) (qB 1)) (dC (.int 1)) env S=.ok (.int (2*w+1)) S:=
 (qJ ((qJ (a:=.int 2) rfl (zS h1)).trans (jF 2 w S om)) rfl).trans (wD _ _ _)
def Q6 (S:Sto)(p:Ai)(w:Ak)(h:zW S p)(hw:0≤w∧w≤2000):∃ (x y:Ak) (S':Sto),S__law_point [.loc p,.int w] S=.ok (.tup [.int x,.int y]) S'∧(-w≤x∧x≤w)∧(-w≤y∧y≤w)∧zW S' p:=by
 obtain⟨a,S1,e1,ha,p1⟩:=xX (S:=S) (i:=0) (env:=[Aa (.loc p),Aa (.int w)]) (m:=2*w+1) h om rfl (VU w _ S rfl);obtain⟨b,S2,e2,hb,p2⟩:=xX (S:=S1) (i:=0) (env:=[Aa (.loc p),Aa (.int w)]) (m:=2*w+1) p1 om rfl (VU w _ S1 rfl);refine⟨a-w,b-w,S2,?_,by omega,by omega,p2⟩
 rw[gK];refine sA (env:=[Aa (.loc p),Aa (.int w)]) rfl ?_;have d1:d2 xR (qG 2 S__law_draw (qA (qB 0) (qA (d2 qL (d2 w9 (dC (.int 2)) (qB 1)) (dC (.int 1))) (qC)))) (qB 1) [Aa (.loc p),Aa (.int w)] S=.ok (.int (a-w)) S1:=(qJ e1 rfl).trans rfl;have d2':d2 xR (qG 2 S__law_draw (qA (qB 0) (qA (d2 qL (d2 w9 (dC (.int 2)) (qB 1)) (dC (.int 1))) (qC)))) (qB 1) [Aa (.loc p),Aa (.int w)] S1=.ok (.int (b-w)) S2:=(qJ e2 rfl).trans rfl;exact xU (xP d1 d2') (by show 2≤lim;decide)
def mI {x y:Ak}(hx : -1000≤x∧x≤1000)(hy : -1000≤y∧y≤1000):qO (.tup [.int x,.int y])=true:=by
 show (decide (-1000≤x∧x≤1000)&&decide (-1000≤y∧y≤1000))=true;rw[Bi hx,Bi hy];rfl
def iD (n:Ai):D:=.int (n:Ak)
def AW (n:Ai)(h:n≤1000000):fT [.int (n:Ak)]=Aa (yH 0 (n:Ak).toNat):=by
 unfold fT;have : -(2 ^ 62)≤(n:Ak)∧(n:Ak)<2 ^ 62:=⟨by omega,by omega⟩
 exact Bd this
def G6 (n:Ai):yH 0 (n:Ak).toNat=(Cz n).map iD:=by
 unfold yH;rw[Fp]
 congr 1
 funext i
 unfold iD;rw[Int.zero_add]
def Q8 (n:Ai)(h:n≤1000000):fT [.int (n:Ak)]=Aa ((Cz n).map iD):=by
 rw[AW n h,G6]
def rK {β:Type}(b:β)(S:Sto):_D.uD (Aa b) S=.ok b S:=rfl
def kZ (f:DE)(n:Ai)(env:qF)(S:Sto)(h:n≤1000)(e:f env S=.ok (.int (n:Ak)) S):wB (yL (qA f qC)) env S=.ok (none,(Cz n).map iD) S:=by
 have e1:qA f qC env S=.ok [.int (n:Ak)] S:=yC e;unfold wB yL;rw[e1,Res.bind_ok,Q8 n om,rK,Res.bind_ok]
inductive IvL (p w m:Ai)(e1:Am D)(ax ay st:Ak)(env:qF)(S:Sto):Prop
 |mk (wi:Ak) (ys:Ab D) (e8:Am D) (h_0:env=[Aa (.loc p),e1,Aa (.int (w:Ak)),Aa (.int (m:Ak)),Aa (.int wi),Aa (.tup [.int ax,.int ay]),Aa (.int st),Aa (.lst ys),e8]) (h_1:ys.all qO=true) (h_2:1≤ys.length∧ys.length≤200) (h_3:zW S p):IvL p w m e1 ax ay st env S
def eC (h:∀ y∈ys,qO y=true):ys.all qO=true:=Ar.mpr h
def XJ (w:Ai)(k:Ak)(env:qF)(S:Sto)(h:env[2]? = Aa (Aa (.int (w:Ak)))):dTr (d2 gEq (qB 2) (dC (.int k))) env S=.ok (decide ((w:Ak)=k)) S:=zX ((qJ (zS h) rfl).trans (uI _ _ _))
section
variable {p w m:Ai}{e1:Am D}{ax ay st:Ak}{env:qF}{S:Sto}
def ND (hm:1≤m∧m≤40)(ha : -400≤ax∧ax≤400)(hb : -400≤ay∧ay≤400)(h:IvL p w m e1 ax ay st env S) :
  Nx (sIf (dTr (d2 gEq (qB 2) (dC (.int 0)))) (zC (qX false [none,Aa 5] (wB (yL (qA (qB 3) (qC)))) (gNm 0) (zG) (zD (qU (qA (d2 qL (d2 gIx (qB 1) (dC (.int 0))) (d2 u7 (qB 0) (dC (.int 4)))) (qA (d2 qL (d2 gIx (qB 1) (dC (.int 1))) (d2 vR (qB 0) (dC (.int 4)))) (qC)))))) (gNm 7)) (zI) env S) (IvL p w m e1 ax ay st):=by
 obtain⟨wi,ys,e8,rfl,h1,h2,h3⟩:=h;refine xQ (XJ w 0 _ S rfl) ?_;by_cases hw:(w:Ak)=0
 ·rw[Bi hw]
  have hr:=kZ (qB 3) m [Aa (.loc p),e1,Aa (.int (w:Ak)),Aa (.int (m:Ak)),Aa (.int wi),Aa (.tup [.int ax,.int ay]),Aa (.int st),Aa (.lst ys),e8] S om rfl;obtain⟨zs,env',S',e,l,hz,_,_,rfl⟩:=m6 (cap:=[none,Aa 5]) (g:=gNm 0) (t:=zG) (fe:=qU (qA (d2 qL (d2 gIx (qB 1) (dC (.int 0))) (d2 u7 (qB 0) (dC (.int 4)))) (qA (d2 qL (d2 gIx (qB 1) (dC (.int 1))) (d2 vR (qB 0) (dC (.int 4)))) (qC)))) (λenv S'=>∃ a,env=[a,Aa (.tup [.int ax,.int ay])]∧S'=S) (λd=>qO d=true) hr ⟨none,rfl,rfl⟩ (by rw[Ay,Fc];unfold lim;omega)
   (λd env S' hd ⟨a,q1,q2⟩=>by
    subst q1 q2;obtain⟨i,hi,rfl⟩:=Cw.mp hd;have hi:=Ek.mp hi;refine⟨[Aa (iD i),Aa (.tup [.int ax,.int ay])],.tup [.int (ax+(i:Ak) % 4),.int (ay+(i:Ak)/4)],S',rfl,rfl,?_,⟨_,rfl,rfl⟩,mI om om⟩;refine xU (xP (a:=.int (ax+(i:Ak) % 4)) (b:=.int (ay+(i:Ak)/4)) (S1:=S') ?_ ?_) (by show 2≤lim;decide)
    ·exact(qJ (a:=.int ax) (b:=.int ((i:Ak) % 4)) rfl ((qJ (a:=.int (i:Ak)) rfl rfl).trans (jE _ _ _ om))).trans (wD _ _ _)
    ·exact(qJ (a:=.int ay) (b:=.int ((i:Ak)/4)) rfl ((qJ (a:=.int (i:Ak)) rfl rfl).trans (pG _ _ _ om))).trans (wD _ _ _))
  rw[Ay,Fc] at l;exact zF e rfl ⟨wi,zs,e8,rfl,eC hz,by omega,h3⟩
 ·rw[Bs hw]
  exact xC rfl ⟨wi,ys,e8,rfl,h1,h2,h3⟩
def NF (hm:1≤m∧m≤40)(ha : -400≤ax∧ax≤400)(hb : -400≤ay∧ay≤400)(hst:1≤st∧st≤9)(h:IvL p w m e1 ax ay st env S) :
  Nx (sIf (dTr (d2 gEq (qB 2) (dC (.int 1)))) (zC (qX false [none,Aa 5,Aa 6] (wB (yL (qA (qB 3) (qC)))) (gNm 0) (zG) (zD (qU (qA (d2 qL (d2 gIx (qB 1) (dC (.int 0))) (d2 w9 (qB 2) (qB 0))) (qA (d2 xR (d2 gIx (qB 1) (dC (.int 1))) (qB 0)) (qC)))))) (gNm 7)) (zI) env S) (IvL p w m e1 ax ay st):=by
 obtain⟨wi,ys,e8,rfl,h1,h2,h3⟩:=h;refine xQ (XJ w 1 _ S rfl) ?_;by_cases hw:(w:Ak)=1
 ·rw[Bi hw]
  have hr:=kZ (qB 3) m [Aa (.loc p),e1,Aa (.int (w:Ak)),Aa (.int (m:Ak)),Aa (.int wi),Aa (.tup [.int ax,.int ay]),Aa (.int st),Aa (.lst ys),e8] S om rfl;obtain⟨zs,env',S',e,l,hz,_,_,rfl⟩:=m6 (cap:=[none,Aa 5,Aa 6]) (g:=gNm 0) (t:=zG) (fe:=qU (qA (d2 qL (d2 gIx (qB 1) (dC (.int 0))) (d2 w9 (qB 2) (qB 0))) (qA (d2 xR (d2 gIx (qB 1) (dC (.int 1))) (qB 0)) (qC)))) (λenv S'=>∃ a,env=[a,Aa (.tup [.int ax,.int ay]),Aa (.int st)]∧S'=S) (λd=>qO d=true) hr ⟨none,rfl,rfl⟩ (by rw[Ay,Fc];unfold lim;omega)
   (λd env S' hd ⟨a,q1,q2⟩=>by
    subst q1 q2;obtain⟨i,hi,rfl⟩:=Cw.mp hd;have hi:=Ek.mp hi;have hmul:0≤st*(i:Ak)∧st*(i:Ak)≤9*39:=⟨Int.mul_nonneg om om,Int.mul_le_mul om om om om⟩;refine⟨[Aa (iD i),Aa (.tup [.int ax,.int ay]),Aa (.int st)],.tup [.int (ax+st*(i:Ak)),.int (ay-(i:Ak))],S',rfl,rfl,?_,⟨_,rfl,rfl⟩,mI om om⟩;refine xU (xP (a:=.int (ax+st*(i:Ak))) (b:=.int (ay-(i:Ak))) (S1:=S') ?_ ?_) (by show 2≤lim;decide)
    ·exact(qJ (a:=.int ax) (b:=.int (st*(i:Ak))) rfl ((qJ (a:=.int st) (b:=.int (i:Ak)) rfl rfl).trans (jF _ _ _ om))).trans (wD _ _ _)
    ·exact(qJ (a:=.int ay) (b:=.int (i:Ak)) rfl rfl).trans rfl)
  rw[Ay,Fc] at l;exact zF e rfl ⟨wi,zs,e8,rfl,eC hz,by omega,h3⟩
 ·rw[Bs hw]
  exact xC rfl ⟨wi,ys,e8,rfl,h1,h2,h3⟩
def sF (fe:DE)(hfe:∀ (x y:Ak) (S:Sto),∃ x' y':Ak,fe [Aa (.int x),Aa (.int y)] S=.ok (.tup [.int x',.int y']) S∧((x'=x∨x' = -x)∧(y'=y∨y' = -y)∨(x'=y∨x' = -y)∧(y'=x∨y' = -x)))(ys:Ab D)(hy:ys.all qO=true)(hl:ys.length≤200)(env:qF)(S:Sto)(h8:env[8]? = Aa (Aa (.lst ys))) :
  ∃ zs,qX false [none,none] (dIt (qB 8)) (gTp 2 (zA (gNm 0) (zA (gNm 1) (xS)))) (zG) (zD fe) env S=.ok (.lst zs) S∧zs.all qO=true∧zs.length=ys.length:=by
 have hit:dIt (qB 8) env S=.ok (none,ys) S:=by
  unfold dIt;rw[zS h8];rfl
 obtain⟨zs,env',S',e,l,hz,_,_,_,rfl⟩:=m6 (cap:=[none,none]) (g:=gTp 2 (zA (gNm 0) (zA (gNm 1) (xS)))) (t:=zG) (fe:=fe) (λenv S'=>∃ a b,env=[a,b]∧S'=S) (λd=>qO d=true) hit ⟨none,none,rfl,rfl⟩ (by unfold lim;omega)
  (λd env S' hd ⟨a,b,q1,q2⟩=>by
   subst q1 q2;obtain⟨x,y,rfl,hx,hy'⟩:=vF (Ar.mp hy d hd);obtain⟨x',y',e,hc⟩:=hfe x y S';exact⟨[Aa (.int x),Aa (.int y)],_,S',rfl,rfl,e,⟨_,_,rfl,rfl⟩,mI om om⟩)
 exact⟨zs,e,eC hz,l⟩
def pA {a b:Ab D}(ha:a.all qO=true)(hb:b.all qO=true):(a++b).all qO=true:=by rw[List.all_append,ha,hb];rfl
def BQ (ys:Ab D)(lo hi:Am Ak)(h:ys.all qO=true):(xA ys lo hi).all qO=true:=by
 rw[Ar];intro y hy;exact Ar.mp h y (Go (Iw hy))
def m7 (ys:Ab D)(n:Ai):xA ys none (Aa (n:Ak))=ys.take n:=by
 unfold xA;have h1:_H.sIx ys.length 0 none=0:=rfl;have h2:_H.sIx ys.length ys.length (Aa (n:Ak))=min n ys.length:=by
  show (if (n:Ak)<0 then ((n:Ak)+(ys.length:Ak)).toNat else min (n:Ak).toNat ys.length)=_
  rw[Be om,Fp]
 rw[h1,h2,List.drop_zero,Nat.sub_zero];rcases Nat.le_total n ys.length with h|h
 ·rw[Td h]
 ·rw[Yj h,Js h,Js (Aw _)]
def NG (hm:1≤m∧m≤40)(h:IvL p w m e1 ax ay st env S) :
  Nx (sIf (dTr (d2 gEq (qB 2) (dC (.int 2)))) (qM (zC (dSl (qB 7) (qS) (qN (d2 qL (dC (.int 1)) (d2 vR (qB 3) (dC (.int 4)))))) (gNm 8)) (qM (zC (d2 qL (d2 qL (qB 8) (qX false [none,none] (dIt (qB 8)) (gTp 2 (zA (gNm 0) (zA (gNm 1) (xS)))) (zG) (zD (qU (qA (d2 xR (dC (.int 0)) (qB 1)) (qA (qB 0) (qC))))))) (qX false [none,none] (dIt (qB 8)) (gTp 2 (zA (gNm 0) (zA (gNm 1) (xS)))) (zG) (zD (qU (qA (d2 xR (dC (.int 0)) (qB 0)) (qA (d2 xR (dC (.int 0)) (qB 1)) (qC))))))) (gNm 7)) (zC (d2 qL (qB 7) (qX false [none,none] (dIt (qB 8)) (gTp 2 (zA (gNm 0) (zA (gNm 1) (xS)))) (zG) (zD (qU (qA (qB 1) (qA (d2 xR (dC (.int 0)) (qB 0)) (qC))))))) (gNm 7)))) (zI) env S) (IvL p w m e1 ax ay st):=by
 obtain⟨wi,ys,e8,rfl,h1,h2,h3⟩:=h;refine xQ (XJ w 2 _ S rfl) ?_;by_cases hw:(w:Ak)=2
 ·rw[Bi hw,Bd rfl]
  have hs:dSl (qB 7) (qS) (qN (d2 qL (dC (.int 1)) (d2 vR (qB 3) (dC (.int 4))))) [Aa (.loc p),e1,Aa (.int (w:Ak)),Aa (.int (m:Ak)),Aa (.int wi),Aa (.tup [.int ax,.int ay]),Aa (.int st),Aa (.lst ys),e8] S=.ok (.lst (ys.take (1+m/4))) S:=by
   have hd:d2 qL (dC (.int 1)) (d2 vR (qB 3) (dC (.int 4))) [Aa (.loc p),e1,Aa (.int (w:Ak)),Aa (.int (m:Ak)),Aa (.int wi),Aa (.tup [.int ax,.int ay]),Aa (.int st),Aa (.lst ys),e8] S=.ok (.int ((1+m/4:Ai):Ak)) S:=by
    refine(qJ (a:=.int 1) (b:=.int ((m:Ak)/4)) rfl ((qJ (a:=.int (m:Ak)) rfl rfl).trans (pG _ _ _ om))).trans ?_;rw[wD,show (1:Ak)+(m:Ak)/4=((1+m/4:Ai):Ak) by omega]
   unfold dSl;rw[zS (env:=[Aa (.loc p),e1,Aa (.int (w:Ak)),Aa (.int (m:Ak)),Aa (.int wi),Aa (.tup [.int ax,.int ay]),Aa (.int st),Aa (.lst ys),e8]) (i:=7) rfl];simp only[Res.bind,qS,qN,hd];show Res.ok (D.lst (xA ys none (Aa ((1+m/4:Ai):Ak)))) S=_;rw[m7]
  have l1:(ys.take (1+m/4)).length≤11:=by rw[Fn];omega
  have l0:1≤(ys.take (1+m/4)).length:=by rw[Fn];omega
  have ps:(ys.take (1+m/4)).all qO=true:=Ar.mpr λy hy=>Ar.mp h1 y (Iw hy);generalize ys.take (1+m/4)=zs at hs l1 l0 ps;have l2:2≤lim:=by decide
  refine xT (zF hs rfl ?_);obtain⟨a1,c1,q1,n1⟩:=sF (qU (qA (d2 xR (dC (.int 0)) (qB 1)) (qA (qB 0) (qC)))) (λx y S=>⟨0-y,x,xU (xP rfl rfl) l2,by omega⟩) zs ps om [Aa (.loc p),e1,Aa (.int (w:Ak)),Aa (.int (m:Ak)),Aa (.int wi),Aa (.tup [.int ax,.int ay]),Aa (.int st),Aa (.lst ys),Aa (.lst zs)] S rfl
  obtain⟨a2,c2,q2,n2⟩:=sF (qU (qA (d2 xR (dC (.int 0)) (qB 0)) (qA (d2 xR (dC (.int 0)) (qB 1)) (qC)))) (λx y S=>⟨0-x,0-y,xU (xP rfl rfl) l2,by omega⟩) zs ps om [Aa (.loc p),e1,Aa (.int (w:Ak)),Aa (.int (m:Ak)),Aa (.int wi),Aa (.tup [.int ax,.int ay]),Aa (.int st),Aa (.lst ys),Aa (.lst zs)] S rfl
  refine xT (zF (d:=.lst (zs++a1++a2)) (S1:=S) ((qJ ((qJ rfl c1).trans (wF (by unfold lim;omega) S)) c2).trans (wF (by rw[Bo];unfold lim;omega) S)) rfl ?_)
  obtain⟨a3,c3,q3,n3⟩:=sF (qU (qA (qB 1) (qA (d2 xR (dC (.int 0)) (qB 0)) (qC)))) (λx y S=>⟨y,0-x,xU (xP rfl rfl) l2,by omega⟩) zs ps om [Aa (.loc p),e1,Aa (.int (w:Ak)),Aa (.int (m:Ak)),Aa (.int wi),Aa (.tup [.int ax,.int ay]),Aa (.int st),Aa (.lst (zs++a1++a2)),Aa (.lst zs)] S rfl
  refine zF (d:=.lst (zs++a1++a2++a3)) (S1:=S) ((qJ rfl c3).trans (wF (by simp only[Bo];unfold lim;omega) S)) rfl ⟨wi,_,_,rfl,pA (pA (pA ps q1) q2) q3,?_,h3⟩
  simp only[Bo];omega
 ·rw[Bs hw]
  exact xC rfl ⟨wi,ys,e8,rfl,h1,h2,h3⟩
end
def ix5 (r:Ai)(h:r<5)(S:Sto):∃ m:Ak,gIx (.lst [.int 1,.int 2,.int 4,.int 12,.int 1000]) (.int (r:Ak)) S=.ok (.int m) S∧1≤m∧m≤1000:=by
 match r,h with
 |0,_=>exact⟨1,rfl,by omega⟩
 |1,_=>exact⟨2,rfl,by omega⟩
 |2,_=>exact⟨4,rfl,by omega⟩
 |3,_=>exact⟨12,rfl,by omega⟩
 |4,_=>exact⟨1000,rfl,by omega⟩
def OL (env:qF)(S:Sto):zJ (qA (dC (.int 1)) (qA (dC (.int 2)) (qA (dC (.int 4)) (qA (dC (.int 12)) (qA (dC (.int 1000)) (qC)))))) env S=.ok (.lst [.int 1,.int 2,.int 4,.int 12,.int 1000]) S:=by
 have l5:5≤lim:=by decide
 simp[z9,j2,MJ,qAZ,qAY,qM,sIf,qZ,zI,yW,zC,gNm,gSb,gTp,zA,xS,kB,OZ,qAh,O1,dC,qB,d1,d2,qA,qC,qE,qG,dTr,zO,xV,zG,y7,ZC,dIf,zY,qU,zJ,n9,dBm,dSl,qN,qS,wZ,yL,Res.bind,Res.toS,_D.j1,_D.uD,qAb,qAa,HC,qAi,qAd,qAe,qAf,qAc,qAX,qAW,DR,gLt,gLe,gGt,gGe,_D.xR,qAg,l5]
def X7 (zs:Ab D)(h:zs.all qO=true)(hl:1≤zs.length∧zs.length≤40):∃ xs:Ab D,jM zs=Aa xs∧xs.all qO=true∧(1≤xs.length∧xs.length≤40)∧wA (.tup xs)=true:=by
 obtain⟨ks,rfl⟩:=lH zs h;rw[Ay] at hl;have pk:∀ k∈ks,qO (tpD k)=true:=λk hk=>Ar.mp h _ (Ht hk);have hne:∀ k∈ks,k≠[]:=λk hk z=>by
  subst z;have:=pk [] hk;cases this
 have c1:((_S.srt _H.lexLt ks).map tpD).all qO=true:=by
  rw[Ke,Ar];intro k hk;exact pk k ((_S.uN _S.vS k ks).mp hk)
 have c2:1≤((_S.srt _H.lexLt ks).map tpD).length∧((_S.srt _H.lexLt ks).map tpD).length≤40:=by
  rw[Ay];refine⟨?_,?_⟩
  ·cases ks with
   |nil=>simp at hl
   |cons k r=>exact Mj ((_S.uN _S.vS k (k::r)).mpr (by simp))
  ·have:=sD _H.lexLt ks
   omega
 refine⟨(_S.srt _H.lexLt ks).map tpD,QH ks (by intro z;subst z;simp at hl) om hne,c1,c2,?_⟩
 show (decide (1≤((_S.srt _H.lexLt ks).map tpD).length∧((_S.srt _H.lexLt ks).map tpD).length≤40)&&((_S.srt _H.lexLt ks).map tpD).all qO&&(match yX ((_S.srt _H.lexLt ks).map tpD) with|some ks=>upB ks|none=>false))=true
 rw[Bi c2,c1,uO];exact(fY _).mpr (_S.gF _S.vS ks)
def B2 (S:Sto)(p M:Ai)(hM:1≤M∧M≤40)(h:zW S p):∃ (xs:Ab D) (S':Sto),S__law_lot [.loc p,.int (M:Ak)] S=.ok (.tup xs) S'∧xs.all qO=true∧(1≤xs.length∧xs.length≤40)∧wA (.tup xs)=true∧zW S' p:=by
 have key:Rt (b__law_lot [Aa (.loc p),Aa (.int (M:Ak)),none,none,none,none,none,none,none] S) λd S'=>∃ xs,d=.tup xs∧xs.all qO=true∧(1≤xs.length∧xs.length≤40)∧wA (.tup xs)=true∧zW S' p:=by
  unfold b__law_lot;obtain⟨w,S1,c1,hw,p1⟩:=xX (S:=S) (i:=0) (f2:=dC (.int 7)) (env:=[Aa (.loc p),Aa (.int (M:Ak)),none,none,none,none,none,none,none]) (m:=7) h om rfl rfl;obtain⟨m0,S2,c2,hm0,p2⟩:=xX (S:=S1) (i:=0) (f2:=qB 1) (env:=[Aa (.loc p),Aa (.int (M:Ak)),none,none,none,none,none,none,none]) (m:=(M:Ak)) p1 om rfl rfl;refine qY (gC c1 (PX c2) ?_);clear c1 c2;have hm:1≤m0+1∧m0+1≤40:=by omega
  generalize m0+1=m at hm;simp only[Bq,Br];obtain⟨k,S3,c3,hk,p3⟩:=xX (S:=S2) (i:=0) (f2:=dC (.int 5)) (env:=[Aa (.loc p),Aa (.int (M:Ak)),Aa (.int (w:Ak)),Aa (.int (m:Ak)),none,none,none,none,none]) (m:=5) p2 om rfl rfl;obtain⟨wi,hwi,w1,w2⟩:=ix5 k om S3;obtain⟨ax,ay,S4,c4,ha,hb,p4⟩:=Q6 S3 p 400 p3 om;have l2:2≤lim:=by decide
  refine qY (zF (xU (xP ((qJ (OL _ _) c3).trans hwi) ((xY (a:=.loc p) (b:=.int 400) rfl rfl).trans c4)) l2) (env1:=[Aa (.loc p),Aa (.int (M:Ak)),Aa (.int (w:Ak)),Aa (.int (m:Ak)),Aa (.int wi),Aa (.tup [.int ax,.int ay]),none,none,none]) (S2:=S4) rfl ?_);clear c3 c4 hwi;obtain⟨s0,S5,c5,hs0,p5⟩:=xX (S:=S4) (i:=0) (f2:=dC (.int 9)) (env:=[Aa (.loc p),Aa (.int (M:Ak)),Aa (.int (w:Ak)),Aa (.int (m:Ak)),Aa (.int wi),Aa (.tup [.int ax,.int ay]),none,none,none]) (m:=9) p4 om rfl rfl;refine qY (zF (PX c5) rfl ?_);clear c5;have hst:(1:Ak)≤((s0+1:Ai):Ak)∧((s0+1:Ai):Ak)≤9:=by omega
  generalize ((s0+1:Ai):Ak)=st at hst;simp only[Bq,Br];have hr:=kZ (qB 3) m [Aa (.loc p),Aa (.int (M:Ak)),Aa (.int (w:Ak)),Aa (.int (m:Ak)),Aa (.int wi),Aa (.tup [.int ax,.int ay]),Aa (.int st),none,none] S5 om rfl;obtain⟨ys,env',S6,c6,l6,h6,_,_,p6⟩:=m6 (cap:=[none,Aa 0,Aa 4]) (g:=gNm 0) (t:=zG) (fe:=qG 2 (okO S__law_point) (qA (qB 1) (qA (qB 2) (qC)))) (λenv S'=>∃ a,env=[a,Aa (.loc p),Aa (.int wi)]∧zW S' p) (λd=>qO d=true) hr ⟨none,rfl,p5⟩ (by rw[Ay,Fc];unfold lim;omega)
   (λd env S' hd ⟨a,q1,q2⟩=>by
    subst q1;obtain⟨x,y,S'',e,hx,hy,p''⟩:=Q6 S' p wi q2 om;exact⟨[Aa d,Aa (.loc p),Aa (.int wi)],_,S'',rfl,rfl,(xY (a:=.loc p) (b:=.int wi) rfl rfl).trans (vE e),⟨_,rfl,p''⟩,mI om om⟩)
  rw[Ay,Fc] at l6;refine qY (zF c6 rfl ?_);clear c6 hr;simp only[Bq,Br];have I0:IvL p w m (Aa (.int (M:Ak))) ax ay st [Aa (.loc p),Aa (.int (M:Ak)),Aa (.int (w:Ak)),Aa (.int (m:Ak)),Aa (.int wi),Aa (.tup [.int ax,.int ay]),Aa (.int st),Aa (.lst ys),none] S6:=⟨wi,ys,none,rfl,eC h6,by omega,p6⟩
  obtain⟨env1,T1,e1,I1⟩:=ND hm ha hb I0;refine qY ⟨env1,T1,e1,?_⟩;obtain⟨env2,T2,e2,I2⟩:=NF hm ha hb hst I1;refine qY ⟨env2,T2,e2,?_⟩;obtain⟨env3,T3,e3,I3⟩:=NG hm I2;refine qY ⟨env3,T3,e3,?_⟩;obtain⟨wi',zs,e8,rfl,z1,z2,z3⟩:=I3;have ht:(zs.take m).all qO=true:=Ar.mpr λy hy=>Ar.mp z1 y (Iw hy);have htl:1≤(zs.take m).length∧(zs.take m).length≤40:=by rw[Fn];omega
  obtain⟨xs,hs,x1,x2,x4⟩:=X7 (zs.take m) ht htl;have hc:dSl (qB 7) (qS) (qN (qB 3)) [Aa (.loc p),Aa (.int (M:Ak)),Aa (.int (w:Ak)),Aa (.int (m:Ak)),Aa (.int wi'),Aa (.tup [.int ax,.int ay]),Aa (.int st),Aa (.lst zs),e8] T3=.ok (.lst (zs.take m)) T3:=by
   show Res.ok (D.lst (xA zs none (Aa (m:Ak)))) T3=_;rw[m7]
  have hd:v7 (dSl (qB 7) (qS) (qN (qB 3))) [Aa (.loc p),Aa (.int (M:Ak)),Aa (.int (w:Ak)),Aa (.int (m:Ak)),Aa (.int wi'),Aa (.tup [.int ax,.int ay]),Aa (.int st),Aa (.lst zs),e8] T3=.ok (.lst xs) T3:=by
   unfold v7;rw[hc];simp only[Res.bind,tU,Rn,hs]
  exact xK (xG ((xO hd).trans rfl) ⟨xs,rfl,x1,x2,x4,z3⟩)
 obtain⟨d,S',e,xs,rfl,x1,x2,x4,x3⟩:=key;rw[bH];exact⟨xs,S',yS rfl e,x1,x2,x4,x3⟩
def wO (h:xs.length+ys.length≤lim)(S:Sto):qL (.tup xs) (.tup ys) S=.ok (.tup (xs++ys)) S:=Bd h
def ZE (env:qF)(S:Sto):qC env S=.ok [] S:=rfl
def fN:Ab D:=[.int 1001,.int (-1001),.bl true,.bl false,.non,.str "0",.tup [.int 0],.int 100000000000000000000000000000,.lst [.int 0],.dct0]
def MF:∀ d∈fN,Pn d:=by
 intro d hd;simp only[fN,Av,Cj,Ez] at hd;rcases hd with rfl|rfl|rfl|rfl|rfl|rfl|rfl|rfl|rfl|rfl <;> exact⟨_,rfl⟩
def ME (env:qF)(S:Sto):zJ (qA (dC (.int 1001)) (qA (d1 u9 (dC (.int 1001))) (qA (dC (.bl true)) (qA (dC (.bl false)) (qA (dC .non) (qA (dC (.str "0")) (qA (qU (qA (dC (.int 0)) (qC))) (qA (d2 jG (dC (.int 10)) (dC (.int 29))) (qA (zJ (qA (dC (.int 0)) (qC))) (qA (vI) (qC))))))))))) env S=.ok (.lst fN) S:=by
 have l1:1≤lim:=by decide
 have l10:10≤lim:=by decide
 refine yG (zN rfl (zN rfl (zN rfl (zN rfl (zN rfl (zN rfl (zN (xU (yC rfl) l1) (zN (RX S) (zN (yG (yC rfl) l1) (zN rfl (ZE _ _))))))))))) l10
def pt0 (x y:Ak):D:=.tup [.int x,.int y]
def wY (x y:Ak)(o:D):Ai→Ab D
 |0=>[o,.int y]
 |_=>[.int x,o]
def BH (x y:Ak)(o:D)(a:Ai)(ha:a<2)(env:qF)(S:Sto)(h1:env[1]? = Aa (Aa (pt0 x y)))(h3:env[3]? = Aa (Aa (.int (a:Ak))))(h4:env[4]? = Aa (Aa o)) :
  d2 qL (d2 qL (dSl (qB 1) (qS) (qN (qB 3))) (qU (qA (qB 4) (qC)))) (dSl (qB 1) (qN (d2 qL (qB 3) (dC (.int 1)))) (qS)) env S=.ok (.tup (wY x y o a)) S:=by
 have l1:1≤lim:=by decide
 have hs:dSl (qB 1) (qS) (qN (qB 3)) env S=.ok (.tup (xA [.int x,.int y] none (Aa (a:Ak)))) S:=by
  simp only[dSl,zS h1,zS h3,Res.bind,qS,qN];rfl
 have ht:dSl (qB 1) (qN (d2 qL (qB 3) (dC (.int 1)))) (qS) env S=.ok (.tup (xA [.int x,.int y] (Aa ((a:Ak)+1)) none)) S:=by
  simp only[dSl,zS h1,Res.bind,qS,qN,qJ (o:=qL) (zS (S:=S) h3) (show dC (.int 1) env S=.ok (.int 1) S from rfl),wD]
  rfl
 have ho:=xU (yC (zS (S:=S) h4)) l1
 match a,ha with
 |0,_ =>
  rw[qJ ((qJ hs ho).trans (wO (by show 1≤lim;decide) S)) ht,wO (by show 2≤lim;decide)]
  rfl
 |1,_ =>
  rw[qJ ((qJ hs ho).trans (wO (by show 2≤lim;decide) S)) ht,wO (by show 2≤lim;decide)]
  rfl
def l9 (x y:Ak)(b:D):Ab D:=[b,b,b,b,.tup [.int x],.tup [.int x,.int y,.int 0],.lst [.int x,.int y],.non,.int 7,.str "0,0",.dct0,.tup [pt0 x y]]
def K8 (x y:Ak)(b:D)(hb:Pn b):∀ d∈l9 x y b,Pn d:=by
 intro d hd;simp only[l9,Av,Cj,Ez] at hd;rcases hd with rfl|rfl|rfl|rfl|rfl|rfl|rfl|rfl|rfl|rfl|rfl|rfl <;> first|exact hb|exact⟨_,rfl⟩
def BI (x y:Ak)(o:D)(a:Ai)(ho:o∈fN):Pn (.tup (wY x y o a)):=by
 obtain⟨p,e⟩:=MF o ho;cases a with
 |zero=>exact⟨.tuple [p,.int y],by simp only[wY,pyD,uC,e];rfl⟩
 |succ a=>exact⟨.tuple [.int x,p],by simp only[wY,pyD,uC,e];rfl⟩
def oZ:∀ d∈fN,isI d=false:=by
 intro d hd;simp only[fN,Av,Cj,Ez] at hd;rcases hd with rfl|rfl|rfl|rfl|rfl|rfl|rfl|rfl|rfl|rfl <;> rfl
def K7 (x y:Ak)(o:D)(a:Ai)(ho:o∈fN):∀ d∈l9 x y (.tup (wY x y o a)),qO d=false:=by
 have hb:qO (.tup (wY x y o a))=false:=by
  cases a with
  |zero =>
   show (isI o&&isI (.int y))=false;rw[oZ o ho];rfl
  |succ a =>
   show (isI (.int x)&&isI o)=false;rw[oZ o ho,Os]
 intro d hd;simp only[l9,Av,Cj,Ez] at hd;rcases hd with rfl|rfl|rfl|rfl|rfl|rfl|rfl|rfl|rfl|rfl|rfl|rfl <;> first|exact hb|rfl
def ZZ (S:Sto)(p:Ai)(x y:Ak)(h:zW S p)(hx : -1000≤x∧x≤1000)(hy : -1000≤y∧y≤1000):∃ (d:D) (S':Sto),S__law_no_point [.loc p,pt0 x y] S=.ok d S'∧Pn d∧qO d=false∧zW S' p:=by
 have key:Rt (b__law_no_point [Aa (.loc p),Aa (pt0 x y),none,none,none,none,none] S) λd S'=>Pn d∧qO d=false∧zW S' p:=by
  unfold b__law_no_point;obtain⟨w,S1,c1,hw,p1⟩:=xX (S:=S) (i:=0) (f2:=dC (.int 12)) (env:=[Aa (.loc p),Aa (pt0 x y),none,none,none,none,none]) (m:=12) h om rfl rfl;obtain⟨a,S2,c2,ha,p2⟩:=xX (S:=S1) (i:=0) (f2:=dC (.int 2)) (env:=[Aa (.loc p),Aa (pt0 x y),none,none,none,none,none]) (m:=2) p1 om rfl rfl;refine qY (gC c1 c2 ?_);clear c1 c2;simp only[Bq,Br];obtain⟨k,S3,c3,hk,p3⟩:=xX (S:=S2) (i:=0) (f2:=dC (.int 10)) (env:=[Aa (.loc p),Aa (pt0 x y),Aa (.int (w:Ak)),Aa (.int (a:Ak)),none,none,none]) (m:=10) p2 om rfl rfl;obtain⟨o,ho,ho'⟩:=pC fN (k:Ak) ⟨by omega,by show (k:Ak)<10;omega⟩
  refine qY (zF ((qJ (ME _ _) c3).trans (uJ ho S3)) rfl ?_);clear c3;simp only[Bq,Br];refine qY (zF (BH x y o a om _ S3 rfl rfl rfl) rfl ?_);simp only[Bq,Br];have l10:10≤lim:=by decide
  have l2:2≤lim:=by decide
  have l1:1≤lim:=by decide
  have h3:d2 qL (qB 1) (qU (qA (dC (.int 0)) (qC))) [Aa (.loc p),Aa (pt0 x y),Aa (.int (w:Ak)),Aa (.int (a:Ak)),Aa o,Aa (.tup (wY x y o a)),none] S3=.ok (.tup [.int x,.int y,.int 0]) S3:=
   (qJ (a:=pt0 x y) (b:=.tup [.int 0]) rfl (xU (yC rfl) l1)).trans (wO (by show 3≤lim;decide) S3)
  refine qY (zF (yG (zN (a:=.tup (wY x y o a)) rfl (zN (a:=.tup (wY x y o a)) rfl (zN (a:=.tup (wY x y o a)) rfl (zN (a:=.tup (wY x y o a)) rfl (zN (a:=.tup [.int x]) rfl (zN h3 (zN (a:=.lst [.int x,.int y]) rfl (zN (a:=.non) rfl (zN (a:=.int 7) rfl (zN (a:=.str "0,0") rfl (ZE _ _))))))))))) l10) rfl ?_);simp only[Bq,Br];obtain⟨d,hd,hd'⟩:=pC (l9 x y (.tup (wY x y o a))) (w:Ak) ⟨by omega,by show (w:Ak)<12;omega⟩
  have hl:zJ (qA (vI) (qA (qU (qA (qB 1) (qC))) (qC))) [Aa (.loc p),Aa (pt0 x y),Aa (.int (w:Ak)),Aa (.int (a:Ak)),Aa o,Aa (.tup (wY x y o a)),Aa (.lst [.tup (wY x y o a),.tup (wY x y o a),.tup (wY x y o a),.tup (wY x y o a),.tup [.int x],.tup [.int x,.int y,.int 0],.lst [.int x,.int y],.non,.int 7,.str "0,0"])] S3=.ok (.lst [.dct0,.tup [pt0 x y]]) S3:=yG (xP rfl (xU (yC rfl) l1)) l2;exact xK (xG ((qJ ((qJ rfl hl).trans (wF (by show 12≤lim;decide) S3)) rfl).trans (uJ hd S3)) ⟨K8 x y _ (BI x y o a ho') d hd',K7 x y o a ho' d hd',p3⟩)
 obtain⟨d,S',e,n,p'⟩:=key;rw[jU];exact⟨d,S',yS rfl e,n,p'⟩
def cE (ys:Ab D)(n:Ai)(h:n≤ys.length):xA ys (Aa (n:Ak)) none=ys.drop n:=by
 unfold xA;have h1:_H.sIx ys.length ys.length none=ys.length:=rfl;have h2:_H.sIx ys.length 0 (Aa (n:Ak))=min n ys.length:=by
  show (if (n:Ak)<0 then ((n:Ak)+(ys.length:Ak)).toNat else min (n:Ak).toNat ys.length)=_
  rw[Be om,Fp]
 rw[h1,h2,Td h];exact Js (by rw[Gn];exact Aw _)
def UM (ys:Ab D)(h:1≤ys.length):(xA ys (Aa (-1)) none).length≤1:=by
 unfold xA;have h1:_H.sIx ys.length ys.length none=ys.length:=rfl;have h2:_H.sIx ys.length 0 (Aa (-1))=ys.length-1:=by
  show (if (-1:Ak)<0 then ((-1:Ak)+(ys.length:Ak)).toNat else min (-1:Ak).toNat ys.length)=_
  rw[Bd om];omega
 rw[h1,h2,Fn];omega
def XA (n:Ai):_H.stepN n (-1)=n:=by
 unfold _H.stepN _H.stepLo _H.stepHi En Fi;simp
 split <;> omega
def GC {k:Ak}{x:D}(h:x∈_H.stepL xs k):x∈xs:=by
 unfold _H.stepL at h;obtain⟨m,_,e⟩:=Jg.mp h;exact Cn e
def GD {k:Ak}(h:xs.all qO=true):(_H.stepL xs k).all qO=true:=Ar.mpr λx hx=>Ar.mp h x (GC hx)
def N2 (xs:Ab D)(k:Ak)(f:DE)(env:qF)(i:Ai)(S:Sto)(hi:env[i]? = Aa (Aa (.tup xs)))(hf:f env S=.ok (.int k) S)(h:k≠0∧k≠1∧_H.stepN xs.length k≤lim):m9 (qB i) f env S=.ok (.tup (_H.stepL xs k)) S:=by
 unfold m9;rw[qJ (zS hi) hf];exact Bd h
def FO (k n:Ai)(hk:1≤k∧k≤8)(hn:n≤41)(env:qF)(S:Sto):qE wN (qA (qX false [none] (wB (yL (qA (dC (.int (n:Ak))) (qC)))) (gNm 0) (zG) (zD (qU (qA (d2 vR (qB 0) (dC (.int (k:Ak)))) (qA (d2 u7 (qB 0) (dC (.int (k:Ak)))) (qC)))))) (qC)) env S=.ok (.tup ((Cz n).map λi:Ai=>D.tup [.int ((i:Ak)/k),.int ((i:Ak) % k)])) S:=by
 have hr:=kZ (dC (.int (n:Ak))) n env S om rfl;have l2:2≤lim:=by decide
 have hc:=jD (enc:=iD) (cap:=[none]) (g:=gNm 0) (t:=zG) (fe:=qU (qA (d2 vR (qB 0) (dC (.int (k:Ak)))) (qA (d2 u7 (qB 0) (dC (.int (k:Ak)))) (qC)))) hr trivial (λ_=>true) (λi:Ai=>.tup [.int ((i:Ak)/k),.int ((i:Ak) % k)]) (λenv=>∃ a,env=[a]) ⟨none,rfl⟩ (by rw[Fc];unfold lim;omega)
  (λi _ env ⟨a,q⟩=>by
   subst q;exact⟨[Aa (iD i)],rfl,⟨_,rfl⟩,rfl,λ_=>xU (xP ((qJ (a:=.int (i:Ak)) (b:=.int (k:Ak)) rfl rfl).trans (pG _ _ _ om)) ((qJ (a:=.int (i:Ak)) (b:=.int (k:Ak)) rfl rfl).trans (jE _ _ _ om))) l2⟩)
 rw[wK] at hc;exact(xO hc).trans rfl
def JK (k n:Ai)(hk:1≤k∧k≤8)(hn:n≤41):((Cz n).map λi:Ai=>D.tup [.int ((i:Ak)/k),.int ((i:Ak) % k)]).all qO=true:=by
 rw[Ke,Ar];intro i hi;have hi:=Ek.mp hi;have h0:(0:Ak)<(k:Ak):=by omega
 have h1:=Jp (i:Ak) (show (k:Ak)≠0 by omega)
 have h2:=Hy (i:Ak) h0;have h3:(0:Ak)≤(i:Ak)/k:=Int.ediv_nonneg om om;have h4:(i:Ak)/k≤i:=Int.ediv_le_self _ om;exact mI om om
def fK (xs:Ab D)(b:D)(a:Ai):Ab D:=[b,b,.lst xs,.tup (_H.stepL xs (-1)),.tup (xs++xA xs (Aa (-1)) none),.tup (xs.take (a+1)++xs.drop a),.tup [],.non,.int 7,.str "0,0",.dct0]
def U9 (xs:Ab D)(h:xs.all qO=true)(o:D)(ho:Pn o)(a:Ai):Pn (.tup (xs.take a++[o]++xs.drop (a+1))):=by
 refine l8 λz hz=>?_;rcases Cq.mp hz with hz|hz
 ·rcases Cq.mp hz with hz|hz
  ·exact lG (Ar.mp h z (Iw hz))
  ·rw[Fh.mp hz];exact ho
 ·exact lG (Ar.mp h z (Go hz))
def YO (xs:Ab D)(h:xs.all qO=true)(b:D)(hb:Pn b)(a:Ai):∀ d∈fK xs b a,Pn d:=by
 intro d hd;simp only[fK,Av,Cj,Ez] at hd;rcases hd with rfl|rfl|rfl|rfl|rfl|rfl|rfl|rfl|rfl|rfl|rfl
 ·exact hb
 ·exact hb
 ·exact SR λx hx=>lG (Ar.mp h x hx)
 ·exact pP (GD h)
 ·exact pP (pA h (BQ xs _ _ h))
 ·exact pP (pA (Ar.mpr λy hy=>Ar.mp h y (Iw hy)) (Ar.mpr λy hy=>Ar.mp h y (Go hy)))
 all_goals exact⟨_,rfl⟩
def uW {k:Ak}{d:D}(h:_L.atI xs k=Aa d)(S:Sto):gIx (.tup xs) (.int k) S=.ok d S:=by
 show _D.uD (_L.atI xs k) S=_;rw[h];rfl
def KZ (S:Sto)(p:Ai)(xs:Ab D)(h:zW S p)(hx:xs.all qO=true)(hl:1≤xs.length∧xs.length≤40):∃ (d:D) (S':Sto),S__law_no_lot [.loc p,.tup xs] S=.ok d S'∧Pn d∧wA d=false∧zW S' p:=by
 have key:Rt (b__law_no_lot [Aa (.loc p),Aa (.tup xs),none,none,none,none,none,none] S) λd S'=>Pn d∧wA d=false∧zW S' p:=by
  unfold b__law_no_lot;obtain⟨w,S1,c1,hw,p1⟩:=xX (S:=S) (i:=0) (f2:=dC (.int 14)) (env:=[Aa (.loc p),Aa (.tup xs),none,none,none,none,none,none]) (m:=14) h om rfl rfl;obtain⟨a,S2,c2,ha,p2⟩:=xX (S:=S1) (i:=0) (f2:=qE zE (qA (qB 1) (qC))) (env:=[Aa (.loc p),Aa (.tup xs),none,none,none,none,none,none]) (m:=(xs.length:Ak)) p1 om rfl ((xO (f1:=qB 1) rfl).trans (uA xs S1));refine qY (gC c1 c2 ?_);clear c1 c2;simp only[Bq,Br];have l1:1≤lim:=by decide
  have l3:3≤lim:=by decide
  have l11:11≤lim:=by decide
  have ha':a<xs.length:=by omega
  obtain⟨q,hq,hq'⟩:=pC xs (a:Ak) ⟨by omega,ha⟩
  obtain⟨x,y,rfl,bx,by'⟩:=vF (Ar.mp hx q hq');obtain⟨o,S3,c3,ho,_,p3⟩:=ZZ S2 p x y p2 bx by';have s1:dSl (qB 1) (qS) (qN (qB 3)) [Aa (.loc p),Aa (.tup xs),Aa (.int (w:Ak)),Aa (.int (a:Ak)),none,none,none,none] S2=.ok (.tup (xs.take a)) S2:=by
   show Res.ok (D.tup (xA xs none (Aa (a:Ak)))) S2=_;rw[m7]
  have s2:dSl (qB 1) (qN (d2 qL (qB 3) (dC (.int 1)))) (qS) [Aa (.loc p),Aa (.tup xs),Aa (.int (w:Ak)),Aa (.int (a:Ak)),none,none,none,none] S3=.ok (.tup (xs.drop (a+1))) S3:=by
   show Res.ok (D.tup (xA xs (Aa ((a:Ak)+1)) none)) S3=_;rw[show (a:Ak)+1=((a+1:Ai):Ak) by omega,cE xs (a+1) om]
  have s3:qU (qA (qG 2 S__law_no_point (qA (qB 0) (qA (d2 gIx (qB 1) (qB 3)) (qC)))) (qC)) [Aa (.loc p),Aa (.tup xs),Aa (.int (w:Ak)),Aa (.int (a:Ak)),none,none,none,none] S2=.ok (.tup [o]) S3:=
   xU (yC ((xY (a:=.loc p) (b:=pt0 x y) rfl ((qJ (a:=.tup xs) (b:=.int (a:Ak)) rfl rfl).trans (uW hq S2))).trans c3)) l1
  have b1:(xs.take a).length+[o].length≤lim:=by
   rw[Fn];show _+1≤lim;unfold lim;omega
  have b2:(xs.take a++[o]).length+(xs.drop (a+1)).length≤lim:=by
   simp only[Bo,Fn,Gn,Ci,Fx];unfold lim;omega
  refine qY (zF ((qJ ((qJ s1 s3).trans (wO b1 S3)) s2).trans (wO b2 S3)) rfl ?_);clear s1 s2 s3 c3;have hb:=U9 xs hx o ho a;generalize D.tup (xs.take a++[o]++xs.drop (a+1))=b at hb;simp only[Bq,Br];have i4:m9 (qB 1) (d1 u9 (dC (.int 1))) [Aa (.loc p),Aa (.tup xs),Aa (.int (w:Ak)),Aa (.int (a:Ak)),Aa b,none,none,none] S3=.ok (.tup (_H.stepL xs (-1))) S3:=
   N2 xs (-1) _ _ 1 S3 rfl rfl ⟨by omega,by omega,by rw[XA];unfold lim;omega⟩
  have i5:d2 qL (qB 1) (dSl (qB 1) (qN (d1 u9 (dC (.int 1)))) (qS)) [Aa (.loc p),Aa (.tup xs),Aa (.int (w:Ak)),Aa (.int (a:Ak)),Aa b,none,none,none] S3=.ok (.tup (xs++xA xs (Aa (-1)) none)) S3:=
   (qJ (a:=.tup xs) (b:=.tup (xA xs (Aa (-1)) none)) rfl rfl).trans (wO (by have:=UM xs hl.1;unfold lim;omega) S3)
  have t1:dSl (qB 1) (qS) (qN (d2 qL (qB 3) (dC (.int 1)))) [Aa (.loc p),Aa (.tup xs),Aa (.int (w:Ak)),Aa (.int (a:Ak)),Aa b,none,none,none] S3=.ok (.tup (xs.take (a+1))) S3:=by
   show Res.ok (D.tup (xA xs none (Aa ((a:Ak)+1)))) S3=_;rw[show (a:Ak)+1=((a+1:Ai):Ak) by omega,m7]
  have t2:dSl (qB 1) (qN (qB 3)) (qS) [Aa (.loc p),Aa (.tup xs),Aa (.int (w:Ak)),Aa (.int (a:Ak)),Aa b,none,none,none] S3=.ok (.tup (xs.drop a)) S3:=by
   show Res.ok (D.tup (xA xs (Aa (a:Ak)) none)) S3=_;rw[cE xs a om]
  have i6:=(qJ t1 t2).trans (wO (by simp only[Fn,Gn];unfold lim;omega) S3)
  have z0:∀ env:qF,qU (qC) env S3=.ok (.tup []) S3:=λenv=>xU (ZE _ _) (by show 0≤lim;decide)
  refine qY (zF (d:=.lst (fK xs b a)) (S1:=S3) (yG (zN rfl (zN rfl (zN (a:=.lst xs) rfl (zN i4 (zN i5 (zN i6 (zN (z0 _) (zN rfl (zN rfl (zN rfl (zN rfl (ZE _ _)))))))))))) l11) rfl ?_);clear i4 i5 i6 t1 t2;have hno:=YO xs hx b hb a;have nl:(fK xs b a).length=11:=rfl;generalize fK xs b a=L at hno nl;simp only[Bq,Br];refine qY (zF (FO 8 41 om om _ S3) rfl ?_);have gp:=JK 8 41 om om;have gl:((Cz 41).map λi:Ai=>D.tup [.int ((i:Ak)/(8:Ai)),.int ((i:Ak) % (8:Ai))]).length≤41:=by simp
  generalize ((Cz 41).map λi:Ai=>D.tup [.int ((i:Ak)/(8:Ai)),.int ((i:Ak) % (8:Ai))])=G at gp gl;simp only[Bq,Br];obtain⟨q0,hq0,hq0'⟩:=pC xs 0 ⟨by omega,by omega⟩
  have h3:zJ (qA (qU (qA (qB 1) (qC))) (qA (qB 6) (qA (d2 gIx (qB 1) (dC (.int 0))) (qC)))) [Aa (.loc p),Aa (.tup xs),Aa (.int (w:Ak)),Aa (.int (a:Ak)),Aa b,Aa (.lst L),Aa (.tup G),none] S3=.ok (.lst [.tup [.tup xs],.tup G,q0]) S3:=
   yG (zN (xU (yC rfl) l1) (xP rfl ((qJ (a:=.tup xs) (b:=.int 0) rfl rfl).trans (uW hq0 S3)))) l3
  have hall:∀ d∈L++[.tup [.tup xs],.tup G,q0],Pn d:=by
   intro d hd;rcases Cq.mp hd with hd|hd
   ·exact hno d hd
   ·simp only[Av,Cj,Ez] at hd
    rcases hd with rfl|rfl|rfl
    ·refine l8 λz hz=>?_
     rw[Fh.mp hz];exact pP hx
    ·exact pP gp
    ·exact lG (Ar.mp hx _ hq0')
  obtain⟨d,hd,hd'⟩:=pC (L++[.tup [.tup xs],.tup G,q0]) (w:Ak) ⟨by omega,by rw[Bo,nl];show (w:Ak)<((11+3:Ai):Ak);omega⟩
  have td:=hall d hd';refine qY (zF ((qJ ((qJ rfl h3).trans (wF (by rw[nl];show 14≤lim;decide) S3)) rfl).trans (uJ hd S3)) rfl ?_)
  clear h3;simp only[Bq,Br];have hi:=zX ((y8 (f1:=qB 7) (env:=[Aa (.loc p),Aa (.tup xs),Aa (.int (w:Ak)),Aa (.int (a:Ak)),Aa b,Aa (.lst L),Aa (.tup G),Aa d]) (S:=S3) rfl).trans (VE d S3 td));cases hb':wA d with
  |true =>
   rw[hb'] at hi;refine xK (xG (d:=.tup []) (S:=S3) ?_ ⟨pP rfl,rfl,p3⟩);unfold dIf;rw[hi];exact z0 [Aa (.loc p),Aa (.tup xs),Aa (.int (w:Ak)),Aa (.int (a:Ak)),Aa b,Aa (.lst L),Aa (.tup G),Aa d]
  |false =>
   rw[hb'] at hi;refine xK (xG (d:=d) (S:=S3) ?_ ⟨td,hb',p3⟩);unfold dIf;rw[hi];rfl
 obtain⟨d,S',e,n,n',p'⟩:=key;rw[kO];exact⟨d,S',yS rfl e,n,n',p'⟩
def G4 (v:Ad)(x:As)(env:qF)(S:Sto):jZ v (qA (dC (.str x)) (qC)) env S=.ex v .non env S:=by
 have l1:1≤lim:=by decide
 unfold jZ;rw[yC (show dC (.str x) env S=.ok (.str x) S from rfl)]
 show (if ([D.str x]:Ab D).length≤lim then Out.ex v D.non env S else Out.bad)=_
 exact Bd l1
def K5 (F:DF)(v:Ad)(x:As)(d:D)(b:Aq)(S:Sto)(h:F [d] S=.ok (.bl b) S):z9 1 (sIf (zO (dTr (qG 1 F (qA (qB 0) (qC))))) (jZ v (qA (dC (.str x)) (qC))) (zI)) [d] S=if b then .ok .non S else .ex v .non S:=by
 have ht:=wR (zX ((y8 (f1:=qB 0) (env:=[Aa d]) (S:=S) rfl).trans h));show fP (sIf _ _ _ [Aa d] S)=_;unfold sIf;rw[ht];cases b with
 |true=>rfl
 |false =>
  show fP (jZ v (qA (dC (.str x)) (qC)) [Aa d] S)=_;rw[G4];rfl
def bA (c:Cl)(d:D)(S:Sto)(h:Pn d):S_need_lot c [d] S=if wA d then .ok .non S else .ex (.ref c.NoLot) .non S:=by
 rw[bK];exact K5 _ _ _ _ _ S (KY d S h)
abbrev Pt:=Ak × Ak
def pD (q:Pt):D:=.tup [.int q.1,.int q.2]
def kP (q:Pt):Ab Ak:=[q.1,q.2]
def pJ:∀ {xs:Ab D},xs.all qO=true→∃ ps:Ab Pt,xs=ps.map pD
 |[],_=>⟨[],rfl⟩
 |d::ds,h=>by
  rw[Mu,Az] at h;obtain⟨ps,rfl⟩:=pJ h.2;obtain⟨x,y,rfl,_⟩:=vF h.1;exact⟨(x,y)::ps,rfl⟩
def YD (ps:Ab Pt):ps.map pD=(ps.map kP).map tpD:=by rw[NE];rfl
def SL {ps:Ab Pt}(h:wA (.tup (ps.map pD))=true):(ps.map kP).Pairwise (λa b=>_H.lexLt a b=true):=by
 have h':(decide (1≤(ps.map pD).length∧(ps.map pD).length≤40)&&(ps.map pD).all qO&&(match yX (ps.map pD) with|some ks=>upB ks|none=>false))=true:=h
 rw[Az] at h';have h2:=h'.2;rw[YD,uO] at h2;exact(fY _).mp h2
def aP:∀ qs:Ab Pt,∃ l,uC (qs.map pD)=Aa l
 |[]=>⟨[],rfl⟩
 |q::qs=>by
  obtain⟨l,e⟩:=aP qs;refine⟨.tuple [.int q.1,.int q.2]::l,?_⟩;show (pyD (pD q)).bind (λx=>(uC (qs.map pD)).map (x::·))=_
  rw[e];rfl
def RV (qs:Ab Pt):Pn (.tup (qs.map pD)):=by
 obtain⟨l,e⟩:=aP qs;exact⟨.tuple l,by simp only[pyD,e,Jq]⟩
def eO (q:Pt):Pn (pD q):=⟨.tuple [.int q.1,.int q.2],rfl⟩
structure Lt (ps:Ab Pt):Prop where
 pt:(ps.map pD).all qO=true
 ne:1≤ps.length
 le:ps.length≤40
 lot:wA (.tup (ps.map pD))=true
def Lt.pn {ps:Ab Pt}(h:Lt ps):Pn (.tup (ps.map pD)):=RV ps
def Lt.up {ps:Ab Pt}(h:Lt ps):(ps.map kP).Pairwise (λa b=>_H.lexLt a b=true):=SL h.lot
def Lt.bd {ps:Ab Pt}(h:Lt ps){q:Pt}(hq:q∈ps):(-1000≤q.1∧q.1≤1000)∧(-1000≤q.2∧q.2≤1000):=by
 have:=Ar.mp h.pt (pD q) (Ht hq);obtain⟨x,y,e,hx,hy⟩:=vF this;unfold pD at e;injection e with e
 injection e with e1 e2
 injection e2 with e2 _
 cases e1;cases e2;exact⟨hx,hy⟩
def jH {q:Pt}(h:(-1000≤q.1∧q.1≤1000)∧(-1000≤q.2∧q.2≤1000)):qO (pD q)=true:=mI h.1 h.2
def DW (ps:Ab Pt)(env:qF)(i:Ai)(S:Sto)(h:env[i]? = Aa (Aa (.tup (ps.map pD)))):dIt (qB i) env S=.ok (none,ps.map pD) S:=by
 unfold dIt;rw[zS h];rfl
def o4 {F:DF}{env:qF}{S:Sto}{d:D}(h:env[i]? = Aa (Aa d))(hF:F [d] S=.ok .non S):yW (qG 1 F (qA (qB i) (qC))) env S=.nx env S:=by
 unfold yW;rw[(y8 (zS h)).trans hF];rfl
def WJ {F:DF}{env:qF}{S:Sto}{d:D}{v:Ad}(h:env[i]? = Aa (Aa d))(hF:F [d] S=.ex v .non S):yW (qG 1 F (qA (qB i) (qC))) env S=.ex v .non env S:=by
 unfold yW;rw[(y8 (zS h)).trans hF];rfl
def EV {f:DS}{env env1:qF}{S:Sto}(h:f env S=.nx env1 S1):qM f g env S=g env1 S1:=by
 unfold qM;rw[h]
def VN {f:DS}{env env1:qF}{S:Sto}{v:Ad}{x:D}(h:f env S=.ex v x env1 S1):qM f g env S=.ex v x env1 S1:=by
 unfold qM;rw[h]
def far (p q:Pt):Ak:=(p.1-q.1)*(p.1-q.1)+(p.2-q.2)*(p.2-q.2)
def k8 (p:Pt):Prop:=-2000≤p.1∧p.1≤2000 ∧ -2000≤p.2∧p.2≤2000
def cU (p:Pt)(S:Sto):gIx (pD p) (.int 0) S=.ok (.int p.1) S:=rfl
def cV (p:Pt)(S:Sto):gIx (pD p) (.int 1) S=.ok (.int p.2) S:=rfl
def ZY (p q:Pt)(S:Sto)(hp:k8 p)(hq:k8 q):S_far_between [pD p,pD q] S=.ok (.int (far p q)) S:=by
 obtain⟨a1,a2,a3,a4⟩:=hp;obtain⟨b1,b2,b3,b4⟩:=hq;have m1:=jF (p.1-q.1) (p.1-q.1) S ⟨by omega,by omega⟩
 have m2:=jF (p.2-q.2) (p.2-q.2) S ⟨by omega,by omega⟩
 rw[kQ];unfold b_far_between;simp[z9,j2,MJ,qAZ,qAY,qM,sIf,qZ,zI,yW,zC,gNm,gSb,gTp,zA,xS,kB,OZ,qAh,O1,dC,qB,d1,d2,qA,qC,qE,qG,dTr,zO,xV,zG,y7,ZC,dIf,zY,qU,zJ,n9,dBm,dSl,qN,qS,wZ,yL,Res.bind,Res.toS,_D.j1,_D.uD,qAb,qAa,HC,qAi,qAd,qAe,qAf,qAc,qAX,qAW,DR,gLt,gLe,gGt,gGe,_D.xR,qAg,cU,cV,m1,m2,wD,far]
def cD (xs:Ab D)(i:Ai):xA xs (Aa ((i:Ak)+1)) none=xs.drop (i+1):=by
 unfold xA;have e1:_H.sIx xs.length 0 (Aa ((i:Ak)+1))=min (i+1) xs.length:=by
  have:((i:Ak)+1)=((i+1:Ai):Ak):=by omega
  rw[this,_H.sIx_nat]
 rw[e1,_H.sIx_none];by_cases h:i+1≤xs.length
 ·rw[Td h,Js (by simp)]
 ·have:xs.drop (i+1)=[]:=Mh om
  rw[this,Yj om];simp
def eL:Ai→Ab D→Ab D
 |_,[]=>[]
 |k,x::xs=>D.tup [.int (k:Ak),x]::eL (k+1) xs
def cH (xs:Ab D):vW xs=eL 0 xs:=by
 have key:∀ (xs:Ab D) (k:Ai),(xs.mapIdx λi x=>D.tup [.int ((i+k:Ai):Ak),x])=eL k xs:=by
  intro xs
  induction xs with
  |nil=>intro k;rfl
  |cons x xs ih =>
   intro k;rw[List.mapIdx_cons];show _::_=D.tup [.int (k:Ak),x]::eL (k+1) xs
   congr 1
   ·simp
   ·rw[← ih (k+1)]
    congr 1
    funext i y
    congr 4
    omega
 have:=key xs 0;simpa [vW] using this
def qW:Ab Pt→Ab (Pt × Pt)
 |[]=>[]
 |p::ps=>ps.map (λq=>(p,q))++qW ps
def qH (x:Pt × Pt):Ak:=far x.1 x.2
def prD (x:Pt × Pt):D:=.tup [pD x.1,pD x.2]
structure GI (n:Ai)(prs:Ab (Pt × Pt))(kvs:Ab (_L.Key × D))(S:Sto):Prop where
 dict:S[n]? = Aa (.dct kvs)
 lists:∀ kv∈kvs,∃ (f:Ak) (j:Ai),kv=(.inl f,.loc j)∧n<j∧S[j]? = Aa (.lst ((prs.filter λx=>qH x == f).map prD))
 nd:(kvs.map (·.2)).Nodup
 keys:kvs.map (·.1)=((prs.map qH).foldl Bc []).map He
set_option tactic.hygienic true in
def N3 {l:Ab Ak}{k x:Ak}:x∈Bc l k↔x∈l∨x=k:=by
 unfold Bc
 split
 ·rename_i h
  simp at h;constructor
  ·exact λz=>.inl z
  ·rintro (z|rfl)
   ·exact z
   ·exact h
 ·simp
def mO {l:Ab Ak}{k:Ak}(h:k∈l):Bc l k=l:=by
 unfold Bc;rw[Bd (by simpa using h)]
def bF {l:Ab Ak}{k:Ak}(h:k ∉ l):Bc l k=l++[k]:=by
 unfold Bc;rw[Be (by simpa using h)]
def tH:∀ {l:Ab Ak} {x:Ak},x∈ks.foldl Bc l↔x∈l∨x∈ks:=by
 induction ks with
 |nil=>intro l x;simp
 |cons k ks ih =>
  intro l x;rw[Ky,ih,N3,Av];constructor
  ·rintro ((h|h)|h)
   ·exact .inl h
   ·exact .inr (.inl h)
   ·exact .inr (.inr h)
  ·rintro (h|h|h)
   ·exact .inl (.inl h)
   ·exact .inl (.inr h)
   ·exact .inr h
def JH:∀ {l:Ab Ak},(ks.foldl Bc l).length≤l.length+ks.length:=by
 induction ks with
 |nil=>intro l;simp
 |cons k ks ih =>
  intro l;rw[Ky];have h1:=ih (l:=Bc l k);have h2:(Bc l k).length≤l.length+1:=by
   unfold Bc
   split <;> simp
  rw[Ci];omega
def GH {k:_L.Key}{d:D}(h:xN kvs k=Aa d):(k,d)∈kvs:=by
 unfold xN at h;obtain⟨kv,h1,rfl⟩:=DL.mp h;have h2:=Nw h1;have h3:=Ir h1;have h4:kv.1=k:=by simpa using h2
 subst h4;exact h3
def iH {k:_L.Key}(h:xN kvs k=none):∀ kv∈kvs,kv.1≠k:=by
 unfold xN at h;have h1:=Option.map_eq_none_iff.mp h;intro kv hk e;have:=Ji.mp h1 kv hk;simp[e] at this
def B6 {S:Sto}{i x:D}{k:_L.Key}(hd:S[n]? = Aa (.dct kvs))(hk:vB i=Aa k):yE (.loc n) [i,x] S=(match xN kvs k with|some d=>.ok d S|none=>if kvs.length<lim then .ok x (S.set n (.dct (yN kvs k x))) else .bad):=by
 show (match S[n]? with|some (.dct kvs)=>(match vB i with|some k=>(match xN kvs k with|some d=>Res.ok d S|none=>if kvs.length<lim then .ok x (S.set n (.dct (yN kvs k x))) else .bad)|none=>.bad)|_=>.bad)=_
 rw[hd,hk]
def TX {S:Sto}{i x d:D}{k:_L.Key}(hd:S[n]? = Aa (.dct kvs))(hk:vB i=Aa k)(hv:xN kvs k=Aa d):yE (.loc n) [i,x] S=.ok d S:=by
 rw[B6 hd hk,hv]
def TV {S:Sto}{i x:D}{k:_L.Key}(hd:S[n]? = Aa (.dct kvs))(hk:vB i=Aa k)(hv:xN kvs k=none)(hl:kvs.length<lim):yE (.loc n) [i,x] S=.ok x (S.set n (.dct (yN kvs k x))):=by
 rw[B6 hd hk,hv];exact Bd hl
def YL {β γ:Type}{l:Ab β}{f:β→γ}(nd:(l.map f).Nodup){x y:β}(hx:x∈l)(hy:y∈l)(e:f x=f y):x=y:=by
 obtain⟨a,ha,rfl⟩:=Cu.mp hx;obtain⟨b,hb,rfl⟩:=Cu.mp hy;have:a=b:=(Mn nd (h₀:=by simpa using ha) (h₁:=by simpa using hb)).mp (by simpa using e)
 subst this;rfl
set_option tactic.hygienic true in
def FK:∀ (ks l:Ab Ak),l.Nodup→(ks.foldl Bc l).Nodup:=by
 intro ks
 induction ks with
 |nil=>exact λl h=>h
 |cons k ks ih =>
  intro l h;rw[Ky];apply ih;unfold Bc
  split
  ·exact h
  ·rename_i hn
   rw[Ma];refine⟨h,by simp,?_⟩
   intro a ha b hb hab;simp at hb hn;subst hb;subst hab;exact hn ha
def FW (h:kvs.map (·.1)=(ks.foldl Bc []).map He):(kvs.map (·.1)).Nodup:=by
 rw[h,Zf,Hl];exact(FK ks [] Ua).imp λhne e=>hne (Tf e)
def FM {prs:Ab (Pt × Pt)}{S:Sto}(I:GI n prs kvs S)(x:Pt × Pt)(hl:prs.length<4000) :
  ∃ (j:Ai) (S1 S2:Sto) (kvs':Ab (_L.Key × D)),yE (.loc n) [.int (qH x),.loc S.length] (S++[.lst []]) = .ok (.loc j) S1∧tyD (.loc j) S1=Aa "list" ∧ yD (.loc j) [prD x] S1=.ok .non S2∧GI n (prs++[x]) kvs' S2∧∀ m,m<n→S2[m]? = S[m]?:=by
 have hnS:n<S.length:=(Bb.mp I.dict).1;have hd:(S++[MO.lst []])[n]? = Aa (.dct kvs):=by rw[Bl hnS];exact I.dict
 have hkl:kvs.length≤prs.length:=by
  have h1:kvs.length=(kvs.map (·.1)).length:=by simp
  rw[h1,I.keys,Ay];have:=JH (ks:=prs.map qH) (l:=[]);simpa using this
 have hlim:kvs.length<lim:=by unfold lim;omega
 have jlt:∀ {f:Ak} {j:Ai},((He f:_L.Key),D.loc j)∈kvs→n<j∧j<S.length∧S[j]? = Aa (.lst ((prs.filter λx=>qH x == f).map prD)):=by
  intro f j hm;obtain⟨f',j',e,h1,h2⟩:=I.lists _ hm;cases e;exact⟨h1,(Bb.mp h2).1,h2⟩
 cases hv:xN kvs (.inl (qH x)) with
 |some d =>
  have hm:=GH hv;obtain⟨f,j,e,h1,h2⟩:=I.lists _ hm;have e1:f=qH x:=by
   have:=congrArg Prod.fst e;exact(Tf this).symm
  have e2:d=.loc j:=congrArg Prod.snd e;subst e1;subst e2;have hjS:=(Bb.mp h2).1;have h2':(S++[MO.lst []])[j]? = Aa (.lst ((prs.filter λy=>qH y == qH x).map prD)):=by rw[Bl hjS];exact h2
  have hll:((prs.filter λy=>qH y == qH x).map prD).length<lim:=by
   rw[Ay];have:=Ka (λy=>qH y == qH x) prs;unfold lim;omega
  refine⟨j,S++[MO.lst []],(S++[MO.lst []]).set j (.lst ((prs.filter λy=>qH y == qH x).map prD++[prD x])),kvs,?_,?_,?_,⟨?_,?_,I.nd,?_⟩,?_⟩
  ·exact TX hd rfl hv
  ·exact XH h2'
  ·exact eX h2' hll _
  ·rw[Cb om];exact hd
  ·intro kv hk
   obtain⟨f',j',rfl,h3,h4⟩:=I.lists kv hk;refine⟨f',j',rfl,h3,?_⟩;have hj':=(Bb.mp h4).1;by_cases hjj:j=j'
   ·subst hjj
    have hff:f'=qH x:=Tf (congrArg Prod.fst (YL (f:=(·.2)) I.nd hk hm rfl))
    subst hff;rw[Dk (by simp;omega)]
    rw[Lj];simp
   ·rw[Cb hjj,Bl hj',h4]
    have hne:(qH x == f')=false:=by
     rw[Gc];rintro rfl;exact hjj (D.loc.inj (congrArg Prod.snd (YL (f:=(·.1)) (FW I.keys) hm hk rfl)))
    rw[Lj];simp[hne]
  ·rw[Ho,Xl]
   show _=(Bc ((prs.map qH).foldl Bc []) (qH x)).map He;have hin:qH x∈(prs.map qH).foldl Bc []:=by
    have:(He (qH x):_L.Key)∈kvs.map (·.1):=Cw.mpr ⟨_,hm,rfl⟩
    rw[I.keys] at this;obtain⟨y,hy,e⟩:=Cw.mp this;cases e;exact hy
   rw[mO hin];exact I.keys
  ·intro m hm
   rw[Cb om,Bl om]
 |none =>
  have hno:=iH hv;have hput:yN kvs (.inl (qH x)) (.loc S.length)=kvs++[(.inl (qH x),.loc S.length)]:=by
   unfold yN;rw[Be];rw[Ro];rintro⟨kv,hk,e⟩;exact hno kv hk (by simpa using e)
  have hfn:qH x ∉ prs.map qH:=by
   intro hin;have:(He (qH x):_L.Key)∈kvs.map (·.1):=by
    rw[I.keys];exact Cw.mpr ⟨_,tH.mpr (.inr hin),rfl⟩
   obtain⟨kv,hk,e⟩:=Cw.mp this;exact hno kv hk e
  have hS1:((S++[MO.lst []]).set n (.dct (kvs++[(He (qH x),.loc S.length)])))[S.length]? = Aa (.lst []):=by
   rw[Cb om];simp
  refine⟨S.length,(S++[MO.lst []]).set n (.dct (kvs++[(.inl (qH x),.loc S.length)])),((S++[MO.lst []]).set n (.dct (kvs++[(.inl (qH x),.loc S.length)]))).set S.length (.lst [prD x]),kvs++[(.inl (qH x),.loc S.length)],?_,?_,?_,⟨?_,?_,?_,?_⟩,?_⟩
  ·rw[← hput]
   exact TV hd rfl hv hlim
  ·exact XH hS1
  ·have:(0:Ai)<lim:=by decide
   exact eX hS1 this _
  ·rw[Cb om,Dk (by simp;omega)]
  ·intro kv hk
   rcases Cq.mp hk with hk|hk
   ·obtain⟨f',j',rfl,h3,h4⟩:=I.lists kv hk
    have hj':=(Bb.mp h4).1;refine⟨f',j',rfl,h3,?_⟩;rw[Cb om,Cb om,Bl hj',h4];have hne:(qH x == f')=false:=by
     rw[Gc];intro e;exact hno _ hk (by rw[e])
    rw[Lj];simp[hne]
   ·have:kv=(.inl (qH x),.loc S.length):=by simpa using hk
    subst this;refine⟨qH x,S.length,rfl,hnS,?_⟩;rw[Dk (by simp)]
    have:(prs.filter λy=>qH y == qH x)=[]:=by
     rw[Mk];intro y hy e;exact hfn (by rw[← (by simpa using e:qH y=qH x)];exact Cw.mpr ⟨y,hy,rfl⟩)
    rw[Lj,this];simp
  ·rw[Ho,Ma]
   refine⟨I.nd,by simp,?_⟩
   intro a ha b hb hab;simp at hb;subst hb;subst hab;obtain⟨kv,hk,e⟩:=Cw.mp ha;obtain⟨f',j',rfl,h3,h4⟩:=I.lists kv hk;have hj':=(Bb.mp h4).1;have:j'=S.length:=D.loc.inj e;omega
  ·rw[Ho,I.keys,Ho,Xl]
   show _=(Bc ((prs.map qH).foldl Bc []) (qH x)).map He;have hin:qH x ∉ (prs.map qH).foldl Bc []:=by
    intro h;rcases tH.mp h with h|h
    ·simp at h
    ·exact hfn h
   rw[bF hin,Ho];rfl
  ·intro m hm
   rw[Cb om,Cb om,Bl om]
def U8 (l:Ab Pt):(qW l).length≤l.length*l.length:=by
 induction l with
 |nil=>simp[qW]
 |cons p l ih =>
  have e:(p::l).length*(p::l).length=l.length*l.length+l.length+l.length+1:=by
   simp only[Ci,Nat.add_mul,Nat.mul_add];omega
  rw[e];simp only[qW,Bo,Ay];omega
def YV {S:Sto}(h:∀ m,m<S.length→S'[m]? = S[m]?):S<+:S':=by
 rw[List.prefix_iff_getElem?];intro i hi;rw[h i hi,An hi]
def t8 {l:Ab Pt}{x:Pt × Pt}(h:x∈qW l):x.1∈l∧x.2∈l:=by
 induction l with
 |nil=>simp[qW] at h
 |cons p l ih =>
  simp only[qW,Cq,Cw] at h;rcases h with⟨q,hq,rfl⟩|h
  ·exact⟨Dd ..,Bu _ hq⟩
  ·exact⟨Bu _ (ih h).1,Bu _ (ih h).2⟩
def eK {l:Ab Pt}(h:l.length≤41):(qW l).length<4000:=by
 have h1:=U8 l;have h2:l.length*l.length≤41*41:=Nat.mul_le_mul h h;omega
inductive IvG1 (l:Ab Pt)(S:Sto)(ds:Ab D)(env:qF)(S':Sto):Prop
 |mk (i:Ai) (e2 e3 e4:Am D) (done:Ab (Pt × Pt)) (kvs:Ab (_L.Key × D)) (h_0:env=[Aa (.tup (l.map pD)),Aa (.loc S.length),e2,e3,e4]) (h_1:ds=eL i ((l.drop i).map pD)) (h_2:GI S.length done kvs S') (h_3:done++qW (l.drop i)=qW l) (h_4:∀ m,m<S.length→S'[m]? = S[m]?):IvG1 l S ds env S'
inductive IvG2 (l:Ab Pt)(S:Sto)(i:Ai)(p:Pt)(rest:Ab Pt)(ds:Ab D)(env:qF)(S':Sto):Prop
 |mk (r:Ab Pt) (e4:Am D) (done:Ab (Pt × Pt)) (kvs:Ab (_L.Key × D)) (h_0:env=[Aa (.tup (l.map pD)),Aa (.loc S.length),Aa (.int (i:Ak)),Aa (pD p),e4]) (h_1:ds=r.map pD) (h_2:(∀ q∈r,q∈l)) (h_3:GI S.length done kvs S') (h_4:done++(r.map (λq=>(p,q))++qW rest)=qW l) (h_5:∀ m,m<S.length→S'[m]? = S[m]?):IvG2 l S i p rest ds env S'
def TN (l:Ab Pt)(S:Sto)(hok:∀ p∈l,k8 p)(hl:l.length≤41):∃ (kvs:Ab (_L.Key × D)) (S':Sto),S_pairs_by_far [.tup (l.map pD)] S=.ok (.loc S.length) S'∧GI S.length (qW l) kvs S'∧∀ m,m<S.length→S'[m]? = S[m]?:=by
 have key:Rt (b_pairs_by_far [Aa (.tup (l.map pD)),none,none,none,none] S) λd S'=>d=.loc S.length∧∃ kvs,GI S.length (qW l) kvs S'∧∀ m,m<S.length→S'[m]? = S[m]?:=by
  unfold b_pairs_by_far;refine qY (lA (xG rfl ?_));refine qY (uY (ds:=vW (l.map pD)) (S1:=S++[.dct []]) rfl ?_);refine vN (IvG1 l S) ?_ ?_ ?_
  ·rintro d ds env S' ⟨i,e2,e3,e4,done,kvs,rfl,hds,G,hall,hpre⟩
   cases hdr:l.drop i with
   |nil=>rw[hdr] at hds;cases hds
   |cons p rest =>
    rw[hdr] at hds hall;simp only[Dj,eL] at hds;injection hds with h1 h2
    subst h1 h2;have hrest:l.drop (i+1)=rest:=by
     have:=congrArg List.tail hdr;simpa [List.tail_drop] using this
    have hmem:∀ q∈p::rest,q∈l:=λq hq=>Go (hdr▸hq);refine⟨[Aa (.tup (l.map pD)),Aa (.loc S.length),Aa (.int (i:Ak)),Aa (pD p),e4],S',rfl,?_⟩;have hsl:wZ (dSl (qB 0) (qN (d2 qL (qB 2) (dC (.int 1)))) (qS)) [Aa (.tup (l.map pD)),Aa (.loc S.length),Aa (.int (i:Ak)),Aa (pD p),e4] S'=.ok (rest.map pD) S':=by
     have e1:gSl (.tup (l.map pD)) (Aa ((i:Ak)+1)) none S'=.ok (.tup (rest.map pD)) S':=by
      show Res.ok (D.tup (xA (l.map pD) (Aa ((i:Ak)+1)) none)) S'=_;rw[cD,← Nb,hrest]
     simp[z9,j2,MJ,qAZ,qAY,qM,sIf,qZ,zI,yW,zC,gNm,gSb,gTp,zA,xS,kB,OZ,qAh,O1,dC,qB,d1,d2,qA,qC,qE,qG,dTr,zO,xV,zG,y7,ZC,dIf,zY,qU,zJ,n9,dBm,dSl,qN,qS,wZ,yL,Res.bind,Res.toS,_D.j1,_D.uD,qAb,qAa,HC,qAi,qAd,qAe,qAf,qAc,qAX,qAW,DR,gLt,gLe,gGt,gGe,_D.xR,qAg,wD,e1]
    refine uY hsl ?_;refine vN (IvG2 l S i p rest) ?_ ?_ ?_
    ·rintro d ds env S' ⟨r,e4,done,kvs,rfl,hds,hr,G,hall,hpre⟩
     cases r with
     |nil=>cases hds
     |cons q r =>
      injection hds with h1 h2
      subst h1 h2;have hdl:done.length<4000:=by
       have:=congrArg Tk hall;have h3:=eK hl;simp only[Bo] at this;omega
      obtain⟨j,S1,S2,kvs',f1,f2,f3,G',hp'⟩:=FM G (p,q) hdl;refine⟨[Aa (.tup (l.map pD)),Aa (.loc S.length),Aa (.int (i:Ak)),Aa (pD p),Aa (pD q)],S',rfl,?_⟩;refine oW ?_;have hfar:=ZY p q S' (hok p (hmem p (Dd ..))) (hok q (hr q (Dd ..)));have hty:tyD (.loc S.length) S'=Aa "dict":=VX G.dict;have l2:2≤lim:=by decide
      have l0:0≤lim:=by decide
      have f1':yE (.loc S.length) [.int (far p q),.loc S'.length] (S'++[MO.lst []]) = .ok (.loc j) S1:=f1;have f3':yD (.loc j) [.tup [pD p,pD q]] S1=.ok .non S2:=f3;refine xG (d:=.non) (S:=S2) ?_ ?_
      ·simp[z9,j2,MJ,qAZ,qAY,qM,sIf,qZ,zI,yW,zC,gNm,gSb,gTp,zA,xS,kB,OZ,qAh,O1,dC,qB,d1,d2,qA,qC,qE,qG,dTr,zO,xV,zG,y7,ZC,dIf,zY,qU,zJ,n9,dBm,dSl,qN,qS,wZ,yL,Res.bind,Res.toS,_D.j1,_D.uD,qAb,qAa,HC,qAi,qAd,qAe,qAf,qAc,qAX,qAW,DR,gLt,gLe,gGt,gGe,_D.xR,qAg,hfar,hty,l2,l0,f1',f2,f3']
      ·refine⟨r,_,done++[(p,q)],kvs',rfl,rfl,λq' hq=>hr q' (Bu _ hq),G',?_,λm hm=>(hp' m hm).trans (hpre m hm)⟩
       rw[← hall];simp
    ·rintro env S' ⟨r,e4,done,kvs,rfl,hds,hr,G,hall,hpre⟩
     cases r with
     |cons _ _=>cases hds
     |nil =>
      refine⟨i+1,_,_,_,done,kvs,rfl,?_,G,?_,hpre⟩
      ·rw[hrest]
      ·rw[hrest];simpa using hall
    ·exact⟨rest,e4,done,kvs,rfl,rfl,λq hq=>hmem q (Bu _ hq),G,by simpa [qW] using hall,hpre⟩
  ·rintro env S' ⟨i,e2,e3,e4,done,kvs,rfl,hds,G,hall,hpre⟩
   refine xK (xG rfl ⟨rfl,kvs,?_,hpre⟩);cases hdr:l.drop i with
   |cons _ _=>rw[hdr] at hds;cases hds
   |nil =>
    rw[hdr] at hall;have:done=qW l:=by simpa [qW] using hall
    rw[← this];exact G
  ·refine⟨0,none,none,none,[],[],rfl,?_,⟨?_,?_,Ua,rfl⟩,rfl,?_⟩
   ·rw[cH];rfl
   ·simp
   ·intro kv hk;simp at hk
   ·intro m hm;rw[Bl hm]
 obtain⟨d,S',e,rfl,kvs,G,hp⟩:=key;exact⟨kvs,S',by rw[kE];exact yS rfl e,G,hp⟩
def GY (i:Ak)(h:i.natAbs<2 ^ 64)(S:Sto):jG (.int i) (.int 2) S=.ok (.int (i*i)) S:=by
 unfold jG;rw[DR,Bd (by unfold L0;exact Bi ⟨by omega,by omega,h⟩)]
 show Res.ok (D.int (i ^ (0+1+1))) S=_;rw[Int.pow_succ,Int.pow_succ,Int.pow_zero,Int.one_mul]
def fQ (p q:Pt)(S:Sto)(hp:k8 p)(hq:k8 q):S__law_far [pD p,pD q] S=.ok (.int (far p q)) S:=by
 obtain⟨a1,a2,a3,a4⟩:=hp;obtain⟨b1,b2,b3,b4⟩:=hq;rw[bG];have sub:∀ (i j:Ak),xR (.int i) (.int j) S=.ok (.int (i-j)) S:=λ_ _=>rfl;have k1:d2 jG (d2 xR (d2 gIx (qB 0) (dC (.int 0))) (d2 gIx (qB 1) (dC (.int 0)))) (dC (.int 2)) [Aa (pD p),Aa (pD q)] S=.ok (.int ((p.1-q.1)*(p.1-q.1))) S:=
  (qJ ((qJ ((qJ (a:=pD p) (b:=.int 0) rfl rfl).trans (cU p S)) ((qJ (a:=pD q) (b:=.int 0) rfl rfl).trans (cU q S))).trans (sub _ _)) rfl).trans (GY _ om S)
 have k2:d2 jG (d2 xR (d2 gIx (qB 0) (dC (.int 1))) (d2 gIx (qB 1) (dC (.int 1)))) (dC (.int 2)) [Aa (pD p),Aa (pD q)] S=.ok (.int ((p.2-q.2)*(p.2-q.2))) S:=
  (qJ ((qJ ((qJ (a:=pD p) (b:=.int 1) rfl rfl).trans (cV p S)) ((qJ (a:=pD q) (b:=.int 1) rfl rfl).trans (cV q S))).trans (sub _ _)) rfl).trans (GY _ om S)
 exact sA (env:=[Aa (pD p),Aa (pD q)]) rfl ((qJ k1 k2).trans (wD _ _ S))
inductive IvP (l:Ab Pt)(S0:Sto)(ds:Ab D)(env:qF)(S:Sto):Prop
 |mk (i m:Ai) (e2:Am D) (done:Ab (Pt × Pt)) (h_0:env=[Aa (.tup (l.map pD)),Aa (.lst (done.map prD)),e2]) (h_1:ds=(List.range' i m).map iD) (h_2:i+m=l.length) (h_3:done++qW (l.drop i)=qW l) (h_4:S=S0):IvP l S0 ds env S
def aU (l:Ab Pt)(S:Sto)(hl:l.length≤41):S__law_pairs [.tup (l.map pD)] S=.ok (.lst ((qW l).map prD)) S:=by
 have hA:=eK hl;have key:Rt (b__law_pairs [Aa (.tup (l.map pD)),none,none] S) λd S'=>d=.lst ((qW l).map prD)∧S'=S:=by
  unfold b__law_pairs;refine qY (zF (d:=.lst []) (S1:=S) rfl rfl ?_);have hr:yL (qA (qE zE (qA (qB 0) (qC))) (qC)) [Aa (.tup (l.map pD)),Aa (.lst []),none] S=.ok ((List.range' 0 l.length).map iD) S:=by
   have e1:qE zE (qA (qB 0) (qC)) [Aa (.tup (l.map pD)),Aa (.lst []),none] S=.ok (.int (l.length:Ak)) S:=by
    rw[xO (a:=.tup (l.map pD)) rfl,uA,Ay]
   unfold yL;rw[yC e1,Res.bind_ok,Q8 l.length om,rK,List.range_eq_range']
  refine qY (uY hr ?_);refine vN (IvP l S) ?_ ?_ ⟨0,l.length,none,[],rfl,rfl,by omega,rfl,rfl⟩
  ·rintro d ds env S' ⟨i,m,e2,done,rfl,hds,hm,hall,rfl⟩
   cases m with
   |zero=>cases hds
   |succ m =>
    rw[List.range'_succ,Dj] at hds;injection hds with h1 h2
    subst h1 h2;have hi:i<l.length:=by omega
    have hdr:l.drop i=l[i]::l.drop (i+1):=Im hi;rw[hdr] at hall;refine⟨[Aa (.tup (l.map pD)),Aa (.lst (done.map prD)),Aa (iD i)],S',rfl,?_⟩;have hsl:dIt (dSl (qB 0) (qN (d2 qL (qB 2) (dC (.int 1)))) (qS)) [Aa (.tup (l.map pD)),Aa (.lst (done.map prD)),Aa (iD i)] S'=.ok (none,(l.drop (i+1)).map pD) S':=by
     have e1:gSl (.tup (l.map pD)) (Aa ((i:Ak)+1)) none S'=.ok (.tup ((l.drop (i+1)).map pD)) S':=by
      show Res.ok (D.tup (xA (l.map pD) (Aa ((i:Ak)+1)) none)) S'=_;rw[cD,← Nb]
     unfold iD;have e2:dSl (qB 0) (qN (d2 qL (qB 2) (dC (.int 1)))) (qS) [Aa (.tup (l.map pD)),Aa (.lst (done.map prD)),Aa (.int (i:Ak))] S'=.ok (.tup ((l.drop (i+1)).map pD)) S':=by
      simp[z9,j2,MJ,qAZ,qAY,qM,sIf,qZ,zI,yW,zC,gNm,gSb,gTp,zA,xS,kB,OZ,qAh,O1,dC,qB,d1,d2,qA,qC,qE,qG,dTr,zO,xV,zG,y7,ZC,dIf,zY,qU,zJ,n9,dBm,dSl,qN,qS,wZ,yL,Res.bind,Res.toS,_D.j1,_D.uD,qAb,qAa,HC,qAi,qAd,qAe,qAf,qAc,qAX,qAW,DR,gLt,gLe,gGt,gGe,_D.xR,qAg,wD,e1]
     unfold dIt;rw[e2];rfl
    have hat:_L.atI (l.map pD) (i:Ak)=Aa (pD l[i]):=_L.BF (by rw[Dw,An hi];rfl)
    have hc:=jD (enc:=pD) (cap:=[none,Aa 2,Aa 0]) (g:=gNm 0) (t:=zG) (fe:=qU (qA (d2 gIx (qB 2) (qB 1)) (qA (qB 0) (qC)))) hsl trivial (λ_=>true) (λq=>prD (l[i],q)) (λenv=>∃ a,env=[a,Aa (iD i),Aa (.tup (l.map pD))]) ⟨none,rfl⟩ (by rw[Gn];unfold lim;omega)
     (λq hq env ⟨a,z⟩=>by
      subst z;exact⟨[Aa (pD q),Aa (iD i),Aa (.tup (l.map pD))],rfl,⟨_,rfl⟩,rfl,λ_=>xU (xP ((qJ (a:=.tup (l.map pD)) (b:=.int (i:Ak)) rfl rfl).trans (uW hat S')) rfl) (by show 2≤lim;decide)⟩)
    rw[wK] at hc;have hlen:done.length+(l.drop (i+1)).length≤lim:=by
     have:=congrArg Tk hall;simp only[qW,Bo,Ay] at this;unfold lim;omega
    refine zF ((qJ (a:=.lst (done.map prD)) rfl hc).trans (wF (by rw[Ay,Ay];exact hlen) S')) rfl ?_
    refine⟨i+1,m,Aa (iD i),done++(l.drop (i+1)).map λq=>(l[i],q),?_,rfl,by omega,?_,rfl⟩
    ·rw[Ho,NE]
     rfl
    ·rw[Eo]
     exact hall
  ·rintro env S' ⟨i,m,e2,done,rfl,hds,hm,hall,rfl⟩
   have hm0:m=0:=by
    have:=congrArg Tk hds;simpa using this.symm
   rw[List.drop_of_length_le om,qW,Hf] at hall;subst hall;exact xK (xG (S:=S') rfl ⟨rfl,rfl⟩)
 obtain⟨d,S',e,rfl,rfl⟩:=key;rw[gJ];exact yS rfl e
abbrev PP:=Pt × Pt
def fl:Ab PP→Am (PP × PP)
 |[]=>none
 |x::xs=>match xs.find? (λy=>qH y == qH x) with
  |some y=>Aa (x,y)
  |none=>fl xs
def lw (acc:Ab PP):Ab PP→Ab (PP × PP)
 |[]=>[]
 |x::xs=>(match acc.find? (λy=>qH y == qH x) with|some y=>[(y,x)]|none=>[])++lw (acc++[x]) xs
def YB:∀ (xs acc:Ab PP) (z:PP × PP),z∈lw acc xs→z.1∈acc++xs∧z.2∈xs∧qH z.1=qH z.2
 |[],acc,z,h=>by cases h
 |x::xs,acc,z,h=>by
  rcases Cq.mp (show z∈(match acc.find? (λy=>qH y == qH x) with|some y=>[(y,x)]|none=>[])++lw (acc++[x]) xs from h) with h|h
  ·cases q:acc.find? (λy=>qH y == qH x) with
   |none=>rw[q] at h;cases h
   |some y =>
    rw[q] at h;have e:z=(y,x):=by simpa using h
    subst e;exact⟨Do _ (Ir q),.head _,by simpa using Nw q⟩
  ·obtain⟨h1,h2,h3⟩:=YB xs (acc++[x]) z h
   exact⟨by simpa using h1,.tail _ h2,h3⟩
def PN:∀ (xs acc:Ab PP) (a y:PP),y∈xs→qH y=qH a→(a,y)∈lw (a::acc) xs
 |[],acc,a,y,h,_=>by cases h
 |x::xs,acc,a,y,h,e=>by
  show (a,y)∈(match (a::acc).find? (λy=>qH y == qH x) with|some y=>[(y,x)]|none=>[])++lw (a::acc++[x]) xs
  rcases Av.mp h with h|h
  ·subst h
   refine Do _ ?_;have:(a::acc).find? (λz=>qH z == qH y)=Aa a:=by
    rw[Gw,e];simp
   rw[this];exact .head _
  ·exact Ch _ (PN xs (acc++[x]) a y h e)
def dN (a:PP):∀ (xs acc bcc:Ab PP),(∀ y∈xs,qH y≠qH a)→lw (acc++a::bcc) xs=lw (acc++bcc) xs
 |[],acc,bcc,_=>rfl
 |x::xs,acc,bcc,h=>by
  have hx:(qH a == qH x)=false:=Gc.mpr (Em (h x (.head _)));have e:(acc++a::bcc).find? (λy=>qH y == qH x)=(acc++bcc).find? (λy=>qH y == qH x):=by
   rw[Kb,Kb,Gw,hx]
  have t:=dN a xs acc (bcc++[x]) λy hy=>h y (.tail _ hy);show (match (acc++a::bcc).find? (λy=>qH y == qH x) with|some y=>[(y,x)]|none=>[])++lw (acc++a::bcc++[x]) xs=(match (acc++bcc).find? (λy=>qH y == qH x) with|some y=>[(y,x)]|none=>[])++lw (acc++bcc++[x]) xs
  rw[e,show acc++a::bcc++[x]=acc++a::(bcc++[x]) by simp,show acc++bcc++[x]=acc++(bcc++[x]) by simp,t]
def l7:∀ xs:Ab PP,fl xs=none→lw [] xs=[]
 |[],_=>rfl
 |x::xs,h=>by
  unfold fl at h;cases q:xs.find? (λy=>qH y == qH x) with
  |some y=>rw[q] at h;cases h
  |none =>
   rw[q] at h;have hn:∀ y∈xs,qH y≠qH x:=λy hy e=>by
    have:=Ji.mp q y hy;exact this (by simpa using e)
   show [] ++ lw ([] ++ x::[]) xs=[];rw[dN x xs [] [] hn];exact l7 xs h
def GX:∀ {R:PP→PP→Prop} {xs:Ab PP} {a b:PP},xs.Pairwise R→fl xs=Aa (a,b)→R a b∧qH a=qH b∧a∈xs∧b∈xs
 |R,[],a,b,_,h=>by cases h
 |R,x::xs,a,b,u,h=>by
  obtain⟨u1,u2⟩:=Dl.mp u;unfold fl at h;cases q:xs.find? (λy=>qH y == qH x) with
  |some y =>
   rw[q] at h;have e:x=a∧y=b:=by simpa using h
   obtain⟨rfl,rfl⟩:=e;have hy:=Ir q;have e2:qH y=qH x:=by simpa using Nw q
   exact⟨u1 y hy,e2.symm,.head _,.tail _ hy⟩
  |none =>
   rw[q] at h;obtain⟨h1,h2,h3,h4⟩:=GX u2 h;exact⟨h1,h2,.tail _ h3,.tail _ h4⟩
def PM:∀ {R:PP→PP→Prop} {xs:Ab PP} {a b:PP},xs.Pairwise R→fl xs=Aa (a,b)→(a,b)∈lw [] xs∧∀ z∈lw [] xs,R a z.1∨z.1=a∧(z.2=b∨R b z.2)
 |R,[],a,b,_,h=>by cases h
 |R,x::xs,a,b,u,h=>by
  obtain⟨u1,u2⟩:=Dl.mp u;unfold fl at h;cases q:xs.find? (λy=>qH y == qH x) with
  |some y =>
   rw[q] at h;have e:x=a∧y=b:=by simpa using h
   obtain⟨rfl,rfl⟩:=e;have hy:=Ir q;have e2:qH y=qH x:=by simpa using Nw q
   refine⟨PN xs [] x y hy e2,λz hz=>?_⟩;obtain⟨h1,h2,h3⟩:=YB xs [x] z hz;rcases Av.mp (show z.1∈x::xs from h1) with h1|h1
   ·refine .inr ⟨h1,?_⟩
    obtain⟨as,bs,e3,e4⟩:=List.find?_eq_some_iff_append.mp q |>.2
    rw[e3] at h2 u2;have hz2:(qH z.2 == qH x)=true:=by rw[← h3,h1];exact El _
    rcases Cq.mp h2 with h2|h2
    ·have:=e4 z.2 h2
     rw[hz2] at this;cases this
    ·rcases Av.mp h2 with h2|h2
     ·exact .inl h2
     ·exact .inr ((Dl.mp (Kh.mp u2).2.1).1 _ h2)
   ·exact .inl (u1 _ h1)
  |none =>
   rw[q] at h;have hn:∀ y∈xs,qH y≠qH x:=λy hy e=>by
    have:=Ji.mp q y hy;exact this (by simpa using e)
   have e:lw [] (x::xs)=lw [] xs:=by
    show [] ++ lw ([] ++ x::[]) xs=_;rw[dN x xs [] [] hn];rfl
   rw[e];exact PM u2 h
def ded (ks:Ab Ak):Ab Ak:=ks.foldl Bc []
def gP (k:Ak):∀ (ks l:Ab Ak),ks.foldl Bc (k::l)=k::(ks.filter λx=>x != k).foldl Bc l
 |[],l=>rfl
 |x::ks,l=>by
  show ks.foldl Bc (Bc (k::l) x)=_;by_cases hx:x=k
  ·subst hx
   rw[mO (.head _),gP x ks l];simp
  ·have e:((x::ks).filter λx=>x != k)=x::ks.filter λx=>x != k:=by simp[hx]
   rw[e];show _=k::(ks.filter λx=>x != k).foldl Bc (Bc l x);by_cases hl:x∈l
   ·rw[mO (.tail _ hl),mO hl,gP k ks l]
   ·rw[bF (by simp[hx,hl]),bF hl]
    exact gP k ks (l++[x])
def UU (k:Ak)(ks:Ab Ak):ded (k::ks)=k::ded (ks.filter λx=>x != k):=by
 show ks.foldl Bc (Bc [] k)=_;rw[bF (by simp)]
 exact gP k ks []
def two (g:Ab PP):Am (PP × PP):=match g with
 |a::b::_=>Aa (a,b)
 |_=>none
def cN {α β:Type}{f g:α→Am β} : ∀ {l:Ab α},(∀ x∈l,f x=g x)→l.findSome? f=l.findSome? g
 |[],_=>rfl
 |x::l,h=>by
  rw[Kv,Kv,h x (.head _),cN λy hy=>h y (.tail _ hy)]
def o7:∀ xs:Ab PP,(ded (xs.map qH)).findSome? (λf=>two (xs.filter λx=>qH x == f))=fl xs
 |[]=>rfl
 |x::xs=>by
  rw[Dj,UU,Kv];have e1:((x::xs).filter λz=>qH z == qH x)=x::xs.filter λz=>qH z == qH x:=by simp
  rw[e1];unfold fl;cases q:xs.find? (λy=>qH y == qH x) with
  |some y =>
   have:∃ t,(xs.filter λz=>qH z == qH x)=y::t:=by
    rw[← List.head?_filter] at q;cases z:(xs.filter λz=>qH z == qH x) with
    |nil=>rw[z] at q;cases q
    |cons a t=>rw[z] at q;cases q;exact⟨t,rfl⟩
   obtain⟨t,ht⟩:=this;rw[ht];rfl
  |none =>
   have hn:∀ y∈xs,qH y≠qH x:=λy hy e=>by
    have:=Ji.mp q y hy;exact this (by simpa using e)
   have e2:(xs.filter λz=>qH z == qH x)=[]:=Mk.mpr λz hz=>by simpa using hn z hz
   have e3:((xs.map qH).filter λz=>z != qH x)=xs.map qH:=List.filter_eq_self.mpr λz hz=>by
    obtain⟨y,hy,rfl⟩:=Cw.mp hz;simpa using hn y hy
   rw[e2,e3];show (ded (xs.map qH)).findSome? _=fl xs;rw[← o7 xs];refine cN λf hf=>?_;have hf':f∈xs.map qH:=by
    rcases tH.mp hf with h|h
    ·cases h
    ·exact h
   obtain⟨y,hy,rfl⟩:=Cw.mp hf';have:(qH x == qH y)=false:=Gc.mpr (Em (hn y hy));rw[Ye,this];rfl
def j7 (n:Ai)(p:Pt):trb (n+1) (pD p)=true:=by cases n <;> rfl
def u3 (n:Ai)(p:Pt):Tr (n+1) (pD p):=XB (j7 n p)
def gO (p q:Pt):eqD (pD p) (pD q)=decide (p=q):=by
 show (p.1 == q.1&&(p.2 == q.2&&true))=_;rw[Nq];simp[Prod.ext_iff]
def ltP (p q:Pt):Aq:=_H.lexLt (kP p) (kP q)
def gA (p q:Pt):ltN (pD p) (pD q)=ltP p q:=by
 have h1:=@y0 0 0 (.int p.1) (.int q.1) [.int p.2] [.int q.2] (.int _ _) (.int _ _) rfl;have h2:=@y0 0 0 (.int p.2) (.int q.2) [] [] (.int _ _) (.int _ _) rfl;unfold pD;rw[mG,h1,h2,dM,dM];unfold ltP kP;rw[_H.lexLt_cons,_H.lexLt_cons];show (if (p.1 == q.1)=true then if (p.2 == q.2)=true then _ else _ else _)=_
 simp only[Oe];rfl
def M8 (p:Pt):ltP p p=false:=_S.vS.irr _
def nZ {p q:Pt}(h:ltP p q=true):ltP q p=false:=by
 cases z:ltP q p with
 |false=>rfl
 |true=>exact absurd (_S.vS.tr h z) (by rw[_S.vS.irr];simp)
def YA {p q:Pt}(h:ltP p q=true):p≠q:=λe=>by subst e;rw[M8] at h;cases h
abbrev Up (l:Ab Pt):Prop:=l.Pairwise λp q=>ltP p q=true
def Lt.upP {l:Ab Pt}(L:Lt l):Up l:=by
 have:=L.up;rw[Hl] at this;exact this
def iQ {l:Ab Pt}(h:Up l){x:Pt × Pt}(hx:x∈qW l):ltP x.1 x.2=true:=by
 induction l with
 |nil=>cases hx
 |cons p l ih =>
  obtain⟨h1,h2⟩:=Dl.mp h;rcases Cq.mp (show x∈l.map (λq=>(p,q))++qW l from hx) with hx|hx
  ·obtain⟨q,hq,rfl⟩:=Cw.mp hx
   exact h1 q hq
  ·exact ih h2 hx
def ltQ (x y:PP):Aq:=if x.1=y.1 then (if x.2=y.2 then false else ltP x.2 y.2) else ltP x.1 y.1
def SM (x y:PP):ltN (prD x) (prD y)=ltQ x y:=by
 unfold prD ltQ;rw[mG,y0 (u3 0 x.1) (u3 0 y.1) rfl,y0 (u3 0 x.2) (u3 0 y.2) rfl,gO,gO,gA,gA];simp only[Cm];rfl
def lR:∀ {l:Ab Pt},Up l→(qW l).Pairwise λx y=>ltQ x y=true
 |[],_=>.nil
 |p::l,h=>by
  obtain⟨h1,h2⟩:=Dl.mp h;show (l.map (λq=>(p,q))++qW l).Pairwise _;refine Kh.mpr ⟨?_,lR h2,λx hx y hy=>?_⟩
  ·rw[Hl]
   refine h2.imp λ{a b} hab=>?_;show (if p=p then (if a=b then false else ltP a b) else ltP p p)=true
   rw[Bd rfl,Be (YA hab),hab]
  ·obtain⟨q,hq,rfl⟩:=Cw.mp hx
   have:=h1 _ (t8 hy).1;show (if p=y.1 then _ else ltP p y.1)=true
   rw[Be (YA this),this]
def qD (z:PP × PP):D:=.tup [pD z.1.1,pD z.1.2,pD z.2.1,pD z.2.2]
def XC (z:PP × PP):trb 6 (qD z)=true:=by
 show (trb 5 (pD z.1.1)&&(trb 5 (pD z.1.2)&&(trb 5 (pD z.2.1)&&(trb 5 (pD z.2.2)&&true))))=true;rw[j7 4,j7 4,j7 4,j7 4];rfl
def OV (x y:PP × PP):ltN (qD x) (qD y)=if x.1.1=y.1.1 then (if x.1.2=y.1.2 then ltQ x.2 y.2 else ltP x.1.2 y.1.2) else ltP x.1.1 y.1.1:=by
 unfold qD ltQ;rw[mG,y0 (u3 0 x.1.1) (u3 0 y.1.1) rfl,y0 (u3 0 x.1.2) (u3 0 y.1.2) rfl,y0 (u3 0 x.2.1) (u3 0 y.2.1) rfl,y0 (u3 0 x.2.2) (u3 0 y.2.2) rfl,gO,gO,gO,gO,gA,gA,gA,gA];simp only[Cm];rfl
def M9 (x:PP):ltQ x x=false:=by unfold ltQ;rw[Bd rfl,Bd rfl]
def SN {x y:PP}(h:ltQ x y=true):ltQ y x=false:=by
 unfold ltQ at h ⊢;by_cases e:x.1=y.1
 ·rw[Bd e] at h
  rw[Bd e.symm];by_cases e2:x.2=y.2
  ·rw[Bd e2] at h;cases h
  ·rw[Be e2] at h
   rw[Be (Em e2)];exact nZ h
 ·rw[Be e] at h
  rw[Be (Em e)];exact nZ h
def CY {z a:PP × PP}(h:ltQ a.1 z.1=true∨z.1=a.1∧(z.2=a.2∨ltQ a.2 z.2=true)):ltN (qD z) (qD a)=false:=by
 rw[OV];rcases h with h|⟨e,h⟩
 ·unfold ltQ at h
  by_cases e:a.1.1=z.1.1
  ·rw[Bd e] at h
   rw[Bd e.symm];by_cases e2:a.1.2=z.1.2
   ·rw[Bd e2] at h;cases h
   ·rw[Be e2] at h
    rw[Be (Em e2)];exact nZ h
  ·rw[Be e] at h
   rw[Be (Em e)];exact nZ h
 ·rw[e,Bd rfl,Bd rfl]
  rcases h with h|h
  ·rw[h];exact M9 _
  ·exact SN h
def JY {m:Ai}{a b:D}(ha:Tr n a)(hb:Tr m b)(h1:ltN a b=false)(h2:ltN b a=false):a=b:=by
 rcases _S.vS.tri h1 with e|e
 ·exact UJ ha hb e
 ·exact absurd e (by unfold ltN at h2;rw[h2];simp)
def flD:Am (PP × PP)→D
 |none=>.non
 |some z=>qD z
def CZ {l:Ab Pt}(h:Up l)(S:Sto){n:Ai}(hS:S[n]? = Aa (.lst ((lw [] (qW l)).map qD))):mnD [.loc n] .non S=.ok (flD (fl (qW l))) S:=by
 have e0:lsD (.loc n) S=Aa ((lw [] (qW l)).map qD):=by
  show (match S[n]? with|some (.lst xs)=>Aa xs|_=>none)=_
  rw[hS]
 show (match lsD (.loc n) S with|some [] => Res.ok D.non S|some (x::xs)=>if mOk (x::xs)=true then Res.ok (dO (x::xs)) S else Res.bad|none=>Res.bad)=_
 rw[e0];cases q:fl (qW l) with
 |none =>
  rw[l7 _ q];rfl
 |some z =>
  obtain⟨a,b⟩:=z;obtain⟨h1,h2⟩:=PM (lR h) q;cases qx:(lw [] (qW l)).map qD with
  |nil =>
   have:lw [] (qW l)=[]:=Vf.mp qx;rw[this] at h1;cases h1
  |cons x xs =>
   have hk:mOk (x::xs)=true:=by
    rw[← qx];refine Ar.mpr λu hu=>?_;obtain⟨u,_,rfl⟩:=Cw.mp hu;rw[XC,Ip];refine Ar.mpr λv hv=>?_;obtain⟨v,_,rfl⟩:=Cw.mp hv;rfl
   show (if mOk (x::xs)=true then Res.ok (dO (x::xs)) S else .bad)=_
   rw[Bd hk,← qx];have hz:0<((lw [] (qW l)).map qD).length:=by rw[qx];exact Kf _
   obtain⟨m1,m2⟩:=YG hz;obtain⟨m,hm,em⟩:=Cw.mp m1;have e1:ltN (qD m) (qD (a,b))=false:=CY (h2 m hm);have e2:ltN (qD (a,b)) (qD m)=false:=by rw[em];exact m2 _ (Cw.mpr ⟨(a,b),h1,rfl⟩)
   rw[← em,JY (XB (XC m)) (XB (XC (a,b))) e1 e2];rfl
def uS (xs:Ab D)(i:Ai)(d:D)(h:xs[i]? = Aa d):_L.atI xs (i:Ak)=Aa d:=by
 have hl:=(Bb.mp h).1;have e:_L.ixN xs.length (i:Ak)=Aa i:=by
  unfold _L.ixN;simp[hl]
 unfold _L.atI;rw[e];exact h
def M4 {S:Sto}(h:S[j]? = Aa (.lst xs)):zE [.loc j] S=.ok (.int xs.length) S:=by
 show (match (match S[j]? with|some (.lst xs)=>Aa xs.length|_=>none:Am Ai) with|some n=>Res.ok (D.int n) S|none=>.bad)=_
 rw[h]
def fbF:DS:=sIf (dTr (d2 gGt (qE zE (qA (qB 1) (qC))) (dC (.int 1)))) (qZ (d2 qL (d2 gIx (qB 1) (dC (.int 0))) (d2 gIx (qB 1) (dC (.int 1))))) (zI)
def Z4 (x:Am D)(S:Sto)(j:Ai)(g:Ab PP)(h:S[j]? = Aa (.lst (g.map prD))):fbF [x,Aa (.loc j)] S=match two g with|some z=>.rt (qD z) S|none=>.nx [x,Aa (.loc j)] S:=by
 have e1:dTr (d2 gGt (qE zE (qA (qB 1) (qC))) (dC (.int 1))) [x,Aa (.loc j)] S=.ok (decide ((1:Ak)<(g.length:Ak))) S:=by
  refine zX ((qJ (a:=.int (g.length:Ak)) (b:=.int 1) ((xO (a:=.loc j) rfl).trans ?_) rfl).trans rfl);rw[M4 h,Ay]
 unfold fbF sIf;rw[e1]
 match g,h with
 |[],h=>rfl
 |[a],h=>rfl
 |a::b::r,h =>
  have h0:gIx (.loc j) (.int 0) S=.ok (prD a) S:=fG j 0 _ _ S h (uS _ 0 _ rfl);have h1:gIx (.loc j) (.int 1) S=.ok (prD b) S:=fG j 1 _ _ S h (uS _ 1 _ rfl);have hd:decide ((1:Ak)<((a::b::r).length:Ak))=true:=by
   refine Bi ?_;simp only[Ci];omega
  rw[hd];show qZ (d2 qL (d2 gIx (qB 1) (dC (.int 0))) (d2 gIx (qB 1) (dC (.int 1)))) [x,Aa (.loc j)] S=.rt (qD (a,b)) S;unfold qZ;rw[qJ ((qJ (a:=.loc j) (b:=.int 0) rfl rfl).trans h0) ((qJ (a:=.loc j) (b:=.int 1) rfl rfl).trans h1)];rfl
def nX (x:Am D)(S:Sto)(prs:Ab PP):∀ (kvs:Ab (_L.Key × D)) (e:Am D) (ks:Ab Ak),(∀ kv∈kvs,∃ (f:Ak) (j:Ai),kv=(.inl f,.loc j)∧S[j]? = Aa (.lst ((prs.filter λx=>qH x == f).map prD)))→kvs.map (·.1)=ks.map He →
  ∃ e',vM (gNm 1) fbF (kvs.map (·.2)) [x,e] S=match ks.findSome? (λf=>two (prs.filter λx=>qH x == f)) with|some z=>.rt (qD z) S|none=>.nx [x,e'] S
 |[],e,ks,_,hk=>by
  have:ks=[]:=by cases ks with|nil=>rfl|cons _ _=>cases hk
  subst this;exact⟨e,rfl⟩
 |kv::kvs,e,ks,h,hk=>by
  obtain⟨f,j,rfl,hj⟩:=h kv (.head _);cases ks with
  |nil=>cases hk
  |cons f' ks =>
   rw[Dj,Dj] at hk;injection hk with h1 h2
   have ef:f=f':=by injection h1
   subst ef;obtain⟨e',ih⟩:=nX x S prs kvs (Aa (.loc j)) ks (λz hz=>h z (.tail _ hz)) h2;refine⟨e',?_⟩;have hb:=Z4 x S j _ hj;rw[Kv];show (match fbF [x,Aa (.loc j)] S with|.nx env2 S2=>vM (gNm 1) fbF (kvs.map λkv:_L.Key × D=>kv.2) env2 S2|.ct env2 S2=>vM (gNm 1) fbF (kvs.map λkv:_L.Key × D=>kv.2) env2 S2|.bk env2 S2=>.nx env2 S2|o=>o)=_
   rw[hb];cases two (prs.filter λx=>qH x == f) with
   |some z=>rfl
   |none=>exact ih
def Lt.ok {ps:Ab Pt}(h:Lt ps):∀ p∈ps,k8 p:=λp hp=>by
 obtain⟨h1,h2⟩:=h.bd hp;exact⟨by omega,by omega,by omega,by omega⟩
def TM (c:Cl)(ps:Ab Pt)(h:Lt ps)(S:Sto):∃ S',S_first_like c [.tup (ps.map pD)] S=.ok (flD (fl (qW ps))) S'∧S<+:S':=by
 obtain⟨kvs,S1,e1,G,hp⟩:=TN ps S h.ok (by have:=h.le;omega)
 have hn:S_need_lot c [.tup (ps.map pD)] S=.ok .non S:=by rw[bA c _ S h.pn,Bd h.lot]
 have hv:pU (qG 1 S_pairs_by_far (qA (qB 0) (qC))) [Aa (.tup (ps.map pD)),none] S=.ok (kvs.map (·.2)) (S1.set S.length .dead):=by
  unfold pU;rw[y8 (a:=.tup (ps.map pD)) rfl,e1,Res.bind_ok];show (match S1[S.length]? with|some (.dct kvs)=>Res.ok (kvs.map λkv:_L.Key × D=>kv.2) (S1.set S.length .dead)|_=>.bad)=_
  rw[G.dict]
 obtain⟨e',hl⟩:=nX (Aa (.tup (ps.map pD))) (S1.set S.length .dead) (qW ps) kvs none (ded ((qW ps).map qH)) (λkv hk=>by
  obtain⟨f,j,e,h1,h2⟩:=G.lists kv hk;exact⟨f,j,e,by rw[Cb om];exact h2⟩) G.keys
 rw[o7] at hl;refine⟨S1.set S.length .dead,?_,YV λm hm=>by rw[Cb om];exact hp m hm⟩
 rw[uR];refine yS (env:=[Aa (.tup (ps.map pD)),none]) rfl ?_;unfold b_first_like;rw[EV (o4 (d:=.tup (ps.map pD)) rfl hn)];have hf:yI (pU (qG 1 S_pairs_by_far (qA (qB 0) (qC)))) (gNm 1) fbF [Aa (.tup (ps.map pD)),none] S=match fl (qW ps) with|some z=>.rt (qD z) (S1.set S.length .dead)|none=>.nx [Aa (.tup (ps.map pD)),e'] (S1.set S.length .dead):=by
  unfold yI;rw[hv];exact hl
 show qM (yI (pU (qG 1 S_pairs_by_far (qA (qB 0) (qC)))) (gNm 1) fbF) (qZ (dC .non)) _ S=_;unfold qM;rw[hf];cases fl (qW ps) with
 |some z=>rfl
 |none=>rfl
def EX {S:Sto}(h:S[j]? = Aa (.dct kvs))(hl:kvs.length<lim)(n:Ak)(d:D):vL (.loc j) (.int n) d S=.ok () (S.set j (.dct (yN kvs (.inl n) d))):=by
 show (match S[j]? with|some (.dct kvs)=>(match vB (.int n) with|some k=>(if kvs.length<lim then Res.ok () (S.set j (.dct (yN kvs k d))) else .bad)|none=>.bad)|_=>tK (.loc j) (.int n) d S)=_
 rw[h];exact Bd hl
def HR {ty:Ea}{g:D→Ab D→Sto→Res D}{fo:DE}{fa:DA}{env:qF}{S S2:Sto}{o:D}{ds:Ab D}(h1:fo env S=.ok o S1)(ht:tyD o S1=Aa ty)(h2:fa env S1=.ok ds S2):dBm ty g fo fa env S=g o ds S2:=by
 unfold dBm;rw[h1,Res.bind_ok,ht,Bd (by simp),h2,Res.bind_ok]
def AY {o i:DE}{h:G3}{env:qF}{S S2 S3 S4:Sto}{d a b:D}(h1:f env S=.ok d S1)(h2:o env S1=.ok a S2)(h3:i env S2=.ok b S3)(h4:h a b d S3=.ok () S4):zC f (gSb o i h) env S=.nx env S4:=by
 simp only[zC,gSb,h1,h2,h3,h4,Res.toS,Res.bind]
def W9 {S:Sto}(h:S[n]? = Aa (.dct kvs)):nE (.loc n) S=Aa kvs:=by
 show (match S[n]? with|some (.dct kvs)=>Aa kvs|_=>none)=_
 rw[h]
def DU {S:Sto}(h:S[n]? = Aa (.dct kvs))(f:Ak):tI (.int f) (.loc n) S=.ok (.bl (xN kvs (.inl f)).isSome) S:=by
 unfold tI;rw[W9 h];rfl
def DX {S:Sto}(h:S[n]? = Aa (.dct kvs))(f:Ak){d:D}(hd:xN kvs (.inl f)=Aa d):f9 (.loc n) (.int f) S=.ok d S:=by
 unfold f9;rw[W9 h];show (match xN kvs (.inl f) with|some d=>Res.ok d S|none=>.bad)=_
 rw[hd]
def N9 (kvs:Ab (_L.Key × D))(f g:Ak)(d:D):xN (kvs++[(.inl f,d)]) (.inl g)=(xN kvs (.inl g)).or (if f=g then Aa d else none):=by
 unfold xN;rw[Kb];cases q:kvs.find? λkv=>decide (kv.1=He g) with
 |some z=>rfl
 |none =>
  by_cases h:f=g
  ·subst h;simp
  ·have:(He f:_L.Key)≠He g:=λe=>h (by injection e)
   simp[h]
def fb (l:Ab Pt):DS:=qM (zC (qG 2 S__law_far (qA (qB 3) (qA (qB 4) (qC)))) (gNm 5)) (sIf (dTr (d2 tI (qB 5) (qB 1))) (yW (dBm "list" yD (qB 2) (qA (d2 qL (d2 f9 (qB 1) (qB 5)) (qU (qA (qB 3) (qA (qB 4) (qC))))) (qC)))) (zC (qU (qA (qB 3) (qA (qB 4) (qC)))) (gSb (qB 1) (qB 5) vL)))
structure IvF (l:Ab Pt)(S:Sto)(ds:Ab D)(env:qF)(S':Sto):Prop where
 ex:∃ (e3 e4 e5:Am D) (done rest:Ab PP) (kvs:Ab (_L.Key × D)) (fnd:Ab (PP × PP)),env=[Aa (.tup (l.map pD)),Aa (.loc S.length),Aa (.loc (S.length+1)),e3,e4,e5]∧ds=rest.map prD∧done++rest=qW l∧S'[S.length]? = Aa (.dct kvs)∧S'[S.length+1]? = Aa (.lst (fnd.map qD))∧(∀ m,m<S.length→S'[m]? = S[m]?)∧fnd++lw done rest=lw [] (qW l)∧(∀ f:Ak,xN kvs (.inl f)=(done.find? λy=>qH y == f).map prD)∧kvs.length≤done.length∧fnd.length≤done.length
def XE {l:Ab Pt}(hl:l.length≤40)(hok:∀ p∈l,k8 p){S:Sto}{d:D}{ds:Ab D}{env:qF}{S':Sto}(h:IvF l S (d::ds) env S'):∃ env1 S1,gTp 2 (zA (gNm 3) (zA (gNm 4) (xS))) d env S'=.ok env1 S1∧Nx (fb l env1 S1) (IvF l S ds):=by
 obtain⟨e3,e4,e5,done,rest,kvs,fnd,rfl,hds,hdr,hk,hf,hm,hw,hv,h1,h2⟩:=h.ex;cases rest with
 |nil=>cases hds
 |cons x rest =>
  rw[Dj] at hds;injection hds with hd hds
  subst hd hds;refine⟨[Aa (.tup (l.map pD)),Aa (.loc S.length),Aa (.loc (S.length+1)),Aa (pD x.1),Aa (pD x.2),e5],S',rfl,?_⟩;have hx:x∈qW l:=by rw[← hdr];simp
  obtain⟨x1,x2⟩:=t8 hx;have hz:done.length<4000:=by
   have:=eK (l:=l) om;rw[← hdr,Bo,Ci] at this;omega
  unfold fb;refine xT (zF ((xY (a:=pD x.1) (b:=pD x.2) rfl rfl).trans (fQ x.1 x.2 S' (hok _ x1) (hok _ x2))) rfl ?_);show Nx (sIf _ _ _ [Aa (.tup (l.map pD)),Aa (.loc S.length),Aa (.loc (S.length+1)),Aa (pD x.1),Aa (pD x.2),Aa (.int (qH x))] S') _;have hpr:∀ S1:Sto,qU (qA (qB 3) (qA (qB 4) (qC))) [Aa (.tup (l.map pD)),Aa (.loc S.length),Aa (.loc (S.length+1)),Aa (pD x.1),Aa (pD x.2),Aa (.int (qH x))] S1=.ok (prD x) S1:=λS1=>xU (xP (a:=pD x.1) (b:=pD x.2) rfl rfl) (show 2≤lim by decide)
  refine xQ (zX ((qJ (a:=.int (qH x)) (b:=.loc S.length) rfl rfl).trans (DU hk (qH x)))) ?_;have hv0:=hv (qH x);have hlw:lw done (x::rest)=(match done.find? (λy=>qH y == qH x) with|some y=>[(y,x)]|none=>[])++lw (done++[x]) rest:=rfl
  cases q:done.find? (λy=>qH y == qH x) with
  |some y =>
   rw[q] at hv0 hlw;have hv1:xN kvs (.inl (qH x))=Aa (prD y):=hv0;rw[hv1];show Nx (yW _ _ S') _;have ht:tyD (.loc (S.length+1)) S'=Aa "list":=XH hf;refine oW (xG ((HR (o:=.loc (S.length+1)) rfl ht (zN ((qJ ((qJ (a:=.loc S.length) (b:=.int (qH x)) rfl rfl).trans (DX hk _ hv1)) (hpr S')).trans (wO (xs:=[pD y.1,pD y.2]) (ys:=[pD x.1,pD x.2]) (show 2+2≤lim by decide) S')) rfl)).trans (eX hf (by rw[Ay];unfold lim;omega) _)) ?_)
   refine⟨_,_,_,done++[x],rest,kvs,fnd++[(y,x)],rfl,rfl,by rw[← hdr];simp,?_,?_,λm hm'=>?_,?_,λf=>?_,?_,?_⟩
   ·rw[Cb om];exact hk
   ·rw[Dk (Bb.mp hf).1,Ho];rfl
   ·rw[Cb om];exact hm m hm'
   ·rw[← hw,hlw];simp
   ·rw[hv f,Kb]
    cases q2:done.find? (λy=>qH y == f) with
    |some z=>rfl
    |none =>
     have:(qH x == f)=false:=by
      cases e:qH x == f with
      |false=>rfl
      |true =>
       have e':qH x=f:=by simpa using e
       rw[e'] at q;rw[q] at q2;cases q2
     rw[Gw,this];rfl
   ·rw[Bo];omega
   ·rw[Bo,Bo];simp only[Ia];omega
  |none =>
   rw[q] at hv0 hlw;have hv1:xN kvs (.inl (qH x))=none:=hv0;rw[hv1];show Nx (zC _ _ _ S') _;have hput:yN kvs (.inl (qH x)) (prD x)=kvs++[(.inl (qH x),prD x)]:=by
    unfold yN;rw[Be];intro z;obtain⟨kv,h3,h4⟩:=Ro.mp z;exact iH hv1 kv h3 (Ce h4)
   refine xC (AY (hpr S') (a:=.loc S.length) (b:=.int (qH x)) rfl rfl (EX hk (by unfold lim;omega) (qH x) (prD x))) ?_
   rw[hput];refine⟨_,_,_,done++[x],rest,kvs++[(.inl (qH x),prD x)],fnd,rfl,rfl,by rw[← hdr];simp,?_,?_,λm hm'=>?_,?_,λf=>?_,?_,?_⟩
   ·rw[Dk (Bb.mp hk).1]
   ·rw[Cb om];exact hf
   ·rw[Cb om];exact hm m hm'
   ·rw[← hw,hlw];rfl
   ·rw[N9,hv f,Kb]
    cases q2:done.find? (λy=>qH y == f) with
    |some z=>rfl
    |none =>
     by_cases e:qH x=f
     ·rw[Bd e];simp[e]
     ·rw[Be e];simp[e]
   ·rw[Bo,Bo];simp only[Ia];omega
   ·rw[Bo];omega
def aS (l:Ab Pt)(h:Lt l)(S:Sto):∃ S',S__law_first_like [.tup (l.map pD)] S=.ok (flD (fl (qW l))) S'∧S<+:S':=by
 have hl:=h.le;have key:Rt (b__law_first_like [Aa (.tup (l.map pD)),none,none,none,none,none] S) λd S'=>d=flD (fl (qW l))∧S<+:S':=by
  unfold b__law_first_like;refine qY (gC (a:=.loc S.length) (b:=.loc (S.length+1)) (S1:=S++[.dct []]) (S2:=S++[.dct []] ++ [.lst []]) rfl ?_ ?_)
  ·show Res.ok (D.loc (S++[MO.dct []]).length) (S++[MO.dct []] ++ [MO.lst []]) = _
   rw[Bo];rfl
  show Rt (qM (yI _ _ (fb l)) _ [Aa (.tup (l.map pD)),Aa (.loc S.length),Aa (.loc (S.length+1)),none,none,none] _) _;have hi:wZ (qG 1 S__law_pairs (qA (qB 0) (qC))) [Aa (.tup (l.map pD)),Aa (.loc S.length),Aa (.loc (S.length+1)),none,none,none] (S++[.dct []] ++ [.lst []]) = .ok ((qW l).map prD) (S++[.dct []] ++ [.lst []]):=by
   unfold wZ;rw[y8 (a:=.tup (l.map pD)) rfl,aU l _ om,Res.bind_ok];rfl
  refine qY (uY hi (vN (IvF l S) (λd ds env S' hI=>XE hl h.ok hI) (λenv S' hI=>?_) ⟨none,none,none,[],qW l,[],[],rfl,rfl,rfl,?_,?_,λm hm=>?_,rfl,λf=>rfl,Aw _,Aw _⟩))
  ·obtain⟨e3,e4,e5,done,rest,kvs,fnd,rfl,hds,hdr,hk,hf,hm,hw,hv,h1,h2⟩:=hI.ex
   have hr:rest=[]:=Vf.mp hds.symm;subst hr;have hw':fnd=lw [] (qW l):=by rw[← hw];simp[lw]
   rw[hw'] at hf;refine X3 (d:=flD (fl (qW l))) (S:=S') ?_ ⟨rfl,YV hm⟩;show (nB (qA (qB 2) (qC)) (dC .non) [Aa (.tup (l.map pD)),Aa (.loc S.length),Aa (.loc (S.length+1)),e3,e4,e5] S').toS _ _=_;have:nB (qA (qB 2) (qC)) (dC .non) [Aa (.tup (l.map pD)),Aa (.loc S.length),Aa (.loc (S.length+1)),e3,e4,e5] S'=mnD [.loc (S.length+1)] .non S':=rfl;rw[this,CZ h.upP S' hf];rfl
  ·simp
  ·simp
  ·rw[Eo,Bl hm]
 obtain⟨d,S',e,rfl,hp⟩:=key;refine⟨S',?_,hp⟩;rw[uP];exact yS rfl e
def j6:D→Pt
 |.tup [.int x,.int y]=>(x,y)
 |_=>(0,0)
def cZ:Ab Pt→Aq
 |[a,b,c,e]=>ltP a b&&(ltP c e&&(ltQ (a,b) (c,e)&&decide (far a b=far c e)))
 |_=>false
def inB (ps:Ab Pt)(x:D):Aq:=qO x&&decide (j6 x∈ps)
def fH (ps:Ab Pt):D→Aq
 |.tup xs=>decide (xs.length=4)&&(xs.all (inB ps)&&cZ (xs.map j6))
 |_=>false
def WV {d:D}(h:Pn d):(∃ xs,d=.tup xs)∨(∀ ps,fH ps d=false)∧∀ S,zK [d,.ty "tuple"] S=.ok (.bl false) S:=by
 have one:∀ (a:Ea),(∀ S,tyD d S=Aa a)→w4 a "tuple" = false→∀ S,zK [d,.ty "tuple"] S=.ok (.bl false) S:=λa h1 h2 S=>by
  rw[jV d "tuple" a S uL.2.2.1 (h1 S),h2]
 obtain⟨p,h⟩:=h;cases d with
 |tup xs=>exact .inl ⟨xs,rfl⟩
 |int i=>exact .inr ⟨λ_=>rfl,one "int" (λ_=>rfl) (kd)⟩
 |non=>exact .inr ⟨λ_=>rfl,one "NoneType" (λ_=>rfl) (kd)⟩
 |bl b=>exact .inr ⟨λ_=>rfl,one "bool" (λ_=>rfl) (kd)⟩
 |str x=>exact .inr ⟨λ_=>rfl,one "str" (λ_=>rfl) (kd)⟩
 |lst x=>exact .inr ⟨λ_=>rfl,one "list" (λ_=>rfl) (kd)⟩
 |dct0=>exact .inr ⟨λ_=>rfl,one "dict" (λ_=>rfl) (kd)⟩
 |_=>simp[pyD] at h
def cR (xs:Ab D)(S:Sto):zK [.tup xs,.ty "tuple"] S=.ok (.bl true) S:=by
 rw[jV (.tup xs) "tuple" "tuple" S uL.2.2.1 rfl,QL.2.2.2.2.2.1]
def fL {env:qF}{S:Sto}{d:D}(hd:env[1]? = Aa (Aa d))(h:zK [d,.ty "tuple"] S=.ok (.bl b) S):zO (dTr (qE zK (qA (qB 1) (qA (dC (.ty "tuple")) (qC))))) env S=.ok (!b) S:=
 wR (zX ((hX (zS hd) rfl).trans h))
def ZP {env:qF}{S:Sto}(hd:env[1]? = Aa (Aa (.tup xs))):dTr (d2 gNe (qE zE (qA (qB 1) (qC))) (dC (.int 4))) env S=.ok (!decide (xs.length=4)) S:=by
 have:=zX ((qJ ((xO (zS hd)).trans (uA xs S)) (show dC (.int 4) env S=.ok (.int 4) S from rfl)).trans (d8 _ _ _))
 rw[this]
 congr 1
 by_cases h:xs.length=4
 ·rw[Bi h,Bs om];rfl
 ·rw[Bs h,Bi om];rfl
def RU (ps:Ab Pt):(ps.map pD).all (pl xB)=true:=Ar.mpr λx hx=>by
 obtain⟨p,_,rfl⟩:=Cw.mp hx;rfl
def oD (ps:Ab Pt)(q:Pt):inI (pD q) (.tup (ps.map pD))=Aa (decide (q∈ps)):=by
 show (if ((ps.map pD).all (pl xB)&&pl xB (pD q))=true then Aa ((ps.map pD).any λx=>eqD x (pD q)) else none)=_
 rw[RU,Bd (show (true&&pl xB (pD q))=true from rfl)]
 congr 1
 rw[Nq,Ro,Cm];constructor
 ·rintro⟨x,hx,e⟩
  obtain⟨p,hp,rfl⟩:=Cw.mp hx;rw[gO,Cm] at e;rw[← e];exact hp
 ·intro hq
  exact⟨pD q,Ht hq,by rw[gO];exact Bi rfl⟩
def PY {x:D}(h:qO x=true):x=pD (j6 x):=by
 obtain⟨a,b,rfl,_,_⟩:=vF h;rfl
def DV (ps:Ab Pt){x:D}(h:qO x=true)(S:Sto):gIn x (.tup (ps.map pD)) S=.ok (.bl (decide (j6 x∈ps))) S:=by
 have e:=PY h;unfold gIn;rw[e,oD];rfl
def MB (ps:Ab Pt){x:D}(h:qO x=true)(S:Sto):kW x (.tup (ps.map pD)) S=.ok (.bl (!decide (j6 x∈ps))) S:=by
 have e:=PY h;unfold kW;rw[e,oD];rfl
def nY (p q:Pt)(S:Sto):kA (pD p) (pD q) S=.ok (.bl (ltP p q)) S:=by
 unfold kA;rw[Bd,gA];rw[j7 7,j7 7];rfl
def oS (x y:PP)(S:Sto):kA (prD x) (prD y) S=.ok (.bl (ltQ x y)) S:=by
 unfold kA;rw[Bd,SM];have t:∀ x:PP,trb 8 (prD x)=true:=λx=>by
  show (trb 7 (pD x.1)&&(trb 7 (pD x.2)&&true))=true;rw[j7 6,j7 6];rfl
 rw[t,t];rfl
def DN (h4:xs.length=4)(h:xs.all qO=true):∃ a b c e:Pt,xs=[pD a,pD b,pD c,pD e]:=by
 obtain⟨qs,rfl⟩:=pJ h
 match qs,h4 with
 |[a,b,c,e],_=>exact⟨a,b,c,e,rfl⟩
def lS {ps:Ab Pt}(h:xs.all (inB ps)=true):xs.all qO=true:=Ar.mpr λx hx=>by
 have:=Ar.mp h x hx;unfold inB at this;rw[Az] at this;exact this.1
def o9 {ps:Ab Pt}(L:Lt ps){a b c e:Pt}(q:[pD a,pD b,pD c,pD e].all (inB ps)=true):k8 a∧k8 b∧k8 c∧k8 e:=by
 have ok:∀ x∈[pD a,pD b,pD c,pD e],k8 (j6 x):=λx hx=>by
  have:=Ar.mp q x hx;unfold inB at this;rw[Az] at this;exact L.ok _ (Ce this.2)
 exact⟨ok (pD a) (by simp),ok (pD b) (by simp),ok (pD c) (by simp),ok (pD e) (by simp)⟩
def gS {t:DT}{env:qF}{S:Sto}(ht:t env S=.ok true S)(hq:Q (.bl false) S):Rt (qM (sIf t (qZ (dC (.bl false))) (zI)) g env S) Q:=vQ (jX ht (xK (xG (d:=.bl false) (S:=S) rfl hq)))
abbrev e6 (ps:Ab Pt)(a b c e:Pt):qF:=[Aa (.tup (ps.map pD)),Aa (.tup [pD a,pD b,pD c,pD e]),Aa (pD a),Aa (pD b),Aa (pD c),Aa (pD e)]
def lF {env:qF}{S:Sto}{p q:Pt}(hi:env[i]? = Aa (Aa (pD p)))(hj:env[j]? = Aa (Aa (pD q))):qU (qA (qB i) (qA (qB j) (qC))) env S=.ok (prD (p,q)) S:=xU (xP (zS hi) (zS hj)) (show 2≤lim by decide)
def KW (c:Cl)(ps:Ab Pt)(L:Lt ps)(d:D)(h:Pn d)(S:Sto):S_is_likeness c [.tup (ps.map pD),d] S=.ok (.bl (fH ps d)) S:=by
 rw[u4];refine jY (env:=[Aa (.tup (ps.map pD)),Aa d,none,none,none,none]) rfl ?_;unfold b_is_likeness;have hn:S_need_lot c [.tup (ps.map pD)] S=.ok .non S:=by rw[bA c _ S L.pn,Bd L.lot]
 refine qY (xC (o4 (d:=.tup (ps.map pD)) rfl hn) ?_);rcases WV h with⟨xs,rfl⟩|⟨hd,hn⟩
 ·have ht:=wC (fL (env:=[Aa (.tup (ps.map pD)),Aa (.tup xs),none,none,none,none]) rfl (cR xs S)) (λ_=>ZP rfl) (by intro z;cases z)
  rw[Hd,Il] at ht;by_cases h4:xs.length=4
  ·rw[Bi h4] at ht
   refine qY (xQ ht (xC (S:=S) rfl ?_));have hc:=bU (cap:=[none,Aa 0]) (g:=gNm 0) (t:=zG) (fe:=y7 (qG 1 (okO S_is_point) (qA (qB 0) (qC))) (d2 gIn (qB 0) (qB 1))) (fi:=dIt (qB 1)) (env:=[Aa (.tup (ps.map pD)),Aa (.tup xs),none,none,none,none]) (S:=S) (o:=none) (items:=xs) rfl trivial (λ_=>true) (λx=>.bl (inB ps x)) (λenv=>∃ a,env=[a,Aa (.tup (ps.map pD))]) ⟨none,rfl⟩ (by rw[h4];decide)
    (λx hx env ⟨a,q⟩=>by
     subst q;refine⟨[Aa x,Aa (.tup (ps.map pD))],rfl,⟨_,rfl⟩,rfl,λ_=>?_⟩;exact kR ((y8 (f1:=qB 0) rfl).trans (vE (lK x S (lE h x hx)))) (λhp=>(qJ (f:=qB 0) (g:=qB 1) rfl rfl).trans (DV ps hp S)) (λ_=>rfl))
   rw[wK] at hc;have ha:=wR (zX (bP (p:=inB ps) hc));have e:fH ps (.tup xs)=(xs.all (inB ps)&&cZ (xs.map j6)):=by
    show (decide (xs.length=4)&&_)=_;rw[Bi h4,Ip]
   rw[e];cases q:xs.all (inB ps) with
   |false =>
    rw[q] at ha;exact gS ha ⟨rfl,rfl⟩
   |true =>
    rw[q] at ha;refine qY (xQ ha (xC (S:=S) rfl ?_));obtain⟨a,b,c',e',rfl⟩:=DN h4 (lS q);refine qY (zF (d:=.tup [pD a,pD b,pD c',pD e']) (S1:=S) rfl (env1:=(e6 ps a b c' e')) rfl ?_);obtain⟨oa,ob,oc,oe⟩:=o9 L q;refine xK (xG (d:=.bl (cZ [a,b,c',e'])) (S:=S) ?_ ⟨rfl,rfl⟩);refine kR ((qJ (f:=qB 2) (g:=qB 3) rfl rfl).trans (nY a b S)) (λ_=>?_) (λ_=>rfl);refine kR ((qJ (f:=qB 4) (g:=qB 5) rfl rfl).trans (nY c' e' S)) (λ_=>?_) (λ_=>rfl);refine kR ((qJ (lF (p:=a) (q:=b) rfl rfl) (lF (p:=c') (q:=e') rfl rfl)).trans (oS (a,b) (c',e') S)) (λ_=>?_) (λ_=>rfl);exact(qJ ((xY (f1:=qB 2) (f2:=qB 3) rfl rfl).trans (ZY a b S oa ob)) ((xY (f1:=qB 4) (f2:=qB 5) rfl rfl).trans (ZY c' e' S oc oe))).trans (uI _ _ S)
  ·rw[Bs h4] at ht
   refine gS ht ⟨?_,rfl⟩;show D.bl false=D.bl (decide (xs.length=4)&&_);rw[Bs h4];rfl
 ·have ht:=wC (b:=false) (g:=dTr (d2 gNe (qE zE (qA (qB 1) (qC))) (dC (.int 4)))) (fL (env:=[Aa (.tup (ps.map pD)),Aa d,none,none,none,none]) rfl (hn S)) (by intro z;cases z) (λ_=>rfl)
  exact gS ht ⟨by rw[hd],rfl⟩
def JF (ps:Ab Pt)(xs:Ab D)(h:xs.all qO=true):decide ((xs.filter λx=>!decide (j6 x∈ps))=[])=xs.all (inB ps):=by
 rw[Nq,Cm,Mk,Ar];constructor
 ·intro g x hx
  unfold inB;rw[Ar.mp h x hx,Ip];simpa using g x hx
 ·intro g x hx
  have:=g x hx;unfold inB at this;rw[Az] at this;rw[this.2];simp
def SU (xs:Ab D)(h:xs.all qO=true)(S:Sto):gNe (.lst xs) (.lst []) S=.ok (.bl (!decide (xs=[]))) S:=by
 have hp:pl xB (.lst xs)=true:=by
  obtain⟨qs,rfl⟩:=pJ h;rw[YD];exact aK _
 unfold gNe;rw[hp];cases xs with
 |nil=>rfl
 |cons x xs=>rfl
def EO (ps:Ab Pt)(L:Lt ps)(d:D)(h:Pn d)(S:Sto):S__law_is_likeness [.tup (ps.map pD),d] S=.ok (.bl (fH ps d)) S:=by
 rw[uG];refine jY (env:=[Aa (.tup (ps.map pD)),Aa d,none,none,none,none]) rfl ?_;unfold b__law_is_likeness;rcases WV h with⟨xs,rfl⟩|⟨hd,hn⟩
 ·by_cases h4:xs.length=4
  ·have hc:=bU (cap:=[none]) (g:=gNm 0) (t:=zG) (fe:=qG 1 (okO S__law_is_point) (qA (qB 0) (qC))) (fi:=dIt (qB 1)) (env:=[Aa (.tup (ps.map pD)),Aa (.tup xs),none,none,none,none]) (S:=S) (o:=none) (items:=xs) rfl trivial (λ_=>true) (λx=>.bl (qO x)) (λenv=>∃ a,env=[a]) ⟨none,rfl⟩ (by rw[h4];decide)
    (λx hx env ⟨a,q⟩=>by
     subst q;exact⟨[Aa x],rfl,⟨_,rfl⟩,rfl,λ_=>(y8 (f1:=qB 0) rfl).trans (vE (mY x S (lE h x hx)))⟩)
   rw[wK] at hc;have ha:=wR (zX (bP (p:=qO) hc));have ht:=wC (fL (env:=[Aa (.tup (ps.map pD)),Aa (.tup xs),none,none,none,none]) rfl (cR xs S)) (λ_=>wC (ZP rfl) (λ_=>ha) (λ_=>rfl)) (by intro z;cases z)
   rw[Hd,Il,Bi h4,Hd,Il] at ht;have e:fH ps (.tup xs)=(xs.all (inB ps)&&cZ (xs.map j6)):=by
    show (decide (xs.length=4)&&_)=_;rw[Bi h4,Ip]
   rw[e];cases qp:xs.all qO with
   |false =>
    rw[qp] at ht;have q:xs.all (inB ps)=false:=by
     cases z:xs.all (inB ps) with
     |false=>rfl
     |true=>rw[lS z] at qp;cases qp
    rw[q];exact gS ht ⟨rfl,rfl⟩
   |true =>
    rw[qp] at ht;refine qY (xQ ht (xC (S:=S) rfl ?_));have hc2:=bU (cap:=[none,Aa 0]) (g:=gNm 0) (t:=y9 (dTr (d2 kW (qB 0) (qB 1))) (zG)) (fe:=qB 0) (fi:=dIt (qB 1)) (env:=[Aa (.tup (ps.map pD)),Aa (.tup xs),none,none,none,none]) (S:=S) (o:=none) (items:=xs) rfl trivial (λx=>!decide (j6 x∈ps)) (λx=>x) (λenv=>∃ a,env=[a,Aa (.tup (ps.map pD))]) ⟨none,rfl⟩ (by rw[h4];decide)
     (λx hx env ⟨a,q⟩=>by
      subst q;refine⟨[Aa x,Aa (.tup (ps.map pD))],rfl,⟨_,rfl⟩,?_,λ_=>rfl⟩;have e1:dTr (d2 kW (qB 0) (qB 1)) [Aa x,Aa (.tup (ps.map pD))] S=.ok (!decide (j6 x∈ps)) S:=zX ((qJ (f:=qB 0) (g:=qB 1) rfl rfl).trans (MB ps (Ar.mp qp x hx) S));unfold y9;rw[e1];cases decide (j6 x∈ps) <;> rfl)
    rw[List.map_id'] at hc2;have hf:(xs.filter λx=>!decide (j6 x∈ps)).all qO=true:=Ar.mpr λx hx=>Ar.mp qp x (Nl.mp hx).1;have ht2:=zX ((qJ hc2 (show zJ qC [Aa (.tup (ps.map pD)),Aa (.tup xs),none,none,none,none] S=.ok (.lst []) S from rfl)).trans (SU _ hf S))
    rw[JF ps xs qp] at ht2;cases q:xs.all (inB ps) with
    |false =>
     rw[q] at ht2;exact gS ht2 ⟨rfl,rfl⟩
    |true =>
     rw[q] at ht2;refine qY (xQ ht2 (xC (S:=S) rfl ?_));obtain⟨a,b,c',e',rfl⟩:=DN h4 (lS q);refine qY (zF (d:=.tup [pD a,pD b,pD c',pD e']) (S1:=S) rfl (env1:=(e6 ps a b c' e')) rfl ?_);obtain⟨oa,ob,oc,oe⟩:=o9 L q;have t1:=wR (zX ((qJ (f:=qB 2) (g:=qB 3) (env:=(e6 ps a b c' e')) (S:=S) rfl rfl).trans (nY a b S)));have t2:=wR (zX ((qJ (f:=qB 4) (g:=qB 5) (env:=(e6 ps a b c' e')) (S:=S) rfl rfl).trans (nY c' e' S)));have t3:=wR (zX ((qJ (lF (env:=(e6 ps a b c' e')) (S:=S) (i:=2) (j:=3) (p:=a) (q:=b) rfl rfl) (lF (i:=4) (j:=5) (p:=c') (q:=e') rfl rfl)).trans (oS (a,b) (c',e') S)));have tt:=wC t1 (λ_=>wC t2 (λ_=>t3) (λ_=>rfl)) (λ_=>rfl);have el:cZ [a,b,c',e']=(!(!ltP a b||(!ltP c' e'||!ltQ (a,b) (c',e')))&&decide (far a b=far c' e')):=by
      show (ltP a b&&(ltP c' e'&&(ltQ (a,b) (c',e')&&decide (far a b=far c' e'))))=_;cases ltP a b <;> cases ltP c' e' <;> cases ltQ (a,b) (c',e') <;> rfl
     have em:[pD a,pD b,pD c',pD e'].map j6=[a,b,c',e']:=rfl;rw[em,el,Ip];generalize (!ltP a b||(!ltP c' e'||!ltQ (a,b) (c',e')))=t at tt
     cases t with
     |true=>exact gS tt ⟨rfl,rfl⟩
     |false =>
      refine qY (xQ tt (xC (S:=S) rfl ?_));refine xK (xG (d:=.bl (decide (far a b=far c' e'))) (S:=S) ?_ ⟨rfl,rfl⟩);exact(qJ ((xY (f1:=qB 2) (f2:=qB 3) rfl rfl).trans (fQ a b S oa ob)) ((xY (f1:=qB 4) (f2:=qB 5) rfl rfl).trans (fQ c' e' S oc oe))).trans (uI _ _ S)
  ·have ht:=wC (fL (env:=[Aa (.tup (ps.map pD)),Aa (.tup xs),none,none,none,none]) rfl (cR xs S)) (λ_=>wC (b:=false) (g:=zO (dTr (qE (vA false) (qA (qX false [none] (dIt (qB 1)) (gNm 0) (zG) (zD (qG 1 (okO S__law_is_point) (qA (qB 0) (qC))))) (qC))))) (S2:=S) (ZP rfl) (λz=>by rw[Bs h4] at z;cases z) (λ_=>rfl)) (by intro z;cases z)
   rw[Bs h4] at ht;refine gS ht ⟨?_,rfl⟩;show D.bl false=D.bl (decide (xs.length=4)&&_);rw[Bs h4];rfl
 ·have ht:=wC (b:=false) (g:=xV (dTr (d2 gNe (qE zE (qA (qB 1) (qC))) (dC (.int 4)))) (zO (dTr (qE (vA false) (qA (qX false [none] (dIt (qB 1)) (gNm 0) (zG) (zD (qG 1 (okO S__law_is_point) (qA (qB 0) (qC))))) (qC)))))) (fL (env:=[Aa (.tup (ps.map pD)),Aa d,none,none,none,none]) rfl (hn S)) (by intro z;cases z) (λ_=>rfl)
  exact gS ht ⟨by rw[hd],rfl⟩
structure Nc (k b:Ai)(hl hd:Aq)(d:D)(p:Vj):Prop where
 py:pyD d=Aa p
 sh:p.showable=true
 lv:p.leavesShort 40=true
 bu:p.bulk≤b
 de:p.depth≤k
 di:p.hasDict=true→hd=true
 li:kH d=false→hl=true
def xW (k b:Ai)(hl hd:Aq)(d:D):Prop:=∃ p,Nc k b hl hd d p
def xW.mono {k b k' b':Ai}{hl hd hl' hd':Aq}{d:D}(h:xW k b hl hd d)(h1:k≤k')(h2:b≤b')(h3:hl=true→hl'=true)(h4:hd=true→hd'=true):xW k' b' hl' hd' d:=by
 obtain⟨p,h⟩:=h;exact⟨p,h.py,h.sh,h.lv,Dc h.bu h2,Dc h.de h1,λz=>h4 (h.di z),λz=>h3 (h.li z)⟩
def xW.repr {k b:Ai}{hl hd:Aq}{d:D}(h:xW k b hl hd d)(h1:k≤60)(h2:b≤65536)(h3:(hl&&hd)=false):∃ x,kJ d=Aa x:=by
 obtain⟨p,h⟩:=h;refine⟨p.shown,?_⟩;unfold kJ;rw[h.py];have hk:fS d p=true:=by
  unfold fS;rw[h.sh,h.lv,Bi (show p.bulk≤2 ^ 16 by have:=h.bu;omega),Bi (show p.depth≤60 by have:=h.de;omega)]
  cases hh:p.hasDict with
  |false=>rfl
  |true =>
   have:=h.di hh;subst this;cases hn:kH d with
   |true=>rfl
   |false =>
    have:=h.li hn;subst this;cases h3
 show (if fS d p=true then Aa p.shown else none)=_
 rw[Bd hk]
def SQ {i:Ak}(h:(PyData.shown (.int i)).length≤40)(h2:i.natAbs.log2<1920):xW 0 0 false false (.int i):=
 ⟨.int i,rfl,Bi h2,Bi h,Aw _,Aw _,(λz=>by cases z),(λz=>by cases z)⟩
def wQ {i:Ak}(h:i.natAbs<10 ^ 12):xW 0 0 false false (.int i):=by
 refine SQ (Dc (PyData.shown_int_le h) om) ?_;have:i.natAbs<2 ^ 1920:=Bn h (kd);by_cases hm:i.natAbs=0
 ·rw[hm];decide
 ·exact(Nat.log2_lt hm).mpr this
def YK:xW 0 0 false false .non:=⟨.none,rfl,rfl,rfl,Aw _,Aw _,(λz=>by cases z),(λz=>by cases z)⟩
def A0 (b:Aq):xW 0 0 false false (.bl b):=⟨.bool b,rfl,rfl,rfl,Aw _,Aw _,(λz=>by cases z),(λz=>by cases z)⟩
def SS (x:As)(h:(x.cps.toList.all λc=>decide (c<16 ^ 8))=true)(hb:x.cps.size≤3):xW 0 3 false false (.str x):=⟨.str x,rfl,rfl,h,hb,Aw _,(λz=>by cases z),(λz=>by cases z)⟩
def a9:xW 1 0 false true .dct0:=⟨.dict [],rfl,rfl,rfl,Aw _,Aw _,λ_=>rfl,(λz=>by cases z)⟩
def ncs {k b:Ai}{hl hd:Aq}:∀ (xs:Ab D),(∀ x∈xs,xW k b hl hd x)→∃ ps,uC xs=Aa ps∧Vw ps=true∧Tw 40 ps=true∧Zn ps≤xs.length*(b+1)∧Yx ps≤k∧(Xm ps=true→hd=true)∧(pK xs=false→hl=true)
 |[],_=>⟨[],rfl,rfl,rfl,Fq _,Fq _,(λz=>by cases z),(λz=>by cases z)⟩
 |d::ds,h=>by
  obtain⟨p,n⟩:=h d (by simp)
  obtain⟨ps,a1,a2,a3,a4,a5,a6,a7⟩:=ncs ds λx hx=>h x (by simp[hx])
  refine⟨p::ps,?_,?_,?_,?_,?_,?_,?_⟩
  ·simp only[uC,n.py,a1,Rn,Jq]
  ·simp only[Vw,n.sh,a2,Uz]
  ·simp only[Tw,n.lv,a3,Uz]
  ·have:=n.bu
   rw[Ci,Wc];simp only[Zn];omega
  ·simp only[Yx]
   exact Nat.max_le.mpr ⟨n.de,a5⟩
  ·intro z
   simp only[Xm,La] at z;rcases z with z|z
   ·exact n.di z
   ·exact a6 z
  ·intro z
   simp only[pK,Bool.and_eq_false_iff] at z;rcases z with z|z
   ·exact n.li z
   ·exact a7 z
def jW {k b m:Ai}{hl hd:Aq}(h:∀ x∈xs,xW k b hl hd x)(hm:xs.length≤m):xW (k+1) (m*(b+1)) hl hd (.tup xs):=by
 obtain⟨ps,a1,a2,a3,a4,a5,a6,a7⟩:=ncs xs h;refine⟨.tuple ps,by simp only[pyD,a1,Jq],by simpa only [Tc] using a2,by simpa only [Vx] using a3,?_,?_,by simpa only [Zo] using a6,by simpa only [kH] using a7⟩
 ·simp only[Aa3]
  exact Dc a4 (Ki _ hm)
 ·simp only[Aa0]
  omega
def YQ {k b m:Ai}{hl hd:Aq}(h:∀ x∈xs,xW k b hl hd x)(hm:xs.length≤m):xW (k+1) (m*(b+1)) true hd (.lst xs):=by
 obtain⟨ps,a1,a2,a3,a4,a5,a6,a7⟩:=ncs xs h;refine⟨.list ps,by simp only[pyD,a1,Jq],by simpa only [Tc] using a2,by simpa only [Vx] using a3,?_,?_,by simpa only [Zo] using a6,λ_=>rfl⟩
 ·simp only[Aa3]
  exact Dc a4 (Ki _ hm)
 ·simp only[Aa0]
  omega
def OW (x:As)(k:Ai)(hk:k≤1000)(f:DE)(env:qF)(S:Sto)(hf:f env S=.ok (.int (k:Ak)) S):d2 pV (zJ (qA (dC (.str x)) (qC))) f env S=.ok (.lst (Cd k (.str x))) S:=by
 have l1:1≤lim:=by decide
 refine(qJ (yG (yC (a:=.str x) rfl) l1) hf).trans ?_;have h:(0:Ak)≤(k:Ak)∧(k:Ak)<2 ^ 62∧[D.str x].length*(k:Ak).toNat≤lim:=⟨by omega,by omega,by
  show 1*(k:Ak).toNat≤lim;unfold lim;omega⟩
 simp only[pV];rw[Bd h,Fp]
 congr 2
 clear h hf hk
 induction k with
 |zero=>rfl
 |succ k ih=>rw[EQ,Hj,ih,EQ];rfl
def BE {env:qF}{S:Sto}(h:f env S=.ok (.bl b) S):y9 (dTr f) zG env S=.ok b S:=by
 unfold y9;rw[zX h];cases b <;> rfl
def np (q:Pt)(h:qO (pD q)=true)(hl hd:Aq):xW 3 30 hl hd (pD q):=by
 obtain⟨x,y,e,hx,hy⟩:=vF h;rw[e];refine(jW (k:=0) (b:=0) (m:=2) (hl:=false) (hd:=false) (λz hz=>?_) (by simp)).mono om om (λz=>by cases z) (λz=>by cases z)
 simp only[Av,Cj,Ez] at hz;rcases hz with rfl|rfl
 ·exact wQ om
 ·exact wQ om
def Th (d:D):Prop:=∃ hl hd,(hl&&hd)=false∧xW 5 2000 hl hd d
def Th.repr {d:D}(h:Th d):∃ x,kJ d=Aa x:=by
 obtain⟨hl,hd,h1,h2⟩:=h;exact h2.repr om om h1
def Th.pn {d:D}(h:Th d):Pn d:=by
 obtain⟨hl,hd,h1,p,h2⟩:=h;exact⟨p,h2.py⟩
def fa0:∀ x∈([]:Ab D),P x:=λx hx=>by cases hx
def fa {a:D}(h:P a)(t:∀ x∈as,P x):∀ x∈a::as,P x:=λx hx=>by
 rcases Av.mp hx with rfl|hx
 ·exact h
 ·exact t x hx
def wV {hl hd:Aq}(h0:(hl&&hd)=false){xs:Ab D}(h:∀ x∈xs,xW 3 30 hl hd x)(hm:xs.length≤5):Th (.tup xs):=⟨hl,hd,h0,(jW h hm).mono om om id id⟩
def H9 (h:∀ x∈xs,xW 3 30 true false x)(hm:xs.length≤5):Th (.lst xs):=⟨true,false,rfl,(YQ h hm).mono om om id id⟩
def VP:Th .non:=⟨false,false,rfl,YK.mono om om id id⟩
def Y7 {c:Cl}{d:D}{S:Sto}(hp:Pn d)(h:wA d=false):S_need_lot c [d] S=.ex (.ref c.NoLot) .non S:=by
 have n1:=bA c d S hp
 rwa [h,Be (by simp)] at n1
def JG (c:Cl)(d:D)(S:Sto)(hp:Pn d)(h:wA d=false):S_first_like c [d] S=.ex (.ref c.NoLot) .non S:=by
 rw[uR];show fP (b_first_like c [Aa d,none] S)=_;unfold b_first_like;rw[VN (WJ (i:=0) rfl (Y7 hp h))];rfl
def SK (c:Cl)(d o:D)(S:Sto)(hp:Pn d)(h:wA d=false):S_is_likeness c [d,o] S=.ex (.ref c.NoLot) .non S:=by
 rw[u4];show fP (b_is_likeness c [Aa d,Aa o,none,none,none,none] S)=_;unfold b_is_likeness;rw[VN (WJ (i:=0) rfl (Y7 hp h))];rfl
def ans (c:Cl)(w:Ai)(l a:D)(S:Sto):Res D:=match w with
 |0=>S_first_like c [l] S
 |_=>S_is_likeness c [l,a] S
def XS (c:Cl)(w:Ai)(hw:w<2)(l a:D)(S:Sto):dIf (dTr (d2 gEq (qB 0) (dC (.int 0)))) (qG 1 (S_first_like c) (qA (qB 1) (qC))) (qG 2 (S_is_likeness c) (qA (qB 1) (qA (qB 2) (qC)))) [Aa (.int (w:Ak)),Aa l,Aa a,none] S=ans c w l a S:=by
 have ht:=zX ((qJ (a:=.int (w:Ak)) (b:=.int 0) (env:=[Aa (.int (w:Ak)),Aa l,Aa a,none]) (S:=S) (f:=qB 0) (g:=dC (.int 0)) rfl rfl).trans (uI _ _ _));unfold dIf;rw[ht]
 match w,hw with
 |0,_=>rfl
 |1,_=>rfl
def iT (c:Cl)(w:Ai)(hw:w<2)(l a x:D)(S S':Sto)(h:ans c w l a S=.ok x S'):S__law_came c [.int (w:Ak),l,a] S=.ok x S':=by
 rw[j9];unfold b__law_came;refine yS (env:=[Aa (.int (w:Ak)),Aa l,Aa a,none]) rfl ?_;unfold tT qZ;rw[XS c w hw,h];rfl
def BJ (c:Cl)(w:Ai)(hw:w<2)(l a:D)(v:Af)(x:As)(S S':Sto)(h:ans c w l a S=.ex (.ref v) .non S')(hc:(bS c).contains (.ref v)=true)(hk:S__law_kind_of c [.exn (.ref v)] S'=.ok (.str x) S'):S__law_came c [.int (w:Ak),l,a] S=.ok (.str x) S':=by
 rw[j9];unfold b__law_came;refine yS (env:=[Aa (.int (w:Ak)),Aa l,Aa a,none]) rfl ?_;unfold tT qZ;rw[XS c w hw,h];simp only[Res.toS,hc,Dh];simp[z9,j2,MJ,qAZ,qAY,qM,sIf,qZ,zI,yW,zC,gNm,gSb,gTp,zA,xS,kB,OZ,qAh,O1,dC,qB,d1,d2,qA,qC,qE,qG,dTr,zO,xV,zG,y7,ZC,dIf,zY,qU,zJ,n9,dBm,dSl,qN,qS,wZ,yL,Res.bind,Res.toS,_D.j1,_D.uD,qAb,qAa,HC,qAi,qAd,qAe,qAf,qAc,qAX,qAW,DR,gLt,gLe,gGt,gGe,_D.xR,qAg,hk]
def OF (c:Cl):(bS c).contains (.ref c.NoLot)=true:=by rw[Ft];simp[bS]
def UE (c:Cl)(nd:(wH c).Nodup)(w:Ai)(hw:w<2)(d o:D)(S:Sto)(hp:Pn d)(h:wA d=false):S__law_came c [.int (w:Ak),d,o] S=.ok (.str "lot") S:=by
 refine BJ c w hw _ _ _ _ S S ?_ (OF c) (aR c nd S)
 match w,hw with
 |0,_=>exact JG c d S hp h
 |1,_=>exact SK c d o S hp h
def hZ (c:Cl)(l:Ab Pt)(L:Lt l)(a:D)(S:Sto):∃ S',S__law_came c [.int 0,.tup (l.map pD),a] S=.ok (flD (fl (qW l))) S'∧S<+:S':=by
 obtain⟨S',e,q⟩:=TM c l L S;exact⟨S',iT c 0 om _ _ _ S S' e,q⟩
def c0 (c:Cl)(l:Ab Pt)(L:Lt l)(a:D)(h:Pn a)(S:Sto):S__law_came c [.int 1,.tup (l.map pD),a] S=.ok (.bl (fH l a)) S:=iT c 1 om _ _ _ S S (KW c l L a h S)
def pB {l:Ab Pt}{x:PP}(L:Lt l)(h:x∈qW l):(qO (pD x.1)=true∧x.1∈l)∧(qO (pD x.2)=true∧x.2∈l):=by
 obtain⟨h1,h2⟩:=t8 h;exact⟨⟨jH (L.bd h1),h1⟩,⟨jH (L.bd h2),h2⟩⟩
def SJ {l:Ab Pt}(L:Lt l){z:PP × PP}(h:fl (qW l)=Aa z):fH l (qD z)=true:=by
 obtain⟨a,b⟩:=z;obtain⟨h1,h2,h3,h4⟩:=GX (lR L.upP) h;obtain⟨⟨a1,a2⟩,⟨a3,a4⟩⟩:=pB L h3;obtain⟨⟨b1,b2⟩,⟨b3,b4⟩⟩:=pB L h4;show (decide (4=4)&&((qO (pD a.1)&&decide (a.1∈l))&&((qO (pD a.2)&&decide (a.2∈l))&&((qO (pD b.1)&&decide (b.1∈l))&&((qO (pD b.2)&&decide (b.2∈l))&&true)))&&(ltP a.1 a.2&&(ltP b.1 b.2&&(ltQ (a.1,a.2) (b.1,b.2)&&decide (far a.1 a.2=far b.1 b.2))))))=true;rw[a1,a3,b1,b3,Bi a2,Bi a4,Bi b2,Bi b4,iQ L.upP h3,iQ L.upP h4,show ltQ (a.1,a.2) (b.1,b.2)=true from h1,Bi (show far a.1 a.2=far b.1 b.2 from h2)]
 rfl
def qAC {z:PP × PP}(h1:qO (pD z.1.1)=true)(h2:qO (pD z.1.2)=true)(h3:qO (pD z.2.1)=true)(h4:qO (pD z.2.2)=true):Th (qD z):=
 wV (hl:=false) (hd:=false) rfl (fa (np _ h1 _ _) (fa (np _ h2 _ _) (fa (np _ h3 _ _) (fa (np _ h4 _ _) fa0)))) (show 4≤5 by decide)
def sC (S:Sto)(o:Am (PP × PP)):S__law_same [flD o,flD o] S=.ok (.bl true) S:=by
 rw[jA];cases o with
 |none=>exact fU 3 _ S trivial
 |some z =>
  refine fU 3 _ S ?_;intro x hx;simp only[Av,Cj,Ez] at hx;rcases hx with rfl|rfl|rfl|rfl <;> (intro y hy;simp only[Av,Cj,Ez] at hy;rcases hy with rfl|rfl <;> exact trivial)
def EU (S:Sto)(b:Aq):S__law_same [.bl b,.bl b] S=.ok (.bl true) S:=by
 rw[jA];exact fU 3 _ S trivial
def trI (v:Ak):D:=if 0≤v∧v<2 then .bl (decide (v=1)) else .int v
def trP (q:Pt):D:=.tup [trI q.1,trI q.2]
def IH (v:Ak)(S:Sto):d2 gIx (zJ (qA (qB 0) (qA (d2 gEq (qB 0) (dC (.int 1))) (qC)))) (qE kU (qA (zY gLe gLt (dC (.int 0)) (qB 0) (dC (.int 2))) (qC))) [Aa (.int v)] S=.ok (trI v) S:=by
 have h1:zJ (qA (qB 0) (qA (d2 gEq (qB 0) (dC (.int 1))) (qC))) [Aa (.int v)] S=.ok (.lst [.int v,.bl (decide (v=1))]) S:=
  yG (xP (a:=.int v) rfl ((qJ (f:=qB 0) (g:=dC (.int 1)) rfl rfl).trans (uI _ _ S))) (show 2≤lim by decide)
 have h2:zY gLe gLt (dC (.int 0)) (qB 0) (dC (.int 2)) [Aa (.int v)] S=.ok (.bl (decide (0≤v∧v<2))) S:=by
  unfold zY;simp[z9,j2,MJ,qAZ,qAY,qM,sIf,qZ,zI,yW,zC,gNm,gSb,gTp,zA,xS,kB,OZ,qAh,O1,dC,qB,d1,d2,qA,qC,qE,qG,dTr,zO,xV,zG,y7,ZC,dIf,zY,qU,zJ,n9,dBm,dSl,qN,qS,wZ,yL,Res.bind,Res.toS,_D.j1,_D.uD,qAb,qAa,HC,qAi,qAd,qAe,qAf,qAc,qAX,qAW,DR,gLt,gLe,gGt,gGe,_D.xR,qAg,Res.bind];by_cases h:(0:Ak)≤v <;> simp[h]
 refine(qJ h1 ((xO h2).trans (o6 _ S))).trans ?_;unfold trI;by_cases h:0≤v∧v<2
 ·rw[Bd h,Bi h]
  exact uJ (uS _ 1 _ rfl) S
 ·rw[Be h,Bs h]
  exact uJ (uS _ 0 _ rfl) S
def HA (q:Pt)(S:Sto):qE wN (qA (qX false [none] (dIt (qB 0)) (gNm 0) (zG) (zD (d2 gIx (zJ (qA (qB 0) (qA (d2 gEq (qB 0) (dC (.int 1))) (qC)))) (qE kU (qA (zY gLe gLt (dC (.int 0)) (qB 0) (dC (.int 2))) (qC)))))) (qC)) [Aa (pD q)] S=.ok (trP q) S:=by
 have hc:=jD (enc:=D.int) (xs:=[q.1,q.2]) (cap:=[none]) (g:=gNm 0) (t:=zG) (fe:=d2 gIx (zJ (qA (qB 0) (qA (d2 gEq (qB 0) (dC (.int 1))) (qC)))) (qE kU (qA (zY gLe gLt (dC (.int 0)) (qB 0) (dC (.int 2))) (qC)))) (fi:=dIt (qB 0)) (env:=[Aa (pD q)]) (S:=S) (o:=none) rfl trivial (λ_=>true) trI (λenv=>∃ a,env=[a]) ⟨none,rfl⟩ (show 2≤lim by decide)
  (λx hx env ⟨a,e⟩=>by subst e;exact⟨[Aa (.int x)],rfl,⟨_,rfl⟩,rfl,λ_=>IH x S⟩)
 rw[wK] at hc;exact(xO hc).trans rfl
def VQ (qs:Ab Pt)(h:qs.length≤40)(env:qF)(S:Sto)(h2:env[2]? = Aa (Aa (.tup (qs.map pD)))):qE wN (qA (qX false [none] (dIt (qB 2)) (gNm 0) (zG) (zD (qE wN (qA (qX false [none] (dIt (qB 0)) (gNm 0) (zG) (zD (d2 gIx (zJ (qA (qB 0) (qA (d2 gEq (qB 0) (dC (.int 1))) (qC)))) (qE kU (qA (zY gLe gLt (dC (.int 0)) (qB 0) (dC (.int 2))) (qC)))))) (qC))))) (qC)) env S=.ok (.tup (qs.map trP)) S:=by
 have hc:=jD (enc:=pD) (xs:=qs) (cap:=[none]) (g:=gNm 0) (t:=zG) (fe:=qE wN (qA (qX false [none] (dIt (qB 0)) (gNm 0) (zG) (zD (d2 gIx (zJ (qA (qB 0) (qA (d2 gEq (qB 0) (dC (.int 1))) (qC)))) (qE kU (qA (zY gLe gLt (dC (.int 0)) (qB 0) (dC (.int 2))) (qC)))))) (qC))) (fi:=dIt (qB 2)) (env:=env) (S:=S) (o:=none) (DW qs env 2 S h2) trivial (λ_=>true) trP (λenv=>∃ a,env=[a]) ⟨none,rfl⟩ (by unfold lim;omega)
  (λx hx env ⟨a,e⟩=>by subst e;exact⟨[Aa (pD x)],rfl,⟨_,rfl⟩,rfl,λ_=>HA x S⟩)
 rw[wK] at hc;exact(xO hc).trans rfl
def B9 {v:Ak}(h : -1000≤v∧v≤1000):xW 0 0 false false (trI v):=by
 unfold trI
 split
 ·exact A0 _
 ·exact wQ om
def eT {q:Pt}(h:qO (pD q)=true):xW 3 30 false false (trP q):=by
 obtain⟨x,y,e,hx,hy⟩:=vF h;have e1:q.1=x:=by injection e with e;injection e with e;injection e
 have e2:q.2=y:=by injection e with e;injection e with e e';injection e' with e';injection e'
 unfold trP;rw[e1,e2];exact(jW (k:=0) (b:=0) (m:=2) (fa (B9 hx) (fa (B9 hy) fa0)) (by simp)).mono om om id id
def rpl (xs:Ab D)(t:Ai)(x:D):Ab D:=xs.take t++[x]++xs.drop (t+1)
def fM (q:Pt):Ai→D
 |0=>.non
 |1=>.lst [.int q.1,.int q.2]
 |2=>.dct0
 |_=>.tup [pD q]
def lU (a b c e q:Pt)(t:Ai):Ab D:=[.tup [pD c,pD e,pD a,pD b],.tup [pD b,pD a,pD c,pD e],.tup (rpl [pD a,pD b,pD c,pD e] t (pD q)),.lst [pD a,pD b,pD c,pD e]]
def gL (a b c e q:Pt)(t:Ai):Ab D:=lU a b c e q t++[.tup [pD a,pD b,pD c],.tup [pD a,pD b,pD c,pD e,pD a],.tup ([a,b,c,e].map trP),.tup [.tup [pD a,pD b],.tup [pD c,pD e]],.tup [pD a,pD b,pD a,pD b],.non]
def bnt (a b c e q:Pt)(t:Ai):Ab D:=gL a b c e q t++[.tup (rpl [pD a,pD b,pD c,pD e] t (fM q t)),.tup [.dct0,.dct0,.dct0,.dct0]]
def fW {hl hd:Aq}(h0:(hl&&hd)=false){a b c e:Pt}(ha:qO (pD a)=true)(hb:qO (pD b)=true)(hc:qO (pD c)=true)(he:qO (pD e)=true)(t:Ai)(ht:t<4){x:D}(hx:xW 3 30 hl hd x):Th (.tup (rpl [pD a,pD b,pD c,pD e] t x)):=by
 match t,ht with
 |0,_=>exact wV h0 (fa hx (fa (np _ hb _ _) (fa (np _ hc _ _) (fa (np _ he _ _) fa0)))) (show 4≤5 by decide)
 |1,_=>exact wV h0 (fa (np _ ha _ _) (fa hx (fa (np _ hc _ _) (fa (np _ he _ _) fa0)))) (show 4≤5 by decide)
 |2,_=>exact wV h0 (fa (np _ ha _ _) (fa (np _ hb _ _) (fa hx (fa (np _ he _ _) fa0)))) (show 4≤5 by decide)
 |3,_=>exact wV h0 (fa (np _ ha _ _) (fa (np _ hb _ _) (fa (np _ hc _ _) (fa hx fa0)))) (show 4≤5 by decide)
def NY {a b c e q:Pt}(ha:qO (pD a)=true)(hb:qO (pD b)=true)(hc:qO (pD c)=true)(he:qO (pD e)=true)(hq:qO (pD q)=true)(t:Ai)(ht:t<4):∀ x∈bnt a b c e q t,Th x:=by
 have two':∀ {x y:Pt},qO (pD x)=true→qO (pD y)=true→xW 3 30 false false (.tup [pD x,pD y]):=λ{x y} hx hy=>by
  obtain⟨_,_,ex,hx1,hx2⟩:=vF hx;obtain⟨_,_,ey,hy1,hy2⟩:=vF hy;rw[ex,ey];refine(jW (k:=1) (b:=2) (m:=2) (hl:=false) (hd:=false) (fa (jW (k:=0) (b:=0) (m:=2) (fa (wQ om) (fa (wQ om) fa0)) (by simp)) (fa (jW (k:=0) (b:=0) (m:=2) (fa (wQ om) (fa (wQ om) fa0)) (by simp)) fa0)) (by simp)).mono om om id id
 have odd:Th (.tup (rpl [pD a,pD b,pD c,pD e] t (fM q t))):=by
  obtain⟨x,y,eq,hx,hy⟩:=vF hq;have e1:q.1=x:=by injection eq with e;injection e with e;injection e
  have e2:q.2=y:=by injection eq with e;injection e with e e';injection e' with e';injection e'
  match t,ht with
  |0,h=>exact fW (hl:=false) (hd:=false) rfl ha hb hc he 0 h (YK.mono om om id id)
  |1,h =>
   refine fW (hl:=true) (hd:=false) rfl ha hb hc he 1 h ?_;show xW 3 30 true false (.lst [.int q.1,.int q.2]);rw[e1,e2];exact(YQ (k:=0) (b:=0) (m:=2) (hl:=false) (fa (wQ om) (fa (wQ om) fa0)) (by simp)).mono om om id id
  |2,h=>exact fW (hl:=false) (hd:=true) rfl ha hb hc he 2 h (a9.mono om om id id)
  |3,h =>
   refine fW (hl:=false) (hd:=false) rfl ha hb hc he 3 h ?_;show xW 3 30 false false (.tup [pD q]);rw[eq];exact(jW (k:=1) (b:=2) (m:=1) (fa (jW (k:=0) (b:=0) (m:=2) (fa (wQ om) (fa (wQ om) fa0)) (by simp)) fa0) (by simp)).mono om om id id
 refine fa (wV (hl:=false) (hd:=false) rfl (fa (np _ hc _ _) (fa (np _ he _ _) (fa (np _ ha _ _) (fa (np _ hb _ _) fa0)))) (show 4≤5 by decide)) ?_
 refine fa (wV (hl:=false) (hd:=false) rfl (fa (np _ hb _ _) (fa (np _ ha _ _) (fa (np _ hc _ _) (fa (np _ he _ _) fa0)))) (show 4≤5 by decide)) ?_
 refine fa (fW (hl:=false) (hd:=false) rfl ha hb hc he t ht (np _ hq _ _)) ?_;refine fa (H9 (fa (np _ ha _ _) (fa (np _ hb _ _) (fa (np _ hc _ _) (fa (np _ he _ _) fa0)))) (show 4≤5 by decide)) ?_
 refine fa (wV (hl:=false) (hd:=false) rfl (fa (np _ ha _ _) (fa (np _ hb _ _) (fa (np _ hc _ _) fa0))) (show 3≤5 by decide)) ?_
 refine fa (wV (hl:=false) (hd:=false) rfl (fa (np _ ha _ _) (fa (np _ hb _ _) (fa (np _ hc _ _) (fa (np _ he _ _) (fa (np _ ha _ _) fa0))))) (show 5≤5 by decide)) ?_
 refine fa (wV (hl:=false) (hd:=false) rfl (fa (eT ha) (fa (eT hb) (fa (eT hc) (fa (eT he) fa0)))) (show 4≤5 by decide)) ?_
 refine fa (wV (hl:=false) (hd:=false) rfl (fa (two' ha hb) (fa (two' hc he) fa0)) (show 2≤5 by decide)) ?_
 refine fa (wV (hl:=false) (hd:=false) rfl (fa (np _ ha _ _) (fa (np _ hb _ _) (fa (np _ ha _ _) (fa (np _ hb _ _) fa0)))) (show 4≤5 by decide)) ?_
 refine fa VP ?_;refine fa odd ?_;have dd:xW 3 30 false true .dct0:=a9.mono om om id id;exact fa (wV (hl:=false) (hd:=true) rfl (fa dd (fa dd (fa dd (fa dd fa0)))) (show 4≤5 by decide)) fa0
def UY {S:Sto}{p:Ai}{l:Ab Pt}{env:qF}(hl:1≤l.length∧l.length≤40)(h:zW S p)(hi:env[i]? = Aa (Aa (.loc p)))(hj:env[j]? = Aa (Aa (.tup (l.map pD)))):∃ (q:Pt) (S':Sto),q∈l∧zW S' p∧d2 gIx (qB j) (qG 2 S__law_draw (qA (qB i) (qA (qE zE (qA (qB j) (qC))) (qC)))) env S=.ok (pD q) S':=by
 have hn:qE zE (qA (qB j) (qC)) env S=.ok (.int (l.length:Ak)) S:=by
  rw[xO (zS hj),uA,Ay]
 obtain⟨r,S',e,hr,p'⟩:=xX (S:=S) (i:=i) (f2:=qE zE (qA (qB j) (qC))) (env:=env) (m:=(l.length:Ak)) h om hi hn;have hr':r<l.length:=by omega
 refine⟨l[r],S',Ga _,p',(qJ (zS hj) e).trans (uW (uS _ r _ ?_) S')⟩;rw[Dw,An hr'];rfl
abbrev eB (p:Ai)(l:Ab Pt)(a b c e:Pt)(w t:Ai)(q:Pt)(x y:Am D):qF:=[Aa (.loc p),Aa (.tup (l.map pD)),Aa (.tup [pD a,pD b,pD c,pD e]),Aa (.int (w:Ak)),Aa (.int (t:Ak)),Aa (pD q),Aa (.tup ([a,b,c,e].map trP)),x,y]
def VC (S:Sto)(p:Ai)(h:zW S p)(l:Ab Pt)(L:Lt l)(a b c e:Pt)(ha:qO (pD a)=true)(hb:qO (pD b)=true)(hc:qO (pD c)=true)(he:qO (pD e)=true):∃ (d:D) (S':Sto),S__law_bent [.loc p,.tup (l.map pD),.tup [pD a,pD b,pD c,pD e]] S=.ok d S'∧Th d∧zW S' p:=by
 have key:Rt (b__law_bent [Aa (.loc p),Aa (.tup (l.map pD)),Aa (.tup [pD a,pD b,pD c,pD e]),none,none,none,none,none,none] S) λd S'=>Th d∧zW S' p:=by
  unfold b__law_bent;obtain⟨w,S1,c1,hw,p1⟩:=xX (S:=S) (i:=0) (f2:=dC (.int 12)) (env:=[Aa (.loc p),Aa (.tup (l.map pD)),Aa (.tup [pD a,pD b,pD c,pD e]),none,none,none,none,none,none]) (m:=12) h om rfl rfl;obtain⟨t,S2,c2,ht,p2⟩:=xX (S:=S1) (i:=0) (f2:=dC (.int 4)) (env:=[Aa (.loc p),Aa (.tup (l.map pD)),Aa (.tup [pD a,pD b,pD c,pD e]),none,none,none,none,none,none]) (m:=4) p1 om rfl rfl;refine qY (gC c1 c2 ?_);clear c1 c2;simp only[Bq,Br];obtain⟨q,S3,hq,p3,c3⟩:=UY (i:=0) (j:=1) (env:=[Aa (.loc p),Aa (.tup (l.map pD)),Aa (.tup [pD a,pD b,pD c,pD e]),Aa (.int (w:Ak)),Aa (.int (t:Ak)),none,none,none,none]) ⟨L.ne,L.le⟩ p2 rfl rfl;have hqp:=jH (L.bd hq);refine qY (zF c3 rfl ?_);clear c3;simp only[Bq,Br];refine qY (zF (VQ [a,b,c,e] (show 4≤40 by decide) _ S3 rfl) rfl ?_)
  simp only[Bq,Br];have ht4:t<4:=by omega
  have hth:=NY ha hb hc he hqp t ht4;have k1:∀ t:Ai,t<4→zJ (qA (d2 qL (dSl (qB 2) (qN (dC (.int 2))) (qS)) (dSl (qB 2) (qS) (qN (dC (.int 2))))) (qA (d2 qL (ZD (qB 2) (dC (.int 1)) (d1 u9 (dC (.int 1)))) (dSl (qB 2) (qN (dC (.int 2))) (qS))) (qA (d2 qL (d2 qL (dSl (qB 2) (qS) (qN (qB 4))) (qU (qA (qB 5) (qC)))) (dSl (qB 2) (qN (d2 qL (qB 4) (dC (.int 1)))) (qS))) (qA (qE jQ (qA (qB 2) (qC))) (qC))))) (eB p l a b c e w t q none none) S3=.ok (.lst (lU a b c e q t)) S3:=λt ht=>by
   match t,ht with
   |0,_=>kernel_rfl!
   |1,_=>kernel_rfl!
   |2,_=>kernel_rfl!
   |3,_=>kernel_rfl!
  refine qY (zF (k1 t ht4) rfl ?_);clear k1;simp only[Bq,Br];have k2:d2 qL (qB 7) (zJ (qA (dSl (qB 2) (qS) (qN (dC (.int 3)))) (qA (d2 qL (qB 2) (dSl (qB 2) (qS) (qN (dC (.int 1))))) (qA (qB 6) (qA (qU (qA (dSl (qB 2) (qS) (qN (dC (.int 2)))) (qA (dSl (qB 2) (qN (dC (.int 2))) (qS)) (qC)))) (qA (d2 uV (dSl (qB 2) (qS) (qN (dC (.int 2)))) (dC (.int 2))) (qA (dC .non) (qC)))))))) (eB p l a b c e w t q (Aa (.lst (lU a b c e q t))) none) S3=.ok (.lst (gL a b c e q t)) S3:=by
   have m1:d2 uV (dSl (qB 2) (qS) (qN (dC (.int 2)))) (dC (.int 2)) (eB p l a b c e w t q (Aa (.lst (lU a b c e q t))) none) S3=.ok (.tup [pD a,pD b,pD a,pD b]) S3:=by
    refine(qJ (S1:=S3) (a:=.tup [pD a,pD b]) (b:=.int 2) (by kernel_rfl!) rfl).trans ?_
    unfold uV;exact Bd ⟨by omega,by omega,by simp,show 2*2≤lim by decide⟩
   refine(qJ (S1:=S3) (a:=.lst (lU a b c e q t)) rfl (yG (zN (S1:=S3) (a:=.tup [pD a,pD b,pD c]) (by kernel_rfl!) (zN (S1:=S3) (a:=.tup [pD a,pD b,pD c,pD e,pD a]) (by kernel_rfl!) (zN (S1:=S3) (a:=.tup ([a,b,c,e].map trP)) rfl (zN (S1:=S3) (a:=.tup [.tup [pD a,pD b],.tup [pD c,pD e]]) (by kernel_rfl!) (xP m1 rfl))))) (show 6≤lim by decide))).trans (wF (xs:=lU a b c e q t) (ys:=[.tup [pD a,pD b,pD c],.tup [pD a,pD b,pD c,pD e,pD a],.tup ([a,b,c,e].map trP),.tup [.tup [pD a,pD b],.tup [pD c,pD e]],.tup [pD a,pD b,pD a,pD b],.non]) (show 4+6≤lim by decide) S3)
  refine qY (zF k2 rfl ?_);clear k2;simp only[Bq,Br];have k3:∀ t:Ai,t<4→d2 gIx (zJ (qA (dC .non) (qA (qE jQ (qA (qB 5) (qC))) (qA (vI) (qA (qU (qA (qB 5) (qC))) (qC)))))) (qB 4) (eB p l a b c e w t q (Aa (.lst (gL a b c e q t))) none) S3=.ok (fM q t) S3:=λt ht=>by
   match t,ht with
   |0,_=>kernel_rfl!
   |1,_=>kernel_rfl!
   |2,_=>kernel_rfl!
   |3,_=>kernel_rfl!
  refine qY (zF (k3 t ht4) rfl ?_);clear k3;simp only[Bq,Br];have k4:∀ t:Ai,t<4→d2 qL (d2 qL (dSl (qB 2) (qS) (qN (qB 4))) (qU (qA (qB 8) (qC)))) (dSl (qB 2) (qN (d2 qL (qB 4) (dC (.int 1)))) (qS)) (eB p l a b c e w t q (Aa (.lst (gL a b c e q t))) (Aa (fM q t))) S3=.ok (.tup (rpl [pD a,pD b,pD c,pD e] t (fM q t))) S3:=λt ht=>by
   match t,ht with
   |0,_=>kernel_rfl!
   |1,_=>kernel_rfl!
   |2,_=>kernel_rfl!
   |3,_=>kernel_rfl!
  have m2:d2 uV (qU (qA (vI) (qC))) (dC (.int 4)) (eB p l a b c e w t q (Aa (.lst (gL a b c e q t))) (Aa (fM q t))) S3=.ok (.tup [.dct0,.dct0,.dct0,.dct0]) S3:=by
   refine(qJ (S1:=S3) (a:=.tup [.dct0]) (b:=.int 4) (by kernel_rfl!) rfl).trans ?_
   unfold uV;exact Bd ⟨by omega,by omega,by simp,show 1*4≤lim by decide⟩
  have k5:d2 qL (qB 7) (zJ (qA (d2 qL (d2 qL (dSl (qB 2) (qS) (qN (qB 4))) (qU (qA (qB 8) (qC)))) (dSl (qB 2) (qN (d2 qL (qB 4) (dC (.int 1)))) (qS))) (qA (d2 uV (qU (qA (vI) (qC))) (dC (.int 4))) (qC)))) (eB p l a b c e w t q (Aa (.lst (gL a b c e q t))) (Aa (fM q t))) S3=.ok (.lst (bnt a b c e q t)) S3:=
   (qJ (S1:=S3) (a:=.lst (gL a b c e q t)) rfl (yG (xP (k4 t ht4) m2) (show 2≤lim by decide))).trans (wF (xs:=gL a b c e q t) (ys:=[.tup (rpl [pD a,pD b,pD c,pD e] t (fM q t)),.tup [.dct0,.dct0,.dct0,.dct0]]) (show 10+2≤lim by decide) S3)
  obtain⟨d,hd,hm⟩:=pC (bnt a b c e q t) (w:Ak) ⟨by omega,show (w:Ak)<(12:Ai) by omega⟩
  exact xK (xG ((qJ (b:=.int (w:Ak)) k5 rfl).trans (uJ hd S3)) ⟨hth d hm,p3⟩)
 obtain⟨d,S',e',h1,h2⟩:=key;refine⟨d,S',?_,h1,h2⟩;rw[gX];exact yS rfl e'
def QOk (z:PP × PP):Prop:=qO (pD z.1.1)=true∧qO (pD z.1.2)=true∧qO (pD z.2.1)=true∧qO (pD z.2.2)=true
structure IvE (l:Ab Pt)(x0 x1 x2 x3 x4 x5 x6 x8 x9 x14 x15 x16 x17 x18:Am D)(S0:Sto)(ds:Ab D)(env:qF)(S:Sto):Prop where
 ex:S=S0∧∃ (i:Ai) (rest:Ab PP) (zs:Ab (PP × PP)) (e11 e12 e13:Am D),rest=(qW l).drop i∧ds=eL i (rest.map prD)∧env=[x0,x1,x2,x3,x4,x5,x6,Aa (.lst ((qW l).map prD)),x8,x9,Aa (.lst (zs.map qD)),e11,e12,e13,x14,x15,x16,x17,x18]∧(∀ z∈zs,QOk z)∧zs.length≤i*4000∧i≤(qW l).length
def WY (x:PP)(S:Sto):gIx (prD x) (.int 0) S=.ok (pD x.1) S:=uW (uS _ 0 _ rfl) S
def WZ (x:PP)(S:Sto):gIx (prD x) (.int 1) S=.ok (pD x.2) S:=uW (uS _ 1 _ rfl) S
def JW {l:Ab Pt}(L:Lt l)(x0 x1 x2 x3 x4 x5 x6 x8 x9 x14 x15 x16 x17 x18 e11 e12 e13:Am D)(S:Sto) :
  Nx (yI (n8 (qA (qB 7) (qC))) (gTp 2 (zA (gNm 11) (zA (gNm 12) (xS)))) (qM (zC (qG 2 S__law_far (qA (d2 gIx (qB 12) (dC (.int 0))) (qA (d2 gIx (qB 12) (dC (.int 1))) (qC)))) (gNm 13)) (zC (d2 qL (qB 10) (qX false [none,Aa 13,Aa 12] (dIt (dSl (qB 7) (qN (d2 qL (qB 11) (dC (.int 1)))) (qS))) (gNm 0) (y9 (dTr (d2 gEq (qG 2 (okO S__law_far) (qA (d2 gIx (qB 0) (dC (.int 0))) (qA (d2 gIx (qB 0) (dC (.int 1))) (qC)))) (qB 1))) (zG)) (zD (d2 qL (qB 2) (qB 0))))) (gNm 10))) [x0,x1,x2,x3,x4,x5,x6,Aa (.lst ((qW l).map prD)),x8,x9,Aa (.lst []),e11,e12,e13,x14,x15,x16,x17,x18] S)
   λenv S'=>S'=S∧∃ (zs:Ab (PP × PP)) (e11 e12 e13:Am D),env=[x0,x1,x2,x3,x4,x5,x6,Aa (.lst ((qW l).map prD)),x8,x9,Aa (.lst (zs.map qD)),e11,e12,e13,x14,x15,x16,x17,x18]∧(∀ z∈zs,QOk z)∧zs.length≤16000000:=by
 have hA:=eK (l:=l) (by have:=L.le;omega)
 refine uY (ds:=eL 0 ((qW l).map prD)) (S1:=S) ?_ ?_
 ·rw[← cH];rfl
 refine vN (IvE l x0 x1 x2 x3 x4 x5 x6 x8 x9 x14 x15 x16 x17 x18 S) ?_ ?_ ⟨rfl,0,qW l,[],e11,e12,e13,by simp,rfl,rfl,(λz hz=>by cases hz),Fq _,Fq _⟩
 ·rintro d ds env S1 ⟨rfl,i,rest,zs,e11,e12,e13,hr,hds,rfl,hz,hzl,hil⟩
  cases rest with
  |nil=>cases hds
  |cons x rest =>
   have hi:i<(qW l).length:=by
    by_cases h:i<(qW l).length
    ·exact h
    ·rw[List.drop_eq_nil_iff.mpr om] at hr;cases hr
   have hx:x∈qW l:=Go (i:=i) (by rw[← hr];exact .head _)
   have hr2:rest=(qW l).drop (i+1):=by
    have:=Im hi;rw[← hr] at this;injection this
   obtain⟨⟨a1,a2⟩,⟨a3,a4⟩⟩:=pB L hx;rw[Dj] at hds;injection hds with h1 h2
   subst h1 h2;refine⟨[x0,x1,x2,x3,x4,x5,x6,Aa (.lst ((qW l).map prD)),x8,x9,Aa (.lst (zs.map qD)),Aa (.int (i:Ak)),Aa (prD x),e13,x14,x15,x16,x17,x18],S1,rfl,?_⟩;refine xT (zF ((xY ((qJ (f:=qB 12) (g:=dC (.int 0)) rfl rfl).trans (WY x S1)) ((qJ (f:=qB 12) (g:=dC (.int 1)) rfl rfl).trans (WZ x S1))).trans (fQ x.1 x.2 S1 (L.ok _ a2) (L.ok _ a4))) rfl ?_);simp only[Bq,Br];have hit:dIt (dSl (qB 7) (qN (d2 qL (qB 11) (dC (.int 1)))) (qS)) [x0,x1,x2,x3,x4,x5,x6,Aa (.lst ((qW l).map prD)),x8,x9,Aa (.lst (zs.map qD)),Aa (.int (i:Ak)),Aa (prD x),Aa (.int (far x.1 x.2)),x14,x15,x16,x17,x18] S1=.ok (none,((qW l).drop (i+1)).map prD) S1:=by
    have:dSl (qB 7) (qN (d2 qL (qB 11) (dC (.int 1)))) (qS) [x0,x1,x2,x3,x4,x5,x6,Aa (.lst ((qW l).map prD)),x8,x9,Aa (.lst (zs.map qD)),Aa (.int (i:Ak)),Aa (prD x),Aa (.int (far x.1 x.2)),x14,x15,x16,x17,x18] S1=.ok (.lst (xA ((qW l).map prD) (Aa ((i:Ak)+1)) none)) S1:=rfl;unfold dIt;rw[this,cD,← Nb];rfl
   have hc:=jD (enc:=prD) (xs:=(qW l).drop (i+1)) (cap:=[none,Aa 13,Aa 12]) (g:=gNm 0) (t:=y9 (dTr (d2 gEq (qG 2 (okO S__law_far) (qA (d2 gIx (qB 0) (dC (.int 0))) (qA (d2 gIx (qB 0) (dC (.int 1))) (qC)))) (qB 1))) (zG)) (fe:=d2 qL (qB 2) (qB 0)) hit trivial (λy=>decide (far y.1 y.2=far x.1 x.2)) (λy=>qD (x,y)) (λenv=>∃ a,env=[a,Aa (.int (far x.1 x.2)),Aa (prD x)]) ⟨none,rfl⟩ (by rw[Gn];unfold lim;omega)
    (λy hy env ⟨a,e⟩=>by
     subst e;obtain⟨⟨b1,b2⟩,⟨b3,b4⟩⟩:=pB L (Go hy);refine⟨[Aa (prD y),Aa (.int (far x.1 x.2)),Aa (prD x)],rfl,⟨_,rfl⟩,BE ((qJ ((xY ((qJ (f:=qB 0) (g:=dC (.int 0)) rfl rfl).trans (WY y S1)) ((qJ (f:=qB 0) (g:=dC (.int 1)) rfl rfl).trans (WZ y S1))).trans (vE (fQ y.1 y.2 S1 (L.ok _ b2) (L.ok _ b4)))) rfl).trans (uI _ _ S1)),λ_=>?_⟩;exact(qJ (f:=qB 2) (g:=qB 0) (a:=prD x) (b:=prD y) rfl rfl).trans (wO (xs:=[pD x.1,pD x.2]) (ys:=[pD y.1,pD y.2]) (show 2+2≤lim by decide) S1))
   have hfl:(((qW l).drop (i+1)).filter λy=>decide (far y.1 y.2=far x.1 x.2)).length≤4000:=by
    refine Dc (Ka _ _) ?_;rw[Gn];omega
   have hmul:i*4000≤4000*4000:=Ki _ om;refine zF ((qJ (a:=.lst (zs.map qD)) rfl hc).trans (wF (by rw[Ay,Ay];unfold lim;omega) S1)) rfl ?_
   refine⟨rfl,i+1,rest,zs++(((qW l).drop (i+1)).filter λy=>decide (far y.1 y.2=far x.1 x.2)).map (λy=>(x,y)),Aa (.int (i:Ak)),Aa (prD x),Aa (.int (far x.1 x.2)),hr2,rfl,?_,λz hz'=>?_,?_,hi⟩
   ·simp only[Bq,Br,Ho,NE]
    rfl
   ·rcases Cq.mp hz' with h|h
    ·exact hz z h
    ·obtain⟨y,hy,rfl⟩:=Cw.mp h
     obtain⟨⟨b1,b2⟩,⟨b3,b4⟩⟩:=pB L (Go (Nl.mp hy).1);exact⟨a1,a3,b1,b3⟩
   ·rw[Bo,Ay,Wc]
    omega
 ·rintro env S1 ⟨rfl,i,rest,zs,e11,e12,e13,hr,hds,rfl,hz,hzl,hil⟩
  refine⟨rfl,zs,e11,e12,e13,rfl,hz,?_⟩;have:i*4000≤4000*4000:=Ki _ om;omega
def UZ {l:Ab Pt}(L:Lt l){p:Ai}{S:Sto}(h:zW S p)(env:qF)(h4:env[4]? = Aa (Aa (.loc p)))(h5:env[5]? = Aa (Aa (.tup (l.map pD)))) :
  ∃ (a b c e:Pt) (S':Sto),qE wN (qA (qX false [none,Aa 5,Aa 4] (wB (yL (qA (dC (.int 4)) (qC)))) (gNm 0) (zG) (zD (d2 gIx (qB 1) (qG 2 (okO S__law_draw) (qA (qB 2) (qA (qE zE (qA (qB 1) (qC))) (qC))))))) (qC)) env S=.ok (qD ((a,b),(c,e))) S'∧QOk ((a,b),(c,e))∧zW S' p:=by
 have hs:wG [none,Aa 5,Aa 4] env=[none,Aa (.tup (l.map pD)),Aa (.loc p)]:=by simp[wG,h4,h5]
 obtain⟨ys,env',S',c,ly,hy,_,_,hp⟩:=m6 (cap:=[none,Aa 5,Aa 4]) (g:=gNm 0) (t:=zG) (fe:=d2 gIx (qB 1) (qG 2 (okO S__law_draw) (qA (qB 2) (qA (qE zE (qA (qB 1) (qC))) (qC))))) (λenv S'=>∃ a,env=[a,Aa (.tup (l.map pD)),Aa (.loc p)]∧zW S' p) (λd=>∃ q∈l,d=pD q) (kZ (dC (.int 4)) 4 env S om rfl) ⟨none,hs,h⟩ (show 4≤lim by decide)
  (λd env S1 hd ⟨a,e,p1⟩=>by
   subst e;obtain⟨r,v,f,e,h0,h1⟩:=VD S1 p (l.length:Ak) p1 (by have:=L.ne;have:=L.le;omega)
   obtain⟨n,rfl⟩:∃ n:Ai,r=(n:Ak):=⟨r.toNat,by omega⟩
   have hr':n<l.length:=by omega
   refine⟨[Aa d,Aa (.tup (l.map pD)),Aa (.loc p)],pD l[n],S1.set p (.lst [.int v,.int f]),rfl,rfl,?_,⟨_,rfl,aJ p1 v f⟩,⟨_,Ga _,rfl⟩⟩;have hn:qE zE (qA (qB 1) (qC)) [Aa d,Aa (.tup (l.map pD)),Aa (.loc p)] S1=.ok (.int (l.length:Ak)) S1:=by
    rw[xO (a:=.tup (l.map pD)) rfl,uA,Ay]
   refine(qJ (a:=.tup (l.map pD)) rfl ((xY (a:=.loc p) rfl hn).trans (vE e))).trans (uW ?_ _);refine uS _ n _ ?_;rw[Dw,An hr'];rfl)
 match ys,ly,hy,c with
 |[y1,y2,y3,y4],_,hy,c =>
  obtain⟨a,ma,rfl⟩:=hy _ (.head _);obtain⟨b,mb,rfl⟩:=hy _ (.tail _ (.head _));obtain⟨c',mc,rfl⟩:=hy _ (.tail _ (.tail _ (.head _)));obtain⟨e,me,rfl⟩:=hy _ (.tail _ (.tail _ (.tail _ (.head _))));exact⟨a,b,c',e,S',(xO c).trans rfl,⟨jH (L.bd ma),jH (L.bd mb),jH (L.bd mc),jH (L.bd me)⟩,hp⟩
def TZ (zs:Ab (PP × PP))(hz:∀ z∈zs,QOk z)(hl:zs.length≤16000000)(w:PP × PP)(hw:QOk w){p:Ai}{S:Sto}(h:zW S p)(env:qF)(h4:env[4]? = Aa (Aa (.loc p)))(h10:env[10]? = Aa (Aa (.lst (zs.map qD))))(h14:env[14]? = Aa (Aa (qD w))) :
  ∃ (z:PP × PP) (S':Sto),dIf (dTr (d2 gNe (qB 10) (zJ (qC)))) (d2 gIx (qB 10) (qG 2 S__law_draw (qA (qB 4) (qA (qE zE (qA (qB 10) (qC))) (qC))))) (qB 14) env S=.ok (qD z) S'∧QOk z∧zW S' p:=by
 have ht:dTr (d2 gNe (qB 10) (zJ (qC))) env S=.ok (!decide (zs=[])) S:=by
  refine zX ((qJ (zS h10) (b:=.lst []) rfl).trans ?_);have hp:pl xB (.lst (zs.map qD))=true:=Ar.mpr λx hx=>by
   obtain⟨z,_,rfl⟩:=Cw.mp hx;rfl
  unfold gNe;rw[hp];cases zs with
  |nil=>rfl
  |cons z zs=>rfl
 unfold dIf;rw[ht];by_cases hn:zs=[]
 ·rw[Bi hn]
  exact⟨w,S,zS h14,hw,h⟩
 ·rw[Bs hn]
  have hlen:qE zE (qA (qB 10) (qC)) env S=.ok (.int (zs.length:Ak)) S:=by
   rw[xO (zS h10),tO,Ay]
  have hpos:0<zs.length:=List.length_pos_iff.mpr hn;obtain⟨r,S',e,hr,p'⟩:=xX (S:=S) (i:=4) (f2:=qE zE (qA (qB 10) (qC))) (env:=env) (m:=(zs.length:Ak)) h om h4 hlen;have hr':r<zs.length:=by omega
  refine⟨zs[r],S',(qJ (zS h10) e).trans (uJ (uS _ r _ ?_) S'),hz _ (Ga _),p'⟩;rw[Dw,An hr'];rfl
def N0 (z:PP × PP)(hz:QOk z)(env:qF)(S:Sto)(h14:env[14]? = Aa (Aa (qD z))):∃ d,qE wN (qA (qE pF (qA (qB 14) (qC))) (qC)) env S=.ok d S∧Th d:=by
 have e0:qD z=.tup (([z.1.1,z.1.2,z.2.1,z.2.2].map kP).map tpD):=rfl;have hs:bE (([z.1.1,z.1.2,z.2.1,z.2.2].map kP).map tpD)=Aa ((_S.fV _H.lexLt ([z.1.1,z.1.2,z.2.1,z.2.2].map kP)).map tpD):=by
  unfold bE;rw[show yA (([z.1.1,z.1.2,z.2.1,z.2.2].map kP).map tpD)=none from rfl,uO]
  rfl
 have h1:qE pF (qA (qB 14) (qC)) env S=.ok (.lst ((_S.fV _H.lexLt ([z.1.1,z.1.2,z.2.1,z.2.2].map kP)).map tpD)) S:=by
  rw[xO (zS h14),e0];show (match bE (([z.1.1,z.1.2,z.2.1,z.2.2].map kP).map tpD) with|some ys=>Res.ok (D.lst ys) S|none=>.bad)=_
  rw[hs]
 refine⟨_,(xO h1).trans rfl,?_⟩;have hp:=_S.rP (lt':=_H.lexLt) ([z.1.1,z.1.2,z.2.1,z.2.2].map kP);refine wV (hl:=false) (hd:=false) rfl (λx hx=>?_) (by rw[Ay,hp.length_eq];show 4≤5;decide)
 obtain⟨k,hk,rfl⟩:=Cw.mp hx;obtain⟨q,hq,rfl⟩:=Cw.mp (hp.mem_iff.mp hk);obtain⟨q1,q2,q3,q4⟩:=hz;simp only[Av,Cj,Ez] at hq;rcases hq with rfl|rfl|rfl|rfl
 ·exact np _ q1 _ _
 ·exact np _ q2 _ _
 ·exact np _ q3 _ _
 ·exact np _ q4 _ _
def N4 (x:As)(k:Ai)(S:Sto):gNe (.lst (Cd k (.str x))) (.lst (Cd k (.str x))) S=.ok (.bl false) S:=by
 have h1:pl xB (.lst (Cd k (.str x)))=true:=Ar.mpr λy hy=>by
  rw[(Vy.mp hy).2];rfl
 have h2:eqD (.lst (Cd k (.str x))) (.lst (Cd k (.str x)))=true:=by
  show xM _ _=true
  induction k with
  |zero=>rfl
  |succ k ih =>
   rw[EQ,f7,ih (by
    refine Ar.mpr λy hy=>?_;rw[(Vy.mp hy).2];rfl)]
   show (x == x&&true)=true;simp
 unfold gNe;rw[h1,h2];rfl
def UG (ns:Ab Ak)(hl:ns.length≤63)(env:qF)(S:Sto)(h0:env[0]? = Aa (Aa (.lst (ns.map D.int)))):∃ ms:Ab Ak,wZ (d2 qL (zJ (qA (qG 2 S__law_cell (qA (qB 0) (qA (dC (.int 0)) (qC)))) (qC))) (dSl (qB 0) (qN (dC (.int 1))) (qN (dC (.int 4))))) env S=.ok (ms.map D.int) S:=by
 obtain⟨x,hx⟩:=EN ns S;obtain⟨ms,hm,hml⟩:=BP ns (Aa 1) (Aa 4);refine⟨x::ms,?_⟩;have l1:1≤lim:=by decide
 have hs:dSl (qB 0) (qN (dC (.int 1))) (qN (dC (.int 4))) env S=.ok (.lst (ms.map D.int)) S:=by
  simp only[dSl,zS h0,Res.bind,qN,dC];show Res.ok (D.lst (xA (ns.map D.int) (Aa 1) (Aa 4))) S=_;rw[hm]
 have hc:zJ (qA (qG 2 S__law_cell (qA (qB 0) (qA (dC (.int 0)) (qC)))) (qC)) env S=.ok (.lst [.int x]) S:=yG (yC ((xY (zS h0) rfl).trans hx)) l1;unfold wZ;rw[qJ hc hs,wF (by rw[Ay];show 1+ms.length≤lim;unfold lim;omega)]
 rfl
def B4 (d:D)(x:As)(h:kJ d=Aa x)(i:Ai)(env:qF)(S:Sto)(h0:env[i]? = Aa (Aa d)):qE mB (qA (qB i) (qC)) env S=.ok (.str x) S:=by
 rw[xO (zS h0)];show (match kJ d with|some x=>Res.ok (D.str x) S|none=>.bad)=_
 rw[h]
def SV (x:As)(S:Sto):gNe (.str x) (.str x) S=.ok (.bl false) S:=by
 unfold gNe;rw[show (pl xB (.str x))=true from rfl]
 show Res.ok (D.bl (!(x == x))) S=_;rw[El];rfl
def T1:D:=qD (((5,5),(5,6)),((7,7),(7,8)))
def T2:D:=qD (((0,0),(0,1)),((0,1),(0,2)))
def T3:D:=qD (((-1,0),(0,0)),((0,0),(0,1)))
def l0:Ab Pt:=[(0,0),(0,1)]
def CS:Lt l0:=⟨by decide,by decide,by decide,kd⟩
def ZV (z:PP × PP):Pn (qD z):=l8 (fa (eO _) (fa (eO _) (fa (eO _) (fa (eO _) fa0))))
def CU:∀ d∈[T1,T2,T3],fH l0 d=false∧Pn d:=by
 refine fa ⟨kd,ZV _⟩ (fa ⟨kd,ZV _⟩ (fa ⟨kd,ZV _⟩ fa0))
def M7 (c:Cl)(m:Ab Pt)(M:Lt m)(env:qF)(S:Sto)(h6:env[6]? = Aa (Aa (.tup (m.map pD))))(h9:env[9]? = Aa (Aa (flD (fl (qW m))))):y9 (dTr (d2 pH (qB 9) (dC .non))) (dTr (d2 kL (qG 3 (S__law_came c) (qA (dC (.int 1)) (qA (qB 6) (qA (qB 9) (qC))))) (dC (.bl true)))) env S=.ok false S:=by
 cases q:fl (qW m) with
 |none =>
  rw[q] at h9;have h1:dTr (d2 pH (qB 9) (dC .non)) env S=.ok false S:=zX ((qJ (zS h9) (b:=.non) rfl).trans rfl);unfold y9;rw[h1];rfl
 |some z =>
  rw[q] at h9;have h1:dTr (d2 pH (qB 9) (dC .non)) env S=.ok true S:=zX ((qJ (zS h9) (b:=.non) rfl).trans rfl);have h2:=c0 c m M (qD z) (ZV z) S;rw[SJ M q] at h2;have h3:dTr (d2 kL (qG 3 (S__law_came c) (qA (dC (.int 1)) (qA (qB 6) (qA (qB 9) (qC))))) (dC (.bl true))) env S=.ok false S:=zX ((qJ ((jP (a:=.int 1) rfl (zS h6) (zS h9)).trans h2) (b:=.bl true) rfl).trans rfl);unfold y9;rw[h1];exact h3
abbrev eV (nn:Ab Ak)(y:Ak)(p:Ai)(l m:Ab Pt)(zs:Ab (PP × PP))(a b c u v w x s t o:Am D):qF:=[Aa (.lst (nn.map D.int)),u,v,Aa (.int y),Aa (.loc p),Aa (.tup (l.map pD)),Aa (.tup (m.map pD)),Aa (.lst ((qW l).map prD)),Aa (flD (fl (qW l))),Aa (flD (fl (qW m))),Aa (.lst (zs.map qD)),a,b,c,w,x,s,t,o]
structure Iv3 (nn:Ab Ak)(ds:Ab D)(env:qF)(S:Sto):Prop where
 ex:∃ (e1 e2:Am D),(∀ d∈ds,d∈[T1,T2,T3])∧env=[Aa (.lst (nn.map D.int)),e1,e2,none,none,none,none,none,none,none,none,none,none,none,none,none,none,none,none]∧S=[]
structure IvC (nn:Ab Ak)(ds:Ab D)(env:qF)(S:Sto):Prop where
 ex:∃ (ms:Ab Ak) (e1 e2 e3 e4 e5 e6 e7 e8 e9 e10 e11 e12 e13 e14 e15 e16 e17 e18:Am D),ds=ms.map D.int∧env=[Aa (.lst (nn.map D.int)),e1,e2,e3,e4,e5,e6,e7,e8,e9,e10,e11,e12,e13,e14,e15,e16,e17,e18]
structure IvM (x0 x1 x3 x4 x5 x6 x7 x8 x9 x10 x11 x12 x13 x14 x15 x18:Am D)(S0:Sto)(ds:Ab D)(env:qF)(S:Sto):Prop where
 ex:∃ (e2 e16 e17:Am D),(∀ d∈ds,Th d)∧env=[x0,x1,e2,x3,x4,x5,x6,x7,x8,x9,x10,x11,x12,x13,x14,x15,e16,e17,x18]∧S=S0
def JU (c:Cl)(nd:(wH c).Nodup)(nn:Ab Ak)(hl:nn.length≤63):∃ S,z9 19 (b_law c) [.lst (nn.map D.int)] [] = .ok (.bl true) S:=by
 have l1:1≤lim:=by decide
 have l2:2≤lim:=by decide
 have key:Rt (b_law c [Aa (.lst (nn.map D.int)),none,none,none,none,none,none,none,none,none,none,none,none,none,none,none,none,none,none] []) λd _=>d=.bl true:=by
  unfold b_law;refine qY (zF (d:=.lst [T1,T2]) (S1:=[]) (by kernel_rfl!) rfl ?_)
  simp only[Bq,Br];refine qY (uY (ds:=[T1,T2,T3]) (S1:=[]) (by kernel_rfl!) ?_)
  refine vN (Iv3 nn) ?_ ?_ ⟨_,_,λd hd=>hd,rfl,rfl⟩
  ·rintro d ds env S ⟨e1,e2,hds,rfl,rfl⟩
   refine⟨[Aa (.lst (nn.map D.int)),e1,Aa d,none,none,none,none,none,none,none,none,none,none,none,none,none,none,none,none],[],rfl,?_⟩;obtain⟨h1,h2⟩:=CU d (hds d (.head _));have h3:=c0 c l0 CS d h2 [];rw[h1] at h3;exact xQ (b:=false) (S1:=[]) (zX ((qJ ((jP (a:=.int 1) (b:=.tup (l0.map pD)) (c:=d) rfl (by kernel_rfl!) rfl).trans h3) (b:=.bl false) rfl).trans rfl)) (xC rfl ⟨e1,Aa d,λx hx=>hds x (.tail _ hx),rfl,rfl⟩)
  rintro env S ⟨e1,e2,hds,rfl,rfl⟩;clear hds;obtain⟨ms,hms⟩:=UG nn hl [Aa (.lst (nn.map D.int)),e1,e2,none,none,none,none,none,none,none,none,none,none,none,none,none,none,none,none] [] rfl;refine qY (uY hms ?_);clear hms;refine vN (IvC nn) ?_ ?_ ⟨ms,_,_,_,_,_,_,_,_,_,_,_,_,_,_,_,_,_,_,rfl,rfl⟩
  ·rintro d ds env S ⟨ms,e1,e2,e3,e4,e5,e6,e7,e8,e9,e10,e11,e12,e13,e14,e15,e16,e17,e18,hds,rfl⟩
   cases ms with
   |nil=>cases hds
   |cons y ms =>
    injection hds with h1 h2
    subst h1 h2;refine⟨[Aa (.lst (nn.map D.int)),e1,e2,Aa (.int y),e4,e5,e6,e7,e8,e9,e10,e11,e12,e13,e14,e15,e16,e17,e18],S,rfl,?_⟩;obtain⟨f,hpen⟩:=AS y S;refine xT (zF ((y8 (a:=.int y) rfl).trans hpen) rfl ?_);have p0:zW (S++[.lst [.int y,.int f]]) S.length:=⟨y,f,by simp⟩
    clear hpen;generalize S++[.lst [.int y,.int f]]=S0 at p0;generalize S.length=p at p0;simp only[Bq,Br];obtain⟨xs,S1,c1,hx,hxl,hlot,p1⟩:=B2 S0 p 14 om p0;obtain⟨ys,S2,c2,hy,hyl,hylot,p2⟩:=B2 S1 p 40 om p1;have c1':S__law_lot [.loc p,.int 14] S0=.ok (.tup xs) S1:=c1;have c2':S__law_lot [.loc p,.int 40] S1=.ok (.tup ys) S2:=c2;obtain⟨l,rfl⟩:=pJ hx;obtain⟨m,rfl⟩:=pJ hy;rw[Ay] at hxl hyl;have L:Lt l:=⟨hx,hxl.1,hxl.2,hlot⟩;have M:Lt m:=⟨hy,hyl.1,hyl.2,hylot⟩;refine xT (zF (xU (xP ((xY (a:=.loc p) (b:=.int 14) rfl rfl).trans c1') ((xY (a:=.loc p) (b:=.int 40) rfl rfl).trans c2')) l2) (env1:=[Aa (.lst (nn.map D.int)),e1,e2,Aa (.int y),Aa (.loc p),Aa (.tup (l.map pD)),Aa (.tup (m.map pD)),e7,e8,e9,e10,e11,e12,e13,e14,e15,e16,e17,e18]) (S2:=S2) rfl ?_);clear c1 c1' c2 c2' p0 p1 hx hy hlot hylot;obtain⟨S3,c3,q3⟩:=aS l L S2;refine xT (gC ((y8 (a:=.tup (l.map pD)) rfl).trans (aU l S2 om)) ((y8 (a:=.tup (l.map pD)) rfl).trans c3) ?_);have p3:=pN p2 q3;clear c3 q3 p2;simp only[Bq,Br];obtain⟨S4,c4,q4⟩:=hZ c l L (.int 0) S3;obtain⟨S5,c5,q5⟩:=hZ c l L (.int 0) S4;have p5:=pN (pN p3 q4) q5;refine xT (xQ (b:=false) (S1:=S5) (wC (a:=false) (b:=false) (wR (b:=true) (zX ((xY (f2:=qB 8) ((jP (a:=.int 0) (b:=.tup (l.map pD)) (c:=.int 0) rfl rfl rfl).trans c4) rfl).trans (sC S4 _)))) (λ_=>wR (b:=true) (zX ((xY (f2:=qB 8) ((jP (a:=.int 0) (b:=.tup (l.map pD)) (c:=.int 0) rfl rfl rfl).trans c5) rfl).trans (sC S5 _)))) (λz=>by cases z)) (xC rfl ?_))
    clear c4 c5 q4 q5 p3;obtain⟨S6,c6,q6⟩:=aS m M S5;refine xT (zF ((y8 (a:=.tup (m.map pD)) rfl).trans c6) rfl ?_);simp only[Bq,Br];obtain⟨S7,c7,q7⟩:=hZ c m M (.int 0) S6;have p7:=pN (pN p5 q6) q7;refine xT (xQ (b:=false) (S1:=S7) (wR (b:=true) (zX ((xY (f2:=qB 9) ((jP (a:=.int 0) (b:=.tup (m.map pD)) (c:=.int 0) rfl rfl rfl).trans c7) rfl).trans (sC S7 _)))) (xC rfl ?_));clear c6 c7 q6 q7 p5;refine xT (xQ (b:=false) (S1:=S7) (M7 c m M _ S7 rfl rfl) (xC rfl ?_));refine xT (zF (d:=.lst []) (S1:=S7) rfl rfl ?_);simp only[Bq,Br];obtain⟨env1,S8,hE,rfl,zs,e11',e12',e13',rfl,hz,hzl⟩:=JW L (Aa (.lst (nn.map D.int))) e1 e2 (Aa (.int y)) (Aa (.loc p)) (Aa (.tup (l.map pD))) (Aa (.tup (m.map pD))) (Aa (flD (fl (qW l)))) (Aa (flD (fl (qW m)))) e14 e15 e16 e17 e18 e11 e12 e13 S7;refine xT (xC hE ?_);clear hE;obtain⟨a,b,c',e,S9,c9,hw,p9⟩:=UZ L p7 (eV nn y p l m zs e11' e12' e13' e1 e2 e14 e15 e16 e17 e18) rfl rfl;refine xT (zF c9 rfl ?_);clear c9 p7;simp only[Bq,Br];generalize ((a,b),(c',e))=w at hw;obtain⟨z,S10,c10,hzq,p10⟩:=TZ zs hz hzl w hw p9 (eV nn y p l m zs e11' e12' e13' e1 e2 (Aa (qD w)) e15 e16 e17 e18) rfl rfl rfl;refine xT (zF c10 rfl ?_);clear c10 p9;simp only[Bq,Br];obtain⟨sd,csd,tsd⟩:=N0 w hw (eV nn y p l m zs e11' e12' e13' (Aa (qD z)) e2 (Aa (qD w)) e15 e16 e17 e18) S10 rfl;have qth:∀ z:PP × PP,QOk z→Th (qD z):=λz ⟨h1,h2,h3,h4⟩=>qAC h1 h2 h3 h4;have tth:∀ d∈[qD z,qD w,.tup [],.non,.str "0,0",.dct0,sd],Th d:=fa (qth z hzq) (fa (qth w hw) (fa (wV (hl:=false) (hd:=false) rfl fa0 (by decide)) (fa VP (fa ⟨false,false,rfl,(SS "0,0" (kd) (kd)).mono om om id id⟩ (fa ⟨false,true,rfl,a9.mono om om id id⟩ (fa tsd fa0))))))
    refine xT (zF (yG (zN (a:=qD z) (S1:=S10) rfl (zN (a:=qD w) (S1:=S10) rfl (zN (a:=.tup []) (S1:=S10) rfl (zN (a:=.non) (S1:=S10) rfl (zN (a:=.str "0,0") (S1:=S10) rfl (xP (a:=.dct0) (S1:=S10) rfl csd)))))) (show 7≤lim by decide)) rfl ?_)
    clear csd tsd;simp only[Bq,Br];have tl:[qD z,qD w,D.tup [],D.non,D.str "0,0",D.dct0,sd].length≤10:=(show 7≤10 by decide)
    generalize [qD z,qD w,D.tup [],D.non,D.str "0,0",D.dct0,sd]=TT at tth tl;have r4:=kZ (dC (.int 4)) 4 (eV nn y p l m zs e11' e12' e13' (Aa (qD z)) e2 (Aa (qD w)) (Aa (.lst TT)) e16 e17 e18) S10 om rfl;obtain⟨us,env',S11,c11,lu,hu,_,_,p11⟩:=m6 (cap:=[none,Aa 5,Aa 4,Aa 1]) (g:=gNm 0) (t:=zG) (fe:=qG 3 (okO S__law_bent) (qA (qB 2) (qA (qB 1) (qA (qB 3) (qC))))) (λenv S'=>∃ a,env=[a,Aa (.tup (l.map pD)),Aa (.loc p),Aa (qD z)]∧zW S' p) Th r4 ⟨none,rfl,p10⟩ (show 4≤lim by decide)
     (λd env S1 hd ⟨a,e,p1⟩=>by
      subst e;obtain⟨x,S',hb,ht,hp⟩:=VC S1 p p1 l L z.1.1 z.1.2 z.2.1 z.2.2 hzq.1 hzq.2.1 hzq.2.2.1 hzq.2.2.2;exact⟨[Aa d,Aa (.tup (l.map pD)),Aa (.loc p),Aa (qD z)],x,S',rfl,rfl,(jP (a:=.loc p) (b:=.tup (l.map pD)) (c:=qD z) rfl rfl rfl).trans (vE hb),⟨_,rfl,hp⟩,ht⟩)
    have lu4:us.length=4:=lu;obtain⟨v,S12,c12,tv,p12⟩:=VC S11 p p11 l L w.1.1 w.1.2 w.2.1 w.2.2 hw.1 hw.2.1 hw.2.2.1 hw.2.2.2;have hit:wZ (d2 qL (d2 qL (qB 15) (qX false [none,Aa 5,Aa 4,Aa 1] (wB (yL (qA (dC (.int 4)) (qC)))) (gNm 0) (zG) (zD (qG 3 (okO S__law_bent) (qA (qB 2) (qA (qB 1) (qA (qB 3) (qC)))))))) (zJ (qA (qG 3 S__law_bent (qA (qB 4) (qA (qB 5) (qA (qB 14) (qC))))) (qC)))) (eV nn y p l m zs e11' e12' e13' (Aa (qD z)) e2 (Aa (qD w)) (Aa (.lst TT)) e16 e17 e18) S10=.ok (TT++us++[v]) S12:=by
     unfold wZ;rw[qJ ((qJ (a:=.lst TT) (S1:=S10) rfl c11).trans (wF (by rw[lu4];unfold lim;omega) S11)) (yG (yC ((jP (a:=.loc p) (b:=.tup (l.map pD)) (c:=qD w) rfl rfl rfl).trans c12)) l1),wF (by rw[Bo,lu4];show TT.length+4+1≤lim;unfold lim;omega)]
     rfl
    refine xT (uY hit ?_);clear hit c11 c12 r4;have hall:∀ d∈TT++us++[v],Th d:=λd hd=>by
     rcases Cq.mp hd with hd|hd
     ·rcases Cq.mp hd with hd|hd
      ·exact tth d hd
      ·exact hu d hd
     ·have:d=v:=by simpa using hd
      subst this;exact tv
    refine vN (IvM (Aa (.lst (nn.map D.int))) (Aa (qD z)) (Aa (.int y)) (Aa (.loc p)) (Aa (.tup (l.map pD))) (Aa (.tup (m.map pD))) (Aa (.lst ((qW l).map prD))) (Aa (flD (fl (qW l)))) (Aa (flD (fl (qW m)))) (Aa (.lst (zs.map qD))) e11' e12' e13' (Aa (qD w)) (Aa (.lst TT)) e18 S12) ?_ ?_ ⟨e2,e16,e17,hall,rfl,rfl⟩
    ·rintro d ds env S' ⟨e2,e16,e17,hds,rfl,hS⟩
     refine⟨(eV nn y p l m zs e11' e12' e13' (Aa (qD z)) (Aa d) (Aa (qD w)) (Aa (.lst TT)) e16 e17 e18),S',rfl,?_⟩;have td:=hds d (.head _);obtain⟨x,hx⟩:=td.repr;refine xT (gC (B4 d x hx 2 _ S' rfl) ((xY (a:=.tup (l.map pD)) (b:=d) rfl rfl).trans (EO l L d td.pn S')) ?_);simp only[Bq,Br];exact xQ (b:=false) (S1:=S') (wC (a:=false) (b:=false) (wR (b:=true) (zX ((xY (f2:=qB 17) ((jP (a:=.int 1) (b:=.tup (l.map pD)) (c:=d) rfl rfl rfl).trans (c0 c l L d td.pn S')) rfl).trans (EU S' _)))) (λ_=>zX ((qJ (B4 d x hx 2 _ S' rfl) (b:=.str x) rfl).trans (SV x S'))) (λz=>by cases z)) (xC rfl ⟨_,_,_,λx hx=>hds x (.tail _ hx),rfl,hS⟩)
    rintro env S' ⟨e2,e16,e17,hds,rfl,hS⟩;rw[hS];obtain⟨bad,S13,c13,tb,hb,p13⟩:=KZ S12 p (l.map pD) p12 L.pt (by rw[Ay];exact hxl)
    refine xT (zF ((xY (a:=.loc p) (b:=.tup (l.map pD)) rfl rfl).trans c13) rfl ?_);clear c13;simp only[Bq,Br];have r2:=kZ (dC (.int 2)) 2 (eV nn y p l m zs e11' e12' e13' (Aa (qD z)) e2 (Aa (qD w)) (Aa (.lst TT)) e16 e17 (Aa bad)) S13 om rfl;have hc:=jD (enc:=iD) (cap:=[none,Aa 18,Aa 1]) (g:=gNm 0) (t:=zG) (fe:=qG 3 (okO (S__law_came c)) (qA (qB 0) (qA (qB 1) (qA (qB 2) (qC))))) r2 trivial (λ_=>true) (λ_=>D.str "lot") (λenv=>∃ a,env=[a,Aa bad,Aa (qD z)]) ⟨none,rfl⟩ (show 2≤lim by decide)
     (λi hi env ⟨a,q⟩=>by
      subst q;have hi:=Ek.mp hi;exact⟨[Aa (iD i),Aa bad,Aa (qD z)],rfl,⟨_,rfl⟩,rfl,λ_=>(jP (a:=.int (i:Ak)) (b:=bad) (c:=qD z) rfl rfl rfl).trans (vE (UE c nd i hi bad (qD z) S13 tb hb))⟩)
    rw[wK] at hc;exact xQ (b:=false) (S1:=S13) (zX ((qJ hc (OW "lot" 2 om (dC (.int 2)) _ S13 rfl)).trans (N4 "lot" 2 S13))) (xC rfl ⟨ms,_,_,_,_,_,_,_,_,_,_,_,_,_,_,_,_,_,_,rfl,rfl⟩)
  ·rintro env S ⟨ms,e1,e2,e3,e4,e5,e6,e7,e8,e9,e10,e11,e12,e13,e14,e15,e16,e17,e18,hds,rfl⟩
   exact X3 (d:=.bl true) (S:=S) rfl rfl
 obtain⟨d,S,e,rfl⟩:=key;exact⟨S,yS rfl e⟩
end _K
namespace _K
open PySem PySem.Spec PyProof.Rows _L _D
variable {mg:As→Am Ad}
def uZ {P:Bg}{w:By}{K:Al}{base:Bk}{c:Cl}(T:Txt K mg c){k:Ai}{F:DF}(d:DfS F P w K mg base true k "_law_same" 2):DfS (z9 4 (b__law_same F)) P w K mg base true (k+1) "_law_same" 2:=by
 refine dq P w base k 14 T rfl ck rfl ?_;intro _ _ _ _ _ _ _ hr
 repeat' first
  |with_reducible exact ck
  |((with_reducible show QE _ _ _);with_reducible first|apply aV|apply PZ|apply V1|apply aBt|apply aN|(apply aB;first|apply BD|apply BC)|apply V0|apply V2|apply YY)
  |((with_reducible show _=_);first|exact T.nb ck|exact pL _|exact rfl|with_unfolding_all rfl)
  |((with_reducible show ZOp _ _ _);with_reducible first|apply HH|apply HN|apply HI)
  |((with_reducible show RoomC _ _ _);first|assumption|exact RoomC.mono (by assumption)|exact RoomC.mono (RoomC.any (by assumption))|exact RoomC.mark (by assumption) _|exact RoomC.mono (RoomC.mark (by assumption) _))
  |((with_reducible show St1 _ _ _ _);exact⟨rfl,rfl⟩)
  |((with_reducible show DfS _ _ _ _ _ _ _ _ _ _);assumption)
  |with_reducible first|apply YX|apply lI|apply mK|apply Q3|apply YW|apply V8|apply V7|(apply B1;first|apply lJ|apply eQ)|apply V9|apply lJ|apply eQ|apply aNm|apply V3|apply aQ|apply Q4|apply V4|apply V6|apply B0|apply V5|apply GZ
  |((with_reducible apply aSt);case hs=>exact rfl)
  |((with_reducible show ZPass _);first|assumption|exact QN)
  |exact⟨rfl,rfl⟩
  |exact⟨rfl,rfl,rfl⟩
  |apply lI
  |apply mK
  |(intros;rfl)
  |(intro _ h;cases h <;> rfl)
  |intro _
def M2 {P:Bg}{w:By}{K:Al}{base:Bk}{c:Cl}(T:Txt K mg c)(nd:(wH c).Nodup):∃ F,eU P w K mg base true 8 "law" ["_law_script"] F∧∀ ns:Ab Ak,ns.length≤63→∃ S,F [.lst (ns.map D.int)] [] = .ok (.bl true) S:=by
 refine hv (λ_=>?_) (dq (cm:=true) P w base 0 0 T rfl ck (k9) ?_);refine hv (λ_=>?_) (dq (cm:=true) P w base 1 1 T rfl ck (jB) ?_);refine hv (λ_=>?_) (dq (cm:=true) P w base 0 2 T rfl ck (p8) ?_);refine hv (λ_=>?_) (dq (cm:=true) P w base 2 3 T rfl ck (bJ) ?_);refine hv (λ_=>?_) (dq (cm:=true) P w base 3 4 T rfl ck (mT) ?_);refine hv (λ_=>?_) (dq (cm:=true) P w base 4 5 T rfl ck (bK c) ?_);refine hv (λ_=>?_) (dq (cm:=true) P w base 0 6 T rfl ck (kQ) ?_);refine hv (λ_=>?_) (dq (cm:=true) P w base 1 7 T rfl ck (kE) ?_);refine hv (λ_=>?_) (dq (cm:=true) P w base 5 8 T rfl ck (u4 c) ?_);refine hv (λ_=>?_) (dq (cm:=true) P w base 5 9 T rfl ck (uR c) ?_);refine hv (λ_=>?_) (dq (cm:=true) P w base 0 10 T rfl ck (gY) ?_);refine hv (λ_=>?_) (dq (cm:=true) P w base 0 11 T rfl ck (bI) ?_);refine hv (λ_=>?_) (dq (cm:=true) P w base 0 12 T rfl ck (gZ) ?_);refine hv (λ_=>?_) (dq (cm:=true) P w base 0 13 T rfl ck (uQ) ?_);have s0:DfS (bC 0) P w K mg base true 0 "_law_same" 2:=⟨F0 (T.src 14 rfl)⟩;have d__law_same:DfS S__law_same P w K mg base true 4 "_law_same" 2:=jA▸uZ T (uZ T (uZ T (uZ T s0)));refine hv (λ_=>?_) (dq (cm:=false) P w base 0 15 T rfl ck (kD c) ?_);refine hv (λ_=>?_) (dq (cm:=true) P w base 1 16 T rfl ck (gK) ?_);refine hv (λ_=>?_) (dq (cm:=true) P w base 2 17 T rfl ck (bH) ?_);refine hv (λ_=>?_) (dq (cm:=true) P w base 1 18 T rfl ck (jT) ?_);refine hv (λ_=>?_) (dq (cm:=true) P w base 2 19 T rfl ck (kN) ?_);refine hv (λ_=>?_) (dq (cm:=true) P w base 1 20 T rfl ck (jU) ?_);refine hv (λ_=>?_) (dq (cm:=true) P w base 3 21 T rfl ck (kO) ?_);refine hv (λ_=>?_) (dq (cm:=true) P w base 0 22 T rfl ck (bG) ?_);refine hv (λ_=>?_) (dq (cm:=true) P w base 0 23 T rfl ck (gJ) ?_);refine hv (λ_=>?_) (dq (cm:=true) P w base 2 24 T rfl ck (uG) ?_);refine hv (λ_=>?_) (dq (cm:=true) P w base 1 25 T rfl ck (uP) ?_);refine hv (λ_=>?_) (dq (cm:=true) P w base 6 26 T rfl ck (j9 c) ?_);refine hv (λ_=>?_) (dq (cm:=true) P w base 1 27 T rfl ck (gX) ?_);refine⟨_,dqP 7 28 T rfl ck ?_,JU c nd⟩
 all_goals
  intro _ _ _ _ _ _ _ hr
  repeat' first
   |with_reducible exact ck
   |((with_reducible show QE _ _ _);with_reducible first|apply aV|apply E7|apply PZ|apply EC|apply V1|apply aBt|apply aGi|apply aCl|apply aO|apply aN|(apply aB;first|apply BD|apply BC|apply IP|apply HP|apply GM|apply HJ)|(apply aT;first|apply NL|apply HK|apply IS)|apply aC|apply ED|apply E9|apply MZ|apply E8|apply AM|apply KO|apply T6|apply EB|apply AN|apply V0|apply KM|apply EA|apply AO|apply V2|apply YY|apply AL|apply MX|apply E6|apply ZX|apply T4|(apply eP;(case slot=>apply Og);(case' hm=>first|apply GL))|(apply eP;(case slot=>apply PySem.F.slot_list_append);(case' hm=>first|apply GJ))|(apply eP;(case slot=>apply Ru);(case' hm=>first|apply NH))|(apply eP;(case slot=>apply Rv);(case' hm=>first|apply NI))|apply E4)
   |((with_reducible show _=_);first|exact T.nb ck|with_reducible apply Lp|with_reducible apply Sb|with_reducible apply Oo|with_reducible apply Rc|with_reducible apply Sc|with_reducible apply Sd|exact pL _|exact rfl|with_unfolding_all rfl)
   |((with_reducible show ZOp _ _ _);with_reducible first|apply IM|apply O0|apply HM|apply HL|apply IW|apply IQ|apply IV|apply IY|apply qAV|apply qAU|apply qAR|apply qAQ|apply HH|apply HN|apply GK|apply HI|apply NJ|apply IT|apply IU|apply IR|apply qAS|apply NK)
   |((with_reducible show RoomC _ _ _);first|assumption|exact RoomC.mono (by assumption)|exact RoomC.mono (RoomC.any (by assumption))|exact RoomC.mark (by assumption) _|exact RoomC.mono (RoomC.mark (by assumption) _))
   |((with_reducible show St1 _ _ _ _);exact⟨rfl,rfl⟩)
   |((with_reducible show DfS _ _ _ _ _ _ _ _ _ _);assumption)
   |with_reducible first|apply YX|apply lI|apply mK|apply Q3|apply YW|apply TF|apply TH|apply V8|apply V7|apply KS|(apply B1;first|apply Q5|apply lJ|apply VB|apply eQ)|apply V9|apply Q5|apply lJ|apply VB|apply eQ|apply aNm|apply V3|apply EF|apply aQ|apply Q4|apply EI|apply KP|apply V4|apply T9|apply TB|apply EH|apply EG|apply TK|apply KU|apply TC|apply V6|apply B0|apply TJ|apply V5|apply aP2|apply aRs|apply aTr|apply IX|apply qAT|apply IZ|apply GZ|apply Lp|apply Sb|apply Oo|apply Rc|apply Sc|apply Sd
   |((with_reducible apply aCs);case hsw=>exact rfl)
   |((with_reducible apply aSt);case hs=>exact rfl)
   |with_reducible apply EJ
   |exact T.cls
   |exact T.cl (by kernel_rfl)
   |exact T.rz (by kernel_rfl)
   |exact T.ct
   |exact T.gi (by kernel_rfl)
   |((with_reducible show ZPass _);first|assumption|exact QN)
   |exact⟨rfl,rfl⟩
   |exact⟨rfl,rfl,rfl⟩
   |apply lI
   |apply mK
   |decide
   |(intros;rfl)
   |(intro _ h;cases h <;> rfl)
   |intro _
end _K
namespace _K
open PySem PySem.Spec PyProof.Rows _L _D
variable {K:Al}
def bdf:BdF top tab:=by
 repeat (refine⟨?_,?_⟩;(intro _ _ _ _ _ _ us h;first|(obtain⟨_,rfl⟩:=us1 h;rfl)|(obtain⟨_,_,rfl⟩:=us2 h;rfl)|(obtain⟨_,_,_,rfl⟩:=us3 h;rfl)))
 exact trivial
def HS {C0 C1 C2 C3 C4 C5 C6 C7 C8 C9 C10 C11:Af}(q0:Ds K Cp "FarError" = Aa (Aa (.ref C0)))(q1:Ds K Cp "NoPoint" = Aa (Aa (.ref C1)))(q2:Ds K Cp "NoLot" = Aa (Aa (.ref C2)))(q3:Ds K Cp "NoNumber" = Aa (Aa (.ref C3)))(q4:Ds K Cp "NoCircle" = Aa (Aa (.ref C4)))(q5:Ds K Cp "NoMarks" = Aa (Aa (.ref C5)))(q6:Ds K Cp "NoFars" = Aa (Aa (.ref C6)))(q7:Ds K Cp "NoText" = Aa (Aa (.ref C7)))(q8:Ds K Cp "NoLine" = Aa (Aa (.ref C8)))(q9:Ds K Cp "NoDeed" = Aa (Aa (.ref C9)))(q10:Ds K Cp "Alike" = Aa (Aa (.ref C10)))(q11:Ds K Cp "TooMany" = Aa (Aa (.ref C11))):QP K (clt ⟨C0,C1,C2,C3,C4,C5,C6,C7,C8,C9,C10,C11⟩):=⟨q0,q1,q2,q3,q4,q5,q6,q7,q8,q9,q10,q11,trivial⟩
def HU {k0 k1 k2:Pj}(g0:Ds K Cp "LEAST_NUMBER" = Aa (Aa (.int (-1000) k0)))(g1:Ds K Cp "MOST_NUMBER" = Aa (Aa (.int (1000) k1)))(g2:Ds K Cp "MOST_POINTS" = Aa (Aa (.int (40) k2))):QQ K cst:=⟨⟨_,g0⟩,⟨_,g1⟩,⟨_,g2⟩,trivial⟩
def SG {P:Bg}{w:By}{mg:As→Am Ad}{c:Cl}{fa:Af}(T:Txt K mg c)(nd:(wH c).Nodup)(hfa:mg "law" = Aa (.ref fa)) :
  ∃ fd:Fw,(∀ (s:Ag) (v:Ad),Oa s fd ⟨[v],[]⟩ [("_law_script",v)])∧∀ base:Bk,K.In base→base.Ns Cp mg→FnOk P w K mg base (CXd P w) 8 fa fd ["_law_script"] (eR K):=
 M3 (T.src 28 rfl) hfa (λkV doc pm an cdv ct s v=>.of_eq rfl) λbase=>M2 T nd
end _K
theorem PySem.W.Fast.tw9097443679921641417 : True := trivial
theorem PySem.W.Fast.tw16307304440388896233 : True := trivial
theorem PySem.W.Fast.tw15868234734126839512 : True := trivial
theorem PySem.W.Fast.tw1779694482545377925 : True := trivial
theorem PySem.W.Fast.tw9863581141068191552 : True := trivial
theorem PySem.W.Fast.tw16747434093844994933 : True := trivial
theorem PySem.W.Fast.tw6677779693462684734 : True := trivial
theorem PySem.W.Fast.tw17290401980603674586 : True := trivial
theorem PySem.W.Fast.tw3698668974697488285 : True := trivial
theorem PySem.W.Fast.tw11104346211435195568 : True := trivial
theorem PySem.W.Fast.tw12609437078230540686 : True := trivial
theorem PySem.W.Fast.tw6905639632450954346 : True := trivial
theorem PySem.W.Fast.tw5179519167285408351 : True := trivial
theorem PySem.W.Fast.tw1090801612965210645 : True := trivial
theorem PySem.W.Fast.tw12945510785948175828 : True := trivial
theorem PySem.W.Fast.tw13650621356880711145 : True := trivial
theorem PySem.W.Fast.tw13199869035316230025 : True := trivial
theorem PySem.W.Fast.tw2320652458499204502 : True := trivial
theorem PySem.W.Fast.tw6307993740557226053 : True := trivial
theorem PySem.W.Fast.tw16649216126756045749 : True := trivial
theorem PySem.W.Fast.tw2813913024939131001 : True := trivial
theorem PySem.W.Fast.tw13301561613272555654 : True := trivial
theorem PySem.W.Fast.tw8107097080401988746 : True := trivial
theorem PySem.W.Fast.tw9882152483474351556 : True := trivial
theorem PySem.W.Fast.tw1269451059945660332 : True := trivial
theorem PySem.W.Fast.tw7482539728187199333 : True := trivial
open PySem PySem.W PyProof.Rows
set_option maxRecDepth 100000 in
set_option maxHeartbeats 0 in
theorem PySem.Challenge.cw_fewdistances_k30_likenesses_looked_at_holds : PySem.Challenge.rw_fewdistances_k30_likenesses_looked_at.Holds := by
 w_on;o_law;z_head;(case hw=>w_witness2)
 refine _D.IL (λ_=>by kernel_rfl) ?_
 refine _D.IK (l:=PySem.Challenge.rw_fewdistances_k30_likenesses_looked_at) (k:=8) (x:="_law_script") rfl rfl ⟨rfl,by decide,by decide,rfl⟩ (λw h Y=>Y) ?F
 case F =>
  intro w mg fa h KX G hmg
  refine' _K.SG (_D.II _K.bdf ?hp rfl KX G ?s ?z (_K.HS ?q0 ?q1 ?q2 ?q3 ?q4 ?q5 ?q6 ?q7 ?q8 ?q9 ?q10 ?q11) (_K.HU ?gi0 ?gi1 ?gi2) ?e1 ?e2 ?e3 ?e4 ?e5 ?e6) ?nd hmg
  (case s=>(repeat (refine' ⟨_D.SrcF.mk ?a ?l ?c ?k,?_⟩;(case a=>k_is);(case l=>k_is);(case c=>k_is);(case k=>k_is)));exact trivial)
  (case z=>rfl)
  (case q0=>k_is)
  (case q1=>k_is)
  (case q2=>k_is)
  (case q3=>k_is)
  (case q4=>k_is)
  (case q5=>k_is)
  (case q6=>k_is)
  (case q7=>k_is)
  (case q8=>k_is)
  (case q9=>k_is)
  (case q10=>k_is)
  (case q11=>k_is)
  (case gi0=>k_is)
  (case gi1=>k_is)
  (case gi2=>k_is)
  (case hp=>intro y hy;revert hy;simp;grind)
  (case e1=>rfl)
  (case e2=>rfl)
  (case e3=>rfl)
  (case e4=>rfl)
  (case e5=>rfl)
  (case e6=>rfl)
  (case nd=>decide)
