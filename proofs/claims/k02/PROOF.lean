import PyProof.Rows.All
import Wide.All
import OpenK.AllK
import Wide.FinOn
import Lean
import PyProof.EqAt
import PyProof.EqKinds
import PyProof.TupleCall
import KE.KTryMore
import KE.KIsAll
import PyProof.NeKinds
import PyProof.Rows.CountFlat
import PyProof.Rows.FStr
import PyProof.ZipIter
import PyProof.EnumMake
import PyProof.EnumStmt
import KE.KDictLaws
import PyProof.DictWalks
import PyProof.Rows.SetFrom
import PyProof.SumWalkG
import PyProof.Rows.SumGenD
import PyProof.SeqI2
import KE.KItemsList
import PyProof.SetKind
import PyProof.TupleKey
import KE.KSortTup
import PyProof.ReprRoads
import PyProof.ReprBulk
import PyProof.TupleOfSeq
import PyProof.WalkInts
import PyProof.SeqI3
import KE.KPairComp
import PySem.Challenge.RW_fewdistances_k02_fars_and_tables
set_option Elab.async false
set_option linter.all false
set_option maxRecDepth 100000
set_option maxHeartbeats 0
set_option tactic.hygienic false
set_option bootstrap.genMatcherCode false
set_option genSizeOf false
set_option compiler.extract_closed false
open Array renaming length_toList→Bh,getElem?_toList→Bi,getElem?_eq_some_iff→Dy,getElem?_eq_getElem→Ec,toList_append→Ed,toList_push→Eo,getD_eq_getD_getElem?→Ff,getD→Gn,size_extract→Ih,toList_extract→Je,toList_reverse→Ko,mem_toList_iff→Nt,perm_iff_toList_perm→Pp,getElem?_eq_none→Sl,size_map→Tr,forIn_toList→Vq,toList_inj→Xz,toList→Aa1
open Bool renaming and_eq_true→Bo,false_eq_true→Bu,and_eq_true_iff→Ew,false_ne_true→Gs,noConfusion→Gx,not_true→Jb,not_eq_true'→Kf,or_eq_true→Lc,false_or→Mz,false_and→Ox,and_false→OT,not_false→Ts,and_self→Uw,true_and→Ux
open Classical renaming byContradiction→Fo,choose→Nj,choose_spec→Nk
open False renaming elim→An
open ForInStep renaming yield→Nz
open Int renaming le_trans→Fu,toNat_natCast→Gh,le_of_lt→Hm,emod_lt_of_pos→Ig,emod_nonneg→Jz,le_refl→Nm,not_lt→Zb
open List renaming getElem?_eq_getElem→Ap,length_map→Ar,mem_cons→Av,all_eq_true→Az,size_toArray→Bb,getElem?_eq_some_iff→Bf,getElem?_append_left→Bj,prefix_refl→Bp,mem_cons_of_mem→Bx,length_append→Ca,length_cons→Cd,not_mem_nil→Ce,getElem?_set_ne→Cf,mem_append_right→Cg,mem_of_getElem?→Ch,append_assoc→Cj,mem_append→Cn,mem_iff_getElem→Co,set_cons_zero→Cp,set_cons_succ→Cz,getElem?_append_right→Dd,mem_singleton→De,mem_cons_self→Dg,mem_map→Dk,replicate→Dl,range→Do,length_take→Dp,mem_append_left→Ds,getElem?_map→Dv,getElem?_set_self→Ef,pairwise_append→Eh,map_cons→Ek,mem_range→Et,pairwise_cons→Fc,contains_iff_mem→Fh,length_drop→Ft,append_nil→Gd,length_nil→Ge,take_of_length_le→Gf,filterMap_cons→Gg,drop_eq_getElem_cons→Gm,length_range→Go,prefix_append→Gt,mem_of_mem_take→Gy,replicate_succ→Hf,map_map→Hn,extract_eq_take_drop→Hq,mem_of_mem_drop→Ht,flatMap_cons→Hv,map_append→Hw,flatten_cons→Iw,pairwise_iff_getElem→Iy,pairwise_map→Ja,lookup_cons→Jh,mem_map_of_mem→Jl,all_map→Jn,getD→Jo,mem_filterMap→Js,nodup_cons→Ju,foldl_cons→Jv,find?_cons→Jw,any_cons→Jx,nil_append→Jy,drop_of_length_le→Kc,perm_append_comm→Kj,reverse_append→Kz,getElem?_take_of_lt→Lh,filter_append→Ln,getElem?_replicate→Lp,length_eq_zero_iff→Ls,pairwise_singleton→Lv,nodup_append→Md,drop_eq_nil_of_le→Mp,range_succ_eq_map→Mq,length_pos_of_mem→Mr,getElem_inj→Mt,length→Mv,length_singleton→My,getElem?_eq_none→Na,lookup→Nb,all_cons→Nd,getElem_mem→Ng,ext_getElem→Nl,take_append_drop→Nn,length_filter_le→No,map_drop→Np,of_mem_zip→Ny,countP_map→Oa,eq_nil_of_length_eq_zero→Oc,nodup_nil→OX,zip_cons_cons→Pc,mergeSort_nil→Ph,getD_eq_getElem?_getD→Pq,getElem_take→Qk,getElem_drop→Ql,getElem?_eq_none_iff→Qq,length_erase_of_mem→Qx,zipIdx_cons→Ri,map_fst_zip→Rk,getElem?_cons_succ→Ro,forIn_cons→Sc,find?_cons_of_neg→Se,countP_mono_left→Ti,singleton_append→Tj,forIn_nil→To,mem_erase_of_ne→Ua,reverse_reverse→Ub,getElem?_drop→Vo,find?_eq_none→Vp,map_nil→Vv,ext_getElem?→Xa,foldl_append→Xd,getElem_map→Xt,nodup_range→Xu,countP_cons→Xx,mem_filter→Yc,zipIdx_nil→Yh,length_zip→Yn,foldl→Yv,Nodup→Yy,take_zero→Ze,map_take→Zy
open List.Pairwise renaming nil→Qe,imp_of_mem→Qw
open List.Perm renaming append_left→Io,append_right→Kb,refl→Mc,trans→Oe
open Nat renaming le_refl→As,lt_of_lt_of_le→Bt,ne_of_lt→Cy,le_trans→Ee,lt_irrefl→Eu,ne_of_gt→Gz,zero_le→Ha,le_add_right→Ji,lt_succ_self→Jj,add_sub_cancel_left→Jr,le_of_lt_succ→Kh,lt_of_succ_lt→Kk,le_of_lt→Lo,lt_trans→Lr,lt_succ_of_lt→Mf,zero_add→Oh,succ_pos→Ol,mod_lt→Os,add_right_comm→Pg,not_lt→Rf,min_eq_left→So,le_succ→Ta,mul_le_mul_right→Uc,min_self→Vz,sub_self→Wd,add_zero→We,lt_trichotomy→Wy,one_pos→Xy,min_eq_right→Ya,mul_add→Yb,sub_lt→Zc,mul_le_mul→Zh,add_assoc→Zx
open Ne renaming symm→Ho
open Option renaming some→Aa,map_eq_some_iff→Dm,bind_eq_some_iff→DL,map_some→Ka,bind_some→Kr,getD_some→Rh,getD_none→Xm,none→Aa7
open Option.some renaming inj→Cw
open Or renaming inr→Xo,inl→Zj
open Prod renaming ext→Aa5
open PyProof.Rows renaming wpS_bind→Ay,wpS_pure→Bn,Keyed→Bq,step_dedup→Bv,slot_tuple_getitem→Dr,seqObj→Er,wpS_forRange→Fj,SortSt→Gb,envOfC→Gw,callWith_type1→Hb,wpS_mono→Hi,wpS_modify→Iq,IntsAre→Jg,SortKind→Lf,get?_update_seq→Lg,wpS_get→Lw,AllBare→Ms,callWith_builtin1→Nq,entry_tuple_getitem→On,IsTup→Ow,slicePart_none→OS,assignInOrder_cons→Pb,args_tuple_getitem→Pd,wpS_lift→Pr,subscriptTail_builtinR→Sa,isBoolOf→Sf,gallopOf→Sm,lt_int→Uj,tupleItemsOf_→Ul,subscriptTail→Uo,assignInOrder_nil→Wh,entry_list_sort→Yo,Subscript_→Yt
open PyProof.Rows.F renaming plain_set_update_loop→Ic,entry_set_update_loop→Ld
open PyProof.Rows.IntsAre renaming int_at→Pa
open PyProof.Rows.IsTup renaming new→Wi
open PyProof.Rows.SortSt renaming mk'→Dh
open PySem renaming Value→Ac,wpAny_bind→Ad,Addr→Af,Shared→Ag,wpAny_pure→Am,wpAny→Ao,model→Au,Str→Ax,starEach→Bc,intKind→Bg,Program→Bm,tupleKeyHash→Br,Heap→Bs,Expr→By,Around→Bz,World→Cb,mainGlobals→Ci,Obj→Cq,compareOp→Dt,wpAny_newObj_type→Du,wpAny_field→Dx,wpAny_callSpecial?_slot→Dz,wpAny_holding→Eg,wpAny_call_entry→Ei,sizeLine_eq→Ev,binaryOp→Ex,wpAny_setField_rec→Fb,cLine→Fg,Pos→Fk,Stmt→Fl,Comprehension→Fn,SetTable→Fp,backTo→Fq,mem_of_lookup→Fw,FuncData→Fx,foldedSetIterable→Fy,wpAny_setState_of→Ga,bootBuiltins→Gc,wpAny_pyIter_list→Gk,Scope→Gp,wpAny_pyIter_tuple→Gu,assignEach→Gv,wpAny_seqItems→Hc,wpAny_rule→He,Builtin→Hs,codeAny_builtin→Hu,sysModules→Hy,wpAny_mono→Hz,wpAny_attempt→HT,wpAny_Call_Name_kw→Ie,IsPair→Im,NameKind→Ir,codeAny_mono→Jm,letOwnedTupleGo→Jt,wpAny_typeOf→Km,codeAny_call_builtin→Kn,wpAny_askSetting→Kq,Env→Ks,Sem→Kt,swappedStores→Ku,swapsWithSole→Kv,behindInMarks→Kw,codeAny→Kx,wpAny_passesOwn→La,sliceBounds→Lb,Model→Ll,pyNext→Ly,wpAny_setField→Mb,swapsWith→Me,ofAClassStatement→Mj,wpAny_storeSet_of→Mk,call_meets→Mn,rawInt→Mu,wpAny_forIn_list→Mw,getItem→Mx,wpAny_isInstance→Ni,wpAny_updateSeq_pair→Nu,wpAny_execs_nil→Nw,pickOrder→Od,pyIter→Of,BindsTo→Om,wpAny_call→Oo,IsTupleKey→Ot,recursionLimit→Oy,firstArgMember→OV,IsZip→OW,wpAny_newFunctionEnv_cells→Pj,IsPart→Pk,wpAny_of_eq→Pm,hashByValue→Po,wpAny_standAt→Pw,wpAny_sequenceKey→Qb,callerA→Qc,attributeBase→Qg,wpAny_onRaise→Qi,setSearchFrom→Qm,plainId_quiet→Qn,wpAny_comprehension_free→Qu,noFill_tuple_add→Re,checkBuiltinCall→Rg,codeAny_of_tree→Sh,wpAny_ite_split→Sk,Tok→Sr,tupleKind→Su,PassesOwn→Sv,cellsFrom→Sw,codeAny_call_function→Sx,wpAny_letGo→Sy,IsEnum→Tc,weight_type_call_type→Te,builtinLookup_eq_fast→Tf,wpAny_newTuple→Tp,isSubtype_stop→Tq,wpAny_runValue→Tt,isSubtype_type→Tu,repr_of_reads'→Tv,assignInOrder→Ue,CmpOp→Uf,bindL→Uh,bindC→Ui,seq_tuple_add→Uk,evalPart_none→Um,valueAt→Uq,standAt→Us,intKind_is→Uy,wpAny_setEntries_of→Va,wpAny_newList→Vb,bindName→Vd,setState→Ve,PyData→Vg,concat_meets→Vu,wpAny_assign_Name→Wg,wpAny_truthy_bool→Wj,slot_list_getitem→Wm,list_append→Wn,atKey→Wo,lastMarks→Wp,ClassData→Wq,noteFrame→Wr,setFlight→Ws,wpAny_pyIter_enum→Wu,searchCouldBeSeen→Wx,wpAny_pyIter_slot→Wz,wpAny_collect_seq→Xb,wpAny_eqBool_int→Xe,wpAny_execs_cons→Xg,unaryOp→Xh,Result→Xj,seqIndex_of→Xl,wpAny_pyIter_zip→Xr,argsOk→Xs,setAdd→Xv,check_set_init_1→Xw,GenState→Yd,bindArgs→Yf,wpAny_stack_any→Yi,wpAny_specialOf→Yk,typeLookup_type→Yl,wpAny_updateSeq→Ym,builtinsNs→Yq,wpAny_Name→Yr,typeIs_int→Yu,call→Yw,closureFor→Yx,setsByText→Za,Params→Zi,setItem→Zo,Keyword→Zs,seqItems?→Zu,IsEnumOut→Zv,Within→Aa0
open PySem.Around renaming under_plainId→Jd,frames_deeper→Tw,under_plain→Vr
open PySem.AutoSeq1 renaming wpAny_loadPart'→Gr
open PySem.Builtin.Frozenset renaming updateFrom→Ou,sizeOf→Qy,newClass→Zm
open PySem.Builtin.Getset_descriptor renaming descrCheckInstance→Rx,descrNameAndClass→Sb,descrGetter→Ut,descrGet→Vy
open PySem.Builtin.List renaming listTooLong→Lj,listLengthHint→OY,listExtendWith→OZ,listSameRef→Qz
open PySem.Builtin.ObjectAttr renaming bindTo→Qf,dataDescriptor?→Vx,getOf→Zz,find→Aa2
open PySem.Builtin.Slice renaming sliceAdjust→Gi,slicePlaces→Gj,sliceApplied→Ik,sliceFields→Pz,slicePartIndex→Ys
open PySem.Builtin.SmallTypes renaming nextOf→Eb,ownedTupleIsFree→Es,ownedTupleHandOut→Gq
open PySem.Builtin.Tuple renaming tupleExact→Fe,tupleItemsOf→Kp,tupleCompareSizes→Xk,tupleIsExact→Zl
open PySem.Calls renaming spliced_cons→Pe,Name_function_global→Pi,spliced_nil→Py,call_function_entry→Qp,callWith_builtin→Sd,evalArgs_plain→Tz
open PySem.Code renaming quiet_builtin→Pf
open PySem.F renaming called_set→Dn,slot_tuple_iterator_next→Il,slot_list_count→Jp,slot_dict_setdefault→Ke,slot_enumerate_next→Kg,args_tuple_add_2→Li,entry_tuple_add→Lq,slot_list_index→Lu,plainAttrs_dict→Lx,slot_tuple_add→Mm,slot_zip_next→Ob,args_tuple_iterator_next_1→Oq,type_dict_setdefault→Ov,entry_tuple_iterator_next→OU,excBase_ValueError→Pl,args_list_count_2→Qh,entry_list_count→Qs,slot_list_append→Ra,type_list_append→Rb,attr_ValueError→Rl,args_enumerate_next_1→Rm,entry_type_call→Rp,plain_list_iadd→Rq,slot_dict_items→Rr,plainAttrs_list→Ru,type_list_count→Rv,type_list_index→Rw,entry_enumerate_next→Sg,typeCall_set_1→Si,entry_set_init→Sj,plain_set_new→Td,slot_set_iter→Tg,args_list_append_2→Tx,entry_list_append→Up,slot_list_append→Vl,args_zip_next_1→Wt,entry_zip_next→Xq,slot_int_rmul→Yj
open PySem.Heap renaming get?_push_of_some→Ah,lt_size→Ba,get?_push_size→Be,get?_update_other→Di,size_push→En,SameBut→Fa,get?_update_self→Fz,get?_none_of_le→Jc,FlyingW→Og,MadeExcOf→Tn,IsTuple→Wa,IsList→Xp
open PySem.Heap.IsSliceOf renaming new→Vk
open PySem.Heap.SameBut renaming update→Hg,refl→Qj
open PySem.IsL renaming update→Xn
open PySem.MeetsSeq renaming list_index→Zt,EqGives→Aa6
open PySem.NameKind renaming free→Ix,cell→Zq
open PySem.Obj renaming mapSeq→Ey,mapFields→Uz,data_mapFields→Vn,putSet→Yz
open PySem.PyData renaming showable→Sn,leavesShortAll→Tk,showableAll→Vs,leavesShort→Vt,hasDictAll→Xc,depthAll→Yp,bulkAll→Zf,hasDict→Zg,shown→Aa3,depth→Aa4,bulk→Aa8
open PySem.SeqAt renaming list_countAt→Qt
open PySem.SeqAt.EqAt renaming bool_bool→Zk,same→Zr
open PySem.SetTable renaming insertAt→Bw,below→Cc,sizeAbove→Fd,grown→Hd,runEnd→Hj,insertAt_perm→Ia,fill→Ky,Probe→Mi,toList_insertAt→Qv,tooFull→Rj,laid→Uu,fits→Uv,has→Wb,layClean→Ww,slot→Zw
open PySem.SetTable.below renaming go→Wv
open PySem.SetTable.layClean renaming free→Ib
open PySem.SetTable.probe renaming go→Ki
open PySem.Shared renaming heap→Nh,TypeIs→Qo
open PySem.Str renaming ofString→Hl
open PySem.Value renaming ref→Dc,none→Dj,bool→Fv,type→Hr,int→Pu,str→Wf,isStrOf→Zn,builtin→Zp
open PySem.W renaming Frag→Ak,nsIn→Dw,kia_one→El,keepIn→Em,fnOf→Hk,exmOne→Jf,kitOne→Kl,callWith_K→Lm,findIn→Lz,codeIn→Ma,cellsFrom_some→Ml,hideAll→Nv,methodObj→Pv,kitx_list→Px,nsMap_none_of_in→Qr,instObj→Rz,lookIn→Tl,hideAll_get→Ud,mroIn→Ug,WalkO→Ur,mg_of→Vc,of_hideAll→Vh,kitx_tuple→Vi,codeRec_of→Vj,isNs_of_in→Vm,looks_findIn→Vw,specialIn→Wk,kitx_dict→Wl,plainGet→Xi,takesIn→Ye,OpenLaw→Yg,nsOkIn→Zd
open PySem.pickOrder renaming go→Wc
open Sum renaming inl→Iu,inr→Ry
open Sum.inl renaming inj→Ss
open True renaming intro→Ip
open _root_ renaming List→Ab,Nat→Ai,Int→Aj,Option→Al,Bool→Aq,Array→Aw,if_neg→Bk,if_pos→Bl,decide_eq_true_eq→Cs,of_decide_eq_true→Ct,decide_eq_true→Cu,decide_eq_false→Df,if_true→Dq,beq_self_eq_true→Ea,if_false→Ej,String→Ep,or_false→Ez,decide_eq_false_iff_not→Fi,False→Fm,beq_eq_false_iff_ne→Hx,decide_true→Jk,decide_false→Jq,True→Nr,beq_iff_eq→Op,Decidable→Ps,Unit→Rc,not_or→Sz,StateT→Vf,DecidableEq→Xf
noncomputable section
theorem om {p:Prop}(h:p:=by omega):p:=h
theorem kd {p:Prop}[Ps p](h:p:=by decide +kernel):p:=h
section
namespace _L
open PySem PySem.Spec PyProof.Rows
abbrev Key:=Sum Aj Ax
def bR:Key→Ac→Aq
 |.inl k,v=>Value.isInt k v
 |.inr x,v=>Zn x v
def IP (w:Cb):Key→Aj
 |.inl k=>hashInt k
 |.inr x=>hashStr w x
theorem xK:∀ {k:Key} {v:Ac},bR k v=true→(∃ i t,k=Iu i∧v=Pu i t)∨(∃ x t,k=Ry x∧v=Wf x t)
 |.inl i,v,h=>by
  obtain⟨t,e⟩:=Value.isInt_shape (k:=i) (v:=v) h;exact .inl ⟨i,t,rfl,e⟩
 |.inr x,v,h=>by
  obtain⟨t,e⟩:=Value.isStrOf_shape (x:=x) (v:=v) h;exact .inr ⟨x,t,rfl,e⟩
theorem YH (i:Aj)(t:Sr):bR (.inl i) (.int i t)=true:=by simp[bR,Value.isInt]
theorem YI (x:Ax)(t:Sr):bR (.inr x) (.str x t)=true:=by simp[bR,Zn]
theorem SN (a b:Aj):decide ((Iu a:Key)=Iu b)=(a == b):=by
 by_cases e:a=b
 ·subst e;simp
 ·have h:¬ (Iu a:Key)=Iu b:=fun q=>e (Ss q)
  rw[Df h];exact(Hx.mpr e).symm
theorem SR (a b:Ax):decide ((Ry a:Key)=Ry b)=decide (a=b):=by
 by_cases e:a=b
 ·subst e;simp
 ·have h:¬ (Ry a:Key)=Ry b:=fun q=>e (Sum.inr.inj q)
  rw[Df h,Df e]
theorem SO (a:Aj)(b:Ax):decide ((Iu a:Key)=Ry b)=false:=Df (fun q=>nomatch q)
theorem SQ (a:Ax)(b:Aj):decide ((Ry a:Key)=Iu b)=false:=Df (fun q=>nomatch q)
def xA (prog:Bm)(w:Cb):PySem.KeyKind prog w Key where
 is:=bR
 hash:=IP w
 inj:=fun v a b ha hb=>by
  rcases xK ha with⟨i,t,rfl,rfl⟩|⟨x,t,rfl,rfl⟩
  ·rcases xK hb with⟨j,u,rfl,e⟩|⟨y,u,rfl,e⟩
   ·injection e with e1 _;rw[e1]
   ·exact nomatch e
  ·rcases xK hb with⟨j,u,rfl,e⟩|⟨y,u,rfl,e⟩
   ·exact nomatch e
   ·injection e with e1 _;rw[e1]
 byValue:=fun k v h=>by
  rcases xK h with⟨i,t,rfl,rfl⟩|⟨x,t,rfl,rfl⟩ <;> rfl
 pyHash:=fun hv h=>by
  rcases xK hv with⟨i,t,rfl,rfl⟩|⟨x,t,rfl,rfl⟩
  ·exact wpAny_pyHash_int h
  ·exact wpAny_pyHash_str h
 eqBool:=fun hu hv h=>by
  rcases xK hu with⟨i,t,rfl,rfl⟩|⟨x,t,rfl,rfl⟩
  ·rcases xK hv with⟨j,u,rfl,rfl⟩|⟨y,u,rfl,rfl⟩
   ·rw[SN] at h;exact Xe h
   ·rw[SO] at h;exact SeqAt.EqAt.int_str i t y u _ _ _ _ h
  ·rcases xK hv with⟨j,u,rfl,rfl⟩|⟨y,u,rfl,rfl⟩
   ·rw[SQ] at h;exact SeqAt.EqAt.str_int x t j u _ _ _ _ h
   ·rw[SR] at h;exact wpAny_eqBool_str h
 «strs»:=fun k x t v h=>by
  rcases xK h with⟨i,u,rfl,e⟩|⟨y,u,rfl,e⟩
  ·exact nomatch e
  ·injection e with e1 _
   subst e1;cases v <;> rfl
theorem o4 (prog:Bm)(w:Cb)(i:Aj)(t:Sr):(xA prog w).is (.inl i) (.int i t)=true:=YH i t
theorem o6 (prog:Bm)(w:Cb)(x:Ax)(t:Sr):(xA prog w).is (.inr x) (.str x t)=true:=YI x t
end _L
namespace _L
open PySem PySem.Spec PyProof.Rows
inductive V where
 |non|bl (b:Aq)|int (i:Aj)|str (x:Ax)|byt (b:Aw UInt8)|flt (b:UInt64)|ref (a:Af)|ty (n:Ep)
 deriving Xf
def qK:V→Ac→Prop
 |.non,u=>u=Dj
 |.bl b,u=>u=Fv b
 |.int i,u=>∃ t,u=Pu i t
 |.str x,u=>∃ t,u=Wf x t
 |.byt b,u=>∃ t,u=Value.bytes b t
 |.flt b,u=>∃ t,u=Value.float b t
 |.ref a,u=>u=Dc a
 |.ty n,u=>u=Hr n
abbrev qL:Ab V→Ab Ac→Prop:=Paired qK
theorem qL.length {xs:Ab V}{us:Ab Ac}(r:qL xs us):xs.length=us.length:=Paired.length r
theorem qL.get:∀ {xs:Ab V} {us:Ab Ac} {i:Ai} {x:V},qL xs us→xs[i]? = Aa x→∃ u,us[i]? = Aa u∧qK x u
 |_,_,_,_,.nil,e=>by simp at e
 |_,_,0,_,.cons r _,e=>by simp at e;subst e;exact⟨_,rfl,r⟩
 |_,_,i+1,x,.cons _ t,e=>by
  obtain⟨u,h1,h2⟩:=qL.get (i:=i) (x:=x) t (by simpa using e)
  exact⟨u,by simpa using h1,h2⟩
theorem qL.set {x:V}{u:Ac}(r:qK x u):∀ {xs:Ab V} {us:Ab Ac} (i:Ai),qL xs us→qL (xs.set i x) (us.set i u)
 |_,_,_,.nil=>.nil
 |_,_,0,.cons _ t=>.cons r t
 |_,_,i+1,.cons q t=>.cons q (qL.set r i t)
theorem qL.append {xs ys:Ab V}{us ws:Ab Ac}(h:qL xs us)(s:qL ys ws):qL (xs++ys) (us++ws):=by
 induction h with
 |nil=>exact s
 |cons r t ih=>exact .cons r ih
theorem qL.take:∀ {xs:Ab V} {us:Ab Ac} (n:Ai),qL xs us→qL (xs.take n) (us.take n)
 |_,_,0,_=>.nil
 |_,_,_+1,.nil=>.nil
 |_,_,n+1,.cons r t=>.cons r (qL.take n t)
theorem qL.drop:∀ {xs:Ab V} {us:Ab Ac} (n:Ai),qL xs us→qL (xs.drop n) (us.drop n)
 |_,_,0,r=>r
 |_,_,_+1,.nil=>.nil
 |_,_,n+1,.cons _ t=>qL.drop n t
def bC:Al V→Al Ac→Prop
 |some v,Aa u=>qK v u
 |none,none=>Nr
 |_,_=>Fm
def KV {κ : Type}:Ab (κ × V)→Ab (κ × Ac)→Prop:=Paired fun (p:κ × V) (q:κ × Ac)=>p.1=q.1∧qK p.2 q.2
def kV:Key→V
 |.inl i=>.int i
 |.inr x=>.str x
inductive HO where
  |lst (xs:Ab V)
  |tup (xs:Ab V)
  |dK (kvs:Ab (Key × V))|dT (kvs:Ab (Ab Key × V))
  |set (S:Aj→Aq) (n:Ai)
  |ins (C dx:Af) (fs:Ab (Ax × V))
  |own (x:Af)
  |xd (fs:Ab (Ax × V))
  |met (f x:Af)
  |rng (lo hi:Aj)
  |frz (o:Cq) (u:HO)
  |tbl (ps:Aw Ac)
  |ext (φ : Bs→Prop)
abbrev Hp:=Af→Al HO
def upd (H:Hp)(a:Af)(o:HO):Hp:=fun b=>if b=a then Aa o else H b
theorem zD {H:Hp}{a:Af}{o:HO}:upd H a o a=Aa o:=by unfold upd;rw[Bl rfl]
theorem qP {H:Hp}{a b:Af}{o:HO}(h:b≠a):upd H a o b=H b:=by unfold upd;rw[Bk h]
theorem CN {H:Hp}{a b:Af}{o u:HO}(h:H a=Aa o)(h':H b=Aa u)(d:o≠u):a≠b:=by
 intro e;subst e;rw[h] at h';exact d (Cw h')
theorem zM {H:Hp}{a b:Af}{o:HO}(h:H a=Aa o)(h':H b=none):a≠b:=by
 intro e;subst e;rw[h] at h';cases h'
section
variable (P:Bm)(w:Cb)
def zV (H:Hp)(h:Bs)(a:Af):HO→Prop
 |.lst xs=>xs.length≤sizeLine∧∃ (its:Ab Ac) (n:Ai),qL xs its∧h.get? a=Aa { cls:=.type "list",data:=.seq its.toArray n }
 |.tup xs=>xs.length≤sizeLine∧∃ its:Ab Ac,qL xs its∧Ow h a its.toArray
 |.dK kvs=>kvs.length≤sizeLine∧(a == Hy)=false∧∃ vs,KV kvs vs∧h.DictOf (xA P w) a vs
 |.dT kvs=>kvs.length≤sizeLine∧(a == Hy)=false∧∃ xs:Ab (Ab Key × Af × Ac),
   Paired (fun (p:Ab Key × V) (q:Ab Key × Af × Ac)=>p.1=q.1∧H q.2.1=Aa (.tup (p.1.map kV))∧qK p.2 q.2.2) kvs xs ∧
   ∃ o es ep,h.get? a=Aa o∧o.ExactDict∧o.data=.dict es ep∧es.toList=xs.map (entryOfKey (Su (xA P w)))∧(xs.map (·.1)).Nodup
 |.set S n=>h.SetOf (Bg P w) a S n
 |.ins C dx fs=>H dx=Aa (.own a)∧fs.length≤1000∧dx≠a∧h.get? a=Aa (Rz C dx) ∧
   ∃ mA,h.Ns1 dx mA∧(∀ f,bC (fs.lookup f) (mA f))∧Aa0 mA (fs.map (·.1))
 |.own _=>∃ o,h.get? a=Aa o
 |.xd fs=>∃ mA,h.Ns1 a mA∧∀ f,bC (fs.lookup f) (mA f)
 |.rng lo hi=>∃ t u v,h.get? a=Aa { cls:=.type "range",data:=.fields #[.int lo t,.int hi u,.int 1 v] }
 |.frz o u=>h.get? a=Aa o∧zV H h a u
 |.tbl ps=>h.get? a=Aa { cls:=.none,data:=.fields ps }
 |.met f x=>h.get? a=Aa (Pv (.ref f) (.ref x))
 |.ext φ => φ h∧(∃ o,h.get? a=Aa o)∧∀ h1 h2:Bs,φ h1→(∀ o,h1.get? a=Aa o→h2.get? a=Aa o)→φ h2
def HOk (H:Hp)(h:Bs):Prop:=∀ a o,H a=Aa o→zV P w H h a o
end
section
variable {P:Bm}{w:Cb}{H H':Hp}{h h':Bs}{a:Af}{o:HO}
theorem zV.lt (x:zV P w H h a o):a<h.objs.size:=by
 cases o with
 |lst xs=>obtain⟨_,_,_,_,e⟩:=x;exact Ba e
 |tup xs=>obtain⟨_,_,_,p⟩:=x;exact p.lt
 |dK kvs=>obtain⟨_,_,_,_,o,_,_,e,_⟩:=x;exact Ba e
 |dT kvs=>obtain⟨_,_,_,_,o,_,_,e,_⟩:=x;exact Ba e
 |set S n=>obtain⟨o,_,_,_,e,_⟩:=x;exact Ba e
 |ins C dx fs=>obtain⟨_,_,_,e,_⟩:=x;exact Ba e
 |own y=>obtain⟨_,e⟩:=x;exact Ba e
 |xd fs=>obtain⟨_,⟨_,_,_,e,_⟩,_⟩:=x;exact Ba e
 |rng lo hi=>obtain⟨_,_,_,e⟩:=x;exact Ba e
 |frz ob u=>obtain⟨e,_⟩:=x;exact Ba e
 |tbl ps=>exact Ba (show h.get? a=Aa _ from x)
 |met f y=>exact Ba (show h.get? a=Aa _ from x)
 |ext φ => obtain⟨_,⟨_,e⟩,_⟩:=x;exact Ba e
theorem Paired.mapP {α β:Type}{F G:α→β→Prop}{l₁:Ab α}{l₂:Ab β}(h:Paired F l₁ l₂)(f:∀ a b,F a b→G a b):Paired G l₁ l₂:=by
 induction h with
 |nil=>exact .nil
 |cons r t ih=>exact .cons (f _ _ r) ih
theorem zV.stay (x:zV P w H h a o)(k:∀ b u,(b=a∨H b=Aa (.own a))→h.get? b=Aa u→h'.get? b=Aa u)
  (ho:∀ b,H b=Aa (.own a)→H' b=Aa (.own a)) (ht:∀ b xs,H b=Aa (.tup xs)→H' b=Aa (.tup xs)):zV P w H' h' a o:=by
 induction o with
 |lst xs=>obtain⟨z,its,n,r,e⟩:=x;exact⟨z,its,n,r,k _ _ (.inl rfl) e⟩
 |tup xs=>obtain⟨z,its,r,ob,e,c⟩:=x;exact⟨z,its,r,ob,k _ _ (.inl rfl) e,c⟩
 |dK kvs=>obtain⟨z,y,vs,r,ob,es,ep,e,c⟩:=x;exact⟨z,y,vs,r,ob,es,ep,k _ _ (.inl rfl) e,c⟩
 |dT kvs =>
  obtain⟨z,y,xs,r,ob,es,ep,e,c⟩:=x;exact⟨z,y,xs,Paired.mapP r fun p q z=>⟨z.1,ht _ _ z.2.1,z.2.2⟩,ob,es,ep,k _ _ (.inl rfl) e,c⟩
 |set S n=>obtain⟨ob,es,ep,t,e,c⟩:=x;exact⟨ob,es,ep,t,k _ _ (.inl rfl) e,c⟩
 |ins C dx fs =>
  obtain⟨d,z,ne,e,mA,⟨od,es,ep,e2,c⟩,r⟩:=x;exact⟨ho _ d,z,ne,k _ _ (.inl rfl) e,mA,⟨od,es,ep,k _ _ (.inr d) e2,c⟩,r⟩
 |own y=>obtain⟨ob,e⟩:=x;exact⟨ob,k _ _ (.inl rfl) e⟩
 |xd fs=>obtain⟨mA,⟨od,es,ep,e,c⟩,r⟩:=x;exact⟨mA,⟨od,es,ep,k _ _ (.inl rfl) e,c⟩,r⟩
 |rng lo hi=>obtain⟨t,u,v,e⟩:=x;exact⟨t,u,v,k _ _ (.inl rfl) e⟩
 |frz ob u ih=>obtain⟨e,q⟩:=x;exact⟨k _ _ (.inl rfl) e,ih q⟩
 |tbl ps =>
  have e:h.get? a=Aa { cls:=.none,data:=.fields ps }:=x;show h'.get? a=Aa { cls:=.none,data:=.fields ps };exact k a _ (.inl rfl) e
 |met f y =>
  have e:h.get? a=Aa (Pv (.ref f) (.ref y)):=x;show h'.get? a=Aa (Pv (.ref f) (.ref y));exact k a _ (.inl rfl) e
 |ext φ => obtain⟨p,⟨o,e⟩,st⟩:=x;exact⟨st _ _ p fun o q=>k _ _ (.inl rfl) q,⟨o,k _ _ (.inl rfl) e⟩,st⟩
theorem HOk.lt (x:HOk P w H h)(e:H a=Aa o):a<h.objs.size:=(x a o e).lt
theorem HOk.fresh (x:HOk P w H h)(e:h.objs.size≤a):H a=none:=by
 cases q:H a with
 |none=>rfl
 |some u=>exact absurd (Bt (x.lt q) e) (Eu _)
theorem HOk.kept (x:HOk P w H h)(k:∀ b u,h.get? b=Aa u→h'.get? b=Aa u):HOk P w H h':=fun a o e =>
 (x a o e).stay (fun b u _ q=>k b u q) (fun _ q=>q) fun _ _ q=>q
theorem HOk.laid (x:HOk P w H h)(k:∀ b u,h.get? b=Aa u→h'.get? b=Aa u)(hp:h.objs.size≤a)(new:zV P w (upd H a o) h' a o):HOk P w (upd H a o) h':=fun b u e=>by
 have hn:=x.fresh hp;by_cases hb:b=a
 ·subst hb;rw[zD] at e;cases e;exact new
 ·rw[qP hb] at e
  exact(x b u e).stay (fun c v _ q=>k c v q) (fun c q=>by rw[qP (zM q hn)];exact q) fun c xs q=>by rw[qP (zM q hn)];exact q
end
def Rd (H:Hp)(a:Af)(u:HO):Prop:=H a=Aa u∨∃ o,H a=Aa (.frz o u)
theorem Rd.of {H:Hp}{a:Af}{u:HO}(h:H a=Aa u):Rd H a u:=.inl h
theorem Rd.ok {P:Bm}{w:Cb}{H:Hp}{h:Bs}{a:Af}{u:HO}(r:Rd H a u)(x:HOk P w H h):zV P w H h a u:=by
 rcases r with r|⟨o,r⟩
 ·exact x a u r
 ·obtain⟨_,q⟩:=x a _ r
  exact q
def Mut:Al HO→Prop
 |some (.lst _)=>Nr
 |some (.dK _)=>Nr
 |some (.dT _)=>Nr
 |some (.set _ _)=>Nr
 |some (.ins _ _ _)=>Nr
 |some (.ext _)=>Nr
 |_=>Fm
section
variable {P:Bm}{w:Cb}{H:Hp}{h h':Bs}{x e:Af}{o':HO}
theorem HOk.write (ok:HOk P w H h)(mu:Mut (H x))(he:e=x∨H e=Aa (.own x))(k:∀ b u,b≠e→h.get? b=Aa u→h'.get? b=Aa u)(heo:∃ u,h'.get? e=Aa u)
  (new:zV P w (upd H x o') h' x o'):HOk P w (upd H x o') h':=fun b u q=>by
 have nown:∀ c y,H c=Aa (.own y)→c≠x:=fun c y r z=>by subst z;rw[r] at mu;exact mu
 have ntup:∀ c xs,H c=Aa (.tup xs)→c≠x:=fun c xs r z=>by subst z;rw[r] at mu;exact mu
 by_cases hb:b=x
 ·subst hb;rw[zD] at q;cases q;exact new
 ·rw[qP hb] at q
  by_cases hbe:b=e
  ·have q':H b=Aa (.own x):=by
    rcases he with z|z
    ·exact absurd (hbe.trans z) hb
    ·rw[hbe];exact z
   rw[q] at q';cases q';obtain⟨v,hv⟩:=heo;exact⟨v,by rw[hbe];exact hv⟩
  ·refine(ok b u q).stay (fun c v hc r=>k c v ?_ r) (fun c r=>by rw[qP (nown c b r)];exact r) fun c xs r=>by rw[qP (ntup c xs r)];exact r
   rcases hc with rfl|hc
   ·exact hbe
   ·rintro rfl
    rcases he with z|z
    ·exact nown c b hc z
    ·rw[hc] at z;cases z;exact hb rfl
end
structure Un (fs ex:Ab Af)(H H':Hp)(h h':Bs):Prop where
 keep:∀ b o,h.get? b=Aa o→H b=none→b ∉ fs→b ∉ ex→h'.get? b=Aa o
 slot:∀ b o,h.get? b=Aa o→H b=none→b∈fs→b ∉ ex→∃ sl,h'.get? b=Aa { o with slots:=sl }
 free:∀ b o,h.get? b=Aa o→H b=none→b ∉ ex→H' b=none
 there:∀ b o,h.get? b=Aa o→b ∉ ex→∃ o',h'.get? b=Aa o'
 tups:∀ b xs,H b=Aa (.tup xs)→H' b=Aa (.tup xs)
 frzs:∀ b o u,H b=Aa (.frz o u)→H' b=Aa (.frz o u)
 tbls:∀ b ps,H b=Aa (.tbl ps)→∃ more,H' b=Aa (.tbl (ps++more))
section
variable {fs fs' ex ex':Ab Af}{H H1 H2:Hp}{h h1 h2 h':Bs}{a x e:Af}{o:HO}
theorem Un.any (u:Un fs ex H H1 h h1){b:Af}{ob:Cq}(q:h.get? b=Aa ob)(n:H b=none)(hx:b ∉ ex):∃ sl,h1.get? b=Aa { ob with slots:=sl }:=by
 by_cases hb:b∈fs
 ·exact u.slot b ob q n hb hx
 ·exact⟨ob.slots,u.keep b ob q n hb hx⟩
theorem Un.kept (k:∀ b u,h.get? b=Aa u→h'.get? b=Aa u):Un fs ex H H h h':=
 ⟨fun b ob q _ _ _=>k b ob q,fun b ob q _ _ _=>⟨ob.slots,k b ob q⟩,fun _ _ _ n _=>n,fun b ob q _=>⟨ob,k b ob q⟩,fun _ _ q=>q,fun _ _ _ q=>q,fun _ ps q=>⟨#[],by rw[q];simp⟩⟩
theorem Un.refl:Un fs ex H H h h:=Un.kept fun _ _ q=>q
theorem Un.laid (k:∀ b u,h.get? b=Aa u→h'.get? b=Aa u)(hp:h.objs.size≤a)(hn:H a=none):Un fs ex H (upd H a o) h h' where
 keep:=fun b u q _ _ _=>k b u q
 slot:=fun b u q _ _ _=>⟨u.slots,k b u q⟩
 free:=fun b u q n _=>by rw[qP (Cy (Bt (Ba q) hp))];exact n
 there:=fun b u q _=>⟨u,k b u q⟩
 tups:=fun b xs q=>by rw[qP (zM q hn)];exact q
 frzs:=fun b u xs q=>by rw[qP (zM q hn)];exact q
 tbls:=fun b ps q=>⟨#[],by rw[qP (zM q hn),q];simp⟩
theorem Un.write (mu:Mut (H x))(he:e=x∨H e=Aa (.own x))(k:∀ b u,b≠e→h.get? b=Aa u→h'.get? b=Aa u)(heo:∃ u,h'.get? e=Aa u):Un fs ex H (upd H x o) h h':=by
 have hx:∀ b,H b=none→b≠x:=fun b n z=>by subst z;rw[n] at mu;exact mu
 have hb:∀ b,H b=none→b≠e:=fun b n z=>by
  subst z;rcases he with r|r
  ·exact hx b n r
  ·rw[n] at r;cases r
 have hm:∀ b u,H b=Aa u→¬ Mut (Aa u)→b≠x:=fun b u q nm z=>by subst z;rw[q] at mu;exact nm mu
 refine⟨fun b u q n _ _=>k b u (hb b n) q,fun b u q n _ _=>⟨u.slots,k b u (hb b n) q⟩,fun b u q n _=>by rw[qP (hx b n)];exact n,fun b u q _=>?_,
  fun b xs q=>by rw[qP (hm b _ q fun z=>z)];exact q,fun b u xs q=>by rw[qP (hm b _ q fun z=>z)];exact q,fun b ps q=>⟨#[],by rw[qP (hm b _ q fun z=>z),q];simp⟩⟩
 by_cases hbe:b=e
 ·subst hbe;exact heo
 ·exact⟨u,k b u hbe q⟩
end
def trk (h:Bs)(H:Hp):Ab Af:=(Do h.objs.size).filter fun a=>(H a).isSome
def bN (h:Bs)(H:Hp):Bs:=Nv h (trk h H)
theorem Y9 (h:Bs)(H:Hp):(bN h H).objs.size=h.objs.size:=PySem.W.hideAll_size _ _
theorem KE {h:Bs}{H:Hp}{b:Af}{o:Cq}(e:h.get? b=Aa o)(n:H b=none):(bN h H).get? b=Aa o:=
 Ud _ e fun hm=>by
  have q:(H b).isSome=true:=(Yc.mp hm).2;rw[n] at q;simp at q
theorem TW {h:Bs}{H:Hp}{b:Af}{o:Cq}(e:(bN h H).get? b=Aa o):h.get? b=Aa o∧H b=none:=by
 have e':h.get? b=Aa o:=Vh (trk h H) e;refine⟨e',?_⟩;cases q:H b with
 |none=>rfl
 |some x =>
  have hm:b∈trk h H:=Yc.mpr ⟨Et.mpr (Ba e'),by simp[q]⟩
  have z:(bN h H).get? b=none:=PySem.W.hideAll_none (trk h H) hm;rw[z] at e;cases e
end _L
namespace _L
open PySem PySem.Spec PyProof.Rows
structure Mod (K:Ak)(mg:Ax→Al Ac)(base:Bs):Prop where
 kin:K.In base
 glob:base.Ns Ci mg
 blt:∃ mb,base.Ns Yq mb∧∀ x:Ax,x ≠ "__name__" → mb x=Gc x
 nolimit:base.NoLimit
structure Cx where
 prog:Bm
 w:Cb
 K:Ak
 mg:Ax→Al Ac
 base:Bs
 A:Bz
 N:Ab Ax
 s₀:Ag
 H₀:Hp
 env:Ks
 outer:Ab Ks
 stack:Ab Ks
 ex:Ab Af
 fn:Ax→Aq
 calm:Aq
 pn:Ab (Af × Cq)
 xe:Ac→Ag→Prop
def frs (l:Ab Ks):Ab Af:=l.filterMap (·.frame)
abbrev Cx.fs (X:Cx):Ab Af:=frs X.outer
def Vis (sc:Gp)(x:Ax):Prop:=sc.names.lookup x=Aa .local ∨ sc.names.lookup x=Aa .cell∨sc.names.lookup x=Aa .free
def Loc (sc:Gp)(x:Ax):Prop:=sc.names.lookup x=Aa .local ∨ sc.names.lookup x=Aa .cell
def LE (env:Ks)(h:Bs)(m:Ax→Al Ac)(x:Ax)(u:Ac):Prop:=
 (env.kindOf x=Aa .local ∧ m x=Aa u)∨((env.kindOf x=Aa .cell∨env.kindOf x=Aa .free)∧∃ c,env.cells.lookup x=Aa c∧h.IsCell c (Aa u))
structure Cx.Ok (X:Cx):Prop where
 mod:Mod X.K X.mg X.base
 kind:X.env.scope.kind=.function
 glob:X.env.globals=Ci
 blt:X.env.builtins=Yq
 above:X.s₀.heap.objs.size≤X.env.locals
 inj:∀ x y c,X.env.cells.lookup x=Aa c→X.env.cells.lookup y=Aa c→x=y
 has:∀ x,(X.env.kindOf x=Aa .cell∨X.env.kindOf x=Aa .free)→∃ c,X.env.cells.lookup x=Aa c
 cab:∀ x c,X.fn x=true→X.env.cells.lookup x=Aa c→X.s₀.heap.objs.size≤c
 hd:X.calm=true→X.A.handled=none
 frames:X.A.frames=Aa X.stack
 stk:X.stack=X.outer∨(X.stack=X.env::X.outer∧X.env.frame=Aa X.env.locals)
 exf:∀ b∈X.ex,b≠X.env.locals∧∀ x c,X.env.cells.lookup x=Aa c→c≠b
 bs:∀ b o,X.base.get? b=Aa o→X.s₀.heap.get? b=Aa o∧X.H₀ b=none
 bsz:X.base.objs.size≤X.s₀.heap.objs.size
 noex:∀ b o,X.base.get? b=Aa o→b ∉ X.ex
 exfs:∀ b∈X.ex,b ∉ X.fs
 funs:X.s₀.heap.FunFrames X.base X.outer
 frf:∀ b∈X.fs,X.H₀ b=none
structure Inv (X:Cx)(pins:Ab (Af × Cq))(σ : Ab (Al V))(H:Hp)(s:Ag):Prop where
 ok:X.Ok
 os:s.os=X.s₀.os
 bare:Ms s.gens
 base:Un X.fs X.ex X.H₀ H X.s₀.heap s.heap
 loc:∃ m,s.heap.Ns X.env.locals m∧∀ (i:Ai) (x:Ax) (v:V),X.N[i]? = Aa x→σ[i]? = Aa (Aa v)→Vis X.env.scope x→∃ u,qK v u∧LE X.env s.heap m x u
 cell:∀ x c,X.env.cells.lookup x=Aa c→∃ v,s.heap.IsCell c v
 free:H X.env.locals=none
 freeC:∀ x c,X.env.cells.lookup x=Aa c→H c=none
 pin:∀ p∈X.pn++pins,s.heap.get? p.1=Aa p.2∧H p.1=none∧p.1≠X.env.locals∧p.1 ∉ X.fs∧∀ v,p.2.data≠.cell v
 hok:HOk X.prog X.w H s.heap
 len:σ.length=X.N.length
section
variable {X:Cx}{pins:Ab (Af × Cq)}{σ : Ab (Al V)}{H H':Hp}{s:Ag}{h':Bs}
theorem Cx.Ok.nofr (ok:X.Ok){b:Af}{o:Cq}(e:X.base.get? b=Aa o):b ∉ X.fs:=fun hb=>by
 have:=(ok.funs.mem hb).1;rw[e] at this;cases this
theorem Inv.bs (I:Inv X pins σ H s):∀ b o,X.base.get? b=Aa o→s.heap.get? b=Aa o∧H b=none:=fun b o e =>
 ⟨I.base.keep b o (I.ok.bs b o e).1 (I.ok.bs b o e).2 (I.ok.nofr e) (I.ok.noex b o e),I.base.free b o (I.ok.bs b o e).1 (I.ok.bs b o e).2 (I.ok.noex b o e)⟩
theorem Inv.bk (I:Inv X pins σ H s):∀ b o,X.base.get? b=Aa o→s.heap.get? b=Aa o:=fun b o e=>(I.bs b o e).1
theorem Inv.mod (I:Inv X pins σ H s):Mod X.K X.mg X.base:=I.ok.mod
theorem Inv.kIn (I:Inv X pins σ H s):X.K.In s.heap:=I.ok.mod.kin.keeps I.bk
theorem Inv.nolimit (I:Inv X pins σ H s):s.heap.NoLimit:=I.ok.mod.nolimit.keeps I.bk
theorem Inv.lt (I:Inv X pins σ H s):X.env.locals<s.heap.objs.size:=let ⟨_,hn,_⟩:=I.loc;hn.lt
theorem Inv.sz (I:Inv X pins σ H s):X.s₀.heap.objs.size≤s.heap.objs.size:=Ee I.ok.above (Lo I.lt)
theorem Inv.nofs (I:Inv X pins σ H s){a:Af}(h:s.heap.objs.size≤a):a ∉ X.fs:=fun hb=>by
 obtain⟨_,o,ho,_⟩:=I.ok.funs.mem hb;exact absurd (Bt (Ba ho) (Ee I.sz h)) (Eu _)
theorem Inv.cne (I:Inv X pins σ H s):∀ x c,X.env.cells.lookup x=Aa c→c≠X.env.locals:=fun x c e z=>by
 obtain⟨v,o,ho,hd⟩:=I.cell x c e;obtain⟨m,⟨o',es,ep,ho',hd',_⟩,_⟩:=I.loc;rw[z,ho'] at ho;cases ho;rw[hd'] at hd;cases hd
theorem Inv.funs (I:Inv X pins σ H s):s.heap.FunFrames X.base X.outer:=by
 have all:∀ (l:Ab Ks),(∀ b∈frs l,b∈X.fs)→X.s₀.heap.FunFrames X.base l→s.heap.FunFrames X.base l:=by
  intro l
  induction l with
  |nil=>intro _ _;trivial
  |cons env r ih =>
   intro hs hl;obtain⟨hk,⟨L,o,hf,hn,ho,hd⟩,hr⟩:=hl;have hL:L∈X.fs:=hs L (by unfold frs;rw[Gg,hf];exact Dg)
   obtain⟨sl,e⟩:=I.base.slot L o ho (I.ok.frf L hL) hL fun z=>I.ok.exfs L z hL;exact⟨hk,⟨L,_,hf,hn,e,hd⟩,ih (fun b hb=>hs b (by unfold frs;rw[Gg,hf];exact Bx _ hb)) hr⟩
 exact all X.outer (fun _ hb=>hb) I.ok.funs
theorem Inv.stack (I:Inv X pins σ H s):s.heap.FunFrames X.base X.stack:=by
 rcases I.ok.stk with e|⟨e,hf⟩
 ·rw[e];exact I.funs
 ·rw[e]
  obtain⟨m,hn,_⟩:=I.loc;refine .cons (by rw[I.ok.kind];decide) hf hn ?_ I.funs
  exact Jc (Ee I.ok.bsz I.ok.above)
theorem Inv.stkSub (I:Inv X pins σ H s):∀ b∈frs X.stack,b∈X.env.locals::X.fs:=fun b hb=>by
 rcases I.ok.stk with e|⟨e,hf⟩
 ·rw[e] at hb;exact Bx _ hb
 ·rw[e] at hb
  unfold frs at hb;rw[Gg,hf] at hb;exact hb
theorem Inv.stkFree (I:Inv X pins σ H s):∀ b∈frs X.stack,H b=none:=fun b hb=>by
 rcases Av.mp (I.stkSub b hb) with e|hb
 ·rw[e];exact I.free
 ·obtain⟨_,o,ho,_⟩:=I.ok.funs.mem hb
  exact I.base.free b o ho (I.ok.frf b hb) fun z=>I.ok.exfs b z hb
theorem Inv.step {g':Aw Yd}{t':Ai}{d':Drawn}{ch:Ab Af}(I:Inv X pins σ H s)
  (hch:∀ b∈ch,(b∈X.ex∨X.s₀.heap.objs.size≤b)∧b≠X.env.locals∧(∀ x c,X.env.cells.lookup x=Aa c→c≠b)∧∀ p∈X.pn++pins,p.1≠b)
  (keep:∀ b o,b≠X.env.locals→b ∉ X.fs→b ∉ ch→s.heap.get? b=Aa o→H b=none→h'.get? b=Aa o)
  (slot:∀ b o,b≠X.env.locals→b∈X.fs→b ∉ ch→s.heap.get? b=Aa o→H b=none→∃ sl,h'.get? b=Aa { o with slots:=sl }) (free:∀ b o,b ∉ ch→s.heap.get? b=Aa o→H b=none→H' b=none)
  (there:∀ b o,b ∉ ch→s.heap.get? b=Aa o→∃ o',h'.get? b=Aa o')
  (tups:∀ b xs,H b=Aa (.tup xs)→H' b=Aa (.tup xs)) (frzs:∀ b o u,H b=Aa (.frz o u)→H' b=Aa (.frz o u)) (tbls:∀ b ps,H b=Aa (.tbl ps)→∃ more,H' b=Aa (.tbl (ps++more)))
  (ns:∀ m,s.heap.Ns X.env.locals m→h'.Ns X.env.locals m) (hok:HOk X.prog X.w H' h') (hg:Ms g') :
  Inv X pins σ H' { s with heap:=h',gens:=g',drawn:=d',toks:=t' }:=by
 have neL:∀ b o,X.s₀.heap.get? b=Aa o→b≠X.env.locals:=fun b o e=>Cy (Bt (Ba e) I.ok.above);have neC:∀ b o,X.s₀.heap.get? b=Aa o→b ∉ X.ex→b ∉ ch:=fun b o e hx hb=>by
  rcases (hch b hb).1 with z|z
  ·exact hx z
  ·exact absurd (Bt (Ba e) z) (Eu _)
 have cellK:∀ x c,X.env.cells.lookup x=Aa c→∀ v,s.heap.IsCell c v→h'.IsCell c v:=fun x c e v ⟨o,ho,hd⟩=>by
  have nch:c ∉ ch:=fun z=>(hch c z).2.2.1 x c e rfl;by_cases hc:c∈X.fs
  ·obtain⟨sl,q⟩:=slot c o (I.cne x c e) hc nch ho (I.freeC x c e)
   exact⟨_,q,hd⟩
  ·exact⟨o,keep c o (I.cne x c e) hc nch ho (I.freeC x c e),hd⟩
 refine⟨I.ok,I.os,hg,⟨fun b o e n hb hx=>?_,fun b o e n hb hx=>?_,fun b o e n hx=>?_,fun b o e hx=>?_,fun b xs e=>tups b xs (I.base.tups b xs e),fun b o xs e=>frzs b o xs (I.base.frzs b o xs e),fun b ps e=>?_⟩,?_,fun x c e=>?_,?_,fun x c e=>?_,fun p hp=>?_,hok,I.len⟩
 ·exact keep b o (neL b o e) hb (neC b o e hx) (I.base.keep b o e n hb hx) (I.base.free b o e n hx)
 ·obtain⟨sl,e1⟩:=I.base.slot b o e n hb hx
  obtain⟨sl',e2⟩:=slot b _ (neL b o e) hb (neC b o e hx) e1 (I.base.free b o e n hx);exact⟨sl',e2⟩
 ·obtain⟨o',e1⟩:=I.base.there b o e hx
  exact free b o' (neC b o e hx) e1 (I.base.free b o e n hx)
 ·obtain⟨o',e1⟩:=I.base.there b o e hx
  exact there b o' (neC b o e hx) e1
 ·obtain⟨m1,e1⟩:=I.base.tbls b ps e
  obtain⟨m2,e2⟩:=tbls b _ e1;exact⟨m1++m2,by rw[e2,Array.append_assoc]⟩
 ·obtain⟨m,hn,hl⟩:=I.loc
  refine⟨m,ns m hn,fun i x v e1 e2 e3=>?_⟩;obtain⟨u,r,l⟩:=hl i x v e1 e2 e3;refine⟨u,r,?_⟩;rcases l with l|⟨k,c,e,z⟩
  ·exact .inl l
  ·exact .inr ⟨k,c,e,cellK x c e _ z⟩
 ·obtain⟨v,z⟩:=I.cell x c e
  exact⟨v,cellK x c e v z⟩
 ·obtain⟨m,⟨o,_,_,ho,_⟩,_⟩:=I.loc
  exact free _ o (fun z=>(hch _ z).2.1 rfl) ho I.free
 ·obtain⟨v,o,ho,hd⟩:=I.cell x c e
  exact free c o (fun z=>(hch c z).2.2.1 x c e rfl) ho (I.freeC x c e)
 ·obtain⟨e,n,ne,nf,d⟩:=I.pin p hp
  have nch:p.1 ∉ ch:=fun z=>(hch p.1 z).2.2.2 p hp rfl;exact⟨keep p.1 p.2 ne nf nch e n,free p.1 p.2 nch e n,ne,nf,d⟩
theorem Inv.un {t':Ai}(I:Inv X pins σ H s)(u:Un X.fs [] H H' s.heap h')(hok:HOk X.prog X.w H' h'):Inv X pins σ H' { s with heap:=h',toks:=t' }:=by
 obtain⟨m,⟨o,es,ep,ho,r⟩,_⟩:=id I.loc;obtain⟨sl,hL⟩:=u.any ho I.free (by simp)
 exact I.step (g':=s.gens) (d':=s.drawn) (ch:=[]) (fun _ z=>nomatch z) (fun b o _ hb _ e n=>u.keep b o e n hb (by simp)) (fun b o _ hb _ e n=>u.slot b o e n hb (by simp)) (fun b o _ e n=>u.free b o e n (by simp)) (fun b o _ e=>u.there b o e (by simp)) u.tups u.frzs u.tbls (fun m' hm=>by
  obtain⟨o',es',ep',ho',r'⟩:=hm;rw[ho] at ho';cases ho';exact⟨_,es',ep',hL,r'⟩) hok I.bare
theorem Inv.call {g':Aw Yd}{t':Ai}{d':Drawn}{ch:Ab Af}(I:Inv X pins σ H s)(u:Un (frs X.stack) ch H H' s.heap h')(hok:HOk X.prog X.w H' h')(hg:Ms g')
  (hch:∀ b∈ch,(b∈X.ex∨X.s₀.heap.objs.size≤b)∧b≠X.env.locals∧(∀ x c,X.env.cells.lookup x=Aa c→c≠b)∧∀ p∈X.pn++pins,p.1≠b) :
  Inv X pins σ H' { s with heap:=h',gens:=g',drawn:=d',toks:=t' }:=by
 obtain⟨m,⟨o,es,ep,ho,r⟩,_⟩:=id I.loc;obtain⟨sl,hL⟩:=u.any ho I.free fun z=>(hch _ z).2.1 rfl;exact I.step (ch:=ch) hch (fun b o hL hb hc e n=>u.keep b o e n (fun z=>(Av.mp (I.stkSub b z)).elim hL hb) hc) (fun b o _ _ hc e n=>u.any e n hc) (fun b o hc e n=>u.free b o e n hc) (fun b o hc e=>u.there b o e hc) u.tups u.frzs u.tbls (fun m' hm=>by
  obtain⟨o',es',ep',ho',r'⟩:=hm;rw[ho] at ho';cases ho';exact⟨_,es',ep',hL,r'⟩) hok hg
theorem Inv.turned {t':Ai}{it:Af}(I:Inv X pins σ H s)(k:∀ b o,b≠it→s.heap.get? b=Aa o→h'.get? b=Aa o)(hn:H it=none)(hL:it≠X.env.locals)
  (h1:it∈X.ex∨X.s₀.heap.objs.size≤it) (h2:∀ x c,X.env.cells.lookup x=Aa c→c≠it) (h3:∀ p∈X.pn++pins,p.1≠it):Inv X pins σ H { s with heap:=h',toks:=t' }:=by
 have nit:∀ b u,H b=Aa u→b≠it:=fun b u e z=>by rw[z,hn] at e;cases e
 refine I.step (g':=s.gens) (d':=s.drawn) (ch:=[it]) (fun b hb=>?_) (fun b o _ _ hc e _=>k b o (fun z=>hc (by simp[z])) e) (fun b o _ _ hc e _=>⟨o.slots,k b o (fun z=>hc (by simp[z])) e⟩) (fun _ _ _ _ n=>n)
  (fun b o hc e=>⟨o,k b o (fun z=>hc (by simp[z])) e⟩) (fun _ _ e=>e) (fun _ _ _ e=>e) (fun b ps e=>⟨#[],by rw[e];simp⟩) (fun m hm=>?_) (fun b u e=>?_) I.bare
 ·have e:b=it:=by simpa using hb
  subst e;exact⟨h1,hL,h2,h3⟩
 ·obtain⟨o,es,ep,ho,r⟩:=hm
  exact⟨o,es,ep,k _ o (Ho hL) ho,r⟩
 ·refine(I.hok b u e).stay (fun c v hc q=>k c v ?_ q) (fun _ q=>q) fun _ _ q=>q
  rcases hc with z|z
  ·rw[z];exact nit b u e
  ·exact nit c _ z
theorem Inv.tok (I:Inv X pins σ H s)(t:Ai):Inv X pins σ H { s with toks:=t }:=I.un (h':=s.heap) (t':=t) Un.refl I.hok
theorem Inv.kept {t':Ai}(I:Inv X pins σ H s)(k:∀ b u,s.heap.get? b=Aa u→h'.get? b=Aa u):Inv X pins σ H { s with heap:=h',toks:=t' }:=I.un (Un.kept k) (I.hok.kept k)
theorem Inv.laid {a:Af}{o:HO}{t':Ai}(I:Inv X pins σ H s)(k:∀ b u,s.heap.get? b=Aa u→h'.get? b=Aa u)(hp:s.heap.objs.size≤a)(new:zV X.prog X.w (upd H a o) h' a o) :
  Inv X pins σ (upd H a o) { s with heap:=h',toks:=t' }:=I.un (Un.laid k hp (I.hok.fresh hp)) (I.hok.laid k hp new)
theorem Inv.write {x e:Af}{o:HO}{t':Ai}(I:Inv X pins σ H s)(mu:Mut (H x))(he:e=x∨H e=Aa (.own x))(k:∀ b u,b≠e→s.heap.get? b=Aa u→h'.get? b=Aa u)(heo:∃ u,h'.get? e=Aa u)
  (new:zV X.prog X.w (upd H x o) h' x o):Inv X pins σ (upd H x o) { s with heap:=h',toks:=t' }:=I.un (Un.write mu he k heo) (I.hok.write mu he k heo new)
theorem Inv.pins_of {pins':Ab (Af × Cq)}(I:Inv X pins σ H s)(h:∀ p∈pins',s.heap.get? p.1=Aa p.2∧H p.1=none∧p.1≠X.env.locals∧p.1 ∉ X.fs∧∀ v,p.2.data≠.cell v):Inv X pins' σ H s:=
 ⟨I.ok,I.os,I.bare,I.base,I.loc,I.cell,I.free,I.freeC,fun p hp=>(Cn.mp hp).elim (fun z=>I.pin p (Ds _ z)) (h p),I.hok,I.len⟩
theorem nF {N:Ab Ax}(hN:N.Nodup){i j:Ai}{x:Ax}(a:N[i]? = Aa x)(b:N[j]? = Aa x):i=j:=by
 obtain⟨h1,e1⟩:=Bf.mp a;obtain⟨h2,e2⟩:=Bf.mp b;exact(Mt hN).mp (e1.trans e2.symm)
theorem eB {M:Ll}{A:Bz}{E:Ac→Ag→Prop}{i:Ai}{x:Ax}{v:V}{u:Ac}{Q:Rc→Ag→Prop}(I:Inv X pins σ H s)(hN:X.N.Nodup)(hi:X.N[i]? = Aa x)(hx:Loc X.env.scope x)(r:qK v u)
  (h:∀ s',Inv X pins (σ.set i (Aa v)) H s'→(∃ a,Fa a s.heap s'.heap∧(a=X.env.locals∨X.env.cells.lookup x=Aa a))→Q () s') (hf:X.fn x=true∨X.env.scope.names.lookup x=Aa .local:=by first|exact .inl rfl|exact .inr rfl|assumption):Ao M A (storeName X.env x u) Q E s:=by
 obtain⟨m,hn,hl⟩:=id I.loc;have hcls:(X.env.scope.kind == .class||(X.env.scope.kind == .module&&X.env.locals != X.env.globals))=false:=by rw[I.ok.kind];rfl
 have hiσ:i<σ.length:=by rw[I.len];exact(Bf.mp hi).1
 have cne:=I.cne;have tracked:∀ {a:Af} {h':Bs},(∃ o,s.heap.get? a=Aa o∧H a=none)→Fa a s.heap h'→HOk X.prog X.w H h':=fun {a h'} ha hs b ob e=>by
  obtain⟨_,_,hfree⟩:=ha;refine(I.hok b ob e).stay (fun c w' hc q=>(hs.2 c ?_).trans q) (fun _ q=>q) fun _ _ q=>q;rintro rfl;rcases hc with rfl|hc
  ·rw[hfree] at e;cases e
  ·rw[hfree] at hc;cases hc
 rcases hx with hk|hk
 ·refine wpAny_storeName_local hk hn (fun h' hn' hs=>?_) hcls
  obtain⟨oL,_,_,hoL,_⟩:=id hn;refine h _ ⟨I.ok,I.os,I.bare,⟨fun b o e n hb hx=>?_,fun b o e n hb hx=>?_,I.base.free,fun b o e hx=>?_,I.base.tups,I.base.frzs,I.base.tbls⟩,⟨_,hn',fun j y v' e1 e2 e3=>?_⟩,fun y c e=>?_,I.free,I.freeC,fun p hp=>?_,tracked ⟨oL,hoL,I.free⟩ hs,by simpa using I.len⟩ ⟨_,hs,.inl rfl⟩
  ·exact(hs.2 b (Cy (Bt (Ba e) I.ok.above))).trans (I.base.keep b o e n hb hx)
  ·obtain⟨sl,e1⟩:=I.base.slot b o e n hb hx
   exact⟨sl,(hs.2 b (Cy (Bt (Ba e) I.ok.above))).trans e1⟩
  ·obtain⟨o',e1⟩:=I.base.there b o e hx
   exact⟨o',(hs.2 b (Cy (Bt (Ba e) I.ok.above))).trans e1⟩
  ·by_cases hj:j=i
   ·subst hj
    rw[hi] at e1;cases e1;rw[Ef hiσ] at e2;cases e2;exact⟨u,r,.inl ⟨hk,by simp⟩⟩
   ·rw[Cf (Ho hj)] at e2
    obtain⟨u',r',q⟩:=hl j y v' e1 e2 e3;refine⟨u',r',?_⟩;rcases q with⟨k,e⟩|⟨k,c,e,z⟩
    ·refine .inl ⟨k,?_⟩
     have:y≠x:=fun e=>hj (nF hN e1 (e▸hi));simp[this,e]
    ·exact .inr ⟨k,c,e,z.sameBut hs (cne y c e)⟩
  ·obtain⟨w',z⟩:=I.cell y c e
   exact⟨w',z.sameBut hs (cne y c e)⟩
  ·obtain⟨e,n,ne,nf,d⟩:=I.pin p hp
   exact⟨(hs.2 p.1 ne).trans e,n,ne,nf,d⟩
 ·have hfn:X.fn x=true:=by
   rcases hf with z|z
   ·exact z
   ·rw[z] at hk;cases hk
  obtain⟨c,hc⟩:=I.ok.has x (.inl hk);obtain⟨w',z⟩:=I.cell x c hc;refine wpAny_storeName_cell I.ok.kind hk hc z (fun h' hc' hs=>?_);obtain⟨oc,hoc,hocd⟩:=id z;refine h { s with heap:=h' } ⟨I.ok,I.os,I.bare,⟨fun b o e n hb hx=>?_,fun b o e n hb hx=>?_,I.base.free,fun b o e hx=>?_,I.base.tups,I.base.frzs,I.base.tbls⟩,⟨m,hn.sameBut hs (Ho (cne x c hc)),fun j y v' e1 e2 e3=>?_⟩,fun y c' e=>?_,I.free,I.freeC,fun p hp=>?_,tracked ⟨oc,hoc,I.freeC x c hc⟩ hs,by simpa using I.len⟩ ⟨c,hs,.inr hc⟩
  ·exact(hs.2 b (Cy (Bt (Ba e) (I.ok.cab x c hfn hc)))).trans (I.base.keep b o e n hb hx)
  ·obtain⟨sl,e1⟩:=I.base.slot b o e n hb hx
   exact⟨sl,(hs.2 b (Cy (Bt (Ba e) (I.ok.cab x c hfn hc)))).trans e1⟩
  ·obtain⟨o',e1⟩:=I.base.there b o e hx
   exact⟨o',(hs.2 b (Cy (Bt (Ba e) (I.ok.cab x c hfn hc)))).trans e1⟩
  ·by_cases hj:j=i
   ·subst hj
    rw[hi] at e1;cases e1;rw[Ef hiσ] at e2;cases e2;exact⟨u,r,.inr ⟨.inl hk,c,hc,hc'⟩⟩
   ·rw[Cf (Ho hj)] at e2
    obtain⟨u',r',q⟩:=hl j y v' e1 e2 e3;refine⟨u',r',?_⟩;rcases q with q|⟨k,c',e,z'⟩
    ·exact .inl q
    ·refine .inr ⟨k,c',e,z'.sameBut hs ?_⟩
     rintro rfl;exact hj (nF hN e1 (I.ok.inj _ _ _ e hc▸hi))
  ·by_cases hcc:c'=c
   ·subst hcc;exact⟨_,hc'⟩
   ·obtain⟨w2,z2⟩:=I.cell y c' e
    exact⟨w2,z2.sameBut hs hcc⟩
  ·obtain⟨e,n,ne,nf,d⟩:=I.pin p hp
   refine⟨(hs.2 p.1 ?_).trans e,n,ne,nf,d⟩;intro q;rw[q,hoc] at e;have q':oc=p.2:=Cw e;exact d w' (by rw[← q'];exact hocd)
theorem gY {M:Ll}{A:Bz}{E:Ac→Ag→Prop}{i:Ai}{x:Ax}{v:V}{u:Ac}{Q:Rc→Ag→Prop}(I:Inv X pins σ H s)(hN:X.N.Nodup)(hi:X.N[i]? = Aa x)(hx:Loc X.env.scope x)(r:qK v u)
  (h:∀ s',Inv X pins (σ.set i (Aa v)) H s'→Q () s') (hf:X.fn x=true∨X.env.scope.names.lookup x=Aa .local:=by first|exact .inl rfl|exact .inr rfl|assumption):Ao M A (storeName X.env x u) Q E s:=
 eB I hN hi hx r (fun s' I' _=>h s' I') hf
theorem Inv.call' {s':Ag}{ch:Ab Af}(I:Inv X pins σ H s)(ho:s'.os=s.os)(u:Un (frs X.stack) ch H H' s.heap s'.heap)(hok:HOk X.prog X.w H' s'.heap)(hg:Ms s'.gens)
  (hch:∀ b∈ch,(b∈X.ex∨X.s₀.heap.objs.size≤b)∧b≠X.env.locals∧(∀ x c,X.env.cells.lookup x=Aa c→c≠b)∧∀ p∈X.pn++pins,p.1≠b):Inv X pins σ H' s':=by
 obtain⟨h',g',d',t',o'⟩:=s';have e:o'=s.os:=ho;subst e;exact I.call (g':=g') (t':=t') (d':=d') u hok hg hch
end
abbrev XK:=Ac→Al Af→Hp→Prop
abbrev St:=Ab (Al V)
abbrev VK:=V→Hp→Prop
abbrev TE:=St→Hp→VK→Prop
abbrev TT:=St→Hp→(Aq→Hp→Prop)→Prop
abbrev TA:=St→Hp→(Ab V→Hp→Prop)→Prop
structure Ends where
 nx:St→Hp→Prop
 rt:VK
 bk:St→Hp→Prop:=fun _ _=>Fm
 ct:St→Hp→Prop:=fun _ _=>Fm
abbrev TS:=Ends→St→Hp→Prop
inductive EP (X:Cx)(pins:Ab (Af × Cq))(σ : St)(Q:VK)(u:Ac)(s':Ag):Prop
 |mk (v:V) (H':Hp) (I:Inv X pins σ H' s') (r:qK v u) (q:Q v H'):EP X pins σ Q u s'
inductive TP (X:Cx)(pins:Ab (Af × Cq))(σ : St)(Q:Aq→Hp→Prop)(b:Aq)(s':Ag):Prop
 |mk (H':Hp) (I:Inv X pins σ H' s') (q:Q b H'):TP X pins σ Q b s'
inductive AP (X:Cx)(pins:Ab (Af × Cq))(σ : St)(Q:Ab V→Hp→Prop)(us:Ab Ac)(s':Ag):Prop
 |mk (vs:Ab V) (H':Hp) (I:Inv X pins σ H' s') (r:qL vs us) (q:Q vs H'):AP X pins σ Q us s'
def SP (X:Cx)(pins:Ab (Af × Cq))(D:Ends)(f:Flow)(s':Ag):Prop:=
 match f with
 |.next=>∃ σ' H',Inv X pins σ' H' s'∧D.nx σ' H'
 |.brk=>∃ σ' H',Inv X pins σ' H' s'∧D.bk σ' H'
 |.cont=>∃ σ' H',Inv X pins σ' H' s'∧D.ct σ' H'
 |.ret u=>∃ v σ' H',Inv X pins σ' H' s'∧qK v u∧D.rt v H'
def PE (X:Cx)(e:By)(t:TE):Prop:=
 ∀ (pins:Ab (Af × Cq)) (s:Ag) (σ : St) (H:Hp) (Q:VK),Inv X pins σ H s→t σ H Q→Ao (Au X.prog X.w) X.A (eval e X.env) (EP X pins σ Q) X.xe s
def PT (X:Cx)(e:By)(t:TT):Prop:=
 ∀ (pins:Ab (Af × Cq)) (s:Ag) (σ : St) (H:Hp) (Q:Aq→Hp→Prop),Inv X pins σ H s→t σ H Q→Ao (Au X.prog X.w) X.A (isTrue e X.env (eval e X.env)) (TP X pins σ Q) X.xe s
def PW (X:Cx)(e:By)(t:TT):Prop:=
 ∀ (whole:Kt Ac) (pins:Ab (Af × Cq)) (s:Ag) (σ : St) (H:Hp) (Q:Aq→Hp→Prop),Inv X pins σ H s→t σ H Q→Ao (Au X.prog X.w) X.A (isTrue e X.env whole) (TP X pins σ Q) X.xe s
def PA (X:Cx)(es:Ab By)(t:TA):Prop:=
 ∀ (pos:Fk) (pins:Ab (Af × Cq)) (s:Ag) (σ : St) (H:Hp) (Q:Ab V→Hp→Prop),Inv X pins σ H s→t σ H Q→Ao (Au X.prog X.w) X.A (spliced (Fq pos (Bc es X.env))) (AP X pins σ Q) X.xe s
def PS (X:Cx)(st:Fl)(t:TS):Prop:=
 ∀ (pins:Ab (Af × Cq)) (s:Ag) (σ : St) (H:Hp) (D:Ends),Inv X pins σ H s→t D σ H→Ao (Au X.prog X.w) X.A (exec st X.env) (SP X pins D) X.xe s
def PSs (X:Cx)(st:Ab Fl)(t:TS):Prop:=
 ∀ (pins:Ab (Af × Cq)) (s:Ag) (σ : St) (H:Hp) (D:Ends),Inv X pins σ H s→t D σ H→Ao (Au X.prog X.w) X.A (execs st X.env) (SP X pins D) X.xe s
theorem thn {α : Type}{t:Kt α}{Q Q':α→Ag→Prop}{M:Ll}{A:Bz}{E:Ac→Ag→Prop}{s:Ag}(h:Ao M A t Q E s)(hQ:∀ a s,Q a s→Q' a s):Ao M A t Q' E s:=Hz h hQ fun _ _ x=>x
end _L
namespace _L
open PySem PySem.Spec PyProof.Rows
section
variable {X:Cx}
theorem bin {a b:By}{ta tb:TE}(ha:PE X a ta)(hb:PE X b tb){pins:Ab (Af × Cq)}{s:Ag}{σ : St}{H:Hp}{R:V→V→Hp→Prop}(I:Inv X pins σ H s)(h:ta σ H fun x H1=>tb σ H1 fun y H2=>R x y H2)
  {α:Type} {Q:α→Ag→Prop} {f:Ac→Ac→Kt α}
  (hf:∀ v u s2 x y H2,Inv X pins σ H2 s2→qK x v→qK y u→R x y H2→Ao (Au X.prog X.w) X.A (f v u) Q X.xe s2) :
  Ao (Au X.prog X.w) X.A (eval a X.env) (fun v s₁=>Ao (Au X.prog X.w) X.A (eval b X.env) (fun u s₂=>Ao (Au X.prog X.w) X.A (f v u) Q X.xe s₂) X.xe s₁) X.xe s:=by
 refine thn (ha pins s σ H _ I h) fun v s1 ⟨x,H1,I1,r1,q1⟩=>?_;refine thn (hb pins s1 σ H1 _ I1 q1) fun u s2 ⟨y,H2,I2,r2,q2⟩=>?_;exact hf v u s2 x y H2 I2 r1 r2 q2
def ER (i:Ai):TE:=fun σ H Q=>∃ v,σ[i]? = Aa (Aa v)∧Q v H
def tC (v:V):TE:=fun _ H Q=>Q v H
theorem RW {i:Ai}{x:Ax}{pos:Fk}(hN:X.N[i]? = Aa x)(hv:Vis X.env.scope x)(hd:(x == ("__debug__" : Ax))=false:=by decide)(hcd:(x == ("__classdict__" : Ax))=false:=by decide):PE X (.Name x pos) (ER i):=by
 intro pins s σ H Q I h;obtain⟨v,e,h⟩:=h;obtain⟨m,hn,hl⟩:=I.loc;obtain⟨u,r,l⟩:=hl i x v hN e hv;have fin:EP X pins σ Q u s:=⟨v,H,I,r,h⟩;rcases l with⟨hk,hm⟩|⟨hk,c,hc,hcell⟩
 ·exact Yr (wpAny_loadName_local I.ok.kind hk hn hm fin) hd
 ·rcases hk with hk|hk
  ·exact Yr (wpAny_loadName_cell I.ok.kind hk hc hcell fin) hd
  ·exact Yr (wpAny_loadName_free I.ok.kind hk hc hcell fin hcd) hd
theorem RQ {i j pos}:PE X (.Constant (.int i) j pos) (tC (.int i)):=fun _ _ _ H _ I h=>wpAny_Constant_int ⟨.int i,H,I.tok _,⟨_,rfl⟩,h⟩
theorem CY {b j pos}:PE X (.Constant (.bool b) j pos) (tC (.bl b)):=fun _ _ _ H _ I h=>Constant_bool ⟨.bl b,H,I,rfl,h⟩
theorem RS {j pos}:PE X (.Constant .none j pos) (tC .non):=fun _ _ _ H _ I h=>Constant_none ⟨.non,H,I,rfl,h⟩
theorem RU {x j pos}:PE X (.Constant (.str x) j pos) (tC (.str x)):=fun _ _ _ H _ I h=>Calls.Constant_str ⟨.str x,H,I.tok _,⟨_,rfl⟩,h⟩
def Gl (X:Cx)(x:Ax):Prop:=X.env.kindOf x=Aa .globalImplicit
theorem kX {E:Ac→Ag→Prop}{pins:Ab (Af × Cq)}{s:Ag}{σ : St}{H:Hp}{x:Ax}{u:Ac}{pos:Fk}{Q:Ac→Ag→Prop}(I:Inv X pins σ H s)(hg:Gl X x)(hm:X.mg x=Aa u)(h:Q u s)
  (hd:(x == ("__debug__" : Ax))=false:=by decide):Ao (Au X.prog X.w) X.A (eval (.Name x pos) X.env) Q E s:=
 Pi I.ok.kind hg (Calls.loadGlobal_global (by rw[I.ok.glob];exact I.mod.glob.keeps I.bk) hm h) hd
theorem k9 {E:Ac→Ag→Prop}{pins:Ab (Af × Cq)}{s:Ag}{σ : St}{H:Hp}{x:Ax}{u:Ac}{pos:Fk}{Q:Ac→Ag→Prop}(I:Inv X pins σ H s)(hg:Gl X x)(hm:X.mg x=none)(hv:Gc x=Aa u)(h:Q u s)
  (hn:x ≠ "__name__":=by decide) (hd:(x == ("__debug__" : Ax))=false:=by decide):Ao (Au X.prog X.w) X.A (eval (.Name x pos) X.env) Q E s:=by
 obtain⟨mb,h1,h2⟩:=I.mod.blt;exact Pi I.ok.kind hg (Calls.loadGlobal_builtin (by rw[I.ok.glob];exact I.mod.glob.keeps I.bk) hm (by rw[I.ok.blt];exact h1.keeps I.bk) ((h2 x hn).trans hv) h) hd
theorem N1 {x:Ax}{v:V}{u:Ac}{pos:Fk}(hg:Gl X x)(hm:X.mg x=Aa u)(r:qK v u)(hd:(x == ("__debug__" : Ax))=false:=by decide):PE X (.Name x pos) (tC v):=
 fun _ _ _ H _ I h=>kX I hg hm ⟨v,H,I,r,h⟩ hd
theorem N0 {x:Ax}{v:V}{u:Ac}{pos:Fk}(hg:Gl X x)(hm:X.mg x=none)(hv:Gc x=Aa u)(r:qK v u)(hn:x ≠ "__name__":=by decide)(hd:(x == ("__debug__" : Ax))=false:=by decide):PE X (.Name x pos) (tC v):=
 fun _ _ _ H _ I h=>k9 I hg hm hv ⟨v,H,I,r,h⟩ hn hd
variable {a b:By}{ta tb:TE}{pos:Fk}
variable {tA tB':TT}{rest:Ab By}
theorem E8 (ha:PT X a tA):PW X (.BoolOp .Or [a] pos) tA:=by
 intro wh pins s σ H Q I h;refine isTrue_or (thn (ha pins s σ H Q I h) fun c s1 e=>?_);cases c with
 |false=>exact isTrue_or_nil e
 |true=>exact e
theorem RT {op}{t:TE}(h:PE X a t):PE X (.BoolOp op [a] pos) t:=fun pins s σ H Q I hw=>BoolOp_one (h pins s σ H Q I hw)
end
end _L
namespace _L
open PySem PySem.Spec PyProof.Rows
def SqL (K:Ak)(H:Hp)(a:Af)(xs:Ab V):Prop:=
 Rd H a (.lst xs) ∨
  ∃ (o:Cq) (its:Aw Ac) (n:Ai),K.lookup a=Aa o∧o.cls=.type "list" ∧ o.dict=none∧o.data=.seq its n∧its.size≤sizeLine∧qL xs its.toList
def SqT (K:Ak)(H:Hp)(a:Af)(xs:Ab V):Prop:=
 Rd H a (.tup xs) ∨
  ∃ (o:Cq) (its:Aw Ac) (n:Ai),K.lookup a=Aa o∧o.cls=.type "tuple" ∧ o.data=.seq its n∧its.size≤sizeLine∧qL xs its.toList
def AV:Ac→Al V
 |.none=>Aa .non
 |.bool b=>Aa (.bl b)
 |.int i _=>Aa (.int i)
 |.str x _=>Aa (.str x)
 |.bytes b _=>Aa (.byt b)
 |.float b _=>Aa (.flt b)
 |.ref a=>Aa (.ref a)
 |.type n=>Aa (.ty n)
 |_=>none
theorem qK.abs {x:V}{u:Ac}(r:qK x u):AV u=Aa x:=by
 cases x with
 |non=>cases r;rfl
 |bl _=>cases r;rfl
 |int _=>obtain⟨t,rfl⟩:=r;rfl
 |str _=>obtain⟨t,rfl⟩:=r;rfl
 |byt _=>obtain⟨t,rfl⟩:=r;rfl
 |flt _=>obtain⟨t,rfl⟩:=r;rfl
 |ref _=>cases r;rfl
 |ty _=>cases r;rfl
theorem qK.inj {x y:V}{u:Ac}(r:qK x u)(q:qK y u):x=y:=Cw (r.abs.symm.trans q.abs)
theorem qL.inj {xs ys:Ab V}{us:Ab Ac}(h:qL xs us)(k:qL ys us):xs=ys:=by
 induction h generalizing ys with
 |nil=>cases k;rfl
 |cons r t ih =>
  cases k with
  |cons r' t'=>rw[r.inj r',ih t']
section
variable {X:Cx}{pins:Ab (Af × Cq)}{σ : St}{H:Hp}{s:Ag}{a:Af}{xs ys:Ab V}
theorem SqL.of {K:Ak}(h:H a=Aa (.lst xs)):SqL K H a xs:=.inl (.inl h)
theorem SqT.of {K:Ak}(h:H a=Aa (.tup xs)):SqT K H a xs:=.inl (.inl h)
theorem Inv.list (I:Inv X pins σ H s)(h:SqL X.K H a xs):∃ its:Ab Ac,qL xs its∧PlainL s.heap a its.toArray∧xs.length≤sizeLine:=by
 rcases h with h|⟨o,its,n,hk,hc,hd,hs,hz,r⟩
 ·obtain⟨z,its,n,r,e⟩:=h.ok I.hok
  exact⟨its,r,⟨_,n,e,rfl,rfl,rfl⟩,z⟩
 ·refine⟨its.toList,r,⟨o,n,I.kIn a o hk,hc,hd,by simpa using hs⟩,?_⟩
  have e:=r.length;simp only[Bh] at e;omega
theorem Inv.tuple (I:Inv X pins σ H s)(h:SqT X.K H a xs):∃ its:Ab Ac,qL xs its∧Ow s.heap a its.toArray∧xs.length≤sizeLine:=by
 rcases h with h|⟨o,its,n,hk,hc,hs,hz,r⟩
 ·obtain⟨z,its,r,p⟩:=h.ok I.hok
  exact⟨its,r,p,z⟩
 ·refine⟨its.toList,r,⟨o,I.kIn a o hk,hc,n,by simpa using hs⟩,?_⟩
  have e:=r.length;simp only[Bh] at e;omega
theorem Inv.list_inj (I:Inv X pins σ H s)(h:SqL X.K H a xs)(h':SqL X.K H a ys):xs=ys:=by
 obtain⟨its,r,⟨o,n,e,_,_,d⟩,_⟩:=I.list h;obtain⟨its',r',⟨o',n',e',_,_,d'⟩,_⟩:=I.list h';rw[e] at e';cases e';rw[d] at d';injection d' with d1 _
 have:its=its':=by simpa using congrArg Aa1 d1
 subst this;exact r.inj r'
theorem Inv.tuple_inj (I:Inv X pins σ H s)(h:SqT X.K H a xs)(h':SqT X.K H a ys):xs=ys:=by
 obtain⟨its,r,⟨o,e,_,n,d⟩,_⟩:=I.tuple h;obtain⟨its',r',⟨o',e',_,n',d'⟩,_⟩:=I.tuple h';rw[e] at e';cases e';rw[d] at d';injection d' with d1 _
 have:its=its':=by simpa using congrArg Aa1 d1
 subst this;exact r.inj r'
end
abbrev Cx.wish (X:Cx)(E:Ac→Ag→Prop):Cx:={ X with xe:=E }
abbrev Cx.nox (X:Cx):Cx:=X.wish fun _ _=>Fm
theorem Cx.Ok.wish {X:Cx}(ok:X.Ok)(E:Ac→Ag→Prop):(X.wish E).Ok:=
 ⟨ok.mod,ok.kind,ok.glob,ok.blt,ok.above,ok.inj,ok.has,ok.cab,ok.hd,ok.frames,ok.stk,ok.exf,ok.bs,ok.bsz,ok.noex,ok.exfs,ok.funs,ok.frf⟩
theorem Cx.Ok.unwish {X:Cx}{E:Ac→Ag→Prop}(ok:(X.wish E).Ok):X.Ok:=
 ⟨ok.mod,ok.kind,ok.glob,ok.blt,ok.above,ok.inj,ok.has,ok.cab,ok.hd,ok.frames,ok.stk,ok.exf,ok.bs,ok.bsz,ok.noex,ok.exfs,ok.funs,ok.frf⟩
section
variable {X:Cx}{pins:Ab (Af × Cq)}{σ : St}{H:Hp}{s:Ag}{E:Ac→Ag→Prop}
theorem Inv.wish (I:Inv X pins σ H s)(E:Ac→Ag→Prop):Inv (X.wish E) pins σ H s:=⟨I.ok.wish E,I.os,I.bare,I.base,I.loc,I.cell,I.free,I.freeC,I.pin,I.hok,I.len⟩
theorem Inv.unwish (I:Inv (X.wish E) pins σ H s):Inv X pins σ H s:=⟨I.ok.unwish,I.os,I.bare,I.base,I.loc,I.cell,I.free,I.freeC,I.pin,I.hok,I.len⟩
theorem SP.unwish {D:Ends}{f:Flow}{s':Ag}(h:SP (X.wish E) pins D f s'):SP X pins D f s':=by
 cases f with
 |next=>obtain⟨σ',H',I,q⟩:=h;exact⟨σ',H',I.unwish,q⟩
 |brk=>obtain⟨σ',H',I,q⟩:=h;exact⟨σ',H',I.unwish,q⟩
 |cont=>obtain⟨σ',H',I,q⟩:=h;exact⟨σ',H',I.unwish,q⟩
 |ret u=>obtain⟨v,σ',H',I,r,q⟩:=h;exact⟨v,σ',H',I.unwish,r,q⟩
theorem PE.nox {e:By}{t:TE}(h:PE X.nox e t):PE X e t:=fun pins s σ H Q I hw =>
 Hz (h pins s σ H Q (I.wish _) hw) (fun _ _ ⟨v,H',I',r,q⟩=>⟨v,H',I'.unwish,r,q⟩) fun _ _ z=>An z
theorem PT.nox {e:By}{t:TT}(h:PT X.nox e t):PT X e t:=fun pins s σ H Q I hw =>
 Hz (h pins s σ H Q (I.wish _) hw) (fun _ _ ⟨H',I',q⟩=>⟨H',I'.unwish,q⟩) fun _ _ z=>An z
theorem PSs.nox {st:Ab Fl}{t:TS}(h:PSs X.nox st t):PSs X st t:=fun pins s σ H D I hw =>
 Hz (h pins s σ H D (I.wish _) hw) (fun _ _ q=>q.unwish) fun _ _ z=>An z
end
section
variable {X:Cx}{st:Fl}{rest:Ab Fl}{t u:TS}{e:By}{te:TE}{pos:Fk}
def AH:TS:=fun D σ H=>D.nx σ H
def O9 (t u:TS):TS:=fun D σ H=>t { D with nx:=u D } σ H
theorem N8:PSs X [] AH:=fun _ _ σ H _ I h=>Nw ⟨σ,H,I,h⟩
theorem GC (h1:PS X st t)(h2:PSs X rest u):PSs X (st::rest) (O9 t u):=by
 intro pins s σ H D I h;refine Xg (thn (h1 pins s σ H { D with nx:=u D } I h) fun f s1 q=>?_)
 cases f with
 |next =>
  obtain⟨σ',H',I',q⟩:=q;exact h2 pins s1 σ' H' D I' q
 |ret v=>exact q
 |brk=>exact q
 |cont=>exact q
theorem N9 (h1:PS X st t):PSs X [st] t:=by
 intro pins s σ H D I h;refine Xg (thn (h1 pins s σ H D I h) fun f s1 q=>?_);cases f with
 |next=>exact Nw q
 |ret v=>exact q
 |brk=>exact q
 |cont=>exact q
theorem Inv.quiet {pins:Ab (Af × Cq)}{σ : St}{H:Hp}{s:Ag}(I:Inv X pins σ H s):interactive X.env=false:=by simp[interactive,I.ok.kind]
end
abbrev TG:=V→St→Hp→(St→Hp→Prop)→Prop
abbrev TGs:=Ab V→St→Hp→(St→Hp→Prop)→Prop
def PG (X:Cx)(target:By)(t:TG):Prop:=
 ∀ (pins:Ab (Af × Cq)) (s:Ag) (σ : St) (H:Hp) (v:V) (u:Ac) (Q:St→Hp→Prop),Inv X pins σ H s→qK v u→t v σ H Q →
  Ao (Au X.prog X.w) X.A (assign target X.env u) (fun _ s'=>∃ σ' H',Inv X pins σ' H' s'∧Q σ' H') X.xe s
def PGs (X:Cx)(ts:Ab By)(t:TGs):Prop:=
 ∀ (pins:Ab (Af × Cq)) (s:Ag) (σ : St) (H:Hp) (vs:Ab V) (us:Ab Ac) (Q:St→Hp→Prop),Inv X pins σ H s→qL vs us→t vs σ H Q →
  Ao (Au X.prog X.w) X.A (Ue ((Gv ts X.env).map (·.2)) us) (fun _ s'=>∃ σ' H',Inv X pins σ' H' s'∧Q σ' H') X.xe s
abbrev UV:=V→V→V→Hp→(Hp→Prop)→Prop
def hJ (X:Cx)(t:UV):Prop:=
 ∀ (pins:Ab (Af × Cq)) (s:Ag) (σ : St) (H:Hp) (o i v:V) (ov iv u:Ac) (Q:Hp→Prop),Inv X pins σ H s→qK o ov→qK i iv→qK v u→t o i v H Q →
  Ao (Au X.prog X.w) X.A (Zo ov iv u) (fun _ s'=>∃ H',Inv X pins σ H' s'∧Q H') X.xe s
section
variable {X:Cx}{pos:Fk}
def CF (i:Ai):TG:=fun v σ H Q=>Q (σ.set i (Aa v)) H
theorem N2 {i:Ai}{x:Ax}(hN:X.N.Nodup)(hi:X.N[i]? = Aa x)(hx:Loc X.env.scope x)(hf:X.fn x=true∨X.env.scope.names.lookup x=Aa .local:=by first|exact .inl rfl|exact .inr rfl|assumption):PG X (.Name x pos) (CF i):=by
 intro pins s σ H v u Q I r h;exact Wg (gY I hN hi hx r (fun s' I'=>⟨_,H,I',h⟩) hf)
def IH:TGs:=fun vs σ H Q=>vs=[]∧Q σ H
def CD (t:TG)(u:TGs):TGs:=fun vs σ H Q=>∃ v r,vs=v::r∧t v σ H fun σ' H'=>u r σ' H' Q
theorem N3:PGs X [] IH:=by
 intro pins s σ H vs us Q I r h;obtain⟨e,h⟩:=h;subst e;cases r;exact Wh ⟨σ,H,I,h⟩
theorem GA {e:By}{es:Ab By}{t:TG}{u:TGs}(h1:PG X e t)(h2:PGs X es u)
  (hs:(Gv (e::es) X.env).map (·.2)=assign e X.env::(Gv es X.env).map (·.2):=by rfl):PGs X (e::es) (CD t u):=by
 intro pins s σ H vs us Q I r h;obtain⟨v,vr,e1,h⟩:=h;subst e1;cases r with
 |cons r rr =>
  rw[hs];refine Pb (thn (h1 pins s σ H _ _ _ I r h) fun _ s1 ⟨σ1,H1,I1,q1⟩=>?_);exact h2 pins s1 σ1 H1 _ _ Q I1 rr q1
def II (K:Ak)(n:Ai)(t:TGs):TG:=fun v σ H Q=>∃ a xs,v=.ref a∧SqT K H a xs∧xs.length=n∧t xs σ H Q
theorem RY {es:Ab By}{k:Ai}{t:TGs}{n:Ai}(hc:X.calm=true)(h:PGs X es t)
  (hn:(Gv es X.env).length=n:=by rfl) (hst:(Gv es X.env).findIdx? (·.1)=none:=by rfl):PG X (.Tuple es k pos) (II X.K n t):=by
 intro pins s σ H v u Q I r hw;obtain⟨a,xs,e1,hq,hl,hw⟩:=hw;subst e1;cases r;obtain⟨its,rv,ht,hz⟩:=I.tuple hq;refine assign_Tuple_tuple (I.ok.hd hc) ht (by simp[hn,← hl,rv.length]) hst fun h' hx=>?_
 have I1:Inv X pins σ H { s with heap:=h' }:=I.kept (t':=s.toks) fun b o e=>hx b o (Cy (Ba e)) e
 exact h pins _ σ H xs _ Q I1 (by simpa using rv) hw
def xG (to ti:TE)(t:UV):TG:=fun v σ H Q=>to σ H fun o H1=>ti σ H1 fun i H2=>t o i v H2 fun H3=>Q σ H3
def O8 (i j:Ai)(ta:TA):TS:=fun D σ H=>ta σ H fun vs H1=>∃ v w,vs=[v,w]∧D.nx ((σ.set i (Aa v)).set j (Aa w)) H1
theorem E5 {i j:Ai}{x y:Ax}{a b:By}{ta:TA}{px py pt:Fk} {kt k2 pt2} (hc:X.calm=true) (hN:X.N.Nodup) (hi:X.N[i]? = Aa x) (hj:X.N[j]? = Aa y) (hij:i≠j)
  (hx:X.env.scope.names.lookup x=Aa .local) (hy:X.env.scope.names.lookup y=Aa .local) (ha:PA X [a,b] ta)
  (hw:Ku [.Tuple [.Name x px,.Name y py] kt pt] (.Tuple [a,b] k2 pt2) X.env=pure (Aa [x,y]))
  (hs:Kv [.Tuple [.Name x px,.Name y py] kt pt] (.Tuple [a,b] k2 pt2) pos.line X.env=pure false:=by rfl) :
  PS X (.Assign [.Tuple [.Name x px,.Name y py] kt pt] (.Tuple [a,b] k2 pt2) pos) (O8 i j ta):=by
 intro pins s σ H D I h;rw[exec_Assign_arm];refine Ad (Pw ?_);rw[hs];refine Ad (Am ?_);rw[Bk (by decide)]
 refine Ad (Tuple_ (thn (ha _ pins s σ H _ I h) fun us s1 ⟨vs,H1,I1,r1,q1⟩=>?_));obtain⟨v,w,e1,q1⟩:=q1;subst e1;obtain⟨u1,u2,rfl,rv,rw'⟩:∃ u1 u2,us=[u1,u2]∧qK v u1∧qK w u2:=by
  cases r1 with
  |cons p q =>
   cases q with
   |cons p' q' =>
    cases q';exact⟨_,_,rfl,p,p'⟩
 refine Du ?_ (by show 2≤sizeLine;decide)
 have I2:Inv X pins σ H1 { s1 with heap:=s1.heap.push { cls:=.type "tuple",data:=.seq [u1,u2].toArray } }:=I1.kept (t':=s1.toks) fun b o e=>Ah _ e
 rw[hw];refine Ad (Am ?_);show Ao (Au X.prog X.w) X.A (do rule "assign.swapped-stores";let items ← unpackItems (.ref s1.heap.objs.size) 2 none;Ue [fun v=>Vd X.env y v,fun v=>Vd X.env x v] items.reverse;pure Flow.next) _ _ _
 refine Ad (He (Ad (unpackItems_tuple (items:=#[u1,u2]) (I.ok.hd hc) (Wi s1.heap _) fun h' hx'=>?_)));have I3:=I2.kept (h':=h') (t':=s1.toks) fun b o e=>hx' b o (Cy (Ba e)) e;show Ao _ _ (Ue [fun v=>Vd X.env y v,fun v=>Vd X.env x v] [u2,u1] >>= fun _=>pure Flow.next) _ _ _;refine Ad (Pb (wpAny_bindName (gY I3 hN hj (.inl hy) rw' (fun s2 I4=>?_) (.inr hy))));refine Pb (wpAny_bindName (gY I4 hN hi (.inl hx) rv (fun s3 I5=>Wh (Am ?_)) (.inr hx)));rw[List.set_comm _ _ (Ho hij)] at I5;exact⟨_,H1,I5,q1⟩
end
structure It where
 go:Ai→Hp→Prop
 yld:Ai→Hp→V→Hp→Prop
 stop:Ai→Hp→Prop
def wH (X:Cx)(pins:Ab (Af × Cq))(H:Hp)(b:Af):Prop:=
 H b=none∧b≠X.env.locals∧b ∉ X.fs∧(b∈X.ex∨X.s₀.heap.objs.size≤b)∧(∀ x c,X.env.cells.lookup x=Aa c→c≠b)∧∀ p∈X.pn++pins,p.1≠b
theorem Inv.fpOk {X:Cx}{pins:Ab (Af × Cq)}{σ : St}{H H':Hp}{s:Ag}{b:Af}(I:Inv X pins σ H s)(hb:s.heap.objs.size≤b)(hn:H' b=none):wH X pins H' b:=by
 refine⟨hn,Gz (Bt I.lt hb),I.nofs hb,.inr (Ee I.sz hb),fun x c e z=>?_,fun p hp z=>?_⟩
 ·obtain⟨v,q⟩:=I.cell x c e
  exact absurd (Bt q.lt (by rw[z];exact hb)) (Eu _)
 ·exact absurd (Bt (Ba (I.pin p hp).1) (by rw[z];exact hb)) (Eu _)
structure Turn (P:Bm)(w:Cb)(K:Ak)(tg:By)(J:It)(fp:Ab Af)(it:Af)(tn:Ai→Bs→Prop):Prop where
 mem:it∈fp
 obj:∀ i h,tn i h→∀ b∈fp,∃ o,h.get? b=Aa o∧∀ v,o.data≠.cell v
 keep:∀ i h h',tn i h→(∀ b∈fp,∀ o,h.get? b=Aa o→h'.get? b=Aa o)→tn i h'
 item:∀ (X:Cx),X.prog=P→X.w=w→X.K=K→X.calm=true→∀ (i:Ai) (pins:Ab (Af × Cq)) (s:Ag) (σ : St) (H:Hp) (E:Ac→Ag→Prop),Inv X pins σ H s→(∀ b∈fp,wH X pins H b)→tn i s.heap→J.go i H →
  Ao (Au P w) X.A (Ly (.ref it)) (fun r s1=>∃ u,r=Aa u ∧
   Ao (Au P w) X.A (Jt tg (.ref it) u) (fun _ s2=>∃ x H',Inv X pins σ H' s2∧qK x u∧J.yld i H x H'∧tn (i+1) s2.heap∧∀ b∈fp,H' b=none) E s1) E s
 done:∀ (X:Cx),X.prog=P→X.w=w→X.K=K→X.calm=true→∀ (i:Ai) (pins:Ab (Af × Cq)) (s:Ag) (σ : St) (H:Hp) (E:Ac→Ag→Prop),Inv X pins σ H s→(∀ b∈fp,wH X pins H b)→tn i s.heap→J.stop i H →
  Ao (Au P w) X.A (Ly (.ref it)) (fun r s1=>r=none∧Inv X pins σ H s1) E s
 self:∀ (A:Bz) (i:Ai) (s:Ag) (Q:Ac→Ag→Prop) (E:Ac→Ag→Prop),tn i s.heap→Q (.ref it) s→Ao (Au P w) A (Of (.ref it)) Q E s
abbrev TI:=St→Hp→(It→Hp→Prop)→Prop
inductive PIE (X:Cx)(pins:Ab (Af × Cq))(σ : St)(tg:By)(R:It→Hp→Prop)(itv:Ac)(s2:Ag):Prop
 |mk (it:Af) (fp:Ab Af) (tn:Ai→Bs→Prop) (J:It) (H':Hp) (e:itv=.ref it) (I:Inv X pins σ H' s2) (t:Turn X.prog X.w X.K tg J fp it tn) (z:tn 0 s2.heap) (f:∀ b∈fp,wH X pins H' b) (q:R J H'):PIE X pins σ tg R itv s2
def PI (X:Cx)(tg iter:By)(wi:TI):Prop:=
 ∀ (pins:Ab (Af × Cq)) (s:Ag) (σ : St) (H:Hp) (R:It→Hp→Prop),Inv X pins σ H s→wi σ H R →
  Ao (Au X.prog X.w) X.A (eval iter X.env) (fun v s1=>Ao (Au X.prog X.w) X.A (Of v) (PIE X pins σ tg R) X.xe s1) X.xe s
theorem XA {M:Ll}{A:Bz}{E:Ac→Ag→Prop}{s:Ag}{tg:By}{it:Af}{u:Ac}{o:Cq}{n:Ep}{vs:Aw Ac}{Q:Rc→Ag→Prop}(ho:s.heap.get? it=Aa o)(hc:o.cls=.type n)(hd:o.data=.fields vs)
    (hn:["enumerate","zip","dict_itemiterator","dict_reverseitemiterator","odict_iterator","itertools.zip_longest","itertools.pairwise"].contains n=false) (hQ:Q () s):Ao M A (Jt tg (.ref it) u) Q E s:=by
  unfold Jt;cases tg <;> first
    |exact Am hQ
    |(cases u <;> first
        |exact Am hQ
        | (refine Ad (wpAny_load ho ?_)
           rw[hc,hd];show Ao M A (if (["enumerate","zip","dict_itemiterator","dict_reverseitemiterator","odict_iterator","itertools.zip_longest","itertools.pairwise"].contains n&&vs[0]? == Aa (Mu _))=true then _ else _) Q E s
           rw[Bk (by intro h;rw[hn,Ox] at h;cases h)]
           exact Am hQ))
def Itl (K:Ak)(a:Af):It:=
 ⟨fun i H=>∃ xs x,SqL K H a xs∧xs[i]? = Aa x,fun i H x H'=>H'=H∧∀ xs,SqL K H a xs→xs[i]? = Aa x,fun i H=>∃ xs,SqL K H a xs∧xs.length≤i⟩
def Itt (K:Ak)(a:Af):It:=
 ⟨fun i H=>∃ xs x,SqT K H a xs∧xs[i]? = Aa x,fun i H x H'=>H'=H∧∀ xs,SqT K H a xs→xs[i]? = Aa x,fun i H=>∃ xs,SqT K H a xs∧xs.length≤i⟩
def Itr (lo:Aj)(n:Ai):It:=⟨fun i _=>i<n,fun i H x H'=>H'=H∧x=.int (lo+i),fun i _=>n≤i⟩
theorem eD {P:Bm}{w:Cb}{K:Ak}{tg:By}(a it:Af):Turn P w K tg (Itl K a) [it] it (fun i h=>h.IsListIter it a i) where
 mem:=by simp
 obj:=fun i h st b hb=>by
  have e:b=it:=by simpa using hb
  subst e;obtain⟨o,e,c,d⟩:=st;exact⟨o,e,fun v z=>by rw[d] at z;cases z⟩
 keep:=fun i h h' st k=>st.at fun o e=>k it (by simp) o e
 item:=by
  intro X hP hw hK hc i pins s σ H E I hf st hg;subst hP hw hK;obtain⟨xs,x,hq,hx⟩:=hg;obtain⟨its,rv,p,hz⟩:=I.list hq;obtain⟨u,hu,ru⟩:=rv.get hx;obtain⟨f0,f1,f2,f3,f4,f5⟩:=hf it (by simp)
  refine wpAny_pyNext_list_item st p.isList (x:=u) (by simpa using hu) fun h' st' sb=>?_
  have I1:Inv X pins σ H { s with heap:=h' }:=I.turned (t':=s.toks) (fun b o hb e=>(sb.2 b hb).trans e) f0 f1 f3 f4 f5
  obtain⟨o,e,c,d⟩:=id st';exact⟨u,rfl,XA (s:={ s with heap:=h' }) e c d (by decide) ⟨x,H,I1,ru,⟨rfl,fun ys hy=>by rw[I.list_inj hy hq];exact hx⟩,st',fun b hb=>(hf b hb).1⟩⟩
 done:=by
  intro X hP hw hK hc i pins s σ H E I hf st hg;subst hP hw hK;obtain⟨xs,hq,hx⟩:=hg;obtain⟨its,rv,p,hz⟩:=I.list hq;obtain⟨f0,f1,f2,f3,f4,f5⟩:=hf it (by simp)
  have hl:=rv.length;exact wpAny_pyNext_list_end (I.ok.hd hc) st p.isList (by simp;omega) fun h' eb=>⟨rfl,I.turned (t':=s.toks) (fun b o hb e=>eb b o hb e) f0 f1 f3 f4 f5⟩
 self:=fun _ _ _ _ _ st h=>wpAny_pyIter_listiter st h
theorem W0 {P:Bm}{w:Cb}{K:Ak}{tg:By}(a it:Af):Turn P w K tg (Itt K a) [it] it (fun i h=>h.IsTupleIter it a i) where
 mem:=by simp
 obj:=fun i h st b hb=>by
  have e:b=it:=by simpa using hb
  subst e;obtain⟨o,e,c,d⟩:=st;exact⟨o,e,fun v z=>by rw[d] at z;cases z⟩
 keep:=fun i h h' st k=>st.at fun o e=>k it (by simp) o e
 item:=by
  intro X hP hw hK hc i pins s σ H E I hf st hg;subst hP hw hK;obtain⟨xs,x,hq,hx⟩:=hg;obtain⟨its,rv,p,hz⟩:=I.tuple hq;obtain⟨u,hu,ru⟩:=rv.get hx;obtain⟨f0,f1,f2,f3,f4,f5⟩:=hf it (by simp)
  refine wpAny_pyNext_tuple_item st (show s.heap.IsTuple a its.toArray from p) (x:=u) (by simpa using hu) fun h' st' sb=>?_
  have I1:Inv X pins σ H { s with heap:=h' }:=I.turned (t':=s.toks) (fun b o hb e=>(sb.2 b hb).trans e) f0 f1 f3 f4 f5
  obtain⟨o,e,c,d⟩:=id st';exact⟨u,rfl,XA (s:={ s with heap:=h' }) e c d (by decide) ⟨x,H,I1,ru,⟨rfl,fun ys hy=>by rw[I.tuple_inj hy hq];exact hx⟩,st',fun b hb=>(hf b hb).1⟩⟩
 done:=by
  intro X hP hw hK hc i pins s σ H E I hf st hg;subst hP hw hK;obtain⟨xs,hq,hx⟩:=hg;obtain⟨its,rv,p,hz⟩:=I.tuple hq;obtain⟨f0,f1,f2,f3,f4,f5⟩:=hf it (by simp)
  have hl:=rv.length;exact wpAny_pyNext_tuple_end (I.ok.hd hc) st (show s.heap.IsTuple a its.toArray from p) (by simp;omega) fun h' eb=>⟨rfl,I.turned (t':=s.toks) (fun b o hb e=>eb b o hb e) f0 f1 f3 f4 f5⟩
 self:=fun _ _ _ _ _ st h=>wpAny_pyIter_tupleiter st h
theorem XZ {P:Bm}{w:Cb}{K:Ak}{tg:By}(it:Af)(lo:Aj)(n:Ai):Turn P w K tg (Itr lo n) [it] it (fun i h=>IsRangeIter h it (lo+(i:Ai)*1) ((n:Aj)-(i:Ai)) 1) where
 mem:=by simp
 obj:=fun i h st b hb=>by
  have e:b=it:=by simpa using hb
  subst e;exact⟨_,st,fun v z=>by
   have z':Data.fields _=Data.cell v:=z;cases z'⟩
 keep:=fun i h h' st k=>k it (by simp) _ st
 item:=by
  intro X hP hw hK hc i pins s σ H E I hf st hg;subst hP hw hK;obtain⟨f0,f1,f2,f3,f4,f5⟩:=hf it (by simp)
  have W:=Walks.range (prog:=X.prog) (w:=X.w) (I.ok.hd hc) it lo 1 n;refine W.item i s _ _ hg st fun v h' tk hv st' kk=>?_;obtain⟨t,rfl⟩:=hv;have I1:Inv X pins σ H { s with heap:=h',toks:=tk }:=I.turned (fun b o hb e=>kk b o (by simpa using hb) e) f0 f1 f3 f4 f5
  refine⟨_,rfl,XA (s:={ s with heap:=h',toks:=tk }) (n:="range_iterator") st' rfl rfl (by decide) ⟨.int (lo+i),H,I1,⟨t,?_⟩,⟨rfl,rfl⟩,st',fun b hb=>(hf b hb).1⟩⟩
  rw[Int.mul_one]
 done:=by
  intro X hP hw hK hc i pins s σ H E I hf st hg;subst hP hw hK;obtain⟨f0,f1,f2,f3,f4,f5⟩:=hf it (by simp)
  exact wpAny_pyNext_range_end (I.ok.hd hc) st (by have:n≤i:=hg;omega) fun h' eb=>⟨rfl,I.turned (t':=s.toks) (fun b o hb e=>eb b o hb e) f0 f1 f3 f4 f5⟩
 self:=fun _ _ _ _ _ st h=>wpAny_pyIter_rangeiter st h
end _L
namespace _L
open PySem PySem.Spec PyProof.Rows
section
variable {X:Cx}{tg:By}
theorem iG {pins:Ab (Af × Cq)}{σ : St}{H:Hp}{s:Ag}{R:It→Hp→Prop}{E:Ac→Ag→Prop}{lo hi:Aj}{t u v:Sr}{tk:Ai}(I:Inv X pins σ H s)(h1 : -(2 ^ 62)≤lo)(h2:lo<2 ^ 62)(h3 : -(2 ^ 62)≤hi)(h4:hi<2 ^ 62)
  (q:R (Itr lo (hi-lo).toNat) H):Ao (Au X.prog X.w) X.A (Of (.ref s.heap.objs.size)) (PIE X pins σ tg R) E { s with heap:=s.heap.push { cls:=.type "range",data:=.fields #[.int lo t,.int hi u,.int 1 v] },toks:=tk }:=by
 refine wpAny_pyIter_range (IsRange.new ..) (small_one h1 h2 h3 h4) ?_;have I1:Inv X pins σ H { s with heap:=s.heap.push { cls:=.type "range",data:=.fields #[.int lo t,.int hi u,.int 1 v] },toks:=tk }:=I.kept fun b o e=>Ah _ e
 refine⟨(s.heap.push { cls:=.type "range",data:=.fields #[.int lo t,.int hi u,.int 1 v] }).objs.size,[(s.heap.push { cls:=.type "range",data:=.fields #[.int lo t,.int hi u,.int 1 v] }).objs.size],_,_,H,rfl,
  I1.kept (t':=tk) fun b o e=>Ah _ e,XZ _ lo (hi-lo).toNat,?_,fun b hb=>?_,q⟩
 ·have e1:lo+((0:Ai):Aj)*1=lo:=by simp
  have e2:(((hi-lo).toNat:Ai):Aj)-((0:Ai):Aj)=Builtin.Range.rangeSize lo hi 1:=by rw[rangeSize_one];split <;> omega
  show IsRangeIter _ _ (lo+((0:Ai):Aj)*1) ((((hi-lo).toNat:Ai):Aj)-((0:Ai):Aj)) 1;rw[e1,e2];exact Be _ rfl
 ·have e:b=(s.heap.push { cls:=.type "range",data:=.fields #[.int lo t,.int hi u,.int 1 v] }).objs.size:=by simpa using hb
  subst e;exact I1.fpOk (As _) (I1.hok.fresh (As _))
def O1 (wi:TI)(g:TG)(tb:TS):TS:=fun D σ H=>wi σ H fun J H1=>∃ W:Ai→Ai→St→Hp→Prop,(∃ m,W 0 m σ H1)∧∀ i m σ H,W i m σ H →
 (J.stop i H∧D.nx σ H)∨(J.go i H∧∃ N:St→Hp→Prop,(∀ σ' H',N σ' H'→∃ m',m'<m∧W (i+1) m' σ' H')∧∀ x H',J.yld i H x H'→g x σ H' fun σ2 H2=>tb { D with nx:=N,ct:=N,bk:=D.nx } σ2 H2)
def uV (fp:Ab Af)(h:Bs):Ab (Af × Cq):=fp.filterMap fun b=>(h.get? b).map fun o=>(b,o)
theorem kQ {fp:Ab Af}{h:Bs}{b:Af}{o:Cq}(hb:b∈fp)(e:h.get? b=Aa o):(b,o)∈uV fp h:=Js.mpr ⟨b,hb,by rw[e];rfl⟩
theorem rP {fp:Ab Af}{h:Bs}{p:Af × Cq}(hp:p∈uV fp h):p.1∈fp∧h.get? p.1=Aa p.2:=by
 obtain⟨b,hb,e⟩:=Js.mp hp;cases q:h.get? b with
 |none=>rw[q] at e;cases e
 |some o =>
  rw[q] at e;have e':(b,o)=p:=Cw e;subst e';exact⟨hb,q⟩
theorem Inv.pinned {pins:Ab (Af × Cq)}{σ : St}{H:Hp}{s:Ag}{fp:Ab Af}(I:Inv X pins σ H s)(hf:∀ b∈fp,wH X pins H b)(ho:∀ b∈fp,∃ o,s.heap.get? b=Aa o∧∀ v,o.data≠.cell v):Inv X (pins++uV fp s.heap) σ H s:=
 I.pins_of fun p hp=>(Cn.mp hp).elim (fun z=>I.pin p (Cg _ z)) fun z=>by
  obtain⟨hb,e⟩:=rP z;obtain⟨f0,f1,f2,_⟩:=hf p.1 hb;obtain⟨o,e',d⟩:=ho p.1 hb;rw[e] at e';cases e';exact⟨e,f0,f1,f2,d⟩
theorem Inv.unpinned {pins pl:Ab (Af × Cq)}{σ : St}{H:Hp}{s:Ag}(I:Inv X (pins++pl) σ H s):Inv X pins σ H s:=I.pins_of fun p hp=>I.pin p (Cg _ (Ds _ hp))
inductive ForI (X:Cx)(pins:Ab (Af × Cq))(fp:Ab Af)(tn:Ai→Bs→Prop)(W:Ai→Ai→St→Hp→Prop)(n:Ai)(s':Ag):Prop
 |mk (i:Ai) (σ' : St) (H':Hp) (I:Inv X pins σ' H' s') (t:tn i s'.heap) (f:∀ b∈fp,H' b=none) (w:W i n σ' H'):ForI X pins fp tn W n s'
theorem E4 {iter:By}{body:Ab Fl}{wi:TI}{g:TG}{tb:TS}{pos:Fk}(hp:Sv (Au X.prog X.w) X.A X.env X.xe)(hc:X.calm=true)(hi:PI X tg iter wi)(hg:PG X tg g)(hb:PSs X body tb)
  (hs:∀ x,Fy iter X.env x=pure x:=by intro _;rfl):PS X (.For tg iter body [] pos) (O1 wi g tb):=by
 intro pins s σ H D I h;refine wpAny_For (thn (hi pins s σ H _ I h) fun v s1 h1=>thn h1 fun itv s2 h2=>?_) hs;obtain⟨it,fp,tn,J,H2,e,I2,T,st2,f2,W,⟨m0,w0⟩,turn⟩:=h2;subst e;have stat:∀ {H':Hp},(∀ b∈fp,H' b=none)→∀ b∈fp,wH X pins H' b:=fun hn b hb=>⟨hn b hb,(f2 b hb).2⟩;refine codeAny_forLoop_any (ForI X pins fp tn W) ?_ m0 ⟨0,σ,H2,I2,st2,fun b hb=>(f2 b hb).1,w0⟩;rintro n s3 ⟨i,σ3,H3,I3,st3,fr3,w3⟩;rcases turn i n σ3 H3 w3 with⟨stop,qn⟩|⟨go,N,hN,step⟩
 ·refine La hp (thn (T.done X rfl rfl rfl hc i pins s3 σ3 H3 X.xe I3 (stat fr3) st3 stop) fun r s4 ⟨hr,I4⟩=>?_)
  subst hr;exact Nw ⟨σ3,H3,I4,qn⟩
 ·refine La hp (thn (T.item X rfl rfl rfl hc i pins s3 σ3 H3 X.xe I3 (stat fr3) st3 go) fun r s4 ⟨u,hr,h4⟩=>?_)
  subst hr;refine La hp (thn h4 fun _ s5 ⟨x,H5,I5,r5,y5,st5,fr5⟩=>?_);have I5':=I5.pinned (stat fr5) (T.obj _ _ st5);refine La hp (thn (hg _ s5 σ3 H5 x u _ I5' r5 (step x H5 y5)) fun _ s6 ⟨σ6,H6,I6,q6⟩=>?_);refine La hp (thn (hb _ s6 σ6 H6 _ I6 q6) fun f s7 q7=>?_);have again:∀ {σ7:St} {H7:Hp},Inv X (pins++uV fp s5.heap) σ7 H7 s7→N σ7 H7→∃ m,m<n∧ForI X pins fp tn W m s7:=fun {σ7 H7} I7 n7=>by
   obtain⟨m',hm,w7⟩:=hN σ7 H7 n7;refine⟨m',hm,i+1,σ7,H7,I7.unpinned,T.keep _ _ _ st5 fun b hb o e=>(I7.pin (b,o) (Cg _ (Cg _ (kQ hb e)))).1,fun b hb=>?_,w7⟩;obtain⟨o,e,d⟩:=T.obj _ _ st5 b hb;exact(I7.pin (b,o) (Cg _ (Cg _ (kQ hb e)))).2.1
  cases f with
  |next=>obtain⟨σ7,H7,I7,n7⟩:=q7;exact again I7 n7
  |cont=>obtain⟨σ7,H7,I7,n7⟩:=q7;exact again I7 n7
  |brk=>obtain⟨σ7,H7,I7,q7⟩:=q7;exact⟨σ7,H7,I7.unpinned,q7⟩
  |ret v=>obtain⟨x7,σ7,H7,I7,r7,q7⟩:=q7;exact⟨x7,σ7,H7,I7.unpinned,r7,q7⟩
end
end _L
namespace _L
open PySem PySem.Spec PyProof.Rows
abbrev R2:=V→V→Hp→VK→Prop
def OpR (X:Cx)(f:Ac→Ac→Kt Ac)(r:R2):Prop:=
 ∀ (pins:Ab (Af × Cq)) (s:Ag) (σ : St) (H:Hp) (x y:V) (v u:Ac) (Q:VK),Inv X pins σ H s→qK x v→qK y u→r x y H Q →
  Ao (Au X.prog X.w) X.A (f v u) (EP X pins σ Q) X.xe s
def UnR (X:Cx)(f:Ac→Kt Ac)(r:V→Hp→VK→Prop):Prop:=
 ∀ (pins:Ab (Af × Cq)) (s:Ag) (σ : St) (H:Hp) (x:V) (v:Ac) (Q:VK),Inv X pins σ H s→qK x v→r x H Q →
  Ao (Au X.prog X.w) X.A (f v) (EP X pins σ Q) X.xe s
def p7 (X:Cx)(f:Ac)(r:Ab V→Hp→VK→Prop):Prop:=
 ∀ (pins:Ab (Af × Cq)) (s:Ag) (σ : St) (H:Hp) (xs:Ab V) (us:Ab Ac) (Q:VK),Inv X pins σ H s→qL xs us→r xs H Q →
  Ao (Au X.prog X.w) X.A (call f us) (EP X pins σ Q) X.xe s
def AU (X:Cx)(r:V→Hp→(Aq→Hp→Prop)→Prop):Prop:=
 ∀ (pins:Ab (Af × Cq)) (s:Ag) (σ : St) (H:Hp) (x:V) (v:Ac) (Q:Aq→Hp→Prop),Inv X pins σ H s→qK x v→r x H Q →
  Ao (Au X.prog X.w) X.A (truthy v) (TP X pins σ Q) X.xe s
def tOp (r:R2)(ta tb:TE):TE:=fun σ H Q=>ta σ H fun x H1=>tb σ H1 fun y H2=>r x y H2 Q
def rI (C:Aj→Aj→Prop)(g:Aj→Aj→V):R2:=fun x y H Q=>∃ i j,x=.int i∧y=.int j∧C i j∧Q (g i j) H
def rI0 (g:Aj→Aj→V):R2:=fun x y H Q=>∃ i j,x=.int i∧y=.int j∧Q (g i j) H
def rU (g:Aj→V):V→Hp→VK→Prop:=fun x H Q=>∃ i,x=.int i∧Q (g i) H
section
variable {X:Cx}{a b c:By}{ta tb tc:TE}{pos:Fk}
theorem AZ (ha:PE X a ta)(hb:PE X b tb){pins:Ab (Af × Cq)}{s:Ag}{σ : St}{H:Hp}{R:V→V→Hp→Prop}(I:Inv X pins σ H s)
  (h:ta σ H fun x H1=>tb σ H1 fun y H2=>R x y H2) {Q:Ac→Ag→Prop} {f:Ac→Ac→Kt Ac}
  (hf:∀ v u s2 x y H2,Inv X pins σ H2 s2→qK x v→qK y u→R x y H2→Ao (Au X.prog X.w) X.A (f v u) Q X.xe s2) :
  Ao (Au X.prog X.w) X.A (eval a X.env) (fun v s₁=>Ao (Au X.prog X.w) X.A (eval b X.env) (fun u s₂=>Ao (Au X.prog X.w) X.A (f v u) Q X.xe s₂) X.xe s₁) X.xe s:=by
 refine thn (ha pins s σ H _ I h) fun v s1 ⟨x,H1,I1,r1,q1⟩=>?_;refine thn (hb pins s1 σ H1 _ I1 q1) fun u s2 ⟨y,H2,I2,r2,q2⟩=>?_;exact hf v u s2 x y H2 I2 r1 r2 q2
theorem opI {f:Ac→Ac→Kt Ac}{C:Aj→Aj→Prop}{g:Aj→Aj→Aj}
  (rule:∀ (i j:Aj) (t u:Sr) (s:Ag) (Q:Ac→Ag→Prop) (E:Ac→Ag→Prop),C i j→Q (.int (g i j) s.toks) { s with toks:=s.toks+1 } → Ao (Au X.prog X.w) X.A (f (.int i t) (.int j u)) Q E s) :
  OpR X f (rI C fun i j=>.int (g i j)):=by
 intro pins s σ H x y v u Q I rx ry h;obtain⟨i,j,rfl,rfl,hc,q⟩:=h;obtain⟨t,rfl⟩:=rx;obtain⟨t',rfl⟩:=ry;exact rule i j t t' s _ _ hc ⟨.int (g i j),H,I.tok _,⟨_,rfl⟩,q⟩
theorem RI {f:Ac→Ac→Kt Ac}{g:Aj→Aj→Aj}
  (rule:∀ (i j:Aj) (t u:Sr) (s:Ag) (Q:Ac→Ag→Prop) (E:Ac→Ag→Prop),Q (.int (g i j) s.toks) { s with toks:=s.toks+1 } → Ao (Au X.prog X.w) X.A (f (.int i t) (.int j u)) Q E s) :
  OpR X f (rI0 fun i j=>.int (g i j)):=by
 intro pins s σ H x y v u Q I rx ry h;obtain⟨i,j,rfl,rfl,q⟩:=h;obtain⟨t,rfl⟩:=rx;obtain⟨t',rfl⟩:=ry;exact rule i j t t' s _ _ ⟨.int (g i j),H,I.tok _,⟨_,rfl⟩,q⟩
theorem G6 {f:Ac→Ac→Kt Ac}{g:Aj→Aj→Aq}
  (rule:∀ (i j:Aj) (t u:Sr) (s:Ag) (Q:Ac→Ag→Prop) (E:Ac→Ag→Prop),Q (.bool (g i j)) s→Ao (Au X.prog X.w) X.A (f (.int i t) (.int j u)) Q E s) :
  OpR X f (rI0 fun i j=>.bl (g i j)):=by
 intro pins s σ H x y v u Q I rx ry h;obtain⟨i,j,rfl,rfl,q⟩:=h;obtain⟨t,rfl⟩:=rx;obtain⟨t',rfl⟩:=ry;exact rule i j t t' s _ _ ⟨.bl (g i j),H,I,rfl,q⟩
def AS (i j:Aj):Prop:=0<j∧j<1073741824
def AT (i j:Aj):Prop:=0≤j∧j≤1000000∧i.natAbs<2 ^ 64
def UR (i j:Aj):Prop:=(-(2 ^ 64)<i∧i<2 ^ 64)∨(-(2 ^ 64)<j∧j<2 ^ 64)
theorem UR.ok {i j:Aj}(h:UR i j):IntMulOk i j:=by
 rcases h with⟨h1,h2⟩|⟨h1,h2⟩
 ·exact .of_left (intBits_le_64 h1 h2)
 ·exact .of_right (intBits_le_64 h1 h2)
theorem RJ:OpR X (Ex .Add) (rI0 fun i j=>.int (i+j)):=RI fun _ _ _ _ _ _ _ q=>add_int q
theorem RO:OpR X (Ex .Sub) (rI0 fun i j=>.int (i-j)):=RI fun _ _ _ _ _ _ _ q=>sub_int q
theorem RM:OpR X (Ex .Mult) (rI UR fun i j=>.int (i*j)):=opI fun _ _ _ _ _ _ _ hc q=>mul_int q hc.ok
theorem TX:OpR X (Ex .FloorDiv) (rI AS fun i j=>.int (i/j)):=opI fun i j _ _ _ _ _ hc q=>by
 have h1:(0:Aj)<j:=hc.1;have h2:j<1073741824:=hc.2;exact floordiv_int om (by rw[Int.fdiv_eq_ediv_of_nonneg i om];exact q) (.inl (PyProof.noPylong_small om))
theorem RL:OpR X (Ex .Mod) (rI (fun _ j=>0<j) fun i j=>.int (i % j)):=opI fun i j _ _ _ _ _ hc q=>by
 have h1:(0:Aj)<j:=hc;exact mod_int' om (by rw[Int.fmod_eq_emod_of_nonneg i om];exact q)
theorem RN:OpR X (Ex .Pow) (rI AT fun i j=>.int (i ^ j.toNat)):=opI fun _ _ _ _ _ _ _ hc q=>pow_int_small hc.1 hc.2.1 hc.2.2 q
theorem unI {f:Ac→Kt Ac}{g:Aj→Aj}
  (rule:∀ (i:Aj) (t:Sr) (s:Ag) (Q:Ac→Ag→Prop) (E:Ac→Ag→Prop),Q (.int (g i) s.toks) { s with toks:=s.toks+1 } → Ao (Au X.prog X.w) X.A (f (.int i t)) Q E s) :
  UnR X f (rU fun i=>.int (g i)):=by
 intro pins s σ H x v Q I rx h;obtain⟨i,rfl,q⟩:=h;obtain⟨t,rfl⟩:=rx;exact rule i t s _ _ ⟨.int (g i),H,I.tok _,⟨_,rfl⟩,q⟩
theorem H9:UnR X (Xh .USub) (rU fun i=>.int (-i)):=unI fun _ _ _ _ _ q=>neg_int q
end
section
variable {X:Cx}{a b c:By}{ta tb tc:TE}{pos:Fk}
theorem SB {pins:Ab (Af × Cq)}{σ : St}{H:Hp}{s:Ag}{Q:VK}{k k':Aq}(I:Inv X pins σ H s)(q:Q (.bl k) H)(e:k=k'):EP X pins σ Q (.bool k') s:=by
 subst e;exact⟨.bl k,H,I,rfl,q⟩
theorem CW:OpR X (Dt .Lt) (rI0 fun i j=>.bl (decide (i<j))):=G6 fun _ _ _ _ _ _ _ q=>lt_int q
theorem CV:OpR X (Dt .LtE) (rI0 fun i j=>.bl (decide (i≤j))):=G6 fun _ _ _ _ _ _ _ q=>le_int q
theorem CU:OpR X (Dt .GtE) (rI0 fun i j=>.bl (decide (j≤i))):=G6 fun _ _ _ _ _ _ _ q=>ge_int q
theorem RK:OpR X (Dt .Is) (fun x y H Q=>y=.non∧Q (.bl (decide (x=.non))) H):=by
 intro pins s σ H x y v u Q I rx ry h;obtain⟨rfl,q⟩:=h;cases ry;refine is_none_gen (SB I q ?_);cases x <;> first
  |(cases rx;rfl)
  |(obtain⟨t,rfl⟩:=rx;rfl)
theorem OpR.or {f:Ac→Ac→Kt Ac}{r r':R2}(h:OpR X f r)(h':OpR X f r'):OpR X f (fun x y H Q=>r x y H Q∨r' x y H Q):=by
 intro pins s σ H x y v u Q I rx ry q;rcases q with q|q
 ·exact h pins s σ H x y v u Q I rx ry q
 ·exact h' pins s σ H x y v u Q I rx ry q
theorem pZ (b:By){op:Uf}(h:op≠.In:=by decide)(h2:op≠.NotIn:=by decide):Kw op b=false:=by
 have e1:(op == CmpOp.In)=false:=by cases op <;> first|rfl|exact absurd rfl h
 have e2:(op == CmpOp.NotIn)=false:=by cases op <;> first|rfl|exact absurd rfl h2
 cases b <;> simp[Kw,e1,e2]
def ZS (K:Ak)(x:V)(H:Hp)(k:Aq):Prop:=
 match x with
 |.non=>k=false
 |.bl b=>k=b
 |.int i=>k=(i != 0)
 |.str y=>y.length≤sizeLine∧k=((y.length:Aj) != 0)
 |.byt y=>y.size≤sizeLine∧k=((y.size:Aj) != 0)
 |.ref p=>(∃ xs,SqL K H p xs∧k=!xs.isEmpty)∨(∃ xs,SqT K H p xs∧k=!xs.isEmpty)∨∃ kvs,H p=Aa (.dK kvs)∧k=!kvs.isEmpty
 |_=>Fm
theorem XC {κ : Type}{kvs:Ab (κ × V)}{vs:Ab (κ × Ac)}(r:KV kvs vs):(!vs.isEmpty)=!kvs.isEmpty:=by
 cases r <;> rfl
theorem l9 {xs:Ab V}{its:Ab Ac}(r:qL xs its):(!its.toArray.isEmpty)=!xs.isEmpty:=by
 cases r <;> simp
theorem m8:(sizeLine:Ai)<2 ^ 63:=by rw[Ev];decide
theorem mK:AU X (fun x H Q=>∃ k,ZS X.K x H k∧Q k H):=by
 intro pins s σ H x v Q I rx h;obtain⟨k,e,q⟩:=h;have hl:=m8;have hs:sizeLine=16777216:=Ev;cases x with
 |non =>
  cases rx;have e':k=false:=e;subst e';exact truthy_none ⟨H,I,q⟩
 |bl b =>
  cases rx;have e':k=b:=e;subst e';exact Wj ⟨H,I,q⟩
 |int i =>
  obtain⟨t,rfl⟩:=rx;have e':k=(i != 0):=e;subst e';exact PySem.P.truthy_int ⟨H,I,q⟩
 |str y =>
  obtain⟨t,rfl⟩:=rx;obtain⟨hy,e'⟩:y.length≤sizeLine∧k=((y.length:Aj) != 0):=e;subst e';exact PySem.P.truthy_str om ⟨H,I.tok _,q⟩
 |byt y =>
  obtain⟨t,rfl⟩:=rx;obtain⟨hy,e'⟩:y.size≤sizeLine∧k=((y.size:Aj) != 0):=e;subst e';exact PySem.W.truthy_bytes om ⟨H,I.tok _,q⟩
 |ref p =>
  cases rx;have e':(∃ xs,SqL X.K H p xs∧k=!xs.isEmpty)∨(∃ xs,SqT X.K H p xs∧k=!xs.isEmpty)∨∃ kvs,H p=Aa (.dK kvs)∧k=!kvs.isEmpty:=e;rcases e' with⟨xs,hx,e'⟩|⟨xs,hx,e'⟩|⟨kvs,hx,e'⟩
  ·subst e'
   obtain⟨its,r,pl,hz⟩:=I.list hx;have hlen:=r.length;exact wpAny_truthy_list pl.isList (by simp only[Bb];omega) ⟨H,I.tok _,by rw[l9 r];exact q⟩
  ·subst e'
   obtain⟨its,r,pl,hz⟩:=I.tuple hx;have hlen:=r.length;exact truthy_tuple pl (by simp only[Bb];omega) ⟨H,I.tok _,by rw[l9 r];exact q⟩
  ·subst e'
   obtain⟨hz,hS,vs,r,m⟩:kvs.length≤sizeLine∧(p == Hy)=false∧∃ vs,KV kvs vs∧s.heap.DictOf (xA X.prog X.w) p vs:=I.hok p _ hx;have hlen:kvs.length=vs.length:=Paired.length r;exact wpAny_truthy_dict hS m om ⟨H,I.tok _,by rw[XC r];exact q⟩
 |_=>exact(show Fm from e).elim
theorem XL:OpR X (Ex .Add) (fun x y H Q=>∃ i j,x=.str i∧y=.str j∧i.length+j.length≤sizeLine∧Q (.str (i++j)) H):=by
 intro pins s σ H x y v u Q I rx ry h;obtain⟨i,j,rfl,rfl,hz,q⟩:=h;obtain⟨t,rfl⟩:=rx;obtain⟨t',rfl⟩:=ry;exact add_str (fun t' tk=>⟨.str (i++j),H,I.tok _,⟨_,rfl⟩,q⟩) hz
theorem pK {x:V}{us:Ab Ac}(r:qL [x] us):∃ u,us=[u]∧qK x u:=by
 cases r with
 |cons r1 r2=>cases r2;exact⟨_,rfl,r1⟩
theorem W2 {x y:V}{us:Ab Ac}(r:qL [x,y] us):∃ u w',us=[u,w']∧qK x u∧qK y w':=by
 cases r with
 |cons r1 r2 =>
  cases r2 with
  |cons r3 r4=>cases r4;exact⟨_,_,rfl,r1,r3⟩
theorem rC:p7 X (.type "int") (fun xs H Q=>(∃ i,xs=[.int i]∧Q (.int i) H)∨∃ k,xs=[.bl k]∧Q (.int (if k then 1 else 0)) H):=by
 intro pins s σ H xs us Q I r h;rcases h with⟨i,rfl,q⟩|⟨k,rfl,q⟩
 ·obtain⟨u,rfl,t,rfl⟩:=pK r
  exact call_int_int ⟨.int i,H,I,⟨_,rfl⟩,q⟩
 ·obtain⟨u,rfl,r1⟩:=pK r
  cases r1;exact call_int_bool ⟨.int (if k then 1 else 0),H,I.tok _,⟨_,rfl⟩,q⟩
def LD (K:Ak)(x:V)(H:Hp)(n:Ai):Prop:=
 match x with
 |.str y=>y.length≤sizeLine∧n=y.length
 |.byt y=>y.size≤sizeLine∧n=y.size
 |.ref p=>(∃ xs,SqL K H p xs∧n=xs.length)∨∃ xs,SqT K H p xs∧n=xs.length
 |_=>Fm
theorem J7:p7 X (.builtin "len") (fun xs H Q=>∃ x n,xs=[x]∧LD X.K x H n∧Q (.int n) H):=by
 intro pins s σ H xs us Q I r h;obtain⟨x,n,rfl,e,q⟩:=h;obtain⟨u,rfl,rx⟩:=pK r;have hl:=m8;have hs:sizeLine=16777216:=Ev;cases x with
 |str y =>
  obtain⟨t,rfl⟩:=rx;obtain⟨hy,e'⟩:y.length≤sizeLine∧n=y.length:=e;subst e';exact len_str om ⟨.int _,H,I.tok _,⟨_,rfl⟩,q⟩
 |byt y =>
  obtain⟨t,rfl⟩:=rx;obtain⟨hy,e'⟩:y.size≤sizeLine∧n=y.size:=e;subst e';exact PySem.W.len_bytes om ⟨.int _,H,I.tok _,⟨_,rfl⟩,q⟩
 |ref p =>
  cases rx;have e':(∃ xs,SqL X.K H p xs∧n=xs.length)∨∃ xs,SqT X.K H p xs∧n=xs.length:=e;rcases e' with⟨xs,hx,e'⟩|⟨xs,hx,e'⟩
  ·subst e'
   obtain⟨its,r',pl,hz⟩:=I.list hx;have hlen:=r'.length;exact Calls.call_len_list pl.isList (by simp only[Bb];omega) ⟨.int xs.length,H,I.tok _,⟨_,by simp only[Bb];rw[hlen]⟩,q⟩
  ·subst e'
   obtain⟨its,r',pl,hz⟩:=I.tuple hx;have hlen:=r'.length;exact len_tuple pl (by simp only[Bb];omega) ⟨.int xs.length,H,I.tok _,⟨_,by simp only[Bb];rw[hlen]⟩,q⟩
 |_=>exact(show Fm from e).elim
end
end _L
namespace _L
open PySem PySem.Spec PyProof.Rows
structure ObjM (h:Bs)(x dx C:Af)(mA:Ax→Al Ac):Prop where
 obj:h.get? x=Aa (Rz C dx)
 ns:h.Ns1 dx mA
 ne:dx≠x
set_option tactic.hygienic true in
theorem YO {h:Bs}{dx:Af}{mA:Ax→Al Ac}(n:h.Ns1 dx mA):∃ od,h.get? dx=Aa od∧∀ name,Tl name od=Aa (mA name):=by
 obtain⟨o,es,ep,ho,hd,hk,_,hm⟩:=n;refine⟨o,ho,fun name=>?_⟩;have e:=hm name;unfold nsFind findBy at e;rw[← Array.find?_toList] at e;unfold Tl;rw[hd];dsimp only
 split
 ·rename_i y q
  rw[q] at e;exact congrArg Aa e
 ·rename_i q
  rw[q] at e;have a:es.toList.any (·.refKey)=false:=by
   rw[List.any_eq_false];intro y hy;obtain⟨z,t,hkey⟩:=hk y (Nt.mp hy);simp[DictEntry.refKey,hkey]
  have a':¬ es.toList.any (·.refKey)=true:=by rw[a];exact Gs
  rw[Bk a'];exact congrArg Aa e
theorem ObjM.look {h:Bs}{x dx C:Af}{mA:Ax→Al Ac}(I:ObjM h x dx C mA):∃ od,PySem.W.InstAt h x (Rz C dx) C (Aa od)∧∀ name,Tl name od=Aa (mA name):=
 let ⟨od,ho,hl⟩:=YO I.ns
 ⟨od,⟨I.obj,rfl,rfl,ho⟩,hl⟩
section
variable {P:Bm}{w:Cb}{H H':Hp}{h h':Bs}{a C dx:Af}{fs fs':Ab (Ax × V)}
theorem MT (hok:HOk P w H h)(e:H a=Aa (.ins C dx fs)):∃ mA,ObjM h a dx C mA∧(∀ f,bC (fs.lookup f) (mA f))∧Aa0 mA (fs.map (·.1))∧fs.length≤1000∧H dx=Aa (.own a):=by
 obtain⟨d,z,ne,ob,mA,n,r,q⟩:=(show zV P w H h a (.ins C dx fs) from hok a _ e)
 exact⟨mA,⟨ob,n,ne⟩,r,q,z,d⟩
end
structure Cls (K:Ak)(C:Af):Prop where
 pg:Xi K C Str.empty=true
 hd:PySem.W.hasDictIn K C=true
 po:PySem.W.plainOver K C=true
 sa:Lz K (.ref C) "__setattr__" = Aa (Aa (.builtin "object.__setattr__"))
theorem Cls.get {K:Ak}{C:Af}(c:Cls K C)(f:Ax):Xi K C f=true:=c.pg
section
variable {X:Cx}{pins:Ab (Af × Cq)}{σ : St}{H:Hp}{s:Ag}{A:Bz}{E:Ac→Ag→Prop}{Q:Ac→Ag→Prop}{c:Ac}{b:Aq}
inductive TyOf (K:Ak)(H:Hp):V→Ac→Prop where
 |non:TyOf K H .non (.type "NoneType")
 |bl (x:Aq):TyOf K H (.bl x) (.type "bool")
 |int (i:Aj):TyOf K H (.int i) (.type "int")
 |str (x:Ax):TyOf K H (.str x) (.type "str")
 |flt (x:UInt64):TyOf K H (.flt x) (.type "float")
 |lst {a:Af} {xs:Ab V} (e:H a=Aa (.lst xs)):TyOf K H (.ref a) (.type "list")
 |frz {a:Af} {o:Cq} {xs:Ab V} (e:H a=Aa (.frz o (.lst xs))):TyOf K H (.ref a) (.type "list")
 |tup {a:Af} {xs:Ab V} (e:H a=Aa (.tup xs)):TyOf K H (.ref a) (.type "tuple")
 |dK {a:Af} {kvs:Ab (Key × V)} (e:H a=Aa (.dK kvs)):TyOf K H (.ref a) (.type "dict")
 |dT {a:Af} {kvs:Ab (Ab Key × V)} (e:H a=Aa (.dT kvs)):TyOf K H (.ref a) (.type "dict")
 |ins {a C dx:Af} {fs:Ab (Ax × V)} (e:H a=Aa (.ins C dx fs)) (cl:Cls K C) (ha:Lz K (.ref C) "__class__" = Aa (Aa (.builtin "object.__class__")))
   (hn:Wk K (.builtin "object.__class__") "__get__" = Aa (Aa (.builtin "getset_descriptor.__get__"))) (htk:Ye K (.builtin "object.__class__")=Aa true)
   (hm:Ug K C (.type "object")=Aa true):TyOf K H (.ref a) (.ref C)
theorem YD {x:V}{u t:Ac}(I:Inv X pins σ H s)(rx:qK x u)(ty:TyOf X.K H x t)(e:Kl X.K t c=Aa b)(h:∀ tk,Q (.bool b) { s with toks:=tk }) :
  Ao (Au X.prog X.w) A (call (.builtin "isinstance") [u,c]) Q E s:=by
 cases ty with
 |non=>cases (show u=Dj from rx);exact El PySem.W.kitx_none I.kIn Ip e (fun z=>nomatch z) h
 |bl y=>cases (show u=Fv y from rx);exact El PySem.W.kitx_bool I.kIn Ip e (fun z=>nomatch z) h
 |int i=>obtain⟨t,q⟩:=(show ∃ t,u=Pu i t from rx);cases q;exact El PySem.W.kitx_int I.kIn Ip e (fun z=>nomatch z) h
 |str y=>obtain⟨t,q⟩:=(show ∃ t,u=Wf y t from rx);cases q;exact El PySem.W.kitx_str I.kIn Ip e (fun z=>nomatch z) h
 |flt y=>obtain⟨t,q⟩:=(show ∃ t,u=Value.float y t from rx);cases q;exact El PySem.W.kitx_float I.kIn Ip e (fun z=>nomatch z) h
 |@lst a xs ea =>
  cases (show u=Dc a from rx)
  obtain⟨_,_,n,_,h1⟩:=(show zV X.prog X.w H s.heap a (.lst xs) from I.hok a _ ea)
  exact El Px I.kIn ⟨_,h1,rfl⟩ e (fun z=>nomatch z) h
 |@frz a ob xs ea =>
  cases (show u=Dc a from rx)
  obtain⟨_,_,_,n,_,h1⟩:=(show zV X.prog X.w H s.heap a (.frz ob (.lst xs)) from I.hok a _ ea)
  exact El Px I.kIn ⟨_,h1,rfl⟩ e (fun z=>nomatch z) h
 |@tup a xs ea =>
  cases (show u=Dc a from rx)
  obtain⟨_,_,_,p⟩:=(show zV X.prog X.w H s.heap a (.tup xs) from I.hok a _ ea)
  obtain⟨o,h1,h2,_⟩:=p;exact El Vi I.kIn ⟨o,h1,h2⟩ e (fun z=>nomatch z) h
 |@dK a kvs ea =>
  cases (show u=Dc a from rx)
  obtain⟨_,_,vs,_,p⟩:=(show zV X.prog X.w H s.heap a (.dK kvs) from I.hok a _ ea)
  obtain⟨o,es,ep,h1,h2,_⟩:=p;exact El Wl I.kIn ⟨o,h1,h2.1⟩ e (fun z=>nomatch z) h
 |@dT a kvs ea =>
  cases (show u=Dc a from rx)
  obtain⟨_,_,xs,_,o,es,ep,h1,h2,_⟩:=(show zV X.prog X.w H s.heap a (.dT kvs) from I.hok a _ ea)
  exact El Wl I.kIn ⟨o,h1,h2.1⟩ e (fun z=>nomatch z) h
 |@ins a C dx fs ea cl ha hn htk hm =>
  cases (show u=Dc a from rx)
  obtain⟨mA,O,_⟩:=MT I.hok ea;obtain⟨od,J,_⟩:=O.look;exact El (PySem.W.kitx_own (cl.get _) cl.hd ha hn htk hm) I.kIn J e (fun z=>nomatch z) h
end
end _L
namespace _L
open PySem PySem.Spec PyProof.Rows
structure Room (k:Ai)(A:Bz):Prop where
 hd:A.handled=none
 dp:A.depth+3*k+5<Oy
 un:A.units+16*k+200<Fg
 gd:A.guards=Aa []
theorem Room.deeper {k:Ai}{A:Bz}(r:Room (k+1) A)(env:Ks):Room k (A.deeper env):=
 ⟨r.hd,by have:=r.dp;show A.depth+1+3*k+5<_;omega,by have:=r.un;show A.units+3+16*k+200<_;omega,r.gd⟩
theorem Room.depth {k:Ai}{A:Bz}(r:Room k A):A.depth<Oy:=by have:=r.dp;omega
theorem Room.units {k:Ai}{A:Bz}(r:Room k A):A.units+64<Fg:=by have:=r.un;omega
def O7:TA:=fun _ H Q=>Q [] H
section
variable {X:Cx}{e:By}{es:Ab By}{te:TE}{t:TA}{pos:Fk}
theorem RP:PA X [] O7:=fun _ _ _ _ H Q I h=>Py ⟨[],H,I,.nil,h⟩
def OA (t:TA):TE:=fun σ H Q=>t σ H fun xs H1=>xs.length≤sizeLine∧∀ p,H1 p=none→Q (.ref p) (upd H1 p (.tup xs))
def O6 (t:TA):TE:=fun σ H Q=>t σ H fun xs H1=>xs.length≤sizeLine∧∀ p,H1 p=none→Q (.ref p) (upd H1 p (.lst xs))
theorem RV {x1} (h:PA X es t):PE X (.Tuple es x1 pos) (OA t):=by
 intro pins s σ H Q I hq;refine wpAny_Tuple_spliced (thn (h pos pins s σ H _ I hq) fun us s1 ⟨xs,H1,I1,r,z,q⟩=>⟨by rw[← r.length];exact z,?_⟩)
 have hf:H1 s1.heap.objs.size=none:=I1.hok.fresh (As _);refine⟨.ref s1.heap.objs.size,upd H1 s1.heap.objs.size (.tup xs),I1.laid (t':=s1.toks) (fun b u e=>Ah _ e) (As _) ?_,rfl,q _ hf⟩;exact⟨z,us,r,⟨_,Be _ rfl,rfl,_,rfl⟩⟩
theorem V5 (h:PA X es t):PE X (.List es pos) (O6 t):=by
 intro pins s σ H Q I hq;refine wpAny_List_spliced (thn (h pos pins s σ H _ I hq) fun us s1 ⟨xs,H1,I1,r,z,q⟩=>⟨by rw[← r.length];exact z,?_⟩)
 have hf:H1 s1.heap.objs.size=none:=I1.hok.fresh (As _);refine⟨.ref s1.heap.objs.size,upd H1 s1.heap.objs.size (.lst xs),I1.laid (t':=s1.toks) (fun b u e=>Ah _ e) (As _) ?_,rfl,q _ hf⟩;exact⟨z,us,0,r,Be _ rfl⟩
end
abbrev Sp:=Ab V→Hp→VK→XK→Prop
abbrev CXT:=Ab Ks→Hp→Ag→XK→Ac→Ag→Prop
structure Env0 (P:Bm)(w:Cb)(K:Ak)(mg:Ax→Al Ac)(base:Bs)(A:Bz)(outer:Ab Ks)(s:Ag)(H:Hp):Prop where
 frames:A.frames=Aa outer
 mod:Mod K mg base
 bs:∀ b o,base.get? b=Aa o→s.heap.get? b=Aa o∧H b=none
 bsz:base.objs.size≤s.heap.objs.size
 funs:s.heap.FunFrames base outer
 frf:∀ b∈frs outer,H b=none
 hok:HOk P w H s.heap
 bare:Ms s.gens
def CE (outer:Ab Ks)(P:Bm)(w:Cb)(H:Hp)(s:Ag)(Q:VK)(u:Ac)(s':Ag):Prop:=
 ∃ v H',s'.os=s.os∧Ms s'.gens∧Un (frs outer) [] H H' s.heap s'.heap∧HOk P w H' s'.heap∧qK v u∧Q v H'
def CR (CX:CXT)(outer:Ab Ks)(P:Bm)(w:Cb)(H:Hp)(s:Ag)(Q:VK)(E:XK)(r:Xj)(s':Ag):Prop:=
 match r with
 |.ok (.ret u)=>CE outer P w H s Q u s'
 |.ok _=>Fm
 |.error e=>CX outer H s E e s'
structure FnOk (P:Bm)(w:Cb)(K:Ak)(mg:Ax→Al Ac)(base:Bs)(CX:CXT)(k:Ai)(f:Af)(fd:Fx)(ps:Ab Ax)(sp:Sp):Prop where
 len:∀ vs H Q E,sp vs H Q E→vs.length=ps.length
 run:∀ (A:Bz) (outer:Ab Ks) (s:Ag) (H:Hp) (args:Args) (us:Ab Ac) (vs:Ab V) (Q:VK) (E:XK),Room k A→Env0 P w K mg base A outer s H→Om s fd args (ps.zip us)→qL vs us→sp vs H Q E →
  Kx (Au P w) A (.call (.ref f) args) (CR CX outer P w H s Q E) s
section
variable {X:Cx}{pins:Ab (Af × Cq)}{σ : St}{H:Hp}{s s':Ag}
theorem Inv.env0 (I:Inv X pins σ H s):Env0 X.prog X.w X.K X.mg X.base X.A X.stack s H:=
 ⟨I.ok.frames,I.ok.mod,I.bs,Ee I.ok.bsz I.sz,I.stack,I.stkFree,I.hok,I.bare⟩
theorem Inv.after {Q:VK}{u:Ac}(I:Inv X pins σ H s)(h:CE X.stack X.prog X.w H s Q u s'):EP X pins σ Q u s':=by
 obtain⟨v,H',os,bare,un,hok,r,q⟩:=h;obtain⟨hh,g,d,t,os'⟩:=s';obtain rfl:os'=s.os:=os;exact⟨v,H',I.call (h':=hh) (g':=g) (d':=d) (t':=t) (ch:=[]) un hok bare (fun b z=>absurd z (by simp)),r,q⟩
end
def uJ (K:Ak)(fd:Fx)(ps:Ab Ax)(ds:Ab Ac):Prop:=
 ∀ (s:Ag) (us:Ab Ac),K.In s.heap→(us++ds).length=ps.length→Om s fd ⟨us,[]⟩ (ps.zip (us++ds))
theorem uJ.all {K:Ak}{fd:Fx}{ps:Ab Ax}(h:∀ us:Ab Ac,us.length=ps.length→Yf fd ⟨us,[]⟩=pure (ps.zip us)):uJ K fd ps []:=fun s us _ hl=>by
 rw[Gd] at hl ⊢;exact .of_eq (h us hl)
structure FnScope (N P:Ab Ax)(sc:Gp):Prop where
 kind:sc.kind=.function
 co:sc.isCoroutine=false
 gen:sc.isGenerator=false
 nd:N.Nodup
 pre:N.take P.length=P
 par:∀ x∈P,sc.names.lookup x=Aa .local ∨ sc.names.lookup x=Aa .cell
 nofree:∀ y∈sc.names,y.2≠.free
theorem rA {kindOf:Ax→Al Ir}{x:Ax}:∀ {binds:Ab (Ax × Ac)} {m:Ax→Al Ac},(∀ v,(x,v) ∉ binds)→Uh kindOf binds m x=m x
 |[],_,_=>rfl
 |(n,v)::r,m,h=>by
  unfold Uh;rw[rA fun w hw=>h w (Bx _ hw)]
  split
  ·have:x≠n:=by rintro rfl;exact h v Dg
   simp[this]
  ·rfl
theorem r8 {kindOf:Ax→Al Ir}{x:Ax}:∀ {binds:Ab (Ax × Ac)} {m:Ax→Al Ac},(∀ v,(x,v) ∉ binds)→Ui kindOf binds m x=m x
 |[],_,_=>rfl
 |(n,v)::r,m,h=>by
  unfold Ui;rw[r8 fun w hw=>h w (Bx _ hw)]
  split
  ·rfl
  ·have:x≠n:=by rintro rfl;exact h v Dg
   simp[this]
theorem r9 {kindOf:Ax→Al Ir}{x:Ax}{v:Ac}:∀ {P:Ab Ax} {vs:Ab Ac} {i:Ai} {m:Ax→Al Ac},P.Nodup→P[i]? = Aa x→vs[i]? = Aa v→kindOf x=Aa .local →
  Uh kindOf (P.zip vs) m x=Aa v
 |[],_,_,_,_,h,_,_=>by simp at h
 |_::_,[],_,_,_,_,h,_=>by simp at h
 |p::P,w::vs,0,m,nd,h1,h2,hk=>by
  simp at h1 h2;subst h1;subst h2;show Uh kindOf ((p,w)::P.zip vs) m p=_;unfold Uh;rw[rA fun v hv=>(Ju.mp nd).1 (Ny hv).1,Bl hk];simp
 |p::P,w::vs,i+1,m,nd,h1,h2,hk=>by
  show Uh kindOf ((p,w)::P.zip vs) m x=_;unfold Uh;exact r9 (i:=i) (Ju.mp nd).2 (by simpa using h1) (by simpa using h2) hk
theorem r0 {kindOf:Ax→Al Ir}{x:Ax}{v:Ac}:∀ {P:Ab Ax} {vs:Ab Ac} {i:Ai} {m:Ax→Al Ac},P.Nodup→P[i]? = Aa x→vs[i]? = Aa v→kindOf x≠Aa .local →
  Ui kindOf (P.zip vs) m x=Aa v
 |[],_,_,_,_,h,_,_=>by simp at h
 |_::_,[],_,_,_,_,h,_=>by simp at h
 |p::P,w::vs,0,m,nd,h1,h2,hk=>by
  simp at h1 h2;subst h1;subst h2;show Ui kindOf ((p,w)::P.zip vs) m p=_;unfold Ui;rw[r8 fun v hv=>(Ju.mp nd).1 (Ny hv).1,Bk hk];simp
 |p::P,w::vs,i+1,m,nd,h1,h2,hk=>by
  show Ui kindOf ((p,w)::P.zip vs) m x=_;unfold Ui;exact r0 (i:=i) (Ju.mp nd).2 (by simpa using h1) (by simpa using h2) hk
def yG (N:Ab Ax)(vs:Ab V):St:=vs.map Aa++Dl (N.length-vs.length) none
def dD (CX:CXT)(P:Bm)(w:Cb)(K:Ak)(mg:Ax→Al Ac)(base:Bs)(N:Ab Ax)(qual:Ax)(scope:Gp)(f:Af)(cd:Ac)(A:Bz)(outer:Ab Ks)(s:Ag)(H:Hp)(E:XK):Cx where
 prog:=P
 w:=w
 K:=K
 mg:=mg
 base:=base
 A:=A.deeper (Gw qual scope s.heap.objs.size f cd)
 N:=N
 s₀:=s
 H₀:=H
 env:=Gw qual scope s.heap.objs.size f cd
 outer:=outer
 stack:=Gw qual scope s.heap.objs.size f cd::outer
 ex:=[]
 calm:=true
 fn:=fun _=>true
 pn:=[]
 xe:=fun e s'=>Ao (Au P w) (A.deeper (Gw qual scope s.heap.objs.size f cd)) (leaving (Gw qual scope s.heap.objs.size f cd) e) (fun _ s''=>CX outer H s E e s'') (fun e' s''=>CX outer H s E e' s'') s'
theorem cE {sc:Gp}{n:Ai}{x:Ax}(h:sc.names.lookup x=Aa .cell):∃ c,(Sw n sc.names []).lookup x=Aa c:=by
 have q:=Ml sc.names n [] (.inl h);exact Option.isSome_iff_exists.mp q
theorem rK {CX:CXT}{P:Bm}{w:Cb}{K:Ak}{mg:Ax→Al Ac}{base:Bs}{N ps:Ab Ax}{qual:Ax}{scope:Gp}{f:Af}{cd:Ac}{A:Bz}{outer:Ab Ks}{s s1:Ag}{H:Hp}{E:XK}{us:Ab Ac}{vs:Ab V}
  (S:FnScope N ps scope) (hd:A.handled=none) (e0:Env0 P w K mg base A outer s H) (hl:vs.length=ps.length) (r:qL vs us)
  (x:InCallC s s.heap.objs.size (Uh (Gw qual scope s.heap.objs.size f cd).kindOf (ps.zip us) fun _=>none) (Sw (s.heap.objs.size+1) scope.names []) (Ui (Gw qual scope s.heap.objs.size f cd).kindOf (ps.zip us) fun _=>none) s1) :
  Inv (dD CX P w K mg base N qual scope f cd A outer s H E) [] (yG N vs) H s1:=by
 have hpl:ps.length≤N.length:=by have:=congrArg Mv S.pre;rw[Dp] at this;omega
 obtain⟨h1,tk,rfl,hk⟩:=x.done;have noA:∀ b:Af,b ∉ (dD CX P w K mg base N qual scope f cd A outer s H E).ex:=fun b z=>absurd (show b∈([]:Ab Af) from z) (by simp)
 refine⟨⟨e0.mod,S.kind,rfl,rfl,As _,fun y z c h1 h2=>?_,fun y hy=>?_,fun y c _ h=>?_,fun _=>hd,Tw e0.frames,.inr ⟨rfl,rfl⟩,fun b z=>absurd z (noA b),e0.bs,e0.bsz,fun b _ _=>noA b,fun b z=>absurd z (noA b),e0.funs,e0.frf⟩,
  rfl,e0.bare,Un.kept hk,⟨_,x.toInCall.ns,fun i y v h1 h2 h3=>?_⟩,fun y c h=>⟨_,x.cell y c h⟩,e0.hok.fresh (As _),fun y c h=>?_,fun p hp=>absurd (show p∈([]:Ab (Af × Cq)) from hp) (by simp),e0.hok.kept hk,?_⟩
 ·exact name_of_addr x.apart (Fw h1) (Fw h2)
 ·have hy:scope.names.lookup y=Aa .cell∨scope.names.lookup y=Aa .free:=hy
  rcases hy with hy|hy
  ·exact cE hy
  ·exact absurd rfl (S.nofree _ (Fw hy))
 ·exact Lo (x.above y c (Fw h))
 ·have hi:i<vs.length:=by
   unfold yG at h2;by_cases hi:i<vs.length
   ·exact hi
   ·rw[Dd (by simpa using hi)] at h2
    rw[Lp] at h2
    split at h2 <;> cases h2
  have ha:vs[i]? = Aa v:=by
   unfold yG at h2;rw[Bj (by simpa using hi),Dv] at h2
   cases e:vs[i]? with
   |none=>rw[e] at h2;cases h2
   |some a=>rw[e] at h2;cases h2;rfl
  obtain⟨u,hu,rv⟩:=r.get ha;have hp:ps[i]? = Aa y:=by
   rw[← S.pre,Lh om];exact h1
  have ndP:ps.Nodup:=by rw[← S.pre];exact S.nd.sublist (List.take_sublist _ _)
  refine⟨u,rv,?_⟩;rcases S.par y (Ch hp) with k|k
  ·exact .inl ⟨k,r9 ndP hp hu k⟩
  ·obtain⟨c,e⟩:=cE (n:=s.heap.objs.size+1) k
   refine .inr ⟨.inl k,c,e,?_⟩;have q:=x.cell y c e;rw[r0 ndP hp hu (by show scope.names.lookup y≠_;rw[k];decide)] at q
   exact q
 ·exact e0.hok.fresh (Lo (x.above y c (Fw h)))
 ·unfold yG
  show _=N.length;rw[Ca,Ar,List.length_replicate];omega
theorem CC {CX:CXT}{P:Bm}{w:Cb}{K:Ak}{mg:Ax→Al Ac}{base:Bs}{k:Ai}{f:Af}{name qual:Ax}{params:Arguments}{body:Ab Fl}{scope:Gp}{dV kV doc pm cdv ct oc:Ac}{an od:Al Af}
  {osl:Aw (Al Ac)} {N ps:Ab Ax} {sp:Sp} (lk:K.lookup f=Aa ⟨oc,od,.func (Hk name qual params body scope dV kV doc pm an cdv ct),osl⟩) (hcd:Ma K cdv qual=true) (S:FnScope N ps scope)
  (len:∀ vs H Q E,sp vs H Q E→vs.length=ps.length)
  (hbody:∀ (A:Bz) (outer:Ab Ks) (s:Ag) (H:Hp) (vs:Ab V) (Q:VK) (E:XK),Room k (A.deeper (Gw qual scope s.heap.objs.size f cdv))→sp vs H Q E →
   ∃ t,PSs (dD CX P w K mg base N qual scope f cdv A outer s H E) body t∧t { nx:=fun _ H'=>Q .non H',rt:=Q } (yG N vs) H) :
  FnOk P w K mg base CX (k+1) f (Hk name qual params body scope dV kV doc pm an cdv ct) ps sp:=by
 refine⟨len,fun A outer s H args us vs Q E hr e0 hb r hsp=>?_⟩;have hl:=len _ _ _ _ hsp;have KX:K.In s.heap:=e0.mod.kin.keeps fun b o e=>(e0.bs b o e).1;have lim:s.heap.NoLimit:=e0.mod.nolimit.keeps fun b o e=>(e0.bs b o e).1;have hkind:∀ y∈ps.zip us,scope.names.lookup y.1=Aa .local ∨ (scope.names.lookup y.1=Aa .cell∧((Sw (s.heap.objs.size+1) scope.names []).lookup y.1).isSome=true):=fun ⟨n,v⟩ hy=>by
  rcases S.par n (Ny hy).1 with q|q
  ·exact .inl q
  ·exact .inr ⟨q,Ml _ _ _ (.inl q)⟩
 refine Sx hr.depth (KX _ _ lk) rfl S.co S.gen rfl (Vj KX hcd) (hb _ _ _ _ ?_);refine Pj S.kind hkind fun env he s1 x=>?_;subst he;refine⟨lim.keeps x.toInCall.keep,codeAny_func ?_⟩;obtain⟨t,ht,hq⟩:=hbody A outer s H vs Q E (hr.deeper _) hsp;have I:Inv (dD CX P w K mg base N qual scope f cdv A outer s H E) [] (yG N vs) H s1:=rK S hr.hd e0 hl r x;refine Hz (ht [] s1 (yG N vs) H _ I hq) (fun fl s' hs=>?_) fun e s' hs=>hs;have fin:∀ {σ' : St} {H':Hp} {v:V} {u:Ac},Inv (dD CX P w K mg base N qual scope f cdv A outer s H E) [] σ' H' s'→qK v u→Q v H'→CE outer P w H s Q u s':=
  fun {σ' H' v u} J rv q=>⟨v,H',J.os,J.bare,J.base,J.hok,rv,q⟩
 cases fl with
 |ret u =>
  obtain⟨v,σ',H',J,rv,q⟩:=hs;exact fin J rv q
 |next =>
  obtain⟨σ',H',J,q⟩:=hs;exact fin (v:=V.non) (u:=Dj) J rfl q
 |brk =>
  obtain⟨_,_,_,q⟩:=hs;exact An q
 |cont =>
  obtain⟨_,_,_,q⟩:=hs;exact An q
end _L
namespace _H
open PySem PyProof.Rows
def lexLt:Ab Aj→Ab Aj→Aq
 |[],[]=>false
 |[],_::_=>true
 |_::_,[]=>false
 |x::xs,y::ys=>if x=y then lexLt xs ys else decide (x<y)
theorem lexLt_cons (x y:Aj)(xs ys:Ab Aj):lexLt (x::xs) (y::ys)=if x=y then lexLt xs ys else decide (x<y):=rfl
theorem lexLt_nil_nil:lexLt [] []=false:=rfl
theorem sA (y:Aj)(ys:Ab Aj):lexLt [] (y::ys)=true:=rfl
theorem dZ (x:Aj)(xs:Ab Aj):lexLt (x::xs) [] = false:=rfl
theorem K3 (A:Bz)(s:Ag)(a:Aj)(t:Sr)(c:Aj)(u:Sr):∃ e,SeqAt.EqAt A s (.int a t) (.int c u) e∧(e=true↔a=c):=
 ⟨(a == c),SeqAt.EqAt.int_int a t c u,by simp⟩
theorem GS (A:Bz)(s:Ag)(a:Aj)(t:Sr)(c:Aj)(u:Sr)(prog:Bm)(w:Cb)(E:Ac→Ag→Prop)(Q:Ac→Ag→Prop)(h:Q (.bool (decide (a<c))) s) :
  Ao (Au prog w) A (richCompare .Lt (.int a t) (.int c u)) Q E s:=
 (Uj h:Ao (Au prog w) A (Dt .Lt (.int a t) (.int c u)) Q E s)
section
open PySem.SeqAt
open PySem.AutoSeq1 (wpAny_loadPart')
open PySem.MeetsSeq PySem.MeetsSeq2 PySem.MeetsSeq3
theorem eK (l b:Af)(items items2:Aw Ac)(n n2:Ai)(dd dd2:Al Af)(sl sl2:Aw (Al Ac))(ns ms:Ab Aj)(hi:Jg items.toList ns)(hj:Jg items2.toList ms) :
  Meets (Hs.«tuple.__lt__» ⟨[.ref l,.ref b],[]⟩)
   (fun _ R s=>s.heap.get? l=Aa { cls:=.type "tuple",dict:=dd,data:=.seq items n,slots:=sl } ∧ s.heap.get? b=Aa { cls:=.type "tuple",dict:=dd2,data:=.seq items2 n2,slots:=sl2 } ∧
    R (.ok (.ret (.bool (lexLt ns ms)))) s):=
 .of_wp fun prog w A R s h=>by
  obtain⟨hp,g,d,tk,os⟩:=s;obtain⟨hl,hb,h⟩:=h;have f2:=AutoSeq1.sub_tuple_tuple;have z1:items.size=ns.length:=by rw[← hi.length];simp
  have z2:items2.size=ms.length:=by rw[← hj.length];simp
  wp_walk using wpAny_loadPart' hl,wpAny_loadPart' hb,Mw _ (fun rest b s'=>b.1=none∧s'=⟨hp,g,d,tk,os⟩∧∃ (vs ws:Ab Ac) (ns' ms':Ab Aj),rest=vs.zip ws ∧
   Jg vs ns'∧Jg ws ms'∧ns'.length+items2.size=ms'.length+items.size∧R (.ok (.ret (.bool (lexLt ns' ms')))) ⟨hp,g,d,tk,os⟩) _
  case turn =>
   rintro⟨y,x⟩ rest b s' ⟨hb',rfl,vs,ws,ns',ms',hz,hvi,hwi,hlen,hR⟩;cases hvi with
   |nil=>rw[List.zip_nil_left] at hz;cases hz
   |cons a t hvi' =>
    cases hwi with
    |nil=>rw[List.zip_nil_right] at hz;cases hz
    |cons c u hwi' =>
     rw[Pc] at hz;injection hz with hyx hrest
     injection hyx with hy hx
     subst hy hx;rw[lexLt_cons] at hR;simp only[Cd] at hlen;obtain⟨e,he,hiff⟩:=K3 A.in1 ⟨hp,g,d,tk,os⟩ a t c u;refine Ad (he prog w _ _ ?_);cases e with
     |true =>
      rw[Bl (hiff.mp rfl)] at hR
      wp_walk
      exact⟨rfl,rfl,_,_,_,_,hrest,hvi',hwi',by omega,hR⟩
     |false =>
      rw[Bk (fun q=>absurd (hiff.mpr q) Gs)] at hR;have hri:=GS A.in1 ⟨hp,g,d,tk,os⟩ a t c u prog w
      wp_walk using hri
      exact⟨_,rfl,by simpa using hR⟩
  case fin =>
   rintro⟨b1,b2⟩ s' ⟨hb',rfl,vs,ws,ns',ms',hz,hvi,hwi,hlen,hR⟩;simp only at hb';subst hb';have hv:lexLt ns' ms'=decide (items.size<items2.size):=by
    cases hvi with
    |nil =>
     cases hwi with
     |nil =>
      simp only[Ge] at hlen;rw[lexLt_nil_nil];exact(Df om).symm
     |cons c u hw =>
      simp only[Ge,Cd] at hlen;rw[sA];exact(Cu om).symm
    |cons a t hv =>
     cases hwi with
     |nil =>
      simp only[Ge,Cd] at hlen;rw[dZ];exact(Df om).symm
     |cons c u hw =>
      rw[Pc] at hz;cases hz
   rw[hv] at hR
   wp_walk
   exact⟨_,rfl,by simpa [Xk] using hR⟩
  case h =>
   exact⟨rfl,rfl,items.toList,items2.toList,ns,ms,rfl,hi,hj,by omega,h⟩
end
section
variable {prog:Bm}{w:Cb}{A:Bz}{E:Ac→Ag→Prop}{s:Ag}
theorem lt_tupInts {l b:Af}{items items2:Aw Ac}{ns ms:Ab Aj}{Q:Ac→Ag→Prop}(hl:Ow s.heap l items)(hb:Ow s.heap b items2)(hi:Jg items.toList ns)(hj:Jg items2.toList ms)
  (hu:A.units<Fg) (h:Q (.bool (lexLt ns ms)) s):Ao (Au prog w) A (Dt .Lt (.ref l) (.ref b)) Q E s:=by
 obtain⟨⟨cls,dd,data,sl⟩,ho,hc,n,hd⟩:=id hl;obtain⟨⟨cls2,dd2,data2,sl2⟩,ho2,hc2,n2,hd2⟩:=id hb;simp only at hc hd hc2 hd2;subst hc hd hc2 hd2;exact richCompare_meets_room (op:=.Lt) ⟨_,ho,rfl⟩ ⟨_,ho2,rfl⟩ PySem.F.slot_tuple_lt PySem.F.entry_tuple_lt (PySem.F.args_tuple_lt_2 _ _) (eK l b items items2 n n2 dd dd2 sl sl2 ns ms hi hj)
  ⟨ho,ho2,show Fv (lexLt ns ms)≠Value.notImplemented∧Q (.bool (lexLt ns ms)) s from⟨(fun x=>nomatch x),h⟩⟩ hu
theorem cat_tup {t b:Af}{vs ws:Ab Ac}{Q:Ac→Ag→Prop}(ht:Ow s.heap t vs.toArray)(hb:Ow s.heap b ws.toArray)(hv:vs≠[])
  (h1:ws=[]→Q (.ref t) s) (h2:ws≠[]→Q (.ref s.heap.objs.size) { s with heap:=s.heap.push { cls:=.type "tuple",data:=.seq (vs++ws).toArray } })
  (hsz:vs.length+ws.length≤sizeLine):Ao (Au prog w) A (Ex .Add (.ref t) (.ref b)) Q E s:=by
 obtain⟨⟨cls,dd,data,sl⟩,ho,hc,n,hd⟩:=id ht;obtain⟨⟨cls2,dd2,data2,sl2⟩,ho2,hc2,n2,hd2⟩:=id hb;simp only at hc hd hc2 hd2;subst hc hd hc2 hd2;have e:vs.toArray++ws.toArray=(vs++ws).toArray:=by simp
 by_cases hw:ws=[]
 ·exact Vu ⟨_,ho,rfl⟩ ⟨_,ho2,rfl⟩ Re Uk Mm Lq (Li _ _)
   (tuple_addW1 t b vs.toArray ws.toArray n n2 dd dd2 sl sl2 (by simpa using hv) (by simp[hw])) ⟨ho,ho2,h1 hw⟩
 ·refine Vu ⟨_,ho,rfl⟩ ⟨_,ho2,rfl⟩ Re Uk Mm Lq (Li _ _)
   (tuple_addW2 t b vs.toArray ws.toArray n n2 dd dd2 sl sl2 (by simpa using hv) (by simpa using hw) (by rw[Bb,Bb];exact hsz)) ⟨ho,ho2,?_⟩
  rw[e];exact h2 hw
def sIx (n d:Ai):Al Aj→Ai
 |none=>d
 |some v=>if v<0 then (v+(n:Aj)).toNat else min v.toNat n
theorem sIx_none (n d:Ai):sIx n d none=d:=rfl
theorem sIx_nat (n d k:Ai):sIx n d (Aa (k:Aj))=min k n:=by
 show (if (k:Aj)<0 then ((k:Aj)+(n:Aj)).toNat else min (k:Aj).toNat n)=min k n
 rw[Bk om,Gh]
theorem EK (n d:Ai)(hd:d≤n)(o:Al Aj):sIx n d o≤n:=by
 cases o with
 |none=>exact hd
 |some v =>
  show (if v<0 then (v+(n:Aj)).toNat else min v.toNat n)≤n
  by_cases hv:v<0
  ·rw[Bl hv];omega
  ·rw[Bk hv];exact Nat.min_le_right _ _
theorem oH (v:Aj)(n d:Ai):(if v<0 then max (v+(n:Aj)) 0 else min v (n:Aj))=((sIx n d (Aa v):Ai):Aj):=by
 show (if v<0 then max (v+(n:Aj)) 0 else min v (n:Aj))=(((if v<0 then (v+(n:Aj)).toNat else min v.toNat n):Ai):Aj)
 by_cases hv:v<0
 ·simp only[Bl hv];omega
 ·simp only[Bk hv];omega
theorem ZU (lo hi:Al Aj)(n:Ai):Gi lo hi 1 (n:Aj)=(((sIx n 0 lo:Ai):Aj),((sIx n n hi:Ai):Aj)):=by
 have h1:¬ ((1:Aj)<0):=by omega
 unfold Gi;simp only[h1,Ej];refine Aa5 ?_ ?_
 ·cases lo with
  |none=>rfl
  |some v=>exact oH v n 0
 ·cases hi with
  |none=>rfl
  |some v=>exact oH v n n
theorem XM (i j:Ai):Gj (i:Aj) (j:Aj) 1=j-i:=by
 unfold Gj;have h1:(1:Aj)>0:=by omega
 simp only[h1,Dq,Int.ediv_one]
 split <;> omega
theorem lU {v:Ac}{o:Al Aj}{Q:Al Aj→Ag→Prop}(p:Pk v o)(h:Q o s):Ao (Au prog w) A (Ys v) Q E s:=by
 cases p with
 |none=>exact OS h
 |int i t=>exact slicePart_int h
theorem gW {sl:Af}{vl vu:Ac}{lo hi:Al Aj}{n:Ai}{Q:Aj × Aj × Ai→Ag→Prop}(hs:s.heap.IsSliceOf sl vl vu .none)(pl:Pk vl lo)(pu:Pk vu hi)
  (h:Q (((sIx n 0 lo:Ai):Aj),1,sIx n n hi-sIx n 0 lo) s):Ao (Au prog w) A (Ik (.ref sl) (pure (n:Aj))) Q E s:=by
 obtain⟨os,hos,hcs,hds⟩:=id hs;unfold Ik Pz;refine Ad (Ad (Dx hos hds (x:=vl) rfl (Ad (Dx hos hds (x:=vu) rfl (Ad (Dx hos hds (x:=.none) rfl (Am ?_)))))));refine Ad (OS ?_);show Ao _ _ (if ((1:Aj) == 0)=true then _ else _) _ _ s
 rw[Bk (by decide)]
 refine Ad (lU pl (Ad (lU pu (Ad (Am ?_)))));show Ao _ _ (match Gi lo hi 1 (n:Aj) with|(lo,hi)=>pure (lo,(1:Aj),Gj lo hi 1)) _ _ s
 rw[ZU lo hi n];show Ao _ _ (pure (((sIx n 0 lo:Ai):Aj),(1:Aj),Gj ((sIx n 0 lo:Ai):Aj) ((sIx n n hi:Ai):Aj) 1)) _ _ s;rw[XM];exact Am h
theorem GB (xs:Aw Ac)(i k:Ai):((Do k).filterMap fun (m:Ai)=>xs[((i:Aj)+(m:Aj)*1).toNat]?).toArray=((xs.toList.drop i).take k).toArray:=by
 have e:(fun (m:Ai)=>xs[((i:Aj)+(m:Aj)*1).toNat]?)=fun m=>xs[i+m]?:=by
  funext m
  have:((i:Aj)+(m:Aj)*1).toNat=i+m:=by omega
  rw[this]
 rw[e];have:=pick_run xs i k;rw[List.filterMap_map] at this;have e2:((fun x=>xs[x]?)∘fun x=>i+x)=fun m=>xs[i+m]?:=rfl;rw[e2] at this;rw[this]
theorem getItem_tuple_cut {t sl:Af}{items:Aw Ac}{vl vu:Ac}{lo hi:Al Aj}{Q:Ac→Ag→Prop}(ht:Ow s.heap t items)(hs:s.heap.IsSliceOf sl vl vu .none)(pl:Pk vl lo)(pu:Pk vu hi)
  (hw:¬ (sIx items.size 0 lo=0∧sIx items.size items.size hi=items.size))
  (h:Q (.ref s.heap.objs.size) { s with heap:=s.heap.push { cls:=.type "tuple",data:=.seq ((items.toList.drop (sIx items.size 0 lo)).take (sIx items.size items.size hi-sIx items.size 0 lo)).toArray } })
  (hsz:items.size≤sizeLine):Ao (Au prog w) A (Mx (.ref t) (.ref sl)) Q E s:=by
 have htake:sizeOk (.seq ((items.toList.drop (sIx items.size 0 lo)).take (sIx items.size items.size hi-sIx items.size 0 lo)).toArray):=by
  show ((items.toList.drop (sIx items.size 0 lo)).take (sIx items.size items.size hi-sIx items.size 0 lo)).toArray.size≤sizeLine;rw[Bb,Dp,Ft,Bh];omega
 have hj:sIx items.size items.size hi≤items.size:=EK _ _ (As _) hi;obtain⟨os,hos,hcs,hds⟩:=id hs;have hTs:s.TypeIs (.ref sl) "slice":=⟨os,hos,hcs⟩;unfold Mx
 try with_reducible refine Eg ?_
 first|refine Ad (Am ?_)|skip
 refine Ad (Qb ht.typeIs (by decide) ?_)
 refine Ad (Dz (name:=Hl "__getitem__") ht.typeIs Dr
  (Ei Dr ht.typeIs On ?_ (Pd _ _)))
 show Ao _ _ (Kp (.ref t) >>= _) _ _ s;refine Ad (Ul ht ?_);refine Ad (Km hTs ?_);rw[Bl (by decide)]
 refine Ad (gW hs pl pu ?_);have hno:¬ ((((sIx items.size 0 lo:Ai):Aj) == 0&&(1:Aj) == 1&&(sIx items.size items.size hi-sIx items.size 0 lo) == items.size)=true):=by
  intro q;rw[Bo,Bo] at q;have q1:((sIx items.size 0 lo:Ai):Aj)=0:=eq_of_beq q.1.1;have q2:sIx items.size items.size hi-sIx items.size 0 lo=items.size:=eq_of_beq q.2;exact hw ⟨by omega,by omega⟩
 show Ao _ _ (if (((sIx items.size 0 lo:Ai):Aj) == 0&&(1:Aj) == 1&&(sIx items.size items.size hi-sIx items.size 0 lo) == items.size)=true then _ else _) _ _ s
 rw[Bk hno,GB]
 first
  |exact Ad (m:=Fe _) (Du (Am ⟨_,rfl,Am h⟩) htake)
  |exact Ad (m:=Fe _) (Du (Ad (Am (Am ⟨_,rfl,Am h⟩))) htake)
  |exact Ad (Ad (m:=Fe _) (Du (Am (Am ⟨_,rfl,Am h⟩)) htake))
  |exact Ad (Ad (m:=Fe _) (Du (Am ⟨_,rfl,Am h⟩) htake))
end
end _H
namespace _L
open PySem PySem.Spec PyProof.Rows
abbrev TO:=St→Hp→(Al Aj→Hp→Prop)→Prop
def PO (X:Cx)(e:Al By)(t:TO):Prop:=
 ∀ (pins:Ab (Af × Cq)) (s:Ag) (σ : St) (H:Hp) (Q:Al Aj→Hp→Prop),Inv X pins σ H s→t σ H Q →
  Ao (Au X.prog X.w) X.A (evalPart e X.env) (fun u s'=>∃ o H',Inv X pins σ H' s'∧Pk u o∧Q o H') X.xe s
def NT:TO:=fun _ H Q=>Q none H
def AI (t:TE):TO:=fun σ H Q=>t σ H fun x H1=>∃ i,x=.int i∧Q (Aa i) H1
theorem bO {ns:Ab Aj}:∀ {us:Ab Ac},qL (ns.map V.int) us→Jg us ns:=by
 induction ns with
 |nil=>intro us r;rw[Vv] at r;cases r;exact .nil
 |cons n ns ih =>
  intro us r;rw[Ek] at r;cases r with
  |cons r1 r2 =>
   obtain⟨t,e⟩:=r1;subst e;exact .cons n t (ih r2)
section
variable {X:Cx}{e:By}{te:TE}{lo hi:Al By}{tl th:TO}{pos p2:Fk}
theorem N6:PO X none NT:=by
 intro pins s σ H Q I h;rw[Um];exact Am ⟨none,H,I,.none,h⟩
theorem N7 (h:PE X e te):PO X (Aa e) (AI te):=by
 intro pins s σ H Q I hw;rw[evalPart_some];refine thn (h pins s σ H _ I hw) fun u s1 ⟨x,H1,I1,r1,q1⟩=>?_;obtain⟨i,rfl,q⟩:=q1;obtain⟨t,rfl⟩:=r1;exact⟨Aa i,H1,I1,.int i t,q⟩
def SlR (X:Cx)(r:V→Al Aj→Al Aj→Hp→VK→Prop):Prop:=
 ∀ (pins:Ab (Af × Cq)) (s:Ag) (σ : St) (H:Hp) (x:V) (v vl vu:Ac) (lo hi:Al Aj) (sl:Af) (Q:VK),Inv X pins σ H s→qK x v→s.heap.IsSliceOf sl vl vu .none→Pk vl lo→Pk vu hi→r x lo hi H Q →
  ∃ T id,typeLookup (.type T) "__getitem__" = pure (Aa (.builtin id))∧s.TypeIs v T∧Ao (Au X.prog X.w) X.A (Mx v (.ref sl)) (EP X pins σ Q) X.xe s
theorem SlR.or {r r':V→Al Aj→Al Aj→Hp→VK→Prop}(h:SlR X r)(h':SlR X r'):SlR X (fun x lo hi H Q=>r x lo hi H Q∨r' x lo hi H Q):=by
 intro pins s σ H x v vl vu lo hi sl Q I rx hs pl pu q;rcases q with q|q
 ·exact h pins s σ H x v vl vu lo hi sl Q I rx hs pl pu q
 ·exact h' pins s σ H x v vl vu lo hi sl Q I rx hs pl pu q
def tSl (r:V→Al Aj→Al Aj→Hp→VK→Prop)(te:TE)(tl th:TO):TE:=fun σ H Q=>te σ H fun x H1=>tl σ H1 fun l H2=>th σ H2 fun u H3=>r x l u H3 Q
theorem G8 {r:V→Al Aj→Al Aj→Hp→VK→Prop}(hr:SlR X r)(he:PE X e te)(hl:PO X lo tl)(hu:PO X hi th):PE X (.Subscript e (.Slice lo hi none p2) pos) (tSl r te tl th):=by
 intro pins s σ H Q I h;refine Yt (thn (he pins s σ H _ I h) fun v s1 ⟨x,H1,I1,r1,q1⟩=>?_);refine wpAny_Slice (thn (hl pins s1 σ H1 _ I1 q1) fun vl s2 ⟨l,H2,I2,pl,q2⟩=>thn (hu pins s2 σ H2 _ I2 q2) fun vu s3 ⟨u,H3,I3,pu,q3⟩=>?_);rw[Um];refine Am ?_;have I4:Inv X pins σ H3 { s3 with heap:=s3.heap.push { cls:=.type "slice",data:=.fields #[vl,vu,.none] } }:=I3.kept (t':=s3.toks) fun b ob q=>Ah _ q
 obtain⟨T,id,hT,ht,hg⟩:=hr pins { s3 with heap:=s3.heap.push { cls:=.type "slice",data:=.fields #[vl,vu,.none] } } σ H3 x v vl vu l u s3.heap.objs.size Q I4 r1 (Vk ..) pl pu q3
 show Ao (Au X.prog X.w) X.A (Uo e (.Slice lo hi none p2) v (.ref s3.heap.objs.size)) (EP X pins σ Q) X.xe { s3 with heap:=s3.heap.push { cls:=.type "slice",data:=.fields #[vl,vu,.none] } }
 exact tail_any (ops:=[.ref s3.heap.objs.size,v]) ht hT hg (by with_unfolding_all rfl)
def fU (xs:Ab V)(lo hi:Al Aj):Ab V:=(xs.drop (_H.sIx xs.length 0 lo)).take (_H.sIx xs.length xs.length hi-_H.sIx xs.length 0 lo)
theorem tR (xs:Ab V)(lo hi:Al Aj):(fU xs lo hi).length≤xs.length:=by
 unfold fU;rw[Dp,Ft];omega
def IY (K:Ak):V→Al Aj→Al Aj→Hp→VK→Prop:=fun x lo hi H Q=>∃ a xs,x=.ref a∧SqT K H a xs ∧
 ¬ (_H.sIx xs.length 0 lo=0∧_H.sIx xs.length xs.length hi=xs.length)∧∀ p,H p=none→Q (.ref p) (upd H p (.tup (fU xs lo hi)))
theorem EN:SlR X (IY X.K):=by
 intro pins s σ H x v vl vu lo hi sl Q I rx hs pl pu h;obtain⟨a,xs,rfl,hx,hw,q⟩:=h;cases rx;obtain⟨its,r,ht,hz⟩:=I.tuple hx;have hlen:its.toArray.size=xs.length:=by rw[Bb];exact r.length.symm
 refine⟨"tuple",_,Dr.lookup,ht.typeIs,?_⟩;refine _H.getItem_tuple_cut ht hs pl pu (by rw[hlen];exact hw) ?_ (by rw[hlen];exact hz)
 rw[hlen];refine⟨.ref s.heap.objs.size,_,I.laid (t':=s.toks) (o:=.tup (fU xs lo hi)) (fun b ob q=>Ah _ q) (As _) ?_,rfl,q _ (I.hok.fresh (As _))⟩;exact⟨Ee (tR xs lo hi) hz,_,(r.drop (_H.sIx xs.length 0 lo)).take (_H.sIx xs.length xs.length hi-_H.sIx xs.length 0 lo),Wi _ _⟩
end
end _L
namespace _L
open PySem PySem.Spec PyProof.Rows
def ixN (n:Ai)(i:Aj):Al Ai:=if 0≤i then (if i<n then Aa i.toNat else none) else if -(n:Aj)≤i then Aa (i+n).toNat else none
def atI {α : Type}(xs:Ab α)(i:Aj):Al α:=(ixN xs.length i).bind fun j=>xs[j]?
theorem Q1 {n:Ai}{i:Aj}{j:Ai}(h:ixN n i=Aa j):seqIndex? i n=Aa j∧j<n ∧ -(n:Aj)≤i∧i<n:=by
 unfold ixN at h;by_cases h0:0≤i
 ·rw[Bl h0] at h
  by_cases h1:i<n
  ·rw[Bl h1] at h
   have e:i.toNat=j:=Cw h;exact⟨by rw[Xl h0 h1,e],by omega,by omega,h1⟩
  ·rw[Bk h1] at h;cases h
 ·rw[Bk h0] at h
  by_cases h1 : -(n:Aj)≤i
  ·rw[Bl h1] at h
   have e:(i+n).toNat=j:=Cw h;exact⟨by rw[seqIndex_neg om h1,e],by omega,h1,by omega⟩
  ·rw[Bk h1] at h;cases h
theorem oF {α : Type}{xs:Ab α}{i:Aj}{v:α}(h:atI xs i=Aa v):∃ j,seqIndex? i xs.length=Aa j∧xs[j]? = Aa v∧j<xs.length ∧ -(xs.length:Aj)≤i∧i<xs.length:=by
 unfold atI at h;cases e:ixN xs.length i with
 |none=>rw[e] at h;cases h
 |some j =>
  rw[e] at h;obtain⟨h1,h2,h3,h4⟩:=Q1 e;exact⟨j,h1,h,h2,h3,h4⟩
theorem d7 {α : Type}{xs:Ab α}{j:Ai}{v:α}(h:xs[j]? = Aa v):atI xs (j:Aj)=Aa v:=by
 have hj:j<xs.length:=(Bf.mp h).1;have e:ixN xs.length (j:Aj)=Aa j:=by
  unfold ixN;rw[Bl om,Bl om];simp
 unfold atI;rw[e];exact h
theorem UY {α : Type}(xs:Ab α)(v:α):atI (xs++[v]) (-1)=Aa v:=by
 have hl:(xs++[v]).length=xs.length+1:=by simp
 have e:ixN (xs++[v]).length (-1)=Aa xs.length:=by
  unfold ixN;rw[hl,Bk (by decide),Bl om]
  congr 1
  omega
 unfold atI;rw[e];show (xs++[v])[xs.length]? = Aa v;simp
def kT (b:By):Prop:=∀ o i,subscripted b false o i=operate [o,i] (Mx o i)
def IxR (X:Cx)(r:R2):Prop:=
 ∀ (value slice:By) (pins:Ab (Af × Cq)) (s:Ag) (σ : St) (H:Hp) (x y:V) (v u:Ac) (Q:VK),Inv X pins σ H s→qK x v→qK y u→r x y H Q →
  subscripted slice false v u=operate [v,u] (Mx v u)→Ao (Au X.prog X.w) X.A (Uo value slice v u) (EP X pins σ Q) X.xe s
def MtR (X:Cx)(id:Ep)(r:V→Ab V→Hp→VK→Prop):Prop:=
 ∀ (pins:Ab (Af × Cq)) (s:Ag) (σ : St) (H:Hp) (x:V) (xs:Ab V) (v:Ac) (us:Ab Ac) (Q:VK),Inv X pins σ H s→qK x v→qL xs us→r x xs H Q →
  Ao (Au X.prog X.w) X.A (call (.builtin id) (v::us)) (EP X pins σ Q) X.xe s
section
variable {X:Cx}{a b:By}{ta tb:TE}{pos:Fk}
theorem IxR.or {r r':R2}(h:IxR X r)(h':IxR X r'):IxR X (fun x y H Q=>r x y H Q∨r' x y H Q):=by
 intro value slice pins s σ H x y v u Q I rx ry q hs;rcases q with q|q
 ·exact h value slice pins s σ H x y v u Q I rx ry q hs
 ·exact h' value slice pins s σ H x y v u Q I rx ry q hs
theorem MtR.or {id:Ep}{r r':V→Ab V→Hp→VK→Prop}(h:MtR X id r)(h':MtR X id r'):MtR X id (fun x xs H Q=>r x xs H Q∨r' x xs H Q):=by
 intro pins s σ H x xs v us Q I rx rs q;rcases q with q|q
 ·exact h pins s σ H x xs v us Q I rx rs q
 ·exact h' pins s σ H x xs v us Q I rx rs q
theorem CZ {r:R2}(hr:IxR X r)(ha:PE X a ta)(hb:PE X b tb)(hs:kT b):PE X (.Subscript a b pos) (tOp r ta tb):=by
 intro pins s σ H Q I h;exact Yt (AZ ha hb I h fun v u s2 x y H2 I2 rx ry q=>hr a b pins s2 σ H2 x y v u Q I2 rx ry q (hs _ _))
def IU (K:Ak):R2:=fun x y H Q=>∃ p xs i v,x=.ref p∧y=.int i∧SqL K H p xs∧atI xs i=Aa v∧Q v H
def IV (K:Ak):R2:=fun x y H Q=>∃ p xs i v,x=.ref p∧y=.int i∧SqT K H p xs∧atI xs i=Aa v∧Q v H
theorem Q2:IxR X (IU X.K):=by
 intro value slice pins s σ H x y v u Q I rx ry h hs;obtain⟨p,xs,i,z,rfl,rfl,hq,he,q⟩:=h;cases rx;obtain⟨t,rfl⟩:=ry;obtain⟨its,r,pl,hz⟩:=I.list hq;obtain⟨j,h1,h2,h3,h4,h5⟩:=oF he;obtain⟨w,ew,rw'⟩:=r.get h2;have hl:=r.length;have hn:=m8;have fin:EP X pins σ Q w s:=⟨z,H,I,rw',q⟩;by_cases h0:0≤i
 ·have hj:i.toNat=j:=by
   rw[Xl h0 h5] at h1;exact Cw h1
  exact item_listR pl.isList h0 om (by rw[hj];simpa using ew) fin hs
 ·have hj:(i+(its.toArray.size:Aj)).toNat=j:=by
   rw[seqIndex_neg om h4] at h1;rw[Bb,← hl];exact Cw h1
  exact Sa (x:=w) pl.isList.typeIs Wm.lookup
   (wpAny_getItem_list_neg (Q:=fun r s'=>r=w∧EP X pins σ Q r s') pl.isList om (by rw[Bb] <;> omega) om (by rw[hj];simpa using ew) ⟨rfl,fin⟩) hs
theorem k8:IxR X (IV X.K):=by
 intro value slice pins s σ H x y v u Q I rx ry h hs;obtain⟨p,xs,i,z,rfl,rfl,hq,he,q⟩:=h;cases rx;obtain⟨t,rfl⟩:=ry;obtain⟨its,r,pl,hz⟩:=I.tuple hq;obtain⟨j,h1,h2,h3,h4,h5⟩:=oF he;obtain⟨w,ew,rw'⟩:=r.get h2;have hl:=r.length;have hn:=m8;have fin:EP X pins σ Q w s:=⟨z,H,I,rw',q⟩;exact Sa (x:=w) pl.typeIs slot_tuple_getitem.lookup
  (getItem_tuple (j:=j) (Q:=fun r s'=>r=w∧EP X pins σ Q r s') pl om om (by rw[Bb,← hl];exact h1) (by simpa using ew) ⟨rfl,fin⟩) hs
theorem XJ (its:Ab Ac)(n j:Ai)(u:Ac):Ey (·.setIfInBounds j u) { cls:=.type "list",data:=.seq its.toArray n } = { cls:=.type "list",data:=.seq (its.set j u).toArray n }:=by
 simp[Ey]
theorem Inv.lst {pins:Ab (Af × Cq)}{σ : St}{H:Hp}{s:Ag}{p:Af}{xs:Ab V}(I:Inv X pins σ H s)(h:H p=Aa (.lst xs)) :
  ∃ (its:Ab Ac) (n:Ai),qL xs its∧s.heap.get? p=Aa { cls:=.type "list",data:=.seq its.toArray n } ∧ xs.length≤sizeLine:=by
 obtain⟨z,its,n,r,e⟩:=I.hok p _ h;exact⟨its,n,r,e,z⟩
theorem Inv.lstUpd {pins:Ab (Af × Cq)}{σ : St}{H:Hp}{s:Ag}{p:Af}{xs ys:Ab V}{its its':Ab Ac}{n n':Ai}{f:Cq→Cq}(I:Inv X pins σ H s)(h:H p=Aa (.lst xs))
  (ho:s.heap.get? p=Aa { cls:=.type "list",data:=.seq its.toArray n }) (hf:f { cls:=.type "list",data:=.seq its.toArray n } = { cls:=.type "list",data:=.seq its'.toArray n' }) (r:qL ys its') (hz:ys.length≤sizeLine) (t:Ai) :
  Inv X pins σ (upd H p (.lst ys)) { s with heap:=s.heap.update p f,toks:=t }:=by
 have e:(s.heap.update p f).get? p=Aa { cls:=.type "list",data:=.seq its'.toArray n' }:=by
  rw[Fz f ho (by rw[hf] <;> rfl),hf]
 refine I.write (x:=p) (e:=p) (by rw[h];trivial) (.inl rfl) (fun b u hb q=>(Di _ _ (Ho hb)).trans q) ⟨_,e⟩ ?_
 exact⟨hz,its',n',r,e⟩
def A4:V→V→V→Hp→(Hp→Prop)→Prop:=fun o i v H Q=>∃ p xs k j,o=.ref p∧i=.int k∧H p=Aa (.lst xs)∧ixN xs.length k=Aa j∧Q (upd H p (.lst (xs.set j v)))
theorem GW:hJ X A4:=by
 intro pins s σ H o i v ov iv u Q I ro ri rv h;obtain⟨p,xs,k,j,rfl,rfl,hp,hj,q⟩:=h;cases ro;obtain⟨t,rfl⟩:=ri;obtain⟨its,n,r,ho,hz⟩:=I.lst hp;obtain⟨h1,h2,h3,h4⟩:=Q1 hj;have hl:=r.length;have hn:=m8;have I':Inv X pins σ (upd H p (.lst (xs.set j v))) { s with heap:=s.heap.update p (Ey (·.setIfInBounds j u)) }:=
  I.lstUpd hp ho (XJ its n j u) (r.set rv j) (by rw[List.length_set];exact hz) s.toks
 by_cases h0:0≤k
 ·have hk:k.toNat=j:=by
   rw[Xl h0 h4] at h1;exact Cw h1
  exact PySem.W.ki_setAt ho h0 om (by rw[Bb,← hl];exact h4) (by rw[hk];exact⟨_,I',q⟩)
 ·have hk:(k+(its.toArray.size:Aj)).toNat=j:=by
   rw[seqIndex_neg om h3] at h1;rw[Bb,← hl];exact Cw h1
  exact PySem.W.ki_setBack ho om (by rw[Bb,← hl];exact h3) om (by rw[hk];exact⟨_,I',q⟩)
theorem iP (lo hi:Al Aj)(n:Ai):(Lb lo hi none n).1=((_H.sIx n 0 lo:Ai):Aj)∧(Lb lo hi none n).2.1=((_H.sIx n n hi:Ai):Aj)∧(Lb lo hi none n).2.2=1:=by
 refine⟨?_,?_,rfl⟩
 ·cases lo with
  |none=>simp[Lb,_H.sIx]
  |some i =>
   simp only[Lb,_H.sIx,Xm,show (1:Aj)>0 by decide,Dq]
   by_cases h:i<0
   ·simp only[h,Dq] <;> omega
   ·simp only[h,Ej] <;> omega
 ·cases hi with
  |none=>simp[Lb,_H.sIx]
  |some i =>
   simp only[Lb,_H.sIx,Xm,show (1:Aj)>0 by decide,Dq]
   by_cases h:i<0
   ·simp only[h,Dq] <;> omega
   ·simp only[h,Ej] <;> omega
theorem eJ (its:Ab Ac)(lo hi:Al Aj):slicePick its.toArray lo hi none=((its.drop (_H.sIx its.length 0 lo)).take (_H.sIx its.length its.length hi-_H.sIx its.length 0 lo)).toArray:=by
 obtain⟨h1,h2,h3⟩:=iP lo hi its.toArray.size;unfold slicePick;rw[h1,h2,h3];simp only[sliceRange_one,pick_run,Bb] <;> rfl
def IX (K:Ak):V→Al Aj→Al Aj→Hp→VK→Prop:=fun x lo hi H Q=>∃ a xs,x=.ref a∧SqL K H a xs∧∀ p,H p=none→Q (.ref p) (upd H p (.lst (fU xs lo hi)))
theorem ZE:SlR X (IX X.K):=by
 intro pins s σ H x v vl vu lo hi sl Q I rx hs pl pu h;obtain⟨a,xs,rfl,hx,q⟩:=h;cases rx;obtain⟨its,r,ht,hz⟩:=I.list hx;have hlen:=r.length;refine⟨"list",_,Wm.lookup,ht.isList.typeIs,?_⟩;refine wpAny_getItem_list_slice ht.isList hs pl pu .none (by simp) ?_ (by rw[Bb] <;> omega)
 rw[eJ,← hlen];refine⟨.ref s.heap.objs.size,_,I.laid (t':=s.toks) (o:=.lst (fU xs lo hi)) (fun b ob q=>Ah _ q) (As _) ?_,rfl,q _ (I.hok.fresh (As _))⟩;exact⟨Ee (tR xs lo hi) hz,_,0,(r.drop (_H.sIx xs.length 0 lo)).take (_H.sIx xs.length xs.length hi-_H.sIx xs.length 0 lo),Be _ rfl⟩
theorem p7.or {f:Ac}{r r':Ab V→Hp→VK→Prop}(h:p7 X f r)(h':p7 X f r'):p7 X f (fun xs H Q=>r xs H Q∨r' xs H Q):=by
 intro pins s σ H xs us Q I rs q;rcases q with q|q
 ·exact h pins s σ H xs us Q I rs q
 ·exact h' pins s σ H xs us Q I rs q
theorem fS:p7 X (.type "list") (fun xs H Q=>∃ p ys,xs=[.ref p]∧(SqL X.K H p ys∨SqT X.K H p ys)∧∀ l,H l=none→Q (.ref l) (upd H l (.lst ys))):=by
 intro pins s σ H xs us Q I r h;obtain⟨p,ys,rfl,hq,q⟩:=h;obtain⟨u,rfl,rx⟩:=pK r;cases rx;have fin:∀ (its:Ab Ac),qL ys its→ys.length≤sizeLine→∀ (h':Bs) (c':Ai),(∀ b o',s.heap.get? b=Aa o'→h'.get? b=Aa o') →
   h'.get? s.heap.objs.size=Aa { cls:=.type "list",dict:=none,data:=.seq its.toArray c',slots:=#[] } → EP X pins σ Q (.ref s.heap.objs.size) { s with heap:=h' }:=fun its r' hz h' c' kp e =>
  ⟨.ref s.heap.objs.size,_,I.laid (t':=s.toks) kp (As _) (show zV X.prog X.w _ h' _ (.lst ys) from⟨hz,its,c',r',e⟩),rfl,q _ (I.hok.fresh (As _))⟩
 rcases hq with hq|hq
 ·obtain⟨its,r',pl,hz⟩:=I.list hq
  have hlen:=r'.length;obtain⟨o,ho,hc,n,hd⟩:=pl.isList;exact call_list_seq p (.inl rfl) ho hc hd (fun h' c' kp e=>fin its r' hz h' c' kp e) (by simp only[Bb] <;> omega)
 ·obtain⟨its,r',pl,hz⟩:=I.tuple hq
  have hlen:=r'.length;obtain⟨o,ho,hc,n,hd⟩:=pl;exact call_list_seq p (.inr rfl) ho hc hd (fun h' c' kp e=>fin its r' hz h' c' kp e) (by simp only[Bb] <;> omega)
theorem fK:p7 X (.type "tuple") (fun xs H Q=>∃ p ys,xs=[.ref p]∧((SqL X.K H p ys∧∀ l,H l=none→Q (.ref l) (upd H l (.tup ys)))∨(SqT X.K H p ys∧Q (.ref p) H))):=by
 intro pins s σ H xs us Q I r h;obtain⟨p,ys,rfl,h⟩:=h;obtain⟨u,rfl,rx⟩:=pK r;cases rx;rcases h with⟨hq,q⟩|⟨hq,q⟩
 ·obtain⟨its,r',pl,hz⟩:=I.list hq
  have hlen:=r'.length;refine call_tuple_list pl.isList (fun h' kp=>?_) (by simp only[Bb] <;> omega)
  have I1:Inv X pins σ H { s with heap:=h' }:=I.kept (t':=s.toks) kp
  have I2:Inv X pins σ (upd H h'.objs.size (.tup ys)) { s with heap:=h'.push { cls:=.type "tuple",data:=.seq its.toArray } }:=
   I1.laid (t':=s.toks) (fun b o e=>Ah _ e) (As _) (show zV X.prog X.w _ _ _ (.tup ys) from⟨hz,its,r',Wi _ _⟩)
  exact⟨.ref h'.objs.size,_,I2,rfl,q _ (I1.hok.fresh (As _))⟩
 ·obtain⟨its,r',pl,hz⟩:=I.tuple hq
  exact call_tuple_same pl ⟨.ref p,H,I,rfl,q⟩
def tyV (K:Ak)(T:Ep)(x:V)(H:Hp):Prop:=match x with
 |.str _=>T = "str"
 |.int _=>T = "int"
 |.ref p=>(T = "list" ∧ ∃ xs,SqL K H p xs)∨(T = "tuple" ∧ ∃ o,K.lookup p=Aa o∧o.cls=.type "tuple" ∧ o.dict=none) ∨
   (T = "dict" ∧ ((∃ kvs,H p=Aa (.dK kvs))∨∃ kvs,H p=Aa (.dT kvs)))∨(T = "set" ∧ ∃ S n,H p=Aa (.set S n))
 |_=>Fm
theorem UF {pins:Ab (Af × Cq)}{σ : St}{H:Hp}{s:Ag}{T:Ep}{x:V}{v:Ac}(I:Inv X pins σ H s)(r:qK x v)(ty:tyV X.K T x H) :
  s.TypeIs v T∧∀ a,v=.ref a→∃ ob,s.heap.get? a=Aa ob∧ob.dict=none:=by
 cases x with
 |str z =>
  obtain⟨t,rfl⟩:=r;cases (show T = "str" from ty)
  exact⟨typeIs_str s z t,fun _ e=>nomatch e⟩
 |int i =>
  obtain⟨t,rfl⟩:=r;cases (show T = "int" from ty)
  exact⟨Yu s i t,fun _ e=>nomatch e⟩
 |ref p =>
  cases r;rcases ty with⟨rfl,xs,hq⟩|⟨rfl,o,hk,hc,hd⟩|⟨rfl,hk⟩|⟨rfl,S,n,hk⟩
  ·obtain⟨its,_,pl,_⟩:=I.list hq
   refine⟨pl.isList.typeIs,fun a e=>?_⟩;cases e;obtain⟨o,n,e,c,hd,_⟩:=pl;exact⟨o,e,hd⟩
  ·refine⟨⟨o,I.kIn p o hk,hc⟩,fun a e=>?_⟩
   cases e;exact⟨o,I.kIn _ o hk,hd⟩
  ·have z:∃ o,s.heap.get? p=Aa o∧o.ExactDict:=by
    rcases hk with⟨kvs,hk⟩|⟨kvs,hk⟩
    ·obtain⟨_,_,_,_,o,_,_,e,ex,_⟩:=I.hok p _ hk
     exact⟨o,e,ex⟩
    ·obtain⟨_,_,_,_,o,_,_,e,ex,_⟩:=I.hok p _ hk
     exact⟨o,e,ex⟩
   obtain⟨o,e,ex⟩:=z;refine⟨⟨o,e,ex.1⟩,fun a e2=>?_⟩;cases e2;exact⟨o,e,ex.2.1⟩
  ·obtain⟨o,_,_,_,e,ex,_⟩:=I.hok p _ hk
   refine⟨⟨o,e,ex.1⟩,fun a e2=>?_⟩;cases e2;exact⟨o,e,ex.2.1⟩
 |_=>exact An ty
variable {o e:By}{es:Ab By}{to:TE}{t:TA}{name:Ax}{apos cpos:Fk}{T id:Ep}{r:V→Ab V→Hp→VK→Prop}
/- xs.append(e),list.index on a module's tuple .. are MtR facts of 06m -/
end
end _L
namespace _L
open PySem PySem.Spec PyProof.Rows
def MtM (X:Cx)(id:Ep)(r:V→Ab V→Hp→VK→Prop):Prop:=
 ∀ (pins:Ab (Af × Cq)) (s:Ag) (σ : St) (H:Hp) (x:V) (xs:Ab V) (v:Ac) (us:Ab Ac) (Q:VK),Inv X pins σ H s→qK x v→qL xs us→r x xs H Q →
  Ao (Au X.prog X.w) X.A (call (.builtin id) (v::us)) (EP X pins σ Q) X.xe s
theorem qL.one {x:V}{us:Ab Ac}(h:qL [x] us):∃ u,us=[u]∧qK x u:=pK h
theorem qL.two {x y:V}{us:Ab Ac}(h:qL [x,y] us):∃ u v,us=[u,v]∧qK x u∧qK y v:=W2 h
theorem qL.rep {xs:Ab V}{us:Ab Ac}(h:qL xs us):∀ k:Ai,qL (Dl k xs).flatten (Dl k us).flatten
 |0=>.nil
 |k+1=>by
  rw[Hf,Hf,Iw,Iw];exact qL.append h (qL.rep h k)
theorem rH (its:Ab Ac):∀ (k:Ai) (acc:Ab Ac),
  Yv (fun x1 x2=>x1++x2) acc.toArray (Dl k its.toArray)=(acc++(Dl k its).flatten).toArray
 |0,acc=>by simp
 |k+1,acc=>by
  have e:acc.toArray++its.toArray=(acc++its).toArray:=by simp
  have e2:(acc++its)++(Dl k its).flatten=acc++(Dl (k+1) its).flatten:=by
   rw[Hf,Iw,Cj]
  rw[← e2,← rH its k (acc++its),← e,Hf,Jv]
section
variable {X:Cx}{pins:Ab (Af × Cq)}{σ : St}{H:Hp}{s:Ag}{l b:Af}{xs ys zs:Ab V}
theorem Inv.lset {its its':Ab Ac}{n:Ai}{f:Aw Ac→Aw Ac}{t':Ai}(I:Inv X pins σ H s)(hH:H l=Aa (.lst xs))
  (e:s.heap.get? l=Aa { cls:=.type "list",data:=.seq its.toArray n }) (hf:f its.toArray=its'.toArray) (hv:qL ys its') (hz:ys.length≤sizeLine) :
  Inv X pins σ (upd H l (.lst ys)) { s with heap:=s.heap.update l (Ey f),toks:=t' }:=by
 have q:=Xn e f;rw[hf] at q;refine I.write (x:=l) (e:=l) (by rw[hH];exact trivial) (.inl rfl) (fun b' u hb hu=>(Di s.heap (Ey f) (Ho hb)).trans hu) ⟨_,q⟩ ?_
 exact⟨hz,its',_,hv,q⟩
theorem Inv.lstM (I:Inv X pins σ H s)(hH:H l=Aa (.lst xs)):xs.length≤sizeLine∧∃ (its:Ab Ac) (n:Ai),qL xs its∧xs.length=its.length∧s.heap.get? l=Aa { cls:=.type "list",data:=.seq its.toArray n }:=by
 obtain⟨z,its,n,r,e⟩:=I.hok l _ hH;exact⟨z,its,n,r,r.length,e⟩
theorem KZ {n:Ai}(h:n≤sizeLine):Lj n=false:=by
 unfold Lj;exact Df om
end
section
variable {X:Cx}
def ND:V→Ab V→Hp→VK→Prop:=fun x vs H Q=>∃ l xs y,x=.ref l∧vs=[y]∧H l=Aa (.lst xs)∧xs.length<sizeLine∧Q .non (upd H l (.lst (xs++[y])))
theorem YZ:MtM X "list.append" ND:=by
 intro pins s σ H x vs v us Q I rx rv h;obtain⟨l,xs,y,rfl,rfl,hH,hz,q⟩:=h;cases rx;obtain⟨u,rfl,ru⟩:=rv.one;obtain⟨z,its,n,r,hl,e⟩:=I.lstM hH;refine Mn Vl ⟨_,e,rfl⟩ Up (Tx _ _) (Wn l its.toArray n u (by rw[Bb];omega)) ⟨e,?_⟩
 refine⟨.non,_,I.lset (its':=its++[u]) hH e (by simp) (r.append (.cons ru .nil)) ?_,rfl,q⟩
 rw[Ca,My];omega
theorem TH {α : Type}(xs:Ab α)(k:Ai):(Dl k xs).flatten.length=k*xs.length:=by
 induction k with
 |zero=>simp
 |succ k ih=>rw[Hf,Iw,Ca,ih,Nat.succ_mul,Nat.add_comm]
end
end _L
namespace _L
open PySem PySem.Spec PyProof.Rows
section
variable {κ : Type}[Xf κ]
def uE (kvs:Ab (κ × V))(k:κ):Al V:=(kvs.find? fun kv=>decide (kv.1=k)).map (·.2)
def uB (kvs:Ab (κ × V))(k:κ)(v:V):Ab (κ × V):=
 if (kvs.any fun kv=>decide (kv.1=k))=true then kvs.map (fun kv=>if kv.1=k then (kv.1,v) else kv) else kvs++[(k,v)]
theorem nM {p:κ × V}{r:Ab (κ × V)}{k:κ}(e:p.1=k):uE (p::r) k=Aa p.2:=by simp[uE,Jw,e]
theorem nK {p:κ × V}{r:Ab (κ × V)}{k:κ}(e:¬ p.1=k):uE (p::r) k=uE r k:=by simp[uE,Jw,e]
theorem iV (k:κ):∀ kvs:Ab (κ × V),(kvs.any fun kv=>decide (kv.1=k))=(uE kvs k).isSome
 |[]=>rfl
 |p::r=>by
  rw[Jx];by_cases e:p.1=k
  ·simp only[nM e,Cu e,Bool.true_or,Option.isSome_some]
  ·rw[nK e,Df e,Mz];exact iV k r
theorem pN (kvs:Ab (κ × V))(k:κ)(v:V):(uB kvs k v).length≤kvs.length+1:=by
 unfold uB
 split
 ·rw[Ar];omega
 ·rw[Ca,Cd,Ge];omega
theorem bC.isSome_eq {o:Al V}{u:Al Ac}(r:bC o u):o.isSome=u.isSome:=by
 cases o with
 |none=>cases u with
  |none=>rfl
  |some _=>exact(show Fm from r).elim
 |some _=>cases u with
  |none=>exact(show Fm from r).elim
  |some _=>rfl
theorem bC.getD {o:Al V}{u:Al Ac}{d:V}{d':Ac}(r:bC o u)(rd:qK d d'):qK (o.getD d) (u.getD d'):=by
 cases o with
 |none=>cases u with
  |none=>exact rd
  |some _=>exact(show Fm from r).elim
 |some _=>cases u with
  |none=>exact(show Fm from r).elim
  |some _=>exact r
theorem KV.val {kvs:Ab (κ × V)}{vs:Ab (κ × Ac)}(r:KV kvs vs)(k:κ):bC (uE kvs k) (Uq vs k):=by
 unfold KV at r
 induction r with
 |nil=>exact Ip
 |@cons p q ps qs h t ih =>
  obtain⟨h1,h2⟩:=h;by_cases e:p.1=k
  ·have e':q.1=k:=h1.symm.trans e
   have b:Uq (q::qs) k=Aa q.2:=by simp[Uq,Jw,e']
   rw[nM e,b];exact h2
  ·have e':¬ q.1=k:=fun z=>e (h1.trans z)
   have b:Uq (q::qs) k=Uq qs k:=by simp[Uq,Jw,e']
   rw[nK e,b];exact ih
theorem KV.any {kvs:Ab (κ × V)}{vs:Ab (κ × Ac)}(r:KV kvs vs)(k:κ):(kvs.any fun kv=>decide (kv.1=k))=vs.any fun kv=>decide (kv.1=k):=by
 unfold KV at r
 induction r with
 |nil=>rfl
 |cons h t ih=>rw[Jx,Jx,ih,h.1]
theorem KV.repl {kvs:Ab (κ × V)}{vs:Ab (κ × Ac)}(r:KV kvs vs)(k:κ){y:V}{u:Ac}(ry:qK y u) :
  KV (kvs.map fun kv=>if kv.1=k then (kv.1,y) else kv) (vs.map fun kv=>if kv.1=k then (kv.1,u) else kv):=by
 unfold KV at r ⊢
 induction r with
 |nil=>exact .nil
 |@cons p q ps qs h t ih =>
  rw[Ek,Ek];refine .cons ?_ ih;obtain⟨h1,h2⟩:=h;by_cases e:p.1=k
  ·rw[Bl e,Bl (h1.symm.trans e)];exact⟨h1,ry⟩
  ·rw[Bk e,Bk (fun z=>e (h1.trans z))];exact⟨h1,h2⟩
theorem KV.put {kvs:Ab (κ × V)}{vs:Ab (κ × Ac)}(r:KV kvs vs)(k:κ){y:V}{u:Ac}(ry:qK y u):KV (uB kvs k y) (stored vs k u):=by
 unfold uB stored;rw[r.any k];by_cases e:(vs.any fun kv=>decide (kv.1=k))=true
 ·rw[Bl e,Bl e];exact r.repl k ry
 ·rw[Bk e,Bk e];exact Paired.snoc r ⟨rfl,ry⟩
theorem KV.length {kvs:Ab (κ × V)}{vs:Ab (κ × Ac)}(r:KV kvs vs):kvs.length=vs.length:=Paired.length r
end
theorem lD {P:Bm}{w:Cb}{k:Key}{u:Ac}(r:qK (kV k) u):(xA P w).is k u=true:=by
 cases k with
 |inl i=>obtain⟨t,e⟩:=(show ∃ t,u=Pu i t from r);subst e;exact o4 P w i t
 |inr x=>obtain⟨t,e⟩:=(show ∃ t,u=Wf x t from r);subst e;exact o6 P w x t
theorem rM {P:Bm}{w:Cb}:∀ {ks:Ab Key} {us:Ab Ac},qL (ks.map kV) us→ItemsAre (xA P w) ks us
 |[],_,r=>by rw[Vv] at r;cases r;exact .nil
 |k::ks,_,r=>by
  rw[Ek] at r;cases r with
  |cons h t=>exact .cons (lD h) (rM t)
abbrev KT (H:Hp):Ab (Ab Key × V)→Ab (Ab Key × Af × Ac)→Prop:=Paired fun p q=>p.1=q.1∧H q.2.1=Aa (.tup (p.1.map kV))∧qK p.2 q.2.2
theorem KT.val {H:Hp}{kvs:Ab (Ab Key × V)}{xs:Ab (Ab Key × Af × Ac)}(r:KT H kvs xs)(k:Ab Key):bC (uE kvs k) ((Wo xs k).map (·.2)):=by
 induction r with
 |nil=>exact Ip
 |@cons p q ps qs h t ih =>
  obtain⟨h1,_,h2⟩:=h;by_cases e:p.1=k
  ·have e':q.1=k:=h1.symm.trans e
   have b:Wo (q::qs) k=Aa q.2:=by simp[Wo,Jw,e']
   rw[nM e,b];exact h2
  ·have e':¬ q.1=k:=fun z=>e (h1.trans z)
   have b:Wo (q::qs) k=Wo qs k:=by simp[Wo,Jw,e']
   rw[nK e,b];exact ih
theorem KT.repl {H:Hp}{kvs:Ab (Ab Key × V)}{xs:Ab (Ab Key × Af × Ac)}(r:KT H kvs xs)(k:Ab Key){y:V}{u:Ac}(ry:qK y u) :
  KT H (kvs.map fun kv=>if kv.1=k then (kv.1,y) else kv) (xs.map (putAt k u)):=by
 induction r with
 |nil=>exact .nil
 |@cons p q ps qs h t ih =>
  rw[Ek,Ek];refine .cons ?_ ih;obtain⟨h1,h2,h3⟩:=h;unfold putAt;by_cases e:p.1=k
  ·rw[Bl e,Bl (h1.symm.trans e)];exact⟨h1,h2,ry⟩
  ·rw[Bk e,Bk (fun z=>e (h1.trans z))];exact⟨h1,h2,h3⟩
theorem KT.put {H:Hp}{kvs:Ab (Ab Key × V)}{xs:Ab (Ab Key × Af × Ac)}(r:KT H kvs xs)(k:Ab Key){b:Af}{y:V}{u:Ac}(hb:H b=Aa (.tup (k.map kV)))(ry:qK y u) :
  KT H (uB kvs k y) (storedH xs k b u):=by
 have e:(kvs.any fun kv=>decide (kv.1=k))=(Wo xs k).isSome:=by
  rw[iV,(r.val k).isSome_eq,Option.isSome_map]
 unfold uB storedH;rw[e];by_cases q:(Wo xs k).isSome=true
 ·rw[Bl q,Bl q];exact r.repl k ry
 ·rw[Bk q,Bk q];exact Paired.snoc r ⟨rfl,hb,ry⟩
theorem KT.keeps {H H':Hp}{kvs:Ab (Ab Key × V)}{xs:Ab (Ab Key × Af × Ac)}(r:KT H kvs xs)(ht:∀ b ys,H b=Aa (.tup ys)→H' b=Aa (.tup ys)):KT H' kvs xs:=
 Paired.mapP r fun _ _ z=>⟨z.1,ht _ _ z.2.1,z.2.2⟩
section
variable {P:Bm}{w:Cb}{H:Hp}{h:Bs}{a:Af}
theorem BW {u:HO}(ok:HOk P w H h)(e:Rd H a u):zV P w H h a u:=e.ok ok
theorem HV {kvs:Ab (Key × V)}(ok:HOk P w H h)(e:Rd H a (.dK kvs)):kvs.length≤sizeLine∧(a == Hy)=false∧∃ vs,KV kvs vs∧h.DictOf (xA P w) a vs:=
 show zV P w H h a (.dK kvs) from BW ok e
theorem X5 {kvs:Ab (Key × V)}(ok:HOk P w H h)(e:H a=Aa (.dK kvs)):kvs.length≤sizeLine∧(a == Hy)=false∧∃ vs,KV kvs vs∧h.DictOf (xA P w) a vs:=HV ok (.inl e)
theorem YJ {ks:Ab Key}(ok:HOk P w H h)(e:H a=Aa (.tup (ks.map kV))):(Su (xA P w)).is h ks a:=by
 obtain⟨_,its,r,o,h1,h2,n,h3⟩:=(show zV P w H h a (.tup (ks.map kV)) from ok a _ e)
 exact⟨o,its.toArray,n,h1,h2,h3,by simpa using rM r⟩
theorem HY {kvs:Ab (Ab Key × V)}(ok:HOk P w H h)(e:Rd H a (.dT kvs)):kvs.length≤sizeLine∧(a == Hy)=false ∧
  ∃ xs,KT H kvs xs∧h.DictOfH (Su (xA P w)) a xs:=by
 obtain⟨z,y,xs,r,o,es,ep,h1,h2,h3,h4,h5⟩:=(show zV P w H h a (.dT kvs) from BW ok e)
 refine⟨z,y,xs,r,o,es,ep,h1,h2,h3,h4,fun x hx=>?_,h5⟩;have all:∀ {l:Ab (Ab Key × V)} {m:Ab (Ab Key × Af × Ac)},KT H l m→∀ x∈m,(Su (xA P w)).is h x.1 x.2.1:=by
  intro l m q
  induction q with
  |nil=>intro x hx;exact nomatch hx
  |@cons p q ps qs hq t ih =>
   intro x hx;rcases Av.mp hx with e|hx
   ·subst e
    exact YJ ok (by rw[← hq.1];exact hq.2.1)
   ·exact ih x hx
 exact all r x hx
theorem HX {kvs:Ab (Ab Key × V)}(ok:HOk P w H h)(e:H a=Aa (.dT kvs)):kvs.length≤sizeLine∧(a == Hy)=false ∧
  ∃ xs,KT H kvs xs∧h.DictOfH (Su (xA P w)) a xs:=HY ok (.inl e)
end
def ZP (H:Hp)(a:Af)(y:V)(r:Al V):Prop:=
 (∃ kvs k,Rd H a (.dK kvs)∧y=kV k∧r=uE kvs k)∨∃ kvs k b,Rd H a (.dT kvs)∧y=.ref b∧H b=Aa (.tup (k.map kV))∧r=uE kvs k
def d0 (H:Hp)(a:Af)(y v:V)(H':Hp):Prop:=
 (∃ kvs k,H a=Aa (.dK kvs)∧y=kV k∧kvs.length<sizeLine∧H'=upd H a (.dK (uB kvs k v))) ∨
 ∃ kvs k b,H a=Aa (.dT kvs)∧y=.ref b∧H b=Aa (.tup (k.map kV))∧kvs.length<sizeLine∧H'=upd H a (.dT (uB kvs k v))
theorem ZP.k {H:Hp}{a:Af}{kvs:Ab (Key × V)}{k:Key}(e:H a=Aa (.dK kvs)):ZP H a (kV k) (uE kvs k):=.inl ⟨kvs,k,.inl e,rfl,rfl⟩
theorem ZP.t {H:Hp}{a b:Af}{kvs:Ab (Ab Key × V)}{k:Ab Key}(e:H a=Aa (.dT kvs))(eb:H b=Aa (.tup (k.map kV))):ZP H a (.ref b) (uE kvs k):=.inr ⟨kvs,k,b,.inl e,rfl,eb,rfl⟩
theorem d0.k {H:Hp}{a:Af}{kvs:Ab (Key × V)}{k:Key}{v:V}(e:H a=Aa (.dK kvs))(hl:kvs.length<sizeLine):d0 H a (kV k) v (upd H a (.dK (uB kvs k v))):=.inl ⟨kvs,k,e,rfl,hl,rfl⟩
theorem d0.t {H:Hp}{a b:Af}{kvs:Ab (Ab Key × V)}{k:Ab Key}{v:V}(e:H a=Aa (.dT kvs))(eb:H b=Aa (.tup (k.map kV)))(hl:kvs.length<sizeLine) :
  d0 H a (.ref b) v (upd H a (.dT (uB kvs k v))):=.inr ⟨kvs,k,b,e,rfl,eb,hl,rfl⟩
section
variable {X:Cx}{pins:Ab (Af × Cq)}{σ : St}{H:Hp}{s:Ag}{a:Af}{y v:V}{u r:Ac}{o:Al V}{A:Bz}{E:Ac→Ag→Prop}
theorem Inv.big (I:Inv X pins σ H s):Hy<s.heap.objs.size:=by
 have h:Ci<s.heap.objs.size:=(I.mod.glob.keeps I.bk).lt;exact Lr (by decide) h
theorem dF {h':Bs}{t':Ai}{ob:HO}(I:Inv X pins σ H s)(mu:Mut (H a))(hs:Fa a s.heap h')(he:∃ q,h'.get? a=Aa q)(new:zV X.prog X.w (upd H a ob) h' a ob) :
  Inv X pins σ (upd H a ob) { s with heap:=h',toks:=t' }:=
 I.write (x:=a) (e:=a) mu (.inl rfl) (fun b q hb z=>(hs.2 b hb).trans z) he new
theorem WX {P:Bm}{w:Cb}{H':Hp}{h':Bs}{kvs:Ab (Key × V)}{vs:Ab (Key × Ac)}(z:kvs.length≤sizeLine)(hd:(a == Hy)=false)(rel:KV kvs vs)(dd:h'.DictOf (xA P w) a vs) :
  zV P w H' h' a (.dK kvs):=⟨z,hd,vs,rel,dd⟩
theorem WS {H':Hp}{Q:Rc→Ag→Prop}(hu:A.units+1<Fg)(I:Inv X pins σ H s)(g:d0 H a y v H')(ry:qK y u)(rv:qK v r)(h:∀ s',Inv X pins σ H' s'→Q () s') :
  Ao (Au X.prog X.w) A (Zo (.ref a) u r) Q E s:=by
 rcases g with⟨kvs,k,e,ey,l,eH⟩|⟨kvs,k,b,e,ey,eb,l,eH⟩
 ·subst ey eH
  obtain⟨z,hd,vs,rel,dd⟩:=X5 I.hok e;have hz:vs.length≤sizeLine:=by rw[← rel.length];exact z
  have hl:(uB kvs k v).length≤sizeLine:=by have:=pN kvs k v;omega
  refine wpAny_setItem_pairs (hsz:=hz) (lD ry) dd fun h' dd' hs=>h _ ?_;have he:∃ q,h'.get? a=Aa q:=let ⟨q,_,_,hq,_⟩:=dd';⟨q,hq⟩
  exact dF I (by rw[e];exact Ip) hs he (WX hl hd (rel.put k rv) dd')
 ·subst ey eH
  cases (show u=Dc b from ry)
  obtain⟨z,hd,xs,rel,dd⟩:=HX I.hok e;have hz:xs.length≤sizeLine:=by rw[← Paired.length rel];exact z
  have hl:(uB kvs k v).length≤sizeLine:=by have:=pN kvs k v;omega
  refine wpAny_setItem_heap (hsz:=hz) (tupleKind_room_in1 hu) (YJ I.hok eb) dd fun h' dd' hs=>h _ ?_;obtain⟨q,es,ep,hq,h2,h3,h4,_,h5⟩:=dd';refine dF I (by rw[e];exact Ip) hs ⟨q,hq⟩ ⟨hl,hd,_,(rel.put k eb rv).keeps fun c ys ec=>?_,q,es,ep,hq,h2,h3,h4,h5⟩
  rw[qP (CN ec e (fun z=>nomatch z))];exact ec
end
theorem JU {P:Bm}{w:Cb}{H:Hp}(h:Bs)(hb:Hy<h.objs.size):zV P w H (h.push { cls:=.type "dict",data:=.dict #[] }) h.objs.size (.dK []):=
 ⟨Ha _,Hx.mpr (Ho (Cy hb)),[],.nil,Heap.DictOf.new h⟩
def EQ:TE:=fun _ H Q=>∀ p,H p=none→Q (.ref p) (upd H p (.dK []))
section
variable {X:Cx}{pos:Fk}
theorem i0:PE X (.Dict [] [] pos) EQ:=fun pins s σ H Q I h =>
 wpAny_Dict_empty ⟨.ref s.heap.objs.size,_,I.laid (a:=s.heap.objs.size) (o:=.dK []) (t':=s.toks) (fun _ _ q=>Ah _ q) (As _) (JU s.heap I.big),rfl,h _ (I.hok.fresh (As _))⟩
end
end _L
namespace _A
open PySem PySem.W PySem.Calls PyProof.Rows
theorem l8 {P:Zi}{h:Bs}:∀ (ns:Ab Aj) (vs:Ab Ac),WellAll P h vs (ns.map WData.int)→Jg vs ns:=by
 intro ns
 induction ns with
 |nil =>
  intro vs w;rw[Vv] at w;cases w;exact .nil
 |cons n ns ih =>
  intro vs w;rw[Ek] at w;cases w with
  |cons a b =>
   cases a;exact .cons _ _ (ih _ b)
theorem UB {l:OpenLaw}{n:Ai}(hn:l.most=Aa n){P:Zi}{h:Bs}{args:Ab WData}{vals:Ab Ac}
  (hpre:l.row.toRowW.claim.pre args=true) (hwl:WellAll P h vals args) :
  ∃ a vs ns,vals=[Dc a]∧args=[WData.list (ns.map WData.int)]∧h.get? a=Aa { cls:=.type "list",data:=.seq vs.toArray } ∧ Jg vs ns∧ns.length≤n:=by
 have hsh:WShape.hasAll [] args [.list .int]=true:=(pre_splitW hpre).1;have hc:l.pre.holds [] { args:=args } = true:=(pre_splitW hpre).2;obtain⟨d,r,rfl,h1,h2⟩:=hasAllW_cons hsh;obtain rfl:=hasAllW_nil h2;obtain⟨xs,rfl,h3⟩:=hasW_list h1;obtain⟨ns,rfl⟩:=items_int h3;have hlen:ns.length≤n:=by
  unfold OpenLaw.pre at hc;have h4:(WTm.not (.lt (.lit (.int (n:Aj))) (.len (.arg 0)))).holds [] { args:=[.list (ns.map .int)] } = true:=by
   have h4:=(holds_andW hc).1;rw[hn] at h4;exact h4
  have h5:=condW_of h4 (w_not (w_lt w_lit (w_len_list (w_arg rfl))));rw[Ar] at h5;refine Nat.le_of_not_lt fun q=>?_;have q':(n:Aj)<((ns.length:Ai):Aj):=by omega
  first
   |(rw[Cu q'] at h5;exact absurd h5 (by decide))
   |(simp at h5;omega)
 cases hwl with
 |cons w1 w2 =>
  cases w2;cases w1 with
  |list ho hall=>exact⟨_,_,ns,rfl,rfl,ho,l8 ns _ hall,hlen⟩
theorem VA (l:OpenLaw)(args:Ab WData):l.row.toRowW.claim.post args (.bool true) args=true:=
 postW_of (r:=l.row.toRowW) (X:=(true == true))
  (show WShape.has [] (.bool true) .bool=true by first|rfl|decide|simp[WShape.has,WShape.arms,WShape.armsAll])
  (show (WTm.eq .res (.lit (.bool true))).value [] { args:=args,res:=Aa (.bool true),after:=args } = Aa (.bool (true == true)) from w_eq_bool (w_res rfl) w_lit) rfl
theorem attach_call {l:OpenLaw}{n:Ai}{q:Bm}{loose:Ab Ax}{XP:(Ax→Al Ac)→Bs→Prop}{YP:Cb→Bs→Prop}{d:DefRec}
  (hn:l.most=Aa n) (hdf:d.params.defaults=[])
  (call:∀ (w:Cb) (s₀ s₁:Ag) (mg mb:Ax→Al Ac) (fa:Af) (o:Cq) (pm cd doc:Ac) (a:Af) (vs:Ab Ac) (ns:Ab Aj),
   Ground q loose [] XP w s₀ mg mb s₁.heap→YP w s₁.heap →
   s₁.heap.get? fa=Aa o→o.data=.func (docDef d.name d.params d.body d.scope pm cd doc)→s₁.heap.CodeRec cd d.name→mg d.name=Aa (.ref fa) →
   s₁.heap.get? a=Aa { cls:=.type "list",data:=.seq vs.toArray } → Jg vs ns→ns.length≤n→s₁.gens=#[] →
   Kx (Au l.prog w) Qc (.call (.ref fa) ⟨[.ref a],[]⟩) (fun r s'=>r=.ok (.ret (.bool true))∧OldK s₁.heap s'.heap∧s'.os=s₁.os∧Ms s'.gens) s₁) :
  WalkO q loose XP YP l.row.toRowW d [] (fun f vs=>Yw f vs):=by
 intro w s₀ s₁ mg mb G Y fa o pm cd doc dV kV ho hd hcd hD hmg hg args vals as hpre hlay hrd hwl hlo;obtain rfl:dV=.none:=Dflts.none hD hdf;obtain rfl:kV=.none:=Dflts.noKw hD;obtain⟨a,vs,ns,rfl,rfl,hobj,hints,hlen⟩:=UB hn hpre hwl;refine enter_call (Jm (call w s₀ s₁ mg mb fa o pm cd doc a vs ns G Y ho (fd_plain hd) hcd hmg hobj hints hlen hg) fun r s' hq=>?_);obtain⟨rfl,h2,h3,h4⟩:=hq;exact⟨.inl ⟨.bool true,.bool true,[],rfl,fun _=>rfl,.bool true,VA l _,fun _=>⟨Qe,fun _ hm=>(nomatch hm)⟩⟩,h2,h3,h4⟩
end _A
namespace _L
open PySem PySem.Spec PyProof.Rows
theorem UI {vs:Ab Ac}{ns:Ab Aj}(h:Jg vs ns):qL (ns.map V.int) vs:=by
 induction h with
 |nil=>exact .nil
 |cons n t h ih=>exact .cons ⟨t,rfl⟩ ih
def SqX (K:Ak)(H:Hp)(a:Af)(xs:Ab V):Prop:=
 Rd H a (.lst xs)∨∃ (its:Ab Ac) (n:Ai),K.lookup a=Aa { cls:=.type "list",data:=.seq its.toArray n } ∧ xs.length≤sizeLine∧qL xs its
theorem SqX.l {K:Ak}{H:Hp}{a:Af}{xs:Ab V}(h:SqX K H a xs):SqL K H a xs:=by
 rcases h with h|⟨its,n,e,l,v⟩
 ·exact .inl h
 ·exact .inr ⟨_,its.toArray,n,e,rfl,rfl,rfl,by rw[Bb,← v.length];exact l,by simpa using v⟩
def UU (H:Hp):Prop:=∀ b,H b=none∨∃ o xs,H b=Aa (.frz o (.lst xs))
theorem KM {P:Bm}{w:Cb}{K:Ak}{mg mb:Ax→Al Ac}{CX:CXT}{k:Ai}{fa a:Af}{fd:Fx}{x:Ax}{sp:Sp}{s₁:Ag}{vs:Ab Ac}{ns:Ab Aj}
  (KX:K.In s₁.heap) (hns:s₁.heap.Ns Ci mg) (hb:s₁.heap.Ns Yq mb) (hbb:∀ x:Ax,x ≠ "__name__" → mb x=Gc x) (hlim:s₁.heap.NoLimit) (hg:s₁.gens=#[])
  (ha:s₁.heap.get? a=Aa { cls:=.type "list",data:=.seq vs.toArray }) (hi:Jg vs ns) (hl:ns.length≤sizeLine) (hr:Room k Qc)
  (F:∀ base:Bs,K.In base→base.Ns Ci mg→FnOk P w K mg base CX k fa fd [x] sp) (hbind:∀ (s:Ag) (u:Ac),Om s fd ⟨[u],[]⟩ [(x,u)])
  (hsp:∀ H:Hp,UU H→SqX K H a (ns.map V.int)→sp [.ref a] H (fun v _=>v=.bl true) fun _ _ _=>Fm)
  (hCX:∀ H e s',CX [] H s₁ (fun _ _ _=>Fm) e s'→Fm) :
  Kx (Au P w) Qc (.call (.ref fa) ⟨[.ref a],[]⟩) (fun r s'=>r=.ok (.ret (.bool true))∧OldK s₁.heap s'.heap∧s'.os=s₁.os∧Ms s'.gens) s₁:=by
 have rv:=UI hi;have lenV:=hi.length;have core:∀ H:Hp,UU H→SqX K H a (ns.map V.int)→HOk P w H s₁.heap→(∀ b,H b≠none→b=a)→(H a≠none→K.lookup a=none) →
   Kx (Au P w) Qc (.call (.ref fa) ⟨[.ref a],[]⟩) (fun r s'=>r=.ok (.ret (.bool true))∧OldK s₁.heap s'.heap∧s'.os=s₁.os∧Ms s'.gens) s₁:=by
  intro H hO hS hok hA hK;have base_of:∀ {b:Af} {o:Cq},s₁.heap.get? b=Aa o→H b=none→(bN s₁.heap H).get? b=Aa o:=fun e n=>KE e n;have noA:∀ {b:Af} {o:Cq} {es:Aw DictEntry} {ep:Ai},s₁.heap.get? b=Aa o→o.data=.dict es ep→H b=none:=fun {b o es ep} e d=>by
   cases q:H b with
   |none=>rfl
   |some u =>
    have e':b=a:=hA b (by rw[q];simp)
    subst e';rw[ha] at e;cases e;have d':Data.seq vs.toArray _=Data.dict es ep:=d;cases d'
  have nsK:∀ {b:Af} {m:Ax→Al Ac},s₁.heap.Ns b m→(bN s₁.heap H).Ns b m:=fun {b m} ⟨o,es,ep,e,d,r⟩=>⟨o,es,ep,base_of e (noA e d),d,r⟩;have hKb:K.In (bN s₁.heap H):=fun b o e=>base_of (KX b o e) (by
   cases q:H b with
   |none=>rfl
   |some u =>
    have e':b=a:=hA b (by rw[q];simp)
    subst e';rw[hK (by rw[q];simp)] at e;cases e)
  have hM:Mod K mg (bN s₁.heap H):=⟨hKb,nsK hns,⟨mb,nsK hb,hbb⟩,let ⟨mc,h1,h2⟩:=hlim;⟨mc,nsK h1,h2⟩⟩
  have e0:Env0 P w K mg (bN s₁.heap H) Qc [] s₁ H:=⟨rfl,hM,fun b o e=>TW e,Nat.le_of_eq (Y9 _ _),trivial,fun b hb=>absurd (show b∈([]:Ab Af) from hb) (by simp),hok,.of_eq hg⟩
  refine Jm ((F _ hKb (nsK hns)).run Qc [] s₁ H ⟨[.ref a],[]⟩ [.ref a] [.ref a] _ _ hr e0 (hbind s₁ (.ref a)) (.cons rfl .nil) (hsp H hO hS)) fun r s' h=>?_;cases r with
  |error e=>exact(hCX H e s' h).elim
  |ok fl =>
   cases fl with
   |next=>exact An h
   |brk=>exact An h
   |cont=>exact An h
   |ret u =>
    obtain⟨v,H',os,bare,un,hok',r',q⟩:=h;have q':v=.bl true:=q;subst q';obtain rfl:u=Fv true:=r';refine⟨rfl,OldK.of_keep fun b o e=>?_,os,bare⟩;cases q:H b with
    |none=>exact un.keep b o e q (by intro z;exact absurd (show b∈([]:Ab Af) from z) (by simp)) (by simp)
    |some u =>
     rcases hO b with z|⟨ob,xs,z⟩
     ·rw[q] at z;cases z
     ·have z2:=un.frzs b ob _ z
      obtain⟨e1,_⟩:=hok b _ z;obtain⟨e2,_⟩:=hok' b _ z2;rw[e] at e1;cases e1;exact e2
 cases hk:K.lookup a with
 |some o =>
  have e:=KX a o hk;rw[ha] at e;cases e;refine core (fun _=>none) (fun _=>.inl rfl) (.inr ⟨vs,_,hk,by rw[Ar];exact hl,rv⟩) (fun b u z=>by have z':(none:Al HO)=Aa u:=z;cases z') (fun b z=>absurd rfl z) fun z=>absurd rfl z
 |none =>
  refine core (fun b=>if b=a then Aa (.frz { cls:=.type "list",data:=.seq vs.toArray } (.lst (ns.map V.int))) else none) (fun b=>?_) (.inl (.inr ⟨{ cls:=.type "list",data:=.seq vs.toArray },Bl rfl⟩)) (fun b u z=>?_) (fun b z=>?_) fun _=>hk
  ·by_cases hb:b=a
   ·exact .inr ⟨_,_,Bl hb⟩
   ·exact .inl (Bk hb)
  ·by_cases hb:b=a
   ·have z':=(Bl hb).symm.trans z
    cases z';subst hb;exact⟨ha,by rw[Ar];exact hl,vs,_,rv,ha⟩
   ·have z':=(Bk hb).symm.trans z
    cases z'
  ·by_cases hb:b=a
   ·exact hb
   ·exact absurd (Bk hb) z
end _L
namespace _L
open PySem PySem.Spec PyProof.Rows
theorem L3 {l:Yg}{n k:Ai}{q:Bm}{loose:Ab Ax}{XP:(Ax→Al Ac)→Bs→Prop}{YP:Cb→Bs→Prop}{d:DefRec}{K:Zi→Ak}{CX:Cb→CXT}{sp:Cb→Sp}{x:Ax}
  (hn:l.most=Aa n) (hn2:n≤sizeLine) (hdf:d.params.defaults=[]) (hr:Room k Qc)
  (hY:∀ (w:Cb) (h:Bs),YP w h→(K w.params).In h)
  (F:∀ (w:Cb) (mg:Ax→Al Ac) (fa:Af) (h:Bs),(K w.params).In h→h.Ns Ci mg→mg d.name=Aa (.ref fa) →
   ∃ fd:Fx,(∀ (s:Ag) (u:Ac),Om s fd ⟨[u],[]⟩ [(x,u)]) ∧
    ∀ base:Bs,(K w.params).In base→base.Ns Ci mg→FnOk l.prog w (K w.params) mg base (CX w) k fa fd [x] (sp w))
  (hsp:∀ (w:Cb) (H:Hp) (a:Af) (ns:Ab Aj),ns.length≤n→UU H→SqX (K w.params) H a (ns.map V.int)→sp w [.ref a] H (fun v _=>v=.bl true) fun _ _ _=>Fm)
  (hCX:∀ (w:Cb) (H:Hp) (s:Ag) (e:Ac) (s':Ag),CX w [] H s (fun _ _ _=>Fm) e s'→Fm) :
  Ur q loose XP YP l.row.toRowW d [] (fun f vs=>Yw f vs):=by
 refine _A.attach_call hn hdf fun w s₀ s₁ mg mb fa o pm cd doc a vs ns G Y ho hd hcd hmg hobj hints hlen hg=>?_;have KX:=hY w _ Y;obtain⟨fd,hb,hF⟩:=F w mg fa _ KX G.T.g hmg;exact KM KX G.T.g G.T.b G.T.builtins G.T.nolimit hg hobj hints (Ee hlen hn2) hr hF hb (fun H hO hS=>hsp w H a ns hlen hO hS) fun H e s'=>hCX w H s₁ e s'
end _L
namespace _L
open PySem PySem.Spec PyProof.Rows
def vH (s:Fl):Arguments:=match s with
 |.FunctionDef _ a _ _ _ _ _ _ _ _=>a
 |_=>{ posonlyargs:=[],args:=[],vararg:=none,kwonlyargs:=[],kw_defaults:=[],kwarg:=none,defaults:=[] }
def xE (s:Fl):Ab Fl:=match s with
 |.FunctionDef _ _ b _ _ _ _ _ _ _=>b
 |_=>[]
def qJ (s:Fl):Gp:=match s with
 |.FunctionDef _ _ _ _ _ _ sc _ _ _=>sc
 |_=>{ kind:=.function,names:=[],isGenerator:=false,isCoroutine:=false }
abbrev CX0:CXT:=fun _ _ _ _ _ _=>Fm
structure Fun (K:Ak)(x qual:Ax)(st:Fl)(f:Af)(fd:Fx):Prop where
 ex:∃ (oc:Ac) (od:Al Af) (kV doc pm:Ac) (an:Al Af) (cdv ct:Ac) (osl:Aw (Al Ac)),
  fd=Hk x qual (vH st) (xE st) (qJ st) .none kV doc pm an cdv ct∧K.lookup f=Aa ⟨oc,od,.func fd,osl⟩∧Ma K cdv qual=true
 kp:Em K (.ref f)=true
section
variable {P:Bm}{w:Cb}{K:Ak}{mg:Ax→Al Ac}{base:Bs}
theorem Fun.ok {x qual:Ax}{st:Fl}{f:Af}{fd:Fx}{N ps:Ab Ax}{k:Ai}{sp:Sp}(F:Fun K x qual st f fd)(S:FnScope N ps (qJ st))(len:∀ vs H Q E,sp vs H Q E→vs.length=ps.length)
  (hbody:∀ (cdv:Ac) (A:Bz) (outer:Ab Ks) (s:Ag) (H:Hp) (vs:Ab V) (Q:VK) (E:XK),Room k (A.deeper (Gw qual (qJ st) s.heap.objs.size f cdv))→sp vs H Q E →
   ∃ t,PSs (dD CX0 P w K mg base N qual (qJ st) f cdv A outer s H E).nox (xE st) t∧t { nx:=fun _ H'=>Q .non H',rt:=Q } (yG N vs) H):FnOk P w K mg base CX0 (k+1) f fd ps sp:=by
 obtain⟨oc,od,kV,doc,pm,an,cdv,ct,osl,rfl,lk,hcd⟩:=F.ex;refine CC lk hcd S len fun A outer s H vs Q E hr hsp=>?_;obtain⟨t,h,q⟩:=hbody cdv A outer s H vs Q E hr hsp;exact⟨t,h.nox,q⟩
theorem Fun.binds {x qual:Ax}{st:Fl}{f:Af}{fd:Fx}{ps:Ab Ax}(F:Fun K x qual st f fd)
  (h:∀ (kV doc pm:Ac) (an:Al Af) (cdv ct:Ac) (us:Ab Ac),us.length=ps.length→Yf (Hk x qual (vH st) (xE st) (qJ st) .none kV doc pm an cdv ct) ⟨us,[]⟩=pure (ps.zip us)):uJ K fd ps []:=by
 obtain⟨oc,od,kV,doc,pm,an,cdv,ct,osl,rfl,lk,hcd⟩:=F.ex;exact .all (h kV doc pm an cdv ct)
theorem SG {x qual:Ax}{st:Fl}{f:Af}{oc:Ac}{od an:Al Af}{osl:Aw (Al Ac)}{kV doc pm cdv ct:Ac}(l:K.lookup f=Aa ⟨oc,od,.func (Hk x qual (vH st) (xE st) (qJ st) .none kV doc pm an cdv ct),osl⟩)
  (c:Ma K cdv qual=true) (k:Em K (.ref f)=true):Fun K x qual st f (Hk x qual (vH st) (xE st) (qJ st) .none kV doc pm an cdv ct):=⟨⟨oc,od,kV,doc,pm,an,cdv,ct,osl,rfl,l,c⟩,k⟩
end
def qH (H H':Hp):Prop:=∀ b o,H b=Aa o→H' b=Aa o
theorem qH.refl (H:Hp):qH H H:=fun _ _ h=>h
theorem qH.trans {H H1 H2:Hp}(a:qH H H1)(b:qH H1 H2):qH H H2:=fun c o h=>b c o (a c o h)
theorem qH.free {H H':Hp}(e:qH H H'){l:Af}(h:H' l=Aa7):H l=Aa7:=by
 cases q:H l with
 |none=>rfl
 |some o =>
  rw[e l o q] at h;cases h
theorem qH.seq {K:Ak}{H H':Hp}{a:Af}{xs:Ab V}(e:qH H H')(h:SqL K H a xs):SqL K H' a xs:=by
 rcases h with (h|⟨o,h⟩)|h
 ·exact .inl (.inl (e _ _ h))
 ·exact .inl (.inr ⟨o,e _ _ h⟩)
 ·exact .inr h
end _L
end
section
namespace _D
open PySem PySem.Spec PyProof.Rows _L
inductive D where
 |non|bl (b:Aq)|int (i:Aj)|str (x:Ax)|ty (n:Ep)|obj (a:Af)|tup (xs:Ab D)|lst (xs:Ab D)|dct0|loc (i:Ai)|exn (c:Ac)|fd (ks:Ab Key) (ds:Ab D)
def cP (a:Af)(c:Ac):HO:=.ext fun h=>∃ ob,h.get? a=Aa ob∧ob.cls=c
inductive MO where
 |dead|lst (xs:Ab D)|dct (kvs:Ab (Key × D))|ins (C:Af) (fs:Ab (Ax × D))
abbrev Sto:=Ab MO
inductive Res (β : Type) where
 |ok (d:β) (S:Sto)|ex (c:Ac) (x:D) (S:Sto)|bad
@[inline] def Res.bind {β γ:Type}(r:Res β)(f:β→Sto→Res γ) : Res γ:=
 match r with
 |.ok d S=>f d S
 |.ex c x S=>.ex c x S
 |.bad=>.bad
theorem Res.bind_ok {β γ:Type}(d:β)(S:Sto)(f:β→Sto→Res γ) : (Res.ok d S).bind f=f d S:=rfl
section
variable (K:Ak)(P:Hp)(α : Ab Af)
mutual
def Rep:D→V→Prop
 |.non,v=>v=.non
 |.bl b,v=>v=.bl b
 |.int i,v=>v=.int i
 |.str x,v=>v=.str x
 |.ty n,v=>v=.ty n
 |.obj a,v=>v=.ref a∧Em K (.ref a)=true
 |.tup ds,v=>∃ a vs,v=.ref a∧SqT K P a vs∧qF ds vs
 |.lst ds,v=>∃ a vs,v=.ref a∧SqX K P a vs∧qF ds vs
 |.dct0,v=>∃ a,v=.ref a∧P a=Aa (.dK [])
 |.loc i,v=>∃ a,v=.ref a∧α[i]? = Aa a
 |.exn c,v=>∃ a,v=.ref a∧P a=Aa (cP a c)
 |.fd ks ds,v=>∃ a o vs,v=.ref a∧P a=Aa (.frz o (.dK (ks.zip vs)))∧ks.length=vs.length∧qF ds vs
def qF:Ab D→Ab V→Prop
 |[],vs=>vs=[]
 |d::ds,vs=>∃ w ws,vs=w::ws∧Rep d w∧qF ds ws
end
end
section
variable {K:Ak}{P P':Hp}{α α':Ab Af}
theorem uC (e:qH P P'){a:Af}{xs:Ab V}(h:SqT K P a xs):SqT K P' a xs:=by
 rcases h with (h|⟨o,h⟩)|h
 ·exact .inl (.inl (e _ _ h))
 ·exact .inl (.inr ⟨o,e _ _ h⟩)
 ·exact .inr h
theorem Z5 (e:qH P P'){a:Af}{u:HO}(h:Rd P a u):Rd P' a u:=by
 rcases h with h|⟨o,h⟩
 ·exact .inl (e _ _ h)
 ·exact .inr ⟨o,e _ _ h⟩
theorem wB (e:qH P P'){a:Af}{xs:Ab V}(h:SqX K P a xs):SqX K P' a xs:=by
 rcases h with h|h
 ·exact .inl (Z5 e h)
 ·exact .inr h
theorem t0 {i:Ai}{a:Af}(h:α<+:α')(e:α[i]? = Aa a):α'[i]? = Aa a:=by
 obtain⟨r,rfl⟩:=h;rw[Bj (Bf.mp e).1];exact e
mutual
theorem Rep.mono (e:qH P P')(h:α<+:α'):∀ (d:D) (v:V),Rep K P α d v→Rep K P' α' d v
 |.non,_,r=>by simpa only [Rep] using r
 |.bl _,_,r=>by simpa only [Rep] using r
 |.int _,_,r=>by simpa only [Rep] using r
 |.str _,_,r=>by simpa only [Rep] using r
 |.ty _,_,r=>by simpa only [Rep] using r
 |.obj _,_,r=>by simpa only [Rep] using r
 |.tup ds,v,r=>by
  simp only[Rep] at r ⊢;obtain⟨a,vs,rfl,q,t⟩:=r;exact⟨a,vs,rfl,uC e q,qF.mono e h ds vs t⟩
 |.lst ds,v,r=>by
  simp only[Rep] at r ⊢;obtain⟨a,vs,rfl,q,t⟩:=r;exact⟨a,vs,rfl,wB e q,qF.mono e h ds vs t⟩
 |.dct0,v,r=>by
  simp only[Rep] at r ⊢;obtain⟨a,rfl,q⟩:=r;exact⟨a,rfl,e _ _ q⟩
 |.loc i,v,r=>by
  simp only[Rep] at r ⊢;obtain⟨a,rfl,q⟩:=r;exact⟨a,rfl,t0 h q⟩
 |.exn c,v,r=>by
  simp only[Rep] at r ⊢;obtain⟨a,rfl,q⟩:=r;exact⟨a,rfl,e _ _ q⟩
 |.fd ks ds,v,r=>by
  simp only[Rep] at r ⊢;obtain⟨a,o,vs,rfl,q,hl,t⟩:=r;exact⟨a,o,vs,rfl,e _ _ q,hl,qF.mono e h ds vs t⟩
theorem qF.mono (e:qH P P')(h:α<+:α'):∀ (ds:Ab D) (vs:Ab V),qF K P α ds vs→qF K P' α' ds vs
 |[],vs,r=>by simpa only [qF] using r
 |d::ds,vs,r=>by
  simp only[qF] at r ⊢;obtain⟨w,ws,rfl,r1,r2⟩:=r;exact⟨w,ws,rfl,Rep.mono e h d w r1,qF.mono e h ds ws r2⟩
end
theorem qF.nil:qF K P α [] []:=by simp only[qF]
theorem qF.cons {d:D}{v:V}{ds:Ab D}{vs:Ab V}(r:Rep K P α d v)(t:qF K P α ds vs):qF K P α (d::ds) (v::vs):=by
 simp only[qF];exact⟨v,vs,rfl,r,t⟩
theorem qF.nil_inv {vs:Ab V}(r:qF K P α [] vs):vs=[]:=by simpa only [qF] using r
theorem qF.cons_inv {d:D}{ds:Ab D}{vs:Ab V}(r:qF K P α (d::ds) vs):∃ w ws,vs=w::ws∧Rep K P α d w∧qF K P α ds ws:=by simpa only [qF] using r
theorem qF.length:∀ {ds:Ab D} {vs:Ab V},qF K P α ds vs→ds.length=vs.length
 |[],vs,r=>by rw[r.nil_inv];rfl
 |d::ds,vs,r=>by
  obtain⟨w,ws,rfl,_,t⟩:=r.cons_inv;rw[Cd,Cd,t.length]
theorem qF.append:∀ {ds es:Ab D} {vs ws:Ab V},qF K P α ds vs→qF K P α es ws→qF K P α (ds++es) (vs++ws)
 |[],es,vs,ws,r,t=>by rw[r.nil_inv];exact t
 |d::ds,es,vs,ws,r,t=>by
  obtain⟨w,us,rfl,r1,r2⟩:=r.cons_inv;exact .cons r1 (r2.append t)
theorem qF.get:∀ {ds:Ab D} {vs:Ab V} {i:Ai} {d:D},qF K P α ds vs→ds[i]? = Aa d→∃ v,vs[i]? = Aa v∧Rep K P α d v
 |[],_,_,_,_,e=>by simp at e
 |d::ds,vs,i,d',r,e=>by
  obtain⟨w,ws,rfl,r1,r2⟩:=r.cons_inv;cases i with
  |zero=>simp at e;subst e;exact⟨w,rfl,r1⟩
  |succ i =>
   obtain⟨v,h1,h2⟩:=r2.get (i:=i) (d:=d') (by simpa using e)
   exact⟨v,by simpa using h1,h2⟩
theorem qF.drop:∀ {ds:Ab D} {vs:Ab V} (n:Ai),qF K P α ds vs→qF K P α (ds.drop n) (vs.drop n)
 |ds,vs,0,r=>by simpa using r
 |[],vs,n+1,r=>by rw[r.nil_inv];exact .nil
 |d::ds,vs,n+1,r=>by
  obtain⟨w,ws,rfl,_,r2⟩:=r.cons_inv;simpa using r2.drop n
theorem qF.take:∀ {ds:Ab D} {vs:Ab V} (n:Ai),qF K P α ds vs→qF K P α (ds.take n) (vs.take n)
 |ds,vs,0,r=>by simpa using qF.nil
 |[],vs,n+1,r=>by rw[r.nil_inv];exact .nil
 |d::ds,vs,n+1,r=>by
  obtain⟨w,ws,rfl,r1,r2⟩:=r.cons_inv;simpa using qF.cons r1 (r2.take n)
theorem qF.set {d:D}{v:V}(q:Rep K P α d v):∀ {ds:Ab D} {vs:Ab V} (n:Ai),qF K P α ds vs→qF K P α (ds.set n d) (vs.set n v)
 |[],vs,n,r=>by rw[r.nil_inv];exact .nil
 |e::ds,vs,0,r=>by
  obtain⟨w,ws,rfl,r1,r2⟩:=r.cons_inv;exact .cons q r2
 |e::ds,vs,n+1,r=>by
  obtain⟨w,ws,rfl,r1,r2⟩:=r.cons_inv;exact .cons r1 (r2.set q n)
end
abbrev qD:=Ab (Al D)
def zH (K:Ak)(P:Hp)(α : Ab Af)(σ : _L.St)(env:qD):Prop:=env.length=σ.length∧∀ (i:Ai) (d:D),env[i]? = Aa (Aa d)→∃ v,σ[i]? = Aa (Aa v)∧Rep K P α d v
def KVs (K:Ak)(P:Hp)(α : Ab Af){κ : Type}:Ab (κ × D)→Ab (κ × V)→Prop:=Paired fun (p:κ × D) (q:κ × V)=>p.1=q.1∧Rep K P α p.2 q.2
def MOk (K:Ak)(H P:Hp)(α : Ab Af)(a:Af):MO→Prop
 |.dead=>Nr
 |.lst ds=>∃ vs,H a=Aa (.lst vs)∧qF K P α ds vs
 |.dct kvs=>∃ vs,H a=Aa (.dK vs)∧KVs K P α kvs vs
 |.ins C fs=>∃ dx vs,H a=Aa (.ins C dx vs)∧KVs K P α fs vs
structure Rel (K:Ak)(H P:Hp)(α : Ab Af)(S:Sto):Prop where
 sub:qH P H
 len:α.length=S.length
 nd:α.Nodup
 sep:∀ (i:Ai) (a:Af) (o:MO),α[i]? = Aa a→S[i]? = Aa o→o≠.dead→P a=none
 at':∀ (i:Ai) (a:Af) (o:MO),α[i]? = Aa a→S[i]? = Aa o→MOk K H P α a o
 own:∀ (i:Ai) (a:Af),α[i]? = Aa a→H a≠none
section
variable {K:Ak}{H P P':Hp}{α α':Ab Af}{S:Sto}
theorem zH.mono {σ : _L.St}{env:qD}(e:qH P P')(h:α<+:α')(r:zH K P α σ env):zH K P' α' σ env:=
 ⟨r.1,fun i d q=>let ⟨v,h1,h2⟩:=r.2 i d q;⟨v,h1,Rep.mono e h d v h2⟩⟩
theorem KVs.mono {κ : Type}(e:qH P P')(h:α<+:α'){kvs:Ab (κ × D)}{vs:Ab (κ × V)}(r:KVs K P α kvs vs):KVs K P' α' kvs vs:=by
 refine Paired.mapP r fun p q z=>⟨z.1,Rep.mono e h _ _ z.2⟩
theorem MOk.mono {a:Af}(e:qH P P')(h:α<+:α'):∀ {o:MO},MOk K H P α a o→MOk K H P' α' a o
 |.dead,_=>trivial
 |.lst _,⟨vs,q,r⟩=>⟨vs,q,qF.mono e h _ _ r⟩
 |.dct _,⟨vs,q,r⟩=>⟨vs,q,r.mono e h⟩
 |.ins _ _,⟨dx,vs,q,r⟩=>⟨dx,vs,q,r.mono e h⟩
theorem Rel.grow {H':Hp}(r:Rel K H P α S)(e:qH H H'):Rel K H' P α S where
 sub:=r.sub.trans e
 len:=r.len
 nd:=r.nd
 sep:=r.sep
 at':=fun i a o q1 q2=>by
  have m:=r.at' i a o q1 q2;cases o with
  |dead=>trivial
  |lst ds=>obtain⟨vs,q,t⟩:=m;exact⟨vs,e _ _ q,t⟩
  |dct kvs=>obtain⟨vs,q,t⟩:=m;exact⟨vs,e _ _ q,t⟩
  |ins C fs=>obtain⟨dx,vs,q,t⟩:=m;exact⟨dx,vs,e _ _ q,t⟩
 own:=fun i a q=>by
  have m:=r.own i a q;cases z:H a with
  |none=>exact absurd z m
  |some o=>rw[e _ _ z];intro w;cases w
theorem fB {H:Hp}{a:Af}{o:HO}(h:H a=none):qH H (upd H a o):=fun b u e=>by rw[qP (zM e h)];exact e
theorem Rel.pure {a:Af}{o:HO}(r:Rel K H P α S)(h:H a=none):Rel K (upd H a o) (upd P a o) α S∧qH P (upd P a o):=by
 have hP:P a=none:=by
  cases z:P a with
  |none=>rfl
  |some u=>rw[r.sub _ _ z] at h;cases h
 have sP:qH P (upd P a o):=fB hP;have r1:=r.grow (fB (o:=o) h);refine⟨⟨fun b u e=>?_,r.len,r.nd,fun i b u q1 q2 q3=>?_,fun i b u q1 q2=>(r1.at' i b u q1 q2).mono sP (Bp _),r1.own⟩,sP⟩
 ·by_cases hb:b=a
  ·subst hb;rw[zD] at e ⊢;exact e
  ·rw[qP hb] at e ⊢;exact r.sub _ _ e
 ·have hb:b≠a:=by rintro rfl;exact r.own i b q1 h
  rw[qP hb];exact r.sep i b u q1 q2 q3
theorem Rel.new {a:Af}{o:HO}{m:MO}(r:Rel K H P α S)(h:H a=none)(hm:MOk K (upd H a o) P (α ++ [a]) a m):Rel K (upd H a o) P (α ++ [a]) (S++[m]):=by
 have hP:P a=none:=by
  cases z:P a with
  |none=>rfl
  |some u=>rw[r.sub _ _ z] at h;cases h
 have r1:=r.grow (fB (o:=o) h);have hp:α<+:α++[a]:=Gt _ _;have split:∀ (i:Ai) (b:Af),(α++[a])[i]? = Aa b→(i<α.length∧α[i]? = Aa b)∨(i=α.length∧b=a):=fun i b q=>by
  by_cases hi:i<α.length
  ·rw[Bj hi] at q;exact .inl ⟨hi,q⟩
  ·rw[Dd om] at q
   cases hk:i-α.length with
   |zero=>rw[hk] at q;simp at q;exact .inr ⟨by omega,q.symm⟩
   |succ k=>rw[hk] at q;simp at q
 refine⟨r1.sub,by simp[r.len],?_,fun i b u q1 q2 q3=>?_,fun i b u q1 q2=>?_,fun i b q=>?_⟩
 ·rw[Md]
  refine⟨r.nd,by simp,fun b hb c hc e=>?_⟩
  simp at hc;subst hc;subst e;obtain⟨i,hi,e⟩:=Co.mp hb;exact r.own i b (by rw[Ap hi,e]) h
 ·rcases split i b q1 with⟨hi,z⟩|⟨hi,rfl⟩
  ·rw[Bj (by rw[← r.len];exact hi)] at q2
   exact r.sep i b u z q2 q3
  ·exact hP
 ·rcases split i b q1 with⟨hi,z⟩|⟨hi,rfl⟩
  ·rw[Bj (by rw[← r.len];exact hi)] at q2
   exact(r1.at' i b u z q2).mono (qH.refl _) hp
  ·rw[hi,r.len,Dd (As _)] at q2
   simp at q2;subst q2;exact hm
 ·rcases split i b q with⟨_,z⟩|⟨_,rfl⟩
  ·exact r1.own i b z
  ·rw[zD];intro z;cases z
theorem rO {N:Ab Af}(hN:N.Nodup){i j:Ai}{x:Af}(a:N[i]? = Aa x)(b:N[j]? = Aa x):i=j:=by
 obtain⟨h1,e1⟩:=Bf.mp a;obtain⟨h2,e2⟩:=Bf.mp b;exact(Mt hN).mp (e1.trans e2.symm)
theorem Rel.put {a:Af}{i:Ai}{o:HO}{m m':MO}(r:Rel K H P α S)(ha:α[i]? = Aa a)(hs:S[i]? = Aa m)(hd:m≠.dead)(hm:MOk K (upd H a o) P α a m'):Rel K (upd H a o) P α (S.set i m'):=by
 have hP:=r.sep i a m ha hs hd;have hi:i<S.length:=(Bf.mp hs).1;refine⟨fun b u e=>?_,by simp[r.len],r.nd,fun j b u q1 q2 q3=>?_,fun j b u q1 q2=>?_,fun j b q=>?_⟩
 ·have hb:b≠a:=by rintro rfl;rw[hP] at e;cases e
  rw[qP hb];exact r.sub _ _ e
 ·by_cases hj:j=i
  ·subst hj;rw[ha] at q1;cases q1;exact hP
  ·rw[Cf (Ho hj)] at q2;exact r.sep j b u q1 q2 q3
 ·by_cases hj:j=i
  ·subst hj;rw[ha] at q1;cases q1
   rw[Ef hi] at q2;cases q2;exact hm
  ·rw[Cf (Ho hj)] at q2
   have hb:b≠a:=by rintro rfl;exact hj (rO r.nd q1 ha)
   have z:=r.at' j b u q1 q2;cases u with
   |dead=>trivial
   |lst ds=>obtain⟨vs,q,t⟩:=z;exact⟨vs,by rw[qP hb];exact q,t⟩
   |dct kvs=>obtain⟨vs,q,t⟩:=z;exact⟨vs,by rw[qP hb];exact q,t⟩
   |ins C fs=>obtain⟨dx,vs,q,t⟩:=z;exact⟨dx,vs,by rw[qP hb];exact q,t⟩
 ·by_cases hb:b=a
  ·subst hb;rw[zD];intro z;cases z
  ·rw[qP hb];exact r.own j b q
end
theorem nn {β : Type}{a:β}{p:Prop}(h:(none:Al β) = Aa a):p:=by cases h
theorem bP {β : Type}{c:Prop}[Ps c]{a b:β}(h:(if c then Aa a else none)=Aa b):c∧a=b:=by
 by_cases z:c
 ·rw[Bl z] at h;exact⟨z,Cw h⟩
 ·rw[Bk z] at h;exact nn h
end _D
end
namespace _D
open PySem PySem.Spec PyProof.Rows _L
abbrev DE:=qD→Sto→Res D
abbrev DT:=qD→Sto→Res Aq
abbrev DA:=qD→Sto→Res (Ab D)
inductive Out where
 |nx (env:qD) (S:Sto)|rt (d:D) (S:Sto)|bk (env:qD) (S:Sto)|ct (env:qD) (S:Sto)|ex (c:Ac) (x:D) (env:qD) (S:Sto)|bad
abbrev DS:=qD→Sto→Out
def Old (X:Cx)(pins:Ab (Af × Cq))(H:Hp)(b:Af):Prop:=
 (∃ o,X.s₀.heap.get? b=Aa o)∨H b≠none∨(∃ p∈X.pn++pins,p.1=b)∨∃ x,X.env.cells.lookup x=Aa b
def Cv (X:Cx)(pins:Ab (Af × Cq))(H:Hp)(B h:Bs):Prop:=∀ b o,h.get? b=Aa o→Old X pins H b→b ∉ frs X.stack→B.get? b=Aa o
inductive FlyX (X:Cx)(pins:Ab (Af × Cq))(H:Hp)(c:Ac)(e:Af)(h:Bs):Prop where
 |new (g:Bs) (args:Ab Ac):Tn g h e c args→g.FunFrames X.base X.stack→(∀ b o,h.get? b=Aa o→Old X pins H b→g.get? b=Aa o)→FlyX X pins H c e h
 |fly (B:Bs) (a0:Ac):Og B X.stack e c a0 h→Cv X pins H B h→FlyX X pins H c e h
inductive XOk (X:Cx)(P:Hp)(α : Ab Af)(c:Ac)(x:D)(S:Sto)(u:Ac)(s:Ag):Prop
 |mk (e:Af) (pins:Ab (Af × Cq)) (σ : _L.St) (H:Hp) (P':Hp) (α' : Ab Af) (e1:u=.ref e) (I:Inv X pins σ H s) (r:Rel X.K H P' α' S) (q1:qH P P') (q2:α<+:α') (q3:X.ex=[]∧X.stack=X.env::X.outer∧X.env.frame=Aa X.env.locals) (q4:FlyX X pins H c e s.heap):XOk X P α c x S u s
theorem XOk.base {X:Cx}{P P1:Hp}{α α1:Ab Af}{c:Ac}{x:D}{S:Sto}{u:Ac}{s:Ag}(e:qH P P1)(h:α<+:α1)(k:XOk X P1 α1 c x S u s):XOk X P α c x S u s:=by
 obtain⟨a,pins,σ,H,P',α',e1,I,r,q1,q2,q3,q4⟩:=k;exact⟨a,pins,σ,H,P',α',e1,I,r,e.trans q1,h.trans q2,q3,q4⟩
section
variable (X:Cx)
def qI {β : Type}(P:Hp)(α : Ab Af)(r:Res β)(Ok:β→Sto→Prop):Prop:=
 match r with
 |.ok d S'=>Ok d S'
 |.ex c x S'=>∀ u s',XOk X P α c x S' u s'→X.xe u s'
 |.bad=>Fm
def OkV (P:Hp)(α : Ab Af)(Q:VK)(d:D)(S':Sto):Prop:=∀ v H' P' α',Rel X.K H' P' α' S'→qH P P'→α<+:α'→Rep X.K P' α' d v→Q v H'
def OkT (P:Hp)(α : Ab Af)(Q:Aq→Hp→Prop)(b:Aq)(S':Sto):Prop:=∀ H' P' α',Rel X.K H' P' α' S'→qH P P'→α<+:α'→Q b H'
def OkA (P:Hp)(α : Ab Af)(Q:Ab V→Hp→Prop)(ds:Ab D)(S':Sto):Prop:=∀ vs H' P' α',Rel X.K H' P' α' S'→qH P P'→α<+:α'→qF X.K P' α' ds vs→Q vs H'
abbrev zA (P:Hp)(α : Ab Af)(r:Res D)(Q:VK):Prop:=qI X P α r (OkV X P α Q)
abbrev uI (P:Hp)(α : Ab Af)(r:Res Aq)(Q:Aq→Hp→Prop):Prop:=qI X P α r (OkT X P α Q)
abbrev fN (P:Hp)(α : Ab Af)(r:Res (Ab D))(Q:Ab V→Hp→Prop):Prop:=qI X P α r (OkA X P α Q)
def zN (P:Hp)(α : Ab Af)(r:Out)(D:Ends):Prop:=
 match r with
 |.nx env' S'=>∀ σ' H' P' α',Rel X.K H' P' α' S'→zH X.K P' α' σ' env'→qH P P'→α<+:α'→D.nx σ' H'
 |.bk env' S'=>∀ σ' H' P' α',Rel X.K H' P' α' S'→zH X.K P' α' σ' env'→qH P P'→α<+:α'→D.bk σ' H'
 |.ct env' S'=>∀ σ' H' P' α',Rel X.K H' P' α' S'→zH X.K P' α' σ' env'→qH P P'→α<+:α'→D.ct σ' H'
 |.rt d S'=>∀ v H' P' α',Rel X.K H' P' α' S'→qH P P'→α<+:α'→Rep X.K P' α' d v→D.rt v H'
 |.ex c x _ S'=>∀ u s',XOk X P α c x S' u s'→X.xe u s'
 |.bad=>Fm
inductive tD (f:DE)(σ : _L.St)(H:Hp)(Q:VK):Prop
 |mk (P:Hp) (α : Ab Af) (env:qD) (S:Sto) (r:Rel X.K H P α S) (re:zH X.K P α σ env) (af:zA X P α (f env S) Q):tD f σ H Q
inductive tDT (f:DT)(σ : _L.St)(H:Hp)(Q:Aq→Hp→Prop):Prop
 |mk (P:Hp) (α : Ab Af) (env:qD) (S:Sto) (r:Rel X.K H P α S) (re:zH X.K P α σ env) (af:uI X P α (f env S) Q):tDT f σ H Q
inductive tDA (f:DA)(σ : _L.St)(H:Hp)(Q:Ab V→Hp→Prop):Prop
 |mk (P:Hp) (α : Ab Af) (env:qD) (S:Sto) (r:Rel X.K H P α S) (re:zH X.K P α σ env) (af:fN X P α (f env S) Q):tDA f σ H Q
inductive tDS (f:DS)(D:Ends)(σ : _L.St)(H:Hp):Prop
 |mk (P:Hp) (α : Ab Af) (env:qD) (S:Sto) (r:Rel X.K H P α S) (re:zH X.K P α σ env) (af:zN X P α (f env S) D):tDS f D σ H
end
section
variable {X:Cx}{P P1:Hp}{α α1:Ab Af}
theorem zA.base {r:Res D}{Q:VK}(e:qH P P1)(h:α<+:α1)(k:zA X P α r Q):zA X P1 α1 r Q:=by
 cases r with
 |ok d S=>exact fun v H' P' α' r q1 q2 q3=>k v H' P' α' r (e.trans q1) (h.trans q2) q3
 |ex c x S=>exact fun u s' q=>k u s' (q.base e h)
 |bad=>exact k
theorem uI.base {r:Res Aq}{Q:Aq→Hp→Prop}(e:qH P P1)(h:α<+:α1)(k:uI X P α r Q):uI X P1 α1 r Q:=by
 cases r with
 |ok d S=>exact fun H' P' α' r q1 q2=>k H' P' α' r (e.trans q1) (h.trans q2)
 |ex c x S=>exact fun u s' q=>k u s' (q.base e h)
 |bad=>exact k
theorem fN.base {r:Res (Ab D)}{Q:Ab V→Hp→Prop}(e:qH P P1)(h:α<+:α1)(k:fN X P α r Q):fN X P1 α1 r Q:=by
 cases r with
 |ok d S=>exact fun v H' P' α' r q1 q2 q3=>k v H' P' α' r (e.trans q1) (h.trans q2) q3
 |ex c x S=>exact fun u s' q=>k u s' (q.base e h)
 |bad=>exact k
theorem zN.base {r:Out}{D:Ends}(e:qH P P1)(h:α<+:α1)(k:zN X P α r D):zN X P1 α1 r D:=by
 cases r with
 |nx env S=>exact fun v H' P' α' r q0 q1 q2=>k v H' P' α' r q0 (e.trans q1) (h.trans q2)
 |bk env S=>exact fun v H' P' α' r q0 q1 q2=>k v H' P' α' r q0 (e.trans q1) (h.trans q2)
 |ct env S=>exact fun v H' P' α' r q0 q1 q2=>k v H' P' α' r q0 (e.trans q1) (h.trans q2)
 |rt d S=>exact fun v H' P' α' r q1 q2 q3=>k v H' P' α' r (e.trans q1) (h.trans q2) q3
 |ex c x env S=>exact fun u s' q=>k u s' (q.base e h)
 |bad=>exact k
theorem xr {Q:VK}{v:V}{H:Hp}{d:D}{S:Sto}(k:OkV X P α Q d S)(r:Rel X.K H P α S)(q:Rep X.K P α d v):Q v H:=k v H P α r (qH.refl _) (Bp _) q
end
section
variable {X:Cx}{a b e:By}{pos:Fk}
theorem peW {t t':TE}(h:PE X e t)(w:∀ σ H Q,t' σ H Q→t σ H Q):PE X e t':=fun pins s σ H Q I q=>h pins s σ H Q I (w σ H Q q)
theorem psW {st:Fl}{t t':TS}(h:PS X st t)(w:∀ D σ H,t' D σ H→t D σ H):PS X st t':=fun pins s σ H D I q=>h pins s σ H D I (w D σ H q)
theorem E6 {st:Ab Fl}{t t':TS}(h:PSs X st t)(w:∀ D σ H,t' D σ H→t D σ H):PSs X st t':=fun pins s σ H D I q=>h pins s σ H D I (w D σ H q)
theorem paW {es:Ab By}{t t':TA}(h:PA X es t)(w:∀ σ H Q,t' σ H Q→t σ H Q):PA X es t':=fun pos pins s σ H Q I q=>h pos pins s σ H Q I (w σ H Q q)
structure Got (X:Cx)(pins:Ab (Af × Cq))(σ : _L.St)(env:qD)(P:Hp)(α : Ab Af)(u:Ac)(s1:Ag)(v:V)(H1 P1:Hp)(α1:Ab Af)(d:D)(S1:Sto):Prop where
 inv:Inv X pins σ H1 s1
 val:qK v u
 rel:Rel X.K H1 P1 α1 S1
 env:zH X.K P1 α1 σ env
 rep:Rep X.K P1 α1 d v
 same:qH P P1
 pre:α<+:α1
inductive GotG (X:Cx)(pins:Ab (Af × Cq))(σ : _L.St)(env:qD)(P:Hp)(α : Ab Af)(u:Ac)(s1:Ag){γ : Type}(g:D→Sto→Res γ)(Ok:γ→Sto→Prop):Prop
 |mk (v:V) (H1 P1:Hp) (α1:Ab Af) (d:D) (S1:Sto) (G:Got X pins σ env P α u s1 v H1 P1 α1 d S1) (q:qI X P α (g d S1) Ok):GotG X pins σ env P α u s1 g Ok
inductive GotAG (X:Cx)(pins:Ab (Af × Cq))(σ : _L.St)(env:qD)(P:Hp)(α : Ab Af)(us:Ab Ac)(s1:Ag){γ : Type}(g:Ab D→Sto→Res γ)(Ok:γ→Sto→Prop):Prop
 |mk (vs:Ab V) (H1 P1:Hp) (α1:Ab Af) (ds:Ab D) (S1:Sto) (I:Inv X pins σ H1 s1) (rv:qL vs us) (r:Rel X.K H1 P1 α1 S1) (re:zH X.K P1 α1 σ env) (rp:qF X.K P1 α1 ds vs) (e1:qH P P1) (e2:α<+:α1) (q:qI X P α (g ds S1) Ok):GotAG X pins σ env P α us s1 g Ok
inductive GotT (X:Cx)(pins:Ab (Af × Cq))(σ : _L.St)(env:qD)(P:Hp)(α : Ab Af)(b:Aq)(s1:Ag){γ : Type}(g:Aq→Sto→Res γ)(Ok:γ→Sto→Prop):Prop
 |mk (H1 P1:Hp) (α1:Ab Af) (S1:Sto) (I:Inv X pins σ H1 s1) (r:Rel X.K H1 P1 α1 S1) (re:zH X.K P1 α1 σ env) (e1:qH P P1) (e2:α<+:α1) (q:qI X P α (g b S1) Ok):GotT X pins σ env P α b s1 g Ok
theorem xI {γ : Type}{f:DE}{g:D→Sto→Res γ}{Ok:γ→Sto→Prop}{pins:Ab (Af × Cq)}{s:Ag}{σ : _L.St}{H P:Hp}{α : Ab Af}{env:qD}{S:Sto}(he:PE X e (tD X f))(I:Inv X pins σ H s)(r:Rel X.K H P α S)
  (re:zH X.K P α σ env) (af:qI X P α ((f env S).bind g) Ok) :
  Ao (Au X.prog X.w) X.A (eval e X.env) (fun u s1=>GotG X pins σ env P α u s1 g Ok) X.xe s:=by
 refine thn (he pins s σ H (fun v H1=>∃ P1 α1 d S1,Rel X.K H1 P1 α1 S1∧zH X.K P1 α1 σ env∧Rep X.K P1 α1 d v∧qH P P1∧α<+:α1∧qI X P α (g d S1) Ok) I ⟨P,α,env,S,r,re,?_⟩) fun u s1 ⟨v,H1,I1,rv,P1,α1,d,S1,q1,q2,q3,q4,q5,q6⟩=>⟨v,H1,P1,α1,d,S1,⟨I1,rv,q1,q2,q3,q4,q5⟩,q6⟩;cases q:f env S with
 |bad=>rw[q] at af;exact af
 |ex c x S'=>rw[q] at af;exact af
 |ok d S' =>
  rw[q] at af;exact fun v H' P' α' r' e1 e2 rp=>⟨P',α',d,S',r',re.mono e1 e2,rp,e1,e2,af⟩
theorem yM {γ : Type}{es:Ab By}{f:DA}{g:Ab D→Sto→Res γ}{Ok:γ→Sto→Prop}{pins:Ab (Af × Cq)}{s:Ag}{σ : _L.St}{H P:Hp}{α : Ab Af}{env:qD}{S:Sto}(he:PA X es (tDA X f))(I:Inv X pins σ H s)(r:Rel X.K H P α S)
  (re:zH X.K P α σ env) (af:qI X P α ((f env S).bind g) Ok) (pos:Fk) :
  Ao (Au X.prog X.w) X.A (spliced (Fq pos (Bc es X.env))) (fun us s1=>GotAG X pins σ env P α us s1 g Ok) X.xe s:=by
 refine thn (he pos pins s σ H (fun vs H1=>∃ P1 α1 ds S1,Rel X.K H1 P1 α1 S1∧zH X.K P1 α1 σ env∧qF X.K P1 α1 ds vs∧qH P P1∧α<+:α1∧qI X P α (g ds S1) Ok) I ⟨P,α,env,S,r,re,?_⟩) fun u s1 ⟨v,H1,I1,rv,P1,α1,d,S1,q1,q2,q3,q4,q5,q6⟩=>⟨v,H1,P1,α1,d,S1,I1,rv,q1,q2,q3,q4,q5,q6⟩;cases q:f env S with
 |bad=>rw[q] at af;exact af
 |ex c x S'=>rw[q] at af;exact af
 |ok d S' =>
  rw[q] at af;exact fun v H' P' α' r' e1 e2 rp=>⟨P',α',d,S',r',re.mono e1 e2,rp,e1,e2,af⟩
theorem nU {γ : Type}{f:DT}{g:Aq→Sto→Res γ}{Ok:γ→Sto→Prop}{pins:Ab (Af × Cq)}{s:Ag}{σ : _L.St}{H P:Hp}{α : Ab Af}{env:qD}{S:Sto}{m:Kt Aq}
  (he:∀ (Q:Aq→Hp→Prop),tDT X f σ H Q→Ao (Au X.prog X.w) X.A m (TP X pins σ Q) X.xe s) (r:Rel X.K H P α S) (re:zH X.K P α σ env) (af:qI X P α ((f env S).bind g) Ok) :
  Ao (Au X.prog X.w) X.A m (fun b s1=>GotT X pins σ env P α b s1 g Ok) X.xe s:=by
 refine thn (he (fun b H1=>∃ P1 α1 S1,Rel X.K H1 P1 α1 S1∧zH X.K P1 α1 σ env∧qH P P1∧α<+:α1∧qI X P α (g b S1) Ok) ⟨P,α,env,S,r,re,?_⟩) fun b s1 ⟨H1,I1,P1,α1,S1,q1,q2,q4,q5,q6⟩=>⟨H1,P1,α1,S1,I1,q1,q2,q4,q5,q6⟩;cases q:f env S with
 |bad=>rw[q] at af;exact af
 |ex c x S'=>rw[q] at af;exact af
 |ok d S' =>
  rw[q] at af;exact fun H' P' α' r' e1 e2=>⟨P',α',S',r',re.mono e1 e2,e1,e2,af⟩
def dC (d:D):DE:=fun _ S=>.ok d S
def qB (i:Ai):DE:=fun env S=>match env[i]? with
 |some (Aa d)=>.ok d S
 |_=>.bad
theorem D4 {i j}:PE X (.Constant (.int i) j pos) (tD X (dC (.int i))):=peW RQ fun σ H Q ⟨P,α,env,S,r,re,af⟩=>xr af r (by simp only[Rep])
theorem HM {i j}:PE X (.Constant (.bool i) j pos) (tD X (dC (.bl i))):=peW CY fun σ H Q ⟨P,α,env,S,r,re,af⟩=>xr af r (by simp only[Rep])
theorem D8 {i j}:PE X (.Constant (.str i) j pos) (tD X (dC (.str i))):=peW RU fun σ H Q ⟨P,α,env,S,r,re,af⟩=>xr af r (by simp only[Rep])
theorem D5 {j}:PE X (.Constant .none j pos) (tD X (dC .non)):=peW RS fun σ H Q ⟨P,α,env,S,r,re,af⟩=>xr af r (by simp only[Rep])
set_option tactic.hygienic true in
theorem NU {i:Ai}{σ : _L.St}{H:Hp}{Q:VK}(h:tD X (qB i) σ H Q):ER i σ H Q:=by
 obtain⟨P,α,env,S,r,re,af⟩:=h;unfold qB at af
 split at af
 ·rename_i d q
  obtain⟨v,h1,h2⟩:=re.2 i d q;exact⟨v,h1,xr af r h2⟩
 ·exact An af
theorem dv (i:Ai){x:Ax}(hN:X.N[i]? = Aa x:=by rfl)(hv:Vis X.env.scope x:=by first|exact Zj rfl|exact Xo (Zj rfl)|exact Xo (Xo rfl))(hd:(x == ("__debug__" : Ax))=false:=by decide)
  (hcd:(x == ("__classdict__" : Ax))=false:=by decide):PE X (.Name x pos) (tD X (qB i)):=peW (RW hN hv hd hcd) fun σ H Q h=>NU h
theorem oN {x:Ax}{d:D}{v:V}{u:Ac}(hg:Gl X x)(hm:X.mg x=Aa u)(r:qK v u)(q:∀ P α,Rep X.K P α d v)(hd:(x == ("__debug__" : Ax))=false:=by decide):PE X (.Name x pos) (tD X (dC d)):=
 peW (N1 hg hm r hd) fun σ H Q ⟨P,α,env,S,r,re,af⟩=>xr af r (q _ _)
theorem FV {x:Ax}{n:Ep}(hg:Gl X x)(hm:X.mg x=none)(hv:Gc x=Aa (.type n))(hn:x ≠ "__name__":=by decide)(hd:(x == ("__debug__" : Ax))=false:=by decide):PE X (.Name x pos) (tD X (dC (.ty n))):=
 peW (N0 (v:=.ty n) hg hm hv rfl hn hd) fun σ H Q ⟨P,α,env,S,r,re,af⟩=>xr af r (by simp only[Rep])
abbrev G2:=D→D→Sto→Res D
def OpD (X:Cx)(f:Ac→Ac→Kt Ac)(g:G2):Prop:=
 ∀ (pins:Ab (Af × Cq)) (σ : _L.St) (H:Hp) (s:Ag) (P:Hp) (α : Ab Af) (S:Sto) (v u:V) (vv uu:Ac) (a b:D) (Q:VK),Inv X pins σ H s→Rel X.K H P α S→qK v vv→qK u uu→Rep X.K P α a v→Rep X.K P α b u→zA X P α (g a b S) Q →
  Ao (Au X.prog X.w) X.A (f vv uu) (EP X pins σ Q) X.xe s
theorem OpD.of {f:Ac→Ac→Kt Ac}{r:R2}{g:G2}(h:OpR X f r)(w:∀ H P α S v u a b Q,Rel X.K H P α S→Rep X.K P α a v→Rep X.K P α b u→zA X P α (g a b S) Q→r v u H Q):OpD X f g:=
 fun pins σ H s P α S v u vv uu a b Q I rl r1 r2 p1 p2 af=>h pins s σ H v u vv uu Q I r1 r2 (w H P α S v u a b Q rl p1 p2 af)
def UnD (X:Cx)(f:Ac→Kt Ac)(g:D→Sto→Res D):Prop:=
 ∀ (pins:Ab (Af × Cq)) (σ : _L.St) (H:Hp) (s:Ag) (P:Hp) (α : Ab Af) (S:Sto) (v:V) (vv:Ac) (a:D) (Q:VK),Inv X pins σ H s→Rel X.K H P α S→qK v vv→Rep X.K P α a v→zA X P α (g a S) Q →
  Ao (Au X.prog X.w) X.A (f vv) (EP X pins σ Q) X.xe s
def IxD (X:Cx)(g:G2):Prop:=
 ∀ (value slice:By) (pins:Ab (Af × Cq)) (σ : _L.St) (H:Hp) (s:Ag) (P:Hp) (α : Ab Af) (S:Sto) (v u:V) (vv uu:Ac) (a b:D) (Q:VK),Inv X pins σ H s→Rel X.K H P α S→qK v vv→qK u uu→Rep X.K P α a v→Rep X.K P α b u→zA X P α (g a b S) Q →
  subscripted slice false vv uu=operate [vv,uu] (Mx vv uu)→Ao (Au X.prog X.w) X.A (Uo value slice vv uu) (EP X pins σ Q) X.xe s
def yU (X:Cx)(f:Ac)(g:Ab D→Sto→Res D):Prop:=
 ∀ (pins:Ab (Af × Cq)) (σ : _L.St) (H:Hp) (s:Ag) (P:Hp) (α : Ab Af) (S:Sto) (vs:Ab V) (us:Ab Ac) (ds:Ab D) (Q:VK),Inv X pins σ H s→Rel X.K H P α S→qL vs us→qF X.K P α ds vs→zA X P α (g ds S) Q →
  Ao (Au X.prog X.w) X.A (call f us) (EP X pins σ Q) X.xe s
def d2 (g:G2)(fa fb:DE):DE:=fun env S=>(fa env S).bind fun x S1=>(fb env S1).bind fun y S2=>g x y S2
def d1 (g:D→Sto→Res D)(fa:DE):DE:=fun env S=>(fa env S).bind g
variable {fa fb:DE}
theorem cK {g:G2}{f:Ac→Ac→Kt Ac}{pins:Ab (Af × Cq)}{s:Ag}{σ : _L.St}{H:Hp}{Q:VK}(ho:OpD X f g)(ha:PE X a (tD X fa))(hb:PE X b (tD X fb))(I:Inv X pins σ H s)(h:tD X (d2 g fa fb) σ H Q) :
  Ao (Au X.prog X.w) X.A (eval a X.env) (fun v s₁=>Ao (Au X.prog X.w) X.A (eval b X.env) (fun u s₂=>Ao (Au X.prog X.w) X.A (f v u) (EP X pins σ Q) X.xe s₂) X.xe s₁) X.xe s:=by
 obtain⟨P,α,env,S,r,re,af⟩:=h;refine thn (xI ha I r re af) fun vv s1 ⟨v,H1,P1,α1,d,S1,G1,af1⟩=>?_;refine thn (xI hb G1.inv G1.rel G1.env (P:=P1) (α:=α1) (Ok:=OkV X P1 α1 Q) (g:=fun y S2=>g d y S2) ?_) fun uu s2 ⟨u,H2,P2,α2,d',S2,G2,af2⟩=>?_
 ·exact zA.base G1.same G1.pre af1
 ·exact ho pins σ H2 s2 P2 α2 S2 v u vv uu d d' Q G2.inv G2.rel G1.val G2.val (Rep.mono G2.same G2.pre _ _ G1.rep) G2.rep (zA.base G2.same G2.pre af2)
theorem HQ {op:Operator}{g:G2}(ho:OpD X (Ex op) g)(ha:PE X a (tD X fa))(hb:PE X b (tD X fb)):PE X (.BinOp a op b pos) (tD X (d2 g fa fb)):=
 fun pins s σ H Q I h=>wpAny_BinOp (cK ho ha hb I h)
theorem D2 {op:Uf}{g:G2}(ho:OpD X (Dt op) g)(ha:PE X a (tD X fa))(hb:PE X b (tD X fb))(hm:Kw op b=false:=by first|exact pZ _|with_unfolding_all rfl):PE X (.Compare a [op] [b] pos) (tD X (d2 g fa fb)):=
 fun pins s σ H Q I h=>wpAny_Compare1 (cK ho ha hb I h) hm
theorem HR {op:UnaryOp}{g:D→Sto→Res D}(ho:UnD X (Xh op) g)(ha:PE X a (tD X fa)):PE X (.UnaryOp op a pos) (tD X (d1 g fa)):=by
 intro pins s σ H Q I h;obtain⟨P,α,env,S,r,re,af⟩:=h;exact UnaryOp_ (thn (xI ha I r re af) fun vv s1 ⟨v,H1,P1,α1,d,S1,G1,af1⟩=>ho pins σ H1 s1 P1 α1 S1 v vv d Q G1.inv G1.rel G1.val G1.rep (zA.base G1.same G1.pre af1))
theorem PX {g:G2}(ho:IxD X g)(ha:PE X a (tD X fa))(hb:PE X b (tD X fb))(hs:kT b:=by intro _ _;rfl):PE X (.Subscript a b pos) (tD X (d2 g fa fb)):=by
 intro pins s σ H Q I h;obtain⟨P,α,env,S,r,re,af⟩:=h;have IxR':IxR X (fun x y H Q=>∃ P α S a b,Rel X.K H P α S∧Rep X.K P α a x∧Rep X.K P α b y∧zA X P α (g a b S) Q):=fun value slice pins s σ H x y v u Q I rx ry ⟨P,α,S,a,b,r,p1,p2,af⟩ hsl =>
  ho value slice pins σ H s P α S x y v u a b Q I r rx ry p1 p2 af hsl
 refine peW (CZ IxR' ha hb hs) (t':=tD X (d2 g fa fb)) (fun σ H Q h=>?_) pins s σ H Q I ⟨P,α,env,S,r,re,af⟩;obtain⟨P,α,env,S,r,re,af⟩:=h;refine⟨P,α,env,S,r,re,?_⟩;unfold d2 at af;cases q:fa env S with
 |bad=>rw[q] at af;exact af
 |ex c x S'=>rw[q] at af;exact af
 |ok d S1 =>
  rw[q] at af;intro v H1 P1 α1 r1 e1 e2 rp;refine⟨P1,α1,env,S1,r1,re.mono e1 e2,?_⟩;have af':zA X P α ((fb env S1).bind fun y S2=>g d y S2) Q:=af;cases q2:fb env S1 with
  |bad=>rw[q2] at af';exact af'
  |ex c x S'=>rw[q2] at af';exact fun u s' z=>af' u s' (z.base e1 e2)
  |ok d' S2 =>
   rw[q2] at af';intro u H2 P2 α2 r2 e3 e4 rp2;exact⟨P2,α2,S2,d,d',r2,Rep.mono e3 e4 _ _ rp,rp2,zA.base (e1.trans e3) (e2.trans e4) af'⟩
def qC:DA:=fun _ S=>.ok [] S
def qA (f:DE)(g:DA):DA:=fun env S=>(f env S).bind fun x S1=>(g env S1).bind fun xs S2=>.ok (x::xs) S2
theorem WT:PA X [] (tDA X qC):=paW RP fun σ H Q ⟨P,α,env,S,r,re,af⟩=>af [] H P α r (qH.refl _) (Bp _) .nil
theorem oM {es:Ab By}{g:DA}(ha:PE X e (tD X fa))(hr:PA X es (tDA X g))(hs:Bc (e::es) X.env=(false,eval e X.env)::Bc es X.env:=by rfl):PA X (e::es) (tDA X (qA fa g)):=by
 intro pos pins s σ H Q I h;obtain⟨P,α,env,S,r,re,af⟩:=h;rw[hs];show Ao _ _ (spliced ((false,eval e X.env)::Fq pos (Bc es X.env))) _ _ s;refine Pe (thn (xI ha I r re af) fun u s1 ⟨x,H1,P1,α1,d,S1,G1,af1⟩=>?_);refine thn (yM hr G1.inv G1.rel G1.env (P:=P1) (α:=α1) (Ok:=OkA X P1 α1 Q) (fN.base G1.same G1.pre af1) pos) fun us s2 ⟨xs,H2,P2,α2,ds,S2,I2,rv,r2,re2,rp2,e1,e2,af2⟩=>?_;exact⟨x::xs,H2,I2,.cons G1.val rv,af2 _ _ _ _ r2 e1 e2 (.cons (Rep.mono e1 e2 _ _ G1.rep) rp2)⟩
def lim:Ai:=16777216
theorem xN:lim=sizeLine:=Ev.symm
def zC (f:DA):DE:=fun env S=>(f env S).bind fun xs S1=>if xs.length≤lim then .ok (.tup xs) S1 else .bad
def zO (f:DA):DE:=fun env S=>(f env S).bind fun xs S1=>if xs.length≤lim then .ok (.lst xs) S1 else .bad
def eS (f:DA):DE:=fun env S=>(f env S).bind fun xs S1=>if xs.length≤lim then .ok (.loc S1.length) (S1++[.lst xs]) else .bad
theorem tB {K:Ak}{P:Hp}{α : Ab Af}{a:Af}{ds:Ab D}{vs:Ab V}(h:SqT K P a vs)(r:qF K P α ds vs):Rep K P α (.tup ds) (.ref a):=by simp only[Rep];exact⟨a,vs,rfl,h,r⟩
theorem t9 {K:Ak}{P:Hp}{α : Ab Af}{a:Af}{ds:Ab D}{vs:Ab V}(h:SqX K P a vs)(r:qF K P α ds vs):Rep K P α (.lst ds) (.ref a):=by simp only[Rep];exact⟨a,vs,rfl,h,r⟩
theorem bY {H P:Hp}{α : Ab Af}{S:Sto}{p:Af}{ds:Ab D}{vs:Ab V}{Q:VK}(r:Rel X.K H P α S)(hp:H p=none)(rp:qF X.K P α ds vs)(af:OkV X P α Q (.tup ds) S):Q (.ref p) (upd H p (.tup vs)):=by
 obtain⟨r1,e1⟩:=r.pure (o:=.tup vs) hp;exact af _ _ _ α r1 e1 (Bp _) (tB (.of zD) (qF.mono e1 (Bp _) _ _ rp))
theorem u9 {H P:Hp}{α : Ab Af}{S:Sto}{p:Af}{ds:Ab D}{vs:Ab V}{Q:VK}(r:Rel X.K H P α S)(hp:H p=none)(rp:qF X.K P α ds vs)(af:OkV X P α Q (.lst ds) S):Q (.ref p) (upd H p (.lst vs)):=by
 obtain⟨r1,e1⟩:=r.pure (o:=.lst vs) hp;exact af _ _ _ α r1 e1 (Bp _) (t9 (.inl (.inl zD)) (qF.mono e1 (Bp _) _ _ rp))
theorem sE {H P:Hp}{α : Ab Af}{S:Sto}{p:Af}{ds:Ab D}{vs:Ab V}{Q:VK}(r:Rel X.K H P α S)(hp:H p=none)(rp:qF X.K P α ds vs)(af:OkV X P α Q (.loc S.length) (S++[.lst ds])):Q (.ref p) (upd H p (.lst vs)):=by
 have hpre:α<+:α++[p]:=Gt _ _;have r1:=r.new (o:=.lst vs) (m:=.lst ds) hp ⟨vs,zD,qF.mono (qH.refl _) hpre _ _ rp⟩;refine af _ _ _ _ r1 (qH.refl _) hpre ?_;simp only[Rep];exact⟨p,rfl,by rw[← r.len];simp⟩
theorem dH {f:DA}{σ : _L.St}{H:Hp}{Q:VK}{G:Ab D→Sto→Res D}{mk:Ab V→HO}(h:tD X (fun env S=>(f env S).bind fun xs S1=>if xs.length≤lim then G xs S1 else .bad) σ H Q)
  (k:∀ H1 P1 α1 S1 ds vs p,Rel X.K H1 P1 α1 S1→H1 p=none→qF X.K P1 α1 ds vs→zA X P1 α1 (G ds S1) Q→Q (.ref p) (upd H1 p (mk vs))) :
  tDA X f σ H fun vs H1=>vs.length≤sizeLine∧∀ p,H1 p=none→Q (.ref p) (upd H1 p (mk vs)):=by
 obtain⟨P,α,env,S,r,re,af⟩:=h;refine⟨P,α,env,S,r,re,?_⟩;have af':zA X P α ((f env S).bind fun xs S1=>if xs.length≤lim then G xs S1 else .bad) Q:=af
 cases q:f env S with
 |bad=>rw[q] at af';exact af'
 |ex c x S'=>rw[q] at af';exact af'
 |ok ds S1 =>
  rw[q] at af';intro vs H1 P1 α1 r1 e1 e2 rp;have af2:zA X P α (if ds.length≤lim then G ds S1 else .bad) Q:=af'
  by_cases hl:ds.length≤lim
  ·rw[Bl hl] at af2
   exact⟨by rw[← rp.length,← xN];exact hl,fun p hp=>k H1 P1 α1 S1 ds vs p r1 hp rp (zA.base e1 e2 af2)⟩
  ·rw[Bk hl] at af2;exact An af2
theorem DB {es:Ab By}{f:DA} {x1} (h:PA X es (tDA X f)):PE X (.Tuple es x1 pos) (tD X (zC f)):=
 peW (RV h) fun σ H Q q=>dH (G:=fun xs S1=>.ok (.tup xs) S1) (mk:=.tup) q fun H1 P1 α1 S1 ds vs p r hp rp af=>bY r hp rp af
theorem WW {es:Ab By}{f:DA}(h:PA X es (tDA X f)):PE X (.List es pos) (tD X (zO f)):=
 peW (V5 h) fun σ H Q q=>dH (G:=fun xs S1=>.ok (.lst xs) S1) (mk:=.lst) q fun H1 P1 α1 S1 ds vs p r hp rp af=>u9 r hp rp af
theorem FY {es:Ab By}{f:DA}(h:PA X es (tDA X f)):PE X (.List es pos) (tD X (eS f)):=
 peW (V5 h) fun σ H Q q=>dH (G:=fun xs S1=>.ok (.loc S1.length) (S1++[MO.lst xs])) (mk:=.lst) q fun H1 P1 α1 S1 ds vs p r hp rp af=>sE r hp rp af
end
section
variable {X:Cx}{a b c e:By}{pos:Fk}{fa fb fc:DE}{ta tb:DT}
def xZ:D→Sto→Al Aq
 |.non,_=>Aa false
 |.bl b,_=>Aa b
 |.int i,_=>Aa (i != 0)
 |.str x,_=>if x.length≤lim then Aa ((x.length:Aj) != 0) else none
 |.tup xs,_=>Aa (!xs.isEmpty)
 |.lst xs,_=>Aa (!xs.isEmpty)
 |.dct0,_=>Aa false
 |.loc i,S=>match S[i]? with
  |some (.lst xs)=>Aa (!xs.isEmpty)
  |some (.dct kvs)=>Aa (!kvs.isEmpty)
  |_=>none
 |_,_=>none
theorem qF.isEmpty {K:Ak}{P:Hp}{α : Ab Af}{ds:Ab D}{vs:Ab V}(r:qF K P α ds vs):(!ds.isEmpty)=!vs.isEmpty:=by
 cases ds with
 |nil=>rw[r.nil_inv];rfl
 |cons d ds=>obtain⟨w,ws,rfl,_,_⟩:=r.cons_inv;rfl
theorem wQ {K:Ak}{H P:Hp}(e:qH P H){a:Af}{xs:Ab V}(h:SqT K P a xs):SqT K H a xs:=uC e h
theorem kZ {H P:Hp}{α : Ab Af}{S:Sto}{v:V}{d:D}{k:Aq}(r:Rel X.K H P α S)(p:Rep X.K P α d v)(h:xZ d S=Aa k):ZS X.K v H k:=by
 cases d with
 |non=>simp only[Rep] at p;subst p;cases h;rfl
 |bl b=>simp only[Rep] at p;subst p;cases h;rfl
 |int i=>simp only[Rep] at p;subst p;cases h;rfl
 |str x =>
  simp only[Rep] at p;subst p;obtain⟨hl,rfl⟩:=bP h;exact⟨by rw[← xN];exact hl,rfl⟩
 |tup xs =>
  simp only[Rep] at p;obtain⟨a,vs,rfl,q,t⟩:=p;cases h;exact .inr (.inl ⟨vs,wQ r.sub q,t.isEmpty⟩)
 |lst xs =>
  simp only[Rep] at p;obtain⟨a,vs,rfl,q,t⟩:=p;cases h;exact .inl ⟨vs,(wB r.sub q).l,t.isEmpty⟩
 |dct0 =>
  simp only[Rep] at p;obtain⟨a,rfl,q⟩:=p;cases h;exact .inr (.inr ⟨[],r.sub _ _ q,rfl⟩)
 |loc i =>
  simp only[Rep] at p;obtain⟨a,rfl,q⟩:=p;have h:(match S[i]? with|some (.lst xs)=>Aa (!xs.isEmpty)|some (.dct kvs)=>Aa (!kvs.isEmpty)|_=>none)=Aa k:=h
  cases hs:S[i]? with
  |none=>rw[hs] at h;exact nn h
  |some m =>
   rw[hs] at h;cases m with
   |lst xs =>
    cases h;obtain⟨vs,z,t⟩:=r.at' i a _ q hs;exact .inl ⟨vs,.of z,t.isEmpty⟩
   |dct kvs =>
    cases h;obtain⟨vs,z,t⟩:=r.at' i a _ q hs;refine .inr (.inr ⟨vs,z,?_⟩);cases t <;> rfl
   |_=>exact nn h
 |ty n=>exact nn h
 |obj a=>exact nn h
 |exn c=>exact nn h
 |fd ks ds=>exact nn h
theorem F3 {pins:Ab (Af × Cq)}{s:Ag}{σ : _L.St}{H P:Hp}{α : Ab Af}{S:Sto}{v:V}{vv:Ac}{d:D}{k:Aq}{Q:Aq→Hp→Prop}(I:Inv X pins σ H s)(r:Rel X.K H P α S)(rv:qK v vv)(p:Rep X.K P α d v)(h:xZ d S=Aa k)(q:Q k H) :
  Ao (Au X.prog X.w) X.A (truthy vv) (TP X pins σ Q) X.xe s:=mK pins s σ H v vv Q I rv ⟨k,kZ r p h,q⟩
def uW (o:Al Aq)(S:Sto):Res Aq:=match o with
 |some b=>.ok b S
 |none=>.bad
def dTr (f:DE):DT:=fun env S=>(f env S).bind fun d S1=>uW (xZ d S1) S1
theorem sQ {o:Al Aq}{S:Sto}{P:Hp}{α : Ab Af}{Ok:Aq→Sto→Prop}(h:qI X P α (uW o S) Ok):∃ b,o=Aa b∧Ok b S:=by
 cases o with
 |none=>exact An h
 |some b=>exact⟨b,rfl,h⟩
theorem S7 (ha:PE X a (tD X fa))(he:∀ whole,isTrue a X.env whole=(do let v ← whole;Us a.pos;holding [v] (truthy v)):=by intro _;rfl):PT X a (tDT X (dTr fa)):=by
 intro pins s σ H Q I h;obtain⟨P,α,env,S,r,re,af⟩:=h;refine isTrue_plain (thn (xI ha I r re af) fun vv s1 ⟨v,H1,P1,α1,d,S1,G1,af1⟩=>?_) (he _);obtain⟨k,e1,q⟩:=sQ af1;exact F3 G1.inv G1.rel G1.val G1.rep e1 (q H1 P1 α1 G1.rel G1.same G1.pre)
theorem DY {op:Uf}{g:G2}(ho:OpD X (Dt op) g)(ha:PE X a (tD X fa))(hb:PE X b (tD X fb))(hm:Kw op b=false:=by first|exact pZ _|with_unfolding_all rfl):PT X (.Compare a [op] [b] pos) (tDT X (dTr (d2 g fa fb))):=by
 intro pins s σ H Q I h;obtain⟨P,α,env,S,r,re,af⟩:=h;refine wpAny_isTrue_Compare1 ?_ hm;have key:tD X (d2 g fa fb) σ H (fun v H1=>∃ k,ZS X.K v H1 k∧Q k H1):=by
  refine⟨P,α,env,S,r,re,?_⟩;have af':qI X P α ((d2 g fa fb env S).bind fun d S1=>uW (xZ d S1) S1) (OkT X P α Q):=af;cases q:d2 g fa fb env S with
  |bad=>rw[q] at af';exact af'
  |ex c x S'=>rw[q] at af';exact af'
  |ok d S1 =>
   rw[q] at af';obtain⟨k,e1,qk⟩:=sQ (X:=X) af';exact fun v H1 P1 α1 r1 e3 e4 rp=>⟨k,kZ r1 rp e1,qk H1 P1 α1 r1 e3 e4⟩
 exact thn (cK ho ha hb I key) fun v s1 h1=>thn h1 fun u s2 h2=>thn h2 fun x s3 ⟨y,H3,I3,r3,k,tk,qk⟩=>mK pins s3 σ H3 y x Q I3 r3 ⟨k,tk,qk⟩
def xS (g g':G2)(fa fb fc:DE):DE:=fun env S=>(fa env S).bind fun x S1=>(fb env S1).bind fun y S2=>(g x y S2).bind fun z S3 =>
 match xZ z S3 with
 |some true=>(fc env S3).bind fun w S4=>g' y w S4
 |some false=>.ok z S3
 |none=>.bad
inductive GotO (X:Cx)(pins:Ab (Af × Cq))(σ : _L.St)(P:Hp)(α : Ab Af)(w:Ac)(s1:Ag){γ : Type}(k:D→Sto→Res γ)(Ok:γ→Sto→Prop):Prop
 |mk (y:V) (H1 P1:Hp) (α1:Ab Af) (d:D) (S1:Sto) (I:Inv X pins σ H1 s1) (rv:qK y w) (r:Rel X.K H1 P1 α1 S1) (rp:Rep X.K P1 α1 d y) (e1:qH P P1) (e2:α<+:α1) (q:qI X P α (k d S1) Ok):GotO X pins σ P α w s1 k Ok
theorem aX {γ : Type}{f:Ac→Ac→Kt Ac}{g:G2}{k:D→Sto→Res γ}{Ok:γ→Sto→Prop}{pins:Ab (Af × Cq)}{σ : _L.St}{H:Hp}{s:Ag}{P:Hp}{α : Ab Af}{S:Sto}{v u:V}{vv uu:Ac}{a b:D}(ho:OpD X f g)(I:Inv X pins σ H s)(r:Rel X.K H P α S)
  (rv:qK v vv) (ru:qK u uu) (pa:Rep X.K P α a v) (pb:Rep X.K P α b u) (af:qI X P α ((g a b S).bind k) Ok) :
  Ao (Au X.prog X.w) X.A (f vv uu) (fun w s1=>GotO X pins σ P α w s1 k Ok) X.xe s:=by
 refine thn (ho pins σ H s P α S v u vv uu a b (fun y H1=>∃ P1 α1 d S1,Rel X.K H1 P1 α1 S1∧Rep X.K P1 α1 d y∧qH P P1∧α<+:α1∧qI X P α (k d S1) Ok) I r rv ru pa pb ?_) fun w s1 ⟨y,H1,I1,r1,P1,α1,d,S1,q1,q2,q3,q4,q5⟩=>⟨y,H1,P1,α1,d,S1,I1,r1,q1,q2,q3,q4,q5⟩;cases q:g a b S with
 |bad=>rw[q] at af;exact af
 |ex c x S'=>rw[q] at af;exact af
 |ok d S' =>
  rw[q] at af;exact fun v H' P' α' r' e1 e2 rp=>⟨P',α',d,S',r',rp,e1,e2,af⟩
theorem qI.base' {β : Type}{P P1:Hp}{α α1:Ab Af}{r:Res β}{Ok Ok1:β→Sto→Prop}(e:qH P P1)(h:α<+:α1)(ho:∀ d S,Ok d S→Ok1 d S)(k:qI X P α r Ok):qI X P1 α1 r Ok1:=by
 cases r with
 |ok d S=>exact ho d S k
 |ex c x S=>exact fun u s' q=>k u s' (q.base e h)
 |bad=>exact k
theorem JO {op op':Uf}{g g':G2}(ho:OpD X (Dt op) g)(ho':OpD X (Dt op') g')(ha:PE X a (tD X fa))(hb:PE X b (tD X fb))(hc:PE X c (tD X fc))
  (hm:Wp [op,op'] [b,c]=false:=by with_unfolding_all rfl):PE X (.Compare a [op,op'] [b,c] pos) (tD X (xS g g' fa fb fc)):=by
 intro pins s σ H Q I h;obtain⟨P,α,env,S,r,re,af⟩:=h;refine Compare_chain (thn (xI ha I r re af) fun vv s1 ⟨v,H1,P1,α1,d,S1,G1,af1⟩=>chain_link (thn (xI hb G1.inv G1.rel G1.env (zA.base G1.same G1.pre af1)) fun uu s2 ⟨u,H2,P2,α2,d',S2,G2,af2⟩ =>
  thn (aX ho G2.inv G2.rel G1.val G2.val (Rep.mono G2.same G2.pre _ _ G1.rep) G2.rep (zA.base G2.same G2.pre af2)) fun w s3 ⟨y,H3,P3,α3,z,S3,I3,r3,rl3,rp3,e3,e4,af3⟩=>?_)) hm
 cases ht:xZ z S3 with
 |none=>simp only[ht] at af3;exact An af3
 |some k =>
  simp only[ht] at af3;have tv:=kZ rl3 rp3 ht;refine thn (mK pins s3 σ H3 y w (fun k' H'=>k'=k∧H'=H3) I3 r3 ⟨k,tv,rfl,rfl⟩) fun k' s4 ⟨H4,I4,hk,hH⟩=>?_;subst hk;subst hH;cases k' with
  |false=>exact ite_ff ⟨y,H4,I4,r3,af3 y H4 P3 α3 rl3 e3 e4 rp3⟩
  |true =>
   refine ite_tt (chain_last (thn (xI hc I4 rl3 (G2.env.mono e3 e4) (zA.base e3 e4 af3)) fun ww s5 ⟨w',H5,P5,α5,d5,S5,G5,af5⟩=>?_));exact ho' pins σ H5 s5 P5 α5 S5 u w' uu ww d' d5 Q G5.inv G5.rel G2.val G5.val (Rep.mono (e3.trans G5.same) (e4.trans G5.pre) _ _ G2.rep) G5.rep (zA.base G5.same G5.pre af5)
theorem JY {op op':Uf}{g g':G2}(ho:OpD X (Dt op) g)(ho':OpD X (Dt op') g')(ha:PE X a (tD X fa))(hb:PE X b (tD X fb))(hc:PE X c (tD X fc))
  (hm:Wp [op,op'] [b,c]=false:=by with_unfolding_all rfl):PT X (.Compare a [op,op'] [b,c] pos) (tDT X (dTr (xS g g' fa fb fc))):=by
 intro pins s σ H Q I h;obtain⟨P,α,env,S,r,re,af⟩:=h;have af':qI X P α ((xS g g' fa fb fc env S).bind fun d S1=>uW (xZ d S1) S1) (OkT X P α Q):=af;have assoc:(xS g g' fa fb fc env S).bind (fun d S1=>uW (xZ d S1) S1)=(fa env S).bind fun x S1=>(fb env S1).bind fun y S2=>(g x y S2).bind fun z S3 =>
   match xZ z S3 with
   |some true=>((fc env S3).bind fun w S4=>g' y w S4).bind fun d S1=>uW (xZ d S1) S1
   |some false=>.ok false S3
   |none=>.bad:=by
  unfold xS;cases fa env S with
  |bad=>rfl
  |ex _ _ _=>rfl
  |ok x S1 =>
   show Res.bind (Res.bind (fb env S1) _) _=Res.bind (fb env S1) _;cases fb env S1 with
   |bad=>rfl
   |ex _ _ _=>rfl
   |ok y S2 =>
    show Res.bind (Res.bind (g x y S2) _) _=Res.bind (g x y S2) _;cases g x y S2 with
    |bad=>rfl
    |ex _ _ _=>rfl
    |ok z S3 =>
     show Res.bind (match xZ z S3 with|some true=>(fc env S3).bind fun w S4=>g' y w S4|some false=>.ok z S3|none=>.bad) _=_
     cases ht:xZ z S3 with
     |none=>simp only[ht,Res.bind]
     |some k=>cases k <;> simp only[ht,Res.bind,uW]
 rw[assoc] at af';refine isTrue_chain (thn (xI ha I r re af') fun vv s1 ⟨v,H1,P1,α1,d,S1,G1,af1⟩=>test_link (thn (xI hb G1.inv G1.rel G1.env (uI.base G1.same G1.pre af1)) fun uu s2 ⟨u,H2,P2,α2,d',S2,G2,af2⟩ =>
  thn (aX ho G2.inv G2.rel G1.val G2.val (Rep.mono G2.same G2.pre _ _ G1.rep) G2.rep (uI.base G2.same G2.pre af2)) fun w s3 ⟨y,H3,P3,α3,z,S3,I3,r3,rl3,rp3,e3,e4,af3⟩=>?_)) hm
 cases ht:xZ z S3 with
 |none=>simp only[ht] at af3;exact An af3
 |some k =>
  simp only[ht] at af3;have tv:=kZ rl3 rp3 ht;refine thn (mK pins s3 σ H3 y w (fun k' H'=>k'=k∧H'=H3) I3 r3 ⟨k,tv,rfl,rfl⟩) fun k' s4 ⟨H4,I4,hk,hH⟩=>?_;subst hk;subst hH;cases k' with
  |false=>exact ite_ff ⟨H4,I4,af3 H4 P3 α3 rl3 e3 e4⟩
  |true =>
   have af4:qI X P2 α2 ((fc env S3).bind fun w S4=>(g' d' w S4).bind fun d S1=>uW (xZ d S1) S1) (OkT X P2 α2 Q):=by
    have e:((fc env S3).bind fun w S4=>(g' d' w S4).bind fun d S1=>uW (xZ d S1) S1)=(((fc env S3).bind fun w S4=>g' d' w S4).bind fun d S1=>uW (xZ d S1) S1):=by
     cases fc env S3 <;> rfl
    rw[e];exact af3
   refine ite_tt (test_last (thn (xI hc I4 rl3 (G2.env.mono e3 e4) (uI.base e3 e4 af4)) fun ww s5 ⟨w',H5,P5,α5,d5,S5,G5,af5⟩ =>
    thn (aX ho' G5.inv G5.rel G2.val G5.val (Rep.mono (e3.trans G5.same) (e4.trans G5.pre) _ _ G2.rep) G5.rep (uI.base G5.same G5.pre af5)) fun x6 s6 ⟨y6,H6,P6,α6,d6,S6,I6,r6,rl6,rp6,e5,e6,af6⟩=>?_))
   obtain⟨k6,q6,z6⟩:=sQ af6;exact F3 I6 rl6 r6 rp6 q6 (z6 H6 P6 α6 rl6 e5 e6)
def zX (t:DT):DT:=fun env S=>(t env S).bind fun b S1=>.ok (!b) S1
def wW (t u:DT):DT:=fun env S=>(t env S).bind fun b S1=>if b then .ok true S1 else u env S1
theorem DZ (ha:PT X a (tDT X ta)):PT X (.UnaryOp .Not a pos) (tDT X (zX ta)):=by
 intro pins s σ H Q I h;obtain⟨P,α,env,S,r,re,af⟩:=h;refine isTrue_not (thn (nU (fun Q' q=>ha pins s σ H Q' I q) r re af) fun b s1 ⟨H1,P1,α1,S1,I1,r1,re1,e1,e2,af1⟩=>⟨H1,I1,af1 H1 P1 α1 r1 e1 e2⟩)
def PWD (X:Cx)(e:By)(t:DT):Prop:=PW X e (tDT X t)
theorem PWD.pt {t:DT}(h:PWD X e t):PT X e (tDT X t):=h _
theorem S8 (ha:PT X a (tDT X ta)):PWD X (.BoolOp .Or [a] pos) ta:=E8 ha
theorem HZ {rest:Ab By}(ha:PT X a (tDT X ta))(hb:PWD X (.BoolOp .Or (b::rest) pos) tb):PWD X (.BoolOp .Or (a::b::rest) pos) (wW ta tb):=by
 intro wh pins s σ H Q I h;obtain⟨P,α,env,S,r,re,af⟩:=h;refine isTrue_or (thn (nU (fun Q' q=>ha pins s σ H Q' I q) r re af) fun k s1 ⟨H1,P1,α1,S1,I1,r1,re1,e1,e2,af1⟩=>?_);cases k with
 |true=>exact⟨H1,I1,af1 H1 P1 α1 r1 e1 e2⟩
 |false=>exact hb wh pins s1 σ H1 Q I1 ⟨P1,α1,env,S1,r1,re1,uI.base e1 e2 af1⟩
def vO (f g:DE):DE:=fun env S=>(f env S).bind fun x S1=>match xZ x S1 with
 |some true=>g env S1
 |some false=>.ok x S1
 |none=>.bad
def X3 (f:DE):DE:=fun env S=>(f env S).bind fun x S1=>match xZ x S1 with
 |some b=>.ok (.bl (!b)) S1
 |none=>.bad
theorem D7 {op} (h:PE X a (tD X fa)):PE X (.BoolOp op [a] pos) (tD X fa):=RT h
theorem EX {pins:Ab (Af × Cq)}{s:Ag}{σ : _L.St}{H:Hp}{v:V}{vv:Ac}{k:Aq}{R:Aq→Ag→Prop}(I:Inv X pins σ H s)(rv:qK v vv)(t:ZS X.K v H k)(h:∀ s',Inv X pins σ H s'→R k s') :
  Ao (Au X.prog X.w) X.A (truthy vv) R X.xe s:=thn (mK pins s σ H v vv (fun k' H'=>k'=k∧H'=H) I rv ⟨k,t,rfl,rfl⟩) fun k' s4 ⟨H4,I4,hk,hH⟩=>by subst hk;subst hH;exact h s4 I4
theorem D0 {rest:Ab By}(ha:PE X a (tD X fa))(hb:PE X (.BoolOp .And (b::rest) pos) (tD X fb)):PE X (.BoolOp .And (a::b::rest) pos) (tD X (vO fa fb)):=by
 intro pins s σ H Q I h;obtain⟨P,α,env,S,r,re,af⟩:=h;refine BoolOp_and (thn (xI ha I r re af) fun vv s1 ⟨v,H1,P1,α1,d,S1,G1,af1⟩=>?_);cases ht:xZ d S1 with
 |none=>simp only[ht] at af1;exact An af1
 |some k =>
  simp only[ht] at af1;refine EX G1.inv G1.val (kZ G1.rel G1.rep ht) fun s2 I2=>?_;cases k with
  |true=>exact hb pins s2 σ H1 Q I2 ⟨P1,α1,env,S1,G1.rel,G1.env,zA.base G1.same G1.pre af1⟩
  |false=>exact⟨v,H1,I2,G1.val,af1 v H1 P1 α1 G1.rel G1.same G1.pre G1.rep⟩
theorem D6 (ha:PE X a (tD X fa)):PE X (.UnaryOp .Not a pos) (tD X (X3 fa)):=by
 intro pins s σ H Q I h;obtain⟨P,α,env,S,r,re,af⟩:=h;refine UnaryOp_ (thn (xI ha I r re af) fun vv s1 ⟨v,H1,P1,α1,d,S1,G1,af1⟩=>?_);cases ht:xZ d S1 with
 |none=>simp only[ht] at af1;exact An af1
 |some k =>
  simp only[ht] at af1;exact not_of (EX G1.inv G1.val (kZ G1.rel G1.rep ht) fun s2 I2=>⟨.bl (!k),H1,I2,rfl,af1 (.bl (!k)) H1 P1 α1 G1.rel G1.same G1.pre (by simp only[Rep])⟩)
def dIf (t:DT)(f g:DE):DE:=fun env S=>(t env S).bind fun b S1=>if b then f env S1 else g env S1
theorem HP (hc:PT X c (tDT X ta))(ha:PE X a (tD X fa))(hb:PE X b (tD X fb)):PE X (.IfExp c a b pos) (tD X (dIf ta fa fb)):=by
 intro pins s σ H Q I h;obtain⟨P,α,env,S,r,re,af⟩:=h;refine wpAny_IfExp (thn (nU (fun Q' q=>hc pins s σ H Q' I q) r re af) fun k s1 ⟨H1,P1,α1,S1,I1,r1,re1,e1,e2,af1⟩=>?_);cases k with
 |true=>exact ha pins s1 σ H1 Q I1 ⟨P1,α1,env,S1,r1,re1,zA.base e1 e2 af1⟩
 |false=>exact hb pins s1 σ H1 Q I1 ⟨P1,α1,env,S1,r1,re1,zA.base e1 e2 af1⟩
end
@[inline] def Res.toS {β : Type}(env:qD)(r:Res β)(k:β→Sto→Out):Out:=
 match r with
 |.ok d S=>k d S
 |.ex c x S=>.ex c x env S
 |.bad=>.bad
section
variable {X:Cx}{a b c e:By}{pos:Fk}{fa fb fc:DE}{ta tb:DT}{f g:DS}{st:Fl}{rest:Ab Fl}
def zG:DS:=fun env S=>.nx env S
def qN (f g:DS):DS:=fun env S=>match f env S with
 |.nx env1 S1=>g env1 S1
 |o=>o
theorem DQ:PSs X [] (tDS X zG):=E6 N8 fun D σ H ⟨P,α,env,S,r,re,af⟩=>af σ H P α r re (qH.refl _) (Bp _)
theorem M8 (h1:PS X st (tDS X f))(h2:PSs X rest (tDS X g)):PSs X (st::rest) (tDS X (qN f g)):=E6 (GC h1 h2) fun D σ H ⟨P,α,env,S,r,re,af⟩=>by
 refine⟨P,α,env,S,r,re,?_⟩;unfold qN at af;cases q:f env S with
 |nx env1 S1 =>
  rw[q] at af;exact fun σ' H' P' α' r' re' e1 e2=>⟨P',α',env1,S1,r',re',zN.base e1 e2 af⟩
 |rt d S1=>rw[q] at af;exact af
 |bk env1 S1=>rw[q] at af;exact af
 |ct env1 S1=>rw[q] at af;exact af
 |ex c x env1 S1=>rw[q] at af;exact af
 |bad=>rw[q] at af;exact af
theorem DR (h1:PS X st (tDS X f)):PSs X [st] (tDS X f):=N9 h1
theorem vB {β : Type}{P:Hp}{α : Ab Af}{env:qD}{r:Res β}{k:β→Sto→Out}{D:Ends}(h:zN X P α (r.toS env k) D):qI X P α r fun d S=>zN X P α (k d S) D:=by
 cases r with
 |ok d S=>exact h
 |ex c x S=>exact h
 |bad=>exact h
inductive GotS (X:Cx)(pins:Ab (Af × Cq))(σ : _L.St)(env:qD)(P:Hp)(α : Ab Af)(u:Ac)(s1:Ag)(k:D→Sto→Out)(E:Ends):Prop
 |mk (v:V) (H1 P1:Hp) (α1:Ab Af) (d:D) (S1:Sto) (G:Got X pins σ env P α u s1 v H1 P1 α1 d S1) (q:zN X P1 α1 (k d S1) E):GotS X pins σ env P α u s1 k E
theorem nT {k:D→Sto→Out}{pins:Ab (Af × Cq)}{s:Ag}{σ : _L.St}{H P:Hp}{α : Ab Af}{env:qD}{S:Sto}{D:Ends}(he:PE X e (tD X fa))(I:Inv X pins σ H s)(r:Rel X.K H P α S)
  (re:zH X.K P α σ env) (af:zN X P α ((fa env S).toS env k) D) :
  Ao (Au X.prog X.w) X.A (eval e X.env) (fun u s1=>GotS X pins σ env P α u s1 k D) X.xe s:=by
 have af1:qI X P α ((fa env S).bind fun d S=>.ok d S) fun d S=>zN X P α (k d S) D:=by
  have:=vB af;cases q:fa env S <;> rw[q] at this <;> exact this
 exact thn (xI he I r re af1) fun u s1 ⟨v,H1,P1,α1,d,S1,G,q⟩=>⟨v,H1,P1,α1,d,S1,G,zN.base G.same G.pre q⟩
def yW (f:DE):DS:=fun env S=>(f env S).toS env fun _ S1=>.nx env S1
theorem M9 (he:PE X e (tD X fa))(hs:Me e none pos.line X.env=pure false:=by rfl):PS X (.Expr e pos) (tDS X (yW fa)):=by
 intro pins s σ H D I h;obtain⟨P,α,env,S,r,re,af⟩:=h;exact wpAny_Expr_any (thn (nT he I r re af) fun v s1 ⟨x,H1,P1,α1,d,S1,G,q⟩=>⟨σ,H1,G.inv,q σ H1 P1 α1 G.rel G.env (qH.refl _) (Bp _)⟩) I.quiet hs
def qT (f:DE):DS:=fun env S=>(f env S).toS env fun d S1=>.rt d S1
theorem DV (he:PE X e (tD X fa)):PS X (.Return (Aa e) pos) (tDS X (qT fa)):=by
 intro pins s σ H D I h;obtain⟨P,α,env,S,r,re,af⟩:=h;exact wpAny_Return_some (thn (nT he I r re af) fun v s1 ⟨x,H1,P1,α1,d,S1,G,q⟩=>⟨x,σ,H1,G.inv,G.val,q x H1 P1 α1 G.rel (qH.refl _) (Bp _) G.rep⟩)
def sIf (t:DT)(f g:DS):DS:=fun env S=>(t env S).toS env fun b S1=>if b then f env S1 else g env S1
theorem HW {c:By}{as bs:Ab Fl}(hc:PT X c (tDT X ta))(ha:PSs X as (tDS X f))(hb:PSs X bs (tDS X g)):PS X (.If c as bs pos) (tDS X (sIf ta f g)):=by
 intro pins s σ H D I h;obtain⟨P,α,env,S,r,re,af⟩:=h;have af1:qI X P α ((ta env S).bind fun d S=>.ok d S) fun b S=>zN X P α (if b then f env S else g env S) D:=by
  have:=vB af;cases q:ta env S <;> rw[q] at this <;> exact this
 refine wpAny_If (thn (nU (fun Q' q=>hc pins s σ H Q' I q) r re af1) fun k s1 ⟨H1,P1,α1,S1,I1,r1,re1,e1,e2,af2⟩=>?_);cases k with
 |true=>exact ha pins s1 σ H1 D I1 ⟨P1,α1,env,S1,r1,re1,zN.base e1 e2 af2⟩
 |false=>exact hb pins s1 σ H1 D I1 ⟨P1,α1,env,S1,r1,re1,zN.base e1 e2 af2⟩
abbrev DG:=D→qD→Sto→Res qD
abbrev DGs:=Ab D→qD→Sto→Res qD
def OkE (X:Cx)(P:Hp)(α : Ab Af)(Q:_L.St→Hp→Prop)(env':qD)(S':Sto):Prop:=∀ σ' H' P' α',Rel X.K H' P' α' S'→zH X.K P' α' σ' env'→qH P P'→α<+:α'→Q σ' H'
def tDG (X:Cx)(g:DG):TG:=fun v σ H Q=>∃ P α env S d,Rel X.K H P α S∧zH X.K P α σ env∧Rep X.K P α d v∧qI X P α (g d env S) (OkE X P α Q)
def iQ (X:Cx)(g:DGs):TGs:=fun vs σ H Q=>∃ P α env S ds,Rel X.K H P α S∧zH X.K P α σ env∧qF X.K P α ds vs∧qI X P α (g ds env S) (OkE X P α Q)
theorem zH.set {K:Ak}{P:Hp}{α : Ab Af}{σ : _L.St}{env:qD}{d:D}{v:V}(re:zH K P α σ env)(i:Ai)(rp:Rep K P α d v):zH K P α (σ.set i (Aa v)) (env.set i (Aa d)):=by
 refine⟨by simp[re.1],fun j d' e=>?_⟩
 by_cases hj:i=j
 ·subst hj
  by_cases hi:i<env.length
  ·rw[Ef hi] at e
   cases e;exact⟨v,by rw[Ef (by rw[← re.1];exact hi)],rp⟩
  ·rw[Na (by simp;omega)] at e;cases e
 ·rw[Cf hj] at e ⊢
  exact re.2 j d' e
def gNm (i:Ai):DG:=fun d env S=>.ok (env.set i (Aa d)) S
theorem M2 {i:Ai}{x:Ax}(hN:X.N.Nodup)(hi:X.N[i]? = Aa x:=by rfl)(hx:Loc X.env.scope x:=by first|exact Zj rfl|exact Xo rfl)(hf:X.fn x=true∨X.env.scope.names.lookup x=Aa .local:=by first|exact .inl rfl|exact .inr rfl|assumption):PG X (.Name x pos) (tDG X (gNm i)):=by
 intro pins s σ H v u Q I rv h;obtain⟨P,α,env,S,d,r,re,rp,af⟩:=h;exact N2 hN hi hx hf pins s σ H v u Q I rv (af _ H P α r (re.set i rp) (qH.refl _) (Bp _))
def x0:DGs:=fun ds env S=>match ds with
 |[]=>.ok env S
 |_=>.bad
def qO (g:DG)(gs:DGs):DGs:=fun ds env S=>match ds with
 |d::r=>(g d env S).bind fun env1 S1=>gs r env1 S1
 |[]=>.bad
theorem M3:PGs X [] (iQ X x0):=by
 intro pins s σ H vs us Q I rv h;obtain⟨P,α,env,S,ds,r,re,rp,af⟩:=h;cases ds with
 |nil=>exact N3 pins s σ H vs us Q I rv ⟨rp.nil_inv,af σ H P α r re (qH.refl _) (Bp _)⟩
 |cons d ds=>exact An af
theorem JR {es:Ab By}{g:DG}{gs:DGs}(h1:PG X e (tDG X g))(h2:PGs X es (iQ X gs))(hs:(Gv (e::es) X.env).map (·.2)=assign e X.env::(Gv es X.env).map (·.2):=by rfl):PGs X (e::es) (iQ X (qO g gs)):=by
 intro pins s σ H vs us Q I rv h;obtain⟨P,α,env,S,ds,r,re,rp,af⟩:=h;cases ds with
 |nil=>exact An af
 |cons d ds =>
  obtain⟨w,ws,rfl,p1,p2⟩:=rp.cons_inv;refine GA h1 h2 hs pins s σ H _ us Q I rv ⟨w,ws,rfl,P,α,env,S,d,r,re,p1,?_⟩;have af':qI X P α ((g d env S).bind fun env1 S1=>gs ds env1 S1) (OkE X P α Q):=af;cases q:g d env S with
  |bad=>rw[q] at af';exact af'
  |ex c x S'=>rw[q] at af';exact af'
  |ok env1 S1 =>
   rw[q] at af';intro σ' H' P' α' r' re' e1 e2;refine⟨P',α',env1,S1,ds,r',re',qF.mono e1 e2 _ _ p2,qI.base' e1 e2 (fun env' S' ok σ2 H2 P2 α2 r2 re2 e3 e4=>ok σ2 H2 P2 α2 r2 re2 (e1.trans e3) (e2.trans e4)) af'⟩
def gTp (n:Ai)(gs:DGs):DG:=fun d env S=>match d with
 |.tup xs=>if xs.length=n then gs xs env S else .bad
 |_=>.bad
set_option tactic.hygienic true in
theorem DH {es:Ab By}{k:Ai}{gs:DGs}{n:Ai}(hc:X.calm=true)(h:PGs X es (iQ X gs))(hn:(Gv es X.env).length=n:=by rfl)(hst:(Gv es X.env).findIdx? (·.1)=none:=by rfl):PG X (.Tuple es k pos) (tDG X (gTp n gs)):=by
 intro pins s σ H v u Q I rv hw;obtain⟨P,α,env,S,d,r,re,rp,af⟩:=hw;cases d with
 |tup xs =>
  simp only[Rep] at rp;obtain⟨a,vs,rfl,q,t⟩:=rp;simp only[gTp] at af
  split at af
  ·rename_i hl
   exact RY hc h hn hst pins s σ H _ u Q I rv ⟨a,vs,rfl,wQ r.sub q,by rw[← t.length];exact hl,P,α,env,S,xs,r,re,t,af⟩
  ·exact An af
 |_=>exact An af
abbrev G3:=D→D→D→Sto→Res Rc
def OkU (X:Cx)(P:Hp)(α : Ab Af)(Q:Hp→Prop)(_:Rc)(S':Sto):Prop:=∀ H' P' α',Rel X.K H' P' α' S'→qH P P'→α<+:α'→Q H'
def eY (X:Cx)(g:G3):UV:=fun o i v H Q=>∃ P α S a b d,Rel X.K H P α S∧Rep X.K P α a o∧Rep X.K P α b i∧Rep X.K P α d v∧qI X P α (g a b d S) (OkU X P α Q)
def gSb (fo fi:DE)(g:G3):DG:=fun d env S=>(fo env S).bind fun o S1=>(fi env S1).bind fun i S2=>(g o i d S2).bind fun _ S3=>.ok env S3
theorem DD {o i:By}{fo fi:DE}{g:G3}(ho:PE X o (tD X fo))(hi:PE X i (tD X fi))(hs:hJ X (eY X g))
  (ha:∀ v,assign (.Subscript o i pos) X.env v=(do
   let ov ← holding [v] (eval o X.env)
   let iv ← holding [v,ov] (eval i X.env)
   Us pos
   holding [v,ov,iv] (Zo ov iv v)
   release [v,ov,iv] []):=by intro _;rfl):PG X (.Subscript o i pos) (tDG X (gSb fo fi g)):=by
 intro pins s σ H v u Q I rv h;obtain⟨P,α,env,S,d,r,re,rp,af⟩:=h;rw[ha];refine Ad (Eg (thn (xI ho I r re af) fun ov s1 ⟨x,H1,P1,α1,d1,S1,G1,af1⟩=>?_));refine Ad (Eg (thn (xI hi G1.inv G1.rel G1.env (P:=P1) (α:=α1) (Ok:=OkE X P1 α1 Q) (qI.base' G1.same G1.pre (fun env' S' ok σ2 H2 P2 α2 r2 re2 e3 e4=>ok σ2 H2 P2 α2 r2 re2 (G1.same.trans e3) (G1.pre.trans e4)) af1)) fun iv s2 ⟨y,H2,P2,α2,d2,S2,G2,af2⟩=>?_));refine Ad (Pw (Ad (Eg (thn (hs pins s2 σ H2 x y v ov iv u (fun H3=>Q σ H3) G2.inv G1.val G2.val rv ⟨P2,α2,S2,d1,d2,d,G2.rel,Rep.mono G2.same G2.pre _ _ G1.rep,G2.rep,Rep.mono (G1.same.trans G2.same) (G1.pre.trans G2.pre) _ _ rp,?_⟩) fun _ s3 ⟨H3,I3,q3⟩=>?_))))
 ·cases q:g d1 d2 d S2 with
  |bad=>rw[q] at af2;exact af2
  |ex c x S'=>rw[q] at af2;exact fun u s' z=>af2 u s' (z.base G2.same G2.pre)
  |ok w S3 =>
   rw[q] at af2;exact fun H' P' α' r' e1 e2=>af2 σ H' P' α' r' (G2.env.mono e1 e2) (G2.same.trans e1) (G2.pre.trans e2)
 ·exact wpAny_release ⟨σ,H3,I3,q3⟩
def zI (f:DE)(g:DG):DS:=fun env S=>(f env S).toS env fun d S1=>(g d env S1).toS env fun env' S2=>.nx env' S2
theorem WA {g:DG}{d:D}{env:qD}{S:Sto}{P:Hp}{α : Ab Af}{D':Ends}(h:zN X P α ((g d env S).toS env fun env' S2=>.nx env' S2) D'):qI X P α (g d env S) (OkE X P α D'.nx):=by
 cases q:g d env S with
 |bad=>rw[q] at h;exact h
 |ex c x S'=>rw[q] at h;exact h
 |ok env1 S1=>rw[q] at h;exact h
theorem DN {tg e:By}{g:DG}(he:PE X e (tD X fa))(hg:PG X tg (tDG X g))(hs:Kv [tg] e pos.line X.env=pure false:=by rfl)(hw:Ku [tg] e X.env=pure none:=by rfl)
  (h1:(Gv [tg] X.env).map (·.2)=[assign tg X.env]:=by rfl):PS X (.Assign [tg] e pos) (tDS X (zI fa g)):=by
 intro pins s σ H D I h;obtain⟨P,α,env,S,r,re,af⟩:=h;refine wpAny_Assign_stores (thn (nT he I r re af) fun v s1 ⟨x,H1,P1,α1,d,S1,G,q⟩=>?_) hs hw;rw[h1];exact thn (hg pins s1 σ H1 x v _ G.inv G.val ⟨P1,α1,env,S1,d,G.rel,G.env,G.rep,WA q⟩) fun _ s2 q=>q
theorem DW {i:Ai}{x:Ax}{e:By}{pos':Fk}(hN:X.N.Nodup)(he:PE X e (tD X fa))(hi:X.N[i]? = Aa x:=by rfl)(hx:Loc X.env.scope x:=by first|exact Zj rfl|exact Xo rfl)(hs:Me e (Aa (.Name x pos')) pos.line X.env=pure false:=by rfl)
  (hf:X.fn x=true∨X.env.scope.names.lookup x=Aa .local:=by first|exact .inl rfl|exact .inr rfl|assumption):PS X (.Assign [.Name x pos'] e pos) (tDS X (zI fa (gNm i))):=by
 intro pins s σ H D I h;obtain⟨P,α,env,S,r,re,af⟩:=h;refine wpAny_Assign_Name (thn (nT he I r re af) fun v s1 ⟨y,H1,P1,α1,d,S1,G,q⟩=>?_) hs;exact gY G.inv hN hi hx G.val (fun s2 I2=>⟨_,H1,I2,q _ H1 P1 α1 G.rel (G.env.set i G.rep) (qH.refl _) (Bp _)⟩) hf
def aZ (i j:Ai)(env:qD)(S1:Sto):Ab D→Out
 |[x,y]=>.nx ((env.set i (Aa x)).set j (Aa y)) S1
 |_=>.bad
def gU (i j:Ai)(f:DA):DS:=fun env S=>(f env S).toS env fun ds S1=>aZ i j env S1 ds
theorem DU {i j:Ai}{x y:Ax}{a b:By}{f:DA}{px py pt:Fk} {kt k2 pt2} (hc:X.calm=true) (hN:X.N.Nodup) (ha:PA X [a,b] (tDA X f)) (hi:X.N[i]? = Aa x:=by rfl) (hj:X.N[j]? = Aa y:=by rfl) (hij:i≠j:=by decide)
  (hx:X.env.scope.names.lookup x=Aa .local:=by rfl) (hy:X.env.scope.names.lookup y=Aa .local:=by rfl)
  (hw:Ku [.Tuple [.Name x px,.Name y py] kt pt] (.Tuple [a,b] k2 pt2) X.env=pure (Aa [x,y]):=by rfl)
  (hs:Kv [.Tuple [.Name x px,.Name y py] kt pt] (.Tuple [a,b] k2 pt2) pos.line X.env=pure false:=by rfl) :
  PS X (.Assign [.Tuple [.Name x px,.Name y py] kt pt] (.Tuple [a,b] k2 pt2) pos) (tDS X (gU i j f)):=psW (E5 hc hN hi hj hij hx hy ha hw hs) fun D σ H ⟨P,α,env,S,r,re,af⟩=>by
 refine⟨P,α,env,S,r,re,?_⟩;have af1:=vB af;cases q:f env S with
 |bad=>rw[q] at af1;exact af1
 |ex c x S'=>rw[q] at af1;exact af1
 |ok ds S1 =>
  rw[q] at af1;intro vs H' P' α' r' e1 e2 rp;have af2:zN X P α (aZ i j env S1 ds) D:=af1;cases ds with
  |nil=>exact An af2
  |cons d ds=>cases ds with
   |nil=>exact An af2
   |cons d' ds=>cases ds with
    |cons _ _=>exact An af2
    |nil =>
     obtain⟨w,ws,rfl,p1,t⟩:=rp.cons_inv;obtain⟨w',ws',rfl,p2,t⟩:=t.cons_inv;rw[t.nil_inv];exact⟨w,w',rfl,af2 _ _ P' α' r' (((re.mono e1 e2).set i p1).set j p2) e1 e2⟩
end
structure ItD (K:Ak)(J:It)(P:Hp)(α : Ab Af)(ds:Ab D):Prop where
 go:∀ i H P1 α1 S,i<ds.length→Rel K H P1 α1 S→qH P P1→α<+:α1→J.go i H
 yld:∀ i H x H' P1 α1 S,i<ds.length→Rel K H P1 α1 S→qH P P1→α<+:α1→J.yld i H x H'→∃ P2 d,ds[i]? = Aa d∧Rel K H' P2 α1 S∧qH P1 P2∧Rep K P2 α1 d x
 stop:∀ i H P1 α1 S,ds.length≤i→Rel K H P1 α1 S→qH P P1→α<+:α1→J.stop i H
abbrev DI:=qD→Sto→Res (Ab D)
def OkI (X:Cx)(P:Hp)(α : Ab Af)(R:It→Hp→Prop)(ds:Ab D)(S':Sto):Prop:=∀ J H' P' α',Rel X.K H' P' α' S'→qH P P'→α<+:α'→ItD X.K J P' α' ds→R J H'
inductive tDI (X:Cx)(f:DI)(σ : _L.St)(H:Hp)(R:It→Hp→Prop):Prop
 |mk (P:Hp) (α : Ab Af) (env:qD) (S:Sto) (r:Rel X.K H P α S) (re:zH X.K P α σ env) (af:qI X P α (f env S) (OkI X P α R)):tDI X f σ H R
def vS {β : Type}(o:Al β)(S:Sto):Res β:=match o with
 |some b=>.ok b S
 |none=>.bad
theorem jK {X:Cx}{β : Type}{o:Al β}{S:Sto}{P:Hp}{α : Ab Af}{Ok:β→Sto→Prop}(h:qI X P α (vS o S) Ok):∃ b,o=Aa b∧Ok b S:=by
 cases o with
 |none=>exact An h
 |some b=>exact⟨b,rfl,h⟩
theorem k7 {X:Cx}{β : Type}{c:Prop}[Ps c]{r:Res β}{P:Hp}{α : Ab Af}{Ok:β→Sto→Prop}(h:qI X P α (if c then r else .bad) Ok):c∧qI X P α r Ok:=by
 by_cases z:c
 ·rw[Bl z] at h;exact⟨z,h⟩
 ·rw[Bk z] at h;exact An h
theorem aW {X:Cx}{β : Type}{ds:Ab D}{g:D→Res β}{P:Hp}{α : Ab Af}{Ok:β→Sto→Prop}(h:qI X P α (match ds with|[d]=>g d|_=>.bad) Ok):∃ d,ds=[d]∧qI X P α (g d) Ok:=by
 cases ds with
 |nil=>exact An h
 |cons d ds =>
  cases ds with
  |nil=>exact⟨d,rfl,h⟩
  |cons _ _=>exact An h
theorem sD {β : Type}{S:Sto}{i:Ai}{f:Ab D→Al β}{g:Ab (Key × D)→Al β}{b:β}(h:(match S[i]? with|some (.lst xs)=>f xs|some (.dct kvs)=>g kvs|_=>none)=Aa b):(∃ xs,S[i]? = Aa (.lst xs)∧f xs=Aa b)∨∃ kvs,S[i]? = Aa (.dct kvs)∧g kvs=Aa b:=by
 cases e:S[i]? with
 |none=>rw[e] at h;exact nn h
 |some m =>
  rw[e] at h;cases m with
  |lst xs=>exact .inl ⟨xs,rfl,h⟩
  |dct kvs=>exact .inr ⟨kvs,rfl,h⟩
  |_=>exact nn h
theorem SX {β : Type}{S:Sto}{i:Ai}{f:Ab D→Al β}{b:β}(h:(match S[i]? with|some (.lst xs)=>f xs|_=>none)=Aa b):∃ xs,S[i]? = Aa (.lst xs)∧f xs=Aa b:=by
 cases e:S[i]? with
 |none=>rw[e] at h;exact nn h
 |some m =>
  rw[e] at h;cases m with
  |lst xs=>exact⟨xs,rfl,h⟩
  |_=>exact nn h
inductive ItV (d:D)(xs:Ab D):Prop
 |tup (e:d=.tup xs)
 |lst (e:d=.lst xs)
def BJ {β : Type}(S:Sto)(n:Ai)(f:Ab D→Res β) : Res β:=match S[n]? with
 |some (.lst xs)=>f xs
 |_=>.bad
theorem bW {X:Cx}{β : Type}{S:Sto}{n:Ai}{f:Ab D→Res β}{P:Hp}{α : Ab Af}{Ok:β→Sto→Prop}(h:qI X P α (BJ S n f) Ok):∃ xs,S[n]? = Aa (.lst xs)∧qI X P α (f xs) Ok:=by
 unfold BJ at h;cases e:S[n]? with
 |none=>rw[e] at h;exact An h
 |some m =>
  rw[e] at h;cases m with
  |lst xs=>exact⟨xs,rfl,h⟩
  |_=>exact An h
def xM:D→Al (Ab D)
 |.tup xs=>Aa xs
 |.lst xs=>Aa xs
 |_=>none
theorem itV {d:D}{xs:Ab D}(h:xM d=Aa xs):ItV d xs:=by
 cases d with
 |tup ys=>exact .tup (congrArg D.tup (Cw h))
 |lst ys=>exact .lst (congrArg D.lst (Cw h))
 |_=>exact nn h
def vT (f:DE):DI:=fun env S=>(f env S).bind fun d S1=>vS (xM d) S1
section
variable {X:Cx}{K:Ak}{tg e:By}{fa:DE}{pos:Fk}
theorem KK {P:Hp}{α : Ab Af}{a:Af}{ds:Ab D}{vs:Ab V}(q:SqL K P a vs)(t:qF K P α ds vs):ItD K (Itl K a) P α ds where
 go:=fun i H P1 α1 S hi r e _=>⟨vs,vs[i]'(by rw[← t.length];exact hi),(e.trans r.sub).seq q,by simp⟩
 yld:=fun i H x H' P1 α1 S hi r e e2 y=>by
  obtain⟨rfl,y⟩:=y;have hx:=y vs ((e.trans r.sub).seq q);obtain⟨v,h1,h2⟩:=t.get (Ap hi);rw[hx] at h1;cases h1;exact⟨P1,_,Ap hi,r,qH.refl _,Rep.mono e e2 _ _ h2⟩
 stop:=fun i H P1 α1 S hi r e _=>⟨vs,(e.trans r.sub).seq q,by rw[← t.length];exact hi⟩
theorem MY {P:Hp}{α : Ab Af}{a:Af}{ds:Ab D}{vs:Ab V}(q:SqT K P a vs)(t:qF K P α ds vs):ItD K (Itt K a) P α ds where
 go:=fun i H P1 α1 S hi r e _=>⟨vs,vs[i]'(by rw[← t.length];exact hi),uC (e.trans r.sub) q,by simp⟩
 yld:=fun i H x H' P1 α1 S hi r e e2 y=>by
  obtain⟨rfl,y⟩:=y;have hx:=y vs (uC (e.trans r.sub) q);obtain⟨v,h1,h2⟩:=t.get (Ap hi);rw[hx] at h1;cases h1;exact⟨P1,_,Ap hi,r,qH.refl _,Rep.mono e e2 _ _ h2⟩
 stop:=fun i H P1 α1 S hi r e _=>⟨vs,uC (e.trans r.sub) q,by rw[← t.length];exact hi⟩
theorem cZ {pins:Ab (Af × Cq)}{σ : _L.St}{H P:Hp}{α : Ab Af}{S:Sto}{s:Ag}{v:V}{vv:Ac}{d:D}{ds:Ab D}{R:It→Hp→Prop}(I:Inv X pins σ H s)(r:Rel X.K H P α S)(rv:qK v vv)(rp:Rep X.K P α d v)(hd:xM d=Aa ds)
  (q:OkI X P α R ds S):Ao (Au X.prog X.w) X.A (Of vv) (PIE X pins σ tg R) X.xe s:=by
 cases d with
 |tup xs =>
  cases hd;simp only[Rep] at rp;obtain⟨a,vs,rfl,sq,t⟩:=rp;cases rv;obtain⟨its,rv,p,hz⟩:=I.tuple (wQ r.sub sq);refine Gu (show s.heap.IsTuple a its.toArray from p) ?_
  refine⟨s.heap.objs.size,[s.heap.objs.size],_,_,H,rfl,I.kept (t':=s.toks) fun b o e=>Ah _ e,W0 a _,⟨_,Be _ rfl,rfl,rfl⟩,fun b hb=>?_,q _ _ P α r (qH.refl _) (Bp _) (MY sq t)⟩;have e:b=s.heap.objs.size:=by simpa using hb
  subst e;exact I.fpOk (As _) (I.hok.fresh (As _))
 |lst xs =>
  cases hd;simp only[Rep] at rp;obtain⟨a,vs,rfl,sq,t⟩:=rp;cases rv;obtain⟨its,rv,p,hz⟩:=I.list ((wB r.sub sq).l);refine Gk p.isList ?_;refine⟨s.heap.objs.size,[s.heap.objs.size],_,_,H,rfl,I.kept (t':=s.toks) fun b o e=>Ah _ e,eD a _,⟨_,Be _ rfl,rfl,rfl⟩,fun b hb=>?_,q _ _ P α r (qH.refl _) (Bp _) (KK sq.l t)⟩;have e:b=s.heap.objs.size:=by simpa using hb
  subst e;exact I.fpOk (As _) (I.hok.fresh (As _))
 |_=>cases hd
theorem OkI.base {P P1:Hp}{α α1:Ab Af}{R:It→Hp→Prop}{ds:Ab D}{S:Sto}(e:qH P P1)(h:α<+:α1)(k:OkI X P α R ds S):OkI X P1 α1 R ds S:=fun J H' P' α' r q1 q2 q3=>k J H' P' α' r (e.trans q1) (h.trans q2) q3
theorem DJ (ha:PE X e (tD X fa)):PI X tg e (tDI X (vT fa)):=by
 intro pins s σ H R I h;obtain⟨P,α,env,S,r,re,af⟩:=h;refine thn (xI ha I r re af) fun vv s1 ⟨v,H1,P1,α1,d,S1,G1,af1⟩=>?_;obtain⟨ds,e1,q⟩:=jK af1;exact cZ G1.inv G1.rel G1.val G1.rep e1 (q.base G1.same G1.pre)
def yB (lo:Aj)(n:Ai):Ab D:=(Do n).map fun (i:Ai)=>D.int (lo+(i:Aj))
theorem bZ (lo:Aj)(n:Ai):(yB lo n).length=n:=by simp[yB]
theorem rL {P:Hp}{α : Ab Af}{lo:Aj}{n:Ai}:ItD K (Itr lo n) P α (yB lo n) where
 go:=fun i H P1 α1 S hi r e _=>by rw[bZ] at hi;exact hi
 yld:=fun i H x H' P1 α1 S hi r e e2 y=>by
  obtain⟨rfl,rfl⟩:=y;rw[bZ] at hi;exact⟨P1,.int (lo+i),by simp[yB,hi],r,qH.refl _,by simp only[Rep]⟩
 stop:=fun i H P1 α1 S hi r e _=>by rw[bZ] at hi;exact hi
def mI (ds:Ab D):Al (Ab D):=match ds with
 |[.int j]=>if -(2 ^ 62)≤j∧j<2 ^ 62 then Aa (yB 0 j.toNat) else none
 |[.int i,.int j]=>if -(2 ^ 62)≤i∧i<2 ^ 62 ∧ -(2 ^ 62)≤j∧j<2 ^ 62 then Aa (yB i (j-i).toNat) else none
 |_=>none
def vP (f:DA):DI:=fun env S=>(f env S).bind fun ds S1=>vS (mI ds) S1
def asI:D→Al Aj
 |.int i=>Aa i
 |_=>none
theorem tU {d:D}{i:Aj}(h:asI d=Aa i):d=.int i:=by
 cases d with
 |int k=>exact congrArg D.int (Cw h)
 |_=>exact nn h
inductive RngV:Ab D→Ab D→Prop
 |one (j:Aj) (h : -(2 ^ 62)≤j∧j<2 ^ 62):RngV [.int j] (yB 0 j.toNat)
 |two (i j:Aj) (h : -(2 ^ 62)≤i∧i<2 ^ 62 ∧ -(2 ^ 62)≤j∧j<2 ^ 62):RngV [.int i,.int j] (yB i (j-i).toNat)
theorem A8 (d:D):mI [d]=(asI d).bind fun j=>if -(2 ^ 62)≤j∧j<2 ^ 62 then Aa (yB 0 j.toNat) else none:=by cases d <;> rfl
theorem A9 (d d':D):mI [d,d']=(asI d).bind fun i=>(asI d').bind fun j=>if -(2 ^ 62)≤i∧i<2 ^ 62 ∧ -(2 ^ 62)≤j∧j<2 ^ 62 then Aa (yB i (j-i).toNat) else none:=by
 cases d with
 |int i=>cases d' <;> rfl
 |_=>rfl
theorem NG {ds its:Ab D}(h:mI ds=Aa its):RngV ds its:=by
 cases ds with
 |nil=>exact nn h
 |cons d ds =>
  cases ds with
  |nil =>
   obtain⟨j,e,h⟩:=DL.mp ((A8 d).symm.trans h);obtain⟨c,rfl⟩:=bP h;rw[tU e];exact .one j c
  |cons d' ds =>
   cases ds with
   |nil =>
    obtain⟨i,e,h⟩:=DL.mp ((A9 d d').symm.trans h);obtain⟨j,e',h⟩:=DL.mp h;obtain⟨c,rfl⟩:=bP h;rw[tU e,tU e'];exact .two i j c
   |cons _ _ =>
    have h0:∀ d'' t,mI (d::d'::d''::t)=none:=fun d'' t=>by cases d <;> first|rfl|(cases d' <;> rfl)
    exact nn ((h0 _ _).symm.trans h)
theorem sO {K:Ak}{P:Hp}{α : Ab Af}{i:Aj}{vs:Ab V}{ds:Ab D}(r:qF K P α (.int i::ds) vs):∃ ws,vs=.int i::ws∧qF K P α ds ws:=by
 obtain⟨w,ws,rfl,p,t⟩:=r.cons_inv;exact⟨ws,congrArg (· :: ws) (by simpa only [Rep] using p),t⟩
theorem PI.weak {iter:By}{t t':TI}(h:PI X tg iter t)(w:∀ σ H R,t' σ H R→t σ H R):PI X tg iter t':=fun pins s σ H R I q=>h pins s σ H R I (w σ H R q)
end
section
variable {X:Cx}{tg a b:By}{f:DA}{p pos:Fk}
theorem JT {e:By}{es:Ab By}(hg:Gl X "range")(hm:X.mg "range" = none)(ha:PA X (e::es) (tDA X f))(hs:Bc (e::es) X.env=(false,eval e X.env)::Bc es X.env:=by rfl)(hpl:(Fq pos (Bc es X.env)).any (·.1)=false:=by rfl) :
  PI X tg (.Call (.Name "range" p) (e::es) [] pos) (tDI X (vP f)):=by
 intro pins s σ H R I h;obtain⟨P,α,env,S,r,re,af⟩:=h;refine Call_ (k9 I hg hm boot_range (Hb (thn (yM ha I r re af pos) fun us s1 ⟨vs,H1,P1,α1,ds,S1,I1,rv,r1,re1,rp,e1,e2,af1⟩=>?_) hs hpl));obtain⟨its,hi,q⟩:=jK af1;cases NG hi with
 |one j c =>
  obtain⟨ws,rfl,t1⟩:=sO rp;cases t1.nil_inv;obtain⟨u,rfl,t,rfl⟩:=pK rv;refine call_range_1 (iG I1 om om c.1 c.2 ?_);have z:=q (Itr 0 j.toNat) H1 P1 α1 r1 e1 e2 rL;rw[Int.sub_zero];exact z
 |two i j c =>
  obtain⟨ws,rfl,t1⟩:=sO rp;obtain⟨ws2,rfl,t2⟩:=sO t1;cases t2.nil_inv;obtain⟨u,u',rfl,⟨t,rfl⟩,t',rfl⟩:=W2 rv;exact call_range_2 (iG I1 c.1 c.2.1 c.2.2.1 c.2.2.2 (q (Itr i (j-i).toNat) H1 P1 α1 r1 e1 e2 rL))
def jU (g:DG)(f:DS):Ab D→qD→Sto→Out
 |[],env,S=>.nx env S
 |d::ds,env,S=>(g d env S).toS env fun env1 S1=>match f env1 S1 with
  |.nx env2 S2=>jU g f ds env2 S2
  |.ct env2 S2=>jU g f ds env2 S2
  |.bk env2 S2=>.nx env2 S2
  |o=>o
def kI (fi:DI)(g:DG)(f:DS):DS:=fun env S=>(fi env S).toS env fun ds S1=>jU g f ds env S1
inductive LoopW (X:Cx)(P1:Hp)(α1:Ab Af)(g:DG)(f:DS)(ds:Ab D)(D:Ends)(i m:Ai)(σ : _L.St)(H:Hp):Prop
 |mk (hi:i≤ds.length) (hm:m=ds.length-i) (P2:Hp) (α2:Ab Af) (env2:qD) (S2:Sto) (r:Rel X.K H P2 α2 S2) (re:zH X.K P2 α2 σ env2) (e1:qH P1 P2) (e2:α1<+:α2) (af:zN X P2 α2 (jU g f (ds.drop i) env2 S2) D):LoopW X P1 α1 g f ds D i m σ H
theorem DP {iter:By}{body:Ab Fl}{fi:DI}{g:DG}{f:DS}(hp:Sv (Au X.prog X.w) X.A X.env X.xe)(hc:X.calm=true)(hi:PI X tg iter (tDI X fi))(hg:PG X tg (tDG X g))(hb:PSs X body (tDS X f))
  (hs:∀ x,Fy iter X.env x=pure x:=by intro _;rfl):PS X (.For tg iter body [] pos) (tDS X (kI fi g f)):=psW (E4 hp hc hi hg hb hs) fun D σ H ⟨P,α,env,S,r,re,af⟩=>by
 refine⟨P,α,env,S,r,re,?_⟩;have af1:=vB af;cases q:fi env S with
 |bad=>rw[q] at af1;exact af1
 |ex c x S'=>rw[q] at af1;exact af1
 |ok ds S1 =>
  rw[q] at af1;have af2:zN X P α (jU g f ds env S1) D:=af1;intro J H1 P1 α1 r1 e1 e2 it;refine⟨LoopW X P1 α1 g f ds D,
   ⟨ds.length,Ha _,rfl,P1,α1,env,S1,r1,re.mono e1 e2,qH.refl _,Bp _,zN.base e1 e2 af2⟩,?_⟩
  rintro i m σ2 H2 ⟨hi,rfl,P2,α2,env2,S2,r2,re2,e3,e4,af3⟩;by_cases hlt:i<ds.length
  ·refine .inr ⟨it.go i H2 P2 α2 S2 hlt r2 e3 e4,LoopW X P1 α1 g f ds D (i+1) (ds.length-(i+1)),fun σ' H' w=>⟨_,?_,w⟩,fun x H3 y=>?_⟩
   ·omega
   ·obtain⟨P3,d,hd,r3,e5,rp⟩:=it.yld i H2 x H3 P2 α2 S2 hlt r2 e3 e4 y
    have hdr:ds.drop i=d::ds.drop (i+1):=by
     rw[Gm hlt];rw[Ap hlt] at hd;rw[Cw hd]
    rw[hdr] at af3;have af4:=vB (zN.base e5 (Bp _) af3);refine⟨P3,α2,env2,S2,d,r3,re2.mono e5 (Bp _),rp,?_⟩;cases q2:g d env2 S2 with
    |bad=>rw[q2] at af4;exact af4
    |ex c x S'=>rw[q2] at af4;exact af4
    |ok env3 S3 =>
     rw[q2] at af4;intro σ4 H4 P4 α4 r4 re4 e6 e7;refine⟨P4,α4,env3,S3,r4,re4,?_⟩;have af5:=zN.base e6 e7 af4;cases q3:f env3 S3 with
     |bad=>simp only[q3] at af5;exact af5
     |ex c x env4 S4=>simp only[q3] at af5;exact af5
     |rt d4 S4=>simp only[q3] at af5;exact af5
     |bk env4 S4=>simp only[q3] at af5;exact af5
     |nx env4 S4 =>
      simp only[q3] at af5;exact fun σ5 H5 P5 α5 r5 re5 e8 e9=>⟨hlt,rfl,P5,α5,env4,S4,r5,re5,((e3.trans e5).trans e6).trans e8,(e4.trans e7).trans e9,zN.base e8 e9 af5⟩
     |ct env4 S4 =>
      simp only[q3] at af5;exact fun σ5 H5 P5 α5 r5 re5 e8 e9=>⟨hlt,rfl,P5,α5,env4,S4,r5,re5,((e3.trans e5).trans e6).trans e8,(e4.trans e7).trans e9,zN.base e8 e9 af5⟩
  ·have hdr:ds.drop i=[]:=Mp om
   rw[hdr] at af3;exact .inl ⟨it.stop i H2 P2 α2 S2 om r2 e3 e4,af3 σ2 H2 P2 α2 r2 re2 (qH.refl _) (Bp _)⟩
end
abbrev DF:=Ab D→Sto→Res D
section
variable {X:Cx}{x:Ax}{p pos:Fk}{e:By}{es:Ab By}{F:DF}{fa:DA}
def qE (F:DF)(fa:DA):DE:=fun env S=>(fa env S).bind fun ds S1=>F ds S1
theorem rB {F:DF}{u:Ac}{pins:Ab (Af × Cq)}{s1:Ag}{σ : _L.St}{H1 P P1:Hp}{α α1:Ab Af}{vs:Ab V}{us:Ab Ac}{ds:Ab D}{S1:Sto}{Q:VK}(hc:yU X u F)(I1:Inv X pins σ H1 s1)(r1:Rel X.K H1 P1 α1 S1)(rv:qL vs us)
  (rp:qF X.K P1 α1 ds vs) (e1:qH P P1) (e2:α<+:α1) (af:qI X P α (F ds S1) (OkV X P α Q)):Ao (Au X.prog X.w) X.A (call u us) (EP X pins σ Q) X.xe s1:=hc pins σ H1 s1 P1 α1 S1 vs us ds Q I1 r1 rv rp (zA.base e1 e2 af)
theorem JM {id:Ep}(hc:yU X (.builtin id) F)(hg:Gl X x)(hm:X.mg x=none)(hv:Gc x=Aa (.builtin id))(ha:PA X (e::es) (tDA X fa))(hn:x ≠ "__name__":=by decide)(hdb:(x == ("__debug__" : Ax))=false:=by decide)
  (he:Bc (e::es) X.env=(false,eval e X.env)::Bc es X.env:=by rfl) (hpl:(Fq pos (Bc es X.env)).any (·.1)=false:=by rfl):PE X (.Call (.Name x p) (e::es) [] pos) (tD X (qE F fa)):=by
 intro pins s σ H Q I h;obtain⟨P,α,env,S,r,re,af⟩:=h;refine Ie (k9 I hg hm hv ?_ hn hdb);exact Nq (thn (yM ha I r re af pos) fun us s1 ⟨vs,H1,P1,α1,ds,S1,I1,rv,r1,re1,rp,e1,e2,af1⟩=>rB hc I1 r1 rv rp e1 e2 af1) he hpl
theorem WU {T:Ep}(hc:yU X (.type T) F)(hg:Gl X x)(hm:X.mg x=none)(hv:Gc x=Aa (.type T))(ha:PA X (e::es) (tDA X fa))(hn:x ≠ "__name__":=by decide)(hdb:(x == ("__debug__" : Ax))=false:=by decide)
  (he:Bc (e::es) X.env=(false,eval e X.env)::Bc es X.env:=by rfl) (hpl:(Fq pos (Bc es X.env)).any (·.1)=false:=by rfl):PE X (.Call (.Name x p) (e::es) [] pos) (tD X (qE F fa)):=by
 intro pins s σ H Q I h;obtain⟨P,α,env,S,r,re,af⟩:=h;refine Ie (k9 I hg hm hv ?_ hn hdb);exact Hb (thn (yM ha I r re af pos) fun us s1 ⟨vs,H1,P1,α1,ds,S1,I1,rv,r1,re1,rp,e1,e2,af1⟩=>rB hc I1 r1 rv rp e1 e2 af1) he hpl
end
theorem zV.there {P:Bm}{w:Cb}{H:Hp}{h:Bs}{a:Af}{o:HO}(x:zV P w H h a o):∃ ob,h.get? a=Aa ob:=by
 cases o with
 |lst xs=>obtain⟨_,_,_,_,e⟩:=x;exact⟨_,e⟩
 |tup xs=>obtain⟨_,_,_,ob,e,_⟩:=x;exact⟨_,e⟩
 |dK kvs=>obtain⟨_,_,_,_,o,_,_,e,_⟩:=x;exact⟨_,e⟩
 |dT kvs=>obtain⟨_,_,_,_,o,_,_,e,_⟩:=x;exact⟨_,e⟩
 |set S n=>obtain⟨o,_,_,_,e,_⟩:=x;exact⟨_,e⟩
 |ins C dx fs=>obtain⟨_,_,_,e,_⟩:=x;exact⟨_,e⟩
 |own y=>obtain⟨_,e⟩:=x;exact⟨_,e⟩
 |xd fs=>obtain⟨_,⟨_,_,_,e,_⟩,_⟩:=x;exact⟨_,e⟩
 |rng lo hi=>obtain⟨_,_,_,e⟩:=x;exact⟨_,e⟩
 |frz ob u=>obtain⟨e,_⟩:=x;exact⟨_,e⟩
 |tbl ps=>exact⟨_,show h.get? a=Aa _ from x⟩
 |met f y=>exact⟨_,show h.get? a=Aa _ from x⟩
 |ext φ => obtain⟨_,e,_⟩:=x;exact e
section
variable {X:Cx}{pins:Ab (Af × Cq)}{σ : _L.St}{H:Hp}{s:Ag}{B h':Bs}
abbrev Fn1 (X:Cx):Prop:=X.ex=[]∧X.stack=X.env::X.outer∧X.env.frame=Aa X.env.locals
theorem Fn1.mem (F:Fn1 X){b:Af}:b∈frs X.stack↔b=X.env.locals∨b∈X.fs:=by
 rw[F.2.1];unfold frs;rw[Gg,F.2.2];exact Av
theorem Old.there (I:Inv X pins σ H s)(F:Fn1 X){b:Af}(o:Old X pins H b):∃ ob,s.heap.get? b=Aa ob:=by
 rcases o with⟨o,e⟩|e|⟨p,hp,rfl⟩|⟨x,e⟩
 ·exact I.base.there b o e (by rw[F.1];simp)
 ·cases q:H b with
  |none=>exact absurd q e
  |some u=>exact zV.there (I.hok b u q)
 ·exact⟨_,(I.pin p hp).1⟩
 ·obtain⟨v,ob,ho,_⟩:=I.cell x b e
  exact⟨ob,ho⟩
theorem Inv.fly (I:Inv X pins σ H s)(F:Fn1 X)(cv:Cv X pins H B s.heap)(st:B.StaysIn h')(up:s.heap.UpToSlots h'):Inv X pins σ H { s with heap:=h' } ∧ Cv X pins H B h':=by
 have kp:∀ b o,s.heap.get? b=Aa o→Old X pins H b→b ∉ frs X.stack→h'.get? b=Aa o:=fun b o e q n=>st b o (cv b o e q n);have neL:∀ b o,X.s₀.heap.get? b=Aa o→b≠X.env.locals:=fun b o e=>Cy (Bt (Ba e) I.ok.above);have nofr:∀ b o,X.s₀.heap.get? b=Aa o→b ∉ X.fs→b ∉ frs X.stack:=fun b o e n z=>(F.mem.mp z).elim (neL b o e) n;have nx:∀ b,b ∉ X.ex:=fun b=>by rw[F.1];simp
 have frU:∀ b,b∈frs X.stack→∀ o,s.heap.get? b=Aa o→∃ sl,h'.get? b=Aa { o with slots:=sl }:=fun b hb o e=>by
  obtain⟨_,o',e',nf⟩:=I.stack.mem hb;rw[e] at e';cases e';exact up b o e nf
 have cellK:∀ x c,X.env.cells.lookup x=Aa c→∀ v,s.heap.IsCell c v→h'.IsCell c v:=fun x c e v ⟨o,ho,hd⟩=>by
  obtain⟨sl,q⟩:=up c o ho fun vs z=>by rw[hd] at z;cases z
  exact⟨_,q,hd⟩
 refine⟨⟨I.ok,I.os,I.bare,⟨fun b o e n hb hx=>?_,fun b o e n hb hx=>?_,I.base.free,fun b o e hx=>?_,I.base.tups,I.base.frzs,I.base.tbls⟩,?_,fun x c e=>?_,I.free,I.freeC,fun p hp=>?_,fun a o e=>?_,I.len⟩,fun b o e q n=>?_⟩
 ·exact kp b o (I.base.keep b o e n hb hx) (.inl ⟨o,e⟩) (nofr b o e hb)
 ·obtain⟨sl,e1⟩:=I.base.slot b o e n hb hx
  obtain⟨sl',e2⟩:=frU b (F.mem.mpr (.inr hb)) _ e1;exact⟨sl',e2⟩
 ·obtain⟨o',e1⟩:=I.base.there b o e hx
  by_cases hb:b∈frs X.stack
  ·obtain⟨sl,e2⟩:=frU b hb _ e1
   exact⟨_,e2⟩
  ·exact⟨o',kp b o' e1 (.inl ⟨o,e⟩) hb⟩
 ·obtain⟨m,hn,hl⟩:=I.loc
  refine⟨m,up.ns hn,fun i x v e1 e2 e3=>?_⟩;obtain⟨u,r,l⟩:=hl i x v e1 e2 e3;refine⟨u,r,?_⟩;rcases l with l|⟨k,c,e,z⟩
  ·exact .inl l
  ·exact .inr ⟨k,c,e,cellK x c e _ z⟩
 ·obtain⟨v,z⟩:=I.cell x c e
  exact⟨v,cellK x c e v z⟩
 ·obtain⟨e,n,ne,nf,d⟩:=I.pin p hp
  exact⟨kp p.1 p.2 e (.inr (.inr (.inl ⟨p,hp,rfl⟩))) fun z=>(F.mem.mp z).elim ne nf,n,ne,nf,d⟩
 ·refine(I.hok a o e).stay (fun b u hb q=>?_) (fun _ q=>q) fun _ _ q=>q
  have hn:H b≠none:=by
   rcases hb with rfl|hb
   ·rw[e];intro z;cases z
   ·rw[hb];intro z;cases z
  exact kp b u q (.inr (.inl hn)) fun z=>hn (I.stkFree b z)
 ·obtain⟨o1,e1⟩:=Old.there I F q
  have e2:=cv b o1 e1 q n;have e3:=st b o1 e2;rw[e] at e3;cases e3;exact e2
theorem V2 {c:Ac}{e:Af}{g:Bs}{args:Ab Ac}(I:Inv X pins σ H s)(hm:Tn g s.heap e c args)(hf:g.FunFrames X.base X.stack)(hk:∀ b o,s.heap.get? b=Aa o→Old X pins H b→g.get? b=Aa o) :
  (Nv g (frs X.stack)).StaysIn g∧g.FunFrames (Nv g (frs X.stack)) X.stack∧Cv X pins H (Nv g (frs X.stack)) s.heap:=
 ⟨fun b o q=>Vh _ q,PySem.W.funFrames_hide hf fun env he a ha=>Js.mpr ⟨env,he,ha⟩,fun b o e q n=>Ud _ (hk b o e q) n⟩
theorem YM {M:Ll}{A:Bz}{E:Ac→Ag→Prop}{c:Ac}{e:Af}{Q:Rc→Ag→Prop}(I:Inv X pins σ H s)(F:Fn1 X)(hA:A.frames=Aa X.stack)(f:FlyX X pins H c e s.heap)
  (hQ:∀ h' B a0,Og B X.outer e c a0 h'→Inv X pins σ H { s with heap:=h' } → Cv X pins H B h'→Q () { s with heap:=h' }) : Ao M A (leaving X.env (.ref e)) Q E s:=by
 cases f with
 |new g args hm hf hk =>
  obtain⟨k1,k2,k3⟩:=V2 I hm hf hk;rw[F.2.1] at hA;refine wpAny_leaves_madeW hA F.2.2 k1 (by rw[← F.2.1];exact k2) hm fun h' t x1 x2 x3 x4=>?_
  obtain⟨I1,cv1⟩:=Inv.fly I F k3 x1.1 x4;exact hQ h' _ _ x1 I1 cv1
 |fly B a0 fl cv =>
  rw[F.2.1] at hA;refine wpAny_leaves_onW hA F.2.2 (by rw[← F.2.1];exact fl) fun h' x1 x2=>?_
  obtain⟨I1,cv1⟩:=Inv.fly I F cv x1.1 x2;exact hQ h' _ _ x1 I1 cv1
end
def CXd (P:Bm)(w:Cb):CXT:=fun outer H s E u s' =>
 ∃ e c H' B a0,u=.ref e∧s'.os=s.os∧Ms s'.gens∧Un (frs outer) [] H H' s.heap s'.heap∧HOk P w H' s'.heap∧Og B outer e c a0 s'.heap ∧
  (∀ b o,s'.heap.get? b=Aa o→((∃ o,s.heap.get? b=Aa o)∨H' b≠none)→b ∉ frs outer→B.get? b=Aa o)∧E c none H'
section
variable {X:Cx}{pins:Ab (Af × Cq)}{σ : _L.St}{H:Hp}{s s':Ag}
theorem SD {E:XK}{u:Ac}(I:Inv X pins σ H s)(F:Fn1 X)(h:CXd X.prog X.w X.stack H s E u s'):∃ e c H',u=.ref e∧Inv X pins σ H' s'∧FlyX X pins H' c e s'.heap∧E c none H':=by
 obtain⟨e,c,H',B,a0,rfl,os,bare,un,hok,fl,cov,q⟩:=h;have I':Inv X pins σ H' s':=Inv.call' I os un hok bare (ch:=[]) fun b z=>absurd z (by simp)
 refine⟨e,c,H',rfl,I',.fly B a0 fl fun b o eb old n=>cov b o eb ?_ n,q⟩;rcases old with⟨o,z⟩|z|⟨p,hp,rfl⟩|⟨x,z⟩
 ·exact .inl (I.base.there b o z (by rw[F.1];simp))
 ·exact .inr z
 ·exact .inl ⟨_,(I.pin p hp).1⟩
 ·obtain⟨v,ob,ho,_⟩:=I.cell x b z
  exact .inl ⟨ob,ho⟩
end
structure RoomC (cm:Aq)(k:Ai)(A:Bz):Prop where
 hd:cm=true→A.handled=none
 dp:A.depth+3*k+5<Oy
 un:A.units+16*k+200<Fg
 gd:A.guards=Aa []
theorem RoomC.mono {cm:Aq}{j k:Ai}{A:Bz}(r:RoomC cm k A)(h:j≤k:=by decide):RoomC cm j A:=⟨r.hd,by have:=r.dp;omega,by have:=r.un;omega,r.gd⟩
theorem RoomC.deeper {cm:Aq}{k:Ai}{A:Bz}(r:RoomC cm (k+1) A)(env:Ks):RoomC cm k (A.deeper env):=
 ⟨r.hd,by have:=r.dp;show A.depth+1+3*k+5<_;omega,by have:=r.un;show A.units+3+16*k+200<_;omega,r.gd⟩
theorem RoomC.depth {cm:Aq}{k:Ai}{A:Bz}(r:RoomC cm k A):A.depth<Oy:=by have:=r.dp;omega
theorem RoomC.units {cm:Aq}{k:Ai}{A:Bz}(r:RoomC cm k A):A.units+64<Fg:=by have:=r.un;omega
theorem RoomC.of {k:Ai}{A:Bz}(r:Room k A):RoomC true k A:=⟨fun _=>r.hd,r.dp,r.un,r.gd⟩
theorem RoomC.any {cm:Aq}{k:Ai}{A:Bz}(r:RoomC cm k A):RoomC false k A:=⟨(fun z=>nomatch z),r.dp,r.un,r.gd⟩
theorem RoomC.mark {cm:Aq}{k:Ai}{A:Bz}(r:RoomC cm k A)(h:Al Ac):RoomC false k (A.mark h):=⟨(fun z=>nomatch z),r.dp,r.un,r.gd⟩
abbrev Cx.re (X:Cx)(A:Bz)(cm:Aq)(E:Ac→Ag→Prop):Cx:={ X with A:=A,calm:=cm,xe:=E }
theorem Inv.re {X:Cx}{pins:Ab (Af × Cq)}{σ : _L.St}{H:Hp}{s:Ag}(I:Inv X pins σ H s)(A:Bz)(cm:Aq)(E:Ac→Ag→Prop)(hf:A.frames=Aa X.stack)(hh:cm=true→A.handled=none):Inv (Cx.re X A cm E) pins σ H s:=
 ⟨⟨I.ok.mod,I.ok.kind,I.ok.glob,I.ok.blt,I.ok.above,I.ok.inj,I.ok.has,I.ok.cab,hh,hf,I.ok.stk,I.ok.exf,I.ok.bs,I.ok.bsz,I.ok.noex,I.ok.exfs,I.ok.funs,I.ok.frf⟩,I.os,I.bare,I.base,I.loc,I.cell,I.free,I.freeC,I.pin,I.hok,I.len⟩
theorem Inv.unre {X:Cx}{pins:Ab (Af × Cq)}{σ : _L.St}{H:Hp}{s:Ag}{A:Bz}{cm:Aq}{E:Ac→Ag→Prop}(I:Inv (Cx.re X A cm E) pins σ H s)(hf:X.A.frames=Aa X.stack)(hh:X.calm=true→X.A.handled=none):Inv X pins σ H s:=
 ⟨⟨I.ok.mod,I.ok.kind,I.ok.glob,I.ok.blt,I.ok.above,I.ok.inj,I.ok.has,I.ok.cab,hh,hf,I.ok.stk,I.ok.exf,I.ok.bs,I.ok.bsz,I.ok.noex,I.ok.exfs,I.ok.funs,I.ok.frf⟩,I.os,I.bare,I.base,I.loc,I.cell,I.free,I.freeC,I.pin,I.hok,I.len⟩
structure FnX (P:Bm)(w:Cb)(K:Ak)(mg:Ax→Al Ac)(base:Bs)(cm:Aq)(k:Ai)(f:Af)(fd:Fx)(ps:Ab Ax)(sp:Sp):Prop where
 len:∀ vs H Q E,sp vs H Q E→vs.length=ps.length
 run:∀ (A:Bz) (outer:Ab Ks) (s:Ag) (H:Hp) (args:Args) (us:Ab Ac) (vs:Ab V) (Q:VK) (E:XK),RoomC cm k A→Env0 P w K mg base A outer s H→Om s fd args (ps.zip us)→qL vs us→sp vs H Q E →
  Kx (Au P w) A (.call (.ref f) args) (CR (CXd P w) outer P w H s Q E) s
theorem FnX.ok {P:Bm}{w:Cb}{K:Ak}{mg:Ax→Al Ac}{base:Bs}{k:Ai}{f:Af}{fd:Fx}{ps:Ab Ax}{sp:Sp}(F:FnX P w K mg base true k f fd ps sp):FnOk P w K mg base (CXd P w) k f fd ps sp:=
 ⟨F.len,fun A outer s H args us vs Q E hr=>F.run A outer s H args us vs Q E (.of hr)⟩
theorem FnX.any {P:Bm}{w:Cb}{K:Ak}{mg:Ax→Al Ac}{base:Bs}{cm:Aq}{k:Ai}{f:Af}{fd:Fx}{ps:Ab Ax}{sp:Sp}(F:FnX P w K mg base false k f fd ps sp):FnX P w K mg base cm k f fd ps sp:=
 ⟨F.len,fun A outer s H args us vs Q E hr=>F.run A outer s H args us vs Q E hr.any⟩
theorem FnX.imp {P:Bm}{w:Cb}{K:Ak}{mg:Ax→Al Ac}{base:Bs}{cm:Aq}{k:Ai}{f:Af}{fd:Fx}{ps:Ab Ax}{sp sp':Sp}(F:FnX P w K mg base cm k f fd ps sp)
  (h:∀ vs H Q E,sp' vs H Q E→sp vs H Q E):FnX P w K mg base cm k f fd ps sp':=
 ⟨fun vs H Q E q=>F.len vs H Q E (h _ _ _ _ q),fun A outer s H args us vs Q E hr he hb hv hs=>F.run A outer s H args us vs Q E hr he hb hv (h _ _ _ _ hs)⟩
def cxC (cm:Aq)(P:Bm)(w:Cb)(K:Ak)(mg:Ax→Al Ac)(base:Bs)(N:Ab Ax)(qual:Ax)(scope:Gp)(f:Af)(cd:Ac)(A:Bz)(outer:Ab Ks)(s:Ag)(H:Hp)(E:XK):Cx where
 prog:=P
 w:=w
 K:=K
 mg:=mg
 base:=base
 A:=A.deeper (Gw qual scope s.heap.objs.size f cd)
 N:=N
 s₀:=s
 H₀:=H
 env:=Gw qual scope s.heap.objs.size f cd
 outer:=outer
 stack:=Gw qual scope s.heap.objs.size f cd::outer
 ex:=[]
 calm:=cm
 fn:=fun _=>true
 pn:=[]
 xe:=fun e s'=>Ao (Au P w) (A.deeper (Gw qual scope s.heap.objs.size f cd)) (leaving (Gw qual scope s.heap.objs.size f cd) e) (fun _ s''=>CXd P w outer H s E e s'') (fun e' s''=>CXd P w outer H s E e' s'') s'
section
variable {P:Bm}{w:Cb}{K:Ak}{mg:Ax→Al Ac}{base:Bs}{cm:Aq}{N:Ab Ax}{qual:Ax}{scope:Gp}{f:Af}{cd:Ac}{A:Bz}{outer:Ab Ks}{s:Ag}{H:Hp}{E:XK}
theorem JJ:Sv (Au P w) (A.deeper (Gw qual scope s.heap.objs.size f cd)) (Gw qual scope s.heap.objs.size f cd) (cxC cm P w K mg base N qual scope f cd A outer s H E).xe:=PassesOwn.leaving (Q₁:=fun e s''=>CXd P w outer H s E e s'')
theorem WO {P0:Hp}{α : Ab Af}{c:Ac}{x:D}{S:Sto}{u:Ac}{s':Ag}(k:XOk (cxC cm P w K mg base N qual scope f cd A outer s H E) P0 α c x S u s')
  (q:∀ H' P' α',Rel K H' P' α' S→qH P0 P'→α<+:α'→E c none H'):(cxC cm P w K mg base N qual scope f cd A outer s H E).xe u s':=by
 obtain⟨e,pins,σ,H1,P1,α1,rfl,I,r,e1,e2,F,fl⟩:=k;refine YM (X:=cxC cm P w K mg base N qual scope f cd A outer s H E) I F I.ok.frames fl fun h' B a0 x1 I1 cv=>?_;refine⟨e,c,H1,B,a0,rfl,I1.os,I1.bare,I1.base,I1.hok,x1,fun b o eb hb n=>cv b o eb ?_ fun z=>?_,q H1 P1 α1 r e1 e2⟩
 ·rcases hb with z|z
  ·exact .inl z
  ·exact .inr (.inl z)
 ·rcases (Fn1.mem F).mp z with z|z
  ·subst z
   rcases hb with⟨o',e'⟩|z
   ·exact absurd (Ba e') (Rf.mpr I1.ok.above)
   ·exact z I1.free
  ·exact n z
theorem XB {ps:Ab Ax}{s1:Ag}{us:Ab Ac}{vs:Ab V}(S:FnScope N ps scope)(hd:cm=true→A.handled=none)(e0:Env0 P w K mg base A outer s H)(hl:vs.length=ps.length)(r:qL vs us)
  (x:InCallC s s.heap.objs.size (Uh (Gw qual scope s.heap.objs.size f cd).kindOf (ps.zip us) fun _=>none) (Sw (s.heap.objs.size+1) scope.names []) (Ui (Gw qual scope s.heap.objs.size f cd).kindOf (ps.zip us) fun _=>none) s1) :
  Inv (cxC cm P w K mg base N qual scope f cd A outer s H E) [] (_L.yG N vs) H s1:=by
 have I:=rK (CX:=CXd P w) (E:=E) (A:={ A with handled:=none }) S rfl ⟨e0.frames,e0.mod,e0.bs,e0.bsz,e0.funs,e0.frf,e0.hok,e0.bare⟩ hl r x
 have J:=Inv.re I (A.deeper (Gw qual scope s.heap.objs.size f cd)) cm (cxC cm P w K mg base N qual scope f cd A outer s H E).xe (Tw e0.frames) hd;exact J
end
theorem SE {P:Bm}{w:Cb}{K:Ak}{mg:Ax→Al Ac}{base:Bs}{cm:Aq}{k:Ai}{f:Af}{x qual:Ax}{st:Fl}{fd:Fx}{N ps:Ab Ax}{sp:Sp}(F:Fun K x qual st f fd)(S:FnScope N ps (qJ st))
  (len:∀ vs H Q E,sp vs H Q E→vs.length=ps.length)
  (hbody:∀ (cdv:Ac) (A:Bz) (outer:Ab Ks) (s:Ag) (H:Hp) (vs:Ab V) (Q:VK) (E:XK),RoomC cm k (A.deeper (Gw qual (qJ st) s.heap.objs.size f cdv))→sp vs H Q E →
   ∃ t,PSs (cxC cm P w K mg base N qual (qJ st) f cdv A outer s H E) (xE st) t∧t { nx:=fun _ H'=>Q .non H',rt:=Q } (_L.yG N vs) H) :
  FnX P w K mg base cm (k+1) f fd ps sp:=by
 obtain⟨oc,od,kV,doc,pm,an,cdv,ct,osl,rfl,lk,hcd⟩:=F.ex;refine⟨len,fun A outer s H args us vs Q E hr e0 hb r hsp=>?_⟩;have hl:=len _ _ _ _ hsp;have KX:K.In s.heap:=e0.mod.kin.keeps fun b o e=>(e0.bs b o e).1;have lim:s.heap.NoLimit:=e0.mod.nolimit.keeps fun b o e=>(e0.bs b o e).1;have hkind:∀ y∈ps.zip us,(qJ st).names.lookup y.1=Aa .local ∨ ((qJ st).names.lookup y.1=Aa .cell∧((Sw (s.heap.objs.size+1) (qJ st).names []).lookup y.1).isSome=true):=fun ⟨n,v⟩ hy=>by
  rcases S.par n (Ny hy).1 with q|q
  ·exact .inl q
  ·exact .inr ⟨q,Ml _ _ _ (.inl q)⟩
 refine Sx hr.depth (KX _ _ lk) rfl S.co S.gen rfl (Vj KX hcd) (hb _ _ _ _ ?_);refine Pj S.kind hkind fun env he s1 x=>?_;subst he;refine⟨lim.keeps x.toInCall.keep,codeAny_func ?_⟩;obtain⟨t,ht,hq⟩:=hbody cdv A outer s H vs Q E (hr.deeper _) hsp;have I:Inv (cxC cm P w K mg base N qual (qJ st) f cdv A outer s H E) [] (_L.yG N vs) H s1:=XB S hr.hd e0 hl r x;refine Hz (ht [] s1 (_L.yG N vs) H _ I hq) (fun fl s' hs=>?_) fun e s' hs=>hs;have fin:∀ {σ' : _L.St} {H':Hp} {v:V} {u:Ac},Inv (cxC cm P w K mg base N qual (qJ st) f cdv A outer s H E) [] σ' H' s'→qK v u→Q v H'→CE outer P w H s Q u s':=
  fun {σ' H' v u} J rv q=>⟨v,H',J.os,J.bare,J.base,J.hok,rv,q⟩
 cases fl with
 |ret u =>
  obtain⟨v,σ',H',J,rv,q⟩:=hs;exact fin J rv q
 |next =>
  obtain⟨σ',H',J,q⟩:=hs;exact fin (v:=V.non) (u:=Dj) J rfl q
 |brk =>
  obtain⟨_,_,_,q⟩:=hs;exact An q
 |cont =>
  obtain⟨_,_,_,q⟩:=hs;exact An q
def j0 (n:Ai)(ds:Ab D):qD:=ds.map Aa++Dl (n-ds.length) none
def jJ:Out→Res D
 |.rt d S=>.ok d S
 |.nx _ S=>.ok .non S
 |.ex c x _ S=>.ex c x S
 |_=>.bad
def qR (n:Ai)(g:DS):DF:=fun ds S=>jJ (g (j0 n ds) S)
def spD (K:Ak)(n:Ai)(F:DF):Sp:=fun vs H Q E=>vs.length=n∧∃ P α ds S,Rel K H P α S∧qF K P α ds vs∧match F ds S with
 |.ok d S'=>∀ v H' P' α',Rel K H' P' α' S'→qH P P'→α<+:α'→Rep K P' α' d v→Q v H'
 |.ex c _ S'=>∀ H' P' α',Rel K H' P' α' S'→qH P P'→α<+:α'→E c none H'
 |.bad=>Fm
theorem XR {K:Ak}{P:Hp}{α : Ab Af}{N:Ab Ax}{ds:Ab D}{vs:Ab V}(r:qF K P α ds vs):zH K P α (_L.yG N vs) (j0 N.length ds):=by
 refine⟨by simp[j0,_L.yG,r.length],fun i d e=>?_⟩
 unfold j0 at e;unfold _L.yG;by_cases hi:i<ds.length
 ·rw[Bj (by simpa using hi),Dv] at e
  rw[Bj (by rw[Ar,← r.length];exact hi),Dv]
  cases q:ds[i]? with
  |none=>rw[q] at e;cases e
  |some d' =>
   rw[q] at e;cases e;obtain⟨v,h1,h2⟩:=r.get q;exact⟨v,by rw[h1];rfl,h2⟩
 ·rw[Dd (by simpa using hi),Lp] at e
  split at e <;> cases e
section
variable {P:Bm}{w:Cb}{K:Ak}{mg:Ax→Al Ac}{base:Bs}{cm:Aq}
theorem fnX {x qual:Ax}{st:Fl}{f:Af}{fd:Fx}{N ps:Ab Ax}{k:Ai}{g:DS}(F:Fun K x qual st f fd)(S:FnScope N ps (qJ st))
  (hbody:∀ (cdv:Ac) (A:Bz) (outer:Ab Ks) (s:Ag) (H:Hp) (E:XK),RoomC cm k (A.deeper (Gw qual (qJ st) s.heap.objs.size f cdv)) →
   PSs (cxC cm P w K mg base N qual (qJ st) f cdv A outer s H E) (xE st) (tDS (cxC cm P w K mg base N qual (qJ st) f cdv A outer s H E) g)) :
  FnX P w K mg base cm (k+1) f fd ps (spD K ps.length (qR N.length g)):=by
 refine SE F S (fun vs H Q E h=>h.1) fun cdv A outer s H vs Q E hr h=>?_;obtain⟨hl,P',α,ds,S',r,rp,af⟩:=h;refine⟨_,hbody cdv A outer s H E hr,P',α,j0 N.length ds,S',r,XR rp,?_⟩;unfold qR at af;cases q:g (j0 N.length ds) S' with
 |rt d S1=>rw[q] at af;exact fun v H' P1 α1 r1 e1 e2 p1=>af v H' P1 α1 r1 e1 e2 p1
 |nx env S1=>rw[q] at af;exact fun σ' H' P1 α1 r1 re1 e1 e2=>af .non H' P1 α1 r1 e1 e2 (by simp only[Rep])
 |bk env S1=>rw[q] at af;exact An af
 |ct env S1=>rw[q] at af;exact An af
 |ex c x env S1=>rw[q] at af;exact fun u s' z=>WO z fun H' P1 α1 r1 e1 e2=>af H' P1 α1 r1 e1 e2
 |bad=>rw[q] at af;exact An af
end
section
variable {X:Cx}{cm:Aq}{k:Ai}{f:Af}{fd:Fx}{ps:Ab Ax}{F:DF}{x:Ax}{p pos:Fk}{e:By}{es:Ab By}{fa:DA}{n:Ai}
def qG (n:Ai)(F:DF)(fa:DA):DE:=fun env S=>(fa env S).bind fun ds S1=>if ds.length=n then F ds S1 else .bad
theorem sS {pins:Ab (Af × Cq)}{σ : _L.St}{H:Hp}{s:Ag}{Q:VK}{us:Ab Ac}{vs:Ab V}{P:Hp}{α : Ab Af}{ds:Ab D}{S:Sto}(G:FnX X.prog X.w X.K X.mg X.base cm k f fd ps (spD X.K n F))(hr:RoomC cm k X.A)(hb:uJ X.K fd ps [])(hF:Fn1 X)
  (I:Inv X pins σ H s) (r:Rel X.K H P α S) (rv:qL vs us) (rp:qF X.K P α ds vs) (hn:ds.length=n) (af:zA X P α (F ds S) Q):Ao (Au X.prog X.w) X.A (call (.ref f) us) (EP X pins σ Q) X.xe s:=by
 have hvn:vs.length=n:=by rw[← rp.length];exact hn
 let E:XK:=fun c _ H'=>match F ds S with
  |.ex c' _ S'=>c=c'∧∃ P' α',Rel X.K H' P' α' S'∧qH P P'∧α<+:α'
  |_=>Fm
 have hsp:spD X.K n F vs H Q E:=by
  refine⟨hvn,P,α,ds,S,r,rp,?_⟩;cases q:F ds S with
  |ok d S'=>rw[q] at af;exact af
  |ex c x S' =>
   intro H' P' α' r' e1 e2;show match F ds S with|.ex c' _ S'=>c=c'∧∃ P' α',Rel X.K H' P' α' S'∧qH P P'∧α<+:α'|_=>Fm
   rw[q];exact⟨rfl,P',α',r',e1,e2⟩
  |bad=>rw[q] at af;exact af
 have hl:us.length=ps.length:=by rw[← rv.length];exact G.len _ _ _ _ hsp
 have hb':=hb s us I.kIn (by rw[Gd];exact hl)
 rw[Gd] at hb';refine Oo (Jm (G.run X.A X.stack s H ⟨us,[]⟩ us vs Q E hr I.env0 hb' rv hsp) fun r s' hq=>?_);cases r with
 |error u =>
  obtain⟨a,c,H',rfl,I',fl,q⟩:=SD I hF hq;cases z:F ds S with
  |ok d S'=>simp only[E,z] at q
  |bad=>simp only[E,z] at q
  |ex c' x' S' =>
   simp only[E,z] at q;obtain⟨rfl,P',α',r',e1,e2⟩:=q;rw[z] at af;exact af _ _ ⟨a,pins,σ,H',P',α',rfl,I',r',e1,e2,hF,fl⟩
 |ok fl =>
  cases fl with
  |ret u=>exact I.after hq
  |next=>exact An hq
  |brk=>exact An hq
  |cont=>exact An hq
theorem fY {env:qD}{S S1:Sto}{P:Hp}{α : Ab Af}{ds:Ab D}{Ok:D→Sto→Prop}(h:qI X P α (if ds.length=n then F ds S1 else .bad) Ok):ds.length=n∧qI X P α (F ds S1) Ok:=by
 by_cases hn:ds.length=n
 ·rw[Bl hn] at h;exact⟨hn,h⟩
 ·rw[Bk hn] at h;exact An h
theorem FW (G:FnX X.prog X.w X.K X.mg X.base cm k f fd ps (spD X.K n F))(hr:RoomC cm k X.A)(hF:Fn1 X)(hg:Gl X x)(hm:X.mg x=Aa (.ref f))(hk:Em X.K (.ref f)=true)(hb:uJ X.K fd ps [])
  (ha:PA X (e::es) (tDA X fa)) (hdb:(x == ("__debug__" : Ax))=false:=by decide) (he:Bc (e::es) X.env=(false,eval e X.env)::Bc es X.env:=by rfl) (hpl:(Fq pos (Bc es X.env)).any (·.1)=false:=by rfl) :
  PE X (.Call (.Name x p) (e::es) [] pos) (tD X (qG n F fa)):=by
 intro pins s σ H Q I h;obtain⟨P,α,env,S,r,re,af⟩:=h;refine Ie (kX I hg hm ?_ hdb);refine Lm (h₀:=X.base) I.ok.mod.kin hk (thn (yM ha I r re af pos) fun us s1 ⟨vs,H1,P1,α1,ds,S1,I1,rv,r1,re1,rp,e1,e2,af1⟩=>⟨I1.kIn,?_⟩) he hpl;obtain⟨hn,af2⟩:=fY (env:=env) (S:=S) af1;exact sS G hr hb hF I1 r1 rv rp hn (zA.base e1 e2 af2)
end
abbrev c8:Ab Ac:=[.type "ValueError",.type "Exception",.type "BaseException",.type "object"]
def CH:Ac→Aq
 |.str _ _=>true
 |_=>false
def b6 (K:Ak)(N:Af):Aq:=(match Nb N K with
 |some o=>match o.data with
  |.dict es _=>es.toList.all fun e=>CH e.key
  |_=>false
 |none=>false)&&decide (Dw K N "__init__" = Aa none)
theorem vK {K:Ak}{N:Af}(h:b6 K N=true):Zd K N=true∧Dw K N "__init__" = Aa none:=by
 unfold b6 at h;rw[Bo,Cs] at h;refine⟨?_,h.2⟩;have h1:=h.1;unfold Zd;cases e:Nb N K with
 |none=>rw[e] at h1;cases h1
 |some o =>
  rw[e] at h1;obtain⟨oc,od,dt,sl⟩:=o;cases dt with
  |dict es ep =>
   simp only at h1 ⊢;rw[Array.all_toList] at h1;refine Eq.trans (congrArg (fun f=>Array.all es f) (funext fun e=>?_)) h1;cases e.key <;> rfl
  |_=>cases h1
def eV (K:Ak)(C:Af)(f:Ac→Wq→Aw (Al Ac)→Aq):Aq:=match Nb C K with
 |some o=>(match o.data with|.cls cd=>f o.cls cd o.slots|_=>false)
 |none=>false
theorem aU {K:Ak}{C:Af}{f:Ac→Wq→Aw (Al Ac)→Aq}(h:eV K C f=true):∃ oc od cd sl,Nb C K=Aa ⟨oc,od,.cls cd,sl⟩∧f oc cd sl=true:=by
 unfold eV at h;cases e:Nb C K with
 |none=>rw[e] at h;exact Gx h
 |some o =>
  rw[e] at h;obtain⟨oc,od,dt,sl⟩:=o;cases dt with
  |cls cd=>exact⟨oc,od,cd,sl,rfl,h⟩
  |_=>exact Gx h
def tY (K:Ak)(C A:Af):Aq:=eV K C fun oc cd sl=>eV K A fun _ ca _=>decide (oc=.type "type")&&(decide (cd.mro=.ref C::.ref A::c8)&&(!cd.hasDel&&(b6 K cd.ns&&(b6 K ca.ns&&(decide (sl.toList.length=6)&&decide (sl.toList[4]? = Aa (Aa (.builtin "ValueError.__new__"))))))))
inductive ExcO (h:Bs)(C:Af):Prop
 |mk (nm q:Ax) (N:Af) (bs bm:Ab Ac) (hdct:Aq) (sn:Ab Ax) (sub:Ab Ac) (ab:Aq) (col:Al Aq) (dd:Al Af) (k0 k1 k2 k3 k5:Al Ac) (mN:Ax→Al Ac) (hC:h.get? C=Aa (excClassObj nm q C N bs bm hdct sn sub ab col dd k0 k1 k2 k3 k5 "ValueError.__new__")) (hN:h.Ns N mN) (hni:mN "__init__" = none) (T:OwnTail h c8 bm):ExcO h C
theorem sJ {β : Type}{l:Ab β}{n:Ai}(h:l.length=n+1):∃ a t,l=a::t∧t.length=n:=by
 cases l with
 |nil=>exact Nat.noConfusion h
 |cons a t=>exact⟨a,t,rfl,Nat.succ.inj h⟩
theorem six {β : Type}{l:Ab β}(h:l.length=6):∃ a b c d e f,l=[a,b,c,d,e,f]:=by
 obtain⟨a,t,e1,h⟩:=sJ h;obtain⟨b,t2,e2,h⟩:=sJ h;obtain⟨c,t3,e3,h⟩:=sJ h;obtain⟨d,t4,e4,h⟩:=sJ h;obtain⟨e,t5,e5,h⟩:=sJ h;obtain⟨f,t6,e6,h⟩:=sJ h;exact⟨a,b,c,d,e,f,by rw[e1,e2,e3,e4,e5,e6,Ls.mp h]⟩
theorem RA {C:Af}{od:Al Af}{cd:Wq}{sl:Aw (Al Ac)}{tl:Ab Ac}{k0 k1 k2 k3 k4 k5:Al Ac}{n:Ep}(hm:cd.mro=.ref C::tl)(hd:cd.hasDel=false)(hs:sl.toList=[k0,k1,k2,k3,k4,k5])(hn:sl.toList[4]? = Aa (Aa (.builtin n))) :
  (⟨.type "type",od,.cls cd,sl⟩:Cq)=excClassObj cd.name cd.qualname C cd.ns cd.bases tl cd.hasDict cd.slotNames cd.subclasses cd.abstract cd.collection od k0 k1 k2 k3 k5 n:=by
 rw[hs] at hn;cases hn;cases cd;cases sl;cases hm;cases hd;cases hs;rfl
theorem MG {K:Ak}{h:Bs}{C A:Af}{od:Al Af}{cd:Wq}{sl:Aw (Al Ac)}(KI:K.In h)(e:Nb C K=Aa ⟨.type "type",od,.cls cd,sl⟩)(h2:cd.mro=.ref C::.ref A::c8)(h3:cd.hasDel=false)(h4:b6 K cd.ns=true)(h6:sl.toList.length=6)(h7:sl.toList[4]? = Aa (Aa (.builtin "ValueError.__new__")))(T:OwnTail h c8 (.ref A::c8)):ExcO h C:=by
 obtain⟨k0,k1,k2,k3,x,k5,es⟩:=six h6;exact⟨_,_,_,_,_,_,_,_,_,_,_,k0,k1,k2,k3,k5,_,(KI _ _ e).trans (congrArg Aa (RA h2 h3 es h7)),.of_isNs (Vm KI (vK h4).1),Qr KI (vK h4).1 (vK h4).2,T⟩
theorem MH {K:Ak}{h:Bs}{C A:Af}(KI:K.In h)(z:tY K C A=true):ExcO h C:=by
 obtain⟨oc,od,cd,sl,e,z⟩:=aU z;obtain⟨qc,qd,ca,ql,e2,z⟩:=aU z;have a1:=Ew.mp z;have a2:=Ew.mp a1.2;have a3:=Ew.mp a2.2;have a4:=Ew.mp a3.2;have a5:=Ew.mp a4.2;have a6:=Ew.mp a5.2;rw[Ct a1.1] at e;exact MG KI e (Ct a2.1) (Kf _▸a3.1) a4.1 (Ct a6.1) (Ct a6.2) (.own (KI _ _ e2) (.of_isNs (Vm KI (vK a5.1).1)) (Qr KI (vK a5.1).1 (vK a5.1).2) .base)
section
variable {X:Cx}{pos:Fk}{fa:DA}
def uX (c:Ac)(fa:DA):DS:=fun env S=>(fa env S).toS env fun ds S1=>if ds.length≤lim then .ex c .non env S1 else .bad
inductive GotAS (X:Cx)(pins:Ab (Af × Cq))(σ : _L.St)(env:qD)(P:Hp)(α : Ab Af)(us:Ab Ac)(s1:Ag)(k:Ab D→Sto→Out)(E:Ends):Prop
 |mk (vs:Ab V) (H1 P1:Hp) (α1:Ab Af) (ds:Ab D) (S1:Sto) (I:Inv X pins σ H1 s1) (rv:qL vs us) (r:Rel X.K H1 P1 α1 S1) (re:zH X.K P1 α1 σ env) (rp:qF X.K P1 α1 ds vs) (e1:qH P P1) (e2:α<+:α1) (q:zN X P1 α1 (k ds S1) E):GotAS X pins σ env P α us s1 k E
theorem FU {es:Ab By}{k:Ab D→Sto→Out}{pins:Ab (Af × Cq)}{s:Ag}{σ : _L.St}{H P:Hp}{α : Ab Af}{env:qD}{S:Sto}{D:Ends}(he:PA X es (tDA X fa))(I:Inv X pins σ H s)(r:Rel X.K H P α S)
  (re:zH X.K P α σ env) (af:zN X P α ((fa env S).toS env k) D) (pos:Fk) :
  Ao (Au X.prog X.w) X.A (spliced (Fq pos (Bc es X.env))) (fun us s1=>GotAS X pins σ env P α us s1 k D) X.xe s:=by
 have af1:qI X P α ((fa env S).bind fun d S=>.ok d S) fun d S=>zN X P α (k d S) D:=by
  have:=vB af;cases q:fa env S <;> rw[q] at this <;> exact this
 exact thn (yM he I r re af1 pos) fun u s1 ⟨vs,H1,P1,α1,ds,S1,I1,rv,r1,re1,rp,e1,e2,q⟩=>⟨vs,H1,P1,α1,ds,S1,I1,rv,r1,re1,rp,e1,e2,zN.base e1 e2 q⟩
theorem JX {x:Ax}{C Ae:Af}{e₀:By}{rest:Ab By}{np cpos:Fk}(hc:X.calm=true)(hF:Fn1 X)(hg:Gl X x)(hm:X.mg x=Aa (.ref C))(hx:tY X.K C Ae=true)(ha:PA X (e₀::rest) (tDA X fa))
  (hdb:(x == ("__debug__" : Ax))=false:=by decide) (he:Bc (e₀::rest) X.env=(false,eval e₀ X.env)::Bc rest X.env:=by rfl) (hpl:(Fq cpos (Bc rest X.env)).any (·.1)=false:=by rfl) :
  PS X (.Raise (Aa (.Call (.Name x np) (e₀::rest) [] cpos)) none pos) (tDS X (uX (.ref C) fa)):=by
 intro pins s σ H D I h;obtain⟨P,α,env,S,r,re,af⟩:=h;obtain⟨nm,qn,N,bs,tl,hdct,sn,sub,ab,col,dd,k0,k1,k2,k3,k5,mN,hC,hN,hni,T⟩:=MH I.mod.kin hx;refine wpAny_Raise_call_subT (C:=C) (nm:=nm) (q:=qn) (N:=N) (bs:=bs) (bm:=tl) (hdct:=hdct) (sn:=sn) (sub:=sub) (ab:=ab) (col:=col) (dd:=dd) (k0:=k0) (k1:=k1) (k2:=k2) (k3:=k3) (k5:=k5)
  Pl (mN:=mN) (T.hasType Pl.hasBase) (I.ok.hd hc) (by rw[he];show (false||(Fq cpos (Bc rest X.env)).any (·.1))=false;rw[hpl];rfl) hni (kX I hg hm ⟨rfl,?_⟩ hdb)
 have run:=FU ha I r re af cpos;rw[he] at run ⊢;refine Tz (thn run fun us s2 ⟨vs,H1,P1,α1,ds,S1,I1,rv,r1,re1,rp,e1,e2,q⟩=>?_);have hl:us.length=ds.length:=by rw[rp.length,rv.length]
 by_cases hz:ds.length≤lim
 ·rw[Bl hz] at q
  refine⟨rfl,by rw[hl,← xN];exact hz,I1.bk _ _ hC,hN.keeps I1.bk,T.keeps I1.bk,fun h' e hm=>q _ _ ⟨e,pins,σ,H1,P1,α1,rfl,I1.kept (t':=s2.toks) hm.keeps,r1,qH.refl _,Bp _,hF,.new s2.heap us hm I1.stack fun b o eb old=>?_⟩⟩
  obtain⟨o1,q1⟩:=Old.there I1 hF old;have q2:=hm.keeps b o1 q1;rw[eb] at q2;cases q2;exact q1
 ·rw[Bk hz] at q;exact An q
end
section
variable {X:Cx}{pins:Ab (Af × Cq)}{σ : _L.St}{H:Hp}{s:Ag}
theorem XI {M:Ll}{A:Bz}{E:Ac→Ag→Prop}{base h:Bs}{env:Ks}{outer:Ab Ks}{L e:Af}{cls:Ac}{args:Ab Ac}{Q:Rc→Ag→Prop}
  (hfr:A.frames=Aa (env::outer)) (hf:env.frame=Aa L) (hkb:base.StaysIn h) (hl:h.FunFrames base (env::outer)) (hx:Tn h s.heap e cls args)
  (hQ:∀ h' a0,Heap.HeldW base (env::outer) e cls a0 L h'→s.heap.UpToSlots h'→Q () { s with heap:=h' }) : Ao M A (Wr (.ref e) env) Q E s:=by
 obtain⟨t,he,htn,ht⟩:=hx.there;have fresh:∀ b,h.get? b=none→base.get? b=none:=fun b hb=>by
  cases hq:base.get? b with
  |none=>rfl
  |some o'=>have z:=hkb b o' hq;rw[hb] at z;cases z
 unfold Wr;simp only[hf];refine Ad (Dx he rfl (x:=.none) rfl ?_);rw[Bk (by decide)]
 refine wpAny_entryW hfr (hl.of_keeps fun b o hb _=>⟨o,hx.keeps b o hb,rfl⟩) hf he (fun b o hb=>hx.keeps b o (hkb b o hb)) (fresh e hx.new) rfl (by simp) (a0:=.ref t) rfl fun h' hN=>?_
 obtain⟨n1,n2,n3,n4⟩:=hN;exact hQ h' (.ref t) ⟨n1,fresh e hx.new,n2,n3⟩ n4
theorem KO {M:Ll}{A:Bz}{E:Ac→Ag→Prop}{c:Ac}{e:Af}{Q:Rc→Ag→Prop}(I:Inv X pins σ H s)(F:Fn1 X)(hA:A.frames=Aa X.stack)(f:FlyX X pins H c e s.heap)
  (hQ:∀ h' B a0,Og B X.stack e c a0 h'→Inv X pins σ H { s with heap:=h' } → Cv X pins H B h'→Q () { s with heap:=h' }) :
  Ao M A (Wr (.ref e) X.env) (fun _ s₂=>Ao M A (Ws (.ref e) none) Q E s₂) E s:=by
 have land:∀ (B:Bs) (a0:Ac) (h1:Bs),Cv X pins H B s.heap→Heap.HeldW B X.stack e c a0 X.env.locals h1→s.heap.UpToSlots h1→Ao M A (Ws (.ref e) none) Q E { s with heap:=h1 }:=fun B a0 h1 cv hh up=>by
  refine wpAny_landsW (s:={ s with heap:=h1 }) hh fun h2 f2 u2=>?_
  obtain⟨I2,cv2⟩:=Inv.fly I F cv f2.1 (up.trans u2);exact hQ h2 B a0 f2 I2 cv2
 cases f with
 |new g args hm hf hk =>
  obtain⟨k1,k2,k3⟩:=V2 I hm hf hk;rw[F.2.1] at hA;exact XI hA F.2.2 k1 (by rw[← F.2.1];exact k2) hm fun h' a0 x1 x2=>land _ a0 h' k3 (F.2.1▸x1) x2
 |fly B a0 fl cv =>
  rw[F.2.1] at hA;exact wpAny_looks_onW hA F.2.2 (by rw[← F.2.1];exact fl) fun h' x1 x2=>land B a0 h' cv (by rw[F.2.1];exact x1) x2
theorem oR {B:Bs}{c a0:Ac}{e:Af}(I:Inv X pins σ H s)(F:Fn1 X)(fl:Og B X.stack e c a0 s.heap)(cv:Cv X pins H B s.heap):¬ Old X pins H e∧e ∉ frs X.stack∧∃ ob,s.heap.get? e=Aa ob∧ob.cls=c:=by
 obtain⟨oe,vs,he,hc,hd,_⟩:=fl.first
 have nf:e ∉ frs X.stack:=fun z=>by
  obtain⟨_,o,ho,hn⟩:=I.stack.mem z;rw[he] at ho;cases ho;exact hn vs hd
 refine⟨fun z=>?_,nf,oe,he,hc⟩;have q:=cv e oe he z nf;rw[fl.2.1] at q;cases q
theorem Inv.track {e:Af}{c:Ac}{ob:Cq}(I:Inv X pins σ H s)(F:Fn1 X)(no:¬ Old X pins H e)(nf:e ∉ frs X.stack)(he:s.heap.get? e=Aa ob)(hc:ob.cls=c):Inv X pins σ (upd H e (cP e c)) s:=by
 have hn:H e=none:=by
  cases q:H e with
  |none=>rfl
  |some u=>exact absurd (.inr (.inl (by rw[q];intro z;cases z))) no
 have nL:e≠X.env.locals:=fun z=>nf (F.mem.mpr (.inl z));have n0:∀ b o,X.s₀.heap.get? b=Aa o→b≠e:=fun b o q z=>no (.inl ⟨o,z▸q⟩);refine⟨I.ok,I.os,I.bare,⟨I.base.keep,I.base.slot,fun b o q n hx=>?_,I.base.there,fun b xs q=>?_,fun b o xs q=>?_,fun b ps q=>?_⟩,I.loc,I.cell,?_,fun x k q=>?_,fun p hp=>?_,fun b u q=>?_,I.len⟩
 ·rw[qP (n0 b o q)];exact I.base.free b o q n hx
 ·have z:=I.base.tups b xs q
  rw[qP (zM z hn)];exact z
 ·have z:=I.base.frzs b o xs q
  rw[qP (zM z hn)];exact z
 ·obtain⟨m,z⟩:=I.base.tbls b ps q
  exact⟨m,by rw[qP (zM z hn)];exact z⟩
 ·rw[qP (Ho nL)];exact I.free
 ·have z:k≠e:=fun z=>no (.inr (.inr (.inr ⟨x,z▸q⟩)))
  rw[qP z];exact I.freeC x k q
 ·obtain⟨a1,a2,a3,a4,a5⟩:=I.pin p hp
  have z:p.1≠e:=fun z=>no (.inr (.inr (.inl ⟨p,hp,z⟩)));exact⟨a1,by rw[qP z];exact a2,a3,a4,a5⟩
 ·by_cases hb:b=e
  ·subst hb
   rw[zD] at q;cases q;refine⟨⟨ob,he,hc⟩,⟨ob,he⟩,fun h1 h2 ⟨o,q1,q2⟩ k=>⟨o,k o q1,q2⟩⟩
  ·rw[qP hb] at q
   exact(I.hok b u q).stay (fun _ _ _ z=>z) (fun k z=>by rw[qP (zM z hn)];exact z) fun k xs z=>by rw[qP (zM z hn)];exact z
theorem Inv.gone {i t':Ai}{n:Ax}{h':Bs}(I:Inv X pins σ H s)(hN:X.N.Nodup)(hi:X.N[i]? = Aa n){m:Ax→Al Ac}{v:Al Ac}(hl:∀ (j:Ai) (y:Ax) (w:V),X.N[j]? = Aa y→σ[j]? = Aa (Aa w)→Vis X.env.scope y→∃ u,qK w u∧LE X.env s.heap m y u)(hv:h'.Ns X.env.locals fun y=>if y=n then v else m y)(sb:Fa X.env.locals s.heap h') :
  Inv X pins (σ.set i none) H { s with heap:=h',toks:=t' }:=by
 have neL:∀ b o,X.s₀.heap.get? b=Aa o→b≠X.env.locals:=fun b o e=>Cy (Bt (Ba e) I.ok.above);have kp:∀ b o,b≠X.env.locals→s.heap.get? b=Aa o→h'.get? b=Aa o:=fun b o n e=>(sb.2 b n).trans e;refine⟨I.ok,I.os,I.bare,⟨fun b o e n hb hx=>kp b o (neL b o e) (I.base.keep b o e n hb hx),fun b o e n hb hx=>?_,I.base.free,fun b o e hx=>?_,I.base.tups,I.base.frzs,I.base.tbls⟩,⟨_,hv,fun j y w e1 e2 e3=>?_⟩,fun x c e=>?_,I.free,I.freeC,fun p hp=>?_,fun b u q=>?_,by simpa using I.len⟩
 ·obtain⟨sl,q⟩:=I.base.slot b o e n hb hx
  exact⟨sl,kp b _ (neL b o e) q⟩
 ·obtain⟨o',q⟩:=I.base.there b o e hx
  exact⟨o',kp b o' (neL b o e) q⟩
 ·have hj:i≠j:=fun z=>by
   subst z;by_cases hs:i<σ.length
   ·rw[Ef hs] at e2;cases e2
   ·rw[Na (by simp;omega)] at e2;cases e2
  rw[Cf hj] at e2;obtain⟨u,r,l⟩:=hl j y w e1 e2 e3;refine⟨u,r,?_⟩;rcases l with⟨k,z⟩|⟨k,c,z,zc⟩
  ·refine .inl ⟨k,?_⟩
   have:y≠n:=fun z=>hj (nF hN hi (z▸e1));simp[this,z]
  ·exact .inr ⟨k,c,z,zc.sameBut sb (I.cne y c z)⟩
 ·obtain⟨w,z⟩:=I.cell x c e
  exact⟨w,z.sameBut sb (I.cne x c e)⟩
 ·obtain⟨e,n,ne,nf,d⟩:=I.pin p hp
  exact⟨kp p.1 p.2 ne e,n,ne,nf,d⟩
 ·refine(I.hok b u q).stay (fun c w hc z=>kp c w ?_ z) (fun _ z=>z) fun _ _ z=>z
  rintro rfl;rcases hc with rfl|hc
  ·rw[I.free] at q;cases q
  ·rw[I.free] at hc;cases hc
theorem oU {M:Ll}{A:Bz}{E:Ac→Ag→Prop}{i:Ai}{n:Ax}{pos:Fk}{Q:Rc→Ag→Prop}(I:Inv X pins σ H s)(hN:X.N.Nodup)(hi:X.N[i]? = Aa n)(hlo:X.env.scope.names.lookup n=Aa .local)
  (h:∀ s',Inv X pins (σ.set i none) H s'→Q () s'):Ao M A (do Vd X.env n .none;unbindBehindTheSuite X.env n pos) Q E s:=by
 obtain⟨m,hm,hl⟩:=id I.loc;exact wpAny_nameGoes_keeps hlo hm (by rw[I.ok.kind];rfl) fun h' v hv sb=>h _ (Inv.gone I hN hi hl hv sb)
end
abbrev Cx.tryIn (X:Cx)(E:Ac→Ag→Prop)(pn:Ab (Af × Cq)):Cx:={ X with xe:=E,pn:=pn }
abbrev Cx.suite (X:Cx)(e:Af):Cx:=Cx.re X (X.A.mark (Aa (.ref e))) false fun _ _=>Fm
def nG (N i:Ai)(cs:Ab Ac)(f g:DS):DS:=fun env S=>match f env S with
 |.ex c x env1 S1=>if cs.contains c then (match g ((Dl N none).set i (Aa (.exn c))) S1 with
   |.rt d S2=>.rt d S2
   |.nx env2 S2=>.nx (env2.set i none) S2
   |_=>.bad) else .bad
 |o=>o
section
variable {X:Cx}{pins:Ab (Af × Cq)}{σ : _L.St}{H:Hp}{s:Ag}
theorem Inv.inTry (I:Inv X pins σ H s)(E:Ac→Ag→Prop):Inv (Cx.tryIn X E (X.pn++pins)) [] σ H s:=
 ⟨⟨I.ok.mod,I.ok.kind,I.ok.glob,I.ok.blt,I.ok.above,I.ok.inj,I.ok.has,I.ok.cab,I.ok.hd,I.ok.frames,I.ok.stk,I.ok.exf,I.ok.bs,I.ok.bsz,I.ok.noex,I.ok.exfs,I.ok.funs,I.ok.frf⟩,I.os,I.bare,I.base,I.loc,I.cell,I.free,I.freeC,fun p hp=>I.pin p (by simpa using hp),I.hok,I.len⟩
theorem Inv.outTry {E:Ac→Ag→Prop}{more:Ab (Af × Cq)}(I:Inv (Cx.tryIn X E (X.pn++pins)) more σ H s):Inv X pins σ H s:=
 ⟨⟨I.ok.mod,I.ok.kind,I.ok.glob,I.ok.blt,I.ok.above,I.ok.inj,I.ok.has,I.ok.cab,I.ok.hd,I.ok.frames,I.ok.stk,I.ok.exf,I.ok.bs,I.ok.bsz,I.ok.noex,I.ok.exfs,I.ok.funs,I.ok.frf⟩,I.os,I.bare,I.base,I.loc,I.cell,I.free,I.freeC,fun p hp=>I.pin p (Ds _ hp),I.hok,I.len⟩
theorem SP.outTry {E:Ac→Ag→Prop}{D:Ends}{f:Flow}{s':Ag}(h:SP (Cx.tryIn X E (X.pn++pins)) [] D f s'):SP X pins D f s':=by
 cases f with
 |next=>obtain⟨σ',H',I,q⟩:=h;exact⟨σ',H',Inv.outTry I,q⟩
 |brk=>obtain⟨σ',H',I,q⟩:=h;exact⟨σ',H',Inv.outTry I,q⟩
 |cont=>obtain⟨σ',H',I,q⟩:=h;exact⟨σ',H',Inv.outTry I,q⟩
 |ret u=>obtain⟨v,σ',H',I,r,q⟩:=h;exact⟨v,σ',H',Inv.outTry I,r,q⟩
theorem FlyX.outTry {E:Ac→Ag→Prop}{more:Ab (Af × Cq)}{c:Ac}{e:Af}{h:Bs}(f:FlyX (Cx.tryIn X E (X.pn++pins)) more H c e h):FlyX X pins H c e h:=by
 have old:∀ b,Old X pins H b→Old (Cx.tryIn X E (X.pn++pins)) more H b:=fun b o=>by
  rcases o with o|o|⟨p,hp,z⟩|o
  ·exact .inl o
  ·exact .inr (.inl o)
  ·exact .inr (.inr (.inl ⟨p,Ds _ hp,z⟩))
  ·exact .inr (.inr (.inr o))
 cases f with
 |new g args hm hf hk=>exact .new g args hm hf fun b o e q=>hk b o e (old b q)
 |fly B a0 fl cv=>exact .fly B a0 fl fun b o e q n=>cv b o e (old b q) n
theorem U7 {K:Ak}{P:Hp}{α : Ab Af}{σ : _L.St}{n:Ai}(h:σ.length=n):zH K P α σ (Dl n none):=by
 refine⟨by simp[h],fun i d e=>?_⟩
 rw[Lp] at e
 split at e <;> cases e
theorem zH.unset {K:Ak}{P:Hp}{α : Ab Af}{σ : _L.St}{env:qD}(re:zH K P α σ env)(i:Ai):zH K P α (σ.set i none) (env.set i none):=by
 refine⟨by simp[re.1],fun j d e=>?_⟩
 by_cases hj:i=j
 ·subst hj
  by_cases hi:i<env.length
  ·rw[Ef hi] at e;cases e
  ·rw[Na (by simp;omega)] at e;cases e
 ·rw[Cf hj] at e ⊢
  exact re.2 j d e
end
section
variable {X:Cx}{pos:Fk}{f g:DS}
theorem SH {pins:Ab (Af × Cq)}{D:Ends}{c:Ac}{e C0:Af}{s':Ag}{σ : _L.St}{H P:Hp}{α : Ab Af}{S1:Sto}{x n:Ax}{i:Ai}{b₀:Fl}{suite:Ab Fl}{np hpos:Fk}{cs:Ab Ac}
  (F:Fn1 X) (hg:Gl X x) (hm:X.mg x=Aa (.ref C0)) (hcs:∀ c∈cs,Jf X.K c (.ref C0)=Aa true) (hN:X.N.Nodup) (hi:X.N[i]? = Aa n) (hlo:X.env.scope.names.lookup n=Aa .local)
  (hs:∀ e,PSs (Cx.suite X e) (b₀::suite) (tDS (Cx.suite X e) g)) (hc:cs.contains c=true) (I:Inv X pins σ H s') (r:Rel X.K H P α S1) (fl:FlyX X pins H c e s'.heap)
  (af:zN X P α (match g ((Dl X.N.length none).set i (Aa (.exn c))) S1 with|.rt d S2=>.rt d S2|.nx env2 S2=>.nx (env2.set i none) S2|_=>.bad) D) (hdb:(x == ("__debug__" : Ax))=false) :
  Ao (Au X.prog X.w) X.A (Wr (.ref e) X.env) (fun _ s₂=>Ao (Au X.prog X.w) X.A (Ws (.ref e) none) (fun _ s₃ =>
   Ao (Au X.prog X.w) X.A (handleBy (.ref e) X.env [.ExceptHandler (Aa (.Name x np)) (Aa n) (b₀::suite) hpos]) (SP X pins D) X.xe s₃) X.xe s₂) X.xe s':=by
 have hcs':Jf X.K c (.ref C0)=Aa true:=hcs c (by simpa using hc)
 have Z:∀ {σ : _L.St} {H:Hp} {s:Ag},Inv X pins σ H s→Inv (Cx.suite X e) pins σ H s:=fun I=>Inv.re I _ false _ I.ok.frames fun z=>nomatch z;refine KO I F I.ok.frames fl fun h5 B a0 f5 I5 cv5=>?_;refine wpAny_handleBy_cons (codeAny_handlers_test (A:=X.A.mark (Aa (.ref e))) (kX (X:=Cx.suite X e) (Z I5) hg hm ?_ hdb)) (by intro q;cases q)
 obtain⟨no5,nf5,ob5,he5,hc5⟩:=oR I5 F f5 cv5;refine(PySem.W.exm_one I5.kIn (by subst hc5;exact(PySem.W.Looks.ld he5).andThen .now) hcs').at ?_
 refine codeAny_handlers_suite_as ?_;refine lands_againW (s:={ s' with heap:=h5 }) f5 fun h6 f6 u6=>?_
 obtain⟨I6,cv6⟩:=Inv.fly I5 F cv5 f6.1 u6;obtain⟨no6,nf6,ob6,he6,hc6⟩:=oR I6 F f6 cv6;have J6:Inv X pins σ (upd H e (cP e c)) { s' with heap:=h6 }:=Inv.track I6 F no6 nf6 he6 hc6
 have hn:H e=none:=by
  cases q:H e with
  |none=>rfl
  |some u=>exact absurd (.inr (.inl (by rw[q];intro z;cases z))) no6
 obtain⟨r1,sP⟩:=r.pure (o:=cP e c) hn;refine gY (X:=Cx.suite X e) (v:=.ref e) (Z J6) hN hi (.inl hlo) rfl (fun s7 I7=>?_) (.inr hlo);have re7:zH X.K (upd P e (cP e c)) α (σ.set i (Aa (.ref e))) ((Dl X.N.length none).set i (Aa (.exn c))):=(U7 I.len).set i (by simp only[Rep];exact⟨e,rfl,zD⟩)
 refine Hz (hs e pins s7 _ _ { nx:=fun σ' H'=>D.nx (σ'.set i none) H',rt:=D.rt } I7 ⟨_,α,_,S1,r1,re7,?_⟩) (fun fl s8 q=>?_) fun _ _ z=>An z
 ·cases q:g ((Dl X.N.length none).set i (Aa (.exn c))) S1 with
  |rt d S2=>rw[q] at af;exact fun v H' P' α' r' e1 e2 rp=>af v H' P' α' r' (sP.trans e1) e2 rp
  |nx env2 S2=>rw[q] at af;exact fun σ' H' P' α' r' re' e1 e2=>af _ H' P' α' r' (zH.unset re' i) (sP.trans e1) e2
  |bk env2 S2=>rw[q] at af;exact An af
  |ct env2 S2=>rw[q] at af;exact An af
  |ex c' x' env2 S2=>rw[q] at af;exact An af
  |bad=>rw[q] at af;exact An af
 ·cases fl with
  |next =>
   obtain⟨σ',H',I8,q⟩:=q;exact oU (Inv.unre I8 I.ok.frames I.ok.hd) hN hi hlo fun s9 I9=>⟨_,H',I9,q⟩
  |brk =>
   obtain⟨_,_,_,q⟩:=q;exact An q
  |cont =>
   obtain⟨_,_,_,q⟩:=q;exact An q
  |ret u =>
   obtain⟨v,σ',H',I8,rv,q⟩:=q;exact oU (Inv.unre I8 I.ok.frames I.ok.hd) hN hi hlo fun s9 I9=>⟨v,_,H',I9,rv,q⟩
set_option tactic.hygienic true in
theorem DX {x n:Ax}{C0:Af}{i:Ai}{body:Ab Fl}{b₀:Fl}{suite:Ab Fl}{np hpos:Fk}{cs:Ab Ac}(F:Fn1 X)(hb:∀ E pn,Sv (Au X.prog X.w) X.A X.env E→PSs (Cx.tryIn X E pn) body (tDS (Cx.tryIn X E pn) f))
  (hs:∀ e,PSs (Cx.suite X e) (b₀::suite) (tDS (Cx.suite X e) g)) (hg:Gl X x) (hm:X.mg x=Aa (.ref C0)) (hcs:∀ c∈cs,Jf X.K c (.ref C0)=Aa true) (hN:X.N.Nodup) (hi:X.N[i]? = Aa n:=by rfl) (hlo:X.env.scope.names.lookup n=Aa .local:=by rfl)
  (hdb:(x == ("__debug__" : Ax))=false:=by decide):PS X (.Try body [.ExceptHandler (Aa (.Name x np)) (Aa n) (b₀::suite) hpos] [] [] pos) (tDS X (nG X.N.length i cs f g)):=by
 intro pins s σ H D I h;obtain⟨P,α,env,S,r,re,af⟩:=h;refine wpAny_Try_except ?_;refine Hz (hb _ (X.pn++pins) (PassesOwn.looking (K:=fun e s₂=>Ao (Au X.prog X.w) X.A (Ws e none) (fun _ s₃=>Ao (Au X.prog X.w) X.A (handleBy e X.env [.ExceptHandler (Aa (.Name x np)) (Aa n) (b₀::suite) hpos]) (SP X pins D) X.xe s₃) X.xe s₂) (E₁:=X.xe))
  [] s σ H D (Inv.inTry I _) ⟨P,α,env,S,r,re,?_⟩) (fun fl s1 q=>?_) fun _ _ z=>z
 ·unfold nG at af
  cases q:f env S with
  |rt d S2=>rw[q] at af;exact af
  |nx env2 S2=>rw[q] at af;exact af
  |bk env2 S2=>rw[q] at af;exact af
  |ct env2 S2=>rw[q] at af;exact af
  |bad=>rw[q] at af;exact af
  |ex c x' env2 S2 =>
   rw[q] at af;dsimp only at af;intro u s' k;obtain⟨e,pins',σ',H',P',α',rfl,I',r',e1,e2,F',fl⟩:=k
   split at af
   ·rename_i hc
    exact SH F hg hm hcs hN hi hlo hs hc (Inv.outTry I') r' (FlyX.outTry fl) (zN.base e1 e2 af) hdb
   ·exact An af
 ·have q':=SP.outTry q
  cases fl with
  |next=>exact Nw q'
  |brk=>exact q'
  |cont=>exact q'
  |ret u=>exact q'
end
end _D
namespace _D
open PySem PySem.Spec PyProof.Rows _L PySem.W
structure ExnK (K:Ak)(C:Af):Prop where
 ga:findIn K (.ref C) "__getattribute__" = Aa (Aa (.builtin "BaseException.__getattribute__"))
 hk:findIn K (.ref C) "__getattr__" = Aa none
 cl:findIn K (.ref C) "__class__" = Aa (Aa (.builtin "object.__class__"))
 sp:specialIn K (.builtin "object.__class__") "__get__" = Aa (Aa (.builtin "getset_descriptor.__get__"))
 tk:takesIn K (.builtin "object.__class__")=Aa true
 mo:mroIn K C (.type "object")=Aa true
 mb:mroIn K C (.type "BaseException")=Aa true
 isC:(clsIn K C).isSome=true
section
variable {prog:Bm}{w:Cb}{A:Bz}{E:Ac→Ag→Prop}{s:Ag}{K:Ak}{x C:Af}
abbrev jL (x C:Af)(h:Bs):Prop:=∃ ob,h.get? x=Aa ob∧ob.cls=.ref C
theorem jL.type {M:Ll}{h:Bs}(I:jL x C h):Looks M h (typeOf (.ref x)) (.ref C):=by
 obtain⟨ob,e,c⟩:=I;rw[← c];exact(Looks.ld e).andThen .now
theorem K5 {M:Ll}{h:Bs}(X:K.In h)(Z:ExnK K C):Looks M h (Aa2 (.ref x) (.ref C) "__class__") (.bind (.builtin "getset_descriptor.__get__") (.builtin "object.__class__")):=by
 have l1:=Vw (M:=M) X Z.cl;have l2:Looks M h (Zz (Aa (.builtin "object.__class__"))) (Aa (.builtin "getset_descriptor.__get__")):=looks_specialIn X Z.sp;have l3:=looks_takesIn (M:=M) X Z.tk;have l4:Looks M h (Vx (Aa (.builtin "object.__class__")) (Aa (.builtin "getset_descriptor.__get__"))) (Aa (.builtin "getset_descriptor.__get__",.builtin "object.__class__")):=l3.andThen .now;exact l1.andThen (l2.andThen (l4.andThen (Looks.tag .now)))
theorem MI {R:Xj→Ag→Prop}{tp:Ac}(X:K.In s.heap)(Z:ExnK K C)(I:jL x C s.heap)(h:R (.ok (.ret (.ref C))) s) :
  Kx (Au prog w) A (.call (.builtin "getset_descriptor.__get__") ⟨[.builtin "object.__class__",.ref x,tp],[]⟩) R s:=by
 have LT:=jL.type (M:=Au prog w) I;have LM:=looks_mroIn (M:=Au prog w) X Z.mo;cases s;refine Kn KF.slot_gs.plain KF.entry_gs (KF.slot_gs.check _ _ _ _ _ _ _ _ KF.type_class (KF.args_gs _ _ _) ?_);unfold Hs.«getset_descriptor.__get__» Vy;rw[dga_obj];refine Ad (Am ?_);unfold Ut Rx Sb isInstance;simp only[KF.owner_class]
 repeat lk
 refine⟨Pf _ (by decide +kernel),Hu KF.entry_class ?_⟩
 unfold Hs.«object.__class__» shownTypeOf
 repeat lk
 exact h
theorem SA {tk:Sr}{R:Xj→Ag→Prop}(X:K.In s.heap)(Z:ExnK K C)(I:jL x C s.heap)(h:R (.ok (.ret (.ref C))) s) :
  Kx (Au prog w) A (.call (.builtin "BaseException.__getattribute__") ⟨[.ref x,.str "__class__" tk],[]⟩) R s:=by
 have LT:=jL.type (M:=Au prog w) I;have LM:=looks_mroIn (M:=Au prog w) X Z.mb;have LF:=K5 (M:=Au prog w) (x:=x) X Z;have hk:builtinKind "BaseException.__getattribute__" = Aa .slot:=by decide +kernel
 have hsp:splitId "BaseException.__getattribute__" = Aa ("BaseException","__getattribute__"):=by decide +kernel
 have chk:∀ (A:Bz) (Q:Rc→Ag→Prop) (E:Ac→Ag→Prop),Q () s→Ao (Au prog w) A (Rg "BaseException.__getattribute__" ⟨[.ref x,.str "__class__" tk],[]⟩) Q E s:=by
  intro A Q E hq;have ha:=PySem.F.args_bexc_ga (.ref x) (.str "__class__" tk);simp only[Rg,hk,hsp];unfold isInstance;refine Ad (Ad (LT.here (LM.here ?_)))
  repeat (any_goals (first|assumption|wp_step))
 refine Kn Rl.ga.plain PySem.F.entry_bexc_ga (chk _ _ _ ?_);cases s;unfold Hs.«object.__getattribute__»;refine Ad (Pm (show slotArgs "__getattribute__" 1 ⟨[.ref x,.str "__class__" tk],[]⟩=pure (.ref x,[.str "__class__" tk]) from by kernel_rfl) ?_)
 refine Ad (Am (Ad (LT.at (Ad (LF.at ?_)))));show Ao _ _ (Qf _ _ _ _) _ _ _;unfold Qf;dsimp only;exact Ad (Eg (Oo (MI X Z I (Am h))))
theorem Y4 {Q:Al Ac→Ag→Prop}(X:K.In s.heap)(Z:ExnK K C)(I:jL x C s.heap)(h:Q (Aa (.ref C)) { s with toks:=s.toks+1 }) : Ao (Au prog w) A (getAttr? (.ref x) "__class__") Q E s:=by
 have LT:=jL.type (M:=Au prog w) I;have L1:=Vw (M:=Au prog w) X Z.ga;have lk2:=Vw (M:=Au prog w) X Z.hk;unfold getAttr? getAttrBy? getAttrBy;cases s;refine Ad (wpAny_mkText (Ad (HT (Eg (Ad (LT.at (Ad (L1.at ?_))))))));dsimp only;have hx2:(Zp "BaseException.__getattribute__" == Zp "object.__getattribute__")=false:=by decide +kernel
 rw[hx2,OT,Bk Gs];unfold getAttrByItsOwn hookBefore;rw[Bl (show onTheHeap (.ref C)=true from rfl)]
 refine Ad (lk2.at (Ad (HT (Eg ?_))));unfold callGetattribute;rw[Ox,Bk Gs];unfold boundAndCalled;refine Ad (Pm (Rl.ga.bind (.ref x)) ?_);refine Oo (SA X Z I ?_);show Ao _ _ (handedOut (.ref C)) _ _ _;exact Am (Am h)
set_option tactic.hygienic true in
theorem aD (Z:ExnK K C):KitX K (.ref x) (.ref C) (jL x C) where
 ty:=fun _ _ _ I=>I.type
 it:=fun M h X _=>by
  have z:=Z.isC;unfold clsIn at z
  split at z
  ·rename_i ho
   intro A' Q' E' s' k q;unfold isType loadHead;exact Ad (wpAny_loadPart (k _ _ (X _ _ ho)) (Am q))
  ·cases z
 ne:=fun h tp dd its n sl X htp=>by
  have z:=Z.isC;unfold clsIn at z
  split at z
  ·rename_i ho
   cases hq:(Dc C == Dc tp) with
   |false=>rfl
   |true =>
    obtain rfl:C=tp:=Value.ref.inj (Op.mp hq);have y:=(X _ _ ho).symm.trans htp;cases y
  ·cases z
 ca:=fun X I k=>Y4 X Z I k
end
end _D
namespace _D
open PySem PySem.Spec PyProof.Rows _L
theorem nH {α : Type}{t:Kt α}{Q Q':α→Ag→Prop}{M:Ll}{A:Bz}{E:Ac→Ag→Prop}{s:Ag}(h:Ao M A t Q (fun _ _=>Fm) s)(hQ:∀ a s,Q a s→Q' a s):Ao M A t Q' E s:=Hz h hQ fun _ _ x=>x.elim
def b9 (ifs:Ab By)(env:Ks):Kt Aq:=forIn ifs true fun c r=>if r=true then do let ok ← PySem.isTrue c env (eval c env);pure (Nz ok) else pure (Nz r)
def PTs (X:Cx)(ifs:Ab By)(t:DT):Prop:=
 ∀ (pins:Ab (Af × Cq)) (s:Ag) (σ : _L.St) (H:Hp) (Q:Aq→Hp→Prop),Inv X pins σ H s→tDT X t σ H Q→Ao (Au X.prog X.w) X.A (b9 ifs X.env) (TP X pins σ Q) X.xe s
def zJ:DT:=fun _ S=>.ok true S
section
variable {X:Cx}
theorem MC:PTs X [] zJ:=fun pins s σ H Q I ⟨P,α,env,S,r,re,af⟩=>by
 unfold b9;rw[To];exact Am ⟨H,I,af H P α r (qH.refl _) (Bp _)⟩
theorem IS {e:By}{f:DE}{pins:Ab (Af × Cq)}{s:Ag}{σ : _L.St}{H P:Hp}{α : Ab Af}{env:qD}{S:Sto}{d:D}{S1:Sto}(he:PE X e (tD X f))(I:Inv X pins σ H s)(r:Rel X.K H P α S)(re:zH X.K P α σ env)(q:f env S=.ok d S1) :
  Ao (Au X.prog X.w) X.A (eval e X.env) (fun u s1=>∃ v H1 P1 α1,Got X pins σ env P α u s1 v H1 P1 α1 d S1) X.xe s:=by
 refine thn (xI (g:=fun d S=>Res.ok d S) (Ok:=fun d' S'=>d'=d∧S'=S1) he I r re (by rw[q];exact⟨rfl,rfl⟩)) fun u s1 ⟨v,H1,P1,α1,d',S',G,h1,h2⟩=>?_
 have e1:d'=d:=h1;have e2:S'=S1:=h2;subst e1;subst e2;exact⟨v,H1,P1,α1,G⟩
theorem A3 {ifs:Ab By}{t:DT}{pins:Ab (Af × Cq)}{s:Ag}{σ : _L.St}{H P:Hp}{α : Ab Af}{env:qD}{S:Sto}{b:Aq}{S1:Sto}(he:PTs X ifs t)(I:Inv X pins σ H s)(r:Rel X.K H P α S)(re:zH X.K P α σ env)(q:t env S=.ok b S1) :
  Ao (Au X.prog X.w) X.A (b9 ifs X.env) (fun b' s1=>b'=b∧∃ H1 P1 α1,Inv X pins σ H1 s1∧Rel X.K H1 P1 α1 S1∧zH X.K P1 α1 σ env∧qH P P1∧α<+:α1) X.xe s:=by
 refine thn (he pins s σ H (fun b' H1=>b'=b∧∃ P1 α1,Rel X.K H1 P1 α1 S1∧zH X.K P1 α1 σ env∧qH P P1∧α<+:α1) I ⟨P,α,env,S,r,re,?_⟩) fun b' s1 ⟨H1,I1,e,P1,α1,q1,q2,q3,q4⟩=>⟨e,H1,P1,α1,I1,q1,q2,q3,q4⟩;rw[q];exact fun H' P' α' r' e1 e2=>⟨rfl,P',α',r',re.mono e1 e2,e1,e2⟩
theorem IT {tg:By}{g:DG}{pins:Ab (Af × Cq)}{s:Ag}{σ : _L.St}{H P:Hp}{α : Ab Af}{env env1:qD}{S:Sto}{d:D}{v:V}{u:Ac}{S1:Sto}(hg:PG X tg (tDG X g))(I:Inv X pins σ H s)(r:Rel X.K H P α S)(re:zH X.K P α σ env)(rv:qK v u)
  (rp:Rep X.K P α d v) (q:g d env S=.ok env1 S1) :
  Ao (Au X.prog X.w) X.A (assign tg X.env u) (fun _ s1=>∃ σ1 H1 P1 α1,Inv X pins σ1 H1 s1∧Rel X.K H1 P1 α1 S1∧zH X.K P1 α1 σ1 env1∧qH P P1∧α<+:α1) X.xe s:=by
 refine thn (hg pins s σ H v u (fun σ1 H1=>∃ P1 α1,Rel X.K H1 P1 α1 S1∧zH X.K P1 α1 σ1 env1∧qH P P1∧α<+:α1) I rv ⟨P,α,env,S,d,r,re,rp,?_⟩) fun _ s1 ⟨σ1,H1,I1,P1,α1,q1,q2,q3,q4⟩=>⟨σ1,H1,P1,α1,I1,q1,q2,q3,q4⟩;rw[q];exact fun σ' H' P' α' r' re' e1 e2=>⟨P',α',r',re',e1,e2⟩
def lZ (K:Ak)(P:Hp)(α : Ab Af)(ds:Ab D)(o:Cq):Prop:=∃ (its:Ab Ac) (n:Ai) (vs:Ab V),o={ cls:=.type "list",data:=.seq its.toArray n } ∧ qL vs its∧qF K P α ds vs∧ds.length≤lim
theorem lZ.mono {K:Ak}{P P1:Hp}{α α1:Ab Af}{ds:Ab D}{o:Cq}(e:qH P P1)(h:α<+:α1)(a:lZ K P α ds o):lZ K P1 α1 ds o:=by
 obtain⟨its,n,vs,q1,q2,q3,q4⟩:=a;exact⟨its,n,vs,q1,q2,qF.mono e h _ _ q3,q4⟩
theorem lZ.cell {K:Ak}{P:Hp}{α : Ab Af}{ds:Ab D}{o:Cq}(a:lZ K P α ds o):∀ v,o.data≠.cell v:=by
 obtain⟨its,n,vs,rfl,_⟩:=a;intro v z;cases z
theorem Inv.pin1 {pins:Ab (Af × Cq)}{σ : _L.St}{H:Hp}{s:Ag}{a:Af}{o:Cq}(I:Inv X pins σ H s)(f:wH X pins H a)(e:s.heap.get? a=Aa o)(d:∀ v,o.data≠.cell v):Inv X (pins++[(a,o)]) σ H s:=
 I.pins_of fun p hp=>(Cn.mp hp).elim (fun z=>I.pin p (Cg _ z)) fun z=>by
  have e':p=(a,o):=by simpa using z
  subst e';exact⟨e,f.1,f.2.1,f.2.2.1,d⟩
theorem Inv.pinned1 {pins:Ab (Af × Cq)}{σ : _L.St}{H:Hp}{s:Ag}{a:Af}{o:Cq}(I:Inv X (pins++[(a,o)]) σ H s):s.heap.get? a=Aa o∧H a=none:=by
 have:=I.pin (a,o) (Cg _ (Cg _ (by simp)))
 exact⟨this.1,this.2.1⟩
end
structure TurnSt (Y:Cx)(pins:Ab (Af × Cq))(P1:Hp)(α1:Ab Af)(fp:Ab Af)(acc:Af)(env:qD)(S:Sto)(ds:Ab D)(s:Ag)(σ : _L.St)(H P:Hp)(α : Ab Af)(o:Cq):Prop where
 inv:Inv Y pins σ H s
 rel:Rel Y.K H P α S
 env:zH Y.K P α σ env
 same:qH P1 P
 pre:α1<+:α
 fpn:∀ b∈fp,H b=none
 acn:H acc=none
 at':s.heap.get? acc=Aa o
 acc:lZ Y.K P α ds o
def yD (cells:Ab (Ax × Af)):Ab (Ax × Ir)→Ab (Ax × Af)→Ab (Ax × Af)
 |[],cs=>cs
 |(n,k)::r,cs=>yD cells r (if k == .free then (n,(cells.lookup n).getD 0)::cs else cs)
theorem eF {env:Ks}{scope:Gp}(h:∀ y∈scope.names,y.2=.free→∃ c,env.cells.lookup y.1=Aa c):Yx scope env=pure (yD env.cells scope.names []):=by
 have go:∀ (l:Ab (Ax × Ir)) (cs:Ab (Ax × Af)),(∀ y∈l,y.2=.free→∃ c,env.cells.lookup y.1=Aa c) →
   (forIn l cs fun x cs=>match x with|(name,kind)=>if (kind == Ix)=true then do let a ← cellOf env name;pure (Nz ((name,a)::cs)) else pure (Nz cs):Kt (Ab (Ax × Af)))=pure (yD env.cells l cs):=by
  intro l
  induction l with
  |nil=>intro cs _;rfl
  |cons y r ih =>
   intro cs hl;obtain⟨n,k⟩:=y;rw[Sc];by_cases hk:k=.free
   ·subst hk
    obtain⟨c,hc⟩:=hl (n,.free) Dg rfl;have hc':env.cells.lookup n=Aa c:=hc;have e:cellOf env n=pure c:=by unfold cellOf;rw[hc']
    simp only[Ea,Dq,e,pure_bind];rw[ih _ fun z hz=>hl z (Bx _ hz)];simp only[yD,Ea,Dq,hc',Rh]
   ·have hb:(k == Ix)=false:=by simpa using hk
    simp only[hb,Bu,Ej,pure_bind];rw[ih _ fun z hz=>hl z (Bx _ hz)];simp only[yD,hb,Bu,Ej]
 unfold Yx;have:=go scope.names [] h;simp only[bind_pure];exact this
theorem tP {cells:Ab (Ax × Af)}{x:Ax}{c:Af}:∀ (l:Ab (Ax × Ir)) (cs:Ab (Ax × Af)),(yD cells l cs).lookup x=Aa c→cs.lookup x=Aa c∨((x,Ix)∈l∧c=(cells.lookup x).getD 0)
 |[],cs,h=>.inl h
 |(n,k)::r,cs,h=>by
  rcases tP r _ h with h|⟨h1,h2⟩
  ·by_cases hk:k=.free
   ·subst hk
    simp only[Ea,Dq,Jh] at h;cases hb:x == n with
    |true =>
     rw[hb] at h;have e:x=n:=by simpa using hb
     subst e;exact .inr ⟨Dg,(Cw h).symm⟩
    |false=>rw[hb] at h;exact .inl h
   ·have hb:(k == Ix)=false:=by simpa using hk
    simp only[hb,Bu,Ej] at h;exact .inl h
  ·exact .inr ⟨Bx _ h1,h2⟩
theorem fT {cells:Ab (Ax × Af)}{x:Ax}:∀ (l:Ab (Ax × Ir)) (cs:Ab (Ax × Af)),((x,Ix)∈l∨∃ c,cs.lookup x=Aa c)→∃ c,(yD cells l cs).lookup x=Aa c
 |[],cs,h=>by
  rcases h with h|h
  ·cases h
  ·exact h
 |(n,k)::r,cs,h=>by
  refine fT r _ ?_;rcases h with h|⟨c,h⟩
  ·rcases Av.mp h with e|h
   ·cases e
    exact .inr ⟨(cells.lookup x).getD 0,by simp only[Ea,Dq,Jh]⟩
   ·exact .inl h
  ·by_cases hk:k=.free
   ·subst hk
    simp only[Ea,Dq,Jh];cases hb:x == n with
    |true=>exact .inr ⟨_,rfl⟩
    |false=>exact .inr ⟨c,h⟩
   ·have hb:(k == Ix)=false:=by simpa using hk
    simp only[hb,Bu,Ej];exact .inr ⟨c,h⟩
structure CompSc (scX:Gp)(NX:Ab Ax)(scope:Gp)(N':Ab Ax)(cap:Ab (Al Ai)):Prop where
 kind:scope.kind=.function
 names:∀ y∈scope.names,y.2=.local → scope.names.lookup y.1=Aa .local
 nocell:∀ y∈scope.names,y.2≠.cell
 free:∀ y∈scope.names,y.2=.free→scX.names.lookup y.1=Aa .cell∨scX.names.lookup y.1=Aa .free
 fr2:∀ y∈scope.names,y.2=.free→scope.names.lookup y.1=Aa .free
 len:cap.length=N'.length
 caps:((cap.zip N').all fun p=>match p.1 with|none=>true|some i=>NX[i]? == Aa p.2&&scope.names.lookup p.2 == Aa .free)=true
 nd:N'.Nodup
def j3 (cap:Ab (Al Ai))(σ : _L.St):_L.St:=cap.map fun o=>match o with
 |none=>none
 |some i=>(σ[i]?).join
def xU (cap:Ab (Al Ai))(env:qD):qD:=cap.map fun o=>match o with
 |none=>none
 |some i=>(env[i]?).join
theorem U6 {K:Ak}{P:Hp}{α : Ab Af}{σ : _L.St}{env:qD}(re:zH K P α σ env)(cap:Ab (Al Ai)):zH K P α (j3 cap σ) (xU cap env):=by
 refine⟨by simp[j3,xU],fun j d e=>?_⟩
 unfold xU at e;unfold j3;rw[Dv] at e ⊢;cases q:cap[j]? with
 |none=>rw[q] at e;cases e
 |some o =>
  rw[q] at e;cases o with
  |none=>cases e
  |some i =>
   have e':(env[i]?).join=Aa d:=by simpa using e
   cases z:env[i]? with
   |none=>rw[z] at e';cases e'
   |some w =>
    rw[z] at e';have e'':w=Aa d:=e';subst e'';obtain⟨v,h1,h2⟩:=re.2 i d z;exact⟨v,by simp[h1],h2⟩
def zE (X:Cx)(N':Ab Ax)(scope:Gp)(cl:Ab (Ax × Af))(C:Af)(ex:Ab Af)(s₀:Ag)(H₀:Hp):Cx:=
 { X with N:=N',s₀:=s₀,H₀:=H₀,env:=compEnvC scope cl C X.env,outer:=X.stack,stack:=X.stack,ex:=ex,fn:=fun _=>false,pn:=[],xe:=fun _ _=>Fm }
theorem gR {scope:Gp}{env:Ks}:∀ {names:Ab (Ax × Ir)} {x:Ax} {k:Ir},
  (names.map fun (n,k)=>if (k == Ix&&env.scope.kind == .function&&env.kindOf n == Aa .cell) then (n,Zq) else (n,k)).lookup x=Aa k →
  names.lookup x=Aa k∨(k=.cell∧names.lookup x=Aa .free)
 |[],_,_,h=>by simp at h
 |(n,k0)::r,x,k,h=>by
  rw[Ek,Jh] at h;rw[Jh];dsimp only at h;cases hb:(k0 == Ix&&env.scope.kind == .function&&env.kindOf n == Aa .cell) with
  |true =>
   rw[hb] at h;simp only[Dq] at h;cases hx:x == n with
   |true =>
    rw[hx] at h;have e:Zq=k:=Cw h;have hk:k0=.free:=by
     have:=(Bo _ _).mp hb;have:=(Bo _ _).mp this.1;simpa using this.1
    subst hk;exact .inr ⟨e.symm,rfl⟩
   |false=>rw[hx] at h;exact gR (scope:=scope) h
  |false =>
   rw[hb] at h;simp only[Bu,Ej] at h;cases hx:x == n with
   |true=>rw[hx] at h;exact .inl h
   |false=>rw[hx] at h;exact gR (scope:=scope) h
section
variable {X:Cx}{scope:Gp}{N':Ab Ax}{cap:Ab (Al Ai)}{pins:Ab (Af × Cq)}{σ : _L.St}{H2:Hp}{s2:Ag}{fp:Ab Af}
theorem bH (S:CompSc X.env.scope X.N scope N' cap){x:Ax}{k:Ir}(h:(relabel scope X.env).names.lookup x=Aa k):scope.names.lookup x=Aa k∨(k=.cell∧scope.names.lookup x=Aa .free):=gR (scope:=scope) h
theorem wT (S:CompSc X.env.scope X.N scope N' cap)(ok:X.Ok){x:Ax}{c:Af}(h:(yD X.env.cells scope.names []).lookup x=Aa c):X.env.cells.lookup x=Aa c:=by
 rcases tP _ _ h with h|⟨hm,hc⟩
 ·cases h
 ·have:=S.free _ hm rfl
  obtain⟨c',hc'⟩:=ok.has x this;rw[hc',Rh] at hc;rw[hc',hc]
theorem FP {C:Af}(S:CompSc X.env.scope X.N scope N' cap)(I2:Inv X pins σ H2 s2)(hf:∀ b∈fp,wH X pins H2 b)(hlt:∀ b∈fp,b<s2.heap.objs.size)(hC:s2.heap.objs.size≤C) :
  (zE X N' scope (yD X.env.cells scope.names []) C fp s2 H2).Ok where
 mod:=I2.ok.mod
 kind:=S.kind
 glob:=I2.ok.glob
 blt:=I2.ok.blt
 above:=hC
 inj:=fun x y c h1 h2=>I2.ok.inj x y c (wT S I2.ok h1) (wT S I2.ok h2)
 has:=fun x hx=>by
  have hx':(relabel scope X.env).names.lookup x=Aa .cell∨(relabel scope X.env).names.lookup x=Aa .free:=hx;have hf:scope.names.lookup x=Aa .free:=by
   rcases hx' with h|h
   ·rcases bH S h with h|⟨_,h⟩
    ·exact absurd rfl (S.nocell _ (Fw h))
    ·exact h
   ·rcases bH S h with h|⟨z,_⟩
    ·exact h
    ·cases z
  exact fT _ _ (.inl (Fw hf))
 cab:=fun x c h _=>by cases h
 hd:=I2.ok.hd
 frames:=I2.ok.frames
 stk:=.inl rfl
 exf:=fun b hb=>⟨Cy (Bt (hlt b hb) hC),fun x c h=>(hf b hb).2.2.2.2.1 x c (wT S I2.ok h)⟩
 bs:=I2.bs
 bsz:=Ee I2.ok.bsz I2.sz
 noex:=fun b o e hb=>by
  obtain⟨_,_,_,h,_⟩:=hf b hb;rcases h with h|h
  ·exact I2.ok.noex b o e h
  ·exact absurd (Bt (Ba e) (Ee I2.ok.bsz h)) (Eu _)
 exfs:=fun b hb hb2=>by
  obtain⟨_,h1,h2,_⟩:=hf b hb;rcases Av.mp (I2.stkSub b hb2) with z|z
  ·exact h1 z
  ·exact h2 z
 funs:=I2.stack
 frf:=I2.stkFree
theorem JH {s4:Ag}{C:Af}{m:Ax→Al Ac}(S:CompSc X.env.scope X.N scope N' cap)(I2:Inv X pins σ H2 s2)(hf:∀ b∈fp,wH X pins H2 b)(hlt:∀ b∈fp,b<s2.heap.objs.size)(hC:s2.heap.objs.size≤C)
  (hn:s4.heap.Ns C m) (os:s4.os=s2.os) (gens:s4.gens=s2.gens) (keep:∀ b o,s2.heap.get? b=Aa o→s4.heap.get? b=Aa o) :
  Inv (zE X N' scope (yD X.env.cells scope.names []) C fp s2 H2) [] (j3 cap σ) H2 s4 where
 ok:=FP S I2 hf hlt hC
 os:=os
 bare:=gens▸I2.bare
 base:=Un.kept keep
 loc:=by
  refine⟨m,hn,fun j x v h1 h2 h3=>?_⟩;have h1':N'[j]? = Aa x:=h1;unfold j3 at h2;rw[Dv] at h2;cases q:cap[j]? with
  |none=>rw[q] at h2;cases h2
  |some o =>
   rw[q] at h2;cases o with
   |none=>cases h2
   |some i =>
    have e':(σ[i]?).join=Aa v:=by simpa using h2
    have hσ:σ[i]? = Aa (Aa v):=by
     cases z:σ[i]? with
     |none=>rw[z] at e';cases e'
     |some w=>rw[z] at e';have:w=Aa v:=e';rw[this]
    have hz:(Aa i,x)∈cap.zip N':=by
     refine List.mem_iff_getElem?.mpr ⟨j,?_⟩;rw[List.getElem?_zip_eq_some];exact⟨q,h1'⟩
    have hc:=Az.mp S.caps _ hz;simp only[Bo,Op] at hc;obtain⟨hN,hfr⟩:=hc;have hk:=S.free _ (Fw hfr) rfl;obtain⟨mo,hmo,hl⟩:=I2.loc;have vis:Vis X.env.scope x:=by
     rcases hk with k|k
     ·exact .inr (.inl k)
     ·exact .inr (.inr k)
    obtain⟨u,ru,lk⟩:=hl i x v hN hσ vis;refine⟨u,ru,?_⟩;rcases lk with⟨kl,_⟩|⟨_,c,hcl,hcell⟩
    ·have kl':X.env.scope.names.lookup x=Aa .local:=kl
     rcases hk with k|k
     ·have k':X.env.scope.names.lookup x=Aa .cell:=k
      rw[kl'] at k';cases k'
     ·have k':X.env.scope.names.lookup x=Aa .free:=k
      rw[kl'] at k';cases k'
    ·obtain⟨c',hc'⟩:=fT (cells:=X.env.cells) scope.names [] (.inl (Fw hfr))
     have e2:=wT S I2.ok hc';rw[hcl] at e2;cases e2;refine .inr ⟨?_,c,hc',?_⟩
     ·have h3':Vis (relabel scope X.env) x:=h3
      rcases h3' with h|h|h
      ·rcases bH S h with h|⟨z,_⟩
       ·rw[hfr] at h;cases h
       ·cases z
      ·exact .inl h
      ·exact .inr h
     ·obtain⟨ob,hob,hd⟩:=hcell
      exact⟨ob,keep c ob hob,hd⟩
 cell:=fun x c h=>by
  obtain⟨v,ob,hob,hd⟩:=I2.cell x c (wT S I2.ok h);exact⟨v,ob,keep c ob hob,hd⟩
 free:=I2.hok.fresh hC
 freeC:=fun x c h=>I2.freeC x c (wT S I2.ok h)
 pin:=fun p hp=>absurd (show p∈([]:Ab (Af × Cq)) from hp) (by simp)
 hok:=I2.hok.kept keep
 len:=by
  show (j3 cap σ).length=N'.length;simp[j3,S.len]
end
theorem YB {P:Bm}{w:Cb}{H:Hp}{h:Bs}{a:Af}{o:HO}(x:HOk P w H h)(hn:H a=none)(new:zV P w (upd H a o) h a o):HOk P w (upd H a o) h:=fun b u e=>by
 by_cases hb:b=a
 ·subst hb;rw[zD] at e;cases e;exact new
 ·rw[qP hb] at e
  exact(x b u e).stay (fun c v _ q=>q) (fun c q=>by rw[qP (zM q hn)];exact q) fun c xs q=>by rw[qP (zM q hn)];exact q
theorem YA {P:Bm}{w:Cb}{H:Hp}{h h':Bs}{C:Af}(x:HOk P w H h)(hn:H C=none)(k:∀ b o,b≠C→h.get? b=Aa o→h'.get? b=Aa o):HOk P w H h':=fun b u e =>
 (x b u e).stay (fun c v hc q=>k c v (by
  rintro rfl;rcases hc with z|z
  ·subst z;rw[hn] at e;cases e
  ·rw[hn] at z;cases z) q) (fun _ q=>q) fun _ _ q=>q
section
variable {X:Cx}{elt tg iter:By}{ifs:Ab By}{scope:Gp}{pos:Fk}{N':Ab Ax}{cap:Ab (Al Ai)}{fi:DI}{g:DG}{t:DT}{fe:DE}
def mM (X:Cx)(pins:Ab (Af × Cq))(σ : _L.St)(P1:Hp)(α1:Ab Af)(ds:Ab D)(SF:Sto)(acc C:Af)(s:Ag):Prop:=
 ∃ (H' P':Hp) (α' : Ab Af) (vs:Ab V),Inv X pins σ (upd H' acc (.lst vs)) s∧Rel X.K H' P' α' SF∧H' acc=none∧qH P1 P'∧α1<+:α'∧qF X.K P' α' ds vs∧H' C=none
theorem JG {Y:Cx}{pins:Ab (Af × Cq)}{σ σ':_L.St}{H2:Hp}{s2 s':Ag}{fp:Ab Af}{acc C:Af}{P1:Hp}{α1:Ab Af}{H' P':Hp}{α' : Ab Af}{envF:qD}{SF:Sto}{ds:Ab D}{o:Cq}{cl:Ab (Ax × Af)}(I2:Inv X pins σ H2 s2)
  (hf:∀ b∈fp,wH X pins H2 b) (hY:Y=zE X N' scope cl C fp s2 H2) (hC:s2.heap.objs.size≤C) (hA:s2.heap.objs.size≤acc) (hne:acc≠C) (st:TurnSt Y [] P1 α1 fp acc envF SF ds s' σ' H' P' α' o)
  {h':Bs} (sb:Fa C s'.heap h'):mM X pins σ P1 α1 ds SF acc C { s' with heap:=h' }:=by
 subst hY;obtain⟨its,n,vs,rfl,rv,rp,hz⟩:=st.acc;have kC:∀ b o,b≠C→s'.heap.get? b=Aa o→h'.get? b=Aa o:=fun b o hb e=>(sb.2 b hb).trans e;have nC:∀ b o,s2.heap.get? b=Aa o→b≠C:=fun b o e=>Cy (Bt (Ba e) hC);have nA:∀ b o,s2.heap.get? b=Aa o→b≠acc:=fun b o e=>Cy (Bt (Ba e) hA);have base:Un (frs X.stack) fp H2 H' s2.heap s'.heap:=st.inv.base;have nt:∀ b u,H' b=Aa u→b≠acc:=fun b u e=>zM e st.acn;have un:Un (frs X.stack) fp H2 (upd H' acc (.lst vs)) s2.heap h':=by
  refine⟨fun b ob q hn hb hx=>kC b ob (nC b ob q) (base.keep b ob q hn hb hx),fun b ob q hn hb hx=>?_,fun b ob q hn hx=>?_,fun b ob q hx=>?_,fun b xs q=>?_,fun b ob u q=>?_,fun b ps q=>?_⟩
  ·obtain⟨sl,e⟩:=base.slot b ob q hn hb hx
   exact⟨sl,kC b _ (nC b ob q) e⟩
  ·rw[qP (nA b ob q)];exact base.free b ob q hn hx
  ·obtain⟨o',e⟩:=base.there b ob q hx
   exact⟨o',kC b o' (nC b ob q) e⟩
  ·have:=base.tups b xs q;rw[qP (nt _ _ this)];exact this
  ·have:=base.frzs b ob u q;rw[qP (nt _ _ this)];exact this
  ·obtain⟨more,e⟩:=base.tbls b ps q
   exact⟨more,by rw[qP (nt _ _ e)];exact e⟩
 have hok':HOk X.prog X.w H' h':=YA st.inv.hok st.inv.free kC;have hat:h'.get? acc=Aa { cls:=.type "list",data:=.seq its.toArray n }:=kC acc _ hne st.at';have hok:HOk X.prog X.w (upd H' acc (.lst vs)) h':=YB hok' st.acn ⟨by rw[← rp.length,← xN];exact hz,its,n,rv,hat⟩
 refine⟨H',P',α',vs,?_,st.rel,st.acn,st.same,st.pre,rp,st.inv.free⟩;exact I2.call' (s':={ s' with heap:=h' }) (ch:=fp) (st.inv.os) un hok st.inv.bare fun b hb=>by
  obtain⟨_,h1,h2,h3,h4,h5⟩:=hf b hb;exact⟨h3,h1,h4,h5⟩
theorem oI (S:CompSc X.env.scope X.N scope N' cap)(ok:X.Ok):Yx scope X.env=pure (yD X.env.cells scope.names []):=eF fun y hy hk=>ok.has y.1 (S.free y hy hk)
theorem ME {pins:Ab (Af × Cq)}{σ : _L.St}{P1:Hp}{α1:Ab Af}{ds:Ab D}{SF:Sto}{acc C:Af}{s:Ag}{Q:VK}(c:mM X pins σ P1 α1 ds SF acc C s)(ok:OkV X P1 α1 Q (.lst ds) SF):EP X pins σ Q (.ref acc) s:=by
 obtain⟨H',P',α',vs,I,r,hn,e1,e2,rp,_⟩:=c;exact⟨.ref acc,_,I,rfl,u9 r hn rp fun v H2 P2 α2 r2 q1 q2 q3=>ok v H2 P2 α2 r2 (e1.trans q1) (e2.trans q2) q3⟩
end
end _D
section
namespace _D
open PySem PySem.Spec PyProof.Rows _L PySem.SeqAt
def b01 (b:Aq):Aj:=if b then 1 else 0
mutual
def eqD:D→D→Aq
 |.non,.non=>true
 |.bl a,.bl b=>a == b
 |.bl a,.int b=>b01 a == b
 |.int a,.bl b=>a == b01 b
 |.int a,.int b=>a == b
 |.str a,.str b=>a == b
 |.tup xs,.tup ys=>xX xs ys
 |.lst xs,.lst ys=>xX xs ys
 |_,_=>false
def xX:Ab D→Ab D→Aq
 |[],[]=>true
 |x::xs,y::ys=>eqD x y&&xX xs ys
 |_,_=>false
end
def pl:Ai→D→Aq
 |_,.non=>true
 |_,.bl _=>true
 |_,.int _=>true
 |_,.str _=>true
 |n+1,.tup xs=>xs.all (pl n)
 |n+1,.lst xs=>xs.all (pl n)
 |_,_=>false
theorem Y1 (x y:D)(xs ys:Ab D):xX (x::xs) (y::ys)=(eqD x y&&xX xs ys):=rfl
theorem u4:∀ (xs ys:Ab D),xX xs ys=((Do (min xs.length ys.length)).all (fun j=>eqD (xs.getD j .non) (ys.getD j .non))&&xs.length == ys.length)
 |[],[]=>rfl
 |[],y::ys=>rfl
 |x::xs,[]=>rfl
 |x::xs,y::ys=>by
  have ih:=u4 xs ys;rw[Y1,ih,Cd,Cd,Nat.succ_min_succ,Mq,Nd,Jn,Bool.and_assoc];have e:(xs.length+1 == ys.length+1)=(xs.length == ys.length):=by simp
  rw[e];rfl
theorem K4 {xs ys:Ab D}(h:xs.length≠ys.length):xX xs ys=false:=by
 rw[u4];simp[h]
theorem dL (xs ys:Ab D):eqD (.tup xs) (.tup ys)=xX xs ys:=rfl
theorem dJ (xs ys:Ab D):eqD (.lst xs) (.lst ys)=xX xs ys:=rfl
section
variable {X:Cx}{pins:Ab (Af × Cq)}{σ : _L.St}{H P:Hp}{α : Ab Af}{S:Sto}{s:Ag}
inductive Kd (X:Cx)(P:Hp)(α : Ab Af)(s:Ag):D→Ac→Prop where
 |non:Kd X P α s .non .none
 |bl (b:Aq):Kd X P α s (.bl b) (.bool b)
 |int (i:Aj) (t:Sr):Kd X P α s (.int i) (.int i t)
 |str (x:Ax) (t:Sr):Kd X P α s (.str x) (.str x t)
 |tup (a:Af) (xs:Ab D) (its:Ab Ac) (vs:Ab V) (rp:qF X.K P α xs vs) (rv:qL vs its) (h:s.heap.IsTuple a its.toArray) (q:SqT X.K P a vs):Kd X P α s (.tup xs) (.ref a)
 |lst (a:Af) (xs:Ab D) (its:Ab Ac) (vs:Ab V) (rp:qF X.K P α xs vs) (rv:qL vs its) (h:s.heap.IsList a its.toArray) (q:SqX X.K P a vs):Kd X P α s (.lst xs) (.ref a)
theorem vZ (I:Inv X pins σ H s)(r:Rel X.K H P α S){n:Ai}{d:D}{v:V}{u:Ac}(h:pl n d=true)(p:Rep X.K P α d v)(rv:qK v u):Kd X P α s d u:=by
 cases d with
 |non=>simp only[Rep] at p;subst p;cases rv;exact .non
 |bl b=>simp only[Rep] at p;subst p;cases rv;exact .bl b
 |int i=>simp only[Rep] at p;subst p;obtain⟨t,rfl⟩:=rv;exact .int i t
 |str x=>simp only[Rep] at p;subst p;obtain⟨t,rfl⟩:=rv;exact .str x t
 |tup xs =>
  simp only[Rep] at p;obtain⟨a,vs,rfl,q,t⟩:=p;cases rv;obtain⟨its,r1,p1,_⟩:=I.tuple (wQ r.sub q);exact .tup a xs its vs t r1 p1 q
 |lst xs =>
  simp only[Rep] at p;obtain⟨a,vs,rfl,q,t⟩:=p;cases rv;obtain⟨its,r1,p1,_⟩:=I.list ((wB r.sub q).l);exact .lst a xs its vs t r1 p1.isList q
 |_=>cases n <;> exact Gx h
theorem yF {ds:Ab D}{vs:Ab V}{its:Ab Ac}(rp:qF X.K P α ds vs)(rv:qL vs its){j:Ai}(h:j<its.toArray.size):∃ v,Rep X.K P α (ds.getD j .non) v∧qK v its.toArray[j]∧ds.getD j .non∈ds:=by
 have l1:=rp.length;have l2:=rv.length;have hj:j<its.length:=by simpa using h
 have hd:j<ds.length:=by omega
 obtain⟨v,e1,p⟩:=rp.get (Ap hd);obtain⟨u,e2,q⟩:=rv.get e1;have e3:its.toArray[j]=u:=by
  have:its[j]? = Aa its[j]:=Ap hj;rw[this] at e2;simpa using Cw e2
 have e4:ds.getD j .non=ds[j]:=by simp[Jo,hd]
 rw[e3,e4];exact⟨v,p,q,Ng hd⟩
theorem wZ {n:Ai}{ds:Ab D}(h:ds.all (pl n)=true){d:D}(hd:d∈ds):pl n d=true:=Az.mp h d hd
theorem oZ {h:Bs}{a:Af}{xs ys:Aw Ac}(h1:h.IsTuple a xs)(h2:h.IsTuple a ys):xs=ys:=by
 obtain⟨o,e,_,n,d⟩:=h1;obtain⟨o',e',_,n',d'⟩:=h2;cases e.symm.trans e';cases d.symm.trans d';rfl
theorem oY {h:Bs}{a:Af}{xs ys:Aw Ac}(h1:h.IsList a xs)(h2:h.IsList a ys):xs=ys:=by
 obtain⟨o,e,_,n,d⟩:=h1;obtain⟨o',e',_,n',d'⟩:=h2;cases e.symm.trans e';cases d.symm.trans d';rfl
theorem XD {h:Bs}{a:Af}{xs ys:Aw Ac}(h1:h.IsTuple a xs)(h2:h.IsList a ys):Fm:=by
 obtain⟨o,e,c,_⟩:=h1;obtain⟨o',e',c',_⟩:=h2;cases e.symm.trans e';exact absurd (c.symm.trans c') (by decide)
inductive Seqs (X:Cx)(P:Hp)(α : Ab Af)(xs ys:Ab D)(its its2:Ab Ac):Prop
 |mk (vs ws:Ab V) (rp:qF X.K P α xs vs) (rv:qL vs its) (rp2:qF X.K P α ys ws) (rv2:qL ws its2):Seqs X P α xs ys its its2
theorem Seqs.len1 {xs ys:Ab D}{its its2:Ab Ac}(q:Seqs X P α xs ys its its2):xs.length=its.length:=by
 obtain⟨vs,ws,rp,rv,_,_⟩:=q;exact rp.length.trans rv.length
theorem Seqs.len2 {xs ys:Ab D}{its its2:Ab Ac}(q:Seqs X P α xs ys its its2):ys.length=its2.length:=by
 obtain⟨vs,ws,_,_,rp,rv⟩:=q;exact rp.length.trans rv.length
inductive SameR (X:Cx)(P:Hp)(α : Ab Af):D→D→Prop
 |eq {d d':D} (h:eqD d d'=true):SameR X P α d d'
 |tt (xs ys:Ab D) (its:Ab Ac) (q:Seqs X P α xs ys its its):SameR X P α (.tup xs) (.tup ys)
 |ll (xs ys:Ab D) (its:Ab Ac) (q:Seqs X P α xs ys its its):SameR X P α (.lst xs) (.lst ys)
theorem Z9 {d d':D}{u:Ac}(k1:Kd X P α s d u)(k2:Kd X P α s d' u):SameR X P α d d':=by
 cases k1 with
 |non=>cases k2;exact .eq rfl
 |bl b=>cases k2;exact .eq (Ea _)
 |int i t=>cases k2;exact .eq (Ea _)
 |str x t=>cases k2;exact .eq (Ea _)
 |tup a xs its vs rp rv h q =>
  cases k2 with
  |tup _ ys its2 ws rp2 rv2 h2 q2 =>
   cases oZ h h2;exact .tt xs ys its ⟨vs,ws,rp,rv,rp2,rv2⟩
  |lst _ ys its2 ws rp2 rv2 h2 q2=>exact(XD h h2).elim
 |lst a xs its vs rp rv h q =>
  cases k2 with
  |lst _ ys its2 ws rp2 rv2 h2 q2 =>
   cases oY h h2;exact .ll xs ys its ⟨vs,ws,rp,rv,rp2,rv2⟩
  |tup _ ys its2 ws rp2 rv2 h2 q2=>exact(XD h2 h).elim
theorem rF (I:Inv X pins σ H s)(r:Rel X.K H P α S){m:Ai}(ih:∀ (d d':D) (u:Ac),pl m d=true→pl m d'=true→Kd X P α s d u→Kd X P α s d' u→eqD d d'=true){xs ys:Ab D}{its:Ab Ac}(h1:xs.all (pl m)=true)(h2:ys.all (pl m)=true)(q:Seqs X P α xs ys its its):xX xs ys=true:=by
 obtain⟨vs,ws,rp,rv,rp2,rv2⟩:=q;have l1:=rp.length.trans rv.length;have l2:=rp2.length.trans rv2.length;rw[u4,l1,l2,Vz,Bo];refine⟨Az.mpr fun j hj=>?_,BEq.rfl⟩;have hj:j<its.toArray.size:=Et.mp hj;obtain⟨w1,y1,z1,m1⟩:=yF rp rv hj;obtain⟨w2,y2,z2,m2⟩:=yF rp2 rv2 hj;exact ih _ _ _ (wZ h1 m1) (wZ h2 m2) (vZ I r (wZ h1 m1) y1 z1) (vZ I r (wZ h2 m2) y2 z2)
theorem oQ (I:Inv X pins σ H s)(r:Rel X.K H P α S):∀ (n:Ai) (d d':D) (u:Ac),pl n d=true→pl n d'=true→Kd X P α s d u→Kd X P α s d' u→eqD d d'=true:=by
 intro n
 induction n with
 |zero =>
  intro d d' u h1 h2 k1 k2;cases Z9 k1 k2 with
  |eq h=>exact h
  |tt=>exact Gx h1
  |ll=>exact Gx h1
 |succ m ih =>
  intro d d' u h1 h2 k1 k2;cases Z9 k1 k2 with
  |eq h=>exact h
  |tt xs ys its q=>exact(dL xs ys).trans (rF I r ih h1 h2 q)
  |ll xs ys its q=>exact(dJ xs ys).trans (rF I r ih h1 h2 q)
structure E3 (A:Bz)(s:Ag)(u u':Ac)(b:Aq):Prop where
 eq:EqAt A s u u' b
 rc:RcAt A s u u' b
 ne:RcNeAt A s u u' (!b)
inductive EqR (X:Cx)(P:Hp)(α : Ab Af)(A:Bz)(s:Ag):D→D→Ac→Ac→Prop
 |of {d d':D} {u u':Ac} (b:Aq) (e:eqD d d'=b) (h:E3 A s u u' b):EqR X P α A s d d' u u'
 |tt (a b:Af) (xs ys:Ab D) (its its2:Ab Ac) (ha:s.heap.IsTuple a its.toArray) (hb:s.heap.IsTuple b its2.toArray) (q:Seqs X P α xs ys its its2):EqR X P α A s (.tup xs) (.tup ys) (.ref a) (.ref b)
 |ll (a b:Af) (xs ys:Ab D) (its its2:Ab Ac) (ha:s.heap.IsList a its.toArray) (hb:s.heap.IsList b its2.toArray) (q:Seqs X P α xs ys its its2):EqR X P α A s (.lst xs) (.lst ys) (.ref a) (.ref b)
theorem PZ {A:Bz}{d d':D}{u u':Ac}(hu:A.units<Fg)(k1:Kd X P α s d u)(k2:Kd X P α s d' u'):EqR X P α A s d d' u u':=by
 cases k1 with
 |non  =>
  cases k2 with
  |non  => exact .of _ rfl ⟨Zr _,RcAt.none_none,RcNeAt.none_none⟩
  |bl b=>exact .of _ rfl ⟨EqAt.none_bool b,RcAt.none_bool b,RcNeAt.none_bool b⟩
  |int b tb=>exact .of _ rfl ⟨EqAt.none_int b tb,RcAt.none_int b tb,RcNeAt.none_int b tb⟩
  |str b tb=>exact .of _ rfl ⟨EqAt.none_str b tb,RcAt.none_str b tb,RcNeAt.none_str b tb⟩
  |tup b ys its2 ws rp2 rv2 hb qb=>exact .of _ rfl ⟨EqAt.none_tuple hb hu,RcAt.none_tuple hb hu,RcNeAt.none_tuple hb hu⟩
  |lst b ys its2 ws rp2 rv2 hb qb=>exact .of _ rfl ⟨EqAt.none_list hb hu,RcAt.none_list hb hu,RcNeAt.none_list hb hu⟩
 |bl a =>
  cases k2 with
  |non  => exact .of _ rfl ⟨EqAt.bool_none a,RcAt.bool_none a,RcNeAt.bool_none a⟩
  |bl b=>exact .of _ rfl ⟨EqAt.bool_bool a b,RcAt.bool_bool a b,RcNeAt.bool_bool a b⟩
  |int b tb=>exact .of _ rfl ⟨EqAt.bool_int a b tb,RcAt.bool_int a b tb,RcNeAt.bool_int a b tb⟩
  |str b tb=>exact .of _ rfl ⟨EqAt.bool_str a b tb,RcAt.bool_str a b tb,RcNeAt.bool_str a b tb⟩
  |tup b ys its2 ws rp2 rv2 hb qb=>exact .of _ rfl ⟨EqAt.bool_tuple a hb hu,RcAt.bool_tuple a hb hu,RcNeAt.bool_tuple a hb hu⟩
  |lst b ys its2 ws rp2 rv2 hb qb=>exact .of _ rfl ⟨EqAt.bool_list a hb hu,RcAt.bool_list a hb hu,RcNeAt.bool_list a hb hu⟩
 |int a ta =>
  cases k2 with
  |non  => exact .of _ rfl ⟨EqAt.int_none a ta,RcAt.int_none a ta,RcNeAt.int_none a ta⟩
  |bl b=>exact .of _ rfl ⟨EqAt.int_bool a ta b,RcAt.int_bool a ta b,RcNeAt.int_bool a ta b⟩
  |int b tb=>exact .of _ rfl ⟨EqAt.int_int a ta b tb,RcAt.int_int a ta b tb,RcNeAt.int_int a ta b tb⟩
  |str b tb=>exact .of _ rfl ⟨EqAt.int_str a ta b tb,RcAt.int_str a ta b tb,RcNeAt.int_str a ta b tb⟩
  |tup b ys its2 ws rp2 rv2 hb qb=>exact .of _ rfl ⟨EqAt.int_tuple a ta hb hu,RcAt.int_tuple a ta hb hu,RcNeAt.int_tuple a ta hb hu⟩
  |lst b ys its2 ws rp2 rv2 hb qb=>exact .of _ rfl ⟨EqAt.int_list a ta hb hu,RcAt.int_list a ta hb hu,RcNeAt.int_list a ta hb hu⟩
 |str a ta =>
  cases k2 with
  |non  => exact .of _ rfl ⟨EqAt.str_none a ta,RcAt.str_none a ta,RcNeAt.str_none a ta⟩
  |bl b=>exact .of _ rfl ⟨EqAt.str_bool a ta b,RcAt.str_bool a ta b,RcNeAt.str_bool a ta b⟩
  |int b tb=>exact .of _ rfl ⟨EqAt.str_int a ta b tb,RcAt.str_int a ta b tb,RcNeAt.str_int a ta b tb⟩
  |str b tb=>exact .of _ rfl ⟨EqAt.str_str a ta b tb,RcAt.str_str a ta b tb,RcNeAt.str_str a ta b tb⟩
  |tup b ys its2 ws rp2 rv2 hb qb=>exact .of _ rfl ⟨EqAt.str_tuple a ta hb hu,RcAt.str_tuple a ta hb hu,RcNeAt.str_tuple a ta hb hu⟩
  |lst b ys its2 ws rp2 rv2 hb qb=>exact .of _ rfl ⟨EqAt.str_list a ta hb hu,RcAt.str_list a ta hb hu,RcNeAt.str_list a ta hb hu⟩
 |tup a xs its vs rp rv ha qa =>
  cases k2 with
  |non  => exact .of _ rfl ⟨EqAt.tuple_none ha hu,RcAt.tuple_none ha hu,RcNeAt.tuple_none ha hu⟩
  |bl b=>exact .of _ rfl ⟨EqAt.tuple_bool b ha hu,RcAt.tuple_bool b ha hu,RcNeAt.tuple_bool b ha hu⟩
  |int b tb=>exact .of _ rfl ⟨EqAt.tuple_int b tb ha hu,RcAt.tuple_int b tb ha hu,RcNeAt.tuple_int b tb ha hu⟩
  |str b tb=>exact .of _ rfl ⟨EqAt.tuple_str b tb ha hu,RcAt.tuple_str b tb ha hu,RcNeAt.tuple_str b tb ha hu⟩
  |tup b ys its2 ws rp2 rv2 hb qb=>exact .tt a b xs ys its its2 ha hb ⟨vs,ws,rp,rv,rp2,rv2⟩
  |lst b ys its2 ws rp2 rv2 hb qb=>exact .of _ rfl ⟨EqAt.tuple_list ha hb hu,RcAt.tuple_list ha hb hu,RcNeAt.tuple_list ha hb hu⟩
 |lst a xs its vs rp rv ha qa =>
  cases k2 with
  |non  => exact .of _ rfl ⟨EqAt.list_none ha hu,RcAt.list_none ha hu,RcNeAt.list_none ha hu⟩
  |bl b=>exact .of _ rfl ⟨EqAt.list_bool b ha hu,RcAt.list_bool b ha hu,RcNeAt.list_bool b ha hu⟩
  |int b tb=>exact .of _ rfl ⟨EqAt.list_int b tb ha hu,RcAt.list_int b tb ha hu,RcNeAt.list_int b tb ha hu⟩
  |str b tb=>exact .of _ rfl ⟨EqAt.list_str b tb ha hu,RcAt.list_str b tb ha hu,RcNeAt.list_str b tb ha hu⟩
  |tup b ys its2 ws rp2 rv2 hb qb=>exact .of _ rfl ⟨EqAt.list_tuple ha hb hu,RcAt.list_tuple ha hb hu,RcNeAt.list_tuple ha hb hu⟩
  |lst b ys its2 ws rp2 rv2 hb qb=>exact .ll a b xs ys its its2 ha hb ⟨vs,ws,rp,rv,rp2,rv2⟩
theorem E3.cast {A:Bz}{u u':Ac}{b c:Aq}(e:c=b)(h:E3 A s u u' b):E3 A s u u' c:=e▸h
theorem CB {A:Bz}{a b:Af}{xs ys:Ab D}{its its2:Ab Ac}(hu:A.units<Fg)(ha:s.heap.IsTuple a its.toArray)(hb:s.heap.IsTuple b its2.toArray)(l1:xs.length=its.length)(l2:ys.length=its2.length)
  (sub:∀ j (h1:j<its.toArray.size) (h2:j<its2.toArray.size),EqAt A.in1 s its.toArray[j] its2.toArray[j] (eqD (xs.getD j .non) (ys.getD j .non))) (same:a=b→xX xs ys=true):E3 A s (.ref a) (.ref b) (xX xs ys):=by
 have e:xX xs ys=((Do (min its.toArray.size its2.toArray.size)).all (fun j=>eqD (xs.getD j .non) (ys.getD j .non))&&its.toArray.size == its2.toArray.size):=by rw[u4,l1,l2];rfl
 have R1:=RcAt.tuples ha hb hu sub;have R2:=RcNeAt.tuples ha hb hu sub;rw[← e] at R1 R2;refine⟨?_,R1,R2⟩;by_cases hab:a=b
 ·rw[same hab,hab]
  exact Zr _
 ·exact EqAt.of_refs hab R1
theorem CA {A:Bz}{a b:Af}{xs ys:Ab D}{its its2:Ab Ac}(hu:A.units<Fg)(ha:s.heap.IsList a its.toArray)(hb:s.heap.IsList b its2.toArray)(l1:xs.length=its.length)(l2:ys.length=its2.length)
  (sub:∀ j (h1:j<its.toArray.size) (h2:j<its2.toArray.size),EqAt A.in1 s its.toArray[j] its2.toArray[j] (eqD (xs.getD j .non) (ys.getD j .non))) (same:a=b→xX xs ys=true):E3 A s (.ref a) (.ref b) (xX xs ys):=by
 have R:RcAt A s (.ref a) (.ref b) (xX xs ys)∧RcNeAt A s (.ref a) (.ref b) (!xX xs ys):=by
  by_cases hl:its.length=its2.length
  ·have e:xX xs ys=(Do its.toArray.size).all (fun j=>eqD (xs.getD j .non) (ys.getD j .non)):=by rw[u4,l1,l2,← hl,Vz,BEq.rfl,Bool.and_true];rfl
   rw[e];exact⟨RcAt.lists ha hb hl hu sub,RcNeAt.lists ha hb hl hu sub⟩
  ·rw[K4 (by rw[l1,l2];exact hl)]
   have hn:(its.toArray.size != its2.toArray.size)=true:=bne_iff_ne.mpr hl;exact⟨RcAt.lists_lengths ha hb hn hu,RcNeAt.lists_lengths ha hb hn hu⟩
 refine⟨?_,R.1,R.2⟩;by_cases hab:a=b
 ·rw[same hab,hab]
  exact Zr _
 ·exact EqAt.of_refs hab R.1
theorem cM (I:Inv X pins σ H s)(r:Rel X.K H P α S):∀ (n:Ai) (A:Bz) (d d':D) (u u':Ac),A.units+n<Fg→pl n d=true→pl n d'=true→Kd X P α s d u→Kd X P α s d' u'→E3 A s u u' (eqD d d'):=by
 intro n
 induction n with
 |zero =>
  intro A d d' u u' hu h1 h2 k1 k2;cases PZ hu k1 k2 with
  |of b e h=>exact h.cast e
  |tt=>exact Gx h1
  |ll=>exact Gx h1
 |succ m ih =>
  intro A d d' u u' hu h1 h2 k1 k2;have hu0:A.units<Fg:=Nat.lt_of_le_of_lt (Ji _ _) hu;have hu1:A.in1.units+m<Fg:=by show A.units+1+m<Fg;omega
  have sub:∀ {xs ys:Ab D} {its its2:Ab Ac},xs.all (pl m)=true→ys.all (pl m)=true→Seqs X P α xs ys its its2 →
    ∀ j (h1:j<its.toArray.size) (h2:j<its2.toArray.size),EqAt A.in1 s its.toArray[j] its2.toArray[j] (eqD (xs.getD j .non) (ys.getD j .non)):=fun {xs ys its its2} a1 a2 ⟨vs,ws,b1,b2,c1,c2⟩ j g1 g2=>by
   obtain⟨w1,y1,z1,m1⟩:=yF b1 b2 g1;obtain⟨w2,y2,z2,m2⟩:=yF c1 c2 g2;exact(ih A.in1 _ _ _ _ hu1 (wZ a1 m1) (wZ a2 m2) (vZ I r (wZ a1 m1) y1 z1) (vZ I r (wZ a2 m2) y2 z2)).eq
  cases PZ hu0 k1 k2 with
  |of b e h=>exact h.cast e
  |tt a b xs ys its its2 ha hb q=>exact(CB hu0 ha hb q.len1 q.len2 (sub h1 h2 q) fun e=>by subst e;exact(dL xs ys).symm.trans (oQ I r (m+1) _ _ _ h1 h2 k1 k2)).cast (dL xs ys)
  |ll a b xs ys its its2 ha hb q=>exact(CA hu0 ha hb q.len1 q.len2 (sub h1 h2 q) fun e=>by subst e;exact(dJ xs ys).symm.trans (oQ I r (m+1) _ _ _ h1 h2 k1 k2)).cast (dJ xs ys)
def xH:Ai:=30
def gEq:G2:=fun a b S=>if pl xH a&&pl xH b then .ok (.bl (eqD a b)) S else .bad
def gNe:G2:=fun a b S=>if pl xH a&&pl xH b then .ok (.bl (!eqD a b)) S else .bad
set_option tactic.hygienic true in
theorem CP (hu:X.A.units+64<Fg):OpD X (Dt .Eq) gEq:=by
 intro pins σ H s P α S v u vv uu a b Q I r rv ru pa pb af;unfold gEq at af
 split at af
 ·rename_i h
  rw[Bo] at h;exact(cM I r xH X.A a b vv uu (by unfold xH;omega) h.1 h.2 (vZ I r h.1 pa rv) (vZ I r h.2 pb ru)).rc _ _ _ _ ⟨.bl _,H,I,rfl,xr af r (by simp only[Rep])⟩
 ·exact An af
set_option tactic.hygienic true in
theorem BI (hu:X.A.units+64<Fg):OpD X (Dt .NotEq) gNe:=by
 intro pins σ H s P α S v u vv uu a b Q I r rv ru pa pb af;unfold gNe at af
 split at af
 ·rename_i h
  rw[Bo] at h;exact(cM I r xH X.A a b vv uu (by unfold xH;omega) h.1 h.2 (vZ I r h.1 pa rv) (vZ I r h.2 pb ru)).ne _ _ _ _ ⟨.bl _,H,I,rfl,xr af r (by simp only[Rep])⟩
 ·exact An af
end
end _D
end
namespace _D
open PySem PySem.Spec PyProof.Rows _L
section
variable {X:Cx}
def i2 (C:Aj→Aj→Aq)(f:Aj→Aj→D):G2:=fun a b S=>match a,b with
 |.int i,.int j=>if C i j then .ok (f i j) S else .bad
 |_,_=>.bad
theorem B6 {C:Aj→Aj→Aq}{f:Aj→Aj→D}{a b:D}{S:Sto}{P:Hp}{α : Ab Af}{Ok:D→Sto→Prop}(h:qI X P α (i2 C f a b S) Ok):∃ i j,a=.int i∧b=.int j∧C i j=true∧Ok (f i j) S:=by
 cases a with
 |int i =>
  cases b with
  |int j =>
   obtain⟨hc,h⟩:=k7 (X:=X) h;exact⟨i,j,rfl,rfl,hc,h⟩
  |_=>exact An h
 |_=>exact An h
theorem wP {P:Hp}{α : Ab Af}{i:Aj}{v:V}(r:Rep X.K P α (.int i) v):v=.int i:=by simpa only [Rep] using r
theorem lJ {f:Ac→Ac→Kt Ac}{C':Aj→Aj→Prop}{v:Aj→Aj→V}{C:Aj→Aj→Aq}{d:Aj→Aj→D}(h:OpR X f (rI C' v))(hC:∀ i j,C i j=true→C' i j)(hv:∀ P α i j,Rep X.K P α (d i j) (v i j)):OpD X f (i2 C d):=
 OpD.of h fun H P α S x y a b Q r p1 p2 af=>by
  obtain⟨i,j,rfl,rfl,hc,ok⟩:=B6 af;exact⟨i,j,wP p1,wP p2,hC i j hc,xr ok r (hv P α i j)⟩
theorem lI {f:Ac→Ac→Kt Ac}{v:Aj→Aj→V}{d:Aj→Aj→D}(h:OpR X f (rI0 v))(hv:∀ P α i j,Rep X.K P α (d i j) (v i j)):OpD X f (i2 (fun _ _=>true) d):=
 OpD.of h fun H P α S x y a b Q r p1 p2 af=>by
  obtain⟨i,j,rfl,rfl,_,ok⟩:=B6 af;exact⟨i,j,wP p1,wP p2,xr ok r (hv P α i j)⟩
def xG:G2:=i2 (fun _ _=>true) fun i j=>.int (i-j)
theorem RG:OpD X (Ex .Sub) xG:=lI RO fun P α i j=>by simp only[Rep]
def cA (i j:Aj):Aq:=decide (-(2 ^ 64)<i∧i<2 ^ 64)||decide (-(2 ^ 64)<j∧j<2 ^ 64)
theorem TQ:OpD X (Ex .Mult) (i2 cA fun i j=>.int (i*j)):=lJ RM (fun i j h=>by
 unfold cA at h;rw[Lc] at h;rcases h with h|h
 ·exact .inl (Ct h)
 ·exact .inr (Ct h)) fun P α i j=>by simp only[Rep]
def LO (i j:Aj):Aq:=decide (0<j∧j<1073741824)
def vQ:G2:=i2 LO fun i j=>.int (i/j)
theorem RC:OpD X (Ex .FloorDiv) vQ:=lJ TX (fun i j h=>(Ct h:0<j∧j<1073741824)) fun P α i j=>by simp only[Rep]
def u8:G2:=i2 (fun _ j=>decide (0<j)) fun i j=>.int (i % j)
theorem RE:OpD X (Ex .Mod) u8:=lJ RL (fun i j h=>Ct h) fun P α i j=>by simp only[Rep]
def LP (i j:Aj):Aq:=decide (0≤j∧j≤1000000∧i.natAbs<2 ^ 64)
def jF:G2:=i2 LP fun i j=>.int (i ^ j.toNat)
theorem RF:OpD X (Ex .Pow) jF:=lJ RN (fun i j h=>(Ct h:0≤j∧j≤1000000∧i.natAbs<2 ^ 64)) fun P α i j=>by simp only[Rep]
def gLt:G2:=i2 (fun _ _=>true) fun i j=>.bl (decide (i<j))
def gLe:G2:=i2 (fun _ _=>true) fun i j=>.bl (decide (i≤j))
def gGt:G2:=i2 (fun _ _=>true) fun i j=>.bl (decide (j<i))
def gGe:G2:=i2 (fun _ _=>true) fun i j=>.bl (decide (j≤i))
theorem BH:OpD X (Dt .Lt) gLt:=lI CW fun P α i j=>by simp only[Rep]
theorem CT:OpD X (Dt .LtE) gLe:=lI CV fun P α i j=>by simp only[Rep]
theorem CQ:OpD X (Dt .GtE) gGe:=lI CU fun P α i j=>by simp only[Rep]
def vR:D→Sto→Res D:=fun a S=>match a with
 |.int i=>.ok (.int (-i)) S
 |_=>.bad
theorem H8:UnD X (Xh .USub) vR:=by
 intro pins σ H s P α S v vv a Q I r rv p af;cases a with
 |int i=>exact H9 pins s σ H v vv Q I rv ⟨i,wP p,xr af r (by simp only[Rep])⟩
 |_=>exact An af
def gIs:G2:=fun a b S=>match b with
 |.non=>match a with
  |.non=>.ok (.bl true) S
  |_=>.ok (.bl false) S
 |_=>.bad
theorem TN {P:Hp}{α : Ab Af}{d:D}{v:V}(r:Rep X.K P α d v):decide (v=.non)=(match d with|.non=>true|_=>false):=by
 cases d <;> simp only[Rep] at r
 case non=>subst r;rfl
 case bl=>subst r;rfl
 case int=>subst r;rfl
 case str=>subst r;rfl
 case ty=>subst r;rfl
 case obj=>obtain⟨rfl,_⟩:=r;rfl
 case tup=>obtain⟨a,vs,rfl,_⟩:=r;rfl
 case lst=>obtain⟨a,vs,rfl,_⟩:=r;rfl
 case dct0=>obtain⟨a,rfl,_⟩:=r;rfl
 case loc=>obtain⟨a,rfl,_⟩:=r;rfl
 case exn=>obtain⟨a,rfl,_⟩:=r;rfl
 case fd=>obtain⟨a,o,vs,rfl,_⟩:=r;rfl
theorem CS:OpD X (Dt .Is) gIs:=OpD.of RK fun H P α S x y a b Q r p1 p2 af=>by
 cases b with
 |non =>
  simp only[Rep] at p2;refine⟨p2,?_⟩;rw[TN p1];cases a <;> exact xr af r (by simp only[Rep])
 |_=>exact An af
def qX:G2:=fun a b S=>match a,b with
 |.int i,.int j=>.ok (.int (i+j)) S
 |.str x,.str y=>if x.length+y.length≤lim then .ok (.str (x++y)) S else .bad
 |.tup xs,.tup ys=>if xs.length+ys.length≤lim then .ok (.tup (xs++ys)) S else .bad
 |.lst xs,.lst ys=>if xs.length+ys.length≤lim then .ok (.lst (xs++ys)) S else .bad
 |_,_=>.bad
theorem j6 {pins:Ab (Af × Cq)}{σ : _L.St}{H P:Hp}{α : Ab Af}{S:Sto}{s:Ag}{xs:Ab D}{v:V}(I:Inv X pins σ H s)(r:Rel X.K H P α S)(p:Rep X.K P α (.tup xs) v) :
  ∃ a vs its,v=.ref a∧SqT X.K P a vs∧qF X.K P α xs vs∧qL vs its∧Ow s.heap a its.toArray∧xs.length=its.length∧xs.length≤lim:=by
 simp only[Rep] at p;obtain⟨a,vs,rfl,q,t⟩:=p;obtain⟨its,rv,p1,z⟩:=I.tuple (wQ r.sub q);exact⟨a,vs,its,rfl,q,t,rv,p1,by rw[t.length,rv.length],by rw[t.length,xN];exact z⟩
theorem uR {pins:Ab (Af × Cq)}{σ : _L.St}{H P:Hp}{α : Ab Af}{S:Sto}{s:Ag}{xs:Ab D}{v:V}(I:Inv X pins σ H s)(r:Rel X.K H P α S)(p:Rep X.K P α (.lst xs) v) :
  ∃ a vs its n,v=.ref a∧SqX X.K P a vs∧qF X.K P α xs vs∧qL vs its∧s.heap.get? a=Aa { cls:=.type "list",data:=.seq its.toArray n } ∧ xs.length=its.length∧xs.length≤lim:=by
 simp only[Rep] at p;obtain⟨a,vs,rfl,q,t⟩:=p;have:∃ its n,qL vs its∧s.heap.get? a=Aa { cls:=.type "list",data:=.seq its.toArray n } ∧ vs.length≤sizeLine:=by
  rcases q with q|⟨its,n,e,z,rv⟩
  ·obtain⟨z,its,n,rv,e⟩:=(Z5 r.sub q).ok I.hok
   exact⟨its,n,rv,e,z⟩
  ·exact⟨its,n,rv,I.kIn _ _ e,z⟩
 obtain⟨its,n,rv,e,z⟩:=this;exact⟨a,vs,its,n,rfl,q,t,rv,e,by rw[t.length,rv.length],by rw[t.length,xN];exact z⟩
theorem aF {pins:Ab (Af × Cq)}{σ : _L.St}{H P:Hp}{α : Ab Af}{S:Sto}{s:Ag}{xs:Ab D}{vs:Ab V}{its:Ab Ac}{Q:VK}(I:Inv X pins σ H s)(r:Rel X.K H P α S)(t:qF X.K P α xs vs)(rv:qL vs its)(hz:xs.length≤lim)
  (ok:OkV X P α Q (.tup xs) S):EP X pins σ Q (.ref s.heap.objs.size) { s with heap:=s.heap.push { cls:=.type "tuple",data:=.seq its.toArray } }:=by
 refine⟨.ref s.heap.objs.size,_,I.laid (t':=s.toks) (o:=.tup vs) (fun b ob q=>Ah _ q) (As _) ⟨by rw[← t.length,← xN];exact hz,its,rv,Wi _ _⟩,rfl,bY r (I.hok.fresh (As _)) t ok⟩
theorem aE {pins:Ab (Af × Cq)}{σ : _L.St}{H P:Hp}{α : Ab Af}{S:Sto}{s:Ag}{xs:Ab D}{vs:Ab V}{its:Ab Ac}{Q:VK}(I:Inv X pins σ H s)(r:Rel X.K H P α S)(t:qF X.K P α xs vs)(rv:qL vs its)(hz:xs.length≤lim)
  (ok:OkV X P α Q (.lst xs) S):EP X pins σ Q (.ref s.heap.objs.size) { s with heap:=s.heap.push { cls:=.type "list",data:=.seq its.toArray } }:=by
 refine⟨.ref s.heap.objs.size,_,I.laid (t':=s.toks) (o:=.lst vs) (fun b ob q=>Ah _ q) (As _) ⟨by rw[← t.length,← xN];exact hz,its,0,rv,Be _ rfl⟩,rfl,u9 r (I.hok.fresh (As _)) t ok⟩
theorem LJ {pins:Ab (Af × Cq)}{σ : _L.St}{H P:Hp}{α : Ab Af}{S:Sto}{s:Ag}{xs ys:Ab D}{v u:V}{vv uu:Ac}{Q:VK}(I:Inv X pins σ H s)(r:Rel X.K H P α S)(rv:qK v vv)(ru:qK u uu)(pa:Rep X.K P α (.tup xs) v)(pb:Rep X.K P α (.tup ys) u)(hl:xs.length+ys.length≤lim)(af:OkV X P α Q (.tup (xs++ys)) S) :
  Ao (Au X.prog X.w) X.A (Ex .Add vv uu) (EP X pins σ Q) X.xe s:=by
 obtain⟨a,vs,its,rfl,q1,t1,rv1,h1,l1,_⟩:=j6 I r pa;obtain⟨b,ws,its2,rfl,q2,t2,rv2,h2,l2,_⟩:=j6 I r pb;cases rv;cases ru;by_cases hx:its=[]
 ·obtain⟨⟨cls,dd,data,sl⟩,ho,hc,n,hd⟩:=id h1
  obtain⟨⟨cls2,dd2,data2,sl2⟩,ho2,hc2,n2,hd2⟩:=id h2;simp only at hc hd hc2 hd2;subst hc hd hc2 hd2;have hxs:xs=[]:=Ls.mp (by rw[l1,hx];rfl)
  subst hxs;exact Vu ⟨_,ho,rfl⟩ ⟨_,ho2,rfl⟩ Re Uk Mm Lq (Li _ _) (tuple_addW0 a b its.toArray its2.toArray n n2 dd dd2 sl sl2 (by simp[hx]))
   ⟨ho,ho2,⟨.ref b,H,I,rfl,xr af r pb⟩⟩
 ·refine _H.cat_tup h1 h2 hx (fun z=>⟨.ref a,H,I,rfl,xr af r ?_⟩) (fun z=>?_) (by rw[← l1,← l2,← xN];exact hl)
  ·have hys:ys=[]:=Ls.mp (by rw[l2,z];rfl)
   rw[hys,Gd];exact pa
  ·exact aF I r (t1.append t2) (rv1.append rv2) (by rw[Ca];exact hl) af
theorem LI {pins:Ab (Af × Cq)}{σ : _L.St}{H P:Hp}{α : Ab Af}{S:Sto}{s:Ag}{xs ys:Ab D}{v u:V}{vv uu:Ac}{Q:VK}(I:Inv X pins σ H s)(r:Rel X.K H P α S)(rv:qK v vv)(ru:qK u uu)(pa:Rep X.K P α (.lst xs) v)(pb:Rep X.K P α (.lst ys) u)(hl:xs.length+ys.length≤lim)(af:OkV X P α Q (.lst (xs++ys)) S) :
  Ao (Au X.prog X.w) X.A (Ex .Add vv uu) (EP X pins σ Q) X.xe s:=by
 obtain⟨a,vs,its,n,rfl,q1,t1,rv1,h1,l1,_⟩:=uR I r pa;obtain⟨b,ws,its2,n2,rfl,q2,t2,rv2,h2,l2,_⟩:=uR I r pb;cases rv;cases ru;refine PySem.P.add_list h1 h2 ?_ (by rw[Bb,Bb,← l1,← l2,← xN];exact hl)
 rw[List.append_toArray];exact aE I r (t1.append t2) (rv1.append rv2) (by rw[Ca];exact hl) af
inductive AddV (a b:D)(S:Sto):Prop
 |bad (e:qX a b S=.bad)
 |int (i j:Aj) (ea:a=.int i) (eb:b=.int j)
 |str (x y:Ax) (ea:a=.str x) (eb:b=.str y)
 |tup (x y:Ab D) (ea:a=.tup x) (eb:b=.tup y)
 |lst (x y:Ab D) (ea:a=.lst x) (eb:b=.lst y)
theorem AY (a b:D)(S:Sto):AddV a b S:=by
 cases a with
 |int i=>cases b with
  |int j=>exact .int i j rfl rfl
  |_=>exact .bad rfl
 |str i=>cases b with
  |str j=>exact .str i j rfl rfl
  |_=>exact .bad rfl
 |tup i=>cases b with
  |tup j=>exact .tup i j rfl rfl
  |_=>exact .bad rfl
 |lst i=>cases b with
  |lst j=>exact .lst i j rfl rfl
  |_=>exact .bad rfl
 |_=>exact .bad rfl
theorem RB:OpD X (Ex .Add) qX:=by
 intro pins σ H s P α S v u vv uu a b Q I r rv ru pa pb af;cases AY a b S with
 |bad e=>rw[e] at af;exact An af
 |int i j ea eb =>
  subst ea eb;exact RJ pins s σ H v u vv uu Q I rv ru ⟨i,j,wP pa,wP pb,xr af r (by simp only[Rep])⟩
 |str x y ea eb =>
  subst ea eb;obtain⟨hl,af⟩:=k7 (X:=X) af;simp only[Rep] at pa pb;exact XL pins s σ H v u vv uu Q I rv ru ⟨x,y,pa,pb,by rw[← xN];exact hl,xr af r (by simp only[Rep])⟩
 |tup xs ys ea eb =>
  subst ea eb;obtain⟨hl,af⟩:=k7 (X:=X) af;exact LJ I r rv ru pa pb hl af
 |lst xs ys ea eb =>
  subst ea eb;obtain⟨hl,af⟩:=k7 (X:=X) af;exact LI I r rv ru pa pb hl af
def gIx:G2:=fun a b S=>match b with
 |.int k=>match a with
  |.tup xs=>vS (atI xs k) S
  |.lst xs=>vS (atI xs k) S
  |.loc i=>match S[i]? with
   |some (.lst xs)=>vS (atI xs k) S
   |_=>.bad
  |_=>.bad
 |_=>.bad
theorem d8 {P:Hp}{α : Ab Af}{ds:Ab D}{vs:Ab V}{k:Aj}{d:D}(rp:qF X.K P α ds vs)(h:atI ds k=Aa d):∃ v,atI vs k=Aa v∧Rep X.K P α d v:=by
 unfold atI at h ⊢;rw[← rp.length];cases q:ixN ds.length k with
 |none=>rw[q] at h;cases h
 |some j =>
  rw[q] at h;obtain⟨v,h1,h2⟩:=rp.get (show ds[j]? = Aa d from h)
  exact⟨v,h1,h2⟩
theorem SK:IxD X gIx:=by
 intro value slice pins σ H s P α S v u vv uu a b Q I r rv ru pa pb af hs;cases b with
 |int k =>
  have hk:=wP pb;cases a with
  |tup xs =>
   obtain⟨d,e,ok⟩:=jK (X:=X) af;simp only[Rep] at pa;obtain⟨p,vs,rfl,q,t⟩:=pa;obtain⟨w,e1,rw'⟩:=d8 t e;exact k8 value slice pins s σ H _ u vv uu Q I rv ru ⟨p,vs,k,w,rfl,hk,wQ r.sub q,e1,xr ok r rw'⟩ hs
  |lst xs =>
   obtain⟨d,e,ok⟩:=jK (X:=X) af;simp only[Rep] at pa;obtain⟨p,vs,rfl,q,t⟩:=pa;obtain⟨w,e1,rw'⟩:=d8 t e;exact Q2 value slice pins s σ H _ u vv uu Q I rv ru ⟨p,vs,k,w,rfl,hk,(wB r.sub q).l,e1,xr ok r rw'⟩ hs
  |loc i =>
   obtain⟨xs,hS,af⟩:=bW (X:=X) (f:=fun xs=>vS (atI xs k) S) af;obtain⟨d,e,ok⟩:=jK (X:=X) af;simp only[Rep] at pa;obtain⟨p,rfl,q⟩:=pa;obtain⟨vs,z,t⟩:=r.at' i p _ q hS;obtain⟨w,e1,rw'⟩:=d8 t e;exact Q2 value slice pins s σ H _ u vv uu Q I rv ru ⟨p,vs,k,w,rfl,hk,.of z,e1,xr ok r rw'⟩ hs
  |_=>exact An af
 |_=>exact An af
def dN:G3:=fun o i d S=>match o,i with
 |.loc n,.int k=>match S[n]? with
  |some (.lst xs)=>match ixN xs.length k with
   |some j=>.ok () (S.set n (.lst (xs.set j d)))
   |none=>.bad
  |_=>.bad
 |_,_=>.bad
theorem AE:hJ X (eY X dN):=by
 intro pins s σ H o i v ov iv u Q I ro ri rv h;obtain⟨P,α,S,a,b,d,r,pa,pb,pd,af⟩:=h;cases a with
 |loc n =>
  cases b with
  |int k =>
   obtain⟨xs,hS,af⟩:=bW (X:=X) (f:=fun xs=>match ixN xs.length k with|some j=>.ok () (S.set n (.lst (xs.set j d)))|none=>.bad) af
   cases hj:ixN xs.length k with
   |none=>rw[hj] at af;exact An af
   |some j =>
    rw[hj] at af;simp only[Rep] at pa;obtain⟨p,rfl,q⟩:=pa;obtain⟨vs,z,t⟩:=r.at' n p _ q hS;refine GW pins s σ H _ i v ov iv u Q I ro ri rv ⟨p,vs,k,j,rfl,wP pb,z,by rw[← t.length];exact hj,?_⟩
    refine af _ P α (r.put (m':=.lst (xs.set j d)) q hS (by intro z;cases z) ⟨vs.set j v,zD,t.set pd j⟩) (qH.refl _) (Bp _)
  |_=>exact An af
 |_=>exact An af
def SV:D→Sto→Al Ai
 |.tup xs,_=>Aa xs.length
 |.lst xs,_=>Aa xs.length
 |.str x,_=>if x.length≤lim then Aa x.length else none
 |.dct0,_=>Aa 0
 |.loc i,S=>match S[i]? with
  |some (.lst xs)=>Aa xs.length
  |_=>none
 |_,_=>none
def cT:DF:=fun ds S=>match ds with
 |[d]=>match SV d S with
  |some n=>.ok (.int n) S
  |none=>.bad
 |_=>.bad
end
section
variable {X:Cx}
theorem vL {P:Hp}{α : Ab Af}{d:D}{vs:Ab V}{us:Ab Ac}(rp:qF X.K P α [d] vs)(rv:qL vs us):∃ v u,vs=[v]∧us=[u]∧Rep X.K P α d v∧qK v u:=by
 obtain⟨v,ws,rfl,p,t⟩:=rp.cons_inv;have:=t.nil_inv;subst this;obtain⟨u,rfl,q⟩:=pK rv;exact⟨v,u,rfl,rfl,p,q⟩
theorem tE {P:Hp}{α : Ab Af}{d e:D}{vs:Ab V}{us:Ab Ac}(rp:qF X.K P α [d,e] vs)(rv:qL vs us):∃ v w u x,vs=[v,w]∧us=[u,x]∧Rep X.K P α d v∧Rep X.K P α e w∧qK v u∧qK w x:=by
 obtain⟨v,ws,rfl,p,t⟩:=rp.cons_inv;obtain⟨w,ws,rfl,p',t⟩:=t.cons_inv;have:=t.nil_inv;subst this;obtain⟨u,x,rfl,q,q'⟩:=W2 rv;exact⟨v,w,u,x,rfl,rfl,p,p',q,q'⟩
def XG (d:D)(S:Sto):Al Ai:=match d with
 |.dct0=>none
 |_=>SV d S
theorem SW {H P:Hp}{α : Ab Af}{S:Sto}{d:D}{v:V}{n:Ai}(r:Rel X.K H P α S)(p:Rep X.K P α d v)(hn:XG d S=Aa n):LD X.K v H n:=by
 cases d with
 |str x =>
  cases (show v=.str x from p)
  obtain⟨hl,rfl⟩:=bP hn;exact⟨by rw[← xN];exact hl,rfl⟩
 |tup xs =>
  simp only[Rep] at p;obtain⟨a,ws,rfl,sq,t⟩:=p;cases hn;exact .inr ⟨ws,wQ r.sub sq,t.length⟩
 |lst xs =>
  simp only[Rep] at p;obtain⟨a,ws,rfl,sq,t⟩:=p;cases hn;exact .inl ⟨ws,(wB r.sub sq).l,t.length⟩
 |loc i =>
  simp only[Rep] at p;obtain⟨a,rfl,e⟩:=p;obtain⟨xs,hS,hn⟩:=SX (f:=fun xs=>Aa xs.length) hn;cases hn;obtain⟨ws,z,t⟩:=r.at' i a _ e hS;exact .inl ⟨ws,.of z,t.length⟩
 |_=>exact nn hn
inductive LenD1 (ds:Ab D)(S:Sto)(r:Res D):Prop
 |bad (e:r=.bad)
 |of (d:D) (n:Ai) (ed:ds=[d]) (hn:XG d S=Aa n) (e:r=.ok (.int n) S)
theorem CK (ds:Ab D)(S:Sto):LenD1 ds S (match ds with|[.dct0]=>.bad|_=>cT ds S):=by
 cases ds with
 |nil=>exact .bad rfl
 |cons d ds =>
  cases ds with
  |cons _ _=>cases d <;> exact .bad rfl
  |nil =>
   have z:(match [d] with|[D.dct0]=>Res.bad|_=>cT [d] S)=(match XG d S with|some n=>Res.ok (D.int n) S|none=>.bad):=by cases d <;> rfl
   rw[z];cases hn:XG d S with
   |none=>exact .bad rfl
   |some n=>exact .of d n rfl hn rfl
theorem LU (hD:Nr):yU X (.builtin "len") (fun ds S=>match ds with|[.dct0]=>.bad|_=>cT ds S):=by
 intro pins σ H s P α S vs us ds Q I r rv rp af;have af1:qI X P α (match ds with|[D.dct0]=>Res.bad|_=>cT ds S) (OkV X P α Q):=af
 clear af;cases CK ds S with
 |bad e=>rw[e] at af1;exact An af1
 |of d n ed hn e =>
  rw[e] at af1;subst ed;obtain⟨v,u,rfl,rfl,p,q⟩:=vL rp rv;exact J7 pins s σ H _ _ Q I rv ⟨v,n,rfl,SW r p hn,xr af1 r (by simp only[Rep])⟩
def tyD:D→Sto→Al Ep
 |.non,_=>Aa "NoneType"
 |.bl _,_=>Aa "bool"
 |.int _,_=>Aa "int"
 |.str _,_=>Aa "str"
 |.tup _,_=>Aa "tuple"
 |.lst _,_=>Aa "list"
 |.dct0,_=>Aa "dict"
 |.loc i,S=>match S[i]? with
  |some (.lst _)=>Aa "list"
  |some (.dct _)=>Aa "dict"
  |_=>none
 |_,_=>none
def w8 (a b:Ep):Aq:=a == b||(a == "bool" && b == "int")
def jI (b:Ep):Aq:=b == "int" || b == "bool" || b == "tuple" || b == "list" || b == "str" || b == "dict"
def SS (a b:Ep):Al Aq:=if (Hr a == Hr b)=true then Aa true else if PySem.W.kitMeta b=true then (fastBuiltinMro a).map (·.contains (.type b)) else none
def tyL:Ab Ep:=["NoneType","bool","int","str","tuple","list","dict"]
def okL:Ab Ep:=["int","bool","tuple","list","str","dict"]
theorem T4:(tyL.all fun a=>okL.all fun b=>decide (SS a b=Aa (w8 a b)))=true:=by decide +kernel
theorem RH {b:Ep}(hb:jI b=true):b∈okL:=by simpa [jI,okL,or_assoc] using hb
theorem T6 {K:Ak}{a b:Ep}(ha:a∈tyL)(hb:jI b=true):Kl K (.type a) (.type b)=Aa (w8 a b):=
 Ct (p:=SS a b=Aa (w8 a b)) (Az.mp (Az.mp T4 a ha) b (RH hb))
def zL:DF:=fun ds S=>match ds with
 |[d,.ty b]=>if jI b then match tyD d S with
   |some a=>.ok (.bl (w8 a b)) S
   |none=>.bad
  else .bad
 |_=>.bad
inductive TyV (X:Cx)(H:Hp)(v:V)(a:Ep):Prop
 |of (t:TyOf X.K H v (.type a))
 |tup (p:Af) (vs:Ab V) (e:v=.ref p) (q:SqT X.K H p vs) (ea:a = "tuple")
 |lst (p:Af) (vs:Ab V) (e:v=.ref p) (q:SqL X.K H p vs) (ea:a = "list")
theorem H0 {d:D}{S:Sto}{a:Ep}(h:tyD d S=Aa a):a∈tyL:=by
 cases d with
 |non=>cases h;exact .head _
 |bl b=>cases h;exact .tail _ (.head _)
 |int i=>cases h;exact .tail _ (.tail _ (.head _))
 |str x=>cases h;exact .tail _ (.tail _ (.tail _ (.head _)))
 |tup xs=>cases h;exact .tail _ (.tail _ (.tail _ (.tail _ (.head _))))
 |lst xs=>cases h;exact .tail _ (.tail _ (.tail _ (.tail _ (.tail _ (.head _)))))
 |dct0=>cases h;exact .tail _ (.tail _ (.tail _ (.tail _ (.tail _ (.tail _ (.head _))))))
 |loc i =>
  rcases sD (f:=fun _=>Aa "list") (g:=fun _=>Aa "dict") h with⟨_,_,h⟩|⟨_,_,h⟩
  ·cases h;exact .tail _ (.tail _ (.tail _ (.tail _ (.tail _ (.head _)))))
  ·cases h;exact .tail _ (.tail _ (.tail _ (.tail _ (.tail _ (.tail _ (.head _))))))
 |_=>exact nn h
theorem AN {H P:Hp}{α : Ab Af}{S:Sto}{d:D}{v:V}{a:Ep}(r:Rel X.K H P α S)(p:Rep X.K P α d v)(h:tyD d S=Aa a):TyV X H v a:=by
 cases d with
 |non=>cases h;cases (show v=.non from p);exact .of .non
 |bl b=>cases h;cases (show v=.bl b from p);exact .of (.bl b)
 |int i=>cases h;cases (show v=.int i from p);exact .of (.int i)
 |str x=>cases h;cases (show v=.str x from p);exact .of (.str x)
 |tup xs =>
  cases h;simp only[Rep] at p;obtain⟨a,vs,e,q,t⟩:=p;exact .tup a vs e (wQ r.sub q) rfl
 |lst xs =>
  cases h;simp only[Rep] at p;obtain⟨a,vs,e,q,t⟩:=p;exact .lst a vs e (wB r.sub q).l rfl
 |dct0 =>
  cases h;simp only[Rep] at p;obtain⟨a,rfl,q⟩:=p;exact .of (.dK (r.sub _ _ q))
 |loc i =>
  simp only[Rep] at p;obtain⟨a,rfl,q⟩:=p;rcases sD (f:=fun _=>Aa "list") (g:=fun _=>Aa "dict") h with⟨xs,hS,h⟩|⟨kvs,hS,h⟩
  ·cases h
   obtain⟨vs,z,t⟩:=r.at' i a _ q hS;exact .of (.lst z)
  ·cases h
   obtain⟨vs,z,t⟩:=r.at' i a _ q hS;exact .of (.dK z)
 |_=>exact nn h
inductive IsiV (ds:Ab D)(S:Sto):Prop
 |bad (e:zL ds S=.bad)
 |of (d:D) (b a:Ep) (ed:ds=[d,.ty b]) (hb:jI b=true) (ha:tyD d S=Aa a) (e:zL ds S=.ok (.bl (w8 a b)) S)
theorem IN (ds:Ab D)(S:Sto):IsiV ds S:=by
 cases ds with
 |nil=>exact .bad rfl
 |cons d ds =>
  cases ds with
  |nil=>exact .bad rfl
  |cons e ds =>
   cases ds with
   |cons _ _=>cases e <;> exact .bad rfl
   |nil =>
    cases e with
    |ty b =>
     have z:zL [d,.ty b] S=if jI b then (match tyD d S with|some a=>.ok (.bl (w8 a b)) S|none=>.bad) else .bad:=rfl
     by_cases hb:jI b=true
     ·rw[Bl hb] at z
      cases ha:tyD d S with
      |none=>rw[ha] at z;exact .bad z
      |some a=>rw[ha] at z;exact .of d b a rfl hb ha z
     ·rw[Bk hb] at z
      exact .bad z
    |_=>exact .bad rfl
theorem WJ:yU X (.builtin "isinstance") zL:=by
 intro pins σ H s P α S vs us ds Q I r rv rp af;cases IN ds S with
 |bad e=>rw[e] at af;exact An af
 |of d b a ed hb ha e =>
  subst ed;rw[e] at af;obtain⟨v,w,u,x,rfl,rfl,p,p',q,q'⟩:=tE rp rv;simp only[Rep] at p';subst p';cases (show x=Hr b from q')
  have kit:=T6 (K:=X.K) (H0 ha) hb;have fin:∀ tk,EP X pins σ Q (.bool (w8 a b)) { s with toks:=tk }:=fun tk=>⟨.bl _,H,I.tok tk,rfl,xr af r (by simp only[Rep])⟩
  cases AN r p ha with
  |of ht=>exact YD I q ht kit fin
  |tup p' ws e sq ea =>
   subst e ea;cases (show u=Dc p' from q)
   obtain⟨its,rv',⟨o,h1,h2,_⟩,_⟩:=I.tuple sq;exact El Vi I.kIn ⟨o,h1,h2⟩ kit (fun z=>nomatch z) fin
  |lst p' ws e sq ea =>
   subst e ea;cases (show u=Dc p' from q)
   obtain⟨its,rv',⟨o,_,h1,h2,_⟩,_⟩:=I.list sq;exact El Px I.kIn ⟨o,h1,h2⟩ kit (fun z=>nomatch z) fin
def xW:Ab D→Al (Ab Aq)
 |[]=>Aa []
 |.bl b::r=>(xW r).map (b::·)
 |_=>none
theorem uP {P:Hp}{α : Ab Af}:∀ {ds:Ab D} {bs:Ab Aq} {vs:Ab V} {us:Ab Ac},xW ds=Aa bs→qF X.K P α ds vs→qL vs us→us=bs.map Fv
 |[],bs,vs,us,h,rp,rv=>by
  cases h;have:=rp.nil_inv;subst this;cases rv;rfl
 |d::ds,bs,vs,us,h,rp,rv=>by
  cases d with
  |bl b =>
   obtain⟨bs',q,rfl⟩:=Dm.mp (show (xW ds).map (b::·)=Aa bs from h)
   obtain⟨w,ws,rfl,p,t⟩:=rp.cons_inv;simp only[Rep] at p;subst p;cases rv with
   |cons q1 q2 =>
    cases (show _=Fv b from q1)
    rw[uP q t q2];rfl
  |_=>exact nn h
def jB (any:Aq):DF:=fun ds S=>match ds with
 |[d]=>match (xM d).bind xW with
  |some bs=>.ok (.bl (if any then bs.any id else bs.all id)) S
  |none=>.bad
 |_=>.bad
theorem rS (bs:Ab Aq):((Do bs.length).all fun i=>bs.getD i false)=bs.all id:=by
 induction bs with
 |nil=>rfl
 |cons b bs ih =>
  rw[Cd,Mq,Nd,Jn,Nd,← ih];rfl
theorem rT (bs:Ab Aq):((Do bs.length).any fun i=>bs.getD i false)=bs.any id:=by
 induction bs with
 |nil=>rfl
 |cons b bs ih =>
  rw[Cd,Mq,Jx,List.any_map,Jx,← ih];rfl
theorem YF {pins:Ab (Af × Cq)}{σ : _L.St}{H:Hp}{s:Ag}{o:Cq}{h':Bs}{tk:Ai}(I:Inv X pins σ H s)(k:∀ b ob,b ∉ [s.heap.objs.size]→(s.heap.push o).get? b=Aa ob→h'.get? b=Aa ob):Inv X pins σ H { s with heap:=h',toks:=tk }:=
 I.kept fun b u e=>k b u (by simp;exact Cy (Ba e)) (Ah _ e)
theorem pI {bs:Ab Aq}{its:Ab Ac}(hi:its=bs.map Fv){A:Bz}:TruthOf X.prog X.w A (fun i v=>its.toArray[i]? = Aa v) (fun i=>bs.getD i false):=fun i v s' Q' E' hv hQ=>by
 subst hi;have hv':(bs.map Fv)[i]? = Aa v:=by simpa using hv
 rw[Dv] at hv';cases e:bs[i]? with
 |none=>rw[e] at hv';exact nn hv'
 |some b =>
  rw[e] at hv';cases Cw hv';have:bs.getD i false=b:=by simp[Jo,e]
  have hQ':Q' (bs.getD i false) s':=hQ;rw[this] at hQ';exact Wj hQ'
theorem MJ {any:Aq}{ds:Ab D}{S:Sto}{P:Hp}{α : Ab Af}{Ok:D→Sto→Prop}(h:qI X P α (jB any ds S) Ok):∃ d xs bs,ds=[d]∧ItV d xs∧xW xs=Aa bs∧Ok (.bl (if any then bs.any id else bs.all id)) S:=by
 obtain⟨d,rfl,h1⟩:=aW (X:=X) (β:=D) (g:=fun d=>match (xM d).bind xW with|some bs=>.ok (D.bl (if any then bs.any id else bs.all id)) S|none=>.bad) h
 cases hb:(xM d).bind xW with
 |none=>rw[hb] at h1;exact An h1
 |some bs =>
  rw[hb] at h1;obtain⟨xs,hx,hbs⟩:=DL.mp hb;exact⟨d,xs,bs,rfl,itV hx,hbs,h1⟩
theorem LR (any:Aq)(hc:X.calm=true):yU X (.builtin (if any then "any" else "all")) (jB any):=by
 intro pins σ H s P α S vs us ds Q I r rv rp af;obtain⟨d,xs,bs,ed,hd,hbs,ok⟩:=MJ af;clear af;subst ed;obtain⟨v,u,rfl,rfl,p,q⟩:=vL rp rv;clear rp;have fin:∀ {o:Cq} (h':Bs) (tk:Ai),(∀ b ob,b ∉ [s.heap.objs.size]→(s.heap.push o).get? b=Aa ob→h'.get? b=Aa ob)→EP X pins σ Q (.bool (if any then bs.any id else bs.all id)) { s with heap:=h',toks:=tk }:=
  fun {o} h' tk k=>⟨.bl _,H,YF I k,rfl,xr ok r (by simp only[Rep])⟩
 clear rv ok;have hh:X.A.in1.handled=none:=I.ok.hd hc;cases hd with
 |tup ed =>
  subst ed;obtain⟨a,ws,its,rfl,sq,t,rvi,ht,hl,_⟩:=j6 I r p;cases (show u=Dc a from q)
  have hi:=uP hbs t rvi;have hlen:its.toArray.size=bs.length:=by rw[hi];simp
  have hne:a≠s.heap.objs.size:=by obtain⟨o,e,_⟩:=ht;exact Cy (Ba e)
  have W:=Walks.tuple (prog:=X.prog) (w:=X.w) hh s.heap.objs.size a hne its.toArray;have hT:∀ o,(s.heap.push o).IsTuple a its.toArray:=fun o=>by obtain⟨o,e,c⟩:=ht;exact⟨o,Ah _ e,c⟩
  have ht':s.heap.IsTuple a its.toArray:=ht;cases any with
  |false =>
   refine call_all_walk (Gu ht' ⟨s.heap.objs.size,_,_,_,_,_,_,rfl,W,⟨⟨_,Be _ rfl,rfl,rfl⟩,hT _⟩,pI hi,fun h' tk k=>?_⟩);rw[hlen,rS];exact fin h' tk k
  |true =>
   refine call_any_walk (Gu ht' ⟨s.heap.objs.size,_,_,_,_,_,_,rfl,W,⟨⟨_,Be _ rfl,rfl,rfl⟩,hT _⟩,pI hi,fun h' tk k=>?_⟩);rw[hlen,rT];exact fin h' tk k
 |lst ed =>
  subst ed;obtain⟨a,ws,its,n,rfl,sq,t,rvi,ht,hl,_⟩:=uR I r p;cases (show u=Dc a from q)
  have hL:s.heap.IsList a its.toArray:=⟨_,ht,rfl,n,rfl⟩;have hi:=uP hbs t rvi;have hlen:its.toArray.size=bs.length:=by rw[hi];simp
  have hne:a≠s.heap.objs.size:=Cy (Ba ht);have W:=Walks.list (prog:=X.prog) (w:=X.w) hh s.heap.objs.size a hne its.toArray;have hL':∀ o,(s.heap.push o).IsList a its.toArray:=fun o=>⟨_,Ah _ ht,rfl,n,rfl⟩;cases any with
  |false =>
   refine call_all_walk (Gk hL ⟨s.heap.objs.size,_,_,_,_,_,_,rfl,W,⟨⟨_,Be _ rfl,rfl,rfl⟩,hL' _⟩,pI hi,fun h' tk k=>?_⟩);rw[hlen,rS];exact fin h' tk k
  |true =>
   refine call_any_walk (Gk hL ⟨s.heap.objs.size,_,_,_,_,_,_,rfl,W,⟨⟨_,Be _ rfl,rfl,rfl⟩,hL' _⟩,pI hi,fun h' tk k=>?_⟩);rw[hlen,rT];exact fin h' tk k
def cS:DF:=fun ds S=>match ds with
 |[.int i]=>.ok (.int i) S
 |[.bl b]=>.ok (.int (b01 b)) S
 |_=>.bad
inductive IntV (ds:Ab D)(S:Sto):Prop
 |bad (e:cS ds S=.bad)
 |int (i:Aj) (e:ds=[.int i])
 |bl (b:Aq) (e:ds=[.bl b])
theorem IK (ds:Ab D)(S:Sto):IntV ds S:=by
 cases ds with
 |nil=>exact .bad rfl
 |cons d ds =>
  cases ds with
  |cons _ _=>cases d <;> exact .bad rfl
  |nil =>
   cases d with
   |int i=>exact .int i rfl
   |bl b=>exact .bl b rfl
   |_=>exact .bad rfl
theorem LS:yU X (.type "int") cS:=by
 intro pins σ H s P α S vs us ds Q I r rv rp af;cases IK ds S with
 |bad e=>rw[e] at af;exact An af
 |int i e =>
  subst e;obtain⟨v,u,rfl,rfl,p,q⟩:=vL rp rv;exact rC pins s σ H _ _ Q I rv (.inl ⟨_,by rw[wP p],xr af r (by simp only[Rep])⟩)
 |bl b e =>
  subst e;obtain⟨v,u,rfl,rfl,p,q⟩:=vL rp rv;simp only[Rep] at p;subst p;exact rC pins s σ H _ _ Q I rv (.inr ⟨_,rfl,xr af r (by simp only[Rep];rfl)⟩)
def m5:DF:=fun ds S=>match ds with
 |[d]=>match xM d with
  |some xs=>.ok (.tup xs) S
  |none=>.bad
 |_=>.bad
theorem JC:yU X (.type "tuple") m5:=by
 intro pins σ H s P α S vs us ds Q I r rv rp af;obtain⟨d,rfl,af1⟩:=aW (X:=X) (β:=D) (g:=fun d=>match xM d with|some xs=>.ok (D.tup xs) S|none=>.bad) af
 obtain⟨xs,hx,af2⟩:∃ xs,xM d=Aa xs∧OkV X P α Q (.tup xs) S:=by
  cases hx:xM d with
  |none=>rw[hx] at af1;exact An af1
  |some xs=>rw[hx] at af1;exact⟨xs,rfl,af1⟩
 obtain⟨v,u,rfl,rfl,p,q⟩:=vL rp rv;cases itV hx with
 |tup e =>
  subst e;have p0:=p;simp only[Rep] at p;obtain⟨a,ws,rfl,sq,t⟩:=p;exact fK pins s σ H _ _ Q I rv ⟨a,ws,rfl,.inr ⟨wQ r.sub sq,xr af2 r p0⟩⟩
 |lst e =>
  subst e;simp only[Rep] at p;obtain⟨a,ws,rfl,sq,t⟩:=p;exact fK pins s σ H _ _ Q I rv ⟨a,ws,rfl,.inl ⟨(wB r.sub sq).l,fun l hl=>bY r hl t af2⟩⟩
def mT:DF:=fun ds S=>match ds with
 |[d]=>match xM d with
  |some xs=>.ok (.lst xs) S
  |none=>.bad
 |_=>.bad
theorem FN:yU X (.type "list") mT:=by
 intro pins σ H s P α S vs us ds Q I r rv rp af;obtain⟨d,rfl,af1⟩:=aW (X:=X) (β:=D) (g:=fun d=>match xM d with|some xs=>.ok (D.lst xs) S|none=>.bad) af
 obtain⟨xs,hx,af2⟩:∃ xs,xM d=Aa xs∧OkV X P α Q (.lst xs) S:=by
  cases hx:xM d with
  |none=>rw[hx] at af1;exact An af1
  |some xs=>rw[hx] at af1;exact⟨xs,rfl,af1⟩
 obtain⟨v,u,rfl,rfl,p,q⟩:=vL rp rv;cases itV hx with
 |tup e =>
  subst e;simp only[Rep] at p;obtain⟨a,ws,rfl,sq,t⟩:=p;exact fS pins s σ H _ _ Q I rv ⟨a,ws,rfl,.inr (wQ r.sub sq),fun l hl=>u9 r hl t af2⟩
 |lst e =>
  subst e;simp only[Rep] at p;obtain⟨a,ws,rfl,sq,t⟩:=p;exact fS pins s σ H _ _ Q I rv ⟨a,ws,rfl,.inl ((wB r.sub sq).l),fun l hl=>u9 r hl t af2⟩
end
section
variable {X:Cx}
structure ClsK (K:Ak)(cl:Ab Af):Prop where
 ex:∀ C∈cl,ExnK K C
 one:∀ C∈cl,∀ B∈cl,Kl K (.ref C) (.ref B)=Aa (C == B)
 ve:∀ C∈cl,Kl K (.ref C) (.type "ValueError")=Aa true
def xC (cl:Ab Af):DF:=fun ds S=>match ds with
 |[.exn (.ref C),.obj B]=>if cl.contains C&&cl.contains B then .ok (.bl (C == B)) S else .bad
 |[.exn (.ref C),.ty b]=>if cl.contains C&&(b == "ValueError") then .ok (.bl true) S else .bad
 |_=>zL ds S
theorem Y3 {pins:Ab (Af × Cq)}{σ : _L.St}{H P:Hp}{α : Ab Af}{S:Sto}{s:Ag}{C:Af}{v:V}{u:Ac}(I:Inv X pins σ H s)(r:Rel X.K H P α S)(p:Rep X.K P α (.exn (.ref C)) v)(q:qK v u):∃ a,u=.ref a∧jL a C s.heap:=by
 simp only[Rep] at p;obtain⟨a,rfl,z⟩:=p;obtain⟨y,_⟩:=I.hok a _ (r.sub _ _ z);exact⟨a,q,y⟩
inductive IsiE (cl:Ab Af)(ds:Ab D)(S:Sto):Prop
 |bad (e:xC cl ds S=.bad)
 |old (e:xC cl ds S=zL ds S)
 |obj (C B:Af) (ed:ds=[.exn (.ref C),.obj B]) (h1:C∈cl) (h2:B∈cl) (e:xC cl ds S=.ok (.bl (C == B)) S)
 |ve (C:Af) (ed:ds=[.exn (.ref C),.ty "ValueError"]) (h1:C∈cl) (e:xC cl ds S=.ok (.bl true) S)
theorem CI (cl:Ab Af)(C:Af)(d:D)(S:Sto):IsiE cl [.exn (.ref C),d] S:=by
 cases d with
 |obj B =>
  have z:xC cl [.exn (.ref C),.obj B] S=if (cl.contains C&&cl.contains B)=true then .ok (.bl (C == B)) S else .bad:=rfl
  by_cases h:(cl.contains C&&cl.contains B)=true
  ·rw[Bl h] at z
   have h':=Ew.mp h;exact .obj C B rfl (Fh.mp h'.1) (Fh.mp h'.2) z
  ·rw[Bk h] at z
   exact .bad z
 |ty b =>
  have z:xC cl [.exn (.ref C),.ty b] S=if (cl.contains C&&(b == "ValueError"))=true then .ok (.bl true) S else .bad:=rfl
  by_cases h:(cl.contains C&&(b == "ValueError"))=true
  ·rw[Bl h] at z
   have h':=Ew.mp h;cases (Op.mp h'.2);exact .ve C rfl (Fh.mp h'.1) z
  ·rw[Bk h] at z
   exact .bad z
 |_=>exact .old rfl
theorem IM (cl:Ab Af)(ds:Ab D)(S:Sto):IsiE cl ds S:=by
 cases ds with
 |nil=>exact .old rfl
 |cons a ds =>
  cases a with
  |exn c =>
   cases c with
   |ref C =>
    cases ds with
    |nil=>exact .old rfl
    |cons b ds =>
     cases ds with
     |nil=>exact CI cl C b S
     |cons _ _=>cases b <;> exact .old rfl
   |_=>exact .old rfl
  |_=>exact .old rfl
theorem FL {cl:Ab Af}(hK:ClsK X.K cl):yU X (.builtin "isinstance") (xC cl):=by
 intro pins σ H s P α S vs us ds Q I r rv rp af;cases IM cl ds S with
 |bad e=>rw[e] at af;exact An af
 |old e=>rw[e] at af;exact WJ pins σ H s P α S vs us ds Q I r rv rp af
 |obj C B ed h1 h2 e =>
  rw[e] at af;subst ed;obtain⟨v,w,u,x,rfl,rfl,p,p',q,q'⟩:=tE rp rv;simp only[Rep] at p';obtain⟨rfl,_⟩:=p';cases (show x=Dc B from q')
  obtain⟨a,rfl,ha⟩:=Y3 I r p q;exact El (aD (hK.ex C h1)) I.kIn ha (hK.one C h1 B h2) (fun z=>nomatch z) fun tk=>⟨.bl _,H,I.tok tk,rfl,xr af r (by simp only[Rep])⟩
 |ve C ed h1 e =>
  rw[e] at af;subst ed;obtain⟨v,w,u,x,rfl,rfl,p,p',q,q'⟩:=tE rp rv;simp only[Rep] at p';subst p';cases (show x=Hr "ValueError" from q')
  obtain⟨a,rfl,ha⟩:=Y3 I r p q;exact El (aD (hK.ex C h1)) I.kIn ha (hK.ve C h1) (fun z=>nomatch z) fun tk=>⟨.bl _,H,I.tok tk,rfl,xr af r (by simp only[Rep])⟩
def MtD (X:Cx)(id:Ep)(g:D→Ab D→Sto→Res D):Prop:=
 ∀ (pins:Ab (Af × Cq)) (σ : _L.St) (H:Hp) (s:Ag) (P:Hp) (α : Ab Af) (S:Sto) (v:V) (vv:Ac) (vs:Ab V) (us:Ab Ac) (a:D) (ds:Ab D) (Q:VK),Inv X pins σ H s→Rel X.K H P α S→qK v vv→Rep X.K P α a v→qL vs us→qF X.K P α ds vs→zA X P α (g a ds S) Q →
  Ao (Au X.prog X.w) X.A (call (.builtin id) (vv::us)) (EP X pins σ Q) X.xe s
def dBm (T:Ep)(g:D→Ab D→Sto→Res D)(fo:DE)(fa:DA):DE:=fun env S=>(fo env S).bind fun a S1=>if (tyD a S1 == Aa T)=true then (fa env S1).bind fun ds S2=>g a ds S2 else .bad
theorem UG {H P:Hp}{α : Ab Af}{S:Sto}{a:D}{v:V}{T:Ep}(r:Rel X.K H P α S)(p:Rep X.K P α a v)(h:tyD a S=Aa T)(hT:T = "list" ∨ T = "dict" ∨ T = "int" ∨ T = "str"):tyV X.K T v H:=by
 cases a with
 |int i=>cases h;simp only[Rep] at p;subst p;rfl
 |str x=>cases h;simp only[Rep] at p;subst p;rfl
 |lst xs =>
  cases h;simp only[Rep] at p;obtain⟨b,vs,rfl,q,t⟩:=p;exact .inl ⟨rfl,vs,(wB r.sub q).l⟩
 |dct0 =>
  cases h;simp only[Rep] at p;obtain⟨b,rfl,q⟩:=p;exact .inr (.inr (.inl ⟨rfl,.inl ⟨[],r.sub _ _ q⟩⟩))
 |loc i =>
  simp only[Rep] at p;obtain⟨b,rfl,q⟩:=p;rcases sD (f:=fun _=>Aa "list") (g:=fun _=>Aa "dict") h with⟨xs,hS,h⟩|⟨kvs,hS,h⟩
  ·cases h
   obtain⟨vs,z,t⟩:=r.at' i b _ q hS;exact .inl ⟨rfl,vs,SqL.of z⟩
  ·cases h
   obtain⟨vs,z,t⟩:=r.at' i b _ q hS;exact .inr (.inr (.inl ⟨rfl,.inl ⟨vs,z⟩⟩))
 |non=>cases h;exact absurd hT (by decide)
 |bl b=>cases h;exact absurd hT (by decide)
 |tup xs=>cases h;exact absurd hT (by decide)
 |_=>exact nn h
variable {o e:By}{es:Ab By}{fo:DE}{fa:DA}{name:Ax}{apos cpos:Fk}{T id:Ep}{g:D→Ab D→Sto→Res D}
theorem LZ {P:Hp}{α : Ab Af}{a:D}{S:Sto}{β : Type}{k:Res β}{Ok:β→Sto→Prop}(h:qI X P α (if (tyD a S == Aa T)=true then k else .bad) Ok):tyD a S=Aa T∧qI X P α k Ok:=by
 by_cases z:(tyD a S == Aa T)=true
 ·rw[Bl z] at h;exact⟨Op.mp z,h⟩
 ·rw[Bk z] at h;exact An h
theorem HN (pa:PlainAttrs T)(slot:Slot T name id)(hty:typeOf (.builtin id)=pure (.type "method_descriptor"))(hT:T = "list" ∨ T = "dict" ∨ T = "int" ∨ T = "str")(hm:MtD X id g)(ho:PE X o (tD X fo))(ha:PA X (e::es) (tDA X fa))
  (hbase:Qg o name X.env (eval o X.env)=eval o X.env:=by rfl)
  (hfew:((Fq cpos (Bc (e::es) X.env)).all (fun x=>!x.1)&&(backToKw cpos (keywordEach [] X.env)).all (fun x=>x.1.isSome)
   && decide ((e::es).length+([]:Ab Zs).length+(if ([] : Ab Zs).isEmpty then 0 else 1)<30))=true:=by rfl)
  (hline:(apos.endLine == cpos.line)=true:=by rfl) (hs:Bc (e::es) X.env=(false,eval e X.env)::Bc es X.env:=by rfl) (hplain:(Fq cpos (Bc es X.env)).any (·.1)=false:=by rfl) :
  PE X (.Call (.Attribute o name apos) (e::es) [] cpos) (tD X (dBm T g fo fa)):=by
 intro pins s σ H Q I h;obtain⟨P,α,env,S,r,re,af⟩:=h;refine wpAny_Call_method_late hbase hfew hline rfl (thn (xI ho I r re af) fun vv s1 ⟨v,H1,P1,α1,d,S1,G1,af1⟩=>?_);obtain⟨ht,af2⟩:=LZ af1;obtain⟨h1,h2⟩:=UF G1.inv G1.val (UG G1.rel G1.rep ht hT);refine⟨T,id,pa,slot,hty,h1,h2,?_⟩;have hA:=yM ha G1.inv G1.rel G1.env (P:=P1) (α:=α1) (Ok:=OkV X P1 α1 Q) (zA.base G1.same G1.pre (r:=(fa env S1).bind fun ds S2=>g d ds S2) af2) cpos;rw[hs] at hA ⊢;refine Sd (by show (false||(Fq cpos (Bc es X.env)).any (·.1))=false;rw[hplain] <;> rfl) (Tz ?_)
 exact thn hA fun us s2 ⟨vs,H2,P2,α2,ds,S2,I2,rv,r2,re2,rp2,e1,e2,af3⟩=>hm pins σ H2 s2 P2 α2 S2 v vv vs us d ds Q I2 r2 G1.val (Rep.mono e1 e2 _ _ G1.rep) rv rp2 (zA.base e1 e2 af3)
def wO:D→Ab D→Sto→Res D:=fun a ds S=>match a,ds with
 |.loc i,[d]=>match S[i]? with
  |some (.lst xs)=>if xs.length<lim then .ok .non (S.set i (.lst (xs++[d]))) else .bad
  |_=>.bad
 |_,_=>.bad
inductive ApV (a:D)(ds:Ab D)(S:Sto):Prop
 |bad (e:wO a ds S=.bad)
 |of (i:Ai) (d:D) (xs:Ab D) (ea:a=.loc i) (ed:ds=[d]) (hS:S[i]? = Aa (.lst xs)) (hl:xs.length<lim) (e:wO a ds S=.ok .non (S.set i (.lst (xs++[d]))))
theorem apV (a:D)(ds:Ab D)(S:Sto):ApV a ds S:=by
 cases a with
 |loc i =>
  cases ds with
  |nil=>exact .bad rfl
  |cons d ds =>
   cases ds with
   |cons _ _=>exact .bad rfl
   |nil =>
    have z:wO (.loc i) [d] S=(match S[i]? with|some (.lst xs)=>(if xs.length<lim then .ok .non (S.set i (.lst (xs++[d]))) else .bad)|_=>.bad):=rfl
    cases hS:S[i]? with
    |none=>rw[hS] at z;exact .bad z
    |some m =>
     rw[hS] at z;cases m with
     |lst xs =>
      by_cases hl:xs.length<lim
      ·exact .of i d xs rfl rfl hS hl (z.trans (Bl hl))
      ·exact .bad (z.trans (Bk hl))
     |_=>exact .bad z
 |_=>exact .bad rfl
theorem YV:MtD X "list.append" wO:=by
 intro pins σ H s P α S v vv vs us a ds Q I r rv p rvs rps af;cases apV a ds S with
 |bad e=>rw[e] at af;exact An af
 |of i d xs ea ed hS hl e =>
  rw[e] at af;subst ea ed;obtain⟨w,u,rfl,rfl,p',q'⟩:=vL rps rvs;simp only[Rep] at p;obtain⟨b,rfl,q⟩:=p;obtain⟨ws,z,t⟩:=r.at' i b _ q hS;refine YZ pins s σ H (.ref b) [w] vv [u] Q I rv (.cons q' .nil) ⟨b,ws,w,rfl,rfl,z,by rw[← t.length,← xN];exact hl,?_⟩
  exact xr af (r.put (m':=.lst (xs++[d])) q hS (by intro z;cases z) ⟨ws++[w],zD,t.append (.cons p' .nil)⟩) (by simp only[Rep])
end
def uQ:D→Al Key
 |.int i=>Aa (.inl i)
 |.str x=>Aa (.inr x)
 |_=>none
def yJ (kvs:Ab (Key × D))(k:Key):Al D:=(kvs.find? fun kv=>decide (kv.1=k)).map (·.2)
def uA (kvs:Ab (Key × D))(k:Key)(v:D):Ab (Key × D):=
 if (kvs.any fun kv=>decide (kv.1=k))=true then kvs.map (fun kv=>if kv.1=k then (kv.1,v) else kv) else kvs++[(k,v)]
section
variable {K:Ak}{P:Hp}{α : Ab Af}
theorem Q4 {kvs:Ab (Key × D)}{vs:Ab (Key × V)}(r:KVs K P α kvs vs):kvs.length=vs.length:=Paired.length r
theorem Q7 {k:Key}:∀ {kvs:Ab (Key × D)} {vs:Ab (Key × V)},KVs K P α kvs vs→(∀ d,yJ kvs k=Aa d→∃ v,uE vs k=Aa v∧Rep K P α d v)∧(yJ kvs k=none→uE vs k=none)
 |_,_,.nil=>⟨fun d h=>by simp[yJ] at h,fun _=>rfl⟩
 |(k1,d1)::kvs,(k2,v2)::vs,.cons z t=>by
  obtain⟨e,r⟩:=z;dsimp only at e r;subst e;obtain⟨h1,h2⟩:=Q7 (k:=k) t;unfold yJ uE at *;by_cases hk:k1=k
  ·subst hk
   constructor
   ·intro d h
    simp at h;subst h;exact⟨v2,by simp,r⟩
   ·intro h
    simp at h
  ·constructor
   ·intro d h
    rw[Se (by simpa using hk)] at h ⊢
    exact h1 d h
   ·intro h
    rw[Se (by simpa using hk)] at h ⊢
    exact h2 h
theorem T7 {k:Key}{kvs:Ab (Key × D)}{vs:Ab (Key × V)}(h:KVs K P α kvs vs):(kvs.any fun kv=>decide (kv.1=k))=(vs.any fun kv=>decide (kv.1=k)):=by
 induction h with
 |nil=>rfl
 |cons z t ih=>rw[Jx,Jx,ih,z.1]
theorem TB {k:Key}{d:D}{v:V}(q:Rep K P α d v){kvs:Ab (Key × D)}{vs:Ab (Key × V)}(h:KVs K P α kvs vs):KVs K P α (kvs.map fun kv=>if kv.1=k then (kv.1,d) else kv) (vs.map fun kv=>if kv.1=k then (kv.1,v) else kv):=by
 induction h with
 |nil=>exact .nil
 |cons z t ih =>
  rw[Ek,Ek];refine .cons ?_ ih;rw[← z.1]
  split
  ·exact⟨rfl,q⟩
  ·exact z
theorem T9 {k:Key}{d:D}{v:V}(q:Rep K P α d v){kvs:Ab (Key × D)}{vs:Ab (Key × V)}(h:KVs K P α kvs vs):KVs K P α (kvs++[(k,d)]) (vs++[(k,v)]):=by
 induction h with
 |nil=>exact .cons ⟨rfl,q⟩ .nil
 |cons z t ih=>exact .cons z ih
theorem Q5 {k:Key}{d:D}{v:V}(q:Rep K P α d v){kvs:Ab (Key × D)}{vs:Ab (Key × V)}(r:KVs K P α kvs vs):KVs K P α (uA kvs k d) (uB vs k v):=by
 unfold uA uB;rw[T7 r]
 split
 ·exact TB q r
 ·exact T9 q r
theorem YG {d:D}{k:Key}{v:V}(h:uQ d=Aa k)(r:Rep K P α d v):v=kV k:=by
 cases d with
 |int i=>cases h;simp only[Rep] at r;exact r
 |str x=>cases h;simp only[Rep] at r;exact r
 |_=>cases h
end
section
variable {X:Cx}{o i e:By}{pos:Fk}{fo fi:DE}
def JL:DE:=fun _ S=>.ok (.loc S.length) (S++[.dct []])
theorem D3:PE X (.Dict [] [] pos) (tD X JL):=by
 refine peW i0 fun σ H Q ⟨P,α,env,S,r,re,af⟩ p hp=>?_;have hpre:α<+:α++[p]:=Gt _ _;have r1:=r.new (o:=.dK []) (m:=.dct []) hp ⟨[],zD,.nil⟩;refine af _ _ _ _ r1 (qH.refl _) hpre ?_;simp only[Rep];exact⟨p,rfl,by rw[← r.len];simp⟩
def bI:DE:=fun _ S=>.ok .dct0 S
theorem FX:PE X (.Dict [] [] pos) (tD X bI):=by
 refine peW i0 fun σ H Q ⟨P,α,env,S,r,re,af⟩ p hp=>?_;obtain⟨r1,e1⟩:=r.pure (o:=.dK []) hp;refine af _ _ _ α r1 e1 (Bp _) ?_;simp only[Rep];exact⟨p,rfl,zD⟩
def jR:G3:=fun o i d S=>match o with
 |.loc n=>match S[n]? with
  |some (.dct kvs)=>match uQ i with
   |some k=>if kvs.length<lim then .ok () (S.set n (.dct (uA kvs k d))) else .bad
   |none=>.bad
  |_=>dN o i d S
 |_=>dN o i d S
inductive Set2V (a b d:D)(S:Sto):Prop
 |bad (e:jR a b d S=.bad)
 |old (e:jR a b d S=dN a b d S)
 |of (n:Ai) (kvs:Ab (Key × D)) (k:Key) (ea:a=.loc n) (hS:S[n]? = Aa (.dct kvs)) (hk:uQ b=Aa k) (hl:kvs.length<lim) (e:jR a b d S=.ok () (S.set n (.dct (uA kvs k d))))
theorem AD (a b d:D)(S:Sto):Set2V a b d S:=by
 cases a with
 |loc n =>
  have z:jR (.loc n) b d S=(match S[n]? with|some (.dct kvs)=>(match uQ b with|some k=>(if kvs.length<lim then .ok () (S.set n (.dct (uA kvs k d))) else .bad)|none=>.bad)|_=>dN (.loc n) b d S):=rfl
  cases hS:S[n]? with
  |none=>rw[hS] at z;exact .old z
  |some m =>
   rw[hS] at z;cases m with
   |dct kvs =>
    cases hk:uQ b with
    |none=>rw[hk] at z;exact .bad z
    |some k =>
     rw[hk] at z;by_cases hl:kvs.length<lim
     ·exact .of n kvs k rfl hS hk hl (z.trans (Bl hl))
     ·exact .bad (z.trans (Bk hl))
   |_=>exact .old z
 |_=>exact .old rfl
theorem EM (hu:X.A.units+1<Fg):hJ X (eY X jR):=by
 intro pins s σ H o i v ov iv u Q I ro ri rv h;obtain⟨P,α,S,a,b,d,r,pa,pb,pd,af⟩:=h;cases AD a b d S with
 |bad e=>rw[e] at af;exact An af
 |old e =>
  rw[e] at af;exact AE pins s σ H o i v ov iv u Q I ro ri rv ⟨P,α,S,a,b,d,r,pa,pb,pd,af⟩
 |of n kvs k ea hS hk hl e =>
  rw[e] at af;subst ea;simp only[Rep] at pa;obtain⟨p,rfl,q⟩:=pa;obtain⟨vs,z,t⟩:=r.at' n p _ q hS;cases YG hk pb;cases (show ov=Dc p from ro)
  refine WS hu I (d0.k (v:=v) z (by rw[← Q4 t,← xN];exact hl)) ri rv fun s' I'=>⟨_,I',?_⟩
  exact af _ P α (r.put (m':=.dct (uA kvs k d)) q hS (by intro z;cases z) ⟨_,zD,Q5 pd t⟩) (qH.refl _) (Bp _)
def OQ:D→Ab D→Sto→Res D:=fun a ds S=>match a,ds with
 |.loc n,[i,x]=>match S[n]? with
  |some (.dct kvs)=>match uQ i with
   |some k=>.ok ((yJ kvs k).getD x) S
   |none=>.bad
  |_=>.bad
 |_,_=>.bad
def nY:D→Ab D→Sto→Res D:=fun a ds S=>match a,ds with
 |.lst xs,[.bl k]=>match xW xs with
  |some bs=>.ok (.int (bs.countP (· == k):Ai)) S
  |none=>.bad
 |_,_=>.bad
def dR (k:Aq):Ab Aq→Al Ai
 |[]=>none
 |b::r=>if b=k then Aa 0 else (dR k r).map (· + 1)
def nZ:D→Ab D→Sto→Res D:=fun a ds S=>match a,ds with
 |.lst xs,[.bl k]=>match (xW xs).bind (dR k) with
  |some j=>.ok (.int j) S
  |none=>.bad
 |_,_=>.bad
theorem cN (k:Aq){bs:Ab Aq}{y:Ac}(hy:y∈(bs.map Fv).toArray):Aa6 y (.bool k) (Sf k y):=by
 have hy':y∈bs.map Fv:=by rwa [List.mem_toArray] at hy
 obtain⟨b,_,rfl⟩:=Dk.mp hy';exact fun prog w A E s Q h=>Zk b k prog w E Q h
theorem o3 (k:Aq)(bs:Ab Aq):(bs.map Fv).countP (Sf k)=bs.countP (· == k):=by
 rw[Oa];rfl
theorem W8 {β : Type}{r:Res β}{P:Hp}{α : Ab Af}{Ok:β→Sto→Prop}(e:r=.bad)(h:qI X P α r Ok):Fm:=by
 rw[e] at h;exact h
inductive BlV (a:D)(ds:Ab D):Prop
 |no (h:∀ (g:Ab D→Aq→Res D),(match a,ds with|.lst xs,[.bl k]=>g xs k|_,_=>.bad)=.bad)
 |of (xs:Ab D) (k:Aq) (ea:a=.lst xs) (ed:ds=[.bl k])
theorem blV (a:D)(ds:Ab D):BlV a ds:=by
 cases a with
 |lst xs =>
  cases ds with
  |nil=>exact .no fun _=>rfl
  |cons d ds =>
   cases ds with
   |cons _ _=>cases d <;> exact .no fun _=>rfl
   |nil =>
    cases d with
    |bl k=>exact .of xs k rfl rfl
    |_=>exact .no fun _=>rfl
 |_=>exact .no fun _=>rfl
theorem KP:MtD X "list.count" nY:=by
 intro pins σ H s P α S v vv vs us a ds Q I r rv p rvs rps af;cases blV a ds with
 |no h=>exact(W8 (X:=X) (r:=nY a ds S) (h _) af).elim
 |of xs k ea ed =>
  subst ea ed;have af:qI X P α (match xW xs with|some bs=>Res.ok (D.int (bs.countP (· == k):Ai)) S|none=>.bad) (OkV X P α Q):=af
  cases hb:xW xs with
  |none=>rw[hb] at af;exact An af
  |some bs =>
   rw[hb] at af;obtain⟨vx,ux,rfl,rfl,px,qx⟩:=vL rps rvs;simp only[Rep] at px;subst px;cases (show ux=Fv k from qx)
   obtain⟨b,ws,its,n,rfl,sq,t,rvi,ht,hl,_⟩:=uR I r p;cases (show vv=Dc b from rv)
   have hi:=uP hb t rvi;subst hi;refine Mn Jp ⟨_,ht,rfl⟩ Qs (Qh _ _) (Qt b (bs.map Fv).toArray n none #[] (.bool k) (Sf k)) ⟨ht,fun y hy=>(cN k hy).at _ _,?_⟩;refine⟨.int _,H,I.tok _,⟨_,rfl⟩,?_⟩;rw[show (bs.map Fv).toArray.toList=bs.map Fv from rfl,o3]
   exact xr af r (by simp only[Rep])
theorem oW {k:Aq}:∀ {bs:Ab Aq} {j:Ai},dR k bs=Aa j→∃ h:j<bs.length,bs[j]=k∧∀ m (hm:m<bs.length),m<j→bs[m]≠k
 |[],j,h=>by cases h
 |b::r,j,h=>by
  unfold dR at h;by_cases hb:b=k
  ·rw[Bl hb] at h
   cases h;exact⟨by simp,by simpa using hb,fun m hm z=>absurd z (Nat.not_lt_zero _)⟩
  ·rw[Bk hb] at h
   obtain⟨i,hi,rfl⟩:=Dm.mp h;obtain⟨h1,h2,h3⟩:=oW hi;refine⟨by simp;omega,by simpa using h2,fun m hm hl=>?_⟩
   cases m with
   |zero=>simpa using hb
   |succ m=>simpa using h3 m (by simp at hm;omega) om
theorem KQ:MtD X "list.index" nZ:=by
 intro pins σ H s P α S v vv vs us a ds Q I r rv p rvs rps af;cases blV a ds with
 |no h=>exact(W8 (X:=X) (r:=nZ a ds S) (h _) af).elim
 |of xs k ea ed =>
  subst ea ed;have af:qI X P α (match (xW xs).bind (dR k) with|some j=>Res.ok (D.int j) S|none=>.bad) (OkV X P α Q):=af
  cases hj:(xW xs).bind (dR k) with
  |none=>rw[hj] at af;exact An af
  |some j =>
   rw[hj] at af;obtain⟨bs,hb,hi⟩:=DL.mp hj;obtain⟨vx,ux,rfl,rfl,px,qx⟩:=vL rps rvs;simp only[Rep] at px;subst px;cases (show ux=Fv k from qx)
   obtain⟨b,ws,its,n,rfl,sq,t,rvi,ht,hl,hz⟩:=uR I r p;cases (show vv=Dc b from rv)
   have hi':=uP hb t rvi;subst hi';obtain⟨h1,h2,h3⟩:=oW hi;have hlen:bs.length≤sizeLine:=by
    have e1:=t.length;have e2:=rvi.length;rw[Ar] at e2;rw[xN] at hz;omega
   refine Mn Lu ⟨_,ht,rfl⟩ PySem.F.entry_list_index (PySem.F.args_list_index_2 _ _) (Zt b (bs.map Fv).toArray n (.bool k) (Sf k) (fun y hy=>cN k hy) j (by simpa using h1) ?_ ?_ ?_) ⟨ht,?_⟩
   ·rw[Ev] at hlen;omega
   ·simp[Sf,h2]
   ·intro m hm hl'
    have hm':m<bs.length:=by simpa using hm
    have:=h3 m hm' hl';simp[Sf,this]
   ·exact⟨.int _,H,I.tok _,⟨_,rfl⟩,xr af r (by simp only[Rep])⟩
end
def pE (S:Sto):Sto:=S.map fun _=>.dead
def PQ:D→Aq
 |.non=>true
 |.bl _=>true
 |.int _=>true
 |.str _=>true
 |_=>false
def mapO {β γ:Type}(f:β→Al γ) : Ab β → Al (Ab γ)
 |[]=>Aa []
 |b::r=>match f b,mapO f r with
  |some c,Aa cs=>Aa (c::cs)
  |_,_=>none
def yS:Ai→Sto→D→Al D
 |n+1,S,.tup xs=>(mapO (yS n S) xs).map .tup
 |n+1,S,.lst xs=>(mapO (yS n S) xs).map .lst
 |n+1,S,.loc i=>match S[i]? with
  |some (.lst xs)=>(mapO (yS n S) xs).map .lst
  |_=>none
 |_,_,.non=>Aa .non
 |_,_,.bl b=>Aa (.bl b)
 |_,_,.int i=>Aa (.int i)
 |_,_,.str x=>Aa (.str x)
 |_,_,.ty n=>Aa (.ty n)
 |_,_,.obj a=>Aa (.obj a)
 |_,_,.dct0=>Aa .dct0
 |_,_,.exn c=>Aa (.exn c)
 |_,_,_=>none
def kH (H P:Hp)(α : Ab Af):Hp:=fun b=>if (P b).isSome then P b else if b∈α then H b else none
section
variable {K:Ak}{H P:Hp}{α : Ab Af}{S:Sto}
theorem gH (H P:Hp)(α : Ab Af):qH P (kH H P α):=fun b o e=>by
 unfold kH;rw[e];rfl
theorem K9 (r:Rel K H P α S):qH (kH H P α) H:=fun b o e=>by
 unfold kH at e
 split at e
 ·exact r.sub b o e
 ·split at e
  ·exact e
  ·cases e
theorem dM {a:Af}(h:P a=none)(ha:a∈α):kH H P α a=H a:=by
 unfold kH;rw[h];simp[ha]
theorem Rel.frz (r:Rel K H P α S):Rel K H (kH H P α) α (pE S) where
 sub:=K9 r
 len:=by rw[r.len];simp[pE]
 nd:=r.nd
 sep:=fun i a o h1 h2 h3=>by
  unfold pE at h2;rw[Dv] at h2;cases q:S[i]? with
  |none=>rw[q] at h2;cases h2
  |some m=>rw[q] at h2;cases h2;exact absurd rfl h3
 at':=fun i a o h1 h2=>by
  unfold pE at h2;rw[Dv] at h2;cases q:S[i]? with
  |none=>rw[q] at h2;cases h2
  |some m=>rw[q] at h2;cases h2;trivial
 own:=r.own
theorem Rel.unfrz {H' P1:Hp}{α1:Ab Af}{S1:Sto}(r:Rel K H P α S)(r1:Rel K H' P1 α1 S1)(e:qH (kH H P α) P1):Rel K H' P α S:=by
 have mem:∀ i a,α[i]? = Aa a→a∈α:=fun i a h=>Ch h;have kp:∀ (i:Ai) (a:Af) (o:MO) (u:HO),α[i]? = Aa a→S[i]? = Aa o→o≠MO.dead→H a=Aa u→H' a=Aa u:=fun i a o u h1 h2 h3 h4 =>
  r1.sub a u (e a u (by rw[dM (r.sep i a o h1 h2 h3) (mem i a h1)];exact h4))
 refine⟨(gH H P α).trans (e.trans r1.sub),r.len,r.nd,r.sep,fun i a o h1 h2=>?_,fun i a h1=>?_⟩
 ·have m:=r.at' i a o h1 h2
  cases o with
  |dead=>trivial
  |lst ds=>obtain⟨vs,q,t⟩:=m;exact⟨vs,kp i a _ _ h1 h2 (by intro z;cases z) q,t⟩
  |dct kvs=>obtain⟨vs,q,t⟩:=m;exact⟨vs,kp i a _ _ h1 h2 (by intro z;cases z) q,t⟩
  |ins C fs=>obtain⟨dx,vs,q,t⟩:=m;exact⟨dx,vs,kp i a _ _ h1 h2 (by intro z;cases z) q,t⟩
 ·have h:=r.own i a h1
  cases q:H a with
  |none=>exact absurd q h
  |some u =>
   have z:∃ u',kH H P α a=Aa u':=by
    cases q2:P a with
    |none=>exact⟨u,by rw[dM q2 (mem i a h1)];exact q⟩
    |some u'=>exact⟨u',gH H P α a u' q2⟩
   obtain⟨u',z⟩:=z;rw[r1.sub a u' (e a u' z)];intro w;cases w
set_option tactic.hygienic true in
theorem qF.mapO {f:D→Al D}{P':Hp}(h:∀ d t v,f d=Aa t→Rep K P α d v→Rep K P' α t v):∀ {ds ts:Ab D} {vs:Ab V},_D.mapO f ds=Aa ts→qF K P α ds vs→qF K P' α ts vs
 |[],ts,vs,e,r=>by cases e;rw[r.nil_inv];exact .nil
 |d::ds,ts,vs,e,r=>by
  obtain⟨w,ws,rfl,r1,r2⟩:=r.cons_inv;unfold _D.mapO at e
  split at e
  ·rename_i c cs h1 h2
   cases e;exact .cons (h d c w h1 r1) (qF.mapO h h2 r2)
  ·cases e
theorem sR (r:Rel K H P α S):∀ (n:Ai) (d t:D) (v:V),yS n S d=Aa t→Rep K P α d v→Rep K (kH H P α) α t v:=by
 have mono:∀ (d:D) (v:V),Rep K P α d v→Rep K (kH H P α) α d v:=fun d v=>Rep.mono (gH H P α) (Bp _) d v;intro n
 induction n with
 |zero =>
  intro d t v h p;cases d <;> first|(cases h;exact mono _ _ p)|exact nn h
 |succ n ih =>
  intro d t v h p;cases d with
  |tup xs =>
   obtain⟨ts,h1,rfl⟩:=Dm.mp h;simp only[Rep] at p ⊢;obtain⟨a,vs,rfl,q,t⟩:=p;exact⟨a,vs,rfl,uC (gH H P α) q,qF.mapO (fun d t v=>ih d t v) h1 t⟩
  |lst xs =>
   obtain⟨ts,h1,rfl⟩:=Dm.mp h;simp only[Rep] at p ⊢;obtain⟨a,vs,rfl,q,t⟩:=p;exact⟨a,vs,rfl,wB (gH H P α) q,qF.mapO (fun d t v=>ih d t v) h1 t⟩
  |loc i =>
   have h:(match S[i]? with|some (.lst xs)=>(_D.mapO (yS n S) xs).map D.lst|_=>none)=Aa t:=h
   cases hS:S[i]? with
   |none=>rw[hS] at h;exact nn h
   |some m =>
    rw[hS] at h;cases m with
    |lst xs =>
     obtain⟨ts,h1,rfl⟩:=Dm.mp h;simp only[Rep] at p ⊢;obtain⟨a,rfl,q⟩:=p;obtain⟨vs,z,t⟩:=r.at' i a _ q hS;refine⟨a,vs,rfl,.inl (.inl ?_),qF.mapO (fun d t v=>ih d t v) h1 t⟩;rw[dM (r.sep i a _ q hS (by intro z;cases z)) (Ch q)]
     exact z
    |_=>exact nn h
  |fd ks ds=>exact nn h
  |_=>cases h;exact mono _ _ p
theorem J0 {P':Hp}{α' : Ab Af}{d:D}{v:V}(h:PQ d=true)(p:Rep K P α d v):Rep K P' α' d v:=by
 cases d with
 |non=>simpa only [Rep] using p
 |bl b=>simpa only [Rep] using p
 |int i=>simpa only [Rep] using p
 |str x=>simpa only [Rep] using p
 |_=>cases h
end
def fZ:Ai:=20
def XH (r:Res D)(S:Sto):Res D:=match r with
 |.ok d _=>if PQ d then .ok d S else .bad
 |_=>.bad
theorem lE {X:Cx}{H P:Hp}{α : Ab Af}{S:Sto}{r:Res D}{Q:VK}(rl:Rel X.K H P α S)(af:zA X P α (XH r S) Q):zA X (kH H P α) α r Q:=by
 cases r with
 |ok d S' =>
  obtain⟨ha,af⟩:=k7 (X:=X) af;exact fun v H' P' α' r' e1 e2 rp=>af v H' P α (rl.unfrz r' e1) (qH.refl _) (Bp _) (J0 ha rp)
 |ex c x S'=>exact An af
 |bad=>exact An af
section
variable {X:Cx}
def mZ (g:G2):G2:=fun a b S=>match yS fZ S a,yS fZ S b with
 |some x,Aa y=>XH (g x y (pE S)) S
 |_,_=>.bad
set_option tactic.hygienic true in
theorem OpD.look {f:Ac→Ac→Kt Ac}{g:G2}(h:OpD X f g):OpD X f (mZ g):=by
 intro pins σ H s P α S v u vv uu a b Q I r rv ru pa pb af;unfold mZ at af
 split at af
 ·rename_i x y hx hy
  exact h pins σ H s _ α (pE S) v u vv uu x y Q I r.frz rv ru (sR r fZ a x v hx pa) (sR r fZ b y u hy pb) (lE r af)
 ·exact An af
def vJ (F:DF):DF:=fun ds S=>match mapO (yS fZ S) ds with
 |some ts=>XH (F ts (pE S)) S
 |none=>.bad
variable {cm:Aq}{k:Ai}{f:Af}{fd:Fx}{ps:Ab Ax}{F:DF}{x:Ax}{p pos:Fk}{e:By}{es:Ab By}{fa:DA}{n:Ai}
set_option tactic.hygienic true in
theorem JN (G:FnX X.prog X.w X.K X.mg X.base cm k f fd ps (spD X.K n F))(hr:RoomC cm k X.A)(hF:Fn1 X)(hg:Gl X x)(hm:X.mg x=Aa (.ref f))(hk:Em X.K (.ref f)=true)(hb:uJ X.K fd ps [])
  (ha:PA X (e::es) (tDA X fa)) (hdb:(x == ("__debug__" : Ax))=false:=by decide) (he:Bc (e::es) X.env=(false,eval e X.env)::Bc es X.env:=by rfl) (hpl:(Fq pos (Bc es X.env)).any (·.1)=false:=by rfl) :
  PE X (.Call (.Name x p) (e::es) [] pos) (tD X (qG n (vJ F) fa)):=by
 intro pins s σ H Q I h;obtain⟨P,α,env,S,r,re,af⟩:=h;refine Ie (kX I hg hm ?_ hdb);refine Lm (h₀:=X.base) I.ok.mod.kin hk (thn (yM ha I r re af pos) fun us s1 ⟨vs,H1,P1,α1,ds,S1,I1,rv,r1,re1,rp,e1,e2,af1⟩=>⟨I1.kIn,?_⟩) he hpl;obtain⟨hn,af2⟩:=fY (env:=env) (S:=S) af1;have af3:=zA.base e1 e2 af2;unfold vJ at af3
 split at af3
 ·rename_i ts ht
  have rp':=qF.mapO (fun d t v=>sR r1 fZ d t v) ht rp;have hl:ts.length=n:=by rw[rp'.length,← rp.length];exact hn
  exact sS G hr hb hF I1 r1.frz rv rp' hl (lE r1 af3)
 ·exact An af3
end
section
variable {X:Cx}{a b c e:By}{pos:Fk}{fa fe:DE}
def OR (i:Ai)(g:G2)(fe:DE):DS:=fun env S=>match env[i]? with
 |some (Aa x)=>(fe env S).toS env fun y S1=>(g x y S1).toS env fun z S2=>.nx (env.set i (Aa z)) S2
 |_=>.bad
def ON:G2:=i2 (fun _ _=>true) fun i j=>.int (i+j)
def QL (i j k:Ai)(env:qD)(S1:Sto):Ab D→Out
 |[x,y,z]=>.nx (((env.set i (Aa x)).set j (Aa y)).set k (Aa z)) S1
 |_=>.bad
def OO (i j k:Ai)(f:DA):DS:=fun env S=>(f env S).toS env fun ds S1=>QL i j k env S1 ds
def zS (xs:Ab D)(lo hi:Al Aj):Ab D:=(xs.drop (_H.sIx xs.length 0 lo)).take (_H.sIx xs.length xs.length hi-_H.sIx xs.length 0 lo)
abbrev DO:=qD→Sto→Res (Al Aj)
def OkO (X:Cx)(P:Hp)(α : Ab Af)(Q:Al Aj→Hp→Prop)(o:Al Aj)(S':Sto):Prop:=∀ H' P' α',Rel X.K H' P' α' S'→qH P P'→α<+:α'→Q o H'
def tDO (X:Cx)(f:DO):TO:=fun σ H Q=>∃ P α env S,Rel X.K H P α S∧zH X.K P α σ env∧qI X P α (f env S) (OkO X P α Q)
def qZ:DO:=fun _ S=>.ok none S
def qV (f:DE):DO:=fun env S=>(f env S).bind fun d S1=>match d with
 |.int i=>.ok (Aa i) S1
 |_=>.bad
theorem M6:PO X none (tDO X qZ):=fun pins s σ H Q I ⟨P,α,env,S,r,re,af⟩=>N6 pins s σ H Q I (af H P α r (qH.refl _) (Bp _))
theorem M7 (he:PE X e (tD X fe)):PO X (Aa e) (tDO X (qV fe)):=by
 intro pins s σ H Q I h;obtain⟨P,α,env,S,r,re,af⟩:=h;refine N7 (te:=tD X fe) he pins s σ H Q I ⟨P,α,env,S,r,re,?_⟩;have af':qI X P α ((fe env S).bind fun d S1=>match d with|.int i=>.ok (Aa i) S1|_=>.bad) (OkO X P α Q):=af
 cases q:fe env S with
 |bad=>rw[q] at af';exact af'
 |ex c x S'=>rw[q] at af';exact af'
 |ok d S1 =>
  rw[q] at af';intro v H1 P1 α1 r1 e1 e2 rp;cases d with
  |int i=>exact⟨i,wP rp,af' H1 P1 α1 r1 e1 e2⟩
  |_=>exact An af'
theorem qF.cut {K:Ak}{P:Hp}{α : Ab Af}{ds:Ab D}{vs:Ab V}(r:qF K P α ds vs)(lo hi:Al Aj):qF K P α (zS ds lo hi) (fU vs lo hi):=by
 unfold zS fU;rw[r.length];exact(r.drop _).take _
def gSl (d:D)(lo hi:Al Aj)(S:Sto):Res D:=match d with
 |.lst xs=>.ok (.lst (zS xs lo hi)) S
 |.loc i=>match S[i]? with
  |some (.lst xs)=>.ok (.lst (zS xs lo hi)) S
  |_=>.bad
 |.tup xs=>.ok (.tup (zS xs lo hi)) S
 |_=>.bad
def dSl (fe:DE)(fl fh:DO):DE:=fun env S=>(fe env S).bind fun d S1=>(fl env S1).bind fun lo S2=>(fh env S2).bind fun hi S3=>gSl d lo hi S3
end
end _D
namespace _D
open PySem PySem.Spec PyProof.Rows _L _H
section
variable {prog:Bm}{w:Cb}{A:Bz}{E:Ac→Ag→Prop}{s:Ag}
theorem fM {t sl:Af}{items:Aw Ac}{vl vu:Ac}{lo hi:Al Aj}{Q:Ac→Ag→Prop}(ht:Ow s.heap t items)(hs:s.heap.IsSliceOf sl vl vu .none)(pl:Pk vl lo)(pu:Pk vu hi)
  (hw:sIx items.size 0 lo=0∧sIx items.size items.size hi=items.size) (h:Q (.ref t) s):Ao (Au prog w) A (Mx (.ref t) (.ref sl)) Q E s:=by
 obtain⟨ob,hob,hcb,_⟩:=id hs;have hTs:s.TypeIs (.ref sl) "slice":=⟨ob,hob,hcb⟩;unfold Mx
 try with_reducible refine Eg ?_
 first|refine Ad (Am ?_)|skip
 refine Ad (Qb ht.typeIs (by decide) ?_)
 refine Ad (Dz (name:=Hl "__getitem__") ht.typeIs Dr
  (Ei Dr ht.typeIs On ?_ (Pd _ _)))
 show Ao _ _ (Kp (.ref t) >>= _) _ _ s;refine Ad (Ul ht ?_);refine Ad (Km hTs ?_);rw[Bl (by decide)]
 refine Ad (gW hs pl pu ?_);show Ao _ _ (if (((sIx items.size 0 lo:Ai):Aj) == 0&&(1:Aj) == 1&&(sIx items.size items.size hi-sIx items.size 0 lo) == items.size)=true then _ else _) _ _ s
 rw[hw.1,hw.2,Bl (by simp)]
 unfold Zl;refine Ad (Ad (Km ht.typeIs (Am ?_)));rw[Bl (by decide)]
 exact Ad (He (Am ⟨_,rfl,Am h⟩))
end
section
variable {X:Cx}{e:By}{fe:DE}{pos p2:Fk}
def IW (X:Cx):V→Al Aj→Al Aj→Hp→VK→Prop:=fun x lo hi H Q=>∃ P α S d,Rel X.K H P α S∧Rep X.K P α d x∧zA X P α (gSl d lo hi S) Q
theorem O0:SlR X (IW X):=by
 intro pins s σ H x v vl vu lo hi sl Q I rx hs pl pu h;obtain⟨P,α,S,d,r,p,af⟩:=h;cases d with
 |lst xs =>
  simp only[Rep] at p;obtain⟨a,vs,rfl,q,t⟩:=p;exact ZE pins s σ H _ v vl vu lo hi sl Q I rx hs pl pu ⟨a,vs,rfl,(wB r.sub q).l,fun b hb=>u9 r hb (qF.cut t lo hi) af⟩
 |loc i =>
  obtain⟨xs,hS,af⟩:=bW (X:=X) (f:=fun xs=>Res.ok (D.lst (zS xs lo hi)) S) af;simp only[Rep] at p;obtain⟨a,rfl,q⟩:=p;obtain⟨vs,z,t⟩:=r.at' i a _ q hS;exact ZE pins s σ H _ v vl vu lo hi sl Q I rx hs pl pu ⟨a,vs,rfl,SqL.of z,fun b hb=>u9 r hb (qF.cut t lo hi) af⟩
 |tup xs =>
  have p0:=p;simp only[Rep] at p;obtain⟨a,vs,rfl,q,t⟩:=p;by_cases hw:sIx vs.length 0 lo=0∧sIx vs.length vs.length hi=vs.length
  ·cases rx
   obtain⟨its,rv,ht,hz⟩:=I.tuple (wQ r.sub q);have hlen:its.toArray.size=vs.length:=by rw[Bb];exact rv.length.symm
   refine⟨"tuple",_,Dr.lookup,ht.typeIs,fM ht hs pl pu (by rw[hlen];exact hw) ⟨.ref a,H,I,rfl,xr af r ?_⟩⟩
   have e:zS xs lo hi=xs:=by
    unfold zS;rw[t.length,hw.1,hw.2,← t.length];simp
   rw[e];exact p0
  ·exact EN pins s σ H _ v vl vu lo hi sl Q I rx hs pl pu ⟨a,vs,rfl,wQ r.sub q,hw,fun b hb=>bY r hb (qF.cut t lo hi) af⟩
 |_=>exact An af
theorem JQ {lo hi:Al By}{fl fh:DO}(he:PE X e (tD X fe))(hl:PO X lo (tDO X fl))(hu:PO X hi (tDO X fh)):PE X (.Subscript e (.Slice lo hi none p2) pos) (tD X (dSl fe fl fh)):=
 peW (G8 O0 he hl hu) fun σ H Q ⟨P,α,env,S,r,re,af⟩=>by
  refine⟨P,α,env,S,r,re,?_⟩;have af':qI X P α ((fe env S).bind fun d S1=>(fl env S1).bind fun lo S2=>(fh env S2).bind fun hi S3=>gSl d lo hi S3) (OkV X P α Q):=af;cases q:fe env S with
  |bad=>rw[q] at af';exact af'
  |ex c x S'=>rw[q] at af';exact af'
  |ok d S1 =>
   rw[q] at af';intro v H1 P1 α1 r1 e1 e2 rp;refine⟨P1,α1,env,S1,r1,re.mono e1 e2,?_⟩;have af2:qI X P1 α1 ((fl env S1).bind fun lo S2=>(fh env S2).bind fun hi S3=>gSl d lo hi S3) (OkV X P1 α1 Q):=zA.base e1 e2 af';cases q2:fl env S1 with
   |bad=>rw[q2] at af2;exact af2
   |ex c x S'=>rw[q2] at af2;exact af2
   |ok l S2 =>
    rw[q2] at af2;intro H2 P2 α2 r2 e3 e4;refine⟨P2,α2,env,S2,r2,(re.mono e1 e2).mono e3 e4,?_⟩;have af3:qI X P2 α2 ((fh env S2).bind fun hi S3=>gSl d l hi S3) (OkV X P2 α2 Q):=zA.base e3 e4 af2;cases q3:fh env S2 with
    |bad=>rw[q3] at af3;exact af3
    |ex c x S'=>rw[q3] at af3;exact af3
    |ok u S3 =>
     rw[q3] at af3;intro H3 P3 α3 r3 e5 e6;exact⟨P3,α3,S3,d,r3,Rep.mono (e3.trans e5) (e4.trans e6) _ _ rp,zA.base e5 e6 af3⟩
end
end _D
namespace _D
open PySem PySem.Spec PyProof.Rows _L
def zT (tp:Aq)(h:Bs)(it l:Af)(k:Ai):Prop:=if tp then h.IsTupleIter it l k else h.IsListIter it l k
def wR (tp:Aq)(h:Bs)(l:Af)(xs:Aw Ac):Prop:=if tp then h.IsTuple l xs else h.IsList l xs
theorem zT.keep {tp:Aq}{h h':Bs}{it l:Af}{k:Ai}(x:zT tp h it l k)(q:∀ o,h.get? it=Aa o→h'.get? it=Aa o):zT tp h' it l k:=by
 cases tp <;> (obtain⟨o,e,r⟩:=x;exact⟨o,q o e,r⟩)
theorem wR.keep {tp:Aq}{h h':Bs}{l:Af}{xs:Aw Ac}(x:wR tp h l xs)(q:∀ o,h.get? l=Aa o→h'.get? l=Aa o):wR tp h' l xs:=by
 cases tp <;> (obtain⟨o,e,r⟩:=x;exact⟨o,q o e,r⟩)
theorem zT.there {tp:Aq}{h:Bs}{it l:Af}{k:Ai}(x:zT tp h it l k):∃ o,h.get? it=Aa o∧∀ v,o.data≠.cell v:=by
 cases tp <;> (obtain⟨o,e,_,d⟩:=x;exact⟨o,e,fun v z=>by rw[d] at z;cases z⟩)
section
variable {prog:Bm}{w:Cb}{A:Bz}{E:Ac→Ag→Prop}{s:Ag}
theorem KU {it t:Af}{i:Ai}{items:Aw Ac}{x:Ac}{Q:Ac→Ag→Prop}(hit:s.heap.IsTupleIter it t i)(ht:s.heap.IsTuple t items)(hx:items[i]? = Aa x)
  (hQ:∀ h',h'.IsTupleIter it t (i+1)→Fa it s.heap h'→Q x { s with heap:=h' }) : Ao (Au prog w) A (Eb (.ref it)) Q E s:=by
 obtain⟨o,e,c,d⟩:=id hit;obtain⟨u,eu,_,m,du⟩:=ht;unfold Eb;refine Ad (Dz (name:=Hl "__next__") hit.typeIs Il (Ei Il hit.typeIs OU ?_ (Oq _)));show Ao _ _ (field (.ref it) 0 >>= _) _ _ s;refine Ad (Dx e d (x:=.ref t) rfl ?_);show Ao _ _ (if (Dc t == Dj)=true then _ else _) _ _ s;rw[Bk (show ¬ ((Dc t == Dj)=true) from Gs)]
 show Ao _ _ (field (.ref it) 1 >>= _) _ _ s;refine Ad (Dx e d (x:=.int i 0) rfl ?_);show Ao _ _ (Zu (.ref t) >>= _) _ _ s;refine Ad (Hc eu du ?_);simp only[Gh,hx];refine Ad (Mb e d (by simp) (Am ⟨x,rfl,Am (hQ _ ⟨_,Fz _ e (Obj.isFreed_of_fields (Vn d _)),(Obj.cls_mapFields ..).trans c,?_⟩ (Hg ..))⟩))
 rw[Vn d];simp[Mu]
theorem aR {it t:Af}{i:Ai}{items:Aw Ac}{Q:Ac→Ag→Prop}(hh:A.handled=none)(hit:s.heap.IsTupleIter it t i)(ht:s.heap.IsTuple t items)(hx:items[i]? = none)
  (hE:∀ h' e,Heap.ExtBut it s.heap h'→(∃ o,h'.get? e=Aa o∧o.cls=.type "StopIteration")→E (.ref e) { s with heap:=h' }) : Ao (Au prog w) A (Eb (.ref it)) Q E s:=by
 obtain⟨o,e,c,d⟩:=id hit;obtain⟨u,eu,_,m,du⟩:=ht;unfold Eb;refine Ad (Dz (name:=Hl "__next__") hit.typeIs Il (Ei Il hit.typeIs OU ?_ (Oq _)));show Ao _ _ (field (.ref it) 0 >>= _) _ _ s;refine Ad (Dx e d (x:=.ref t) rfl ?_);show Ao _ _ (if (Dc t == Dj)=true then _ else _) _ _ s;rw[Bk (show ¬ ((Dc t == Dj)=true) from Gs)]
 show Ao _ _ (field (.ref it) 1 >>= _) _ _ s;refine Ad (Dx e d (x:=.int i 0) rfl ?_);show Ao _ _ (Zu (.ref t) >>= _) _ _ s;refine Ad (Hc eu du ?_);simp only[Gh,hx];refine Ad (He (Ad (Mb e d (by simp) ?_)))
 show Ao _ _ (newExc (.type "StopIteration") [] >>= _) _ _ _;refine Ad ?_;simp only[newExc,newTuple];refine Ad (Du ?_ (by size_fits))
 refine Ad (m:=OV _ _) (Pm (a:=Dj) (by first|rfl|(simp only[OV];rfl)) (Du ?_ (by size_fits)))
 simp only[raiseNew];refine Ad (wpAny_handled ?_)
 first|rw[show A.in1.handled=none from hh]|rw[hh]
 exact Ad (Am (wpAny_throw (hE _ _ (((Hg ..).extBut.push _).push _) ⟨_,Be _ rfl,rfl⟩)))
theorem bV {tp:Aq}{it l:Af}{k:Ai}{xs:Aw Ac}{x:Ac}{Q:Ac→Ag→Prop}(hit:zT tp s.heap it l k)(hl:wR tp s.heap l xs)(hx:xs[k]? = Aa x)
  (hQ:∀ h',zT tp h' it l (k+1)→Fa it s.heap h'→Q x { s with heap:=h' }) : Ao (Au prog w) A (Eb (.ref it)) Q E s:=by
 cases tp with
 |false=>exact wpAny_nextOf_list_item hit hl hx hQ
 |true=>exact KU hit hl hx hQ
theorem gL {tp:Aq}{it l:Af}{k:Ai}{xs:Aw Ac}{Q:Ac→Ag→Prop}(hh:A.handled=none)(hit:zT tp s.heap it l k)(hl:wR tp s.heap l xs)(hx:xs[k]? = none)
  (hE:∀ h' e,Heap.ExtBut it s.heap h'→(∃ o,h'.get? e=Aa o∧o.cls=.type "StopIteration")→E (.ref e) { s with heap:=h' }) : Ao (Au prog w) A (Eb (.ref it)) Q E s:=by
 cases tp with
 |false=>exact wpAny_nextOf_list_end hh hit hl hx hE
 |true=>exact aR hh hit hl hx hE
structure ZA (z I O i j:Af):Prop where
 Iz:I≠z
 Oz:O≠z
 iz:i≠z
 jz:j≠z
 IO:I≠O
 Ii:I≠i
 Ij:I≠j
 Oi:O≠i
 Oj:O≠j
 ij:i≠j
structure Off (z O i j a:Af):Prop where
 z:a≠z
 O:a≠O
 i:a≠i
 j:a≠j
abbrev UT (z O i j:Af)(h h':Bs):Prop:=∀ c o,c≠z→c≠O→c≠i→c≠j→h.get? c=Aa o→h'.get? c=Aa o
theorem PL {tp tq:Aq}{z I O i j a b:Af}{k:Ai}{xs ys:Aw Ac}{x y p q:Ac}{Q:Ac→Ag→Prop}(D:ZA z I O i j)(Da:Off z O i j a)(Db:Off z O i j b)
  (hz:OW s.heap z I O .none) (hI:Im s.heap I (.ref i) (.ref j)) (hO:Im s.heap O p q) (h1:zT tp s.heap i a k) (h2:zT tq s.heap j b k) (ha:wR tp s.heap a xs) (hb:wR tq s.heap b ys) (hx:xs[k]? = Aa x) (hy:ys[k]? = Aa y)
  (hQ:∀ h',OW h' z I O (Mu s.heap.objs.size)→Im h' O x y→zT tp h' i a (k+1)→zT tq h' j b (k+1)→Im h' s.heap.objs.size x y→h'.objs.size=s.heap.objs.size+1→UT z O i j s.heap h'→Q (.ref s.heap.objs.size) { s with heap:=h' }) :
  Ao (Au prog w) A (Hs.«zip.__next__» ⟨[.ref z],[]⟩) (fun fin s'=>∃ v,fin=.done (.ret v)∧Q v s') E s:=by
 show Ao _ _ (field (.ref z) 2 >>= _) _ _ _;refine Ad (Dx hz rfl (x:=.bool false) rfl ?_);show Ao _ _ (field (.ref z) 3 >>= _) _ _ _;refine Ad (Dx hz rfl (x:=.ref I) rfl (Ad (Hc hI rfl ?_)));show Ao _ _ (Es (.ref z) >>= _) _ _ _;refine Ad ?_;unfold Es;refine Ad (Dx hz rfl (x:=.none) rfl (Am ?_));simp only[Dq];refine Ad (He (Ad (Dx hz rfl (x:=.ref O) rfl (Ad (Fb hz (by simp) fun g1 z1 s1=>?_)))))
 replace z1:OW g1 z I O .ellipsis:=z1
 refine Ad ?_;simp only[Ri,Yh,Sc,To];refine Ad (Ad (Qi ?_));show Ao _ _ (Eb (.ref i) >>= _) _ _ _;refine Ad (bV (h1.keep fun o e=>s1.extBut _ _ D.iz e) (ha.keep fun o e=>s1.extBut _ _ Da.z e) hx fun g2 i2 s2=>Am ?_);have O2:Im g2 O p q:=s2.extBut _ _ D.Oi (s1.extBut _ _ D.Oz hO);refine Ad (Hc O2 rfl (Ad (Nu O2 fun g3 O3 s3=>Ad (Sy (Am ?_)))))
 replace O3:Im g3 O x q:=O3
 refine Ad (Ad (Qi ?_));show Ao _ _ (Eb (.ref j) >>= _) _ _ _;refine Ad (bV (h2.keep fun o e=>s3.extBut _ _ D.Oj.symm (s2.extBut _ _ D.ij.symm (s1.extBut _ _ D.jz e))) (hb.keep fun o e=>s3.extBut _ _ Db.O (s2.extBut _ _ Db.i (s1.extBut _ _ Db.z e))) hy fun g4 j4 s4=>Am ?_);have O4:Im g4 O x q:=s4.extBut _ _ D.Oj O3;refine Ad (Hc O4 rfl (Ad (Nu O4 fun g5 O5 s5=>Ad (Sy (Am (Am ?_))))))
 replace O5:Im g5 O x y:=O5
 refine Ad (Hc O5 rfl (Ad (Tp ?_)));have sz:g5.objs.size=s.heap.objs.size:=by rw[s5.1,s4.1,s3.1,s2.1,s1.1]
 have z5:OW g5 z I O .ellipsis:=s5.extBut _ _ D.Oz.symm (s4.extBut _ _ D.jz.symm (s3.extBut _ _ D.Oz.symm (s2.extBut _ _ D.iz.symm z1)));have k5:UT z O i j s.heap g5:=fun c o c1 c2 c3 c4 e=>s5.extBut _ _ c2 (s4.extBut _ _ c4 (s3.extBut _ _ c2 (s2.extBut _ _ c3 (s1.extBut _ _ c1 e))));have i5:zT tp g5 i a (k+1):=i2.keep fun o e=>s5.extBut _ _ D.Oi.symm (s4.extBut _ _ D.ij (s3.extBut _ _ D.Oi.symm e));have j5:zT tq g5 j b (k+1):=j4.keep fun o e=>s5.extBut _ _ D.Oj.symm e;have zl:z<g5.objs.size:=Ba z5;show Ao _ _ (Gq (.ref z) (.ref g5.objs.size) >>= _) _ _ _;refine Ad ?_;unfold Gq;have z6:OW (g5.push { cls:=.type "tuple",data:=.seq #[x,y] }) z I O .ellipsis:=Ah _ z5;refine Ad (Fb z6 (by simp) fun g7 z7 s7=>?_)
 replace z7:OW g7 z I O (Mu g5.objs.size):=z7
 refine Fb z7 (by simp) fun g8 z8 s8=>?_
 replace z8:OW g8 z I O (Mu g5.objs.size):=z8
 have up:∀ c o,c≠z→g5.get? c=Aa o→g8.get? c=Aa o:=fun c o c1 e=>s8.extBut _ _ c1 (s7.extBut _ _ c1 (Ah _ e));have T8:Im g8 g5.objs.size x y:=s8.extBut _ _ (Gz zl) (s7.extBut _ _ (Gz zl) (Be _ rfl));have sz8:g8.objs.size=g5.objs.size+1:=by rw[s8.1,s7.1,En]
 rw[sz] at z8 T8 sz8;refine Am ⟨_,rfl,?_⟩;show Q (.ref g5.objs.size) _;rw[sz];exact hQ g8 z8 (up _ _ D.Oz O5) (i5.keep fun o e=>up _ o D.iz e) (j5.keep fun o e=>up _ o D.jz e) T8 sz8 fun c o c1 c2 c3 c4 e=>up c o c1 (k5 c o c1 c2 c3 c4 e)
end
section
variable {prog:Bm}{w:Cb}{A:Bz}{E:Ac→Ag→Prop}{s:Ag}
theorem PM {tp tq:Aq}{z I O i j a b:Af}{k:Ai}{xs ys:Aw Ac}{p q:Ac}{Q:Fin→Ag→Prop}(hh:A.handled=none)(D:ZA z I O i j)(Da:Off z O i j a)(Db:Off z O i j b)
  (hz:OW s.heap z I O .none) (hI:Im s.heap I (.ref i) (.ref j)) (hO:Im s.heap O p q) (h1:zT tp s.heap i a k) (h2:zT tq s.heap j b k) (ha:wR tp s.heap a xs) (hb:wR tq s.heap b ys) (hend:xs[k]? = none∨ys[k]? = none)
  (hE:∀ h' e,UT z O i j s.heap h'→(∃ o,h'.get? e=Aa o∧o.cls=.type "StopIteration")→E (.ref e) { s with heap:=h' }) : Ao (Au prog w) A (Hs.«zip.__next__» ⟨[.ref z],[]⟩) Q E s:=by
 show Ao _ _ (field (.ref z) 2 >>= _) _ _ _;refine Ad (Dx hz rfl (x:=.bool false) rfl ?_);show Ao _ _ (field (.ref z) 3 >>= _) _ _ _;refine Ad (Dx hz rfl (x:=.ref I) rfl (Ad (Hc hI rfl ?_)));show Ao _ _ (Es (.ref z) >>= _) _ _ _;refine Ad ?_;unfold Es;refine Ad (Dx hz rfl (x:=.none) rfl (Am ?_));simp only[Dq];refine Ad (He (Ad (Dx hz rfl (x:=.ref O) rfl (Ad (Fb hz (by simp) fun g1 z1 s1=>?_)))))
 replace z1:OW g1 z I O .ellipsis:=z1
 refine Ad ?_;simp only[Ri,Yh,Sc,To];refine Ad (Ad (Qi ?_));show Ao _ _ (Eb (.ref i) >>= _) _ _ _;have it1:zT tp g1 i a k:=h1.keep fun o e=>s1.extBut _ _ D.iz e;have sq1:wR tp g1 a xs:=ha.keep fun o e=>s1.extBut _ _ Da.z e;cases hx:xs[k]? with
 |none =>
  refine Ad (gL hh it1 sq1 hx fun g2 e x2 he=>?_);obtain⟨oe,h3,h4⟩:=he;have z2:OW g2 z I O .ellipsis:=x2 _ _ D.iz.symm z1;have ne:e≠z:=fun y=>by subst y;rw[z2] at h3;cases h3;simp at h4
  exact Fb z2 (by simp) fun g3 _ s3=>hE g3 e (fun c o c1 _ c3 _ y=>s3.extBut _ _ c1 (x2 _ _ c3 (s1.extBut _ _ c1 y))) ⟨oe,s3.extBut _ _ ne h3,h4⟩
 |some x =>
  have hy:ys[k]? = none:=by
   rcases hend with y|y
   ·rw[hx] at y;cases y
   ·exact y
  refine Ad (bV it1 sq1 hx fun g2 i2 s2=>Am ?_);have O2:Im g2 O p q:=s2.extBut _ _ D.Oi (s1.extBut _ _ D.Oz hO);refine Ad (Hc O2 rfl (Ad (Nu O2 fun g3 O3 s3=>Ad (Sy (Am ?_)))));refine Ad (Ad (Qi ?_));show Ao _ _ (Eb (.ref j) >>= _) _ _ _;refine Ad (gL hh (h2.keep fun o e=>s3.extBut _ _ D.Oj.symm (s2.extBut _ _ D.ij.symm (s1.extBut _ _ D.jz e))) (hb.keep fun o e=>s3.extBut _ _ Db.O (s2.extBut _ _ Db.i (s1.extBut _ _ Db.z e))) hy fun g4 e x4 he=>?_);obtain⟨oe,h3,h4⟩:=he;have z4:OW g4 z I O .ellipsis:=x4 _ _ D.jz.symm (s3.extBut _ _ D.Oz.symm (s2.extBut _ _ D.iz.symm z1));have ne:e≠z:=fun y=>by subst y;rw[z4] at h3;cases h3;simp at h4
  exact Fb z4 (by simp) fun g5 _ s5=>hE g5 e (fun c o c1 c2 c3 c4 y=>s5.extBut _ _ c1 (x4 _ _ c4 (s3.extBut _ _ c2 (s2.extBut _ _ c3 (s1.extBut _ _ c1 y))))) ⟨oe,s5.extBut _ _ ne h3,h4⟩
abbrev jT (tp:Aq)(l:Af):Cq:={ cls:=.type (if tp then "tuple_iterator" else "list_iterator"),data:=.fields #[.ref l,.int 0 0] }
abbrev zh1 (tp:Aq)(h:Bs)(a:Af):Bs:=h.push (jT tp a)
abbrev zh2 (tp tq:Aq)(h:Bs)(a b:Af):Bs:=(zh1 tp h a).push (jT tq b)
abbrev zh3 (tp tq:Aq)(h:Bs)(a b:Af):Bs:=(zh2 tp tq h a b).push { cls:=.type "tuple",data:=.seq #[.ref h.objs.size,.ref (zh1 tp h a).objs.size] }
abbrev zh4 (tp tq:Aq)(h:Bs)(a b:Af):Bs:=(zh3 tp tq h a b).push { cls:=.type "tuple",data:=.seq #[.none,.none] }
abbrev zh5 (tp tq:Aq)(h:Bs)(a b:Af):Bs:=(zh4 tp tq h a b).push { cls:=.type "zip",data:=.fields #[.none,.bool false,.bool false,.ref (zh2 tp tq h a b).objs.size,.ref (zh3 tp tq h a b).objs.size] }
set_option maxHeartbeats 4000000 in
theorem LC (tp:Aq)(a b:Af)(xs ys:Aw Ac) :
  Meets (Hs.«zip.__new__» ⟨[.type "zip",.ref a,.ref b],[]⟩) (fun _ R s=>wR tp s.heap a xs∧wR tp s.heap b ys∧R (.ok (.ret (.ref (zh4 tp tp s.heap a b).objs.size))) { s with heap:=zh5 tp tp s.heap a b }):=
 .of_wp fun prog w A R s h=>by
  obtain⟨hp,g,d,tk,os⟩:=s;obtain⟨q1,q2,h⟩:=h;have hsub:=sub_zip;have e2:∀ ob:Cq,wR tp (hp.push ob) b ys:=fun ob=>q2.keep fun o e=>Ah _ e;cases tp
  ·have l1:Xp (Nh ⟨hp,g,d,tk,os⟩) a xs:=q1
   have l2:Xp (Nh ⟨hp.push { cls:=.type "list_iterator",data:=.fields #[.ref a,.int 0 0] },g,d,tk,os⟩) b ys:=e2 _
   wp_walk using Gk l1,Gk l2
   exact⟨_,rfl,h⟩
  ·have l1:Wa (Nh ⟨hp,g,d,tk,os⟩) a xs:=q1
   have l2:Wa (Nh ⟨hp.push { cls:=.type "tuple_iterator",data:=.fields #[.ref a,.int 0 0] },g,d,tk,os⟩) b ys:=e2 _
   wp_walk using Gu l1,Gu l2
   exact⟨_,rfl,h⟩
theorem bQ {tp:Aq}{h:Bs}{it l:Af}(e:h.get? it=Aa (jT tp l)):zT tp h it l 0:=by
 cases tp
 ·exact⟨_,e,rfl,rfl⟩
 ·exact⟨_,e,rfl,rfl⟩
theorem J9 {tp:Aq}{a b:Af}{xs ys:Aw Ac}{Q:Ac→Ag→Prop}(ha:wR tp s.heap a xs)(hb:wR tp s.heap b ys)
  (h:∀ h',OW h' (s.heap.objs.size+4) (s.heap.objs.size+2) (s.heap.objs.size+3) .none→Im h' (s.heap.objs.size+2) (.ref s.heap.objs.size) (.ref (s.heap.objs.size+1)) →
   Im h' (s.heap.objs.size+3) .none .none→zT tp h' s.heap.objs.size a 0→zT tp h' (s.heap.objs.size+1) b 0→h'.objs.size=s.heap.objs.size+5→(∀ c o,s.heap.get? c=Aa o→h'.get? c=Aa o)→Q (.ref (s.heap.objs.size+4)) { s with heap:=h' }) :
  Ao (Au prog w) A (call (.type "zip") [.ref a,.ref b]) Q E s:=by
 refine callType_new F.called_zip (by decide) (F.typeCall_zip_2 _ _) (F.newCall_zip_2 _ _) (fun obj=>F.args_object_init_3 obj _ _) F.entry_zip_new (LC tp a b xs ys) ⟨ha,hb,?_⟩
 have y1:(zh1 tp s.heap a).objs.size=s.heap.objs.size+1:=En ..;have y2:(zh2 tp tp s.heap a b).objs.size=s.heap.objs.size+2:=by rw[En,y1]
 have y3:(zh3 tp tp s.heap a b).objs.size=s.heap.objs.size+3:=by rw[En,y2]
 have y4:(zh4 tp tp s.heap a b).objs.size=s.heap.objs.size+4:=by rw[En,y3]
 have y5:(zh5 tp tp s.heap a b).objs.size=s.heap.objs.size+5:=by rw[En,y4]
 have g5:(zh5 tp tp s.heap a b).get? (zh4 tp tp s.heap a b).objs.size=Aa _:=Be _ rfl;have g4:(zh5 tp tp s.heap a b).get? (zh3 tp tp s.heap a b).objs.size=Aa _:=Ah _ (Be _ rfl);have g3:(zh5 tp tp s.heap a b).get? (zh2 tp tp s.heap a b).objs.size=Aa _:=Ah _ (Ah _ (Be _ rfl));have g2:(zh5 tp tp s.heap a b).get? (zh1 tp s.heap a).objs.size=Aa (jT tp b):=Ah _ (Ah _ (Ah _ (Be _ rfl)));have g1:(zh5 tp tp s.heap a b).get? s.heap.objs.size=Aa (jT tp a):=Ah _ (Ah _ (Ah _ (Ah _ (Be _ rfl))));have kp:∀ c o,s.heap.get? c=Aa o→(zh5 tp tp s.heap a b).get? c=Aa o:=fun c o e=>Ah _ (Ah _ (Ah _ (Ah _ (Ah _ e))));show _∧_;rw[y2,y3,y4] at g5;rw[y1,y2] at g3;rw[y3] at g4;rw[y1] at g2;rw[y4];exact⟨⟨_,g5,rfl⟩,h _ g5 g3 g4 (bQ g1) (bQ g2) y5 kp⟩
end
def Sq (tp:Aq)(K:Ak)(H:Hp)(a:Af)(xs:Ab V):Prop:=if tp then SqT K H a xs else SqL K H a xs
section
variable {X:Cx}{pins:Ab (Af × Cq)}{σ : _L.St}{H:Hp}{s:Ag}
theorem Sq.at {tp:Aq}{a:Af}{xs:Ab V}(I:Inv X pins σ H s)(q:Sq tp X.K H a xs):∃ its,qL xs its∧wR tp s.heap a its.toArray:=by
 cases tp with
 |true =>
  obtain⟨its,rv,p,_⟩:=I.tuple q;exact⟨its,rv,p⟩
 |false =>
  obtain⟨its,rv,p,_⟩:=I.list q;exact⟨its,rv,p.isList⟩
theorem Sq.inj {tp:Aq}{a:Af}{xs ys:Ab V}(I:Inv X pins σ H s)(q:Sq tp X.K H a xs)(q':Sq tp X.K H a ys):xs=ys:=by
 cases tp with
 |true=>exact I.tuple_inj q q'
 |false=>exact I.list_inj q q'
theorem Sq.off {tp:Aq}{a b:Af}{xs:Ab V}(I:Inv X pins σ H s)(q:Sq tp X.K H a xs)(f:wH X pins H b):a≠b:=by
 have key:H a≠none∨∃ o,X.K.lookup a=Aa o:=by
  cases tp with
  |true =>
   rcases q with (q|⟨o,q⟩)|⟨o,_,_,q,_⟩
   ·exact .inl (by rw[q];intro z;cases z)
   ·exact .inl (by rw[q];intro z;cases z)
   ·exact .inr ⟨_,q⟩
  |false =>
   rcases q with (q|⟨o,q⟩)|⟨o,_,_,q,_⟩
   ·exact .inl (by rw[q];intro z;cases z)
   ·exact .inl (by rw[q];intro z;cases z)
   ·exact .inr ⟨_,q⟩
 rintro rfl;rcases key with k|⟨o,k⟩
 ·exact k f.1
 ·have e:=I.mod.kin a o k
  rcases f.2.2.2.1 with z|z
  ·exact I.ok.noex a o e z
  ·exact absurd (Ba (I.ok.bs a o e).1) (Rf.mpr z)
theorem Inv.turnLay {fp:Ab Af}{h':Bs}{T:Af}{xs:Ab V}{its:Ab Ac}(I:Inv X pins σ H s)(hf:∀ b∈fp,wH X pins H b)(k:∀ b o,b ∉ fp→s.heap.get? b=Aa o→h'.get? b=Aa o)(th:∀ b∈fp,∃ o,h'.get? b=Aa o)
  (hT:s.heap.objs.size≤T) (rv:qL xs its) (hx:Ow h' T its.toArray) (hz:xs.length≤sizeLine):Inv X pins σ (upd H T (.tup xs)) { s with heap:=h' }:=by
 have hn:H T=none:=I.hok.fresh hT;have ne:∀ b o,s.heap.get? b=Aa o→b≠T:=fun b o e=>Cy (Bt (Ba e) hT);refine I.step (g':=s.gens) (d':=s.drawn) (t':=s.toks) (ch:=fp) (fun b hb=>⟨(hf b hb).2.2.2.1,(hf b hb).2.1,(hf b hb).2.2.2.2.1,(hf b hb).2.2.2.2.2⟩) (fun b o _ _ hc e _=>k b o hc e) (fun b o _ _ hc e _=>⟨o.slots,k b o hc e⟩)
  (fun b o _ e n=>by rw[qP (ne b o e)];exact n) (fun b o hc e=>⟨o,k b o hc e⟩) (fun b ys e=>by rw[qP (zM e hn)];exact e) (fun b o u e=>by rw[qP (zM e hn)];exact e)
  (fun b ps e=>⟨#[],by rw[qP (zM e hn),e];simp⟩) (fun m hm=>?_) (fun b u e=>?_) I.bare
 ·obtain⟨o,es,ep,ho,r⟩:=hm
  exact⟨o,es,ep,k _ o (fun z=>(hf _ z).2.1 rfl) ho,r⟩
 ·by_cases hb:b=T
  ·subst hb
   rw[zD] at e;cases e;exact⟨hz,its,rv,hx⟩
  ·rw[qP hb] at e
   refine(I.hok b u e).stay (fun c v hc q=>k c v (fun z=>?_) q) (fun c q=>by rw[qP (zM q hn)];exact q) fun c ys q=>by rw[qP (zM q hn)];exact q
   have hcn:=(hf c z).1;rcases hc with rfl|hc
   ·rw[hcn] at e;cases e
   ·rw[hcn] at hc;cases hc
theorem Inv.turnL {fp:Ab Af}{h':Bs}(I:Inv X pins σ H s)(hf:∀ b∈fp,wH X pins H b)(k:∀ b o,b ∉ fp→s.heap.get? b=Aa o→h'.get? b=Aa o):Inv X pins σ H { s with heap:=h' }:=by
 refine I.step (g':=s.gens) (d':=s.drawn) (t':=s.toks) (ch:=fp) (fun b hb=>⟨(hf b hb).2.2.2.1,(hf b hb).2.1,(hf b hb).2.2.2.2.1,(hf b hb).2.2.2.2.2⟩) (fun b o _ _ hc e _=>k b o hc e) (fun b o _ _ hc e _=>⟨o.slots,k b o hc e⟩)
  (fun b o _ e n=>n) (fun b o hc e=>⟨o,k b o hc e⟩) (fun b ys e=>e) (fun b o u e=>e) (fun b ps e=>⟨#[],by rw[e];simp⟩) (fun m hm=>?_) (fun b u e=>?_) I.bare
 ·obtain⟨o,es,ep,ho,r⟩:=hm
  exact⟨o,es,ep,k _ o (fun z=>(hf _ z).2.1 rfl) ho,r⟩
 ·refine(I.hok b u e).stay (fun c v hc q=>k c v (fun z=>?_) q) (fun c q=>q) fun c ys q=>q
  have hcn:=(hf c z).1;rcases hc with rfl|hc
  ·rw[hcn] at e;cases e
  ·rw[hcn] at hc;cases hc
end
def Itz (tp:Aq)(K:Ak)(a b:Af):It:=
  ⟨fun i H=>∃ xs ys x y,Sq tp K H a xs∧Sq tp K H b ys∧xs[i]? = Aa x∧ys[i]? = Aa y,
   fun i H v H'=>∃ T x y,v=.ref T∧H T=none∧H'=upd H T (.tup [x,y])∧(∀ xs,Sq tp K H a xs→xs[i]? = Aa x)∧∀ ys,Sq tp K H b ys→ys[i]? = Aa y,
   fun i H=>∃ xs ys,Sq tp K H a xs∧Sq tp K H b ys∧(xs.length≤i∨ys.length≤i)⟩
def ZT (tp:Aq)(z I O i j a b:Af)(k:Ai)(h:Bs):Prop:=∃ p q,OW h z I O .none∧Im h I (.ref i) (.ref j)∧Im h O p q∧zT tp h i a k∧zT tp h j b k
theorem mL {tp:Aq}{z I O i j a b:Af}{k:Ai}{h:Bs}(st:ZT tp z I O i j a b k h):∀ c∈[z,I,O,i,j],∃ o,h.get? c=Aa o∧∀ v,o.data≠.cell v:=fun c hc=>by
 obtain⟨p,q,s1,s2,s3,s4,s5⟩:=st;simp only[Av,Ce,Ez] at hc;rcases hc with rfl|rfl|rfl|rfl|rfl
 ·exact⟨_,s1,fun v y=>by cases y⟩
 ·exact⟨_,s2,fun v y=>by cases y⟩
 ·exact⟨_,s3,fun v y=>by cases y⟩
 ·exact s4.there
 ·exact s5.there
theorem BF {c z I O i j:Af}(h:c ∉ [z,I,O,i,j]):c≠z∧c≠O∧c≠i∧c≠j:=by
 simp only[Av,Ce,Ez,Sz] at h;exact⟨h.1,h.2.2.1,h.2.2.2.1,h.2.2.2.2⟩
theorem PD {P:Bm}{w:Cb}{K:Ak}{elts:Ab By}{x1:Ai}{tpos:Fk}{tp:Aq}{z I O i j a b:Af}(D:ZA z I O i j):Turn P w K (.Tuple elts x1 tpos) (Itz tp K a b) [z,I,O,i,j] z (ZT tp z I O i j a b) where
 mem:=.head _
 obj:=fun k h st=>mL st
 keep:=fun k h h' st kp=>by
  obtain⟨p,q,s1,s2,s3,s4,s5⟩:=st;exact⟨p,q,kp z (.head _) _ s1,kp I (.tail _ (.head _)) _ s2,kp O (.tail _ (.tail _ (.head _))) _ s3,s4.keep fun o e=>kp i (.tail _ (.tail _ (.tail _ (.head _)))) o e,s5.keep fun o e=>kp j (.tail _ (.tail _ (.tail _ (.tail _ (.head _))))) o e⟩
 item:=by
  intro X hP hw hK hc k pins s σ H E Iv hf st hg;subst hP hw hK;obtain⟨p,q,s1,s2,s3,s4,s5⟩:=st;obtain⟨xs,ys,x,y,qa,qb,hx,hy⟩:=hg;obtain⟨ia,ra,ha⟩:=qa.at Iv;obtain⟨ib,rb,hb⟩:=qb.at Iv;obtain⟨u,hu,ru⟩:=ra.get hx;obtain⟨u',hu',ru'⟩:=rb.get hy;have off:∀ {c:Af} {zs:Ab V},Sq tp X.K H c zs→Off z O i j c:=fun {c zs} qc=>⟨qc.off Iv (hf z (.head _)),qc.off Iv (hf O (.tail _ (.tail _ (.head _)))),qc.off Iv (hf i (.tail _ (.tail _ (.tail _ (.head _))))),qc.off Iv (hf j (.tail _ (.tail _ (.tail _ (.tail _ (.head _))))))⟩;have hT:s.TypeIs (.ref z) "zip":=⟨_,s1,rfl⟩;unfold Ly;refine Ad (HT (Dz (name:=Hl "__next__") hT Ob (Ei Ob hT Xq
   (PL D (off qa) (off qb) s1 s2 s3 s4 s5 ha hb (by simpa using hu) (by simpa using hu') fun h' a1 a2 a3 a4 a5 a6 a7=>Am ?_) (Wt _))))
  refine⟨_,rfl,wpAny_letOwnedTupleGo_zip (s:={ s with heap:=h' }) a1 fun h2 b1 b2=>?_⟩
  have up:∀ c o,c≠z→h'.get? c=Aa o→h2.get? c=Aa o:=fun c o n e=>(b2.2 c n).trans e;have zl:z<s.heap.objs.size:=Ba s1;have T2:Im h2 s.heap.objs.size u u':=up _ _ (Gz zl) a5;have st2:ZT tp z I O i j a b (k+1) h2:=⟨u,u',b1,up _ _ D.Iz (a7 I _ D.Iz D.IO D.Ii D.Ij s2),up _ _ D.Oz a2,a3.keep fun o e=>up _ o D.iz e,a4.keep fun o e=>up _ o D.jz e⟩;refine⟨.ref s.heap.objs.size,upd H s.heap.objs.size (.tup [x,y]),?_,rfl,⟨_,x,y,rfl,Iv.hok.fresh (As _),rfl,fun zs qz=>by rw[qz.inj Iv qa];exact hx,fun zs qz=>by rw[qz.inj Iv qb];exact hy⟩,st2,fun c hc=>?_⟩
  ·show _L.Inv X pins σ (upd H s.heap.objs.size (.tup [x,y])) { s with heap:=h2 }
   refine Inv.turnLay (fp:=[z,I,O,i,j]) (its:=[u,u']) Iv hf (fun c o hc e=>?_) (fun c hc=>?_) (As _) (.cons ru (.cons ru' .nil)) ⟨_,T2,rfl,_,rfl⟩ (by show 2≤sizeLine;decide)
   ·have hc:=BF hc
    exact up c o hc.1 (a7 c o hc.1 hc.2.1 hc.2.2.1 hc.2.2.2 e)
   ·obtain⟨o,e,_⟩:=mL st2 c hc
    exact⟨o,e⟩
  ·have hn:=(hf c hc).1
   rw[qP ?_]
   ·exact hn
   ·rintro rfl
    obtain⟨o,e,_⟩:=mL ⟨p,q,s1,s2,s3,s4,s5⟩ _ hc;exact absurd (Ba e) (Eu _)
 done:=by
  intro X hP hw hK hc k pins s σ H E Iv hf st hg;subst hP hw hK;obtain⟨p,q,s1,s2,s3,s4,s5⟩:=st;obtain⟨xs,ys,qa,qb,hend⟩:=hg;obtain⟨ia,ra,ha⟩:=qa.at Iv;obtain⟨ib,rb,hb⟩:=qb.at Iv;have off:∀ {c:Af} {zs:Ab V},Sq tp X.K H c zs→Off z O i j c:=fun {c zs} qc=>⟨qc.off Iv (hf z (.head _)),qc.off Iv (hf O (.tail _ (.tail _ (.head _)))),qc.off Iv (hf i (.tail _ (.tail _ (.tail _ (.head _))))),qc.off Iv (hf j (.tail _ (.tail _ (.tail _ (.tail _ (.head _))))))⟩;have hT:s.TypeIs (.ref z) "zip":=⟨_,s1,rfl⟩;have l1:=ra.length;have l2:=rb.length;unfold Ly;refine Ad (HT (Dz (name:=Hl "__next__") hT Ob (Ei Ob hT Xq
   (PM (Iv.ok.hd hc) D (off qa) (off qb) s1 s2 s3 s4 s5 ha hb ?_ fun h' e kp he=>?_) (Wt _))))
  ·rcases hend with y|y
   ·exact .inl (by simp;omega)
   ·exact .inr (by simp;omega)
  ·obtain⟨o,ho,hcl⟩:=he
   refine Ad (Ni (T:="StopIteration") (b:=true) ⟨o,ho,hcl⟩ Tq (Am ⟨rfl,Inv.turnL (fp:=[z,I,O,i,j]) Iv hf fun c o hc e=>?_⟩));have hc:=BF hc;exact kp c o hc.1 hc.2.1 hc.2.2.1 hc.2.2.2 e
 self:=fun _ _ _ _ _ st h=>by
  obtain⟨p,q,s1,_⟩:=st;exact Xr s1 h
def yT (xs ys:Ab D):Ab D:=List.zipWith (fun x y=>D.tup [x,y]) xs ys
def W6 (ds:Ab D):Al (Ab D):=match ds with
 |[.tup xs,.tup ys]=>Aa (yT xs ys)
 |[.lst xs,.lst ys]=>Aa (yT xs ys)
 |_=>none
def fW (f:DA):DI:=fun env S=>(f env S).bind fun ds S1=>vS (W6 ds) S1
theorem PJ {xs ys:Ab D}{i:Ai}:(yT xs ys)[i]? = match xs[i]?,ys[i]? with|some x,Aa y=>Aa (D.tup [x,y])|_,_=>none:=by
 unfold yT;rw[List.getElem?_zipWith];cases xs[i]? <;> cases ys[i]? <;> rfl
theorem nN (xs ys:Ab D):(yT xs ys).length=min xs.length ys.length:=by simp[yT]
section
variable {K:Ak}
theorem Sq.mono {tp:Aq}{P P':Hp}(e:qH P P'){a:Af}{xs:Ab V}(q:Sq tp K P a xs):Sq tp K P' a xs:=by
 cases tp with
 |true=>exact uC e q
 |false=>exact e.seq q
theorem MZ {tp:Aq}{P:Hp}{α : Ab Af}{a b:Af}{xs ys:Ab D}{vs ws:Ab V}(qa:Sq tp K P a vs)(qb:Sq tp K P b ws)(ta:qF K P α xs vs)(tb:qF K P α ys ws):ItD K (Itz tp K a b) P α (yT xs ys) where
 go:=fun i H P1 α1 S hi r e _=>by
  rw[nN] at hi;have h1:i<vs.length:=by rw[← ta.length];omega
  have h2:i<ws.length:=by rw[← tb.length];omega
  exact⟨vs,ws,vs[i],ws[i],qa.mono (e.trans r.sub),qb.mono (e.trans r.sub),by simp,by simp⟩
 yld:=fun i H x H' P1 α1 S hi r e e2 y=>by
  obtain⟨T,u,w,rfl,hT,rfl,hu,hw⟩:=y;rw[nN] at hi;have h1:i<xs.length:=by omega
  have h2:i<ys.length:=by omega
  obtain⟨v1,z1,p1⟩:=ta.get (Ap h1);obtain⟨v2,z2,p2⟩:=tb.get (Ap h2);have eu:=hu vs (qa.mono (e.trans r.sub));have ew:=hw ws (qb.mono (e.trans r.sub));rw[z1] at eu;cases eu;rw[z2] at ew;cases ew;obtain⟨r1,s1⟩:=r.pure (o:=.tup [u,w]) hT;refine⟨_,.tup [xs[i],ys[i]],?_,r1,s1,?_⟩
  ·rw[PJ,Ap h1,Ap h2]
  ·exact tB (.of zD) (.cons (Rep.mono (e.trans s1) e2 _ _ p1) (.cons (Rep.mono (e.trans s1) e2 _ _ p2) .nil))
 stop:=fun i H P1 α1 S hi r e _=>by
  rw[nN] at hi;have l1:=ta.length;have l2:=tb.length;exact⟨vs,ws,qa.mono (e.trans r.sub),qb.mono (e.trans r.sub),by omega⟩
end
section
variable {X:Cx}{e1 e2:By}{elts:Ab By}{x1:Ai}{tpos:Fk}{f:DA}{p pos:Fk}
theorem UP {tp:Aq}{pins:Ab (Af × Cq)}{σ : _L.St}{H P:Hp}{α : Ab Af}{S:Sto}{s:Ag}{a b:Af}{xs ys:Ab D}{vs ws:Ab V}{R:It→Hp→Prop}(I:Inv X pins σ H s)(r:Rel X.K H P α S)(qa:Sq tp X.K P a vs)(qb:Sq tp X.K P b ws)(ta:qF X.K P α xs vs)(tb:qF X.K P α ys ws)
  (q:OkI X P α R (yT xs ys) S):Ao (Au X.prog X.w) X.A (call (.type "zip") [.ref a,.ref b]) (fun v s1=>Ao (Au X.prog X.w) X.A (Of v) (PIE X pins σ (.Tuple elts x1 tpos) R) X.xe s1) X.xe s:=by
 obtain⟨ia,ra,ha⟩:=(qa.mono r.sub).at I;obtain⟨ib,rb,hb⟩:=(qb.mono r.sub).at I;refine J9 ha hb fun h' z1 z2 z3 z4 z5 z6 z7=>?_;refine Xr (s:={ s with heap:=h' }) z1 ?_
 have D:ZA (s.heap.objs.size+4) (s.heap.objs.size+2) (s.heap.objs.size+3) s.heap.objs.size (s.heap.objs.size+1):=by constructor <;> (intro z;simp at z)
 refine⟨_,[s.heap.objs.size+4,s.heap.objs.size+2,s.heap.objs.size+3,s.heap.objs.size,s.heap.objs.size+1],_,_,H,rfl,I.kept (t':=s.toks) z7,PD (a:=a) (b:=b) D,⟨_,_,z1,z2,z3,z4,z5⟩,fun c hc=>?_,q _ _ P α r (qH.refl _) (Bp _) (MZ qa qb ta tb)⟩;have hl:s.heap.objs.size≤c:=by
  simp only[Av,Ce,Ez] at hc;rcases hc with rfl|rfl|rfl|rfl|rfl <;> simp
 exact I.fpOk hl (I.hok.fresh hl)
inductive ZipV (ds:Ab D)(its:Ab D):Prop
 |tup (xs ys:Ab D) (ed:ds=[.tup xs,.tup ys]) (e:its=yT xs ys)
 |lst (xs ys:Ab D) (ed:ds=[.lst xs,.lst ys]) (e:its=yT xs ys)
theorem LB {ds its:Ab D}(h:W6 ds=Aa its):ZipV ds its:=by
 cases ds with
 |nil=>exact nn h
 |cons a ds =>
  cases a with
  |tup xs =>
   cases ds with
   |nil=>exact nn h
   |cons b ds =>
    cases b with
    |tup ys =>
     cases ds with
     |nil=>exact .tup xs ys rfl (Cw h).symm
     |cons _ _=>exact nn h
    |_=>exact nn h
  |lst xs =>
   cases ds with
   |nil=>exact nn h
   |cons b ds =>
    cases b with
    |lst ys =>
     cases ds with
     |nil=>exact .lst xs ys rfl (Cw h).symm
     |cons _ _=>exact nn h
    |_=>exact nn h
  |_=>exact nn h
theorem DM (hg:Gl X "zip")(hm:X.mg "zip" = none)(ha:PA X [e1,e2] (tDA X f))(hs:Bc [e1,e2] X.env=(false,eval e1 X.env)::Bc [e2] X.env:=by rfl)(hpl:(Fq pos (Bc [e2] X.env)).any (·.1)=false:=by rfl) :
  PI X (.Tuple elts x1 tpos) (.Call (.Name "zip" p) [e1,e2] [] pos) (tDI X (fW f)):=by
 intro pins s σ H R I h;obtain⟨P,α,env,S,r,re,af⟩:=h;refine Call_ (k9 I hg hm boot_zip (Hb (thn (yM ha I r re af pos) fun us s1 ⟨vs,H1,P1,α1,ds,S1,I1,rv,r1,re1,rp,e1,e2,af1⟩=>?_) hs hpl));obtain⟨its,hi,q⟩:=jK af1;cases LB hi with
 |tup xs ys ed e =>
  subst ed e;obtain⟨v,w,u,x,rfl,rfl,p1,p2,q1,q2⟩:=tE rp rv;simp only[Rep] at p1 p2;obtain⟨a,va,rfl,qa,ta⟩:=p1;obtain⟨b,vb,rfl,qb,tb⟩:=p2;cases (show u=Dc a from q1)
  cases (show x=Dc b from q2)
  exact UP (tp:=true) I1 r1 qa qb ta tb (q.base e1 e2)
 |lst xs ys ed e =>
  subst ed e;obtain⟨v,w,u,x,rfl,rfl,p1,p2,q1,q2⟩:=tE rp rv;simp only[Rep] at p1 p2;obtain⟨a,va,rfl,qa,ta⟩:=p1;obtain⟨b,vb,rfl,qb,tb⟩:=p2;cases (show u=Dc a from q1)
  cases (show x=Dc b from q2)
  exact UP (tp:=false) I1 r1 qa.l qb.l ta tb (q.base e1 e2)
end
def Src (K:Ak)(mg:Ax→Al Ac)(x:Ax)(st:Fl)(ps:Ab Ax):Prop:=∃ f fd,mg x=Aa (.ref f)∧Fun K x x st f fd∧uJ K fd ps []
def Lk (K:Ak)(f:Af)(fd:Fx):Prop:=∃ oc od osl,K.lookup f=Aa ⟨oc,od,.func fd,osl⟩
theorem eT {K:Ak}{x q:Ax}{st:Fl}{f:Af}{fd:Fx}(F:Fun K x q st f fd):Lk K f fd:=by
 obtain⟨oc,od,kV,doc,pm,an,cdv,ct,osl,_,lk,_⟩:=F.ex;exact⟨oc,od,osl,lk⟩
theorem Lk.one {K:Ak}{f:Af}{fd fd':Fx}(h:Lk K f fd)(h':Lk K f fd'):fd=fd':=by
 obtain⟨oc,od,osl,e⟩:=h;obtain⟨oc',od',osl',e'⟩:=h';rw[e] at e';cases e';rfl
def Def (P:Bm)(w:Cb)(K:Ak)(mg:Ax→Al Ac)(base:Bs)(cm:Aq)(k:Ai)(x:Ax)(n:Ai)(F:DF):Prop:=
 ∃ f fd ps,ps.length=n∧mg x=Aa (.ref f)∧Em K (.ref f)=true∧uJ K fd ps [] ∧ Lk K f fd∧FnX P w K mg base cm k f fd ps (spD K n F)
def h9 (P:Bm)(w:Cb)(K:Ak)(mg:Ax→Al Ac)(base:Bs)(cm:Aq)(k:Ai)(x:Ax)(ps:Ab Ax)(F:DF):Prop:=
 ∃ f fd,mg x=Aa (.ref f)∧Em K (.ref f)=true∧uJ K fd ps [] ∧ Lk K f fd∧FnX P w K mg base cm k f fd ps (spD K ps.length F)
section
variable {P:Bm}{w:Cb}{K:Ak}{mg:Ax→Al Ac}{base:Bs}{cm:Aq}
theorem DC {x:Ax}{st:Fl}{N ps:Ab Ax}{k:Ai}{g:DS}(h:Src K mg x st ps)(S:FnScope N ps (qJ st))
  (hbody:∀ (f:Af) (cdv:Ac) (A:Bz) (outer:Ab Ks) (s:Ag) (H:Hp) (E:XK),RoomC cm k (A.deeper (Gw x (qJ st) s.heap.objs.size f cdv)) →
   PSs (cxC cm P w K mg base N x (qJ st) f cdv A outer s H E) (xE st) (tDS (cxC cm P w K mg base N x (qJ st) f cdv A outer s H E) g)):Def P w K mg base cm (k+1) x ps.length (qR N.length g):=by
 obtain⟨f,fd,hm,F,hb⟩:=h;exact⟨f,fd,ps,rfl,hm,F.kp,hb,eT F,fnX F S fun cdv A outer s H E hr=>hbody f cdv A outer s H E hr⟩
theorem M1 {x:Ax}{st:Fl}{N ps:Ab Ax}{k:Ai}{g:DS}(h:Src K mg x st ps)(S:FnScope N ps (qJ st))
  (hbody:∀ (f:Af) (cdv:Ac) (A:Bz) (outer:Ab Ks) (s:Ag) (H:Hp) (E:XK),RoomC cm k (A.deeper (Gw x (qJ st) s.heap.objs.size f cdv)) →
   PSs (cxC cm P w K mg base N x (qJ st) f cdv A outer s H E) (xE st) (tDS (cxC cm P w K mg base N x (qJ st) f cdv A outer s H E) g)):h9 P w K mg base cm (k+1) x ps (qR N.length g):=by
 obtain⟨f,fd,hm,F,hb⟩:=h;exact⟨f,fd,hm,F.kp,hb,eT F,fnX F S fun cdv A outer s H E hr=>hbody f cdv A outer s H E hr⟩
theorem Def.mono {x:Ax}{j k n:Ai}{F:DF}(h:Def P w K mg base cm j x n F)(hk:j≤k:=by decide):Def P w K mg base cm k x n F:=by
 obtain⟨f,fd,ps,hn,hm,kp,hb,hl,X⟩:=h;exact⟨f,fd,ps,hn,hm,kp,hb,hl,X.len,fun A outer s H args us vs Q E hr=>X.run A outer s H args us vs Q E (hr.mono hk)⟩
theorem Def.any {x:Ax}{k n:Ai}{F:DF}(h:Def P w K mg base false k x n F):Def P w K mg base cm k x n F:=by
 obtain⟨f,fd,ps,hn,hm,kp,hb,hl,X⟩:=h;exact⟨f,fd,ps,hn,hm,kp,hb,hl,X.any⟩
end
section
variable {X:Cx}{cm:Aq}{k n:Ai}{F:DF}{x:Ax}{p pos:Fk}{e:By}{es:Ab By}{fa:DA}
theorem dcN (G:Def X.prog X.w X.K X.mg X.base cm k x n F)(hr:RoomC cm k X.A)(hF:Fn1 X)(hg:Gl X x)(ha:PA X (e::es) (tDA X fa))(hdb:(x == ("__debug__" : Ax))=false:=by decide)(he:Bc (e::es) X.env=(false,eval e X.env)::Bc es X.env:=by rfl)(hpl:(Fq pos (Bc es X.env)).any (·.1)=false:=by rfl) :
  PE X (.Call (.Name x p) (e::es) [] pos) (tD X (qG n F fa)):=by
 obtain⟨f,fd,ps,hn,hm,kp,hb,hl,G⟩:=G;exact FW G hr hF hg hm kp hb ha hdb he hpl
theorem dcL (G:Def X.prog X.w X.K X.mg X.base cm k x n F)(hr:RoomC cm k X.A)(hF:Fn1 X)(hg:Gl X x)(ha:PA X (e::es) (tDA X fa))(hdb:(x == ("__debug__" : Ax))=false:=by decide)(he:Bc (e::es) X.env=(false,eval e X.env)::Bc es X.env:=by rfl)(hpl:(Fq pos (Bc es X.env)).any (·.1)=false:=by rfl) :
  PE X (.Call (.Name x p) (e::es) [] pos) (tD X (qG n (vJ F) fa)):=by
 obtain⟨f,fd,ps,hn,hm,kp,hb,hl,G⟩:=G;exact JN G hr hF hg hm kp hb ha hdb he hpl
theorem WV {C:Af}(hg:Gl X x)(hm:X.mg x=Aa (.ref C))(hk:Em X.K (.ref C)=true)(hd:(x == ("__debug__" : Ax))=false:=by decide):PE X (.Name x pos) (tD X (dC (.obj C))):=
 oN hg hm (v:=.ref C) rfl (fun P α => by simp only[Rep];exact⟨trivial,hk⟩) hd
end
def zR:DF:=fun ds S=>match ds with
 |[.dct0]=>.bad
 |_=>cT ds S
theorem FM {X:Cx}:yU X (.builtin "len") zR:=LU trivial
def fV:DE:=fun _ _=>.bad
theorem D1 {X:Cx}{e:By}:PE X e (tD X fV):=fun _ _ _ _ _ _ ⟨_,_,_,_,_,_,h⟩=>An h
theorem PV:∃ C:Aj→Aj→Aq,C=cA:=⟨_,rfl⟩
def PU:Aj→Aj→Aq:=Nj PV
theorem cB:PU=cA:=Nk PV
def w6:G2:=i2 PU fun i j=>.int (i*j)
theorem QF {X:Cx}:OpD X (Ex .Mult) w6:=by
 unfold w6;rw[cB];exact TQ
theorem hu1 {cm:Aq}{k:Ai}{A:Bz}(hr:RoomC cm k A):A.units+1<Fg:=by have:=hr.units;omega
def okO (F:DF):DF:=fun ds S=>match F ds S with
 |.ok d S'=>.ok d S'
 |_=>.bad
theorem gO {F:DF}{ds:Ab D}{S S':Sto}{d:D}(h:F ds S=.ok d S'):okO F ds S=.ok d S':=by unfold okO;rw[h]
section
variable {X:Cx}{cm:Aq}{k n:Ai}{F:DF}{x:Ax}{p pos:Fk}{e:By}{es:Ab By}{fa:DA}{f:Af}{fd:Fx}{ps:Ab Ax}
theorem NH {pins:Ab (Af × Cq)}{σ : _L.St}{H:Hp}{s:Ag}{Q:VK}{us:Ab Ac}{vs:Ab V}{P:Hp}{α : Ab Af}{ds:Ab D}{S:Sto}(G:FnX X.prog X.w X.K X.mg X.base cm k f fd ps (spD X.K n F))(hr:RoomC cm k X.A)(hb:uJ X.K fd ps [])
  (I:Inv X pins σ H s) (r:Rel X.K H P α S) (rv:qL vs us) (rp:qF X.K P α ds vs) (hn:ds.length=n) (af:zA X P α (okO F ds S) Q):Ao (Au X.prog X.w) X.A (call (.ref f) us) (EP X pins σ Q) X.xe s:=by
 have hvn:vs.length=n:=by rw[← rp.length];exact hn
 have hsp:spD X.K n F vs H Q fun _ _ _=>Fm:=by
  refine⟨hvn,P,α,ds,S,r,rp,?_⟩;unfold okO at af;cases q:F ds S with
  |ok d S'=>rw[q] at af;exact af
  |ex c x S'=>rw[q] at af;exact An af
  |bad=>rw[q] at af;exact af
 have hl:us.length=ps.length:=by rw[← rv.length];exact G.len _ _ _ _ hsp
 have hb':=hb s us I.kIn (by rw[Gd];exact hl)
 rw[Gd] at hb';refine Oo (Jm (G.run X.A X.stack s H ⟨us,[]⟩ us vs Q _ hr I.env0 hb' rv hsp) fun r s' hq=>?_);cases r with
 |error u =>
  obtain⟨_,_,_,_,_,_,_,_,_,_,_,_,z⟩:=hq;exact An z
 |ok fl =>
  cases fl with
  |ret u=>exact I.after hq
  |next=>exact An hq
  |brk=>exact An hq
  |cont=>exact An hq
theorem dcO (G:Def X.prog X.w X.K X.mg X.base cm k x n F)(hr:RoomC cm k X.A)(hg:Gl X x)(ha:PA X (e::es) (tDA X fa))(hdb:(x == ("__debug__" : Ax))=false:=by decide)(he:Bc (e::es) X.env=(false,eval e X.env)::Bc es X.env:=by rfl)(hpl:(Fq pos (Bc es X.env)).any (·.1)=false:=by rfl) :
  PE X (.Call (.Name x p) (e::es) [] pos) (tD X (qG n (okO F) fa)):=by
 obtain⟨f,fd,ps,hn0,hm,hk,hb,hl,G⟩:=G;intro pins s σ H Q I h;obtain⟨P,α,env,S,r,re,af⟩:=h;refine Ie (kX I hg hm ?_ hdb);refine Lm (h₀:=X.base) I.ok.mod.kin hk (thn (yM ha I r re af pos) fun us s1 ⟨vs,H1,P1,α1,ds,S1,I1,rv,r1,re1,rp,e1,e2,af1⟩=>⟨I1.kIn,?_⟩) he hpl;obtain⟨hn,af2⟩:=fY (env:=env) (S:=S) af1;exact NH G hr hb I1 r1 rv rp hn (zA.base e1 e2 af2)
end
structure QE (X:Cx)(e:By)(f:DE):Prop where
 get:PE X e (tD X f)
structure QT (X:Cx)(e:By)(t:DT):Prop where
 get:PT X e (tDT X t)
structure QW (X:Cx)(e:By)(t:DT):Prop where
 get:PWD X e t
structure QA (X:Cx)(es:Ab By)(f:DA):Prop where
 get:PA X es (tDA X f)
structure QO (X:Cx)(e:Al By)(f:DO):Prop where
 get:PO X e (tDO X f)
structure QG (X:Cx)(t:By)(g:DG):Prop where
 get:PG X t (tDG X g)
structure QGs (X:Cx)(ts:Ab By)(g:DGs):Prop where
 get:PGs X ts (iQ X g)
structure QI (X:Cx)(tg it:By)(f:DI):Prop where
 get:PI X tg it (tDI X f)
structure QS (X:Cx)(s:Fl)(f:DS):Prop where
 get:PS X s (tDS X f)
structure QB (X:Cx)(ss:Ab Fl)(f:DS):Prop where
 get:PSs X ss (tDS X f)
structure ZOp (X:Cx)(f:Ac→Ac→Kt Ac)(g:G2):Prop where
 get:OpD X f g
structure ZUn (X:Cx)(f:Ac→Kt Ac)(g:D→Sto→Res D):Prop where
 get:UnD X f g
structure ZIx (X:Cx)(g:G2):Prop where
 get:IxD X g
structure ZCall (X:Cx)(f:Ac)(F:DF):Prop where
 get:yU X f F
structure ZMt (X:Cx)(id:Ep)(g:D→Ab D→Sto→Res D):Prop where
 get:MtD X id g
structure ZSet (X:Cx)(g:G3):Prop where
 get:hJ X (eY X g)
structure ZPass (X:Cx):Prop where
 get:Sv (Au X.prog X.w) X.A X.env X.xe
section
variable {X:Cx}{a b c e e1 e2 o i:By}{es rest:Ab By}{fa fb fc fe fo fi:DE}{ta tb:DT}{fA:DA}{f g:DS}{st:Fl}{sts:Ab Fl}{x:Ax}{p pos:Fk}{n k:Ai}{cm:Aq}{F:DF}{G2':G2}
theorem VM {j}:QE X (.Constant .none j pos) (dC .non):=⟨D5⟩
theorem BO {v j}:QE X (.Constant (.bool v) j pos) (dC (.bl v)):=⟨HM⟩
theorem VJ {v j}:QE X (.Constant (.int v) j pos) (dC (.int v)):=⟨D4⟩
theorem VP {v j}:QE X (.Constant (.str v) j pos) (dC (.str v)):=⟨D8⟩
theorem EB (m:Ai)(hN:X.N[m]? = Aa x)(hv:Vis X.env.scope x)(hd:(x == ("__debug__" : Ax))=false)(hcd:(x == ("__classdict__" : Ax))=false):QE X (.Name x pos) (qB m):=⟨dv m hN hv hd hcd⟩
theorem NA {nm:Ep}(hg:Gl X x)(hm:X.mg x=none)(hv:Gc x=Aa (.type nm))(hn:x ≠ "__name__")(hd:(x == ("__debug__" : Ax))=false):QE X (.Name x pos) (dC (.ty nm)):=⟨FV hg hm hv hn hd⟩
theorem E9 {C:Af}(hg:Gl X x)(hm:X.mg x=Aa (.ref C))(hk:Em X.K (.ref C)=true)(hd:(x == ("__debug__" : Ax))=false):QE X (.Name x pos) (dC (.obj C)):=⟨WV hg hm hk hd⟩
theorem NB {v:Aj}(hg:Gl X x)(hm:∃ t,X.mg x=Aa (.int v t))(hd:(x == ("__debug__" : Ax))=false):QE X (.Name x pos) (dC (.int v)):=⟨let ⟨_,h⟩:=hm;oN (v:=.int v) hg h ⟨_,rfl⟩ (fun _ _=>by simp only[Rep]) hd⟩
theorem VF:QE X e fV:=⟨D1⟩
theorem BS {op:UnaryOp}{h:D→Sto→Res D}(ho:ZUn X (Xh op) h)(ha:QE X a fa):QE X (.UnaryOp op a pos) (d1 h fa):=⟨HR ho.1 ha.1⟩
theorem VN (ha:QE X a fa):QE X (.UnaryOp .Not a pos) (X3 fa):=⟨D6 ha.1⟩
theorem BR {op:Operator}(ho:ZOp X (Ex op) G2')(ha:QE X a fa)(hb:QE X b fb):QE X (.BinOp a op b pos) (d2 G2' fa fb):=⟨HQ ho.1 ha.1 hb.1⟩
theorem VH {op:Uf}(ho:ZOp X (Dt op) G2')(ha:QE X a fa)(hb:QE X b fb)(hm:Kw op b=false:=by first|exact pZ _|with_unfolding_all rfl):QE X (.Compare a [op] [b] pos) (d2 G2' fa fb):=⟨D2 ho.1 ha.1 hb.1 hm⟩
theorem i8 {op op':Uf}{g':G2}(ho:ZOp X (Dt op) G2')(ho':ZOp X (Dt op') g')(ha:QE X a fa)(hb:QE X b fb)(hc:QE X c fc)(hm:Wp [op,op'] [b,c]=false:=by with_unfolding_all rfl):QE X (.Compare a [op,op'] [b,c] pos) (xS G2' g' fa fb fc):=⟨JO ho.1 ho'.1 ha.1 hb.1 hc.1 hm⟩
theorem VO {op} (h:QE X a fa):QE X (.BoolOp op [a] pos) fa:=⟨D7 h.1⟩
theorem VE (ha:QE X a fa)(hb:QE X (.BoolOp .And (b::rest) pos) fb):QE X (.BoolOp .And (a::b::rest) pos) (vO fa fb):=⟨D0 ha.1 hb.1⟩
theorem BP (hc:QT X c ta)(ha:QE X a fa)(hb:QE X b fb):QE X (.IfExp c a b pos) (dIf ta fa fb):=⟨HP hc.1 ha.1 hb.1⟩
theorem VQ {x1} (h:QA X es fA):QE X (.Tuple es x1 pos) (zC fA):=⟨DB h.1⟩
theorem VL (h:QA X es fA):QE X (.List es pos) (zO fA):=⟨WW h.1⟩
theorem QQ (h:QA X es fA):QE X (.List es pos) (eS fA):=⟨FY h.1⟩
theorem VI:QE X (.Dict [] [] pos) JL:=⟨D3⟩
theorem QP:QE X (.Dict [] [] pos) bI:=⟨FX⟩
theorem BQ (ho:ZIx X G2')(ha:QE X a fa)(hb:QE X b fb)(hs:kT b:=by intro _ _;rfl):QE X (.Subscript a b pos) (d2 G2' fa fb):=⟨PX ho.1 ha.1 hb.1 hs⟩
theorem i9 {lo hi:Al By}{fl fh:DO}{p2:Fk}(he:QE X e fe)(hl:QO X lo fl)(hu:QO X hi fh):QE X (.Subscript e (.Slice lo hi none p2) pos) (dSl fe fl fh):=⟨JQ he.1 hl.1 hu.1⟩
theorem QY:QO X none qZ:=⟨M6⟩
theorem QZ (he:QE X e fe):QO X (Aa e) (qV fe):=⟨M7 he.1⟩
theorem VC:QA X [] qC:=⟨WT⟩
theorem QN (ha:QE X e fa)(hr:QA X es fA)(hs:Bc (e::es) X.env=(false,eval e X.env)::Bc es X.env:=by rfl):QA X (e::es) (qA fa fA):=⟨oM ha.1 hr.1 hs⟩
theorem qcN (G:Def X.prog X.w X.K X.mg X.base cm k x n F)(hr:RoomC cm k X.A)(hF:Fn1 X)(hg:Gl X x)(ha:QA X (e::es) fA)(hdb:(x == ("__debug__" : Ax))=false)(he:Bc (e::es) X.env=(false,eval e X.env)::Bc es X.env:=by rfl)(hpl:(Fq pos (Bc es X.env)).any (·.1)=false:=by rfl):QE X (.Call (.Name x p) (e::es) [] pos) (qG n F fA):=⟨dcN G hr hF hg ha.1 hdb he hpl⟩
theorem qcL (G:Def X.prog X.w X.K X.mg X.base cm k x n F)(hr:RoomC cm k X.A)(hF:Fn1 X)(hg:Gl X x)(ha:QA X (e::es) fA)(hdb:(x == ("__debug__" : Ax))=false)(he:Bc (e::es) X.env=(false,eval e X.env)::Bc es X.env:=by rfl)(hpl:(Fq pos (Bc es X.env)).any (·.1)=false:=by rfl):QE X (.Call (.Name x p) (e::es) [] pos) (qG n (vJ F) fA):=⟨dcL G hr hF hg ha.1 hdb he hpl⟩
theorem GD {id:Ep}(hc:ZCall X (.builtin id) F)(hg:Gl X x)(hm:X.mg x=none)(hv:Gc x=Aa (.builtin id))(ha:QA X (e::es) fA)(hn:x ≠ "__name__")(hdb:(x == ("__debug__" : Ax))=false)(he:Bc (e::es) X.env=(false,eval e X.env)::Bc es X.env:=by rfl)(hpl:(Fq pos (Bc es X.env)).any (·.1)=false:=by rfl):QE X (.Call (.Name x p) (e::es) [] pos) (qE F fA):=⟨JM hc.1 hg hm hv ha.1 hn hdb he hpl⟩
theorem VG {T:Ep}(hc:ZCall X (.type T) F)(hg:Gl X x)(hm:X.mg x=none)(hv:Gc x=Aa (.type T))(ha:QA X (e::es) fA)(hn:x ≠ "__name__")(hdb:(x == ("__debug__" : Ax))=false)(he:Bc (e::es) X.env=(false,eval e X.env)::Bc es X.env:=by rfl)(hpl:(Fq pos (Bc es X.env)).any (·.1)=false:=by rfl):QE X (.Call (.Name x p) (e::es) [] pos) (qE F fA):=⟨WU hc.1 hg hm hv ha.1 hn hdb he hpl⟩
theorem pG {T id:Ep}{name:Ax}{apos:Fk}{h:D→Ab D→Sto→Res D}(pa:PlainAttrs T)(slot:Slot T name id)(hty:typeOf (.builtin id)=pure (.type "method_descriptor"))(hT:T = "list" ∨ T = "dict" ∨ T = "int" ∨ T = "str")(hm:ZMt X id h)(ho:QE X o fo)(ha:QA X (e::es) fA)
  (hbase:Qg o name X.env (eval o X.env)=eval o X.env:=by rfl)
  (hfew:((Fq pos (Bc (e::es) X.env)).all (fun x=>!x.1)&&(backToKw pos (keywordEach [] X.env)).all (fun x=>x.1.isSome)&&decide ((e::es).length+([]:Ab Zs).length+(if ([] : Ab Zs).isEmpty then 0 else 1)<30))=true:=by rfl)
  (hline:(apos.endLine == pos.line)=true:=by rfl) (hs:Bc (e::es) X.env=(false,eval e X.env)::Bc es X.env:=by rfl) (hplain:(Fq pos (Bc es X.env)).any (·.1)=false:=by rfl):QE X (.Call (.Attribute o name apos) (e::es) [] pos) (dBm T h fo fA):=⟨HN pa slot hty hT hm.1 ho.1 ha.1 hbase hfew hline hs hplain⟩
theorem BU (h:QW X e ta):QT X e ta:=⟨PWD.pt h.1⟩
theorem lP (ha:QT X a ta):QW X (.BoolOp .Or [a] pos) ta:=⟨S8 ha.1⟩
theorem eW (ha:QT X a ta)(hb:QW X (.BoolOp .Or (b::rest) pos) tb):QW X (.BoolOp .Or (a::b::rest) pos) (wW ta tb):=⟨HZ ha.1 hb.1⟩
theorem U1 (ha:QT X a ta):QT X (.UnaryOp .Not a pos) (zX ta):=⟨DZ ha.1⟩
theorem U0 {op:Uf}(ho:ZOp X (Dt op) G2')(ha:QE X a fa)(hb:QE X b fb)(hm:Kw op b=false:=by first|exact pZ _|with_unfolding_all rfl):QT X (.Compare a [op] [b] pos) (dTr (d2 G2' fa fb)):=⟨DY ho.1 ha.1 hb.1 hm⟩
theorem iE {op op':Uf}{g':G2}(ho:ZOp X (Dt op) G2')(ho':ZOp X (Dt op') g')(ha:QE X a fa)(hb:QE X b fb)(hc:QE X c fc)(hm:Wp [op,op'] [b,c]=false:=by with_unfolding_all rfl):QT X (.Compare a [op,op'] [b,c] pos) (dTr (xS G2' g' fa fb fc)):=⟨JY ho.1 ho'.1 ha.1 hb.1 hc.1 hm⟩
theorem U2 (ha:QE X a fa)(he:∀ whole,isTrue a X.env whole=(do let v ← whole;Us a.pos;holding [v] (truthy v)):=by intro _;rfl):QT X a (dTr fa):=⟨S7 ha.1 he⟩
theorem NC {m:Ai}(hN:X.N.Nodup)(hi:X.N[m]? = Aa x)(hx:Loc X.env.scope x)(hf:X.fn x=true∨X.env.scope.names.lookup x=Aa .local):QG X (.Name x pos) (gNm m):=⟨M2 hN hi hx hf⟩
theorem QU:QGs X [] x0:=⟨M3⟩
theorem iA {h:DG}{gs:DGs}(h1:QG X e h)(h2:QGs X es gs)(hs:(Gv (e::es) X.env).map (·.2)=assign e X.env::(Gv es X.env).map (·.2):=by rfl):QGs X (e::es) (qO h gs):=⟨JR h1.1 h2.1 hs⟩
theorem VS {kk:Ai}{gs:DGs}(hc:X.calm=true)(h:QGs X es gs)(hn:(Gv es X.env).length=n:=by rfl)(hst:(Gv es X.env).findIdx? (·.1)=none:=by rfl):QG X (.Tuple es kk pos) (gTp n gs):=⟨DH hc h.1 hn hst⟩
theorem VR {h:G3}(ho:QE X o fo)(hi:QE X i fi)(hs:ZSet X h)
  (ha:∀ v,assign (.Subscript o i pos) X.env v=(do
   let ov ← holding [v] (eval o X.env)
   let iv ← holding [v,ov] (eval i X.env)
   Us pos
   holding [v,ov,iv] (Zo ov iv v)
   release [v,ov,iv] []):=by intro _;rfl):QG X (.Subscript o i pos) (gSb fo fi h):=⟨DD ho.1 hi.1 hs.1 ha⟩
theorem VV {tg:By}(ha:QE X e fa):QI X tg e (vT fa):=⟨DJ ha.1⟩
theorem iC {tg:By}(hg:Gl X "range")(hm:X.mg "range" = none)(ha:QA X (e::es) fA)(hs:Bc (e::es) X.env=(false,eval e X.env)::Bc es X.env:=by rfl)(hpl:(Fq pos (Bc es X.env)).any (·.1)=false:=by rfl):QI X tg (.Call (.Name "range" p) (e::es) [] pos) (vP fA):=⟨JT hg hm ha.1 hs hpl⟩
theorem VW {elts:Ab By}{x1:Ai}{tpos:Fk}(hg:Gl X "zip")(hm:X.mg "zip" = none)(ha:QA X [e1,e2] fA)(hs:Bc [e1,e2] X.env=(false,eval e1 X.env)::Bc [e2] X.env:=by rfl)(hpl:(Fq pos (Bc [e2] X.env)).any (·.1)=false:=by rfl):QI X (.Tuple elts x1 tpos) (.Call (.Name "zip" p) [e1,e2] [] pos) (fW fA):=⟨DM hg hm ha.1 hs hpl⟩
theorem VD:QB X [] zG:=⟨DQ⟩
theorem lN (h:QS X st f):QB X [st] f:=⟨DR h.1⟩
theorem t8 (h1:QS X st f)(h2:QB X sts g):QB X (st::sts) (qN f g):=⟨M8 h1.1 h2.1⟩
theorem Z2 (he:QE X e fa)(hs:Me e none pos.line X.env=pure false:=by rfl):QS X (.Expr e pos) (yW fa):=⟨M9 he.1 hs⟩
theorem VZ (he:QE X e fa):QS X (.Return (Aa e) pos) (qT fa):=⟨DV he.1⟩
theorem BT {as bs:Ab Fl}(hc:QT X c ta)(ha:QB X as f)(hb:QB X bs g):QS X (.If c as bs pos) (sIf ta f g):=⟨HW hc.1 ha.1 hb.1⟩
theorem VY {tg iter:By}{body:Ab Fl}{fI:DI}{h:DG}(hp:ZPass X)(hc:X.calm=true)(hi:QI X tg iter fI)(hg:QG X tg h)(hb:QB X body f)(hs:∀ x,Fy iter X.env x=pure x:=by intro _;rfl):QS X (.For tg iter body [] pos) (kI fI h f):=⟨DP hp.1 hc hi.1 hg.1 hb.1 hs⟩
theorem ED {m:Ai}{pos':Fk}(hN:X.N.Nodup)(he:QE X e fa)(hi:X.N[m]? = Aa x)(hx:Loc X.env.scope x)(hs:Me e (Aa (.Name x pos')) pos.line X.env=pure false)(hf:X.fn x=true∨X.env.scope.names.lookup x=Aa .local):QS X (.Assign [.Name x pos'] e pos) (zI fa (gNm m)):=⟨DW hN he.1 hi hx hs hf⟩
theorem VX {tg:By}{h:DG}(he:QE X e fa)(hg:QG X tg h)(hs:Kv [tg] e pos.line X.env=pure false:=by rfl)(hw:Ku [tg] e X.env=pure none:=by rfl)(h1:(Gv [tg] X.env).map (·.2)=[assign tg X.env]:=by rfl):QS X (.Assign [tg] e pos) (zI fa h):=⟨DN he.1 hg.1 hs hw h1⟩
theorem EC {m l:Ai}{y:Ax}{px py pt:Fk} {kt k2 pt2} (hc:X.calm=true) (hN:X.N.Nodup) (ha:QA X [a,b] fA) (hi:X.N[m]? = Aa x) (hj:X.N[l]? = Aa y) (hij:m≠l) (hx:X.env.scope.names.lookup x=Aa .local) (hy:X.env.scope.names.lookup y=Aa .local)
  (hw:Ku [.Tuple [.Name x px,.Name y py] kt pt] (.Tuple [a,b] k2 pt2) X.env=pure (Aa [x,y]):=by rfl) (hs:Kv [.Tuple [.Name x px,.Name y py] kt pt] (.Tuple [a,b] k2 pt2) pos.line X.env=pure false:=by rfl) :
  QS X (.Assign [.Tuple [.Name x px,.Name y py] kt pt] (.Tuple [a,b] k2 pt2) pos) (gU m l fA):=⟨DU hc hN ha.1 hi hj hij hx hy hw hs⟩
theorem GG {C Ae:Af}{np cpos:Fk}(hc:X.calm=true)(hF:Fn1 X)(hg:Gl X x)(hm:X.mg x=Aa (.ref C))(hx:tY X.K C Ae=true)(ha:QA X (e::rest) fA)(hdb:(x == ("__debug__" : Ax))=false)(he:Bc (e::rest) X.env=(false,eval e X.env)::Bc rest X.env:=by rfl)(hpl:(Fq cpos (Bc rest X.env)).any (·.1)=false:=by rfl) :
  QS X (.Raise (Aa (.Call (.Name x np) (e::rest) [] cpos)) none pos) (uX (.ref C) fA):=⟨JX hc hF hg hm hx ha.1 hdb he hpl⟩
theorem EE {nm:Ax}{C0:Af}{m:Ai}{body:Ab Fl}{b₀:Fl}{suite:Ab Fl}{np hpos:Fk}{cs:Ab Ac}(hF:Fn1 X)(hb:∀ E pn,ZPass (Cx.tryIn X E pn)→QB (Cx.tryIn X E pn) body f)(hs:∀ e,QB (Cx.suite X e) (b₀::suite) g)(hg:Gl X x)(hm:X.mg x=Aa (.ref C0))(hcs:∀ c∈cs,Jf X.K c (.ref C0)=Aa true)(hN:X.N.Nodup)(hi:X.N[m]? = Aa nm)(hlo:X.env.scope.names.lookup nm=Aa .local)(hdb:(x == ("__debug__" : Ax))=false)(hn:X.N.length=n) :
  QS X (.Try body [.ExceptHandler (Aa (.Name x np)) (Aa nm) (b₀::suite) hpos] [] [] pos) (nG n m cs f g):=⟨hn▸DX hF (fun E pn hp=>(hb E pn ⟨hp⟩).1) (fun e=>(hs e).1) hg hm hcs hN hi hlo hdb⟩
theorem F4:ZOp X (Ex .Add) qX:=⟨RB⟩
theorem FH:ZOp X (Ex .Sub) xG:=⟨RG⟩
theorem FC:ZOp X (Ex .Mult) w6:=⟨QF⟩
theorem F6:ZOp X (Ex .FloorDiv) vQ:=⟨RC⟩
theorem FB:ZOp X (Ex .Mod) u8:=⟨RE⟩
theorem FF:ZOp X (Ex .Pow) jF:=⟨RF⟩
theorem HG:ZOp X (Dt .Lt) gLt:=⟨BH⟩
theorem HF:ZOp X (Dt .LtE) gLe:=⟨CT⟩
theorem HC:ZOp X (Dt .GtE) gGe:=⟨CQ⟩
theorem HD:ZOp X (Dt .Is) gIs:=⟨CS⟩
theorem HB (hr:RoomC cm k X.A):ZOp X (Dt .Eq) gEq:=⟨CP hr.units⟩
theorem HH (hr:RoomC cm k X.A):ZOp X (Dt .NotEq) gNe:=⟨BI hr.units⟩
theorem FD (hr:RoomC cm k X.A):ZOp X (Dt .NotEq) (mZ gNe):=⟨OpD.look (BI hr.units)⟩
theorem FE:ZUn X (Xh .USub) vR:=⟨H8⟩
theorem HE:ZIx X gIx:=⟨SK⟩
theorem F8:ZCall X (.builtin "isinstance") zL:=⟨WJ⟩
theorem UK {cl:Ab Af}(h:ClsK X.K cl):ZCall X (.builtin "isinstance") (xC cl):=⟨FL h⟩
theorem F9:ZCall X (.builtin "len") zR:=⟨FM⟩
theorem F5 (hc:X.calm=true):ZCall X (.builtin "all") (jB false):=⟨LR false hc⟩
theorem F7:ZCall X (.type "int") cS:=⟨LS⟩
theorem ZL:ZCall X (.type "tuple") m5:=⟨JC⟩
theorem UL:ZCall X (.type "list") mT:=⟨FN⟩
theorem iX:ZMt X "list.append" wO:=⟨YV⟩
theorem ZJ:ZMt X "list.count" nY:=⟨KP⟩
theorem ZK:ZMt X "list.index" nZ:=⟨KQ⟩
theorem FG (hr:RoomC cm k X.A):ZSet X jR:=⟨EM (hu1 hr)⟩
end
section
variable {P:Bm}{w:Cb}{K:Ak}{mg:Ax→Al Ac}{base:Bs}{cm:Aq}
theorem ZM {N:Ab Ax}{qual:Ax}{scope:Gp}{f:Af}{cd:Ac}{A:Bz}{outer:Ab Ks}{s:Ag}{H:Hp}{E:XK}:ZPass (cxC cm P w K mg base N qual scope f cd A outer s H E):=⟨JJ⟩
theorem IF {x:Ax}{st:Fl}{N ps:Ab Ax}{k:Ai}{g:DS}{body:Ab Fl}(h:Src K mg x st ps)(S:FnScope N ps (qJ st))(hbd:xE st=body)
  (hbody:∀ (f:Af) (cdv:Ac) (A:Bz) (outer:Ab Ks) (s:Ag) (H:Hp) (E:XK),RoomC cm k (A.deeper (Gw x (qJ st) s.heap.objs.size f cdv)) →
   QB (cxC cm P w K mg base N x (qJ st) f cdv A outer s H E) body g):Def P w K mg base cm (k+1) x ps.length (qR N.length g):=
 DC h S fun f cdv A outer s H E hr=>hbd▸(hbody f cdv A outer s H E hr).1
theorem HS {x:Ax}{st:Fl}{N ps:Ab Ax}{k:Ai}{g:DS}{body:Ab Fl}(h:Src K mg x st ps)(S:FnScope N ps (qJ st))(hbd:xE st=body)
  (hbody:∀ (f:Af) (cdv:Ac) (A:Bz) (outer:Ab Ks) (s:Ag) (H:Hp) (E:XK),RoomC cm k (A.deeper (Gw x (qJ st) s.heap.objs.size f cdv)) →
   QB (cxC cm P w K mg base N x (qJ st) f cdv A outer s H E) body g):h9 P w K mg base cm (k+1) x ps (qR N.length g):=
 M1 h S fun f cdv A outer s H E hr=>hbd▸(hbody f cdv A outer s H E hr).1
theorem M0 {x:Ax}{st:Fl}{ps:Ab Ax}(h:Src K mg x st ps):Def P w K mg base cm 0 x ps.length fun _ _=>.bad:=by
 obtain⟨f,fd,hm,F,hb⟩:=h;exact⟨f,fd,ps,rfl,hm,F.kp,hb,eT F,⟨fun vs H Q E z=>z.1,fun A outer s H args us vs Q E _ _ _ _ z=>by obtain⟨_,_,_,_,_,_,_,z⟩:=z;exact An z⟩⟩
end
structure QTs (X:Cx)(ifs:Ab By)(t:DT):Prop where
 get:PTs X ifs t
section
variable {X:Cx}{elt tg iter e:By}{ifs es:Ab By}{scope:Gp}{pos p:Fk}{N':Ab Ax}{cap:Ab (Al Ai)}{fi:DI}{g:DG}{t u:DT}{fe:DE}{fa:DA}{x:Ax}{cm:Aq}{k n:Ai}{F:DF}
theorem Z3:QTs X [] zJ:=⟨MC⟩
theorem qcO (G:Def X.prog X.w X.K X.mg X.base cm k x n F)(hr:RoomC cm k X.A)(hg:Gl X x)(ha:QA X (e::es) fa)(hdb:(x == ("__debug__" : Ax))=false)(he:Bc (e::es) X.env=(false,eval e X.env)::Bc es X.env:=by rfl)(hpl:(Fq pos (Bc es X.env)).any (·.1)=false:=by rfl) :
  QE X (.Call (.Name x p) (e::es) [] pos) (qG n (okO F) fa):=⟨dcO G hr hg ha.1 hdb he hpl⟩
end
def stn (o:Al (Ai × MO))(S:Sto):Prop:=match o with
 |none=>Nr
 |some p=>S[p.1]? = Aa p.2
open Classical in
def sV (o:Al (Ai × MO))(S:Sto):Aq:=decide (stn o S)
theorem yH {o:Al (Ai × MO)}{S:Sto}:sV o S=true↔stn o S:=by simp[sV]
structure ItD2 (K:Ak)(J:It)(P:Hp)(α : Ab Af)(o:Al (Ai × MO))(ds:Ab D):Prop where
 go:∀ i H P1 α1 S,i<ds.length→Rel K H P1 α1 S→stn o S→qH P P1→α<+:α1→J.go i H
 yld:∀ i H x H' P1 α1 S,i<ds.length→Rel K H P1 α1 S→stn o S→qH P P1→α<+:α1→J.yld i H x H'→∃ P2 d,ds[i]? = Aa d∧Rel K H' P2 α1 S∧qH P1 P2∧Rep K P2 α1 d x
 stop:∀ i H P1 α1 S,ds.length≤i→Rel K H P1 α1 S→stn o S→qH P P1→α<+:α1→J.stop i H
theorem ItD.two {K:Ak}{J:It}{P:Hp}{α : Ab Af}{ds:Ab D}(h:ItD K J P α ds):ItD2 K J P α none ds:=
 ⟨fun i H P1 α1 S a b _ c d=>h.go i H P1 α1 S a b c d,fun i H x H' P1 α1 S a b _ c d e=>h.yld i H x H' P1 α1 S a b c d e,fun i H P1 α1 S a b _ c d=>h.stop i H P1 α1 S a b c d⟩
abbrev DI2:=qD→Sto→Res (Al (Ai × MO) × Ab D)
inductive tDI2 (X:Cx)(f:DI2)(σ : _L.St)(H:Hp)(R:It→Hp→Prop):Prop
 |mk (P:Hp) (α : Ab Af) (env:qD) (S:Sto) (r:Rel X.K H P α S) (re:zH X.K P α σ env) (af:qI X P α (f env S) (fun p S'=>∀ J H' P' α',Rel X.K H' P' α' S'→qH P P'→α<+:α'→ItD2 X.K J P' α' p.1 p.2→R J H')):tDI2 X f σ H R
def wL (f:DI):DI2:=fun env S=>(f env S).bind fun ds S1=>.ok (none,ds) S1
section
variable {X:Cx}{K:Ak}{tg e:By}{fa:DE}{pos:Fk}
theorem M5 {f:DI}(h:PI X tg e (tDI X f)):PI X tg e (tDI2 X (wL f)):=PI.weak h fun σ H R ⟨P,α,env,S,r,re,af⟩=>by
 refine⟨P,α,env,S,r,re,?_⟩;unfold wL at af;cases q:f env S with
 |bad=>rw[q] at af;exact af
 |ex c x S'=>rw[q] at af;exact af
 |ok ds S1 =>
  rw[q] at af;exact fun J H' P' α' r' e1 e2 it=>af J H' P' α' r' e1 e2 it.two
theorem MX {P:Hp}{α : Ab Af}{a:Af}{n:Ai}{ds:Ab D}(hα:α[n]? = Aa a):ItD2 K (Itl K a) P α (Aa (n,.lst ds)) ds where
 go:=fun i H P1 α1 S hi r st e e2=>by
  obtain⟨vs,z,t⟩:=r.at' n a _ (t0 e2 hα) st;exact⟨vs,vs[i]'(by rw[← t.length];exact hi),.of z,by simp⟩
 yld:=fun i H x H' P1 α1 S hi r st e e2 y=>by
  obtain⟨rfl,y⟩:=y;obtain⟨vs,z,t⟩:=r.at' n a _ (t0 e2 hα) st;have hx:=y vs (.of z);obtain⟨v,h1,h2⟩:=t.get (Ap hi);rw[hx] at h1;cases h1;exact⟨P1,_,Ap hi,r,qH.refl _,h2⟩
 stop:=fun i H P1 α1 S hi r st e e2=>by
  obtain⟨vs,z,t⟩:=r.at' n a _ (t0 e2 hα) st;exact⟨vs,.of z,by rw[← t.length];exact hi⟩
def itD (d:D)(S:Sto):Res (Al (Ai × MO) × Ab D):=match d with
 |.tup xs=>.ok (none,xs) S
 |.lst xs=>.ok (none,xs) S
 |.loc n=>match S[n]? with
  |some (.lst xs)=>.ok (Aa (n,.lst xs),xs) S
  |_=>.bad
 |_=>.bad
def dIt (f:DE):DI2:=fun env S=>(f env S).bind fun d S1=>itD d S1
theorem HU (ha:PE X e (tD X fa)):PI X tg e (tDI2 X (dIt fa)):=by
 intro pins s σ H R I h;obtain⟨P,α,env,S,r,re,af⟩:=h;refine thn (xI ha I r re af) fun vv s1 ⟨v,H1,P1,α1,d,S1,G1,af1⟩=>?_;have seq:∀ ds,xM d=Aa ds→(∀ J H' P' α',Rel X.K H' P' α' S1→qH P P'→α<+:α'→ItD2 X.K J P' α' none ds→R J H')→Ao (Au X.prog X.w) X.A (Of vv) (PIE X pins σ tg R) X.xe s1:=fun ds e1 q =>
  cZ G1.inv G1.rel G1.val G1.rep e1 fun J H' P' α' r' h1 h2 it=>q J H' P' α' r' (G1.same.trans h1) (G1.pre.trans h2) it.two
 cases d with
 |tup xs=>exact seq xs rfl af1
 |lst xs=>exact seq xs rfl af1
 |loc n =>
  obtain⟨xs,hS,af1⟩:=bW (X:=X) (f:=fun xs=>Res.ok (Aa (n,MO.lst xs),xs) S1) af1;have rp:=G1.rep;simp only[Rep] at rp;obtain⟨a,rfl,ha⟩:=rp;cases (show vv=Dc a from G1.val)
  obtain⟨vs,z,t⟩:=G1.rel.at' n a _ ha hS;obtain⟨its,rv,p,hz⟩:=G1.inv.list (SqL.of z);refine Gk p.isList ?_;refine⟨s1.heap.objs.size,[s1.heap.objs.size],_,_,H1,rfl,G1.inv.kept (t':=s1.toks) fun b o e=>Ah _ e,eD a _,⟨_,Be _ rfl,rfl,rfl⟩,fun b hb=>?_,af1 _ _ P1 α1 G1.rel G1.same G1.pre (MX ha)⟩;have e:b=s1.heap.objs.size:=by simpa using hb
  subst e;exact G1.inv.fpOk (As _) (G1.inv.hok.fresh (As _))
 |_=>exact An af1
end
def wD (elt:By)(gens:Ab Fn)(scope:Gp)(pos:Fk)(k:Ai)(acc:Ac)(env:Ks):Kt Rc:=
 match gens[k+1]? with
 |some g'=>do
  let x ← eval g'.iter env
  Us g'.iter.pos
  let x ← Fy g'.iter env x
  let it ← holding [x] (Of x)
  let _ ← runOwn (.compStart (.ListComp elt gens scope pos) (k+1) it acc env) env
 |none=>do let _ ← call (.builtin "list.append") [acc,← eval elt env]
theorem PC (elt target iter:By)(ifs:Ab By)(gens:Ab Fn)(scope:Gp)(pos:Fk)(it acc:Ac)(env:Ks)(k:Ai)(hg:gens[k]? = Aa ⟨target,iter,ifs,0⟩)(ha:∀ g',gens[k+1]? = Aa g'→g'.is_async=0) :
  compTurn (.ListComp elt gens scope pos) k it acc env=(do
   Us iter.pos
   match ← Ly it with
   |none=>pure (.done .next)
   |some v =>
    Jt target it v
    assign target env v
    let mut ok:=true
    for c in ifs do
     if ok then ok ← isTrue c env (eval c env)
    if ok then wD elt gens scope pos k acc env
    again (.compLoop (.ListComp elt gens scope pos) k it acc env)):=by
 unfold compTurn wD;simp only[hg];cases q:gens[k+1]? with
 |none=>rfl
 |some g' =>
  have h0:=ha g' q;have e0:(g'.is_async != 0)=false:=by rw[h0];rfl
  simp only[e0,Bu,Ej,bind_assoc,pure_bind];rfl
abbrev DK:=qD→Sto→Ab D→Res (qD × Ab D)
def goL (o:Al (Ai × MO))(g:DG)(t:DT)(k:DK):Ab D→DK
 |[],env,S,acc=>if sV o S then .ok (env,acc) S else .bad
 |d::ds,env,S,acc=>if sV o S then (g d env S).bind fun env1 S1=>(t env1 S1).bind fun b S2 =>
   if b then (k env1 S2 acc).bind fun p S3=>goL o g t k ds p.1 S3 p.2 else goL o g t k ds env1 S2 acc
  else .bad
def zB (fe:DE):DK:=fun env S acc=>(fe env S).bind fun x S1=>if acc.length<lim then .ok (env,acc++[x]) S1 else .bad
def PN (Y:Cx)(pins:Ab (Af × Cq))(P1:Hp)(α1:Ab Af)(acc:Af)(env:qD)(S:Sto)(ds:Ab D)(s:Ag):Prop:=
 ∃ σ H P α o,TurnSt Y pins P1 α1 [] acc env S ds s σ H P α o
def PK (Y:Cx)(step:Ac→Kt Rc)(k:DK):Prop:=
 ∀ (pins:Ab (Af × Cq)) (P1:Hp) (α1:Ab Af) (acc:Af) (env env':qD) (S S':Sto) (ds ds':Ab D) (s:Ag),(∀ H:Hp,H acc=none→wH Y pins H acc)→PN Y pins P1 α1 acc env S ds s→k env S ds=.ok (env',ds') S' →
  Ao (Au Y.prog Y.w) Y.A (step (.ref acc)) (fun _ s'=>PN Y pins P1 α1 acc env' S' ds' s') (fun _ _=>Fm) s
section
variable {Y:Cx}{elt tg iter:By}{ifs:Ab By}{gens:Ab Fn}{scope:Gp}{pos:Fk}{k:Ai}{g:DG}{t:DT}{fe:DE}{it acc:Af}{fp:Ab Af}{J:It}{tn:Ai→Bs→Prop}{items:Ab D}{P1:Hp}{α1:Ab Af}{pins:Ab (Af × Cq)}
theorem Y7 {X:Cx}{pins:Ab (Af × Cq)}{H:Hp}{b:Af}{fp:Ab Af}{h:Bs}(f:wH X pins H b)(hn:b ∉ fp):wH X (pins++uV fp h) H b:=by
 obtain⟨f0,f1,f2,f3,f4,f5⟩:=f;refine⟨f0,f1,f2,f3,f4,fun p hp=>?_⟩;rcases Cn.mp hp with z|z
 ·exact f5 p (Ds _ z)
 ·rcases Cn.mp z with z|z
  ·exact f5 p (Cg _ z)
  ·rintro rfl
   exact hn (rP z).1
theorem Res.bind_inv {β γ:Type}{r:Res β}{f:β→Sto→Res γ}{x:γ}{S:Sto}(h:r.bind f=.ok x S):∃ b S1,r=.ok b S1∧f b S1=.ok x S:=by
 cases r with
 |ok b S1=>exact⟨b,S1,rfl,h⟩
 |_=>cases h
inductive GoC (o:Al (Ai × MO))(g:DG)(t:DT)(k:DK)(d:D)(ds acc:Ab D)(env:qD)(S SF:Sto)(x:qD × Ab D):Prop
 |no (env1:qD) (S1 S2:Sto) (z:stn o S) (q1:g d env S=.ok env1 S1) (q2:t env1 S1=.ok false S2) (r:goL o g t k ds env1 S2 acc=.ok x SF):GoC o g t k d ds acc env S SF x
 |yes (env1:qD) (S1 S2:Sto) (env5:qD) (ds5:Ab D) (S5:Sto) (z:stn o S) (q1:g d env S=.ok env1 S1) (q2:t env1 S1=.ok true S2) (q3:k env1 S2 acc=.ok (env5,ds5) S5) (r:goL o g t k ds env5 S5 ds5=.ok x SF):GoC o g t k d ds acc env S SF x
set_option tactic.hygienic true in
theorem KC {o:Al (Ai × MO)}{g:DG}{t:DT}{k:DK}{d:D}{ds acc:Ab D}{env:qD}{S SF:Sto}{x:qD × Ab D}(h:goL o g t k (d::ds) env S acc=.ok x SF):GoC o g t k d ds acc env S SF x:=by
 simp only[goL] at h
 split at h
 ·rename_i z
  obtain⟨env1,S1,q1,h⟩:=Res.bind_inv h;obtain⟨b,S2,q2,h⟩:=Res.bind_inv h;cases b with
  |false=>exact .no env1 S1 S2 (yH.mp z) q1 q2 h
  |true =>
   obtain⟨⟨env5,ds5⟩,S5,q3,h⟩:=Res.bind_inv h;exact .yes env1 S1 S2 env5 ds5 S5 (yH.mp z) q1 q2 q3 h
 ·cases h
set_option tactic.hygienic true in
theorem MR {o:Al (Ai × MO)}{g:DG}{t:DT}{k:DK}{acc dsF:Ab D}{env envF:qD}{S SF:Sto}(h:goL o g t k [] env S acc=.ok (envF,dsF) SF):stn o S∧env=envF∧acc=dsF∧S=SF:=by
 simp only[goL] at h
 split at h
 ·rename_i z
  cases h;exact⟨yH.mp z,rfl,rfl,rfl⟩
 ·cases h
inductive LpI (Y:Cx)(pins:Ab (Af × Cq))(P1:Hp)(α1:Ab Af)(fp:Ab Af)(acc:Af)(tn:Ai→Bs→Prop)(G:Ab D→DK)(items:Ab D)(x:qD × Ab D)(SF:Sto)(n:Ai)(s:Ag):Prop
 |mk (i:Ai) (σ : _L.St) (H P:Hp) (α : Ab Af) (o:Cq) (env:qD) (S:Sto) (ds:Ab D) (hn:n=items.length-i) (hi:i≤items.length) (st:TurnSt Y pins P1 α1 fp acc env S ds s σ H P α o) (st1:tn i s.heap) (run:G (items.drop i) env S ds=.ok x SF):LpI Y pins P1 α1 fp acc tn G items x SF n s
theorem NY {M:Ll}{A:Bz}{Q:Fin→Ag→Prop}{Qa Qd:Ag→Prop}{E:Ac→Ag→Prop}{s:Ag}{it acc:Ac}{en:Ks}(hgk:gens[k]? = Aa ⟨tg,iter,ifs,0⟩)(has:∀ g',gens[k+1]? = Aa g'→g'.is_async=0)
  (ha:∀ s,Qa s→Q (.again (.compLoop (.ListComp elt gens scope pos) k it acc en)) s) (hd:∀ s,Qd s→Q (.done .next) s)
  (h:Ao M A (Ly it) (fun r s1=>(r=none→Qd s1)∧∀ v,r=Aa v→Ao M A (Jt tg it v) (fun _ s2=>Ao M A (assign tg en v) (fun _ s3=>Ao M A (b9 ifs en) (fun b s4=>(b=false→Qa s4)∧(b=true→Ao M A (wD elt gens scope pos k acc en) (fun _ s5=>Qa s5) E s4)) E s3) E s2) E s1) E s) :
  Ao M A (compTurn (.ListComp elt gens scope pos) k it acc en) Q E s:=by
 rw[PC elt tg iter ifs gens scope pos it acc en k hgk has];refine Ad (Pw (Ad (thn h fun r s1 ⟨h0,h1⟩=>?_)));cases r with
 |none=>exact Am (hd _ (h0 rfl))
 |some v =>
  refine Ad (thn (h1 v rfl) fun _ s2 h2=>Ad (thn h2 fun _ s3 h3=>Ad (thn h3 fun b s4 h4=>?_)));cases b with
  |false=>exact Am (ha _ (h4.1 rfl))
  |true=>exact Ad (thn (h4.2 rfl) fun _ s5 h5=>Am (ha _ h5))
theorem MP (hfp:∀ H:Hp,(∀ b∈fp,H b=none)→∀ b∈fp,wH Y pins H b)(hne:acc ∉ fp)(o:Cq)(H':Hp)(hn:∀ b∈fp,H' b=none):∀ b∈fp,wH Y (pins++[(acc,o)]) H' b:=fun b hb=>by
 obtain⟨f0,f1,f2,f3,f4,f5⟩:=hfp H' hn b hb;refine⟨f0,f1,f2,f3,f4,fun p hp=>?_⟩;rcases Cn.mp hp with z|z
 ·exact f5 p (Ds _ z)
 ·rcases Cn.mp z with z|z
  ·exact f5 p (Cg _ z)
  ·rw[De.mp z]
   rintro rfl;exact hne hb
theorem pJ {i:Ai}{h:Bs}(T:Turn Y.prog Y.w Y.K tg J fp it tn)(st2:tn (i+1) h)(pl:∀ b∈fp,∃ o,h.get? b=Aa o∧∀ v,o.data≠.cell v){s5:Ag}{σ5:_L.St}{H5:Hp}(I5:Inv Y (pins++uV fp h) σ5 H5 s5):tn (i+1) s5.heap∧(∀ b∈fp,H5 b=none):=by
 refine⟨T.keep _ _ _ st2 fun b hb o' e=>(I5.pin (b,o') (Cg _ (Cg _ (kQ hb e)))).1,fun b hb=>?_⟩;obtain⟨o',e,d'⟩:=pl b hb;exact(I5.pin (b,o') (Cg _ (Cg _ (kQ hb e)))).2.1
theorem X1 {o':Al (Ai × MO)}{kk:DK}{Qa Qd:Ag→Prop}{E:Ac→Ag→Prop}{s:Ag}{σ : _L.St}{H P:Hp}{α : Ab Af}{env envF:qD}{S SF:Sto}{ds dsF:Ab D}{o:Cq}{i:Ai}(hc:Y.calm=true)(hx:Y.xe=fun _ _=>Fm)
  (T:Turn Y.prog Y.w Y.K tg J fp it tn) (hit:ItD2 Y.K J P1 α1 o' items) (hg:PG Y tg (tDG Y g)) (ht:PTs Y ifs t) (he:PK Y (fun acc=>wD elt gens scope pos k acc Y.env) kk) (hacc:∀ H:Hp,H acc=none→wH Y pins H acc) (hfp:∀ H:Hp,(∀ b∈fp,H b=none)→∀ b∈fp,wH Y pins H b) (hne:acc ∉ fp)
  (hi:i≤items.length) (st:TurnSt Y pins P1 α1 fp acc env S ds s σ H P α o) (st1:tn i s.heap) (run:goL o' g t kk (items.drop i) env S ds=.ok (envF,dsF) SF)
  (hA:∀ s' σ' H' P' α' o1 env1 S' ds',i<items.length→TurnSt Y pins P1 α1 fp acc env1 S' ds' s' σ' H' P' α' o1→tn (i+1) s'.heap→goL o' g t kk (items.drop (i+1)) env1 S' ds'=.ok (envF,dsF) SF→Qa s')
  (hD:∀ s' σ' H' P' α' o',TurnSt Y pins P1 α1 fp acc envF SF dsF s' σ' H' P' α' o'→Qd s') :
  Ao (Au Y.prog Y.w) Y.A (Ly (.ref it)) (fun r s1=>(r=none→Qd s1)∧∀ v,r=Aa v→Ao (Au Y.prog Y.w) Y.A (Jt tg (.ref it) v) (fun _ s2=>Ao (Au Y.prog Y.w) Y.A (assign tg Y.env v) (fun _ s3=>Ao (Au Y.prog Y.w) Y.A (b9 ifs Y.env) (fun b s4=>(b=false→Qa s4)∧(b=true→Ao (Au Y.prog Y.w) Y.A (wD elt gens scope pos k (.ref acc) Y.env) (fun _ s5=>Qa s5) E s4)) E s3) E s2) E s1) E s:=by
 have I1:=_D.Inv.pin1 st.inv (hacc H st.acn) st.at' st.acc.cell;have fp1:=MP hfp hne o;by_cases hlt:i<items.length
 ·have hdr:items.drop i=items[i]::items.drop (i+1):=Gm hlt
  rw[hdr] at run;have run:=KC run;have hst:stn o' S:=by cases run with|no _ _ _ z=>exact z|yes _ _ _ _ _ _ z=>exact z
  refine nH (T.item Y rfl rfl rfl hc i _ s σ H (fun _ _=>Fm) I1 (fp1 H st.fpn) st1 (hit.go i H P α S hlt st.rel hst st.same st.pre)) fun r s1 ⟨u,hr,h1⟩=>⟨fun z=>(by rw[hr] at z;cases z),fun v hv=>?_⟩
  obtain rfl:v=u:=Cw (hv.symm.trans hr);refine nH h1 fun _ s2 ⟨x,H2,I2,rx,y,st2,fr2⟩=>?_;obtain⟨P2,d,hd,r2,e2,rp⟩:=hit.yld i H x H2 P α S hlt st.rel hst st.same st.pre y;cases (Ap hlt).symm.trans hd;have pl:=T.obj _ _ st2;have I2':=I2.pinned (fp1 _ fr2) pl;have two:∀ env1 S1 b S2,g items[i] env S=.ok env1 S1→t env1 S1=.ok b S2→(∀ s4 σ3 H4 P4 α4 (I4:Inv Y (pins++uV fp s2.heap) σ3 H4 s4),TurnSt Y pins P1 α1 fp acc env1 S2 ds s4 σ3 H4 P4 α4 o→tn (i+1) s4.heap→(b=false→Qa s4)∧(b=true→Ao (Au Y.prog Y.w) Y.A (wD elt gens scope pos k (.ref acc) Y.env) (fun _ s5=>Qa s5) E s4))→Ao (Au Y.prog Y.w) Y.A (assign tg Y.env v) (fun _ s3=>Ao (Au Y.prog Y.w) Y.A (b9 ifs Y.env) (fun b s4=>(b=false→Qa s4)∧(b=true→Ao (Au Y.prog Y.w) Y.A (wD elt gens scope pos k (.ref acc) Y.env) (fun _ s5=>Qa s5) E s4)) E s3) E s2:=by
   intro env1 S1 b S2 q1 q2 next;refine nH (hx▸IT hg I2' r2 (st.env.mono e2 (Bp _)) rx rp q1) fun _ s3 ⟨σ3,H3,P3,α3,I3,r3,re3,e3,e3'⟩=>?_;refine nH (hx▸A3 ht I3 r3 re3 q2) fun b' s4 ⟨hb,H4,P4,α4,I4,r4,re4,e4,e4'⟩=>?_;have I4':Inv Y (pins++uV fp s2.heap) σ3 H4 s4:=I4.pins_of fun p hp=>I4.pin p (Cg _ ((Cn.mp hp).elim (fun z=>Ds _ (Ds _ z)) fun z=>Cg _ z));have a4:=I4.pin (acc,o) (Cg _ (Ds _ (Cg _ (De.mpr rfl))));rw[hb];exact next s4 σ3 H4 P4 α4 I4' ⟨I4'.unpinned,r4,re4,((st.same.trans e2).trans e3).trans e4,(st.pre.trans e3').trans e4',(pJ T st2 pl I4').2,a4.2.1,a4.1,st.acc.mono ((e2.trans e3).trans e4) (e3'.trans e4')⟩ (pJ T st2 pl I4').1
  cases run with
  |no env1 S1 S2 _ q1 q2 run=>exact two env1 S1 false S2 q1 q2 fun s4 σ3 H4 P4 α4 I4 st4 tn4=>⟨fun _=>hA s4 σ3 H4 P4 α4 o env1 S2 ds hlt st4 tn4 run,fun z=>(by cases z)⟩
  |yes env1 S1 S2 env5 ds5 S5 _ q1 q2 q3 run =>
   refine two env1 S1 true S2 q1 q2 fun s4 σ3 H4 P4 α4 I4 st4 tn4=>⟨fun z=>(by cases z),fun _=>?_⟩
   refine nH (he (pins++uV fp s2.heap) P1 α1 acc env1 env5 S2 S5 ds ds5 s4 (fun H hn=>Y7 (hacc H hn) hne) ⟨σ3,H4,P4,α4,o,I4,st4.rel,st4.env,st4.same,st4.pre,fun b hb=>(by cases hb),st4.acn,st4.at',st4.acc⟩ q3) fun _ s5 ⟨σ5,H5,P5,α5,o5,T5⟩=>?_
   exact hA s5 σ5 H5 P5 α5 o5 env5 S5 ds5 hlt ⟨T5.inv.unpinned,T5.rel,T5.env,T5.same,T5.pre,(pJ T st2 pl T5.inv).2,T5.acn,T5.at',T5.acc⟩ (pJ T st2 pl T5.inv).1 run
 ·rw[Mp om] at run
  obtain⟨z,rfl,rfl,rfl⟩:=MR run;refine nH (T.done Y rfl rfl rfl hc i _ s σ H (fun _ _=>Fm) I1 (fp1 H st.fpn) st1 (hit.stop i H P α _ om st.rel z st.same st.pre)) fun r s1 ⟨hr,I2⟩=>⟨fun _=>?_,fun v hv=>(by rw[hr] at hv;cases hv)⟩
  have a:=_D.Inv.pinned1 I2;exact hD s1 σ H P α o ⟨I2.unpinned,st.rel,st.env,st.same,st.pre,st.fpn,a.2,a.1,st.acc⟩
theorem X0 {o':Al (Ai × MO)}{kk:DK}{R:Xj→Ag→Prop}{s:Ag}{σ : _L.St}{H P:Hp}{α : Ab Af}{env envF:qD}{S SF:Sto}{ds0 dsF:Ab D}{o:Cq}(hc:Y.calm=true)(hx:Y.xe=fun _ _=>Fm)(hgk:gens[k]? = Aa ⟨tg,iter,ifs,0⟩)(has:∀ g',gens[k+1]? = Aa g'→g'.is_async=0)
  (T:Turn Y.prog Y.w Y.K tg J fp it tn) (hit:ItD2 Y.K J P1 α1 o' items) (hg:PG Y tg (tDG Y g)) (ht:PTs Y ifs t) (he:PK Y (fun acc=>wD elt gens scope pos k acc Y.env) kk) (hacc:∀ H:Hp,H acc=none→wH Y pins H acc) (hfp:∀ H:Hp,(∀ b∈fp,H b=none)→∀ b∈fp,wH Y pins H b) (hne:acc ∉ fp)
  (st:TurnSt Y pins P1 α1 fp acc env S ds0 s σ H P α o) (st0:tn 0 s.heap) (run:goL o' g t kk items env S ds0=.ok (envF,dsF) SF)
  (hR:∀ s' σ' H' P' α' o',TurnSt Y pins P1 α1 fp acc envF SF dsF s' σ' H' P' α' o'→R (.ok .next) s') :
  Kx (Au Y.prog Y.w) Y.A (.compLoop (.ListComp elt gens scope pos) k (.ref it) (.ref acc) Y.env) R s:=by
 refine codeAny_loop rfl (LpI Y pins P1 α1 fp acc tn (goL o' g t kk) items (envF,dsF) SF) (fun n s hI=>?_) items.length ⟨0,σ,H,P,α,o,env,S,ds0,rfl,Ha _,st,st0,run⟩;obtain⟨i,σ,H,P,α,o,env,S,ds,hn,hi,st,st1,run⟩:=hI;subst hn;refine wpAny_noted (NY hgk has (Qa:=fun s'=>∃ m,m<items.length-i∧LpI Y pins P1 α1 fp acc tn (goL o' g t kk) items (envF,dsF) SF m s') (Qd:=R (.ok .next)) (fun _ h=>⟨rfl,h⟩) (fun _ h=>h) ?_);exact X1 hc hx T hit hg ht he hacc hfp hne hi st st1 run (fun s' σ' H' P' α' o1 env1 S' ds' hlt st' tn' run'=>⟨_,Nat.sub_succ_lt_self _ _ hlt,i+1,σ',H',P',α',o1,env1,S',ds',rfl,hlt,st',tn',run'⟩) hR
set_option tactic.hygienic true in
theorem N4 (hx:Y.xe=fun _ _=>Fm)(hlast:gens[k+1]? = none)(he:PE Y elt (tD Y fe)):PK Y (fun acc=>wD elt gens scope pos k acc Y.env) (zB fe):=by
 intro pins P1 α1 acc env env' S S' ds ds' s hacc ⟨σ,H,P,α,o,st⟩ run;show Ao _ _ (wD elt gens scope pos k (.ref acc) Y.env) _ _ s;unfold wD;rw[hlast];dsimp only;unfold zB at run;cases q3:fe env S with
 |bad=>rw[q3] at run;cases run
 |ex c z S'=>rw[q3] at run;cases run
 |ok d5 S5 =>
  rw[q3,Res.bind_ok] at run
  split at run
  ·rename_i hlen
   cases run;have fA:=hacc H st.acn;have I1:=_D.Inv.pin1 st.inv fA st.at' st.acc.cell;refine Ad (nH (hx▸IS he I1 st.rel st.env q3) fun u5 s5 ⟨v5,H5,P5,α5,G5⟩=>?_);have J:=_D.Inv.pinned1 G5.inv;have J1:=G5.inv.unpinned;obtain⟨J4,J5⟩:=J;obtain⟨its,n5,vs,ho,rvs,rps,hz⟩:=st.acc;subst ho;have hlen':vs.length=ds.length:=rps.length.symm;have hl2:=rvs.length;refine Ad (Mn Vl ⟨_,J4,rfl⟩ Up (Tx _ _) (Wn acc its.toArray n5 u5 (by rw[Bb];rw[← xN];omega)) ⟨J4,?_⟩)
   have q:=Xn J4 (·.push u5)
   have fA5:=hacc H5 J5;have keep:∀ b o,b≠acc→s5.heap.get? b=Aa o→(s5.heap.update acc (Ey (·.push u5))).get? b=Aa o:=fun b o hb e=>(Di s5.heap _ (Ho hb)).trans e
   have I6:=J1.turned (t':=s5.toks) keep J5 fA5.2.1 fA5.2.2.2.1 fA5.2.2.2.2.1 fA5.2.2.2.2.2;refine Am ⟨σ,H5,P5,α5,_,I6,G5.rel,G5.env,st.same.trans G5.same,st.pre.trans G5.pre,fun b hb=>(by simp at hb),J5,q,?_⟩
   refine⟨its++[u5],_,vs++[v5],by simp <;> rfl,rvs.append (.cons G5.val .nil),?_,by simp;omega⟩
   exact(qF.mono G5.same G5.pre _ _ rps).append (.cons G5.rep .nil)
  ·cases run
end
def mkM (m:Aq)(r:Res (qD × Ab D)):Res D:=match r with
 |.ok p S2=>if m then .ok (.loc S2.length) (S2++[.lst p.2]) else .ok (.lst p.2) S2
 |_=>.bad
def qW (m:Aq)(cap:Ab (Al Ai))(fi:DI2)(g:DG)(t:DT)(k:DK):DE:=fun env S=>(fi env S).bind fun p S1=>mkM m (goL p.1 g t k p.2 (xU cap env) S1 [])
section
variable {X:Cx}{elt tg iter:By}{ifs:Ab By}{scope:Gp}{pos:Fk}{N':Ab Ax}{cap:Ab (Al Ai)}{fi:DI2}{g:DG}{t:DT}{kk:DK}{rest:Ab Fn}{mm:Aq}
theorem YY {P:Hp}{α : Ab Af}{r:Res (qD × Ab D)}{Ok:D→Sto→Prop}(h:qI X P α (mkM mm r) Ok):∃ envF ds SF,r=.ok (envF,ds) SF∧(if mm then Ok (.loc SF.length) (SF++[.lst ds]) else Ok (.lst ds) SF):=by
 cases r with
 |ok p S =>
  obtain⟨envF,ds⟩:=p;refine⟨envF,ds,S,rfl,?_⟩;cases mm <;> exact h
 |ex c x S=>exact An h
 |bad=>exact An h
theorem JZ {pins:Ab (Af × Cq)}{σ : _L.St}{P1:Hp}{α1:Ab Af}{ds:Ab D}{SF:Sto}{acc C:Af}{s:Ag}{Q:VK}(c:mM X pins σ P1 α1 ds SF acc C s)(ok:if mm then OkV X P1 α1 Q (.loc SF.length) (SF++[.lst ds]) else OkV X P1 α1 Q (.lst ds) SF):EP X pins σ Q (.ref acc) s:=by
 cases mm with
 |false=>exact ME c ok
 |true =>
  obtain⟨H',P',α',vs,I,r,hn,e1,e2,rp,_⟩:=c;exact⟨.ref acc,_,I,rfl,sE r hn rp fun v H2 P2 α2 r2 q1 q2 q3=>ok v H2 P2 α2 r2 (e1.trans q1) (e2.trans q2) q3⟩
theorem tQ {o':Al (Ai × MO)}{kk:DK}{pins:Ab (Af × Cq)}{σ : _L.St}{H2 P1:Hp}{α1:Ab Af}{s2:Ag}{S1 SF:Sto}{env envF:qD}{ds items:Ab D}{it:Af}{fp:Ab Af}{tn:Ai→Bs→Prop}{J:It}{E:Ac→Ag→Prop}{RR:Ac→Af→Xj→Ag→Prop}{rest:Ab Fn}
  (hc:X.calm=true) (S:CompSc X.env.scope X.N scope N' cap) (has:∀ g',(⟨tg,iter,ifs,0⟩::rest:Ab Fn)[0+1]? = Aa g'→g'.is_async=0)
  (hg:∀ cl C ex s₀ H₀,PG (zE X N' scope cl C ex s₀ H₀) tg (tDG (zE X N' scope cl C ex s₀ H₀) g))
  (ht:∀ cl C ex s₀ H₀,PTs (zE X N' scope cl C ex s₀ H₀) ifs t) (he:∀ cl C ex s₀ H₀,PK (zE X N' scope cl C ex s₀ H₀) (fun acc=>wD elt (⟨tg,iter,ifs,0⟩::rest) scope pos 0 acc (zE X N' scope cl C ex s₀ H₀).env) kk)
  (I2:Inv X pins σ H2 s2) (r:Rel X.K H2 P1 α1 S1) (re:zH X.K P1 α1 σ env) (T:Turn X.prog X.w X.K tg J fp it tn) (st0:tn 0 s2.heap) (hf:∀ b∈fp,wH X pins H2 b) (hit:ItD2 X.K J P1 α1 o' items) (run:goL o' g t kk items (xU cap env) S1 [] = .ok (envF,ds) SF)
  (hRR:∀ acc C s',s2.heap.objs.size≤acc→(∃ m,s'.heap.Ns C m)→s2.heap.objs.size≤C→acc≠C→(∀ h',Fa C s'.heap h'→mM X pins σ P1 α1 ds SF acc C { s' with heap:=h' }) → RR (.ref acc) C (.ok .next) s') :
  Ao (Au X.prog X.w) X.A (newList []) (fun acc s₃=>Ao (Au X.prog X.w) X.A (newFunctionEnv scope X.env.globals (yD X.env.cells scope.names []) [] X.env.qual none .none (Aa X.env)) (fun cenv s₄ =>
   Kx (Au X.prog X.w) X.A (.compStart (.ListComp elt (⟨tg,iter,ifs,0⟩::rest) scope pos) 0 (.ref it) acc { cenv with scope:=relabel scope X.env }) (RR acc cenv.locals) s₄) E s₃) E s2:=by
 have hlt:∀ b∈fp,b<s2.heap.objs.size:=fun b hb=>by
  obtain⟨o,e,_⟩:=T.obj 0 _ st0 b hb;exact Ba e
 refine Du (wpAny_newFunctionEnv S.nocell (by intro y hy;simp at hy) (fun h₁ hns₁ hsb₁=>?_) S.kind)
 dsimp only at hns₁ hsb₁ ⊢;generalize hH2:s2.heap.push { cls:=.type "list",dict:=none,data:=.seq ([] : Ab Ac).toArray } = Hh at hns₁ hsb₁ ⊢;have hsz:Hh.objs.size=s2.heap.objs.size+1:=by rw[← hH2,En]
 have hC:s2.heap.objs.size≤Hh.objs.size:=by rw[hsz];exact Ta _
 have hne:s2.heap.objs.size≠Hh.objs.size:=by rw[hsz];exact Cy (Jj _)
 have keep:∀ b o,s2.heap.get? b=Aa o→h₁.get? b=Aa o:=fun b o e=>by
  have hb:b≠Hh.objs.size:=by rw[hsz];exact Cy (Mf (Ba e))
  exact hsb₁.extBut b o hb (Ah _ (hH2▸Ah _ e))
 have hacc:h₁.get? s2.heap.objs.size=Aa { cls:=.type "list",data:=.seq ([] : Ab Ac).toArray }:=hsb₁.extBut _ _ hne (Ah _ (hH2▸Be _ rfl));have I4:∀ tk,Inv (zE X N' scope (yD X.env.cells scope.names []) Hh.objs.size fp s2 H2) [] (j3 cap σ) H2 { s2 with heap:=h₁,toks:=tk }:=fun tk =>
  JH (s4:={ s2 with heap:=h₁,toks:=tk }) S I2 hf hlt hC hns₁ rfl rfl keep
 have loop:∀ tk,Kx (Au X.prog X.w) X.A (.compLoop (.ListComp elt (⟨tg,iter,ifs,0⟩::rest) scope pos) 0 (.ref it) (.ref s2.heap.objs.size) (compEnvC scope (yD X.env.cells scope.names []) Hh.objs.size X.env)) (RR (.ref s2.heap.objs.size) Hh.objs.size) { s2 with heap:=h₁,toks:=tk }:=fun tk=>by
  refine X0 (kk:=kk) (o':=o') (Y:=zE X N' scope (yD X.env.cells scope.names []) Hh.objs.size fp s2 H2) (pins:=[]) (fp:=fp) (acc:=s2.heap.objs.size) (P1:=P1) (α1:=α1) (σ:=j3 cap σ) (H:=H2) (P:=P1) (α:=α1) (o:={ cls:=.type "list",data:=.seq ([] : Ab Ac).toArray }) hc rfl rfl has T hit
   (hg _ _ _ _ _) (ht _ _ _ _ _) (he _ _ _ _ _) (fun H hn=>?_) (fun H hn b hb=>?_) (fun hm=>Eu _ (hlt _ hm)) ⟨I4 tk,r,U6 re cap,qH.refl _,Bp _,fun b hb=>(hf b hb).1,I2.hok.fresh (As _),hacc,⟨[],0,[],rfl,.nil,.nil,Ha _⟩⟩ (T.keep _ _ _ st0 fun b hb o e=>keep b o e) run fun s' σ' H' P' α' o' st=>?_
  ·refine⟨hn,hne,fun hm=>?_,.inr (As _),fun x c h z=>?_,fun p hp=>absurd (show p∈([]:Ab (Af × Cq)) from hp) (by simp)⟩
   ·obtain⟨_,o,ho,_⟩:=I2.stack.mem hm
    exact Eu _ (Ba ho)
   ·obtain⟨v,ob,hob,_⟩:=I2.cell x c (wT S I2.ok h)
    rw[z] at hob;exact Eu _ (Ba hob)
  ·obtain⟨_,h1,h2,h3,h4,h5⟩:=hf b hb
   refine⟨hn b hb,Cy (Bt (hlt b hb) hC),fun hm=>?_,.inl hb,fun x c h=>h4 x c (wT S I2.ok h),fun p hp=>absurd (show p∈([]:Ab (Af × Cq)) from hp) (by simp)⟩
   rcases Av.mp (I2.stkSub b hm) with z|z
   ·exact h1 z
   ·exact h2 z
  ·obtain⟨m,hm,_⟩:=st.inv.loc
   exact hRR _ _ s' (As _) ⟨m,hm⟩ hC hne fun h' sb=>JG I2 hf rfl hC (As _) hne st sb
 exact codeAny_compStart_list (loop _) (T.self X.A 0 _ _ _ (T.keep _ _ _ st0 fun b hb o e=>keep b o e) (loop _))
theorem JP (hc:X.calm=true)(S:CompSc X.env.scope X.N scope N' cap)(hi:PI X tg iter (tDI2 X fi))
  (hg:∀ cl C ex s₀ H₀,PG (zE X N' scope cl C ex s₀ H₀) tg (tDG (zE X N' scope cl C ex s₀ H₀) g))
  (ht:∀ cl C ex s₀ H₀,PTs (zE X N' scope cl C ex s₀ H₀) ifs t) (has:∀ g',(⟨tg,iter,ifs,0⟩::rest:Ab Fn)[0+1]? = Aa g'→g'.is_async=0) (he:∀ cl C ex s₀ H₀,PK (zE X N' scope cl C ex s₀ H₀) (fun acc=>wD elt (⟨tg,iter,ifs,0⟩::rest) scope pos 0 acc (zE X N' scope cl C ex s₀ H₀).env) kk)
  (hs:∀ x,Fy iter X.env x=pure x:=by intro _;rfl):PE X (.ListComp elt (⟨tg,iter,ifs,0⟩::rest) scope pos) (tD X (qW mm cap fi g t kk)):=by
 intro pins s σ H Q I h;obtain⟨P,α,env,S0,r,re,af⟩:=h;rw[eval_ListComp];have af':qI X P α ((fi env S0).bind fun p S1=>mkM mm (goL p.1 g t kk p.2 (xU cap env) S1 [])) (OkV X P α Q):=af;refine Qu (use:=none) rfl hs (oI S I.ok) S.kind S.names ?_;refine thn (hi pins s σ H (fun J H1=>∃ (P1:Hp) (α1:Ab Af) (p:Al (Ai × MO) × Ab _D.D) (S1:Sto),Rel X.K H1 P1 α1 S1∧qH P P1∧α<+:α1∧ItD2 X.K J P1 α1 p.1 p.2∧qI X P α (mkM mm (goL p.1 g t kk p.2 (xU cap env) S1 [])) (OkV X P α Q)) I ⟨P,α,env,S0,r,re,?_⟩) fun xv s1 h1=>thn h1 fun itv s2 h2=>?_
 ·cases q:fi env S0 with
  |bad=>rw[q] at af';exact af'
  |ex c x S'=>rw[q] at af';exact af'
  |ok p S1=>rw[q] at af';exact fun J H1 P1 α1 r1 e1 e2 it=>⟨P1,α1,p,S1,r1,e1,e2,it,af'⟩
 obtain⟨it,fp,tn,J,H2,rfl,I2,T,st0,hf,P1,α1,p,S1,r1,e1,e2,hit,af1⟩:=h2;obtain⟨envF,ds,SF,run,ok⟩:=YY af1;refine tQ (RR:=fun acc C=>compPost (Au X.prog X.w) X.A X.xe none (EP X pins σ Q) acc C) hc S has hg ht he I2 r1 (re.mono e1 e2) T st0 hf hit run ?_;intro acc C s' hA ⟨m,hm⟩ hC hne fin;refine⟨m,hm,fun h' sb=>JZ (mm:=mm) (fin h' sb) ?_⟩;cases mm with
 |false=>exact fun v H3 P3 α3 r3 q1 q2 q3=>ok v H3 P3 α3 r3 (e1.trans q1) (e2.trans q2) q3
 |true=>exact fun v H3 P3 α3 r3 q1 q2 q3=>ok v H3 P3 α3 r3 (e1.trans q1) (e2.trans q2) q3
theorem JW {i:Ai}{y:Ax}{py spos:Fk}(hc:X.calm=true)(hN:X.N.Nodup)(S:CompSc X.env.scope X.N scope N' cap)(hi:PI X tg iter (tDI2 X fi))
  (hg:∀ cl C ex s₀ H₀,PG (zE X N' scope cl C ex s₀ H₀) tg (tDG (zE X N' scope cl C ex s₀ H₀) g))
  (ht:∀ cl C ex s₀ H₀,PTs (zE X N' scope cl C ex s₀ H₀) ifs t) (has:∀ g',(⟨tg,iter,ifs,0⟩::rest:Ab Fn)[0+1]? = Aa g'→g'.is_async=0) (he:∀ cl C ex s₀ H₀,PK (zE X N' scope cl C ex s₀ H₀) (fun acc=>wD elt (⟨tg,iter,ifs,0⟩::rest) scope pos 0 acc (zE X N' scope cl C ex s₀ H₀).env) kk)
  (hy:X.N[i]? = Aa y:=by rfl) (hyl:Loc X.env.scope y:=by first|exact Zj rfl|exact Xo rfl) (hf:X.fn y=true∨X.env.scope.names.lookup y=Aa .local:=by first|exact .inl rfl|exact .inr rfl|assumption)
  (hsw:Me (.ListComp elt (⟨tg,iter,ifs,0⟩::rest) scope pos) (Aa (.Name y py)) spos.line X.env=pure true:=by rfl)
  (hs:∀ x,Fy iter X.env x=pure x:=by intro _;rfl):PS X (.Assign [.Name y py] (.ListComp elt (⟨tg,iter,ifs,0⟩::rest) scope pos) spos) (tDS X (zI (qW mm cap fi g t kk) (gNm i))):=by
 intro pins s σ H D I h;obtain⟨P,α,env,S0,r,re,af⟩:=h;have af0:=vB af;have af':qI X P α ((fi env S0).bind fun p S1=>mkM mm (goL p.1 g t kk p.2 (xU cap env) S1 [])) (fun d S=>zN X P α (.nx (env.set i (Aa d)) S) D):=af0;rw[exec_Assign_Name_used _ _ _ _ hsw];refine Ad (Pw (Ad ?_));show Ao _ X.A (do let _ ← comprehension (.ListComp elt (⟨tg,iter,ifs,0⟩::rest) scope pos) scope X.env _ (newList []) false (eval iter X.env) (Aa (assign (.Name y py) X.env))) _ _ s
 refine Ad (Hz (Qu (use:=Aa (assign (.Name y py) X.env)) (Q:=fun _ s'=>SP X pins D .next s') rfl hs (oI S I.ok) S.kind S.names ?_) (fun _ s' hq=>Am (Am hq)) fun _ _ e=>e);refine thn (hi pins s σ H (fun J H1=>∃ (P1:Hp) (α1:Ab Af) (p:Al (Ai × MO) × Ab _D.D) (S1:Sto),Rel X.K H1 P1 α1 S1∧qH P P1∧α<+:α1∧ItD2 X.K J P1 α1 p.1 p.2∧qI X P α (mkM mm (goL p.1 g t kk p.2 (xU cap env) S1 [])) (fun d S=>zN X P α (.nx (env.set i (Aa d)) S) D)) I ⟨P,α,env,S0,r,re,?_⟩) fun xv s1 h1=>thn h1 fun itv s2 h2=>?_
 ·cases q:fi env S0 with
  |bad=>rw[q] at af';exact af'
  |ex c x S'=>rw[q] at af';exact af'
  |ok p S1=>rw[q] at af';exact fun J H1 P1 α1 r1 e1 e2 it=>⟨P1,α1,p,S1,r1,e1,e2,it,af'⟩
 obtain⟨it,fp,tn,J,H2,rfl,I2,T,st0,hfp,P1,α1,p,S1,r1,e1,e2,hit,af1⟩:=h2;obtain⟨envF,ds,SF,run,ok⟩:=YY af1;refine tQ (RR:=fun acc C=>compPost (Au X.prog X.w) X.A X.xe (Aa (assign (.Name y py) X.env)) (fun _ s'=>SP X pins D .next s') acc C) hc S has hg ht he I2 r1 (re.mono e1 e2) T st0 hfp hit run ?_;intro acc C s' hA ⟨m,hm⟩ hC hne fin;show Ao _ X.A (assign (.Name y py) X.env (.ref acc)) _ _ s';obtain⟨H3,P3,α3,vs,I3,r3,hn3,q1,q2,rp,hCn⟩:=fin s'.heap (Qj _ _);obtain⟨r4,e4⟩:=r3.pure (o:=.lst vs) hn3;have hCn':(upd H3 acc (.lst vs)) C=none:=by rw[qP (Ho hne)];exact hCn
 have fC:=I2.fpOk hC hCn';refine Wg (eB I3 hN hy hyl (show qK (V.ref acc) (Dc acc) from rfl) (fun s5 I5 ⟨a,sb,ha⟩=>?_) hf)
 have hCa:C≠a:=by
  rcases ha with rfl|ha
  ·exact fC.2.1
  ·exact fun z=>fC.2.2.2.2.1 _ _ ha z.symm
 refine⟨m,hm.sameBut sb hCa,fun h' sb'=>?_⟩;have I6:Inv X pins (σ.set i (Aa (V.ref acc))) (upd H3 acc (.lst vs)) { s5 with heap:=h' }:=I5.turned (t':=s5.toks) (fun b o hb e=>(sb'.2 b hb).trans e) hCn' fC.2.1 fC.2.2.2.1 fC.2.2.2.2.1 fC.2.2.2.2.2
 cases mm with
 |false =>
  refine⟨_,_,I6,ok _ _ (upd P3 acc (.lst vs)) α3 r4 ?_ ((e1.trans q1).trans e4) (e2.trans q2)⟩;exact((re.mono e1 e2).mono (q1.trans e4) q2).set i (t9 (.inl (.inl zD)) (qF.mono e4 (Bp _) _ _ rp))
 |true =>
  have hpre:α3<+:α3++[acc]:=Gt _ _;have r5:=r3.new (o:=.lst vs) (m:=.lst ds) hn3 ⟨vs,zD,qF.mono (qH.refl _) hpre _ _ rp⟩;refine⟨_,_,I6,ok _ _ P3 (α3++[acc]) r5 ?_ (e1.trans q1) ((e2.trans q2).trans hpre)⟩;refine((re.mono e1 e2).mono q1 (q2.trans hpre)).set i ?_;simp only[Rep];exact⟨acc,rfl,by rw[← r3.len];simp⟩
end
section
variable {prog:Bm}{w:Cb}{A:Bz}{E:Ac→Ag→Prop}{s:Ag}
theorem Y0 {tp:Aq}{e it l:Af}{i:Ai}{xs:Aw Ac}{x old:Ac}{Q:Ac→Ag→Prop}(he:Tc s.heap e it i old)(hit:zT tp s.heap it l i)(hl:wR tp s.heap l xs)(hx:xs[i]? = Aa x)(ne:e≠it)
  (hQ:∀ g,Zv g e it ((i:Aj)+1) x s.heap.objs.size→zT tp g it l (i+1)→Im g s.heap.objs.size (.int i s.toks) x→g.objs.size=s.heap.objs.size+1→(∀ b o,b≠e→b≠it→s.heap.get? b=Aa o→g.get? b=Aa o)→Q (.ref s.heap.objs.size) { s with heap:=g,toks:=s.toks+1 }) :
  Ao (Au prog w) A (Hs.«enumerate.__next__» ⟨[.ref e],[]⟩) (fun fin s'=>∃ v,fin=.done (.ret v)∧Q v s') E s:=by
 obtain⟨hp,gn,dr,tk,os⟩:=s;show Ao _ _ (field (.ref e) 2 >>= _) _ _ _;refine Ad (Dx he rfl (x:=.ref it) rfl (Ad (bV hit hl hx fun g1 i1 s1=>?_)))
 replace s1:Fa it hp g1:=s1
 have e1:Tc g1 e it i old:=(s1.2 e ne).trans he;show Ao _ _ (field (.ref e) 3 >>= _) _ _ ⟨g1,gn,dr,tk,os⟩;refine Ad (Dx e1 rfl (x:=Mu i) rfl ?_);show Ao _ _ (field (.ref e) 4 >>= _) _ _ ⟨g1,gn,dr,tk,os⟩;refine Ad (Dx e1 rfl (x:=.none) rfl ?_);show Ao _ _ (mkInt i >>= _) _ _ ⟨g1,gn,dr,tk,os⟩;refine Ad (wpAny_mkInt ?_);show Ao _ _ (setField (.ref e) 3 (Mu ((i:Aj)+1)) >>= _) _ _ ⟨g1,gn,dr,tk+1,os⟩;refine Ad (Fb e1 (by simp) fun g2 e2 s2=>?_)
 replace s2:Fa e g1 g2:=s2
 replace e2:Tc g2 e it ((i:Aj)+1) old:=e2
 show Ao _ _ (setField (.ref e) 4 .none >>= _) _ _ ⟨g2,gn,dr,tk+1,os⟩;refine Ad (Fb e2 (by simp) fun g3 e3 s3=>?_)
 replace s3:Fa e g2 g3:=s3
 replace e3:Tc g3 e it ((i:Aj)+1) old:=e3
 show Ao _ _ (newTuple [.int i tk,x] >>= _) _ _ ⟨g3,gn,dr,tk+1,os⟩;refine Ad (Tp ?_);have e4:Tc (g3.push { cls:=.type "tuple",data:=.seq #[.int i tk,x] }) e it ((i:Aj)+1) old:=Ah _ e3;generalize q4:g3.push { cls:=.type "tuple",data:=.seq #[.int i tk,x] } = g4 at e4;have sz:g3.objs.size=hp.objs.size:=by rw[s3.1,s2.1,s1.1]
 have el:e<hp.objs.size:=Ba he;have t4:Im g4 hp.objs.size (.int i tk) x:=by rw[← q4,← sz];exact Be _ rfl
 have z4:g4.objs.size=hp.objs.size+1:=by rw[← q4,En,sz]
 have k4:∀ b o,b≠e→b≠it→hp.get? b=Aa o→g4.get? b=Aa o:=fun b o b1 b2 q=>by
  rw[← q4];exact Ah _ (s3.extBut b o b1 (s2.extBut b o b1 (s1.extBut b o b2 q)))
 have i4:zT tp g4 it l (i+1):=i1.keep fun o q=>by rw[← q4];exact Ah _ (s3.extBut _ o ne.symm (s2.extBut _ o ne.symm q))
 show Ao _ _ (Es (.ref e) >>= _) _ _ ⟨g4,gn,dr,tk+1,os⟩;rw[sz];refine Ad ?_;unfold Es;refine Ad (Dx e4 rfl (x:=.none) rfl (Am ?_));simp only[Dq];refine Ad (He (Ad (Dx e4 rfl (x:=old) rfl (Ad (Fb e4 (by simp) fun g5 e5 s5=>?_)))))
 replace s5:Fa e g4 g5:=s5
 replace e5:Tc g5 e it ((i:Aj)+1) x:=e5
 show Ao _ _ (Gq (.ref e) (.ref hp.objs.size) >>= _) _ _ ⟨g5,gn,dr,tk+1,os⟩;refine Ad ?_;unfold Gq;refine Ad (Fb e5 (by simp) fun g6 e6 s6=>?_)
 replace s6:Fa e g5 g6:=s6
 replace e6:Zv g6 e it ((i:Aj)+1) x hp.objs.size:=e6
 refine Fb e6 (by simp) fun g7 e7 s7=>?_
 replace s7:Fa e g6 g7:=s7
 replace e7:Zv g7 e it ((i:Aj)+1) x hp.objs.size:=e7
 have up:∀ b o,b≠e→g4.get? b=Aa o→g7.get? b=Aa o:=fun b o b1 q=>s7.extBut b o b1 (s6.extBut b o b1 (s5.extBut b o b1 q));exact Ad (Sy (Am ⟨_,rfl,hQ g7 e7 (i4.keep fun o q=>up _ o ne.symm q) (up _ _ (Gz el) t4) (by rw[s7.1,s6.1,s5.1,z4]) fun b o b1 b2 q=>up b o b1 (k4 b o b1 b2 q)⟩))
set_option maxHeartbeats 4000000 in
set_option tactic.hygienic true in
theorem K2 (tp:Aq)(l:Af)(xs:Aw Ac) :
  Meets (Hs.«enumerate.__new__» ⟨[.type "enumerate",.ref l],[]⟩) (fun _ R s=>(∃ n dct sl,s.heap.get? l=Aa { cls:=.type (if tp then "tuple" else "list"),dict:=dct,data:=.seq xs n,slots:=sl }) ∧ R (.ok (.ret (.ref (s.heap.push (jT tp l)).objs.size))) { s with heap:=(s.heap.push (jT tp l)).push { cls:=.type "enumerate",data:=.fields #[.none,.bool false,.ref s.heap.objs.size,Mu 0,.none,.none] } }):=
 .of_wp fun prog w A R s h=>by
  obtain⟨hp,gn,dr,tk,os⟩:=s;obtain⟨⟨n,dct,sl,hl⟩,h⟩:=h;have hsub:=sub_enumerate;cases tp
  ·have L1:Xp (Nh ⟨hp,gn,dr,tk,os⟩) l xs:=⟨_,hl,rfl,n,rfl⟩
   wp_walk using Gr hl
   refine Yi fun st=>Am ?_
   split
   ·rename_i c _ _ _ _ _
    cases (c == Hr "enumerate") <;> (wp_walk using Gr hl,Gk L1;exact⟨_,rfl,h⟩)
   ·wp_walk using Gr hl,Gk L1;exact⟨_,rfl,h⟩
  ·have L1:Wa (Nh ⟨hp,gn,dr,tk,os⟩) l xs:=⟨_,hl,rfl,n,rfl⟩
   wp_walk using Gr hl
   refine Yi fun st=>Am ?_
   split
   ·rename_i c _ _ _ _ _
    cases (c == Hr "enumerate") <;> (wp_walk using Gr hl,Gu L1;exact⟨_,rfl,h⟩)
   ·wp_walk using Gr hl,Gu L1;exact⟨_,rfl,h⟩
theorem WH {tp:Aq}{l:Af}{xs:Aw Ac}{Q:Ac→Ag→Prop}(hl:∃ n dct sl,s.heap.get? l=Aa { cls:=.type (if tp then "tuple" else "list"),dict:=dct,data:=.seq xs n,slots:=sl })
  (h:∀ g,Tc g (s.heap.objs.size+1) s.heap.objs.size 0 .none→zT tp g s.heap.objs.size l 0→(∀ b o,s.heap.get? b=Aa o→g.get? b=Aa o)→Q (.ref (s.heap.objs.size+1)) { s with heap:=g }) :
  Ao (Au prog w) A (call (.type "enumerate") [.ref l]) Q E s:=by
 refine callType_new F.called_enumerate (by decide) (F.typeCall_enumerate_1 _) (F.newCall_enumerate_1 _) (fun obj=>F.args_object_init_2 obj _) F.entry_enumerate_new (K2 tp l xs) ⟨hl,?_⟩
 have hz:(s.heap.push (jT tp l)).objs.size=s.heap.objs.size+1:=En ..;show _∧_;have he:((s.heap.push (jT tp l)).push { cls:=.type "enumerate",data:=.fields #[.none,.bool false,.ref s.heap.objs.size,Mu 0,.none,.none] }).get? (s.heap.push (jT tp l)).objs.size=Aa _:=Be _ rfl;rw[hz] at he ⊢;exact⟨⟨_,he,rfl⟩,h _ he (bQ (Ah _ (Be _ rfl))) fun b o x=>Ah _ (Ah _ x)⟩
end
def Ite (tp:Aq)(K:Ak)(a:Af):It:=
  ⟨fun i H=>∃ xs x,Sq tp K H a xs∧xs[i]? = Aa x,
   fun i H v H'=>∃ T x,v=.ref T∧H T=none∧H'=upd H T (.tup [.int i,x])∧∀ xs,Sq tp K H a xs→xs[i]? = Aa x,
   fun i H=>∃ xs,Sq tp K H a xs∧xs.length≤i⟩
def W7 (tp:Aq)(e it l:Af)(k:Ai)(h:Bs):Prop:=∃ old,Tc h e it k old∧zT tp h it l k
theorem UE {P:Bm}{w:Cb}{K:Ak}{elts:Ab By}{x1:Ai}{tpos:Fk}{tp:Aq}{e it a:Af}(ne:e≠it):Turn P w K (.Tuple elts x1 tpos) (Ite tp K a) [e,it] e (W7 tp e it a) where
 mem:=by simp
 obj:=fun k h st c hc=>by
  obtain⟨old,s1,s2⟩:=st;simp only[Av,Ce,Ez] at hc;rcases hc with rfl|rfl
  ·exact⟨_,s1,fun v y=>by cases y⟩
  ·exact s2.there
 keep:=fun k h h' st kp=>by
  obtain⟨old,s1,s2⟩:=st;exact⟨old,kp e (by simp) _ s1,s2.keep fun o q=>kp it (by simp) o q⟩
 item:=by
  intro X hP hw hK hc k pins s σ H E Iv hf st hg;subst hP hw hK;obtain⟨old,s1,s2⟩:=st;obtain⟨xs,x,qa,hx⟩:=hg;obtain⟨ia,ra,ha⟩:=qa.at Iv;obtain⟨u,hu,ru⟩:=ra.get hx;have hT:s.TypeIs (.ref e) "enumerate":=⟨_,s1,rfl⟩;unfold Ly;refine Ad (HT (Dz (name:=Hl "__next__") hT Kg (Ei Kg hT Sg
   (Y0 s1 s2 ha (by simpa using hu) ne fun h' a1 a2 a3 a4 a5=>Am ?_) (Rm _))))
  refine⟨_,rfl,wpAny_letOwnedTupleGo_enum (s:={ s with heap:=h',toks:=s.toks+1 }) a1 fun h2 b1 b2=>?_⟩
  have up:∀ c o,c≠e→h'.get? c=Aa o→h2.get? c=Aa o:=fun c o n q=>(b2.2 c n).trans q;have el:e<s.heap.objs.size:=Ba s1;have T2:Im h2 s.heap.objs.size (.int k s.toks) u:=up _ _ (Gz el) a3;have st2:W7 tp e it a (k+1) h2:=⟨u,b1,a2.keep fun o q=>up _ o ne.symm q⟩;refine⟨.ref s.heap.objs.size,upd H s.heap.objs.size (.tup [.int k,x]),?_,rfl,⟨_,x,rfl,Iv.hok.fresh (As _),rfl,fun zs qz=>by rw[qz.inj Iv qa];exact hx⟩,st2,fun c hc=>?_⟩
  ·have:=Inv.turnLay (fp:=[e,it]) (its:=[.int k s.toks,u]) (h':=h2) (xs:=[.int k,x]) Iv hf (fun c o hc q=>by
    simp only[Av,Ce,Ez,Sz] at hc;exact up c o hc.1 (a5 c o hc.1 hc.2 q)) (fun c hc=>by
    obtain⟨old',t1,t2⟩:=st2;simp only[Av,Ce,Ez] at hc;rcases hc with rfl|rfl
    ·exact⟨_,t1⟩
    ·obtain⟨o,q,_⟩:=t2.there;exact⟨o,q⟩) (As _) (.cons ⟨_,rfl⟩ (.cons ru .nil)) ⟨_,T2,rfl,_,rfl⟩ (by show 2≤sizeLine;decide)
   exact this.tok (s.toks+1)
  ·have hn:=(hf c hc).1
   rw[qP ?_]
   ·exact hn
   ·rintro rfl
    obtain⟨o,q,_⟩:∃ o,s.heap.get? s.heap.objs.size=Aa o∧Nr:=by
     simp only[Av,Ce,Ez] at hc;rcases hc with z|z
     ·exact⟨_,z▸s1,trivial⟩
     ·obtain⟨o,e',_⟩:=s2.there;exact⟨o,z▸e',trivial⟩
    exact absurd (Ba q) (Eu _)
 done:=by
  intro X hP hw hK hc k pins s σ H E Iv hf st hg;subst hP hw hK;obtain⟨old,s1,s2⟩:=st;obtain⟨xs,qa,hend⟩:=hg;obtain⟨ia,ra,ha⟩:=qa.at Iv;have hT:s.TypeIs (.ref e) "enumerate":=⟨_,s1,rfl⟩;have l1:=ra.length;unfold Ly;refine Ad (HT (Dz (name:=Hl "__next__") hT Kg (Ei Kg hT Sg ?_ (Rm _))));show Ao _ _ (field (.ref e) 2 >>= _) _ _ _;refine Ad (Dx s1 rfl (x:=.ref it) rfl (Ad (gL (Iv.ok.hd hc) s2 ha (by simp;omega) fun h' x kp hx'=>?_)))
  obtain⟨o,ho,hcl⟩:=hx';refine Ad (Ni (T:="StopIteration") (b:=true) ⟨o,ho,hcl⟩ Tq (Am ⟨rfl,Inv.turnL (fp:=[e,it]) Iv hf fun c o hc q=>?_⟩));simp only[Av,Ce,Ez,Sz] at hc;exact kp c o hc.2 q
 self:=fun _ _ _ _ _ st h=>by
  obtain⟨old,s1,_⟩:=st;exact Wu s1 h
def vY (xs:Ab D):Ab D:=xs.mapIdx fun i x=>D.tup [.int i,x]
def PY (ds:Ab D):Al (Ab D):=match ds with
 |[.tup xs]=>Aa (vY xs)
 |[.lst xs]=>Aa (vY xs)
 |_=>none
def X2 (f:DA):DI:=fun env S=>(f env S).bind fun ds S1=>vS (PY ds) S1
theorem WZ (xs:Ab D)(i:Ai):(vY xs)[i]? = (xs[i]?).map fun x=>D.tup [.int i,x]:=by
 unfold vY;rw[List.getElem?_mapIdx]
theorem m4 (xs:Ab D):(vY xs).length=xs.length:=by simp[vY]
theorem KJ {K:Ak}{tp:Aq}{P:Hp}{α : Ab Af}{a:Af}{xs:Ab D}{vs:Ab V}(qa:Sq tp K P a vs)(ta:qF K P α xs vs):ItD K (Ite tp K a) P α (vY xs) where
 go:=fun i H P1 α1 S hi r e _=>by
  rw[m4] at hi;have h1:i<vs.length:=by rw[← ta.length];omega
  exact⟨vs,vs[i],qa.mono (e.trans r.sub),by simp⟩
 yld:=fun i H x H' P1 α1 S hi r e e2 y=>by
  obtain⟨T,u,rfl,hT,rfl,hu⟩:=y;rw[m4] at hi;obtain⟨v1,z1,p1⟩:=ta.get (Ap hi);have eu:=hu vs (qa.mono (e.trans r.sub));rw[z1] at eu;cases eu;obtain⟨r1,s1⟩:=r.pure (o:=.tup [.int i,u]) hT;refine⟨_,.tup [.int i,xs[i]],?_,r1,s1,?_⟩
  ·rw[WZ,Ap hi];rfl
  ·exact tB (.of zD) (.cons (by simp only[Rep]) (.cons (Rep.mono (e.trans s1) e2 _ _ p1) .nil))
 stop:=fun i H P1 α1 S hi r e _=>by
  rw[m4] at hi;have l1:=ta.length;exact⟨vs,qa.mono (e.trans r.sub),by omega⟩
section
variable {X:Cx}{e1:By}{elts:Ab By}{x1:Ai}{tpos:Fk}{f:DA}{p pos:Fk}
theorem Sq.obj {tp:Aq}{pins:Ab (Af × Cq)}{σ : _L.St}{H:Hp}{s:Ag}{a:Af}{xs:Ab V}(I:Inv X pins σ H s)(q:Sq tp X.K H a xs):∃ its:Ab Ac,qL xs its∧∃ n dct sl,s.heap.get? a=Aa { cls:=.type (if tp then "tuple" else "list"),dict:=dct,data:=.seq its.toArray n,slots:=sl }:=by
 obtain⟨its,rv,h⟩:=q.at I;refine⟨its,rv,?_⟩;cases tp with
 |true =>
  obtain⟨o,ho,hc,n,hd⟩:=h;obtain⟨c,d,dt,sl⟩:=o;dsimp only at hc hd;subst hc;subst hd;exact⟨n,_,_,ho⟩
 |false =>
  obtain⟨o,ho,hc,n,hd⟩:=h;obtain⟨c,d,dt,sl⟩:=o;dsimp only at hc hd;subst hc;subst hd;exact⟨n,_,_,ho⟩
theorem oO {tp:Aq}{pins:Ab (Af × Cq)}{σ : _L.St}{H P:Hp}{α : Ab Af}{S:Sto}{s:Ag}{a:Af}{xs:Ab D}{vs:Ab V}{R:It→Hp→Prop}(I:Inv X pins σ H s)(r:Rel X.K H P α S)(qa:Sq tp X.K P a vs)(ta:qF X.K P α xs vs)
  (q:OkI X P α R (vY xs) S):Ao (Au X.prog X.w) X.A (call (.type "enumerate") [.ref a]) (fun v s1=>Ao (Au X.prog X.w) X.A (Of v) (PIE X pins σ (.Tuple elts x1 tpos) R) X.xe s1) X.xe s:=by
 obtain⟨ia,ra,ha⟩:=Sq.obj I (qa.mono r.sub);refine WH (tp:=tp) ha fun h' z1 z2 z7=>?_;refine Wu (s:={ s with heap:=h' }) z1 ?_
 refine⟨_,[s.heap.objs.size+1,s.heap.objs.size],_,_,H,rfl,I.kept (t':=s.toks) z7,UE (tp:=tp) (a:=a) (by intro z;simp at z),⟨_,z1,z2⟩,fun c hc=>?_,q _ _ P α r (qH.refl _) (Bp _) (KJ qa ta)⟩
 have hl:s.heap.objs.size≤c:=by
  simp only[Av,Ce,Ez] at hc;rcases hc with rfl|rfl <;> simp
 exact I.fpOk hl (I.hok.fresh hl)
theorem d9:Gc "enumerate" = Aa (.type "enumerate"):=by decide +kernel
theorem K1 {ds its:Ab D}(h:PY ds=Aa its):∃ d xs,ds=[d]∧ItV d xs∧its=vY xs:=by
 cases ds with
 |nil=>exact nn h
 |cons d ds =>
  cases ds with
  |cons _ _=>cases d <;> exact nn h
  |nil =>
   cases d with
   |tup xs=>exact⟨_,xs,rfl,.tup rfl,(Cw h).symm⟩
   |lst xs=>exact⟨_,xs,rfl,.lst rfl,(Cw h).symm⟩
   |_=>exact nn h
theorem M4 (hg:Gl X "enumerate")(hm:X.mg "enumerate" = none)(ha:PA X [e1] (tDA X f))(hs:Bc [e1] X.env=(false,eval e1 X.env)::Bc [] X.env:=by rfl)(hpl:(Fq pos (Bc [] X.env)).any (·.1)=false:=by rfl) :
  PI X (.Tuple elts x1 tpos) (.Call (.Name "enumerate" p) [e1] [] pos) (tDI X (X2 f)):=by
 intro pins s σ H R I h;obtain⟨P,α,env,S,r,re,af⟩:=h;refine Call_ (k9 I hg hm d9 (Hb (thn (yM ha I r re af pos) fun us s1 ⟨vs,H1,P1,α1,ds,S1,I1,rv,r1,re1,rp,e1,e2,af1⟩=>?_) hs hpl));obtain⟨its,hi,q⟩:=jK af1;obtain⟨d,xs,rfl,hd,rfl⟩:=K1 hi;obtain⟨v,u,rfl,rfl,p1,q1⟩:=vL rp rv;cases hd with
 |tup ed =>
  subst ed;simp only[Rep] at p1;obtain⟨a,va,rfl,qa,ta⟩:=p1;cases (show u=Dc a from q1)
  exact oO (tp:=true) I1 r1 qa ta (q.base e1 e2)
 |lst ed =>
  subst ed;simp only[Rep] at p1;obtain⟨a,va,rfl,qa,ta⟩:=p1;cases (show u=Dc a from q1)
  exact oO (tp:=false) I1 r1 qa.l ta (q.base e1 e2)
end
section
variable {X:Cx}
def y9:D→Ab D→Sto→Res D:=fun a ds S=>match a,ds with
 |.loc n,[i,x]=>match S[n]? with
  |some (.dct kvs)=>match uQ i with
   |some k=>match yJ kvs k with
    |some d=>.ok d S
    |none=>if kvs.length<lim then .ok x (S.set n (.dct (uA kvs k x))) else .bad
   |none=>.bad
  |_=>.bad
 |_,_=>.bad
theorem tK (a b c:Ac):Xs "dict.setdefault" ⟨[a,b,c],[]⟩:=by unfold Xs;kernel_rfl
inductive SdV (a:D)(ds:Ab D)(S:Sto):Prop
 |bad (e:y9 a ds S=.bad)
 |of (n:Ai) (i x:D) (kvs:Ab (Key × D)) (k:Key) (ea:a=.loc n) (ed:ds=[i,x]) (hS:S[n]? = Aa (.dct kvs)) (hk:uQ i=Aa k) (e:y9 a ds S=(match yJ kvs k with|some d=>.ok d S|none=>if kvs.length<lim then .ok x (S.set n (.dct (uA kvs k x))) else .bad))
theorem sdV (a:D)(ds:Ab D)(S:Sto):SdV a ds S:=by
 cases a with
 |loc n =>
  cases ds with
  |nil=>exact .bad rfl
  |cons i ds =>
   cases ds with
   |nil=>exact .bad rfl
   |cons x ds =>
    cases ds with
    |cons _ _=>exact .bad rfl
    |nil =>
     have z:y9 (.loc n) [i,x] S=(match S[n]? with|some (.dct kvs)=>(match uQ i with|some k=>(match yJ kvs k with|some d=>.ok d S|none=>if kvs.length<lim then .ok x (S.set n (.dct (uA kvs k x))) else .bad)|none=>.bad)|_=>.bad):=rfl
     cases hS:S[n]? with
     |none=>rw[hS] at z;exact .bad z
     |some m =>
      rw[hS] at z;cases m with
      |dct kvs =>
       cases hk:uQ i with
       |none=>rw[hk] at z;exact .bad z
       |some k=>rw[hk] at z;exact .of n i x kvs k rfl rfl hS hk z
      |_=>exact .bad z
 |_=>exact .bad rfl
theorem YX:MtD X "dict.setdefault" y9:=by
 intro pins σ H s P α S v vv vs us a ds Q I r rv p rvs rps af;cases sdV a ds S with
 |bad e=>rw[e] at af;exact An af
 |of n i x kvs k ea ed hS hk e =>
  rw[e] at af;subst ea ed;clear e;obtain⟨vi,vx,ui,ux,rfl,rfl,pi,px,qi,qx⟩:=tE rps rvs;simp only[Rep] at p;obtain⟨b,rfl,q⟩:=p;obtain⟨ws,z,t⟩:=r.at' n b _ q hS;cases YG hk pi;cases (show vv=Dc b from rv)
  obtain⟨hz,hd,us',rel,dd⟩:=X5 I.hok z;have hz':us'.length≤sizeLine:=by rw[← rel.length];exact hz
  obtain⟨k1,k2⟩:=Q7 (k:=k) t;have er:=rel.val k;refine call_meetsIn Ke dd.typeIs PySem.F.entry_dict_setdefault (tK _ _ _) (kt_meets_setdefault (xA X.prog X.w) b (lD qi) hd ux) ⟨us',dd,hz',fun v' hv'=>?_,fun hn h' dd' hs=>?_⟩
  ·cases hv:yJ kvs k with
   |none =>
    rw[k2 hv,hv'] at er;exact An er
   |some d =>
    obtain⟨w',e1,e2⟩:=k1 d hv;rw[hv] at af;rw[e1,hv'] at er;exact⟨w',H,I.tok _,er,xr af r e2⟩
  ·cases hv:yJ kvs k with
   |some d =>
    obtain⟨w',e1,e2⟩:=k1 d hv;rw[e1,hn] at er;exact An er
   |none =>
    rw[hv] at af;obtain⟨hl,af⟩:=k7 (X:=X) af;have hl':(uB ws k vx).length≤sizeLine:=by
     have:=pN ws k vx;have e3:=Q4 t;rw[← xN];omega
    have he:∃ q,h'.get? b=Aa q:=let ⟨q,_,_,hq,_⟩:=dd';⟨q,hq⟩
    have I':=dF (t':=s.toks+1) I (by rw[z];exact Ip) hs he (WX hl' hd (rel.put k qx) dd')
    exact⟨vx,_,I',qx,af _ _ P α (r.put (m':=.dct (uA kvs k x)) q hS (by intro z;cases z) ⟨_,zD,Q5 px t⟩) (qH.refl _) (Bp _) px⟩
def wY:Ab D→Al (Ab Aj)
 |[]=>Aa []
 |.int i::r=>(wY r).map (i::·)
 |_::_=>none
theorem m6 (ns:Ab Aj):wY (ns.map D.int)=Aa ns:=by
 induction ns with
 |nil=>rfl
 |cons n r ih=>exact congrArg (Option.map (n::·)) ih
theorem gJ:∀ {ds:Ab D} {ns:Ab Aj},wY ds=Aa ns→ds=ns.map D.int
 |[],ns,h=>by cases h;rfl
 |d::r,ns,h=>by
  cases d with
  |int i =>
   obtain⟨m,h1,rfl⟩:=Dm.mp (show (wY r).map (i::·)=Aa ns from h)
   rw[gJ h1];rfl
  |_=>exact nn h
theorem uF {K:Ak}{P:Hp}{α : Ab Af}:∀ {ns:Ab Aj} {vs:Ab V},qF K P α (ns.map D.int) vs→vs=ns.map V.int
 |[],vs,r=>by rw[r.nil_inv];rfl
 |n::ns,vs,r=>by
  obtain⟨w,ws,rfl,p,t⟩:=r.cons_inv;simp only[Rep] at p;rw[p,uF t];rfl
def n8:G2:=fun a b S=>match a,b with
 |.tup xs,.tup ys=>match wY xs,wY ys with
  |some ns,Aa ms=>.ok (.bl (_H.lexLt ns ms)) S
  |_,_=>.bad
 |_,_=>gLt a b S
end
section
variable {X:Cx}
theorem iS {pins:Ab (Af × Cq)}{σ : _L.St}{H P:Hp}{α : Ab Af}{S:Sto}{s:Ag}{xs:Ab D}{v:V}{vv:Ac}{ns:Ab Aj}(I:Inv X pins σ H s)(r:Rel X.K H P α S)(rv:qK v vv)(p:Rep X.K P α (.tup xs) v)(h:wY xs=Aa ns) :
  ∃ a its,vv=.ref a∧Ow s.heap a (List.toArray its)∧Jg its ns:=by
 have:=gJ h;subst this;obtain⟨a,vs,its,rfl,q1,t1,rv1,h1,l1,_⟩:=j6 I r p;have:=uF t1;subst this;exact⟨a,its,rv,h1,by simpa using bO rv1⟩
set_option tactic.hygienic true in
theorem RD (hu:X.A.units<Fg):OpD X (Dt .Lt) n8:=by
 intro pins σ H s P α S v u vv uu a b Q I r rv ru pa pb af;unfold n8 at af
 split at af
 ·rename_i xs ys
  split at af
  ·rename_i ns ms h1 h2
   obtain⟨a,its,rfl,t1,i1⟩:=iS I r rv pa h1;obtain⟨b,its2,rfl,t2,i2⟩:=iS I r ru pb h2;exact _H.lt_tupInts t1 t2 (by simpa using i1) (by simpa using i2) hu ⟨.bl _,H,I,rfl,xr af r (by simp only[Rep])⟩
  ·exact An af
 ·exact BH pins σ H s P α S v u vv uu a b Q I r rv ru pa pb af
end
end _D
namespace _D
open PySem PySem.Spec PyProof.Rows _L PySem.SeqAt
section
variable {X:Cx}{pins:Ab (Af × Cq)}{σ : _L.St}{H P:Hp}{α : Ab Af}{S:Sto}{s:Ag}
inductive Same2 (X:Cx)(P:Hp)(α : Ab Af)(d d':D):Prop
 |eq (h:d=d')
 |tt (xs ys:Ab D) (its:Ab Ac) (ed:d=.tup xs) (ed':d'=.tup ys) (q:Seqs X P α xs ys its its)
 |ll (xs ys:Ab D) (its:Ab Ac) (ed:d=.lst xs) (ed':d'=.lst ys) (q:Seqs X P α xs ys its its)
theorem BZ {d d':D}{u:Ac}(k1:Kd X P α s d u)(k2:Kd X P α s d' u):Same2 X P α d d':=by
 cases k1 with
 |non=>cases k2;exact .eq rfl
 |bl b=>cases k2;exact .eq rfl
 |int i t=>cases k2;exact .eq rfl
 |str x t=>cases k2;exact .eq rfl
 |tup a xs its vs rp rv h q =>
  cases k2 with
  |tup _ ys its2 ws rp2 rv2 h2 q2 =>
   cases oZ h h2;exact .tt xs ys its rfl rfl ⟨vs,ws,rp,rv,rp2,rv2⟩
  |lst _ ys its2 ws rp2 rv2 h2 q2=>exact(XD h h2).elim
 |lst a xs its vs rp rv h q =>
  cases k2 with
  |lst _ ys its2 ws rp2 rv2 h2 q2 =>
   cases oY h h2;exact .ll xs ys its rfl rfl ⟨vs,ws,rp,rv,rp2,rv2⟩
  |tup _ ys its2 ws rp2 rv2 h2 q2=>exact(XD h2 h).elim
theorem rE (I:Inv X pins σ H s)(r:Rel X.K H P α S){m:Ai}(ih:∀ (d d' e:D) (u:Ac),pl m d=true→pl m d'=true→Kd X P α s d u→Kd X P α s d' u→eqD d e=eqD d' e){xs ys zs:Ab D}{its:Ab Ac}(h1:xs.all (pl m)=true)(h2:ys.all (pl m)=true)(q:Seqs X P α xs ys its its):xX xs zs=xX ys zs:=by
 obtain⟨vs,ws,rp,rv,rp2,rv2⟩:=q;have l1:=rp.length.trans rv.length;have l2:=rp2.length.trans rv2.length;rw[u4,u4,l1,l2]
 congr 1
 have key:∀ j∈Do (min its.length zs.length),eqD (xs.getD j .non) (zs.getD j .non)=eqD (ys.getD j .non) (zs.getD j .non):=fun j hj=>by
  have hj':=Et.mp hj;have hj:j<its.toArray.size:=by rw[Bb];omega
  obtain⟨w1,y1,z1,m1⟩:=yF rp rv hj;obtain⟨w2,y2,z2,m2⟩:=yF rp2 rv2 hj;exact ih _ _ _ _ (wZ h1 m1) (wZ h2 m2) (vZ I r (wZ h1 m1) y1 z1) (vZ I r (wZ h2 m2) y2 z2)
 rw[Bool.eq_iff_iff,Az,Az];exact⟨fun h j hj=>(key j hj)▸h j hj,fun h j hj=>(key j hj).symm▸h j hj⟩
theorem MF (I:Inv X pins σ H s)(r:Rel X.K H P α S):∀ (n:Ai) (d d' e:D) (u:Ac),pl n d=true→pl n d'=true→Kd X P α s d u→Kd X P α s d' u→eqD d e=eqD d' e:=by
 intro n
 induction n with
 |zero =>
  intro d d' e u h1 h2 k1 k2;cases BZ k1 k2 with
  |eq h=>rw[h]
  |tt _ _ _ ed=>subst ed;exact Gx h1
  |ll _ _ _ ed=>subst ed;exact Gx h1
 |succ m ih =>
  intro d d' e u h1 h2 k1 k2;cases BZ k1 k2 with
  |eq h=>rw[h]
  |tt xs ys its ed ed' q =>
   subst ed ed';cases e with
   |tup zs=>exact rE I r ih h1 h2 q
   |_=>rfl
  |ll xs ys its ed ed' q =>
   subst ed ed';cases e with
   |lst zs=>exact rE I r ih h1 h2 q
   |_=>rfl
open Classical in
def eOf (X:Cx)(P:Hp)(α : Ab Af)(s:Ag)(xs:Ab D)(d:D)(y:Ac):Aq:=if h:∃ z,z∈xs∧Kd X P α s z y then eqD (Nj h) d else false
theorem WY (I:Inv X pins σ H s)(r:Rel X.K H P α S){n:Ai}{xs:Ab D}{vs:Ab V}{its:Ab Ac}{d:D}(h:xs.all (pl n)=true)(rp:qF X.K P α xs vs)(rv:qL vs its){j:Ai}(hj:j<its.length):∃ z,z∈xs∧Kd X P α s z its[j]∧eOf X P α s xs d its[j]=eqD z d∧eqD z d=eqD (xs.getD j .non) d:=by
 obtain⟨w,y,z,m⟩:=yF rp rv (j:=j) (by rw[Bb];exact hj)
 have k:=vZ I r (wZ h m) y z;have ex:∃ z,z∈xs∧Kd X P α s z its[j]:=⟨_,m,k⟩;have hs:=Nk ex;refine⟨Nj ex,hs.1,hs.2,?_,MF I r n _ _ d _ (wZ h hs.1) (wZ h m) hs.2 k⟩;unfold eOf;rw[dif_pos ex]
theorem MD (I:Inv X pins σ H s)(r:Rel X.K H P α S){n:Ai}{xs:Ab D}{vs:Ab V}{its:Ab Ac}{d:D}(h:xs.all (pl n)=true)(rp:qF X.K P α xs vs)(rv:qL vs its):its.map (eOf X P α s xs d)=xs.map fun x=>eqD x d:=by
 have l:=rp.length.trans rv.length;refine Nl (by rw[Ar,Ar,l]) fun j h1 h2=>?_
 rw[Ar] at h1 h2;rw[Xt,Xt];obtain⟨z,_,_,e1,e2⟩:=WY (d:=d) I r h rp rv h1;rw[e1,e2];simp[Jo,h2]
theorem S9 (I:Inv X pins σ H s)(r:Rel X.K H P α S){n:Ai}{A:Bz}{xs:Ab D}{vs:Ab V}{its:Ab Ac}{d:D}{v:V}{u:Ac}(hu:A.units+n<Fg)(h:xs.all (pl n)=true)(hd:pl n d=true)(rp:qF X.K P α xs vs)(rv:qL vs its)(p:Rep X.K P α d v)(q:qK v u):∀ y,y∈its.toArray→EqAt A s y u (eOf X P α s xs d y):=fun y hy=>by
 obtain⟨j,hj,rfl⟩:=Co.mp (show y∈its by simpa using hy)
 obtain⟨z,hz,k,e1,_⟩:=WY (d:=d) I r h rp rv hj;rw[e1];exact(cM I r n A z d _ u hu (wZ h hz) hd k (vZ I r hd p q)).eq
end
section
variable {X:Cx}
def jC:D→Ab D→Sto→Res D:=fun a ds S=>match a,ds with
 |.lst xs,[d]=>if xs.all (pl xH)&&pl xH d then .ok (.int (xs.countP (fun x=>eqD x d):Ai)) S else .bad
 |_,_=>.bad
inductive CpV (a:D)(ds:Ab D)(S:Sto):Prop
 |bad (e:jC a ds S=.bad)
 |of (xs:Ab D) (d:D) (ea:a=.lst xs) (ed:ds=[d])
theorem cpV (a:D)(ds:Ab D)(S:Sto):CpV a ds S:=by
 cases a with
 |lst xs =>
  cases ds with
  |nil=>exact .bad rfl
  |cons d ds =>
   cases ds with
   |cons _ _=>exact .bad rfl
   |nil=>exact .of xs d rfl rfl
 |_=>exact .bad rfl
theorem fL {β : Type}(f:β→Aq)(l:Ab β) : (l.map f).countP id=l.countP f:=by
 rw[Oa];rfl
theorem YW (hu:X.A.units+64<Fg):MtD X "list.count" jC:=by
 intro pins σ H s P α S v vv vs us a ds Q I r rv p rvs rps af;cases cpV a ds S with
 |bad e=>rw[e] at af;exact An af
 |of xs d ea ed =>
  subst ea ed;obtain⟨hc,af1⟩:=k7 (X:=X) af;clear af;have hc':=Ew.mp hc;obtain⟨vx,ux,rfl,rfl,px,qx⟩:=vL rps rvs;obtain⟨b,ws,its,n,rfl,sq,t,rvi,ht,hl,_⟩:=uR I r p;cases (show vv=Dc b from rv)
  refine Mn Jp ⟨_,ht,rfl⟩ Qs (Qh _ _) (Qt b its.toArray n none #[] ux (eOf X P α s xs d)) ⟨ht,S9 I r (n:=xH) (by show X.A.units+1+xH<Fg;unfold xH;omega) hc'.1 hc'.2 t rvi px qx,?_⟩
  refine⟨.int _,H,I.tok _,⟨_,rfl⟩,?_⟩;have e:=congrArg (fun l=>l.countP id) (MD (d:=d) I r hc'.1 t rvi);have e':its.countP (eOf X P α s xs d)=xs.countP fun x=>eqD x d:=(fL _ _).symm.trans (e.trans (fL _ _));rw[show its.toArray.toList=its from rfl,e']
  exact xr af1 r (by simp only[Rep])
end
end _D
namespace _D
open PySem PySem.Spec PyProof.Rows _L
section
variable {K:Ak}{H P:Hp}{α : Ab Af}{S:Sto}
theorem Rel.still {a:Af}{n:Ai}{m:MO}{o:HO}(r:Rel K H P α S)(ha:α[n]? = Aa a)(hs:S[n]? = Aa m)(hd:m≠.dead):Rel K (upd H a o) (upd P a o) α (S.set n .dead)∧qH P (upd P a o):=by
 have hP:=r.sep n a m ha hs hd;have sP:qH P (upd P a o):=fB hP;have r1:=r.put (o:=o) (m':=.dead) ha hs hd trivial;have hn:n<S.length:=(Bf.mp hs).1;refine⟨⟨fun b u e=>?_,r1.len,r1.nd,fun i b u q1 q2 q3=>?_,fun i b u q1 q2=>(r1.at' i b u q1 q2).mono sP (Bp _),r1.own⟩,sP⟩
 ·by_cases hb:b=a
  ·subst hb;rw[zD] at e ⊢;exact e
  ·rw[qP hb] at e ⊢;exact r.sub _ _ e
 ·have hb:b≠a:=by
   rintro rfl;have:=rO r.nd q1 ha;subst this;rw[Ef hn] at q2;cases q2;exact q3 rfl
  rw[qP hb];exact r1.sep i b u q1 q2 q3
end
def OM (f:DE):DI:=fun env S=>(f env S).bind fun d S1=>match d with
 |.loc n=>match S1[n]? with
  |some (.dct kvs)=>.ok (kvs.map (·.2)) (S1.set n .dead)
  |_=>.bad
 |_=>.bad
theorem Q6 {K:Ak}{P:Hp}{α : Ab Af}:∀ {kvs:Ab (Key × D)} {vs:Ab (Key × V)},KVs K P α kvs vs→qF K P α (kvs.map (·.2)) (vs.map (·.2))
 |_,_,.nil=>.nil
 |_,_,.cons z t=>.cons z.2 (Q6 t)
section
variable {X:Cx}{tg o:By}{fo:DE}{apos cpos:Fk}
theorem UH {S:Sto}{n:Ai}{kvs:Ab (Key × D)}(h:S[n]? = Aa (.dct kvs)):tyD (.loc n) S=Aa "dict":=by
 show (match S[n]? with|some (.lst _)=>Aa "list" | some (.dct _)=>Aa "dict" | _=>none)=_
 rw[h]
end
section
variable {X:Cx}
def kO:G2:=fun a b S=>match a,b with
 |.lst xs,.int k=>if 0≤k∧k<2 ^ 62∧xs.length*k.toNat≤lim then .ok (.lst (Dl k.toNat xs).flatten) S else .bad
 |_,_=>w6 a b S
theorem iK {K:Ak}{P:Hp}{α : Ab Af}{ds:Ab D}{vs:Ab V}(r:qF K P α ds vs):∀ k:Ai,qF K P α (Dl k ds).flatten (Dl k vs).flatten
 |0=>by simpa using qF.nil
 |k+1=>by
  rw[Hf,Hf,Iw,Iw];exact r.append (iK r k)
inductive MulV (a b:D)(S:Sto):Prop
 |old (e:kO a b S=w6 a b S)
 |of (xs:Ab D) (k:Aj) (ea:a=.lst xs) (eb:b=.int k)
theorem IQ (a b:D)(S:Sto):MulV a b S:=by
 cases a with
 |lst xs=>cases b with
  |int k=>exact .of xs k rfl rfl
  |_=>exact .old rfl
 |_=>exact .old rfl
theorem TR:OpD X (Ex .Mult) kO:=by
 intro pins σ H s P α S v u vv uu a b Q I r rv ru pa pb af;cases IQ a b S with
 |old e =>
  rw[e] at af;exact QF pins σ H s P α S v u vv uu a b Q I r rv ru pa pb af
 |of xs k ea eb =>
  subst ea eb;obtain⟨hk,af⟩:=k7 (X:=X) af;obtain⟨h1,h2,hz⟩:=hk;obtain⟨l,vs,its,n,rfl,q1,t1,rv1,e,l1,_⟩:=uR I r pa;cases (show vv=Dc l from rv)
  have:=wP pb;subst this;obtain⟨t,rfl⟩:=ru;have hl:its.length=vs.length:=rv1.length.symm;have hlen:its.toArray.size*k.toNat≤sizeLine:=by rw[Bb,← l1,← xN];exact hz
  have hcap:¬ its.toArray.size*k.toNat>(2 ^ 63-1)/8:=by
   have:(sizeLine:Ai)≤(2 ^ 63-1)/8:=by decide
   omega
  have hfit:¬ (!Builtin.List.listFitsIndex k)=true:=by
   rw[fitsIndex_both om om];exact Gs
  have hlong:¬ Lj (its.toArray.size*k.toNat)=true:=by
   rw[KZ hlen];exact Gs
  have hnew:Yv (fun x1 x2=>x1++x2) #[] (Dl (if its.toArray.isEmpty=true then 0 else k.toNat) its.toArray)=(Dl k.toNat its).flatten.toArray:=by
   have f0:∀ m:Ai,Yv (fun x1 x2=>x1++x2) #[] (Dl m its.toArray)=(Dl m its).flatten.toArray:=fun m=>by
    have:=rH its m [];rw[Jy] at this;exact this
   rw[f0];cases its with
   |nil=>simp
   |cons a r'=>rw[Bk (by simp)]
  refine wpAny_binaryOp_repeat_ref (T:="list") (U:="int") (by decide) ⟨_,e,rfl⟩ (fun s'=>Yu s' k t) noFill_list_mul F.fills_int_mul Yj repeat_list F.slot_int_index.lookup
   (Mn Yj (Yu s k t) F.entry_int_rmul (F.args_int_rmul_2 _ _) (int___rmul___int_list k t l its.toArray n)
    ⟨e,rfl,⟨_,e,rfl⟩,Mn F.slot_list_mul ⟨_,e,rfl⟩ F.entry_list_mul (F.args_list_mul_2 _ _) (AutoListH.list___mul___list_int_3 l its.toArray n k t hfit hcap hlong) ⟨e,?_⟩⟩)
  rw[hnew];exact aE I r (iK t1 k.toNat) (rv1.rep k.toNat) (by rw[TH,Nat.mul_comm];exact hz) af
def PP (X:Cx)(cm:Aq)(k:Ai)(f:Af)(p:Ai × DF):Prop:=∃ fd ps,Em X.K (.ref f)=true∧uJ X.K fd ps [] ∧ FnX X.prog X.w X.K X.mg X.base cm k f fd ps (spD X.K p.1 p.2)
inductive TabL (X:Cx)(cm:Aq)(k:Ai):Ab By→Ab (Ai × DF)→Prop
 |nil:TabL X cm k [] []
 |cons {x:Ax} {p:Fk} {n:Ai} {F:DF} {es:Ab By} {Fs:Ab (Ai × DF)}:Def X.prog X.w X.K X.mg X.base cm k x n F→Gl X x→(x == ("__debug__" : Ax))=false→TabL X cm k es Fs→TabL X cm k (.Name x p::es) ((n,F)::Fs)
def flA:Ab Af→DA
 |[]=>qC
 |f::fs=>qA (dC (.obj f)) (flA fs)
theorem SC (fs:Ab Af)(env:qD)(S:Sto):flA fs env S=.ok (fs.map D.obj) S:=by
 induction fs with
 |nil=>rfl
 |cons f fs ih=>simp[flA,qA,dC,Res.bind,ih]
theorem ES {cm:Aq}{k:Ai}{es:Ab By}{Fs:Ab (Ai × DF)}(h:TabL X cm k es Fs):∃ fs,PA X es (tDA X (flA fs))∧fs.length=Fs.length∧∀ (i:Ai) (p:Ai × DF),Fs[i]? = Aa p→∃ f,fs[i]? = Aa f∧PP X cm k f p:=by
 induction h with
 |nil=>exact⟨[],WT,rfl,fun i p e=>by simp at e⟩
 |@cons x p n F es Fs G hg hd _ ih =>
  obtain⟨fs,h1,h2,h3⟩:=ih;obtain⟨f,fd,ps,hn,hm,kp,hb,hl,G⟩:=G;refine⟨f::fs,oM (WV hg hm kp hd) h1,by simp[h2],fun i q e=>?_⟩
  cases i with
  |zero =>
   simp at e;subst e;exact⟨f,rfl,fd,ps,kp,hb,G⟩
  |succ i =>
   obtain⟨f',e1,e2⟩:=h3 i q (by simpa using e)
   exact⟨f',by simpa using e1,e2⟩
def dE (Fs:Ab (Ai × DF))(fi:DE)(fa:DA):DE:=fun env S=>(fi env S).bind fun d S1=>match d with
 |.int k=>match atI Fs k with
  |some p=>(fa env S1).bind fun ds S2=>if ds.length=p.1 then p.2 ds S2 else .bad
  |none=>.bad
 |_=>.bad
inductive TabR (X:Cx)(cm:Aq)(k:Ai)(P:Hp)(α : Ab Af)(Q:VK)(fa:DA)(env:qD)(v:V)(H1:Hp):Prop
 |mk (P1:Hp) (α1:Ab Af) (S1:Sto) (f:Af) (p:Ai × DF) (r:Rel X.K H1 P1 α1 S1) (e1:qH P P1) (e2:α<+:α1) (hv:v=.ref f) (g:PP X cm k f p) (af:qI X P α ((fa env S1).bind fun ds S2=>if ds.length=p.1 then p.2 ds S2 else .bad) (OkV X P α Q)):TabR X cm k P α Q fa env v H1
theorem D9 {cm:Aq}{k:Ai}{es:Ab By}{Fs:Ab (Ai × DF)}{ie e:By}{rest:Ab By}{lp sp pos:Fk}{fi:DE}{fa:DA}(T:TabL X cm k es Fs)(hr:RoomC cm k X.A)(hF:Fn1 X)(hl:Fs.length≤lim)(hi:PE X ie (tD X fi))(ha:PA X (e::rest) (tDA X fa))(hs:kT ie:=by intro _ _;rfl)
  (he:Bc (e::rest) X.env=(false,eval e X.env)::Bc rest X.env:=by rfl) (hpl:(Fq pos (Bc rest X.env)).any (·.1)=false:=by rfl):PE X (.Call (.Subscript (.List es lp) ie sp) (e::rest) [] pos) (tD X (dE Fs fi fa)):=by
 obtain⟨fs,hpa,hfl,hgood⟩:=ES T;have key:PE X (.Subscript (.List es lp) ie sp) (tD X (d2 gIx (zO (flA fs)) fi)):=PX SK (WW hpa) hi hs;intro pins s σ H Q I h;obtain⟨P,α,env,S,r,re,af⟩:=h;refine Call_ (thn (key pins s σ H (TabR X cm k P α Q fa env) I ⟨P,α,env,S,r,re,?_⟩) fun vv s1 ⟨v,H1,I1,rv,P1,α1,S1,f,p,r1,e1,e2,hv,⟨fd,ps,kp,hb,G⟩,af1⟩=>?_)
 ·have hll:(fs.map D.obj).length≤lim:=by rw[Ar,hfl];exact hl
  have ev:d2 gIx (zO (flA fs)) fi env S=(fi env S).bind fun y S2=>gIx (.lst (fs.map D.obj)) y S2:=by
   simp only[d2,zO,SC,Res.bind,hll,Dq]
  rw[ev];unfold dE at af;cases q:fi env S with
  |bad=>rw[q] at af;exact af
  |ex c x S'=>rw[q] at af;exact af
  |ok d S1 =>
   rw[q] at af;simp only[Res.bind] at af ⊢;cases d with
   |int kk =>
    simp only at af;cases hp:atI Fs kk with
    |none=>rw[hp] at af;exact An af
    |some p =>
     rw[hp] at af;unfold atI at hp;cases hj:ixN Fs.length kk with
     |none=>rw[hj] at hp;cases hp
     |some j =>
      rw[hj] at hp;obtain⟨f,ef,gf⟩:=hgood j p hp;have ea:atI (fs.map D.obj) kk=Aa (.obj f):=by
       unfold atI;rw[Ar,hfl,hj];simp[ef]
      simp only[gIx,ea,vS];intro v H' P' α' r' e1 e2 rp;simp only[Rep] at rp;exact⟨P',α',S1,f,p,r',e1,e2,rp.1,gf,af⟩
   |_=>exact An af
 ·subst hv
  cases (show vv=Dc f from rv)
  refine Lm (h₀:=X.base) I.ok.mod.kin kp (thn (yM ha I1 r1 (re.mono e1 e2) (qI.base' e1 e2 (fun d S ok v H' P' α' r' q1 q2 q3=>ok v H' P' α' r' (e1.trans q1) (e2.trans q2) q3) af1) pos) fun us s2 ⟨vs,H2,P2,α2,ds,S2,I2,rv2,r2,re2,rp,e3,e4,af2⟩=>⟨I2.kIn,?_⟩) he hpl;have af3:qI X P1 α1 (if ds.length=p.1 then p.2 ds S2 else .bad) (OkV X P1 α1 Q):=af2
  by_cases hn:ds.length=p.1
  ·rw[Bl hn] at af3
   exact sS G hr hb hF I2 r2 rv2 rp hn (zA.base e3 e4 af3)
  ·rw[Bk hn] at af3;exact An af3
theorem J3:Gc "set" = Aa (.type "set"):=by decide +kernel
variable {e:By}{fa:DE}{p1 p2 pos1 pos2:Fk}
end
structure QI2 (X:Cx)(tg it:By)(f:DI2):Prop where
 get:PI X tg it (tDI2 X f)
structure QK (Y:Cx)(step:Ac→Kt Rc)(k:DK):Prop where
 get:PK Y step k
structure ZTab (X:Cx)(cm:Aq)(k:Ai)(es:Ab By)(Fs:Ab (Ai × DF)):Prop where
 get:TabL X cm k es Fs
section
variable {X Y:Cx}{tg it e o elt iter ie:By}{es ifs rest:Ab By}{fa fo fe fi:DE}{fA:DA}{fI:DI}{f2:DI2}{g:DG}{t:DT}{kk:DK}{p pos:Fk}{n k:Ai}{x:Ax}{cm:Aq}{F:DF}{f:DS}{gens grest:Ab Fn}{scope:Gp}{N':Ab Ax}{cap:Ab (Al Ai)}{mm:Aq}
theorem VU (h:QI X tg it fI):QI2 X tg it (wL fI):=⟨M5 h.1⟩
theorem VT (h:QE X e fa):QI2 X tg e (dIt fa):=⟨HU h.1⟩
theorem QV {e1:By}{elts:Ab By}{x1:Ai}{tpos:Fk}(hg:Gl X "enumerate")(hm:X.mg "enumerate" = none)(ha:QA X [e1] fA)(hs:Bc [e1] X.env=(false,eval e1 X.env)::Bc [] X.env:=by rfl)(hpl:(Fq pos (Bc [] X.env)).any (·.1)=false:=by rfl) :
  QI X (.Tuple elts x1 tpos) (.Call (.Name "enumerate" p) [e1] [] pos) (X2 fA):=⟨M4 hg hm ha.1 hs hpl⟩
theorem QX (hx:Y.xe=fun _ _=>Fm)(hlast:gens[k+1]? = none)(he:QE Y elt fe):QK Y (fun acc=>wD elt gens scope pos k acc Y.env) (zB fe):=⟨N4 hx hlast he.1⟩
theorem GE (hc:X.calm=true)(S:CompSc X.env.scope X.N scope N' cap)(hi:QI2 X tg iter f2)(hg:∀ cl C ex s₀ H₀,QG (zE X N' scope cl C ex s₀ H₀) tg g)(ht:∀ cl C ex s₀ H₀,QTs (zE X N' scope cl C ex s₀ H₀) ifs t)
  (has:∀ g',(⟨tg,iter,ifs,0⟩::grest:Ab Fn)[0+1]? = Aa g'→g'.is_async=0)
  (he:∀ cl C ex s₀ H₀,QK (zE X N' scope cl C ex s₀ H₀) (fun acc=>wD elt (⟨tg,iter,ifs,0⟩::grest) scope pos 0 acc (zE X N' scope cl C ex s₀ H₀).env) kk) (hs:∀ x,Fy iter X.env x=pure x) :
  QE X (.ListComp elt (⟨tg,iter,ifs,0⟩::grest) scope pos) (qW mm cap f2 g t kk):=
 ⟨JP hc S hi.1 (fun cl C ex s H=>(hg cl C ex s H).1) (fun cl C ex s H=>(ht cl C ex s H).1) has (fun cl C ex s H=>(he cl C ex s H).1) hs⟩
theorem GF {m:Ai}{y:Ax}{py spos:Fk}(hc:X.calm=true)(hN:X.N.Nodup)(S:CompSc X.env.scope X.N scope N' cap)(hi:QI2 X tg iter f2)(hg:∀ cl C ex s₀ H₀,QG (zE X N' scope cl C ex s₀ H₀) tg g)(ht:∀ cl C ex s₀ H₀,QTs (zE X N' scope cl C ex s₀ H₀) ifs t)
  (has:∀ g',(⟨tg,iter,ifs,0⟩::grest:Ab Fn)[0+1]? = Aa g'→g'.is_async=0)
  (he:∀ cl C ex s₀ H₀,QK (zE X N' scope cl C ex s₀ H₀) (fun acc=>wD elt (⟨tg,iter,ifs,0⟩::grest) scope pos 0 acc (zE X N' scope cl C ex s₀ H₀).env) kk) (hy:X.N[m]? = Aa y) (hyl:Loc X.env.scope y) (hf:X.fn y=true∨X.env.scope.names.lookup y=Aa .local)
  (hsw:Me (.ListComp elt (⟨tg,iter,ifs,0⟩::grest) scope pos) (Aa (.Name y py)) spos.line X.env=pure true) (hs:∀ x,Fy iter X.env x=pure x):QS X (.Assign [.Name y py] (.ListComp elt (⟨tg,iter,ifs,0⟩::grest) scope pos) spos) (zI (qW mm cap f2 g t kk) (gNm m)):=
 ⟨JW hc hN S hi.1 (fun cl C ex s H=>(hg cl C ex s H).1) (fun cl C ex s H=>(ht cl C ex s H).1) has (fun cl C ex s H=>(he cl C ex s H).1) hy hyl hf hsw hs⟩
theorem o0:ZTab X cm k [] []:=⟨.nil⟩
theorem UQ {Fs:Ab (Ai × DF)}(G:Def X.prog X.w X.K X.mg X.base cm k x n F)(hg:Gl X x)(hd:(x == ("__debug__" : Ax))=false)(h:ZTab X cm k es Fs):ZTab X cm k (.Name x p::es) ((n,F)::Fs):=⟨.cons G hg hd h.1⟩
theorem EA {Fs:Ab (Ai × DF)}{lp sp:Fk}(T:ZTab X cm k es Fs)(hr:RoomC cm k X.A)(hF:Fn1 X)(hl:Fs.length≤lim)(hi:QE X ie fi)(ha:QA X (e::rest) fA)(hs:kT ie:=by intro _ _;rfl)
  (he:Bc (e::rest) X.env=(false,eval e X.env)::Bc rest X.env:=by rfl) (hpl:(Fq pos (Bc rest X.env)).any (·.1)=false:=by rfl):QE X (.Call (.Subscript (.List es lp) ie sp) (e::rest) [] pos) (dE Fs fi fA):=⟨D9 T.1 hr hF hl hi.1 ha.1 hs he hpl⟩
theorem iZ:ZMt X "dict.setdefault" y9:=⟨YX⟩
theorem FA (hr:RoomC cm k X.A):ZOp X (Dt .Lt) n8:=⟨RD (by have:=hu1 hr;omega)⟩
theorem UM:ZOp X (Ex .Mult) kO:=⟨TR⟩
end
def uD (H:Hp):Ab (Af × HO)→Hp
 |[]=>H
 |p::ps=>uD (upd H p.1 p.2) ps
theorem tI {b:Af}:∀ {L:Ab (Af × HO)} {H:Hp},b ∉ L.map (·.1)→uD H L b=H b
 |[],_,_=>rfl
 |p::ps,H,h=>by
  simp only[Ek,Av,Sz] at h;show uD (upd H p.1 p.2) ps b=H b;rw[tI h.2,qP h.1]
theorem iU {a:Af}{o:HO}:∀ {L:Ab (Af × HO)} {H:Hp},(L.map (·.1)).Nodup→(a,o)∈L→uD H L a=Aa o
 |p::ps,H,nd,h=>by
  simp only[Ek,Ju] at nd;show uD (upd H p.1 p.2) ps a=Aa o;rcases Av.mp h with rfl|h
  ·rw[tI nd.1,zD]
  ·exact iU nd.2 h
theorem iT {b:Af}{u:HO}:∀ {L:Ab (Af × HO)} {H:Hp},uD H L b=Aa u→(b,u)∈L∨H b=Aa u
 |[],_,h=>.inr h
 |p::ps,H,h=>by
  rcases iT (L:=ps) (H:=upd H p.1 p.2) h with h|h
  ·exact .inl (Bx _ h)
  ·by_cases hb:b=p.1
   ·subst hb
    rw[zD] at h;cases h;exact .inl (Dg ..)
   ·rw[qP hb] at h
    exact .inr h
section
variable {K:Ak}
theorem Rel.pureL {α : Ab Af}{S:Sto}:∀ {L:Ab (Af × HO)} {H P:Hp},(∀ p∈L,H p.1=none)→(L.map (·.1)).Nodup→Rel K H P α S→Rel K (uD H L) (uD P L) α S∧qH P (uD P L)
 |[],_,_,_,_,r=>⟨r,qH.refl _⟩
 |p::ps,H,P,hn,nd,r=>by
  simp only[Ek,Ju] at nd;obtain⟨r1,e1⟩:=r.pure (o:=p.2) (hn p (Dg ..));obtain⟨r2,e2⟩:=Rel.pureL (L:=ps) (fun q hq=>by
   have:q.1≠p.1:=fun e=>nd.1 (e▸Dk.mpr ⟨q,hq,rfl⟩);rw[qP this];exact hn q (Bx _ hq)) nd.2 r1
  exact⟨r2,e1.trans e2⟩
end
section
variable {X:Cx}{pins:Ab (Af × Cq)}{σ : _L.St}{H:Hp}{s:Ag}
theorem Inv.laidL {L:Ab (Af × HO)}{h':Bs}{t':Ai}(I:Inv X pins σ H s)(k:∀ b u,s.heap.get? b=Aa u→h'.get? b=Aa u)(hp:∀ p∈L,s.heap.objs.size≤p.1)(new:∀ p∈L,zV X.prog X.w (uD H L) h' p.1 p.2) :
  Inv X pins σ (uD H L) { s with heap:=h',toks:=t' }:=by
 have old:∀ b u,H b=Aa u→uD H L b=Aa u:=fun b u e=>by
  rw[tI (L:=L)]
  ·exact e
  ·intro hb
   obtain⟨p,hp',rfl⟩:=Dk.mp hb;rw[I.hok.fresh (hp p hp')] at e;cases e
 have low:∀ b,b<s.heap.objs.size→uD H L b=H b:=fun b hb=>tI fun hm=>by
  obtain⟨p,hp',rfl⟩:=Dk.mp hm;exact absurd (Bt hb (hp p hp')) (Eu _)
 refine I.un ⟨fun b u q _ _ _=>k b u q,fun b u q _ _ _=>⟨u.slots,k b u q⟩,fun b u q n _=>by rw[low b (Ba q)];exact n,fun b u q _=>⟨u,k b u q⟩,fun b xs q=>old b _ q,fun b o xs q=>old b _ q,fun b ps q=>⟨#[],by rw[old b _ q];simp⟩⟩ fun b u e=>?_
 rcases iT e with hm|hb
 ·exact new (b,u) hm
 ·exact(I.hok b u hb).stay (fun c v _ q=>k c v q) (fun c q=>old c _ q) fun c xs q=>old c _ q
end
def kD:Key→D
 |.inl i=>.int i
 |.inr x=>.str x
theorem SL {K:Ak}{P:Hp}{α : Ab Af}(k:Key):Rep K P α (kD k) (kV k):=by
 cases k <;> simp only[kD,kV,Rep]
theorem CJ {k:Key}{u:Ac}(h:bR k u=true):qK (kV k) u:=by
 rcases xK h with⟨i,t,rfl,rfl⟩|⟨x,t,rfl,rfl⟩
 ·exact⟨t,rfl⟩
 ·exact⟨t,rfl⟩
theorem YK {κ : Type}:∀ {vs:Ab (κ × V)} {us:Ab (κ × Ac)},KV vs us→∀ {j:Ai} {q:κ × V},vs[j]? = Aa q→∃ u,us[j]? = Aa (q.1,u)∧qK q.2 u
 |_,_,.nil,j,q,h=>by simp at h
 |_,_,.cons (a:=x) (b:=y) z t,j,q,h=>by
  cases j with
  |zero =>
   simp at h;subst h;exact⟨y.2,by simp;exact Aa5 z.1.symm rfl,z.2⟩
  |succ j =>
   obtain⟨u,e1,e2⟩:=YK t (j:=j) (q:=q) (by simpa using h)
   exact⟨u,by simpa using e1,e2⟩
section
variable {X:Cx}{cm:Aq}{k:Ai}
theorem iY (hr:RoomC cm k X.A):ZMt X "list.count" jC:=⟨YW hr.units⟩
end
end _D
namespace _S
open PySem
def Rs (xs:Aw Ai):Prop:=xs.toList.Pairwise (· < ·)
theorem Rs.lt {xs:Aw Ai}(h:Rs xs){a b:Ai}{x y:Ai}(hab:a<b)(ha:xs[a]? = Aa x)(hb:xs[b]? = Aa y):x<y:=by
 obtain⟨h1,e1⟩:=Dy.mp ha;obtain⟨h2,e2⟩:=Dy.mp hb;have:=Iy.mp h a b (by simpa using h1) (by simpa using h2) hab
 rw[← e1,← e2];simpa using this
theorem getD_some {xs:Aw Ai}{i x d:Ai}(h:xs[i]? = Aa x):xs.getD i d=x:=by
 obtain⟨h1,e1⟩:=Dy.mp h;simp[Gn,h1,e1]
structure Bel (xs:Aw Ai)(j p:Ai):Prop where
 le:p≤xs.size
 lo:∀ i x,i<p→xs[i]? = Aa x→x<j
 hi:∀ i x,p≤i→xs[i]? = Aa x→j≤x
set_option tactic.hygienic true in
theorem tX {xs:Aw Ai}(h:Rs xs)(j:Ai):∀ (fuel lo hi:Ai),hi-lo≤fuel→lo≤hi→hi≤xs.size →
  (∀ i x,i<lo→xs[i]? = Aa x→x<j)→(∀ i x,hi≤i→xs[i]? = Aa x→j≤x)→Bel xs j (Wv xs j fuel lo hi)
 |0,lo,hi,h1,h2,h3,h4,h5=>by
  have:lo=hi:=by omega
  subst this;exact⟨h3,h4,h5⟩
 |fuel+1,lo,hi,h1,h2,h3,h4,h5=>by
  unfold Wv;by_cases hlt:lo<hi
  ·rw[Bl hlt]
   have hm:(lo+hi)/2<xs.size:=by omega
   have e:xs[(lo+hi)/2]? = Aa xs[(lo+hi)/2]:=Ec hm;simp only[getD_some e]
   split
   ·rename_i hc
    refine tX h j fuel _ hi (by omega) (by omega) h3 (fun i x hi' ex=>?_) h5
    by_cases q:i=(lo+hi)/2
    ·subst q;rw[e] at ex;cases ex;exact hc
    ·exact Lr (h.lt (by omega) ex e) hc
   ·rename_i hc
    refine tX h j fuel lo _ (by omega) (by omega) (by omega) h4 (fun i x hi' ex=>?_)
    by_cases q:i=(lo+hi)/2
    ·subst q;rw[e] at ex;cases ex;omega
    ·have:=h.lt (show (lo+hi)/2<i by omega) e ex
     omega
  ·rw[Bk hlt]
   have:lo=hi:=by omega
   subst this;exact⟨h3,h4,h5⟩
theorem gE {xs:Aw Ai}(h:Rs xs)(j:Ai):Bel xs j (Cc xs j):=
 tX h j _ _ _ (by omega) (by omega) (As _) (fun i x hi=>by omega) fun i x hi ex=>by
  have:=(Dy.mp ex).1;omega
theorem tW {xs:Aw Ai}(h:Rs xs){i j:Ai}(e:xs[i]? = Aa j):Cc xs j=i:=by
 have b:=gE h j;have hi:=(Dy.mp e).1;by_cases h1:Cc xs j<i
 ·have e2:xs[Cc xs j]? = Aa xs[Cc xs j]:=Ec (by omega)
  have:=h.lt h1 e2 e;have:=b.hi _ _ (As _) e2;omega
 ·by_cases h2:i<Cc xs j
  ·have:=b.lo _ _ h2 e
   omega
  ·omega
theorem ZW {xs:Aw Ai}(h:Rs xs){i j:Ai}(e:xs[i]? = Aa j):Cc xs (j+1)=i+1:=by
 have b:=gE h (j+1);have hi:=(Dy.mp e).1;have h1:i<Cc xs (j+1):=by
  apply Fo;intro q;have:=b.hi _ _ (by omega) e
  omega
 by_cases h2:i+1<Cc xs (j+1)
 ·have hz:i+1<xs.size:=by have:=b.le;omega
  have e2:xs[i+1]? = Aa xs[i+1]:=Ec hz;have:=b.lo _ _ h2 e2;have:=h.lt (Jj i) e e2;omega
 ·omega
theorem ZX {xs:Aw Ai}(h:Rs xs):Cc xs 0=0:=by
 have b:=gE h 0;apply Fo;intro q;have hz:0<xs.size:=by have:=b.le;omega
 have e2:xs[0]? = Aa xs[0]:=Ec hz;have:=b.lo _ _ (by omega) e2
 omega
structure Tb (t:Fp):Prop where
 rs:Rs t.place
 dm:t.dummies=#[]
theorem oV (j:Ai):Wb #[] j=false:=by simp[Wb]
theorem rY {t:Fp}(T:Tb t){i j:Ai}(e:t.place[i]? = Aa j):t.slot j=.live i:=by
 unfold Zw;simp only[tW T.rs e,e];simp
theorem XT {t:Fp}(T:Tb t)(j:Ai):(∃ i,t.slot j=.live i∧t.place[i]? = Aa j)∨(t.slot j=.empty∧j ∉ t.place.toList):=by
 by_cases h:j∈t.place.toList
 ·obtain⟨i,hi,e⟩:=Co.mp h
  have e':t.place[i]? = Aa j:=by rw[← Bi,Ap hi,e]
  exact .inl ⟨i,rY T e',e'⟩
 ·refine .inr ⟨?_,h⟩
  unfold Zw;simp only[T.dm,oV];rw[Bk,Bk (by simp)]
  intro q;apply h;have:t.place[Cc t.place j]? = Aa j:=by simpa using q
  obtain⟨h1,e1⟩:=Dy.mp this;rw[← e1];simp
theorem UA {xs:Aw Ai}(h:Rs xs){j:Ai}(hj:j ∉ xs.toList):Rs (Bw xs (Cc xs j) j):=by
 have b:=gE h j;unfold Rs;rw[Qv];have key:∀ (i:Ai) (x:Ai),xs.toList[i]? = Aa x→(i<Cc xs j→x<j)∧(Cc xs j≤i→j<x):=fun i x e=>by
  have e':xs[i]? = Aa x:=by rw[← Bi];exact e
  refine⟨fun q=>b.lo _ _ q e',fun q=>?_⟩;have h1:=b.hi _ _ q e';have:x≠j:=by
   rintro rfl;exact hj (Ch e)
  omega
 have tk:∀ x∈xs.toList.take (Cc xs j),x<j:=fun x hx=>by
  obtain⟨i,hi,e⟩:=Co.mp hx;rw[Dp] at hi;rw[Qk] at e;exact(key i x (by rw[Ap (by omega),e])).1 (by omega)
 have dr:∀ x∈xs.toList.drop (Cc xs j),j<x:=fun x hx=>by
  obtain⟨i,hi,e⟩:=Co.mp hx;rw[Ft] at hi;rw[Ql] at e;exact(key (Cc xs j+i) x (by rw[Ap (by omega),e])).2 (by omega)
 rw[Eh,Fc];refine⟨List.Pairwise.take h,⟨dr,List.Pairwise.drop h⟩,fun x hx y hy=>?_⟩;rcases Av.mp hy with rfl|hy
 ·exact tk x hx
 ·exact Lr (tk x hx) (dr y hy)
theorem l7 {α : Type}(xs:Aw α){p:Ai}(hp:p≤xs.size)(x:α)(i:Ai):(Bw xs p x)[i]? = if i<p then xs[i]? else if i=p then Aa x else xs[i-1]?:=by
 rw[← Bi,Qv];have hl:(xs.toList.take p).length=p:=by simp;omega
 by_cases h1:i<p
 ·rw[Bl h1,Bj (by omega),Lh h1,Bi]
 ·rw[Bk h1,Dd (by omega),hl]
  by_cases h2:i=p
  ·subst h2;simp
  ·rw[Bk h2]
   obtain⟨k,hk⟩:∃ k,i-p=k+1:=⟨i-p-1,by omega⟩
   rw[hk,Ro,Vo,Bi]
   congr 1;omega
theorem jS {α : Type}(xs:Aw α)(p:Ai)(x:α):(Bw xs p x).size=xs.size+1:=by
 have:=(Ia xs p x).length_eq;simpa using this
theorem E7 {t:Fp}(T:Tb t){j:Ai}(hj:j ∉ t.place.toList):Tb (t.put j).1:=by
 refine⟨UA T.rs hj,?_⟩;show (if Wb t.dummies j then _ else t.dummies)=#[]
 rw[T.dm,oV];rfl
open PySem.SetTable (Probe leap runEnd turns bits)
def adv (mask:Ai)(p:Mi):Mi:=if p.more>0 then { p with j:=p.j+1,more:=p.more-1 } else { p with j:=(leap mask p.i p.perturb).1,more:=Hj mask (leap mask p.i p.perturb).1-(leap mask p.i p.perturb).1,i:=(leap mask p.i p.perturb).1,perturb:=(leap mask p.i p.perturb).2 }
theorem LK (t:Fp)(p:Mi):t.advance p=adv t.mask p:=rfl
def it (mask:Ai):Ai→Mi→Mi
 |0,p=>p
 |n+1,p=>it mask n (adv mask p)
theorem mY (mask:Ai):∀ (n:Ai) (p:Mi),it mask (n+1) p=adv mask (it mask n p)
 |0,p=>rfl
 |n+1,p=>mY mask n (adv mask p)
theorem lA (mask:Ai):∀ (m n:Ai) (p:Mi),it mask (m+n) p=it mask n (it mask m p)
 |0,n,p=>by rw[Oh];rfl
 |m+1,n,p=>by rw[Pg];exact lA mask m n (adv mask p)
def rs (mask i pert:Ai):Mi:={ j:=i,more:=Hj mask i-i,i,perturb:=pert,dummy:=none }
def st (mask:Ai)(h:Aj):Mi:=rs mask (bits h % (mask+1)) (bits h)
theorem AG (t:Fp)(h:Aj):t.probeStart h=st t.mask h:=rfl
theorem m7 (mask i pert:Ai):∀ k,k≤Hj mask i-i→it mask k (rs mask i pert)={ j:=i+k,more:=Hj mask i-i-k,i,perturb:=pert,dummy:=none }
 |0,_=>rfl
 |k+1,hk=>by
  rw[mY,m7 mask i pert k (by omega)]
  unfold adv;rw[Bl (by show Hj mask i-i-k>0;omega)]
  simp only[Probe.mk.injEq,and_true,true_and];omega
theorem Q0 (mask i pert:Ai):it mask (Hj mask i-i+1) (rs mask i pert)=rs mask (leap mask i pert).1 (leap mask i pert).2:=by
 rw[mY,m7 mask i pert _ (As _)];unfold adv;rw[Bk (by show ¬ (Hj mask i-i-(Hj mask i-i)>0);omega)]
 rfl
theorem EJ (mask i:Ai):Hj mask i-i+1≤10:=by
 unfold Hj
 split <;> omega
def lp (mask:Ai):Ai→Ai × Ai→Ai × Ai
 |0,q=>q
 |n+1,q=>lp mask n (leap mask q.1 q.2)
theorem YR (mask:Ai):∀ (m n:Ai) (q:Ai × Ai),lp mask (m+n) q=lp mask n (lp mask m q)
 |0,n,p=>by rw[Oh];rfl
 |m+1,n,p=>by rw[Pg];exact YR mask m n _
theorem B9 (mask:Ai):∀ (n i pert:Ai),∃ k,k≤10*n∧it mask k (rs mask i pert)=rs mask (lp mask n (i,pert)).1 (lp mask n (i,pert)).2
 |0,i,pert=>⟨0,by omega,rfl⟩
 |n+1,i,pert=>by
  obtain⟨k,hk,e⟩:=B9 mask n (leap mask i pert).1 (leap mask i pert).2;refine⟨(Hj mask i-i+1)+k,by have:=EJ mask i;omega,?_⟩
  rw[lA,Q0,e];rfl
theorem QD (mask:Ai):∀ (n i pert:Ai),(lp mask n (i,pert)).2=pert/32 ^ n
 |0,i,pert=>by simp[lp]
 |n+1,i,pert=>by
  show (lp mask n ((leap mask i pert).1,pert/32)).2=_;rw[QD mask n _ (pert/32),Nat.div_div_eq_div_mul,← Nat.pow_succ']
theorem dY (mask i pert:Ai):(leap mask i pert).1≤mask:=Kh (Os _ (Ol _))
theorem BC (mask:Ai):∀ (n i pert:Ai),i≤mask→(lp mask n (i,pert)).1≤mask
 |0,i,pert,h=>h
 |n+1,i,pert,h=>BC mask n _ _ (dY mask i pert)
theorem oG (h:Aj):bits h<2 ^ 64:=by
 unfold bits;have h1:(0:Aj)≤h % 2 ^ 64:=Jz _ (by decide)
 have h2:h % 2 ^ 64<(2 ^ 64:Aj):=Ig _ (by decide)
 omega
def cyc (mask:Ai):Ai→Ai→Ai
 |0,i=>i
 |n+1,i=>cyc mask n ((i*5+1) % (mask+1))
theorem mP (mask:Ai):∀ (m n i:Ai),cyc mask (m+n) i=cyc mask n (cyc mask m i)
 |0,n,p=>by rw[Oh];rfl
 |m+1,n,p=>by rw[Pg];exact mP mask m n _
theorem YS (mask:Ai):∀ (n i:Ai),(lp mask n (i,0)).1=cyc mask n i
 |0,i=>rfl
 |n+1,i=>by
  show (lp mask n (leap mask i 0)).1=_;have:leap mask i 0=((i*5+1) % (mask+1),0):=by simp[leap]
  rw[this,YS mask n];rfl
def Msk (mask:Ai):Prop:=mask=7∨mask=31∨mask=127∨mask=511∨mask=2047
def orb (mask:Ai):Ai→Ai→Ai→Ai
 |0,_,acc=>acc
 |n+1,i,acc=>orb mask n ((i*5+1) % (mask+1)) (acc ||| 1 <<< i)
def WP (mask:Ai):Aq:=orb mask (mask+1) 0 0 == 2 ^ (mask+1)-1&&cyc mask (mask+1) 0 == 0
theorem WQ {mask:Ai}(h:Msk mask):WP mask=true:=by
 rcases h with rfl|rfl|rfl|rfl|rfl <;> decide +kernel
theorem QJ (mask e:Ai):∀ (n i acc:Ai),(orb mask n i acc).testBit e=true→acc.testBit e=true∨∃ m,m<n∧cyc mask m i=e
 |0,i,acc,h=>.inl h
 |n+1,i,acc,h=>by
  rcases QJ mask e n _ _ h with q|⟨m,hm,q⟩
  ·rw[Nat.testBit_or,Lc] at q
   rcases q with q|q
   ·exact .inl q
   ·rw[Nat.one_shiftLeft,Nat.testBit_two_pow,Cs] at q
    exact .inr ⟨0,by omega,q⟩
  ·exact .inr ⟨m+1,by omega,q⟩
theorem JK {mask:Ai}(h:Msk mask){i e:Ai}(hi:i≤mask)(he:e≤mask):∃ n,n≤mask∧cyc mask n i=e:=by
 have a:=WQ h;unfold WP at a;rw[Bo] at a;obtain⟨a1,a2⟩:=a;have a1:orb mask (mask+1) 0 0=2 ^ (mask+1)-1:=by simpa using a1
 have g:∀ e,e≤mask→∃ n,n≤mask∧cyc mask n 0=e:=fun e he=>by
  have q:(orb mask (mask+1) 0 0).testBit e=true:=by rw[a1,Nat.testBit_two_pow_sub_one];simp;omega
  rcases QJ mask e _ _ _ q with q|⟨n,hn,q⟩
  ·simp at q
  ·exact⟨n,by omega,q⟩
 have a3:cyc mask (mask+1) 0=0:=by simpa using a2
 obtain⟨m,hm,em⟩:=g i hi;obtain⟨n,hn,en⟩:=g e he;by_cases q:m≤n
 ·refine⟨n-m,by omega,?_⟩
  rw[← em,← mP,show m+(n-m)=n by omega]
  exact en
 ·refine⟨n+(mask+1)-m,by omega,?_⟩
  rw[← em,← mP,show m+(n+(mask+1)-m)=(mask+1)+n by omega,mP,a3]
  exact en
theorem aI {mask:Ai}(h:Msk mask){i pert e:Ai}(hi:i≤mask)(hp:pert<2 ^ 64)(he:e≤mask):∃ n,n≤mask+13∧(lp mask n (i,pert)).1=e:=by
 have h0:(lp mask 13 (i,pert)).2=0:=by
  rw[QD];apply Nat.div_eq_of_lt;exact Lr hp (by decide)
 obtain⟨n,hn,q⟩:=JK h (BC mask 13 i pert hi) he;refine⟨13+n,by omega,?_⟩
 rw[YR];have:lp mask 13 (i,pert)=((lp mask 13 (i,pert)).1,0):=by rw[← h0]
 rw[this,YS];exact q
theorem cY {mask:Ai}(h:Msk mask)(hs:Aj){e:Ai}(he:e≤mask):∃ n,n<10*turns mask∧(it mask n (st mask hs)).j=e:=by
 obtain⟨n,hn,q⟩:=aI h (i:=bits hs % (mask+1)) (Kh (Os _ (Ol _))) (oG hs) he;obtain⟨k,hk,e1⟩:=B9 mask n (bits hs % (mask+1)) (bits hs);refine⟨k,by unfold turns;omega,?_⟩
 show (it mask k (rs mask _ _)).j=e;rw[e1];exact q
theorem nB (mask:Ai):∀ (n:Ai) (p:Mi),(it mask n p).dummy=p.dummy
 |0,p=>rfl
 |n+1,p=>by
  show (it mask n (adv mask p)).dummy=_;rw[nB mask n];unfold adv
  split <;> rfl
def Way (t:Fp)(p:Mi)(n:Ai):Prop:=∀ m,m<n→(it t.mask m p).j∈t.place.toList
inductive Meets (t:Fp)(hashAt:Ai→Aj)(h:Aj)(p:Mi)(fuel:Ai):Al SetTable.Met→Prop
 |emp (n:Ai) (hn:n<fuel) (w:Way t p n) (e:(it t.mask n p).j ∉ t.place.toList) (q:∀ m i,m<n→t.place[i]? = Aa (it t.mask m p).j→hashAt i≠h):Meets t hashAt h p fuel (Aa (.empty (it t.mask n p).j none))
 |cand (n i:Ai) (hn:n<fuel) (w:Way t p n) (e:t.place[i]? = Aa (it t.mask n p).j) (hh:hashAt i=h) (q:∀ m i,m<n→t.place[i]? = Aa (it t.mask m p).j→hashAt i≠h):Meets t hashAt h p fuel (Aa (.candidate (it t.mask n p).j i (it t.mask (n+1) p)))
theorem U9 {xs:Aw Ai}(h:Rs xs){a b x:Ai}(ha:xs[a]? = Aa x)(hb:xs[b]? = Aa x):a=b:=by rw[← tW h ha,tW h hb]
set_option tactic.hygienic true in
theorem bM {t:Fp}(T:Tb t)(hashAt:Ai→Aj)(h:Aj):∀ (fuel:Ai) (p:Mi),p.dummy=none→(∃ n,n<fuel∧(it t.mask n p).j ∉ t.place.toList)→Meets t hashAt h p fuel (Ki t hashAt h fuel p)
 |0,p,_,⟨n,hn,_⟩=>by omega
 |fuel+1,p,hd,⟨n,hn,hne⟩=>by
  unfold Ki;rcases XT T p.j with⟨i,e,ei⟩|⟨e,q⟩
  ·rw[e]
   simp only
   split
   ·rename_i hh
    exact Meets.cand 0 i (by omega) (fun m hm=>by omega) ei (by simpa using hh) fun m i hm=>by omega
   ·rename_i hh
    have hh':hashAt i≠h:=by simpa using hh
    have hn0:n≠0:=by
     rintro rfl;exact hne (Ch (by rw[Bi];exact ei))
    obtain⟨n',rfl⟩:∃ n',n=n'+1:=⟨n-1,by omega⟩
    have ih:=bM T hashAt h fuel (adv t.mask p) (by rw[← hd];exact nB t.mask 1 p) ⟨n',by omega,hne⟩
    rw[LK];have mem0:p.j∈t.place.toList:=Ch (by rw[Bi];exact ei)
    have up:∀ {k:Ai},Way t (adv t.mask p) k→Way t p (k+1):=fun {k} w m hm=>by
     cases m with
     |zero=>exact mem0
     |succ m=>exact w m (by omega)
    have upq:∀ {k:Ai},(∀ m i,m<k→t.place[i]? = Aa (it t.mask m (adv t.mask p)).j→hashAt i≠h)→∀ m i,m<k+1→t.place[i]? = Aa (it t.mask m p).j→hashAt i≠h:=fun {k} q m i' hm e'=>by
     cases m with
     |zero=>rw[U9 T.rs e' ei];exact hh'
     |succ m=>exact q m i' (by omega) e'
    generalize hg:Ki t hashAt h fuel (adv t.mask p)=r at ih;cases ih with
    |emp k hk w e1 q1=>exact Meets.emp (p:=p) (k+1) (by omega) (up w) e1 (upq q1)
    |cand k i' hk w e1 hh1 q1=>exact Meets.cand (p:=p) (k+1) i' (by omega) (up w) e1 hh1 (upq q1)
  ·rw[e]
   simp only[hd];exact Meets.emp (p:=p) 0 (by omega) (fun m hm=>by omega) q fun m i hm=>by omega
end _S
namespace _S
open PySem
open PySem.SetTable (Probe leap runEnd turns bits)
structure Own (mask:Ai)(owner:Aw (Al Ai))(us:Ab Ai):Prop where
 size:owner.size=mask+1
 nd:us.Nodup
 le:∀ u∈us,u≤mask
 at':∀ j k,j≤mask→(owner.getD j (Aa 0)=Aa k↔us[k]? = Aa j)
theorem sT {mask i:Ai}(hi:i≤mask):Hj mask i≤mask:=by
 unfold Hj
 split <;> omega
theorem sU (mask i:Ai):i≤Hj mask i:=by
 unfold Hj
 split <;> omega
theorem Own.none {mask:Ai}{owner:Aw (Al Ai)}{us:Ab Ai}(O:Own mask owner us){j:Ai}(hj:j≤mask):(owner.getD j (Aa 0)).isNone=true↔j ∉ us:=by
 constructor
 ·intro h hm
  obtain⟨k,hk,e⟩:=Co.mp hm;have:=(O.at' j k hj).mpr (by rw[Ap hk,e])
  rw[this] at h;cases h
 ·intro h
  cases q:owner.getD j (Aa 0) with
  |none=>rfl
  |some k=>exact absurd (Ch ((O.at' j k hj).mp q)) h
theorem rJ {mask:Ai}{owner:Aw (Al Ai)}{us:Ab Ai}(O:Own mask owner us):∀ (fuel i pert:Ai),i≤mask→(∃ L,L<fuel∧(lp mask L (i,pert)).1 ∉ us) →
  ∃ n,Ib mask owner fuel i pert=Aa (it mask n (rs mask i pert)).j∧(it mask n (rs mask i pert)).j≤mask∧(it mask n (rs mask i pert)).j ∉ us∧∀ m,m<n→(it mask m (rs mask i pert)).j∈us
 |0,i,pert,hi,⟨L,hL,_⟩=>by omega
 |fuel+1,i,pert,hi,⟨L,hL,hne⟩=>by
  unfold Ib;have hmx:=sT hi;have hmn:=sU mask i;cases hf:(Do (Hj mask i+1-i)).find? fun k=>(owner.getD (i+k) (Aa 0)).isNone with
  |some k =>
   obtain⟨h1,h2,h3⟩:=List.find?_range_eq_some.mp hf;have hk:k<Hj mask i+1-i:=Et.mp h2;have ej:(it mask k (rs mask i pert)).j=i+k:=by rw[m7 mask i pert k (by omega)]
   refine⟨k,?_,?_,?_,fun m hm=>?_⟩
   ·rw[ej]
   ·rw[ej];omega
   ·rw[ej];exact(O.none (by omega)).mp h1
   ·rw[m7 mask i pert m (by omega)]
    have:=h3 m hm;apply Fo;intro q;rw[(O.none (show i+m≤mask by omega)).mpr q] at this
    cases this
  |none =>
   have hall:∀ k,k<Hj mask i+1-i→i+k∈us:=fun k hk=>by
    have:=Vp.mp hf k (Et.mpr hk);apply Fo;intro q;exact this ((O.none (show i+k≤mask by omega)).mpr q)
   have hL0:L≠0:=by
    rintro rfl;exact hne (hall 0 (by omega))
   obtain⟨L',rfl⟩:∃ L',L=L'+1:=⟨L-1,by omega⟩
   obtain⟨n,q1,q2,q3,q4⟩:=rJ O fuel (leap mask i pert).1 (leap mask i pert).2 (dY mask i pert) ⟨L',by omega,hne⟩
   have e:∀ m,it mask (Hj mask i-i+1+m) (rs mask i pert)=it mask m (rs mask (leap mask i pert).1 (leap mask i pert).2):=fun m=>by rw[lA,Q0]
   refine⟨Hj mask i-i+1+n,?_,?_,?_,fun m hm=>?_⟩
   ·rw[e];exact q1
   ·rw[e];exact q2
   ·rw[e];exact q3
   ·by_cases hlt:m<Hj mask i-i+1
    ·rw[m7 mask i pert m (by omega)]
     exact hall m (by omega)
    ·obtain⟨m',rfl⟩:∃ m',m=Hj mask i-i+1+m':=⟨m-(Hj mask i-i+1),by omega⟩
     rw[e];exact q4 m' (by omega)
theorem gap {mask:Ai}{us:Ab Ai}(h:us.length≤mask):∃ e,e≤mask∧e ∉ us:=by
 apply Fo;intro q;have:Do (mask+1) ⊆ us:=fun e he=>by
  apply Fo;intro r;exact q ⟨e,by have:=Et.mp he;omega,r⟩
 have:=List.Nodup.length_le_of_subset Xu this;rw[Go] at this;omega
theorem TZ (mask:Ai):Own mask (Array.replicate (mask+1) none) []:=by
 refine⟨by simp,OX,fun u hu=>by simp at hu,fun j k hj=>?_⟩
 have:j<mask+1:=by omega
 simp[Gn,this]
theorem G7 {mask:Ai}{owner:Aw (Al Ai)}{us:Ab Ai}(O:Own mask owner us){j:Ai}(hj:j≤mask)(hn:j ∉ us):Own mask (owner.setIfInBounds j (Aa us.length)) (us++[j]):=by
 refine⟨by simp[O.size],?_,fun u hu=>?_,fun i k hi=>?_⟩
 ·rw[Md]
  refine⟨O.nd,by simp,fun a ha b hb=>?_⟩
  simp at hb;rintro rfl;subst hb;exact hn ha
 ·rcases Cn.mp hu with h|h
  ·exact O.le u h
  ·simp at h;omega
 ·have hsz:=O.size
  have hi':i<owner.size:=by omega
  have hk:∀ {k},us[k]? = Aa i→k<us.length:=fun q=>(Bf.mp q).1;by_cases hij:j=i
  ·subst hij
   have e1:(owner.setIfInBounds j (Aa us.length)).getD j (Aa 0)=Aa us.length:=by simp[Gn,hi']
   rw[e1];constructor
   ·intro q;cases q;simp
   ·intro q
    by_cases h1:k<us.length
    ·rw[Bj h1] at q
     exact absurd (Ch q) hn
    ·rw[Dd (by omega)] at q
     have:k-us.length=0:=by
      cases hz:k-us.length with
      |zero=>rfl
      |succ z=>rw[hz] at q;simp at q
     congr 1;omega
  ·have e1:(owner.setIfInBounds j (Aa us.length)).getD i (Aa 0)=owner.getD i (Aa 0):=by
    simp[Gn,hi',Array.getElem_setIfInBounds,hij]
   rw[e1,O.at' i k hi];constructor
   ·intro q;rw[Bj (hk q)];exact q
   ·intro q
    by_cases h1:k<us.length
    ·rw[Bj h1] at q;exact q
    ·rw[Dd (by omega)] at q
     cases hz:k-us.length with
     |zero=>rw[hz] at q;simp at q;exact absurd q hij
     |succ z=>rw[hz] at q;simp at q
def ZQ (mask:Ai)(us:Ab Ai)(hs:Ab Aj):Prop:=∀ (k:Ai) (h:Aj),hs[k]? = Aa h→∃ n,us[k]? = Aa (it mask n (st mask h)).j∧∀ m,m<n→(it mask m (st mask h)).j∈us
theorem rG {mask:Ai}(hM:Msk mask):∀ (hs done:Ab Aj) (owner:Aw (Al Ai)) (us:Ab Ai),Own mask owner us→us.length=done.length→done.length+hs.length≤mask→ZQ mask us done →
  ∃ owner' us',hs.foldl (fun acc h=>do
   let (owner,k) ← acc
   let j ← Ib mask owner (turns mask) (bits h % (mask+1)) (bits h)
   pure (owner.setIfInBounds j (Aa k),k+1)) (Aa (owner,us.length))=Aa (owner',us'.length)∧Own mask owner' us'∧us'.length=done.length+hs.length∧ZQ mask us' (done++hs)
 |[],done,owner,us,O,hl,_,hL=>⟨owner,us,rfl,O,by simpa using hl,by simpa using hL⟩
 |h::hs,done,owner,us,O,hl,hlen,hL=>by
  rw[Cd] at hlen;obtain⟨e,he,hne⟩:=gap (mask:=mask) (us:=us) (by omega)
  obtain⟨L,hLn,hLe⟩:=aI hM (i:=bits h % (mask+1)) (Kh (Os _ (Ol _))) (oG h) he;obtain⟨n,q1,q2,q3,q4⟩:=rJ O (turns mask) (bits h % (mask+1)) (bits h) (Kh (Os _ (Ol _))) ⟨L,by unfold turns;omega,by rw[hLe];exact hne⟩
  have O':=G7 O q2 q3;have hL':ZQ mask (us++[(it mask n (rs mask (bits h % (mask+1)) (bits h))).j]) (done++[h]):=fun k h' e'=>by
   by_cases hk:k<done.length
   ·rw[Bj hk] at e'
    obtain⟨n',w1,w2⟩:=hL k h' e';exact⟨n',by rw[Bj (by omega)];exact w1,fun m hm=>Ds _ (w2 m hm)⟩
   ·rw[Dd (by omega)] at e'
    cases hz:k-done.length with
    |succ z=>rw[hz] at e';simp at e'
    |zero =>
     rw[hz] at e';simp at e';subst e';refine⟨n,?_,fun m hm=>Ds _ (q4 m hm)⟩;rw[Dd (by omega),hl,hz]
     rfl
  obtain⟨owner',us',r1,r2,r3,r4⟩:=rG hM hs (done++[h]) _ _ O' (by simp[hl]) (by simp;omega) hL'
  refine⟨owner',us',?_,r2,by simpa [Zx,Nat.add_comm 1] using r3,by simpa using r4⟩
  rw[Jv];rw[Ca] at r1;have e0:(do
   let (owner,k) ← Aa (owner,us.length)
   let j ← Ib mask owner (turns mask) (bits h % (mask+1)) (bits h)
   pure (owner.setIfInBounds j (Aa k),k+1))=Aa (owner.setIfInBounds (it mask n (rs mask (bits h % (mask+1)) (bits h))).j (Aa us.length),us.length+1):=by
   show (Ib mask owner (turns mask) (bits h % (mask+1)) (bits h)).bind _=_;rw[q1];rfl
  rw[e0];exact r1
theorem eG {mask:Ai}(hM:Msk mask)(hs:Aw Aj)(hlen:hs.size≤mask):∃ owner us,Ww mask hs=Aa owner∧Own mask owner us∧us.length=hs.size∧ZQ mask us hs.toList:=by
 obtain⟨owner',us',r1,r2,r3,r4⟩:=rG hM hs.toList [] _ [] (TZ mask) rfl (by simpa using hlen) (fun k h e=>by simp at e)
 refine⟨owner',us',?_,r2,by simpa using r3,by simpa using r4⟩
 unfold Ww;rw[← Array.foldl_toList];have:(([]:Ab Ai).length)=0:=rfl;rw[this] at r1
 erw [r1]
 rfl
structure Laid (mask:Ai)(hs:Aw Aj)(t:Fp)(qU:Aw Ai):Prop where
 msk:t.mask=mask
 tb:Tb t
 size:t.place.size=hs.size
 le:∀ x∈t.place.toList,x≤mask
 perm:qU.toList.Perm (Do hs.size)
 way:∀ (i k:Ai) (h:Aj),qU[i]? = Aa k→hs[k]? = Aa h→∃ n,t.place[i]? = Aa (it mask n (st mask h)).j∧Way t (st mask h) n
theorem YL {mask:Ai}(hM:Msk mask)(hs:Aw Aj)(hlen:hs.size≤mask)(finger moves:Ai)(led plain:Aq) :
  ∃ t qU,Uu mask finger moves led plain hs=Aa (t,qU)∧t.led=led∧t.plain=plain∧Laid mask hs t qU:=by
 obtain⟨owner,us,e,O,hl,hL⟩:=eG hM hs hlen;have hg:∀ j,j≤mask→owner.getD j none=owner.getD j (Aa 0):=fun j hj=>by
  have:j<owner.size:=by rw[O.size];omega
  simp[Gn,this]
 generalize hlv:((Do (mask+1)).filterMap fun j=>(owner.getD j none).map (j,·))=live
 have mem:∀ (j k:Ai),(j,k)∈live↔us[k]? = Aa j:=fun j k=>by
  rw[← hlv,Js];constructor
  ·rintro⟨j',hj',q⟩
   have hj'':j'≤mask:=by have:=Et.mp hj';omega
   rw[hg j' hj''] at q;cases hz:owner.getD j' (Aa 0) with
   |none=>rw[hz] at q;cases q
   |some k' =>
    rw[hz] at q;simp at q;obtain⟨rfl,rfl⟩:=q;exact(O.at' _ _ hj'').mp hz
  ·intro q
   have hj:j≤mask:=O.le j (Ch q);refine⟨j,Et.mpr (by omega),?_⟩
   rw[hg j hj,(O.at' j k hj).mpr q];rfl
 have hfst:live.map (·.1)=(Do (mask+1)).filter fun j=>(owner.getD j none).isSome:=by
  rw[← hlv,List.map_filterMap];generalize owner.getD=f
  induction Do (mask+1) with
  |nil=>rfl
  |cons a l ih =>
   rw[Gg,List.filter_cons];cases hz:f a none with
   |none=>simpa using ih
   |some k=>simpa using ih
 have hR:(live.map (·.1)).Pairwise (· < ·):=by
  rw[hfst];exact List.Pairwise.filter _ List.pairwise_lt_range
 have ndl:(live.map (·.2)).Nodup:=by
  unfold Yy;rw[Ja];have h1:=Ja.mp hR;refine Qw (fun {a b} ha hb hab=>?_) h1;intro q;have ea:=(mem a.1 a.2).mp ha;have eb:=(mem b.1 b.2).mp hb;rw[← q,ea] at eb;simp at eb;omega
 have pm:(live.map (·.2)).Perm (Do hs.size):=by
  rw[List.perm_ext_iff_of_nodup ndl Xu];intro k;rw[Dk,Et,← hl];constructor
  ·rintro⟨⟨j,k'⟩,h1,rfl⟩
   exact(Bf.mp ((mem j k').mp h1)).1
  ·intro hk
   exact⟨(us[k],k),(mem _ _).mpr (Ap hk),rfl⟩
 have hmem:∀ j,j∈live.map (·.1)↔j∈us:=fun j=>by
  rw[Dk];constructor
  ·rintro⟨⟨j',k⟩,h1,rfl⟩
   exact Ch ((mem _ _).mp h1)
  ·intro h1
   obtain⟨k,hk,e⟩:=Co.mp h1;exact⟨(j,k),(mem _ _).mpr (by rw[Ap hk,e]),rfl⟩
 refine⟨{ mask,place:=(live.map (·.1)).toArray,dummies:=#[],finger,led,moves,plain },(live.map (·.2)).toArray,?_,rfl,rfl,rfl,⟨?_,rfl⟩,?_,fun x hx=>?_,?_,fun i k h e1 e2=>?_⟩
 ·unfold Uu
  rw[e,← hlv];rfl
 ·exact hR
 ·have:=pm.length_eq
  simp at this ⊢;exact this
 ·exact O.le x ((hmem x).mp hx)
 ·exact pm
 ·have e1':(live.map (·.2))[i]? = Aa k:=by simpa using e1
  rw[Dv] at e1';cases hz:live[i]? with
  |none=>rw[hz] at e1';cases e1'
  |some jk =>
   rw[hz] at e1';simp at e1';have hin:=Ch hz;have hu:=(mem jk.1 jk.2).mp hin;obtain⟨n,w1,w2⟩:=hL k h (by rw[Bi];exact e2)
   rw[← e1'] at w1;rw[hu] at w1;refine⟨n,?_,fun m hm=>?_⟩
   ·rw[← w1]
    simp[hz]
   ·have:=(hmem _).mpr (w2 m hm)
    simpa using this
theorem NM {t:Fp}{hs:Aw Aj}{w:Ai}:SetTable.relaid t hs w=Uu (Fd w-1) t.finger (t.movedTo (Fd w-1)) t.led t.plain hs:=rfl
end _S
namespace _S
open PySem
open PySem.SetTable (Probe leap runEnd turns bits)
structure Set0 {K:Type}(is:K→Ac→Prop)(hash:K→Aj)(es:Aw (Aj × Ac))(seen:Ab K):Prop where
 good:∀ e∈es.toList,∃ k,e.1=hash k∧is k e.2
 nd:es.toList.Pairwise fun a b=>∀ k,is k a.2→¬ is k b.2
 mem:∀ k,k∈seen↔∃ e∈es.toList,is k e.2
section
variable {K:Type}{is:K→Ac→Prop}{hash:K→Aj}{es es':Aw (Aj × Ac)}{seen seen':Ab K}
theorem Set0.perm (Z:Set0 is hash es seen)(p:es'.toList.Perm es.toList):Set0 is hash es' seen:=
 ⟨fun e he=>Z.good e (p.mem_iff.mp he),(p.pairwise_iff fun {x y} h k hy hx=>h k hx hy).mpr Z.nd,fun k=>(Z.mem k).trans ⟨fun ⟨e,he,q⟩=>⟨e,p.mem_iff.mpr he,q⟩,fun ⟨e,he,q⟩=>⟨e,p.mem_iff.mp he,q⟩⟩⟩
theorem Set0.nil:Set0 is hash #[] []:=⟨fun e he=>by simp at he,by simp,fun k=>by simp⟩
theorem Set0.push (Z:Set0 is hash es seen)(inj:∀ {k k':K} {v:Ac},is k v→is k' v→k=k'){k:K}{x:Ac}(hk:is k x)(hn:k ∉ seen)(p:es'.toList.Perm (es.toList++[(hash k,x)])):Set0 is hash es' (k::seen):=by
 refine Set0.perm (es:=es.push (hash k,x)) ⟨fun e he=>?_,?_,fun k'=>?_⟩ (by simpa using p)
 ·rw[Eo] at he
  rcases Cn.mp he with he|he
  ·exact Z.good e he
  ·simp at he;subst he;exact⟨k,rfl,hk⟩
 ·rw[Eo,Eh]
  refine⟨Z.nd,by simp,fun a ha b hb k' h1 h2=>?_⟩
  simp at hb;subst hb;have:=inj hk h2;subst this;exact hn ((Z.mem k).mpr ⟨a,ha,h1⟩)
 ·rw[Av,Z.mem,Eo]
  constructor
  ·rintro (rfl|⟨e,he,q⟩)
   ·exact⟨(hash k',x),by simp,hk⟩
   ·exact⟨e,Ds _ he,q⟩
  ·rintro⟨e,he,q⟩
   rcases Cn.mp he with he|he
   ·exact .inr ⟨e,he,q⟩
   ·simp at he;subst he;exact .inl (inj q hk)
theorem Set0.again (Z:Set0 is hash es seen){k:K}(hk:k∈seen):Set0 is hash es (k::seen):=
 ⟨Z.good,Z.nd,fun k'=>by rw[Av,Z.mem];exact⟨fun h=>h.elim (fun e=>by subst e;exact(Z.mem _).mp hk) id,.inr⟩⟩
end
section
open Classical in
theorem nE {K:Type}{is:K→Ac→Prop}:∀ (L:Ab (Aj × Ac)) (U:Ab K),L.Pairwise (fun a b=>∀ k,is k a.2→¬ is k b.2)→(∀ e∈L,∃ k∈U,is k e.2)→L.length≤U.length
 |[],U,_,_=>Ha _
 |e::L,U,nd,h=>by
  rw[Fc] at nd;obtain⟨k0,hk0,q0⟩:=h e (by simp)
  have ih:=nE L (U.erase k0) nd.2 fun e' he'=>by
   obtain⟨k,hk,q⟩:=h e' (by simp[he'])
   have:k≠k0:=fun z=>nd.1 e' he' k0 q0 (z▸q);exact⟨k,(Ua this).mpr hk,q⟩
  rw[Qx hk0] at ih;have:0<U.length:=Mr hk0;rw[Cd];omega
open Classical in
theorem Set0.few {K:Type}{is:K→Ac→Prop}{hash:K→Aj}{es:Aw (Aj × Ac)}{seen U:Ab K}{k:K}(Z:Set0 is hash es seen)(hU:∀ k'∈seen,k'∈U)(hk:k∈U)(hn:k ∉ seen):es.size<U.length:=by
 have:=nE es.toList (U.erase k) Z.nd fun e he=>by
  obtain⟨k',_,q⟩:=Z.good e he;have hs:=(Z.mem k').mpr ⟨e,he,q⟩;have hne:k'≠k:=fun z=>hn (z▸hs);exact⟨k',(Ua hne).mpr (hU k' hs),q⟩
 rw[Qx hk,Bh] at this;have:0<U.length:=Mr hk;omega
end
structure TabT (t:Fp)(es:Aw (Aj × Ac)):Prop where
 tb:Tb t
 msk:Msk t.mask
 size:t.place.size=es.size
 le:∀ x∈t.place.toList,x≤t.mask
 few:es.size*5<t.mask*3
 way:∀ (i:Ai) (e:Aj × Ac),es[i]? = Aa e→∃ n,t.place[i]? = Aa (it t.mask n (st t.mask e.1)).j∧Way t (st t.mask e.1) n
 plain:t.plain=true
theorem TabT.fits {t:Fp}{es:Aw (Aj × Ac)}(T:TabT t es):t.fits es.size=true:=by
 have h1:=T.size;have h2:=T.few;have h3:t.fill=es.size:=by unfold Ky;rw[T.tb.dm,h1];rfl
 unfold Uv;rw[h3,h1];rcases T.msk with h|h|h|h|h <;> rw[h] at h2 ⊢ <;> simp <;> omega
theorem TabT.gap {t:Fp}{es:Aw (Aj × Ac)}(T:TabT t es):∃ e,e≤t.mask∧e ∉ t.place.toList:=by
 apply _S.gap;rw[Bh,T.size];have h2:=T.few;rcases T.msk with h|h|h|h|h <;> rw[h] at h2 ⊢ <;> omega
theorem TabT.odd {t:Fp}{es:Aw (Aj × Ac)}(T:TabT t es):t.gaveWay=false:=by
 unfold SetTable.gaveWay;rcases T.msk with h|h|h|h|h <;> rw[h] <;> rfl
theorem TabT.put {t:Fp}{es:Aw (Aj × Ac)}(T:TabT t es){h:Aj}{x:Ac}{n:Ai}(w:Way t (st t.mask h) n)(hn:(it t.mask n (st t.mask h)).j ∉ t.place.toList)(hle:(it t.mask n (st t.mask h)).j≤t.mask) :
  let es':=Bw es (t.put (it t.mask n (st t.mask h)).j).2 (h,x)
  Tb (t.put (it t.mask n (st t.mask h)).j).1∧(t.put (it t.mask n (st t.mask h)).j).1.place.size=es'.size∧(∀ y∈(t.put (it t.mask n (st t.mask h)).j).1.place.toList,y≤t.mask) ∧
  (∀ (i:Ai) (e:Aj × Ac),es'[i]? = Aa e→∃ m,(t.put (it t.mask n (st t.mask h)).j).1.place[i]? = Aa (it t.mask m (st t.mask e.1)).j∧Way (t.put (it t.mask n (st t.mask h)).j).1 (st t.mask e.1) m):=by
 generalize hj:(it t.mask n (st t.mask h)).j=j at *;have pm:∀ y,y∈(t.put j).1.place.toList↔y=j∨y∈t.place.toList:=fun y=>by
  show y∈(Bw t.place (Cc t.place j) j).toList↔_;rw[(Ia _ _ _).mem_iff];simp[or_comm]
 have hb:Cc t.place j≤t.place.size:=(gE T.tb.rs j).le;have wm:∀ {p:Mi} {m:Ai},Way t p m→Way (t.put j).1 p m:=fun {p m} w q hq=>(pm _).mpr (.inr (w q hq));refine⟨E7 T.tb hn,?_,fun y hy=>?_,fun i e he=>?_⟩
 ·show (Bw t.place _ j).size=(Bw es _ (h,x)).size
  rw[jS,jS,T.size]
 ·rcases (pm y).mp hy with rfl|hy
  ·exact hle
  ·exact T.le y hy
 ·have he':(if i<Cc t.place j then es[i]? else if i=Cc t.place j then Aa (h,x) else es[i-1]?)=Aa e:=by
   rw[← l7 es (by rw[← T.size];exact hb)]
   exact he
  have pl:(t.put j).1.place[i]? = if i<Cc t.place j then t.place[i]? else if i=Cc t.place j then Aa j else t.place[i-1]?:=l7 t.place hb j i
  rw[pl];by_cases h1:i<Cc t.place j
  ·rw[Bl h1] at he' ⊢
   obtain⟨m,q1,q2⟩:=T.way i e he';exact⟨m,q1,wm q2⟩
  ·rw[Bk h1] at he' ⊢
   by_cases h2:i=Cc t.place j
   ·rw[Bl h2] at he' ⊢
    cases he';exact⟨n,by rw[hj],wm w⟩
   ·rw[Bk h2] at he' ⊢
    obtain⟨m,q1,q2⟩:=T.way _ e he';exact⟨m,q1,wm q2⟩
theorem B8 {mask:Ai}(p:Mi)(hp:p.j+p.more≤mask):∀ n,(it mask n p).j+(it mask n p).more≤mask
 |0=>hp
 |n+1=>by
  rw[mY];have ih:=B8 p hp n;unfold adv
  split
  ·show (it mask n p).j+1+((it mask n p).more-1)≤mask
   omega
  ·show (leap mask _ _).1+(Hj mask (leap mask _ _).1-(leap mask _ _).1)≤mask
   have h1:=sT (dY mask (it mask n p).i (it mask n p).perturb);have h2:=sU mask (leap mask (it mask n p).i (it mask n p).perturb).1;omega
theorem F2 (mask:Ai)(h:Aj)(n:Ai):(it mask n (st mask h)).j≤mask:=by
 have h0:bits h % (mask+1)≤mask:=Kh (Os _ (Ol _));have:=B8 (mask:=mask) (st mask h) (by
  show bits h % (mask+1)+(Hj mask (bits h % (mask+1))-bits h % (mask+1))≤mask;have h1:=sT h0;have h2:=sU mask (bits h % (mask+1));omega) n
 omega
theorem tT {t:Fp}{es:Aw (Aj × Ac)}(hM:Msk t.mask)(hp:t.plain=true)(h1:t.place.size=es.size)(h2:es.size≤1001)(hf:t.tooFull=true)(hd:t.dummies=#[])(h3:(es.size-1)*5<t.mask*3)(h4:0<es.size) :
  Fd (Hd es.size)≤2048∧∃ t' qU,t.relaid (es.map (·.1)) (Hd es.size)=Aa (t',qU)∧t'.led=t.led∧(qU.filterMap (es[·]?)).toList.Perm es.toList∧TabT t' (qU.filterMap (es[·]?))∧qU.toList.Perm (Do es.size):=by
 have hfill:t.fill=es.size:=by unfold Ky;rw[hd,h1];rfl
 have hful:t.mask*3≤es.size*5:=by
  unfold Rj at hf;rw[hfill] at hf;simpa using hf
 have hcase:(es.size=5∧Fd (Hd es.size)=32)∨(es.size=19∧Fd (Hd es.size)=128)∨(es.size=77∧Fd (Hd es.size)=512)∨(es.size=307∧Fd (Hd es.size)=2048):=by
  rcases hM with h|h|h|h|h <;> rw[h] at hful h3
  ·have:es.size=5:=by omega
   exact .inl ⟨this,by rw[this];decide⟩
  ·have:es.size=19:=by omega
   exact .inr (.inl ⟨this,by rw[this];decide⟩)
  ·have:es.size=77:=by omega
   exact .inr (.inr (.inl ⟨this,by rw[this];decide⟩))
  ·have:es.size=307:=by omega
   exact .inr (.inr (.inr ⟨this,by rw[this];decide⟩))
  ·omega
 have hM':Msk (Fd (Hd es.size)-1):=by
  rcases hcase with⟨_,h⟩|⟨_,h⟩|⟨_,h⟩|⟨_,h⟩ <;> rw[h]
  ·exact .inr (.inl rfl)
  ·exact .inr (.inr (.inl rfl))
  ·exact .inr (.inr (.inr (.inl rfl)))
  ·exact .inr (.inr (.inr (.inr rfl)))
 have hle:(es.map (·.1)).size≤Fd (Hd es.size)-1:=by
  rw[Tr];rcases hcase with⟨h5,h⟩|⟨h5,h⟩|⟨h5,h⟩|⟨h5,h⟩ <;> rw[h,h5] <;> omega
 obtain⟨t',qU,e,l1,l2,L⟩:=YL hM' (es.map (·.1)) hle t.finger (t.movedTo (Fd (Hd es.size)-1)) t.led t.plain
 have hosz:qU.size=es.size:=by
  have:=L.perm.length_eq;simpa using this
 have hord:∀ i k,qU[i]? = Aa k→k<es.size:=fun i k q=>by
  have:k∈Do (es.map (·.1)).size:=L.perm.mem_iff.mp (Ch (by rw[Bi];exact q))
  simpa using this
 have hfm:(qU.filterMap (es[·]?)).toList=qU.toList.map fun k=>es.toList.getD k (0,.none):=by
  rw[Array.toList_filterMap];have:∀ l:Ab Ai,(∀ k∈l,k<es.size)→l.filterMap (es[·]?)=l.map fun k=>es.toList.getD k (0,.none):=by
   intro l
   induction l with
   |nil=>intro _;rfl
   |cons a l ih =>
    intro hl;have ha:=hl a (by simp)
    rw[Gg,Ek,ih fun k hk=>hl k (by simp[hk])]
    rw[Ec ha];simp[ha]
  refine this _ fun k hk=>?_;obtain⟨i,hi,q⟩:=Co.mp hk;exact hord i k (by rw[← Bi,Ap hi,q])
 have hperm:(qU.filterMap (es[·]?)).toList.Perm es.toList:=by
  rw[hfm];have p1:=L.perm.map fun k=>es.toList.getD k (0,Dj);refine p1.trans ?_;have e2:(Do (es.map (·.1)).size).map (fun k=>es.toList.getD k (0,Dj))=es.toList:=by
   apply Nl
   ·simp
   ·intro i a1 a2
    have a3:i<es.size:=by simpa using a2
    simp[a3]
  rw[e2]
 have hsz:(qU.filterMap (es[·]?)).size=es.size:=by rw[← Bh,hperm.length_eq,Bh]
 have hentry:∀ i,(qU.filterMap (es[·]?))[i]? = (qU[i]?).map fun k=>es.toList.getD k (0,.none):=fun i=>by
  rw[← Bi,hfm,Dv,Bi]
 refine⟨by rcases hcase with⟨_,h⟩|⟨_,h⟩|⟨_,h⟩|⟨_,h⟩ <;> rw[h] <;> decide,t',qU,by rw[NM];exact e,l1,hperm,⟨L.tb,by rw[L.msk];exact hM',by rw[L.size,hsz,Tr],by rw[L.msk];exact L.le,?_,fun i en q=>?_,by rw[l2];exact hp⟩,by have:=L.perm;rwa [Tr] at this⟩
 ·rw[hsz,L.msk]
  rcases hcase with⟨h5,h⟩|⟨h5,h⟩|⟨h5,h⟩|⟨h5,h⟩ <;> rw[h,h5] <;> omega
 ·rw[hentry] at q
  cases hz:qU[i]? with
  |none=>rw[hz] at q;cases q
  |some k =>
   rw[hz] at q;simp only[Ka,Option.some.injEq] at q;have hk:=hord i k hz;have:(es.map (·.1))[k]? = Aa en.1:=by
    rw[Array.getElem?_map,Ec hk];rw[← q];simp[hk]
   rw[L.msk];exact L.way i k en.1 hz this
end _S
namespace _S
open PySem
open PySem.SetTable (Probe leap runEnd turns bits)
def Sup (h0 h:Bs):Prop:=∀ b o,h0.get? b=Aa o→h.get? b=Aa o
def isT (prog:Bm)(w:Cb)(h0:Bs)(ks:Ab Aj)(v:Ac):Prop:=∃ a,v=.ref a∧Ot (Bg prog w) h0 ks a
section
variable {prog:Bm}{w:Cb}{h0:Bs}
theorem isT.inj {x y:Ab Aj}{v:Ac}(hx:isT prog w h0 x v)(hy:isT prog w h0 y v):x=y:=by
 obtain⟨a,rfl,h1⟩:=hx;obtain⟨b,e,h2⟩:=hy;cases e;exact h1.inj h2
theorem kA {h:Bs}{ks:Ab Aj}{a:Af}(hS:Sup h0 h)(hx:Ot (Bg prog w) h0 ks a):Ot (Bg prog w) h ks a:=by
 obtain⟨o,items,n,ho,r⟩:=hx;exact⟨o,items,n,hS _ _ ho,r⟩
variable {A:Bz}{E:Ac→Ag→Prop}{s:Ag}
theorem CG {k:Ab Aj}{v:Ac}{Q:Aj→Ag→Prop}(hu:A.units<Fg)(hS:Sup h0 s.heap)(hx:isT prog w h0 k v)(h:Q (Br (Bg prog w) k) { s with toks:=s.toks+(k.length+1) }) : Ao (Au prog w) A (pyHash v) Q E s:=by
 obtain⟨a,rfl,hx⟩:=hx;exact wpAny_pyHash_tuple hu (kA hS hx) h
theorem eqT {k k':Ab Aj}{v v':Ac}{Q:Aq→Ag→Prop}(hu:A.units<Fg)(hS:Sup h0 s.heap)(hx:isT prog w h0 k v)(hy:isT prog w h0 k' v')(h:Q (decide (k=k')) s):Ao (Au prog w) A (eqBool v v') Q E s:=by
 obtain⟨a,rfl,hx⟩:=hx;obtain⟨b,rfl,hy⟩:=hy;exact wpAny_eqBool_tuple hu (kA hS hx) (kA hS hy) h
theorem lC {prog:Bm}{w:Cb}:∀ {ks:Ab Aj} {vs:Ab Ac},ItemsAre (Bg prog w) ks vs→∀ v∈vs,∃ i t,v=.int i t:=by
 intro ks vs h
 induction h with
 |nil=>intro v hv;simp at hv
 |@cons k v' ks vs h1 _ ih =>
  intro v hv;rcases Av.mp hv with rfl|hv
  ·cases v <;> first|exact⟨_,_,rfl⟩|exact absurd h1 (by rintro⟨⟩)
  ·exact ih v hv
theorem IA {k:Ab Aj}{v:Ac}{Q:Aq→Ag→Prop}(hS:Sup h0 s.heap)(hx:isT prog w h0 k v)(h:Q true s):Ao (Au prog w) A (Po 8 v) Q E s:=by
 obtain⟨a,rfl,hx⟩:=hx;have hx:=kA hS hx;have hT:=hx.typeIs;obtain⟨o,items,n,ho,_,hd,hi⟩:=hx;unfold Po;refine Ad (Yk hT F.slot_tuple_hash.lookup ?_);show Ao _ _ (Zu (.ref a) >>= _) Q E s;refine Ad (Hc ho hd ?_);refine Ad ?_;show Ao _ _ (forIn items _ _) _ _ s;rw[← Vq];refine Mw _ (fun rest r s'=>r.1=none∧s'=s∧∀ v∈rest,∃ i t,v=.int i t) _ ?_ ?_ _ _ ⟨rfl,rfl,lC hi⟩
 ·rintro v rest r s' ⟨hr,rfl,hall⟩
  obtain⟨i,t,rfl⟩:=hall v Dg;show Ao _ _ (Po 7 (.int i t) >>= _) _ _ _;rw[show Po 7 (.int i t)=pure true from rfl]
  refine Ad (Am ?_);simp only[Jb,Bu,Ej];exact Am ⟨rfl,rfl,fun u hu'=>hall u (Bx _ hu')⟩
 ·rintro⟨r1,r2⟩ s' ⟨hr,rfl,_⟩
  simp only at hr;subst hr;exact Am h
theorem WK {k:Ab Aj}{v:Ac}{Q:Aq→Ag→Prop}(hS:Sup h0 s.heap)(hx:isT prog w h0 k v)(h:Q false s):Ao (Au prog w) A (Mj 8 v) Q E s:=by
 obtain⟨a,rfl,hx⟩:=hx;have hx:=kA hS hx;have hT:=hx.typeIs;obtain⟨o,items,n,ho,_,hd,hi⟩:=hx;unfold Mj;refine Ad (Km hT ?_);dsimp only;refine Ad (Am ?_);simp only[Jb,Bu,Ej];refine Ad (Hc ho hd ?_);refine Ad ?_;show Ao _ _ (forIn items _ _) _ _ s;rw[← Vq];refine Mw _ (fun rest r s'=>r.1=none∧s'=s∧∀ v∈rest,∃ i t,v=.int i t) _ ?_ ?_ _ _ ⟨rfl,rfl,lC hi⟩
 ·rintro v rest r s' ⟨hr,rfl,hall⟩
  obtain⟨i,t,rfl⟩:=hall v Dg;show Ao _ _ (Mj 7 (.int i t) >>= _) _ _ _;rw[show Mj 7 (.int i t)=pure false from rfl]
  refine Ad (Am ?_);simp only[Bu,Ej];exact Am ⟨rfl,rfl,fun u hu'=>hall u (Bx _ hu')⟩
 ·rintro⟨r1,r2⟩ s' ⟨hr,rfl,_⟩
  simp only at hr;subst hr;exact Am h
theorem U3 {k:Ab Aj}{v:Ac}{Q:Aq→Ag→Prop}(hS:Sup h0 s.heap)(hx:isT prog w h0 k v)(h:Q true s):Ao (Au prog w) A (eqIsQuiet 8 v) Q E s:=by
 obtain⟨a,rfl,hx⟩:=hx;exact wpAny_eqIsQuiet_tuple (kA hS hx) h
theorem XE {α : Type}{c:Prop}[Ps c]{M:Ll}{t u:Kt α}{Q:α→Ag→Prop}(h1:c→Ao M A t Q E s)(h2:¬ c→Ao M A u Q E s):Ao M A (if c then t else u) Q E s:=by
 by_cases h:c
 ·rw[Bl h];exact h1 h
 ·rw[Bk h];exact h2 h
theorem AC {k:Ab Aj}{x:Ac}{ys:Ab Ac}{Q:Aq→Ag→Prop}(hS:Sup h0 s.heap)(hx:isT prog w h0 k x)(hy:∀ y∈ys,∃ k',isT prog w h0 k' y)(h:Q false s):Ao (Au prog w) A (Wx x ys) Q E s:=by
 unfold Wx;refine Ad ?_;refine Mw _ (fun rest r s'=>r.1=none∧s'=s∧∀ v∈rest,∃ k',isT prog w h0 k' v) _ ?_ ?_ _ _ ⟨rfl,rfl,hy⟩
 ·rintro v rest r s' ⟨hr,rfl,hall⟩
  obtain⟨k',hv⟩:=hall v Dg;have hrest:∀ u∈rest,∃ k',isT prog w h0 k' u:=fun u hu'=>hall u (Bx _ hu');dsimp only;refine XE (fun _=>Am ⟨rfl,rfl,hrest⟩) fun _=>?_
  ·refine Ad (U3 hS hx ?_)
   simp only[Jb,Bu,Ej];refine Ad (U3 hS hv ?_);simp only[Jb,Bu,Ej];refine Ad (WK hS hx ?_);simp only[Bu,Ej];refine Ad (WK hS hv ?_);simp only[Bu,Ej];exact Am ⟨rfl,rfl,hrest⟩
 ·rintro⟨r1,r2⟩ s' ⟨hr,rfl,_⟩
  simp only at hr;subst hr;exact Am h
theorem AB {k:Ab Aj}{v:Ac}{Q:Aq→Ag→Prop}(hx:isT prog w h0 k v)(h:Q true s):Ao (Au prog w) A (isSame v v) Q E s:=by
 obtain⟨a,rfl,hx⟩:=hx;unfold isSame;simp only[Ea,Dq];exact Am h
theorem B0 {k:Ab Aj}{x:Ac}{S:Af}{o:Cq}{es:Aw (Aj × Ac)}{ep:Ai}{t:Fp}{seen:Ab (Ab Aj)}(hu:A.units<Fg)(hS:Sup h0 s.heap)(ho:s.heap.get? S=Aa o)(hd:o.data=.set es ep t)
  (T:TabT t es) (Z:Set0 (isT prog w h0) (Br (Bg prog w)) es seen) (hx:isT prog w h0 k x) (N:Ai) (hNw:Way t (st t.mask (Br (Bg prog w) k)) N)
  (hNe:(it t.mask N (st t.mask (Br (Bg prog w) k))).j ∉ t.place.toList) (hNf:N<10*turns t.mask) {Q:SetFound→Ag→Prop}
  (h1:k∈seen→Q (.there none) s) (h2:k ∉ seen→Q (.free (it t.mask N (st t.mask (Br (Bg prog w) k))).j false) s) :
  ∀ (fuel n:Ai) (stand:Al Mi),stand.getD (t.probeStart (Br (Bg prog w) k))=it t.mask n (st t.mask (Br (Bg prog w) k))→n≤N→N-n<fuel →
   (∀ (m i:Ai) (e:Aj × Ac),m<n→t.place[i]? = Aa (it t.mask m (st t.mask (Br (Bg prog w) k))).j→es[i]? = Aa e→¬ isT prog w h0 k e.2) →
   Ao (Au prog w) A (Qm S x (Br (Bg prog w) k) true fuel stand) Q E s
 |0,n,stand,_,_,hf,_=>by omega
 |fuel+1,n,stand,hst,hn,hf,hq=>by
  unfold Qm;refine Ad (Ga ho hd T.fits ?_);dsimp only;rw[T.odd];simp only[Bu,Ej];rw[hst];generalize hg:t.probe _ (Br (Bg prog w) k) (it t.mask n (st t.mask (Br (Bg prog w) k)))=r;obtain⟨H,hH,hg⟩:∃ H:Ai→Aj,(∀ i,H i=(es[i]?.map (·.1)).getD 0)∧t.probe H (Br (Bg prog w) k) (it t.mask n (st t.mask (Br (Bg prog w) k)))=r:=⟨_,fun i=>rfl,hg⟩
  have itn:∀ m,it t.mask m (it t.mask n (st t.mask (Br (Bg prog w) k)))=it t.mask (n+m) (st t.mask (Br (Bg prog w) k)):=fun m=>(lA _ _ _ _).symm;have gm:Meets t H (Br (Bg prog w) k) (it t.mask n (st t.mask (Br (Bg prog w) k))) (10*turns t.mask) r:=by
   rw[← hg];refine bM T.tb H _ _ _ (by rw[nB];rfl) ⟨N-n,by omega,?_⟩
   rw[itn,show n+(N-n)=N by omega]
   exact hNe
  have miss:∀ j:Ai,(∀ m i:Ai,m<j→t.place[i]? = Aa (it t.mask m (it t.mask n (st t.mask (Br (Bg prog w) k)))).j→H i≠Br (Bg prog w) k) →
    ∀ (m i:Ai) (e:Aj × Ac),m<n+j→t.place[i]? = Aa (it t.mask m (st t.mask (Br (Bg prog w) k))).j→es[i]? = Aa e→¬ isT prog w h0 k e.2:=fun j qj m i e hm ei ee hk=>by
   by_cases hmn:m<n
   ·exact hq m i e hmn ei ee hk
   ·refine qj (m-n) i (by omega) (by rw[itn,show n+(m-n)=m by omega];exact ei) ?_
    rw[hH,ee];obtain⟨k',e1,e2⟩:=Z.good e (Ch (by rw[Bi];exact ee))
    rw[isT.inj hk e2];simpa using e1
  cases gm with
  |emp j hj w' e' q =>
   rw[itn] at e';have hjN:n+j=N:=by
    rcases Wy (n+j) N with h|h|h
    ·exact absurd (hNw _ h) e'
    ·exact h
    ·have:=w' (N-n) (by omega)
     rw[itn,show n+(N-n)=N by omega] at this
     exact absurd this hNe
   dsimp only;rw[itn,hjN];refine Am (h2 fun hk=>?_);obtain⟨e,he,hke⟩:=(Z.mem k).mp hk;obtain⟨i,hi,ei⟩:=Co.mp he;have ei':es[i]? = Aa e:=by rw[← Bi,Ap hi,ei]
   obtain⟨m,w1,w2⟩:=T.way i e ei';obtain⟨k',g1,g2⟩:=Z.good e he;have:=isT.inj hke g2;subst this;rw[g1] at w1 w2;have hmN:m<N:=by
    apply Fo;intro hc;by_cases hmN:m=N
    ·subst hmN
     exact hNe (Ch (by rw[Bi];exact w1))
    ·exact hNe (w2 N (by omega))
   exact miss j q m i e (by omega) w1 ei' hke
  |cand j i hj w' e' hh q =>
   rw[itn] at e';have hi:i<es.size:=by
    rw[← T.size];exact(Dy.mp e').1
   have ei:es[i]? = Aa es[i]:=Ec hi;have hjN:n+j<N:=by
    rcases Wy (n+j) N with h|h|h
    ·exact h
    ·rw[h] at e'
     exact absurd (Ch (by rw[Bi];exact e')) hNe
    ·have:=w' (N-n) (by omega)
     rw[itn,show n+(N-n)=N by omega] at this
     exact absurd this hNe
   obtain⟨k',g1,g2⟩:=Z.good es[i] (by simp)
   dsimp only;have main:Ao (Au prog w) A (do
     let Aa (_,y):=es[i]?|unsupported "internal:set-entry"
     let equal ← holding [y] (eqBool y x)
     let (es',_,t') ← Ve S
     if true&&equal then return .there none
     let Aa same:=t'.sameMemory t.moves t.mask|unsupported "set.changed-during-lookup:is-the-new-block-at-the-old-address"
     let still ← match (if same then t'.slot (it t.mask j (it t.mask n (st t.mask (Br (Bg prog w) k)))).j else .empty) with
      |.live i'=>match es'[i']? with
       |some (_,y')=>do pure (if ← isSame y' y then Aa i' else none)
       |none=>pure none
      |_=>pure none
     match still with
     |none=>rule "set.search.anew";Qm S x (Br (Bg prog w) k) true fuel none
     |some i'=>if equal then return .there (Aa i') else Qm S x (Br (Bg prog w) k) true fuel (Aa (it t.mask (j+1) (it t.mask n (st t.mask (Br (Bg prog w) k)))))) Q E s:=by
    rw[ei];dsimp only;refine Ad (Eg (eqT hu hS g2 hx ?_));refine Ad (Ga ho hd T.fits ?_);by_cases hkk:k'=k
    ·subst hkk
     simp only[Jk,Uw,Dq];exact Am (h1 ((Z.mem k').mpr ⟨es[i],by simp,g2⟩))
    ·simp only[hkk,Jq,OT,Bu,Ej]
     have hm:t.sameMemory t.moves t.mask=Aa true:=by simp[SetTable.sameMemory]
     rw[hm];dsimp only;rw[itn,rY T.tb e'];simp only[Dq,ei];refine Ad (AB g2 ?_);simp only[Dq];refine Ad (Am ?_);dsimp only;refine B0 hu hS ho hd T Z hx N hNw hNe hNf h1 h2 fuel (n+j+1) _ ?_ (by omega) (by omega) fun m i' e hm ei' ee hk=>?_
     ·rw[Rh,itn]
      rfl
     ·by_cases hmj:m<n+j
      ·exact miss j q m i' e hmj ei' ee hk
      ·have:m=n+j:=by omega
       subst this;have:=U9 T.tb.rs ei' e';subst this;rw[ei] at ee;cases ee;exact hkk (isT.inj g2 hk)
   refine XE (fun _=>?_) fun _=>?_
   ·refine Ad (AC hS hx (fun y hy=>?_) ?_)
    ·obtain⟨e,he,rfl⟩:=Dk.mp hy
     have:e∈es.toList:=by
      have:=(Nt.mp he);exact Nt.mpr (Array.mem_filter.mp this).1
     obtain⟨k2,_,g⟩:=Z.good e this;exact⟨k2,g⟩
    ·simp only[Bu,Ej]
     exact main
   ·exact main
end
end _S
namespace _S
open PySem
open PySem.SetTable (Probe leap runEnd turns bits)
@[reducible] def gV (es:Aw (Aj × Ac))(ep:Ai)(t:Fp):Cq:={ cls:=.type "set",dict:=none,data:=.set es ep t }
theorem t7 {h:Bs}{S:Af}{es es':Aw (Aj × Ac)}{ep:Ai}{t t':Fp}(ho:h.get? S=Aa (gV es ep t)):(h.update S (Yz es' t')).get? S=Aa (gV es' (ep+1) t'):=Fz _ ho rfl
structure SetK {K:Type}(is:K→Ac→Prop)(hash:K→Aj)(S:Af)(led:Aq)(V:Ab Ac)(seen:Ab K)(h:Bs):Prop where
 ex:∃ es ep t,h.get? S=Aa (gV es ep t)∧Set0 is hash es seen∧TabT t es∧t.led=led∧∀ e∈es.toList,e.2∈V
section
variable {prog:Bm}{w:Cb}{h0:Bs}{A:Bz}{E:Ac→Ag→Prop}{s:Ag}{S:Af}{led:Aq}{V:Ab Ac}
theorem GT (a:Af)(wanted:Ai):setRelay a wanted=(do
  let (es,_,t) ← Ve a
  if Fd wanted>sizeLine then unsupported "set:memory"
  let (es,t) ← (do
   let Aa (t,qU):=t.relaid (es.map (·.1)) wanted|unsupported "internal:set-table-without-room"
   let es':=qU.filterMap (es[·]?)
   if es'.size != es.size then unsupported "internal:set-table-lost-an-element"
   pure (es',t))
  storeSet a es t):=rfl
theorem AX {seen:Ab (Ab Aj)}{k:Ab Aj}{x:Ac}{Q:Aq→Ag→Prop}(hu:A.units<Fg)(hS:Sup h0 s.heap)(Z:SetK (isT prog w h0) (Br (Bg prog w)) S led V seen s.heap)(hx:isT prog w h0 k x)(hV:x∈V){U:Ab (Ab Aj)}(hU:U.length≤1000)(hU1:∀ k'∈seen,k'∈U)(hU2:k∈U)
  (h:∀ (b:Aq) (h':Bs) (tk:Ai),s.toks≤tk→Fa S s.heap h'→SetK (isT prog w h0) (Br (Bg prog w)) S led V (k::seen) h'→Q b { s with heap:=h',toks:=tk }) : Ao (Au prog w) A (Xv S x) Q E s:=by
 obtain⟨es,ep,t,ho,Z,T,hl,hm⟩:=Z;unfold Xv;refine Eg (Ad (CG hu hS hx ?_));unfold setAddHashed setAddHashedIn;refine Eg (Ad (Ga (s:={ s with toks:=s.toks+(k.length+1) }) ho rfl T.fits ?_))
 dsimp only;have hsc:byScan x es=false:=by
  obtain⟨a,rfl,_⟩:=hx;rfl
 rw[hsc];simp only[Bu,Ej];obtain⟨e,he,hne⟩:=T.gap;have first:∃ N,Way t (st t.mask (Br (Bg prog w) k)) N∧(it t.mask N (st t.mask (Br (Bg prog w) k))).j ∉ t.place.toList∧N<10*turns t.mask:=by
  obtain⟨N,hN,eN⟩:=cY T.msk (Br (Bg prog w) k) he;have gm:=bM T.tb (fun _=>Br (Bg prog w) k+1) (Br (Bg prog w) k) (10*turns t.mask) (st t.mask (Br (Bg prog w) k)) rfl ⟨N,hN,by rw[eN];exact hne⟩
  generalize Ki t _ _ _ _=r at gm;cases gm with
  |emp j hj w' e' q=>exact⟨j,w',e',hj⟩
  |cand j i hj w' e' hh q=>exact absurd hh (by omega)
 obtain⟨N,hNw,hNe,hNf⟩:=first
 have hNt:N<100000:=by
  have:turns t.mask≤2200:=by
   unfold turns;rcases T.msk with h|h|h|h|h <;> rw[h] <;> omega
  omega
 refine Ad (B0 (s:={ s with toks:=s.toks+(k.length+1) }) hu hS ho rfl T Z hx N hNw hNe hNf (fun hk=>?_) (fun hk=>?_) 100000 0 none rfl (by omega) (by omega) fun m i e hm=>by omega)
 ·exact Am (h _ s.heap _ (by omega) (Qj _ _) ⟨es,ep,t,ho,Z.again hk,T,hl,hm⟩)
 ·have hle:es.size<1000:=Bt (Z.few hU1 hU2 hk) hU
  dsimp only;refine Ad (Ga (s:={ s with toks:=s.toks+(k.length+1) }) ho rfl T.fits ?_)
  obtain⟨p1,p2,p3,p4⟩:=T.put (h:=Br (Bg prog w) k) (x:=x) hNw hNe (F2 _ _ _);generalize hj:(it t.mask N (st t.mask (Br (Bg prog w) k))).j=j at *;have m1:(t.put j).1.mask=t.mask:=rfl;have m2:(t.put j).1.plain=true:=T.plain;have m3:(t.put j).1.led=led:=hl;generalize hp:t.put j=tp at *;obtain⟨t1,p⟩:=tp;dsimp only at p1 p2 p3 p4 m1 m2 m3 ⊢;rw[m2];simp only[Dq];refine Ad (IA (s:={ s with toks:=s.toks+(k.length+1) }) hS hx ?_)
  simp only[Dq,Ts,Ux];have hsz:(Bw es p (Br (Bg prog w) k,x)).size=es.size+1:=jS _ _ _;have hline:es.size+1≤sizeLine:=by rw[Ev];omega
  refine Ad (Mk (s:={ s with toks:=s.toks+(k.length+1) }) ho rfl ?_ (by rw[hsz];exact hline))
  have Z1:Set0 (isT prog w h0) (Br (Bg prog w)) (Bw es p (Br (Bg prog w) k,x)) (k::seen):=by
   refine Z.push (fun a b=>isT.inj a b) hx hk ?_;have:=Ia es p (Br (Bg prog w) k,x);rw[Eo] at this;exact this
  have hm1:∀ e∈(Bw es p (Br (Bg prog w) k,x)).toList,e.2∈V:=fun e he=>by
   have:=(Ia es p (Br (Bg prog w) k,x)).mem_iff.mp he;rw[Eo] at this;rcases Cn.mp this with h1|h1
   ·exact hm e h1
   ·simp at h1;subst h1;exact hV
  have ho1:=t7 (es':=Bw es p (Br (Bg prog w) k,x)) (t':=t1) ho;have sb1:=Hg s.heap S (Yz (Bw es p (Br (Bg prog w) k,x)) t1);have hfit:t1.fits (Bw es p (Br (Bg prog w) k,x)).size=true:=by
   have h3:t1.fill=es.size+1:=by unfold Ky;rw[p1.dm,p2,hsz];rfl
   have h2:=T.few;unfold Uv;rw[h3,p2,hsz,m1];rcases T.msk with h|h|h|h|h <;> rw[h] at h2 ⊢ <;> simp <;> omega
  refine XE (fun hf=>?_) fun hf=>?_
  ·have hM1:Msk t1.mask:=by rw[m1];exact T.msk
   have h3:((Bw es p (Br (Bg prog w) k,x)).size-1)*5<t1.mask*3:=by rw[hsz,m1];exact T.few
   obtain⟨q1,t2,qU,q2,q3,q4,q5,_⟩:=tT hM1 m2 p2 (by rw[hsz];omega) (by simpa using hf) p1.dm h3 (by rw[hsz];omega)
   rw[hsz] at q1 q2;rw[GT];refine Ad ?_;refine Ad (Ga (s:={ s with heap:=_,toks:=s.toks+(k.length+1) }) ho1 rfl hfit ?_)
   dsimp only;rw[Bk (by rw[Ev];omega)]
   refine Ad ?_;rw[q2];dsimp only;have hs2:(qU.filterMap fun x_1=>(Bw es p (Br (Bg prog w) k,x))[x_1]?).size=es.size+1:=by rw[← Bh,q4.length_eq,Bh,hsz]
   rw[Bk (by rw[hs2,hsz];simp)]
   refine Am ?_;refine Mk (s:={ s with heap:=_,toks:=s.toks+(k.length+1) }) ho1 rfl ?_ (by rw[hs2];exact hline)
   refine Am (h _ _ _ (Ji _ _) (sb1.trans (Hg _ S _)) ⟨_,_,t2,t7 ho1,Z1.perm q4,q5,by rw[q3];exact m3,fun e he=>hm1 e (q4.mem_iff.mp he)⟩)
  ·refine Am (h _ _ _ (Ji _ _) sb1 ⟨_,_,t1,ho1,Z1,⟨p1,by rw[m1];exact T.msk,p2,by rw[m1];exact p3,?_,by rw[m1];exact p4,m2⟩,m3,hm1⟩)
   have h3:t1.fill=es.size+1:=by unfold Ky;rw[p1.dm,p2,hsz];rfl
   unfold Rj at hf;rw[h3] at hf;rw[hsz];simpa using hf
end
end _S
namespace _S
open PySem
open PySem.SetTable (Probe leap runEnd turns bits)
def isI (prog:Bm)(w:Cb)(k:Aj)(v:Ac):Prop:=(Bg prog w).is k v=true
section
variable {prog:Bm}{w:Cb}{A:Bz}{E:Ac→Ag→Prop}{s:Ag}{S:Af}{led:Aq}{V:Ab Ac}
set_option tactic.hygienic true in
theorem yR {k:Aj}{v:Ac}(h:isI prog w k v):∃ t,v=.int k t:=by
 cases v <;> first|(exact absurd h (by rintro⟨⟩)) | skip
 rename_i i t;refine⟨t,?_⟩;have:i=k:=(Bg prog w).inj (.int i t) i k (Uy _ _ _ _) h;rw[this]
theorem cL {es:Aw (Aj × Ac)}{seen:Ab Aj}(Z:Set0 (isI prog w) (Bg prog w).hash es seen):ElemsOf (Bg prog w) es.toList:=fun e he=>by
 obtain⟨k,h1,h2⟩:=Z.good e he;refine⟨⟨k,h2,h1⟩,?_⟩;obtain⟨t,q⟩:=yR h2;rw[q];rfl
theorem AW {seen:Ab Aj}{k:Aj}{x:Ac}{Q:Aq→Ag→Prop}(Z:SetK (isI prog w) (Bg prog w).hash S led V seen s.heap)(hx:isI prog w k x)(hV:x∈V){U:Ab Aj}(hU:U.length≤1000)(hU1:∀ k'∈seen,k'∈U)(hU2:k∈U)
  (h:∀ (b:Aq) (h':Bs) (tk:Ai),s.toks≤tk→Fa S s.heap h'→SetK (isI prog w) (Bg prog w).hash S led V (k::seen) h'→Q b { s with heap:=h',toks:=tk }) : Ao (Au prog w) A (Xv S x) Q E s:=by
 obtain⟨es,ep,t,ho,Z,T,hl,hm⟩:=Z;have hsc:x.scannable=true:=by
  obtain⟨tk,q⟩:=yR hx;rw[q];rfl
 have hf:=T.fits;have hb:es.size<scanBound:=by
  have h1:=T.few;have:scanBound=4096:=rfl;rcases T.msk with h|h|h|h|h <;> rw[h] at h1 <;> omega
 unfold Xv;refine Eg (Ad ((Bg prog w).pyHash (k:=k) hx ?_));unfold setAddHashed setAddHashedIn;refine Eg (Ad (Ga (s:={ s with toks:=s.toks+1 }) ho rfl hf ?_))
 dsimp only;rw[byScan_of hsc hb (cL Z)];simp only[Dq];unfold setAddByScan;refine Ad (Ad (He (Ad (wpAny_setScan_of (s:={ s with toks:=s.toks+1 }) hx ho rfl hf (cL Z) ?_))))
 cases hr:es.toList.findIdx? (fun e=>(Bg prog w).is k e.2) with
 |some j =>
  dsimp only;obtain⟨hj,hpj,_⟩:=List.findIdx?_eq_some_iff_getElem.mp hr;have hk:k∈seen:=(Z.mem k).mpr ⟨es.toList[j],Ng hj,hpj⟩;exact Am (Am (h _ s.heap _ (Ji _ _) (Qj _ _) ⟨es,ep,t,ho,Z.again hk,T,hl,hm⟩))
 |none =>
  dsimp only;have hk:k ∉ seen:=fun hk=>by
   obtain⟨e,he,q⟩:=(Z.mem k).mp hk;have:=List.findIdx?_eq_none_iff.mp hr e he;rw[show (Bg prog w).is k e.2=true from q] at this
   cases this
  have hle:es.size<1000:=Bt (Z.few hU1 hU2 hk) hU;obtain⟨e,he,hne⟩:=T.gap;have first:∃ N,Way t (st t.mask ((Bg prog w).hash k)) N∧(it t.mask N (st t.mask ((Bg prog w).hash k))).j ∉ t.place.toList∧t.freeSlot ((Bg prog w).hash k)=Aa ((it t.mask N (st t.mask ((Bg prog w).hash k))).j,false):=by
   obtain⟨N,hN,eN⟩:=cY T.msk ((Bg prog w).hash k) he;have gm:=bM T.tb (fun _=>(Bg prog w).hash k+1) ((Bg prog w).hash k) (10*turns t.mask) (st t.mask ((Bg prog w).hash k)) rfl ⟨N,hN,by rw[eN];exact hne⟩
   unfold SetTable.freeSlot SetTable.probe;rw[AG];generalize Ki t _ _ _ _=r at gm;cases gm with
   |emp j hj w' e' q=>exact⟨j,w',e',rfl⟩
   |cand j i hj w' e' hh q=>exact absurd hh (by omega)
  obtain⟨N,hNw,hNe,hfs⟩:=first
  obtain⟨p1,p2,p3,p4⟩:=T.put (h:=(Bg prog w).hash k) (x:=x) hNw hNe (F2 _ _ _);generalize hj:(it t.mask N (st t.mask ((Bg prog w).hash k))).j=j at *;have m1:(t.put j).1.mask=t.mask:=rfl;have m2:(t.put j).1.plain=true:=T.plain;have m3:(t.put j).1.led=led:=hl;generalize hp:t.put j=tp at *;obtain⟨t1,p⟩:=tp;dsimp only at p1 p2 p3 p4 m1 m2 m3 ⊢;have hsz:(Bw es p ((Bg prog w).hash k,x)).size=es.size+1:=jS _ _ _;have hfit:t1.fits (Bw es p ((Bg prog w).hash k,x)).size=true:=by
   have h3:t1.fill=es.size+1:=by unfold Ky;rw[p1.dm,p2,hsz];rfl
   have h2:=T.few;unfold Uv;rw[h3,p2,hsz,m1];rcases T.msk with h|h|h|h|h <;> rw[h] at h2 ⊢ <;> simp <;> omega
  have lay:layNew t es ((Bg prog w).hash k) x=(Bw es p ((Bg prog w).hash k,x),t1,false,false):=by
   unfold layNew;rw[hfs];dsimp only;rw[hp];dsimp only;unfold SetTable.orStandIn;rw[hfit];rfl
  rw[lay];dsimp only;refine Ad (Am (a:=()) ?_);have hbv:Po 8 x=pure true:=by
   rw[hashByValue_scannable 8 hsc];obtain⟨tk,q⟩:=yR hx;subst q;rfl
  rw[hbv,ite_self];refine Ad (Am ?_);simp only[Dq];have hline:es.size+1≤sizeLine:=by rw[Ev];omega
  refine Ad (Mk (s:={ s with toks:=s.toks+1 }) ho rfl ?_ (by rw[hsz];exact hline))
  have pm:(Bw es p ((Bg prog w).hash k,x)).toList.Perm (es.toList++[((Bg prog w).hash k,x)]):=by
   have:=Ia es p ((Bg prog w).hash k,x);rw[Eo] at this;exact this
  have Z1:Set0 (isI prog w) (Bg prog w).hash (Bw es p ((Bg prog w).hash k,x)) (k::seen):=Z.push (fun a b=>(Bg prog w).inj _ _ _ a b) hx hk pm;have hm1:∀ e∈(Bw es p ((Bg prog w).hash k,x)).toList,e.2∈V:=fun e he=>by
   rcases Cn.mp (pm.mem_iff.mp he) with h1|h1
   ·exact hm e h1
   ·simp at h1;subst h1;exact hV
  have ho1:=t7 (es':=Bw es p ((Bg prog w).hash k,x)) (t':=t1) ho;have sb1:=Hg s.heap S (Yz (Bw es p ((Bg prog w).hash k,x)) t1);refine XE (fun hf=>?_) fun hf=>?_
  ·have hM1:Msk t1.mask:=by rw[m1];exact T.msk
   have h3:((Bw es p ((Bg prog w).hash k,x)).size-1)*5<t1.mask*3:=by rw[hsz,m1];exact T.few
   obtain⟨q1,t2,qU,q2,q3,q4,q5,q6⟩:=tT hM1 m2 p2 (by rw[hsz];omega) (by simpa using hf) p1.dm h3 (by rw[hsz];omega)
   have hs2:(qU.filterMap fun x_1=>(Bw es p ((Bg prog w).hash k,x))[x_1]?).size=es.size+1:=by rw[← Bh,q4.length_eq,Bh,hsz]
   have rl:relayAll t1 (Bw es p ((Bg prog w).hash k,x)) (Hd (Bw es p ((Bg prog w).hash k,x)).size)=(qU.filterMap fun x_1=>(Bw es p ((Bg prog w).hash k,x))[x_1]?,t2,false):=by
    unfold relayAll;rw[q2];dsimp only;have c1:coversAll qU (Bw es p ((Bg prog w).hash k,x)).size=true:=by
     unfold coversAll;exact List.isPerm_iff.mpr q6
    rw[c1,q5.fits];rfl
   rw[rl];dsimp only;refine Ad (Am (a:=()) ?_);refine Ad (Mk (s:={ s with heap:=_,toks:=s.toks+1 }) ho1 rfl ?_ (by rw[hs2];exact hline))
   exact Am (Am (h _ _ _ (Ji _ _) (sb1.trans (Hg _ S _)) ⟨_,_,t2,t7 ho1,Z1.perm q4,q5,by rw[q3];exact m3,fun e he=>hm1 e (q4.mem_iff.mp he)⟩))
  ·refine Am (Am (h _ _ _ (Ji _ _) sb1 ⟨_,_,t1,ho1,Z1,⟨p1,by rw[m1];exact T.msk,p2,by rw[m1];exact p3,?_,by rw[m1];exact p4,m2⟩,m3,hm1⟩))
   have h3:t1.fill=es.size+1:=by unfold Ky;rw[p1.dm,p2,hsz];rfl
   unfold Rj at hf;rw[h3] at hf;rw[hsz];simpa using hf
end
end _S
namespace _S
open PySem
structure AddS (prog:Bm)(w:Cb){K:Type}(is:K→Ac→Prop)(hash:K→Aj)(h0:Bs):Prop where
 add:∀ {A:Bz} {E:Ac→Ag→Prop} {s:Ag} {S:Af} {led:Aq} {V:Ab Ac} {seen U:Ab K} {k:K} {x:Ac} {Q:Aq→Ag→Prop},A.units<Fg→Sup h0 s.heap→SetK is hash S led V seen s.heap→is k x→x∈V→U.length≤1000→(∀ k'∈seen,k'∈U)→k∈U →
  (∀ (b:Aq) (h':Bs) (tk:Ai),s.toks≤tk→Fa S s.heap h'→SetK is hash S led V (k::seen) h'→Q b { s with heap:=h',toks:=tk }) → Ao (Au prog w) A (Xv S x) Q E s
theorem LH {prog:Bm}{w:Cb}(h0:Bs):AddS prog w (isT prog w h0) (Br (Bg prog w)) h0:=⟨fun hu hS Z hx hV h1 h2 h3 h=>AX hu hS Z hx hV h1 h2 h3 h⟩
theorem LG {prog:Bm}{w:Cb}(h0:Bs):AddS prog w (isI prog w) (Bg prog w).hash h0:=⟨fun _ _ Z hx hV h1 h2 h3 h=>AW Z hx hV h1 h2 h3 h⟩
def vI {K:Type}(key:Ai→K):Ai→Ab K
 |0=>[]
 |i+1=>key i::vI key i
theorem pF {K:Type}{key:Ai→K}{k:K}:∀ {n:Ai},k∈vI key n↔∃ i,i<n∧key i=k
 |0=>by simp[vI]
 |n+1=>by
  rw[vI,Av,pF];constructor
  ·rintro (rfl|⟨i,h,e⟩)
   ·exact⟨n,by omega,rfl⟩
   ·exact⟨i,by omega,e⟩
  ·rintro⟨i,h,e⟩
   by_cases hi:i=n
   ·subst hi;exact .inl e.symm
   ·exact .inr ⟨i,by omega,e⟩
section
variable {prog:Bm}{w:Cb}{A:Bz}{R:Xj→Ag→Prop}{I:Af}{fp wr:Ab Af}{G:Aw Yd→Aw Yd→Prop}{n:Ai}{P:Ai→Ac→Prop}{St:Ai→Ag→Prop}
variable {K:Type}{is:K→Ac→Prop}{hash:K→Aj}{h0:Bs}{led:Aq}{V:Ab Ac}{U:Ab K}
theorem SetK.sup {S:Af}{seen:Ab K}{h h':Bs}(Z:SetK is hash S led V seen h)(e:∀ o,h.get? S=Aa o→h'.get? S=Aa o):SetK is hash S led V seen h':=by
 obtain⟨es,ep,t,ho,r⟩:=Z;exact⟨es,ep,t,e _ ho,r⟩
theorem ZD (a:AddS prog w is hash h0)(W:WalksS prog w A.in1 I fp wr G n P St)(S:Af)(hSf:S ∉ fp)(hu:A.in1.units<Fg)(key:Ai→K)(hkey:∀ i v,P i v→is (key i) v∧v∈V)(hU:U.length≤1000)(hUk:∀ i,i<n→key i∈U)
  (hS0:h0.get? S=none) (hw0:∀ b∈wr,h0.get? b=none):∀ (k i:Ai) (s:Ag),n-i=k→i≤n→St i s→Sup h0 s.heap→SetK is hash S led V (vI key i) s.heap →
   (∀ s',Moved (S::wr) G s s'→SetK is hash S led V (vI key n) s'.heap→R (.ok (.ret .none)) s')→Kx (Au prog w) A (.builtin "set.update.loop" ⟨[.ref S,.ref I],[]⟩) R s:=by
 have hSw:S ∉ wr:=fun h=>hSf (W.sub _ h);have hsub:∀ b∈wr,b∈S::wr:=fun b hb=>Bx _ hb;intro k
 induction k with
 |zero =>
  intro i s hk hi hst hS Z hR;have hin:i=n:=by omega
  subst hin;refine Hu Ld ?_;rw[Jd Ic _];show Ao _ A.in1 (Ly (.ref I) >>= _) _ _ s;refine Ad (W.done s _ _ hst fun s' hm=>?_);exact Am (hR s' (hm.mono hsub) (Z.sup fun o e=>hm.heap S _ hSw e))
 |succ k ih =>
  intro i s hk hi hst hS Z hR;have hlt:i<n:=by omega
  refine Hu Ld ?_;rw[Jd Ic _];show Ao _ A.in1 (Ly (.ref I) >>= _) _ _ s;refine Ad (W.item i s _ _ hlt hst fun v s' hP hst' hm=>?_);obtain⟨q1,q2⟩:=hkey i v hP;have hS':Sup h0 s'.heap:=fun b o e=>hm.heap b o (fun hb=>by rw[hw0 b hb] at e;cases e) (hS b o e)
  show Ao _ A.in1 (holding [v] (Xv S v) >>= _) _ _ s';refine Ad (Eg (a.add hu hS' (Z.sup fun o e=>hm.heap S _ hSw e) q1 q2 hU (fun k' hk'=>?_) (hUk i hlt) fun b h' tk htk hsb Z'=>?_))
  ·obtain⟨j,hj,e⟩:=pF.mp hk'
   exact e▸hUk j (by omega)
  ·refine Am ⟨Qn Ic _,ih (i+1) _ (by omega) hlt (W.frame _ s' _ _ hst' htk fun b hb o e=>?_) (fun b o e=>?_) Z' fun s'' hm'' Z''=>?_⟩
   ·rw[hsb.2 b (fun h:b=S=>hSf (by rw[← h];exact hb))];exact e
   ·rw[hsb.2 b (fun h:b=S=>by rw[h,hS0] at e;cases e)];exact hS' b o e
   ·refine hR s'' (Moved.trans W.gtrans ((hm.mono hsub).then_heap htk fun b o hb e=>?_) hm'') Z''
    rw[hsb.2 b (fun h:b=S=>hb (by rw[h];exact Dg))];exact e
end
section
variable {prog:Bm}{w:Cb}{A:Bz}{E:Ac→Ag→Prop}{s:Ag}
def yN (w:Cb):Aq:=!w.params.followText "set-order"
@[reducible] def v9 (w:Cb):Cq:=gV #[] 0 (.fresh 0 0 (yN w))
theorem tS (a:Ac){Q₁:Ac→Ag→Prop}(h:Q₁ (.ref s.heap.objs.size) { s with heap:=s.heap.push (v9 w) }) : Kx (Au prog w) A (.call (.builtin "set.__new__") ⟨[.type "set",a],[]⟩) (wants Q₁ E) s:=by
 refine Sh ?_;show Ao _ A.in1 (do Rg "set.__new__" ⟨[.type "set",a],[]⟩;again (.builtin "set.__new__" ⟨[.type "set",a],[]⟩)) _ _ s
 refine Ad (Pm (PySem.F.newCall_set_1 a) (Am ⟨Qn Td _,Hu PySem.F.entry_set_new ?_⟩));rw[Jd Td _];unfold Hs.«set.__new__» Zm;have hsub:=PySem.sub_set_self;obtain⟨hp,g,d,tk,os⟩:=s;dsimp only
 wp_walk
 refine Kq (Am ?_);dsimp only;simp only[newObj];exact Ad (wpAny_alloc (Am (Am h)))
theorem eC (w:Cb):TabT (.fresh 0 0 (yN w)) #[]:=⟨⟨by unfold Rs;exact Qe,rfl⟩,.inl rfl,rfl,fun x hx=>(by cases hx),(show 0*5<7*3 by decide),fun i e h=>(by simp at h),rfl⟩
variable {K:Type}{is:K→Ac→Prop}{hash:K→Aj}{U:Ab K}
theorem J8 (a:AddS prog w is hash s.heap){l:Af}{items:Aw Ac}{Q:Ac→Ag→Prop}(hh:A.handled=none)(hu:A.units+8<Fg)(hl:s.heap.IsList l items)(key:Ai→K)(hkey:∀ i v,items[i]? = Aa v→is (key i) v)(hU:U.length≤1000)(hUk:∀ i,i<items.size→key i∈U)
  (h:∀ (h':Bs) (tk:Ai),SetK is hash s.heap.objs.size (yN w) items.toList (vI key items.size) h'→(∀ b o,s.heap.get? b=Aa o→h'.get? b=Aa o)→Q (.ref s.heap.objs.size) { s with heap:=h',toks:=tk }) :
  Ao (Au prog w) A (call (.type "set") [.ref l]) Q E s:=by
 obtain⟨c,tl,hmro⟩:=Dn.mro;have hmade:=Dn.made;have hsub:=Dn.sub;refine Oo (Sh ?_);show Ao _ _ (callAny (.type "set") _) _ _ _;refine Am ⟨Pf _ (by decide +kernel),Hu Rp ?_⟩
 rw[Vr (Te "set" [.ref l] []) rfl];have h1:=Dn.notType;have h2:=Dn.canCreate;have hct:=Si (.ref l)
 repeat (any_goals (first|assumption|wp_step))
 refine Jm (tS (.ref l) (E:=E) (Q₁:=fun obj s₁=>obj=.ref s.heap.objs.size∧s₁={ s with heap:=s.heap.push (v9 w) }) ⟨rfl,rfl⟩) fun r s₁ hr=>?_
 cases r with
 |error e=>exact hr
 |ok fl =>
  cases fl with
  |ret obj =>
   obtain⟨rfl,rfl⟩:=hr;have hS:(s.heap.push (v9 w)).get? s.heap.objs.size=Aa (v9 w):=Be _ rfl;have hT:Qo { s with heap:=s.heap.push (v9 w) } (.ref s.heap.objs.size) "set":=⟨_,hS,rfl⟩
   have hli:=Dn.init.lookup;have hbi:=Dn.init.bind (.ref s.heap.objs.size)
   repeat (any_goals (first|assumption|wp_step))
   refine Jm (Kn (R:=wants (fun r s₂=>r=.none∧∃ h' tk,s₂={ s with heap:=h',toks:=tk } ∧ SetK is hash s.heap.objs.size (yN w) items.toList (vI key items.size) h'∧∀ b o,s.heap.get? b=Aa o→h'.get? b=Aa o) E) Dn.init.plain Sj (Xw hT ?_)) fun r₂ s₂ hr₂=>?_
   ·obtain⟨ol,hol,hcl,nl,hdl⟩:=hl
    obtain⟨ocls,odict,odata,oslots⟩:=ol;simp only at hcl hdl;subst hcl;subst hdl;have hol':(s.heap.push (v9 w)).get? l=Aa { cls:=.type "list",dict:=odict,data:=.seq items nl,slots:=oslots }:=Ah _ hol;have hsls:=PySem.F.sub_list_set;have hslf:=PySem.F.sub_list_frozenset;have hne:(Hr "list" == Hr "dict")=false:=by decide
    have hl1:(s.heap.push (v9 w)).IsList l items:=⟨_,hol',rfl,nl,rfl⟩;unfold Hs.«set.__init__» noKeywords Ou;generalize hPI:Of=PI
    wp_walk
    subst hPI;refine Gk hl1 ?_;refine Ad (Tt ?_);have hlS:l<s.heap.objs.size:=Ba hol;have hneI:l≠(s.heap.push (v9 w)).objs.size:=by
     rw[En];exact Cy (Mf hlS)
    have nS:s.heap.get? s.heap.objs.size=none:=Jc (As _);have nI:s.heap.get? (s.heap.push (v9 w)).objs.size=none:=Jc (by rw[En];exact Ta _)
    refine ZD (led:=yN w) (V:=items.toList) a ((Walks.list (A:=A.in1.in1.in1) (by simp[hh]) _ l hneI items).toS) s.heap.objs.size ?_ (by show A.units+3<Fg;omega) key (fun i v hv=>⟨hkey i v hv,?_⟩) hU hUk nS (fun b hb=>?_) (items.size-0) 0 _ (by omega) (Ha _)
     ⟨⟨_,Be _ rfl,rfl,rfl⟩,hl1.push _⟩ (fun b o e=>Ah _ (Ah _ e)) ?_ fun s' hm hS'=>?_
    ·rw[En];simp only[Av,De,Ce,Ez,Sz]
     exact⟨Cy (Jj _),Gz hlS⟩
    ·exact Ch (by rw[Bi];exact hv)
    ·rw[De.mp hb];exact nI
    ·exact⟨#[],0,_,Ah _ hS,Set0.nil,eC w,rfl,fun e he=>by simp at he⟩
    ·obtain⟨h',g',d',tk',os'⟩:=s'
     have eg:g'=s.gens:=hm.gens;have ed:d'=s.drawn:=hm.drawn;have eo:os'=s.os:=hm.os;subst eg;subst ed;subst eo;refine Am (Am ⟨rfl,h',tk',rfl,hS',fun b o e=>?_⟩);refine hm.heap b o (fun hb=>?_) (Ah _ (Ah _ e));rcases Av.mp hb with rfl|hb
     ·rw[nS] at e;cases e
     ·rw[De.mp hb,nI] at e;cases e
   ·cases r₂ with
    |error e=>exact hr₂
    |ok fl₂ =>
     cases fl₂ with
     |ret r =>
      obtain⟨rfl,h',tk,rfl,hS',hk'⟩:=hr₂
      repeat (any_goals (first|assumption|wp_step))
      exact h _ _ hS' hk'
     |_=>exact hr₂.elim
  |_=>exact hr.elim
theorem WI (a:AddS prog w is hash s.heap){l:Af}{items:Aw Ac}{Q:Ac→Ag→Prop}(hh:A.handled=none)(hu:A.units+8<Fg)(hl:s.heap.IsTuple l items)(key:Ai→K)(hkey:∀ i v,items[i]? = Aa v→is (key i) v)(hU:U.length≤1000)(hUk:∀ i,i<items.size→key i∈U)
  (h:∀ (h':Bs) (tk:Ai),SetK is hash s.heap.objs.size (yN w) items.toList (vI key items.size) h'→(∀ b o,s.heap.get? b=Aa o→h'.get? b=Aa o)→Q (.ref s.heap.objs.size) { s with heap:=h',toks:=tk }) :
  Ao (Au prog w) A (call (.type "set") [.ref l]) Q E s:=by
 obtain⟨c,tl,hmro⟩:=Dn.mro;have hmade:=Dn.made;have hsub:=Dn.sub;refine Oo (Sh ?_);show Ao _ _ (callAny (.type "set") _) _ _ _;refine Am ⟨Pf _ (by decide +kernel),Hu Rp ?_⟩
 rw[Vr (Te "set" [.ref l] []) rfl];have h1:=Dn.notType;have h2:=Dn.canCreate;have hct:=Si (.ref l)
 repeat (any_goals (first|assumption|wp_step))
 refine Jm (tS (.ref l) (E:=E) (Q₁:=fun obj s₁=>obj=.ref s.heap.objs.size∧s₁={ s with heap:=s.heap.push (v9 w) }) ⟨rfl,rfl⟩) fun r s₁ hr=>?_
 cases r with
 |error e=>exact hr
 |ok fl =>
  cases fl with
  |ret obj =>
   obtain⟨rfl,rfl⟩:=hr;have hS:(s.heap.push (v9 w)).get? s.heap.objs.size=Aa (v9 w):=Be _ rfl;have hT:Qo { s with heap:=s.heap.push (v9 w) } (.ref s.heap.objs.size) "set":=⟨_,hS,rfl⟩
   have hli:=Dn.init.lookup;have hbi:=Dn.init.bind (.ref s.heap.objs.size)
   repeat (any_goals (first|assumption|wp_step))
   refine Jm (Kn (R:=wants (fun r s₂=>r=.none∧∃ h' tk,s₂={ s with heap:=h',toks:=tk } ∧ SetK is hash s.heap.objs.size (yN w) items.toList (vI key items.size) h'∧∀ b o,s.heap.get? b=Aa o→h'.get? b=Aa o) E) Dn.init.plain Sj (Xw hT ?_)) fun r₂ s₂ hr₂=>?_
   ·obtain⟨ol,hol,hcl,nl,hdl⟩:=hl
    obtain⟨ocls,odict,odata,oslots⟩:=ol;simp only at hcl hdl;subst hcl;subst hdl;have hol':(s.heap.push (v9 w)).get? l=Aa { cls:=.type "tuple",dict:=odict,data:=.seq items nl,slots:=oslots }:=Ah _ hol;have hsls:=PySem.F.sub_tuple_set;have hslf:=PySem.F.sub_tuple_frozenset;have hne:(Hr "tuple" == Hr "dict")=false:=by decide
    have hl1:(s.heap.push (v9 w)).IsTuple l items:=⟨_,hol',rfl,nl,rfl⟩;unfold Hs.«set.__init__» noKeywords Ou;generalize hPI:Of=PI
    wp_walk
    subst hPI;refine Gu hl1 ?_;refine Ad (Tt ?_);have hlS:l<s.heap.objs.size:=Ba hol;have hneI:l≠(s.heap.push (v9 w)).objs.size:=by
     rw[En];exact Cy (Mf hlS)
    have nS:s.heap.get? s.heap.objs.size=none:=Jc (As _);have nI:s.heap.get? (s.heap.push (v9 w)).objs.size=none:=Jc (by rw[En];exact Ta _)
    refine ZD (led:=yN w) (V:=items.toList) a ((Walks.tuple (A:=A.in1.in1.in1) (by simp[hh]) _ l hneI items).toS) s.heap.objs.size ?_ (by show A.units+3<Fg;omega) key (fun i v hv=>⟨hkey i v hv,?_⟩) hU hUk nS (fun b hb=>?_) (items.size-0) 0 _ (by omega) (Ha _)
     ⟨⟨_,Be _ rfl,rfl,rfl⟩,hl1.push _⟩ (fun b o e=>Ah _ (Ah _ e)) ?_ fun s' hm hS'=>?_
    ·rw[En];simp only[Av,De,Ce,Ez,Sz]
     exact⟨Cy (Jj _),Gz hlS⟩
    ·exact Ch (by rw[Bi];exact hv)
    ·rw[De.mp hb];exact nI
    ·exact⟨#[],0,_,Ah _ hS,Set0.nil,eC w,rfl,fun e he=>by simp at he⟩
    ·obtain⟨h',g',d',tk',os'⟩:=s'
     have eg:g'=s.gens:=hm.gens;have ed:d'=s.drawn:=hm.drawn;have eo:os'=s.os:=hm.os;subst eg;subst ed;subst eo;refine Am (Am ⟨rfl,h',tk',rfl,hS',fun b o e=>?_⟩);refine hm.heap b o (fun hb=>?_) (Ah _ (Ah _ e));rcases Av.mp hb with rfl|hb
     ·rw[nS] at e;cases e
     ·rw[De.mp hb,nI] at e;cases e
   ·cases r₂ with
    |error e=>exact hr₂
    |ok fl₂ =>
     cases fl₂ with
     |ret r =>
      obtain⟨rfl,h',tk,rfl,hS',hk'⟩:=hr₂
      repeat (any_goals (first|assumption|wp_step))
      exact h _ _ hS' hk'
     |_=>exact hr₂.elim
  |_=>exact hr.elim
theorem ZY (a:AddS prog w is hash s.heap){l:Af}{items:Aw Ac}{Q:Ac→Ag→Prop}(hh:A.handled=none)(hu:A.units+8<Fg)(hl:s.heap.IsList l items∨s.heap.IsTuple l items)(key:Ai→K)(hkey:∀ i v,items[i]? = Aa v→is (key i) v)(hU:U.length≤1000)(hUk:∀ i,i<items.size→key i∈U)
  (h:∀ (h':Bs) (tk:Ai),SetK is hash s.heap.objs.size (yN w) items.toList (vI key items.size) h'→(∀ b o,s.heap.get? b=Aa o→h'.get? b=Aa o)→Q (.ref s.heap.objs.size) { s with heap:=h',toks:=tk }) :
  Ao (Au prog w) A (call (.type "set") [.ref l]) Q E s:=by
 rcases hl with hl|hl
 ·exact J8 a hh hu hl key hkey hU hUk h
 ·exact WI a hh hu hl key hkey hU hUk h
end
theorem nW {α : Type}:∀ {l:Ab α} {i:Ai} (h:i<l.length),(l[i]::l.eraseIdx i).Perm l
 |a::l,0,h=>by simp
 |a::l,i+1,h=>by
  rw[List.eraseIdx_cons_succ,List.getElem_cons_succ];exact(List.Perm.swap _ _ _).trans ((nW (l:=l) (i:=i) (by simpa using h)).cons a)
theorem rQ {α : Type}(next:Ai→Ai):∀ (fuel k:Ai) (left:Ab α) (out:Aw α),left.length=fuel→(Wc next fuel k left out).toList.Perm (out.toList++left)
 |0,k,left,out,h=>by
  have:left=[]:=Oc h;subst this;unfold Wc;simp
 |fuel+1,k,left,out,h=>by
  unfold Wc;have hlt:next k % left.length<left.length:=Os _ (by omega)
  rw[Ap hlt];dsimp only;refine(rQ next fuel (k+1) _ _ (by rw[List.length_eraseIdx,Bl hlt];omega)).trans ?_
  rw[Eo,Cj];refine Io _ ?_;exact nW hlt
theorem sL {α : Type}(next:Ai→Ai)(xs:Aw α) : (Od next xs).toList.Perm xs.toList:=by
 have:=rQ next xs.size 0 xs.toList #[] (by simp)
 simpa [Od] using this
theorem uH:Slot "set_iterator" "__next__" "set_iterator.__next__":=
 .of (owner:="set_iterator") (n:="__next__") (by rw[Yl,Tf];kernel_rfl) (by decide +kernel) (by decide +kernel) (by decide +kernel) (.inl (by decide +kernel)) (by rw[Tu];kernel_rfl)
theorem nV:entryFor table "set_iterator.__next__" = Aa Hs.«set_iterator.__next__»:=entryFor_of_fast (by kernel_rfl)
theorem sZ (a:Ac):Xs "set_iterator.__next__" ⟨[a],[]⟩:=by unfold Xs;kernel_rfl
theorem rZ:Slot "set_iterator" "__iter__" "set_iterator.__iter__":=
 .of (owner:="set_iterator") (n:="__iter__") (by rw[Yl,Tf];kernel_rfl) (by decide +kernel) (by decide +kernel) (by decide +kernel) (.inl (by decide +kernel)) (by rw[Tu];kernel_rfl)
theorem X7:entryFor table "set_iterator.__iter__" = Aa Hs.«dict_keyiterator.__iter__»:=entryFor_alias (id':="dict_keyiterator.__iter__") (by kernel_rfl) rfl (by decide +kernel) (by kernel_rfl)
theorem W9 (a:Ac):Xs "set_iterator.__iter__" ⟨[a],[]⟩:=by unfold Xs;kernel_rfl
theorem X6:entryFor table "set.__iter__" = Aa Hs.«frozenset.__iter__»:=entryFor_alias (id':="frozenset.__iter__") (by kernel_rfl) rfl (by decide +kernel) (by kernel_rfl)
theorem TM (a:Af)(slot given epochThen:Ai):setNext a slot given epochThen=(do
  let (es,epoch,t) ← Ve a
  if ← Za then
   if epoch != epochThen then unsupported "set_iterator.__next__:elements-changed"
   return ((← setWalk a)[given]?).map fun e=>(e.2,slot)
  if !t.plain&&es.size>1 then unsupported "set_iterator.__next__:the-table-is-plain-no-more"
  (do if !t.led&&!es.isEmpty then unsupported "set:maker-not-led")
  return match es[Cc t.place slot]?,t.place[Cc t.place slot]? with
   |some (_,x),Aa j=>Aa (x,j+1)
   |_,_=>none):=rfl
theorem L0 (a:Af):setWalk a=(do
  let (es,epoch,t) ← Ve a
  if ← Za then return Od ((← ask).params.setOrder a epoch) es
  if !t.plain&&es.size>1 then return (← drawOrder es.size es.toList).toArray
  (do if !t.led&&es.size>1 then unsupported "set:maker-not-led")
  return es):=rfl
theorem JV (a:Af):setDrawn a=(do
  let (es,_,t) ← Ve a
  let byText ← Za
  return !byText&&(!t.plain&&es.size>1)):=rfl
structure Still (w:Cb)(S:Af)(es:Aw (Aj × Ac))(ep:Ai)(t:Fp):Prop where
 tab:TabT t es
 led:t.led=yN w
def qU (w:Cb)(S:Af)(ep:Ai)(es:Aw (Aj × Ac)):Aw (Aj × Ac):=if w.params.followText "set-order" = true then Od (w.params.setOrder S ep) es else es
theorem lK (w:Cb)(S:Af)(ep:Ai)(es:Aw (Aj × Ac)):(qU w S ep es).toList.Perm es.toList:=by
 unfold qU
 split
 ·exact sL _ _
 ·exact Mc _
theorem kS (w:Cb)(S:Af)(ep:Ai)(es:Aw (Aj × Ac)):(qU w S ep es).size=es.size:=by
 rw[← Bh,(lK w S ep es).length_eq,Bh]
def itO (slot i:Ai)(S:Af)(n ep:Ai):Cq:={ cls:=.type "set_iterator",data:=.fields #[.int slot 0,.int i 0,.ref S,.int n 0,.int ep 0] }
def At (w:Cb)(I S:Af)(es:Aw (Aj × Ac))(ep:Ai)(t:Fp)(i:Ai)(h:Bs):Prop:=
 ∃ slot,h.get? I=Aa (itO slot i S es.size ep)∧h.get? S=Aa (gV es ep t)∧(w.params.followText "set-order" = true∨Cc t.place slot=i)
section
variable {prog:Bm}{w:Cb}{A:Bz}{E:Ac→Ag→Prop}{s:Ag}{S I:Af}{es:Aw (Aj × Ac)}{ep:Ai}{t:Fp}
theorem XS {slot i:Ai}{Q:Al (Ac × Ai)→Ag→Prop}(Z:Still w S es ep t)(ho:s.heap.get? S=Aa (gV es ep t))(hs:w.params.followText "set-order" = true∨Cc t.place slot=i)
  (h1:∀ e slot',(qU w S ep es)[i]? = Aa e→(w.params.followText "set-order" = true∨Cc t.place slot'=i+1)→Q (Aa (e.2,slot')) s) (h2:(qU w S ep es)[i]? = none→Q none s):Ao (Au prog w) A (setNext S slot i ep) Q E s:=by
 rw[TM];refine Ad (Ga ho rfl Z.tab.fits ?_);dsimp only;refine Ad (Ad (Kq (Am ?_)));cases hf:w.params.followText "set-order" with
 |true =>
  show Ao _ _ (if (w.params.followText "set-order")=true then _ else _) _ _ _
  rw[Bl hf];have hb:(ep != ep)=false:=by simp
  rw[hb];simp only[Bu,Ej];refine Ad ?_;rw[L0];refine Ad (Ga ho rfl Z.tab.fits ?_);dsimp only;refine Ad (Ad (Kq (Am ?_)));show Ao _ _ (if (w.params.followText "set-order")=true then _ else _) _ _ _
  rw[Bl hf];refine Ad (Kq (Am (Am ?_)));show Q (((Od (w.params.setOrder S ep) es)[i]?).map fun e=>(e.2,slot)) s;have ho':qU w S ep es=Od (w.params.setOrder S ep) es:=by unfold qU;rw[Bl hf]
  rw[ho'] at h1 h2;cases hx:(Od (w.params.setOrder S ep) es)[i]? with
  |none=>exact h2 hx
  |some e=>exact h1 e slot hx (.inl hf)
 |false =>
  show Ao _ _ (if (w.params.followText "set-order")=true then _ else _) _ _ _
  rw[Bk (by rw[hf];decide),Z.tab.plain,Z.led]
  unfold yN;rw[hf];simp only[Jb,Ox,Bu,Ej,Ts];have hb:Cc t.place slot=i:=by
   rcases hs with h|h
   ·rw[hf] at h;cases h
   ·exact h
  rw[hb];have ho':qU w S ep es=es:=by unfold qU;rw[Bk (by rw[hf];decide)]
  rw[ho'] at h1 h2;refine Am ?_;cases hx:es[i]? with
  |none=>exact h2 hx
  |some e =>
   have hi:i<t.place.size:=by rw[Z.tab.size];exact(Dy.mp hx).1
   have hp:t.place[i]? = Aa t.place[i]:=Ec hi;rw[hp];exact h1 e _ hx (.inr (ZW Z.tab.tb.rs hp))
theorem At.type {i:Ai}(h:At w I S es ep t i s.heap):s.TypeIs (.ref I) "set_iterator":=by
 obtain⟨slot,h,_⟩:=h;exact⟨_,h,rfl⟩
theorem rN {i:Ai}{Q:Ac→Ag→Prop}(Z:Still w S es ep t)(hI:At w I S es ep t i s.heap)
  (h1:∀ e slot' slot,(qU w S ep es)[i]? = Aa e→s.heap.get? I=Aa (itO slot i S es.size ep)→s.heap.get? S=Aa (gV es ep t)→(w.params.followText "set-order" = true∨Cc t.place slot'=i+1) →
   Q e.2 { s with heap:=(s.heap.update I (Uz (·.setIfInBounds 0 (Mu slot')))).update I (Uz (·.setIfInBounds 1 (Mu ((i:Aj)+1)))) })
  (h2:(qU w S ep es)[i]? = none→Ao (Au prog w) A (do setField (.ref I) 2 .none;raiseNew (← newExc (.type "StopIteration") [])) (fun (fin:PySem.Fin) s'=>∃ r,fin=.done (.ret r)∧Q r s') E s) :
  Ao (Au prog w) A (Hs.«set_iterator.__next__» ⟨[.ref I],[]⟩) (fun fin s'=>∃ r,fin=.done (.ret r)∧Q r s') E s:=by
 obtain⟨slot,hg,hS,hb⟩:=hI;show Ao _ _ (fieldsOf (.ref I) >>= _) _ _ s;refine Ad (wpAny_fieldsOf hg rfl ?_);show Ao _ _ (setEntries S >>= _) _ _ s;refine Ad (Va hS rfl Z.tab.fits ?_);have hne:(((es.size:Ai):Aj) != ((es.size:Ai):Aj))=false:=by simp
 rw[hne];simp only[Bu,Ej];show Ao _ _ (setNext S (slot:Aj).toNat (i:Aj).toNat (ep:Aj).toNat >>= _) _ _ s;rw[Gh,Gh,Gh];refine Ad (XS Z hS hb (fun e slot' he hb'=>?_) fun he=>?_)
 ·dsimp only
  refine Ad (Mb hg rfl (by show 0<5;decide) ?_)
  have hg2:=Fz (Uz (·.setIfInBounds 0 (Mu slot'))) hg rfl
  refine Ad (Mb hg2 rfl (by show 1<5;decide) ?_)
  exact Am ⟨_,rfl,h1 e slot' slot he hg hS hb'⟩
 ·exact h2 he
theorem NZ (hh:A.handled=none)(hne:S≠I)(Z:Still w S es ep t):Walks prog w A I [I,S] [I] es.size (fun i v=>∃ e,(qU w S ep es)[i]? = Aa e∧e.2=v) (fun i h=>At w I S es ep t i h) where
 sub:=fun b hb=>by simp at hb;simp[hb]
 frame:=fun i h h' ⟨slot,h1,h2,h3⟩ hk=>⟨slot,hk I (by simp) _ h1,hk S (by simp) _ h2,h3⟩
 item:=fun i s Q E hi st hQ=>by
  unfold Ly;refine Ad (HT (Dz (name:=Hl "__next__") st.type uH (Ei uH st.type nV (rN Z st (fun e slot' slot he hg hS hb=>?_) fun he=>?_) (sZ _))))
  ·refine Am (hQ e.2 _ s.toks ⟨e,he,rfl⟩ ⟨slot',?_,?_,hb⟩ fun b o hb e=>?_)
   ·exact Fz _ (Fz _ hg rfl) rfl
   ·rw[Di _ _ hne.symm,Di _ _ hne.symm];exact hS
   ·have hb:I≠b:=fun z=>hb (by simp[z])
    rw[Di _ _ hb,Di _ _ hb];exact e
  ·have:=Array.getElem?_eq_none_iff.mp he
   rw[kS] at this;omega
 done:=fun s Q E st hQ=>by
  unfold Ly;refine Ad (HT (Dz (name:=Hl "__next__") st.type uH (Ei uH st.type nV (rN Z st (fun e slot' slot he hg hS hb=>?_) fun he=>?_) (sZ _))))
  ·have:=(Dy.mp he).1
   rw[kS] at this;omega
  ·obtain⟨slot,hg,hS,hb⟩:=st
   refine Ad (Mb hg rfl (by show 2<5;decide) ?_)
   refine Ad ?_;simp only[newExc,newTuple];refine Ad (Du ?_ (by size_fits))
   refine Ad (m:=OV _ _) (Pm (a:=Dj) (by first|rfl|(simp only[OV];rfl)) ?_)
   refine Du ?_ (by size_fits)
   simp only[raiseNew];refine Ad (wpAny_handled ?_);rw[show A.in1.handled=none from hh]
   refine Ad (Am (wpAny_throw ?_));refine Ad (Ni (T:="StopIteration") (b:=true) ⟨_,Be _ rfl,rfl⟩ Tq ?_);refine Am (hQ _ s.toks fun b o hb e=>?_);exact(((Hg ..).extBut.push _).push _) b o (fun z=>hb (by simp[z])) e
 self:=fun i s Q E st hQ=>by
  refine Wz st.type rZ (Ei rZ st.type X7 ?_ (W9 _));show Ao _ _ (ret (.ref I)) _ _ s;exact Am ⟨_,rfl,"set_iterator",_,st.type,uH.lookup,hQ⟩
theorem KL {Q:Ac→Ag→Prop}(Z:Still w S es ep t)(ho:s.heap.get? S=Aa (gV es ep t))(h:Q (.ref s.heap.objs.size) { s with heap:=s.heap.push (itO 0 0 S es.size ep) }) : Ao (Au prog w) A (Of (.ref S)) Q E s:=by
 have hT:s.TypeIs (.ref S) "set":=⟨_,ho,rfl⟩;refine Wz hT Tg (Ei Tg hT X6 ?_ (PySem.F.args_set_iter_1 _));show Ao _ _ (Qy S >>= _) _ _ s;unfold Qy;refine Ad (Ad (Va ho rfl Z.tab.fits (Am ?_)));refine Ad ?_;rw[JV];refine Ad (Ga ho rfl Z.tab.fits ?_);dsimp only;refine Ad (Ad (Kq (Am (Am ?_))));rw[Z.tab.plain];simp only[Jb,Ox,OT,Bu,Ej];refine Ad (Am ?_);unfold setEpoch;refine Ad (Ad (Ga ho rfl Z.tab.fits (Am ?_)));refine Ad (Du (Am ⟨_,rfl,"set_iterator",_,⟨_,Be _ rfl,rfl⟩,uH.lookup,h⟩))
theorem FI (Z:Still w S es ep t)(ho:s.heap.get? S=Aa (gV es ep t)):At w s.heap.objs.size S es ep t 0 (s.heap.push (itO 0 0 S es.size ep)):=
 ⟨0,Be _ rfl,Ah _ ho,.inr (ZX Z.tab.tb.rs)⟩
end
end _S
namespace _S
open PySem PySem.W PyProof.Rows
structure Ord {K:Type}(lt:K→K→Aq):Prop where
 irr:∀ a,lt a a=false
 tr:∀ {a b c},lt a b=true→lt b c=true→lt a c=true
 tri:∀ {a b},lt a b=false→a=b∨lt b a=true
def ltI (a b:Aj):Aq:=decide (a<b)
theorem aY:Ord ltI:=⟨fun a=>by simp[ltI],fun {a b c} h1 h2=>by simp only[ltI,Cs] at *;omega,fun {a b} h=>by simp only[ltI,Cs,Fi] at *;omega⟩
theorem Q8:∀ a:Ab Aj,_H.lexLt a a=false
 |[]=>rfl
 |x::xs=>by rw[_H.lexLt_cons,Bl rfl];exact Q8 xs
theorem YN:∀ {a b c:Ab Aj},_H.lexLt a b=true→_H.lexLt b c=true→_H.lexLt a c=true
 |_,[],[],_,h=>by cases h
 |_,_::_,[],_,h=>by cases h
 |[],_,_::_,_,_=>rfl
 |_::_,[],_::_,h,_=>by cases h
 |x::xs,y::ys,z::zs,h1,h2=>by
  rw[_H.lexLt_cons] at h1 h2 ⊢;by_cases e1:x=y
  ·subst e1
   rw[Bl rfl] at h1;by_cases e2:x=z
   ·rw[Bl e2] at h2 ⊢;exact YN h1 h2
   ·rw[Bk e2] at h2 ⊢;exact h2
  ·rw[Bk e1] at h1
   have h1:=Ct h1;by_cases e2:y=z
   ·subst e2;rw[Bk e1];exact Cu h1
   ·rw[Bk e2] at h2
    have h2:=Ct h2;rw[Bk (by omega)]
    exact Cu (by omega)
theorem Q9:∀ {a b:Ab Aj},_H.lexLt a b=false→a=b∨_H.lexLt b a=true
 |[],[],_=>.inl rfl
 |[],_::_,h=>by cases h
 |_::_,[],_=>.inr rfl
 |x::xs,y::ys,h=>by
  rw[_H.lexLt_cons] at h ⊢;by_cases e:x=y
  ·subst e
   rw[Bl rfl] at h ⊢;rcases Q9 h with h|h
   ·exact .inl (by rw[h])
   ·exact .inr h
  ·rw[Bk e] at h
   have h:=of_decide_eq_false h;rw[Bk (Ho e)];exact .inr (Cu (by omega))
theorem gP:Ord _H.lexLt:=⟨Q8,YN,Q9⟩
theorem rD {α : Type}{p q:α→Aq}:∀ {l:Ab α},(∀ x∈l,p x=true→q x=true)→(∃ x∈l,q x=true∧p x=false)→l.countP p<l.countP q
 |[],_,⟨x,h,_⟩=>by simp at h
 |a::l,h,⟨x,hx,h1,h2⟩=>by
  have le:l.countP p≤l.countP q:=Ti fun y hy=>h y (by simp[hy])
  rw[Xx,Xx];rcases Av.mp hx with rfl|hx
  ·rw[Bk (by rw[h2];decide),Bl h1];omega
  ·have ih:=rD (l:=l) (fun y hy=>h y (by simp[hy])) ⟨x,hx,h1,h2⟩
   have:=h a (by simp)
   cases hp:p a with
   |false=>rw[Bk (by decide)];split <;> omega
   |true=>rw[Bl rfl,Bl (this hp)];omega
section
variable {K:Type}{lt':K→K→Aq}
def f7 (lt':K→K→Aq)(ks:Ab K)(x:K):Aj:=(ks.countP (fun k=>lt' k x):Ai)
theorem iH (O:Ord lt'){ks:Ab K}{x y:K}(hx:x∈ks):lt' x y=decide (f7 lt' ks x<f7 lt' ks y):=by
 unfold f7;cases h:lt' x y with
 |true =>
  refine(Cu ?_).symm;have:=rD (l:=ks) (p:=fun k=>lt' k x) (q:=fun k=>lt' k y) (fun z _ hz=>O.tr hz h) ⟨x,hx,h,O.irr x⟩;omega
 |false =>
  refine(Df ?_).symm;have:ks.countP (fun k=>lt' k y)≤ks.countP (fun k=>lt' k x):=by
   rcases O.tri h with e|h'
   ·rw[e];exact As _
   ·exact Ti fun z _ hz=>O.tr hz h'
  omega
def c7 (lt':K→K→Aq)(ks:Ab K)(d:K)(i j:Ai):Aq:=lt' (ks.getD i d) (ks.getD j d)
def Nf (lt':K→K→Aq)(l:Ab K):Prop:=l.Pairwise fun a b=>lt' b a=false
theorem sF (O:Ord lt'):∀ {a b:Ab K},Nf lt' a→Nf lt' b→a.Perm b→a=b
 |[],b,_,_,p=>(List.nil_perm.mp p).symm
 |x::a,b,ha,hb,p=>by
  cases b with
  |nil=>exact absurd p.symm (by simp)
  |cons y b =>
   unfold Nf at ha hb;rw[Fc] at ha hb;have e:x=y:=by
    rcases Av.mp (p.mem_iff.mp (.head _)) with e|e
    ·exact e
    ·rcases Av.mp (p.mem_iff.mpr (.head _)) with e'|e'
     ·exact e'.symm
     ·have h1:=ha.1 y e'
      have h2:=hb.1 x e;rcases O.tri h1 with e|h
      ·exact e.symm
      ·rw[h2] at h;cases h
   subst e;rw[sF O ha.2 hb.2 (List.Perm.cons_inv p)]
theorem V3 (O:Ord lt'){l:Ab K}(h:Nf lt' l)(nd:l.Nodup):l.Pairwise fun a b=>lt' a b=true:=by
 refine List.Pairwise.imp₂ (fun {a b} h1 h2=>?_) h nd;exact(O.tri h1).elim (fun e=>absurd e.symm h2) id
def gX (lt':K→K→Aq)(l:Ab K):Ab K:=l.mergeSort fun a b=>!lt' b a
theorem pH (l:Ab K):(gX lt' l).Perm l:=List.mergeSort_perm _ _
theorem ZH (O:Ord lt')(l:Ab K):Nf lt' (gX lt' l):=by
 have:=List.pairwise_mergeSort (le:=fun a b=>!lt' b a) (fun a b c h1 h2=>?_) (fun a b=>?_) l
 ·exact this.imp fun h=>by simpa using h
 ·have h1:lt' b a=false:=by simpa using h1
  have h2:lt' c b=false:=by simpa using h2
  cases h3:lt' c a with
  |false=>rfl
  |true =>
   rcases O.tri h1 with e|h
   ·rw[← e] at h3;rw[h3] at h2;cases h2
   ·have:=O.tr h3 h;rw[h2] at this;cases this
 ·cases h:lt' b a with
  |false=>rfl
  |true =>
   cases h':lt' a b with
   |false=>rfl
   |true=>have:=O.tr h h';rw[O.irr] at this;cases this
def gI (lt':K→K→Aq)(x:K):Ab K→Ab K
 |[]=>[x]
 |y::l=>if lt' x y then x::y::l else if lt' y x then y::gI lt' x l else y::l
def srt (lt':K→K→Aq):Ab K→Ab K
 |[]=>[]
 |x::xs=>gI lt' x (srt lt' xs)
set_option tactic.hygienic true in
theorem n9 (O:Ord lt')(x y:K):∀ l:Ab K,y∈gI lt' x l↔y=x∨y∈l
 |[]=>by simp[gI]
 |z::l=>by
  unfold gI
  split
  ·simp
  ·rename_i h1
   split
   ·rw[Av,n9 O x y l,Av]
    exact⟨fun h=>by rcases h with h|h|h <;> simp[h],fun h=>by rcases h with h|h|h <;> simp[h]⟩
   ·rename_i h2
    have:x=z:=(O.tri (by simpa using h1)).elim id fun h=>absurd h h2
    subst this;simp
set_option tactic.hygienic true in
theorem oX (O:Ord lt')(x:K):∀ l:Ab K,l.Pairwise (fun a b=>lt' a b=true)→(gI lt' x l).Pairwise (fun a b=>lt' a b=true)
 |[],_=>by simp[gI]
 |z::l,h=>by
  rw[Fc] at h;unfold gI
  split
  ·rename_i h1
   refine Fc.mpr ⟨fun y hy=>?_,Fc.mpr h⟩;rcases Av.mp hy with rfl|hy
   ·exact h1
   ·exact O.tr h1 (h.1 y hy)
  ·split
   ·rename_i h2
    refine Fc.mpr ⟨fun y hy=>?_,oX O x l h.2⟩;rcases (n9 O x y l).mp hy with rfl|hy
    ·exact h2
    ·exact h.1 y hy
   ·exact Fc.mpr h
theorem vM (O:Ord lt')(y:K):∀ l:Ab K,y∈srt lt' l↔y∈l
 |[]=>by simp[srt]
 |x::l=>by rw[srt,n9 O,vM O y l,Av]
theorem uZ (O:Ord lt'):∀ l:Ab K,(srt lt' l).Pairwise (fun a b=>lt' a b=true)
 |[]=>by simp[srt]
 |x::l=>oX O x _ (uZ O l)
theorem tH (O:Ord lt'):∀ {a b:Ab K},a.Pairwise (fun a b=>lt' a b=true)→b.Pairwise (fun a b=>lt' a b=true)→(∀ x,x∈a↔x∈b)→a=b
 |[],[],_,_,_=>rfl
 |[],y::b,_,_,h=>by have:=(h y).mpr (by simp);simp at this
 |x::a,[],_,_,h=>by have:=(h x).mp (by simp);simp at this
 |x::a,y::b,ha,hb,h=>by
  rw[Fc] at ha hb;have asym:∀ {u v},lt' u v=true→lt' v u=true→Fm:=fun p q=>by have:=O.tr p q;rw[O.irr] at this;cases this
  have e:x=y:=by
   rcases Av.mp ((h x).mp (by simp)) with e|e
   ·exact e
   ·rcases Av.mp ((h y).mpr (by simp)) with e'|e'
    ·exact e'.symm
    ·exact(asym (hb.1 x e) (ha.1 y e')).elim
  subst e;have ne:∀ {z:K} {l:Ab K},(∀ y∈l,lt' x y=true)→z∈l→z≠x:=fun h hz e=>by subst e;have:=h _ hz;rw[O.irr] at this;cases this
  rw[tH O ha.2 hb.2 fun z=>⟨fun hz=>?_,fun hz=>?_⟩]
  ·exact(Av.mp ((h z).mp (by simp[hz]))).elim (fun e=>absurd e (ne ha.1 hz)) id
  ·exact(Av.mp ((h z).mpr (by simp[hz]))).elim (fun e=>absurd e (ne hb.1 hz)) id
theorem R4 (O:Ord lt'){l xs:Ab K}(h:Nf lt' l)(nd:l.Nodup)(m:∀ x,x∈l↔x∈xs):l=srt lt' xs:=
 tH O (V3 O h nd) (uZ O xs) fun x=>by rw[m,vM O]
end
theorem TJ:typeLookup (.type "set") "__len__" = pure (Aa (.builtin "set.__len__")):=PySem.F.slot_set_len.lookup
section
variable {prog:Bm}{w:Cb}{A:Bz}{E:Ac→Ag→Prop}{s:Ag}{S:Af}{es:Aw (Aj × Ac)}{ep:Ai}{t:Fp}
theorem KG {r:Af}(hT:s.TypeIs (.ref r) "set"){Q:Aq→Ag→Prop}(h:Q false s):Ao (Au prog w) A (OY (.ref r)) Q E s:=by
 unfold OY;refine Ad (Yk hT TJ ?_);generalize hid:("set.__len__" : Ep)=id0
 wp_delta
 rw[show splitId id0=Aa ("set","__len__") from by subst hid;decide +kernel]
 subst hid;refine Ad (Ni (T:="set") (b:=true) hT (by rw[Tu];kernel_rfl) ?_)
 refine Sk (fun hab=>absurd hab (by decide)) (fun _=>?_)
 refine Sk (fun _=>?_) (fun hab=>absurd (by decide +kernel) hab)
 exact Ad (Km hT (Am h))
theorem o2 {Q:Ab Ac→Ag→Prop}(hh:A.handled=none)(Z:Still w S es ep t)(ho:s.heap.get? S=Aa (gV es ep t))(hn:es.size≤1000)
  (h:∀ h' tk,(∀ b o,s.heap.get? b=Aa o→h'.get? b=Aa o)→s.heap.objs.size<h'.objs.size→Q ((qU w S ep es).toList.map (·.2)) { s with heap:=h',toks:=tk }) : Ao (Au prog w) A (collect (.ref S)) Q E s:=by
 have hS:S<s.heap.objs.size:=Ba ho;unfold collect;refine Ad (Tt (Hu PySem.F.entry_proto_collect ?_));rw[Jd PySem.F.plain_proto_collect _];show Ao _ A.in1 (newList [] >>= fun l=>again (.builtin "list.__iadd__" ⟨[l,.ref S],[]⟩)) _ _ s;refine Ad (Du (Am ⟨Qn Rq _,Hu PySem.F.entry_list_iadd ?_⟩));rw[Jd Rq _];have hD:(s.heap.push { cls:=.type "list",data:=.seq ([] : Ab Ac).toArray }).get? s.heap.objs.size=Aa { cls:=.type "list",data:=.seq #[] }:=Be _ rfl;have ho1:(s.heap.push { cls:=.type "list",data:=.seq ([] : Ab Ac).toArray }).get? S=Aa (gV es ep t):=Ah _ ho;show Ao _ A.in1 (OZ (.ref s.heap.objs.size) (.ref S) (.ref s.heap.objs.size)) _ _ _;unfold OZ;have hT1:Qo { s with heap:=s.heap.push { cls:=.type "list",data:=.seq ([] : Ab Ac).toArray } } (.ref S) "set":=⟨_,ho1,rfl⟩
 refine Ad (Km hT1 ?_);have h1:Qz (.ref s.heap.objs.size) (.ref S)=false:=by simp[Qz];exact Gz hS
 rw[Bk (by rw[h1];decide)]
 refine Ad (KL (s:={ s with heap:=s.heap.push { cls:=.type "list",data:=.seq ([] : Ab Ac).toArray } }) Z ho1 ?_)
 have hD2:=Ah (itO 0 0 S es.size ep) hD;have hT2:Qo { s with heap:=(s.heap.push { cls:=.type "list",data:=.seq ([] : Ab Ac).toArray }).push (itO 0 0 S es.size ep) } (.ref S) "set":=⟨_,Ah _ ho1,rfl⟩
 refine Ad (Eg (KG hT2 ?_));refine Sk (fun _=>?_) (fun hab=>absurd (by decide) hab)
 refine Ad (He (Ad ?_));show Ao _ _ (updateSeq s.heap.objs.size (·.push .none) >>= fun _=>updateSeq s.heap.objs.size (·.pop)) _ _ _
 refine Ad (Ym hD2 rfl ?_);have hD3:=Fz (Ey (·.push Dj)) hD2 rfl
 refine Ym (hz:=by seq_fits) hD3 rfl ?_
 have hD4:=Fz (Ey (·.pop)) hD3 rfl
 have sz:(s.heap.push { cls:=.type "list",data:=.seq ([] : Ab Ac).toArray }).objs.size=s.heap.objs.size+1:=En ..;have oth:∀ {b:Af} {o:Cq},b≠s.heap.objs.size→((s.heap.push { cls:=.type "list",data:=.seq ([] : Ab Ac).toArray }).push (itO 0 0 S es.size ep)).get? b=Aa o →
   ((((s.heap.push { cls:=.type "list",data:=.seq ([] : Ab Ac).toArray }).push (itO 0 0 S es.size ep)).update s.heap.objs.size (Ey (·.push Dj))).update s.heap.objs.size (Ey (·.pop))).get? b=Aa o:=
  fun hb e=>(Di _ _ (Ho hb)).trans ((Di _ _ (Ho hb)).trans e)
 have at0:=FI (w:=w) (s:={ s with heap:=s.heap.push { cls:=.type "list",data:=.seq ([] : Ab Ac).toArray } }) Z ho1
 refine Am ⟨Qn PySem.F.plain_extend_loop _,?_⟩;refine codeAny_extend_loopS ((NZ (prog:=prog) (A:=A.in1) (I:=(s.heap.push { cls:=.type "list",data:=.seq ([] : Ab Ac).toArray }).objs.size) hh (by rw[sz];exact Cy (Mf hS)) Z).toS) (by rw[Ev];omega) s.heap.objs.size ?_ _ es.size 0 _ #[] _ rfl (Ha _) ?_ hD4 (ItemsOf.nil _) fun s' acc c hm hS' hacc=>?_
 ·rw[sz]
  simp only[Av,Ce,Ez,Sz];exact⟨Cy (Jj _),Gz hS⟩
 ·obtain⟨slot,a1,a2,a3⟩:=at0
  exact⟨slot,oth (by rw[sz];exact Gz (Jj _)) a1,oth (Cy hS) a2,a3⟩
 ·show Ao _ A (load s.heap.objs.size >>= _) _ _ s'
  refine Ad (wpAny_load hS' ?_);obtain⟨h',g',d',tk',os'⟩:=s';have eg:g'=s.gens:=hm.gens;have ed:d'=s.drawn:=hm.drawn;have eo:os'=s.os:=hm.os;subst eg;subst ed;subst eo;have e:acc.toList=(qU w S ep es).toList.map (·.2):=by
   refine Xa fun i=>?_;rw[Bi,Dv,Bi];by_cases hi:i<es.size
   ·have hi':i<acc.size:=by rw[hacc.1];exact hi
    obtain⟨e,he,q⟩:=hacc.2 i acc[i] (Ec hi');rw[Ec hi',he,Ka,q]
   ·rw[Sl (by rw[hacc.1];omega),Sl (by rw[kS];omega)]
    rfl
  refine Am ?_;show Q acc.toList _;rw[e];refine h h' tk' (fun b o q=>?_) (Ba hS');have hb:b<s.heap.objs.size:=Ba q;refine hm.heap b o (fun hx=>?_) (oth (Cy hb) (Ah _ (Ah _ q)));simp only[Av,Ce,Ez] at hx;rcases hx with hx|hx
  ·exact absurd hb (by rw[hx];exact Eu _)
  ·exact absurd hb (by rw[hx,sz];exact Rf.mpr (Ta _))
end
def dO:Aq→Bq→Aw Bq→Ai→Ai→Ai→Vf Gb Kt (Al Ai):=sortPriv% PySem.Builtin.gallop
def KS:Aw Bq→Aw Bq→Vf Gb Kt (Aw Bq):=sortPriv% PySem.Builtin.mergeLo
def KR:Aw Bq→Aw Bq→Vf Gb Kt (Aw Bq):=sortPriv% PySem.Builtin.mergeHi
def nv:Bq:=(Dj,Dj)
section
variable {M:Ll}{A:Bz}{E:Ac→Ag→Prop}{s:Ag}{κ : Lf}{U:Bq→Prop}{r:Bq→Aj}
structure Cm (M:Ll)(A:Bz)(s:Ag)(κ : Lf)(U:Bq→Prop)(r:Bq→Aj):Prop where
 lt:∀ {x y:Bq},U x→U y→∀ {E:Ac→Ag→Prop} {Q:Al Aq→Gb→Prop} {st:Gb},kindOf st=κ→Q (Aa (decide (r x<r y))) st→wpS M A E s (lt' x y) Q st
theorem zQ {arr:Aw Bq}{i:Ai}{Q:Bq→Gb→Prop}{st:Gb}(h:i<arr.size)(q:Q (arr.getD i nv) st):wpS M A E s (elem' arr i) Q st:=by
 rw[elem'_eq,getElem?_pos arr i h];have e:arr.getD i nv=arr[i]:=by simp[Gn,h]
 rw[e] at q;exact Bn q
theorem W5 (C:Cm M A s κ U r){left:Aq}{key:Bq}{arr:Aw Bq}{i:Ai}{Q:Al Aq→Gb→Prop}{st:Gb}(hk:kindOf st=κ)(hi:i<arr.size)(hU:U (arr.getD i nv))(hkU:U key)
  (q:Q (Aa (if left then decide (r (arr.getD i nv)<r key) else !decide (r key<r (arr.getD i nv)))) st) :
  wpS M A E s (do let x ← elem' arr i;if left then lt' x key else (do let a ← lt' key x;pure (a.map (fun b=>!b)))) Q st:=by
 refine Ay (zQ hi ?_);cases left with
 |true=>exact C.lt hU hkU hk q
 |false=>exact Ay (C.lt hkU hU hk (Bn q))
theorem lY (C:Cm M A s κ U r){left:Aq}{key:Bq}{arr:Aw Bq}{base n hint cut:Ai}{Q:Al Ai→Gb→Prop}{st:Gb}(hk:kindOf st=κ)(hh:hint<n)(hb:base+n≤arr.size)(hU:∀ i,i<n→U (arr.getD (base+i) nv))(hkU:U key)(hc:cut≤n)
  (hB:∀ i,i<n→(if left then decide (r (arr.getD (base+i) nv)<r key) else !decide (r key<r (arr.getD (base+i) nv)))=decide (i<cut)) (h:Q (Aa cut) st):wpS M A E s (dO left key arr base n hint) Q st:=by
 have B:∀ {i:Ai} {E:Ac→Ag→Prop} {Q:Al Aq→Gb→Prop},i<n→Q (Aa (decide (i<cut))) st→wpS M A E s (do let x ← elem' arr (base+i);if left then lt' x key else (do let a ← lt' key x;pure (a.map (fun b=>!b)))) Q st:=by
  intro i E Q hi q;exact W5 C hk (by omega) (hU i hi) hkU (by rw[hB i hi];exact q)
 have bin:∀ {lo hi:Ai} {f:Ai→Al (Al Ai) × Ai × Ai→Vf Gb Kt (ForInStep (Al (Al Ai) × Ai × Ai))},lo≤cut→cut≤hi→hi≤n →
   (∀ x a b,f x (none,a,b)=if a≥b then pure (.done (none,a,b)) else ((do let x ← elem' arr (base+(a+(b-a)/2));if left then lt' x key else (do let a ← lt' key x;pure (a.map (fun b=>!b)))) >>= fun o=>match o with
    |some more=>if more then pure (.yield (none,a+(b-a)/2+1,b)) else pure (.yield (none,a,a+(b-a)/2))
    |_=>pure (.done (Aa none,a,b))))→wpS M A E s (forIn [0:n] (none,lo,hi) f) (fun c st'=>st'=st∧∃ a,c=(none,a,cut)) st:=by
  intro lo hi f h1 h2 h3 hf;refine Fj (I:=fun x c st'=>st'=st∧∃ a b,c=(none,a,b)∧a≤cut∧cut≤b∧b≤n∧b-a≤n-x) ?_ ?_ ⟨rfl,lo,hi,rfl,h1,h2,h3,by omega⟩
  ·rintro x c st' _ hx ⟨rfl,a,b,rfl,q1,q2,q3,q4⟩
   rw[hf];by_cases g:a≥b
   ·rw[Bl g];exact Bn ⟨rfl,a,by rw[show b=cut by omega]⟩
   ·rw[Bk g]
    refine Ay (B (by omega) ?_)
    by_cases z:a+(b-a)/2<cut
    ·simp only[z,Jk,Dq]
     exact Bn ⟨rfl,_,_,rfl,by omega,q2,q3,by omega⟩
    ·simp only[z,Jq,Bu,Ej]
     exact Bn ⟨rfl,_,_,rfl,q1,by omega,by omega,by omega⟩
  ·rintro c st' ⟨rfl,a,b,rfl,q1,q2,q3,q4⟩
   exact⟨rfl,a,by rw[show b=cut by omega]⟩
 refine Ay (B hh ?_);dsimp only;by_cases hr:hint<cut
 ·simp only[hr,Jk,Dq]
  refine Ay (Hi (Fj (I:=fun x c st'=>st'=st∧∃ a b,c=(none,a,b)∧hint+a<cut∧a<b∧x<b)
   (Q:=fun c st'=>st'=st∧∃ a b,c=(none,a,b)∧hint+a<cut∧cut≤hint+min b (n-hint)) ?_ ?_ ⟨rfl,0,1,rfl,hr,by omega,by omega⟩) ?_)
  ·rintro x c st' _ hx ⟨rfl,a,b,rfl,q1,q2,q3⟩
   dsimp only;by_cases g:b≥n-hint
   ·rw[Bl g];exact Bn ⟨rfl,a,b,rfl,q1,by omega⟩
   ·rw[Bk g]
    refine Ay (B (by omega) ?_)
    by_cases z:hint+b<cut
    ·simp only[z,Jk,Jb,Bu,Ej]
     exact Bn ⟨rfl,_,_,rfl,z,by omega,by omega⟩
    ·simp only[z,Jq,Ts,Dq]
     exact Bn ⟨rfl,a,b,rfl,q1,by omega⟩
  ·rintro c st' ⟨rfl,a,b,rfl,q1,q2,q3⟩
   exact⟨rfl,a,b,rfl,q1,by omega⟩
  ·rintro c st' ⟨rfl,a,b,rfl,q1,q2⟩
   dsimp only;refine Ay (Hi (bin (lo:=hint+a+1) (hi:=hint+min b (n-hint)) (by omega) q2 (by omega) fun _ _ _=>rfl) ?_)
   rintro c st' ⟨rfl,a',rfl⟩;exact Bn h
 ·simp only[hr,Jq,Bu,Ej]
  refine Ay (Hi (Fj (I:=fun x c st'=>st'=st∧∃ a b,c=(none,a,b)∧cut+a≤hint∧a<b∧x<b)
   (Q:=fun c st'=>st'=st∧∃ a b,c=(none,a,b)∧cut+a≤hint∧hint+1≤cut+min b (hint+1)) ?_ ?_ ⟨rfl,0,1,rfl,by omega,by omega,by omega⟩) ?_)
  ·rintro x c st' _ hx ⟨rfl,a,b,rfl,q1,q2,q3⟩
   dsimp only;by_cases g:b≥hint+1
   ·rw[Bl g];exact Bn ⟨rfl,a,b,rfl,q1,by omega⟩
   ·rw[Bk g]
    refine Ay (B (by omega) ?_)
    by_cases z:hint-b<cut
    ·simp only[z,Jk,Dq]
     exact Bn ⟨rfl,a,b,rfl,q1,by omega⟩
    ·simp only[z,Jq,Bu,Ej]
     exact Bn ⟨rfl,_,_,rfl,by omega,by omega,by omega⟩
  ·rintro c st' ⟨rfl,a,b,rfl,q1,q2,q3⟩
   exact⟨rfl,a,b,rfl,q1,by omega⟩
  ·rintro c st' ⟨rfl,a,b,rfl,q1,q2⟩
   dsimp only;refine Ay (Hi (bin (lo:=hint+1-min b (hint+1)) (hi:=hint-a) (by omega) (by omega) (by omega) fun _ _ _=>rfl) ?_)
   rintro c st' ⟨rfl,a',rfl⟩;exact Bn h
end
def Le (r:Bq→Aj)(x y:Bq):Prop:=r x≤r y
structure Mg (r:Bq→Aj)(o A B T:Ab Bq):Prop where
 p1:(o++A).Pairwise (Le r)
 p2:(o++B).Pairwise (Le r)
 pm:(o++A++B).Perm T
structure Mh (r:Bq→Aj)(A B o T:Ab Bq):Prop where
 p1:(A++o).Pairwise (Le r)
 p2:(B++o).Pairwise (Le r)
 pm:(A++B++o).Perm T
section
variable {r:Bq→Aj}{o A B A1 A2 B1 B2 T:Ab Bq}
theorem Mg.b (h:Mg r o A (B1++B2) T)(l:∀ x∈B1,∀ y∈A,Le r x y):Mg r (o++B1) A B2 T:=by
 obtain⟨p1,p2,pm⟩:=h;refine⟨?_,by rw[Cj];exact p2,?_⟩
 ·rw[Cj]
  rw[Eh] at p1 p2 ⊢;refine⟨p1.1,?_,fun x hx y hy=>?_⟩
  ·rw[Eh]
   exact⟨(Eh.mp p2.2.1).1,p1.2.1,l⟩
  ·rcases Cn.mp hy with hy|hy
   ·exact p2.2.2 x hx y (Ds _ hy)
   ·exact p1.2.2 x hx y hy
 ·refine Oe ?_ pm
  simp only[Cj];refine Io _ ?_;simp only[← Cj];exact Kb _ Kj
theorem Mg.a (h:Mg r o (A1++A2) B T)(l:∀ x∈A1,∀ y∈B,Le r x y):Mg r (o++A1) A2 B T:=by
 obtain⟨p1,p2,pm⟩:=h;refine⟨by rw[Cj];exact p1,?_,by simpa only [Cj] using pm⟩
 rw[Cj];rw[Eh] at p1 p2 ⊢;refine⟨p2.1,?_,fun x hx y hy=>?_⟩
 ·rw[Eh]
  exact⟨(Eh.mp p1.2.1).1,p2.2.1,l⟩
 ·rcases Cn.mp hy with hy|hy
  ·exact p1.2.2 x hx y (Ds _ hy)
  ·exact p2.2.2 x hx y hy
theorem Mh.a (h:Mh r (A1++A2) B o T)(l:∀ x∈B,∀ y∈A2,Le r x y):Mh r A1 B (A2++o) T:=by
 obtain⟨p1,p2,pm⟩:=h;refine⟨by rw[← Cj];exact p1,?_,?_⟩
 ·rw[Cj] at p1
  rw[Eh] at p1 p2 ⊢;refine⟨p2.1,p1.2.1,fun x hx y hy=>?_⟩;rcases Cn.mp hy with hy|hy
  ·exact l x hx y hy
  ·exact p2.2.2 x hx y hy
 ·refine Oe ?_ pm
  simp only[Cj];refine Io _ ?_;simp only[← Cj];exact Kb _ Kj
theorem Mh.b (h:Mh r A (B1++B2) o T)(l:∀ x∈A,∀ y∈B2,Le r x y):Mh r A B1 (B2++o) T:=by
 obtain⟨p1,p2,pm⟩:=h;refine⟨?_,by rw[← Cj];exact p2,by simpa only [Cj] using pm⟩
 rw[Cj] at p2;rw[Eh] at p1 p2 ⊢;refine⟨p1.1,p2.2.1,fun x hx y hy=>?_⟩;rcases Cn.mp hy with hy|hy
 ·exact l x hx y hy
 ·exact p1.2.2 x hx y hy
end
structure Mo (r:Bq→Aj)(T:Ab Bq)(m:Aw Bq):Prop where
 pm:m.toList.Perm T
 up:m.toList.Pairwise (Le r)
abbrev uY (st:Gb)(g:Ai):Gb:=Dh (kindOf st) (arrOf st) (pendingOf st) g (failedOf st)
theorem dI {a:Aw Bq}{i:Ai}(h:i<a.size):a.toList.drop i=a.getD i nv::a.toList.drop (i+1):=by
 rw[Gm (by simpa using h)]
 congr 1
 simp[Gn,h]
theorem x9 {a:Aw Bq}{i:Ai}(h:i<a.size):a.getD i nv∈a.toList:=by
 have e:a.getD i nv=a[i]:=by simp[Gn,h]
 rw[e];exact Array.getElem_mem_toList h
theorem vF {r:Bq→Aj}{a:Aw Bq}(s:a.toList.Pairwise (Le r)){i j:Ai}(h:i≤j)(hj:j<a.size):r (a.getD i nv)≤r (a.getD j nv):=by
 rcases Nat.lt_or_ge i j with l|l
 ·have e:=Iy.mp s i j (by simpa using Lr l hj) (by simpa using hj) l
  have hi:i<a.size:=Lr l hj;simpa [Gn,hi,hj,Le] using e
 ·rw[Nat.le_antisymm h l];exact Nm _
theorem bS {a:Aw Bq}{i:Ai}{x:Bq}(h:x∈a.toList.drop i):∃ j,i≤j∧j<a.size∧x=a.getD j nv:=by
 obtain⟨k,hk,e⟩:=Co.mp h;rw[Ql] at e;have hk':k<a.size-i:=by simpa using hk
 refine⟨i+k,by omega,by omega,?_⟩
 have:i+k<a.size:=by omega
 simp[Gn,this,← e]
theorem bU {a:Aw Bq}{n:Ai}{x:Bq}(h:x∈a.toList.take n):∃ j,j<n∧j<a.size∧x=a.getD j nv:=by
 obtain⟨k,hk,e⟩:=Co.mp h;rw[Qk] at e;have hk':k<n∧k<a.size:=by rw[Dp,Bh] at hk;omega
 refine⟨k,hk'.1,hk'.2,?_⟩;simp[Gn,hk'.2,← e]
theorem tZ {a:Aw Bq}{i k:Ai}:(a.extract i (i+k)).toList++a.toList.drop (i+k)=a.toList.drop i:=by
 rw[Je,Hq,Jr,← List.drop_drop];exact Nn _ _
theorem mS {a:Aw Bq}{i:Ai}:(a.extract i a.size).toList=a.toList.drop i:=by
 rw[Je,Hq];exact Gf (by simp)
theorem sC {a:Aw Bq}{i k:Ai}{x:Bq}(h:x∈(a.extract i (i+k)).toList):∃ j,i≤j∧j<i+k∧j<a.size∧x=a.getD j nv:=by
 rw[Je,Hq,Jr] at h;obtain⟨m,hm,e⟩:=Co.mp h;rw[Qk,Ql] at e;have hm':m<k∧i+m<a.size:=by rw[Dp,Ft,Bh] at hm;omega
 refine⟨i+m,by omega,by omega,hm'.2,?_⟩
 simp[Gn,hm'.2,← e]
def GL (r:Bq→Aj)(a b o:Aw Bq)(i j:Ai):Prop:=Mg r o.toList (a.toList.drop i) (b.toList.drop j) (a.toList++b.toList)
section
variable {r:Bq→Aj}{a b o:Aw Bq}{i j k:Ai}
theorem GL.pb (sa:a.toList.Pairwise (Le r))(h:GL r a b o i j)(hj:j<b.size)(l:i<a.size→r (b.getD j nv)≤r (a.getD i nv)):GL r a b (o.push (b.getD j nv)) i (j+1):=by
 have h':Mg r o.toList (a.toList.drop i) ([b.getD j nv]++b.toList.drop (j+1)) (a.toList++b.toList):=by rw[Tj,← dI hj];exact h
 have:=h'.b fun x hx y hy=>by
  cases De.mp hx;obtain⟨m,h1,h2,rfl⟩:=bS hy;exact Fu (l (by omega)) (vF sa h1 h2)
 unfold GL;rw[Eo];exact this
theorem GL.pa (sb:b.toList.Pairwise (Le r))(h:GL r a b o i j)(hi:i<a.size)(l:j<b.size→r (a.getD i nv)≤r (b.getD j nv)):GL r a b (o.push (a.getD i nv)) (i+1) j:=by
 have h':Mg r o.toList ([a.getD i nv]++a.toList.drop (i+1)) (b.toList.drop j) (a.toList++b.toList):=by rw[Tj,← dI hi];exact h
 have:=h'.a fun x hx y hy=>by
  cases De.mp hx;obtain⟨m,h1,h2,rfl⟩:=bS hy;exact Fu (l (by omega)) (vF sb h1 h2)
 unfold GL;rw[Eo];exact this
theorem GL.ea (sb:b.toList.Pairwise (Le r))(h:GL r a b o i j)(hj:j<b.size)(l:∀ m,m<k→r (a.getD (i+m) nv)≤r (b.getD j nv)):GL r a b (o++a.extract i (i+k)) (i+k) j:=by
 have h':Mg r o.toList ((a.extract i (i+k)).toList++a.toList.drop (i+k)) (b.toList.drop j) (a.toList++b.toList):=by rw[tZ];exact h
 have:=h'.a fun x hx y hy=>by
  obtain⟨m,h1,h2,h3,rfl⟩:=sC hx;obtain⟨m',h4,h5,rfl⟩:=bS hy;have:=l (m-i) (by omega)
  rw[show i+(m-i)=m by omega] at this
  exact Fu this (vF sb h4 h5)
 unfold GL;rw[Ed];exact this
theorem GL.eb (sa:a.toList.Pairwise (Le r))(h:GL r a b o i j)(hi:i<a.size)(l:∀ m,m<k→r (b.getD (j+m) nv)≤r (a.getD i nv)):GL r a b (o++b.extract j (j+k)) i (j+k):=by
 have h':Mg r o.toList (a.toList.drop i) ((b.extract j (j+k)).toList++b.toList.drop (j+k)) (a.toList++b.toList):=by rw[tZ];exact h
 have:=h'.b fun x hx y hy=>by
  obtain⟨m,h1,h2,h3,rfl⟩:=sC hx;obtain⟨m',h4,h5,rfl⟩:=bS hy;have:=l (m-j) (by omega)
  rw[show j+(m-j)=m by omega] at this
  exact Fu this (vF sa h4 h5)
 unfold GL;rw[Ed];exact this
theorem GL.fin (h:GL r a b o i j)(e:i=a.size∨j=b.size):Mo r (a.toList++b.toList) (o++a.extract i a.size++b.extract j b.size):=by
 refine⟨?_,?_⟩ <;> rw[Ed,Ed,mS,mS]
 ·exact h.pm
 ·rcases e with rfl|rfl
  ·rw[Kc (by simp),Gd];exact h.p2
  ·rw[Kc (l:=b.toList) (by simp),Gd];exact h.p1
theorem GL.last (h:GL r a b o i j)(e:i+1=a.size)(l:∀ x∈b.toList,Le r x (a.getD (a.size-1) nv)):Mo r (a.toList++b.toList) (o++b.extract j b.size++a.extract i a.size):=by
 have hi:i<a.size:=by omega
 have hd:a.toList.drop i=[a.getD i nv]:=by rw[dI hi,Kc (by simp;omega)]
 refine⟨?_,?_⟩ <;> rw[Ed,Ed,mS,mS]
 ·refine Oe ?_ h.pm
  rw[Cj,Cj];exact Io _ Kj
 ·have p1:=h.p1
  rw[hd] at p1 ⊢;rw[Eh] at p1 ⊢;refine⟨h.p2,Lv _ _,fun x hx y hy=>?_⟩;rcases Cn.mp hx with hx|hx
  ·exact p1.2.2 x hx y hy
  ·cases De.mp hy
   have:=l x (Ht hx);rw[show a.size-1=i by omega] at this
   exact this
end
theorem cJ {p:Ai→Aq}:∀ (n:Ai),(∀ i j,i≤j→j<n→p j=true→p i=true)→∃ c,c≤n∧∀ i,i<n→p i=decide (i<c)
 |0,_=>⟨0,As _,fun i h=>by omega⟩
 |n+1,h=>by
  obtain⟨c,hc,e⟩:=cJ n fun i j a b=>h i j a (by omega)
  by_cases q:p n=true
  ·refine⟨n+1,As _,fun i hi=>?_⟩
   rw[h i n (by omega) (by omega) q]
   simp[hi]
  ·refine⟨c,by omega,fun i hi=>?_⟩
   rcases Nat.lt_or_ge i n with l|l
   ·exact e i l
   ·have:i=n:=by omega
    subst this;have:¬ i<c:=by omega
    simp[this,q]
section
variable {M:Ll}{A:Bz}{E:Ac→Ag→Prop}{s:Ag}{κ : Lf}{U:Bq→Prop}{r:Bq→Aj}
theorem qM {σ α:Type}{c:Prop}[Ps c]{x y:Vf σ Kt α}{Q:α→σ→Prop}{st:σ}(h1:c→wpS M A E s x Q st)(h2:¬ c→wpS M A E s y Q st):wpS M A E s (if c then x else y) Q st:=by
 by_cases h:c
 ·rw[Bl h];exact h1 h
 ·rw[Bk h];exact h2 h
theorem KA (C:Cm M A s κ U r){key:Bq}{arr:Aw Bq}{base n hint:Ai}{Q:Al Ai→Gb→Prop}{st:Gb}(hk:kindOf st=κ)(hh:hint<n)(hb:base+n≤arr.size)(hU:∀ i,i<n→U (arr.getD (base+i) nv))(hkU:U key)
  (sa:∀ i j,i≤j→j<n→r (arr.getD (base+i) nv)≤r (arr.getD (base+j) nv)) (h:∀ c,c≤n→(∀ i,i<c→r (arr.getD (base+i) nv)≤r key)→(∀ i,c≤i→i<n→r key<r (arr.getD (base+i) nv))→Q (Aa c) st):wpS M A E s (dO false key arr base n hint) Q st:=by
 obtain⟨c,hc,e⟩:=cJ (p:=fun i=>!decide (r key<r (arr.getD (base+i) nv))) n fun i j a b q=>by
  have:=sa i j a b;simp only[Kf,Fi] at q ⊢;omega
 refine lY C hk hh hb hU hkU hc (fun i hi=>by simpa using e i hi) (h c hc (fun i hi=>?_) fun i hi hn=>?_)
 ·have:=e i (by omega)
  simp only[hi,Jk,Kf,Fi] at this;omega
 ·have:=e i hn
  simp only[show ¬ i<c by omega,Jq,Bool.not_eq_false',Cs] at this
  exact this
theorem KB (C:Cm M A s κ U r){key:Bq}{arr:Aw Bq}{base n hint:Ai}{Q:Al Ai→Gb→Prop}{st:Gb}(hk:kindOf st=κ)(hh:hint<n)(hb:base+n≤arr.size)(hU:∀ i,i<n→U (arr.getD (base+i) nv))(hkU:U key)
  (sa:∀ i j,i≤j→j<n→r (arr.getD (base+i) nv)≤r (arr.getD (base+j) nv)) (h:∀ c,c≤n→(∀ i,i<c→r (arr.getD (base+i) nv)<r key)→(∀ i,c≤i→i<n→r key≤r (arr.getD (base+i) nv))→Q (Aa c) st):wpS M A E s (dO true key arr base n hint) Q st:=by
 obtain⟨c,hc,e⟩:=cJ (p:=fun i=>decide (r (arr.getD (base+i) nv)<r key)) n fun i j a b q=>by
  have:=sa i j a b;simp only[Cs] at q ⊢;omega
 refine lY C hk hh hb hU hkU hc (fun i hi=>by simpa using e i hi) (h c hc (fun i hi=>?_) fun i hi hn=>?_)
 ·have:=e i (by omega)
  simp only[hi,Jk,Cs] at this;exact this
 ·have:=e i hn
  simp only[show ¬ i<c by omega,Jq,Fi] at this
  omega
end
section
variable {prog:Bm}{w:Cb}{A:Bz}{E:Ac→Ag→Prop}{s:Ag}{κ : Lf}{U:Bq→Prop}{r:Bq→Aj}
theorem oE (C:Cm (Au prog w) A s κ U r){a b:Aw Bq}{Q:Aw Bq→Gb→Prop}{st:Gb}(hk:kindOf st=κ)(ua:∀ x∈a.toList,U x)(ub:∀ x∈b.toList,U x)(sa:a.toList.Pairwise (Le r))(sb:b.toList.Pairwise (Le r))
  (h:∀ m g,Mo r (a.toList++b.toList) m→Q m (uY st g)) (ha:0<a.size) (hb:0<b.size) (h0:r (b.getD 0 nv)≤r (a.getD 0 nv)) (h1:∀ x∈b.toList,Le r x (a.getD (a.size-1) nv)):wpS (Au prog w) A E s (KS a b) Q st:=by
 have G0:GL r a b #[] 0 0:=⟨by simpa using sa,by simpa using sb,by simp⟩
 have G1:=G0.pb sa hb fun _=>h0;refine Ay (Pr (He ⟨rfl,?_⟩));refine Ay (zQ hb ?_);dsimp only;refine qM (fun e=>Bn (h _ (Sm st) (G1.fin (.inr (by simpa using e))))) fun e1=>?_
 refine qM (fun e=>Bn (h _ (Sm st) (G1.last (by simpa using e) h1))) fun e2=>?_
 have e1:1<b.size:=by
  have:¬ 1=b.size:=by simpa using e1
  omega
 have e2:0+1<a.size:=by
  have:¬ 0+1=a.size:=by simpa using e2
  omega
 refine Ay (Lw ?_);refine Ay (Hi (Fj (I:=fun x c st'=>(∃ g,st'=uY st g)∧∃ o i j g,c=(none,o,i,j,g)∧GL r a b o i j∧i+1<a.size∧j<b.size∧x<i+j)
  (Q:=fun c st'=>(∃ g,st'=uY st g)∧∃ m,c.1=Aa m∧Mo r (a.toList++b.toList) m) ?_ ?_ ⟨⟨Sm st,rfl⟩,_,0,1,_,rfl,G1,e2,e1,by omega⟩) ?_)
 ·rintro x c st' _ hx ⟨⟨g,rfl⟩,o,i,j,mg,rfl,G,hi,hj,hp⟩
  dsimp only;refine Ay (Hi (Fj (I:=fun y c st'=>(∃ g,st'=uY st g)∧∃ o i' j' p q,c=(none,o,i',j',p,q)∧GL r a b o i' j'∧i'+1<a.size∧j'<b.size∧i+j+y≤i'+j')
   (Q:=fun c st'=>(∃ g,st'=uY st g)∧((∃ m,c.1=Aa m∧Mo r (a.toList++b.toList) m)∨∃ o i' j' p q,c=(none,o,i',j',p,q)∧GL r a b o i' j'∧i'+1<a.size∧j'<b.size∧x+1<i'+j')) ?_ ?_ ⟨⟨g,rfl⟩,o,i,j,0,0,rfl,G,hi,hj,by omega⟩) ?_)
  ·rintro y c st' _ hy ⟨⟨g,rfl⟩,o,i',j',p,q,rfl,G,hi,hj,hq⟩
   dsimp only;refine Ay (zQ hj (Ay (zQ (i:=i') (by omega) (Ay (C.lt (ub _ (x9 hj)) (ua _ (x9 (i:=i') (by omega))) hk ?_)))))
   dsimp only;refine qM (fun l=>?_) fun l=>?_
   ·have l:r (b.getD j' nv)<r (a.getD i' nv):=by simpa using l
    have G2:=G.pb sa hj fun _=>Hm l;refine Ay (zQ hj ?_);refine qM (fun e=>?_) fun e=>?_
    ·exact Bn ⟨⟨g,rfl⟩,.inl ⟨_,rfl,G2.fin (.inr (by simpa using e))⟩⟩
    ·have e:¬ j'+1=b.size:=by simpa using e
     refine qM (fun _=>?_) fun _=>?_
     ·exact Bn ⟨⟨g,rfl⟩,.inr ⟨_,_,_,_,_,rfl,G2,hi,by omega,by omega⟩⟩
     ·exact Bn ⟨⟨g,rfl⟩,_,_,_,_,_,rfl,G2,hi,by omega,by omega⟩
   ·have l:¬ r (b.getD j' nv)<r (a.getD i' nv):=by simpa using l
    have G2:=G.pa sb (by omega) fun _=>Zb.mp l
    refine Ay (zQ (i:=i') (by omega) ?_)
    refine qM (fun e=>?_) fun e=>?_
    ·exact Bn ⟨⟨g,rfl⟩,.inl ⟨_,rfl,G2.last (by simpa using e) h1⟩⟩
    ·have e:¬ i'+1+1=a.size:=by simpa using e
     refine qM (fun _=>?_) fun _=>?_
     ·exact Bn ⟨⟨g,rfl⟩,.inr ⟨_,_,_,_,_,rfl,G2,by omega,hj,by omega⟩⟩
     ·exact Bn ⟨⟨g,rfl⟩,_,_,_,_,_,rfl,G2,by omega,hj,by omega⟩
  ·rintro c st' ⟨z,o,i',j',p,q,rfl,G,hi,hj,hq⟩
   exact⟨z,.inr ⟨_,_,_,_,_,rfl,G,hi,hj,by omega⟩⟩
  ·rintro c st' ⟨⟨g,rfl⟩,⟨m,hc,hm⟩|⟨o,i',j',p,q,rfl,G,hi,hj,hq⟩⟩
   ·obtain⟨c0,c1⟩:=c
    cases hc;exact Bn ⟨⟨g,rfl⟩,m,rfl,hm⟩
   dsimp only;refine Ay (Pr (He ⟨rfl,?_⟩));refine Ay (Hi (Fj (I:=fun y c st'=>(∃ g,st'=uY st g)∧∃ o i' j' p q t,c=(none,o,i',j',p,q,t)∧GL r a b o i' j'∧i'+1<a.size∧j'<b.size∧x+1<i'+j')
    (Q:=fun c st'=>(∃ g,st'=uY st g)∧((∃ m,c.1=Aa m∧Mo r (a.toList++b.toList) m)∨∃ o i' j' p q t,c=(none,o,i',j',p,q,t)∧GL r a b o i' j'∧i'+1<a.size∧j'<b.size∧x+1<i'+j')) ?_ ?_ ⟨⟨g,rfl⟩,o,i',j',_,_,_,rfl,G,hi,hj,hq⟩) ?_)
   ·rintro y c st' _ hy ⟨⟨g,rfl⟩,o,i,j,p,q,t,rfl,G,hi,hj,hq⟩
    dsimp only;refine qM (fun _=>?_) fun _=>?_
    all_goals
     refine Ay (Iq ?_);refine Ay (zQ hj ?_);refine Ay (KA C hk (by omega) (by omega) (fun i hi=>ua _ (x9 (by omega))) (ub _ (x9 hj)) (fun i j a b=>vF sa (by omega) (by omega)) fun k k1 k2 k3=>?_)
     dsimp only;apply qM
     case' h1 =>
      intro kp;have G2:=G.ea sb hj k2;refine qM (fun e=>Bn ⟨⟨_,rfl⟩,.inl ⟨_,rfl,G2.last (by simpa using e) h1⟩⟩) fun e3=>?_
      refine qM (fun e=>Bn ⟨⟨_,rfl⟩,.inl ⟨_,rfl,G2.fin (.inl (by simpa using e))⟩⟩) fun e4=>?_
      have e3:¬ i+k+1=a.size:=by simpa using e3
      have e4:¬ i+k=a.size:=by simpa using e4
      have hl:i+k+1<a.size:=by omega
      have hc:=k3 k (As _) (by omega)
      have hq:x+1<i+k+j:=by omega
     case' h2 =>
      intro kp;have G2:=G;have hl:=hi;have hc:r (b.getD j nv)<r (a.getD i nv):=k3 0 (by omega) (by omega)
     all_goals
      refine Ay (zQ hj ?_);have G3:=G2.pb sa hj fun _=>Hm hc;refine qM (fun e=>Bn ⟨⟨_,rfl⟩,.inl ⟨_,rfl,G3.fin (.inr (by simpa using e))⟩⟩) fun e5=>?_
      have e5:¬ j+1=b.size:=by simpa using e5
      refine Ay (zQ (Kk hl) ?_);refine Ay (KB C hk (by omega) (by omega) (fun i hi=>ub _ (x9 (by omega))) (ua _ (x9 (Kk hl))) (fun i j a b=>vF sb (by omega) (by omega)) fun m m1 m2 m3=>?_)
      dsimp only;apply qM
      case' h1 =>
       intro mp;have G4:=G3.eb sa (Kk hl) fun i hi=>Hm (m2 i hi);refine qM (fun e=>Bn ⟨⟨_,rfl⟩,.inl ⟨_,rfl,G4.fin (.inr (by simpa using e))⟩⟩) fun e6=>?_
       have e6:¬ j+1+m=b.size:=by simpa using e6
       have hj4:j+1+m<b.size:=by omega
       have hc4:=m3 m (As _) (by omega)
      case' h2 =>
       intro mp;have G4:=G3;have hj4:j+1<b.size:=by omega
       have hc4:=m3 0 (by omega) (by omega)
      all_goals
       refine Ay (zQ (Kk hl) ?_);have G5:=G4.pa sb (Kk hl) fun _=>hc4;refine qM (fun e=>Bn ⟨⟨_,rfl⟩,.inl ⟨_,rfl,G5.last (by simpa using e) h1⟩⟩) fun e7=>?_
       simp only[Op] at e7;exact qM (fun _=>Bn ⟨⟨_,rfl⟩,.inr ⟨_,_,_,_,_,_,rfl,G5,by omega,by omega,by omega⟩⟩) fun _=>Bn ⟨⟨_,rfl⟩,_,_,_,_,_,_,rfl,G5,by omega,by omega,by omega⟩
   ·rintro c st' ⟨z,o,i',j',p,q,t,rfl,G,hi,hj,hq⟩
    exact⟨z,.inr ⟨_,_,_,_,_,_,rfl,G,hi,hj,by omega⟩⟩
   ·rintro c st' ⟨⟨g,rfl⟩,⟨m,hc,hm⟩|⟨o,i',j',p,q,t,rfl,G,hi,hj,hq⟩⟩
    ·obtain⟨c0,c1⟩:=c
     cases hc;exact Bn ⟨⟨g,rfl⟩,m,rfl,hm⟩
    dsimp only;refine Ay (Iq ?_);exact Bn ⟨⟨_,rfl⟩,_,_,_,_,rfl,G,hi,hj,by omega⟩
 ·rintro c st' ⟨z,o,i',j',p,rfl,G,hi,hj,hq⟩
  exfalso
  omega
 ·rintro c st' ⟨⟨g,rfl⟩,m,hc,hm⟩
  obtain⟨c0,c1⟩:=c;cases hc;exact Bn (h m g hm)
end
theorem sW {a:Aw Bq}{n:Ai}(h:0<n)(hn:n≤a.size):a.toList.take n=a.toList.take (n-1)++[a.getD (n-1) nv]:=by
 obtain⟨m,rfl⟩:∃ m,n=m+1:=⟨n-1,by omega⟩
 rw[Nat.add_sub_cancel,List.take_add_one];have hm:m<a.size:=by omega
 simp[Gn,hm]
theorem cR {a:Aw Bq}{i n:Ai}(h:i≤n):a.toList.take i++(a.extract i n).toList=a.toList.take n:=by
 rw[Je,Hq]
 conv=>rhs;rw[show n=i+(n-i) by omega,List.take_add]
theorem bK {a:Aw Bq}{n:Ai}:(a.extract 0 n).toList=a.toList.take n:=by
 rw[Je,Hq];simp
theorem bT {a:Aw Bq}{i n:Ai}{x:Bq}(hn:i≤n)(h:x∈(a.extract i n).toList):∃ j,i≤j∧j<n∧j<a.size∧x=a.getD j nv:=by
 obtain⟨k,rfl⟩:∃ k,n=i+k:=⟨n-i,by omega⟩
 exact sC h
def GH (r:Bq→Aj)(a b o:Aw Bq)(i j:Ai):Prop:=Mh r (a.toList.take i) (b.toList.take j) o.toList.reverse (a.toList++b.toList)
section
variable {r:Bq→Aj}{a b o:Aw Bq}{i j k:Ai}
theorem GH.pa (sb:b.toList.Pairwise (Le r))(h:GH r a b o i j)(h1:0<i)(h2:i≤a.size)(hj:j≤b.size)(l:0<j→r (b.getD (j-1) nv)≤r (a.getD (i-1) nv)):GH r a b (o.push (a.getD (i-1) nv)) (i-1) j:=by
 have h':Mh r (a.toList.take (i-1)++[a.getD (i-1) nv]) (b.toList.take j) o.toList.reverse (a.toList++b.toList):=by rw[← sW h1 h2];exact h
 have:=h'.a fun x hx y hy=>by
  cases De.mp hy;obtain⟨m,q1,q2,rfl⟩:=bU hx;exact Fu (vF sb (by omega) (by omega)) (l (by omega))
 unfold GH;rw[Eo,Kz];exact this
theorem GH.pb (sa:a.toList.Pairwise (Le r))(h:GH r a b o i j)(h1:0<j)(h2:j≤b.size)(hi:i≤a.size)(l:0<i→r (a.getD (i-1) nv)≤r (b.getD (j-1) nv)):GH r a b (o.push (b.getD (j-1) nv)) i (j-1):=by
 have h':Mh r (a.toList.take i) (b.toList.take (j-1)++[b.getD (j-1) nv]) o.toList.reverse (a.toList++b.toList):=by rw[← sW h1 h2];exact h
 have:=h'.b fun x hx y hy=>by
  cases De.mp hy;obtain⟨m,q1,q2,rfl⟩:=bU hx;exact Fu (vF sa (by omega) (by omega)) (l (by omega))
 unfold GH;rw[Eo,Kz];exact this
theorem GH.ea (sb:b.toList.Pairwise (Le r))(h:GH r a b o i j)(hk:k≤i)(hj:j≤b.size)(l:0<j→∀ m,k≤m→m<i→m<a.size→r (b.getD (j-1) nv)≤r (a.getD m nv)):GH r a b (o++(a.extract k i).reverse) k j:=by
 have h':Mh r (a.toList.take k++(a.extract k i).toList) (b.toList.take j) o.toList.reverse (a.toList++b.toList):=by rw[cR hk];exact h
 have:=h'.a fun x hx y hy=>by
  obtain⟨m,q1,q2,rfl⟩:=bU hx;obtain⟨m',q3,q4,q5,rfl⟩:=bT hk hy;exact Fu (vF sb (by omega) (by omega)) (l (by omega) m' q3 q4 q5)
 unfold GH;rw[Ed,Ko,Kz,Ub];exact this
theorem GH.eb (sa:a.toList.Pairwise (Le r))(h:GH r a b o i j)(hk:k≤j)(hi:i≤a.size)(l:0<i→∀ m,k≤m→m<j→m<b.size→r (a.getD (i-1) nv)≤r (b.getD m nv)):GH r a b (o++(b.extract k j).reverse) i k:=by
 have h':Mh r (a.toList.take i) (b.toList.take k++(b.extract k j).toList) o.toList.reverse (a.toList++b.toList):=by rw[cR hk];exact h
 have:=h'.b fun x hx y hy=>by
  obtain⟨m,q1,q2,rfl⟩:=bU hx;obtain⟨m',q3,q4,q5,rfl⟩:=bT hk hy;exact Fu (vF sa (by omega) (by omega)) (l (by omega) m' q3 q4 q5)
 unfold GH;rw[Ed,Ko,Kz,Ub];exact this
theorem GH.fin (h:GH r a b o i j)(e:i=0∨j=0):Mo r (a.toList++b.toList) (a.extract 0 i++b.extract 0 j++o.reverse):=by
 refine⟨?_,?_⟩ <;> rw[Ed,Ed,bK,bK,Ko]
 ·exact h.pm
 ·rcases e with rfl|rfl
  ·rw[Ze,Jy];exact h.p2
  ·rw[Ze,Gd];exact h.p1
theorem GH.first (h:GH r a b o i j)(e:j=1)(hb:0<b.size)(l:∀ x∈a.toList,Le r (b.getD 0 nv) x):Mo r (a.toList++b.toList) (b.extract 0 j++a.extract 0 i++o.reverse):=by
 subst e;have hd:b.toList.take 1=[b.getD 0 nv]:=by rw[sW (by omega) (by omega)];rfl
 refine⟨?_,?_⟩ <;> rw[Ed,Ed,bK,bK,Ko]
 ·refine Oe ?_ h.pm
  exact Kb _ Kj
 ·have p2:=h.p2
  rw[hd] at p2 ⊢;rw[Cj];rw[Eh] at p2 ⊢;refine⟨p2.1,h.p1,fun x hx y hy=>?_⟩;rcases Cn.mp hy with hy|hy
  ·cases De.mp hx
   exact l y (Gy hy)
  ·exact p2.2.2 x hx y hy
end
section
variable {prog:Bm}{w:Cb}{A:Bz}{E:Ac→Ag→Prop}{s:Ag}{κ : Lf}{U:Bq→Prop}{r:Bq→Aj}
theorem oD (C:Cm (Au prog w) A s κ U r){a b:Aw Bq}{Q:Aw Bq→Gb→Prop}{st:Gb}(hk:kindOf st=κ)(ua:∀ x∈a.toList,U x)(ub:∀ x∈b.toList,U x)(sa:a.toList.Pairwise (Le r))(sb:b.toList.Pairwise (Le r))
  (h:∀ m g,Mo r (a.toList++b.toList) m→Q m (uY st g)) (ha:0<a.size) (hb:0<b.size) (h0:∀ x∈a.toList,Le r (b.getD 0 nv) x) (h1:r (b.getD (b.size-1) nv)≤r (a.getD (a.size-1) nv)):wpS (Au prog w) A E s (KR a b) Q st:=by
 have G0:GH r a b #[] a.size b.size:=by
  unfold GH;rw[Gf (by simp),Gf (by simp)]
  exact⟨by simpa using sa,by simpa using sb,by simp⟩
 have G1:=G0.pa sb ha (As _) (As _) fun _=>h1;refine Ay (Pr (He ⟨rfl,?_⟩));refine Ay (zQ (i:=a.size-1) (by omega) ?_)
 dsimp only;refine qM (fun e=>Bn (h _ (Sm st) (G1.fin (.inl (by simpa using e))))) fun e1=>?_
 refine qM (fun e=>Bn (h _ (Sm st) (G1.first (by simpa using e) hb h0))) fun e2=>?_
 have e1:¬ a.size-1=0:=by simpa using e1
 have e2:¬ b.size=1:=by simpa using e2
 refine Ay (Lw ?_);refine Ay (Hi (Fj (I:=fun x c st'=>(∃ g,st'=uY st g)∧∃ o i j g,c=(none,i,j,o,g)∧GH r a b o i j∧0<i∧i≤a.size∧1<j∧j≤b.size∧x+i+j<a.size+b.size)
  (Q:=fun c st'=>(∃ g,st'=uY st g)∧∃ m,c.1=Aa m∧Mo r (a.toList++b.toList) m) ?_ ?_ ⟨⟨Sm st,rfl⟩,_,a.size-1,b.size,_,rfl,G1,by omega,by omega,by omega,by omega,by omega⟩) ?_)
 ·rintro x c st' _ hx ⟨⟨g,rfl⟩,o,i,j,mg,rfl,G,hi,hi2,hj,hj2,hp⟩
  dsimp only;refine Ay (Hi (Fj (I:=fun y c st'=>(∃ g,st'=uY st g)∧∃ o i' j' p q,c=(none,i',j',o,p,q)∧GH r a b o i' j'∧0<i'∧i'≤a.size∧1<j'∧j'≤b.size∧i'+j'+y≤i+j)
   (Q:=fun c st'=>(∃ g,st'=uY st g)∧((∃ m,c.1=Aa m∧Mo r (a.toList++b.toList) m)∨∃ o i' j' p q,c=(none,i',j',o,p,q)∧GH r a b o i' j'∧0<i'∧i'≤a.size∧1<j'∧j'≤b.size∧x+1+i'+j'<a.size+b.size)) ?_ ?_ ⟨⟨g,rfl⟩,o,i,j,0,0,rfl,G,hi,hi2,hj,hj2,by omega⟩) ?_)
  ·rintro y c st' _ hy ⟨⟨g,rfl⟩,o,i',j',p,q,rfl,G,hi,hi2,hj,hj2,hq⟩
   dsimp only;refine Ay (zQ (i:=j'-1) (by omega) (Ay (zQ (i:=i'-1) (by omega) (Ay (C.lt (ub _ (x9 (i:=j'-1) (by omega))) (ua _ (x9 (i:=i'-1) (by omega))) hk ?_)))))
   dsimp only;refine qM (fun l=>?_) fun l=>?_
   ·have l:r (b.getD (j'-1) nv)<r (a.getD (i'-1) nv):=by simpa using l
    have G2:=G.pa sb hi hi2 hj2 fun _=>Hm l;refine Ay (zQ (i:=i'-1) (by omega) ?_)
    refine qM (fun e=>Bn ⟨⟨g,rfl⟩,.inl ⟨_,rfl,G2.fin (.inl (by simpa using e))⟩⟩) fun e=>?_
    have e:¬ i'-1=0:=by simpa using e
    exact qM (fun _=>Bn ⟨⟨g,rfl⟩,.inr ⟨_,_,_,_,_,rfl,G2,by omega,by omega,hj,hj2,by omega⟩⟩) fun _=>Bn ⟨⟨g,rfl⟩,_,_,_,_,_,rfl,G2,by omega,by omega,hj,hj2,by omega⟩
   ·have l:¬ r (b.getD (j'-1) nv)<r (a.getD (i'-1) nv):=by simpa using l
    have G2:=G.pb sa (by omega) hj2 hi2 fun _=>Zb.mp l
    refine Ay (zQ (i:=j'-1) (by omega) ?_)
    refine qM (fun e=>Bn ⟨⟨g,rfl⟩,.inl ⟨_,rfl,G2.first (by simpa using e) hb h0⟩⟩) fun e=>?_
    have e:¬ j'-1=1:=by simpa using e
    exact qM (fun _=>Bn ⟨⟨g,rfl⟩,.inr ⟨_,_,_,_,_,rfl,G2,hi,hi2,by omega,by omega,by omega⟩⟩) fun _=>Bn ⟨⟨g,rfl⟩,_,_,_,_,_,rfl,G2,hi,hi2,by omega,by omega,by omega⟩
  ·rintro c st' ⟨z,o,i',j',p,q,rfl,G,hi,hi2,hj,hj2,hq⟩
   exact⟨z,.inr ⟨_,_,_,_,_,rfl,G,hi,hi2,hj,hj2,by omega⟩⟩
  ·rintro c st' ⟨⟨g,rfl⟩,⟨m,hc,hm⟩|⟨o,i',j',p,q,rfl,G,hi,hi2,hj,hj2,hq⟩⟩
   ·obtain⟨c0,c1⟩:=c
    cases hc;exact Bn ⟨⟨g,rfl⟩,m,rfl,hm⟩
   dsimp only;refine Ay (Pr (He ⟨rfl,?_⟩));refine Ay (Hi (Fj (I:=fun y c st'=>(∃ g,st'=uY st g)∧∃ o i' j' p q t,c=(none,i',j',o,p,q,t)∧GH r a b o i' j'∧0<i'∧i'≤a.size∧1<j'∧j'≤b.size∧x+1+i'+j'<a.size+b.size)
    (Q:=fun c st'=>(∃ g,st'=uY st g)∧((∃ m,c.1=Aa m∧Mo r (a.toList++b.toList) m)∨∃ o i' j' p q t,c=(none,i',j',o,p,q,t)∧GH r a b o i' j'∧0<i'∧i'≤a.size∧1<j'∧j'≤b.size∧x+1+i'+j'<a.size+b.size)) ?_ ?_ ⟨⟨g,rfl⟩,o,i',j',_,_,_,rfl,G,hi,hi2,hj,hj2,hq⟩) ?_)
   ·rintro y c st' _ hy ⟨⟨g,rfl⟩,o,i,j,p,q,t,rfl,G,hi,hi2,hj,hj2,hq⟩
    dsimp only;refine qM (fun _=>?_) fun _=>?_
    all_goals
     refine Ay (Iq ?_);refine Ay (zQ (i:=j-1) (by omega) ?_)
     refine Ay (KA C hk (by omega) (by omega) (fun i hi=>ua _ (x9 (by omega))) (ub _ (x9 (i:=j-1) (by omega))) (fun i j a b=>vF sa (by omega) (by omega)) fun k k1 k2 k3=>?_)
     simp only[Oh] at k2 k3;dsimp only;apply qM
     case' h1 =>
      intro kp;have G2:=G.ea sb k1 hj2 fun _ m q1 q2 _=>Hm (k3 m q1 q2);refine qM (fun e=>Bn ⟨⟨_,rfl⟩,.inl ⟨_,rfl,G2.fin (.inl (by simpa using e))⟩⟩) fun e3=>?_
      have e3:¬ k=0:=by simpa using e3
      have hl:0<k:=by omega
      have hl2:k≤a.size:=by omega
      have hc:=k2 (k-1) (by omega)
      have hq:x+1+k+j<a.size+b.size:=by omega
     case' h2 =>
      intro kp;have G2:=G;have hl:=hi;have hl2:=hi2;have hc:=k2 (i-1) (by omega)
     all_goals
      refine Ay (zQ (i:=j-1) (by omega) ?_)
      have G3:=G2.pb sa (by omega) hj2 hl2 fun _=>hc
      refine qM (fun e=>Bn ⟨⟨_,rfl⟩,.inl ⟨_,rfl,G3.first (by simpa using e) hb h0⟩⟩) fun e5=>?_
      have e5:¬ j-1=1:=by simpa using e5
      refine Ay (zQ (Bt (Zc hl Xy) hl2) ?_);refine Ay (KB C hk (by omega) (by omega) (fun i hi=>ub _ (x9 (by omega))) (ua _ (x9 (Bt (Zc hl Xy) hl2))) (fun i j a b=>vF sb (by omega) (by omega)) fun m m1 m2 m3=>?_)
      simp only[Oh] at m2 m3;dsimp only;apply qM
      case' h1 =>
       intro mp;have G4:=G3.eb sa m1 hl2 fun _ m q1 q2 _=>m3 m q1 q2;refine qM (fun e=>Bn ⟨⟨_,rfl⟩,.inl ⟨_,rfl,G4.first (by simpa using e) hb h0⟩⟩) fun e6=>?_
       refine qM (fun e=>Bn ⟨⟨_,rfl⟩,.inl ⟨_,rfl,G4.fin (.inr (by simpa using e))⟩⟩) fun e7=>?_
       have e6:¬ m=1:=by simpa using e6
       have e7:¬ m=0:=by simpa using e7
       have hj4:1<m:=by omega
       have hj5:m≤b.size:=by omega
       have hc4:=Hm (m2 (m-1) (by omega))
      case' h2 =>
       intro mp;have G4:=G3;have hj4:1<j-1:=by omega
       have hj5:j-1≤b.size:=by omega
       have hc4:=Hm (m2 (j-1-1) (by omega))
      all_goals
       refine Ay (zQ (Bt (Zc hl Xy) hl2) ?_);have G5:=G4.pa sb hl hl2 hj5 fun _=>hc4;refine qM (fun e=>Bn ⟨⟨_,rfl⟩,.inl ⟨_,rfl,G5.fin (.inl (by simpa using e))⟩⟩) fun e7=>?_
       simp only[Op] at e7;exact qM (fun _=>Bn ⟨⟨_,rfl⟩,.inr ⟨_,_,_,_,_,_,rfl,G5,by omega,by omega,by omega,by omega,by omega⟩⟩) fun _=>Bn ⟨⟨_,rfl⟩,_,_,_,_,_,_,rfl,G5,by omega,by omega,by omega,by omega,by omega⟩
   ·rintro c st' ⟨z,o,i',j',p,q,t,rfl,G,hi,hi2,hj,hj2,hq⟩
    exact⟨z,.inr ⟨_,_,_,_,_,_,rfl,G,hi,hi2,hj,hj2,by omega⟩⟩
   ·rintro c st' ⟨⟨g,rfl⟩,⟨m,hc,hm⟩|⟨o,i',j',p,q,t,rfl,G,hi,hi2,hj,hj2,hq⟩⟩
    ·obtain⟨c0,c1⟩:=c
     cases hc;exact Bn ⟨⟨g,rfl⟩,m,rfl,hm⟩
    dsimp only;refine Ay (Iq ?_);exact Bn ⟨⟨_,rfl⟩,_,_,_,_,rfl,G,hi,hi2,hj,hj2,by omega⟩
 ·rintro c st' ⟨z,o,i',j',p,rfl,G,hi,hi2,hj,hj2,hq⟩
  exfalso
  omega
 ·rintro c st' ⟨⟨g,rfl⟩,m,hc,hm⟩
  obtain⟨c0,c1⟩:=c;cases hc;exact Bn (h m g hm)
end
theorem W4:∀ (l:Ab Bq) (arr:Aw Bq) (o d:Ai),o+d+l.length≤arr.size→∀ k,((l.zipIdx d).foldl (fun a p=>a.setIfInBounds (o+p.2) p.1) arr)[k]? = if o+d≤k∧k<o+d+l.length then l[k-(o+d)]? else arr[k]?
 |[],arr,o,d,h,k=>by
  rw[Bk (by simp only[Ge];omega)];rfl
 |x::l,arr,o,d,h,k=>by
  rw[Cd] at h;rw[Ri,Jv,W4 l _ o (d+1) (by rw[Array.size_setIfInBounds];omega) k,Cd]
  by_cases h1:k=o+d
  ·subst h1
   rw[Bk (by omega),Bl (by omega),Wd,Array.getElem?_setIfInBounds_self_of_lt (by omega)]
   rfl
  ·by_cases h2:o+(d+1)≤k∧k<o+(d+1)+l.length
   ·rw[Bl h2,Bl (by omega),show k-(o+d)=(k-(o+(d+1)))+1 by omega,Ro]
   ·rw[Bk h2,Bk (by omega),Array.getElem?_setIfInBounds_ne (by omega)]
def wb (arr:Aw Bq)(o:Ai)(m:Aw Bq):Aw Bq:=m.toList.zipIdx.foldl (fun a p=>a.setIfInBounds (o+p.2) p.1) arr
theorem L7 {arr m:Aw Bq}{o:Ai}(h:o+m.size≤arr.size)(k:Ai):(wb arr o m).getD k nv=if o≤k∧k<o+m.size then m.getD (k-o) nv else arr.getD k nv:=by
 have e:=W4 m.toList arr o 0 (by simpa using h) k
 simp only[We,Bh,Bi] at e;rw[Ff,Ff,Ff];unfold wb;rw[e]
 split <;> rfl
theorem L8 {arr m:Aw Bq}{o:Ai}(h:o+m.size≤arr.size):(wb arr o m).toList=arr.toList.take o++(m.toList++arr.toList.drop (o+m.size)):=by
 apply Xa;intro k;have e:=W4 m.toList arr o 0 (by simpa using h) k
 simp only[We,Bh,Bi] at e;unfold wb;rw[Bi,e];have lt:(arr.toList.take o).length=o:=by rw[Dp,Bh];omega
 by_cases h1:k<o
 ·rw[Bk (by omega),Bj (by omega),Lh h1,Bi]
 ·rw[Dd (by omega),lt]
  by_cases h2:k<o+m.size
  ·rw[Bl (by omega),Bj (by rw[Bh];omega),Bi]
  ·rw[Bk (by omega),Dd (by rw[Bh];omega),Vo,Bh,Bi]
   congr 1
   omega
theorem L9 {arr m:Aw Bq}{o n:Ai}(h:o+n≤arr.size)(p:m.toList.Perm (arr.extract o (o+n)).toList):(wb arr o m).toList.Perm arr.toList:=by
 have hm:m.size=n:=by
  have:=p.length_eq;rw[Bh,Bh,Ih] at this;omega
 rw[L8 (by omega),hm]
 have e:arr.toList=arr.toList.take o++((arr.extract o (o+n)).toList++arr.toList.drop (o+n)):=by rw[tZ,Nn]
 conv=>rhs;rw[e]
 exact Io _ (Kb _ p)
def Seg (r:Bq→Aj)(a:Aw Bq)(lo n:Ai):Prop:=∀ i j,lo≤i→i≤j→j<lo+n→r (a.getD i nv)≤r (a.getD j nv)
theorem ZB {r:Bq→Aj}{a:Aw Bq}{lo n:Ai}(h:Seg r a lo n){i k:Ai}(h1:lo≤i)(h2:i+k≤lo+n)(h3:i+k≤a.size):(a.extract i (i+k)).toList.Pairwise (Le r):=by
 rw[Iy];intro x y hx hy l;have hx':x<k:=by rw[Bh,Ih] at hx;omega
 have hy':y<k:=by rw[Bh,Ih] at hy;omega
 have e:=h (i+x) (i+y) (by omega) (by omega) (by omega)
 have q1:i+x<a.size:=by omega
 have q2:i+y<a.size:=by omega
 simpa [Gn,q1,q2,Le] using e
theorem cQ {a:Aw Bq}{i k m:Ai}(h:m<k)(h3:i+k≤a.size):(a.extract i (i+k)).getD m nv=a.getD (i+m) nv:=by
 have q1:i+m<a.size:=by omega
 have q2:m<(a.extract i (i+k)).size:=by rw[Ih];omega
 have q3:m<min (i+k) a.size-i:=by omega
 simp[Gn,q1,q3]
theorem K6 {a:Aw Bq}{i j k:Ai}(h1:i≤j)(h2:j≤k):(a.extract i j).toList++(a.extract j k).toList=(a.extract i k).toList:=by
 rw[← Ed,Array.extract_append_extract]
 congr 2 <;> omega
section
variable {prog:Bm}{w:Cb}{A:Bz}{E:Ac→Ag→Prop}{s:Ag}{κ : Lf}{U:Bq→Prop}{r:Bq→Aj}
theorem LA {M:Ll}{σ : Type}{Q:PUnit→σ→Prop}{st st':σ}(h:Q ⟨⟩ st'):wpS M A E s (set st':Vf σ Kt PUnit) Q st:=by
 unfold wpS;rw[StateT.run_set];exact Am ⟨rfl,h⟩
theorem oC (C:Cm (Au prog w) A s κ U r){i sa na pw nb pz:Ai}{Q:Aq→Gb→Prop}{arr:Aw Bq}{pd:Aw (Ai × Ai × Ai)}{g:Ai}(ua:∀ x∈arr.toList,U x)(e1:pd[i]? = Aa (sa,na,pw))(e2:pd[i+1]? = Aa (sa+na,nb,pz))(p1:0<na)(p2:0<nb)(hz:sa+na+nb≤arr.size)
  (s1:Seg r arr sa na) (s2:Seg r arr (sa+na) nb)
  (h:∀ arr' g,arr'.toList.Perm arr.toList→(∀ k,k<sa∨sa+na+nb≤k→arr'.getD k nv=arr.getD k nv)→Seg r arr' sa (na+nb)→Q true (Dh κ arr' ((pd.setIfInBounds i (sa,na+nb,pw)).eraseIdxIfInBounds (i+1)) g none)) :
  wpS (Au prog w) A E s (mergeAt' i) Q (Dh κ arr pd g none):=by
 refine Ay (Lw ?_);dsimp only;rw[e1,e2];dsimp only;refine Ay (LA ?_);refine Ay (zQ (i:=sa+na) (by omega) ?_)
 refine Ay (KA C rfl (by omega) (by omega) (fun i hi=>ua _ (x9 (by omega))) (ua _ (x9 (by omega))) (fun i j a b=>s1 _ _ (by omega) (by omega) (by omega)) fun k k1 k2 k3=>?_)
 dsimp only;refine qM (fun e=>Bn (h arr g (Mc _) (fun _ _=>rfl) fun i j a b c=>?_)) fun e=>?_
 ·have e:na-k=0:=by simpa using e
  by_cases q1:j<sa+na
  ·exact s1 i j a b q1
  ·by_cases q2:sa+na≤i
   ·exact s2 i j q2 b (by omega)
   ·have:=k2 (i-sa) (by omega)
    rw[show sa+(i-sa)=i by omega] at this
    exact Fu this (s2 _ _ (As _) (by omega) (by omega))
 have e:¬ na-k=0:=by simpa using e
 refine Ay (zQ (i:=sa+k+(na-k)-1) (by omega) ?_)
 refine Ay (KB C rfl (by omega) (by omega) (fun i hi=>ua _ (x9 (by omega))) (ua _ (x9 (by omega))) (fun i j a b=>s2 _ _ (by omega) (by omega) (by omega)) fun m m1 m2 m3=>?_)
 dsimp only;rw[show sa+k+(na-k)-1=sa+na-1 by omega] at m2 m3
 have hk3:=k3 k (As _) (by omega)
 refine qM (fun e=>?_) fun e'=>?_
 ·exfalso
  have e:m=0:=by simpa using e
  subst e;have q1:=m3 0 (As _) p2;have q2:=s1 (sa+k) (sa+na-1) (by omega) (by omega) (by omega)
  rw[We] at q1;omega
 have e':¬ m=0:=by simpa using e'
 have ex:arr.extract (sa+k) (sa+na)=arr.extract (sa+k) (sa+k+(na-k)):=by rw[show sa+k+(na-k)=sa+na by omega]
 have zx:(arr.extract (sa+k) (sa+na)).size=na-k:=by rw[Ih];omega
 have zy:(arr.extract (sa+na) (sa+na+m)).size=m:=by rw[Ih];omega
 have gx:∀ i,i<na-k→(arr.extract (sa+k) (sa+na)).getD i nv=arr.getD (sa+k+i) nv:=fun i hi=>by rw[ex];exact cQ hi (by omega)
 have gy:∀ i,i<m→(arr.extract (sa+na) (sa+na+m)).getD i nv=arr.getD (sa+na+i) nv:=fun i hi=>cQ hi (by omega)
 have px:(arr.extract (sa+k) (sa+na)).toList.Pairwise (Le r):=by rw[ex];exact ZB s1 (by omega) (by omega) (by omega)
 have py:(arr.extract (sa+na) (sa+na+m)).toList.Pairwise (Le r):=ZB s2 (by omega) (by omega) (by omega)
 have mx:∀ x∈(arr.extract (sa+k) (sa+na)).toList,∃ j,sa+k≤j∧j<sa+na∧x=arr.getD j nv:=fun x hx=>by
  obtain⟨j,q1,q2,q3,q4⟩:=bT (by omega) hx
  exact⟨j,q1,q2,q4⟩
 have my:∀ x∈(arr.extract (sa+na) (sa+na+m)).toList,∃ j,sa+na≤j∧j<sa+na+m∧x=arr.getD j nv:=fun x hx=>by
  obtain⟨j,q1,q2,q3,q4⟩:=bT (by omega) hx
  exact⟨j,q1,q2,q4⟩
 have lox:∀ x∈(arr.extract (sa+k) (sa+na)).toList,r (arr.getD (sa+na) nv)≤r x∧r x≤r (arr.getD (sa+na-1) nv):=fun x hx=>by
  obtain⟨j,q1,q2,rfl⟩:=mx x hx;have:=s1 (sa+k) j (by omega) q1 q2
  exact⟨by omega,s1 j _ (by omega) (by omega) (by omega)⟩
 have loy:∀ x∈(arr.extract (sa+na) (sa+na+m)).toList,r (arr.getD (sa+na) nv)≤r x∧r x≤r (arr.getD (sa+na-1) nv):=fun x hx=>by
  obtain⟨j,q1,q2,rfl⟩:=my x hx;have:=m2 (j-(sa+na)) (by omega)
  rw[show sa+na+(j-(sa+na))=j by omega] at this
  exact⟨s2 _ _ (As _) q1 (by omega),by omega⟩
 have fin:∀ mg g',Mo r ((arr.extract (sa+k) (sa+na)).toList++(arr.extract (sa+na) (sa+na+m)).toList) mg→Q true (Dh κ (wb arr (sa+k) mg) ((pd.setIfInBounds i (sa,na+nb,pw)).eraseIdxIfInBounds (i+1)) g' none):=by
  intro mg g' M;have ej:(arr.extract (sa+k) (sa+na)).toList++(arr.extract (sa+na) (sa+na+m)).toList=(arr.extract (sa+k) (sa+k+(na-k+m))).toList:=by
   rw[K6 (by omega) (by omega),show sa+k+(na-k+m)=sa+na+m by omega]
  have hm:mg.size=na-k+m:=by
   have:=M.pm.length_eq;rw[Ca,Bh,Bh,Bh,zx,zy] at this;exact this
  have gd:=fun j=>L7 (arr:=arr) (m:=mg) (o:=sa+k) (by omega) j
  refine h _ g' (L9 (n:=na-k+m) (by omega) (ej▸M.pm)) (fun j hj=>?_) fun i j a b c=>?_
  ·rw[gd,Bk (by omega)]
  ·have bd:∀ j,sa+k≤j→j<sa+na+m→r (arr.getD (sa+na) nv)≤r (mg.getD (j-(sa+k)) nv)∧r (mg.getD (j-(sa+k)) nv)≤r (arr.getD (sa+na-1) nv):=fun j h1 h2=>by
    have:=M.pm.mem_iff.mp (x9 (a:=mg) (i:=j-(sa+k)) (by omega))
    rcases Cn.mp this with q|q
    ·exact lox _ q
    ·exact loy _ q
   rw[gd,gd,hm];by_cases i1:i<sa+k
   ·rw[Bk (by omega)]
    have u:=k2 (i-sa) (by omega)
    rw[show sa+(i-sa)=i by omega] at u
    by_cases j1:j<sa+k
    ·rw[Bk (by omega)];exact s1 i j a b (by omega)
    ·by_cases j2:j<sa+na+m
     ·rw[Bl (by omega)];exact Fu u (bd j (by omega) j2).1
     ·rw[Bk (by omega)];exact Fu u (s2 _ _ (As _) (by omega) (by omega))
   ·by_cases i2:i<sa+na+m
    ·rw[Bl (by omega)]
     by_cases j2:j<sa+na+m
     ·rw[Bl (by omega)];exact vF M.up (by omega) (by omega)
     ·rw[Bk (by omega)]
      have v:=m3 (j-(sa+na)) (by omega) (by omega)
      rw[show sa+na+(j-(sa+na))=j by omega] at v
      exact Fu (bd i (by omega) i2).2 v
    ·rw[Bk (by omega),Bk (by omega)]
     exact s2 i j (by omega) b (by omega)
 have ux:∀ x∈(arr.extract (sa+k) (sa+na)).toList,U x:=fun x hx=>by obtain⟨j,q1,q2,rfl⟩:=mx x hx;exact ua _ (x9 (by omega))
 have uy:∀ x∈(arr.extract (sa+na) (sa+na+m)).toList,U x:=fun x hx=>by obtain⟨j,q1,q2,rfl⟩:=my x hx;exact ua _ (x9 (by omega))
 have y0:(arr.extract (sa+na) (sa+na+m)).getD 0 nv=arr.getD (sa+na) nv:=gy 0 (by omega)
 have xl:(arr.extract (sa+k) (sa+na)).getD ((arr.extract (sa+k) (sa+na)).size-1) nv=arr.getD (sa+na-1) nv:=by rw[zx,gx _ (by omega)];congr 1;omega
 refine qM (fun _=>?_) fun _=>?_
 ·refine Ay (oE C rfl ux uy px py (fun mg g' M=>?_) (by rw[zx];omega) (by rw[zy];omega) ?_ fun x hx=>?_)
  ·refine Ay (Iq (Ay (Lw (Bn ?_))))
   exact fin mg g' M
  ·rw[y0];exact(lox _ (x9 (by rw[zx];omega))).1
  ·rw[xl];exact(loy x hx).2
 ·refine Ay (oD C rfl ux uy px py (fun mg g' M=>?_) (by rw[zx];omega) (by rw[zy];omega) (fun x hx=>?_) ?_)
  ·refine Ay (Iq (Ay (Lw (Bn ?_))))
   exact fin mg g' M
  ·rw[y0];exact(lox x hx).1
  ·rw[xl];exact(loy _ (x9 (by rw[zy];omega))).2
end
def mir (a:Aw Bq)(i j:Ai):Aw Bq:=mirror a i j ((j-i)/2)
theorem v7 {a:Aw Bq}{i j:Ai}(hj:j≤a.size)(k:Ai):(mir a i j).getD k nv=if i≤k∧k<j then a.getD (i+j-1-k) nv else a.getD k nv:=by
 rw[Ff,Ff,Ff];unfold mir;rw[getElem?_mirror_all hj]
 split <;> rfl
structure Cr (a b:Aw Bq)(lo n:Ai):Prop where
 pm:b.toList.Perm a.toList
 out:∀ k,k<lo∨lo+n≤k→b.getD k nv=a.getD k nv
theorem Cr.z {a b:Aw Bq}{lo n:Ai}(h:Cr a b lo n):b.size=a.size:=by
 have:=h.pm.length_eq;simpa using this
theorem Cr.rfl' {a:Aw Bq}{lo n:Ai}:Cr a a lo n:=⟨Mc _,fun _ _=>rfl⟩
theorem Cr.mir {a b:Aw Bq}{lo n i j:Ai}(h:Cr a b lo n)(h1:lo≤i)(h2:j≤lo+n)(h3:j≤a.size):Cr a (mir b i j) lo n:=
 ⟨(Pp.mp (mirror_perm _ _ _ _)).trans h.pm,fun k hk=>by rw[v7 (by rw[h.z];exact h3),Bk (by omega)];exact h.out k hk⟩
def Dsg (r:Bq→Aj)(a:Aw Bq)(lo n:Ai):Prop:=∀ i j,lo≤i→i≤j→j<lo+n→r (a.getD j nv)≤r (a.getD i nv)
theorem GV {r:Bq→Aj}{a:Aw Bq}{lo n:Ai}(h:Seg r a lo n)(h1:1≤n)(l:r (a.getD (lo+n-1) nv)≤r (a.getD (lo+n) nv)):Seg r a lo (n+1):=fun i j h2 h3 h4=>by
 by_cases q:j<lo+n
 ·exact h i j h2 h3 q
 ·have:j=lo+n:=by omega
  subst this;by_cases q2:i=lo+n
  ·subst q2;exact Nm _
  ·exact Fu (h i (lo+n-1) h2 (by omega) (by omega)) l
theorem gG {r:Bq→Aj}{a:Aw Bq}{lo n:Ai}(h:Dsg r a lo n)(h1:1≤n)(l:r (a.getD (lo+n) nv)≤r (a.getD (lo+n-1) nv)):Dsg r a lo (n+1):=fun i j h2 h3 h4=>by
 by_cases q:j<lo+n
 ·exact h i j h2 h3 q
 ·have:j=lo+n:=by omega
  subst this;by_cases q2:i=lo+n
  ·subst q2;exact Nm _
  ·exact Fu l (h i (lo+n-1) h2 (by omega) (by omega))
theorem ZC {r:Bq→Aj}{a:Aw Bq}{lo:Ai}:Seg r a lo 1:=fun i j h2 h3 h4=>by
 have:i=j:=by omega
 subst this;exact Nm _
theorem MB {r:Bq→Aj}{a:Aw Bq}{lo:Ai}:Dsg r a lo 1:=fun i j h2 h3 h4=>by
 have:i=j:=by omega
 subst this;exact Nm _
def US (r:Bq→Aj)(a:Aw Bq)(lo n q:Ai):Prop:=q+1≤n∧∀ k,lo+n-(q+1)≤k→k<lo+n→r (a.getD k nv)=r (a.getD (lo+n-1) nv)
set_option tactic.hygienic true in
theorem bJ {r:Bq→Aj}{a:Aw Bq}{lo n q:Ai}(hn:lo+n≤a.size)(h:US r a lo n q)(k:Ai):r ((mir a (lo+n-(q+1)) (lo+n)).getD k nv)=r (a.getD k nv):=by
 rw[v7 hn];have:=h.1
 split
 ·rename_i c
  rw[h.2 k (by omega) c.2,h.2 _ (by omega) (by omega)]
 ·rfl
theorem MA {r:Bq→Aj}{a:Aw Bq}{lo n:Ai}(hn:lo+n≤a.size)(h:Dsg r a lo n):Seg r (mir a lo (lo+n)) lo n:=fun i j h2 h3 h4=>by
 rw[v7 hn,v7 hn,Bl (by omega),Bl (by omega)]
 exact h _ _ (by omega) (by omega) (by omega)
section
variable {prog:Bm}{w:Cb}{A:Bz}{E:Ac→Ag→Prop}{s:Ag}{κ : Lf}{U:Bq→Prop}{r:Bq→Aj}
theorem bB (C:Cm (Au prog w) A s κ U r){i j:Ai}{arr:Aw Bq}{pd:Aw (Ai × Ai × Ai)}{g:Ai}{Q:Al Aq→Gb→Prop}(ua:∀ x∈arr.toList,U x)(hi:i<arr.size)(hj:j<arr.size)
  (q:Q (Aa (decide (r (arr.getD i nv)<r (arr.getD j nv)))) (Dh κ arr pd g none)):wpS (Au prog w) A E s (ltAt' i j) Q (Dh κ arr pd g none):=by
 refine Ay (Lw ?_);exact Ay (zQ hi (Ay (zQ hj (C.lt (ua _ (x9 hi)) (ua _ (x9 hj)) rfl q))))
theorem tJ {i j:Ai}{arr:Aw Bq}{pd:Aw (Ai × Ai × Ai)}{g:Ai}{Q:PUnit→Gb→Prop}(q:Q ⟨⟩ (Dh κ (mir arr i j) pd g none)):wpS (Au prog w) A E s (reverseSlice' i j) Q (Dh κ arr pd g none):=Iq q
theorem eM (C:Cm (Au prog w) A s κ U r){lo N:Ai}{arr:Aw Bq}{pd:Aw (Ai × Ai × Ai)}{g:Ai}{Q:Al Ai→Gb→Prop}(ua:∀ x∈arr.toList,U x)(h1:1≤N)(hz:lo+N≤arr.size)
  (h:∀ n b,1≤n→n≤N→Cr arr b lo N→Seg r b lo n→Q (Aa n) (Dh κ b pd g none)):wpS (Au prog w) A E s (countRun' lo N) Q (Dh κ arr pd g none):=by
 have uc:∀ {b:Aw Bq},Cr arr b lo N→∀ x∈b.toList,U x:=fun h x hx=>ua x (h.pm.mem_iff.mp hx);have asc:∀ {b:Aw Bq} {n:Ai} {f:Ai→Al (Al Ai) × Ai→Vf Gb Kt (ForInStep (Al (Al Ai) × Ai))},Cr arr b lo N→1≤n→n≤N→Seg r b lo n →
   (∀ x m,f x (none,m)=(ltAt' (lo+m) (lo+m-1) >>= fun o=>match o with
    |some z=>if z then pure (.done (none,m)) else pure (.yield (none,m+1))
    |_=>pure (.done (Aa none,m))))→wpS (Au prog w) A E s (forIn [n:N] (none,n) f) (fun c st'=>st'=Dh κ b pd g none∧∃ m,c=(none,m)∧n≤m∧m≤N∧Seg r b lo m∧(m=N∨r (b.getD (lo+m) nv)<r (b.getD (lo+m-1) nv))) (Dh κ b pd g none):=by
  intro b n f cr hn hN sg hf;have zb:=cr.z;refine Fj (I:=fun x c st'=>st'=Dh κ b pd g none∧c=(none,x)∧n≤x∧Seg r b lo x) ?_ ?_ ⟨rfl,rfl,As _,sg⟩
  ·rintro x c st' hx1 hx ⟨rfl,rfl,hx3,sg⟩
   rw[hf];refine Ay (bB C (uc cr) (by omega) (by omega) ?_)
   by_cases l:r (b.getD (lo+x) nv)<r (b.getD (lo+x-1) nv)
   ·simp only[l,Jk,Dq]
    exact Bn ⟨rfl,x,rfl,hx1,by omega,sg,.inr l⟩
   ·simp only[l,Jq,Bu,Ej]
    exact Bn ⟨rfl,rfl,by omega,GV sg (by omega) (by omega)⟩
  ·rintro c st' ⟨rfl,rfl,hx3,sg⟩
   rw[show max n N=N by omega] at sg ⊢
   exact⟨rfl,N,rfl,hN,As _,sg,.inl rfl⟩
 refine Ay (Hi (asc Cr.rfl' (As 1) h1 ZC fun _ _=>rfl) ?_);rintro c st' ⟨rfl,n,rfl,n1,n2,sg,nd⟩;dsimp only;refine qM (fun e=>Bn (h n arr n1 n2 Cr.rfl' sg)) fun e=>?_;have e:¬ n=N:=by simpa using e
 have nd:r (arr.getD (lo+n) nv)<r (arr.getD (lo+n-1) nv):=by omega
 apply qM
 case' h1 =>
  intro np;refine Ay (bB C ua (by omega) (by omega) ?_)
  dsimp only;refine qM (fun e=>Bn (h n arr n1 n2 Cr.rfl' sg)) fun l=>?_;have l:¬ r (arr.getD lo nv)<r (arr.getD (lo+n-1) nv):=by simpa using l
  refine Ay (tJ ?_);have cr:Cr arr (mir arr lo (lo+n)) lo N:=Cr.rfl'.mir (As _) (by omega) (by omega)
  have ds:Dsg r (mir arr lo (lo+n)) lo (n+1):=by
   refine gG (fun i j a b c=>?_) n1 ?_
   ·rw[v7 (by omega),v7 (by omega),Bl (by omega),Bl (by omega)]
    exact sg _ _ (by omega) (by omega) (by omega)
   ·rw[v7 (by omega),v7 (by omega),Bk (by omega),Bl (by omega),show lo+(lo+n)-1-(lo+n-1)=lo by omega]
    omega
 case' h2 =>
  intro np;have cr:Cr arr arr lo N:=Cr.rfl';have ds:Dsg r arr lo (n+1):=by
   have:n=1:=by omega
   subst this;exact gG MB (As _) (Hm nd)
 all_goals
  refine Ay (Pr (He ⟨rfl,?_⟩));refine Ay (Hi (Fj (I:=fun x c st'=>∃ b q,st'=Dh κ b pd g none∧c=(none,x,q)∧Cr arr b lo N∧Dsg r b lo x∧US r b lo x q)
   (Q:=fun c st'=>∃ b m q,st'=Dh κ b pd g none∧c=(none,m,q)∧1≤m∧m≤N∧Cr arr b lo N∧Dsg r b lo m∧US r b lo m q) ?_ ?_ ⟨_,0,rfl,rfl,cr,ds,by omega,fun k a b=>by rw[show k=lo+(n+1)-1 by omega]⟩) ?_)
  ·rintro x c st' hx1 hx ⟨b,q,rfl,rfl,cr,ds,eq⟩
   dsimp only;have zb:=cr.z;refine Ay (bB C (uc cr) (by omega) (by omega) ?_)
   dsimp only;refine qM (fun l=>?_) fun l=>?_
   ·have l:r (b.getD (lo+x) nv)<r (b.getD (lo+x-1) nv):=by simpa using l
    refine qM (fun qp=>Ay (tJ (Bn ⟨_,0,rfl,rfl,cr.mir (by have:=eq.1;omega) (by omega) (by omega),fun i j a c d=>?_,by omega,fun k a b=>by rw[show k=lo+(x+1)-1 by omega]⟩))) fun qp=>Bn ⟨_,0,rfl,rfl,cr,gG ds (by omega) (Hm l),by omega,fun k a b=>by rw[show k=lo+(x+1)-1 by omega]⟩
    rw[bJ (by omega) eq,bJ (by omega) eq]
    exact gG ds (by omega) (Hm l) i j a c d
   ·have l:¬ r (b.getD (lo+x) nv)<r (b.getD (lo+x-1) nv):=by simpa using l
    refine Ay (bB C (uc cr) (by omega) (by omega) ?_)
    dsimp only;refine qM (fun l2=>Bn ⟨b,x,q,rfl,rfl,by omega,by omega,cr,ds,eq⟩) fun l2=>?_
    have l2:¬ r (b.getD (lo+x-1) nv)<r (b.getD (lo+x) nv):=by simpa using l2
    have ee:r (b.getD (lo+x) nv)=r (b.getD (lo+x-1) nv):=by omega
    refine Bn ⟨b,q+1,rfl,rfl,cr,gG ds (by omega) (by omega),by have:=eq.1;omega,fun k a c=>?_⟩
    rw[show lo+(x+1)-1=lo+x by omega]
    by_cases kx:k=lo+x
    ·rw[kx]
    ·rw[ee];exact eq.2 k (by omega) (by omega)
  ·rintro c st' ⟨b,q,rfl,rfl,cr,ds,eq⟩
   rw[show max (n+1) N=N by omega] at ds eq ⊢
   exact⟨b,N,q,rfl,rfl,h1,As _,cr,ds,eq⟩
  ·rintro c st' ⟨b,m,q,rfl,rfl,m1,m2,cr,ds,eq⟩
   dsimp only;have zb:=cr.z;apply qM
   case' h1 =>
    intro qp;refine Ay (tJ ?_);have cr2:=cr.mir (i:=lo+m-(q+1)) (j:=lo+m) (by have:=eq.1;omega) (by omega) (by omega)
    have ds2:Dsg r (mir b (lo+m-(q+1)) (lo+m)) lo m:=fun i j a c d=>by
     rw[bJ (by omega) eq,bJ (by omega) eq]
     exact ds i j a c d
   case' h2 =>
    intro qp;have cr2:=cr;have ds2:=ds
   all_goals
    have z2:=cr2.z;refine Ay (tJ ?_);refine Ay (Hi (asc (cr2.mir (As _) (by omega) (by omega)) m1 m2 (MA (by omega) ds2) fun _ _=>rfl) ?_)
    rintro c st' ⟨rfl,n',rfl,q1,q2,q3,_⟩;exact Bn (h n' _ (by omega) q2 (cr2.mir (As _) (by omega) (by omega)) q3)
end
theorem c9 {a:Aw Bq}{src d:Ai}(hs:src<a.size)(hd:d≤src)(k:Ai):(bubble a src d).getD k nv=if k=src-d then a.getD src nv else if src-d<k∧k≤src then a.getD (k-1) nv else a.getD k nv:=by
 simp only[Ff];rw[getElem?_bubble hs d hd]
 repeat' split
 all_goals rfl
section
variable {prog:Bm}{w:Cb}{A:Bz}{E:Ac→Ag→Prop}{s:Ag}{κ : Lf}{U:Bq→Prop}{r:Bq→Aj}
theorem iW (C:Cm (Au prog w) A s κ U r){lo n ok:Ai}{arr:Aw Bq}{pd:Aw (Ai × Ai × Ai)}{g:Ai}{Q:Aq→Gb→Prop}(ua:∀ x∈arr.toList,U x)(h1:ok≤n)(hz:lo+n≤arr.size)(sg:Seg r arr lo ok)
  (h:∀ b,Cr arr b lo n→Seg r b lo n→Q true (Dh κ b pd g none)):wpS (Au prog w) A E s (binarySort' lo n ok) Q (Dh κ arr pd g none):=by
 have uc:∀ {b:Aw Bq},Cr arr b lo n→∀ x∈b.toList,U x:=fun h x hx=>ua x (h.pm.mem_iff.mp hx);have sg1:Seg r arr lo (max ok 1):=by
  by_cases q:ok=0
  ·rw[q];exact ZC
  ·rw[show max ok 1=ok by omega];exact sg
 refine Ay (Hi (Fj (I:=fun k c st'=>c=(none,())∧∃ b,st'=Dh κ b pd g none∧Cr arr b lo n∧Seg r b lo (min k (max ok (max n 1))))
  (Q:=fun c st'=>c=(none,())∧∃ b,st'=Dh κ b pd g none∧Cr arr b lo n∧Seg r b lo n) ?_ ?_ ⟨rfl,arr,rfl,Cr.rfl',?_⟩) ?_)
 ·rintro k c st' hk hkn ⟨rfl,b,rfl,cr,sg⟩
  have zb:=cr.z;rw[show min k (max ok (max n 1))=k by omega] at sg
  dsimp only;refine Ay (Hi (Fj (I:=fun x c st'=>st'=Dh κ b pd g none∧∃ l u,c=(none,l,u)∧l≤u∧u≤k∧u-l≤k-x∧(∀ i,i<l→r (b.getD (lo+i) nv)≤r (b.getD (lo+k) nv))∧∀ i,u≤i→i<k→r (b.getD (lo+k) nv)<r (b.getD (lo+i) nv))
   (Q:=fun c st'=>st'=Dh κ b pd g none∧∃ l u,c=(none,l,u)∧l≤k∧(∀ i,i<l→r (b.getD (lo+i) nv)≤r (b.getD (lo+k) nv))∧∀ i,l≤i→i<k→r (b.getD (lo+k) nv)<r (b.getD (lo+i) nv)) ?_ ?_
   ⟨rfl,0,k,rfl,by omega,by omega,by omega,fun i hi=>by omega,fun i a b=>by omega⟩) ?_)
  ·rintro x c st' _ hx ⟨rfl,l,u,rfl,q1,q2,q3,q4,q5⟩
   dsimp only;refine qM (fun e=>Bn ⟨rfl,l,u,rfl,by omega,q4,fun i a b=>q5 i (by omega) b⟩) fun e=>?_
   refine Ay (bB C (uc cr) (by omega) (by omega) ?_)
   dsimp only;refine qM (fun z=>?_) fun z=>?_
   ·have z:r (b.getD (lo+k) nv)<r (b.getD (lo+(l+u)/2) nv):=by simpa using z
    exact Bn ⟨rfl,_,_,rfl,by omega,by omega,by omega,q4,fun i a c=>Int.lt_of_lt_of_le z (sg _ _ (by omega) (by omega) (by omega))⟩
   ·have z:¬ r (b.getD (lo+k) nv)<r (b.getD (lo+(l+u)/2) nv):=by simpa using z
    exact Bn ⟨rfl,_,_,rfl,by omega,by omega,by omega,fun i a=>Fu (sg _ _ (by omega) (by omega) (by omega)) (Zb.mp z),q5⟩
  ·rintro c st' ⟨rfl,l,u,rfl,q1,q2,q3,q4,q5⟩
   exact⟨rfl,l,u,rfl,by omega,q4,fun i a b=>q5 i (by omega) b⟩
  ·rintro c st' ⟨rfl,l,u,rfl,q1,q4,q5⟩
   dsimp only;refine Ay (Iq (Bn ⟨rfl,_,rfl,⟨(Pp.mp (bubble_perm _ _ _)).trans cr.pm,fun j hj=>?_⟩,?_⟩))
   ·show (bubble b (lo+k) (lo+k-(lo+l))).getD j nv=_
    rw[c9 (by omega) (by omega),Bk (by omega),Bk (by omega)]
    exact cr.out j hj
   ·rw[show min (k+1) (max ok (max n 1))=k+1 by omega]
    have e:∀ j,(bubble b (lo+k) (lo+k-(lo+l))).getD j nv=if j=lo+l then b.getD (lo+k) nv else if lo+l<j∧j≤lo+k then b.getD (j-1) nv else b.getD j nv:=fun j=>by
     rw[c9 (by omega) (by omega),show lo+k-(lo+k-(lo+l))=lo+l by omega]
    intro i j a c d;show r ((bubble b (lo+k) (lo+k-(lo+l))).getD i nv)≤r ((bubble b (lo+k) (lo+k-(lo+l))).getD j nv);rw[e,e];by_cases i1:i<lo+l
    ·rw[Bk (by omega),Bk (by omega)]
     have u1:=q4 (i-lo) (by omega)
     rw[show lo+(i-lo)=i by omega] at u1
     by_cases j1:j<lo+l
     ·rw[Bk (by omega),Bk (by omega)];exact sg i j a c (by omega)
     ·by_cases j2:j=lo+l
      ·rw[Bl j2];exact u1
      ·rw[Bk j2,Bl (by omega)];exact sg _ _ a (by omega) (by omega)
    ·by_cases i2:i=lo+l
     ·rw[Bl i2]
      by_cases j2:j=lo+l
      ·rw[Bl j2];exact Nm _
      ·rw[Bk j2,Bl (by omega)]
       have:=q5 (j-1-lo) (by omega) (by omega)
       rw[show lo+(j-1-lo)=j-1 by omega] at this
       exact Hm this
     ·rw[Bk i2,Bl (by omega),Bk (by omega),Bl (by omega)]
      exact sg _ _ (by omega) (by omega) (by omega)
 ·rintro c st' ⟨rfl,b,rfl,cr,sg⟩
  refine⟨rfl,b,rfl,cr,?_⟩;intro i j a c d;exact sg i j a c (by omega)
 ·rw[show min (max ok 1) (max ok (max n 1))=max ok 1 by omega];exact sg1
 ·rintro c st' ⟨rfl,b,rfl,cr,sg⟩
  exact Bn (h b cr sg)
end
def Rn (r:Bq→Aj)(a:Aw Bq):Ab (Ai × Ai × Ai)→Ai→Ai→Prop
 |[],x,y=>x=y
 |(s,n,_)::t,x,y=>s=x∧0<n∧Seg r a s n∧Rn r a t (x+n) y
section
variable {r:Bq→Aj}{a b:Aw Bq}
theorem Rn.app:∀ {L1 L2:Ab (Ai × Ai × Ai)} {x y:Ai},Rn r a (L1++L2) x y↔∃ m,Rn r a L1 x m∧Rn r a L2 m y
 |[],L2,x,y=>⟨fun h=>⟨x,rfl,h⟩,fun ⟨m,h1,h2⟩=>by cases h1;exact h2⟩
 |(s,n,p)::t,L2,x,y=>by
  show s=x∧0<n∧Seg r a s n∧Rn r a (t++L2) (x+n) y↔∃ m,(s=x∧0<n∧Seg r a s n∧Rn r a t (x+n) m)∧Rn r a L2 m y;rw[Rn.app];exact⟨fun ⟨h1,h2,h3,m,h4,h5⟩=>⟨m,⟨h1,h2,h3,h4⟩,h5⟩,fun ⟨m,⟨h1,h2,h3,h4⟩,h5⟩=>⟨h1,h2,h3,m,h4,h5⟩⟩
theorem Rn.le:∀ {L:Ab (Ai × Ai × Ai)} {x y:Ai},Rn r a L x y→x+L.length≤y
 |[],x,y,h=>by cases h;simp
 |(s,n,p)::t,x,y,h=>by have:=Rn.le h.2.2.2;have:=h.2.1;simp only[Cd];omega
theorem Rn.congr:∀ {L:Ab (Ai × Ai × Ai)} {x y:Ai},Rn r a L x y→(∀ k,x≤k→k<y→b.getD k nv=a.getD k nv)→Rn r b L x y
 |[],x,y,h,_=>h
 |(s,n,p)::t,x,y,h,e=>by
  obtain⟨rfl,h2,h3,h4⟩:=h;have l:=Rn.le h4;refine⟨rfl,h2,fun i j a c d=>?_,Rn.congr h4 fun k h1 h2=>e k (by omega) h2⟩
  rw[e i (by omega) (by omega),e j (by omega) (by omega)]
  exact h3 i j a c d
theorem Rn.mod {f:Ai × Ai × Ai→Ai × Ai × Ai}(hf:∀ u v p,∃ p',f (u,v,p)=(u,v,p')):∀ {L:Ab (Ai × Ai × Ai)} {i x y:Ai},Rn r a L x y→Rn r a (L.modify i f) x y
 |[],i,x,y,h=>by simpa using h
 |(s,n,p)::t,0,x,y,h=>by
  obtain⟨p',e⟩:=hf s n p;rw[List.modify_zero_cons,e];exact h
 |(s,n,p)::t,i+1,x,y,h=>by
  rw[List.modify_succ_cons];exact⟨h.1,h.2.1,h.2.2.1,Rn.mod hf h.2.2.2⟩
end
theorem lX {α : Type}{l:Ab α}{i:Ai}(h:i+1<l.length):∃ L1 x y L2,l=L1++x::y::L2∧L1.length=i:=by
 refine⟨l.take i,l[i],l[i+1],l.drop (i+2),?_,by rw[Dp];omega⟩
 rw[← Gm h,← Gm (by omega),Nn]
section
variable {prog:Bm}{w:Cb}{A:Bz}{E:Ac→Ag→Prop}{s:Ag}{κ : Lf}{U:Bq→Prop}{r:Bq→Aj}
theorem lF (C:Cm (Au prog w) A s κ U r){i e:Ai}{Q:Aq→Gb→Prop}{arr:Aw Bq}{pd:Aw (Ai × Ai × Ai)}{g:Ai}(ua:∀ x∈arr.toList,U x)(hi:i+1<pd.size)(R:Rn r arr pd.toList 0 e)(he:e≤arr.size)
  (h:∀ b pd' g,b.toList.Perm arr.toList→(∀ k,e≤k→b.getD k nv=arr.getD k nv)→Rn r b pd'.toList 0 e→pd'.size+1=pd.size→Q true (Dh κ b pd' g none)):wpS (Au prog w) A E s (mergeAt' i) Q (Dh κ arr pd g none):=by
 obtain⟨L1,⟨sa,na,pa⟩,⟨sb,nb,pb⟩,L2,el,hl⟩:=lX (l:=pd.toList) (i:=i) (by simpa using hi)
 rw[el] at R;obtain⟨m,R1,rfl,p1,s1,rfl,p2,s2,R2⟩:=Rn.app.mp R;have l2:=Rn.le R2;have e1:pd[i]? = Aa (sa,na,pa):=by
  rw[← Bi,el,← hl,Dd (As _),Wd];rfl
 have e2:pd[i+1]? = Aa (sa+na,nb,pb):=by
  rw[← Bi,el,← hl,Dd (by omega),Jr];rfl
 refine oC C ua e1 e2 p1 p2 (by omega) s1 s2 fun b g pm out sg=>?_
 have ep:((pd.setIfInBounds i (sa,na+nb,pa)).eraseIdxIfInBounds (i+1)).toList=L1++(sa,na+nb,pa)::L2:=by
  rw[Array.toList_eraseIdxIfInBounds,Array.toList_setIfInBounds,el,← hl,List.set_append_right _ _ (As _),Wd,Cp,List.eraseIdx_append_of_length_le (by omega),Jr]
  rfl
 refine h b _ g pm (fun k hk=>out k (by omega)) ?_ ?_
 ·rw[ep]
  refine Rn.app.mpr ⟨sa,R1.congr fun k _ hk=>out k (by omega),rfl,by omega,sg,?_⟩
  rw[← Zx];exact R2.congr fun k hk _=>out k (by omega)
 ·have:=congrArg Mv ep
  have q:=congrArg Mv el;simp only[Bh,Ca,Cd] at this q;omega
theorem eO (C:Cm (Au prog w) A s κ U r){Q:Rc→Gb→Prop}{arr:Aw Bq}{g:Ai}(ua:∀ x∈arr.toList,U x)(h2:0<arr.size)
  (h:∀ b pd g,b.toList.Perm arr.toList→b.toList.Pairwise (Le r)→Q () (Dh κ b pd g none)):wpS (Au prog w) A E s sortRuns' Q (Dh κ arr #[] g none):=by
 have uc:∀ {b:Aw Bq},b.toList.Perm arr.toList→∀ x∈b.toList,U x:=fun h x hx=>ua x (h.mem_iff.mp hx);have zc:∀ {b:Aw Bq},b.toList.Perm arr.toList→b.size=arr.size:=fun h=>by simpa using h.length_eq
 refine Ay (Lw ?_);dsimp only;refine Ay (Hi (Fj (I:=fun x c st'=>∃ b pd g lo,st'=Dh κ b pd g none∧c=(none,lo)∧b.toList.Perm arr.toList∧lo≤arr.size∧min x arr.size≤lo∧Rn r b pd.toList 0 lo)
  (Q:=fun c st'=>∃ b pd g,st'=Dh κ b pd g none∧c=(none,arr.size)∧b.toList.Perm arr.toList∧Rn r b pd.toList 0 arr.size) ?_ ?_ ⟨arr,#[],g,0,rfl,rfl,Mc _,by omega,by omega,rfl⟩) ?_)
 ·rintro x c st' _ hx ⟨b,pd,g,lo,rfl,rfl,pm,lo1,lo2,R⟩
  have zb:=zc pm;dsimp only;refine qM (fun e=>Bn ⟨b,pd,g,rfl,by rw[show lo=arr.size by omega],pm,by rw[show arr.size=lo by omega];exact R⟩) fun e=>?_
  refine Ay (eM C (uc pm) (by omega) (by omega) fun n b2 n1 n2 cr sg=>?_)
  have R2:Rn r b2 pd.toList 0 lo:=R.congr fun k _ hk=>cr.out k (.inl hk);have pm2:=cr.pm.trans pm;have z2:=zc pm2;dsimp only;apply qM
  case' h1 =>
   intro lt;refine Ay (Pr (He ⟨rfl,?_⟩));refine Ay (iW C (uc pm2) (by omega) (by omega) sg fun b3 cr3 sg3=>?_)
   have R3:Rn r b3 pd.toList 0 lo:=R2.congr fun k _ hk=>cr3.out k (.inl hk);have pm3:=cr3.pm.trans pm2;refine qM (fun e=>by simp at e) fun _=>?_
   have n3:lo+min (arr.size-lo) ((sortPriv% PySem.Builtin.minRun) arr.size arr.size 0)≤arr.size:=by omega
   have n4:0<min (arr.size-lo) ((sortPriv% PySem.Builtin.minRun) arr.size arr.size 0):=by omega
  case' h2 =>
   intro lt;have R3:=R2;have pm3:=pm2;have sg3:=sg;have n3:lo+n≤arr.size:=by omega
   have n4:0<n:=n1
  all_goals
   refine Ay (Lw ?_);dsimp only;rcases hb:pd.back? with _|⟨s1,l1,p1⟩
   ·dsimp only
    refine Ay (Iq (Bn ⟨_,_,_,_,rfl,rfl,pm3,n3,by omega,?_⟩))
    show Rn r _ (pd.push _).toList 0 _;rw[Eo];exact Rn.app.mpr ⟨lo,R3,rfl,n4,sg3,rfl⟩
   ·dsimp only
    refine Ay (Hi (Fj (I:=fun _ c st'=>c=(none,())∧∃ b pd g,st'=Dh κ b pd g none∧b.toList.Perm arr.toList∧Rn r b pd.toList 0 lo∧Seg r b lo _)
     (Q:=fun c st'=>c=(none,())∧∃ b pd g,st'=Dh κ b pd g none∧b.toList.Perm arr.toList∧Rn r b pd.toList 0 lo∧Seg r b lo _) ?_ (fun _ _ z=>z) ⟨rfl,_,pd,g,rfl,pm3,R3,sg3⟩) ?_)
    ·rintro y c st' _ hy ⟨rfl,b,pd,g,rfl,pm,R,sg⟩
     have zb:=zc pm;refine Ay (Lw ?_);dsimp only;by_cases hp:pd.size>1
     ·rw[Bl hp]
      rcases hq:pd[pd.size-2]? with _|⟨u,v,old⟩
      ·exact Bn ⟨rfl,b,pd,g,rfl,pm,R,sg⟩
      ·dsimp only
       refine qM (fun _=>Bn ⟨rfl,b,pd,g,rfl,pm,R,sg⟩) fun _=>?_;refine Ay (lF C (uc pm) (by omega) R (by omega) fun b' pd' g' p' out R' _=>?_)
       refine qM (fun e=>by simp at e) fun _=>Bn ⟨rfl,b',pd',g',rfl,p'.trans pm,R',fun i j a c d=>?_⟩
       rw[out i a,out j (by omega)]
       exact sg i j a c d
     ·rw[Bk hp]
      exact Bn ⟨rfl,b,pd,g,rfl,pm,R,sg⟩
    ·rintro c st' ⟨rfl,b,pd,g,rfl,pm,R,sg⟩
     dsimp only;refine Ay (Iq (Ay (Iq (Bn ⟨_,_,_,_,rfl,rfl,pm,n3,by omega,?_⟩))))
     show Rn r b ((pd.modify (pd.size-1) _).push _).toList 0 _;rw[Eo,Array.toList_modify];exact Rn.app.mpr ⟨lo,Rn.mod (fun _ _ _=>⟨_,rfl⟩) R,rfl,n4,sg,rfl⟩
 ·rintro c st' ⟨b,pd,g,lo,rfl,rfl,pm,lo1,lo2,R⟩
  have:lo=arr.size:=by omega
  subst this;exact⟨b,pd,g,rfl,rfl,pm,R⟩
 ·rintro c st' ⟨b,pd,g,rfl,rfl,pm,R⟩
  dsimp only;have hl:=R.le;rw[Bh] at hl;refine Ay (Hi (Fj (I:=fun x c st'=>c=(none,())∧∃ b pd g,st'=Dh κ b pd g none∧b.toList.Perm arr.toList∧Rn r b pd.toList 0 arr.size∧(pd.size≤1∨pd.size+x≤arr.size))
   (Q:=fun c st'=>c=(none,())∧∃ b pd g,st'=Dh κ b pd g none∧b.toList.Perm arr.toList∧Rn r b pd.toList 0 arr.size∧pd.size≤1) ?_ ?_ ⟨rfl,b,pd,g,rfl,pm,R,by omega⟩) ?_)
  ·rintro x c st' _ hx ⟨rfl,b,pd,g,rfl,pm,R,hs⟩
   have zb:=zc pm;refine Ay (Lw ?_);dsimp only;refine qM (fun e=>Bn ⟨rfl,b,pd,g,rfl,pm,R,e⟩) fun e=>?_;refine Ay (lF C (uc pm) ?_ R (by omega) fun b' pd' g' p' out R' z'=>?_)
   ·have e:¬ pd.size≤1:=e
    have q:∀ (c:Prop) [Ps c],(if c then pd.size-2-1 else pd.size-2)+1<pd.size:=fun c _=>by split <;> omega
    exact q _
   exact qM (fun e=>by simp at e) fun _=>Bn ⟨rfl,b',pd',g',rfl,p'.trans pm,R',by omega⟩
  ·rintro c st' ⟨rfl,b,pd,g,rfl,pm,R,hs⟩
   exact⟨rfl,b,pd,g,rfl,pm,R,by omega⟩
  ·rintro c st' ⟨rfl,b,pd,g,rfl,pm,R,hs⟩
   have zb:=zc pm;refine Bn (h b pd g pm ?_);have hs:pd.toList.length≤1:=by simpa using hs
   revert R hs
   cases pd.toList with
   |nil=>intro R;have:0=arr.size:=R;omega
   |cons q t =>
    obtain⟨s0,n0,p0⟩:=q;intro R hs;have:t=[]:=by cases t with|nil=>rfl|cons _ _=>simp at hs
    subst this;obtain⟨rfl,_,sg,e⟩:=R;have e:n0=arr.size:=by have:0+n0=arr.size:=e;omega
    subst e;rw[Iy];intro i j hi hj l;have hi':i<b.size:=by simpa using hi
    have hj':j<b.size:=by simpa using hj
    have:=sg i j (by omega) (by omega) (by omega)
    simpa [Gn,hi',hj',Le] using this
end
structure Cmps (prog:Bm)(w:Cb)(h0:Bs)(vs:Ab Ac)(f:Ai→Ai→Aq):Prop where
 ex:∃ κ,∀ (A:Bz),A.units<Fg→∀ (s:Ag),Sup h0 s.heap→(∀ (Q:Lf→Ag→Prop) (E:Ac→Ag→Prop),Q κ s→Ao (Au prog w) A (keyKind' vs.toArray) Q E s)∧∀ i j (C:Aq→Ag→Prop),i<vs.length→j<vs.length→C (f i j) s→kas_ask prog w A κ vs i j C s
open Classical in
def kV {K:Type}(is:K→Ac→Prop)(d:K)(v:Ac):K:=if h:∃ k,is k v then choose h else d
open Classical in
theorem lD {K:Type}{is:K→Ac→Prop}{d:K}{v:Ac}(h:∃ k,is k v):is (kV is d v) v:=by
 unfold kV;rw[dif_pos h];exact choose_spec h
section
variable {prog:Bm}{w:Cb}{A:Bz}{E:Ac→Ag→Prop}{s:Ag}
theorem BD {K:Type}{is:K→Ac→Prop}{lt':K→K→Aq}{d:K}(O:Ord lt')(inj:∀ {k k':K} {v:Ac},is k v→is k' v→k=k'){a:Af}{vs:Ab Ac}{ks:Ab K}{n:Ai}{h0:Bs}{P:PySem.Fin→Ag→Prop}(hlen:vs.length=ks.length)(hks:∀ i v,vs[i]? = Aa v→is (ks.getD i d) v)(ho:s.heap.get? a=Aa (Er "list" vs.toArray n))(hu:A.units<Fg)(hz:vs.length≤100000)(c:2≤vs.length→Cmps prog w h0 vs (c7 lt' ks d))(hS:Sup h0 s.heap)(ha:h0.get? a=none)
  (h:∀ ps:Ab (K × Ac),ps.Perm (ks.zip vs)→Nf lt' (ps.map (·.1))→P (.done (.ret .none)) { s with heap:=sortedHeap s.heap a vs (ps.map (·.2)).toArray }) : Ao (Au prog w) A (Hs.«list.sort» ⟨[.ref a],[]⟩) P E s:=by
 rw[list_sort_plain];have hb:a<s.heap.objs.size:=Ba ho;have hsz:vs.toArray.size=vs.length:=by simp
 refine Ad (listItems_at ho rfl (Ad (listUpdate_at ho rfl ?_ (by rw[hsz,Ev];omega) (Ha _))))
 obtain⟨e1,ho1⟩:∃ e1,(s.heap.update a (Ey fun _=>#[])).get? a=Aa (Er "list" #[] e1):=⟨_,Lg ho (fun _=>#[])⟩;refine Ad (seqEpoch_at ho1 rfl (Ad (Tp (Ad (Vb (Eg ?_) (Ha _))) (by show vs.length≤_;rw[Ev];omega))))
 have ho6:(((s.heap.update a (Ey fun _=>#[])).push (Er "tuple" vs.toArray 0)).push (Er "list" #[] 0)).get? a=Aa (Er "list" #[] e1):=
  Ah _ (Ah _ ho1)
 have S6:Sup h0 (((s.heap.update a (Ey fun _=>#[])).push (Er "tuple" vs.toArray 0)).push (Er "list" #[] 0)):=fun b o e =>
  Ah _ (Ah _ ((Di _ _ (fun z:a=b=>by rw[← z,ha] at e;cases e)).trans (hS b o e)))
 show Ao (Au prog w) A _ P E { s with heap:=((s.heap.update a (Ey fun _=>#[])).push (Er "tuple" vs.toArray 0)).push (Er "list" #[] 0) }
 dsimp only;have fin:∀ (st':Gb) (ps:Ab (K × Ac)),(arrOf st').map (·.2)=(ps.map (·.2)).toArray→failedOf st'=none→ps.Perm (ks.zip vs)→Nf lt' (ps.map (·.1))→Ao (Au prog w) A (do
   let touched:=(← seqEpoch a) != e1
   Builtin.List.listUpdate (.ref a) fun _=>(arrOf st').map (·.2)
   if let Aa e:=failedOf st' then rule "list.sort.comparison-raised";throw e
   if touched then rule "list.sort.modified";raiseError "ValueError" "list modified during sort"
   ret .none) P E { s with heap:=((s.heap.update a (Ey fun _=>#[])).push (Er "tuple" vs.toArray 0)).push (Er "list" #[] 0) }:=by
  intro st' ps h1 h2 h3 h4;have hl:(ps.map (·.2)).length=vs.length:=by rw[Ar,h3.length_eq,Yn,hlen,Vz]
  refine Ad (seqEpoch_at ho6 rfl ?_);rw[h1];refine Ad (listUpdate_at ho6 rfl ?_ (Ha _) (by show (ps.map (·.2)).toArray.size≤_;rw[Bb,hl,Ev];omega))
  rw[h2];simp only[bne_self_eq_false,Bu,Ej];exact Am (h ps h3 h4)
 by_cases h2:vs.toArray.size<2
 ·rw[Bl h2,Bl h2]
  refine Ad (Am ?_);rw[StateT.run_pure];refine Ad (Am ?_);refine fin (Dh general' (vs.toArray.zip vs.toArray) #[] 7 none) (ks.zip vs) ?_ rfl (Mc _) ?_
  ·show (vs.toArray.zip vs.toArray).map (·.2)=_
   apply Xz.mp;simp[List.map_snd_zip,hlen]
  ·rw[Rk (by omega)]
   match ks,hlen with
   |[],_=>exact Qe
   |[_],_=>exact Lv _ _
   |_::_::_,e=>simp at e h2;omega
 ·rw[Bk h2,Bk h2]
  have h2':2≤vs.length:=by omega
  obtain⟨κ,C⟩:=c h2';obtain⟨k1,k2⟩:=C A hu { s with heap:=((s.heap.update a (Ey fun _=>#[])).push (Er "tuple" vs.toArray 0)).push (Er "list" #[] 0) } S6
  have kv:∀ i,i<vs.length→kV is d (vs.getD i Dj)=ks.getD i d:=fun i hi=>by
   have q:=hks i (vs.getD i Dj) (by rw[Pq,Ap hi];rfl)
   exact inj (lD ⟨_,q⟩) q
  have km:∀ i,i<vs.length→ks.getD i d∈ks:=fun i hi=>by
   have:i<ks.length:=by omega
   simp[Jo,this]
  have cm:Cm (Au prog w) A { s with heap:=((s.heap.update a (Ey fun _=>#[])).push (Er "tuple" vs.toArray 0)).push (Er "list" #[] 0) } κ (fun x=>∃ i,i<vs.length∧x=(vs.getD i Dj,vs.getD i Dj)) (fun x=>f7 lt' ks (kV is d x.1)):=by
   refine⟨?_⟩;rintro x y ⟨i,hi,rfl⟩ ⟨j,hj,rfl⟩ E Q st hk q;rw[lt'_eq];refine Ay (Lw ?_);rw[hk];rw[kv i hi,kv j hj,← iH O (km i hi)] at q;refine Ay (Pr (HT (Hz (k2 i j (fun b s'=>s'=_∧b=c7 lt' ks d i j) hi hj ⟨rfl,rfl⟩) ?_ fun _ _ e=>e.elim)));rintro b s' ⟨rfl,rfl⟩;exact⟨rfl,Bn q⟩
  have pl:(vs.toArray.zip vs.toArray).toList=(Do vs.length).map fun i=>(vs.getD i Dj,vs.getD i Dj):=by
   apply Nl
   ·simp
   ·intro i h1 h2
    have:i<vs.length:=by simpa using h2
    simp[this]
  refine Ad (k1 _ _ ?_);refine Ad (Hz (eO (E:=E) (Q:=fun _ st'=>∃ b pd g,st'=Dh κ b pd g none∧b.toList.Perm (vs.toArray.zip vs.toArray).toList∧b.toList.Pairwise (Le fun x=>f7 lt' ks (kV is d x.1))) cm (arr:=vs.toArray.zip vs.toArray) (g:=7) ?_ ?_ fun b pd g p q=>⟨b,pd,g,rfl,p,q⟩) ?_ fun _ _ e=>e)
  ·intro x hx
   rw[pl] at hx;obtain⟨i,hi,rfl⟩:=Dk.mp hx;exact⟨i,Et.mp hi,rfl⟩
  ·simp;omega
  ·rintro⟨⟨⟩,st'⟩ s' ⟨rfl,b,pd,g,rfl,pm,up⟩
   refine fin _ (b.toList.map fun x=>(kV is d x.1,x.2)) ?_ rfl ?_ ?_
   ·show b.map (·.2)=_
    apply Xz.mp;simp
   ·refine(pm.map _).trans ?_
    rw[pl,Hn];have:ks.zip vs=(Do vs.length).map fun i=>(ks.getD i d,vs.getD i Dj):=by
     apply Nl
     ·simp[hlen]
     ·intro i h1 h2
      have h3:i<vs.length:=by simpa using h2
      have h4:i<ks.length:=by omega
      simp[h3,h4]
    rw[this];refine List.Perm.of_eq (List.map_congr_left fun i hi=>?_);show (kV is d (vs.getD i Dj),_)=_;rw[kv i (Et.mp hi)]
   ·unfold Nf
    rw[Hn,Ja];refine up.imp_of_mem fun {x y} hx hy h=>?_;have hx:=pm.mem_iff.mp hx;have hy:=pm.mem_iff.mp hy;rw[pl] at hx hy;obtain⟨i,hi,rfl⟩:=Dk.mp hx;obtain⟨j,hj,rfl⟩:=Dk.mp hy;have h:f7 lt' ks (kV is d (vs.getD i Dj))≤f7 lt' ks (kV is d (vs.getD j Dj)):=h;show lt' (kV is d (vs.getD j Dj)) (kV is d (vs.getD i Dj))=false;have hj:=Et.mp hj;rw[iH O (ks:=ks) (by rw[kv j hj];exact km j hj)]
    exact Df (by omega)
end
section
variable {prog:Bm}{w:Cb}{h0:Bs}
theorem TK {A:Bz}{s:Ag}{b:Aq}{Q:Aq→Ag→Prop}:∀ {xs ys:Ab Aj} {us vs:Ab Ac} {i:Ai} {N M:Ai},ItemsAre (Bg prog w) xs us→ItemsAre (Bg prog w) ys vs→N+ys.length=M+xs.length→Q (_H.lexLt xs ys) s→KatLex prog w A b (decide (N<M)) Q (us.zip vs) i s:=by
 intro xs ys us vs i N M hx
 induction hx generalizing ys vs i with
 |nil =>
  intro hy hl h;cases hy with
  |nil =>
   have:decide (N<M)=false:=Df (by simp at hl;omega)
   rw[this];exact h
  |@cons k v ys vs q r =>
   have:decide (N<M)=true:=Cu (by simp at hl;omega)
   rw[this];exact h
 |@cons x u xs us qx rx ih =>
  intro hy hl h;cases hy with
  |nil =>
   have:decide (N<M)=false:=Df (by simp at hl;omega)
   rw[this];exact h
  |@cons y v ys vs qy ry =>
   obtain⟨t,rfl⟩:=yR (prog:=prog) (w:=w) qx;obtain⟨t',rfl⟩:=yR (prog:=prog) (w:=w) qy;rw[Pc];refine kat_cons (Xe ?_);rw[_H.lexLt_cons] at h;refine kat_go (fun e=>kat_yes ?_) fun e=>kat_no ?_
   ·rw[Bl (by simpa using e)] at h
    exact ih ry (by simp at hl;omega) h
   ·rw[Bk (by simpa using e)] at h
    cases b&&i == 0 with
    |true=>exact oneLt_int h
    |false=>exact kat_one _ _ (Uj h)
theorem ZI {h:Bs}:∀ {vs:Ab Ac} {ks:Ab (Ab Aj)},vs.length=ks.length→(∀ i v,vs[i]? = Aa v→isT prog w h (ks.getD i []) v)→(∀ k∈ks,k≠[])→∃ fs,KatTups h vs fs∧fs.length=vs.length∧∀ f∈fs,∃ n t,f=Pu n t
 |[],[],_,_,_=>⟨[],trivial,rfl,fun f hf=>by simp at hf⟩
 |v::vs,k::ks,hl,hv,hne=>by
  obtain⟨fs,a1,a2,a3⟩:=ZI (vs:=vs) (ks:=ks) (by simpa using hl) (fun i u hu=>by simpa using hv (i+1) u (by simpa using hu)) fun k hk=>hne k (by simp[hk])
  obtain⟨a,rfl,o,items,n,ho,hc,hd,hi⟩:=hv 0 v rfl;have hk:k≠[]:=hne k (by simp)
  have hi':ItemsAre (Bg prog w) k items.toList:=hi;cases hz:items.toList with
  |nil=>rw[hz] at hi';cases hi';exact absurd rfl hk
  |cons f rest =>
   rw[hz] at hi';cases hi' with
   |cons q _ =>
    obtain⟨t,rfl⟩:=yR (prog:=prog) (w:=w) q;refine⟨_::fs,KatTups.cons ho hc hd (by rw[← Bi,hz];rfl) a1,by simp[a2],fun f hf=>?_⟩
    rcases Av.mp hf with rfl|hf
    ·exact⟨_,_,rfl⟩
    ·exact a3 f hf
theorem LY {vs:Ab Ac}{ks:Ab (Ab Aj)}(hl:vs.length=ks.length)(hv:∀ i v,vs[i]? = Aa v→isT prog w h0 (ks.getD i []) v)(hne:∀ k∈ks,k≠[])(h2:2≤vs.length):Cmps prog w h0 vs (c7 _H.lexLt ks []):=by
 refine⟨tuples' (Hr "int" != Hr "tuple"),fun A hu s hS=>⟨fun Q E h=>?_,fun i j C hi hj h=>?_⟩⟩
 ·obtain⟨fs,a1,a2,a3⟩:=ZI (h:=s.heap) hl (fun i v hv'=>by obtain⟨a,e,q⟩:=hv i v hv';exact⟨a,e,kA hS q⟩) hne
  refine kat_kind a1 (by omega) (fun v hv'=>?_) (by decide) h
  obtain⟨n,t,rfl⟩:=a3 v hv';exact Looks.of_pure rfl
 ·have g:∀ k (hk:k<vs.length),∃ a,vs.getD k Dj=.ref a∧Ot (Bg prog w) s.heap (ks.getD k []) a:=fun k hk=>by
   obtain⟨a,e,q⟩:=hv k vs[k] (Ap hk);exact⟨a,by rw[← e];simp[Jo,hk],kA hS q⟩
  obtain⟨a,ea,oa,ia,na,ha,_,da,qa⟩:=g i hi;obtain⟨b,eb,ob,ib,nb,hb,_,db,qb⟩:=g j hj;unfold kas_ask;rw[ea,eb];refine kat_lt ha da hb db (TK qa qb ?_ h);have la:=qa.length;have lb:=qb.length;simp only[Bh] at la lb;omega
theorem LX {vs:Ab Ac}{ks:Ab Aj}(hl:vs.length=ks.length)(hv:∀ i v,vs[i]? = Aa v→isI prog w (ks.getD i 0) v)(h2:2≤vs.length):Cmps prog w h0 vs (c7 ltI ks 0):=by
 have hi:∀ v∈vs,∃ n t,v=Pu n t:=fun v hm=>by
  obtain⟨i,hi,e⟩:=Co.mp hm;obtain⟨t,q⟩:=yR (hv i v (by rw[Ap hi,e]))
  exact⟨_,t,q⟩
 refine⟨oneType',fun A hu s hS=>⟨fun Q E h=>?_,fun i j C hi hj h=>?_⟩⟩
 ·obtain⟨v₁,v₂,rest,rfl⟩:∃ v₁ v₂ rest,vs=v₁::v₂::rest:=by
   match vs,h2 with
   |v₁::v₂::rest,_=>exact⟨v₁,v₂,rest,rfl⟩
  rw[keyKind_ints (intsAre_map _ hi)];exact Am h
 ·have g:∀ k (hk:k<vs.length),∃ t,vs.getD k Dj=.int (ks.getD k 0) t:=fun k hk=>by
   obtain⟨t,q⟩:=yR (hv k vs[k] (Ap hk));exact⟨t,by rw[← q];simp[Jo,hk]⟩
  obtain⟨t,et⟩:=g i hi;obtain⟨u,eu⟩:=g j hj;unfold kas_ask;rw[et,eu];exact kat_lt_int h
end
section
variable {K:Type}{lt':K→K→Aq}
theorem UO {α : Type}{ks:Ab K}{vs:Ab α}{d:K}(hl:vs.length=ks.length){p:K × α}(h:p∈ks.zip vs):∃ i,vs[i]? = Aa p.2∧ks.getD i d=p.1:=by
 obtain⟨i,hi,e⟩:=Co.mp h;have h1:i<ks.length:=by rw[Yn] at hi;omega
 have h2:i<vs.length:=by omega
 rw[List.getElem_zip] at e;subst e;exact⟨i,Ap h2,by simp[h1]⟩
end
structure Kind (prog:Bm)(w:Cb){K:Type}(is:K→Ac→Prop)(hash:K→Aj)(lt':K→K→Aq)(d:K)(Fit:K→Prop)(h0:Bs):Prop where
 ord:Ord lt'
 inj:∀ {k k':K} {v:Ac},is k v→is k' v→k=k'
 cmps:∀ {vs:Ab Ac} {ks:Ab K},vs.length=ks.length→(∀ i v,vs[i]? = Aa v→is (ks.getD i d) v)→(∀ k∈ks,Fit k)→2≤vs.length→Cmps prog w h0 vs (c7 lt' ks d)
theorem BB (prog:Bm)(w:Cb)(h0:Bs):Kind prog w (isT prog w h0) (Br (Bg prog w)) _H.lexLt [] (·≠[]) h0:=⟨gP,isT.inj,fun h1 h2 h3 h4=>LY h1 h2 h3 h4⟩
theorem BA (prog:Bm)(w:Cb)(h0:Bs):Kind prog w (isI prog w) (Bg prog w).hash ltI 0 (fun _=>Nr) h0:=⟨aY,fun a b=>(Bg prog w).inj _ _ _ a b,fun h1 h2 _ h4=>LX h1 h2 h4⟩
section
variable {prog:Bm}{w:Cb}{A:Bz}{E:Ac→Ag→Prop}{s:Ag}{K:Type}{is:K→Ac→Prop}{hash:K→Aj}{lt':K→K→Aq}{d:K}{Fit:K→Prop}{h0:Bs}{S:Af}{V:Ab Ac}{seen:Ab K}
open Classical in
def kOf (is:K→Ac→Prop)(d:K)(e:Aj × Ac):K:=if h:∃ k,is k e.2 then choose h else d
open Classical in
theorem SM {e:Aj × Ac}(h:∃ k,is k e.2):is (kOf is d e) e.2:=by
 unfold kOf;rw[dif_pos h];exact choose_spec h
theorem XX {Q:Ac→Ag→Prop}(kd:Kind prog w is hash lt' d Fit h0)(hh:A.handled=none)(hu:A.units+8<Fg)(hS:Sup h0 s.heap)(Z:SetK is hash S (yN w) V seen s.heap)(hf:∀ k∈seen,Fit k){U:Ab K}(hU:U.length≤1000)(hU1:∀ k∈seen,k∈U)
  (h:∀ h' tk D c (ps:Ab (K × Ac)),(∀ b o,s.heap.get? b=Aa o→h'.get? b=Aa o)→s.heap.objs.size≤D→h'.get? D=Aa (Er "list" (ps.map (·.2)).toArray c)→ps.map (·.1)=srt lt' seen→(∀ p∈ps,is p.1 p.2∧p.2∈V)→ps.length≤1000→Q (.ref D) { s with heap:=h',toks:=tk }) :
  Ao (Au prog w) A (call (.builtin "sorted") [.ref S]) Q E s:=by
 obtain⟨es,ep,t,ho,Z0,T,hl,hV⟩:=Z;have st:Still w S es ep t:=⟨T,hl⟩;have hn:es.size≤1000:=by
  have:=nE es.toList U Z0.nd fun e he=>by
   obtain⟨k',_,q⟩:=Z0.good e he;exact⟨k',hU1 k' ((Z0.mem k').mpr ⟨e,he,q⟩),q⟩
  rw[Bh] at this;omega
 have op:=lK w S ep es;have osz:=kS w S ep es;have good:∀ e∈(qU w S ep es).toList,is (kOf is d e) e.2∧e.2∈V:=fun e he=>by
  have he':=op.mem_iff.mp he;obtain⟨k,_,q⟩:=Z0.good e he';exact⟨SM ⟨k,q⟩,hV e he'⟩
 have nd0:(qU w S ep es).toList.Pairwise fun a b=>∀ k,is k a.2→¬ is k b.2:=(op.pairwise_iff fun {x y} h k hy hx=>h k hx hy).mpr Z0.nd;generalize hoe:(qU w S ep es).toList=oe at *;have hoel:oe.length≤1000:=by rw[op.length_eq,Bh];exact hn
 have hks:∀ i v,(oe.map (·.2))[i]? = Aa v→is ((oe.map (kOf is d)).getD i d) v∧v∈V:=fun i v hv=>by
  rw[Dv] at hv;cases hi:oe[i]? with
  |none=>rw[hi] at hv;cases hv
  |some e =>
   rw[hi] at hv;cases hv;have g:=good e (Ch hi);have:(oe.map (kOf is d)).getD i d=kOf is d e:=by rw[Pq,Dv,hi];rfl
   rw[this];exact g
 have nd:(oe.map (kOf is d)).Nodup:=by
  unfold Yy;rw[Ja];refine Qw (fun {a b} ha hb h e=>?_) nd0;exact h _ (good a ha).1 (e▸(good b hb).1)
 have mem:∀ x,x∈oe.map (kOf is d)↔x∈seen:=fun x=>by
  rw[Z0.mem,Dk];constructor
  ·rintro⟨e,he,rfl⟩
   exact⟨e,op.mem_iff.mp he,(good e he).1⟩
  ·rintro⟨e,he,q⟩
   exact⟨e,op.mem_iff.mpr he,kd.inj (good e (op.mem_iff.mpr he)).1 q⟩
 have hlen:(oe.map (·.2)).length=(oe.map (kOf is d)).length:=by simp
 refine Qp kind_sorted plain_sorted entry_sorted (args_sorted1 _) ?_;unfold Hs.«sorted»;refine Ad (m:=checkCount "sorted" 1 1 _) (Am ?_);refine Ad (o2 hh st ho (by omega) fun h1 tk1 kp1 hlt=>?_)
 rw[hoe];refine Ad (Vb ?_ (by rw[Ev,Ar];omega))
 have hD:(h1.push (Er "list" (oe.map (·.2)).toArray 0)).get? h1.objs.size=Aa (Er "list" (oe.map (·.2)).toArray 0):=Be _ rfl
 have n0:h0.get? h1.objs.size=none:=by
  cases q:h0.get? h1.objs.size with
  |none=>rfl
  |some o=>exact absurd (Ba (hS _ _ q)) (Rf.mpr (Lo hlt))
 show Ao _ _ _ _ _ { s with heap:=h1.push (Er "list" (oe.map (·.2)).toArray 0),toks:=tk1 }
 refine Ad (Eg (Ei slot_list_sort ⟨_,hD,rfl⟩ Yo (BD (h0:=h0) (is:=is) kd.ord kd.inj (d:=d) (vs:=oe.map (·.2)) hlen (fun i v hv=>(hks i v hv).1) hD (by show A.units+2<Fg;omega) (by rw[Ar];omega) (fun h2=>kd.cmps hlen (fun i v hv=>(hks i v hv).1) (fun k hk=>hf k ((mem k).mp hk)) h2) (fun b o e=>Ah _ (kp1 b o (hS b o e))) n0 fun ps pm nf=>⟨_,rfl,?_⟩) (args_list_sort _)))
 refine Am ⟨_,rfl,?_⟩;have hz:(h1.push (Er "list" (oe.map (·.2)).toArray 0)).objs.size=h1.objs.size+1:=size_push' ..
 have old:∀ b o,b≠h1.objs.size→(h1.push (Er "list" (oe.map (·.2)).toArray 0)).get? b=Aa o→((((h1.push (Er "list" (oe.map (·.2)).toArray 0)).update h1.objs.size (Ey fun _=>#[])).push (Er "tuple" (oe.map (·.2)).toArray 0)).push (Er "list" #[] 0)).get? b=Aa o:=fun b o hb e =>
  Ah _ (Ah _ ((Di _ _ (Ho hb)).trans e))
 obtain⟨e1,he1⟩:∃ e1,((h1.push (Er "list" (oe.map (·.2)).toArray 0)).update h1.objs.size (Ey fun _=>#[])).get? h1.objs.size=Aa (Er "list" #[] e1):=⟨_,Lg hD (fun _=>#[])⟩
 have he6:=Lg (Ah (Er "list" #[] 0) (Ah (Er "tuple" (oe.map (·.2)).toArray 0) he1)) (fun _=>(ps.map (·.2)).toArray)
 have pk:(ps.map (·.1)).Perm (oe.map (kOf is d)):=by
  have:=pm.map (·.1)
  rwa [Rk (by omega)] at this
 refine h _ tk1 h1.objs.size _ ps (fun b o e=>?_) (Lo hlt) he6 (R4 kd.ord nf (pk.nodup_iff.mpr nd) fun x=>by rw[pk.mem_iff,mem]) (fun p hp=>?_) (by have:=pk.length_eq;rw[Ar,Ar] at this;omega)
 ·have hb:b≠h1.objs.size:=fun z=>by
   subst z;exact absurd (Ba e) (Rf.mpr (Lo hlt))
  exact(Di _ _ (Ho hb)).trans (old b o hb (Ah _ (kp1 b o e)))
 ·obtain⟨i,e1,e2⟩:=UO (d:=d) hlen (pm.mem_iff.mp hp)
  exact e2▸hks i _ e1
end
end _S
namespace _D
open PySem PySem.Spec PyProof.Rows _L
def yI:Ab D→Al (Ab (Ab Aj))
 |[]=>Aa []
 |.tup ys::r=>(wY ys).bind fun k=>(yI r).map (k::·)
 |_::_=>none
def tpD (k:Ab Aj):D:=.tup (k.map D.int)
theorem nJ:∀ {ds:Ab D} {ks:Ab (Ab Aj)},yI ds=Aa ks→ds=ks.map tpD
 |[],ks,h=>by cases h;rfl
 |d::r,ks,h=>by
  cases d with
  |tup ys =>
   obtain⟨k,h1,h2⟩:=DL.mp (show (wY ys).bind (fun k=>(yI r).map (k::·))=Aa ks from h)
   obtain⟨m,h3,rfl⟩:=Dm.mp h2;rw[nJ h3,gJ h1];rfl
  |_=>cases h
theorem vC (ks:Ab (Ab Aj)):yI (ks.map tpD)=Aa ks:=by
 induction ks with
 |nil=>rfl
 |cons k ks ih =>
  show (wY (k.map D.int)).bind (fun k=>(yI (ks.map tpD)).map (k::·))=_
  rw[m6,ih];rfl
def vA (xs:Ab D):Al (Ab D):=match wY xs with
 |some ns=>if (_S.srt _S.ltI ns).length≤1000 then Aa ((_S.srt _S.ltI ns).map D.int) else none
 |none=>match yI xs with
  |some ks=>if ((_S.srt _H.lexLt ks).length≤1000&&ks.all fun k=>!k.isEmpty) then Aa ((_S.srt _H.lexLt ks).map tpD) else none
  |none=>none
def mJ:D→Al (Ab D)
 |.lst xs=>Aa xs
 |.tup xs=>Aa xs
 |_=>none
def wJ (f:DE):DE:=fun env S=>(f env S).bind fun d S1=>match (mJ d).bind vA with
 |some ys=>.ok (.lst ys) S1
 |none=>.bad
theorem GY {K:Type}{lt':K→K→Aq}(O:_S.Ord lt')(ks:Ab K)(d:K):_S.srt lt' (_S.vI (fun i=>ks.getD i d) ks.length)=_S.srt lt' ks:=
 _S.tH O (_S.uZ O _) (_S.uZ O _) fun x=>by
  rw[_S.vM O,_S.vM O,_S.pF];constructor
  ·rintro⟨i,hi,rfl⟩
   simp[Jo,hi]
  ·intro hx
   obtain⟨i,hi,e⟩:=Co.mp hx;exact⟨i,hi,by simp[Jo,hi,e]⟩
section
variable {X:Cx}{pins:Ab (Af × Cq)}{σ : _L.St}{H P:Hp}{α : Ab Af}{S:Sto}{s:Ag}
inductive NewL (X:Cx)(pins:Ab (Af × Cq))(σ : _L.St)(P:Hp)(α : Ab Af)(S:Sto)(ys:Ab D)(u:Ac)(s':Ag):Prop
 |mk (v:V) (H' P':Hp) (I:Inv X pins σ H' s') (rv:qK v u) (r:Rel X.K H' P' α S) (e:qH P P') (rp:Rep X.K P' α (.lst ys) v):NewL X pins σ P α S ys u s'
theorem lV {K:Type}{is:K→Ac→Prop}{hash:K→Aj}{lt':K→K→Aq}{d:K}{Fit:K→Prop}(kd:_S.Kind X.prog X.w is hash lt' d Fit s.heap)(ad:_S.AddS X.prog X.w is hash s.heap)(hc:X.calm=true)(hu:X.A.units+64<Fg)(I:Inv X pins σ H s)(r:Rel X.K H P α S){a:Af}{its:Ab Ac}
  (ha:s.heap.IsList a its.toArray∨s.heap.IsTuple a its.toArray) (ks:Ab K) (hl:ks.length=its.length) (hk:∀ i v,its[i]? = Aa v→is (ks.getD i d) v) (hn:(_S.srt lt' ks).length≤1000) (hf:∀ k∈ks,Fit k) (enc:K→D)
  (back:∀ k v,is k v→v∈its→∃ vv,qK vv v∧Rep X.K P α (enc k) vv) {E:Ac→Ag→Prop} :
  Ao (Au X.prog X.w) X.A (call (.type "set") [.ref a]) (fun u s1=>Ao (Au X.prog X.w) X.A (call (.builtin "sorted") [u]) (NewL X pins σ P α S ((_S.srt lt' ks).map enc)) E s1) E s:=by
 have hsz:its.toArray.size=ks.length:=by rw[Bb,hl]
 have mem:∀ k,k∈_S.srt lt' ks↔k∈ks:=fun k=>_S.vM kd.ord k ks;have inn:∀ i,i<ks.length→ks.getD i d∈ks:=fun i hi=>by simp[Jo,hi]
 refine _S.ZY (U:=_S.srt lt' ks) ad (I.ok.hd hc) om ha (fun i=>ks.getD i d) (fun i v hv=>hk i v (by simpa using hv)) om (fun i hi=>(mem _).mpr (inn i (by rw[← hsz];exact hi))) fun h1 tk1 Z kp=>?_
 have seen:∀ k∈_S.vI (fun i=>ks.getD i d) its.toArray.size,k∈ks:=fun k hk'=>by
  obtain⟨i,hi,rfl⟩:=_S.pF.mp hk';exact inn i (by rw[← hsz];exact hi)
 have I1:Inv X pins σ H { s with heap:=h1,toks:=tk1 }:=I.kept kp
 refine _S.XX (s:={ s with heap:=h1,toks:=tk1 }) kd (I.ok.hd hc) om kp Z (fun k hk'=>hf k (seen k hk')) (U:=_S.srt lt' ks) om (fun k hk'=>(mem k).mpr (seen k hk')) fun h2 tk2 D c ps kp2 hD hob hps hp hpl=>?_
 rw[hsz,GY kd.ord] at hps;have vv:∀ (ps:Ab (K × Ac)),(∀ p∈ps,is p.1 p.2∧p.2∈its)→∃ vs,qL vs (ps.map (·.2))∧qF X.K P α ((ps.map (·.1)).map enc) vs:=by
  intro ps
  induction ps with
  |nil=>exact fun _=>⟨[],.nil,.nil⟩
  |cons p ps ih =>
   intro h;obtain⟨vs,a1,a2⟩:=ih fun q hq=>h q (by simp[hq])
   obtain⟨v,b1,b2⟩:=back p.1 p.2 (h p (by simp)).1 (h p (by simp)).2
   exact⟨v::vs,.cons b1 a1,.cons b2 a2⟩
 obtain⟨vs,a1,a2⟩:=vv ps fun p hpm=>by simpa using hp p hpm
 rw[hps] at a2;have nd:([(D,HO.lst vs)].map (·.1)).Nodup:=by simp
 have I2:Inv X pins σ (uD H [(D,HO.lst vs)]) { s with heap:=h2,toks:=tk2 }:=Inv.laidL (s:={ s with heap:=h1,toks:=tk1 }) (L:=[(D,HO.lst vs)]) (t':=tk2) I1 kp2 (fun p hpm=>by
  have:p=(D,HO.lst vs):=by simpa using hpm
  subst this;exact hD) fun p hpm=>by
  have:p=(D,HO.lst vs):=by simpa using hpm
  subst this;refine⟨?_,ps.map (·.2),c,a1,hob⟩
  have:=a1.length;rw[Ar] at this;rw[this,Ev];omega
 obtain⟨r2,e2⟩:=r.pureL (L:=[(D,HO.lst vs)]) (fun p hpm=>I1.hok.fresh (by
  have:p=(D,HO.lst vs):=by simpa using hpm
  subst this;exact hD)) nd
 exact⟨.ref D,_,_,I2,rfl,r2,e2,t9 (.inl (.inl (iU nd (by simp)))) (qF.mono e2 (Bp _) _ _ a2)⟩
end
section
variable {X:Cx}{e:By}{fa:DE}{p1 p2 pos1 pos2:Fk}
theorem WF:Gc "sorted" = Aa (.builtin "sorted"):=by decide +kernel
theorem dS {prog:Bm}{w:Cb}:∀ {k:Ab Aj} {us:Ab Ac},qL (k.map V.int) us→ItemsAre (Bg prog w) k us
 |[],us,h=>by cases h;exact .nil
 |i::k,us,h=>by
  cases h with
  |cons q t =>
   obtain⟨tk,rfl⟩:=q;exact .cons (Uy _ _ _ _) (dS t)
theorem UC {pins:Ab (Af × Cq)}{σ : _L.St}{H P:Hp}{α : Ab Af}{S:Sto}{s:Ag}{d:D}{xs:Ab D}{v:V}{vv:Ac}(I:Inv X pins σ H s)(r:Rel X.K H P α S)(p:Rep X.K P α d v)(q:qK v vv)(h:mJ d=Aa xs) :
  ∃ a vs its,vv=.ref a∧qF X.K P α xs vs∧qL vs its∧(s.heap.IsList a its.toArray∨s.heap.IsTuple a its.toArray)∧xs.length=its.length:=by
 cases d with
 |lst ys =>
  cases h;obtain⟨a,vs,its,n,rfl,_,t,rv,e,l,_⟩:=uR I r p;exact⟨a,vs,its,q,t,rv,.inl ⟨_,e,rfl,n,rfl⟩,l⟩
 |tup ys =>
  cases h;obtain⟨a,vs,its,rfl,_,t,rv,⟨o,e,hc,n,hd⟩,l,_⟩:=j6 I r p;exact⟨a,vs,its,q,t,rv,.inr ⟨o,e,hc,n,hd⟩,l⟩
 |_=>cases h
set_option tactic.hygienic true in
theorem X4 (hc:X.calm=true)(hu:X.A.units+64<Fg)(hg:Gl X "sorted")(hm:X.mg "sorted" = none)(hg2:Gl X "set")(hm2:X.mg "set" = none)(ha:PE X e (tD X fa))(he:Bc [e] X.env=(false,eval e X.env)::Bc [] X.env:=by rfl) :
  PE X (.Call (.Name "sorted" p1) [.Call (.Name "set" p2) [e] [] pos2] [] pos1) (tD X (wJ fa)):=by
 intro pins s σ H Q I h;obtain⟨P,α,env,S,r,re,af⟩:=h;refine Ie (k9 I hg hm WF ?_);refine Nq ?_ rfl rfl;refine Pe ?_;refine Call_ (k9 I hg2 hm2 J3 (Hb ?_ he rfl));rw[he];refine Pe (thn (xI ha I r re af) fun vv s1 ⟨v,H1,P1,α1,d,S1,G1,af1⟩=>Py ?_);cases hq:(mJ d).bind vA with
 |none=>simp only[hq] at af1;exact An af1
 |some ys =>
   simp only[hq] at af1;obtain⟨xs,hd,hs⟩:=DL.mp hq;obtain⟨a,vs,its,rfl,t1,rv1,e1,l1⟩:=UC G1.inv G1.rel G1.rep G1.val hd;have main:Ao (Au X.prog X.w) X.A (call (.type "set") [.ref a]) (fun u s1=>Ao (Au X.prog X.w) X.A (call (.builtin "sorted") [u]) (NewL X pins σ P1 α1 S1 ys) X.xe s1) X.xe s1:=by
    unfold vA at hs;cases hi:wY xs with
    |some ns =>
     rw[hi] at hs;dsimp only at hs
     split at hs
     ·rename_i hlt
      cases hs;have:=gJ hi;subst this;have:=uF t1;subst this;refine lV (d:=0) (_S.BA X.prog X.w s1.heap) (_S.LG s1.heap) hc hu G1.inv G1.rel e1 ns (by simpa using l1) (fun i u hu'=>?_) hlt (fun _ _=>trivial) D.int fun k u hk _=>?_
      ·have hi:Jg its ns:=by simpa using bO rv1
       obtain⟨t,rfl⟩:=Pa hi i u hu';exact Uy _ _ _ _
      ·obtain⟨t,rfl⟩:=_S.yR hk
       exact⟨.int k,⟨t,rfl⟩,by simp only[Rep]⟩
     ·cases hs
    |none =>
     rw[hi] at hs;dsimp only at hs;cases ht:yI xs with
     |none=>rw[ht] at hs;cases hs
     |some ks =>
      rw[ht] at hs;dsimp only at hs
      split at hs
      ·rename_i hlt
       cases hs;have hlt':=Ew.mp hlt;have:=nJ ht;subst this;have at':∀ (i:Ai) (u:Ac),its[i]? = Aa u→∃ b,u=.ref b∧Ot (Bg X.prog X.w) s1.heap (ks.getD i []) b∧∃ vv,qK vv u∧Rep X.K P1 α1 (tpD (ks.getD i [])) vv:=fun i u hu'=>by
        have hii:i<its.length:=(Bf.mp hu').1;have hik:i<ks.length:=by rw[Ar] at l1;omega
        obtain⟨v,p,q,_⟩:=yF t1 rv1 (j:=i) (by rw[Bb];exact hii)
        have hd:(ks.map tpD).getD i D.non=tpD (ks.getD i []):=by simp[Jo,hik]
        rw[hd] at p;have hu2:its.toArray[i]'(by rw[Bb];exact hii)=u:=by
         rw[Ap hii] at hu';simpa using hu'
        rw[hu2] at q;obtain⟨b,ws,us,rfl,sq,t,rv,⟨o,ho,hcl,m,hd⟩,_,_⟩:=j6 G1.inv G1.rel (show Rep X.K P1 α1 (.tup ((ks.getD i []).map D.int)) v from p)
        cases (show u=Dc b from q)
        have:=uF t;subst this;exact⟨b,rfl,⟨o,us.toArray,m,ho,hcl,hd,by simpa using dS rv⟩,.ref b,rfl,p⟩
       refine lV (d:=[]) (_S.BB X.prog X.w s1.heap) (_S.LH s1.heap) hc hu G1.inv G1.rel e1 ks (by simpa using l1) (fun i u hu'=>?_) (Ct hlt'.1) (fun k hk=>?_) tpD fun k u hk hm'=>?_
       ·obtain⟨b,rfl,q,_⟩:=at' i u hu'
        exact⟨b,rfl,q⟩
       ·have:=Az.mp hlt'.2 k hk
        intro z;subst z;cases this
       ·obtain⟨i,hi',rfl⟩:=Co.mp hm'
        obtain⟨b,eb,q,w,rw',pw⟩:=at' i _ (Ap hi');have:k=ks.getD i []:=_S.isT.inj hk ⟨b,eb,q⟩;rw[this];exact⟨w,rw',pw⟩
      ·cases hs
   refine thn main fun u s2 h2=>Py (thn h2 fun u' s3 ⟨v,H',P',I',rv,r',e',rp⟩=>?_);exact⟨v,H',I',rv,af1 v H' P' α1 r' (G1.same.trans e') G1.pre rp⟩
end
section
variable {X:Cx}{cm:Aq}{k:Ai}{e:By}{fa:DE}{p1 p2 pos1 pos2:Fk}
theorem lO (hc:X.calm=true)(hr:RoomC cm k X.A)(hg:Gl X "sorted")(hm:X.mg "sorted" = none)(hg2:Gl X "set")(hm2:X.mg "set" = none)(ha:QE X e fa)(he:Bc [e] X.env=(false,eval e X.env)::Bc [] X.env:=by rfl) :
  QE X (.Call (.Name "sorted" p1) [.Call (.Name "set" p2) [e] [] pos2] [] pos1) (wJ fa):=⟨X4 hc hr.units hg hm hg2 hm2 ha.1 he⟩
end
end _D
section
namespace _D
open PySem PySem.Spec PyProof.Rows _L
mutual
def pyD:D→Al Vg
 |.non=>Aa .none
 |.bl b=>Aa (.bool b)
 |.int i=>Aa (.int i)
 |.str x=>Aa (.str x)
 |.tup xs=>(gQ xs).map .tuple
 |.lst xs=>(gQ xs).map .list
 |.dct0=>Aa (.dict [])
 |_=>none
def gQ:Ab D→Al (Ab Vg)
 |[]=>Aa []
 |d::ds=>(pyD d).bind fun x=>(gQ ds).map (x::·)
end
mutual
def kR:D→Aq
 |.lst _=>false
 |.tup xs=>pY xs
 |_=>true
def pY:Ab D→Aq
 |[]=>true
 |d::ds=>kR d&&pY ds
end
def mH (d:D)(p:Vg):Aq:=p.showable&&p.leavesShort 40&&decide (p.bulk≤2 ^ 16)&&decide (p.depth≤60)&&(!p.hasDict||kR d)
def jW (d:D):Al Ax:=(pyD d).bind fun p=>if mH d p then Aa p.shown else none
def mU:DF:=fun ds S=>match ds with
 |[d]=>match jW d with
  |some x=>.ok (.str x) S
  |none=>.bad
 |_=>.bad
section
variable {X:Cx}{pins:Ab (Af × Cq)}{σ : _L.St}{H P:Hp}{α : Ab Af}{S:Sto}{s:Ag}
mutual
theorem iI (I:Inv X pins σ H s)(r:Rel X.K H P α S):∀ (d:D) (p:Vg) (v:V) (u:Ac),pyD d=Aa p→Rep X.K P α d v→qK v u→∃ as,Reads s.heap u p as∧(kR d=true→Hy ∉ as)
 |.non,p,v,u,h,q,rv=>by
  cases h;simp only[Rep] at q;subst q;cases (show u=Dj from rv);exact⟨_,.none,by simp⟩
 |.bl b,p,v,u,h,q,rv=>by
  cases h;simp only[Rep] at q;subst q;cases (show u=Fv b from rv);exact⟨_,.bool b,by simp⟩
 |.int i,p,v,u,h,q,rv=>by
  cases h;simp only[Rep] at q;subst q;obtain⟨t,rfl⟩:=rv;exact⟨_,.int i t,by simp⟩
 |.str x,p,v,u,h,q,rv=>by
  cases h;simp only[Rep] at q;subst q;obtain⟨t,rfl⟩:=rv;exact⟨_,.str x t,by simp⟩
 |.tup xs,p,v,u,h,q,rv=>by
  simp only[pyD] at h;obtain⟨ps,h1,rfl⟩:=Dm.mp h;obtain⟨a,vs,its,rfl,_,t,rvs,⟨o,e,hc,n,hd⟩,_,_⟩:=j6 I r q;cases (show u=Dc a from rv)
  obtain⟨as,ra,ha⟩:=mG I r xs ps vs its h1 t rvs;exact⟨as,.tuple e hc hd (by simpa using ra),fun z=>ha (by simpa only [kR] using z)⟩
 |.lst xs,p,v,u,h,q,rv=>by
  simp only[pyD] at h;obtain⟨ps,h1,rfl⟩:=Dm.mp h;obtain⟨a,vs,its,n,rfl,_,t,rvs,e,_,_⟩:=uR I r q;cases (show u=Dc a from rv)
  obtain⟨as,ra,_⟩:=mG I r xs ps vs its h1 t rvs;exact⟨a::as,.list e rfl rfl (by simpa using ra),fun z=>by simp[kR] at z⟩
 |.dct0,p,v,u,h,q,rv=>by
  cases h;simp only[Rep] at q;obtain⟨a,rfl,q⟩:=q;cases (show u=Dc a from rv)
  obtain⟨_,ne,vs,kv,o,es,ep,e,hx,hd,_,hp,_⟩:=I.hok _ _ (r.sub _ _ q);cases kv;have he:es.toList=[]:=by
   generalize es.toList=l at hp;cases hp;rfl
  refine⟨[a]++[],.dict (kvs:=[]) e hx.1 hd ?_ ?_,fun _=>by simpa using (fun z=>(Hx.mp ne) z.symm)⟩
  ·rw[he];exact .nil
  ·rw[he];exact .nil
 |.ty _,p,v,u,h,_,_=>by simp[pyD] at h
 |.obj _,p,v,u,h,_,_=>by simp[pyD] at h
 |.loc _,p,v,u,h,_,_=>by simp[pyD] at h
 |.exn _,p,v,u,h,_,_=>by simp[pyD] at h
 |.fd _ _,p,v,u,h,_,_=>by simp[pyD] at h
theorem mG (I:Inv X pins σ H s)(r:Rel X.K H P α S):∀ (ds:Ab D) (ps:Ab Vg) (vs:Ab V) (us:Ab Ac),gQ ds=Aa ps→qF X.K P α ds vs→qL vs us→∃ as,ReadsAll s.heap us ps as∧(pY ds=true→Hy ∉ as)
 |[],ps,vs,us,h,q,rv=>by
  cases h;cases q.nil_inv;cases rv;exact⟨[],.nil,by simp⟩
 |d::ds,ps,vs,us,h,q,rv=>by
  simp only[gQ] at h;obtain⟨p,h1,h2⟩:=DL.mp h;obtain⟨ps',h3,rfl⟩:=Dm.mp h2;obtain⟨w,ws,rfl,q1,q2⟩:=q.cons_inv;cases rv with
  |cons r1 r2 =>
   obtain⟨as,a1,a2⟩:=iI I r d p w _ h1 q1 r1;obtain⟨bs,b1,b2⟩:=mG I r ds ps' ws _ h3 q2 r2;refine⟨as++bs,.cons a1 b1,fun z=>?_⟩;simp only[pY,Bo] at z;simp only[Cn,Sz];exact⟨a2 z.1,b2 z.2⟩
end
set_option tactic.hygienic true in
theorem rV {d:D}{x:Ax}(h:jW d=Aa x):∃ p,pyD d=Aa p∧p.shown=x∧p.showable=true∧p.shown.length≤sizeLine∧p.depth≤60∧(p.hasDict=true→kR d=true):=by
 unfold jW at h;obtain⟨p,h1,h2⟩:=DL.mp h
 split at h2
 ·rename_i hk
  cases h2;simp only[mH,Bo,Cs,Lc,Kf] at hk;obtain⟨⟨⟨⟨k1,k2⟩,k3⟩,k4⟩,k5⟩:=hk;refine⟨p,h1,rfl,k1,?_,k4,fun z=>k5.resolve_left (by rw[z];simp)⟩
  have:=PyData.shown_le_bulk 40 om p k2;rw[Ev];omega
 ·cases h2
theorem FO (hg:X.A.guards=Aa [])(hu:X.A.units+64<Fg):yU X (.builtin "repr") mU:=by
 intro pins σ H s P α S vs us ds Q I r rv rp af
 match ds,af,rp with
 |[],af,_=>exact An af
 |_::_::_,af,_=>exact An af
 |[d],af,rp =>
  simp only[mU] at af;cases hd:jW d with
  |none=>rw[hd] at af;exact An af
  |some x =>
   rw[hd] at af;obtain⟨p,h1,rfl,hs,hz,hp,hn⟩:=rV hd;obtain⟨v,u,rfl,rfl,q,rv1⟩:=vL rp rv;obtain⟨as,ra,ha⟩:=iI I r d p v u h1 q rv1;have fin:∀ (h':Bs) (u tk:Sr),(∀ b o,s.heap.get? b=Aa o→h'.get? b=Aa o)→EP X pins σ Q (.str p.shown u) { s with heap:=h',toks:=tk }:=fun h' u tk hk =>
    ⟨.str p.shown,H,I.kept hk,⟨u,rfl⟩,xr af r (by simp only[Rep])⟩
   cases ra with
   |none=>exact PySem.P.repr_of_none (fin s.heap _ _ fun _ _ e=>e)
   |bool b=>exact PySem.P.repr_of_bool (fin s.heap _ _ fun _ _ e=>e)
   |int i t=>exact PySem.P.repr_of_int (by simpa [Sn] using hs) (fin s.heap _ _ fun _ _ e=>e)
   |str y t=>exact PySem.P.repr_of_str (fin s.heap _ _ fun _ _ e=>e) hz
   |list a1 a2 a3 a4=>exact Tv (.list a1 a2 a3 a4) hs (fun z=>ha (hn z)) hg om (fun _ _ e=>e) fin hz
   |tuple a1 a2 a3 a4=>exact Tv (.tuple a1 a2 a3 a4) hs (fun z=>ha (hn z)) hg om (fun _ _ e=>e) fin hz
   |dict a1 a2 a3 a4 a5=>exact Tv (.dict a1 a2 a3 a4 a5) hs (fun z=>ha (hn z)) hg om (fun _ _ e=>e) fin hz
end
end _D
end
section
namespace _H
open PySem PyProof.Rows
def stepLo (n:Ai)(k:Aj):Aj:=(Gi none none k (n:Aj)).1
def stepHi (n:Ai)(k:Aj):Aj:=(Gi none none k (n:Aj)).2
def stepN (n:Ai)(k:Aj):Ai:=Gj (stepLo n k) (stepHi n k) k
def stepL {α : Type}(xs:Ab α)(k:Aj):Ab α:=(Do (stepN xs.length k)).filterMap fun (m:Ai)=>xs[(stepLo xs.length k+(m:Aj)*k).toNat]?
section
variable {prog:Bm}{w:Cb}{A:Bz}{E:Ac→Ag→Prop}{s:Ag}
theorem tL {sl:Af}{k:Aj}{t:Sr}{n:Ai}{Q:Aj × Aj × Ai→Ag→Prop}(hs:s.heap.IsSliceOf sl .none .none (.int k t))(hk:k≠0)
  (h:Q (stepLo n k,k,stepN n k) s):Ao (Au prog w) A (Ik (.ref sl) (pure (n:Aj))) Q E s:=by
 obtain⟨os,hos,hcs,hds⟩:=id hs;unfold Ik Pz;refine Ad (Ad (Dx hos hds (x:=.none) rfl (Ad (Dx hos hds (x:=.none) rfl (Ad (Dx hos hds (x:=.int k t) rfl (Am ?_)))))));refine Ad (slicePart_int ?_);show Ao _ _ (if (k == 0)=true then _ else _) _ _ s
 rw[Bk (by simpa using hk)]
 refine Ad (OS (Ad (OS (Ad (Am ?_)))));exact Am h
theorem stepL_length {α : Type}(xs:Ab α)(k:Aj):(stepL xs k).length≤stepN xs.length k:=by
 unfold stepL;exact Ee (List.length_filterMap_le _ _) (by rw[Go];exact As _)
theorem getItem_tuple_step {t sl:Af}{items:Aw Ac}{k:Aj}{u:Sr}{Q:Ac→Ag→Prop}(ht:Ow s.heap t items)(hs:s.heap.IsSliceOf sl .none .none (.int k u))(h0:k≠0)(h1:k≠1)
  (h:Q (.ref s.heap.objs.size) { s with heap:=s.heap.push { cls:=.type "tuple",data:=.seq (stepL items.toList k).toArray } })
  (hsz:stepN items.size k≤sizeLine):Ao (Au prog w) A (Mx (.ref t) (.ref sl)) Q E s:=by
 have htake:sizeOk (.seq (stepL items.toList k).toArray):=by
  show (stepL items.toList k).toArray.size≤sizeLine;rw[Bb];exact Ee (stepL_length _ _) (by simpa using hsz)
 obtain⟨os,hos,hcs,hds⟩:=id hs;have hTs:s.TypeIs (.ref sl) "slice":=⟨os,hos,hcs⟩;unfold Mx
 try with_reducible refine Eg ?_
 first|refine Ad (Am ?_)|skip
 refine Ad (Qb ht.typeIs (by decide) ?_)
 refine Ad (Dz (name:=Hl "__getitem__") ht.typeIs Dr
  (Ei Dr ht.typeIs On ?_ (Pd _ _)))
 show Ao _ _ (Kp (.ref t) >>= _) _ _ s;refine Ad (Ul ht ?_);refine Ad (Km hTs ?_);rw[Bl (by decide)]
 refine Ad (tL hs h0 ?_);have hno:¬ ((stepLo items.size k == 0&&k == 1&&stepN items.size k == items.size)=true):=by
  intro q;rw[Bo,Bo] at q;exact h1 (eq_of_beq q.1.2)
 show Ao _ _ (if (stepLo items.size k == 0&&k == 1&&stepN items.size k == items.size)=true then _ else _) _ _ s
 rw[Bk hno];have e:((Do (stepN items.size k)).filterMap fun (m:Ai)=>items[(stepLo items.size k+(m:Aj)*k).toNat]?)=stepL items.toList k:=by
  unfold stepL;simp
 rw[e]
 first
  |exact Ad (m:=Fe _) (Du (Am ⟨_,rfl,Am h⟩) htake)
  |exact Ad (m:=Fe _) (Du (Ad (Am (Am ⟨_,rfl,Am h⟩))) htake)
  |exact Ad (Ad (m:=Fe _) (Du (Am (Am ⟨_,rfl,Am h⟩)) htake))
  |exact Ad (Ad (m:=Fe _) (Du (Am ⟨_,rfl,Am h⟩) htake))
end
end _H
namespace _D
open PySem PySem.Spec PyProof.Rows _L
def X8:G2:=fun d k S=>match d,k with
 |.tup xs,.int k=>if k≠0∧k≠1∧_H.stepN xs.length k≤lim then .ok (.tup (_H.stepL xs k)) S else .bad
 |_,_=>.bad
def mQ (fe fk:DE):DE:=d2 X8 fe fk
section
variable {X:Cx}{e ek:By}{fe fk:DE}{p2 pos:Fk}
theorem UJ {vs:Ab V}{us:Ab Ac}(rv:qL vs us)(l:Ab Ai)(f:Ai→Ai):qL (l.filterMap fun m=>vs[f m]?) (l.filterMap fun m=>us[f m]?):=by
 induction l with
 |nil=>exact .nil
 |cons m l ih =>
  simp only[Gg];cases h:vs[f m]? with
  |none =>
   have:us[f m]? = none:=by
    rw[Qq] at h ⊢;rw[← rv.length];exact h
   rw[this];exact ih
  |some v =>
   obtain⟨u,hu,r⟩:=rv.get h;rw[hu];exact .cons r ih
theorem U8 {K:Ak}{P:Hp}{α : Ab Af}{ds:Ab D}{vs:Ab V}(rp:qF K P α ds vs)(l:Ab Ai)(f:Ai→Ai):qF K P α (l.filterMap fun m=>ds[f m]?) (l.filterMap fun m=>vs[f m]?):=by
 induction l with
 |nil=>exact .nil
 |cons m l ih =>
  simp only[Gg];cases h:ds[f m]? with
  |none =>
   have:vs[f m]? = none:=by
    rw[Qq] at h ⊢;rw[← rp.length];exact h
   rw[this];exact ih
  |some d =>
   obtain⟨u,hu,r⟩:=rp.get h;rw[hu];exact .cons r ih
set_option tactic.hygienic true in
theorem FZ (he:PE X e (tD X fe))(hk:PE X ek (tD X fk)):PE X (.Subscript e (.Slice none none (Aa ek) p2) pos) (tD X (mQ fe fk)):=by
 intro pins s σ H Q I h;obtain⟨P,α,env,S,r,re,af⟩:=h;have af':qI X P α ((fe env S).bind fun d S1=>(fk env S1).bind fun k S2=>X8 d k S2) (OkV X P α Q):=af;refine Yt (thn (xI he I r re af') fun v s1 ⟨x,H1,P1,α1,d,S1,G1,af1⟩=>?_);refine wpAny_Slice ?_;rw[Um];refine Am (Am ?_);rw[evalPart_some];refine thn (xI hk G1.inv G1.rel G1.env (zA.base G1.same G1.pre af1)) fun vk s2 ⟨y,H2,P2,α2,k,S2,G2,af2⟩=>?_;have af2:=zA.base G2.same G2.pre af2;cases d with
 |tup xs =>
  cases k with
  |int k =>
   simp only[X8] at af2
   split at af2
   ·rename_i hk'
    have rp:=Rep.mono G2.same G2.pre _ _ G1.rep;obtain⟨a,vs,its,rfl,q,t,rvs,ht,hl,_⟩:=j6 G2.inv G2.rel rp;cases (show v=Dc a from G1.val)
    have gr:=G2.rep;simp only[Rep] at gr;subst gr;obtain⟨tk,rfl⟩:=G2.val;have I4:Inv X pins σ H2 { s2 with heap:=s2.heap.push { cls:=.type "slice",data:=.fields #[.none,.none,.int k tk] } }:=G2.inv.kept (t':=s2.toks) fun b ob q=>Ah _ q
    have ht':Ow (s2.heap.push { cls:=.type "slice",data:=.fields #[.none,.none,.int k tk] }) a its.toArray:=ht.keeps fun b ob q=>Ah _ q;refine tail_any (ops:=[.ref a,.ref s2.heap.objs.size]) (s:={ s2 with heap:=s2.heap.push { cls:=.type "slice",data:=.fields #[.none,.none,.int k tk] } }) ht'.typeIs Dr.lookup ?_ (by with_unfolding_all rfl)
    refine _H.getItem_tuple_step (s:={ s2 with heap:=s2.heap.push { cls:=.type "slice",data:=.fields #[.none,.none,.int k tk] } }) ht' (Vk ..) hk'.1 hk'.2.1 ?_ ?_
    ·have lv:vs.length=its.length:=rvs.length
     have ld:xs.length=vs.length:=t.length;have t':qF X.K P2 α2 (_H.stepL xs k) (_H.stepL vs k):=by
      unfold _H.stepL;rw[ld];exact U8 t _ fun m=>(_H.stepLo vs.length k+(m:Aj)*k).toNat
     have rv':qL (_H.stepL vs k) (_H.stepL its k):=by
      unfold _H.stepL;rw[lv];exact UJ rvs _ fun m=>(_H.stepLo its.length k+(m:Aj)*k).toNat
     exact aF I4 G2.rel t' rv' (Ee (_H.stepL_length _ _) hk'.2.2) af2
    ·rw[Bb,← hl,← xN];exact hk'.2.2
   ·exact An af2
  |_=>exact An af2
 |_=>exact An af2
end
end _D
end
namespace _D
open PySem PySem.Spec PyProof.Rows _L
section
variable {X:Cx}{cm:Aq}{k:Ai}{e ek:By}{fe fk:DE}{p2 pos:Fk}
theorem UN (hr:RoomC cm k X.A):ZCall X (.builtin "repr") mU:=⟨FO hr.gd hr.units⟩
theorem QR (he:QE X e fe)(hk:QE X ek fk):QE X (.Subscript e (.Slice none none (Aa ek) p2) pos) (mQ fe fk):=⟨FZ he.1 hk.1⟩
end
end _D
namespace _S
open PySem PySem.W PyProof.Rows
section
variable {prog:Bm}{w:Cb}{A:Bz}{E:Ac→Ag→Prop}{s:Ag}{K:Type}{is:K→Ac→Prop}{hash:K→Aj}{lt':K→K→Aq}{d:K}{Fit:K→Prop}{h0:Bs}
theorem XW {Q:Ac→Ag→Prop}(kd:Kind prog w is hash lt' d Fit h0)(hu:A.units+8<Fg)(hS:Sup h0 s.heap){l:Af}{vs:Ab Ac}(hl:s.heap.IsList l vs.toArray∨s.heap.IsTuple l vs.toArray)(ks:Ab K)(hlen:vs.length=ks.length)(hks:∀ i v,vs[i]? = Aa v→is (ks.getD i d) v)(hf:∀ k∈ks,Fit k)(hoel:vs.length≤100000)
  (h:∀ (h1 h':Bs) (tk:Ai) (D:Af) (c:Ai) (ps:Ab (K × Ac)),(∀ b o,s.heap.get? b=Aa o→h1.get? b=Aa o)→(∀ b o,h1.get? b=Aa o→h'.get? b=Aa o)→h1.objs.size≤D→h'.get? D=Aa (Er "list" (ps.map (·.2)).toArray c)→ps.map (·.1)=gX lt' ks→(∀ p∈ps,is p.1 p.2∧p.2∈vs)→ps.length=ks.length→Q (.ref D) { s with heap:=h',toks:=tk }) :
  Ao (Au prog w) A (call (.builtin "sorted") [.ref l]) Q E s:=by
 refine Qp kind_sorted plain_sorted entry_sorted (args_sorted1 _) ?_;unfold Hs.«sorted»;refine Ad (m:=checkCount "sorted" 1 1 _) (Am ?_);have hcol:∀ {R:Ab Ac→Ag→Prop},(∀ h1:Bs,(∀ b o,s.heap.get? b=Aa o→h1.get? b=Aa o)→R vs { s with heap:=h1 }) → Ao (Au prog w) A.in1 (collect (.ref l)) R E s:=fun {R} hR=>by
  have e:vs.toArray.toList=vs:=by simp
  rcases hl with⟨o,ho,hc,n,hd⟩|⟨o,ho,hc,n,hd⟩
  ·exact Xb l (.inl rfl) ho hc hd (fun h' hk=>by rw[e];exact hR h' hk) (by rw[Bb,Ev];omega)
  ·exact Xb l (.inr rfl) ho hc hd (fun h' hk=>by rw[e];exact hR h' hk) (by rw[Bb,Ev];omega)
 refine Ad (hcol fun h1 kp1=>?_);refine Ad (Vb ?_ (by rw[Ev];omega))
 have hD:(h1.push (Er "list" vs.toArray 0)).get? h1.objs.size=Aa (Er "list" vs.toArray 0):=Be _ rfl;have n0:h0.get? h1.objs.size=none:=by
  cases q:h0.get? h1.objs.size with
  |none=>rfl
  |some o=>exact absurd (Ba (kp1 _ _ (hS _ _ q))) (Eu _)
 show Ao _ _ _ _ _ { s with heap:=h1.push (Er "list" vs.toArray 0),toks:=s.toks }
 refine Ad (Eg (Ei slot_list_sort ⟨_,hD,rfl⟩ Yo (BD (h0:=h0) (is:=is) kd.ord kd.inj (d:=d) (vs:=vs) hlen hks hD (by show A.units+2<Fg;omega) hoel (fun h2=>kd.cmps hlen hks hf h2) (fun b o e=>Ah _ (kp1 b o (hS b o e))) n0 fun ps pm nf=>⟨_,rfl,?_⟩) (args_list_sort _)))
 refine Am ⟨_,rfl,?_⟩;have hz:(h1.push (Er "list" vs.toArray 0)).objs.size=h1.objs.size+1:=size_push' ..;have old:∀ b o,b≠h1.objs.size→(h1.push (Er "list" vs.toArray 0)).get? b=Aa o→((((h1.push (Er "list" vs.toArray 0)).update h1.objs.size (Ey fun _=>#[])).push (Er "tuple" vs.toArray 0)).push (Er "list" #[] 0)).get? b=Aa o:=fun b o hb e =>
  Ah _ (Ah _ ((Di _ _ (Ho hb)).trans e))
 obtain⟨e1,he1⟩:∃ e1,((h1.push (Er "list" vs.toArray 0)).update h1.objs.size (Ey fun _=>#[])).get? h1.objs.size=Aa (Er "list" #[] e1):=⟨_,Lg hD (fun _=>#[])⟩;have he6:=Lg (Ah (Er "list" #[] 0) (Ah (Er "tuple" vs.toArray 0) he1)) (fun _=>(ps.map (·.2)).toArray)
 have pk:(ps.map (·.1)).Perm ks:=by
  have:=pm.map (·.1)
  rwa [Rk (by omega)] at this
 refine h h1 _ s.toks h1.objs.size _ ps kp1 (fun b o e=>?_) (As _) he6 (sF kd.ord nf (ZH kd.ord ks) (pk.trans (pH ks).symm)) (fun p hp=>?_) (by have:=pk.length_eq;rwa [Ar] at this)
 ·have hb:b≠h1.objs.size:=fun z=>by
   subst z;exact absurd (Ba e) (Eu _)
  exact(Di _ _ (Ho hb)).trans (old b o hb (Ah _ e))
 ·obtain⟨i,e1,e2⟩:=UO (d:=d) hlen (pm.mem_iff.mp hp)
  exact⟨e2▸hks i _ e1,Ch e1⟩
end
end _S
namespace _D
open PySem PySem.Spec PyProof.Rows _L
def fD (xs:Ab D):Al (Ab D):=match wY xs with
 |some ns=>if ns.length≤100000 then Aa ((_S.gX _S.ltI ns).map D.int) else none
 |none=>match yI xs with
  |some ks=>if (decide (ks.length≤100000)&&ks.all fun k=>!k.isEmpty) then Aa ((_S.gX _H.lexLt ks).map tpD) else none
  |none=>none
def GX (R:Ab D→Sto→Res D):DF:=fun ds S=>match ds with
 |[d]=>match (mJ d).bind fD with
  |some ys=>R ys S
  |none=>.bad
 |_=>.bad
def bL:DF:=GX fun ys S=>.ok (.loc S.length) (S++[.lst ys])
section
variable {X:Cx}{pins:Ab (Af × Cq)}{σ : _L.St}{H P:Hp}{α : Ab Af}{S:Sto}{s:Ag}
inductive NewR (X:Cx)(pins:Ab (Af × Cq))(σ : _L.St)(H P:Hp)(α : Ab Af)(ys:Ab D)(u:Ac)(s':Ag):Prop
 |mk (D:Af) (vs:Ab V) (e:u=.ref D) (hn:H D=none) (I:Inv X pins σ (upd H D (.lst vs)) s') (rp:qF X.K P α ys vs):NewR X pins σ H P α ys u s'
theorem eA {K:Type}{is:K→Ac→Prop}{hash:K→Aj}{lt':K→K→Aq}{d:K}{Fit:K→Prop}(kd:_S.Kind X.prog X.w is hash lt' d Fit s.heap)(hu:X.A.units+64<Fg)(I:Inv X pins σ H s)(r:Rel X.K H P α S){a:Af}{its:Ab Ac}
  (ha:s.heap.IsList a its.toArray∨s.heap.IsTuple a its.toArray) (ks:Ab K) (hl:ks.length=its.length) (hk:∀ i v,its[i]? = Aa v→is (ks.getD i d) v) (hn:ks.length≤100000) (hf:∀ k∈ks,Fit k) (enc:K→D)
  (back:∀ k v,is k v→v∈its→∃ vv,qK vv v∧Rep X.K P α (enc k) vv) {E:Ac→Ag→Prop} :
  Ao (Au X.prog X.w) X.A (call (.builtin "sorted") [.ref a]) (NewR X pins σ H P α ((_S.gX lt' ks).map enc)) E s:=by
 refine _S.XW kd om (fun _ _ e=>e) ha ks hl.symm hk hf om fun h1 h2 tk2 D c ps kp1 kp2 hD hob hps hp hpl=>?_;have I1:Inv X pins σ H { s with heap:=h1,toks:=s.toks }:=I.kept kp1
 have vv:∀ (ps:Ab (K × Ac)),(∀ p∈ps,is p.1 p.2∧p.2∈its)→∃ vs,qL vs (ps.map (·.2))∧qF X.K P α ((ps.map (·.1)).map enc) vs:=by
  intro ps
  induction ps with
  |nil=>exact fun _=>⟨[],.nil,.nil⟩
  |cons p ps ih =>
   intro h;obtain⟨vs,a1,a2⟩:=ih fun q hq=>h q (by simp[hq])
   obtain⟨v,b1,b2⟩:=back p.1 p.2 (h p (by simp)).1 (h p (by simp)).2
   exact⟨v::vs,.cons b1 a1,.cons b2 a2⟩
 obtain⟨vs,a1,a2⟩:=vv ps hp;rw[hps] at a2;have nd:([(D,HO.lst vs)].map (·.1)).Nodup:=by simp
 have I2:Inv X pins σ (uD H [(D,HO.lst vs)]) { s with heap:=h2,toks:=tk2 }:=Inv.laidL (s:={ s with heap:=h1,toks:=s.toks }) (L:=[(D,HO.lst vs)]) (t':=tk2) I1 kp2 (fun p hpm=>by
  have:p=(D,HO.lst vs):=by simpa using hpm
  subst this;exact hD) fun p hpm=>by
  have:p=(D,HO.lst vs):=by simpa using hpm
  subst this;refine⟨?_,ps.map (·.2),c,a1,hob⟩
  have:=a1.length;rw[Ar] at this;rw[this,Ev];omega
 exact⟨D,vs,rfl,I1.hok.fresh hD,I2,a2⟩
set_option tactic.hygienic true in
theorem XU {E:Ac→Ag→Prop}(hu:X.A.units+64<Fg)(I:Inv X pins σ H s)(r:Rel X.K H P α S){a:Af}{xs ys:Ab D}{vs:Ab V}{its:Ab Ac}(t1:qF X.K P α xs vs)(rv1:qL vs its)(e1:s.heap.IsList a its.toArray∨s.heap.IsTuple a its.toArray)(l1:xs.length=its.length)(hs:fD xs=Aa ys) :
  Ao (Au X.prog X.w) X.A (call (.builtin "sorted") [.ref a]) (NewR X pins σ H P α ys) E s:=by
 unfold fD at hs;cases hi:wY xs with
 |some ns =>
  rw[hi] at hs;dsimp only at hs
  split at hs
  ·rename_i hlt
   cases hs;have:=gJ hi;subst this;have:=uF t1;subst this;refine eA (d:=0) (_S.BA X.prog X.w s.heap) hu I r e1 ns (by simpa using l1) (fun i u hu'=>?_) hlt (fun _ _=>trivial) D.int fun k u hk _=>?_
   ·have hi:Jg its ns:=by simpa using bO rv1
    obtain⟨t,rfl⟩:=Pa hi i u hu';exact Uy _ _ _ _
   ·obtain⟨t,rfl⟩:=_S.yR hk
    exact⟨.int k,⟨t,rfl⟩,by simp only[Rep]⟩
  ·cases hs
 |none =>
  rw[hi] at hs;dsimp only at hs;cases ht:yI xs with
  |none=>rw[ht] at hs;cases hs
  |some ks =>
   rw[ht] at hs;dsimp only at hs
   split at hs
   ·rename_i hlt
    cases hs;rw[Bo,Cs] at hlt;have:=nJ ht;subst this;have at':∀ (i:Ai) (u:Ac),its[i]? = Aa u→∃ b,u=.ref b∧Ot (Bg X.prog X.w) s.heap (ks.getD i []) b∧∃ vv,qK vv u∧Rep X.K P α (tpD (ks.getD i [])) vv:=fun i u hu'=>by
     have hii:i<its.length:=(Bf.mp hu').1;have hik:i<ks.length:=by rw[Ar] at l1;omega
     obtain⟨v,p,q,_⟩:=yF t1 rv1 (j:=i) (by rw[Bb];exact hii)
     have hd:(ks.map tpD).getD i D.non=tpD (ks.getD i []):=by simp[Jo,hik]
     rw[hd] at p;have hu2:its.toArray[i]'(by rw[Bb];exact hii)=u:=by
      rw[Ap hii] at hu';simpa using hu'
     rw[hu2] at q;obtain⟨b,ws,us,rfl,sq,t,rv,⟨o,ho,hcl,m,hd⟩,_,_⟩:=j6 I r (show Rep X.K P α (.tup ((ks.getD i []).map D.int)) v from p)
     cases (show u=Dc b from q)
     have:=uF t;subst this;exact⟨b,rfl,⟨o,us.toArray,m,ho,hcl,hd,by simpa using dS rv⟩,.ref b,rfl,p⟩
    refine eA (d:=[]) (_S.BB X.prog X.w s.heap) hu I r e1 ks (by simpa using l1) (fun i u hu'=>?_) hlt.1 (fun k hk=>?_) tpD fun k u hk hm'=>?_
    ·obtain⟨b,rfl,q,_⟩:=at' i u hu'
     exact⟨b,rfl,q⟩
    ·have:=Az.mp hlt.2 k hk
     intro z;subst z;cases this
    ·obtain⟨i,hi',rfl⟩:=Co.mp hm'
     obtain⟨b,eb,q,w,rw',pw⟩:=at' i _ (Ap hi');have:k=ks.getD i []:=_S.isT.inj hk ⟨b,eb,q⟩;rw[this];exact⟨w,rw',pw⟩
   ·cases hs
theorem AF (hu:X.A.units+64<Fg){vs:Ab V}{us:Ab Ac}{ds:Ab D}{Q:VK}{R:Ab D→Sto→Res D}(I:Inv X pins σ H s)(r:Rel X.K H P α S)(rv:qL vs us)(rp:qF X.K P α ds vs)(af:zA X P α (GX R ds S) Q)
  (k:∀ ys D vs',H D=none→qF X.K P α ys vs'→zA X P α (R ys S) Q→Q (.ref D) (upd H D (.lst vs'))):Ao (Au X.prog X.w) X.A (call (.builtin "sorted") us) (EP X pins σ Q) X.xe s:=by
 match ds,af,rp with
 |[],af,_=>exact An af
 |_::_::_,af,_=>exact An af
 |[d],af,rp =>
  simp only[GX] at af;cases hq:(mJ d).bind fD with
  |none=>rw[hq] at af;exact An af
  |some ys =>
   rw[hq] at af;obtain⟨xs,hd,hs⟩:=DL.mp hq;obtain⟨v,u,rfl,rfl,p,q⟩:=vL rp rv;obtain⟨a,vs,its,rfl,t1,rv1,e1,l1⟩:=UC I r p q hd;refine thn (XU hu I r t1 rv1 e1 l1 hs) fun u' s3 ⟨D,vs',e,hn,I',rp'⟩=>?_;subst e;exact⟨.ref D,_,I',rfl,k ys D vs' hn rp' af⟩
theorem ZZ (hu:X.A.units+64<Fg):yU X (.builtin "sorted") bL:=by
 intro pins σ H s P α S vs us ds Q I r rv rp af;exact AF hu I r rv rp af fun ys D vs' hn rp' af'=>sE r hn rp' af'
end
section
variable {X:Cx}{cm:Aq}{k:Ai}
theorem eE (hr:RoomC cm k X.A):ZCall X (.builtin "sorted") bL:=⟨ZZ hr.units⟩
end
theorem EO {K:Ak}{h:Bs}{mg:Ax→Al Ac}(X:K.In h)(G:h.Ns Ci mg){x:Ax}{st:Fl}{ps:Ab Ax}{f:Af}{oc:Ac}{od an:Al Af}{osl:Aw (Al Ac)}{kV doc pm cdv ct:Ac}
  (a:Dw K Ci x=Aa (Aa (.ref f)))
  (l:K.lookup f=Aa ⟨oc,od,.func (Hk x x (vH st) (xE st) (qJ st) .none kV doc pm an cdv ct),osl⟩) (c:Ma K cdv x=true) (k:Em K (.ref f)=true)
  (hb:∀ (kV doc pm:Ac) (an:Al Af) (cdv ct:Ac) (us:Ab Ac),us.length=ps.length→Yf (Hk x x (vH st) (xE st) (qJ st) .none kV doc pm an cdv ct) ⟨us,[]⟩=pure (ps.zip us)):Src K mg x st ps:=
 have F:=SG (st:=st) l c k
 ⟨f,_,Vc X G a,F,F.binds hb⟩
def cF (K:Ak)(C:Af):Aq:=
 decide (Lz K (.ref C) "__getattribute__" = Aa (Aa (.builtin "BaseException.__getattribute__")))&&decide (Lz K (.ref C) "__getattr__" = Aa none)
 && decide (Lz K (.ref C) "__class__" = Aa (Aa (.builtin "object.__class__")))&&decide (Ug K C (.type "object")=Aa true)&&decide (Ug K C (.type "BaseException")=Aa true)
 && (PySem.W.clsIn K C).isSome&&decide (Kl K (.ref C) (.type "ValueError")=Aa true)
def JF (K:Ak):Aq:=
 decide (Wk K (.builtin "object.__class__") "__get__" = Aa (Aa (.builtin "getset_descriptor.__get__")))&&decide (Ye K (.builtin "object.__class__")=Aa true)
def LV (K:Ak)(cl:Ab Af):Aq:=cl.all fun C=>cl.all fun B=>decide (Kl K (.ref C) (.ref B)=Aa (C == B))
theorem LW {K:Ak}{cl:Ab Af}(h1:cl.all (cF K)=true)(h2:JF K=true)(h3:LV K cl=true):ClsK K cl:=by
 have g:=h2;unfold JF at g;simp only[Bo,Cs] at g;have k1:∀ C∈cl,cF K C=true:=Az.mp h1;refine⟨fun C hC=>?_,fun C hC B hB=>?_,fun C hC=>?_⟩
 ·have e:=k1 C hC
  unfold cF at e;simp only[Bo,Cs] at e;obtain⟨⟨⟨⟨⟨⟨e1,e2⟩,e3⟩,e4⟩,e5⟩,e6⟩,e7⟩:=e;exact⟨e1,e2,e3,g.1,g.2,e4,e5,e6⟩
 ·have e:=Az.mp (Az.mp h3 C hC) B hB
  exact Ct e
 ·have e:=k1 C hC
  unfold cF at e;simp only[Bo,Cs] at e;exact e.2
def IE (K:Ak)(cs:Ab Ac)(A:Af):Aq:=cs.all fun v=>decide (Jf K v (.ref A)=Aa true)
def IC (K:Ak)(cs:Ab Af)(A:Af):Aq:=cs.all fun C=>tY K C A
def ID (K:Ak)(cs:Ab Af):Aq:=cs.all fun C=>Em K (.ref C)
def eX (K:Ak):Sp:=fun vs H Q E=>∃ a ns,vs=[.ref a]∧SqX K H a (List.map V.int ns)∧ns.length≤63∧∀ H',Q (.bl true) H'
theorem iJ {K:Ak}{P:Hp}{α : Ab Af}:∀ ns:Ab Aj,qF K P α (ns.map D.int) (ns.map V.int)
 |[]=>.nil
 |n::ns=>.cons (by simp only[Rep]) (iJ ns)
theorem TD {P:Bm}{w:Cb}{K:Ak}{mg:Ax→Al Ac}{fa:Af}{st:Fl}{k:Ai}{x:Ax}(hs:Src K mg "law" st [x])(hfa:mg "law" = Aa (.ref fa))
  (hbd:∀ (kV doc pm:Ac) (an:Al Af) (cdv ct:Ac) (s:Ag) (v:Ac),Om s (Hk "law" "law" (vH st) (xE st) (qJ st) .none kV doc pm an cdv ct) ⟨[v],[]⟩ [(x,v)])
  (hall:∀ base:Bs,∃ F,h9 P w K mg base true k "law" [x] F∧∀ ns:Ab Aj,ns.length≤63→∃ S,F [.lst (ns.map D.int)] [] = .ok (.bl true) S) :
  ∃ fd:Fx,(∀ (s:Ag) (v:Ac),Om s fd ⟨[v],[]⟩ [(x,v)])∧∀ base:Bs,K.In base→base.Ns Ci mg→FnOk P w K mg base (CXd P w) k fa fd [x] (eX K):=by
 obtain⟨f,fd,hm,F,hb⟩:=hs;cases hfa.symm.trans hm;refine⟨fd,?_,fun base _ _=>?_⟩
 ·obtain⟨oc,od,kV,doc,pm,an,cdv,ct,osl,rfl,_,_⟩:=F.ex
  exact hbd kV doc pm an cdv ct
 ·obtain⟨G,⟨f',fd',hm',_,hb',hl,X⟩,hG⟩:=hall base
  cases hm.symm.trans hm';cases hl.one (eT F);refine(X.imp fun vs H Q E h=>?_).ok;obtain⟨a,ns,rfl,hS,hl,k⟩:=h;obtain⟨S,e⟩:=hG ns hl;refine⟨rfl,H,[],[.lst (ns.map D.int)],[],⟨qH.refl _,rfl,.nil,by simp,by simp,by simp⟩,.cons (t9 hS (iJ ns)) .nil,?_⟩
  rw[e];intro v H' P' α' _ _ _ rv;simp only[Rep] at rv;subst rv;exact k H'
theorem AO {l:Yg}{q:Bm}{loose:Ab Ax}{XP:(Ax→Al Ac)→Bs→Prop}{YP:Cb→Bs→Prop}{d:DefRec}{K:Zi→Ak}{k:Ai}{x:Ax}(hn:l.most=Aa 63)(hdf:d.params.defaults=[])(hr:Room k Qc)
  (hY:∀ (w:Cb) (h:Bs),YP w h→(K w.params).In h)
  (F:∀ (w:Cb) (mg:Ax→Al Ac) (fa:Af) (h:Bs),(K w.params).In h→h.Ns Ci mg→mg d.name=Aa (.ref fa) →
   ∃ fd:Fx,(∀ (s:Ag) (u:Ac),Om s fd ⟨[u],[]⟩ [(x,u)])∧∀ base:Bs,(K w.params).In base→base.Ns Ci mg→FnOk l.prog w (K w.params) mg base (CXd l.prog w) k fa fd [x] (eX (K w.params))) :
  Ur q loose XP YP l.row.toRowW d [] (fun f vs=>Yw f vs):=
 _L.L3 (n:=63) (k:=k) (x:=x) (CX:=fun w=>CXd l.prog w) (sp:=fun w=>eX (K w.params)) hn (by decide) hdf hr hY F (fun _ _ a ns hl _ hS=>⟨a,ns,rfl,hS,hl,fun _=>rfl⟩) fun w H s e s' h=>by
  obtain⟨_,_,_,_,_,_,_,_,_,_,_,_,z⟩:=h;exact z
end _D
namespace _D
open PySem
theorem us0 {us:Ab Ac}(h:us.length=0):us=[]:=Oc h
theorem usS {us:Ab Ac}{n:Ai}(h:us.length=n+1):∃ a vs,us=a::vs∧vs.length=n:=by
 cases us with
 |nil=>exact absurd h (by simp)
 |cons a vs=>exact⟨a,vs,rfl,by simpa using h⟩
theorem us1 {us:Ab Ac}(h:us.length=1):∃ a,us=[a]:=by
 obtain⟨a,vs,rfl,h'⟩:=usS h;exact⟨a,by rw[us0 h']⟩
theorem us2 {us:Ab Ac}(h:us.length=2):∃ a b,us=[a,b]:=by
 obtain⟨a,vs,rfl,h'⟩:=usS h;obtain⟨b,rfl⟩:=us1 h';exact⟨a,b,rfl⟩
theorem us3 {us:Ab Ac}(h:us.length=3):∃ a b c,us=[a,b,c]:=by
 obtain⟨a,vs,rfl,h'⟩:=usS h;obtain⟨b,c,rfl⟩:=us2 h';exact⟨a,b,c,rfl⟩
end _D
namespace _D
open PySem PySem.Spec PyProof.Rows _L
theorem F1 (F:DF):∃ G:DF,G=F:=⟨F,rfl⟩
def sh (F:DF):DF:=Nj (F1 F)
theorem x8 (F:DF):sh F=F:=Nk (F1 F)
def isV:Al Ir→Aq
 |some .local => true
 |some .cell=>true
 |some .free=>true
 |_=>false
def isL:Al Ir→Aq
 |some .local => true
 |some .cell=>true
 |_=>false
def isG:Al Ir→Aq
 |some .globalImplicit=>true
 |_=>false
def okN (x:Ax):Aq:=!(x == ("__debug__" : Ax))&&(!(x == ("__classdict__" : Ax))&&!decide (x = "__name__"))
def okG (X:Cx)(x:Ax):Aq:=isG (X.env.kindOf x)&&okN x
def okB (v:Ac)(x:Ax):Aq:=decide (Gc x=Aa v)
def sB (sc:Gp):Ab Ax:=sc.names.filterMap fun y=>if isL (Aa y.2) then Aa y.1 else none
def u3 (sc:Gp):Ab Ax:=(sc.names.filterMap fun y=>if isL (Aa y.2)&&!(y.1 == (".0" : Ax)) then Aa y.1 else none)++sc.names.filterMap fun y=>if y.2 == .free then Aa y.1 else none
def Ck (b:Aq):Prop:=b=true
theorem ck {b:Aq}(h:b=true:=by kernel_rfl):Ck b:=h
structure DfS (F:DF)(P:Bm)(w:Cb)(K:Ak)(mg:Ax→Al Ac)(base:Bs)(cm:Aq)(k:Ai)(x:Ax)(n:Ai):Prop where
 get:Def P w K mg base cm k x n F
def okT (X:Cx)(m:Ai)(x:Ax):Aq:=decide (X.N[m]? = Aa x)&&(isL (X.env.scope.names.lookup x)&&(decide X.N.Nodup&&(X.fn x||decide (X.env.scope.names.lookup x=Aa .local))))
def okP (X:Cx)(m:Ai)(x:Ax):Aq:=decide (X.N[m]? = Aa x)&&decide (X.env.scope.names.lookup x=Aa .local)
def eQ (scX:Gp)(NX:Ab Ax)(scope:Gp)(cap:Ab (Al Ai)):Aq:=
 decide (scope.kind=.function)&&(decide (∀ y∈scope.names,y.2=.local → scope.names.lookup y.1=Aa .local)&&(decide (∀ y∈scope.names,y.2≠.cell)&&(decide (∀ y∈scope.names,y.2=.free→scX.names.lookup y.1=Aa .cell∨scX.names.lookup y.1=Aa .free)
 && (decide (∀ y∈scope.names,y.2=.free→scope.names.lookup y.1=Aa .free)&&(decide (cap.length=(u3 scope).length)&&(((cap.zip (u3 scope)).all fun p=>match p.1 with|none=>true|some i=>NX[i]? == Aa p.2&&scope.names.lookup p.2 == Aa .free)&&decide (u3 scope).Nodup))))))
def fnB (N P:Ab Ax)(sc:Gp):Aq:=
 decide (sc.kind=.function)&&(decide (sc.isCoroutine=false)&&(decide (sc.isGenerator=false)&&(decide N.Nodup&&(decide (N.take P.length=P)&&(decide (∀ x∈P,sc.names.lookup x=Aa .local ∨ sc.names.lookup x=Aa .cell)&&decide (∀ y∈sc.names,y.2≠.free))))))
theorem cG {scX:Gp}{NX:Ab Ax}{scope:Gp}{cap:Ab (Al Ai)}(h:eQ scX NX scope cap=true):CompSc scX NX scope (u3 scope) cap:=by
 simp only[eQ,Bo,Cs] at h;obtain⟨a,b,c,d,e,f,g,k⟩:=h;exact⟨a,b,c,d,e,f,g,k⟩
theorem Y6 {N P:Ab Ax}{sc:Gp}(h:fnB N P sc=true):FnScope N P sc:=by
 simp only[fnB,Bo,Cs] at h;obtain⟨a,b,c,d,e,f,g⟩:=h;exact⟨a,b,c,d,e,f,g⟩
section
variable {X:Cx}{a b c e o elt tg iter:By}{ifs rest:Ab By}{f g:DS}{fa:DE}{f2:DI2}{dg:DG}{t:DT}{kk:DK}{gens grest:Ab Fn}{scope:Gp}{cap:Ab (Al Ai)}{mm:Aq}{l q:Ai}{y z:Ax}{G2':G2}{es:Ab By}{fA:DA}{x:Ax}{p pos:Fk}{cm:Aq}{k n m:Ai}{F:DF}
theorem MV {sc:Gp}(h:isV (sc.names.lookup x)=true):Vis sc x:=by
 unfold Vis
 revert h
 cases sc.names.lookup x with
 |none=>intro h;cases h
 |some y=>cases y <;> intro h <;> first|cases h;done|exact .inl rfl|exact .inr (.inl rfl)|exact .inr (.inr rfl)
theorem MU {sc:Gp}(h:isL (sc.names.lookup x)=true):_L.Loc sc x:=by
 unfold _L.Loc
 revert h
 cases sc.names.lookup x with
 |none=>intro h;cases h
 |some y=>cases y <;> intro h <;> first|cases h;done|exact .inl rfl|exact .inr rfl
theorem lH (h:okN x=true):(x == ("__debug__" : Ax))=false∧(x == ("__classdict__" : Ax))=false∧x ≠ "__name__":=by
 unfold okN at h;rw[Bo,Bo] at h;exact⟨by simpa using h.1,by simpa using h.2.1,by simpa using h.2.2⟩
theorem yA (h:okG X x=true):Gl X x∧(x == ("__debug__" : Ax))=false∧x ≠ "__name__":=by
 have h:=(Bo _ _).mp h;refine⟨?_,(lH h.2).1,(lH h.2).2.2⟩;have z:=h.1;unfold Gl
 revert z
 cases X.env.kindOf x with
 |none=>intro z;cases z
 |some y=>cases y <;> intro z <;> first|cases z;done|rfl
theorem aS (h:okT X m x=true):X.N[m]? = Aa x∧_L.Loc X.env.scope x∧X.N.Nodup∧(X.fn x=true∨X.env.scope.names.lookup x=Aa .local):=by
 simp only[okT,Bo,Cs,Lc] at h;exact⟨h.1,MU h.2.1,h.2.2⟩
theorem b5 (h:okP X m x=true):X.N[m]? = Aa x∧X.env.scope.names.lookup x=Aa .local:=by
 simp only[okP,Bo,Cs] at h;exact h
theorem B4 (h:Ck (okG X x)):Gl X x:=(yA h).1
theorem aV (h:Ck (decide (X.N[m]? = Aa x)&&(isV (X.env.scope.names.lookup x)&&okN x))):QE X (.Name x pos) (qB m):=by
 unfold Ck at h;simp only[Bo,Cs] at h;exact EB m h.1 (MV h.2.1) (lH h.2.2).1 (lH h.2.2).2.1
theorem aBt {nm:Ep}(h:Ck (okG X x))(hm:X.mg x=none)(hb:Ck (okB (.type nm) x)):QE X (.Name x pos) (dC (.ty nm)):=
 have h:=yA h
 NA h.1 hm (Ct hb) h.2.2 h.2.1
theorem aCl {C:Af}(h:Ck (okG X x))(hm:X.mg x=Aa (.ref C)∧Em X.K (.ref C)=true):QE X (.Name x pos) (dC (.obj C)):=
 have h:=yA h
 E9 h.1 hm.1 hm.2 h.2.1
theorem aGi {v:Aj}(h:Ck (okG X x))(hm:∃ t,X.mg x=Aa (.int v t)):QE X (.Name x pos) (dC (.int v)):=
 have h:=yA h
 NB h.1 hm h.2.1
abbrev St1 (X:Cx)(e:By)(es:Ab By)(pos:Fk):Prop:=Bc (e::es) X.env=(false,eval e X.env)::Bc es X.env∧(Fq pos (Bc es X.env)).any (·.1)=false
theorem aN (G:DfS F X.prog X.w X.K X.mg X.base cm k x n)(hr:RoomC cm k X.A)(hF:Fn1 X)(h:Ck (okG X x))(ha:QA X (e::es) fA)(s:St1 X e es pos):QE X (.Call (.Name x p) (e::es) [] pos) (qG n F fA):=
 have h:=yA h
 qcN G.1 hr hF h.1 ha h.2.1 s.1 s.2
theorem aL (G:DfS F X.prog X.w X.K X.mg X.base cm k x n)(hr:RoomC cm k X.A)(hF:Fn1 X)(h:Ck (okG X x))(ha:QA X (e::es) fA)(s:St1 X e es pos):QE X (.Call (.Name x p) (e::es) [] pos) (qG n (vJ F) fA):=
 have h:=yA h
 qcL G.1 hr hF h.1 ha h.2.1 s.1 s.2
theorem aO (G:DfS F X.prog X.w X.K X.mg X.base cm k x n)(hr:RoomC cm k X.A)(h:Ck (okG X x))(ha:QA X (e::es) fA)(s:St1 X e es pos):QE X (.Call (.Name x p) (e::es) [] pos) (qG n (okO F) fA):=
 have h:=yA h
 qcO G.1 hr h.1 ha h.2.1 s.1 s.2
theorem aB {id:Ep}(hc:ZCall X (.builtin id) F)(h:Ck (okG X x))(hm:X.mg x=none)(hb:Ck (okB (.builtin id) x))(ha:QA X (e::es) fA)(s:St1 X e es pos):QE X (.Call (.Name x p) (e::es) [] pos) (qE F fA):=
 have h:=yA h
 GD hc h.1 hm (Ct hb) ha h.2.2 h.2.1 s.1 s.2
theorem aT {T:Ep}(hc:ZCall X (.type T) F)(h:Ck (okG X x))(hm:X.mg x=none)(hb:Ck (okB (.type T) x))(ha:QA X (e::es) fA)(s:St1 X e es pos):QE X (.Call (.Name x p) (e::es) [] pos) (qE F fA):=
 have h:=yA h
 VG hc h.1 hm (Ct hb) ha h.2.2 h.2.1 s.1 s.2
theorem aC (S:Ck (eQ X.env.scope X.N scope cap))(hc:X.calm=true)(hi:QI2 X tg iter f2)(hg:∀ cl C ex s₀ H₀,QG (zE X (u3 scope) scope cl C ex s₀ H₀) tg dg)(ht:∀ cl C ex s₀ H₀,QTs (zE X (u3 scope) scope cl C ex s₀ H₀) ifs t)
  (has:∀ g',(⟨tg,iter,ifs,0⟩::grest:Ab Fn)[0+1]? = Aa g'→g'.is_async=0)
  (he:∀ cl C ex s₀ H₀,QK (zE X (u3 scope) scope cl C ex s₀ H₀) (fun acc=>wD elt (⟨tg,iter,ifs,0⟩::grest) scope pos 0 acc (zE X (u3 scope) scope cl C ex s₀ H₀).env) kk) (hs:∀ x,Fy iter X.env x=pure x) :
  QE X (.ListComp elt (⟨tg,iter,ifs,0⟩::grest) scope pos) (qW mm cap f2 dg t kk):=GE hc (cG S) hi hg ht has he hs
theorem aCs {py spos:Fk}(hsw:Me (.ListComp elt (⟨tg,iter,ifs,0⟩::grest) scope pos) (Aa (.Name y py)) spos.line X.env=pure true)(S:Ck (eQ X.env.scope X.N scope cap))(hN:Ck (okT X m y))(hc:X.calm=true)(hi:QI2 X tg iter f2)(hg:∀ cl C ex s₀ H₀,QG (zE X (u3 scope) scope cl C ex s₀ H₀) tg dg)(ht:∀ cl C ex s₀ H₀,QTs (zE X (u3 scope) scope cl C ex s₀ H₀) ifs t)
  (has:∀ g',(⟨tg,iter,ifs,0⟩::grest:Ab Fn)[0+1]? = Aa g'→g'.is_async=0)
  (he:∀ cl C ex s₀ H₀,QK (zE X (u3 scope) scope cl C ex s₀ H₀) (fun acc=>wD elt (⟨tg,iter,ifs,0⟩::grest) scope pos 0 acc (zE X (u3 scope) scope cl C ex s₀ H₀).env) kk) (hs:∀ x,Fy iter X.env x=pure x) :
  QS X (.Assign [.Name y py] (.ListComp elt (⟨tg,iter,ifs,0⟩::grest) scope pos) spos) (zI (qW mm cap f2 dg t kk) (gNm m)):=
 have h:=aS hN
 GF hc h.2.2.1 (cG S) hi hg ht has he h.1 h.2.1 h.2.2.2 hsw hs
theorem aNm (h:Ck (okT X m x)):QG X (.Name x pos) (gNm m):=
 have h:=aS h
 NC h.2.2.1 h.1 h.2.1 h.2.2.2
theorem aSt {pos':Fk}(hs:Me e (Aa (.Name x pos')) pos.line X.env=pure false)(he:QE X e fa)(h:Ck (okT X m x)):QS X (.Assign [.Name x pos'] e pos) (zI fa (gNm m)):=
 have h:=aS h
 ED h.2.2.1 he h.1 h.2.1 hs h.2.2.2
theorem aP2 {px py pt:Fk} {kt k2 pt2} (h:Ck (decide X.N.Nodup&&(okP X m x&&(okP X l y&&!decide (m=l))))) (hc:X.calm=true) (ha:QA X [a,b] fA)
  (hw:Ku [.Tuple [.Name x px,.Name y py] kt pt] (.Tuple [a,b] k2 pt2) X.env=pure (Aa [x,y])) (hs:Kv [.Tuple [.Name x px,.Name y py] kt pt] (.Tuple [a,b] k2 pt2) pos.line X.env=pure false) :
  QS X (.Assign [.Tuple [.Name x px,.Name y py] kt pt] (.Tuple [a,b] k2 pt2) pos) (gU m l fA):=by
 unfold Ck at h;simp only[Bo,Cs,Kf,Fi] at h;exact EC hc h.1 ha (b5 h.2.1).1 (b5 h.2.2.1).1 h.2.2.2 (b5 h.2.1).2 (b5 h.2.2.1).2 hw hs
theorem aRs {C:Af}{np cpos:Fk}(h:Ck (okG X x))(hc:X.calm=true)(hF:Fn1 X)(hm:∃ Ae,X.mg x=Aa (.ref C)∧tY X.K C Ae=true)(ha:QA X (e::rest) fA)(s:St1 X e rest cpos) :
  QS X (.Raise (Aa (.Call (.Name x np) (e::rest) [] cpos)) none pos) (uX (.ref C) fA):=
 have h:=yA h
 let ⟨_,hm,hx⟩:=hm
 GG hc hF h.1 hm hx ha h.2.1 s.1 s.2
theorem aTr {nm:Ax}{body:Ab Fl}{b₀:Fl}{suite:Ab Fl}{np hpos:Fk}{cs:Ab Ac}(h:Ck (okG X x&&(okP X m nm&&(decide X.N.Nodup&&decide (X.N.length=n)))))(hF:Fn1 X)(hm:∃ C0,X.mg x=Aa (.ref C0)∧∀ c∈cs,Jf X.K c (.ref C0)=Aa true)(hb:∀ E pn,ZPass (Cx.tryIn X E pn)→QB (Cx.tryIn X E pn) body f)(hs:∀ e,QB (Cx.suite X e) (b₀::suite) g) :
  QS X (.Try body [.ExceptHandler (Aa (.Name x np)) (Aa nm) (b₀::suite) hpos] [] [] pos) (nG n m cs f g):=by
 unfold Ck at h;simp only[Bo,Cs] at h;obtain⟨C0,hm,hcs⟩:=hm;exact EE hF hb hs (yA h.1).1 hm hcs h.2.2.1 (b5 h.2.1).1 (b5 h.2.1).2 (yA h.1).2.1 h.2.2.2
theorem aTb {ie:By}{fi:DE}{Fs:Ab (Ai × DF)}{lp sp:Fk}(hr:RoomC cm k X.A)(T:ZTab X cm k es Fs)(hF:Fn1 X)(hl:Ck (decide (Fs.length≤lim)))(hi:QE X ie fi)(ha:QA X (e::rest) fA)(hs:kT ie)(s:St1 X e rest pos) :
  QE X (.Call (.Subscript (.List es lp) ie sp) (e::rest) [] pos) (dE Fs fi fA):=EA T hr hF (Ct hl) hi ha hs s.1 s.2
theorem aZt {j:Ai}{Fs:Ab (Ai × DF)}(G:DfS F X.prog X.w X.K X.mg X.base cm j x n)(hj:j≤k)(h:Ck (okG X x))(t:ZTab X cm k es Fs):ZTab X cm k (.Name x p::es) ((n,F)::Fs):=
 have h:=yA h
 UQ (G.1.mono hj) h.1 h.2.1 t
end
structure TxS (K:Ak)(mg:Ax→Al Ac)(tp:Ai→Fl)(tab:Ab (Ax × Ai × Ab Ax))(bl:Ab Ax)(clt plt:Ab (Ax × Af))(cs:Ab Ac)(exl:Ab Af)(cst:Ab (Ax × Aj)):Prop where
 src:∀ (j:Ai) {x:Ax} {i:Ai} {ps:Ab Ax},tab[j]? = Aa (x,i,ps)→Src K mg x (tp i) ps
 nb:∀ {x:Ax},Ck (bl.contains x)→mg x=none
 cl:∀ {x:Ax} {C:Af},clt.lookup x=Aa C→mg x=Aa (.ref C)∧Em K (.ref C)=true
 rz:∀ {x:Ax} {C:Af},plt.lookup x=Aa C→∃ Ae,mg x=Aa (.ref C)∧tY K C Ae=true
 ct:∃ C0,mg "FarError" = Aa (.ref C0)∧∀ c∈cs,Jf K c (.ref C0)=Aa true
 cls:ClsK K exl
 gi:∀ {x:Ax} {v:Aj},cst.lookup x=Aa v→∃ t,mg x=Aa (.int v t)
section
variable {K:Ak}{mg:Ax→Al Ac}{cm:Aq}{tp:Ai→Fl}{tab:Ab (Ax × Ai × Ab Ax)}{bl:Ab Ax}{clt plt:Ab (Ax × Af)}{cs:Ab Ac}{exl:Ab Af}{cst:Ab (Ax × Aj)}{x:Ax}{i m:Ai}{ps:Ab Ax}{F:DF}{g:DS}
theorem dq (P:Bm)(w:Cb)(base:Bs)(k j:Ai)(T:TxS K mg tp tab bl clt plt cs exl cst)(hj:tab[j]? = Aa (x,i,ps))(h:Ck (fnB (sB (qJ (tp i))) ps (qJ (tp i))&&decide ((sB (qJ (tp i))).length=m)))(hF:F=qR m g)
  (hb:∀ (f:Af) (cdv:Ac) (A:Bz) (outer:Ab Ks) (s:Ag) (H:Hp) (E:XK),RoomC cm k (A.deeper (Gw x (qJ (tp i)) s.heap.objs.size f cdv)) →
   QB (cxC cm P w K mg base (sB (qJ (tp i))) x (qJ (tp i)) f cdv A outer s H E) (xE (tp i)) g):DfS F P w K mg base cm (k+1) x ps.length:=by
 unfold Ck at h;simp only[Bo,Cs] at h;obtain⟨h,rfl⟩:=h;exact⟨hF▸IF (T.src j hj) (Y6 h) rfl hb⟩
theorem dqP {P:Bm}{w:Cb}{base:Bs}(k j:Ai)(T:TxS K mg tp tab bl clt plt cs exl cst)(hj:tab[j]? = Aa (x,i,ps))(h:Ck (fnB (sB (qJ (tp i))) ps (qJ (tp i))&&decide ((sB (qJ (tp i))).length=m)))
  (hb:∀ (f:Af) (cdv:Ac) (A:Bz) (outer:Ab Ks) (s:Ag) (H:Hp) (E:XK),RoomC cm k (A.deeper (Gw x (qJ (tp i)) s.heap.objs.size f cdv)) →
   QB (cxC cm P w K mg base (sB (qJ (tp i))) x (qJ (tp i)) f cdv A outer s H E) (xE (tp i)) g):h9 P w K mg base cm (k+1) x ps (qR m g):=by
 unfold Ck at h;simp only[Bo,Cs] at h;obtain⟨h,rfl⟩:=h;exact HS (T.src j hj) (Y6 h) rfl hb
end
theorem hv {a b:Prop}(f:a→b)(h:a):b:=f h
inductive SrcF (K:Ak)(x:Ax)(st:Fl)(ps:Ab Ax):Prop
 |mk {f:Af} {oc:Ac} {od an:Al Af} {osl:Aw (Al Ac)} {kV doc pm cdv ct:Ac} (a:Dw K Ci x=Aa (Aa (.ref f)))
  (l:K.lookup f=Aa ⟨oc,od,.func (Hk x x (vH st) (xE st) (qJ st) .none kV doc pm an cdv ct),osl⟩) (c:Ma K cdv x=true) (k:Em K (.ref f)=true):SrcF K x st ps
def ZR (K:Ak)(tp:Ai→Fl):Ab (Ax × Ai × Ab Ax)→Prop
 |[]=>Nr
 |(x,i,ps)::t=>SrcF K x (tp i) ps∧ZR K tp t
def BdF (tp:Ai→Fl):Ab (Ax × Ai × Ab Ax)→Prop
 |[]=>Nr
 |(x,i,ps)::t=>(∀ (kV doc pm:Ac) (an:Al Af) (cdv ct:Ac) (us:Ab Ac),us.length=ps.length→Yf (Hk x x (vH (tp i)) (xE (tp i)) (qJ (tp i)) .none kV doc pm an cdv ct) ⟨us,[]⟩=pure (ps.zip us))∧BdF tp t
def ZN (K:Ak):Ab (Ax × Af)→Prop
 |[]=>Nr
 |(x,C)::t=>Dw K Ci x=Aa (Aa (.ref C))∧ZN K t
def ZO (K:Ak):Ab (Ax × Aj)→Prop
 |[]=>Nr
 |(x,v)::t=>(∃ k,Dw K Ci x=Aa (Aa (.int v k)))∧ZO K t
def IL:Al (Al Ac)→Aq
 |some none=>true
 |_=>false
section
variable {K:Ak}{h:Bs}{mg:Ax→Al Ac}{tp:Ai→Fl}
theorem ZG (X:K.In h)(G:h.Ns Ci mg):∀ (tab:Ab (Ax × Ai × Ab Ax)),ZR K tp tab→BdF tp tab→∀ (j:Ai) {x:Ax} {i:Ai} {ps:Ab Ax},tab[j]? = Aa (x,i,ps)→Src K mg x (tp i) ps
 |[],_,_,_,_,_,_,e=>by cases e
 |(x,i,ps)::t,H,B,0,_,_,_,e=>by
  cases e;obtain⟨a,l,c,k⟩:=H.1;exact EO X G a l c k B.1
 |(x,i,ps)::t,H,B,j+1,_,_,_,e=>ZG X G t H.2 B.2 j e
theorem v6 {β : Type}{p:Ax→β→Prop}{x:Ax}{C:β}:∀ {l:Ab (Ax × β)},(∀ y∈l,p y.1 y.2)→l.lookup x=Aa C→p x C
 |[],_,e=>by cases e
 |(y,b)::t,H,e=>by
  rw[Jh] at e;cases q:x == y with
  |true =>
   rw[q] at e;cases e;rw[eq_of_beq q];exact H (y,_) (.head _)
  |false =>
   rw[q] at e;exact v6 (fun z hz=>H z (.tail _ hz)) e
theorem mO (X:K.In h)(G:h.Ns Ci mg):∀ {l:Ab (Ax × Af)},ZN K l→∀ y∈l,mg y.1=Aa (.ref y.2)
 |(x,C)::t,H,y,hy=>by
  rcases Av.mp hy with rfl|hy
  ·exact Vc X G H.1
  ·exact mO X G H.2 y hy
theorem oK (X:K.In h)(G:h.Ns Ci mg):∀ {l:Ab (Ax × Aj)},ZO K l→∀ y∈l,∃ k,mg y.1=Aa (.int y.2 k)
 |(x,C)::t,H,y,hy=>by
  rcases Av.mp hy with rfl|hy
  ·obtain⟨k,e⟩:=H.1
   exact⟨k,Vc X G e⟩
  ·exact oK X G H.2 y hy
theorem AM {tab:Ab (Ax × Ai × Ab Ax)}{bl:Ab Ax}{clt plt:Ab (Ax × Af)}{cs:Ab Ac}{exl:Ab Af}{cst:Ab (Ax × Aj)}{far:Af}(B:BdF tp tab)(hp:∀ y∈plt,y∈clt)(hf:clt.lookup ("FarError" : Ax)=Aa far)(X:K.In h)(G:h.Ns Ci mg)
  (s:ZR K tp tab) (z:(bl.all fun x=>IL (Dw K Ci x))=true) (q:ZN K clt) (g:ZO K cst) (e1:exl.all (cF K)=true) (e2:JF K=true) (e3:LV K exl=true) (e4:IE K cs far=true) (e5:IC K (plt.map (·.2)) far=true) (e6:ID K (clt.map (·.2))=true):TxS K mg tp tab bl clt plt cs exl cst where
 src:=ZG X G tab s B
 nb:=fun {x} hx=>by
  have e:=Az.mp z x (by simpa using Fh.mp hx)
  refine PySem.W.mg_none_of X G ?_
  revert e
  cases Dw K Ci x with
  |none=>intro e;cases e
  |some y=>cases y with
   |none=>intro _;rfl
   |some y=>intro e;cases e
 cl:=fun h=>⟨v6 (p:=fun x C=>mg x=Aa (.ref C)) (mO X G q) h,v6 (p:=fun _ C=>Em K (.ref C)=true) (fun y hy=>Az.mp e6 y.2 (Jl hy)) h⟩
 rz:=fun h=>⟨far,v6 (p:=fun x C=>mg x=Aa (.ref C)) (fun y hy=>mO X G q y (hp y hy)) h,v6 (p:=fun _ C=>tY K C far=true) (fun y hy=>Az.mp e5 y.2 (Jl hy)) h⟩
 ct:=⟨far,v6 (p:=fun x C=>mg x=Aa (.ref C)) (mO X G q) hf,fun v hv=>Ct (Az.mp e4 v hv)⟩
 cls:=LW e1 e2 e3
 gi:=fun h=>v6 (p:=fun x v=>∃ k,mg x=Aa (.int v k)) (oK X G g) h
end
theorem AQ {q:Bm}{loose:Ab Ax}{XP:(Ax→Al Ac)→Bs→Prop}{r:PySem.W.RowW}{d:DefRec}{kwd:Ab (Ax × By)}{run:Ac→Ab Ac→Kt Ac}{K:Zi→Ak}{as:Ab Af}{n t:Ai}(e:∀ P,as=(K P).map (·.1))
  (h:Ur q loose XP (fun w h=>(K w.params).In h) r d kwd run):PySem.W.WalkX q loose XP (PySem.W.X.obsZ as) (PySem.W.X.valZ K n t) r d kwd run:=
 fun w s₀ s₁ mg mb G Y a o pm cd doc dV kV h1 h2 h3 h4 h5 h6 args vals as' L=>h w s₀ s₁ mg mb G (PySem.W.InK.keeps w _ _ (PySem.W.X.z_facts e Y).2.1 L.keeps) a o pm cd doc dV kV h1 h2 h3 h4 h5 h6 args vals as'
def Iti (a:Af)(o:Cq)(vs:Ab (Key × V)):It:=
 ⟨fun i H=>(∃ u,H a=Aa (.frz o u))∧i<vs.length,fun i H v H'=>∃ T q,v=.ref T∧H T=none∧H'=upd H T (.tup [kV q.1,q.2])∧vs[i]? = Aa q,fun i H=>(∃ u,H a=Aa (.frz o u))∧vs.length≤i⟩
theorem XY {P:Bm}{w:Cb}{K:Ak}{elts:Ab By}{x1:Ai}{tpos:Fk}{a it:Af}{o:Cq}{vs:Ab (Key × V)}{us:Ab (Key × Ac)}{ep:Ai}(kv:KV vs us)(at':∀ h:Bs,h.get? a=Aa o→h.DictAt (xA P w) a us ep) :
  Turn P w K (.Tuple elts x1 tpos) (Iti a o vs) [it] it (fun i h=>∃ ok ov,IsItemIter h it a i us.length ep ok ov) where
 mem:=by simp
 obj:=fun i h st b hb=>by
  have e:b=it:=by simpa using hb
  subst e;obtain⟨ok,ov,e⟩:=st;exact⟨_,e,fun v z=>by cases z⟩
 keep:=fun i h h' st k=>by
  obtain⟨ok,ov,e⟩:=st;exact⟨ok,ov,k it (by simp) _ e⟩
 item:=by
  intro X hP hw hK hc i pins s σ H E I hf st hg;subst hP hw hK;obtain⟨⟨u0,hu⟩,hlt⟩:=hg;obtain⟨ok,ov,st⟩:=st;have ho:s.heap.get? a=Aa o:=(I.hok a _ hu).1;obtain⟨u,e1,e2⟩:=YK kv (Ap hlt);refine wpAny_pyNext_items_item st (at' _ ho) e1 fun key h' hk a1 a2 a3 a4=>?_;refine⟨_,rfl,wpAny_letOwnedTupleGo_items (s:={ s with heap:=h' }) a1 fun h2 b1 b2=>?_⟩
  have up:∀ c o,c≠it→h'.get? c=Aa o→h2.get? c=Aa o:=fun c o n q=>(b2.2 c n).trans q;have el:it<s.heap.objs.size:=Ba st;have T2:=up _ _ (Gz el) a2;refine⟨.ref s.heap.objs.size,upd H s.heap.objs.size (.tup [kV (vs[i]).1,(vs[i]).2]),?_,rfl,⟨_,vs[i],rfl,I.hok.fresh (As _),rfl,Ap hlt⟩,⟨_,_,b1⟩,fun c hc=>?_⟩
  ·have:=Inv.turnLay (s:=s) (fp:=[it]) (its:=[key,u]) (h':=h2) (xs:=[kV (vs[i]).1,(vs[i]).2]) I hf (fun c o hc q=>by
    have hc:c≠it:=by simpa using hc
    exact up c o hc (a4 c o hc q)) (fun c hc=>by
    have:c=it:=by simpa using hc
    subst this;exact⟨_,b1⟩) (As _) (.cons (CJ hk) (.cons e2 .nil)) ⟨_,T2,rfl,_,rfl⟩ (by show 2≤sizeLine;decide)
   exact this
  ·have hn:=(hf c hc).1
   rw[qP ?_]
   ·exact hn
   ·rintro rfl
    have:s.heap.objs.size=it:=by simpa using hc
    rw[this] at el;exact absurd el (Eu _)
 done:=by
  intro X hP hw hK hc i pins s σ H E I hf st hg;subst hP hw hK;obtain⟨⟨u0,hu⟩,hle⟩:=hg;obtain⟨ok,ov,st⟩:=st;have ho:s.heap.get? a=Aa o:=(I.hok a _ hu).1;obtain⟨f0,f1,f2,f3,f4,f5⟩:=hf it (by simp)
  have hl:=kv.length;exact wpAny_pyNext_items_end (I.ok.hd hc) st (at' _ ho) (by simp;omega) fun h' eb=>⟨rfl,I.turned (t':=s.toks) (fun b o hb e=>eb b o hb e) f0 f1 f3 f4 f5⟩
 self:=fun _ _ _ _ _ st h=>by
  obtain⟨ok,ov,st⟩:=st;exact PySem.W.kcp_self st h
def dU (kvs:Ab (Key × D)):Ab D:=kvs.map fun p=>D.tup [kD p.1,p.2]
def nR (f:DE):DI:=fun env S=>(f env S).bind fun d S1=>match d with
 |.loc n=>match S1[n]? with
  |some (.dct kvs)=>.ok (dU kvs) (S1.set n .dead)
  |_=>.bad
 |_=>.bad
theorem Q3 {K:Ak}{P:Hp}{α : Ab Af}:∀ {kvs:Ab (Key × D)} {vs:Ab (Key × V)},KVs K P α kvs vs→∀ {i:Ai} {q:Key × D},kvs[i]? = Aa q→∃ v,vs[i]? = Aa (q.1,v)∧Rep K P α q.2 v
 |_,_,.nil,i,q,h=>by simp at h
 |_,_,.cons (a:=x) (b:=y) z t,i,q,h=>by
  cases i with
  |zero =>
   simp at h;subst h;exact⟨y.2,by simp;exact Aa5 z.1.symm rfl,z.2⟩
  |succ i =>
   obtain⟨v,e1,e2⟩:=Q3 t (i:=i) (q:=q) (by simpa using h)
   exact⟨v,by simpa using e1,e2⟩
theorem YE {K:Ak}{P:Hp}{α : Ab Af}{a:Af}{o:Cq}{u:HO}{kvs:Ab (Key × D)}{vs:Ab (Key × V)}(q:P a=Aa (.frz o u))(t:KVs K P α kvs vs)(hl:kvs.length=vs.length):ItD K (Iti a o vs) P α (dU kvs) where
 go:=fun i H P1 α1 S hi r e _=>⟨⟨u,r.sub _ _ (e _ _ q)⟩,by unfold dU at hi;rw[Ar] at hi;omega⟩
 yld:=fun i H x H' P1 α1 S hi r e e2 y=>by
  obtain⟨T,p,rfl,hT,rfl,hp⟩:=y;unfold dU at hi;rw[Ar] at hi;obtain⟨v,h1,h2⟩:=Q3 t (Ap hi);rw[hp] at h1;cases h1;obtain⟨r1,s1⟩:=r.pure (o:=.tup [kV (kvs[i]).1,v]) hT;refine⟨_,.tup [kD (kvs[i]).1,(kvs[i]).2],?_,r1,s1,?_⟩
  ·unfold dU;rw[Dv,Ap hi];rfl
  ·exact tB (.of zD) (.cons (SL _) (.cons (Rep.mono (e.trans s1) e2 _ _ h2) .nil))
 stop:=fun i H P1 α1 S hi r e _=>⟨⟨u,r.sub _ _ (e _ _ q)⟩,by unfold dU at hi;rw[Ar] at hi;omega⟩
section
variable {X:Cx}{o:By}{fo:DE}{apos cpos:Fk}{elts:Ab By}{x1:Ai}{tpos:Fk}
set_option tactic.hygienic true in
theorem JS (ho:PE X o (tD X fo))(hbase:Qg o "items" X.env (eval o X.env)=eval o X.env:=by rfl)(hline:(apos.endLine == cpos.line)=true:=by rfl):PI X (.Tuple elts x1 tpos) (.Call (.Attribute o "items" apos) [] [] cpos) (tDI X (nR fo)):=by
 intro pins s σ H R I h;obtain⟨P,α,env,S,r,re,af⟩:=h;refine wpAny_Call_method0_late hbase hline (thn (xI ho I r re af) fun vv s1 ⟨v,H1,P1,α1,d,S1,G1,af1⟩=>?_);cases d with
 |loc n =>
  simp only at af1
  split at af1
  ·rename_i kvs hS
   have rp:=G1.rep;have I1:=G1.inv;have r1:=G1.rel;have ht:tyD (.loc n) S1=Aa "dict":=UH hS;obtain⟨h1,h2⟩:=UF I1 G1.val (UG r1 rp ht (by simp))
   simp only[Rep] at rp;obtain⟨a,rfl,ha⟩:=rp;cases (show vv=Dc a from G1.val)
   obtain⟨vs,z,t⟩:=r1.at' n a _ ha hS;obtain⟨hz,hd,us,rel,dd⟩:=X5 I1.hok z;refine⟨"dict","dict.items",Lx,Rr,PySem.F.type_dict_items,h1,h2,Sd rfl (PySem.evalArgs_none ?_)⟩;refine call_meetsIn Rr dd.typeIs PySem.F.entry_dict_items (PySem.F.args_dict_items_1 _) (meets_dict_items (xA X.prog X.w) a hd) ⟨⟨us,dd⟩,?_⟩;obtain⟨ep,oa,es,hoa,rest⟩:=dd.dictAt;have at':∀ h:Bs,h.get? a=Aa oa→h.DictAt (xA X.prog X.w) a us ep:=fun h e=>⟨oa,es,e,rest⟩;obtain⟨r2,e2⟩:=r1.still (o:=.frz oa (.dK vs)) ha hS (by intro q;cases q)
   have I2:Inv X pins σ (upd H1 a (.frz oa (.dK vs))) { s1 with heap:=s1.heap,toks:=s1.toks }:=I1.write (x:=a) (e:=a) (by rw[z];exact Ip) (.inl rfl) (fun b q hb e=>e) ⟨oa,hoa⟩ ⟨hoa,hz,hd,us,rel,dd⟩
   have I3:=I2.kept (t':=s1.toks) (h':=s1.heap.push { cls:=.type "dict_items",data:=.fields #[.ref a] }) fun b u e=>Ah _ e;refine wpAny_pyIter_items (s:={ s1 with heap:=s1.heap.push { cls:=.type "dict_items",data:=.fields #[.ref a] } }) (knd:=xA X.prog X.w) (d:=a) (kvs:=us) (ep:=ep) ⟨_,Be _ rfl,rfl,rfl⟩ (at' _ (Ah _ hoa)) ?_
   have I4:=I3.kept (t':=s1.toks) (h':=(s1.heap.push { cls:=.type "dict_items",data:=.fields #[.ref a] }).push { cls:=.type "dict_itemiterator",data:=.fields #[.none,.bool false,.ref a,.int 0 0,.int us.length 0,.int ep 0,.none,.none] }) fun b u e=>Ah _ e;refine⟨_,[_],_,_,_,rfl,I4,XY rel at',⟨_,_,Be _ rfl⟩,fun b hb=>?_,af1 _ _ _ α1 r2 (G1.same.trans e2) G1.pre (YE (u:=.dK vs) zD (KVs.mono e2 (Bp _) t) (by have:=Q6 t;have:=this.length;simpa using this))⟩
   have e:b=(s1.heap.push { cls:=.type "dict_items",data:=.fields #[.ref a] }).objs.size:=by simpa using hb
   subst e;exact I3.fpOk (As _) (I3.hok.fresh (As _))
  ·exact An af1
 |_=>exact An af1
theorem iB (ho:QE X o fo)(hbase:Qg o "items" X.env (eval o X.env)=eval o X.env:=by rfl)(hline:(apos.endLine == cpos.line)=true:=by rfl):QI X (.Tuple elts x1 tpos) (.Call (.Attribute o "items" apos) [] [] cpos) (nR fo):=⟨JS ho.1 hbase hline⟩
end
end _D
namespace _D
open PySem
def Nx (o:Out)(Q:qD→Sto→Prop):Prop:=∃ env S,o=.nx env S∧Q env S
def Rt (o:Out)(Q:D→Sto→Prop):Prop:=∃ d S,o=.rt d S∧Q d S
def Ok {β : Type}(r:Res β)(Q:β→Sto→Prop):Prop:=∃ d S,r=.ok d S∧Q d S
theorem xF {o:Out}{Q:qD→Sto→Prop}{env:qD}{S:Sto}(h:o=.nx env S)(q:Q env S):Nx o Q:=⟨env,S,h,q⟩
theorem BY {o:Out}{Q:D→Sto→Prop}{d:D}{S:Sto}(h:o=.rt d S)(q:Q d S):Rt o Q:=⟨d,S,h,q⟩
theorem x5 {β : Type}{r:Res β}{Q:β→Sto→Prop}{d:β}{S:Sto}(h:r=.ok d S)(q:Q d S):Ok r Q:=⟨d,S,h,q⟩
theorem xT {f g:DS}{env:qD}{S:Sto}{Q:qD→Sto→Prop}(h:Nx (f env S) fun env1 S1=>Nx (g env1 S1) Q):Nx (qN f g env S) Q:=by
 obtain⟨env1,S1,e,env2,S2,e2,q⟩:=h;exact⟨env2,S2,by unfold qN;rw[e];exact e2,q⟩
theorem qY {f g:DS}{env:qD}{S:Sto}{Q:D→Sto→Prop}(h:Nx (f env S) fun env1 S1=>Rt (g env1 S1) Q):Rt (qN f g env S) Q:=by
 obtain⟨env1,S1,e,env2,S2,e2,q⟩:=h;exact⟨env2,S2,by unfold qN;rw[e];exact e2,q⟩
theorem xR {t:DT}{f g:DS}{env:qD}{S S1:Sto}{b:Aq}{Q:qD→Sto→Prop}(h:t env S=.ok b S1)(k:Nx ((if b then f else g) env S1) Q):Nx (sIf t f g env S) Q:=by
 obtain⟨env2,S2,e2,q⟩:=k;refine⟨env2,S2,?_,q⟩;unfold sIf;rw[h];cases b <;> exact e2
theorem gM {f:DE}{i:Ai}{env:qD}{S:Sto}{Q:qD→Sto→Prop}(h:Ok (f env S) fun d S1=>Q (env.set i (Aa d)) S1):Nx (zI f (gNm i) env S) Q:=by
 obtain⟨d,S1,e,q⟩:=h;exact⟨_,S1,by unfold zI gNm;rw[e];rfl,q⟩
theorem sG {f:DE}{env:qD}{S:Sto}{Q:qD→Sto→Prop}(h:Ok (f env S) fun _ S1=>Q env S1):Nx (yW f env S) Q:=by
 obtain⟨d,S1,e,q⟩:=h;exact⟨_,S1,by unfold yW;rw[e];rfl,q⟩
theorem xO {f:DE}{env:qD}{S:Sto}{Q:D→Sto→Prop}(h:Ok (f env S) Q):Rt (qT f env S) Q:=by
 obtain⟨d,S1,e,q⟩:=h;exact⟨_,S1,by unfold qT;rw[e];rfl,q⟩
theorem gN {fi:DI}{g:DG}{f:DS}{env:qD}{S S1:Sto}{ds:Ab D}{Q:qD→Sto→Prop}(h:fi env S=.ok ds S1)(k:Nx (jU g f ds env S1) Q):Nx (kI fi g f env S) Q:=by
 obtain⟨env2,S2,e2,q⟩:=k;exact⟨env2,S2,by unfold kI;rw[h];exact e2,q⟩
theorem jH {g:DG}{f:DS}{Q:qD→Sto→Prop}(I:Ab D→qD→Sto→Prop)(turn:∀ d ds env S,I (d::ds) env S→∃ env1 S1,g d env S=.ok env1 S1∧Nx (f env1 S1) (I ds))(last:∀ env S,I [] env S→Q env S) :
  ∀ {ds:Ab D} {env:qD} {S:Sto},I ds env S→Nx (jU g f ds env S) Q
 |[],env,S,h=>⟨env,S,rfl,last env S h⟩
 |d::ds,env,S,h=>by
  obtain⟨env1,S1,e1,env2,S2,e2,h2⟩:=turn d ds env S h;obtain⟨env3,S3,e3,q⟩:=jH I turn last (ds:=ds) h2;refine⟨env3,S3,?_,q⟩;unfold jU;simp only[e1,Res.toS,e2];exact e3
theorem dQ {o:Al (Ai × MO)}{g:DG}{t:DT}{k:DK}(out:D→Ab D)(C:qD→Sto→Prop)(hC:∀ env S,C env S→stn o S) :
  ∀ (items:Ab D) (env:qD) (S:Sto) (acc:Ab D),C env S→acc.length+(items.flatMap out).length≤lim →
  (∀ d∈items,∀ env S acc,C env S→acc.length+(out d).length≤lim→∃ env1 S1 b S2,g d env S=.ok env1 S1∧t env1 S1=.ok b S2∧((b=false∧out d=[]∧C env1 S2)∨(b=true∧∃ env3 S3,k env1 S2 acc=.ok (env3,acc++out d) S3∧C env3 S3))) →
  ∃ env' S',goL o g t k items env S acc=.ok (env',acc++items.flatMap out) S'∧C env' S'
 |[],env,S,acc,h,hl,_=>⟨env,S,by simp[goL,yH.mpr (hC _ _ h)],h⟩
 |d::ds,env,S,acc,h,hl,step=>by
  rw[Hv,Ca] at hl;obtain⟨env1,S1,b,S2,e1,e2,r⟩:=step d (Dg ..) env S acc h om;have hst:=yH.mpr (hC _ _ h);rcases r with⟨rfl,h0,h2⟩|⟨rfl,env3,S3,e3,h3⟩
  ·obtain⟨env',S',e,q⟩:=dQ out C hC ds env1 S2 acc h2 om fun d hd=>step d (Bx _ hd)
   refine⟨env',S',?_,q⟩;simp only[goL,hst,Dq,e1,e2,Res.bind,Bu,Ej,Hv,h0,Jy];exact e
  ·obtain⟨env',S',e,q⟩:=dQ out C hC ds env3 S3 (acc++out d) h3 (by rw[Ca];omega) fun d hd=>step d (Bx _ hd)
   refine⟨env',S',?_,q⟩;simp only[goL,hst,Dq,e1,e2,Res.bind,e3,Hv];rw[e,Cj]
theorem nD {fe:DE}{env:qD}{S S1:Sto}{acc:Ab D}{x:D}(h:fe env S=.ok x S1)(hl:acc.length<lim):zB fe env S acc=.ok (env,acc++[x]) S1:=by
 unfold zB;rw[h];simp[Res.bind,hl]
theorem jZ {cap:Ab (Al Ai)}{fi:DI2}{g:DG}{t:DT}{k:DK}{env env':qD}{S S1 S':Sto}{o:Al (Ai × MO)}{items ds:Ab D}(h:fi env S=.ok (o,items) S1)(e:goL o g t k items (xU cap env) S1 [] = .ok (env',ds) S'):qW false cap fi g t k env S=.ok (.lst ds) S':=by
 unfold qW;rw[h];simp only[Res.bind,e,mkM];rfl
theorem WR {cap:Ab (Al Ai)}{fi:DI2}{g:DG}{t:DT}{k:DK}{env env':qD}{S S1 S':Sto}{o:Al (Ai × MO)}{items ds:Ab D}(h:fi env S=.ok (o,items) S1)(e:goL o g t k items (xU cap env) S1 [] = .ok (env',ds) S'):qW true cap fi g t k env S=.ok (.loc S'.length) (S'++[.lst ds]):=by
 unfold qW;rw[h];simp only[Res.bind,e,mkM];rfl
theorem tF {n:Ai}{f:DE}{ds:Ab D}{S S':Sto}{d:D}{env:qD}(hs:j0 n ds=env)(h:f env S=.ok d S'):qR n (qT f) ds S=.ok d S':=by
 subst hs;unfold qR qT;rw[h];rfl
theorem vU {n:Ai}{g:DS}{ds:Ab D}{S S':Sto}{d:D}{env:qD}(hs:j0 n ds=env)(h:g env S=.rt d S'):qR n g ds S=.ok d S':=by
 subst hs;unfold qR;rw[h];rfl
theorem dP {S S':Sto}{i:Ai}{m:MO}(h:S[i]? = Aa m)(e:S<+:S'):S'[i]? = Aa m:=by
 obtain⟨r,rfl⟩:=e;rw[Bj (Bf.mp h).1];exact h
theorem mV {α β:Type}(sel:α→Aq)(val:α→β)(l:Ab α) : (l.flatMap fun d=>if sel d then [val d] else []) = (l.filter sel).map val:=by
 induction l with
 |nil=>rfl
 |cons d l ih =>
  rw[Hv,ih];cases h:sel d <;> simp[h]
section
variable {cap:Ab (Al Ai)}{fi:DI2}{g:DG}{t:DT}{fe:DE}{env:qD}{S S0:Sto}{o:Al (Ai × MO)}{items:Ab D}
theorem IJ (hst:stn o S)(sel:D→Aq)(val:D→D)(C:qD→Prop)(h0:C env)(hl:items.length≤lim)
  (step:∀ d∈items,∀ env,C env→∃ env1,g d env S=.ok env1 S∧C env1∧t env1 S=.ok (sel d) S∧(sel d=true→fe env1 S=.ok (val d) S)) :
  ∃ env',goL o g t (zB fe) items env S [] = .ok (env',(items.filter sel).map val) S:=by
 have lf:(items.flatMap fun d=>if sel d then [val d] else []).length≤lim:=by
  rw[mV,Ar];exact Ee (No _ _) hl
 obtain⟨env',S',e,_,q⟩:=dQ (o:=o) (g:=g) (t:=t) (k:=zB fe) (fun d=>if sel d then [val d] else []) (fun env S'=>C env∧S'=S) (fun _ _ h=>h.2▸hst) items env S [] ⟨h0,rfl⟩ (by simpa using lf) (fun d hd env S' acc hC hl=>by
  obtain⟨hc,rfl⟩:=hC;obtain⟨env1,e1,c1,e2,k⟩:=step d hd env hc;refine⟨env1,S',sel d,S',e1,e2,?_⟩;cases hs:sel d with
  |false=>exact .inl ⟨rfl,by simp,c1,rfl⟩
  |true =>
   refine .inr ⟨rfl,env1,S',?_,c1,rfl⟩;simp only[Dq];exact nD (k hs) (by simp only[hs,Dq,My] at hl;omega))
 subst q;refine⟨env',?_⟩;rw[e,Jy,mV]
theorem WL (h:fi env S=.ok (o,items) S)(hst:stn o S)(sel:D→Aq)(val:D→D)(C:qD→Prop)(h0:C (xU cap env))(hl:items.length≤lim)
  (step:∀ d∈items,∀ env,C env→∃ env1,g d env S=.ok env1 S∧C env1∧t env1 S=.ok (sel d) S∧(sel d=true→fe env1 S=.ok (val d) S)) :
  qW false cap fi g t (zB fe) env S=.ok (.lst ((items.filter sel).map val)) S:=by
 obtain⟨env',e⟩:=IJ hst sel val C h0 hl step;exact jZ h e
end
theorem goT {α : Type}{enc:α→D}{o:Al (Ai × MO)}{g:DG}{t:DT}{k:DK}(out:α→Ab D)(C:qD→Sto→Prop)(hC:∀ env S,C env S→stn o S) :
  ∀ (xs:Ab α) (env:qD) (S:Sto) (acc:Ab D),C env S→acc.length+(xs.flatMap out).length≤lim →
  (∀ x∈xs,∀ env S acc,C env S→acc.length+(out x).length≤lim→∃ env1 S1 b S2,g (enc x) env S=.ok env1 S1∧t env1 S1=.ok b S2∧((b=false∧out x=[]∧C env1 S2)∨(b=true∧∃ env3 S3,k env1 S2 acc=.ok (env3,acc++out x) S3∧C env3 S3))) →
  ∃ env' S',goL o g t k (xs.map enc) env S acc=.ok (env',acc++xs.flatMap out) S'∧C env' S'
 |[],env,S,acc,h,hl,_=>⟨env,S,by simp[goL,yH.mpr (hC _ _ h)],h⟩
 |x::xs,env,S,acc,h,hl,step=>by
  rw[Hv,Ca] at hl;obtain⟨env1,S1,b,S2,e1,e2,r⟩:=step x (Dg ..) env S acc h om;have hst:=yH.mpr (hC _ _ h);rcases r with⟨rfl,h0,h2⟩|⟨rfl,env3,S3,e3,h3⟩
  ·obtain⟨env',S',e,q⟩:=goT out C hC xs env1 S2 acc h2 om fun d hd=>step d (Bx _ hd)
   refine⟨env',S',?_,q⟩;simp only[Ek,goL,hst,Dq,e1,e2,Res.bind,Bu,Ej,Hv,h0,Jy];exact e
  ·obtain⟨env',S',e,q⟩:=goT out C hC xs env3 S3 (acc++out x) h3 (by rw[Ca];omega) fun d hd=>step d (Bx _ hd)
   refine⟨env',S',?_,q⟩;simp only[Ek,goL,hst,Dq,e1,e2,Res.bind,e3,Hv];rw[e,Cj]
section
variable {α β:Type}{enc:α→D}{enc2:β→D}{cap:Ab (Al Ai)}{fi:DI2}{g:DG}{t:DT}{fe:DE}{env:qD}{S S0:Sto}{o:Al (Ai × MO)}{xs:Ab α}
theorem X9 (hst:stn o S)(sel:α→Aq)(val:α→D)(C:qD→Prop)(h0:C env)(hl:xs.length≤lim)
  (step:∀ x∈xs,∀ env,C env→∃ env1,g (enc x) env S=.ok env1 S∧C env1∧t env1 S=.ok (sel x) S∧(sel x=true→fe env1 S=.ok (val x) S)) :
  ∃ env',goL o g t (zB fe) (xs.map enc) env S [] = .ok (env',(xs.filter sel).map val) S:=by
 have lf:(xs.flatMap fun d=>if sel d then [val d] else []).length≤lim:=by
  rw[mV,Ar];exact Ee (No _ _) hl
 obtain⟨env',S',e,_,q⟩:=goT (enc:=enc) (o:=o) (g:=g) (t:=t) (k:=zB fe) (fun d=>if sel d then [val d] else []) (fun env S'=>C env∧S'=S) (fun _ _ h=>h.2▸hst) xs env S [] ⟨h0,rfl⟩ (by simpa using lf) (fun d hd env S' acc hC hl=>by
  obtain⟨hc,rfl⟩:=hC;obtain⟨env1,e1,c1,e2,k⟩:=step d hd env hc;refine⟨env1,S',sel d,S',e1,e2,?_⟩;cases hs:sel d with
  |false=>exact .inl ⟨rfl,by simp,c1,rfl⟩
  |true =>
   refine .inr ⟨rfl,env1,S',?_,c1,rfl⟩;simp only[Dq];exact nD (k hs) (by simp only[hs,Dq,My] at hl;omega))
 subst q;refine⟨env',?_⟩;rw[e,Jy,mV]
theorem kU (h:fi env S=.ok (o,xs.map enc) S)(hst:stn o S)(sel:α→Aq)(val:α→D)(C:qD→Prop)(h0:C (xU cap env))(hl:xs.length≤lim)
  (step:∀ x∈xs,∀ env,C env→∃ env1,g (enc x) env S=.ok env1 S∧C env1∧t env1 S=.ok (sel x) S∧(sel x=true→fe env1 S=.ok (val x) S)) :
  qW false cap fi g t (zB fe) env S=.ok (.lst ((xs.filter sel).map val)) S:=by
 obtain⟨env',e⟩:=X9 hst sel val C h0 hl step;exact jZ h e
end
theorem qQ {o:G2}{f g:DE}{env:qD}{S S1 S2:Sto}{a b:D}(h1:f env S=.ok a S1)(h2:g env S1=.ok b S2):d2 o f g env S=o a b S2:=by
 unfold d2;rw[h1];simp only[Res.bind];rw[h2]
theorem yC {F:DF}{f1:DE}{env:qD}{S S1:Sto}{a:D}(h1:f1 env S=.ok a S1):qG 1 F (qA f1 (qC)) env S=F [a] S1:=by
 simp only[qG,qA,qC,h1,Res.bind,Cd,Ge,Dq]
theorem wX {F:DF}{f1 f2:DE}{env:qD}{S S1 S2:Sto}{a b:D}(h1:f1 env S=.ok a S1)(h2:f2 env S1=.ok b S2):qG 2 F (qA f1 (qA f2 (qC))) env S=F [a,b] S2:=by
 simp only[qG,qA,qC,h1,h2,Res.bind,Cd,Ge,Dq]
theorem bG {F:DF}{f1 f2 f3:DE}{env:qD}{S S1 S2 S3:Sto}{a b c:D}(h1:f1 env S=.ok a S1)(h2:f2 env S1=.ok b S2)(h3:f3 env S2=.ok c S3):qG 3 F (qA f1 (qA f2 (qA f3 (qC)))) env S=F [a,b,c] S3:=by
 simp only[qG,qA,qC,h1,h2,h3,Res.bind,Cd,Ge,Dq]
theorem yL {F:DF}{f1:DE}{env:qD}{S S1:Sto}{a:D}(h1:f1 env S=.ok a S1):qE F (qA f1 (qC)) env S=F [a] S1:=by
 simp only[qE,qA,qC,h1,Res.bind]
theorem WG {F:DF}{f1 f2:DE}{env:qD}{S S1 S2:Sto}{a b:D}(h1:f1 env S=.ok a S1)(h2:f2 env S1=.ok b S2):qE F (qA f1 (qA f2 (qC))) env S=F [a,b] S2:=by
 simp only[qE,qA,qC,h1,h2,Res.bind]
theorem wV {f:DE}{env:qD}{S S1:Sto}{b:Aq}(h:f env S=.ok (.bl b) S1):dTr f env S=.ok b S1:=by
 unfold dTr;rw[h];rfl
theorem uT {f:DT}{env:qD}{S S1:Sto}{b:Aq}(h:f env S=.ok b S1):zX f env S=.ok (!b) S1:=by
 unfold zX;rw[h];rfl
theorem jV {f g:DT}{env:qD}{S S1 S2:Sto}{a b:Aq}(h:f env S=.ok a S1)(k:a=false→g env S1=.ok b S2)(e:a=true→S1=S2):wW f g env S=.ok (a||b) S2:=by
 unfold wW;rw[h];cases a with
 |true=>cases e rfl;rfl
 |false=>exact k rfl
theorem hX {f g:DE}{env:qD}{S S1 S2:Sto}{a b:Aq}(h:f env S=.ok (.bl a) S1)(k:a=true→g env S1=.ok (.bl b) S2)(e:a=false→S1=S2):vO f g env S=.ok (.bl (a&&b)) S2:=by
 unfold vO;rw[h];cases a with
 |false=>cases e rfl;rfl
 |true=>exact k rfl
theorem wU {f1:DE}{env:qD}{S S1:Sto}{a:D}(h1:f1 env S=.ok a S1):qA f1 (qC) env S=.ok [a] S1:=by
 simp only[qA,qC,h1,Res.bind]
theorem zY {f1 f2:DE}{env:qD}{S S1 S2:Sto}{a b:D}(h1:f1 env S=.ok a S1)(h2:f2 env S1=.ok b S2):qA f1 (qA f2 (qC)) env S=.ok [a,b] S2:=by
 simp only[qA,qC,h1,h2,Res.bind]
theorem zK {f:DE}{g:DA}{env:qD}{S S1 S2:Sto}{a:D}{as:Ab D}(h:f env S=.ok a S1)(k:g env S1=.ok as S2):qA f g env S=.ok (a::as) S2:=by
 simp only[qA,h,k,Res.bind]
theorem xY {g:DA}{env:qD}{S S1:Sto}{as:Ab D}(k:g env S=.ok as S1)(h:as.length≤lim):zO g env S=.ok (.lst as) S1:=by
 simp only[zO,k,Res.bind,h,Dq]
theorem zZ {g:DA}{env:qD}{S S1:Sto}{as:Ab D}(k:g env S=.ok as S1)(h:as.length≤lim):zC g env S=.ok (.tup as) S1:=by
 simp only[zC,k,Res.bind,h,Dq]
theorem w4 {env:qD}{i:Ai}{d:D}{S:Sto}(h:env[i]? = Aa (Aa d)):qB i env S=.ok d S:=by simp only[qB,h]
theorem wF {α : Type}(l:Ab α) : l.filter (fun _=>true)=l:=by simp
theorem WE {α : Type}(p:α→Aq)(l:Ab α) : xW (l.map fun x=>D.bl (p x))=Aa (l.map p):=by
 induction l with
 |nil=>rfl
 |cons x l ih =>
  show (xW (l.map fun x=>D.bl (p x))).map (p x::·)=_
  rw[ih];rfl
theorem hW {α : Type}{f:DE}{env:qD}{S S1:Sto}{l:Ab α}{p:α→Aq}(h:f env S=.ok (.lst (l.map fun x=>D.bl (p x))) S1):qE (jB false) (qA f (qC)) env S=.ok (.bl (l.all p)) S1:=by
 rw[yL h];show (match (xM (.lst (l.map fun x=>D.bl (p x)))).bind xW with|some bs=>Res.ok (D.bl (bs.all id)) S1|none=>.bad)=_
 rw[show (xM (.lst (l.map fun x=>D.bl (p x)))).bind xW=Aa (l.map p) from WE p l]
 simp only[Jn];rfl
theorem b0 {i j:Ai}{f1 f2:DE}{env:qD}{S S1 S2:Sto}{a b:D}{Q:qD→Sto→Prop}(h1:f1 env S=.ok a S1)(h2:f2 env S1=.ok b S2)(q:Q ((env.set i (Aa a)).set j (Aa b)) S2):Nx (gU i j (qA f1 (qA f2 (qC))) env S) Q:=by
 unfold gU;rw[zY h1 h2];exact xF rfl q
theorem zU {f:DE}{g:DG}{env env1:qD}{S S1 S2:Sto}{d:D}{Q:qD→Sto→Prop}(h1:f env S=.ok d S1)(h2:g d env S1=.ok env1 S2)(q:Q env1 S2):Nx (zI f g env S) Q:=by
 unfold zI;rw[h1];simp only[Res.toS];rw[h2];exact xF rfl q
theorem gS {t:DT}{f g:DS}{env:qD}{S S1:Sto}{b:Aq}{Q:D→Sto→Prop}(h:t env S=.ok b S1)(k:Rt ((if b then f else g) env S1) Q):Rt (sIf t f g env S) Q:=by
 unfold sIf;rw[h];cases b <;> exact k
end _D
namespace _K
open PySem _D
theorem OH (b:Aq)(S:Sto):xZ (.bl b) S=Aa b:=rfl
theorem OF (i:Aj)(S:Sto):xZ (.int i) S=Aa (i != 0):=rfl
theorem EZ (i:Aj)(S:Sto):tyD (.int i) S=Aa "int":=rfl
theorem OP (b:Aq)(S:Sto):tyD (.bl b) S=Aa "bool":=rfl
theorem OJ (S:Sto):tyD .non S=Aa "NoneType":=rfl
theorem OK (x:Ax)(S:Sto):tyD (.str x) S=Aa "str":=rfl
theorem OL (x:Ab D)(S:Sto):tyD (.tup x) S=Aa "tuple":=rfl
theorem OI (x:Ab D)(S:Sto):tyD (.lst x) S=Aa "list":=rfl
theorem OC (x:Ab D):xM (.tup x)=Aa x:=rfl
theorem OB (x:Ab D):xM (.lst x)=Aa x:=rfl
theorem TY (d:D)(S:Sto):jJ (.rt d S)=.ok d S:=rfl
theorem OE (e:qD)(S:Sto):jJ (.nx e S)=.ok .non S:=rfl
theorem OD (c:Ac)(x:D)(e:qD)(S:Sto):jJ (.ex c x e S)=.ex c x S:=rfl
theorem IR (i j:Ai)(env:qD)(S:Sto)(x y:D):aZ i j env S [x,y]=.nx ((env.set i (Aa x)).set j (Aa y)) S:=rfl
theorem AR (i j k:Ai)(env:qD)(S:Sto)(x y z:D):QL i j k env S [x,y,z]=.nx (((env.set i (Aa x)).set j (Aa y)).set k (Aa z)) S:=rfl
theorem SI (C:Aj→Aj→Aq)(f:Aj→Aj→D)(i j:Aj)(S:Sto):i2 C f (.int i) (.int j) S=if C i j=true then .ok (f i j) S else .bad:=rfl
theorem MK (b:Aq)(S:Sto):cS [.bl b] S=.ok (.int (b01 b)) S:=rfl
theorem kW {xs:Ab D}{k:Aj}{d:D}(h:_L.atI xs k=Aa d)(S:Sto):gIx (.lst xs) (.int k) S=.ok d S:=by
 show _D.vS (_L.atI xs k) S=_;rw[h];rfl
end _K
open PySem _D _K
namespace _K
open PySem PySem.Spec PyProof.Rows _L _D
def top (i:Ai):Fl:=PySem.Challenge.pw_fewdistances_k02_fars_and_tables.main.body.getD i (.Pass ⟨0,0,0,0⟩)
structure Cl where
 (FarError NoPoint NoLot NoNumber NoCircle NoMarks NoFars NoText NoLine NoDeed Alike TooMany:Af)
def w9 (c:Cl):Ab Af:=[c.NoPoint,c.NoLot,c.NoNumber,c.NoCircle,c.NoMarks,c.NoFars,c.NoText,c.NoLine,c.NoDeed,c.Alike,c.TooMany]
def gF (c:Cl):Ab Ac:=[.ref c.NoPoint,.ref c.NoLot,.ref c.NoNumber,.ref c.NoCircle,.ref c.NoMarks,.ref c.NoFars,.ref c.NoText,.ref c.NoLine,.ref c.NoDeed]
abbrev clt (c:Cl):Ab (Ax × Af):=[("FarError",c.FarError),("NoPoint",c.NoPoint),("NoLot",c.NoLot),("NoNumber",c.NoNumber),("NoCircle",c.NoCircle),("NoMarks",c.NoMarks),("NoFars",c.NoFars),("NoText",c.NoText),("NoLine",c.NoLine),("NoDeed",c.NoDeed),("Alike",c.Alike),("TooMany",c.TooMany)]
abbrev plt (c:Cl):Ab (Ax × Af):=[("NoPoint",c.NoPoint),("NoLot",c.NoLot),("NoNumber",c.NoNumber),("NoCircle",c.NoCircle),("NoMarks",c.NoMarks),("NoFars",c.NoFars),("NoText",c.NoText),("NoLine",c.NoLine),("NoDeed",c.NoDeed)]
abbrev cst:Ab (Ax × Aj):=[("LEAST_NUMBER",-1000),("MOST_NUMBER",1000),("MOST_POINTS",40)]
abbrev bl:Ab Ax:=["ValueError","all","bool","enumerate","int","isinstance","len","list","range","repr","set","sorted","str","tuple","zip"]
abbrev tab:Ab (Ax × Ai × Ab Ax):=[("is_whole",14,["thing"]),("is_within",15,["thing","least","most"]),("is_rising",16,["some"]),("is_point",21,["thing"]),("is_lot",22,["thing"]),("need_point",23,["thing"]),("need_lot",24,["thing"]),("far_between",25,["one","other"]),("far_of",26,["one","other"]),("pairs_by_far",27,["points"]),("far_table",28,["lot"]),("fars",29,["lot"]),("_law_cell",31,["_law_script","_law_k"]),("_law_pen",32,["_law_cell_here"]),("_law_draw",33,["_law_pen_here","_law_many"]),("_law_whole",34,["_law_thing"]),("_law_same",35,["_law_found","_law_due"]),("_law_kind_of",36,["_law_e"]),("_law_point",37,["_law_pen_here","_law_wide"]),("_law_lot",38,["_law_pen_here","_law_most"]),("_law_is_point",39,["_law_thing"]),("_law_is_lot",40,["_law_thing"]),("_law_no_point",41,["_law_pen_here","_law_point_here"]),("_law_no_lot",42,["_law_pen_here","_law_lot_here"]),("_law_far",43,["_law_one","_law_other"]),("_law_pairs",44,["_law_lot_here"]),("_law_fars",45,["_law_lot_here"]),("_law_table",46,["_law_lot_here"]),("_law_came",47,["_law_way","_law_one","_law_other"]),("law",48,["_law_script"])]
abbrev Txt (K:Ak)(mg:Ax→Al Ac)(c:Cl):Prop:=TxS K mg top tab bl (clt c) (plt c) (gF c) (w9 c) cst
@[reducible] def bF:DS:=qT (vO (qE zL (qA (qB 0) (qA (dC (.ty "int")) (qC)))) (X3 (qE zL (qA (qB 0) (qA (dC (.ty "bool")) (qC))))))
@[irreducible] def uM:DF:=sh (qR 1 bF)
theorem kE:uM=qR 1 bF:=by delta uM;exact x8 _
@[reducible] def jQ:DS:=qT (vO (qG 1 uM (qA (qB 0) (qC))) (xS gLe gLe (qB 1) (qB 0) (qB 2)))
@[irreducible] def yP:DF:=sh (qR 3 jQ)
theorem jA:yP=qR 3 jQ:=by delta yP;exact x8 _
@[reducible] def tO:DS:=qT (qE (jB false) (qA (qW false [none,none] (wL (fW (qA (qB 0) (qA (dSl (qB 0) (qV (dC (.int 1))) (qZ)) (qC))))) (gTp 2 (qO (gNm 0) (qO (gNm 1) (x0)))) (zJ) (zB (d2 n8 (qB 0) (qB 1)))) (qC)))
@[irreducible] def jO:DF:=sh (qR 1 tO)
theorem pR:jO=qR 1 tO:=by delta jO;exact x8 _
@[reducible] def nP:DS:=qN (sIf (wW (zX (dTr (qE zL (qA (qB 0) (qA (dC (.ty "tuple")) (qC)))))) (dTr (d2 gNe (qE zR (qA (qB 0) (qC))) (dC (.int 2))))) (qT (dC (.bl false))) (zG)) (qT (qE (jB false) (qA (qW false [none] (dIt (qB 0)) (gNm 0) (zJ) (zB (qG 3 (okO yP) (qA (qB 0) (qA (dC (.int (-1000))) (qA (dC (.int (1000))) (qC))))))) (qC))))
@[irreducible] def vE:DF:=sh (qR 1 nP)
theorem fH:vE=qR 1 nP:=by delta vE;exact x8 _
@[reducible] def tV:DS:=qN (sIf (wW (zX (dTr (qE zL (qA (qB 0) (qA (dC (.ty "tuple")) (qC)))))) (zX (dTr (xS gLe gLe (dC (.int 1)) (qE zR (qA (qB 0) (qC))) (dC (.int (40))))))) (qT (dC (.bl false))) (zG)) (qT (vO (qE (jB false) (qA (qW false [none] (dIt (qB 0)) (gNm 0) (zJ) (zB (qG 1 (okO vE) (qA (qB 0) (qC))))) (qC))) (qG 1 jO (qA (qB 0) (qC)))))
@[irreducible] def bD:DF:=sh (qR 1 tV)
theorem tM:bD=qR 1 tV:=by delta bD;exact x8 _
@[reducible] def fR (c:Cl):DS:=sIf (zX (dTr (qG 1 vE (qA (qB 0) (qC))))) (uX (.ref c.NoPoint) (qA (dC (.str "a point is needed")) (qC))) (zG)
@[irreducible] def v3 (c:Cl):DF:=sh (qR 1 (fR c))
theorem pB (c:Cl):v3 c=qR 1 (fR c):=by delta v3;exact x8 _
@[reducible] def nQ (c:Cl):DS:=sIf (zX (dTr (qG 1 bD (qA (qB 0) (qC))))) (uX (.ref c.NoLot) (qA (dC (.str "a lot is needed")) (qC))) (zG)
@[irreducible] def kM (c:Cl):DF:=sh (qR 1 (nQ c))
theorem fJ (c:Cl):kM c=qR 1 (nQ c):=by delta kM;exact x8 _
@[reducible] def kG:DS:=qN (zI (d2 xG (d2 gIx (qB 0) (dC (.int 0))) (d2 gIx (qB 1) (dC (.int 0)))) (gNm 2)) (qN (zI (d2 xG (d2 gIx (qB 0) (dC (.int 1))) (d2 gIx (qB 1) (dC (.int 1)))) (gNm 3)) (qT (d2 qX (d2 w6 (qB 2) (qB 2)) (d2 w6 (qB 3) (qB 3)))))
@[irreducible] def yK:DF:=sh (qR 4 kG)
theorem gB:yK=qR 4 kG:=by delta yK;exact x8 _
@[reducible] def v4 (c:Cl):DS:=qN (yW (qG 1 (v3 c) (qA (qB 0) (qC)))) (qN (yW (qG 1 (v3 c) (qA (qB 1) (qC)))) (qT (qG 2 yK (qA (qB 0) (qA (qB 1) (qC))))))
@[irreducible] def yZ (c:Cl):DF:=sh (qR 2 (v4 c))
theorem jN (c:Cl):yZ c=qR 2 (v4 c):=by delta yZ;exact x8 _
@[reducible] def vG:DS:=qN (zI (JL) (gNm 1)) (qN (kI (X2 (qA (qB 0) (qC))) (gTp 2 (qO (gNm 2) (qO (gNm 3) (x0)))) (kI (vT (dSl (qB 0) (qV (d2 qX (qB 2) (dC (.int 1)))) (qZ))) (gNm 4) (yW (dBm "list" wO (dBm "dict" y9 (qB 1) (qA (qG 2 yK (qA (qB 3) (qA (qB 4) (qC)))) (qA (eS (qC)) (qC)))) (qA (zC (qA (qB 3) (qA (qB 4) (qC)))) (qC)))))) (qT (qB 1)))
@[irreducible] def y8:DF:=sh (qR 5 vG)
theorem kJ:y8=qR 5 vG:=by delta y8;exact x8 _
@[reducible] def yQ (c:Cl):DS:=qN (yW (qG 1 (kM c) (qA (qB 0) (qC)))) (qT (qE bL (qA (qW false [none,none] (wL (nR (qG 1 y8 (qA (qB 0) (qC))))) (gTp 2 (qO (gNm 0) (qO (gNm 1) (x0)))) (zJ) (zB (zC (qA (qB 0) (qA (qE zR (qA (qB 1) (qC))) (qC)))))) (qC))))
@[irreducible] def xV (c:Cl):DF:=sh (qR 1 (yQ c))
theorem j9 (c:Cl):xV c=qR 1 (yQ c):=by delta xV;exact x8 _
@[reducible] def pU (c:Cl):DS:=qT (qW true [none,none] (dIt (qG 1 (xV c) (qA (qB 0) (qC)))) (gTp 2 (qO (gNm 0) (qO (gNm 1) (x0)))) (zJ) (zB (qB 0)))
@[irreducible] def gC (c:Cl):DF:=sh (qR 1 (pU c))
theorem fO (c:Cl):gC c=qR 1 (pU c):=by delta gC;exact x8 _
@[reducible] def pL:DS:=qN (sIf (dTr (d2 gLt (qB 1) (qE zR (qA (qB 0) (qC))))) (qT (d2 gIx (qB 0) (qB 1))) (zG)) (qT (dC (.int 0)))
@[irreducible] def yO:DF:=sh (qR 2 pL)
theorem pO:yO=qR 2 pL:=by delta yO;exact x8 _
@[reducible] def bE:DS:=qT (eS (qA (qB 0) (qA (qE cS (qA (d2 gGe (qB 0) (d2 jF (dC (.int 10)) (dC (.int 18)))) (qC))) (qC))))
@[irreducible] def kL:DF:=sh (qR 1 bE)
theorem fG:kL=qR 1 bE:=by delta kL;exact x8 _
@[reducible] def pM:DS:=qN (sIf (dTr (d2 gEq (d2 gIx (qB 0) (dC (.int 1))) (dC (.int 1)))) (qN (zI (d2 u8 (d2 gIx (qB 0) (dC (.int 0))) (qB 1)) (gNm 2)) (qN (zI (d2 vQ (d2 gIx (qB 0) (dC (.int 0))) (qB 1)) (gSb (qB 0) (dC (.int 0)) jR)) (qT (qB 2)))) (zG)) (qN (zI (d2 u8 (d2 qX (d2 w6 (d2 u8 (d2 gIx (qB 0) (dC (.int 0))) (dC (.int 2147483629))) (dC (.int 48271))) (dC (.int 11))) (dC (.int 2147483629))) (gSb (qB 0) (dC (.int 0)) jR)) (qT (d2 u8 (d2 vQ (d2 u8 (d2 qX (d2 w6 (d2 gIx (qB 0) (dC (.int 0))) (d2 gIx (qB 0) (dC (.int 0)))) (d2 w6 (dC (.int 40692)) (d2 gIx (qB 0) (dC (.int 0))))) (dC (.int 2147483647))) (dC (.int 8))) (qB 1))))
@[irreducible] def zF:DF:=sh (qR 3 pM)
theorem pP:zF=qR 3 pM:=by delta zF;exact x8 _
@[reducible] def gD:DS:=qT (vO (qE zL (qA (qB 0) (qA (dC (.ty "int")) (qC)))) (X3 (qE zL (qA (qB 0) (qA (dC (.ty "bool")) (qC))))))
@[irreducible] def y7:DF:=sh (qR 1 gD)
theorem uL:y7=qR 1 gD:=by delta y7;exact x8 _
@[reducible] def wE (zW:DF):DS:=qN (sIf (dTr (d2 gIs (qB 1) (dC .non))) (qT (d2 gIs (qB 0) (dC .non))) (zG)) (qN (sIf (wW (dTr (qE zL (qA (qB 1) (qA (dC (.ty "tuple")) (qC))))) (dTr (qE zL (qA (qB 1) (qA (dC (.ty "list")) (qC)))))) (qN (sIf (wW (dTr (d2 gNe (qE zL (qA (qB 0) (qA (dC (.ty "tuple")) (qC)))) (qE zL (qA (qB 1) (qA (dC (.ty "tuple")) (qC)))))) (dTr (d2 gNe (qE zL (qA (qB 0) (qA (dC (.ty "list")) (qC)))) (qE zL (qA (qB 1) (qA (dC (.ty "list")) (qC))))))) (qT (dC (.bl false))) (zG)) (qN (sIf (dTr (d2 gNe (qE zR (qA (qB 0) (qC))) (qE zR (qA (qB 1) (qC))))) (qT (dC (.bl false))) (zG)) (qN (kI (fW (qA (qB 0) (qA (qB 1) (qC)))) (gTp 2 (qO (gNm 2) (qO (gNm 3) (x0)))) (sIf (zX (dTr (qG 2 zW (qA (qB 2) (qA (qB 3) (qC)))))) (qT (dC (.bl false))) (zG))) (qT (dC (.bl true)))))) (zG)) (qN (sIf (dTr (qE zL (qA (qB 1) (qA (dC (.ty "str")) (qC))))) (qT (vO (qE zL (qA (qB 0) (qA (dC (.ty "str")) (qC)))) (d2 gEq (qB 0) (qB 1)))) (zG)) (qT (vO (d2 gEq (qE zL (qA (qB 0) (qA (dC (.ty "bool")) (qC)))) (qE zL (qA (qB 1) (qA (dC (.ty "bool")) (qC))))) (vO (qE zL (qA (qB 0) (qA (dC (.ty "int")) (qC)))) (d2 gEq (qB 0) (qB 1)))))))
def f9:Ai→DF
 |0=>fun _ _=>.bad
 |n+1=>qR 4 (wE (f9 n))
@[irreducible] def zW:DF:=sh (f9 4)
theorem j8:zW=f9 4:=by delta zW;exact x8 _
@[reducible] def pT (c:Cl):DS:=qN (zI (zO (qA (qE (xC (w9 c)) (qA (qB 0) (qA (dC (.obj c.NoPoint)) (qC)))) (qA (qE (xC (w9 c)) (qA (qB 0) (qA (dC (.obj c.NoLot)) (qC)))) (qA (qE (xC (w9 c)) (qA (qB 0) (qA (dC (.obj c.NoNumber)) (qC)))) (qA (qE (xC (w9 c)) (qA (qB 0) (qA (dC (.obj c.NoCircle)) (qC)))) (qC)))))) (gNm 1)) (qN (zI (d2 qX (qB 1) (zO (qA (qE (xC (w9 c)) (qA (qB 0) (qA (dC (.obj c.NoMarks)) (qC)))) (qA (qE (xC (w9 c)) (qA (qB 0) (qA (dC (.obj c.NoFars)) (qC)))) (qA (qE (xC (w9 c)) (qA (qB 0) (qA (dC (.obj c.NoText)) (qC)))) (qA (qE (xC (w9 c)) (qA (qB 0) (qA (dC (.obj c.NoLine)) (qC)))) (qC))))))) (gNm 1)) (qN (zI (d2 qX (qB 1) (zO (qA (qE (xC (w9 c)) (qA (qB 0) (qA (dC (.obj c.NoDeed)) (qC)))) (qA (qE (xC (w9 c)) (qA (qB 0) (qA (dC (.obj c.Alike)) (qC)))) (qA (qE (xC (w9 c)) (qA (qB 0) (qA (dC (.obj c.TooMany)) (qC)))) (qC)))))) (gNm 1)) (qN (sIf (wW (zX (dTr (qE (xC (w9 c)) (qA (qB 0) (qA (dC (.ty "ValueError")) (qC)))))) (dTr (d2 gNe (dBm "list" nY (qB 1) (qA (dC (.bl true)) (qC))) (dC (.int 1))))) (qT (dC (.str "other"))) (zG)) (qN (sIf (dTr (qE (xC (w9 c)) (qA (qB 0) (qA (dC (.obj c.Alike)) (qC))))) (qT (zO (qA (dC (.str "alike")) (qA (fV) (qA (fV) (qA (fV) (qA (fV) (qC)))))))) (zG)) (qN (sIf (dTr (qE (xC (w9 c)) (qA (qB 0) (qA (dC (.obj c.TooMany)) (qC))))) (qT (zO (qA (dC (.str "many")) (qA (fV) (qA (fV) (qC)))))) (zG)) (qN (zI (zO (qA (dC (.str "point")) (qA (dC (.str "lot")) (qA (dC (.str "number")) (qA (dC (.str "circle")) (qA (dC (.str "marks")) (qA (dC (.str "fars")) (qA (dC (.str "text")) (qA (dC (.str "line")) (qA (dC (.str "deed")) (qC))))))))))) (gNm 2)) (qT (d2 gIx (qB 2) (dBm "list" nZ (qB 1) (qA (dC (.bl true)) (qC)))))))))))
@[irreducible] def wG (c:Cl):DF:=sh (qR 3 (pT c))
theorem vN (c:Cl):wG c=qR 3 (pT c):=by delta wG;exact x8 _
@[reducible] def fQ:DS:=qT (zC (qA (d2 xG (qG 2 zF (qA (qB 0) (qA (d2 qX (d2 w6 (dC (.int 2)) (qB 1)) (dC (.int 1))) (qC)))) (qB 1)) (qA (d2 xG (qG 2 zF (qA (qB 0) (qA (d2 qX (d2 w6 (dC (.int 2)) (qB 1)) (dC (.int 1))) (qC)))) (qB 1)) (qC))))
@[irreducible] def wI:DF:=sh (qR 2 fQ)
theorem p9:wI=qR 2 fQ:=by delta wI;exact x8 _
@[reducible] def kN:DS:=qN (gU 2 3 (qA (qG 2 zF (qA (qB 0) (qA (dC (.int 7)) (qC)))) (qA (d2 qX (dC (.int 1)) (qG 2 zF (qA (qB 0) (qA (qB 1) (qC))))) (qC)))) (qN (zI (zC (qA (d2 gIx (zO (qA (dC (.int 1)) (qA (dC (.int 2)) (qA (dC (.int 4)) (qA (dC (.int 12)) (qA (dC (.int 1000)) (qC))))))) (qG 2 zF (qA (qB 0) (qA (dC (.int 5)) (qC))))) (qA (qG 2 wI (qA (qB 0) (qA (dC (.int 400)) (qC)))) (qC)))) (gTp 2 (qO (gNm 4) (qO (gNm 5) (x0))))) (qN (zI (d2 qX (dC (.int 1)) (qG 2 zF (qA (qB 0) (qA (dC (.int 9)) (qC))))) (gNm 6)) (qN (zI (qW false [none,Aa 0,Aa 4] (wL (vP (qA (qB 3) (qC)))) (gNm 0) (zJ) (zB (qG 2 (okO wI) (qA (qB 1) (qA (qB 2) (qC)))))) (gNm 7)) (qN (sIf (dTr (d2 gEq (qB 2) (dC (.int 0)))) (zI (qW false [none,Aa 5] (wL (vP (qA (qB 3) (qC)))) (gNm 0) (zJ) (zB (zC (qA (d2 qX (d2 gIx (qB 1) (dC (.int 0))) (d2 u8 (qB 0) (dC (.int 4)))) (qA (d2 qX (d2 gIx (qB 1) (dC (.int 1))) (d2 vQ (qB 0) (dC (.int 4)))) (qC)))))) (gNm 7)) (zG)) (qN (sIf (dTr (d2 gEq (qB 2) (dC (.int 1)))) (zI (qW false [none,Aa 5,Aa 6] (wL (vP (qA (qB 3) (qC)))) (gNm 0) (zJ) (zB (zC (qA (d2 qX (d2 gIx (qB 1) (dC (.int 0))) (d2 w6 (qB 2) (qB 0))) (qA (d2 xG (d2 gIx (qB 1) (dC (.int 1))) (qB 0)) (qC)))))) (gNm 7)) (zG)) (qN (sIf (dTr (d2 gEq (qB 2) (dC (.int 2)))) (qN (zI (dSl (qB 7) (qZ) (qV (d2 qX (dC (.int 1)) (d2 vQ (qB 3) (dC (.int 4)))))) (gNm 8)) (qN (zI (d2 qX (d2 qX (qB 8) (qW false [none,none] (dIt (qB 8)) (gTp 2 (qO (gNm 0) (qO (gNm 1) (x0)))) (zJ) (zB (zC (qA (d2 xG (dC (.int 0)) (qB 1)) (qA (qB 0) (qC))))))) (qW false [none,none] (dIt (qB 8)) (gTp 2 (qO (gNm 0) (qO (gNm 1) (x0)))) (zJ) (zB (zC (qA (d2 xG (dC (.int 0)) (qB 0)) (qA (d2 xG (dC (.int 0)) (qB 1)) (qC))))))) (gNm 7)) (zI (d2 qX (qB 7) (qW false [none,none] (dIt (qB 8)) (gTp 2 (qO (gNm 0) (qO (gNm 1) (x0)))) (zJ) (zB (zC (qA (qB 1) (qA (d2 xG (dC (.int 0)) (qB 0)) (qC))))))) (gNm 7)))) (zG)) (qT (qE m5 (qA (wJ (dSl (qB 7) (qZ) (qV (qB 3)))) (qC))))))))))
@[irreducible] def kK:DF:=sh (qR 9 kN)
theorem fF:kK=qR 9 kN:=by delta kK;exact x8 _
@[reducible] def pC:DS:=qN (sIf (wW (zX (dTr (qE zL (qA (qB 0) (qA (dC (.ty "tuple")) (qC)))))) (dTr (d2 gNe (qE zR (qA (qB 0) (qC))) (dC (.int 2))))) (qT (dC (.bl false))) (zG)) (qT (qE (jB false) (qA (qW false [none] (dIt (qB 0)) (gNm 0) (zJ) (zB (vO (qG 1 (okO y7) (qA (qB 0) (qC))) (xS gLe gLe (d1 vR (dC (.int 1000))) (qB 0) (dC (.int 1000)))))) (qC))))
@[irreducible] def xL:DF:=sh (qR 1 pC)
theorem jX:xL=qR 1 pC:=by delta xL;exact x8 _
@[reducible] def kF:DS:=qN (sIf (wW (zX (dTr (qE zL (qA (qB 0) (qA (dC (.ty "tuple")) (qC)))))) (wW (zX (dTr (xS gLe gLe (dC (.int 1)) (qE zR (qA (qB 0) (qC))) (dC (.int 40))))) (zX (dTr (qE (jB false) (qA (qW false [none] (dIt (qB 0)) (gNm 0) (zJ) (zB (qG 1 (okO xL) (qA (qB 0) (qC))))) (qC))))))) (qT (dC (.bl false))) (zG)) (qT (d2 gEq (qE mT (qA (qB 0) (qC))) (wJ (qB 0))))
@[irreducible] def vV:DF:=sh (qR 1 kF)
theorem g9:vV=qR 1 kF:=by delta vV;exact x8 _
@[reducible] def yV:DS:=qN (gU 2 3 (qA (qG 2 zF (qA (qB 0) (qA (dC (.int 12)) (qC)))) (qA (qG 2 zF (qA (qB 0) (qA (dC (.int 2)) (qC)))) (qC)))) (qN (zI (d2 gIx (zO (qA (dC (.int 1001)) (qA (d1 vR (dC (.int 1001))) (qA (dC (.bl true)) (qA (dC (.bl false)) (qA (dC .non) (qA (dC (.str "0")) (qA (zC (qA (dC (.int 0)) (qC))) (qA (d2 jF (dC (.int 10)) (dC (.int 29))) (qA (zO (qA (dC (.int 0)) (qC))) (qA (bI) (qC)))))))))))) (qG 2 zF (qA (qB 0) (qA (dC (.int 10)) (qC))))) (gNm 4)) (qN (zI (d2 qX (d2 qX (dSl (qB 1) (qZ) (qV (qB 3))) (zC (qA (qB 4) (qC)))) (dSl (qB 1) (qV (d2 qX (qB 3) (dC (.int 1)))) (qZ))) (gNm 5)) (qN (zI (zO (qA (qB 5) (qA (qB 5) (qA (qB 5) (qA (qB 5) (qA (dSl (qB 1) (qZ) (qV (dC (.int 1)))) (qA (d2 qX (qB 1) (zC (qA (dC (.int 0)) (qC)))) (qA (qE mT (qA (qB 1) (qC))) (qA (dC .non) (qA (dC (.int 7)) (qA (dC (.str "0,0")) (qC)))))))))))) (gNm 6)) (qT (d2 gIx (d2 qX (qB 6) (zO (qA (bI) (qA (zC (qA (qB 1) (qC))) (qC))))) (qB 2))))))
@[irreducible] def w5:DF:=sh (qR 7 yV)
theorem jY:w5=qR 7 yV:=by delta w5;exact x8 _
@[reducible] def vX:DS:=qN (gU 2 3 (qA (qG 2 zF (qA (qB 0) (qA (dC (.int 14)) (qC)))) (qA (qG 2 zF (qA (qB 0) (qA (qE zR (qA (qB 1) (qC))) (qC)))) (qC)))) (qN (zI (d2 qX (d2 qX (dSl (qB 1) (qZ) (qV (qB 3))) (zC (qA (qG 2 w5 (qA (qB 0) (qA (d2 gIx (qB 1) (qB 3)) (qC)))) (qC)))) (dSl (qB 1) (qV (d2 qX (qB 3) (dC (.int 1)))) (qZ))) (gNm 4)) (qN (zI (zO (qA (qB 4) (qA (qB 4) (qA (qE mT (qA (qB 1) (qC))) (qA (mQ (qB 1) (d1 vR (dC (.int 1)))) (qA (d2 qX (qB 1) (dSl (qB 1) (qV (d1 vR (dC (.int 1)))) (qZ))) (qA (d2 qX (dSl (qB 1) (qZ) (qV (d2 qX (qB 3) (dC (.int 1))))) (dSl (qB 1) (qV (qB 3)) (qZ))) (qA (zC (qC)) (qA (dC .non) (qA (dC (.int 7)) (qA (dC (.str "0,0")) (qA (bI) (qC))))))))))))) (gNm 5)) (qN (zI (qE m5 (qA (qW false [none] (wL (vP (qA (dC (.int 41)) (qC)))) (gNm 0) (zJ) (zB (zC (qA (d2 vQ (qB 0) (dC (.int 8))) (qA (d2 u8 (qB 0) (dC (.int 8))) (qC)))))) (qC))) (gNm 6)) (qN (zI (d2 gIx (d2 qX (qB 5) (zO (qA (zC (qA (qB 1) (qC))) (qA (qB 6) (qA (d2 gIx (qB 1) (dC (.int 0))) (qC)))))) (qB 2)) (gNm 7)) (qT (dIf (dTr (qG 1 vV (qA (qB 7) (qC)))) (zC (qC)) (qB 7)))))))
@[irreducible] def vW:DF:=sh (qR 8 vX)
theorem gA:vW=qR 8 vX:=by delta vW;exact x8 _
@[reducible] def nO:DS:=qT (d2 qX (d2 jF (d2 xG (d2 gIx (qB 0) (dC (.int 0))) (d2 gIx (qB 1) (dC (.int 0)))) (dC (.int 2))) (d2 jF (d2 xG (d2 gIx (qB 0) (dC (.int 1))) (d2 gIx (qB 1) (dC (.int 1)))) (dC (.int 2))))
@[irreducible] def vD:DF:=sh (qR 2 nO)
theorem fE:vD=qR 2 nO:=by delta vD;exact x8 _
@[reducible] def uN:DS:=qN (zI (zO (qC)) (gNm 1)) (qN (kI (vP (qA (qE zR (qA (qB 0) (qC))) (qC))) (gNm 2) (zI (d2 qX (qB 1) (qW false [none,Aa 2,Aa 0] (dIt (dSl (qB 0) (qV (d2 qX (qB 2) (dC (.int 1)))) (qZ))) (gNm 0) (zJ) (zB (zC (qA (d2 gIx (qB 2) (qB 1)) (qA (qB 0) (qC))))))) (gNm 1))) (qT (qB 1)))
@[irreducible] def yY:DF:=sh (qR 3 uN)
theorem p8:yY=qR 3 uN:=by delta yY;exact x8 _
@[reducible] def tN:DS:=qT (qW false [none,none] (dIt (qG 1 yY (qA (qB 0) (qC)))) (gTp 2 (qO (gNm 0) (qO (gNm 1) (x0)))) (zJ) (zB (qG 2 (okO vD) (qA (qB 0) (qA (qB 1) (qC))))))
@[irreducible] def jM:DF:=sh (qR 1 tN)
theorem pQ:jM=qR 1 tN:=by delta jM;exact x8 _
@[reducible] def uO:DS:=qN (zI (qG 1 jM (qA (qB 0) (qC))) (gNm 1)) (qT (qW false [none,Aa 1] (dIt (wJ (qB 1))) (gNm 0) (zJ) (zB (zC (qA (qB 0) (qA (dBm "list" jC (qB 1) (qA (qB 0) (qC))) (qC)))))))
@[irreducible] def uK:DF:=sh (qR 2 uO)
theorem pA:uK=qR 2 uO:=by delta uK;exact x8 _
@[reducible] def jP (c:Cl):DS:=nG 4 3 (gF c) (qT (dIf (dTr (d2 gEq (qB 0) (dC (.int 0)))) (qG 2 (yZ c) (qA (qB 1) (qA (qB 2) (qC)))) (dE [(1,(gC c)),(1,(xV c))] (d2 xG (qB 0) (dC (.int 1))) (qA (qB 1) (qC))))) (qT (qG 1 (wG c) (qA (qB 3) (qC))))
@[irreducible] def z9 (c:Cl):DF:=sh (qR 4 (jP c))
theorem j7 (c:Cl):z9 c=qR 4 (jP c):=by delta z9;exact x8 _
@[reducible] def ZV (c:Cl):DS:=qN (kI (vT (d2 qX (zO (qA (qG 2 yO (qA (qB 0) (qA (dC (.int 0)) (qC)))) (qC))) (dSl (qB 0) (qV (dC (.int 1))) (qV (dC (.int 6)))))) (gNm 1) (qN (zI (qG 1 kL (qA (qB 1) (qC))) (gNm 2)) (qN (zI (qG 2 kK (qA (qB 2) (qA (dC (.int 40)) (qC)))) (gNm 3)) (qN (gU 4 5 (qA (d2 gIx (qB 3) (qG 2 zF (qA (qB 2) (qA (qE zR (qA (qB 3) (qC))) (qC))))) (qA (qG 2 wI (qA (qB 2) (qA (dC (.int 1000)) (qC)))) (qC)))) (qN (gU 6 7 (qA (qE mU (qA (qB 3) (qC))) (qA (qG 1 uK (qA (qB 3) (qC))) (qC)))) (qN (kI (vP (qA (dC (.int 2)) (qC))) (gNm 8) (qN (zI (zO (qA (qG 3 (z9 c) (qA (dC (.int 1)) (qA (qB 3) (qA (dC .non) (qC))))) (qA (qG 3 (z9 c) (qA (dC (.int 2)) (qA (qB 3) (qA (dC .non) (qC))))) (qC)))) (gNm 9)) (qN (sIf (wW (zX (dTr (qG 2 (vJ zW) (qA (d2 gIx (qB 9) (dC (.int 1))) (qA (qB 7) (qC)))))) (zX (dTr (qG 2 (vJ zW) (qA (d2 gIx (qB 9) (dC (.int 0))) (qA (qW false [none,none] (dIt (qB 7)) (gTp 2 (qO (gNm 0) (qO (gNm 1) (x0)))) (zJ) (zB (qB 0))) (qC))))))) (qT (dC (.bl false))) (zG)) (qN (sIf (dTr (d2 gNe (qE mU (qA (qB 3) (qC))) (qB 6))) (qT (dC (.bl false))) (zG)) (qN (yW (dBm "list" wO (d2 gIx (qB 9) (dC (.int 0))) (qA (dC (.int 0)) (qC)))) (yW (dBm "list" wO (d2 gIx (qB 9) (dC (.int 1))) (qA (dC (.int 0)) (qC))))))))) (qN (zI (zO (qA (qG 3 (z9 c) (qA (dC (.int 1)) (qA (qB 3) (qA (dC (.int 0)) (qC))))) (qA (qG 3 (z9 c) (qA (dC (.int 2)) (qA (qB 3) (qA (dC (.int 0)) (qC))))) (qC)))) (gNm 10)) (qN (sIf (dTr (d2 (mZ gNe) (zO (qA (qG 3 (z9 c) (qA (dC (.int 1)) (qA (dSl (qB 3) (qZ) (qV (dC (.int 1)))) (qA (dC (.int 0)) (qC))))) (qA (qG 3 (z9 c) (qA (dC (.int 2)) (qA (dSl (qB 3) (qV (d1 vR (dC (.int 1)))) (qZ)) (qA (dC (.int 0)) (qC))))) (qC)))) (zO (qA (zO (qC)) (qA (zO (qC)) (qC)))))) (qT (dC (.bl false))) (zG)) (qN (sIf (zX (dTr (qG 2 (vJ zW) (qA (qB 10) (qA (zO (qA (qW false [none,none] (dIt (qB 7)) (gTp 2 (qO (gNm 0) (qO (gNm 1) (x0)))) (zJ) (zB (qB 0))) (qA (qB 7) (qC)))) (qC)))))) (qT (dC (.bl false))) (zG)) (qN (kI (vT (zO (qA (zC (qA (qB 4) (qA (qB 5) (qC)))) (qA (zC (qA (qB 5) (qA (qB 4) (qC)))) (qA (zC (qA (qB 4) (qA (qB 4) (qC)))) (qA (zC (qA (d2 gIx (qB 3) (dC (.int 0))) (qA (d2 gIx (qB 3) (d1 vR (dC (.int 1)))) (qC)))) (qC))))))) (gTp 2 (qO (gNm 11) (qO (gNm 12) (x0)))) (sIf (zX (dTr (qG 2 zW (qA (qG 3 (z9 c) (qA (dC (.int 0)) (qA (qB 11) (qA (qB 12) (qC))))) (qA (qG 2 vD (qA (qB 11) (qA (qB 12) (qC)))) (qC)))))) (qT (dC (.bl false))) (zG))) (qN (gU 13 14 (qA (qG 2 vW (qA (qB 2) (qA (qB 3) (qC)))) (qA (qG 2 w5 (qA (qB 2) (qA (qB 4) (qC)))) (qC)))) (qN (sIf (dTr (d2 gNe (zO (qA (qG 3 (z9 c) (qA (dC (.int 1)) (qA (qB 13) (qA (dC (.int 0)) (qC))))) (qA (qG 3 (z9 c) (qA (dC (.int 2)) (qA (qB 13) (qA (dC (.int 0)) (qC))))) (qC)))) (d2 kO (zO (qA (dC (.str "lot")) (qC))) (dC (.int 2))))) (qT (dC (.bl false))) (zG)) (qN (zI (zO (qA (zC (qA (qB 14) (qA (qB 4) (qC)))) (qA (zC (qA (qB 4) (qA (qB 14) (qC)))) (qA (zC (qA (qB 14) (qA (qB 14) (qC)))) (qC))))) (gNm 15)) (sIf (dTr (d2 gNe (qW false [none,none] (dIt (qB 15)) (gTp 2 (qO (gNm 0) (qO (gNm 1) (x0)))) (zJ) (zB (qG 3 (okO (z9 c)) (qA (dC (.int 0)) (qA (qB 0) (qA (qB 1) (qC))))))) (d2 kO (zO (qA (dC (.str "point")) (qC))) (dC (.int 3))))) (qT (dC (.bl false))) (zG))))))))))))))) (qT (dC (.bl true)))
end _K
namespace _K
open PySem _D
theorem mW (i j:Aj)(S:Sto):gEq (.int i) (.int j) S=.ok (.bl (decide (i=j))) S:=by kernel_rfl!
theorem oT (i j:Aj)(S:Sto):gNe (.int i) (.int j) S=.ok (.bl (decide (i≠j))) S:=by
 have h:gNe (.int i) (.int j) S=.ok (.bl (!decide (i=j))) S:=by kernel_rfl!
 rw[h,← decide_not]
theorem jE (i j:Aj)(S:Sto)(h : -(2 ^ 64)<i∧i<2 ^ 64):w6 (.int i) (.int j) S=.ok (.int (i*j)) S:=by
 unfold w6 i2;rw[cB];unfold cA;simp only[h,and_self,Jk,Bool.true_or,Dq]
theorem wA (i j:Aj)(S:Sto):qX (.int i) (.int j) S=.ok (.int (i+j)) S:=rfl
theorem u7 {xs ys:Ab D}(h:xs.length+ys.length≤lim)(S:Sto):qX (.lst xs) (.lst ys) S=.ok (.lst (xs++ys)) S:=Bl h
theorem W1 {S:Sto}{j:Ai}{xs:Ab D}(h:S[j]? = Aa (.lst xs)):tyD (.loc j) S=Aa "list":=by
 show (match S[j]? with|some (.lst _)=>Aa "list" | some (.dct _)=>Aa "dict" | _=>none)=_
 rw[h]
theorem hZ {S:Sto}{j:Ai}{xs:Ab D}(h:S[j]? = Aa (.lst xs))(hl:xs.length<lim)(d:D):wO (.loc j) [d] S=.ok .non (S.set j (.lst (xs++[d]))):=by
 show (match S[j]? with|some (.lst xs)=>(if xs.length<lim then Res.ok D.non (S.set j (.lst (xs++[d]))) else .bad)|_=>.bad)=_
 rw[h];exact Bl hl
theorem pX (d:D)(b a:Ep)(S:Sto)(ho:jI b=true)(h:tyD d S=Aa a):zL [d,.ty b] S=.ok (.bl (w8 a b)) S:=by
 unfold zL;simp[ho,h]
theorem aG (xs:Ab D)(S:Sto):zR [.lst xs] S=.ok (.int xs.length) S:=rfl
theorem gK (xs:Ab D)(S:Sto):zR [.tup xs] S=.ok (.int xs.length) S:=rfl
theorem kY:jI "int" = true∧jI "bool" = true∧jI "tuple" = true∧jI "list" = true∧jI "str" = true:=kd
theorem NS:w8 "int" "tuple" = false∧w8 "int" "list" = false∧w8 "int" "str" = false∧w8 "int" "bool" = false∧w8 "int" "int" = true∧w8 "tuple" "tuple" = true∧w8 "tuple" "list" = false∧w8 "list" "tuple" = false∧w8 "list" "list" = true:=kd
theorem jD (i j:Aj)(S:Sto)(h:0<j):u8 (.int i) (.int j) S=.ok (.int (i % j)) S:=by
 unfold u8 i2;simp[h]
theorem pW (i j:Aj)(S:Sto)(h:0<j∧j<1073741824):vQ (.int i) (.int j) S=.ok (.int (i/j)) S:=by
 unfold vQ i2 LO;simp[h]
def yX (d:D):Prop:=∀ S,tyD d S=Aa "NoneType" ∨ tyD d S=Aa "bool" ∨ tyD d S=Aa "str" ∨ tyD d S=Aa "tuple" ∨ tyD d S=Aa "list" ∨ tyD d S=Aa "dict"
theorem sM (i:Aj)(S:Sto):uM [.int i] S=.ok (.bl true) S:=by
 rw[kE]
 kernel_rfl!
theorem eI (d:D)(S:Sto)(h:yX d):uM [d] S=.ok (.bl false) S:=by
 rw[kE];unfold bF;rcases h S with h|h|h|h|h|h <;> simp[qR,j0,TY,OE,OD,qN,sIf,qT,zG,yW,zI,gNm,gSb,gTp,qO,x0,gU,IR,OO,AR,dC,qB,d1,d2,qA,qC,qE,qG,dTr,zX,wW,zJ,vO,X3,dIf,xS,zC,zO,eS,dBm,dSl,qV,qZ,vT,vP,Res.bind,Res.toS,_D.uW,_D.vS,OH,OF,EZ,OP,OJ,OK,OL,OI,OC,OB,SI,gLt,gLe,gGt,gGe,_D.xG,ON,pX _ _ _ _ kY.1 h,pX _ _ _ _ kY.2.1 h,w8]
theorem GP (i a b:Aj)(S:Sto):yP [.int i,.int a,.int b] S=.ok (.bl (decide (a≤i∧i≤b))) S:=by
 rw[jA];unfold jQ;simp[qR,j0,TY,OE,OD,qN,sIf,qT,zG,yW,zI,gNm,gSb,gTp,qO,x0,gU,IR,OO,AR,dC,qB,d1,d2,qA,qC,qE,qG,dTr,zX,wW,zJ,vO,X3,dIf,xS,zC,zO,eS,dBm,dSl,qV,qZ,vT,vP,Res.bind,Res.toS,_D.uW,_D.vS,OH,OF,EZ,OP,OJ,OK,OL,OI,OC,OB,SI,gLt,gLe,gGt,gGe,_D.xG,ON,sM];by_cases h:a≤i <;> simp[h,TY]
theorem oB (d:D)(a b:Aj)(S:Sto)(h:yX d):yP [d,.int a,.int b] S=.ok (.bl false) S:=by
 rw[jA];unfold jQ;simp[qR,j0,TY,OE,OD,qN,sIf,qT,zG,yW,zI,gNm,gSb,gTp,qO,x0,gU,IR,OO,AR,dC,qB,d1,d2,qA,qC,qE,qG,dTr,zX,wW,zJ,vO,X3,dIf,xS,zC,zO,eS,dBm,dSl,qV,qZ,vT,vP,Res.bind,Res.toS,_D.uW,_D.vS,OH,OF,EZ,OP,OJ,OK,OL,OI,OC,OB,SI,gLt,gLe,gGt,gGe,_D.xG,ON,eI d S h]
theorem R7:yX .non:=fun _=>.inl rfl
theorem CO (b:Aq):yX (.bl b):=fun _=>.inr (.inl rfl)
theorem R8 (x:Ax):yX (.str x):=fun _=>.inr (.inr (.inl rfl))
theorem R9 (x:Ab D):yX (.tup x):=fun _=>.inr (.inr (.inr (.inl rfl)))
theorem R6 (x:Ab D):yX (.lst x):=fun _=>.inr (.inr (.inr (.inr (.inl rfl))))
theorem R5:yX .dct0:=fun _=>.inr (.inr (.inr (.inr (.inr rfl))))
def xB (S:Sto)(p:Ai):Prop:=∃ v f:Aj,S[p]? = Aa (.lst [.int v,.int f])
theorem a8 (p:Ai)(k:Aj)(xs:Ab D)(d:D)(S:Sto)(h:S[p]? = Aa (.lst xs))(hk:_L.atI xs k=Aa d):gIx (.loc p) (.int k) S=.ok d S:=by
 show (match S[p]? with|some (.lst xs)=>_D.vS (_L.atI xs k) S|_=>.bad)=_
 rw[h];show _D.vS (_L.atI xs k) S=_;rw[hk];rfl
theorem BM (v f:Aj):_L.atI [D.int v,D.int f] 0=Aa (.int v):=rfl
theorem A0 (v f:Aj):_L.atI [D.int v,D.int f] 1=Aa (.int f):=rfl
theorem QM (p:Ai)(v f w:Aj)(S:Sto)(h:S[p]? = Aa (.lst [.int v,.int f])):jR (.loc p) (.int 0) (.int w) S=.ok () (S.set p (.lst [.int w,.int f])):=by
 simp[jR,dN,h,_L.ixN]
theorem EG (S:Sto)(p:Ai)(m:Aj)(h:xB S p)(hm:0<m∧m<1073741824):∃ r v f:Aj,zF [.loc p,.int m] S=.ok (.int r) (S.set p (.lst [.int v,.int f]))∧0≤r∧r<m:=by
 obtain⟨v,f,hp⟩:=h;have hpl:=(Bf.mp hp).1;have g0:=a8 p 0 _ _ S hp (BM v f);have g1:=a8 p 1 _ _ S hp (A0 v f);rw[pP];unfold pM;by_cases hf:f=1
 ·refine⟨v % m,v/m,f,?_,Jz _ om,Ig _ hm.1⟩
  subst hf;simp[qR,j0,TY,OE,OD,qN,sIf,qT,zG,yW,zI,gNm,gSb,gTp,qO,x0,gU,IR,OO,AR,dC,qB,d1,d2,qA,qC,qE,qG,dTr,zX,wW,zJ,vO,X3,dIf,xS,zC,zO,eS,dBm,dSl,qV,qZ,vT,vP,Res.bind,Res.toS,_D.uW,_D.vS,OH,OF,EZ,OP,OJ,OK,OL,OI,OC,OB,SI,gLt,gLe,gGt,gGe,_D.xG,ON,g0,g1,mW,jD v m S hm.1,pW v m S hm,QM p v 1 (v/m) S hp]
 ·obtain⟨w,hw⟩:∃ w:Aj,w=(v % 2147483629*48271+11) % 2147483629:=⟨_,rfl⟩
  have hw1:0≤w∧w<2147483629:=by rw[hw];exact⟨Jz _ om,Ig _ om⟩
  have hv1:0≤v % 2147483629∧v % 2147483629<2147483629:=⟨Jz _ om,Ig _ om⟩;have hp':(S.set p (MO.lst [.int w,.int f]))[p]? = Aa (.lst [.int w,.int f]):=by simp[hpl]
  have k0:=a8 p 0 _ _ (S.set p (MO.lst [.int w,.int f])) hp' (BM w f);have m1:=jE (v % 2147483629) 48271 S ⟨by omega,by omega⟩
  have m2:=jE w w (S.set p (MO.lst [.int w,.int f])) ⟨by omega,by omega⟩
  have m3:=jE 40692 w (S.set p (MO.lst [.int w,.int f])) ⟨by omega,by omega⟩
  have d1:=jD v 2147483629 S om;have d2':=jD (v % 2147483629*48271+11) 2147483629 S om;rw[← hw] at d2';have d3:=jD (w*w+40692*w) 2147483647 (S.set p (MO.lst [.int w,.int f])) om;have d4:=pW ((w*w+40692*w) % 2147483647) 8 (S.set p (MO.lst [.int w,.int f])) om;have d5:=jD ((w*w+40692*w) % 2147483647/8) m (S.set p (MO.lst [.int w,.int f])) hm.1;refine⟨(w*w+40692*w) % 2147483647/8 % m,w,f,?_,Jz _ om,Ig _ hm.1⟩;simp[qR,j0,TY,OE,OD,qN,sIf,qT,zG,yW,zI,gNm,gSb,gTp,qO,x0,gU,IR,OO,AR,dC,qB,d1,d2,qA,qC,qE,qG,dTr,zX,wW,zJ,vO,X3,dIf,xS,zC,zO,eS,dBm,dSl,qV,qZ,vT,vP,Res.bind,Res.toS,_D.uW,_D.vS,OH,OF,EZ,OP,OJ,OK,OL,OI,OC,OB,SI,gLt,gLe,gGt,gGe,_D.xG,ON,g0,g1,mW,hf,d1,m1,wA,d2',QM p v f w S hp,k0,m2,m3,d3,d4,d5]
theorem G9 {S:Sto}{p:Ai}(h:xB S p)(v f:Aj):xB (S.set p (.lst [.int v,.int f])) p:=by
 obtain⟨v0,f0,hp⟩:=h;have hpl:=(Bf.mp hp).1;exact⟨v,f,by simp[hpl]⟩
theorem sK {S S':Sto}{p:Ai}(h:xB S p)(e:S<+:S'):xB S' p:=by
 obtain⟨v0,f0,hp⟩:=h;obtain⟨r,rfl⟩:=e;exact⟨v0,f0,by rw[Bj (Bf.mp hp).1];exact hp⟩
theorem E0 (S:Sto):jF (.int 10) (.int 18) S=.ok (.int 1000000000000000000) S:=rfl
theorem E1 (S:Sto):jF (.int 10) (.int 29) S=.ok (.int 100000000000000000000000000000) S:=rfl
theorem A7 (x:Aj)(S:Sto):∃ f:Aj,kL [.int x] S=.ok (.loc S.length) (S++[.lst [.int x,.int f]]):=by
 refine⟨b01 (decide (1000000000000000000≤x)),?_⟩;have l2:2≤lim:=by decide
 rw[fG];unfold bE;simp[qR,j0,TY,OE,OD,qN,sIf,qT,zG,yW,zI,gNm,gSb,gTp,qO,x0,gU,IR,OO,AR,dC,qB,d1,d2,qA,qC,qE,qG,dTr,zX,wW,zJ,vO,X3,dIf,xS,zC,zO,eS,dBm,dSl,qV,qZ,vT,vP,Res.bind,Res.toS,_D.uW,_D.vS,OH,OF,EZ,OP,OJ,OK,OL,OI,OC,OB,SI,gLt,gLe,gGt,gGe,_D.xG,ON,E0,MK,l2]
theorem EF (ns:Ab Aj)(S:Sto):∃ x:Aj,yO [.lst (ns.map D.int),.int 0] S=.ok (.int x) S:=by
 rw[pO];unfold pL;cases ns with
 |nil=>exact⟨0,by simp[qR,j0,TY,OE,OD,qN,sIf,qT,zG,yW,zI,gNm,gSb,gTp,qO,x0,gU,IR,OO,AR,dC,qB,d1,d2,qA,qC,qE,qG,dTr,zX,wW,zJ,vO,X3,dIf,xS,zC,zO,eS,dBm,dSl,qV,qZ,vT,vP,Res.bind,Res.toS,_D.uW,_D.vS,OH,OF,EZ,OP,OJ,OK,OL,OI,OC,OB,SI,gLt,gLe,gGt,gGe,_D.xG,ON,aG]⟩
 |cons n ns =>
  refine⟨n,?_⟩;have h:(0:Aj)<(ns.length:Aj)+1:=by omega
  have a:_L.atI (D.int n::ns.map D.int) 0=Aa (.int n):=by simp[_L.atI,_L.ixN,h]
  simp[qR,j0,TY,OE,OD,qN,sIf,qT,zG,yW,zI,gNm,gSb,gTp,qO,x0,gU,IR,OO,AR,dC,qB,d1,d2,qA,qC,qE,qG,dTr,zX,wW,zJ,vO,X3,dIf,xS,zC,zO,eS,dBm,dSl,qV,qZ,vT,vP,Res.bind,Res.toS,_D.uW,_D.vS,OH,OF,EZ,OP,OJ,OK,OL,OI,OC,OB,SI,gLt,gLe,gGt,gGe,_D.xG,ON,aG,kW a,h]
theorem fP (xs:Ab D)(r:Aj)(h:0≤r∧r<xs.length):∃ d,_L.atI xs r=Aa d∧d∈xs:=by
 have e:_L.ixN xs.length r=Aa r.toNat:=by simp[_L.ixN,h]
 have hl:r.toNat<xs.length:=by omega
 exact⟨xs[r.toNat],by simp[_L.atI,e,hl],Ng hl⟩
theorem FR (ns:Ab Aj)(lo hi:Al Aj):∃ ms:Ab Aj,zS (ns.map D.int) lo hi=ms.map D.int∧ms.length≤ns.length:=by
 unfold zS;rw[← Np,← Zy];exact⟨_,rfl,by simp;omega⟩
def cW:DG:=gTp 2 (qO (gNm 2) (qO (gNm 3) (x0)))
def nX (S:DF):DS:=sIf (zX (dTr (qG 2 S (qA (qB 2) (qA (qB 3) (qC)))))) (qT (dC (.bl false))) (zG)
theorem LN (S:DF):wE S=qN (sIf (dTr (d2 gIs (qB 1) (dC .non))) (qT (d2 gIs (qB 0) (dC .non))) (zG)) (qN (sIf (wW (dTr (qE zL (qA (qB 1) (qA (dC (.ty "tuple")) (qC))))) (dTr (qE zL (qA (qB 1) (qA (dC (.ty "list")) (qC)))))) (qN (sIf (wW (dTr (d2 gNe (qE zL (qA (qB 0) (qA (dC (.ty "tuple")) (qC)))) (qE zL (qA (qB 1) (qA (dC (.ty "tuple")) (qC)))))) (dTr (d2 gNe (qE zL (qA (qB 0) (qA (dC (.ty "list")) (qC)))) (qE zL (qA (qB 1) (qA (dC (.ty "list")) (qC))))))) (qT (dC (.bl false))) (zG)) (qN (sIf (dTr (d2 gNe (qE zR (qA (qB 0) (qC))) (qE zR (qA (qB 1) (qC))))) (qT (dC (.bl false))) (zG)) (qN (kI (fW (qA (qB 0) (qA (qB 1) (qC)))) cW (nX S)) (qT (dC (.bl true)))))) (zG)) (qN (sIf (dTr (qE zL (qA (qB 1) (qA (dC (.ty "str")) (qC))))) (qT (vO (qE zL (qA (qB 0) (qA (dC (.ty "str")) (qC)))) (d2 gEq (qB 0) (qB 1)))) (zG)) (qT (vO (d2 gEq (qE zL (qA (qB 0) (qA (dC (.ty "bool")) (qC)))) (qE zL (qA (qB 1) (qA (dC (.ty "bool")) (qC))))) (vO (qE zL (qA (qB 0) (qA (dC (.ty "int")) (qC)))) (d2 gEq (qB 0) (qB 1))))))):=rfl
theorem YQ (F:DF)(x y:Al D)(S:Sto):∀ (ws:Ab D),(∀ d∈ws,F [d,d] S=.ok (.bl true) S)→∀ u v,∃ u' v',jU cW (nX F) (yT ws ws) [x,y,u,v] S=.nx [x,y,u',v'] S:=by
 intro ws
 induction ws with
 |nil=>exact fun _ u v=>⟨u,v,rfl⟩
 |cons w ws ih =>
  intro h u v;obtain⟨u',v',e⟩:=ih (fun d hd=>h d (Bx _ hd)) (Aa w) (Aa w);refine⟨u',v',?_⟩;have hw:=h w (Dg ..);have hg:cW (.tup [w,w]) [x,y,u,v] S=.ok [x,y,Aa w,Aa w] S:=rfl;have hf:nX F [x,y,Aa w,Aa w] S=.nx [x,y,Aa w,Aa w] S:=by
   unfold nX;simp[qR,j0,TY,OE,OD,qN,sIf,qT,zG,yW,zI,gNm,gSb,gTp,qO,x0,gU,IR,OO,AR,dC,qB,d1,d2,qA,qC,qE,qG,dTr,zX,wW,zJ,vO,X3,dIf,xS,zC,zO,eS,dBm,dSl,qV,qZ,vT,vP,Res.bind,Res.toS,_D.uW,_D.vS,OH,OF,EZ,OP,OJ,OK,OL,OI,OC,OB,SI,gLt,gLe,gGt,gGe,_D.xG,ON,hw]
  have hz:yT (w::ws) (w::ws)=D.tup [w,w]::yT ws ws:=rfl;rw[hz];unfold jU;simp only[hg,Res.toS,hf];exact e
def okD:Ai→D→Prop
 |n+1,.tup xs=>∀ x∈xs,okD n x
 |n+1,.lst xs=>∀ x∈xs,okD n x
 |_,.int _=>Nr
 |_,.bl _=>Nr
 |_,.non=>Nr
 |_,_=>Fm
theorem EI {t:DT}{f g:DS}{env:qD}{S S1:Sto}{b:Aq}{Q:D→Sto→Prop}(h:t env S=.ok b S1)(k:Rt ((if b then f else g) env S1) Q):Rt (sIf t f g env S) Q:=by
 obtain⟨d,S2,e2,q⟩:=k;refine⟨d,S2,?_,q⟩;unfold sIf;rw[h];cases b <;> exact e2
theorem uG {f g:DS}{env:qD}{S:Sto}{Q:D→Sto→Prop}(h:Rt (f env S) Q):Rt (qN f g env S) Q:=by
 obtain⟨d,S2,e2,q⟩:=h;exact⟨d,S2,by unfold qN;rw[e2],q⟩
theorem gT {n:Ai}{g:DS}{ds:Ab D}{S S':Sto}{d:D}{env:qD}(hs:j0 n ds=env)(h:Rt (g env S) fun d' S1=>d'=d∧S1=S'):qR n g ds S=.ok d S':=by
 obtain⟨d',S1,e,rfl,rfl⟩:=h;exact vU hs e
theorem iL (F:DF)(d:D)(ws:Ab D)(S:Sto)(h1:gIs d .non S=.ok (.bl false) S)(h2:wW (dTr (qE zL (qA (qB 1) (qA (dC (.ty "tuple")) (qC))))) (dTr (qE zL (qA (qB 1) (qA (dC (.ty "list")) (qC))))) [Aa d,Aa d,none,none] S=.ok true S)
  (h3:wW (dTr (d2 gNe (qE zL (qA (qB 0) (qA (dC (.ty "tuple")) (qC)))) (qE zL (qA (qB 1) (qA (dC (.ty "tuple")) (qC)))))) (dTr (d2 gNe (qE zL (qA (qB 0) (qA (dC (.ty "list")) (qC)))) (qE zL (qA (qB 1) (qA (dC (.ty "list")) (qC)))))) [Aa d,Aa d,none,none] S=.ok false S)
  (h4:zR [d] S=.ok (.int ws.length) S) (h5:W6 [d,d]=Aa (yT ws ws)) (ih:∀ x∈ws,F [x,x] S=.ok (.bl true) S):qR 4 (wE F) [d,d] S=.ok (.bl true) S:=by
 rw[LN];obtain⟨u',v',e⟩:=YQ F (Aa d) (Aa d) S ws ih none none;have h1':dTr (d2 gIs (qB 1) (dC .non)) [Aa d,Aa d,none,none] S=.ok false S:=by
  show (Res.bind (gIs d .non S) fun d S1=>uW (xZ d S1) S1)=_;rw[h1];rfl
 have h4':dTr (d2 gNe (qE zR (qA (qB 0) (qC))) (qE zR (qA (qB 1) (qC)))) [Aa d,Aa d,none,none] S=.ok false S:=by
  show (Res.bind (Res.bind (zR [d] S) fun a S1=>Res.bind (zR [d] S1) fun b S2=>gNe a b S2) fun d S1=>uW (xZ d S1) S1)=_;rw[h4];show (Res.bind (Res.bind (zR [d] S) fun b S2=>gNe (.int ws.length) b S2) fun d S1=>uW (xZ d S1) S1)=_;rw[h4];show (Res.bind (gNe (.int ws.length) (.int ws.length) S) fun d S1=>uW (xZ d S1) S1)=_;rw[oT,Df (fun h=>h rfl)];rfl
 have h5':fW (qA (qB 0) (qA (qB 1) (qC))) [Aa d,Aa d,none,none] S=.ok (yT ws ws) S:=by
  show _D.vS (W6 [d,d]) S=_;rw[h5];rfl
 exact gT rfl (qY (xR h1' (xF rfl (uG (EI h2 (qY (xR h3 (xF rfl (qY (xR h4' (xF rfl (qY (gN h5' (xF e (xO (x5 rfl ⟨rfl,rfl⟩))))))))))))))))
theorem iM (F:DF)(i:Aj)(S:Sto):qR 4 (wE F) [.int i,.int i] S=.ok (.bl true) S:=by
 have h:qR 4 (wE F) [.int i,.int i] S=.ok (.bl (i == i)) S:=by kernel_rfl!
 rw[h,Ea]
theorem Z8 (F:DF)(b:Aq)(S:Sto):qR 4 (wE F) [.bl b,.bl b] S=.ok (.bl true) S:=by
 cases b <;> kernel_rfl!
theorem iN (F:DF)(S:Sto):qR 4 (wE F) [.non,.non] S=.ok (.bl true) S:=by kernel_rfl!
theorem rX:∀ (n:Ai) (d:D) (S:Sto),okD n d→f9 (n+1) [d,d] S=.ok (.bl true) S:=by
 intro n
 induction n with
 |zero =>
  intro d S h;cases d with
  |int i=>exact iM _ i S
  |bl b=>exact Z8 _ b S
  |non=>exact iN _ S
  |_=>exact An h
 |succ n ih =>
  intro d S h;cases d with
  |tup ws=>exact iL (f9 (n+1)) (.tup ws) ws S rfl (by kernel_rfl!) (by kernel_rfl!) rfl rfl fun x hx=>ih x S (h x hx)
  |lst ws=>exact iL (f9 (n+1)) (.lst ws) ws S rfl (by kernel_rfl!) (by kernel_rfl!) rfl rfl fun x hx=>ih x S (h x hx)
  |int i=>exact iM _ i S
  |bl b=>exact Z8 _ b S
  |non=>exact iN _ S
  |_=>exact An h
theorem b8 (S:Sto):∀ (n m:Ai) (d:D),okD n d→n≤m→yS m S d=Aa d:=by
 have mp:∀ (f:D→Al D) (xs:Ab D),(∀ x∈xs,f x=Aa x)→mapO f xs=Aa xs:=by
  intro f xs
  induction xs with
  |nil=>exact fun _=>rfl
  |cons x xs ih =>
   intro h;have h1:=h x (Dg ..);have h2:=ih fun y hy=>h y (Bx _ hy);simp[mapO,h1,h2]
 intro n
 induction n with
 |zero =>
  intro m d h _;cases d <;> cases m <;> first|rfl|exact An h
 |succ n ih =>
  intro m d h hm;obtain⟨m,rfl⟩:∃ k,m=k+1:=⟨m-1,by omega⟩
  cases d with
  |tup ws =>
   show (mapO (yS m S) ws).map D.tup=_;rw[mp _ ws fun x hx=>ih m x (h x hx) om];rfl
  |lst ws =>
   show (mapO (yS m S) ws).map D.lst=_;rw[mp _ ws fun x hx=>ih m x (h x hx) om];rfl
  |int i=>rfl
  |bl b=>rfl
  |non=>rfl
  |_=>exact An h
theorem m9 (S:Sto)(a b d:D)(n:Ai)(ha:yS 20 S a=Aa d)(hb:yS 20 S b=Aa d)(hd:okD n d)(hn:n+1=4):vJ zW [a,b] S=.ok (.bl true) S:=by
 have h:=rX n d (pE S) hd;rw[hn] at h;unfold vJ;rw[j8];simp only[mapO,fZ,ha,hb];rw[h];rfl
theorem KH {cl:Ab Af}{C B:Af}(hC:C∈cl)(hB:B∈cl)(S:Sto):xC cl [.exn (.ref C),.obj B] S=.ok (.bl (C == B)) S:=by
 show (if (cl.contains C&&cl.contains B)=true then Res.ok (D.bl (C == B)) S else .bad)=_
 rw[Fh.mpr hC,Fh.mpr hB];rfl
theorem MW {cl:Ab Af}{C:Af}(hC:C∈cl)(S:Sto):xC cl [.exn (.ref C),.ty "ValueError"] S=.ok (.bl true) S:=by
 show (if (cl.contains C&&(("ValueError" : Ep) == "ValueError"))=true then Res.ok (D.bl true) S else .bad)=_
 rw[Fh.mpr hC];rfl
theorem xJ {cl:Ab Af}(nd:cl.Nodup){i j:Ai}{a b:Af}(ha:cl[i]? = Aa a)(hb:cl[j]? = Aa b)(h:i≠j):(a == b)=false:=by
 rw[Hx];rintro rfl;obtain⟨h1,e1⟩:=Bf.mp ha;obtain⟨h2,e2⟩:=Bf.mp hb;exact h ((Mt nd).mp (e1.trans e2.symm))
theorem xD {cl:Ab Af}{env:qD}{S:Sto}{C B:Af}{b:Aq}(h0:env[0]? = Aa (Aa (.exn (.ref C))))(hC:C∈cl)(hB:B∈cl)(e:(C == B)=b):qE (xC cl) (qA (qB 0) (qA (dC (.obj B)) (qC))) env S=.ok (.bl b) S:=by
 unfold qE qA qB;rw[h0];exact(KH hC hB S).trans (e▸rfl)
theorem B7 {cl:Ab Af}{env:qD}{S:Sto}{C:Af}(h0:env[0]? = Aa (Aa (.exn (.ref C))))(hC:C∈cl):qE (xC cl) (qA (qB 0) (qA (dC (.ty "ValueError")) (qC))) env S=.ok (.bl true) S:=by
 unfold qE qA qB;rw[h0];exact MW hC S
theorem wM {f:DE}{g:DA}{env:qD}{S:Sto}{a:D}{as:Ab D}(h:f env S=.ok a S)(k:g env S=.ok as S):qA f g env S=.ok (a::as) S:=by
 unfold qA;rw[h,Res.bind_ok,k];rfl
theorem dG {g:DA}{env:qD}{S:Sto}{as:Ab D}(k:g env S=.ok as S)(h:as.length≤lim):zO g env S=.ok (.lst as) S:=by
 unfold zO;rw[k,Res.bind_ok,Bl h]
theorem XF {o:G2}{f g:DE}{env:qD}{S:Sto}{a b:D}(h1:f env S=.ok a S)(h2:g env S=.ok b S):d2 o f g env S=o a b S:=by
 unfold d2;rw[h1,Res.bind_ok,h2];rfl
theorem sX {f:DE}{env:qD}{S:Sto}{b:Aq}(h:f env S=.ok (.bl b) S):dTr f env S=.ok b S:=by
 unfold dTr;rw[h];rfl
theorem BG {f:DT}{env:qD}{S:Sto}{b:Aq}(h:f env S=.ok b S):zX f env S=.ok (!b) S:=by
 unfold zX;rw[h];rfl
theorem BL {f g:DT}{env:qD}{S:Sto}(h:f env S=.ok false S)(k:g env S=.ok false S):wW f g env S=.ok false S:=by
 unfold wW;rw[h];exact k
theorem b7 (c:Cl)(nd:(w9 c).Nodup)(S:Sto):wG c [.exn (.ref c.NoPoint)] S=.ok (.str "point") S:=by
 have mN:c.NoPoint∈w9 c:=.head _;rw[vN];refine gT (env:=[Aa (.exn (.ref c.NoPoint)),none,none]) rfl ?_;refine qY (gM (x5 (dG (wM (xD (env:=[Aa (.exn (.ref c.NoPoint)),none,none]) rfl mN (.head _) (Ea _)) (wM (xD (env:=[Aa (.exn (.ref c.NoPoint)),none,none]) rfl mN (.tail _ (.head _)) (xJ (i:=0) (j:=1) nd rfl rfl (by decide))) (wM (xD (env:=[Aa (.exn (.ref c.NoPoint)),none,none]) rfl mN (.tail _ (.tail _ (.head _))) (xJ (i:=0) (j:=2) nd rfl rfl (by decide))) (wM (xD (env:=[Aa (.exn (.ref c.NoPoint)),none,none]) rfl mN (.tail _ (.tail _ (.tail _ (.head _)))) (xJ (i:=0) (j:=3) nd rfl rfl (by decide))) rfl)))) (by decide)) ?_))
 refine qY (gM (x5 ((XF (a:=.lst [.bl true,.bl false,.bl false,.bl false]) rfl (dG (wM (xD (env:=[Aa (.exn (.ref c.NoPoint)),Aa (.lst [.bl true,.bl false,.bl false,.bl false]),none]) rfl mN (.tail _ (.tail _ (.tail _ (.tail _ (.head _))))) (xJ (i:=0) (j:=4) nd rfl rfl (by decide))) (wM (xD (env:=[Aa (.exn (.ref c.NoPoint)),Aa (.lst [.bl true,.bl false,.bl false,.bl false]),none]) rfl mN (.tail _ (.tail _ (.tail _ (.tail _ (.tail _ (.head _)))))) (xJ (i:=0) (j:=5) nd rfl rfl (by decide))) (wM (xD (env:=[Aa (.exn (.ref c.NoPoint)),Aa (.lst [.bl true,.bl false,.bl false,.bl false]),none]) rfl mN (.tail _ (.tail _ (.tail _ (.tail _ (.tail _ (.tail _ (.head _))))))) (xJ (i:=0) (j:=6) nd rfl rfl (by decide))) (wM (xD (env:=[Aa (.exn (.ref c.NoPoint)),Aa (.lst [.bl true,.bl false,.bl false,.bl false]),none]) rfl mN (.tail _ (.tail _ (.tail _ (.tail _ (.tail _ (.tail _ (.tail _ (.head _)))))))) (xJ (i:=0) (j:=7) nd rfl rfl (by decide))) rfl)))) (by decide))).trans (c:=.ok (.lst [.bl true,.bl false,.bl false,.bl false,.bl false,.bl false,.bl false,.bl false]) S) (by kernel_rfl!)) ?_))
 refine qY (gM (x5 ((XF (a:=.lst [.bl true,.bl false,.bl false,.bl false,.bl false,.bl false,.bl false,.bl false]) rfl (dG (wM (xD (env:=[Aa (.exn (.ref c.NoPoint)),Aa (.lst [.bl true,.bl false,.bl false,.bl false,.bl false,.bl false,.bl false,.bl false]),none]) rfl mN (.tail _ (.tail _ (.tail _ (.tail _ (.tail _ (.tail _ (.tail _ (.tail _ (.head _))))))))) (xJ (i:=0) (j:=8) nd rfl rfl (by decide))) (wM (xD (env:=[Aa (.exn (.ref c.NoPoint)),Aa (.lst [.bl true,.bl false,.bl false,.bl false,.bl false,.bl false,.bl false,.bl false]),none]) rfl mN (.tail _ (.tail _ (.tail _ (.tail _ (.tail _ (.tail _ (.tail _ (.tail _ (.tail _ (.head _)))))))))) (xJ (i:=0) (j:=9) nd rfl rfl (by decide))) (wM (xD (env:=[Aa (.exn (.ref c.NoPoint)),Aa (.lst [.bl true,.bl false,.bl false,.bl false,.bl false,.bl false,.bl false,.bl false]),none]) rfl mN (.tail _ (.tail _ (.tail _ (.tail _ (.tail _ (.tail _ (.tail _ (.tail _ (.tail _ (.tail _ (.head _))))))))))) (xJ (i:=0) (j:=10) nd rfl rfl (by decide))) rfl))) (by decide))).trans (c:=.ok (.lst [.bl true,.bl false,.bl false,.bl false,.bl false,.bl false,.bl false,.bl false,.bl false,.bl false,.bl false]) S) (by kernel_rfl!)) ?_))
 refine qY (xR (b:=false) (S1:=S) (BL (BG (sX (B7 (env:=[Aa (.exn (.ref c.NoPoint)),Aa (.lst [.bl true,.bl false,.bl false,.bl false,.bl false,.bl false,.bl false,.bl false,.bl false,.bl false,.bl false]),none]) rfl mN))) (by kernel_rfl!)) (xF (env:=[Aa (.exn (.ref c.NoPoint)),Aa (.lst [.bl true,.bl false,.bl false,.bl false,.bl false,.bl false,.bl false,.bl false,.bl false,.bl false,.bl false]),none]) (S:=S) rfl ?_))
 refine qY (xR (sX (xD (env:=[Aa (.exn (.ref c.NoPoint)),Aa (.lst [.bl true,.bl false,.bl false,.bl false,.bl false,.bl false,.bl false,.bl false,.bl false,.bl false,.bl false]),none]) rfl mN (.tail _ (.tail _ (.tail _ (.tail _ (.tail _ (.tail _ (.tail _ (.tail _ (.tail _ (.head _)))))))))) (xJ (i:=0) (j:=9) nd rfl rfl (by decide)))) (xF (env:=[Aa (.exn (.ref c.NoPoint)),Aa (.lst [.bl true,.bl false,.bl false,.bl false,.bl false,.bl false,.bl false,.bl false,.bl false,.bl false,.bl false]),none]) (S:=S) rfl ?_))
 refine qY (xR (sX (xD (env:=[Aa (.exn (.ref c.NoPoint)),Aa (.lst [.bl true,.bl false,.bl false,.bl false,.bl false,.bl false,.bl false,.bl false,.bl false,.bl false,.bl false]),none]) rfl mN (.tail _ (.tail _ (.tail _ (.tail _ (.tail _ (.tail _ (.tail _ (.tail _ (.tail _ (.tail _ (.head _))))))))))) (xJ (i:=0) (j:=10) nd rfl rfl (by decide)))) (xF (env:=[Aa (.exn (.ref c.NoPoint)),Aa (.lst [.bl true,.bl false,.bl false,.bl false,.bl false,.bl false,.bl false,.bl false,.bl false,.bl false,.bl false]),none]) (S:=S) rfl ?_))
 exact BY (d:=.str "point") (S:=S) (by kernel_rfl!) ⟨rfl,rfl⟩
theorem iF (c:Cl)(nd:(w9 c).Nodup)(S:Sto):wG c [.exn (.ref c.NoLot)] S=.ok (.str "lot") S:=by
 have mN:c.NoLot∈w9 c:=.tail _ (.head _);rw[vN];refine gT (env:=[Aa (.exn (.ref c.NoLot)),none,none]) rfl ?_;refine qY (gM (x5 (dG (wM (xD (env:=[Aa (.exn (.ref c.NoLot)),none,none]) rfl mN (.head _) (xJ (i:=1) (j:=0) nd rfl rfl (by decide))) (wM (xD (env:=[Aa (.exn (.ref c.NoLot)),none,none]) rfl mN (.tail _ (.head _)) (Ea _)) (wM (xD (env:=[Aa (.exn (.ref c.NoLot)),none,none]) rfl mN (.tail _ (.tail _ (.head _))) (xJ (i:=1) (j:=2) nd rfl rfl (by decide))) (wM (xD (env:=[Aa (.exn (.ref c.NoLot)),none,none]) rfl mN (.tail _ (.tail _ (.tail _ (.head _)))) (xJ (i:=1) (j:=3) nd rfl rfl (by decide))) rfl)))) (by decide)) ?_))
 refine qY (gM (x5 ((XF (a:=.lst [.bl false,.bl true,.bl false,.bl false]) rfl (dG (wM (xD (env:=[Aa (.exn (.ref c.NoLot)),Aa (.lst [.bl false,.bl true,.bl false,.bl false]),none]) rfl mN (.tail _ (.tail _ (.tail _ (.tail _ (.head _))))) (xJ (i:=1) (j:=4) nd rfl rfl (by decide))) (wM (xD (env:=[Aa (.exn (.ref c.NoLot)),Aa (.lst [.bl false,.bl true,.bl false,.bl false]),none]) rfl mN (.tail _ (.tail _ (.tail _ (.tail _ (.tail _ (.head _)))))) (xJ (i:=1) (j:=5) nd rfl rfl (by decide))) (wM (xD (env:=[Aa (.exn (.ref c.NoLot)),Aa (.lst [.bl false,.bl true,.bl false,.bl false]),none]) rfl mN (.tail _ (.tail _ (.tail _ (.tail _ (.tail _ (.tail _ (.head _))))))) (xJ (i:=1) (j:=6) nd rfl rfl (by decide))) (wM (xD (env:=[Aa (.exn (.ref c.NoLot)),Aa (.lst [.bl false,.bl true,.bl false,.bl false]),none]) rfl mN (.tail _ (.tail _ (.tail _ (.tail _ (.tail _ (.tail _ (.tail _ (.head _)))))))) (xJ (i:=1) (j:=7) nd rfl rfl (by decide))) rfl)))) (by decide))).trans (c:=.ok (.lst [.bl false,.bl true,.bl false,.bl false,.bl false,.bl false,.bl false,.bl false]) S) (by kernel_rfl!)) ?_))
 refine qY (gM (x5 ((XF (a:=.lst [.bl false,.bl true,.bl false,.bl false,.bl false,.bl false,.bl false,.bl false]) rfl (dG (wM (xD (env:=[Aa (.exn (.ref c.NoLot)),Aa (.lst [.bl false,.bl true,.bl false,.bl false,.bl false,.bl false,.bl false,.bl false]),none]) rfl mN (.tail _ (.tail _ (.tail _ (.tail _ (.tail _ (.tail _ (.tail _ (.tail _ (.head _))))))))) (xJ (i:=1) (j:=8) nd rfl rfl (by decide))) (wM (xD (env:=[Aa (.exn (.ref c.NoLot)),Aa (.lst [.bl false,.bl true,.bl false,.bl false,.bl false,.bl false,.bl false,.bl false]),none]) rfl mN (.tail _ (.tail _ (.tail _ (.tail _ (.tail _ (.tail _ (.tail _ (.tail _ (.tail _ (.head _)))))))))) (xJ (i:=1) (j:=9) nd rfl rfl (by decide))) (wM (xD (env:=[Aa (.exn (.ref c.NoLot)),Aa (.lst [.bl false,.bl true,.bl false,.bl false,.bl false,.bl false,.bl false,.bl false]),none]) rfl mN (.tail _ (.tail _ (.tail _ (.tail _ (.tail _ (.tail _ (.tail _ (.tail _ (.tail _ (.tail _ (.head _))))))))))) (xJ (i:=1) (j:=10) nd rfl rfl (by decide))) rfl))) (by decide))).trans (c:=.ok (.lst [.bl false,.bl true,.bl false,.bl false,.bl false,.bl false,.bl false,.bl false,.bl false,.bl false,.bl false]) S) (by kernel_rfl!)) ?_))
 refine qY (xR (b:=false) (S1:=S) (BL (BG (sX (B7 (env:=[Aa (.exn (.ref c.NoLot)),Aa (.lst [.bl false,.bl true,.bl false,.bl false,.bl false,.bl false,.bl false,.bl false,.bl false,.bl false,.bl false]),none]) rfl mN))) (by kernel_rfl!)) (xF (env:=[Aa (.exn (.ref c.NoLot)),Aa (.lst [.bl false,.bl true,.bl false,.bl false,.bl false,.bl false,.bl false,.bl false,.bl false,.bl false,.bl false]),none]) (S:=S) rfl ?_))
 refine qY (xR (sX (xD (env:=[Aa (.exn (.ref c.NoLot)),Aa (.lst [.bl false,.bl true,.bl false,.bl false,.bl false,.bl false,.bl false,.bl false,.bl false,.bl false,.bl false]),none]) rfl mN (.tail _ (.tail _ (.tail _ (.tail _ (.tail _ (.tail _ (.tail _ (.tail _ (.tail _ (.head _)))))))))) (xJ (i:=1) (j:=9) nd rfl rfl (by decide)))) (xF (env:=[Aa (.exn (.ref c.NoLot)),Aa (.lst [.bl false,.bl true,.bl false,.bl false,.bl false,.bl false,.bl false,.bl false,.bl false,.bl false,.bl false]),none]) (S:=S) rfl ?_))
 refine qY (xR (sX (xD (env:=[Aa (.exn (.ref c.NoLot)),Aa (.lst [.bl false,.bl true,.bl false,.bl false,.bl false,.bl false,.bl false,.bl false,.bl false,.bl false,.bl false]),none]) rfl mN (.tail _ (.tail _ (.tail _ (.tail _ (.tail _ (.tail _ (.tail _ (.tail _ (.tail _ (.tail _ (.head _))))))))))) (xJ (i:=1) (j:=10) nd rfl rfl (by decide)))) (xF (env:=[Aa (.exn (.ref c.NoLot)),Aa (.lst [.bl false,.bl true,.bl false,.bl false,.bl false,.bl false,.bl false,.bl false,.bl false,.bl false,.bl false]),none]) (S:=S) rfl ?_))
 exact BY (d:=.str "lot") (S:=S) (by kernel_rfl!) ⟨rfl,rfl⟩
def Pn (d:D):Prop:=∃ p,pyD d=Aa p
theorem V8 {d:D}(h:Pn d):(∃ i,d=.int i)∨yX d:=by
 obtain⟨p,h⟩:=h;cases d with
 |int i=>exact .inl ⟨i,rfl⟩
 |non=>exact .inr R7
 |bl b=>exact .inr (CO b)
 |str x=>exact .inr (R8 x)
 |tup x=>exact .inr (R9 x)
 |lst x=>exact .inr (R6 x)
 |dct0=>exact .inr R5
 |_=>simp[pyD] at h
theorem pns {xs:Ab D}:∀ {ps:Ab Vg},gQ xs=Aa ps→∀ x∈xs,Pn x:=by
 induction xs with
 |nil=>intro ps _ x hx;cases hx
 |cons d ds ih =>
  intro ps h x hx;simp only[gQ] at h;obtain⟨p,h1,h2⟩:=DL.mp h;obtain⟨ps',h3,_⟩:=Dm.mp h2;rcases Av.mp hx with rfl|hx
  ·exact⟨p,h1⟩
  ·exact ih h3 x hx
theorem V9 {xs:Ab D}(h:Pn (.tup xs)):∀ x∈xs,Pn x:=by
 obtain⟨p,h⟩:=h;simp only[pyD] at h;obtain⟨ps,h1,_⟩:=Dm.mp h;exact pns h1
theorem XO {d:D}(h:Pn d):(∃ xs,d=.tup xs)∨∀ S,zX (dTr (qE zL (qA (qB 0) (qA (dC (.ty "tuple")) (qC))))) [Aa d] S=.ok true S:=by
 have one:∀ (a:Ep),(∀ S,tyD d S=Aa a)→w8 a "tuple" = false→∀ S,zX (dTr (qE zL (qA (qB 0) (qA (dC (.ty "tuple")) (qC))))) [Aa d] S=.ok true S:=fun a h1 h2 S=>by
  have:=uT (wV ((WG (f1:=qB 0) (f2:=dC (.ty "tuple")) (env:=[Aa d]) (S:=S) rfl rfl).trans (pX d "tuple" a S kY.2.2.1 (h1 S))));rw[h2] at this;exact this
 obtain⟨p,h⟩:=h;cases d with
 |tup xs=>exact .inl ⟨xs,rfl⟩
 |int i=>exact .inr (one "int" (fun _=>rfl) (kd))
 |non=>exact .inr (one "NoneType" (fun _=>rfl) (kd))
 |bl b=>exact .inr (one "bool" (fun _=>rfl) (kd))
 |str x=>exact .inr (one "str" (fun _=>rfl) (kd))
 |lst x=>exact .inr (one "list" (fun _=>rfl) (kd))
 |dct0=>exact .inr (one "dict" (fun _=>rfl) (kd))
 |_=>simp[pyD] at h
theorem jG (xs:Ab D)(S:Sto):zX (dTr (qE zL (qA (qB 0) (qA (dC (.ty "tuple")) (qC))))) [Aa (.tup xs)] S=.ok false S:=by
 have:=uT (wV ((WG (f1:=qB 0) (f2:=dC (.ty "tuple")) (env:=[Aa (.tup xs)]) (S:=S) rfl rfl).trans (pX (.tup xs) "tuple" "tuple" S kY.2.2.1 rfl)));rw[NS.2.2.2.2.2.1] at this;exact this
def isI:D→Aq
 |.int i=>decide (-1000≤i∧i≤1000)
 |_=>false
def qS:D→Aq
 |.tup [a,b]=>isI a&&isI b
 |_=>false
theorem YC {d:D}(h:yX d):isI d=false:=by
 cases d with
 |int i =>
  rcases h [] with h|h|h|h|h|h <;> (rw[EZ] at h;exact absurd (Cw h) (by decide))
 |_=>rfl
theorem IZ (x:D)(S:Sto)(h:Pn x):yP [x,.int (-1000),.int 1000] S=.ok (.bl (isI x)) S:=by
 rcases V8 h with⟨i,rfl⟩|h
 ·exact GP i _ _ S
 ·rw[YC h];exact oB x _ _ S h
theorem oA (i:Aj)(S:Sto):y7 [.int i] S=.ok (.bl true) S:=by
 rw[uL]
 kernel_rfl!
theorem XQ (d:D)(S:Sto)(h:yX d):y7 [d] S=.ok (.bl false) S:=by
 rw[uL];unfold gD;rcases h S with h|h|h|h|h|h <;> simp[qR,j0,TY,OE,OD,qN,sIf,qT,zG,yW,zI,gNm,gSb,gTp,qO,x0,gU,IR,OO,AR,dC,qB,d1,d2,qA,qC,qE,qG,dTr,zX,wW,zJ,vO,X3,dIf,xS,zC,zO,eS,dBm,dSl,qV,qZ,vT,vP,Res.bind,Res.toS,_D.uW,_D.vS,OH,OF,EZ,OP,OJ,OK,OL,OI,OC,OB,SI,gLt,gLe,gGt,gGe,_D.xG,ON,pX _ _ _ _ kY.1 h,pX _ _ _ _ kY.2.1 h,w8]
theorem JE (i:Aj)(S:Sto):xS gLe gLe (d1 vR (dC (.int 1000))) (qB 0) (dC (.int 1000)) [Aa (.int i)] S=.ok (.bl (decide (-1000≤i∧i≤1000))) S:=by
 have e:d1 vR (dC (.int 1000)) [Aa (.int i)] S=.ok (.int (-1000)) S:=rfl;unfold xS;rw[e];simp[qR,j0,TY,OE,OD,qN,sIf,qT,zG,yW,zI,gNm,gSb,gTp,qO,x0,gU,IR,OO,AR,dC,qB,d1,d2,qA,qC,qE,qG,dTr,zX,wW,zJ,vO,X3,dIf,xS,zC,zO,eS,dBm,dSl,qV,qZ,vT,vP,Res.bind,Res.toS,_D.uW,_D.vS,OH,OF,EZ,OP,OJ,OK,OL,OI,OC,OB,SI,gLt,gLe,gGt,gGe,_D.xG,ON,Res.bind];by_cases h:(-1000:Aj)≤i <;> simp[h]
theorem A5 (x:D)(S:Sto)(h:Pn x):vO (qG 1 (okO y7) (qA (qB 0) (qC))) (xS gLe gLe (d1 vR (dC (.int 1000))) (qB 0) (dC (.int 1000))) [Aa x] S=.ok (.bl (isI x)) S:=by
 rcases V8 h with⟨i,rfl⟩|h
 ·exact hX (a:=true) ((yC (f1:=qB 0) rfl).trans (gO (oA i S))) (fun _=>JE i S) (by intro z;cases z)
 ·rw[YC h]
  exact hX (a:=false) (b:=false) ((yC (f1:=qB 0) rfl).trans (gO (XQ x S h))) (by intro z;cases z) (fun _=>rfl)
theorem rR (fe:DE)(S:Sto)(hfe:∀ x,Pn x→fe [Aa x] S=.ok (.bl (isI x)) S)(d:D)(h:Pn d) :
  Rt (qN (sIf (wW (zX (dTr (qE zL (qA (qB 0) (qA (dC (.ty "tuple")) (qC)))))) (dTr (d2 gNe (qE zR (qA (qB 0) (qC))) (dC (.int 2))))) (qT (dC (.bl false))) (zG)) (qT (qE (jB false) (qA (qW false [none] (dIt (qB 0)) (gNm 0) (zJ) (zB fe)) (qC)))) [Aa d] S) fun d' S1=>d'=.bl (qS d)∧S1=S:=by
 rcases XO h with⟨xs,rfl⟩|hn
 ·have hl:dTr (d2 gNe (qE zR (qA (qB 0) (qC))) (dC (.int 2))) [Aa (.tup xs)] S=.ok (decide ((xs.length:Aj)≠2)) S:=wV ((qQ ((yL (f1:=qB 0) rfl).trans (gK xs S)) rfl).trans (oT _ _ _))
  have ht:=jV (jG xs S) (fun _=>hl) (by intro z;cases z)
  rw[Mz] at ht;by_cases h2:xs.length=2
  ·rw[Df om] at ht
   refine qY (xR ht (xF (S:=S) rfl (xO (x5 ?_ (d:=.bl (qS (.tup xs))) (S:=S) ⟨rfl,rfl⟩))));have hc:=WL (cap:=[none]) (g:=gNm 0) (t:=zJ) (fe:=fe) (fi:=dIt (qB 0)) (env:=[Aa (.tup xs)]) (S:=S) (o:=none) (items:=xs) rfl trivial (fun _=>true) (fun x=>.bl (isI x)) (fun env=>∃ a,env=[a]) ⟨none,rfl⟩ (by rw[h2];decide)
    (fun x hx env ⟨a,q⟩=>by subst q;exact⟨[Aa x],rfl,⟨_,rfl⟩,rfl,fun _=>hfe x (V9 h x hx)⟩)
   rw[wF] at hc;rw[hW (p:=isI) hc]
   match xs,h2 with
   |[a,b],_=>simp[qS]
  ·rw[Cu om] at ht
   refine uG (gS ht (xO (x5 (d:=.bl false) (S:=S) rfl ⟨?_,rfl⟩)))
   match xs,h2 with
   |[],_=>rfl
   |[a],_=>rfl
   |[a,b],h=>exact absurd rfl h
   |a::b::c::r,_=>rfl
 ·have ht:=jV (b:=false) (g:=dTr (d2 gNe (qE zR (qA (qB 0) (qC))) (dC (.int 2)))) (hn S) (by intro z;cases z) (fun _=>rfl)
  refine uG (gS ht (xO (x5 (d:=.bl false) (S:=S) rfl ⟨?_,rfl⟩)))
  congr 1
  unfold qS
  split
  ·have:=hn S
   rw[jG] at this;cases this
  ·rfl
theorem lQ (d:D)(S:Sto)(h:Pn d):vE [d] S=.ok (.bl (qS d)) S:=by
 rw[fH];exact gT (env:=[Aa d]) rfl (rR _ S (fun x hx=>(bG (f1:=qB 0) rfl rfl rfl).trans (gO (IZ x S hx))) d h)
theorem o9 (d:D)(S:Sto)(h:Pn d):xL [d] S=.ok (.bl (qS d)) S:=by
 rw[jX];exact gT (env:=[Aa d]) rfl (rR _ S (fun x hx=>A5 x S hx) d h)
def upB (ks:Ab (Ab Aj)):Aq:=(ks.zip (ks.drop 1)).all fun p=>_H.lexLt p.1 p.2
def wC:D→Aq
 |.tup xs=>decide (1≤xs.length∧xs.length≤40)&&xs.all qS&&(match yI xs with|some ks=>upB ks|none=>false)
 |_=>false
set_option tactic.hygienic true in
theorem lM:∀ (xs:Ab D),xs.all qS=true→∃ ks:Ab (Ab Aj),xs=ks.map tpD
 |[],_=>⟨[],rfl⟩
 |d::ds,h=>by
  rw[Nd,Bo] at h;obtain⟨ks,rfl⟩:=lM ds h.2;have h1:=h.1;unfold qS at h1
  split at h1
  ·rename_i a b
   rw[Bo] at h1;cases a with
   |int x =>
    cases b with
    |int y=>exact⟨[x,y]::ks,rfl⟩
    |_=>simp[isI] at h1
   |_=>simp[isI] at h1
  ·cases h1
theorem CM (a b:Ab Aj)(S:Sto):n8 (tpD a) (tpD b) S=.ok (.bl (_H.lexLt a b)) S:=by
 unfold n8 tpD;simp only[m6]
theorem bA:∀ (ks:Ab (Ab Aj)),upB ks=true↔ks.Pairwise (fun a b=>_H.lexLt a b=true)
 |[]=>by simp[upB]
 |[a]=>by simp[upB]
 |a::b::r=>by
  have ih:=bA (b::r);have e:upB (a::b::r)=(_H.lexLt a b&&upB (b::r)):=by simp[upB]
  rw[e,Bo,ih,Fc (a:=a)];constructor
  ·rintro⟨h1,h2⟩
   refine⟨fun x hx=>?_,h2⟩;rcases Av.mp hx with rfl|hx
   ·exact h1
   ·exact _S.gP.tr h1 ((Fc.mp h2).1 x hx)
  ·rintro⟨h1,h2⟩
   exact⟨h1 b (by simp),h2⟩
theorem HI (ks ms:Ab (Ab Aj)):yT (ks.map tpD) (ms.map tpD)=(ks.zip ms).map fun p=>D.tup [tpD p.1,tpD p.2]:=by
 unfold yT
 induction ks generalizing ms with
 |nil=>rfl
 |cons k ks ih =>
  cases ms with
  |nil=>rfl
  |cons m ms=>exact congrArg (_::·) (ih ms)
theorem HL (xs:Ab D):zS xs (Aa 1) none=xs.drop 1:=by
 unfold zS;have h1:_H.sIx xs.length 0 (Aa 1)=min 1 xs.length:=rfl;have h2:_H.sIx xs.length xs.length none=xs.length:=rfl;rw[h1,h2];cases xs with
 |nil=>rfl
 |cons x r=>simp
theorem o8 (ks:Ab (Ab Aj))(S:Sto)(hl:ks.length≤lim):jO [.tup (ks.map tpD)] S=.ok (.bl (upB ks)) S:=by
 rw[pR];refine tF (env:=[Aa (.tup (ks.map tpD))]) rfl ?_;have hz:wL (fW (qA (qB 0) (qA (dSl (qB 0) (qV (dC (.int 1))) (qZ)) (qC)))) [Aa (.tup (ks.map tpD))] S=.ok (none,(ks.zip (ks.drop 1)).map fun p=>D.tup [tpD p.1,tpD p.2]) S:=by
  have hs:dSl (qB 0) (qV (dC (.int 1))) (qZ) [Aa (.tup (ks.map tpD))] S=.ok (.tup ((ks.drop 1).map tpD)) S:=by
   have:gSl (.tup (ks.map tpD)) (Aa 1) none S=.ok (.tup ((ks.drop 1).map tpD)) S:=by
    show Res.ok (D.tup (zS (ks.map tpD) (Aa 1) none)) S=_;rw[HL,Np]
   exact this
  unfold wL fW;rw[zY (f1:=qB 0) rfl hs];show Res.ok (none,yT (ks.map tpD) ((ks.drop 1).map tpD)) S=_;rw[HI]
 have hc:=kU (enc:=fun p:Ab Aj × Ab Aj=>D.tup [tpD p.1,tpD p.2]) (cap:=[none,none]) (g:=gTp 2 (qO (gNm 0) (qO (gNm 1) (x0)))) (t:=zJ) (fe:=d2 n8 (qB 0) (qB 1)) hz trivial (fun _=>true) (fun p=>.bl (_H.lexLt p.1 p.2)) (fun env=>∃ a b,env=[a,b]) ⟨none,none,rfl⟩ (by simp;omega)
  (fun p _ env ⟨a,b,q⟩=>by
   subst q;exact⟨[Aa (tpD p.1),Aa (tpD p.2)],rfl,⟨_,_,rfl⟩,rfl,fun _=>(qQ (a:=tpD p.1) (b:=tpD p.2) rfl rfl).trans (CM _ _ _)⟩)
 rw[wF] at hc;exact hW (p:=fun p:Ab Aj × Ab Aj=>_H.lexLt p.1 p.2) hc
theorem aH (xs:Ab D)(S:Sto)(f:DE)(hf:f [Aa (.tup xs)] S=.ok (.int 40) S):zX (dTr (xS gLe gLe (dC (.int 1)) (qE zR (qA (qB 0) (qC))) f)) [Aa (.tup xs)] S=.ok (!decide (1≤xs.length∧xs.length≤40)) S:=by
 have hl:qE zR (qA (qB 0) (qC)) [Aa (.tup xs)] S=.ok (.int xs.length) S:=(yL (f1:=qB 0) rfl).trans (gK xs S);refine uT (wV ?_);unfold xS;rw[show dC (.int 1) [Aa (.tup xs)] S=.ok (.int 1) S from rfl]
 simp only[Res.bind];rw[hl];simp[qR,j0,TY,OE,OD,qN,sIf,qT,zG,yW,zI,gNm,gSb,gTp,qO,x0,gU,IR,OO,AR,dC,qB,d1,d2,qA,qC,qE,qG,dTr,zX,wW,zJ,vO,X3,dIf,xS,zC,zO,eS,dBm,dSl,qV,qZ,vT,vP,Res.bind,Res.toS,_D.uW,_D.vS,OH,OF,EZ,OP,OJ,OK,OL,OI,OC,OB,SI,gLt,gLe,gGt,gGe,_D.xG,ON,hf];by_cases h:1≤xs.length
 ·have h':(1:Aj)≤(xs.length:Aj):=by omega
  simp[h,h'];omega
 ·have h':¬ (1:Aj)≤(xs.length:Aj):=by omega
  simp[h,h']
theorem i3 (F:DF)(xs:Ab D)(S:Sto)(hF:∀ x,Pn x→F [x] S=.ok (.bl (qS x)) S)(h:Pn (.tup xs))(hl:xs.length≤40):qE (jB false) (qA (qW false [none] (dIt (qB 0)) (gNm 0) (zJ) (zB (qG 1 (okO F) (qA (qB 0) (qC))))) (qC)) [Aa (.tup xs)] S=.ok (.bl (xs.all qS)) S:=by
 have hc:=WL (cap:=[none]) (g:=gNm 0) (t:=zJ) (fe:=qG 1 (okO F) (qA (qB 0) (qC))) (fi:=dIt (qB 0)) (env:=[Aa (.tup xs)]) (S:=S) (o:=none) (items:=xs) rfl trivial (fun _=>true) (fun x=>.bl (qS x)) (fun env=>∃ a,env=[a]) ⟨none,rfl⟩ (by unfold lim;omega)
  (fun x hx env ⟨a,q⟩=>by subst q;exact⟨[Aa x],rfl,⟨_,rfl⟩,rfl,fun _=>(yC (f1:=qB 0) rfl).trans (gO (hF x (V9 h x hx)))⟩)
 rw[wF] at hc;exact hW (p:=qS) hc
theorem GK (d:D)(S:Sto)(h:Pn d):bD [d] S=.ok (.bl (wC d)) S:=by
 rw[tM];refine gT (env:=[Aa d]) rfl ?_;unfold tV;rcases XO h with⟨xs,rfl⟩|hn
 ·have ht:=jV (jG xs S) (fun _=>aH xs S (dC (.int (40))) rfl) (by intro z;cases z)
  rw[Mz] at ht;by_cases hl:1≤xs.length∧xs.length≤40
  ·rw[Cu hl] at ht
   refine qY (xR ht (xF (S:=S) rfl (xO (x5 ?_ (d:=.bl (wC (.tup xs))) (S:=S) ⟨rfl,rfl⟩))));have hp:=i3 vE xs S (fun x hx=>lQ x S hx) h hl.2;have e:wC (.tup xs)=(xs.all qS&&(match yI xs with|some ks=>upB ks|none=>false)):=by
    show (decide (1≤xs.length∧xs.length≤40)&&xs.all qS&&_)=_;rw[Cu hl,Ux]
   rw[e];refine hX hp (fun ha=>?_) (fun _=>rfl);obtain⟨ks,rfl⟩:=lM xs ha;rw[vC];exact(yC (f1:=qB 0) rfl).trans (o8 ks S (by rw[Ar] at hl;unfold lim;omega))
  ·rw[Df hl] at ht
   refine uG (gS ht (xO (x5 (d:=.bl false) (S:=S) rfl ⟨?_,rfl⟩)));show _=D.bl (decide (1≤xs.length∧xs.length≤40)&&xs.all qS&&_);rw[Df hl];rfl
 ·have ht:=jV (b:=false) (g:=zX (dTr (xS gLe gLe (dC (.int 1)) (qE zR (qA (qB 0) (qC))) (dC (.int (40)))))) (hn S) (by intro z;cases z) (fun _=>rfl)
  refine uG (gS ht (xO (x5 (d:=.bl false) (S:=S) rfl ⟨?_,rfl⟩)))
  congr 1
  unfold wC
  split
  ·have:=hn S
   rw[jG] at this;cases this
  ·rfl
theorem cX {K:Type}(lt':K→K→Aq)(x:K):∀ l:Ab K,(_S.gI lt' x l).length≤l.length+1
 |[]=>by simp[_S.gI]
 |y::l=>by
  have:=cX lt' x l;unfold _S.gI
  split
  ·simp
  ·split
   ·simp
    omega
   ·simp
theorem tG {K:Type}(lt':K→K→Aq):∀ l:Ab K,(_S.srt lt' l).length≤l.length
 |[]=>by simp[_S.srt]
 |x::l=>by
  have h1:=cX lt' x (_S.srt lt' l);have h2:=tG lt' l;rw[_S.srt,Cd];omega
theorem ZF (ks:Ab (Ab Aj))(h:ks≠[])(hl:ks.length<64)(he:∀ k∈ks,k≠[]):vA (ks.map tpD)=Aa ((_S.srt _H.lexLt ks).map tpD):=by
 unfold vA;have h0:wY (ks.map tpD)=none:=by
  cases ks with
  |nil=>exact absurd rfl h
  |cons k r=>rfl
 rw[h0,vC];have h1:=tG _H.lexLt ks;have h2:(ks.all fun k=>!k.isEmpty)=true:=by
  rw[Az];intro k hk;have:=he k hk;cases k with
  |nil=>exact absurd rfl this
  |cons _ _=>rfl
 have h3:(decide ((_S.srt _H.lexLt ks).length≤1000)&&ks.all fun k=>!k.isEmpty)=true:=by
  rw[h2,Cu om];rfl
 show (if (decide ((_S.srt _H.lexLt ks).length≤1000)&&ks.all fun k=>!k.isEmpty)=true then _ else _)=_
 rw[Bl h3]
theorem HA (ks:Ab (Ab Aj)):upB ks=decide (ks=_S.srt _H.lexLt ks):=by
 by_cases h:upB ks=true
 ·rw[h]
  symm
  rw[Cs];exact _S.tH _S.gP ((bA ks).mp h) (_S.uZ _S.gP ks) fun x=>(_S.vM _S.gP x ks).symm
 ·have h':upB ks=false:=by simpa using h
  rw[h']
  symm
  rw[Fi];intro e;apply h;rw[bA,e];exact _S.uZ _S.gP ks
theorem oP:∀ (a b:Ab Aj),xX (a.map D.int) (b.map D.int)=decide (a=b)
 |[],[]=>rfl
 |[],_::_=>rfl
 |_::_,[]=>rfl
 |x::a,y::b=>by
  show ((x == y)&&xX (a.map D.int) (b.map D.int))=_;rw[oP a b];by_cases h1:x=y <;> by_cases h2:a=b <;> simp[h1,h2]
theorem Y2:∀ (a b:Ab (Ab Aj)),xX (a.map tpD) (b.map tpD)=decide (a=b)
 |[],[]=>rfl
 |[],_::_=>rfl
 |_::_,[]=>rfl
 |x::a,y::b=>by
  show (xX (x.map D.int) (y.map D.int)&&xX (a.map tpD) (b.map tpD))=_;rw[oP,Y2 a b];by_cases h1:x=y <;> by_cases h2:a=b <;> simp[h1,h2]
theorem V7 (ks:Ab (Ab Aj)):pl xH (.lst (ks.map tpD))=true:=by
 show (ks.map tpD).all (pl 29)=true;rw[Jn,Az];intro k _;show (k.map D.int).all (pl 28)=true;rw[Jn,Az];intro i _;rfl
theorem U5 (d:D)(S:Sto)(h:Pn d):vV [d] S=.ok (.bl (wC d)) S:=by
 rw[g9];refine gT (env:=[Aa d]) rfl ?_;unfold kF;rcases XO h with⟨xs,rfl⟩|hn
 ·by_cases hl:1≤xs.length∧xs.length≤40
  ·have hp:=uT (wV (i3 xL xs S (fun x hx=>o9 x S hx) h hl.2))
   have ht:=jV (jG xs S) (fun _=>jV (aH xs S (dC (.int 40)) rfl) (fun _=>hp) (fun _=>rfl)) (by intro z;cases z)
   have e:wC (.tup xs)=(xs.all qS&&(match yI xs with|some ks=>upB ks|none=>false)):=by
    show (decide (1≤xs.length∧xs.length≤40)&&xs.all qS&&_)=_;rw[Cu hl,Ux]
   rw[e];rw[Cu hl,Mz,Jb,Mz] at ht;cases ha:xs.all qS with
   |true =>
    rw[ha] at ht;obtain⟨ks,rfl⟩:=lM xs ha;rw[Ar] at hl;have hne:∀ k∈ks,k≠[]:=fun k hk z=>by
     subst z;have:=Az.mp ha (tpD []) (Jl hk);cases this
    have hs:wJ (qB 0) [Aa (.tup (ks.map tpD))] S=.ok (.lst ((_S.srt _H.lexLt ks).map tpD)) S:=by
     unfold wJ;rw[show qB 0 [Aa (D.tup (ks.map tpD))] S=.ok (.tup (ks.map tpD)) S from rfl]
     simp only[Res.bind,mJ,Kr,ZF ks (by intro z;subst z;simp at hl) om hne]
    have hli:qE mT (qA (qB 0) (qC)) [Aa (.tup (ks.map tpD))] S=.ok (.lst (ks.map tpD)) S:=(yL (f1:=qB 0) rfl).trans rfl;refine qY (xR ht (xF (S:=S) rfl (xO (x5 ((qQ hli hs).trans ?_) (d:=.bl _) (S:=S) ⟨rfl,rfl⟩))));rw[vC];show _=Res.ok (D.bl (upB ks)) S;rw[HA];unfold gEq;rw[V7,V7];show Res.ok (D.bl (xX (ks.map tpD) ((_S.srt _H.lexLt ks).map tpD))) S=_;rw[Y2]
   |false =>
    rw[ha] at ht;exact uG (gS ht (xO (x5 (d:=.bl false) (S:=S) rfl ⟨rfl,rfl⟩)))
  ·have ht:=jV (jG xs S) (fun _=>jV (b:=false) (g:=zX (dTr (qE (jB false) (qA (qW false [none] (dIt (qB 0)) (gNm 0) (zJ) (zB (qG 1 (okO xL) (qA (qB 0) (qC))))) (qC))))) (aH xs S (dC (.int 40)) rfl) (fun z=>by rw[Df hl] at z;cases z) (fun _=>rfl)) (by intro z;cases z)
   rw[Df hl] at ht;refine uG (gS ht (xO (x5 (d:=.bl false) (S:=S) rfl ⟨?_,rfl⟩)));show _=D.bl (decide (1≤xs.length∧xs.length≤40)&&xs.all qS&&_);rw[Df hl];rfl
 ·have ht:=jV (b:=false) (g:=wW (zX (dTr (xS gLe gLe (dC (.int 1)) (qE zR (qA (qB 0) (qC))) (dC (.int 40))))) (zX (dTr (qE (jB false) (qA (qW false [none] (dIt (qB 0)) (gNm 0) (zJ) (zB (qG 1 (okO xL) (qA (qB 0) (qC))))) (qC)))))) (hn S) (by intro z;cases z) (fun _=>rfl)
  refine uG (gS ht (xO (x5 (d:=.bl false) (S:=S) rfl ⟨?_,rfl⟩)))
  congr 1
  unfold wC
  split
  ·have:=hn S
   rw[jG] at this;cases this
  ·rfl
theorem N5 {d:D}{x:Ax}(h:jW d=Aa x):Pn d:=by
 obtain⟨p,h,_⟩:=rV h;exact⟨p,h⟩
structure Nc (k b:Ai)(hl hd:Aq)(d:D)(p:Vg):Prop where
 py:pyD d=Aa p
 sh:p.showable=true
 lv:p.leavesShort 40=true
 bu:p.bulk≤b
 de:p.depth≤k
 di:p.hasDict=true→hd=true
 li:kR d=false→hl=true
def xP (k b:Ai)(hl hd:Aq)(d:D):Prop:=∃ p,Nc k b hl hd d p
theorem xP.mono {k b k' b':Ai}{hl hd hl' hd':Aq}{d:D}(h:xP k b hl hd d)(h1:k≤k')(h2:b≤b')(h3:hl=true→hl'=true)(h4:hd=true→hd'=true):xP k' b' hl' hd' d:=by
 obtain⟨p,h⟩:=h;exact⟨p,h.py,h.sh,h.lv,Ee h.bu h2,Ee h.de h1,fun z=>h4 (h.di z),fun z=>h3 (h.li z)⟩
theorem xP.repr {k b:Ai}{hl hd:Aq}{d:D}(h:xP k b hl hd d)(h1:k≤60)(h2:b≤65536)(h3:(hl&&hd)=false):∃ x,jW d=Aa x:=by
 obtain⟨p,h⟩:=h;refine⟨p.shown,?_⟩;unfold jW;rw[h.py];have hk:mH d p=true:=by
  unfold mH;rw[h.sh,h.lv,Cu (show p.bulk≤2 ^ 16 by have:=h.bu;omega),Cu (show p.depth≤60 by have:=h.de;omega)]
  cases hh:p.hasDict with
  |false=>rfl
  |true =>
   have:=h.di hh;subst this;cases hn:kR d with
   |true=>rfl
   |false =>
    have:=h.li hn;subst this;cases h3
 show (if mH d p=true then Aa p.shown else none)=_
 rw[Bl hk]
theorem V0 {i:Aj}(h:(Aa3 (.int i)).length≤40)(h2:i.natAbs.log2<1920):xP 0 0 false false (.int i):=
 ⟨.int i,rfl,Cu h2,Cu h,As _,As _,(fun z=>by cases z),(fun z=>by cases z)⟩
theorem wK {i:Aj}(h:i.natAbs<10 ^ 12):xP 0 0 false false (.int i):=by
 refine V0 (Ee (PyData.shown_int_le h) om) ?_;have:i.natAbs<2 ^ 1920:=Bt h (kd);by_cases hm:i.natAbs=0
 ·rw[hm];decide
 ·exact(Nat.log2_lt hm).mpr this
theorem aM:xP 0 0 false false .non:=⟨.none,rfl,rfl,rfl,As _,As _,(fun z=>by cases z),(fun z=>by cases z)⟩
theorem BE (b:Aq):xP 0 0 false false (.bl b):=⟨.bool b,rfl,rfl,rfl,As _,As _,(fun z=>by cases z),(fun z=>by cases z)⟩
theorem aP (x:Ax)(h:(x.cps.toList.all fun c=>decide (c<16 ^ 8))=true)(hb:x.cps.size≤3):xP 0 3 false false (.str x):=⟨.str x,rfl,rfl,h,hb,As _,(fun z=>by cases z),(fun z=>by cases z)⟩
theorem aJ:xP 1 0 false true .dct0:=⟨.dict [],rfl,rfl,rfl,As _,As _,fun _=>rfl,(fun z=>by cases z)⟩
theorem ncs {k b:Ai}{hl hd:Aq}:∀ (xs:Ab D),(∀ x∈xs,xP k b hl hd x)→∃ ps,gQ xs=Aa ps∧Vs ps=true∧Tk 40 ps=true∧Zf ps≤xs.length*(b+1)∧Yp ps≤k∧(Xc ps=true→hd=true)∧(pY xs=false→hl=true)
 |[],_=>⟨[],rfl,rfl,rfl,Ha _,Ha _,(fun z=>by cases z),(fun z=>by cases z)⟩
 |d::ds,h=>by
  obtain⟨p,n⟩:=h d (by simp)
  obtain⟨ps,a1,a2,a3,a4,a5,a6,a7⟩:=ncs ds fun x hx=>h x (by simp[hx])
  refine⟨p::ps,?_,?_,?_,?_,?_,?_,?_⟩
  ·simp only[gQ,n.py,a1,Kr,Ka]
  ·simp only[Vs,n.sh,a2,Uw]
  ·simp only[Tk,n.lv,a3,Uw]
  ·have:=n.bu
   rw[Cd,Nat.succ_mul];simp only[Zf];omega
  ·simp only[Yp]
   exact Nat.max_le.mpr ⟨n.de,a5⟩
  ·intro z
   simp only[Xc,Lc] at z;rcases z with z|z
   ·exact n.di z
   ·exact a6 z
  ·intro z
   simp only[pY,Bool.and_eq_false_iff] at z;rcases z with z|z
   ·exact n.li z
   ·exact a7 z
theorem uS {k b m:Ai}{hl hd:Aq}{xs:Ab D}(h:∀ x∈xs,xP k b hl hd x)(hm:xs.length≤m):xP (k+1) (m*(b+1)) hl hd (.tup xs):=by
 obtain⟨ps,a1,a2,a3,a4,a5,a6,a7⟩:=ncs xs h;refine⟨.tuple ps,by simp only[pyD,a1,Ka],by simpa only [Sn] using a2,by simpa only [Vt] using a3,?_,?_,by simpa only [Zg] using a6,by simpa only [kR] using a7⟩
 ·simp only[Aa8]
  exact Ee a4 (Uc _ hm)
 ·simp only[Aa4]
  omega
theorem aK {k b m:Ai}{hl hd:Aq}{xs:Ab D}(h:∀ x∈xs,xP k b hl hd x)(hm:xs.length≤m):xP (k+1) (m*(b+1)) true hd (.lst xs):=by
 obtain⟨ps,a1,a2,a3,a4,a5,a6,a7⟩:=ncs xs h;refine⟨.list ps,by simp only[pyD,a1,Ka],by simpa only [Sn] using a2,by simpa only [Vt] using a3,?_,?_,by simpa only [Zg] using a6,fun _=>rfl⟩
 ·simp only[Aa8]
  exact Ee a4 (Uc _ hm)
 ·simp only[Aa4]
  omega
set_option tactic.hygienic true in
theorem mF {d:D}(h:qS d=true):∃ x y:Aj,d=.tup [.int x,.int y]∧(-1000≤x∧x≤1000)∧(-1000≤y∧y≤1000):=by
 unfold qS at h
 split at h
 ·rename_i a b
  rw[Bo] at h;cases a with
  |int x =>
   cases b with
   |int y=>exact⟨x,y,rfl,Ct h.1,Ct h.2⟩
   |_=>simp[isI] at h
  |_=>simp[isI] at h
 ·cases h
theorem lL {d:D}(h:qS d=true):xP 1 2 false false d:=by
 obtain⟨x,y,rfl,hx,hy⟩:=mF h;refine uS (k:=0) (b:=0) (m:=2) (fun z hz=>?_) (by simp)
 simp only[Av,Ce,Ez] at hz;rcases hz with rfl|rfl
 ·exact wK om
 ·exact wK om
theorem VB {xs:Ab D}(h:xs.all qS=true)(hl:xs.length≤41):xP 2 123 false false (.tup xs):=
 uS (k:=1) (b:=2) (m:=41) (fun z hz=>lL (Az.mp h z hz)) hl
def Th (d:D):Prop:=∃ hl hd,(hl&&hd)=false∧xP 5 2000 hl hd d
theorem Th.repr {d:D}(h:Th d):∃ x,jW d=Aa x:=by
 obtain⟨hl,hd,h1,h2⟩:=h;exact h2.repr om om h1
theorem gZ {xs:Ab D}(h:xs.all qS=true)(hl:xs.length≤41):Th (.tup xs):=⟨false,false,rfl,(VB h hl).mono om om id id⟩
theorem wN {S S1:Sto}{p i:Ai}{m:Aj}{f2:DE}{env:qD}(h:xB S1 p)(hm:0<m∧m<1073741824)(he:env[i]? = Aa (Aa (.loc p)))(h2:f2 env S=.ok (.int m) S1):∃ (r:Ai) (S':Sto),qG 2 zF (qA (qB i) (qA f2 (qC))) env S=.ok (.int (r:Aj)) S'∧(r:Aj)<m∧xB S' p:=by
 obtain⟨r,v,f,e,a1,a2⟩:=EG S1 p m h hm;obtain⟨n,rfl⟩:=Int.eq_ofNat_of_zero_le a1;exact⟨n,_,(wX (a:=.loc p) (S1:=S) (by simp only[qB,he]) h2).trans e,a2,G9 h v f⟩
theorem BN {f:DE}{env:qD}{S S':Sto}{r:Ai}(h:f env S=.ok (.int (r:Aj)) S'):d2 qX (dC (.int 1)) f env S=.ok (.int ((r+1:Ai):Aj)) S':=by
 refine(qQ (a:=.int 1) (S1:=S) rfl h).trans ?_;rw[wA]
 congr 2
 omega
theorem goE {g:DG}{t:DT}{fe:DE}(C:qD→Sto→Prop)(R:D→Prop):∀ (items:Ab D) (env:qD) (S:Sto) (acc:Ab D),
  C env S→acc.length+items.length≤lim→(∀ d env S,d∈items→C env S→∃ env1 x S1,g d env S=.ok env1 S∧t env1 S=.ok true S∧fe env1 S=.ok x S1∧C env1 S1∧R x) →
  ∃ ys env' S',goL none g t (zB fe) items env S acc=.ok (env',acc++ys) S'∧ys.length=items.length∧(∀ y∈ys,R y)∧C env' S'
 |[],env,S,acc,c,_,_=>by
  have hs:sV none S=true:=yH.mpr trivial;exact⟨[],env,S,by simp only[goL,hs,Dq,Gd],rfl,(fun y hy=>by cases hy),c⟩
 |d::ds,env,S,acc,c,hl,step=>by
  have hs:sV none S=true:=yH.mpr trivial;obtain⟨env1,x,S1,h1,h2,h3,c1,hx⟩:=step d env S (by simp) c
  rw[Cd] at hl;obtain⟨ys,env',S',e,l,hy,c'⟩:=goE C R ds env1 S1 (acc++[x]) c1 (by rw[Ca];simp;omega) fun d' env S hd=>step d' env S (by simp[hd])
  refine⟨x::ys,env',S',?_,by simp[l],?_,c'⟩
  ·have hk:=nD h3 (show acc.length<lim by omega)
   simp only[goL,hs,Dq,h1,h2,hk,Res.bind];rw[e,Cj];rfl
  ·intro y hy'
   rcases Av.mp hy' with rfl|hy'
   ·exact hx
   ·exact hy y hy'
theorem eR {cap:Ab (Al Ai)}{fi:DI2}{g:DG}{t:DT}{fe:DE}{env:qD}{S S0:Sto}{items:Ab D}(C:qD→Sto→Prop)(R:D→Prop)(h:fi env S0=.ok (none,items) S)(h0:C (xU cap env) S)(hl:items.length≤lim)
  (step:∀ d env S,d∈items→C env S→∃ env1 x S1,g d env S=.ok env1 S∧t env1 S=.ok true S∧fe env1 S=.ok x S1∧C env1 S1∧R x) :
  ∃ ys env' S',qW false cap fi g t (zB fe) env S0=.ok (.lst ys) S'∧ys.length=items.length∧(∀ y∈ys,R y)∧C env' S':=by
 obtain⟨ys,env',S',e,l,hy,c⟩:=goE C R items (xU cap env) S [] h0 (by simpa using hl) step
 exact⟨ys,env',S',jZ h e,l,hy,c⟩
theorem lX (w:Aj)(env:qD)(S:Sto)(h1:env[1]? = Aa (Aa (.int w))):d2 qX (d2 w6 (dC (.int 2)) (qB 1)) (dC (.int 1)) env S=.ok (.int (2*w+1)) S:=
 (qQ ((qQ (a:=.int 2) rfl (w4 h1)).trans (jE 2 w S om)) rfl).trans (wA _ _ _)
theorem sN (S:Sto)(p:Ai)(w:Aj)(h:xB S p)(hw:0≤w∧w≤2000):∃ (x y:Aj) (S':Sto),wI [.loc p,.int w] S=.ok (.tup [.int x,.int y]) S'∧(-w≤x∧x≤w)∧(-w≤y∧y≤w)∧xB S' p:=by
 obtain⟨a,S1,e1,ha,p1⟩:=wN (S:=S) (i:=0) (env:=[Aa (.loc p),Aa (.int w)]) (m:=2*w+1) h om rfl (lX w _ S rfl);obtain⟨b,S2,e2,hb,p2⟩:=wN (S:=S1) (i:=0) (env:=[Aa (.loc p),Aa (.int w)]) (m:=2*w+1) p1 om rfl (lX w _ S1 rfl);refine⟨a-w,b-w,S2,?_,by omega,by omega,p2⟩
 rw[p9];refine tF (env:=[Aa (.loc p),Aa (.int w)]) rfl ?_;have d1:d2 xG (qG 2 zF (qA (qB 0) (qA (d2 qX (d2 w6 (dC (.int 2)) (qB 1)) (dC (.int 1))) (qC)))) (qB 1) [Aa (.loc p),Aa (.int w)] S=.ok (.int (a-w)) S1:=(qQ e1 rfl).trans rfl;have d2':d2 xG (qG 2 zF (qA (qB 0) (qA (d2 qX (d2 w6 (dC (.int 2)) (qB 1)) (dC (.int 1))) (qC)))) (qB 1) [Aa (.loc p),Aa (.int w)] S1=.ok (.int (b-w)) S2:=(qQ e2 rfl).trans rfl;exact zZ (zY d1 d2') (by show 2≤lim;decide)
theorem bX {x y:Aj}(hx : -1000≤x∧x≤1000)(hy : -1000≤y∧y≤1000):qS (.tup [.int x,.int y])=true:=by
 show (decide (-1000≤x∧x≤1000)&&decide (-1000≤y∧y≤1000))=true;rw[Cu hx,Cu hy];rfl
def iD (n:Ai):D:=.int (n:Aj)
theorem AA (n:Ai)(h:n≤1000000):mI [.int (n:Aj)]=Aa (yB 0 (n:Aj).toNat):=by
 unfold mI;have : -(2 ^ 62)≤(n:Aj)∧(n:Aj)<2 ^ 62:=⟨by omega,by omega⟩
 exact Bl this
theorem GR (n:Ai):yB 0 (n:Aj).toNat=(Do n).map iD:=by
 unfold yB;rw[Gh]
 congr 1
 funext i
 unfold iD;rw[Int.zero_add]
theorem Z7 (n:Ai)(h:n≤1000000):mI [.int (n:Aj)]=Aa ((Do n).map iD):=by
 rw[AA n h,GR]
theorem rW {β : Type}(b:β)(S:Sto):_D.vS (Aa b) S=.ok b S:=rfl
theorem lB (f:DE)(n:Ai)(env:qD)(S:Sto)(h:n≤1000)(e:f env S=.ok (.int (n:Aj)) S):wL (vP (qA f qC)) env S=.ok (none,(Do n).map iD) S:=by
 have e1:qA f qC env S=.ok [.int (n:Aj)] S:=wU e;unfold wL vP;rw[e1,Res.bind_ok,Z7 n om,rW,Res.bind_ok]
inductive IvL (p w m:Ai)(e1:Al D)(ax ay st:Aj)(env:qD)(S:Sto):Prop
 |mk (wi:Aj) (ys:Ab D) (e8:Al D) (h_0:env=[Aa (.loc p),e1,Aa (.int (w:Aj)),Aa (.int (m:Aj)),Aa (.int wi),Aa (.tup [.int ax,.int ay]),Aa (.int st),Aa (.lst ys),e8]) (h_1:ys.all qS=true) (h_2:1≤ys.length∧ys.length≤200) (h_3:xB S p):IvL p w m e1 ax ay st env S
theorem eP {ys:Ab D}(h:∀ y∈ys,qS y=true):ys.all qS=true:=Az.mpr h
theorem W3 (w:Ai)(k:Aj)(env:qD)(S:Sto)(h:env[2]? = Aa (Aa (.int (w:Aj)))):dTr (d2 gEq (qB 2) (dC (.int k))) env S=.ok (decide ((w:Aj)=k)) S:=wV ((qQ (w4 h) rfl).trans (mW _ _ _))
section
variable {p w m:Ai}{e1:Al D}{ax ay st:Aj}{env:qD}{S:Sto}
theorem L4 (hm:1≤m∧m≤40)(ha : -400≤ax∧ax≤400)(hb : -400≤ay∧ay≤400)(h:IvL p w m e1 ax ay st env S) :
  Nx (sIf (dTr (d2 gEq (qB 2) (dC (.int 0)))) (zI (qW false [none,Aa 5] (wL (vP (qA (qB 3) (qC)))) (gNm 0) (zJ) (zB (zC (qA (d2 qX (d2 gIx (qB 1) (dC (.int 0))) (d2 u8 (qB 0) (dC (.int 4)))) (qA (d2 qX (d2 gIx (qB 1) (dC (.int 1))) (d2 vQ (qB 0) (dC (.int 4)))) (qC)))))) (gNm 7)) (zG) env S) (IvL p w m e1 ax ay st):=by
 obtain⟨wi,ys,e8,rfl,h1,h2,h3⟩:=h;refine xR (W3 w 0 _ S rfl) ?_;by_cases hw:(w:Aj)=0
 ·rw[Cu hw]
  have hr:=lB (qB 3) m [Aa (.loc p),e1,Aa (.int (w:Aj)),Aa (.int (m:Aj)),Aa (.int wi),Aa (.tup [.int ax,.int ay]),Aa (.int st),Aa (.lst ys),e8] S om rfl;obtain⟨zs,env',S',e,l,hz,_,_,rfl⟩:=eR (cap:=[none,Aa 5]) (g:=gNm 0) (t:=zJ) (fe:=zC (qA (d2 qX (d2 gIx (qB 1) (dC (.int 0))) (d2 u8 (qB 0) (dC (.int 4)))) (qA (d2 qX (d2 gIx (qB 1) (dC (.int 1))) (d2 vQ (qB 0) (dC (.int 4)))) (qC)))) (fun env S'=>∃ a,env=[a,Aa (.tup [.int ax,.int ay])]∧S'=S) (fun d=>qS d=true) hr ⟨none,rfl,rfl⟩ (by rw[Ar,Go];unfold lim;omega)
   (fun d env S' hd ⟨a,q1,q2⟩=>by
    subst q1 q2;obtain⟨i,hi,rfl⟩:=Dk.mp hd;have hi:=Et.mp hi;refine⟨[Aa (iD i),Aa (.tup [.int ax,.int ay])],.tup [.int (ax+(i:Aj) % 4),.int (ay+(i:Aj)/4)],S',rfl,rfl,?_,⟨_,rfl,rfl⟩,bX om om⟩;refine zZ (zY (a:=.int (ax+(i:Aj) % 4)) (b:=.int (ay+(i:Aj)/4)) (S1:=S') ?_ ?_) (by show 2≤lim;decide)
    ·exact(qQ (a:=.int ax) (b:=.int ((i:Aj) % 4)) rfl ((qQ (a:=.int (i:Aj)) rfl rfl).trans (jD _ _ _ om))).trans (wA _ _ _)
    ·exact(qQ (a:=.int ay) (b:=.int ((i:Aj)/4)) rfl ((qQ (a:=.int (i:Aj)) rfl rfl).trans (pW _ _ _ om))).trans (wA _ _ _))
  rw[Ar,Go] at l;exact zU e rfl ⟨wi,zs,e8,rfl,eP hz,by omega,h3⟩
 ·rw[Df hw]
  exact xF rfl ⟨wi,ys,e8,rfl,h1,h2,h3⟩
theorem L5 (hm:1≤m∧m≤40)(ha : -400≤ax∧ax≤400)(hb : -400≤ay∧ay≤400)(hst:1≤st∧st≤9)(h:IvL p w m e1 ax ay st env S) :
  Nx (sIf (dTr (d2 gEq (qB 2) (dC (.int 1)))) (zI (qW false [none,Aa 5,Aa 6] (wL (vP (qA (qB 3) (qC)))) (gNm 0) (zJ) (zB (zC (qA (d2 qX (d2 gIx (qB 1) (dC (.int 0))) (d2 w6 (qB 2) (qB 0))) (qA (d2 xG (d2 gIx (qB 1) (dC (.int 1))) (qB 0)) (qC)))))) (gNm 7)) (zG) env S) (IvL p w m e1 ax ay st):=by
 obtain⟨wi,ys,e8,rfl,h1,h2,h3⟩:=h;refine xR (W3 w 1 _ S rfl) ?_;by_cases hw:(w:Aj)=1
 ·rw[Cu hw]
  have hr:=lB (qB 3) m [Aa (.loc p),e1,Aa (.int (w:Aj)),Aa (.int (m:Aj)),Aa (.int wi),Aa (.tup [.int ax,.int ay]),Aa (.int st),Aa (.lst ys),e8] S om rfl;obtain⟨zs,env',S',e,l,hz,_,_,rfl⟩:=eR (cap:=[none,Aa 5,Aa 6]) (g:=gNm 0) (t:=zJ) (fe:=zC (qA (d2 qX (d2 gIx (qB 1) (dC (.int 0))) (d2 w6 (qB 2) (qB 0))) (qA (d2 xG (d2 gIx (qB 1) (dC (.int 1))) (qB 0)) (qC)))) (fun env S'=>∃ a,env=[a,Aa (.tup [.int ax,.int ay]),Aa (.int st)]∧S'=S) (fun d=>qS d=true) hr ⟨none,rfl,rfl⟩ (by rw[Ar,Go];unfold lim;omega)
   (fun d env S' hd ⟨a,q1,q2⟩=>by
    subst q1 q2;obtain⟨i,hi,rfl⟩:=Dk.mp hd;have hi:=Et.mp hi;have hmul:0≤st*(i:Aj)∧st*(i:Aj)≤9*39:=⟨Int.mul_nonneg om om,Int.mul_le_mul om om om om⟩;refine⟨[Aa (iD i),Aa (.tup [.int ax,.int ay]),Aa (.int st)],.tup [.int (ax+st*(i:Aj)),.int (ay-(i:Aj))],S',rfl,rfl,?_,⟨_,rfl,rfl⟩,bX om om⟩;refine zZ (zY (a:=.int (ax+st*(i:Aj))) (b:=.int (ay-(i:Aj))) (S1:=S') ?_ ?_) (by show 2≤lim;decide)
    ·exact(qQ (a:=.int ax) (b:=.int (st*(i:Aj))) rfl ((qQ (a:=.int st) (b:=.int (i:Aj)) rfl rfl).trans (jE _ _ _ om))).trans (wA _ _ _)
    ·exact(qQ (a:=.int ay) (b:=.int (i:Aj)) rfl rfl).trans rfl)
  rw[Ar,Go] at l;exact zU e rfl ⟨wi,zs,e8,rfl,eP hz,by omega,h3⟩
 ·rw[Df hw]
  exact xF rfl ⟨wi,ys,e8,rfl,h1,h2,h3⟩
theorem sY (fe:DE)(hfe:∀ (x y:Aj) (S:Sto),∃ x' y':Aj,fe [Aa (.int x),Aa (.int y)] S=.ok (.tup [.int x',.int y']) S∧((x'=x∨x' = -x)∧(y'=y∨y' = -y)∨(x'=y∨x' = -y)∧(y'=x∨y' = -x)))(ys:Ab D)(hy:ys.all qS=true)(hl:ys.length≤200)(env:qD)(S:Sto)(h8:env[8]? = Aa (Aa (.lst ys))) :
  ∃ zs,qW false [none,none] (dIt (qB 8)) (gTp 2 (qO (gNm 0) (qO (gNm 1) (x0)))) (zJ) (zB fe) env S=.ok (.lst zs) S∧zs.all qS=true∧zs.length=ys.length:=by
 have hit:dIt (qB 8) env S=.ok (none,ys) S:=by
  unfold dIt;rw[w4 h8];rfl
 obtain⟨zs,env',S',e,l,hz,_,_,_,rfl⟩:=eR (cap:=[none,none]) (g:=gTp 2 (qO (gNm 0) (qO (gNm 1) (x0)))) (t:=zJ) (fe:=fe) (fun env S'=>∃ a b,env=[a,b]∧S'=S) (fun d=>qS d=true) hit ⟨none,none,rfl,rfl⟩ (by unfold lim;omega)
  (fun d env S' hd ⟨a,b,q1,q2⟩=>by
   subst q1 q2;obtain⟨x,y,rfl,hx,hy'⟩:=mF (Az.mp hy d hd);obtain⟨x',y',e,hc⟩:=hfe x y S';exact⟨[Aa (.int x),Aa (.int y)],_,S',rfl,rfl,e,⟨_,_,rfl,rfl⟩,bX om om⟩)
 exact⟨zs,e,eP hz,l⟩
theorem pS {a b:Ab D}(ha:a.all qS=true)(hb:b.all qS=true):(a++b).all qS=true:=by rw[List.all_append,ha,hb];rfl
theorem FS (ys:Ab D)(lo hi:Al Aj)(h:ys.all qS=true):(zS ys lo hi).all qS=true:=by
 rw[Az];intro y hy;exact Az.mp h y (Ht (Gy hy))
theorem pV (ys:Ab D)(n:Ai):zS ys none (Aa (n:Aj))=ys.take n:=by
 unfold zS;have h1:_H.sIx ys.length 0 none=0:=rfl;have h2:_H.sIx ys.length ys.length (Aa (n:Aj))=min n ys.length:=by
  show (if (n:Aj)<0 then ((n:Aj)+(ys.length:Aj)).toNat else min (n:Aj).toNat ys.length)=_
  rw[Bk om,Gh]
 rw[h1,h2,List.drop_zero,Nat.sub_zero];rcases Nat.le_total n ys.length with h|h
 ·rw[So h]
 ·rw[Ya h,Gf h,Gf (As _)]
theorem L6 (hm:1≤m∧m≤40)(h:IvL p w m e1 ax ay st env S) :
  Nx (sIf (dTr (d2 gEq (qB 2) (dC (.int 2)))) (qN (zI (dSl (qB 7) (qZ) (qV (d2 qX (dC (.int 1)) (d2 vQ (qB 3) (dC (.int 4)))))) (gNm 8)) (qN (zI (d2 qX (d2 qX (qB 8) (qW false [none,none] (dIt (qB 8)) (gTp 2 (qO (gNm 0) (qO (gNm 1) (x0)))) (zJ) (zB (zC (qA (d2 xG (dC (.int 0)) (qB 1)) (qA (qB 0) (qC))))))) (qW false [none,none] (dIt (qB 8)) (gTp 2 (qO (gNm 0) (qO (gNm 1) (x0)))) (zJ) (zB (zC (qA (d2 xG (dC (.int 0)) (qB 0)) (qA (d2 xG (dC (.int 0)) (qB 1)) (qC))))))) (gNm 7)) (zI (d2 qX (qB 7) (qW false [none,none] (dIt (qB 8)) (gTp 2 (qO (gNm 0) (qO (gNm 1) (x0)))) (zJ) (zB (zC (qA (qB 1) (qA (d2 xG (dC (.int 0)) (qB 0)) (qC))))))) (gNm 7)))) (zG) env S) (IvL p w m e1 ax ay st):=by
 obtain⟨wi,ys,e8,rfl,h1,h2,h3⟩:=h;refine xR (W3 w 2 _ S rfl) ?_;by_cases hw:(w:Aj)=2
 ·rw[Cu hw,Bl rfl]
  have hs:dSl (qB 7) (qZ) (qV (d2 qX (dC (.int 1)) (d2 vQ (qB 3) (dC (.int 4))))) [Aa (.loc p),e1,Aa (.int (w:Aj)),Aa (.int (m:Aj)),Aa (.int wi),Aa (.tup [.int ax,.int ay]),Aa (.int st),Aa (.lst ys),e8] S=.ok (.lst (ys.take (1+m/4))) S:=by
   have hd:d2 qX (dC (.int 1)) (d2 vQ (qB 3) (dC (.int 4))) [Aa (.loc p),e1,Aa (.int (w:Aj)),Aa (.int (m:Aj)),Aa (.int wi),Aa (.tup [.int ax,.int ay]),Aa (.int st),Aa (.lst ys),e8] S=.ok (.int ((1+m/4:Ai):Aj)) S:=by
    refine(qQ (a:=.int 1) (b:=.int ((m:Aj)/4)) rfl ((qQ (a:=.int (m:Aj)) rfl rfl).trans (pW _ _ _ om))).trans ?_;rw[wA,show (1:Aj)+(m:Aj)/4=((1+m/4:Ai):Aj) by omega]
   unfold dSl;rw[w4 (env:=[Aa (.loc p),e1,Aa (.int (w:Aj)),Aa (.int (m:Aj)),Aa (.int wi),Aa (.tup [.int ax,.int ay]),Aa (.int st),Aa (.lst ys),e8]) (i:=7) rfl];simp only[Res.bind,qZ,qV,hd];show Res.ok (D.lst (zS ys none (Aa ((1+m/4:Ai):Aj)))) S=_;rw[pV]
  have l1:(ys.take (1+m/4)).length≤11:=by rw[Dp];omega
  have l0:1≤(ys.take (1+m/4)).length:=by rw[Dp];omega
  have ps:(ys.take (1+m/4)).all qS=true:=Az.mpr fun y hy=>Az.mp h1 y (Gy hy);generalize ys.take (1+m/4)=zs at hs l1 l0 ps;have l2:2≤lim:=by decide
  refine xT (zU hs rfl ?_);obtain⟨a1,c1,q1,n1⟩:=sY (zC (qA (d2 xG (dC (.int 0)) (qB 1)) (qA (qB 0) (qC)))) (fun x y S=>⟨0-y,x,zZ (zY rfl rfl) l2,by omega⟩) zs ps om [Aa (.loc p),e1,Aa (.int (w:Aj)),Aa (.int (m:Aj)),Aa (.int wi),Aa (.tup [.int ax,.int ay]),Aa (.int st),Aa (.lst ys),Aa (.lst zs)] S rfl
  obtain⟨a2,c2,q2,n2⟩:=sY (zC (qA (d2 xG (dC (.int 0)) (qB 0)) (qA (d2 xG (dC (.int 0)) (qB 1)) (qC)))) (fun x y S=>⟨0-x,0-y,zZ (zY rfl rfl) l2,by omega⟩) zs ps om [Aa (.loc p),e1,Aa (.int (w:Aj)),Aa (.int (m:Aj)),Aa (.int wi),Aa (.tup [.int ax,.int ay]),Aa (.int st),Aa (.lst ys),Aa (.lst zs)] S rfl
  refine xT (zU (d:=.lst (zs++a1++a2)) (S1:=S) ((qQ ((qQ rfl c1).trans (u7 (by unfold lim;omega) S)) c2).trans (u7 (by rw[Ca];unfold lim;omega) S)) rfl ?_)
  obtain⟨a3,c3,q3,n3⟩:=sY (zC (qA (qB 1) (qA (d2 xG (dC (.int 0)) (qB 0)) (qC)))) (fun x y S=>⟨y,0-x,zZ (zY rfl rfl) l2,by omega⟩) zs ps om [Aa (.loc p),e1,Aa (.int (w:Aj)),Aa (.int (m:Aj)),Aa (.int wi),Aa (.tup [.int ax,.int ay]),Aa (.int st),Aa (.lst (zs++a1++a2)),Aa (.lst zs)] S rfl
  refine zU (d:=.lst (zs++a1++a2++a3)) (S1:=S) ((qQ rfl c3).trans (u7 (by simp only[Ca];unfold lim;omega) S)) rfl ⟨wi,_,_,rfl,pS (pS (pS ps q1) q2) q3,?_,h3⟩
  simp only[Ca];omega
 ·rw[Df hw]
  exact xF rfl ⟨wi,ys,e8,rfl,h1,h2,h3⟩
end
theorem ix5 (r:Ai)(h:r<5)(S:Sto):∃ m:Aj,gIx (.lst [.int 1,.int 2,.int 4,.int 12,.int 1000]) (.int (r:Aj)) S=.ok (.int m) S∧1≤m∧m≤1000:=by
 match r,h with
 |0,_=>exact⟨1,rfl,by omega⟩
 |1,_=>exact⟨2,rfl,by omega⟩
 |2,_=>exact⟨4,rfl,by omega⟩
 |3,_=>exact⟨12,rfl,by omega⟩
 |4,_=>exact⟨1000,rfl,by omega⟩
theorem IG (env:qD)(S:Sto):zO (qA (dC (.int 1)) (qA (dC (.int 2)) (qA (dC (.int 4)) (qA (dC (.int 12)) (qA (dC (.int 1000)) (qC)))))) env S=.ok (.lst [.int 1,.int 2,.int 4,.int 12,.int 1000]) S:=by
 have l5:5≤lim:=by decide
 simp[qR,j0,TY,OE,OD,qN,sIf,qT,zG,yW,zI,gNm,gSb,gTp,qO,x0,gU,IR,OO,AR,dC,qB,d1,d2,qA,qC,qE,qG,dTr,zX,wW,zJ,vO,X3,dIf,xS,zC,zO,eS,dBm,dSl,qV,qZ,vT,vP,Res.bind,Res.toS,_D.uW,_D.vS,OH,OF,EZ,OP,OJ,OK,OL,OI,OC,OB,SI,gLt,gLe,gGt,gGe,_D.xG,ON,l5]
theorem XV (zs:Ab D)(h:zs.all qS=true)(hl:1≤zs.length∧zs.length≤40):∃ xs:Ab D,vA zs=Aa xs∧xs.all qS=true∧(1≤xs.length∧xs.length≤40)∧wC (.tup xs)=true:=by
 obtain⟨ks,rfl⟩:=lM zs h;rw[Ar] at hl;have pk:∀ k∈ks,qS (tpD k)=true:=fun k hk=>Az.mp h _ (Jl hk);have hne:∀ k∈ks,k≠[]:=fun k hk z=>by
  subst z;have:=pk [] hk;cases this
 have c1:((_S.srt _H.lexLt ks).map tpD).all qS=true:=by
  rw[Jn,Az];intro k hk;exact pk k ((_S.vM _S.gP k ks).mp hk)
 have c2:1≤((_S.srt _H.lexLt ks).map tpD).length∧((_S.srt _H.lexLt ks).map tpD).length≤40:=by
  rw[Ar];refine⟨?_,?_⟩
  ·cases ks with
   |nil=>simp at hl
   |cons k r=>exact Mr ((_S.vM _S.gP k (k::r)).mpr (by simp))
  ·have:=tG _H.lexLt ks
   omega
 refine⟨(_S.srt _H.lexLt ks).map tpD,ZF ks (by intro z;subst z;simp at hl) om hne,c1,c2,?_⟩
 show (decide (1≤((_S.srt _H.lexLt ks).map tpD).length∧((_S.srt _H.lexLt ks).map tpD).length≤40)&&((_S.srt _H.lexLt ks).map tpD).all qS&&(match yI ((_S.srt _H.lexLt ks).map tpD) with|some ks=>upB ks|none=>false))=true
 rw[Cu c2,c1,vC];exact(bA _).mpr (_S.uZ _S.gP ks)
theorem A6 (S:Sto)(p:Ai)(h:xB S p):∃ (xs:Ab D) (S':Sto),kK [.loc p,.int 40] S=.ok (.tup xs) S'∧xs.all qS=true∧(1≤xs.length∧xs.length≤40)∧wC (.tup xs)=true∧xB S' p:=by
 have key:Rt (kN [Aa (.loc p),Aa (.int 40),none,none,none,none,none,none,none] S) fun d S'=>∃ xs,d=.tup xs∧xs.all qS=true∧(1≤xs.length∧xs.length≤40)∧wC (.tup xs)=true∧xB S' p:=by
  unfold kN;obtain⟨w,S1,c1,hw,p1⟩:=wN (S:=S) (i:=0) (f2:=dC (.int 7)) (env:=[Aa (.loc p),Aa (.int 40),none,none,none,none,none,none,none]) (m:=7) h om rfl rfl;obtain⟨m0,S2,c2,hm0,p2⟩:=wN (S:=S1) (i:=0) (f2:=qB 1) (env:=[Aa (.loc p),Aa (.int 40),none,none,none,none,none,none,none]) (m:=40) p1 om rfl rfl;refine qY (b0 c1 (BN c2) ?_);clear c1 c2;have hm:1≤m0+1∧m0+1≤40:=by omega
  generalize m0+1=m at hm;simp only[Cz,Cp];obtain⟨k,S3,c3,hk,p3⟩:=wN (S:=S2) (i:=0) (f2:=dC (.int 5)) (env:=[Aa (.loc p),Aa (.int 40),Aa (.int (w:Aj)),Aa (.int (m:Aj)),none,none,none,none,none]) (m:=5) p2 om rfl rfl;obtain⟨wi,hwi,w1,w2⟩:=ix5 k om S3;obtain⟨ax,ay,S4,c4,ha,hb,p4⟩:=sN S3 p 400 p3 om;have l2:2≤lim:=by decide
  refine qY (zU (zZ (zY ((qQ (IG _ _) c3).trans hwi) ((wX (a:=.loc p) (b:=.int 400) rfl rfl).trans c4)) l2) (env1:=[Aa (.loc p),Aa (.int 40),Aa (.int (w:Aj)),Aa (.int (m:Aj)),Aa (.int wi),Aa (.tup [.int ax,.int ay]),none,none,none]) (S2:=S4) rfl ?_);clear c3 c4 hwi;obtain⟨s0,S5,c5,hs0,p5⟩:=wN (S:=S4) (i:=0) (f2:=dC (.int 9)) (env:=[Aa (.loc p),Aa (.int 40),Aa (.int (w:Aj)),Aa (.int (m:Aj)),Aa (.int wi),Aa (.tup [.int ax,.int ay]),none,none,none]) (m:=9) p4 om rfl rfl;refine qY (zU (BN c5) rfl ?_);clear c5;have hst:(1:Aj)≤((s0+1:Ai):Aj)∧((s0+1:Ai):Aj)≤9:=by omega
  generalize ((s0+1:Ai):Aj)=st at hst;simp only[Cz,Cp];have hr:=lB (qB 3) m [Aa (.loc p),Aa (.int 40),Aa (.int (w:Aj)),Aa (.int (m:Aj)),Aa (.int wi),Aa (.tup [.int ax,.int ay]),Aa (.int st),none,none] S5 om rfl;obtain⟨ys,env',S6,c6,l6,h6,_,_,p6⟩:=eR (cap:=[none,Aa 0,Aa 4]) (g:=gNm 0) (t:=zJ) (fe:=qG 2 (okO wI) (qA (qB 1) (qA (qB 2) (qC)))) (fun env S'=>∃ a,env=[a,Aa (.loc p),Aa (.int wi)]∧xB S' p) (fun d=>qS d=true) hr ⟨none,rfl,p5⟩ (by rw[Ar,Go];unfold lim;omega)
   (fun d env S' hd ⟨a,q1,q2⟩=>by
    subst q1;obtain⟨x,y,S'',e,hx,hy,p''⟩:=sN S' p wi q2 om;exact⟨[Aa d,Aa (.loc p),Aa (.int wi)],_,S'',rfl,rfl,(wX (a:=.loc p) (b:=.int wi) rfl rfl).trans (gO e),⟨_,rfl,p''⟩,bX om om⟩)
  rw[Ar,Go] at l6;refine qY (zU c6 rfl ?_);clear c6 hr;simp only[Cz,Cp];have I0:IvL p w m (Aa (.int 40)) ax ay st [Aa (.loc p),Aa (.int 40),Aa (.int (w:Aj)),Aa (.int (m:Aj)),Aa (.int wi),Aa (.tup [.int ax,.int ay]),Aa (.int st),Aa (.lst ys),none] S6:=⟨wi,ys,none,rfl,eP h6,by omega,p6⟩
  obtain⟨env1,T1,e1,I1⟩:=L4 hm ha hb I0;refine qY ⟨env1,T1,e1,?_⟩;obtain⟨env2,T2,e2,I2⟩:=L5 hm ha hb hst I1;refine qY ⟨env2,T2,e2,?_⟩;obtain⟨env3,T3,e3,I3⟩:=L6 hm I2;refine qY ⟨env3,T3,e3,?_⟩;obtain⟨wi',zs,e8,rfl,z1,z2,z3⟩:=I3;have ht:(zs.take m).all qS=true:=Az.mpr fun y hy=>Az.mp z1 y (Gy hy);have htl:1≤(zs.take m).length∧(zs.take m).length≤40:=by rw[Dp];omega
  obtain⟨xs,hs,x1,x2,x4⟩:=XV (zs.take m) ht htl;have hc:dSl (qB 7) (qZ) (qV (qB 3)) [Aa (.loc p),Aa (.int 40),Aa (.int (w:Aj)),Aa (.int (m:Aj)),Aa (.int wi'),Aa (.tup [.int ax,.int ay]),Aa (.int st),Aa (.lst zs),e8] T3=.ok (.lst (zs.take m)) T3:=by
   show Res.ok (D.lst (zS zs none (Aa (m:Aj)))) T3=_;rw[pV]
  have hd:wJ (dSl (qB 7) (qZ) (qV (qB 3))) [Aa (.loc p),Aa (.int 40),Aa (.int (w:Aj)),Aa (.int (m:Aj)),Aa (.int wi'),Aa (.tup [.int ax,.int ay]),Aa (.int st),Aa (.lst zs),e8] T3=.ok (.lst xs) T3:=by
   unfold wJ;rw[hc];simp only[Res.bind,mJ,Kr,hs]
  exact xO (x5 ((yL hd).trans rfl) ⟨xs,rfl,x1,x2,x4,z3⟩)
 obtain⟨d,S',e,xs,rfl,x1,x2,x4,x3⟩:=key;rw[fF];exact⟨xs,S',vU rfl e,x1,x2,x4,x3⟩
theorem yE {xs ys:Ab D}(h:xs.length+ys.length≤lim)(S:Sto):qX (.tup xs) (.tup ys) S=.ok (.tup (xs++ys)) S:=Bl h
theorem fX (env:qD)(S:Sto):qC env S=.ok [] S:=rfl
def mC:Ab D:=[.int 1001,.int (-1001),.bl true,.bl false,.non,.str "0",.tup [.int 0],.int 100000000000000000000000000000,.lst [.int 0],.dct0]
def NP (d:D):Prop:=∃ hl hd,(hl&&hd)=false∧xP 3 40 hl hd d
theorem SY:xP 0 0 false false (.int 0):=wK (by decide)
theorem WC:(Aa3 (.int 100000000000000000000000000000)).length≤40:=kd
theorem BK:∀ x∈[D.int 0],xP 0 0 false false x:=fun x hx=>by rw[De.mp hx];exact SY
theorem TV:∀ d∈mC,∃ hl hd,(hl&&hd)=false∧xP 1 3 hl hd d:=by
 intro d hd;simp only[mC,Av,Ce,Ez] at hd;rcases hd with rfl|rfl|rfl|rfl|rfl|rfl|rfl|rfl|rfl|rfl
 ·exact⟨false,false,rfl,(wK (by decide)).mono om om id id⟩
 ·exact⟨false,false,rfl,(wK (by decide)).mono om om id id⟩
 ·exact⟨false,false,rfl,(BE _).mono om om id id⟩
 ·exact⟨false,false,rfl,(BE _).mono om om id id⟩
 ·exact⟨false,false,rfl,aM.mono om om id id⟩
 ·exact⟨false,false,rfl,(aP _ (kd) (by decide)).mono om om id id⟩
 ·exact⟨false,false,rfl,(uS (m:=1) BK (by simp)).mono om om id id⟩
 ·exact⟨false,false,rfl,(V0 WC (kd)).mono om om id id⟩
 ·exact⟨true,false,rfl,(aK (m:=1) BK (by simp)).mono om om id id⟩
 ·exact⟨false,true,rfl,aJ.mono om om id id⟩
theorem TU (env:qD)(S:Sto):zO (qA (dC (.int 1001)) (qA (d1 vR (dC (.int 1001))) (qA (dC (.bl true)) (qA (dC (.bl false)) (qA (dC .non) (qA (dC (.str "0")) (qA (zC (qA (dC (.int 0)) (qC))) (qA (d2 jF (dC (.int 10)) (dC (.int 29))) (qA (zO (qA (dC (.int 0)) (qC))) (qA (bI) (qC))))))))))) env S=.ok (.lst mC) S:=by
 have l1:1≤lim:=by decide
 have l10:10≤lim:=by decide
 refine xY (zK rfl (zK rfl (zK rfl (zK rfl (zK rfl (zK rfl (zK (zZ (wU rfl) l1) (zK (E1 S) (zK (xY (wU rfl) l1) (zK rfl (fX _ _))))))))))) l10
def pt0 (x y:Aj):D:=.tup [.int x,.int y]
def wS (x y:Aj)(o:D):Ai→Ab D
 |0=>[o,.int y]
 |_=>[.int x,o]
theorem FJ (x y:Aj)(o:D)(a:Ai)(ha:a<2)(env:qD)(S:Sto)(h1:env[1]? = Aa (Aa (pt0 x y)))(h3:env[3]? = Aa (Aa (.int (a:Aj))))(h4:env[4]? = Aa (Aa o)) :
  d2 qX (d2 qX (dSl (qB 1) (qZ) (qV (qB 3))) (zC (qA (qB 4) (qC)))) (dSl (qB 1) (qV (d2 qX (qB 3) (dC (.int 1)))) (qZ)) env S=.ok (.tup (wS x y o a)) S:=by
 have l1:1≤lim:=by decide
 have hs:dSl (qB 1) (qZ) (qV (qB 3)) env S=.ok (.tup (zS [.int x,.int y] none (Aa (a:Aj)))) S:=by
  simp only[dSl,w4 h1,w4 h3,Res.bind,qZ,qV];rfl
 have ht:dSl (qB 1) (qV (d2 qX (qB 3) (dC (.int 1)))) (qZ) env S=.ok (.tup (zS [.int x,.int y] (Aa ((a:Aj)+1)) none)) S:=by
  simp only[dSl,w4 h1,Res.bind,qZ,qV,qQ (o:=qX) (w4 (S:=S) h3) (show dC (.int 1) env S=.ok (.int 1) S from rfl),wA]
  rfl
 have ho:=zZ (wU (w4 (S:=S) h4)) l1
 match a,ha with
 |0,_ =>
  rw[qQ ((qQ hs ho).trans (yE (by show 1≤lim;decide) S)) ht,yE (by show 2≤lim;decide)]
  rfl
 |1,_ =>
  rw[qQ ((qQ hs ho).trans (yE (by show 2≤lim;decide) S)) ht,yE (by show 2≤lim;decide)]
  rfl
def lG (x y:Aj)(b:D):Ab D:=[b,b,b,b,.tup [.int x],.tup [.int x,.int y,.int 0],.lst [.int x,.int y],.non,.int 7,.str "0,0",.dct0,.tup [pt0 x y]]
theorem KY (x y:Aj)(b:D)(hx : -1000≤x∧x≤1000)(hy : -1000≤y∧y≤1000)(hb:NP b):∀ d∈lG x y b,NP d:=by
 have nx:xP 0 0 false false (.int x):=wK om;have ny:xP 0 0 false false (.int y):=wK om;intro d hd;simp only[lG,Av,Ce,Ez] at hd;rcases hd with rfl|rfl|rfl|rfl|rfl|rfl|rfl|rfl|rfl|rfl|rfl|rfl
 ·exact hb
 ·exact hb
 ·exact hb
 ·exact hb
 ·refine⟨false,false,rfl,(uS (k:=0) (b:=0) (m:=1) (fun z hz=>?_) (by simp)).mono om om id id⟩
  rw[De.mp hz];exact nx
 ·refine⟨false,false,rfl,(uS (k:=0) (b:=0) (m:=3) (fun z hz=>?_) (by simp)).mono om om id id⟩
  simp only[Av,Ce,Ez] at hz;rcases hz with rfl|rfl|rfl
  ·exact nx
  ·exact ny
  ·exact SY
 ·refine⟨true,false,rfl,(aK (k:=0) (b:=0) (hl:=false) (m:=2) (fun z hz=>?_) (by simp)).mono om om id id⟩
  simp only[Av,Ce,Ez] at hz;rcases hz with rfl|rfl
  ·exact nx
  ·exact ny
 ·exact⟨false,false,rfl,aM.mono om om id id⟩
 ·exact⟨false,false,rfl,(wK (by decide)).mono om om id id⟩
 ·exact⟨false,false,rfl,(aP _ (kd) (by decide)).mono om om id id⟩
 ·exact⟨false,true,rfl,aJ.mono om om id id⟩
 ·refine⟨false,false,rfl,(uS (k:=1) (b:=2) (m:=1) (fun z hz=>?_) (by simp)).mono om om id id⟩
  rw[De.mp hz];exact lL (bX hx hy)
theorem FK (x y:Aj)(o:D)(a:Ai)(hx : -1000≤x∧x≤1000)(hy : -1000≤y∧y≤1000)(ho:o∈mC):NP (.tup (wS x y o a)):=by
 obtain⟨hl,hd,h1,h2⟩:=TV o ho;have nx:xP 1 3 hl hd (.int x):=(wK om).mono om om (fun z=>by cases z) (fun z=>by cases z)
 have ny:xP 1 3 hl hd (.int y):=(wK om).mono om om (fun z=>by cases z) (fun z=>by cases z)
 refine⟨hl,hd,h1,(uS (k:=1) (b:=3) (m:=2) (fun z hz=>?_) ?_).mono om om id id⟩
 ·cases a with
  |zero =>
   simp only[wS,Av,Ce,Ez] at hz;rcases hz with rfl|rfl
   ·exact h2
   ·exact ny
  |succ a =>
   simp only[wS,Av,Ce,Ez] at hz;rcases hz with rfl|rfl
   ·exact nx
   ·exact h2
 ·cases a <;> exact As _
theorem QH:∀ d∈mC,isI d=false:=by
 intro d hd;simp only[mC,Av,Ce,Ez] at hd;rcases hd with rfl|rfl|rfl|rfl|rfl|rfl|rfl|rfl|rfl|rfl <;> rfl
theorem KW (x y:Aj)(o:D)(a:Ai)(ho:o∈mC):∀ d∈lG x y (.tup (wS x y o a)),qS d=false:=by
 have hb:qS (.tup (wS x y o a))=false:=by
  cases a with
  |zero =>
   show (isI o&&isI (.int y))=false;rw[QH o ho];rfl
  |succ a =>
   show (isI (.int x)&&isI o)=false;rw[QH o ho,OT]
 intro d hd;simp only[lG,Av,Ce,Ez] at hd;rcases hd with rfl|rfl|rfl|rfl|rfl|rfl|rfl|rfl|rfl|rfl|rfl|rfl <;> first|exact hb|rfl
theorem lS (S:Sto)(p:Ai)(x y:Aj)(h:xB S p)(hx : -1000≤x∧x≤1000)(hy : -1000≤y∧y≤1000):∃ (d:D) (S':Sto),w5 [.loc p,pt0 x y] S=.ok d S'∧NP d∧qS d=false∧xB S' p:=by
 have key:Rt (yV [Aa (.loc p),Aa (pt0 x y),none,none,none,none,none] S) fun d S'=>NP d∧qS d=false∧xB S' p:=by
  unfold yV;obtain⟨w,S1,c1,hw,p1⟩:=wN (S:=S) (i:=0) (f2:=dC (.int 12)) (env:=[Aa (.loc p),Aa (pt0 x y),none,none,none,none,none]) (m:=12) h om rfl rfl;obtain⟨a,S2,c2,ha,p2⟩:=wN (S:=S1) (i:=0) (f2:=dC (.int 2)) (env:=[Aa (.loc p),Aa (pt0 x y),none,none,none,none,none]) (m:=2) p1 om rfl rfl;refine qY (b0 c1 c2 ?_);clear c1 c2;simp only[Cz,Cp];obtain⟨k,S3,c3,hk,p3⟩:=wN (S:=S2) (i:=0) (f2:=dC (.int 10)) (env:=[Aa (.loc p),Aa (pt0 x y),Aa (.int (w:Aj)),Aa (.int (a:Aj)),none,none,none]) (m:=10) p2 om rfl rfl;obtain⟨o,ho,ho'⟩:=fP mC (k:Aj) ⟨by omega,by show (k:Aj)<10;omega⟩
  refine qY (zU ((qQ (TU _ _) c3).trans (kW ho S3)) rfl ?_);clear c3;simp only[Cz,Cp];refine qY (zU (FJ x y o a om _ S3 rfl rfl rfl) rfl ?_);simp only[Cz,Cp];have l10:10≤lim:=by decide
  have l2:2≤lim:=by decide
  have l1:1≤lim:=by decide
  have h3:d2 qX (qB 1) (zC (qA (dC (.int 0)) (qC))) [Aa (.loc p),Aa (pt0 x y),Aa (.int (w:Aj)),Aa (.int (a:Aj)),Aa o,Aa (.tup (wS x y o a)),none] S3=.ok (.tup [.int x,.int y,.int 0]) S3:=
   (qQ (a:=pt0 x y) (b:=.tup [.int 0]) rfl (zZ (wU rfl) l1)).trans (yE (by show 3≤lim;decide) S3)
  refine qY (zU (xY (zK (a:=.tup (wS x y o a)) rfl (zK (a:=.tup (wS x y o a)) rfl (zK (a:=.tup (wS x y o a)) rfl (zK (a:=.tup (wS x y o a)) rfl (zK (a:=.tup [.int x]) rfl (zK h3 (zK (a:=.lst [.int x,.int y]) rfl (zK (a:=.non) rfl (zK (a:=.int 7) rfl (zK (a:=.str "0,0") rfl (fX _ _))))))))))) l10) rfl ?_);simp only[Cz,Cp];obtain⟨d,hd,hd'⟩:=fP (lG x y (.tup (wS x y o a))) (w:Aj) ⟨by omega,by show (w:Aj)<12;omega⟩
  have hl:zO (qA (bI) (qA (zC (qA (qB 1) (qC))) (qC))) [Aa (.loc p),Aa (pt0 x y),Aa (.int (w:Aj)),Aa (.int (a:Aj)),Aa o,Aa (.tup (wS x y o a)),Aa (.lst [.tup (wS x y o a),.tup (wS x y o a),.tup (wS x y o a),.tup (wS x y o a),.tup [.int x],.tup [.int x,.int y,.int 0],.lst [.int x,.int y],.non,.int 7,.str "0,0"])] S3=.ok (.lst [.dct0,.tup [pt0 x y]]) S3:=xY (zY rfl (zZ (wU rfl) l1)) l2;exact xO (x5 ((qQ ((qQ rfl hl).trans (u7 (by show 12≤lim;decide) S3)) rfl).trans (kW hd S3)) ⟨KY x y _ hx hy (FK x y o a hx hy ho') d hd',KW x y o a ho' d hd',p3⟩)
 obtain⟨d,S',e,n,p'⟩:=key;rw[jY];exact⟨d,S',vU rfl e,n,p'⟩
theorem cH (ys:Ab D)(n:Ai)(h:n≤ys.length):zS ys (Aa (n:Aj)) none=ys.drop n:=by
 unfold zS;have h1:_H.sIx ys.length ys.length none=ys.length:=rfl;have h2:_H.sIx ys.length 0 (Aa (n:Aj))=min n ys.length:=by
  show (if (n:Aj)<0 then ((n:Aj)+(ys.length:Aj)).toNat else min (n:Aj).toNat ys.length)=_
  rw[Bk om,Gh]
 rw[h1,h2,So h];exact Gf (by rw[Ft];exact As _)
theorem cI (ys:Ab D)(h:1≤ys.length):(zS ys (Aa (-1)) none).length≤1:=by
 unfold zS;have h1:_H.sIx ys.length ys.length none=ys.length:=rfl;have h2:_H.sIx ys.length 0 (Aa (-1))=ys.length-1:=by
  show (if (-1:Aj)<0 then ((-1:Aj)+(ys.length:Aj)).toNat else min (-1:Aj).toNat ys.length)=_
  rw[Bl om];omega
 rw[h1,h2,Dp];omega
theorem lW (n:Ai):_H.stepN n (-1)=n:=by
 unfold _H.stepN _H.stepLo _H.stepHi Gi Gj;simp
 split <;> omega
theorem GZ {xs:Ab D}{k:Aj}{x:D}(h:x∈_H.stepL xs k):x∈xs:=by
 unfold _H.stepL at h;obtain⟨m,_,e⟩:=Js.mp h;exact Ch e
theorem P8 {xs:Ab D}{k:Aj}(h:xs.all qS=true):(_H.stepL xs k).all qS=true:=Az.mpr fun x hx=>Az.mp h x (GZ hx)
theorem NO (xs:Ab D)(k:Aj)(f:DE)(env:qD)(i:Ai)(S:Sto)(hi:env[i]? = Aa (Aa (.tup xs)))(hf:f env S=.ok (.int k) S)(h:k≠0∧k≠1∧_H.stepN xs.length k≤lim):mQ (qB i) f env S=.ok (.tup (_H.stepL xs k)) S:=by
 unfold mQ;rw[qQ (w4 hi) hf];exact Bl h
theorem MS (k n:Ai)(hk:1≤k∧k≤8)(hn:n≤41)(env:qD)(S:Sto):qE m5 (qA (qW false [none] (wL (vP (qA (dC (.int (n:Aj))) (qC)))) (gNm 0) (zJ) (zB (zC (qA (d2 vQ (qB 0) (dC (.int (k:Aj)))) (qA (d2 u8 (qB 0) (dC (.int (k:Aj)))) (qC)))))) (qC)) env S=.ok (.tup ((Do n).map fun i:Ai=>D.tup [.int ((i:Aj)/k),.int ((i:Aj) % k)])) S:=by
 have hr:=lB (dC (.int (n:Aj))) n env S om rfl;have l2:2≤lim:=by decide
 have hc:=kU (enc:=iD) (cap:=[none]) (g:=gNm 0) (t:=zJ) (fe:=zC (qA (d2 vQ (qB 0) (dC (.int (k:Aj)))) (qA (d2 u8 (qB 0) (dC (.int (k:Aj)))) (qC)))) hr trivial (fun _=>true) (fun i:Ai=>.tup [.int ((i:Aj)/k),.int ((i:Aj) % k)]) (fun env=>∃ a,env=[a]) ⟨none,rfl⟩ (by rw[Go];unfold lim;omega)
  (fun i _ env ⟨a,q⟩=>by
   subst q;exact⟨[Aa (iD i)],rfl,⟨_,rfl⟩,rfl,fun _=>zZ (zY ((qQ (a:=.int (i:Aj)) (b:=.int (k:Aj)) rfl rfl).trans (pW _ _ _ om)) ((qQ (a:=.int (i:Aj)) (b:=.int (k:Aj)) rfl rfl).trans (jD _ _ _ om))) l2⟩)
 rw[wF] at hc;exact(yL hc).trans rfl
theorem KD (k n:Ai)(hk:1≤k∧k≤8)(hn:n≤41):((Do n).map fun i:Ai=>D.tup [.int ((i:Aj)/k),.int ((i:Aj) % k)]).all qS=true:=by
 rw[Jn,Az];intro i hi;have hi:=Et.mp hi;have h0:(0:Aj)<(k:Aj):=by omega
 have h1:=Jz (i:Aj) (show (k:Aj)≠0 by omega)
 have h2:=Ig (i:Aj) h0;have h3:(0:Aj)≤(i:Aj)/k:=Int.ediv_nonneg om om;have h4:(i:Aj)/k≤i:=Int.ediv_le_self _ om;exact bX om om
def mB (xs:Ab D)(b:D)(a:Ai):Ab D:=[b,b,.lst xs,.tup (_H.stepL xs (-1)),.tup (xs++zS xs (Aa (-1)) none),.tup (xs.take (a+1)++xs.drop a),.tup [],.non,.int 7,.str "0,0",.dct0]
theorem P9 {i:Aj}(h:i.natAbs<10 ^ 12):Th (.int i):=⟨false,false,rfl,(wK h).mono om om id id⟩
theorem AJ {d:D}(h:qS d=true):Th d:=⟨false,false,rfl,(lL h).mono om om id id⟩
theorem NW:Th (.str "0,0"):=⟨false,false,rfl,(aP _ (kd) (by decide)).mono om om id id⟩
theorem EU:Th .dct0:=⟨false,true,rfl,aJ.mono om om id id⟩
theorem EW:Th .non:=⟨false,false,rfl,aM.mono om om id id⟩
theorem EV {xs:Ab D}(h:xs.all qS=true)(hl:xs.length≤41):Th (.lst xs):=⟨true,false,rfl,(aK (k:=1) (b:=2) (hl:=false) (m:=41) (fun z hz=>lL (Az.mp h z hz)) hl).mono om om id id⟩
theorem NP.th {d:D}(h:NP d):Th d:=by
 obtain⟨hl,hd,h1,h2⟩:=h;exact⟨hl,hd,h1,h2.mono om om id id⟩
theorem J2 (xs:Ab D)(h:xs.all qS=true)(hl:xs.length≤40)(o:D)(ho:NP o)(a:Ai):Th (.tup (xs.take a++[o]++xs.drop (a+1))):=by
 obtain⟨hl',hd,h1,h2⟩:=ho;refine⟨hl',hd,h1,(uS (k:=3) (b:=40) (m:=41) (fun z hz=>?_) ?_).mono om om id id⟩
 ·have pt:∀ z∈xs,xP 3 40 hl' hd z:=fun z hz=>(lL (Az.mp h z hz)).mono om om (fun z=>by cases z) (fun z=>by cases z)
  rcases Cn.mp hz with hz|hz
  ·rcases Cn.mp hz with hz|hz
   ·exact pt z (Gy hz)
   ·rw[De.mp hz];exact h2
  ·exact pt z (Ht hz)
 ·simp only[Ca,Dp,Ft,Cd,Ge]
  omega
theorem V4 (xs:Ab D)(h:xs.all qS=true)(hl:1≤xs.length∧xs.length≤40)(b:D)(hb:Th b)(a:Ai)(ha:a<xs.length):∀ d∈mB xs b a,Th d:=by
 intro d hd;simp only[mB,Av,Ce,Ez] at hd;rcases hd with rfl|rfl|rfl|rfl|rfl|rfl|rfl|rfl|rfl|rfl|rfl
 ·exact hb
 ·exact hb
 ·exact EV h om
 ·exact gZ (P8 h) (Ee (_H.stepL_length _ _) (by rw[lW];omega))
 ·refine gZ (pS h (FS xs _ _ h)) ?_
  have:=cI xs hl.1;rw[Ca];omega
 ·refine gZ (pS (Az.mpr fun y hy=>Az.mp h y (Gy hy)) (Az.mpr fun y hy=>Az.mp h y (Ht hy))) ?_
  simp only[Ca,Dp,Ft];omega
 ·exact gZ rfl (by simp)
 ·exact EW
 ·exact P9 (by decide)
 ·exact NW
 ·exact EU
theorem k8 {xs:Ab D}{k:Aj}{d:D}(h:_L.atI xs k=Aa d)(S:Sto):gIx (.tup xs) (.int k) S=.ok d S:=by
 show _D.vS (_L.atI xs k) S=_;rw[h];rfl
theorem eZ {d:D}(h:Th d):Pn d:=by
 obtain⟨x,hx⟩:=h.repr;exact N5 hx
theorem GO (S:Sto)(p:Ai)(xs:Ab D)(h:xB S p)(hx:xs.all qS=true)(hl:1≤xs.length∧xs.length≤40):∃ (d:D) (S':Sto),vW [.loc p,.tup xs] S=.ok d S'∧Th d∧wC d=false∧xB S' p:=by
 have key:Rt (vX [Aa (.loc p),Aa (.tup xs),none,none,none,none,none,none] S) fun d S'=>Th d∧wC d=false∧xB S' p:=by
  unfold vX;obtain⟨w,S1,c1,hw,p1⟩:=wN (S:=S) (i:=0) (f2:=dC (.int 14)) (env:=[Aa (.loc p),Aa (.tup xs),none,none,none,none,none,none]) (m:=14) h om rfl rfl;obtain⟨a,S2,c2,ha,p2⟩:=wN (S:=S1) (i:=0) (f2:=qE zR (qA (qB 1) (qC))) (env:=[Aa (.loc p),Aa (.tup xs),none,none,none,none,none,none]) (m:=(xs.length:Aj)) p1 om rfl ((yL (f1:=qB 1) rfl).trans (gK xs S1));refine qY (b0 c1 c2 ?_);clear c1 c2;simp only[Cz,Cp];have l1:1≤lim:=by decide
  have l3:3≤lim:=by decide
  have l11:11≤lim:=by decide
  have ha':a<xs.length:=by omega
  obtain⟨q,hq,hq'⟩:=fP xs (a:Aj) ⟨by omega,ha⟩
  obtain⟨x,y,rfl,bx,by'⟩:=mF (Az.mp hx q hq');obtain⟨o,S3,c3,ho,_,p3⟩:=lS S2 p x y p2 bx by';have s1:dSl (qB 1) (qZ) (qV (qB 3)) [Aa (.loc p),Aa (.tup xs),Aa (.int (w:Aj)),Aa (.int (a:Aj)),none,none,none,none] S2=.ok (.tup (xs.take a)) S2:=by
   show Res.ok (D.tup (zS xs none (Aa (a:Aj)))) S2=_;rw[pV]
  have s2:dSl (qB 1) (qV (d2 qX (qB 3) (dC (.int 1)))) (qZ) [Aa (.loc p),Aa (.tup xs),Aa (.int (w:Aj)),Aa (.int (a:Aj)),none,none,none,none] S3=.ok (.tup (xs.drop (a+1))) S3:=by
   show Res.ok (D.tup (zS xs (Aa ((a:Aj)+1)) none)) S3=_;rw[show (a:Aj)+1=((a+1:Ai):Aj) by omega,cH xs (a+1) om]
  have s3:zC (qA (qG 2 w5 (qA (qB 0) (qA (d2 gIx (qB 1) (qB 3)) (qC)))) (qC)) [Aa (.loc p),Aa (.tup xs),Aa (.int (w:Aj)),Aa (.int (a:Aj)),none,none,none,none] S2=.ok (.tup [o]) S3:=
   zZ (wU ((wX (a:=.loc p) (b:=pt0 x y) rfl ((qQ (a:=.tup xs) (b:=.int (a:Aj)) rfl rfl).trans (k8 hq S2))).trans c3)) l1
  have b1:(xs.take a).length+[o].length≤lim:=by
   rw[Dp];show _+1≤lim;unfold lim;omega
  have b2:(xs.take a++[o]).length+(xs.drop (a+1)).length≤lim:=by
   simp only[Ca,Dp,Ft,Cd,Ge];unfold lim;omega
  refine qY (zU ((qQ ((qQ s1 s3).trans (yE b1 S3)) s2).trans (yE b2 S3)) rfl ?_);clear s1 s2 s3 c3;have hb:=J2 xs hx hl.2 o ho a;generalize D.tup (xs.take a++[o]++xs.drop (a+1))=b at hb;simp only[Cz,Cp];have i4:mQ (qB 1) (d1 vR (dC (.int 1))) [Aa (.loc p),Aa (.tup xs),Aa (.int (w:Aj)),Aa (.int (a:Aj)),Aa b,none,none,none] S3=.ok (.tup (_H.stepL xs (-1))) S3:=
   NO xs (-1) _ _ 1 S3 rfl rfl ⟨by omega,by omega,by rw[lW];unfold lim;omega⟩
  have i5:d2 qX (qB 1) (dSl (qB 1) (qV (d1 vR (dC (.int 1)))) (qZ)) [Aa (.loc p),Aa (.tup xs),Aa (.int (w:Aj)),Aa (.int (a:Aj)),Aa b,none,none,none] S3=.ok (.tup (xs++zS xs (Aa (-1)) none)) S3:=
   (qQ (a:=.tup xs) (b:=.tup (zS xs (Aa (-1)) none)) rfl rfl).trans (yE (by have:=cI xs hl.1;unfold lim;omega) S3)
  have t1:dSl (qB 1) (qZ) (qV (d2 qX (qB 3) (dC (.int 1)))) [Aa (.loc p),Aa (.tup xs),Aa (.int (w:Aj)),Aa (.int (a:Aj)),Aa b,none,none,none] S3=.ok (.tup (xs.take (a+1))) S3:=by
   show Res.ok (D.tup (zS xs none (Aa ((a:Aj)+1)))) S3=_;rw[show (a:Aj)+1=((a+1:Ai):Aj) by omega,pV]
  have t2:dSl (qB 1) (qV (qB 3)) (qZ) [Aa (.loc p),Aa (.tup xs),Aa (.int (w:Aj)),Aa (.int (a:Aj)),Aa b,none,none,none] S3=.ok (.tup (xs.drop a)) S3:=by
   show Res.ok (D.tup (zS xs (Aa (a:Aj)) none)) S3=_;rw[cH xs a om]
  have i6:=(qQ t1 t2).trans (yE (by simp only[Dp,Ft];unfold lim;omega) S3)
  have z0:∀ env:qD,zC (qC) env S3=.ok (.tup []) S3:=fun env=>zZ (fX _ _) (by show 0≤lim;decide)
  refine qY (zU (d:=.lst (mB xs b a)) (S1:=S3) (xY (zK rfl (zK rfl (zK (a:=.lst xs) rfl (zK i4 (zK i5 (zK i6 (zK (z0 _) (zK rfl (zK rfl (zK rfl (zK rfl (fX _ _)))))))))))) l11) rfl ?_);clear i4 i5 i6 t1 t2;have hno:=V4 xs hx hl b hb a ha';have nl:(mB xs b a).length=11:=rfl;generalize mB xs b a=L at hno nl;simp only[Cz,Cp];refine qY (zU (MS 8 41 om om _ S3) rfl ?_);have gp:=KD 8 41 om om;have gl:((Do 41).map fun i:Ai=>D.tup [.int ((i:Aj)/(8:Ai)),.int ((i:Aj) % (8:Ai))]).length≤41:=by simp
  generalize ((Do 41).map fun i:Ai=>D.tup [.int ((i:Aj)/(8:Ai)),.int ((i:Aj) % (8:Ai))])=G at gp gl;simp only[Cz,Cp];obtain⟨q0,hq0,hq0'⟩:=fP xs 0 ⟨by omega,by omega⟩
  have h3:zO (qA (zC (qA (qB 1) (qC))) (qA (qB 6) (qA (d2 gIx (qB 1) (dC (.int 0))) (qC)))) [Aa (.loc p),Aa (.tup xs),Aa (.int (w:Aj)),Aa (.int (a:Aj)),Aa b,Aa (.lst L),Aa (.tup G),none] S3=.ok (.lst [.tup [.tup xs],.tup G,q0]) S3:=
   xY (zK (zZ (wU rfl) l1) (zY rfl ((qQ (a:=.tup xs) (b:=.int 0) rfl rfl).trans (k8 hq0 S3)))) l3
  have hall:∀ d∈L++[.tup [.tup xs],.tup G,q0],Th d:=by
   intro d hd;rcases Cn.mp hd with hd|hd
   ·exact hno d hd
   ·simp only[Av,Ce,Ez] at hd
    rcases hd with rfl|rfl|rfl
    ·refine⟨false,false,rfl,(uS (k:=2) (b:=123) (m:=1) (fun z hz=>?_) (by simp)).mono om om id id⟩
     rw[De.mp hz];exact VB hx om
    ·exact gZ gp gl
    ·exact AJ (Az.mp hx _ hq0')
  obtain⟨d,hd,hd'⟩:=fP (L++[.tup [.tup xs],.tup G,q0]) (w:Aj) ⟨by omega,by rw[Ca,nl];show (w:Aj)<((11+3:Ai):Aj);omega⟩
  have td:=hall d hd';refine qY (zU ((qQ ((qQ rfl h3).trans (u7 (by rw[nl];show 14≤lim;decide) S3)) rfl).trans (kW hd S3)) rfl ?_)
  clear h3;simp only[Cz,Cp];have hi:=wV ((yC (f1:=qB 7) (env:=[Aa (.loc p),Aa (.tup xs),Aa (.int (w:Aj)),Aa (.int (a:Aj)),Aa b,Aa (.lst L),Aa (.tup G),Aa d]) (S:=S3) rfl).trans (U5 d S3 (eZ td)));cases hb':wC d with
  |true =>
   rw[hb'] at hi;refine xO (x5 (d:=.tup []) (S:=S3) ?_ ⟨gZ rfl (by simp),rfl,p3⟩)
   unfold dIf;rw[hi];exact z0 [Aa (.loc p),Aa (.tup xs),Aa (.int (w:Aj)),Aa (.int (a:Aj)),Aa b,Aa (.lst L),Aa (.tup G),Aa d]
  |false =>
   rw[hb'] at hi;refine xO (x5 (d:=d) (S:=S3) ?_ ⟨td,hb',p3⟩);unfold dIf;rw[hi];rfl
 obtain⟨d,S',e,n,n',p'⟩:=key;rw[gA];exact⟨d,S',vU rfl e,n,n',p'⟩
theorem GQ (v:Ac)(x:Ax)(env:qD)(S:Sto):uX v (qA (dC (.str x)) (qC)) env S=.ex v .non env S:=by
 have l1:1≤lim:=by decide
 unfold uX;rw[wU (show dC (.str x) env S=.ok (.str x) S from rfl)]
 show (if ([D.str x]:Ab D).length≤lim then Out.ex v D.non env S else Out.bad)=_
 exact Bl l1
theorem aQ (F:DF)(v:Ac)(x:Ax)(d:D)(b:Aq)(S:Sto)(h:F [d] S=.ok (.bl b) S):qR 1 (sIf (zX (dTr (qG 1 F (qA (qB 0) (qC))))) (uX v (qA (dC (.str x)) (qC))) (zG)) [d] S=if b then .ok .non S else .ex v .non S:=by
 have ht:=uT (wV ((yC (f1:=qB 0) (env:=[Aa d]) (S:=S) rfl).trans h));show jJ (sIf _ _ _ [Aa d] S)=_;unfold sIf;rw[ht];cases b with
 |true=>rfl
 |false =>
  show jJ (uX v (qA (dC (.str x)) (qC)) [Aa d] S)=_;rw[GQ];rfl
theorem lR (c:Cl)(d:D)(S:Sto)(h:Pn d):kM c [d] S=if wC d then .ok .non S else .ex (.ref c.NoLot) .non S:=by
 rw[fJ];exact aQ _ _ _ _ _ S (GK d S h)
theorem v8 (c:Cl)(d:D)(S:Sto)(h:Pn d):v3 c [d] S=if qS d then .ok .non S else .ex (.ref c.NoPoint) .non S:=by
 rw[pB];exact aQ _ _ _ _ _ S (lQ d S h)
abbrev Pt:=Aj × Aj
def pD (q:Pt):D:=.tup [.int q.1,.int q.2]
def kP (q:Pt):Ab Aj:=[q.1,q.2]
theorem QC:∀ {xs:Ab D},xs.all qS=true→∃ ps:Ab Pt,xs=ps.map pD
 |[],_=>⟨[],rfl⟩
 |d::ds,h=>by
  rw[Nd,Bo] at h;obtain⟨ps,rfl⟩:=QC h.2;obtain⟨x,y,rfl,_⟩:=mF h.1;exact⟨(x,y)::ps,rfl⟩
theorem YU (ps:Ab Pt):ps.map pD=(ps.map kP).map tpD:=by rw[Hn];rfl
theorem OG {ps:Ab Pt}(h:wC (.tup (ps.map pD))=true):(ps.map kP).Pairwise (fun a b=>_H.lexLt a b=true):=by
 have h':(decide (1≤(ps.map pD).length∧(ps.map pD).length≤40)&&(ps.map pD).all qS&&(match yI (ps.map pD) with|some ks=>upB ks|none=>false))=true:=h
 rw[Bo] at h';have h2:=h'.2;rw[YU,vC] at h2;exact(bA _).mp h2
theorem TL (a b c d:Aj):_H.lexLt [a,b] [c,d]=(if a=c then decide (b<d) else decide (a<c)):=by
 rw[_H.lexLt_cons];by_cases h:a=c
 ·rw[Bl h,Bl h,_H.lexLt_cons]
  by_cases h2:b=d
  ·rw[Bl h2,_H.lexLt_nil_nil];symm;rw[Fi];omega
  ·rw[Bk h2]
 ·rw[Bk h,Bk h]
theorem i7:∀ qs:Ab Pt,∃ l,gQ (qs.map pD)=Aa l
 |[]=>⟨[],rfl⟩
 |q::qs=>by
  obtain⟨l,e⟩:=i7 qs;refine⟨.tuple [.int q.1,.int q.2]::l,?_⟩;show (pyD (pD q)).bind (fun x=>(gQ (qs.map pD)).map (x::·))=_
  rw[e];rfl
theorem RZ (qs:Ab Pt):Pn (.tup (qs.map pD)):=by
 obtain⟨l,e⟩:=i7 qs;exact⟨.tuple l,by simp only[pyD,e,Ka]⟩
theorem XN (q:Pt):Pn (pD q):=⟨.tuple [.int q.1,.int q.2],rfl⟩
structure Lt (ps:Ab Pt):Prop where
 pt:(ps.map pD).all qS=true
 ne:1≤ps.length
 le:ps.length≤40
 lot:wC (.tup (ps.map pD))=true
theorem Lt.pn {ps:Ab Pt}(h:Lt ps):Pn (.tup (ps.map pD)):=RZ ps
theorem CL {ps:Ab Pt}(h1:(ps.map pD).all qS=true)(h2:1≤ps.length)(h3:ps.length≤40)(h4:(ps.map kP).Pairwise (fun a b=>_H.lexLt a b=true)):Lt ps:=by
 refine⟨h1,h2,h3,?_⟩;show (decide (1≤(ps.map pD).length∧(ps.map pD).length≤40)&&(ps.map pD).all qS&&(match yI (ps.map pD) with|some ks=>upB ks|none=>false))=true
 rw[h1,Ar,Cu ⟨h2,h3⟩,YU,vC];exact(bA _).mpr h4
theorem Lt.bd {ps:Ab Pt}(h:Lt ps){q:Pt}(hq:q∈ps):(-1000≤q.1∧q.1≤1000)∧(-1000≤q.2∧q.2≤1000):=by
 have:=Az.mp h.pt (pD q) (Jl hq);obtain⟨x,y,e,hx,hy⟩:=mF this;unfold pD at e;injection e with e
 injection e with e1 e2
 injection e2 with e2 _
 cases e1;cases e2;exact⟨hx,hy⟩
theorem mX {q:Pt}(h:(-1000≤q.1∧q.1≤1000)∧(-1000≤q.2∧q.2≤1000)):qS (pD q)=true:=bX h.1 h.2
theorem mR {F:DF}{env:qD}{S:Sto}{i:Ai}{d:D}(h:env[i]? = Aa (Aa d))(hF:F [d] S=.ok .non S):yW (qG 1 F (qA (qB i) (qC))) env S=.nx env S:=by
 unfold yW;rw[(yC (w4 h)).trans hF];rfl
theorem cO {F:DF}{env:qD}{S:Sto}{i:Ai}{d:D}{v:Ac}(h:env[i]? = Aa (Aa d))(hF:F [d] S=.ex v .non S):yW (qG 1 F (qA (qB i) (qC))) env S=.ex v .non env S:=by
 unfold yW;rw[(yC (w4 h)).trans hF];rfl
theorem lT {f g:DS}{env env1:qD}{S S1:Sto}(h:f env S=.nx env1 S1):qN f g env S=g env1 S1:=by
 unfold qN;rw[h]
theorem iO {f g:DS}{env env1:qD}{S S1:Sto}{v:Ac}{x:D}(h:f env S=.ex v x env1 S1):qN f g env S=.ex v x env1 S1:=by
 unfold qN;rw[h]
def far (p q:Pt):Aj:=(p.1-q.1)*(p.1-q.1)+(p.2-q.2)*(p.2-q.2)
def kB (p:Pt):Prop:=-2000≤p.1∧p.1≤2000 ∧ -2000≤p.2∧p.2≤2000
theorem a9 (p:Pt)(S:Sto):gIx (pD p) (.int 0) S=.ok (.int p.1) S:=rfl
theorem aA (p:Pt)(S:Sto):gIx (pD p) (.int 1) S=.ok (.int p.2) S:=rfl
theorem BV (p q:Pt)(S:Sto)(hp:kB p)(hq:kB q):yK [pD p,pD q] S=.ok (.int (far p q)) S:=by
 obtain⟨a1,a2,a3,a4⟩:=hp;obtain⟨b1,b2,b3,b4⟩:=hq;have m1:=jE (p.1-q.1) (p.1-q.1) S ⟨by omega,by omega⟩
 have m2:=jE (p.2-q.2) (p.2-q.2) S ⟨by omega,by omega⟩
 rw[gB];unfold kG;simp[qR,j0,TY,OE,OD,qN,sIf,qT,zG,yW,zI,gNm,gSb,gTp,qO,x0,gU,IR,OO,AR,dC,qB,d1,d2,qA,qC,qE,qG,dTr,zX,wW,zJ,vO,X3,dIf,xS,zC,zO,eS,dBm,dSl,qV,qZ,vT,vP,Res.bind,Res.toS,_D.uW,_D.vS,OH,OF,EZ,OP,OJ,OK,OL,OI,OC,OB,SI,gLt,gLe,gGt,gGe,_D.xG,ON,a9,aA,m1,m2,wA,far]
theorem WN (xs:Ab D)(i:Ai):zS xs (Aa ((i:Aj)+1)) none=xs.drop (i+1):=by
 unfold zS;have e1:_H.sIx xs.length 0 (Aa ((i:Aj)+1))=min (i+1) xs.length:=by
  have:((i:Aj)+1)=((i+1:Ai):Aj):=by omega
  rw[this,_H.sIx_nat]
 rw[e1,_H.sIx_none];by_cases h:i+1≤xs.length
 ·rw[So h,Gf (by simp)]
 ·have:xs.drop (i+1)=[]:=Mp om
  rw[this,Ya om];simp
def eL:Ai→Ab D→Ab D
 |_,[]=>[]
 |k,x::xs=>D.tup [.int (k:Aj),x]::eL (k+1) xs
theorem K0 (xs:Ab D):vY xs=eL 0 xs:=by
 have key:∀ (xs:Ab D) (k:Ai),(xs.mapIdx fun i x=>D.tup [.int ((i+k:Ai):Aj),x])=eL k xs:=by
  intro xs
  induction xs with
  |nil=>intro k;rfl
  |cons x xs ih =>
   intro k;rw[List.mapIdx_cons];show _::_=D.tup [.int (k:Aj),x]::eL (k+1) xs
   congr 1
   ·simp
   ·rw[← ih (k+1)]
    congr 1
    funext i y
    congr 4
    omega
 have:=key xs 0;simpa [vY] using this
def xQ:Ab Pt→Ab (Pt × Pt)
 |[]=>[]
 |p::ps=>ps.map (fun q=>(p,q))++xQ ps
def zP (x:Pt × Pt):Aj:=far x.1 x.2
def fars (l:Ab Pt):Ab Aj:=(xQ l).map zP
def prD (x:Pt × Pt):D:=.tup [pD x.1,pD x.2]
structure GI (n:Ai)(prs:Ab (Pt × Pt))(kvs:Ab (_L.Key × D))(S:Sto):Prop where
 dict:S[n]? = Aa (.dct kvs)
 lists:∀ kv∈kvs,∃ (f:Aj) (j:Ai),kv=(.inl f,.loc j)∧n<j∧S[j]? = Aa (.lst ((prs.filter fun x=>zP x == f).map prD))
 nd:(kvs.map (·.2)).Nodup
 keys:kvs.map (·.1)=((prs.map zP).foldl Bv []).map Iu
set_option tactic.hygienic true in
theorem NR {l:Ab Aj}{k x:Aj}:x∈Bv l k↔x∈l∨x=k:=by
 unfold Bv
 split
 ·rename_i h
  simp at h;constructor
  ·exact fun z=>.inl z
  ·rintro (z|rfl)
   ·exact z
   ·exact h
 ·simp
theorem NQ {l:Ab Aj}{k:Aj}(h:k∈l):Bv l k=l:=by
 unfold Bv;rw[Bl (by simpa using h)]
theorem P7 {l:Ab Aj}{k:Aj}(h:k ∉ l):Bv l k=l++[k]:=by
 unfold Bv;rw[Bk (by simpa using h)]
theorem n6 {ks:Ab Aj}:∀ {l:Ab Aj} {x:Aj},x∈ks.foldl Bv l↔x∈l∨x∈ks:=by
 induction ks with
 |nil=>intro l x;simp
 |cons k ks ih =>
  intro l x;rw[Jv,ih,NR,Av];constructor
  ·rintro ((h|h)|h)
   ·exact .inl h
   ·exact .inr (.inl h)
   ·exact .inr (.inr h)
  ·rintro (h|h|h)
   ·exact .inl (.inl h)
   ·exact .inl (.inr h)
   ·exact .inr h
theorem cV {ks:Ab Aj}:∀ {l:Ab Aj},(ks.foldl Bv l).length≤l.length+ks.length:=by
 induction ks with
 |nil=>intro l;simp
 |cons k ks ih =>
  intro l;rw[Jv];have h1:=ih (l:=Bv l k);have h2:(Bv l k).length≤l.length+1:=by
   unfold Bv
   split <;> simp
  rw[Cd];omega
theorem PH {kvs:Ab (_L.Key × D)}{k:_L.Key}{d:D}(h:yJ kvs k=Aa d):(k,d)∈kvs:=by
 unfold yJ at h;obtain⟨kv,h1,rfl⟩:=Dm.mp h;have h2:=List.find?_some h1;have h3:=List.mem_of_find?_eq_some h1;have h4:kv.1=k:=by simpa using h2
 subst h4;exact h3
theorem PF {kvs:Ab (_L.Key × D)}{k:_L.Key}(h:yJ kvs k=none):∀ kv∈kvs,kv.1≠k:=by
 unfold yJ at h;have h1:=Option.map_eq_none_iff.mp h;intro kv hk e;have:=Vp.mp h1 kv hk;simp[e] at this
theorem F0 {n:Ai}{kvs:Ab (_L.Key × D)}{S:Sto}{i x:D}{k:_L.Key}(hd:S[n]? = Aa (.dct kvs))(hk:uQ i=Aa k):y9 (.loc n) [i,x] S=(match yJ kvs k with|some d=>.ok d S|none=>if kvs.length<lim then .ok x (S.set n (.dct (uA kvs k x))) else .bad):=by
 show (match S[n]? with|some (.dct kvs)=>(match uQ i with|some k=>(match yJ kvs k with|some d=>Res.ok d S|none=>if kvs.length<lim then .ok x (S.set n (.dct (uA kvs k x))) else .bad)|none=>.bad)|_=>.bad)=_
 rw[hd,hk]
theorem NL {n:Ai}{kvs:Ab (_L.Key × D)}{S:Sto}{i x d:D}{k:_L.Key}(hd:S[n]? = Aa (.dct kvs))(hk:uQ i=Aa k)(hv:yJ kvs k=Aa d):y9 (.loc n) [i,x] S=.ok d S:=by
 rw[F0 hd hk,hv]
theorem NK {n:Ai}{kvs:Ab (_L.Key × D)}{S:Sto}{i x:D}{k:_L.Key}(hd:S[n]? = Aa (.dct kvs))(hk:uQ i=Aa k)(hv:yJ kvs k=none)(hl:kvs.length<lim):y9 (.loc n) [i,x] S=.ok x (S.set n (.dct (uA kvs k x))):=by
 rw[F0 hd hk,hv];exact Bl hl
theorem V1 {β γ:Type}{l:Ab β}{f:β→γ}(nd:(l.map f).Nodup){x y:β}(hx:x∈l)(hy:y∈l)(e:f x=f y):x=y:=by
 obtain⟨a,ha,rfl⟩:=Co.mp hx;obtain⟨b,hb,rfl⟩:=Co.mp hy;have:a=b:=(Mt nd (h₀:=by simpa using ha) (h₁:=by simpa using hb)).mp (by simpa using e)
 subst this;rfl
set_option tactic.hygienic true in
theorem oS:∀ (ks l:Ab Aj),l.Nodup→(ks.foldl Bv l).Nodup:=by
 intro ks
 induction ks with
 |nil=>exact fun l h=>h
 |cons k ks ih =>
  intro l h;rw[Jv];apply ih;unfold Bv
  split
  ·exact h
  ·rename_i hn
   rw[Md];refine⟨h,by simp,?_⟩
   intro a ha b hb hab;simp at hb hn;subst hb;subst hab;exact hn ha
theorem T0 {kvs:Ab (_L.Key × D)}{ks:Ab Aj}(h:kvs.map (·.1)=(ks.foldl Bv []).map Iu):(kvs.map (·.1)).Nodup:=by
 rw[h,Yy,Ja];exact(oS ks [] OX).imp fun hne e=>hne (Ss e)
theorem MQ {n:Ai}{prs:Ab (Pt × Pt)}{kvs:Ab (_L.Key × D)}{S:Sto}(I:GI n prs kvs S)(x:Pt × Pt)(hl:prs.length<4000) :
  ∃ (j:Ai) (S1 S2:Sto) (kvs':Ab (_L.Key × D)),y9 (.loc n) [.int (zP x),.loc S.length] (S++[.lst []]) = .ok (.loc j) S1∧tyD (.loc j) S1=Aa "list" ∧ wO (.loc j) [prD x] S1=.ok .non S2∧GI n (prs++[x]) kvs' S2∧∀ m,m<n→S2[m]? = S[m]?:=by
 have hnS:n<S.length:=(Bf.mp I.dict).1;have hd:(S++[MO.lst []])[n]? = Aa (.dct kvs):=by rw[Bj hnS];exact I.dict
 have hkl:kvs.length≤prs.length:=by
  have h1:kvs.length=(kvs.map (·.1)).length:=by simp
  rw[h1,I.keys,Ar];have:=cV (ks:=prs.map zP) (l:=[]);simpa using this
 have hlim:kvs.length<lim:=by unfold lim;omega
 have jlt:∀ {f:Aj} {j:Ai},((Iu f:_L.Key),D.loc j)∈kvs→n<j∧j<S.length∧S[j]? = Aa (.lst ((prs.filter fun x=>zP x == f).map prD)):=by
  intro f j hm;obtain⟨f',j',e,h1,h2⟩:=I.lists _ hm;cases e;exact⟨h1,(Bf.mp h2).1,h2⟩
 cases hv:yJ kvs (.inl (zP x)) with
 |some d =>
  have hm:=PH hv;obtain⟨f,j,e,h1,h2⟩:=I.lists _ hm;have e1:f=zP x:=by
   have:=congrArg Prod.fst e;exact(Ss this).symm
  have e2:d=.loc j:=congrArg Prod.snd e;subst e1;subst e2;have hjS:=(Bf.mp h2).1;have h2':(S++[MO.lst []])[j]? = Aa (.lst ((prs.filter fun y=>zP y == zP x).map prD)):=by rw[Bj hjS];exact h2
  have hll:((prs.filter fun y=>zP y == zP x).map prD).length<lim:=by
   rw[Ar];have:=No (fun y=>zP y == zP x) prs;unfold lim;omega
  refine⟨j,S++[MO.lst []],(S++[MO.lst []]).set j (.lst ((prs.filter fun y=>zP y == zP x).map prD++[prD x])),kvs,?_,?_,?_,⟨?_,?_,I.nd,?_⟩,?_⟩
  ·exact NL hd rfl hv
  ·exact W1 h2'
  ·exact hZ h2' hll _
  ·rw[Cf om];exact hd
  ·intro kv hk
   obtain⟨f',j',rfl,h3,h4⟩:=I.lists kv hk;refine⟨f',j',rfl,h3,?_⟩;have hj':=(Bf.mp h4).1;by_cases hjj:j=j'
   ·subst hjj
    have hff:f'=zP x:=Ss (congrArg Prod.fst (V1 (f:=(·.2)) I.nd hk hm rfl))
    subst hff;rw[Ef (by simp;omega)]
    rw[Ln];simp
   ·rw[Cf hjj,Bj hj',h4]
    have hne:(zP x == f')=false:=by
     rw[Hx];rintro rfl;exact hjj (D.loc.inj (congrArg Prod.snd (V1 (f:=(·.1)) (T0 I.keys) hm hk rfl)))
    rw[Ln];simp[hne]
  ·rw[Hw,Xd]
   show _=(Bv ((prs.map zP).foldl Bv []) (zP x)).map Iu;have hin:zP x∈(prs.map zP).foldl Bv []:=by
    have:(Iu (zP x):_L.Key)∈kvs.map (·.1):=Dk.mpr ⟨_,hm,rfl⟩
    rw[I.keys] at this;obtain⟨y,hy,e⟩:=Dk.mp this;cases e;exact hy
   rw[NQ hin];exact I.keys
  ·intro m hm
   rw[Cf om,Bj om]
 |none =>
  have hno:=PF hv;have hput:uA kvs (.inl (zP x)) (.loc S.length)=kvs++[(.inl (zP x),.loc S.length)]:=by
   unfold uA;rw[Bk];rw[List.any_eq_true];rintro⟨kv,hk,e⟩;exact hno kv hk (by simpa using e)
  have hfn:zP x ∉ prs.map zP:=by
   intro hin;have:(Iu (zP x):_L.Key)∈kvs.map (·.1):=by
    rw[I.keys];exact Dk.mpr ⟨_,n6.mpr (.inr hin),rfl⟩
   obtain⟨kv,hk,e⟩:=Dk.mp this;exact hno kv hk e
  have hS1:((S++[MO.lst []]).set n (.dct (kvs++[(Iu (zP x),.loc S.length)])))[S.length]? = Aa (.lst []):=by
   rw[Cf om];simp
  refine⟨S.length,(S++[MO.lst []]).set n (.dct (kvs++[(.inl (zP x),.loc S.length)])),((S++[MO.lst []]).set n (.dct (kvs++[(.inl (zP x),.loc S.length)]))).set S.length (.lst [prD x]),kvs++[(.inl (zP x),.loc S.length)],?_,?_,?_,⟨?_,?_,?_,?_⟩,?_⟩
  ·rw[← hput]
   exact NK hd rfl hv hlim
  ·exact W1 hS1
  ·have:(0:Ai)<lim:=by decide
   exact hZ hS1 this _
  ·rw[Cf om,Ef (by simp;omega)]
  ·intro kv hk
   rcases Cn.mp hk with hk|hk
   ·obtain⟨f',j',rfl,h3,h4⟩:=I.lists kv hk
    have hj':=(Bf.mp h4).1;refine⟨f',j',rfl,h3,?_⟩;rw[Cf om,Cf om,Bj hj',h4];have hne:(zP x == f')=false:=by
     rw[Hx];intro e;exact hno _ hk (by rw[e])
    rw[Ln];simp[hne]
   ·have:kv=(.inl (zP x),.loc S.length):=by simpa using hk
    subst this;refine⟨zP x,S.length,rfl,hnS,?_⟩;rw[Ef (by simp)]
    have:(prs.filter fun y=>zP y == zP x)=[]:=by
     rw[List.filter_eq_nil_iff];intro y hy e;exact hfn (by rw[← (by simpa using e:zP y=zP x)];exact Dk.mpr ⟨y,hy,rfl⟩)
    rw[Ln,this];simp
  ·rw[Hw,Md]
   refine⟨I.nd,by simp,?_⟩
   intro a ha b hb hab;simp at hb;subst hb;subst hab;obtain⟨kv,hk,e⟩:=Dk.mp ha;obtain⟨f',j',rfl,h3,h4⟩:=I.lists kv hk;have hj':=(Bf.mp h4).1;have:j'=S.length:=D.loc.inj e;omega
  ·rw[Hw,I.keys,Hw,Xd]
   show _=(Bv ((prs.map zP).foldl Bv []) (zP x)).map Iu;have hin:zP x ∉ (prs.map zP).foldl Bv []:=by
    intro h;rcases n6.mp h with h|h
    ·simp at h
    ·exact hfn h
   rw[P7 hin,Hw];rfl
  ·intro m hm
   rw[Cf om,Cf om,Bj om]
theorem UW (l:Ab Pt):(xQ l).length≤l.length*l.length:=by
 induction l with
 |nil=>simp[xQ]
 |cons p l ih =>
  have e:(p::l).length*(p::l).length=l.length*l.length+l.length+l.length+1:=by
   simp only[Cd,Nat.add_mul,Yb];omega
  rw[e];simp only[xQ,Ca,Ar];omega
theorem E2 {S S':Sto}(h:∀ m,m<S.length→S'[m]? = S[m]?):S<+:S':=by
 rw[List.prefix_iff_getElem?];intro i hi;rw[h i hi,Ap hi]
theorem UX {l:Ab Pt}{x:Pt × Pt}(h:x∈xQ l):x.1∈l∧x.2∈l:=by
 induction l with
 |nil=>simp[xQ] at h
 |cons p l ih =>
  simp only[xQ,Cn,Dk] at h;rcases h with⟨q,hq,rfl⟩|h
  ·exact⟨Dg ..,Bx _ hq⟩
  ·exact⟨Bx _ (ih h).1,Bx _ (ih h).2⟩
theorem eU {l:Ab Pt}(h:l.length≤41):(xQ l).length<4000:=by
 have h1:=UW l;have h2:l.length*l.length≤41*41:=Zh h h;omega
inductive IvG1 (l:Ab Pt)(S:Sto)(ds:Ab D)(env:qD)(S':Sto):Prop
 |mk (i:Ai) (e2 e3 e4:Al D) (done:Ab (Pt × Pt)) (kvs:Ab (_L.Key × D)) (h_0:env=[Aa (.tup (l.map pD)),Aa (.loc S.length),e2,e3,e4]) (h_1:ds=eL i ((l.drop i).map pD)) (h_2:GI S.length done kvs S') (h_3:done++xQ (l.drop i)=xQ l) (h_4:∀ m,m<S.length→S'[m]? = S[m]?):IvG1 l S ds env S'
inductive IvG2 (l:Ab Pt)(S:Sto)(i:Ai)(p:Pt)(rest:Ab Pt)(ds:Ab D)(env:qD)(S':Sto):Prop
 |mk (r:Ab Pt) (e4:Al D) (done:Ab (Pt × Pt)) (kvs:Ab (_L.Key × D)) (h_0:env=[Aa (.tup (l.map pD)),Aa (.loc S.length),Aa (.int (i:Aj)),Aa (pD p),e4]) (h_1:ds=r.map pD) (h_2:(∀ q∈r,q∈l)) (h_3:GI S.length done kvs S') (h_4:done++(r.map (fun q=>(p,q))++xQ rest)=xQ l) (h_5:∀ m,m<S.length→S'[m]? = S[m]?):IvG2 l S i p rest ds env S'
theorem NF (l:Ab Pt)(S:Sto)(hok:∀ p∈l,kB p)(hl:l.length≤41):∃ (kvs:Ab (_L.Key × D)) (S':Sto),y8 [.tup (l.map pD)] S=.ok (.loc S.length) S'∧GI S.length (xQ l) kvs S'∧∀ m,m<S.length→S'[m]? = S[m]?:=by
 have key:Rt (vG [Aa (.tup (l.map pD)),none,none,none,none] S) fun d S'=>d=.loc S.length∧∃ kvs,GI S.length (xQ l) kvs S'∧∀ m,m<S.length→S'[m]? = S[m]?:=by
  unfold vG;refine qY (gM (x5 rfl ?_));refine qY (gN (ds:=vY (l.map pD)) (S1:=S++[.dct []]) rfl ?_);refine jH (IvG1 l S) ?_ ?_ ?_
  ·rintro d ds env S' ⟨i,e2,e3,e4,done,kvs,rfl,hds,G,hall,hpre⟩
   cases hdr:l.drop i with
   |nil=>rw[hdr] at hds;cases hds
   |cons p rest =>
    rw[hdr] at hds hall;simp only[Ek,eL] at hds;injection hds with h1 h2
    subst h1 h2;have hrest:l.drop (i+1)=rest:=by
     have:=congrArg List.tail hdr;simpa [List.tail_drop] using this
    have hmem:∀ q∈p::rest,q∈l:=fun q hq=>Ht (hdr▸hq);refine⟨[Aa (.tup (l.map pD)),Aa (.loc S.length),Aa (.int (i:Aj)),Aa (pD p),e4],S',rfl,?_⟩;have hsl:vT (dSl (qB 0) (qV (d2 qX (qB 2) (dC (.int 1)))) (qZ)) [Aa (.tup (l.map pD)),Aa (.loc S.length),Aa (.int (i:Aj)),Aa (pD p),e4] S'=.ok (rest.map pD) S':=by
     have e1:gSl (.tup (l.map pD)) (Aa ((i:Aj)+1)) none S'=.ok (.tup (rest.map pD)) S':=by
      show Res.ok (D.tup (zS (l.map pD) (Aa ((i:Aj)+1)) none)) S'=_;rw[WN,← Np,hrest]
     simp[qR,j0,TY,OE,OD,qN,sIf,qT,zG,yW,zI,gNm,gSb,gTp,qO,x0,gU,IR,OO,AR,dC,qB,d1,d2,qA,qC,qE,qG,dTr,zX,wW,zJ,vO,X3,dIf,xS,zC,zO,eS,dBm,dSl,qV,qZ,vT,vP,Res.bind,Res.toS,_D.uW,_D.vS,OH,OF,EZ,OP,OJ,OK,OL,OI,OC,OB,SI,gLt,gLe,gGt,gGe,_D.xG,ON,wA,e1]
    refine gN hsl ?_;refine jH (IvG2 l S i p rest) ?_ ?_ ?_
    ·rintro d ds env S' ⟨r,e4,done,kvs,rfl,hds,hr,G,hall,hpre⟩
     cases r with
     |nil=>cases hds
     |cons q r =>
      injection hds with h1 h2
      subst h1 h2;have hdl:done.length<4000:=by
       have:=congrArg Mv hall;have h3:=eU hl;simp only[Ca] at this;omega
      obtain⟨j,S1,S2,kvs',f1,f2,f3,G',hp'⟩:=MQ G (p,q) hdl;refine⟨[Aa (.tup (l.map pD)),Aa (.loc S.length),Aa (.int (i:Aj)),Aa (pD p),Aa (pD q)],S',rfl,?_⟩;refine sG ?_;have hfar:=BV p q S' (hok p (hmem p (Dg ..))) (hok q (hr q (Dg ..)));have hty:tyD (.loc S.length) S'=Aa "dict":=UH G.dict;have l2:2≤lim:=by decide
      have l0:0≤lim:=by decide
      have f1':y9 (.loc S.length) [.int (far p q),.loc S'.length] (S'++[MO.lst []]) = .ok (.loc j) S1:=f1;have f3':wO (.loc j) [.tup [pD p,pD q]] S1=.ok .non S2:=f3;refine x5 (d:=.non) (S:=S2) ?_ ?_
      ·simp[qR,j0,TY,OE,OD,qN,sIf,qT,zG,yW,zI,gNm,gSb,gTp,qO,x0,gU,IR,OO,AR,dC,qB,d1,d2,qA,qC,qE,qG,dTr,zX,wW,zJ,vO,X3,dIf,xS,zC,zO,eS,dBm,dSl,qV,qZ,vT,vP,Res.bind,Res.toS,_D.uW,_D.vS,OH,OF,EZ,OP,OJ,OK,OL,OI,OC,OB,SI,gLt,gLe,gGt,gGe,_D.xG,ON,hfar,hty,l2,l0,f1',f2,f3']
      ·refine⟨r,_,done++[(p,q)],kvs',rfl,rfl,fun q' hq=>hr q' (Bx _ hq),G',?_,fun m hm=>(hp' m hm).trans (hpre m hm)⟩
       rw[← hall];simp
    ·rintro env S' ⟨r,e4,done,kvs,rfl,hds,hr,G,hall,hpre⟩
     cases r with
     |cons _ _=>cases hds
     |nil =>
      refine⟨i+1,_,_,_,done,kvs,rfl,?_,G,?_,hpre⟩
      ·rw[hrest]
      ·rw[hrest];simpa using hall
    ·exact⟨rest,e4,done,kvs,rfl,rfl,fun q hq=>hmem q (Bx _ hq),G,by simpa [xQ] using hall,hpre⟩
  ·rintro env S' ⟨i,e2,e3,e4,done,kvs,rfl,hds,G,hall,hpre⟩
   refine xO (x5 rfl ⟨rfl,kvs,?_,hpre⟩);cases hdr:l.drop i with
   |cons _ _=>rw[hdr] at hds;cases hds
   |nil =>
    rw[hdr] at hall;have:done=xQ l:=by simpa [xQ] using hall
    rw[← this];exact G
  ·refine⟨0,none,none,none,[],[],rfl,?_,⟨?_,?_,OX,rfl⟩,rfl,?_⟩
   ·rw[K0];rfl
   ·simp
   ·intro kv hk;simp at hk
   ·intro m hm;rw[Bj hm]
 obtain⟨d,S',e,rfl,kvs,G,hp⟩:=key;exact⟨kvs,S',by rw[kJ];exact vU rfl e,G,hp⟩
def kys (fs:Ab Aj):Ab Aj:=fs.foldl Bv []
def tbK (fs:Ab Aj):Ab (Ab Aj):=(kys fs).map fun f=>[f,(fs.count f:Aj)]
def tbl (fs:Ab Aj):Ab (Ab Aj):=_S.gX _H.lexLt (tbK fs)
theorem dX {fs:Ab Aj}{x:Aj}:x∈kys fs↔x∈fs:=by
 unfold kys;rw[n6];simp
theorem ST (fs:Ab Aj):(kys fs).Nodup:=oS fs [] OX
theorem o7 {α : Type}[Xf α]{a b:Ab α}(ha:a.Nodup)(hb:b.Nodup)(h:∀ x,x∈a↔x∈b):a.Perm b:=by
 rw[List.perm_iff_count];intro x;rw[ha.count,hb.count];simp only[h]
theorem K8 (prs:Ab (Pt × Pt))(f:Aj):(prs.filter fun x=>zP x == f).length=(prs.map zP).count f:=by
 rw[List.count,Oa,List.countP_eq_length_filter];rfl
theorem TF {S:Sto}{j:Ai}{xs:Ab D}(h:S[j]? = Aa (.lst xs)):zR [.loc j] S=.ok (.int xs.length) S:=by
 show (match (match S[j]? with|some (.lst xs)=>Aa xs.length|_=>none:Al Ai) with|some n=>Res.ok (D.int n) S|none=>.bad)=_
 rw[h]
def ctD (fs:Ab Aj)(k:_L.Key):D:=match k with
 |.inl f=>.tup [.int f,.int (fs.count f:Aj)]
 |.inr _=>.non
theorem NN (ks:Ab (Ab Aj))(hl:ks.length≤100000)(he:∀ k∈ks,k≠[]):fD (ks.map tpD)=Aa ((_S.gX _H.lexLt ks).map tpD):=by
 unfold fD;cases ks with
 |nil =>
  have e1:_S.gX _S.ltI [] = []:=Ph;have e2:_S.gX _H.lexLt [] = []:=Ph;show (if ([] : Ab Aj).length≤100000 then Aa ((_S.gX _S.ltI []).map D.int) else none)=_
  rw[e1,e2,Bl (by simp)]
  rfl
 |cons k r =>
  have h0:wY ((k::r).map tpD)=none:=rfl;rw[h0,vC];have h2:((k::r).all fun k=>!k.isEmpty)=true:=Az.mpr fun q hq=>by
   have:=he q hq;cases q with
   |nil=>exact absurd rfl this
   |cons _ _=>rfl
  have h3:(decide ((k::r).length≤100000)&&(k::r).all fun k=>!k.isEmpty)=true:=by rw[h2,Cu hl];rfl
  show (if (decide ((k::r).length≤100000)&&(k::r).all fun k=>!k.isEmpty)=true then _ else _)=_
  rw[Bl h3]
theorem PR {ps:Ab Pt}(h:Lt ps):∀ p∈ps,kB p:=fun p hp=>by
 have:=h.bd hp;unfold kB;omega
theorem dW (l:Ab Pt)(h:l.length≤41):(kys (fars l)).length≤4000:=by
 have h1:=cV (ks:=fars l) (l:=[]);have h2:=eU h;have h3:(fars l).length=(xQ l).length:=by unfold fars;rw[Ar]
 unfold kys;simp only[Ge] at h1;omega
theorem Z4 (c:Cl)(ps:Ab Pt)(h:Lt ps)(S:Sto):∃ S',xV c [.tup (ps.map pD)] S=.ok (.loc S'.length) (S'++[.lst ((tbl (fars ps)).map tpD)])∧S<+:S':=by
 have h41:ps.length≤41:=by have:=h.le;omega
 obtain⟨kvs,S1,e1,G,hp⟩:=NF ps S (PR h) h41;have hpre:S<+:S1.set S.length .dead:=E2 fun m hm=>by rw[Cf om];exact hp m hm
 have hi:wL (nR (qG 1 y8 (qA (qB 0) (qC)))) [Aa (.tup (ps.map pD))] S=.ok (none,kvs.map fun p=>D.tup [kD p.1,p.2]) (S1.set S.length .dead):=by
  unfold wL nR;rw[(yC (f1:=qB 0) (env:=[Aa (.tup (ps.map pD))]) (S:=S) rfl).trans e1];simp only[Res.bind,G.dict];rfl
 have ek:kvs.map (·.1)=(kys (fars ps)).map Iu:=G.keys
 have hkl:kvs.length≤4000:=by
  have h1:kvs.length=(kvs.map (·.1)).length:=by simp
  rw[h1,ek,Ar];exact dW ps h41
 obtain⟨env',e2⟩:=X9 (S:=S1.set S.length .dead) (o:=none) (xs:=kvs) (enc:=fun p=>D.tup [kD p.1,p.2]) (g:=gTp 2 (qO (gNm 0) (qO (gNm 1) (x0)))) (t:=zJ) (fe:=zC (qA (qB 0) (qA (qE zR (qA (qB 1) (qC))) (qC)))) (env:=xU [none,none] [Aa (.tup (ps.map pD))]) trivial (fun _=>true) (fun p=>ctD (fars ps) p.1) (fun env=>∃ a b,env=[a,b]) ⟨none,none,rfl⟩ (by unfold lim;omega)
  (fun p hp env ⟨a,b,e⟩=>by
   subst e;obtain⟨f,j,rfl,h1,h2⟩:=G.lists p hp;have h4:(S1.set S.length MO.dead)[j]? = Aa (.lst (((xQ ps).filter fun x=>zP x == f).map prD)):=by rw[Cf om];exact h2
   refine⟨[Aa (.int f),Aa (.loc j)],rfl,⟨_,_,rfl⟩,rfl,fun _=>?_⟩;have h5:=TF h4;rw[Ar,K8] at h5;exact zZ (zY (a:=.int f) rfl ((yL (a:=.loc j) rfl).trans h5)) (by show 2≤lim;decide))
 have hc:=jZ hi e2;rw[wF] at hc;have ev:(kvs.map fun p=>ctD (fars ps) p.1)=(tbK (fars ps)).map tpD:=by
  have:(kvs.map fun p=>ctD (fars ps) p.1)=(kvs.map (·.1)).map (ctD (fars ps)):=by rw[Hn];rfl
  rw[this,ek];unfold tbK;rw[Hn,Hn];rfl
 rw[ev] at hc;refine⟨_,?_,hpre⟩;have hs:bL [.lst ((tbK (fars ps)).map tpD)] (S1.set S.length .dead)=.ok (.loc (S1.set S.length .dead).length) (S1.set S.length .dead++[.lst ((tbl (fars ps)).map tpD)]):=by
  have e:=NN (tbK (fars ps)) (by unfold tbK;rw[Ar];have:=dW ps h41;omega) (fun k hk=>by
   obtain⟨f,_,rfl⟩:=Dk.mp hk;intro z;cases z)
  show (match (Aa ((tbK (fars ps)).map tpD)).bind fD with|some ys=>Res.ok (D.loc (S1.set S.length .dead).length) (S1.set S.length .dead++[MO.lst ys])|none=>.bad)=_
  rw[Kr,e];rfl
 rw[j9];show jJ (yQ c [Aa (.tup (ps.map pD))] S)=_;unfold yQ;have n1:=lR c _ S h.pn;rw[h.lot,Bl rfl] at n1;rw[lT (mR (i:=0) rfl n1)];unfold qT;rw[(yL hc).trans hs];rfl
theorem ET {fs:Ab Aj}{k:Ab Aj}:k∈tbl fs↔∃ f∈fs,k=[f,(fs.count f:Aj)]:=by
 unfold tbl;rw[(_S.pH _).mem_iff];unfold tbK;rw[Dk];exact⟨fun ⟨f,h,e⟩=>⟨f,dX.mp h,e.symm⟩,fun ⟨f,h,e⟩=>⟨f,dX.mpr h,e.symm⟩⟩
theorem UD {ps:Ab Pt}(h:Lt ps):(tbl (fars ps)).length≤4000:=by
 unfold tbl;rw[(_S.pH _).length_eq];unfold tbK;rw[Ar];exact dW ps (by have:=h.le;omega)
def fs0 (fs:Ab Aj):Ab Aj:=(tbl fs).map fun k=>k.getD 0 0
theorem SJ {xs:Ab D}{env:qD}{i:Ai}{S:Sto}(h:env[i]? = Aa (Aa (.lst xs))):dIt (qB i) env S=.ok (none,xs) S:=by
 unfold dIt;rw[w4 h];rfl
theorem B5 {o:Al (Ai × MO)}{env:qD}{S:Sto}(fs:Ab Aj)(ho:stn o S)(hl:(tbl fs).length≤4000):∃ env',goL o (gTp 2 (qO (gNm 0) (qO (gNm 1) (x0)))) zJ (zB (qB 0)) ((tbl fs).map tpD) (xU [none,none] env) S [] = .ok (env',(fs0 fs).map D.int) S:=by
 obtain⟨env',e⟩:=X9 (S:=S) (o:=o) (xs:=tbl fs) (enc:=tpD) (g:=gTp 2 (qO (gNm 0) (qO (gNm 1) (x0)))) (t:=zJ) (fe:=qB 0) (env:=xU [none,none] env) ho (fun _=>true) (fun k=>.int (k.getD 0 0)) (fun env=>∃ a b,env=[a,b]) ⟨_,_,rfl⟩ (by unfold lim;omega)
  (fun k hk env ⟨a,b,e⟩=>by
   subst e;obtain⟨f,_,rfl⟩:=ET.mp hk;exact⟨[Aa (.int f),Aa (.int (fs.count f:Aj))],rfl,⟨_,_,rfl⟩,rfl,fun _=>rfl⟩)
 rw[wF] at e;refine⟨env',e.trans ?_⟩;unfold fs0;rw[Hn];rfl
theorem oJ {env:qD}{S:Sto}{i:Ai}(fs:Ab Aj)(hi:env[i]? = Aa (Aa (.lst ((tbl fs).map tpD))))(hl:(tbl fs).length≤4000) :
  qW false [none,none] (dIt (qB i)) (gTp 2 (qO (gNm 0) (qO (gNm 1) (x0)))) zJ (zB (qB 0)) env S=.ok (.lst ((fs0 fs).map D.int)) S:=by
 obtain⟨env',e⟩:=B5 (o:=none) (env:=env) (S:=S) fs trivial hl;exact jZ (SJ hi) e
theorem EH (c:Cl)(ps:Ab Pt)(h:Lt ps)(S:Sto):∃ S',gC c [.tup (ps.map pD)] S=.ok (.loc S'.length) (S'++[.lst ((fs0 (fars ps)).map D.int)])∧S<+:S':=by
 obtain⟨S',e,p⟩:=Z4 c ps h S;refine⟨S'++[.lst ((tbl (fars ps)).map tpD)],?_,p.trans (Gt _ _)⟩;have hg:(S'++[.lst ((tbl (fars ps)).map tpD)])[S'.length]? = Aa (.lst ((tbl (fars ps)).map tpD)):=by simp
 have hi:dIt (qG 1 (xV c) (qA (qB 0) (qC))) [Aa (.tup (ps.map pD))] S=.ok (Aa (S'.length,.lst ((tbl (fars ps)).map tpD)),(tbl (fars ps)).map tpD) (S'++[.lst ((tbl (fars ps)).map tpD)]):=by
  unfold dIt;rw[(yC (f1:=qB 0) (env:=[Aa (.tup (ps.map pD))]) (S:=S) rfl).trans e];show (match (S'++[MO.lst ((tbl (fars ps)).map tpD)])[S'.length]? with|some (.lst xs)=>Res.ok (Aa (S'.length,MO.lst xs),xs) (S'++[MO.lst ((tbl (fars ps)).map tpD)])|_=>.bad)=_
  rw[hg]
 obtain⟨env',e2⟩:=B5 (env:=[Aa (.tup (ps.map pD))]) (o:=Aa (S'.length,.lst ((tbl (fars ps)).map tpD))) (fars ps) hg (UD h);rw[fO];show jJ (pU c [Aa (.tup (ps.map pD))] S)=_;unfold pU qT;rw[WR hi e2];rfl
def Bd (p:Pt):Prop:=(-1000≤p.1∧p.1≤1000)∧(-1000≤p.2∧p.2≤1000)
theorem GJ (c:Cl)(p q:Pt)(hp:Bd p)(hq:Bd q)(S:Sto):yZ c [pD p,pD q] S=.ok (.int (far p q)) S:=by
 have n1:=v8 c (pD p) S (XN p);have n2:=v8 c (pD q) S (XN q);rw[mX hp,Bl rfl] at n1;rw[mX hq,Bl rfl] at n2;rw[jN];show jJ (v4 c [Aa (pD p),Aa (pD q)] S)=_;unfold v4;rw[lT (mR (i:=0) rfl n1),lT (mR (i:=1) rfl n2)];unfold qT;rw[(wX (a:=pD p) (b:=pD q) rfl rfl).trans (BV p q S (by unfold Bd at hp;unfold kB;omega) (by unfold Bd at hq;unfold kB;omega))]
 rfl
theorem Y5 (p:Pt)(l:Ab Pt):fars (p::l)=l.map (far p)++fars l:=by
 unfold fars;rw[xQ,Hw,Hn];rfl
theorem cU:∀ l:Ab Pt,2*(fars l).length=l.length*(l.length-1)
 |[]=>rfl
 |p::l=>by
  rw[Y5,Ca,Ar,Cd,Yb,cU l];cases l.length with
  |zero=>rfl
  |succ n =>
   show 2*(n+1)+(n+1)*n=(n+1+1)*(n+1);rw[Nat.add_mul (n+1) 1 (n+1),Nat.one_mul,Yb (n+1) n 1,Nat.mul_one];omega
theorem B3 (i:Aj)(h:i.natAbs<2 ^ 64)(S:Sto):jF (.int i) (.int 2) S=.ok (.int (i*i)) S:=by
 unfold jF;rw[SI,Bl (by unfold LP;exact Cu ⟨by omega,by omega,h⟩)]
 show Res.ok (D.int (i ^ (0+1+1))) S=_;rw[Int.pow_succ,Int.pow_succ,Int.pow_zero,Int.one_mul]
theorem U4 (p q:Pt)(S:Sto)(hp:kB p)(hq:kB q):vD [pD p,pD q] S=.ok (.int (far p q)) S:=by
 obtain⟨a1,a2,a3,a4⟩:=hp;obtain⟨b1,b2,b3,b4⟩:=hq;rw[fE];have sub:∀ (i j:Aj),xG (.int i) (.int j) S=.ok (.int (i-j)) S:=fun _ _=>rfl;have k1:d2 jF (d2 xG (d2 gIx (qB 0) (dC (.int 0))) (d2 gIx (qB 1) (dC (.int 0)))) (dC (.int 2)) [Aa (pD p),Aa (pD q)] S=.ok (.int ((p.1-q.1)*(p.1-q.1))) S:=
  (qQ ((qQ ((qQ (a:=pD p) (b:=.int 0) rfl rfl).trans (a9 p S)) ((qQ (a:=pD q) (b:=.int 0) rfl rfl).trans (a9 q S))).trans (sub _ _)) rfl).trans (B3 _ om S)
 have k2:d2 jF (d2 xG (d2 gIx (qB 0) (dC (.int 1))) (d2 gIx (qB 1) (dC (.int 1)))) (dC (.int 2)) [Aa (pD p),Aa (pD q)] S=.ok (.int ((p.2-q.2)*(p.2-q.2))) S:=
  (qQ ((qQ ((qQ (a:=pD p) (b:=.int 1) rfl rfl).trans (aA p S)) ((qQ (a:=pD q) (b:=.int 1) rfl rfl).trans (aA q S))).trans (sub _ _)) rfl).trans (B3 _ om S)
 exact tF (env:=[Aa (pD p),Aa (pD q)]) rfl ((qQ k1 k2).trans (wA _ _ S))
inductive IvP (l:Ab Pt)(S0:Sto)(ds:Ab D)(env:qD)(S:Sto):Prop
 |mk (i m:Ai) (e2:Al D) (done:Ab (Pt × Pt)) (h_0:env=[Aa (.tup (l.map pD)),Aa (.lst (done.map prD)),e2]) (h_1:ds=(List.range' i m).map iD) (h_2:i+m=l.length) (h_3:done++xQ (l.drop i)=xQ l) (h_4:S=S0):IvP l S0 ds env S
theorem GM (l:Ab Pt)(S:Sto)(hl:l.length≤41):yY [.tup (l.map pD)] S=.ok (.lst ((xQ l).map prD)) S:=by
 have hA:=eU hl;have key:Rt (uN [Aa (.tup (l.map pD)),none,none] S) fun d S'=>d=.lst ((xQ l).map prD)∧S'=S:=by
  unfold uN;refine qY (zU (d:=.lst []) (S1:=S) rfl rfl ?_);have hr:vP (qA (qE zR (qA (qB 0) (qC))) (qC)) [Aa (.tup (l.map pD)),Aa (.lst []),none] S=.ok ((List.range' 0 l.length).map iD) S:=by
   have e1:qE zR (qA (qB 0) (qC)) [Aa (.tup (l.map pD)),Aa (.lst []),none] S=.ok (.int (l.length:Aj)) S:=by
    rw[yL (a:=.tup (l.map pD)) rfl,gK,Ar]
   unfold vP;rw[wU e1,Res.bind_ok,Z7 l.length om,rW,List.range_eq_range']
  refine qY (gN hr ?_);refine jH (IvP l S) ?_ ?_ ⟨0,l.length,none,[],rfl,rfl,by omega,rfl,rfl⟩
  ·rintro d ds env S' ⟨i,m,e2,done,rfl,hds,hm,hall,rfl⟩
   cases m with
   |zero=>cases hds
   |succ m =>
    rw[List.range'_succ,Ek] at hds;injection hds with h1 h2
    subst h1 h2;have hi:i<l.length:=by omega
    have hdr:l.drop i=l[i]::l.drop (i+1):=Gm hi;rw[hdr] at hall;refine⟨[Aa (.tup (l.map pD)),Aa (.lst (done.map prD)),Aa (iD i)],S',rfl,?_⟩;have hsl:dIt (dSl (qB 0) (qV (d2 qX (qB 2) (dC (.int 1)))) (qZ)) [Aa (.tup (l.map pD)),Aa (.lst (done.map prD)),Aa (iD i)] S'=.ok (none,(l.drop (i+1)).map pD) S':=by
     have e1:gSl (.tup (l.map pD)) (Aa ((i:Aj)+1)) none S'=.ok (.tup ((l.drop (i+1)).map pD)) S':=by
      show Res.ok (D.tup (zS (l.map pD) (Aa ((i:Aj)+1)) none)) S'=_;rw[WN,← Np]
     unfold iD;have e2:dSl (qB 0) (qV (d2 qX (qB 2) (dC (.int 1)))) (qZ) [Aa (.tup (l.map pD)),Aa (.lst (done.map prD)),Aa (.int (i:Aj))] S'=.ok (.tup ((l.drop (i+1)).map pD)) S':=by
      simp[qR,j0,TY,OE,OD,qN,sIf,qT,zG,yW,zI,gNm,gSb,gTp,qO,x0,gU,IR,OO,AR,dC,qB,d1,d2,qA,qC,qE,qG,dTr,zX,wW,zJ,vO,X3,dIf,xS,zC,zO,eS,dBm,dSl,qV,qZ,vT,vP,Res.bind,Res.toS,_D.uW,_D.vS,OH,OF,EZ,OP,OJ,OK,OL,OI,OC,OB,SI,gLt,gLe,gGt,gGe,_D.xG,ON,wA,e1]
     unfold dIt;rw[e2];rfl
    have hat:_L.atI (l.map pD) (i:Aj)=Aa (pD l[i]):=_L.d7 (by rw[Dv,Ap hi];rfl)
    have hc:=kU (enc:=pD) (cap:=[none,Aa 2,Aa 0]) (g:=gNm 0) (t:=zJ) (fe:=zC (qA (d2 gIx (qB 2) (qB 1)) (qA (qB 0) (qC)))) hsl trivial (fun _=>true) (fun q=>prD (l[i],q)) (fun env=>∃ a,env=[a,Aa (iD i),Aa (.tup (l.map pD))]) ⟨none,rfl⟩ (by rw[Ft];unfold lim;omega)
     (fun q hq env ⟨a,z⟩=>by
      subst z;exact⟨[Aa (pD q),Aa (iD i),Aa (.tup (l.map pD))],rfl,⟨_,rfl⟩,rfl,fun _=>zZ (zY ((qQ (a:=.tup (l.map pD)) (b:=.int (i:Aj)) rfl rfl).trans (k8 hat S')) rfl) (by show 2≤lim;decide)⟩)
    rw[wF] at hc;have hlen:done.length+(l.drop (i+1)).length≤lim:=by
     have:=congrArg Mv hall;simp only[xQ,Ca,Ar] at this;unfold lim;omega
    refine zU ((qQ (a:=.lst (done.map prD)) rfl hc).trans (u7 (by rw[Ar,Ar];exact hlen) S')) rfl ?_
    refine⟨i+1,m,Aa (iD i),done++(l.drop (i+1)).map fun q=>(l[i],q),?_,rfl,by omega,?_,rfl⟩
    ·rw[Hw,Hn]
     rfl
    ·rw[Cj]
     exact hall
  ·rintro env S' ⟨i,m,e2,done,rfl,hds,hm,hall,rfl⟩
   have hm0:m=0:=by
    have:=congrArg Mv hds;simpa using this.symm
   rw[Kc om,xQ,Gd] at hall;subst hall;exact xO (x5 (S:=S') rfl ⟨rfl,rfl⟩)
 obtain⟨d,S',e,rfl,rfl⟩:=key;rw[p8];exact vU rfl e
theorem NE (l:Ab Pt)(S:Sto)(hok:∀ p∈l,kB p)(hl:l.length≤41):jM [.tup (l.map pD)] S=.ok (.lst ((fars l).map D.int)) S:=by
 have hi:dIt (qG 1 yY (qA (qB 0) (qC))) [Aa (.tup (l.map pD))] S=.ok (none,(xQ l).map prD) S:=by
  unfold dIt;rw[(yC (a:=.tup (l.map pD)) rfl).trans (GM l S hl)];rfl
 have hc:=kU (enc:=prD) (cap:=[none,none]) (g:=gTp 2 (qO (gNm 0) (qO (gNm 1) (x0)))) (t:=zJ) (fe:=qG 2 (okO vD) (qA (qB 0) (qA (qB 1) (qC)))) hi trivial (fun _=>true) (fun x=>.int (zP x)) (fun env=>∃ a b,env=[a,b]) ⟨_,_,rfl⟩ (by have:=eU hl;unfold lim;omega)
  (fun x hx env ⟨a,b,z⟩=>by
   subst z;have hm:=UX hx;exact⟨[Aa (pD x.1),Aa (pD x.2)],rfl,⟨_,_,rfl⟩,rfl,fun _=>(wX (a:=pD x.1) (b:=pD x.2) rfl rfl).trans (gO (U4 x.1 x.2 S (hok _ hm.1) (hok _ hm.2)))⟩)
 rw[wF] at hc;rw[pQ];refine tF (env:=[Aa (.tup (l.map pD))]) rfl (hc.trans ?_);unfold fars;rw[Hn];rfl
theorem JI (fs:Ab Aj)(x:Aj)(S:Sto):jC (.lst (fs.map D.int)) [.int x] S=.ok (.int (fs.count x:Aj)) S:=by
 have h:(fs.map D.int).all (pl xH)=true:=by
  rw[Jn,Az];intro i _;rfl
 have e:(fs.map D.int).countP (fun y=>eqD y (.int x))=fs.count x:=by
  rw[Oa,List.count];rfl
 show (if (fs.map D.int).all (pl xH)&&pl xH (.int x) then Res.ok (D.int (((fs.map D.int).countP fun y=>eqD y (.int x):Ai):Aj)) S else .bad)=_
 rw[h,e];rfl
theorem NV (fs:Ab Aj):tbl fs=(_S.srt _S.ltI fs).map fun f=>[f,(fs.count f:Aj)]:=by
 have nd:(_S.srt _S.ltI fs).Nodup:=(_S.uZ _S.aY fs).imp fun {a b} h e=>by
  subst e;rw[_S.aY.irr] at h;cases h
 refine _S.sF _S.gP (_S.ZH _S.gP _) ?_ ((_S.pH _).trans ?_)
 ·unfold _S.Nf
  rw[Ja];refine(_S.uZ _S.aY fs).imp fun {a b} h=>?_;have h1:a<b:=Ct h;rw[TL,Bk om,Fi];omega
 ·unfold tbK
  exact(o7 (ST fs) nd fun x=>by rw[dX,_S.vM _S.aY]).map _
theorem K7 {ps:Ab Pt}(h:Lt ps):(fars ps).length≤780:=by
 have h1:=cU ps;have h2:ps.length*(ps.length-1)≤40*39:=Zh h.le (by have:=h.le;omega)
 omega
theorem GN (ps:Ab Pt)(h:Lt ps)(S:Sto):uK [.tup (ps.map pD)] S=.ok (.lst ((tbl (fars ps)).map tpD)) S:=by
 have h7:=K7 h;have hsl:(_S.srt _S.ltI (fars ps)).length≤780:=by have:=tG _S.ltI (fars ps);omega
 have hs:dIt (wJ (qB 1)) [Aa (.tup (ps.map pD)),Aa (.lst ((fars ps).map D.int))] S=.ok (none,(_S.srt _S.ltI (fars ps)).map D.int) S:=by
  unfold dIt wJ;rw[show qB 1 [Aa (D.tup (ps.map pD)),Aa (.lst ((fars ps).map D.int))] S=.ok (.lst ((fars ps).map D.int)) S from rfl]
  have e:vA ((fars ps).map D.int)=Aa ((_S.srt _S.ltI (fars ps)).map D.int):=by
   unfold vA;rw[m6];exact Bl om
  simp only[Res.bind,mJ,Kr,e];rfl
 have hc:=kU (enc:=D.int) (cap:=[none,Aa 1]) (g:=gNm 0) (t:=zJ) (fe:=zC (qA (qB 0) (qA (dBm "list" jC (qB 1) (qA (qB 0) (qC))) (qC)))) hs trivial (fun _=>true) (fun f=>tpD [f,((fars ps).count f:Aj)]) (fun env=>∃ a,env=[a,Aa (.lst ((fars ps).map D.int))]) ⟨none,rfl⟩ (by unfold lim;omega)
  (fun f hf env ⟨a,z⟩=>by
   subst z;refine⟨[Aa (.int f),Aa (.lst ((fars ps).map D.int))],rfl,⟨_,rfl⟩,rfl,fun _=>?_⟩;have e:dBm "list" jC (qB 1) (qA (qB 0) (qC)) [Aa (.int f),Aa (.lst ((fars ps).map D.int))] S=.ok (.int ((fars ps).count f:Aj)) S:=by
    unfold dBm;rw[show qB 1 [Aa (D.int f),Aa (.lst ((fars ps).map D.int))] S=.ok (.lst ((fars ps).map D.int)) S from rfl]
    exact JI (fars ps) f S
   exact zZ (zY rfl e) (by show 2≤lim;decide))
 rw[wF] at hc;have key:Rt (uO [Aa (.tup (ps.map pD)),none] S) fun d S'=>d=.lst ((tbl (fars ps)).map tpD)∧S'=S:=by
  unfold uO;refine qY (zU ((yC (a:=.tup (ps.map pD)) rfl).trans (NE ps S (PR h) (by have:=h.le;omega))) rfl ?_)
  refine xO (x5 hc ⟨?_,rfl⟩);rw[NV,Hn];rfl
 obtain⟨d,S',e,rfl,rfl⟩:=key;rw[pA];exact vU rfl e
theorem iR (c:Cl)(d:D)(S:Sto)(hp:Pn d)(h:wC d=false):xV c [d] S=.ex (.ref c.NoLot) .non S:=by
 rw[j9];show jJ (yQ c [Aa d] S)=_;unfold yQ;have n1:=lR c d S hp;rw[h,Bk (by simp)] at n1
 rw[iO (cO (i:=0) rfl n1)];rfl
theorem MN (c:Cl)(d:D)(S:Sto)(hp:Pn d)(h:wC d=false):gC c [d] S=.ex (.ref c.NoLot) .non S:=by
 rw[fO];show jJ (pU c [Aa d] S)=_;unfold pU qT qW dIt;rw[(yC (a:=d) rfl).trans (iR c d S hp h)];rfl
theorem ML (c:Cl)(d e:D)(S:Sto)(hp:Pn d)(h:qS d=false):yZ c [d,e] S=.ex (.ref c.NoPoint) .non S:=by
 rw[jN];show jJ (v4 c [Aa d,Aa e] S)=_;unfold v4;have n1:=v8 c d S hp;rw[h,Bk (by simp)] at n1
 rw[iO (cO (i:=0) rfl n1)];rfl
theorem MM (c:Cl)(p:Pt)(e:D)(S:Sto)(hb:Bd p)(hp:Pn e)(h:qS e=false):yZ c [pD p,e] S=.ex (.ref c.NoPoint) .non S:=by
 rw[jN];show jJ (v4 c [Aa (pD p),Aa e] S)=_;unfold v4;have n1:=v8 c (pD p) S (XN p);rw[mX hb,Bl rfl] at n1;have n2:=v8 c e S hp;rw[h,Bk (by simp)] at n2
 rw[lT (mR (i:=0) rfl n1),iO (cO (i:=1) rfl n2)];rfl
def ans (c:Cl)(w:Ai)(l a:D)(S:Sto):Res D:=match w with
 |0=>yZ c [l,a] S
 |1=>gC c [l] S
 |_=>xV c [l] S
theorem WB (c:Cl)(w:Ai)(hw:w<3)(l a:D)(S:Sto):dIf (dTr (d2 gEq (qB 0) (dC (.int 0)))) (qG 2 (yZ c) (qA (qB 1) (qA (qB 2) (qC)))) (dE [(1,(gC c)),(1,(xV c))] (d2 xG (qB 0) (dC (.int 1))) (qA (qB 1) (qC))) [Aa (.int (w:Aj)),Aa l,Aa a,none] S=ans c w l a S:=by
 have ht:=wV ((qQ (a:=.int (w:Aj)) (b:=.int 0) (env:=[Aa (.int (w:Aj)),Aa l,Aa a,none]) (S:=S) (f:=qB 0) (g:=dC (.int 0)) rfl rfl).trans (mW _ _ _));unfold dIf;rw[ht]
 match w,hw with
 |0,_=>rfl
 |1,_=>rfl
 |2,_=>rfl
theorem dB (c:Cl)(w:Ai)(hw:w<3)(l a x:D)(S S':Sto)(h:ans c w l a S=.ok x S'):z9 c [.int (w:Aj),l,a] S=.ok x S':=by
 rw[j7];unfold jP;refine vU (env:=[Aa (.int (w:Aj)),Aa l,Aa a,none]) rfl ?_;unfold nG qT;rw[WB c w hw,h];rfl
theorem dA (c:Cl)(w:Ai)(hw:w<3)(l a:D)(v:Af)(x:Ax)(S S':Sto)(h:ans c w l a S=.ex (.ref v) .non S')(hc:(gF c).contains (.ref v)=true)(hk:wG c [.exn (.ref v)] S'=.ok (.str x) S'):z9 c [.int (w:Aj),l,a] S=.ok (.str x) S':=by
 rw[j7];unfold jP;refine vU (env:=[Aa (.int (w:Aj)),Aa l,Aa a,none]) rfl ?_;unfold nG qT;rw[WB c w hw,h];simp only[Res.toS,hc,Dq];simp[qR,j0,TY,OE,OD,qN,sIf,qT,zG,yW,zI,gNm,gSb,gTp,qO,x0,gU,IR,OO,AR,dC,qB,d1,d2,qA,qC,qE,qG,dTr,zX,wW,zJ,vO,X3,dIf,xS,zC,zO,eS,dBm,dSl,qV,qZ,vT,vP,Res.bind,Res.toS,_D.uW,_D.vS,OH,OF,EZ,OP,OJ,OK,OL,OI,OC,OB,SI,gLt,gLe,gGt,gGe,_D.xG,ON,hk]
theorem LQ (c:Cl):(gF c).contains (.ref c.NoPoint)=true:=by rw[Fh];simp[gF]
theorem IB (c:Cl):(gF c).contains (.ref c.NoLot)=true:=by rw[Fh];simp[gF]
theorem cC (c:Cl)(nd:(w9 c).Nodup)(w:Ai)(hw:w<3)(h1:1≤w)(d o:D)(S:Sto)(hp:Pn d)(h:wC d=false):z9 c [.int (w:Aj),d,o] S=.ok (.str "lot") S:=by
 refine dA c w hw _ _ _ _ S S ?_ (IB c) (iF c nd S)
 match w,hw,h1 with
 |1,_,_=>exact MN c d S hp h
 |2,_,_=>exact iR c d S hp h
theorem JA (c:Cl)(p q:Pt)(hp:Bd p)(hq:Bd q)(S:Sto):z9 c [.int 0,pD p,pD q] S=.ok (.int (far p q)) S:=
 dB c 0 om _ _ _ S S (GJ c p q hp hq S)
theorem cD (c:Cl)(nd:(w9 c).Nodup)(d e:D)(S:Sto)(hp:Pn d)(h:qS d=false):z9 c [.int 0,d,e] S=.ok (.str "point") S:=
 dA c 0 om _ _ _ _ S S (ML c d e S hp h) (LQ c) (b7 c nd S)
theorem JB (c:Cl)(nd:(w9 c).Nodup)(p:Pt)(e:D)(S:Sto)(hb:Bd p)(hp:Pn e)(h:qS e=false):z9 c [.int 0,pD p,e] S=.ok (.str "point") S:=
 dA c 0 om _ _ _ _ S S (MM c p e S hb hp h) (LQ c) (b7 c nd S)
theorem EL (d:D)(S:Sto)(h:okD 3 d):zW [d,d] S=.ok (.bl true) S:=by
 rw[j8];exact rX 3 d S h
theorem sI (c:Cl)(ps qs:Ab Pt)(hp:Lt ps)(hq:Lt qs){f1 f2 fx:DE}{d:D}{env:qD}(h1:∀ S,f1 env S=.ok (.tup (ps.map pD)) S)(h2:∀ S,f2 env S=.ok (.tup (qs.map pD)) S)(h3:∀ S,fx env S=.ok d S)(S:Sto) :
  ∃ (T:Sto) (i j:Ai),zO (qA (qG 3 (z9 c) (qA (dC (.int 1)) (qA f1 (qA fx (qC))))) (qA (qG 3 (z9 c) (qA (dC (.int 2)) (qA f2 (qA fx (qC))))) (qC))) env S=.ok (.lst [.loc i,.loc j]) T∧S<+:T∧S.length≤i∧i<j∧T[i]? = Aa (.lst ((fs0 (fars ps)).map D.int))∧T[j]? = Aa (.lst ((tbl (fars qs)).map tpD)):=by
 obtain⟨S1,e1,q1⟩:=EH c ps hp S;obtain⟨S2,e2,q2⟩:=Z4 c qs hq (S1++[.lst ((fs0 (fars ps)).map D.int)]);have k1:=(bG (f1:=dC (.int 1)) (a:=.int 1) rfl (h1 S) (h3 S)).trans (dB c 1 om (.tup (ps.map pD)) d _ S _ e1);have k2:=(bG (f1:=dC (.int 2)) (a:=.int 2) rfl (h2 (S1++[MO.lst ((fs0 (fars ps)).map D.int)])) (h3 _)).trans (dB c 2 om (.tup (qs.map pD)) d _ (S1++[MO.lst ((fs0 (fars ps)).map D.int)]) _ e2);have l2:2≤lim:=by decide
 refine⟨_,_,_,xY (zY k1 k2) l2,(q1.trans (Gt _ _)).trans (q2.trans (Gt _ _)),q1.length_le,?_,?_,by simp⟩
 ·have:=q2.length_le
  simp at this;omega
 ·refine dP (S:=S1++[MO.lst ((fs0 (fars ps)).map D.int)]) (by simp) (q2.trans (Gt _ _))
theorem f8 {S:Sto}{j n m:Ai}{xs:Ab D}(h:S[j]? = Aa (.lst xs))(hx:okD (n+1) (.lst xs))(hn:n≤m):yS (m+1) S (.loc j)=Aa (.lst xs):=by
 have:=b8 S (n+1) (m+1) (.lst xs) hx om;show (match S[j]? with|some (.lst xs)=>(mapO (yS m S) xs).map D.lst|_=>none)=_
 rw[h];exact this
theorem mE (n:Ai)(ks:Ab (Ab Aj)):okD (n+2) (.lst (ks.map tpD)):=by
 intro x hx;obtain⟨k,_,rfl⟩:=Dk.mp hx;intro y hy;obtain⟨i,_,rfl⟩:=Dk.mp hy;cases n <;> trivial
theorem mD (n:Ai)(fs:Ab Aj):okD (n+1) (.lst (fs.map D.int)):=by
 intro y hy;obtain⟨i,_,rfl⟩:=Dk.mp hy;cases n <;> trivial
theorem NJ {S:Sto}{j:Ai}{ks:Ab (Ab Aj)}(h:S[j]? = Aa (.lst (ks.map tpD))):vJ zW [.loc j,.lst (ks.map tpD)] S=.ok (.bl true) S:=
 m9 S _ _ _ 3 (f8 (n:=2) (m:=19) h (mE 1 ks) om) (b8 S 3 20 _ (mE 1 ks) om) (mE 1 ks) rfl
theorem NI {S:Sto}{j:Ai}{fs:Ab Aj}(h:S[j]? = Aa (.lst (fs.map D.int))):vJ zW [.loc j,.lst (fs.map D.int)] S=.ok (.bl true) S:=
 m9 S _ _ _ 3 (f8 (n:=2) (m:=19) h (mD 2 fs) om) (b8 S 3 20 _ (mD 2 fs) om) (mD 2 fs) rfl
theorem Z6 {S:Sto}{i j:Ai}{fs:Ab Aj}{ks:Ab (Ab Aj)}(h1:S[i]? = Aa (.lst (fs.map D.int)))(h2:S[j]? = Aa (.lst (ks.map tpD))):yS 20 S (.lst [.loc i,.loc j])=Aa (.lst [.lst (fs.map D.int),.lst (ks.map tpD)]):=by
 have a1:=f8 (n:=1) (m:=18) h1 (mD 1 fs) om;have a2:=f8 (n:=1) (m:=18) h2 (mE 0 ks) om;show (mapO (yS 19 S) [.loc i,.loc j]).map D.lst=_;simp only[mapO,a1,a2];rfl
theorem sH (fs:Ab Aj)(ks:Ab (Ab Aj)):okD 3 (.lst [.lst (fs.map D.int),.lst (ks.map tpD)]):=by
 intro x hx;simp only[Av,Ce,Ez] at hx;rcases hx with rfl|rfl
 ·exact mD 1 fs
 ·exact mE 0 ks
theorem GU {S:Sto}{i j:Ai}{fs:Ab Aj}{ks:Ab (Ab Aj)}(h1:S[i]? = Aa (.lst (fs.map D.int)))(h2:S[j]? = Aa (.lst (ks.map tpD))):vJ zW [.lst [.loc i,.loc j],.lst [.lst (fs.map D.int),.lst (ks.map tpD)]] S=.ok (.bl true) S:=
 m9 S _ _ _ 3 (Z6 h1 h2) (b8 S 3 20 _ (sH fs ks) om) (sH fs ks) rfl
theorem R0 {S:Sto}{i j:Ai}(h1:S[i]? = Aa (.lst ([] : Ab D)))(h2:S[j]? = Aa (.lst ([] : Ab D))):mZ gNe (.lst [.loc i,.loc j]) (.lst [.lst [],.lst []]) S=.ok (.bl false) S:=by
 have a:=Z6 (fs:=[]) (ks:=[]) h1 h2;have b:yS 20 S (.lst [.lst [],.lst []]) = Aa (.lst [.lst [],.lst []]):=b8 S 3 20 _ (sH [] []) om;unfold mZ;simp only[fZ,a,b];rfl
theorem YT {ps:Ab Pt}(h:Lt ps){p:Pt}(hp:p∈ps):Lt [p]:=by
 refine CL ?_ (by simp) (by simp) (Lv _ _)
 show (qS (pD p)&&true)=true;rw[mX (h.bd hp)];rfl
theorem Y8 (p:Pt):(fs0 (fars [p])).map D.int=[]∧(tbl (fars [p])).map tpD=[]:=by
 have e:tbl (fars [p])=[]:=Ph;unfold fs0;rw[e];exact⟨rfl,rfl⟩
theorem FT (ps:Ab Pt)(lo hi:Al Aj):∃ qs:Ab Pt,zS (ps.map pD) lo hi=qs.map pD∧∀ q∈qs,q∈ps:=by
 unfold zS;rw[← Np,← Zy];exact⟨_,rfl,fun q hq=>Ht (Gy hq)⟩
theorem WM {ps:Ab Pt}(h:1≤ps.length):∃ p∈ps,zS (ps.map pD) none (Aa 1)=[p].map pD:=by
 cases ps with
 |nil=>simp at h
 |cons p r=>exact⟨p,.head _,by rw[show (Aa (1:Aj))=Aa ((1:Ai):Aj) from rfl,pV];rfl⟩
theorem FQ {ps:Ab Pt}(h:1≤ps.length):∃ p∈ps,zS (ps.map pD) (Aa (-1)) none=[p].map pD:=by
 obtain⟨qs,e,m⟩:=FT ps (Aa (-1)) none;have hl:(zS (ps.map pD) (Aa (-1)) none).length=1:=by
  have hn:1≤(ps.map pD).length:=by simpa using h
  generalize ps.map pD=ys at hn;unfold zS;have h1:_H.sIx ys.length ys.length none=ys.length:=rfl;have h2:_H.sIx ys.length 0 (Aa (-1))=ys.length-1:=by
   show (if (-1:Aj)<0 then ((-1:Aj)+(ys.length:Aj)).toNat else min (-1:Aj).toNat ys.length)=_
   rw[Bl om];omega
  rw[h1,h2,Dp,Ft];omega
 rw[e,Ar] at hl
 match qs,hl with
 |[q],_=>exact⟨q,m q (.head _),e⟩
theorem JD (ns:Ab Aj)(hl:ns.length≤63)(env:qD)(S:Sto)(h0:env[0]? = Aa (Aa (.lst (ns.map D.int)))):∃ ms:Ab Aj,vT (d2 qX (zO (qA (qG 2 yO (qA (qB 0) (qA (dC (.int 0)) (qC)))) (qC))) (dSl (qB 0) (qV (dC (.int 1))) (qV (dC (.int 6))))) env S=.ok (ms.map D.int) S:=by
 obtain⟨x,hx⟩:=EF ns S;obtain⟨ms,hm,hml⟩:=FR ns (Aa 1) (Aa 6);refine⟨x::ms,?_⟩;have l1:1≤lim:=by decide
 have hs:dSl (qB 0) (qV (dC (.int 1))) (qV (dC (.int 6))) env S=.ok (.lst (ms.map D.int)) S:=by
  simp only[dSl,w4 h0,Res.bind,qV,dC];show Res.ok (D.lst (zS (ns.map D.int) (Aa 1) (Aa 6))) S=_;rw[hm]
 have hc:zO (qA (qG 2 yO (qA (qB 0) (qA (dC (.int 0)) (qC)))) (qC)) env S=.ok (.lst [.int x]) S:=xY (wU ((wX (w4 h0) rfl).trans hx)) l1;unfold vT;rw[qQ hc hs,u7 (by rw[Ar];show 1+ms.length≤lim;unfold lim;omega)]
 rfl
theorem BX (d:D)(x:Ax)(h:jW d=Aa x)(i:Ai)(env:qD)(S:Sto)(h0:env[i]? = Aa (Aa d)):qE mU (qA (qB i) (qC)) env S=.ok (.str x) S:=by
 rw[yL (w4 h0)];show (match jW d with|some x=>Res.ok (D.str x) S|none=>.bad)=_
 rw[h]
theorem SZ (x:Ax)(S:Sto):gNe (.str x) (.str x) S=.ok (.bl false) S:=by
 unfold gNe;rw[show (pl xH (.str x))=true from rfl]
 show Res.ok (D.bl (!(x == x))) S=_;rw[Ea];rfl
theorem PB (x:Ax)(S:Sto):gNe (.lst [.str x,.str x,.str x]) (.lst [.str x,.str x,.str x]) S=.ok (.bl false) S:=by
 unfold gNe;rw[show pl xH (.lst [.str x,.str x,.str x])=true from rfl]
 show Res.ok (D.bl (!((x == x)&&((x == x)&&((x == x)&&true))))) S=_;rw[Ea];rfl
theorem AK (x:Ax)(env:qD)(S:Sto):d2 kO (zO (qA (dC (.str x)) (qC))) (dC (.int 3)) env S=.ok (.lst [.str x,.str x,.str x]) S:=by
 have l1:1≤lim:=by decide
 refine(qQ (xY (wU rfl) l1) rfl).trans ?_;have h:(0:Aj)≤3∧(3:Aj)<2 ^ 62∧[D.str x].length*(3:Aj).toNat≤lim:=⟨by omega,by omega,by show 1*3≤lim;decide⟩
 simp only[kO];rw[Bl h];rfl
theorem EY (x:Ax)(S:Sto):gNe (.lst [.str x,.str x]) (.lst [.str x,.str x]) S=.ok (.bl false) S:=by
 unfold gNe;rw[show pl xH (.lst [.str x,.str x])=true from rfl]
 show Res.ok (D.bl (!((x == x)&&((x == x)&&true)))) S=_;rw[Ea];rfl
theorem AL (x:Ax)(env:qD)(S:Sto):d2 kO (zO (qA (dC (.str x)) (qC))) (dC (.int 2)) env S=.ok (.lst [.str x,.str x]) S:=by
 have l1:1≤lim:=by decide
 refine(qQ (xY (wU rfl) l1) rfl).trans ?_;have h:(0:Aj)≤2∧(2:Aj)<2 ^ 62∧[D.str x].length*(2:Aj).toNat≤lim:=⟨by omega,by omega,by show 1*2≤lim;decide⟩
 simp only[kO];rw[Bl h];rfl
theorem WD {f:DE}{env:qD}{T:Sto}{i:Ai}{xs:Ab D}{d:D}(h:f env T=.ok (.loc i) T)(t:T[i]? = Aa (.lst xs))(hl:xs.length<lim):dBm "list" wO f (qA (dC d) (qC)) env T=.ok .non (T.set i (.lst (xs++[d]))):=by
 unfold dBm;rw[h,Res.bind_ok,W1 t,Bl (Ea _),wU (show dC d env T=.ok d T from rfl),Res.bind_ok]
 exact hZ t hl d
theorem V6 {S:Sto}{p j:Ai}{m:MO}(h:xB S p)(ne:p≠j):xB (S.set j m) p:=by
 obtain⟨v,f,e⟩:=h;exact⟨v,f,by rw[Cf om];exact e⟩
theorem RX {S:Sto}{p:Ai}(h:xB S p):p<S.length:=by
 obtain⟨v,f,e⟩:=h;exact(Bf.mp e).1
theorem LL {ps:Ab Pt}(h:1≤ps.length):∃ p∈ps,_L.atI (ps.map pD) (-1)=Aa (pD p):=by
 rcases List.eq_nil_or_concat ps with rfl|⟨r,p,rfl⟩
 ·simp at h
 ·exact⟨p,by simp,by rw[List.concat_eq_append,Hw];exact _L.UY _ _⟩
theorem UZ {ps:Ab Pt}(h:1≤ps.length):∃ p∈ps,_L.atI (ps.map pD) 0=Aa (pD p):=by
 cases ps with
 |nil=>simp at h
 |cons p r=>exact⟨p,.head _,_L.d7 (j:=0) rfl⟩
inductive IvC (ns:Ab Aj)(ds:Ab D)(env:qD)(S:Sto):Prop
 |mk (ms:Ab Aj) (e1 e2 e3 e4 e5 e6 e7 e8 e9 e10 e11 e12 e13 e14 e15:Al D) (h_0:ds=ms.map D.int) (h_1:env=[Aa (.lst (ns.map D.int)),e1,e2,e3,e4,e5,e6,e7,e8,e9,e10,e11,e12,e13,e14,e15]):IvC ns ds env S
inductive IvT (ns:Ab Aj)(e1 e10 e11 e12 e13 e14 e15:Al D)(p:Ai)(ps:Ab Pt)(o q:Pt)(x:Ax)(ds:Ab D)(env:qD)(S:Sto):Prop
 |mk (e8 e9:Al D) (h_1:env=[Aa (.lst (ns.map D.int)),e1,Aa (.loc p),Aa (.tup (ps.map pD)),Aa (pD o),Aa (pD q),Aa (.str x),Aa (.lst ((tbl (fars ps)).map tpD)),e8,e9,e10,e11,e12,e13,e14,e15]) (h_2:xB S p):IvT ns e1 e10 e11 e12 e13 e14 e15 p ps o q x ds env S
inductive IvQ (ns:Ab Aj)(e1 e8 e9 e10 e13 e14 e15:Al D)(p:Ai)(ps:Ab Pt)(o q:Pt)(x:Ax)(ds:Ab D)(env:qD)(S:Sto):Prop
 |mk (qs:Ab (Pt × Pt)) (e11 e12:Al D) (h_0:ds=qs.map prD) (h_1:env=[Aa (.lst (ns.map D.int)),e1,Aa (.loc p),Aa (.tup (ps.map pD)),Aa (pD o),Aa (pD q),Aa (.str x),Aa (.lst ((tbl (fars ps)).map tpD)),e8,e9,e10,e11,e12,e13,e14,e15]) (h_2:∀ x∈qs,Bd x.1∧Bd x.2) (h_3:xB S p):IvQ ns e1 e8 e9 e10 e13 e14 e15 p ps o q x ds env S
theorem KN (c:Cl)(nd:(w9 c).Nodup)(ns:Ab Aj)(hl:ns.length≤63):∃ S,qR 16 (ZV c) [.lst (ns.map D.int)] [] = .ok (.bl true) S:=by
 have l2:2≤lim:=by decide
 have l3:3≤lim:=by decide
 have l4:4≤lim:=by decide
 have l0:0≤lim:=by decide
 have key:Rt (ZV c [Aa (.lst (ns.map D.int)),none,none,none,none,none,none,none,none,none,none,none,none,none,none,none] []) fun d _=>d=.bl true:=by
  unfold ZV;obtain⟨ms,hms⟩:=JD ns hl [Aa (.lst (ns.map D.int)),none,none,none,none,none,none,none,none,none,none,none,none,none,none,none] [] rfl;refine qY (gN hms ?_);refine jH (IvC ns) ?_ ?_ ⟨ms,_,_,_,_,_,_,_,_,_,_,_,_,_,_,_,rfl,rfl⟩
  ·rintro d ds env S ⟨ms,e1,e2,e3,e4,e5,e6,e7,e8,e9,e10,e11,e12,e13,e14,e15,hds,rfl⟩
   cases ms with
   |nil=>cases hds
   |cons y ms =>
    injection hds with h1 h2
    subst h1 h2;refine⟨[Aa (.lst (ns.map D.int)),Aa (.int y),e2,e3,e4,e5,e6,e7,e8,e9,e10,e11,e12,e13,e14,e15],S,rfl,?_⟩;obtain⟨f,hpen⟩:=A7 y S;refine xT (zU ((yC (a:=.int y) rfl).trans hpen) rfl ?_);have p0:xB (S++[.lst [.int y,.int f]]) S.length:=⟨y,f,by simp⟩
    generalize S++[.lst [.int y,.int f]]=S0 at p0;generalize S.length=p at p0;simp only[Cz,Cp];obtain⟨xs,S1,c1,hx,hxl,hlot,p1⟩:=A6 S0 p p0;refine xT (zU ((wX (a:=.loc p) (b:=.int 40) rfl rfl).trans c1) rfl ?_);clear c1 hpen;simp only[Cz,Cp];obtain⟨ps,rfl⟩:=QC hx;rw[Ar] at hxl;have L:Lt ps:=⟨hx,hxl.1,hxl.2,hlot⟩;obtain⟨x,hre⟩:=(gZ hx (by rw[Ar];omega)).repr
    obtain⟨r,S2,c2,hr,p2⟩:=wN (S:=S1) (i:=2) (f2:=qE zR (qA (qB 3) (qC))) (env:=[Aa (.lst (ns.map D.int)),Aa (.int y),Aa (.loc p),Aa (.tup (ps.map pD)),e4,e5,e6,e7,e8,e9,e10,e11,e12,e13,e14,e15]) (m:=((ps.map pD).length:Aj)) p1 (by rw[Ar];omega) rfl ((yL (f1:=qB 3) rfl).trans (gK _ S1))
    rw[Ar] at hr;have hr':r<ps.length:=by omega
    have hat:_L.atI (ps.map pD) (r:Aj)=Aa (pD ps[r]):=_L.d7 (by rw[Dv,Ap hr'];rfl)
    have hom:ps[r]∈ps:=Ng hr';generalize ps[r]=o at hat hom;have ho:Bd o:=L.bd hom;obtain⟨qx,qy,S3,c3,hqx,hqy,p3⟩:=sN S2 p 1000 p2 om;refine xT (b0 ((qQ (a:=.tup (ps.map pD)) rfl c2).trans (k8 hat S2)) ((wX (a:=.loc p) (b:=.int 1000) rfl rfl).trans c3) ?_);clear c2 c3 hat;simp only[Cz,Cp];have hq:Bd (qx,qy):=⟨hqx,hqy⟩;rw[show D.tup [.int qx,.int qy]=pD (qx,qy) from rfl]
    generalize ((qx,qy):Pt)=q at hq;refine xT (b0 (BX _ x hre 3 _ S3 rfl) ((yC (a:=.tup (ps.map pD)) rfl).trans (GN ps L S3)) ?_);simp only[Cz,Cp];have tl:=UD L;have fl:(fs0 (fars ps)).length≤4000:=by unfold fs0;rw[Ar];exact tl
    have hr2:vP (qA (dC (.int 2)) (qC)) [Aa (.lst (ns.map D.int)),Aa (.int y),Aa (.loc p),Aa (.tup (ps.map pD)),Aa (pD o),Aa (pD q),Aa (.str x),Aa (.lst ((tbl (fars ps)).map tpD)),e8,e9,e10,e11,e12,e13,e14,e15] S3=.ok [.int 0,.int 1] S3:=rfl;refine xT (gN hr2 ?_);clear hr2;refine jH (IvT ns (Aa (.int y)) e10 e11 e12 e13 e14 e15 p ps o q x) ?_ ?_ ⟨e8,e9,rfl,p3⟩
    ·rintro d ds env S ⟨e8,e9,rfl,hp⟩
     refine⟨[Aa (.lst (ns.map D.int)),Aa (.int y),Aa (.loc p),Aa (.tup (ps.map pD)),Aa (pD o),Aa (pD q),Aa (.str x),Aa (.lst ((tbl (fars ps)).map tpD)),Aa d,e9,e10,e11,e12,e13,e14,e15],S,rfl,?_⟩;obtain⟨T,i,j,e,pre,hi,hij,t1,t2⟩:=sI c ps ps L L (f1:=qB 3) (f2:=qB 3) (fx:=dC .non) (d:=.non) (env:=[Aa (.lst (ns.map D.int)),Aa (.int y),Aa (.loc p),Aa (.tup (ps.map pD)),Aa (pD o),Aa (pD q),Aa (.str x),Aa (.lst ((tbl (fars ps)).map tpD)),Aa d,e9,e10,e11,e12,e13,e14,e15]) (fun _=>rfl) (fun _=>rfl) (fun _=>rfl) S;refine xT (zU e rfl ?_);clear e;simp only[Cz,Cp];have g0:d2 gIx (qB 9) (dC (.int 0)) [Aa (.lst (ns.map D.int)),Aa (.int y),Aa (.loc p),Aa (.tup (ps.map pD)),Aa (pD o),Aa (pD q),Aa (.str x),Aa (.lst ((tbl (fars ps)).map tpD)),Aa d,Aa (.lst [.loc i,.loc j]),e10,e11,e12,e13,e14,e15] T=.ok (.loc i) T:=(qQ (a:=.lst [.loc i,.loc j]) (b:=.int 0) rfl rfl).trans (kW rfl T);have g1:∀ T,d2 gIx (qB 9) (dC (.int 1)) [Aa (.lst (ns.map D.int)),Aa (.int y),Aa (.loc p),Aa (.tup (ps.map pD)),Aa (pD o),Aa (pD q),Aa (.str x),Aa (.lst ((tbl (fars ps)).map tpD)),Aa d,Aa (.lst [.loc i,.loc j]),e10,e11,e12,e13,e14,e15] T=.ok (.loc j) T:=fun T=>(qQ (a:=.lst [.loc i,.loc j]) (b:=.int 1) rfl rfl).trans (kW rfl T);have s1:=uT (wV ((wX (g1 T) (f2:=qB 7) (b:=.lst ((tbl (fars ps)).map tpD)) rfl).trans (NJ t2)));have s0:=uT (wV ((wX g0 (oJ (i:=7) (fars ps) rfl tl)).trans (NI t1)));refine xT (xR (jV s1 (fun _=>s0) (fun _=>rfl)) (xF rfl ?_));refine xT (xR (wV ((qQ (BX _ x hre 3 _ T rfl) (w4 rfl)).trans (SZ x T))) (xF rfl ?_));refine xT (sG (x5 (WD g0 t1 (by rw[Ar];unfold lim;omega)) ?_))
     refine sG (x5 (WD (g1 _) (xs:=(tbl (fars ps)).map tpD) (by rw[Cf om];exact t2) (by rw[Ar];unfold lim;omega)) ?_)
     have hlt:=RX hp;exact⟨_,_,rfl,V6 (V6 (sK hp pre) om) om⟩
    ·rintro env S ⟨e8,e9,rfl,hp⟩
     obtain⟨T,i,j,e,pre,hi,hij,t1,t2⟩:=sI c ps ps L L (f1:=qB 3) (f2:=qB 3) (fx:=dC (.int 0)) (d:=.int 0) (env:=[Aa (.lst (ns.map D.int)),Aa (.int y),Aa (.loc p),Aa (.tup (ps.map pD)),Aa (pD o),Aa (pD q),Aa (.str x),Aa (.lst ((tbl (fars ps)).map tpD)),e8,e9,e10,e11,e12,e13,e14,e15]) (fun _=>rfl) (fun _=>rfl) (fun _=>rfl) S;refine xT (zU e rfl ?_);clear e;simp only[Cz,Cp];have hpT:=sK hp pre;obtain⟨a,ha,ea⟩:=WM L.ne;obtain⟨b,hb,eb⟩:=FQ L.ne;obtain⟨U,i',j',e',pre',_,_,u1,u2⟩:=sI c [a] [b] (YT L ha) (YT L hb) (f1:=dSl (qB 3) (qZ) (qV (dC (.int 1)))) (f2:=dSl (qB 3) (qV (d1 vR (dC (.int 1)))) (qZ)) (fx:=dC (.int 0)) (d:=.int 0) (env:=[Aa (.lst (ns.map D.int)),Aa (.int y),Aa (.loc p),Aa (.tup (ps.map pD)),Aa (pD o),Aa (pD q),Aa (.str x),Aa (.lst ((tbl (fars ps)).map tpD)),e8,e9,Aa (.lst [.loc i,.loc j]),e11,e12,e13,e14,e15])
      (fun S=>by
       show Res.ok (D.tup (zS (ps.map pD) none (Aa 1))) S=_;rw[ea])
      (fun S=>by
       show Res.ok (D.tup (zS (ps.map pD) (Aa (-1)) none)) S=_;rw[eb]) (fun _=>rfl) T
     rw[(Y8 a).1] at u1;rw[(Y8 b).2] at u2;refine xT (xR (wV ((qQ e' (xY (zY (xY (fX _ _) l0) (xY (fX _ _) l0)) l2)).trans (R0 u1 u2))) (xF rfl ?_));clear e';have hpU:=sK hpT pre';have v:=uT (wV ((wX (f1:=qB 10) (a:=.lst [.loc i,.loc j]) (env:=[Aa (.lst (ns.map D.int)),Aa (.int y),Aa (.loc p),Aa (.tup (ps.map pD)),Aa (pD o),Aa (pD q),Aa (.str x),Aa (.lst ((tbl (fars ps)).map tpD)),e8,e9,Aa (.lst [.loc i,.loc j]),e11,e12,e13,e14,e15]) (S:=U) rfl (xY (zY (oJ (i:=7) (fars ps) rfl tl) (f2:=qB 7) (b:=.lst ((tbl (fars ps)).map tpD)) rfl) l2)).trans (GU (dP t1 pre') (dP t2 pre'))));refine xT (xR v (xF rfl ?_));clear v t1 t2 u1 u2;obtain⟨a0,ha0,z0⟩:=UZ L.ne;obtain⟨a1,ha1,z1⟩:=LL L.ne;have hit:vT (zO (qA (zC (qA (qB 4) (qA (qB 5) (qC)))) (qA (zC (qA (qB 5) (qA (qB 4) (qC)))) (qA (zC (qA (qB 4) (qA (qB 4) (qC)))) (qA (zC (qA (d2 gIx (qB 3) (dC (.int 0))) (qA (d2 gIx (qB 3) (d1 vR (dC (.int 1)))) (qC)))) (qC)))))) [Aa (.lst (ns.map D.int)),Aa (.int y),Aa (.loc p),Aa (.tup (ps.map pD)),Aa (pD o),Aa (pD q),Aa (.str x),Aa (.lst ((tbl (fars ps)).map tpD)),e8,e9,Aa (.lst [.loc i,.loc j]),e11,e12,e13,e14,e15] U=.ok ([(o,q),(q,o),(o,o),(a0,a1)].map prD) U:=by
      unfold vT;rw[xY (zK (zZ (zY (a:=pD o) (b:=pD q) rfl rfl) l2) (zK (zZ (zY (a:=pD q) (b:=pD o) rfl rfl) l2) (zK (zZ (zY (a:=pD o) (b:=pD o) rfl rfl) l2) (zK (zZ (zY ((qQ (a:=.tup (ps.map pD)) (b:=.int 0) rfl rfl).trans (k8 z0 U)) ((qQ (a:=.tup (ps.map pD)) (b:=.int (-1)) rfl rfl).trans (k8 z1 U))) l2) (fX _ _))))) l4];rfl
     refine xT (gN hit ?_);clear hit;refine jH (IvQ ns (Aa (.int y)) e8 e9 (Aa (.lst [.loc i,.loc j])) e13 e14 e15 p ps o q x) ?_ ?_ ⟨_,e11,e12,rfl,rfl,?_,hpU⟩
     ·rintro d ds env S ⟨qs,e11,e12,hds,rfl,hbd,hp⟩
      cases qs with
      |nil=>cases hds
      |cons z qs =>
       injection hds with h1 h2
       subst h1 h2;obtain⟨b1,b2⟩:=hbd z (.head _);refine⟨[Aa (.lst (ns.map D.int)),Aa (.int y),Aa (.loc p),Aa (.tup (ps.map pD)),Aa (pD o),Aa (pD q),Aa (.str x),Aa (.lst ((tbl (fars ps)).map tpD)),e8,e9,Aa (.lst [.loc i,.loc j]),Aa (pD z.1),Aa (pD z.2),e13,e14,e15],S,rfl,?_⟩;exact xR (uT (wV ((wX ((bG (a:=.int 0) (b:=pD z.1) (c:=pD z.2) rfl rfl rfl).trans (JA c z.1 z.2 b1 b2 S)) ((wX (a:=pD z.1) (b:=pD z.2) rfl rfl).trans (U4 z.1 z.2 S (by unfold Bd at b1;unfold kB;omega) (by unfold Bd at b2;unfold kB;omega)))).trans (EL _ S trivial)))) (xF rfl ⟨qs,_,_,rfl,rfl,fun w hw=>hbd w (.tail _ hw),hp⟩)
     ·rintro env S ⟨qs,e11,e12,_,rfl,_,hp⟩
      obtain⟨d,S4,c4,td,hd,p4⟩:=GO S p (ps.map pD) hp L.pt (by rw[Ar];exact hxl)
      obtain⟨n,S5,c5,hn,hn',p5⟩:=lS S4 p o.1 o.2 p4 ho.1 ho.2;have pn:=eZ hn.th;refine xT (b0 ((wX (a:=.loc p) (b:=.tup (ps.map pD)) rfl rfl).trans c4) ((wX (a:=.loc p) (b:=pD o) rfl rfl).trans c5) ?_);clear c4 c5;simp only[Cz,Cp];have v1:=(bG (a:=.int 1) (b:=d) (c:=.int 0) (env:=[Aa (.lst (ns.map D.int)),Aa (.int y),Aa (.loc p),Aa (.tup (ps.map pD)),Aa (pD o),Aa (pD q),Aa (.str x),Aa (.lst ((tbl (fars ps)).map tpD)),e8,e9,Aa (.lst [.loc i,.loc j]),e11,e12,Aa d,Aa n,e15]) (S:=S5) (f1:=dC (.int 1)) (f2:=qB 13) (f3:=dC (.int 0)) rfl rfl rfl).trans (cC c nd 1 om om d (.int 0) S5 (eZ td) hd);have v2:=(bG (a:=.int 2) (b:=d) (c:=.int 0) (env:=[Aa (.lst (ns.map D.int)),Aa (.int y),Aa (.loc p),Aa (.tup (ps.map pD)),Aa (pD o),Aa (pD q),Aa (.str x),Aa (.lst ((tbl (fars ps)).map tpD)),e8,e9,Aa (.lst [.loc i,.loc j]),e11,e12,Aa d,Aa n,e15]) (S:=S5) (f1:=dC (.int 2)) (f2:=qB 13) (f3:=dC (.int 0)) rfl rfl rfl).trans (cC c nd 2 om om d (.int 0) S5 (eZ td) hd);refine xT (xR (wV ((qQ (xY (zY v1 v2) l2) (AL "lot" _ S5)).trans (EY "lot" S5))) (xF rfl ?_));clear v1 v2;refine xT (zU (xY (zK (zZ (zY (a:=n) (b:=pD o) rfl rfl) l2) (zK (zZ (zY (a:=pD o) (b:=n) rfl rfl) l2) (zK (zZ (zY (a:=n) (b:=n) rfl rfl) l2) (fX _ _)))) l3) rfl ?_);simp only[Cz,Cp];have hc:=kU (S:=S5) (env:=[Aa (.lst (ns.map D.int)),Aa (.int y),Aa (.loc p),Aa (.tup (ps.map pD)),Aa (pD o),Aa (pD q),Aa (.str x),Aa (.lst ((tbl (fars ps)).map tpD)),e8,e9,Aa (.lst [.loc i,.loc j]),e11,e12,Aa d,Aa n,Aa (.lst [.tup [n,pD o],.tup [pD o,n],.tup [n,n]])]) (fi:=dIt (qB 15)) (o:=none) (xs:=[(n,pD o),(pD o,n),(n,n)]) (enc:=fun w:D × D=>D.tup [w.1,w.2]) (cap:=[none,none]) (g:=gTp 2 (qO (gNm 0) (qO (gNm 1) (x0)))) (t:=zJ) (fe:=qG 3 (okO (z9 c)) (qA (dC (.int 0)) (qA (qB 0) (qA (qB 1) (qC))))) (SJ rfl) trivial (fun _=>true) (fun _=>D.str "point") (fun env=>∃ a b,env=[a,b]) ⟨_,_,rfl⟩ l3
       (fun w hw env ⟨a,b,e⟩=>by
        subst e;refine⟨[Aa w.1,Aa w.2],rfl,⟨_,_,rfl⟩,rfl,fun _=>(bG (a:=.int 0) (b:=w.1) (c:=w.2) rfl rfl rfl).trans (gO ?_)⟩;simp only[Av,Ce,Ez] at hw;rcases hw with rfl|rfl|rfl
        ·exact cD c nd n _ S5 pn hn'
        ·exact JB c nd o n S5 ho pn hn'
        ·exact cD c nd n _ S5 pn hn')
      rw[wF] at hc;exact xR (wV ((qQ hc (AK "point" _ S5)).trans (PB "point" S5))) (xF rfl ⟨ms,_,_,_,_,_,_,_,_,_,_,_,_,_,_,_,rfl,rfl⟩)
     ·intro w hw
      simp only[Av,Ce,Ez] at hw;rcases hw with rfl|rfl|rfl|rfl
      ·exact⟨ho,hq⟩
      ·exact⟨hq,ho⟩
      ·exact⟨ho,ho⟩
      ·exact⟨L.bd ha0,L.bd ha1⟩
  ·rintro env S ⟨ms,e1,e2,e3,e4,e5,e6,e7,e8,e9,e10,e11,e12,e13,e14,e15,_,rfl⟩
   exact xO (x5 (d:=.bl true) (S:=S) rfl rfl)
 obtain⟨d,S',e,rfl⟩:=key;exact⟨S',vU rfl e⟩
end _K
namespace _K
open PySem PySem.Spec PyProof.Rows _L _D
theorem uU {P:Bm}{w:Cb}{K:Ak}{mg:Ax→Al Ac}{base:Bs}{c:Cl}(T:Txt K mg c){k:Ai}{F:DF}(d:DfS F P w K mg base true k "_law_same" 2):DfS (qR 4 (wE F)) P w K mg base true (k+1) "_law_same" 2:=by
 refine dq P w base k 16 T rfl ck rfl ?_;intro _ _ _ _ _ _ _ hr
 repeat' first
  |with_reducible first|apply VD|apply lN|apply t8|apply QN|apply VC|apply aV|apply VJ|apply BO|apply VP|apply VM|apply aBt|apply aGi|apply aCl|apply aL|apply aO|apply aN|(apply aB;first|apply F9|apply F8|apply F5|apply UN|apply eE|apply UK)|(apply aT;first|apply ZL|apply UL|apply F7)|apply aC|apply VQ|apply VL|apply QQ|apply BQ|apply i9|apply QR|apply BR|apply VH|apply i8|apply VN|apply BS|apply VO|apply VE|apply BP|apply QP|apply VI|apply lO|apply aTb|apply aZt|apply o0|(apply pG;(case slot=>apply Ke);(case' hm=>first|apply iZ))|(apply pG;(case slot=>apply Ra);(case' hm=>first|apply iX))|(apply pG;(case slot=>apply Jp);(case' hm=>first|apply ZJ|apply iY))|(apply pG;(case slot=>apply Lu);(case' hm=>first|apply ZK))|apply VF|apply QY|apply QZ|apply U1|apply U0|apply iE|(apply BU;first|apply lP|apply eW)|apply U2|apply lP|apply eW|apply aNm|apply VS|apply VR|apply iA|apply QU|apply VV|apply iC|apply VW|apply QV|apply iB|apply VU|apply VT|apply Z3|apply QX|apply VZ|apply BT|apply Z2|apply VY|apply aP2|apply aRs|apply aTr|apply F4|apply FH|apply UM|apply FC|apply F6|apply FB|apply FF|apply HG|apply HF|apply HC|apply FD|apply HB|apply HH|apply HD|apply FA|apply FE|apply HE|apply FG|exact ck|apply B4|apply Lx|apply Ru|apply Ov|apply Rb|apply Rv|apply Rw
  |((with_reducible apply aCs);case hsw=>exact rfl)
  |((with_reducible apply aSt);case hs=>exact rfl)
  |with_reducible apply VX
  |((with_reducible show DfS _ _ _ _ _ _ _ _ _ _);assumption)
  |((with_reducible show RoomC _ _ _);first|assumption|exact RoomC.mono (by assumption)|exact RoomC.mono (RoomC.any (by assumption))|exact RoomC.mark (by assumption) _|exact RoomC.mono (RoomC.mark (by assumption) _))
  |exact T.nb ck
  |exact T.cls
  |exact T.cl (by kernel_rfl)
  |exact T.rz (by kernel_rfl)
  |exact T.ct
  |exact T.gi (by kernel_rfl)
  |((with_reducible show ZPass _);first|assumption|exact ZM)
  |exact⟨rfl,rfl⟩
  |exact⟨rfl,rfl,rfl⟩
  |exact pZ _
  |exact rfl
  |with_unfolding_all rfl
  |apply lN
  |apply t8
  |decide
  |(intros;rfl)
  |(intro _ h;cases h <;> rfl)
  |intro _
theorem TC {P:Bm}{w:Cb}{K:Ak}{mg:Ax→Al Ac}{base:Bs}{c:Cl}(T:Txt K mg c)(nd:(w9 c).Nodup):∃ F,h9 P w K mg base true 9 "law" ["_law_script"] F∧∀ ns:Ab Aj,ns.length≤63→∃ S,F [.lst (ns.map D.int)] [] = .ok (.bl true) S:=by
 refine hv (fun _=>?_) (dq (cm:=true) P w base 0 0 T rfl ck (kE) ?_);refine hv (fun _=>?_) (dq (cm:=true) P w base 1 1 T rfl ck (jA) ?_);refine hv (fun _=>?_) (dq (cm:=true) P w base 0 2 T rfl ck (pR) ?_);refine hv (fun _=>?_) (dq (cm:=true) P w base 2 3 T rfl ck (fH) ?_);refine hv (fun _=>?_) (dq (cm:=true) P w base 3 4 T rfl ck (tM) ?_);refine hv (fun _=>?_) (dq (cm:=true) P w base 3 5 T rfl ck (pB c) ?_);refine hv (fun _=>?_) (dq (cm:=true) P w base 4 6 T rfl ck (fJ c) ?_);refine hv (fun _=>?_) (dq (cm:=true) P w base 0 7 T rfl ck (gB) ?_);refine hv (fun _=>?_) (dq (cm:=true) P w base 4 8 T rfl ck (jN c) ?_);refine hv (fun _=>?_) (dq (cm:=true) P w base 1 9 T rfl ck (kJ) ?_);refine hv (fun _=>?_) (dq (cm:=true) P w base 5 10 T rfl ck (j9 c) ?_);refine hv (fun _=>?_) (dq (cm:=true) P w base 6 11 T rfl ck (fO c) ?_);refine hv (fun _=>?_) (dq (cm:=true) P w base 0 12 T rfl ck (pO) ?_);refine hv (fun _=>?_) (dq (cm:=true) P w base 0 13 T rfl ck (fG) ?_);refine hv (fun _=>?_) (dq (cm:=true) P w base 0 14 T rfl ck (pP) ?_);refine hv (fun _=>?_) (dq (cm:=true) P w base 0 15 T rfl ck (uL) ?_);have s0:DfS (f9 0) P w K mg base true 0 "_law_same" 2:=⟨M0 (T.src 16 rfl)⟩;have d__law_same:DfS zW P w K mg base true 4 "_law_same" 2:=j8▸uU T (uU T (uU T (uU T s0)));refine hv (fun _=>?_) (dq (cm:=false) P w base 0 17 T rfl ck (vN c) ?_);refine hv (fun _=>?_) (dq (cm:=true) P w base 1 18 T rfl ck (p9) ?_);refine hv (fun _=>?_) (dq (cm:=true) P w base 2 19 T rfl ck (fF) ?_);refine hv (fun _=>?_) (dq (cm:=true) P w base 1 20 T rfl ck (jX) ?_);refine hv (fun _=>?_) (dq (cm:=true) P w base 2 21 T rfl ck (g9) ?_);refine hv (fun _=>?_) (dq (cm:=true) P w base 1 22 T rfl ck (jY) ?_);refine hv (fun _=>?_) (dq (cm:=true) P w base 3 23 T rfl ck (gA) ?_);refine hv (fun _=>?_) (dq (cm:=true) P w base 0 24 T rfl ck (fE) ?_);refine hv (fun _=>?_) (dq (cm:=true) P w base 0 25 T rfl ck (p8) ?_);refine hv (fun _=>?_) (dq (cm:=true) P w base 1 26 T rfl ck (pQ) ?_);refine hv (fun _=>?_) (dq (cm:=true) P w base 2 27 T rfl ck (pA) ?_);refine hv (fun _=>?_) (dq (cm:=true) P w base 7 28 T rfl ck (j7 c) ?_);refine⟨_,dqP 8 29 T rfl ck ?_,KN c nd⟩
 all_goals
  intro _ _ _ _ _ _ _ hr
  repeat' first
   |with_reducible first|apply VD|apply lN|apply t8|apply QN|apply VC|apply aV|apply VJ|apply BO|apply VP|apply VM|apply aBt|apply aGi|apply aCl|apply aL|apply aO|apply aN|(apply aB;first|apply F9|apply F8|apply F5|apply UN|apply eE|apply UK)|(apply aT;first|apply ZL|apply UL|apply F7)|apply aC|apply VQ|apply VL|apply QQ|apply BQ|apply i9|apply QR|apply BR|apply VH|apply i8|apply VN|apply BS|apply VO|apply VE|apply BP|apply QP|apply VI|apply lO|apply aTb|apply aZt|apply o0|(apply pG;(case slot=>apply Ke);(case' hm=>first|apply iZ))|(apply pG;(case slot=>apply Ra);(case' hm=>first|apply iX))|(apply pG;(case slot=>apply Jp);(case' hm=>first|apply ZJ|apply iY))|(apply pG;(case slot=>apply Lu);(case' hm=>first|apply ZK))|apply VF|apply QY|apply QZ|apply U1|apply U0|apply iE|(apply BU;first|apply lP|apply eW)|apply U2|apply lP|apply eW|apply aNm|apply VS|apply VR|apply iA|apply QU|apply VV|apply iC|apply VW|apply QV|apply iB|apply VU|apply VT|apply Z3|apply QX|apply VZ|apply BT|apply Z2|apply VY|apply aP2|apply aRs|apply aTr|apply F4|apply FH|apply UM|apply FC|apply F6|apply FB|apply FF|apply HG|apply HF|apply HC|apply FD|apply HB|apply HH|apply HD|apply FA|apply FE|apply HE|apply FG|exact ck|apply B4|apply Lx|apply Ru|apply Ov|apply Rb|apply Rv|apply Rw
   |((with_reducible apply aCs);case hsw=>exact rfl)
   |((with_reducible apply aSt);case hs=>exact rfl)
   |with_reducible apply VX
   |((with_reducible show DfS _ _ _ _ _ _ _ _ _ _);assumption)
   |((with_reducible show RoomC _ _ _);first|assumption|exact RoomC.mono (by assumption)|exact RoomC.mono (RoomC.any (by assumption))|exact RoomC.mark (by assumption) _|exact RoomC.mono (RoomC.mark (by assumption) _))
   |exact T.nb ck
   |exact T.cls
   |exact T.cl (by kernel_rfl)
   |exact T.rz (by kernel_rfl)
   |exact T.ct
   |exact T.gi (by kernel_rfl)
   |((with_reducible show ZPass _);first|assumption|exact ZM)
   |exact⟨rfl,rfl⟩
   |exact⟨rfl,rfl,rfl⟩
   |exact pZ _
   |exact rfl
   |with_unfolding_all rfl
   |apply lN
   |apply t8
   |decide
   |(intros;rfl)
   |(intro _ h;cases h <;> rfl)
   |intro _
end _K
namespace _K
open PySem PySem.Spec PyProof.Rows _L _D
theorem bdf:BdF top tab:=by
 repeat (refine⟨?_,?_⟩;(intro _ _ _ _ _ _ us h;first|(obtain⟨_,rfl⟩:=us1 h;rfl)|(obtain⟨_,_,rfl⟩:=us2 h;rfl)|(obtain⟨_,_,_,rfl⟩:=us3 h;rfl)))
 exact trivial
theorem HJ {K:Ak}{C0 C1 C2 C3 C4 C5 C6 C7 C8 C9 C10 C11:Af}(q0:Dw K Ci "FarError" = Aa (Aa (.ref C0)))(q1:Dw K Ci "NoPoint" = Aa (Aa (.ref C1)))(q2:Dw K Ci "NoLot" = Aa (Aa (.ref C2)))(q3:Dw K Ci "NoNumber" = Aa (Aa (.ref C3)))(q4:Dw K Ci "NoCircle" = Aa (Aa (.ref C4)))(q5:Dw K Ci "NoMarks" = Aa (Aa (.ref C5)))(q6:Dw K Ci "NoFars" = Aa (Aa (.ref C6)))(q7:Dw K Ci "NoText" = Aa (Aa (.ref C7)))(q8:Dw K Ci "NoLine" = Aa (Aa (.ref C8)))(q9:Dw K Ci "NoDeed" = Aa (Aa (.ref C9)))(q10:Dw K Ci "Alike" = Aa (Aa (.ref C10)))(q11:Dw K Ci "TooMany" = Aa (Aa (.ref C11))):ZN K (clt ⟨C0,C1,C2,C3,C4,C5,C6,C7,C8,C9,C10,C11⟩):=⟨q0,q1,q2,q3,q4,q5,q6,q7,q8,q9,q10,q11,trivial⟩
theorem HK {K:Ak}{k0 k1 k2:Sr}(g0:Dw K Ci "LEAST_NUMBER" = Aa (Aa (.int (-1000) k0)))(g1:Dw K Ci "MOST_NUMBER" = Aa (Aa (.int (1000) k1)))(g2:Dw K Ci "MOST_POINTS" = Aa (Aa (.int (40) k2))):ZO K cst:=⟨⟨_,g0⟩,⟨_,g1⟩,⟨_,g2⟩,trivial⟩
theorem SU {P:Bm}{w:Cb}{K:Ak}{mg:Ax→Al Ac}{c:Cl}{fa:Af}(T:Txt K mg c)(nd:(w9 c).Nodup)(hfa:mg "law" = Aa (.ref fa)) :
  ∃ fd:Fx,(∀ (s:Ag) (v:Ac),Om s fd ⟨[v],[]⟩ [("_law_script",v)])∧∀ base:Bs,K.In base→base.Ns Ci mg→FnOk P w K mg base (CXd P w) 9 fa fd ["_law_script"] (eX K):=
 TD (T.src 29 rfl) hfa (fun kV doc pm an cdv ct s v=>.of_eq rfl) fun base=>TC T nd
end _K
theorem PySem.W.Fast.tw15254541598112519496 : True := trivial
theorem PySem.W.Fast.tw6174586450142468892 : True := trivial
theorem PySem.W.Fast.tw14553854766683655810 : True := trivial
theorem PySem.W.Fast.tw2428585383899507123 : True := trivial
theorem PySem.W.Fast.tw763437005020269957 : True := trivial
theorem PySem.W.Fast.tw13449569907398816535 : True := trivial
theorem PySem.W.Fast.tw9480812576176326271 : True := trivial
theorem PySem.W.Fast.tw16428112571344251539 : True := trivial
theorem PySem.W.Fast.tw2818126520107939676 : True := trivial
theorem PySem.W.Fast.tw2610936399866274689 : True := trivial
theorem PySem.W.Fast.tw18099380873843587919 : True := trivial
theorem PySem.W.Fast.tw13974294616223247511 : True := trivial
theorem PySem.W.Fast.tw15596659325422527968 : True := trivial
theorem PySem.W.Fast.tw9587630254390102415 : True := trivial
theorem PySem.W.Fast.tw15620832262715879989 : True := trivial
theorem PySem.W.Fast.tw2845005627249567905 : True := trivial
theorem PySem.W.Fast.tw16363876993764587970 : True := trivial
theorem PySem.W.Fast.tw334483406575170460 : True := trivial
theorem PySem.W.Fast.tw11937656113228545334 : True := trivial
theorem PySem.W.Fast.tw11807965357244232310 : True := trivial
theorem PySem.W.Fast.tw4255140663578815463 : True := trivial
theorem PySem.W.Fast.tw10489593268947507669 : True := trivial
theorem PySem.W.Fast.tw7941106111276938439 : True := trivial
theorem PySem.W.Fast.tw13269844254082458001 : True := trivial
theorem PySem.W.Fast.tw7227302383296018892 : True := trivial
theorem PySem.W.Fast.tw2944261194413711226 : True := trivial
theorem PySem.W.Fast.tw11814744204052177687 : True := trivial
theorem PySem.W.Fast.tw6311933883957749207 : True := trivial
theorem PySem.W.Fast.tw5763054792463691696 : True := trivial
theorem PySem.W.Fast.tw12857800245254479276 : True := trivial
theorem PySem.W.Fast.tw11796680451851569523 : True := trivial
theorem PySem.W.Fast.tw1258968199685783996 : True := trivial
theorem PySem.W.Fast.tw17351849451195116233 : True := trivial
theorem PySem.W.Fast.tw6137856653743691054 : True := trivial
theorem PySem.W.Fast.tw10583545807424469119 : True := trivial
theorem PySem.W.Fast.tw2587526570327546829 : True := trivial
theorem PySem.W.Fast.tw3722712514447860750 : True := trivial
theorem PySem.W.Fast.tw12337957706882098840 : True := trivial
theorem PySem.W.Fast.tw15264277814278427974 : True := trivial
theorem PySem.W.Fast.tw13882661833284064576 : True := trivial
theorem PySem.W.Fast.tw4607775347869476751 : True := trivial
theorem PySem.W.Fast.tw5428560609676166086 : True := trivial
theorem PySem.W.Fast.tw7569418770635134297 : True := trivial
theorem PySem.W.Fast.tw506274048957940474 : True := trivial
theorem PySem.W.Fast.tw10305622101224566144 : True := trivial
theorem PySem.W.Fast.tw15599051859509772944 : True := trivial
theorem PySem.W.Fast.tw14403332956572077257 : True := trivial
theorem PySem.W.Fast.tw8354424449170237176 : True := trivial
theorem PySem.W.Fast.tw14526283085436919709 : True := trivial
theorem PySem.W.Fast.tw3445552314029014725 : True := trivial
theorem PySem.W.Fast.tw3052162931599117015 : True := trivial
theorem PySem.W.Fast.tw10132179522727661698 : True := trivial
theorem PySem.W.Fast.tw9701908594720077800 : True := trivial
theorem PySem.W.Fast.tw17929883846355739392 : True := trivial
theorem PySem.W.Fast.tw14683846393249052041 : True := trivial
theorem PySem.W.Fast.tw10418645617418466106 : True := trivial
theorem PySem.W.Fast.tw7284360305420015923 : True := trivial
theorem PySem.W.Fast.tw1948295251062219503 : True := trivial
theorem PySem.W.Fast.tw1692549026557253570 : True := trivial
theorem PySem.W.Fast.tw9334852955968031711 : True := trivial
theorem PySem.W.Fast.tw1629365421438295925 : True := trivial
theorem PySem.W.Fast.tw9436888566404133368 : True := trivial
theorem PySem.W.Fast.tw2501557030440714882 : True := trivial
theorem PySem.W.Fast.tw5456770172365928998 : True := trivial
theorem PySem.W.Fast.tw3003752165337628810 : True := trivial
theorem PySem.W.Fast.tw17010988705823679681 : True := trivial
theorem PySem.W.Fast.tw5685771390988532743 : True := trivial
theorem PySem.W.Fast.tw2259477180175199412 : True := trivial
theorem PySem.W.Fast.tw12887553373363629715 : True := trivial
theorem PySem.W.Fast.tw7883016390853195514 : True := trivial
theorem PySem.W.Fast.tw16190078850896323648 : True := trivial
theorem PySem.W.Fast.tw524660418991073443 : True := trivial
theorem PySem.W.Fast.tw262527120608953826 : True := trivial
theorem PySem.W.Fast.tw13993116216735566236 : True := trivial
theorem PySem.W.Fast.tw8338448990058549174 : True := trivial
theorem PySem.W.Fast.tw11942683162780700681 : True := trivial
theorem PySem.W.Fast.tw10655078899369474667 : True := trivial
theorem PySem.W.Fast.tw5819671607974350686 : True := trivial
theorem PySem.W.Fast.tw6263827683699538862 : True := trivial
theorem PySem.W.Fast.tw16374904173097301047 : True := trivial
theorem PySem.W.Fast.tw1400786930615032315 : True := trivial
theorem PySem.W.Fast.tw3313350601229396776 : True := trivial
theorem PySem.W.Fast.tw13976912495651496482 : True := trivial
theorem PySem.W.Fast.tw14666236483121837369 : True := trivial
theorem PySem.W.Fast.tw3747281725169986750 : True := trivial
open PySem PySem.W PyProof.Rows
set_option maxRecDepth 100000 in
set_option maxHeartbeats 0 in
theorem PySem.Challenge.cw_fewdistances_k02_fars_and_tables_holds : PySem.Challenge.rw_fewdistances_k02_fars_and_tables.Holds := by
 w_on;o_law;z_head;(case hw=>w_witness2)
 refine _D.AQ (fun _=>by kernel_rfl) ?_
 refine _D.AO (l:=PySem.Challenge.rw_fewdistances_k02_fars_and_tables) (k:=9) (x:="_law_script") rfl rfl ⟨rfl,by decide,by decide,rfl⟩ (fun w h Y=>Y) ?F
 case F =>
  intro w mg fa h KX G hmg
  refine' _K.SU (_D.AM _K.bdf ?hp rfl KX G ?s ?z (_K.HJ ?q0 ?q1 ?q2 ?q3 ?q4 ?q5 ?q6 ?q7 ?q8 ?q9 ?q10 ?q11) (_K.HK ?gi0 ?gi1 ?gi2) ?e1 ?e2 ?e3 ?e4 ?e5 ?e6) ?nd hmg
  (case s=>(repeat (refine' ⟨_D.SrcF.mk ?a ?l ?c ?k,?_⟩;(case a=>k_is);(case l=>k_is);(case c=>k_is);(case k=>k_is)));exact trivial)
  (case z=>rfl)
  (case q0=>k_is)
  (case q1=>k_is)
  (case q2=>k_is)
  (case q3=>k_is)
  (case q4=>k_is)
  (case q5=>k_is)
  (case q6=>k_is)
  (case q7=>k_is)
  (case q8=>k_is)
  (case q9=>k_is)
  (case q10=>k_is)
  (case q11=>k_is)
  (case gi0=>k_is)
  (case gi1=>k_is)
  (case gi2=>k_is)
  (case hp=>intro y hy;revert hy;simp;grind)
  (case e1=>rfl)
  (case e2=>rfl)
  (case e3=>rfl)
  (case e4=>rfl)
  (case e5=>rfl)
  (case e6=>rfl)
  (case nd=>decide)
