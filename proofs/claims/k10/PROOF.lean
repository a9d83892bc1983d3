import PyProof.Rows.All
import Wide.All
import OpenK.AllK
import Wide.FinOn
import Lean
import PyProof.EqAt
import PyProof.EqKinds
import PyProof.TupleCall
import KE.KTryMore
import KE.KIsAll
import PyProof.NeKinds
import PyProof.Rows.CountFlat
import PyProof.Rows.FStr
import PyProof.ZipIter
import PyProof.EnumMake
import PyProof.EnumStmt
import KE.KDictLaws
import PyProof.DictWalks
import PyProof.Rows.SetFrom
import PyProof.SumWalkG
import PyProof.Rows.SumGenD
import PyProof.SeqI2
import KE.KItemsList
import PyProof.SetKind
import PyProof.TupleKey
import KE.KSortTup
import PyProof.ReprRoads
import PyProof.ReprBulk
import PyProof.TupleOfSeq
import PyProof.WalkInts
import PyProof.SeqI3
import KE.KPairComp
import KE.KMinKey
import PyProof.Rows.CallKwBuiltin
import PySem.Challenge.RW_fewdistances_k10_counts_of_fars
set_option Elab.async false
set_option linter.all false
set_option maxRecDepth 100000
set_option maxHeartbeats 0
set_option tactic.hygienic false
set_option bootstrap.genMatcherCode false
set_option genSizeOf false
set_option compiler.extract_closed false
open Array renaming length_toList→Bh,getElem?_toList→Bj,getElem?_eq_some_iff→Dw,getElem?_eq_getElem→DL,toList_append→Eb,toList_push→Eo,getD_eq_getD_getElem?→Fd,getD→Gr,size_extract→Im,toList_extract→IP,toList_reverse→Jx,mem_toList_iff→Mw,perm_iff_toList_perm→O8,getElem?_eq_none→Qx,size_map→Ry,forIn_toList→Ub,toList_inj→Wg,toList→Yd
open Bool renaming and_eq_true→Br,false_eq_true→Bt,and_eq_true_iff→Eu,false_ne_true→Gz,noConfusion→He,not_true→IL,not_eq_true'→Ln,false_or→Mf,false_and→Ob,and_false→Oe,or_eq_true→Qn,not_false→Rz,true_and→Te,true_or→Yg
open Classical renaming byContradiction→Fq,choose→Mq,choose_spec→Mr
open False renaming elim→An
open ForInStep renaming yield→Jg
open Int renaming le_trans→Fb,toNat_natCast→Gn,le_of_lt→Hq,emod_lt_of_pos→Il,emod_nonneg→Ji,le_refl→Jr,not_lt→Xf,pow_succ→Ym
open List renaming getElem?_eq_getElem→Ap,length_map→Aq,mem_cons→Aw,all_eq_true→Az,size_toArray→Bc,getElem?_eq_some_iff→Be,getElem?_append_left→Bk,prefix_refl→Bn,mem_cons_of_mem→Bq,length_append→Cb,append_assoc→Cd,mem_append_right→Ce,mem_of_getElem?→Cf,mem_iff_getElem→Cg,mem_append→Ch,length_cons→Ci,getElem?_set_ne→Cp,set_cons_zero→Cq,not_mem_nil→Cw,set_cons_succ→Cy,getElem?_append_right→Dd,mem_cons_self→Df,mem_singleton→Dg,mem_append_left→Dh,mem_map→Dl,replicate→Dm,range→Dq,getElem?_map→Ds,map_cons→Dy,getElem?_set_self→Ec,pairwise_append→Ed,length_take→Ee,mem_range→Em,pairwise_cons→Ez,contains_iff_mem→Ff,append_nil→Fo,map_map→Fw,take_of_length_le→Gj,filterMap_cons→Gm,drop_eq_getElem_cons→Gq,length_range→Gs,length_nil→Gv,prefix_append→Ha,replicate_succ→Hj,map_append→Hm,length_drop→Hr,extract_eq_take_drop→Ht,mem_of_mem_take→Hx,foldl_cons→Hy,flatMap_cons→Hz,mem_map_of_mem→Ic,filter_append→Io,length_filter_le→Iw,nodup_cons→ID,flatten_cons→IF,getD→IH,pairwise_iff_getElem→IJ,pairwise_map→IK,mem_of_mem_drop→IQ,lookup_cons→IU,all_map→IY,mem_filterMap→Jb,find?_cons→Je,any_cons→Jf,nil_append→Jh,drop_of_length_le→Jk,length→Jl,perm_append_comm→Jq,reverse_append→Kh,forIn_cons→Kk,getElem?_take_of_lt→Kp,getElem?_replicate→Kv,length_eq_zero_iff→Ky,pairwise_singleton→La,nodup_append→Ll,drop_eq_nil_of_le→Lv,range_succ_eq_map→Lw,length_pos_of_mem→Lx,getElem_inj→Ma,length_singleton→Me,getElem?_eq_none→Mi,lookup→Mj,all_cons→Ml,getElem_mem→Mm,ext_getElem→Ms,take_append_drop→Mt,of_mem_zip→Nb,countP_map→Nc,eq_nil_of_length_eq_zero→Ng,forIn_nil→Of,nodup_nil→Om,zip_cons_cons→Os,mergeSort_nil→Ox,getD_eq_getElem?_getD→O9,getElem_take→OT,getElem_drop→OU,getElem?_eq_none_iff→OY,map_drop→OZ,length_erase_of_mem→Pg,zipIdx_cons→Pq,map_fst_zip→Ps,getElem?_cons_succ→Py,mem_filter→Qk,find?_cons_of_neg→Qp,filter_eq_nil_iff→Ra,countP_mono_left→Rp,singleton_append→Rq,mem_erase_of_ne→Sf,reverse_reverse→Sg,map_congr_left→Tj,getElem?_drop→Tz,find?_eq_none→Ua,map_nil→Ue,ext_getElem?→Vj,foldl_append→Vl,getElem_map→Wa,nodup_range→Wb,countP_cons→We,zipIdx_nil→Wn,length_zip→Ws,foldl→Wz,Nodup→Xc,take_zero→Xi,range'→Yu,count→Yy
open List.Pairwise renaming nil→ON,imp_of_mem→Pf,filter→Yv,take→Yz,drop→Za,imp₂→Zb
open List.Perm renaming append_left→Iu,append_right→Jj,refl→Li,trans→Ni
open Nat renaming le_refl→Av,lt_of_lt_of_le→Bv,ne_of_lt→Cj,lt_irrefl→Er,le_trans→Fg,ne_of_gt→Hf,lt_succ_self→Hs,zero_le→HT,lt_succ_of_lt→II,le_add_right→IV,add_sub_cancel_left→Ja,le_of_lt_succ→Jo,lt_of_succ_lt→Js,le_of_lt→Ku,lt_trans→Kx,zero_add→Nl,succ_pos→Nm,mod_lt→Nu,add_right_comm→Ow,not_lt→Pm,min_eq_left→Qz,le_succ→Rh,min_self→Ui,sub_self→Um,add_zero→Uo,lt_trichotomy→Vh,one_pos→Wf,min_eq_right→Wh,mul_add→Wi,sub_lt→Xg,mul_le_mul→Xk,add_assoc→Ya,add_comm→Yf,lt_or_ge→Yk,add_mul→Yt
open Ne renaming symm→Gx
open Option renaming some→Aa,bind_eq_some_iff→Ei,map_eq_some_iff→El,bind_some→Ka,getD_some→Pp,map_some→Qs,getD_none→Vt,none→Yr
open Option.some renaming inj→Co
open Or renaming inr→Vv,inl→Xm
open Prod renaming ext→Yn
open PyProof.Rows renaming wpS_bind→Ba,wpS_pure→Bm,Keyed→Bo,step_dedup→Bu,slot_tuple_getitem→Dr,seqObj→Ep,wpS_forRange→Fk,SortSt→Gd,envOfC→Hd,callWith_type1→Hg,wpS_mono→Hl,IntsAre→Ik,wpS_modify→Iy,SortKind→Kn,get?_update_seq→Ko,wpS_get→Lb,AllBare→Lz,callWith_builtin1→Mu,entry_tuple_getitem→No,IsTup→Oa,slicePart_none→Od,assignInOrder_cons→Oq,args_tuple_getitem→Ot,wpS_lift→OA,subscriptTail_builtinR→Ql,isBoolOf→Qq,gallopOf→Qy,lt_int→Sn,tupleItemsOf_→Sr,subscriptTail→Su,assignInOrder_nil→Ur,entry_list_sort→Wt,Subscript_→Wx
open PyProof.Rows.F renaming plain_set_update_loop→Ih,entry_set_update_loop→Kl
open PyProof.Rows.IntsAre renaming int_at→Op
open PyProof.Rows.IsTup renaming new→Us
open PyProof.Rows.SortSt renaming mk'→Di
open PySem renaming wpAny_bind→Ac,Value→Ad,Addr→Af,Shared→Ah,wpAny_pure→Al,wpAny→Ao,Str→As,model→Au,starEach→Bd,intKind→Bg,Program→Bl,tupleKeyHash→Bp,Heap→Bs,Expr→Bw,Around→By,World→Bz,mainGlobals→Cn,Obj→Cs,compareOp→Dj,wpAny_newObj_type→Dn,wpAny_holding→Du,wpAny_field→Dv,wpAny_callSpecial?_slot→Dx,wpAny_call_entry→Ef,binaryOp→Ev,wpAny_setField_rec→Ey,sizeLine_eq→Fe,Pos→Fh,cLine→Fi,Stmt→Fl,wpAny_seqItems→Fm,Comprehension→Fp,SetTable→Ft,backTo→Fu,mem_of_lookup→Fx,FuncData→Fy,foldedSetIterable→Ga,wpAny_pyIter_list→Gb,wpAny_setState_of→Gc,bootBuiltins→Ge,codeAny_builtin→Gf,wpAny_pyIter_tuple→Gh,Scope→Gu,assignEach→Hb,wpAny_rule→Hc,wpAny_Call_Name_kw→Hu,Builtin→Hw,wpAny_mono→Ia,wpAny_attempt→Ib,IsPair→Ir,NameKind→IC,plainId_quiet→IM,sysModules→IT,codeAny_mono→IX,letOwnedTupleGo→Jc,codeAny→Jd,wpAny_letGo→Jm,wpAny_typeOf→Ju,Env→Jv,codeAny_call_builtin→Jw,wpAny_askSetting→Jz,Sem→Kb,swappedStores→Kc,swapsWithSole→Ke,behindInMarks→Kf,wpAny_passesOwn→Ki,sliceBounds→Kj,wpAny_updateSeq→Km,Model→Ks,pyNext→Ld,wpAny_setField→Lh,wpAny_tryCatch→Lj,swapsWith→Lm,ofAClassStatement→Lp,wpAny_storeSet_of→Lq,call_meets→Lu,rawInt→Mb,wpAny_forIn_list→Mc,getItem→Md,wpAny_of_eq→Mk,wpAny_isInstance→Mp,wpAny_updateSeq_pair→Mx,wpAny_execs_nil→Na,pickOrder→Nh,pyIter→Nj,BindsTo→Nn,wpAny_call→Np,IsTupleKey→Nv,argBest→Ny,recursionLimit→Oc,firstArgMember→Oh,IsZip→Ol,wpAny_newFunctionEnv_cells→O0,IsPart→O1,hashByValue→O7,intItems→OB,wpAny_standAt→OG,wpAny_truthy_bool→OH,wpAny_sequenceKey→OL,callerA→OM,attributeBase→OP,wpAny_onRaise→OR,setSearchFrom→OV,wpAny_comprehension_free→Pd,noFill_tuple_add→Pl,checkBuiltinCall→Po,Tok→Pu,codeAny_of_tree→Qt,wpAny_ite_split→Qw,tupleKind→Rc,PassesOwn→Re,cellsFrom→Rf,codeAny_call_function→Rg,IsEnum→Ri,argsOk→Rj,weight_type_call_type→Rl,builtinLookup_eq_fast→Rm,numAt→Rr,wpAny_newTuple→Rw,isSubtype_stop→Rx,wpAny_runValue→Sa,isSubtype_type→Sb,assignInOrder→Si,CmpOp→Sj,bindL→Sl,bindC→Sm,seq_tuple_add→So,evalPart_none→Ss,valueAt→Sw,standAt→Sy,intKind_is→Tf,wpAny_setEntries_of→Th,wpAny_newList→Ti,bindName→Tl,Result→Tn,setState→Tp,concat_meets→Ud,wpAny_assign_Name→Uq,slot_list_getitem→Uv,list_append→Uw,atKey→Ux,lastMarks→Uy,ClassData→Uz,noteFrame→Va,setFlight→Vb,wpAny_pyIter_enum→Vd,searchCouldBeSeen→Vg,wpAny_pyIter_slot→Vi,wpAny_collect_seq→Vk,wpAny_eqBool_int→Vm,wpAny_execs_cons→Vo,unaryOp→Vp,seqIndex_of→Vs,wpAny_pyIter_zip→Vz,setAdd→Wc,check_set_init_1→Wd,GenState→Wj,bindArgs→Wl,wpAny_stack_any→Wo,wpAny_specialOf→Wq,typeLookup_type→Wr,builtinsNs→Wu,wpAny_Name→Wv,typeIs_int→Wy,call→Xa,closureFor→Xb,setsByText→Xe,Params→Xl,setItem→Xr,Keyword→Xv,seqItems?→Xx,IsEnumOut→Xy,Within→Yc,isTrue→Yi,Fin→Zd
open PySem.Around renaming under_plainId→Gi,frames_deeper→Sc,under_plain→Uc
open PySem.AutoSeq1 renaming wpAny_loadPart'→Gy
open PySem.Builtin.Builtins renaming bindParams→Xj
open PySem.Builtin.Frozenset renaming updateFrom→Nw,sizeOf→Ph,newClass→Xp
open PySem.Builtin.Getset_descriptor renaming descrCheckInstance→Qh,descrNameAndClass→Qm,descrGetter→Sz,descrGet→Uh
open PySem.Builtin.List renaming listTooLong→Kr,listLengthHint→On,listExtendWith→Oo,listSameRef→Pi,listUpdate→Yl
open PySem.Builtin.ObjectAttr renaming bindTo→OO,dataDescriptor?→Ug,getOf→Yb,find→Yh
open PySem.Builtin.Range renaming rangeSize→Ye
open PySem.Builtin.Slice renaming sliceAdjust→Go,slicePlaces→Gp,sliceApplied→Ip,sliceFields→OK,slicePartIndex→Ww
open PySem.Builtin.SmallTypes renaming nextOf→Dz,ownedTupleIsFree→Es,ownedTupleHandOut→Gw
open PySem.Builtin.Tuple renaming tupleExact→Fc,tupleItemsOf→Jy,tupleCompareSizes→Vr,tupleIsExact→Xo
open PySem.Calls renaming spliced_cons→Ou,Name_function_global→Oy,spliced_nil→OJ,call_function_entry→OX,callWith_builtin→Qo,evalArgs_plain→Se
open PySem.Challenge renaming pw_fewdistances_k10_counts_of_fars→OC,rw_fewdistances_k10_counts_of_fars→OD
open PySem.Code renaming quiet_builtin→Ov
open PySem.F renaming called_set→Do,plain_max_loop→Gk,slot_tuple_iterator_next→Iq,slot_enumerate_next→Jn,args_tuple_add_2→Kq,entry_tuple_add→Kw,slot_list_count→Kz,plainAttrs_dict→Lc,slot_tuple_add→Ls,entry_max_loop→Ly,slot_zip_next→Nd,args_tuple_iterator_next_1→Nr,slot_dict_setdefault→Nt,type_dict_setdefault→Nz,entry_tuple_iterator_next→Og,excBase_ValueError→O6,args_list_count_2→OQ,entry_list_count→Pb,type_list_append→Pj,attr_ValueError→Pv,slot_list_index→Pw,args_enumerate_next_1→Px,entry_type_call→Pz,plain_list_iadd→Qb,slot_dict_items→Qc,plainAttrs_list→Qe,type_list_count→Qf,type_list_index→Qg,entry_enumerate_next→Qr,typeCall_set_1→Qu,entry_set_init→Qv,plain_set_new→Rk,slot_set_iter→Ro,args_list_append_2→Sd,entry_list_append→Sv,slot_list_append→Tv,args_zip_next_1→Vc,entry_zip_next→Vy,slot_int_rmul→Wp
open PySem.Heap renaming get?_push_of_some→Ag,lt_size→Ax,get?_push_size→Bb,get?_update_other→Cc,size_push→Ea,get?_update_self→Et,SameBut→Ex,get?_none_of_le→IN,FlyingW→Nk,MadeExcOf→Rv,IsTuple→Uj,IsList→Vx,ExtBut→Ys,HeldW→Yx
open PySem.Heap.IsSliceOf renaming new→Tu
open PySem.Heap.SameBut renaming update→Hk,refl→OS
open PySem.IsL renaming update→Vu
open PySem.MeetsSeq renaming list_index→Xw,EqGives→Yo
open PySem.NameKind renaming free→IG,cell→Xt
open PySem.Obj renaming mapSeq→Ew,mapFields→Tg,data_mapFields→Tx,putSet→Xd
open PySem.SeqAt renaming list_countAt→Pc
open PySem.SeqAt.EqAt renaming bool_bool→Xn,same→Xu,of_refs→Yj
open PySem.SetTable renaming insertAt→Bx,below→Ca,sizeAbove→Fa,grown→Hi,runEnd→Hn,insertAt_perm→Ie,fill→Kg,Probe→Lo,toList_insertAt→Pe,tooFull→Pr,laid→Tc,fits→Td,has→Uk,layClean→Vf,slot→Xz
open PySem.SetTable.below renaming go→Ve
open PySem.SetTable.layClean renaming free→Ig
open PySem.SetTable.probe renaming go→Jp
open PySem.Shared renaming heap→Mn,TypeIs→OW
open PySem.Str renaming ofString→Fv
open PySem.Value renaming ref→Dc,none→Dp,bool→Gg,type→Hv,int→My,str→Up,isStrOf→Xq,builtin→Xs,isInt→Yp,float→Yq
open PySem.W renaming Frag→Ak,nsIn→Dt,kia_one→Ek,keepIn→En,fnOf→Ho,exmOne→IR,kitOne→Jt,callWith_K→Kt,findIn→Lf,codeIn→Lg,cellsFrom_some→Lr,hideAll→Mz,methodObj→OF,kitx_list→OI,nsMap_none_of_in→Pa,instObj→Qj,lookIn→Ru,hideAll_get→Sh,mroIn→Sk,WalkO→Sx,mg_of→Tk,of_hideAll→Tr,kitx_tuple→Ts,codeRec_of→Tt,isNs_of_in→Tw,looks_findIn→Uf,specialIn→Ut,kitx_dict→Uu,plainGet→Vq,takesIn→Wk,OpenLaw→Wm,nsOkIn→Xh
open PySem.W.Looks renaming ld→Ze
open PySem.W.WData renaming int→Zc
open PySem.W.WShape renaming has→Yw
open PySem.Walks renaming list→Ta,tuple→Vw
open PySem.pickOrder renaming go→Ul
open Sum renaming inl→IE,inr→Qi
open Sum.inl renaming inj→Rb
open True renaming intro→Ix
open _root_ renaming List→Ab,Nat→Ai,Int→Aj,Option→Am,Bool→Ar,Array→Ay,if_neg→Bf,if_pos→Bi,decide_eq_true_eq→Ct,of_decide_eq_true→Cu,decide_eq_false→Cz,decide_eq_true→De,if_true→Dk,beq_self_eq_true→Eg,if_false→Eh,String→Ej,decide_eq_false_iff_not→Fj,False→Fn,or_false→Fz,beq_eq_false_iff_ne→IS,decide_true→IW,decide_false→IZ,True→Mv,beq_iff_eq→Nq,Decidable→OE,Unit→Pk,not_or→To,StateT→Tq,DecidableEq→Vn
noncomputable section
def om {p:Prop}(h:p:=by omega):p:=h
def kd {p:Prop}[OE p](h:p:=by decide +kernel):p:=h
section
namespace _L
open PySem PySem.Spec PyProof.Rows
abbrev Key:=Sum Aj As
def gZ:Key→Ad→Ar
 |.inl k,v=>Yp k v
 |.inr x,v=>Xq x v
def CU (w:Bz):Key→Aj
 |.inl k=>hashInt k
 |.inr x=>hashStr w x
def xJ:∀ {k:Key} {v:Ad},gZ k v=true→(∃ i t,k=IE i∧v=My i t)∨(∃ x t,k=Qi x∧v=Up x t)
 |.inl i,v,h=>by
  obtain⟨t,e⟩:=Value.isInt_shape (k:=i) (v:=v) h;exact .inl ⟨i,t,rfl,e⟩
 |.inr x,v,h=>by
  obtain⟨t,e⟩:=Value.isStrOf_shape (x:=x) (v:=v) h;exact .inr ⟨x,t,rfl,e⟩
def XG (i:Aj)(t:Pu):gZ (.inl i) (.int i t)=true:=by simp[gZ,Yp]
def XH (x:As)(t:Pu):gZ (.inr x) (.str x t)=true:=by simp[gZ,Xq]
def NT (a b:Aj):decide ((IE a:Key)=IE b)=(a == b):=by
 by_cases e:a=b
 ·subst e;simp
 ·have h:¬ (IE a:Key)=IE b:=λq=>e (Rb q)
  rw[Cz h];exact(IS.mpr e).symm
def NW (a b:As):decide ((Qi a:Key)=Qi b)=decide (a=b):=by
 by_cases e:a=b
 ·subst e;simp
 ·have h:¬ (Qi a:Key)=Qi b:=λq=>e (Sum.inr.inj q)
  rw[Cz h,Cz e]
def NU (a:Aj)(b:As):decide ((IE a:Key)=Qi b)=false:=Cz (λq=>nomatch q)
def NV (a:As)(b:Aj):decide ((Qi a:Key)=IE b)=false:=Cz (λq=>nomatch q)
def x5 (prog:Bl)(w:Bz):PySem.KeyKind prog w Key where
 is:=gZ
 hash:=CU w
 inj:=λv a b ha hb=>by
  rcases xJ ha with⟨i,t,rfl,rfl⟩|⟨x,t,rfl,rfl⟩
  ·rcases xJ hb with⟨j,u,rfl,e⟩|⟨y,u,rfl,e⟩
   ·injection e with e1 _;rw[e1]
   ·exact nomatch e
  ·rcases xJ hb with⟨j,u,rfl,e⟩|⟨y,u,rfl,e⟩
   ·exact nomatch e
   ·injection e with e1 _;rw[e1]
 byValue:=λk v h=>by
  rcases xJ h with⟨i,t,rfl,rfl⟩|⟨x,t,rfl,rfl⟩ <;> rfl
 pyHash:=λhv h=>by
  rcases xJ hv with⟨i,t,rfl,rfl⟩|⟨x,t,rfl,rfl⟩
  ·exact wpAny_pyHash_int h
  ·exact wpAny_pyHash_str h
 eqBool:=λhu hv h=>by
  rcases xJ hu with⟨i,t,rfl,rfl⟩|⟨x,t,rfl,rfl⟩
  ·rcases xJ hv with⟨j,u,rfl,rfl⟩|⟨y,u,rfl,rfl⟩
   ·rw[NT] at h;exact Vm h
   ·rw[NU] at h;exact SeqAt.EqAt.int_str i t y u _ _ _ _ h
  ·rcases xJ hv with⟨j,u,rfl,rfl⟩|⟨y,u,rfl,rfl⟩
   ·rw[NV] at h;exact SeqAt.EqAt.str_int x t j u _ _ _ _ h
   ·rw[NW] at h;exact wpAny_eqBool_str h
 «strs»:=λk x t v h=>by
  rcases xJ h with⟨i,u,rfl,e⟩|⟨y,u,rfl,e⟩
  ·exact nomatch e
  ·injection e with e1 _
   subst e1;cases v <;> rfl
def cH (prog:Bl)(w:Bz)(i:Aj)(t:Pu):(x5 prog w).is (.inl i) (.int i t)=true:=XG i t
def cI (prog:Bl)(w:Bz)(x:As)(t:Pu):(x5 prog w).is (.inr x) (.str x t)=true:=XH x t
end _L
namespace _L
open PySem PySem.Spec PyProof.Rows
inductive V where
 |non|bl (b:Ar)|int (i:Aj)|str (x:As)|byt (b:Ay UInt8)|flt (b:UInt64)|ref (a:Af)|ty (n:Ej)
 deriving Vn
def qL:V→Ad→Prop
 |.non,u=>u=Dp
 |.bl b,u=>u=Gg b
 |.int i,u=>∃ t,u=My i t
 |.str x,u=>∃ t,u=Up x t
 |.byt b,u=>∃ t,u=Value.bytes b t
 |.flt b,u=>∃ t,u=Yq b t
 |.ref a,u=>u=Dc a
 |.ty n,u=>u=Hv n
abbrev qK:Ab V→Ab Ad→Prop:=Paired qL
def qK.length {xs:Ab V}{us:Ab Ad}(r:qK xs us):xs.length=us.length:=Paired.length r
def qK.get:∀ {xs:Ab V} {us:Ab Ad} {i:Ai} {x:V},qK xs us→xs[i]? = Aa x→∃ u,us[i]? = Aa u∧qL x u
 |_,_,_,_,.nil,e=>by simp at e
 |_,_,0,_,.cons r _,e=>by simp at e;subst e;exact⟨_,rfl,r⟩
 |_,_,i+1,x,.cons _ t,e=>by
  obtain⟨u,h1,h2⟩:=qK.get (i:=i) (x:=x) t (by simpa using e)
  exact⟨u,by simpa using h1,h2⟩
def qK.set {x:V}{u:Ad}(r:qL x u):∀ {xs:Ab V} {us:Ab Ad} (i:Ai),qK xs us→qK (xs.set i x) (us.set i u)
 |_,_,_,.nil=>.nil
 |_,_,0,.cons _ t=>.cons r t
 |_,_,i+1,.cons q t=>.cons q (qK.set r i t)
def qK.append {xs ys:Ab V}{us ws:Ab Ad}(h:qK xs us)(s:qK ys ws):qK (xs++ys) (us++ws):=by
 induction h with
 |nil=>exact s
 |cons r t ih=>exact .cons r ih
def qK.take:∀ {xs:Ab V} {us:Ab Ad} (n:Ai),qK xs us→qK (xs.take n) (us.take n)
 |_,_,0,_=>.nil
 |_,_,_+1,.nil=>.nil
 |_,_,n+1,.cons r t=>.cons r (qK.take n t)
def qK.drop:∀ {xs:Ab V} {us:Ab Ad} (n:Ai),qK xs us→qK (xs.drop n) (us.drop n)
 |_,_,0,r=>r
 |_,_,_+1,.nil=>.nil
 |_,_,n+1,.cons _ t=>qK.drop n t
def gP:Am V→Am Ad→Prop
 |some v,Aa u=>qL v u
 |none,none=>Mv
 |_,_=>Fn
def KV {κ : Type}:Ab (κ × V)→Ab (κ × Ad)→Prop:=Paired λ(p:κ × V) (q:κ × Ad)=>p.1=q.1∧qL p.2 q.2
def kV:Key→V
 |.inl i=>.int i
 |.inr x=>.str x
inductive HO where
  |lst (xs:Ab V)
  |tup (xs:Ab V)
  |dK (kvs:Ab (Key × V))|dT (kvs:Ab (Ab Key × V))
  |set (S:Aj→Ar) (n:Ai)
  |ins (C dx:Af) (fs:Ab (As × V))
  |own (x:Af)
  |xd (fs:Ab (As × V))
  |met (f x:Af)
  |rng (lo hi:Aj)
  |frz (o:Cs) (u:HO)
  |tbl (ps:Ay Ad)
  |ext (φ : Bs→Prop)
abbrev Hp:=Af→Am HO
def upd (H:Hp)(a:Af)(o:HO):Hp:=λb=>if b=a then Aa o else H b
def zE {H:Hp}{a:Af}{o:HO}:upd H a o a=Aa o:=by unfold upd;rw[Bi rfl]
def qR {H:Hp}{a b:Af}{o:HO}(h:b≠a):upd H a o b=H b:=by unfold upd;rw[Bf h]
def E4 {H:Hp}{a b:Af}{o u:HO}(h:H a=Aa o)(h':H b=Aa u)(d:o≠u):a≠b:=by
 intro e;subst e;rw[h] at h';exact d (Co h')
def zK {H:Hp}{a b:Af}{o:HO}(h:H a=Aa o)(h':H b=none):a≠b:=by
 intro e;subst e;rw[h] at h';cases h'
section
variable (P:Bl)(w:Bz)
def zT (H:Hp)(h:Bs)(a:Af):HO→Prop
 |.lst xs=>xs.length≤sizeLine∧∃ (its:Ab Ad) (n:Ai),qK xs its∧h.get? a=Aa { cls:=.type "list",data:=.seq its.toArray n }
 |.tup xs=>xs.length≤sizeLine∧∃ its:Ab Ad,qK xs its∧Oa h a its.toArray
 |.dK kvs=>kvs.length≤sizeLine∧(a == IT)=false∧∃ vs,KV kvs vs∧h.DictOf (x5 P w) a vs
 |.dT kvs=>kvs.length≤sizeLine∧(a == IT)=false∧∃ xs:Ab (Ab Key × Af × Ad),
   Paired (λ(p:Ab Key × V) (q:Ab Key × Af × Ad)=>p.1=q.1∧H q.2.1=Aa (.tup (p.1.map kV))∧qL p.2 q.2.2) kvs xs ∧
   ∃ o es ep,h.get? a=Aa o∧o.ExactDict∧o.data=.dict es ep∧es.toList=xs.map (entryOfKey (Rc (x5 P w)))∧(xs.map (·.1)).Nodup
 |.set S n=>h.SetOf (Bg P w) a S n
 |.ins C dx fs=>H dx=Aa (.own a)∧fs.length≤1000∧dx≠a∧h.get? a=Aa (Qj C dx) ∧
   ∃ mA,h.Ns1 dx mA∧(∀ f,gP (fs.lookup f) (mA f))∧Yc mA (fs.map (·.1))
 |.own _=>∃ o,h.get? a=Aa o
 |.xd fs=>∃ mA,h.Ns1 a mA∧∀ f,gP (fs.lookup f) (mA f)
 |.rng lo hi=>∃ t u v,h.get? a=Aa { cls:=.type "range",data:=.fields #[.int lo t,.int hi u,.int 1 v] }
 |.frz o u=>h.get? a=Aa o∧zT H h a u
 |.tbl ps=>h.get? a=Aa { cls:=.none,data:=.fields ps }
 |.met f x=>h.get? a=Aa (OF (.ref f) (.ref x))
 |.ext φ => φ h∧(∃ o,h.get? a=Aa o)∧∀ h1 h2:Bs,φ h1→(∀ o,h1.get? a=Aa o→h2.get? a=Aa o)→φ h2
def HOk (H:Hp)(h:Bs):Prop:=∀ a o,H a=Aa o→zT P w H h a o
end
section
variable {P:Bl}{w:Bz}{H H':Hp}{h h':Bs}{a:Af}{o:HO}
def zT.lt (x:zT P w H h a o):a<h.objs.size:=by
 cases o with
 |lst xs=>obtain⟨_,_,_,_,e⟩:=x;exact Ax e
 |tup xs=>obtain⟨_,_,_,p⟩:=x;exact p.lt
 |dK kvs=>obtain⟨_,_,_,_,o,_,_,e,_⟩:=x;exact Ax e
 |dT kvs=>obtain⟨_,_,_,_,o,_,_,e,_⟩:=x;exact Ax e
 |set S n=>obtain⟨o,_,_,_,e,_⟩:=x;exact Ax e
 |ins C dx fs=>obtain⟨_,_,_,e,_⟩:=x;exact Ax e
 |own y=>obtain⟨_,e⟩:=x;exact Ax e
 |xd fs=>obtain⟨_,⟨_,_,_,e,_⟩,_⟩:=x;exact Ax e
 |rng lo hi=>obtain⟨_,_,_,e⟩:=x;exact Ax e
 |frz ob u=>obtain⟨e,_⟩:=x;exact Ax e
 |tbl ps=>exact Ax (show h.get? a=Aa _ from x)
 |met f y=>exact Ax (show h.get? a=Aa _ from x)
 |ext φ => obtain⟨_,⟨_,e⟩,_⟩:=x;exact Ax e
def Paired.mapP {α β:Type}{F G:α→β→Prop}{l₁:Ab α}{l₂:Ab β}(h:Paired F l₁ l₂)(f:∀ a b,F a b→G a b):Paired G l₁ l₂:=by
 induction h with
 |nil=>exact .nil
 |cons r t ih=>exact .cons (f _ _ r) ih
def zT.stay (x:zT P w H h a o)(k:∀ b u,(b=a∨H b=Aa (.own a))→h.get? b=Aa u→h'.get? b=Aa u)
  (ho:∀ b,H b=Aa (.own a)→H' b=Aa (.own a)) (ht:∀ b xs,H b=Aa (.tup xs)→H' b=Aa (.tup xs)):zT P w H' h' a o:=by
 induction o with
 |lst xs=>obtain⟨z,its,n,r,e⟩:=x;exact⟨z,its,n,r,k _ _ (.inl rfl) e⟩
 |tup xs=>obtain⟨z,its,r,ob,e,c⟩:=x;exact⟨z,its,r,ob,k _ _ (.inl rfl) e,c⟩
 |dK kvs=>obtain⟨z,y,vs,r,ob,es,ep,e,c⟩:=x;exact⟨z,y,vs,r,ob,es,ep,k _ _ (.inl rfl) e,c⟩
 |dT kvs =>
  obtain⟨z,y,xs,r,ob,es,ep,e,c⟩:=x;exact⟨z,y,xs,Paired.mapP r λp q z=>⟨z.1,ht _ _ z.2.1,z.2.2⟩,ob,es,ep,k _ _ (.inl rfl) e,c⟩
 |set S n=>obtain⟨ob,es,ep,t,e,c⟩:=x;exact⟨ob,es,ep,t,k _ _ (.inl rfl) e,c⟩
 |ins C dx fs =>
  obtain⟨d,z,ne,e,mA,⟨od,es,ep,e2,c⟩,r⟩:=x;exact⟨ho _ d,z,ne,k _ _ (.inl rfl) e,mA,⟨od,es,ep,k _ _ (.inr d) e2,c⟩,r⟩
 |own y=>obtain⟨ob,e⟩:=x;exact⟨ob,k _ _ (.inl rfl) e⟩
 |xd fs=>obtain⟨mA,⟨od,es,ep,e,c⟩,r⟩:=x;exact⟨mA,⟨od,es,ep,k _ _ (.inl rfl) e,c⟩,r⟩
 |rng lo hi=>obtain⟨t,u,v,e⟩:=x;exact⟨t,u,v,k _ _ (.inl rfl) e⟩
 |frz ob u ih=>obtain⟨e,q⟩:=x;exact⟨k _ _ (.inl rfl) e,ih q⟩
 |tbl ps =>
  have e:h.get? a=Aa { cls:=.none,data:=.fields ps }:=x;show h'.get? a=Aa { cls:=.none,data:=.fields ps };exact k a _ (.inl rfl) e
 |met f y =>
  have e:h.get? a=Aa (OF (.ref f) (.ref y)):=x;show h'.get? a=Aa (OF (.ref f) (.ref y));exact k a _ (.inl rfl) e
 |ext φ => obtain⟨p,⟨o,e⟩,st⟩:=x;exact⟨st _ _ p λo q=>k _ _ (.inl rfl) q,⟨o,k _ _ (.inl rfl) e⟩,st⟩
def HOk.lt (x:HOk P w H h)(e:H a=Aa o):a<h.objs.size:=(x a o e).lt
def HOk.fresh (x:HOk P w H h)(e:h.objs.size≤a):H a=none:=by
 cases q:H a with
 |none=>rfl
 |some u=>exact absurd (Bv (x.lt q) e) (Er _)
def HOk.kept (x:HOk P w H h)(k:∀ b u,h.get? b=Aa u→h'.get? b=Aa u):HOk P w H h':=λa o e =>
 (x a o e).stay (λb u _ q=>k b u q) (λ_ q=>q) λ_ _ q=>q
def HOk.laid (x:HOk P w H h)(k:∀ b u,h.get? b=Aa u→h'.get? b=Aa u)(hp:h.objs.size≤a)(new:zT P w (upd H a o) h' a o):HOk P w (upd H a o) h':=λb u e=>by
 have hn:=x.fresh hp;by_cases hb:b=a
 ·subst hb;rw[zE] at e;cases e;exact new
 ·rw[qR hb] at e
  exact(x b u e).stay (λc v _ q=>k c v q) (λc q=>by rw[qR (zK q hn)];exact q) λc xs q=>by rw[qR (zK q hn)];exact q
end
def Rd (H:Hp)(a:Af)(u:HO):Prop:=H a=Aa u∨∃ o,H a=Aa (.frz o u)
def Rd.of {H:Hp}{a:Af}{u:HO}(h:H a=Aa u):Rd H a u:=.inl h
def Rd.ok {P:Bl}{w:Bz}{H:Hp}{h:Bs}{a:Af}{u:HO}(r:Rd H a u)(x:HOk P w H h):zT P w H h a u:=by
 rcases r with r|⟨o,r⟩
 ·exact x a u r
 ·obtain⟨_,q⟩:=x a _ r
  exact q
def Mut:Am HO→Prop
 |some (.lst _)=>Mv
 |some (.dK _)=>Mv
 |some (.dT _)=>Mv
 |some (.set _ _)=>Mv
 |some (.ins _ _ _)=>Mv
 |some (.ext _)=>Mv
 |_=>Fn
section
variable {P:Bl}{w:Bz}{H:Hp}{h h':Bs}{x e:Af}{o':HO}
def HOk.write (ok:HOk P w H h)(mu:Mut (H x))(he:e=x∨H e=Aa (.own x))(k:∀ b u,b≠e→h.get? b=Aa u→h'.get? b=Aa u)(heo:∃ u,h'.get? e=Aa u)
  (new:zT P w (upd H x o') h' x o'):HOk P w (upd H x o') h':=λb u q=>by
 have nown:∀ c y,H c=Aa (.own y)→c≠x:=λc y r z=>by subst z;rw[r] at mu;exact mu
 have ntup:∀ c xs,H c=Aa (.tup xs)→c≠x:=λc xs r z=>by subst z;rw[r] at mu;exact mu
 by_cases hb:b=x
 ·subst hb;rw[zE] at q;cases q;exact new
 ·rw[qR hb] at q
  by_cases hbe:b=e
  ·have q':H b=Aa (.own x):=by
    rcases he with z|z
    ·exact absurd (hbe.trans z) hb
    ·rw[hbe];exact z
   rw[q] at q';cases q';obtain⟨v,hv⟩:=heo;exact⟨v,by rw[hbe];exact hv⟩
  ·refine(ok b u q).stay (λc v hc r=>k c v ?_ r) (λc r=>by rw[qR (nown c b r)];exact r) λc xs r=>by rw[qR (ntup c xs r)];exact r
   rcases hc with rfl|hc
   ·exact hbe
   ·rintro rfl
    rcases he with z|z
    ·exact nown c b hc z
    ·rw[hc] at z;cases z;exact hb rfl
end
structure Un (fs ex:Ab Af)(H H':Hp)(h h':Bs):Prop where
 keep:∀ b o,h.get? b=Aa o→H b=none→b ∉ fs→b ∉ ex→h'.get? b=Aa o
 slot:∀ b o,h.get? b=Aa o→H b=none→b∈fs→b ∉ ex→∃ sl,h'.get? b=Aa { o with slots:=sl }
 free:∀ b o,h.get? b=Aa o→H b=none→b ∉ ex→H' b=none
 there:∀ b o,h.get? b=Aa o→b ∉ ex→∃ o',h'.get? b=Aa o'
 tups:∀ b xs,H b=Aa (.tup xs)→H' b=Aa (.tup xs)
 frzs:∀ b o u,H b=Aa (.frz o u)→H' b=Aa (.frz o u)
 tbls:∀ b ps,H b=Aa (.tbl ps)→∃ more,H' b=Aa (.tbl (ps++more))
section
variable {fs fs' ex ex':Ab Af}{H H1 H2:Hp}{h h1 h2 h':Bs}{a x e:Af}{o:HO}
def Un.any (u:Un fs ex H H1 h h1){b:Af}{ob:Cs}(q:h.get? b=Aa ob)(n:H b=none)(hx:b ∉ ex):∃ sl,h1.get? b=Aa { ob with slots:=sl }:=by
 by_cases hb:b∈fs
 ·exact u.slot b ob q n hb hx
 ·exact⟨ob.slots,u.keep b ob q n hb hx⟩
def Un.kept (k:∀ b u,h.get? b=Aa u→h'.get? b=Aa u):Un fs ex H H h h':=
 ⟨λb ob q _ _ _=>k b ob q,λb ob q _ _ _=>⟨ob.slots,k b ob q⟩,λ_ _ _ n _=>n,λb ob q _=>⟨ob,k b ob q⟩,λ_ _ q=>q,λ_ _ _ q=>q,λ_ ps q=>⟨#[],by rw[q];simp⟩⟩
def Un.refl:Un fs ex H H h h:=Un.kept λ_ _ q=>q
def Un.laid (k:∀ b u,h.get? b=Aa u→h'.get? b=Aa u)(hp:h.objs.size≤a)(hn:H a=none):Un fs ex H (upd H a o) h h' where
 keep:=λb u q _ _ _=>k b u q
 slot:=λb u q _ _ _=>⟨u.slots,k b u q⟩
 free:=λb u q n _=>by rw[qR (Cj (Bv (Ax q) hp))];exact n
 there:=λb u q _=>⟨u,k b u q⟩
 tups:=λb xs q=>by rw[qR (zK q hn)];exact q
 frzs:=λb u xs q=>by rw[qR (zK q hn)];exact q
 tbls:=λb ps q=>⟨#[],by rw[qR (zK q hn),q];simp⟩
def Un.write (mu:Mut (H x))(he:e=x∨H e=Aa (.own x))(k:∀ b u,b≠e→h.get? b=Aa u→h'.get? b=Aa u)(heo:∃ u,h'.get? e=Aa u):Un fs ex H (upd H x o) h h':=by
 have hx:∀ b,H b=none→b≠x:=λb n z=>by subst z;rw[n] at mu;exact mu
 have hb:∀ b,H b=none→b≠e:=λb n z=>by
  subst z;rcases he with r|r
  ·exact hx b n r
  ·rw[n] at r;cases r
 have hm:∀ b u,H b=Aa u→¬ Mut (Aa u)→b≠x:=λb u q nm z=>by subst z;rw[q] at mu;exact nm mu
 refine⟨λb u q n _ _=>k b u (hb b n) q,λb u q n _ _=>⟨u.slots,k b u (hb b n) q⟩,λb u q n _=>by rw[qR (hx b n)];exact n,λb u q _=>?_,
  λb xs q=>by rw[qR (hm b _ q λz=>z)];exact q,λb u xs q=>by rw[qR (hm b _ q λz=>z)];exact q,λb ps q=>⟨#[],by rw[qR (hm b _ q λz=>z),q];simp⟩⟩
 by_cases hbe:b=e
 ·subst hbe;exact heo
 ·exact⟨u,k b u hbe q⟩
end
def trk (h:Bs)(H:Hp):Ab Af:=(Dq h.objs.size).filter λa=>(H a).isSome
def gV (h:Bs)(H:Hp):Bs:=Mz h (trk h H)
def X9 (h:Bs)(H:Hp):(gV h H).objs.size=h.objs.size:=PySem.W.hideAll_size _ _
def U0 {h:Bs}{H:Hp}{b:Af}{o:Cs}(e:h.get? b=Aa o)(n:H b=none):(gV h H).get? b=Aa o:=
 Sh _ e λhm=>by
  have q:(H b).isSome=true:=(Qk.mp hm).2;rw[n] at q;simp at q
def F2 {h:Bs}{H:Hp}{b:Af}{o:Cs}(e:(gV h H).get? b=Aa o):h.get? b=Aa o∧H b=none:=by
 have e':h.get? b=Aa o:=Tr (trk h H) e;refine⟨e',?_⟩;cases q:H b with
 |none=>rfl
 |some x =>
  have hm:b∈trk h H:=Qk.mpr ⟨Em.mpr (Ax e'),by simp[q]⟩
  have z:(gV h H).get? b=none:=PySem.W.hideAll_none (trk h H) hm;rw[z] at e;cases e
end _L
namespace _L
open PySem PySem.Spec PyProof.Rows
variable {ch:Ab Af}{E:Ad→Ah→Prop}{t':Ai}{g':Ay Wj}{d':Drawn}{M:Ks}{Q:Pk→Ah→Prop}
structure Mod (K:Ak)(mg:As→Am Ad)(base:Bs):Prop where
 kin:K.In base
 glob:base.Ns Cn mg
 blt:∃ mb,base.Ns Wu mb∧∀ x:As,x ≠ "__name__" → mb x=Ge x
 nolimit:base.NoLimit
structure Cx where
 prog:Bl
 w:Bz
 K:Ak
 mg:As→Am Ad
 base:Bs
 A:By
 N:Ab As
 s₀:Ah
 H₀:Hp
 env:Jv
 outer:Ab Jv
 stack:Ab Jv
 ex:Ab Af
 fn:As→Ar
 calm:Ar
 pn:Ab (Af × Cs)
 xe:Ad→Ah→Prop
def frs (l:Ab Jv):Ab Af:=l.filterMap (·.frame)
abbrev Cx.fs (X:Cx):Ab Af:=frs X.outer
def Vis (sc:Gu)(x:As):Prop:=sc.names.lookup x=Aa .local ∨ sc.names.lookup x=Aa .cell∨sc.names.lookup x=Aa .free
def Loc (sc:Gu)(x:As):Prop:=sc.names.lookup x=Aa .local ∨ sc.names.lookup x=Aa .cell
def MR (env:Jv)(h:Bs)(m:As→Am Ad)(x:As)(u:Ad):Prop:=
 (env.kindOf x=Aa .local ∧ m x=Aa u)∨((env.kindOf x=Aa .cell∨env.kindOf x=Aa .free)∧∃ c,env.cells.lookup x=Aa c∧h.IsCell c (Aa u))
structure Cx.Ok (X:Cx):Prop where
 mod:Mod X.K X.mg X.base
 kind:X.env.scope.kind=.function
 glob:X.env.globals=Cn
 blt:X.env.builtins=Wu
 above:X.s₀.heap.objs.size≤X.env.locals
 inj:∀ x y c,X.env.cells.lookup x=Aa c→X.env.cells.lookup y=Aa c→x=y
 has:∀ x,(X.env.kindOf x=Aa .cell∨X.env.kindOf x=Aa .free)→∃ c,X.env.cells.lookup x=Aa c
 cab:∀ x c,X.fn x=true→X.env.cells.lookup x=Aa c→X.s₀.heap.objs.size≤c
 hd:X.calm=true→X.A.handled=none
 frames:X.A.frames=Aa X.stack
 stk:X.stack=X.outer∨(X.stack=X.env::X.outer∧X.env.frame=Aa X.env.locals)
 exf:∀ b∈X.ex,b≠X.env.locals∧∀ x c,X.env.cells.lookup x=Aa c→c≠b
 bs:∀ b o,X.base.get? b=Aa o→X.s₀.heap.get? b=Aa o∧X.H₀ b=none
 bsz:X.base.objs.size≤X.s₀.heap.objs.size
 noex:∀ b o,X.base.get? b=Aa o→b ∉ X.ex
 exfs:∀ b∈X.ex,b ∉ X.fs
 funs:X.s₀.heap.FunFrames X.base X.outer
 frf:∀ b∈X.fs,X.H₀ b=none
structure Inv (X:Cx)(pins:Ab (Af × Cs))(σ : Ab (Am V))(H:Hp)(s:Ah):Prop where
 ok:X.Ok
 os:s.os=X.s₀.os
 bare:Lz s.gens
 base:Un X.fs X.ex X.H₀ H X.s₀.heap s.heap
 loc:∃ m,s.heap.Ns X.env.locals m∧∀ (i:Ai) (x:As) (v:V),X.N[i]? = Aa x→σ[i]? = Aa (Aa v)→Vis X.env.scope x→∃ u,qL v u∧MR X.env s.heap m x u
 cell:∀ x c,X.env.cells.lookup x=Aa c→∃ v,s.heap.IsCell c v
 free:H X.env.locals=none
 freeC:∀ x c,X.env.cells.lookup x=Aa c→H c=none
 pin:∀ p∈X.pn++pins,s.heap.get? p.1=Aa p.2∧H p.1=none∧p.1≠X.env.locals∧p.1 ∉ X.fs∧∀ v,p.2.data≠.cell v
 hok:HOk X.prog X.w H s.heap
 len:σ.length=X.N.length
section
variable {X:Cx}{pins:Ab (Af × Cs)}{σ : Ab (Am V)}{H H':Hp}{s:Ah}{h':Bs}
def Cx.Ok.nofr (ok:X.Ok){b:Af}{o:Cs}(e:X.base.get? b=Aa o):b ∉ X.fs:=λhb=>by
 have:=(ok.funs.mem hb).1;rw[e] at this;cases this
def Inv.bs (I:Inv X pins σ H s):∀ b o,X.base.get? b=Aa o→s.heap.get? b=Aa o∧H b=none:=λb o e =>
 ⟨I.base.keep b o (I.ok.bs b o e).1 (I.ok.bs b o e).2 (I.ok.nofr e) (I.ok.noex b o e),I.base.free b o (I.ok.bs b o e).1 (I.ok.bs b o e).2 (I.ok.noex b o e)⟩
def Inv.bk (I:Inv X pins σ H s):∀ b o,X.base.get? b=Aa o→s.heap.get? b=Aa o:=λb o e=>(I.bs b o e).1
def Inv.mod (I:Inv X pins σ H s):Mod X.K X.mg X.base:=I.ok.mod
def Inv.kIn (I:Inv X pins σ H s):X.K.In s.heap:=I.ok.mod.kin.keeps I.bk
def Inv.nolimit (I:Inv X pins σ H s):s.heap.NoLimit:=I.ok.mod.nolimit.keeps I.bk
def Inv.lt (I:Inv X pins σ H s):X.env.locals<s.heap.objs.size:=let ⟨_,hn,_⟩:=I.loc;hn.lt
def Inv.sz (I:Inv X pins σ H s):X.s₀.heap.objs.size≤s.heap.objs.size:=Fg I.ok.above (Ku I.lt)
def Inv.nofs (I:Inv X pins σ H s){a:Af}(h:s.heap.objs.size≤a):a ∉ X.fs:=λhb=>by
 obtain⟨_,o,ho,_⟩:=I.ok.funs.mem hb;exact absurd (Bv (Ax ho) (Fg I.sz h)) (Er _)
def Inv.cne (I:Inv X pins σ H s):∀ x c,X.env.cells.lookup x=Aa c→c≠X.env.locals:=λx c e z=>by
 obtain⟨v,o,ho,hd⟩:=I.cell x c e;obtain⟨m,⟨o',es,ep,ho',hd',_⟩,_⟩:=I.loc;rw[z,ho'] at ho;cases ho;rw[hd'] at hd;cases hd
def Inv.funs (I:Inv X pins σ H s):s.heap.FunFrames X.base X.outer:=by
 have all:∀ (l:Ab Jv),(∀ b∈frs l,b∈X.fs)→X.s₀.heap.FunFrames X.base l→s.heap.FunFrames X.base l:=by
  intro l
  induction l with
  |nil=>intro _ _;trivial
  |cons env r ih =>
   intro hs hl;obtain⟨hk,⟨L,o,hf,hn,ho,hd⟩,hr⟩:=hl;have hL:L∈X.fs:=hs L (by unfold frs;rw[Gm,hf];exact Df)
   obtain⟨sl,e⟩:=I.base.slot L o ho (I.ok.frf L hL) hL λz=>I.ok.exfs L z hL;exact⟨hk,⟨L,_,hf,hn,e,hd⟩,ih (λb hb=>hs b (by unfold frs;rw[Gm,hf];exact Bq _ hb)) hr⟩
 exact all X.outer (λ_ hb=>hb) I.ok.funs
def Inv.stack (I:Inv X pins σ H s):s.heap.FunFrames X.base X.stack:=by
 rcases I.ok.stk with e|⟨e,hf⟩
 ·rw[e];exact I.funs
 ·rw[e]
  obtain⟨m,hn,_⟩:=I.loc;refine .cons (by rw[I.ok.kind];decide) hf hn ?_ I.funs
  exact IN (Fg I.ok.bsz I.ok.above)
def Inv.stkSub (I:Inv X pins σ H s):∀ b∈frs X.stack,b∈X.env.locals::X.fs:=λb hb=>by
 rcases I.ok.stk with e|⟨e,hf⟩
 ·rw[e] at hb;exact Bq _ hb
 ·rw[e] at hb
  unfold frs at hb;rw[Gm,hf] at hb;exact hb
def Inv.stkFree (I:Inv X pins σ H s):∀ b∈frs X.stack,H b=none:=λb hb=>by
 rcases Aw.mp (I.stkSub b hb) with e|hb
 ·rw[e];exact I.free
 ·obtain⟨_,o,ho,_⟩:=I.ok.funs.mem hb
  exact I.base.free b o ho (I.ok.frf b hb) λz=>I.ok.exfs b z hb
def Inv.step {g':Ay Wj}{t':Ai}{d':Drawn}(I:Inv X pins σ H s)
  (hch:∀ b∈ch,(b∈X.ex∨X.s₀.heap.objs.size≤b)∧b≠X.env.locals∧(∀ x c,X.env.cells.lookup x=Aa c→c≠b)∧∀ p∈X.pn++pins,p.1≠b)
  (keep:∀ b o,b≠X.env.locals→b ∉ X.fs→b ∉ ch→s.heap.get? b=Aa o→H b=none→h'.get? b=Aa o)
  (slot:∀ b o,b≠X.env.locals→b∈X.fs→b ∉ ch→s.heap.get? b=Aa o→H b=none→∃ sl,h'.get? b=Aa { o with slots:=sl }) (free:∀ b o,b ∉ ch→s.heap.get? b=Aa o→H b=none→H' b=none)
  (there:∀ b o,b ∉ ch→s.heap.get? b=Aa o→∃ o',h'.get? b=Aa o')
  (tups:∀ b xs,H b=Aa (.tup xs)→H' b=Aa (.tup xs)) (frzs:∀ b o u,H b=Aa (.frz o u)→H' b=Aa (.frz o u)) (tbls:∀ b ps,H b=Aa (.tbl ps)→∃ more,H' b=Aa (.tbl (ps++more)))
  (ns:∀ m,s.heap.Ns X.env.locals m→h'.Ns X.env.locals m) (hok:HOk X.prog X.w H' h') (hg:Lz g') :
  Inv X pins σ H' { s with heap:=h',gens:=g',drawn:=d',toks:=t' }:=by
 have neL:∀ b o,X.s₀.heap.get? b=Aa o→b≠X.env.locals:=λb o e=>Cj (Bv (Ax e) I.ok.above);have neC:∀ b o,X.s₀.heap.get? b=Aa o→b ∉ X.ex→b ∉ ch:=λb o e hx hb=>by
  rcases (hch b hb).1 with z|z
  ·exact hx z
  ·exact absurd (Bv (Ax e) z) (Er _)
 have cellK:∀ x c,X.env.cells.lookup x=Aa c→∀ v,s.heap.IsCell c v→h'.IsCell c v:=λx c e v ⟨o,ho,hd⟩=>by
  have nch:c ∉ ch:=λz=>(hch c z).2.2.1 x c e rfl;by_cases hc:c∈X.fs
  ·obtain⟨sl,q⟩:=slot c o (I.cne x c e) hc nch ho (I.freeC x c e)
   exact⟨_,q,hd⟩
  ·exact⟨o,keep c o (I.cne x c e) hc nch ho (I.freeC x c e),hd⟩
 refine⟨I.ok,I.os,hg,⟨λb o e n hb hx=>?_,λb o e n hb hx=>?_,λb o e n hx=>?_,λb o e hx=>?_,λb xs e=>tups b xs (I.base.tups b xs e),λb o xs e=>frzs b o xs (I.base.frzs b o xs e),λb ps e=>?_⟩,?_,λx c e=>?_,?_,λx c e=>?_,λp hp=>?_,hok,I.len⟩
 ·exact keep b o (neL b o e) hb (neC b o e hx) (I.base.keep b o e n hb hx) (I.base.free b o e n hx)
 ·obtain⟨sl,e1⟩:=I.base.slot b o e n hb hx
  obtain⟨sl',e2⟩:=slot b _ (neL b o e) hb (neC b o e hx) e1 (I.base.free b o e n hx);exact⟨sl',e2⟩
 ·obtain⟨o',e1⟩:=I.base.there b o e hx
  exact free b o' (neC b o e hx) e1 (I.base.free b o e n hx)
 ·obtain⟨o',e1⟩:=I.base.there b o e hx
  exact there b o' (neC b o e hx) e1
 ·obtain⟨m1,e1⟩:=I.base.tbls b ps e
  obtain⟨m2,e2⟩:=tbls b _ e1;exact⟨m1++m2,by rw[e2,Array.append_assoc]⟩
 ·obtain⟨m,hn,hl⟩:=I.loc
  refine⟨m,ns m hn,λi x v e1 e2 e3=>?_⟩;obtain⟨u,r,l⟩:=hl i x v e1 e2 e3;refine⟨u,r,?_⟩;rcases l with l|⟨k,c,e,z⟩
  ·exact .inl l
  ·exact .inr ⟨k,c,e,cellK x c e _ z⟩
 ·obtain⟨v,z⟩:=I.cell x c e
  exact⟨v,cellK x c e v z⟩
 ·obtain⟨m,⟨o,_,_,ho,_⟩,_⟩:=I.loc
  exact free _ o (λz=>(hch _ z).2.1 rfl) ho I.free
 ·obtain⟨v,o,ho,hd⟩:=I.cell x c e
  exact free c o (λz=>(hch c z).2.2.1 x c e rfl) ho (I.freeC x c e)
 ·obtain⟨e,n,ne,nf,d⟩:=I.pin p hp
  have nch:p.1 ∉ ch:=λz=>(hch p.1 z).2.2.2 p hp rfl;exact⟨keep p.1 p.2 ne nf nch e n,free p.1 p.2 nch e n,ne,nf,d⟩
def Inv.un {t':Ai}(I:Inv X pins σ H s)(u:Un X.fs [] H H' s.heap h')(hok:HOk X.prog X.w H' h'):Inv X pins σ H' { s with heap:=h',toks:=t' }:=by
 obtain⟨m,⟨o,es,ep,ho,r⟩,_⟩:=id I.loc;obtain⟨sl,hL⟩:=u.any ho I.free (by simp)
 exact I.step (g':=s.gens) (d':=s.drawn) (ch:=[]) (λ_ z=>nomatch z) (λb o _ hb _ e n=>u.keep b o e n hb (by simp)) (λb o _ hb _ e n=>u.slot b o e n hb (by simp)) (λb o _ e n=>u.free b o e n (by simp)) (λb o _ e=>u.there b o e (by simp)) u.tups u.frzs u.tbls (λm' hm=>by
  obtain⟨o',es',ep',ho',r'⟩:=hm;rw[ho] at ho';cases ho';exact⟨_,es',ep',hL,r'⟩) hok I.bare
def Inv.call {t':Ai}{d':Drawn}(I:Inv X pins σ H s)(u:Un (frs X.stack) ch H H' s.heap h')(hok:HOk X.prog X.w H' h')(hg:Lz g')
  (hch:∀ b∈ch,(b∈X.ex∨X.s₀.heap.objs.size≤b)∧b≠X.env.locals∧(∀ x c,X.env.cells.lookup x=Aa c→c≠b)∧∀ p∈X.pn++pins,p.1≠b) :
  Inv X pins σ H' { s with heap:=h',gens:=g',drawn:=d',toks:=t' }:=by
 obtain⟨m,⟨o,es,ep,ho,r⟩,_⟩:=id I.loc;obtain⟨sl,hL⟩:=u.any ho I.free λz=>(hch _ z).2.1 rfl;exact I.step (ch:=ch) hch (λb o hL hb hc e n=>u.keep b o e n (λz=>(Aw.mp (I.stkSub b z)).elim hL hb) hc) (λb o _ _ hc e n=>u.any e n hc) (λb o hc e n=>u.free b o e n hc) (λb o hc e=>u.there b o e hc) u.tups u.frzs u.tbls (λm' hm=>by
  obtain⟨o',es',ep',ho',r'⟩:=hm;rw[ho] at ho';cases ho';exact⟨_,es',ep',hL,r'⟩) hok hg
def Inv.turned {t':Ai}{it:Af}(I:Inv X pins σ H s)(k:∀ b o,b≠it→s.heap.get? b=Aa o→h'.get? b=Aa o)(hn:H it=none)(hL:it≠X.env.locals)
  (h1:it∈X.ex∨X.s₀.heap.objs.size≤it) (h2:∀ x c,X.env.cells.lookup x=Aa c→c≠it) (h3:∀ p∈X.pn++pins,p.1≠it):Inv X pins σ H { s with heap:=h',toks:=t' }:=by
 have nit:∀ b u,H b=Aa u→b≠it:=λb u e z=>by rw[z,hn] at e;cases e
 refine I.step (g':=s.gens) (d':=s.drawn) (ch:=[it]) (λb hb=>?_) (λb o _ _ hc e _=>k b o (λz=>hc (by simp[z])) e) (λb o _ _ hc e _=>⟨o.slots,k b o (λz=>hc (by simp[z])) e⟩) (λ_ _ _ _ n=>n)
  (λb o hc e=>⟨o,k b o (λz=>hc (by simp[z])) e⟩) (λ_ _ e=>e) (λ_ _ _ e=>e) (λb ps e=>⟨#[],by rw[e];simp⟩) (λm hm=>?_) (λb u e=>?_) I.bare
 ·have e:b=it:=by simpa using hb
  subst e;exact⟨h1,hL,h2,h3⟩
 ·obtain⟨o,es,ep,ho,r⟩:=hm
  exact⟨o,es,ep,k _ o (Gx hL) ho,r⟩
 ·refine(I.hok b u e).stay (λc v hc q=>k c v ?_ q) (λ_ q=>q) λ_ _ q=>q
  rcases hc with z|z
  ·rw[z];exact nit b u e
  ·exact nit c _ z
def Inv.tok (I:Inv X pins σ H s)(t:Ai):Inv X pins σ H { s with toks:=t }:=I.un (h':=s.heap) (t':=t) Un.refl I.hok
def Inv.kept {t':Ai}(I:Inv X pins σ H s)(k:∀ b u,s.heap.get? b=Aa u→h'.get? b=Aa u):Inv X pins σ H { s with heap:=h',toks:=t' }:=I.un (Un.kept k) (I.hok.kept k)
def Inv.laid {a:Af}{o:HO}{t':Ai}(I:Inv X pins σ H s)(k:∀ b u,s.heap.get? b=Aa u→h'.get? b=Aa u)(hp:s.heap.objs.size≤a)(new:zT X.prog X.w (upd H a o) h' a o) :
  Inv X pins σ (upd H a o) { s with heap:=h',toks:=t' }:=I.un (Un.laid k hp (I.hok.fresh hp)) (I.hok.laid k hp new)
def Inv.write {x e:Af}{o:HO}{t':Ai}(I:Inv X pins σ H s)(mu:Mut (H x))(he:e=x∨H e=Aa (.own x))(k:∀ b u,b≠e→s.heap.get? b=Aa u→h'.get? b=Aa u)(heo:∃ u,h'.get? e=Aa u)
  (new:zT X.prog X.w (upd H x o) h' x o):Inv X pins σ (upd H x o) { s with heap:=h',toks:=t' }:=I.un (Un.write mu he k heo) (I.hok.write mu he k heo new)
def Inv.pins_of {pins':Ab (Af × Cs)}(I:Inv X pins σ H s)(h:∀ p∈pins',s.heap.get? p.1=Aa p.2∧H p.1=none∧p.1≠X.env.locals∧p.1 ∉ X.fs∧∀ v,p.2.data≠.cell v):Inv X pins' σ H s:=
 ⟨I.ok,I.os,I.bare,I.base,I.loc,I.cell,I.free,I.freeC,λp hp=>(Ch.mp hp).elim (λz=>I.pin p (Dh _ z)) (h p),I.hok,I.len⟩
def mH {N:Ab As}(hN:N.Nodup){i j:Ai}{x:As}(a:N[i]? = Aa x)(b:N[j]? = Aa x):i=j:=by
 obtain⟨h1,e1⟩:=Be.mp a;obtain⟨h2,e2⟩:=Be.mp b;exact(Ma hN).mp (e1.trans e2.symm)
def dX {A:By}{i:Ai}{x:As}{v:V}{u:Ad}(I:Inv X pins σ H s)(hN:X.N.Nodup)(hi:X.N[i]? = Aa x)(hx:Loc X.env.scope x)(r:qL v u)
  (h:∀ s',Inv X pins (σ.set i (Aa v)) H s'→(∃ a,Ex a s.heap s'.heap∧(a=X.env.locals∨X.env.cells.lookup x=Aa a))→Q () s') (hf:X.fn x=true∨X.env.scope.names.lookup x=Aa .local:=by first|exact .inl rfl|exact .inr rfl|assumption):Ao M A (storeName X.env x u) Q E s:=by
 obtain⟨m,hn,hl⟩:=id I.loc;have hcls:(X.env.scope.kind == .class||(X.env.scope.kind == .module&&X.env.locals != X.env.globals))=false:=by rw[I.ok.kind];rfl
 have hiσ:i<σ.length:=by rw[I.len];exact(Be.mp hi).1
 have cne:=I.cne;have tracked:∀ {a:Af} {h':Bs},(∃ o,s.heap.get? a=Aa o∧H a=none)→Ex a s.heap h'→HOk X.prog X.w H h':=λ{a h'} ha hs b ob e=>by
  obtain⟨_,_,hfree⟩:=ha;refine(I.hok b ob e).stay (λc w' hc q=>(hs.2 c ?_).trans q) (λ_ q=>q) λ_ _ q=>q;rintro rfl;rcases hc with rfl|hc
  ·rw[hfree] at e;cases e
  ·rw[hfree] at hc;cases hc
 rcases hx with hk|hk
 ·refine wpAny_storeName_local hk hn (λh' hn' hs=>?_) hcls
  obtain⟨oL,_,_,hoL,_⟩:=id hn;refine h _ ⟨I.ok,I.os,I.bare,⟨λb o e n hb hx=>?_,λb o e n hb hx=>?_,I.base.free,λb o e hx=>?_,I.base.tups,I.base.frzs,I.base.tbls⟩,⟨_,hn',λj y v' e1 e2 e3=>?_⟩,λy c e=>?_,I.free,I.freeC,λp hp=>?_,tracked ⟨oL,hoL,I.free⟩ hs,by simpa using I.len⟩ ⟨_,hs,.inl rfl⟩
  ·exact(hs.2 b (Cj (Bv (Ax e) I.ok.above))).trans (I.base.keep b o e n hb hx)
  ·obtain⟨sl,e1⟩:=I.base.slot b o e n hb hx
   exact⟨sl,(hs.2 b (Cj (Bv (Ax e) I.ok.above))).trans e1⟩
  ·obtain⟨o',e1⟩:=I.base.there b o e hx
   exact⟨o',(hs.2 b (Cj (Bv (Ax e) I.ok.above))).trans e1⟩
  ·by_cases hj:j=i
   ·subst hj
    rw[hi] at e1;cases e1;rw[Ec hiσ] at e2;cases e2;exact⟨u,r,.inl ⟨hk,by simp⟩⟩
   ·rw[Cp (Gx hj)] at e2
    obtain⟨u',r',q⟩:=hl j y v' e1 e2 e3;refine⟨u',r',?_⟩;rcases q with⟨k,e⟩|⟨k,c,e,z⟩
    ·refine .inl ⟨k,?_⟩
     have:y≠x:=λe=>hj (mH hN e1 (e▸hi));simp[this,e]
    ·exact .inr ⟨k,c,e,z.sameBut hs (cne y c e)⟩
  ·obtain⟨w',z⟩:=I.cell y c e
   exact⟨w',z.sameBut hs (cne y c e)⟩
  ·obtain⟨e,n,ne,nf,d⟩:=I.pin p hp
   exact⟨(hs.2 p.1 ne).trans e,n,ne,nf,d⟩
 ·have hfn:X.fn x=true:=by
   rcases hf with z|z
   ·exact z
   ·rw[z] at hk;cases hk
  obtain⟨c,hc⟩:=I.ok.has x (.inl hk);obtain⟨w',z⟩:=I.cell x c hc;refine wpAny_storeName_cell I.ok.kind hk hc z (λh' hc' hs=>?_);obtain⟨oc,hoc,hocd⟩:=id z;refine h { s with heap:=h' } ⟨I.ok,I.os,I.bare,⟨λb o e n hb hx=>?_,λb o e n hb hx=>?_,I.base.free,λb o e hx=>?_,I.base.tups,I.base.frzs,I.base.tbls⟩,⟨m,hn.sameBut hs (Gx (cne x c hc)),λj y v' e1 e2 e3=>?_⟩,λy c' e=>?_,I.free,I.freeC,λp hp=>?_,tracked ⟨oc,hoc,I.freeC x c hc⟩ hs,by simpa using I.len⟩ ⟨c,hs,.inr hc⟩
  ·exact(hs.2 b (Cj (Bv (Ax e) (I.ok.cab x c hfn hc)))).trans (I.base.keep b o e n hb hx)
  ·obtain⟨sl,e1⟩:=I.base.slot b o e n hb hx
   exact⟨sl,(hs.2 b (Cj (Bv (Ax e) (I.ok.cab x c hfn hc)))).trans e1⟩
  ·obtain⟨o',e1⟩:=I.base.there b o e hx
   exact⟨o',(hs.2 b (Cj (Bv (Ax e) (I.ok.cab x c hfn hc)))).trans e1⟩
  ·by_cases hj:j=i
   ·subst hj
    rw[hi] at e1;cases e1;rw[Ec hiσ] at e2;cases e2;exact⟨u,r,.inr ⟨.inl hk,c,hc,hc'⟩⟩
   ·rw[Cp (Gx hj)] at e2
    obtain⟨u',r',q⟩:=hl j y v' e1 e2 e3;refine⟨u',r',?_⟩;rcases q with q|⟨k,c',e,z'⟩
    ·exact .inl q
    ·refine .inr ⟨k,c',e,z'.sameBut hs ?_⟩
     rintro rfl;exact hj (mH hN e1 (I.ok.inj _ _ _ e hc▸hi))
  ·by_cases hcc:c'=c
   ·subst hcc;exact⟨_,hc'⟩
   ·obtain⟨w2,z2⟩:=I.cell y c' e
    exact⟨w2,z2.sameBut hs hcc⟩
  ·obtain⟨e,n,ne,nf,d⟩:=I.pin p hp
   refine⟨(hs.2 p.1 ?_).trans e,n,ne,nf,d⟩;intro q;rw[q,hoc] at e;have q':oc=p.2:=Co e;exact d w' (by rw[← q'];exact hocd)
def kI {A:By}{i:Ai}{x:As}{v:V}{u:Ad}(I:Inv X pins σ H s)(hN:X.N.Nodup)(hi:X.N[i]? = Aa x)(hx:Loc X.env.scope x)(r:qL v u)
  (h:∀ s',Inv X pins (σ.set i (Aa v)) H s'→Q () s') (hf:X.fn x=true∨X.env.scope.names.lookup x=Aa .local:=by first|exact .inl rfl|exact .inr rfl|assumption):Ao M A (storeName X.env x u) Q E s:=
 dX I hN hi hx r (λs' I' _=>h s' I') hf
def Inv.call' {s':Ah}(I:Inv X pins σ H s)(ho:s'.os=s.os)(u:Un (frs X.stack) ch H H' s.heap s'.heap)(hok:HOk X.prog X.w H' s'.heap)(hg:Lz s'.gens)
  (hch:∀ b∈ch,(b∈X.ex∨X.s₀.heap.objs.size≤b)∧b≠X.env.locals∧(∀ x c,X.env.cells.lookup x=Aa c→c≠b)∧∀ p∈X.pn++pins,p.1≠b):Inv X pins σ H' s':=by
 obtain⟨h',g',d',t',o'⟩:=s';have e:o'=s.os:=ho;subst e;exact I.call (g':=g') (t':=t') (d':=d') u hok hg hch
end
abbrev XK:=Ad→Am Af→Hp→Prop
abbrev St:=Ab (Am V)
abbrev VK:=V→Hp→Prop
abbrev TE:=St→Hp→VK→Prop
abbrev TT:=St→Hp→(Ar→Hp→Prop)→Prop
abbrev TA:=St→Hp→(Ab V→Hp→Prop)→Prop
structure Ends where
 nx:St→Hp→Prop
 rt:VK
 bk:St→Hp→Prop:=λ_ _=>Fn
 ct:St→Hp→Prop:=λ_ _=>Fn
abbrev TS:=Ends→St→Hp→Prop
inductive EP (X:Cx)(pins:Ab (Af × Cs))(σ : St)(Q:VK)(u:Ad)(s':Ah):Prop
 |mk (v:V) (H':Hp) (I:Inv X pins σ H' s') (r:qL v u) (q:Q v H'):EP X pins σ Q u s'
inductive TP (X:Cx)(pins:Ab (Af × Cs))(σ : St)(Q:Ar→Hp→Prop)(b:Ar)(s':Ah):Prop
 |mk (H':Hp) (I:Inv X pins σ H' s') (q:Q b H'):TP X pins σ Q b s'
inductive AP (X:Cx)(pins:Ab (Af × Cs))(σ : St)(Q:Ab V→Hp→Prop)(us:Ab Ad)(s':Ah):Prop
 |mk (vs:Ab V) (H':Hp) (I:Inv X pins σ H' s') (r:qK vs us) (q:Q vs H'):AP X pins σ Q us s'
def SP (X:Cx)(pins:Ab (Af × Cs))(D:Ends)(f:Flow)(s':Ah):Prop:=
 match f with
 |.next=>∃ σ' H',Inv X pins σ' H' s'∧D.nx σ' H'
 |.brk=>∃ σ' H',Inv X pins σ' H' s'∧D.bk σ' H'
 |.cont=>∃ σ' H',Inv X pins σ' H' s'∧D.ct σ' H'
 |.ret u=>∃ v σ' H',Inv X pins σ' H' s'∧qL v u∧D.rt v H'
def PE (X:Cx)(e:Bw)(t:TE):Prop:=
 ∀ (pins:Ab (Af × Cs)) (s:Ah) (σ : St) (H:Hp) (Q:VK),Inv X pins σ H s→t σ H Q→Ao (Au X.prog X.w) X.A (eval e X.env) (EP X pins σ Q) X.xe s
def PT (X:Cx)(e:Bw)(t:TT):Prop:=
 ∀ (pins:Ab (Af × Cs)) (s:Ah) (σ : St) (H:Hp) (Q:Ar→Hp→Prop),Inv X pins σ H s→t σ H Q→Ao (Au X.prog X.w) X.A (isTrue e X.env (eval e X.env)) (TP X pins σ Q) X.xe s
def PW (X:Cx)(e:Bw)(t:TT):Prop:=
 ∀ (whole:Kb Ad) (pins:Ab (Af × Cs)) (s:Ah) (σ : St) (H:Hp) (Q:Ar→Hp→Prop),Inv X pins σ H s→t σ H Q→Ao (Au X.prog X.w) X.A (isTrue e X.env whole) (TP X pins σ Q) X.xe s
def PA (X:Cx)(es:Ab Bw)(t:TA):Prop:=
 ∀ (pos:Fh) (pins:Ab (Af × Cs)) (s:Ah) (σ : St) (H:Hp) (Q:Ab V→Hp→Prop),Inv X pins σ H s→t σ H Q→Ao (Au X.prog X.w) X.A (spliced (Fu pos (Bd es X.env))) (AP X pins σ Q) X.xe s
def PS (X:Cx)(st:Fl)(t:TS):Prop:=
 ∀ (pins:Ab (Af × Cs)) (s:Ah) (σ : St) (H:Hp) (D:Ends),Inv X pins σ H s→t D σ H→Ao (Au X.prog X.w) X.A (exec st X.env) (SP X pins D) X.xe s
def PSs (X:Cx)(st:Ab Fl)(t:TS):Prop:=
 ∀ (pins:Ab (Af × Cs)) (s:Ah) (σ : St) (H:Hp) (D:Ends),Inv X pins σ H s→t D σ H→Ao (Au X.prog X.w) X.A (execs st X.env) (SP X pins D) X.xe s
def thn {α:Type}{t:Kb α}{Q Q':α→Ah→Prop}{A:By}{s:Ah}(h:Ao M A t Q E s)(hQ:∀ a s,Q a s→Q' a s):Ao M A t Q' E s:=Ia h hQ λ_ _ x=>x
end _L
namespace _L
open PySem PySem.Spec PyProof.Rows
variable {pins:Ab (Af × Cs)}{u:Ad}{E Q:Ad→Ah→Prop}
section
variable {X:Cx}
def bin {a b:Bw}{ta tb:TE}(ha:PE X a ta)(hb:PE X b tb){pins:Ab (Af × Cs)}{s:Ah}{σ : St}{H:Hp}{R:V→V→Hp→Prop}(I:Inv X pins σ H s)(h:ta σ H λx H1=>tb σ H1 λy H2=>R x y H2)
  {α:Type} {Q:α→Ah→Prop} {f:Ad→Ad→Kb α}
  (hf:∀ v u s2 x y H2,Inv X pins σ H2 s2→qL x v→qL y u→R x y H2→Ao (Au X.prog X.w) X.A (f v u) Q X.xe s2) :
  Ao (Au X.prog X.w) X.A (eval a X.env) (λv s₁=>Ao (Au X.prog X.w) X.A (eval b X.env) (λu s₂=>Ao (Au X.prog X.w) X.A (f v u) Q X.xe s₂) X.xe s₁) X.xe s:=by
 refine thn (ha pins s σ H _ I h) λv s1 ⟨x,H1,I1,r1,q1⟩=>?_;refine thn (hb pins s1 σ H1 _ I1 q1) λu s2 ⟨y,H2,I2,r2,q2⟩=>?_;exact hf v u s2 x y H2 I2 r1 r2 q2
def SS (i:Ai):TE:=λσ H Q=>∃ v,σ[i]? = Aa (Aa v)∧Q v H
def tC (v:V):TE:=λ_ H Q=>Q v H
def D0 {i:Ai}{x:As}{pos:Fh}(hN:X.N[i]? = Aa x)(hv:Vis X.env.scope x)(hd:(x == ("__debug__" : As))=false:=by decide)(hcd:(x == ("__classdict__" : As))=false:=by decide):PE X (.Name x pos) (SS i):=by
 intro pins s σ H Q I h;obtain⟨v,e,h⟩:=h;obtain⟨m,hn,hl⟩:=I.loc;obtain⟨u,r,l⟩:=hl i x v hN e hv;have fin:EP X pins σ Q u s:=⟨v,H,I,r,h⟩;rcases l with⟨hk,hm⟩|⟨hk,c,hc,hcell⟩
 ·exact Wv (wpAny_loadName_local I.ok.kind hk hn hm fin) hd
 ·rcases hk with hk|hk
  ·exact Wv (wpAny_loadName_cell I.ok.kind hk hc hcell fin) hd
  ·exact Wv (wpAny_loadName_free I.ok.kind hk hc hcell fin hcd) hd
def LV:PE X (.Constant (.int i) j pos) (tC (.int i)):=λ_ _ _ H _ I h=>wpAny_Constant_int ⟨.int i,H,I.tok _,⟨_,rfl⟩,h⟩
def EE:PE X (.Constant (.bool b) j pos) (tC (.bl b)):=λ_ _ _ H _ I h=>Constant_bool ⟨.bl b,H,I,rfl,h⟩
def LW:PE X (.Constant .none j pos) (tC .non):=λ_ _ _ H _ I h=>Constant_none ⟨.non,H,I,rfl,h⟩
def LY:PE X (.Constant (.str x) j pos) (tC (.str x)):=λ_ _ _ H _ I h=>Calls.Constant_str ⟨.str x,H,I.tok _,⟨_,rfl⟩,h⟩
def Gl (X:Cx)(x:As):Prop:=X.env.kindOf x=Aa .globalImplicit
def jM {s:Ah}{σ:St}{H:Hp}{x:As}{pos:Fh}(I:Inv X pins σ H s)(hg:Gl X x)(hm:X.mg x=Aa u)(h:Q u s)
  (hd:(x == ("__debug__" : As))=false:=by decide):Ao (Au X.prog X.w) X.A (eval (.Name x pos) X.env) Q E s:=
 Oy I.ok.kind hg (Calls.loadGlobal_global (by rw[I.ok.glob];exact I.mod.glob.keeps I.bk) hm h) hd
def u7 {s:Ah}{σ:St}{H:Hp}{x:As}{pos:Fh}(I:Inv X pins σ H s)(hg:Gl X x)(hm:X.mg x=none)(hv:Ge x=Aa u)(h:Q u s)
  (hn:x ≠ "__name__":=by decide) (hd:(x == ("__debug__" : As))=false:=by decide):Ao (Au X.prog X.w) X.A (eval (.Name x pos) X.env) Q E s:=by
 obtain⟨mb,h1,h2⟩:=I.mod.blt;exact Oy I.ok.kind hg (Calls.loadGlobal_builtin (by rw[I.ok.glob];exact I.mod.glob.keeps I.bk) hm (by rw[I.ok.blt];exact h1.keeps I.bk) ((h2 x hn).trans hv) h) hd
def F7 {x:As}{v:V}{pos:Fh}(hg:Gl X x)(hm:X.mg x=Aa u)(r:qL v u)(hd:(x == ("__debug__" : As))=false:=by decide):PE X (.Name x pos) (tC v):=
 λ_ _ _ H _ I h=>jM I hg hm ⟨v,H,I,r,h⟩ hd
def F6 {x:As}{v:V}{pos:Fh}(hg:Gl X x)(hm:X.mg x=none)(hv:Ge x=Aa u)(r:qL v u)(hn:x ≠ "__name__":=by decide)(hd:(x == ("__debug__" : As))=false:=by decide):PE X (.Name x pos) (tC v):=
 λ_ _ _ H _ I h=>u7 I hg hm hv ⟨v,H,I,r,h⟩ hn hd
variable {a b:Bw}{ta tb:TE}{pos:Fh}
variable {tA tB':TT}{rest:Ab Bw}
def DC (ha:PT X a tA):PW X (.BoolOp .Or [a] pos) tA:=by
 intro wh pins s σ H Q I h;refine isTrue_or (thn (ha pins s σ H Q I h) λc s1 e=>?_);cases c with
 |false=>exact isTrue_or_nil e
 |true=>exact e
def LX {t:TE}(h:PE X a t):PE X (.BoolOp op [a] pos) t:=λpins s σ H Q I hw=>BoolOp_one (h pins s σ H Q I hw)
end
end _L
namespace _L
open PySem PySem.Spec PyProof.Rows
variable {es:Ab Bw}{K:Ak}{P:Bl}{tg:Bw}{w:Bz}
def SqL (K:Ak)(H:Hp)(a:Af)(xs:Ab V):Prop:=
 Rd H a (.lst xs) ∨
  ∃ (o:Cs) (its:Ay Ad) (n:Ai),K.lookup a=Aa o∧o.cls=.type "list" ∧ o.dict=none∧o.data=.seq its n∧its.size≤sizeLine∧qK xs its.toList
def SqT (K:Ak)(H:Hp)(a:Af)(xs:Ab V):Prop:=
 Rd H a (.tup xs) ∨
  ∃ (o:Cs) (its:Ay Ad) (n:Ai),K.lookup a=Aa o∧o.cls=.type "tuple" ∧ o.data=.seq its n∧its.size≤sizeLine∧qK xs its.toList
def HX:Ad→Am V
 |.none=>Aa .non
 |.bool b=>Aa (.bl b)
 |.int i _=>Aa (.int i)
 |.str x _=>Aa (.str x)
 |.bytes b _=>Aa (.byt b)
 |.float b _=>Aa (.flt b)
 |.ref a=>Aa (.ref a)
 |.type n=>Aa (.ty n)
 |_=>none
def qL.abs {x:V}{u:Ad}(r:qL x u):HX u=Aa x:=by
 cases x with
 |non=>cases r;rfl
 |bl _=>cases r;rfl
 |int _=>obtain⟨t,rfl⟩:=r;rfl
 |str _=>obtain⟨t,rfl⟩:=r;rfl
 |byt _=>obtain⟨t,rfl⟩:=r;rfl
 |flt _=>obtain⟨t,rfl⟩:=r;rfl
 |ref _=>cases r;rfl
 |ty _=>cases r;rfl
def qL.inj {x y:V}{u:Ad}(r:qL x u)(q:qL y u):x=y:=Co (r.abs.symm.trans q.abs)
def qK.inj {xs ys:Ab V}{us:Ab Ad}(h:qK xs us)(k:qK ys us):xs=ys:=by
 induction h generalizing ys with
 |nil=>cases k;rfl
 |cons r t ih =>
  cases k with
  |cons r' t'=>rw[r.inj r',ih t']
section
variable {X:Cx}{pins:Ab (Af × Cs)}{σ : St}{H:Hp}{s:Ah}{a:Af}{xs ys:Ab V}
def SqL.of (h:H a=Aa (.lst xs)):SqL K H a xs:=.inl (.inl h)
def SqT.of (h:H a=Aa (.tup xs)):SqT K H a xs:=.inl (.inl h)
def Inv.list (I:Inv X pins σ H s)(h:SqL X.K H a xs):∃ its:Ab Ad,qK xs its∧PlainL s.heap a its.toArray∧xs.length≤sizeLine:=by
 rcases h with h|⟨o,its,n,hk,hc,hd,hs,hz,r⟩
 ·obtain⟨z,its,n,r,e⟩:=h.ok I.hok
  exact⟨its,r,⟨_,n,e,rfl,rfl,rfl⟩,z⟩
 ·refine⟨its.toList,r,⟨o,n,I.kIn a o hk,hc,hd,by simpa using hs⟩,?_⟩
  have e:=r.length;simp only[Bh] at e;omega
def Inv.tuple (I:Inv X pins σ H s)(h:SqT X.K H a xs):∃ its:Ab Ad,qK xs its∧Oa s.heap a its.toArray∧xs.length≤sizeLine:=by
 rcases h with h|⟨o,its,n,hk,hc,hs,hz,r⟩
 ·obtain⟨z,its,r,p⟩:=h.ok I.hok
  exact⟨its,r,p,z⟩
 ·refine⟨its.toList,r,⟨o,I.kIn a o hk,hc,n,by simpa using hs⟩,?_⟩
  have e:=r.length;simp only[Bh] at e;omega
def Inv.list_inj (I:Inv X pins σ H s)(h:SqL X.K H a xs)(h':SqL X.K H a ys):xs=ys:=by
 obtain⟨its,r,⟨o,n,e,_,_,d⟩,_⟩:=I.list h;obtain⟨its',r',⟨o',n',e',_,_,d'⟩,_⟩:=I.list h';rw[e] at e';cases e';rw[d] at d';injection d' with d1 _
 have:its=its':=by simpa using congrArg Yd d1
 subst this;exact r.inj r'
def Inv.tuple_inj (I:Inv X pins σ H s)(h:SqT X.K H a xs)(h':SqT X.K H a ys):xs=ys:=by
 obtain⟨its,r,⟨o,e,_,n,d⟩,_⟩:=I.tuple h;obtain⟨its',r',⟨o',e',_,n',d'⟩,_⟩:=I.tuple h';rw[e] at e';cases e';rw[d] at d';injection d' with d1 _
 have:its=its':=by simpa using congrArg Yd d1
 subst this;exact r.inj r'
end
abbrev Cx.wish (X:Cx)(E:Ad→Ah→Prop):Cx:={ X with xe:=E }
abbrev Cx.nox (X:Cx):Cx:=X.wish λ_ _=>Fn
def Cx.Ok.wish {X:Cx}(ok:X.Ok)(E:Ad→Ah→Prop):(X.wish E).Ok:=
 ⟨ok.mod,ok.kind,ok.glob,ok.blt,ok.above,ok.inj,ok.has,ok.cab,ok.hd,ok.frames,ok.stk,ok.exf,ok.bs,ok.bsz,ok.noex,ok.exfs,ok.funs,ok.frf⟩
def Cx.Ok.unwish {X:Cx}{E:Ad→Ah→Prop}(ok:(X.wish E).Ok):X.Ok:=
 ⟨ok.mod,ok.kind,ok.glob,ok.blt,ok.above,ok.inj,ok.has,ok.cab,ok.hd,ok.frames,ok.stk,ok.exf,ok.bs,ok.bsz,ok.noex,ok.exfs,ok.funs,ok.frf⟩
section
variable {X:Cx}{pins:Ab (Af × Cs)}{σ : St}{H:Hp}{s:Ah}{E:Ad→Ah→Prop}
def Inv.wish (I:Inv X pins σ H s)(E:Ad→Ah→Prop):Inv (X.wish E) pins σ H s:=⟨I.ok.wish E,I.os,I.bare,I.base,I.loc,I.cell,I.free,I.freeC,I.pin,I.hok,I.len⟩
def Inv.unwish (I:Inv (X.wish E) pins σ H s):Inv X pins σ H s:=⟨I.ok.unwish,I.os,I.bare,I.base,I.loc,I.cell,I.free,I.freeC,I.pin,I.hok,I.len⟩
def SP.unwish {D:Ends}{f:Flow}{s':Ah}(h:SP (X.wish E) pins D f s'):SP X pins D f s':=by
 cases f with
 |next=>obtain⟨σ',H',I,q⟩:=h;exact⟨σ',H',I.unwish,q⟩
 |brk=>obtain⟨σ',H',I,q⟩:=h;exact⟨σ',H',I.unwish,q⟩
 |cont=>obtain⟨σ',H',I,q⟩:=h;exact⟨σ',H',I.unwish,q⟩
 |ret u=>obtain⟨v,σ',H',I,r,q⟩:=h;exact⟨v,σ',H',I.unwish,r,q⟩
def PE.nox {e:Bw}{t:TE}(h:PE X.nox e t):PE X e t:=λpins s σ H Q I hw =>
 Ia (h pins s σ H Q (I.wish _) hw) (λ_ _ ⟨v,H',I',r,q⟩=>⟨v,H',I'.unwish,r,q⟩) λ_ _ z=>An z
def PT.nox {e:Bw}{t:TT}(h:PT X.nox e t):PT X e t:=λpins s σ H Q I hw =>
 Ia (h pins s σ H Q (I.wish _) hw) (λ_ _ ⟨H',I',q⟩=>⟨H',I'.unwish,q⟩) λ_ _ z=>An z
def PSs.nox {st:Ab Fl}{t:TS}(h:PSs X.nox st t):PSs X st t:=λpins s σ H D I hw =>
 Ia (h pins s σ H D (I.wish _) hw) (λ_ _ q=>q.unwish) λ_ _ z=>An z
end
section
variable {X:Cx}{st:Fl}{rest:Ab Fl}{t u:TS}{e:Bw}{te:TE}{pos:Fh}
def H8:TS:=λD σ H=>D.nx σ H
def AD (t u:TS):TS:=λD σ H=>t { D with nx:=u D } σ H
def FD:PSs X [] H8:=λ_ _ σ H _ I h=>Na ⟨σ,H,I,h⟩
def UQ (h1:PS X st t)(h2:PSs X rest u):PSs X (st::rest) (AD t u):=by
 intro pins s σ H D I h;refine Vo (thn (h1 pins s σ H { D with nx:=u D } I h) λf s1 q=>?_)
 cases f with
 |next =>
  obtain⟨σ',H',I',q⟩:=q;exact h2 pins s1 σ' H' D I' q
 |ret v=>exact q
 |brk=>exact q
 |cont=>exact q
def FE (h1:PS X st t):PSs X [st] t:=by
 intro pins s σ H D I h;refine Vo (thn (h1 pins s σ H D I h) λf s1 q=>?_);cases f with
 |next=>exact Na q
 |ret v=>exact q
 |brk=>exact q
 |cont=>exact q
def Inv.quiet {pins:Ab (Af × Cs)}{σ:St}{H:Hp}{s:Ah}(I:Inv X pins σ H s):interactive X.env=false:=by simp[interactive,I.ok.kind]
end
abbrev TG:=V→St→Hp→(St→Hp→Prop)→Prop
abbrev TGs:=Ab V→St→Hp→(St→Hp→Prop)→Prop
def PG (X:Cx)(target:Bw)(t:TG):Prop:=
 ∀ (pins:Ab (Af × Cs)) (s:Ah) (σ : St) (H:Hp) (v:V) (u:Ad) (Q:St→Hp→Prop),Inv X pins σ H s→qL v u→t v σ H Q →
  Ao (Au X.prog X.w) X.A (assign target X.env u) (λ_ s'=>∃ σ' H',Inv X pins σ' H' s'∧Q σ' H') X.xe s
def PGs (X:Cx)(ts:Ab Bw)(t:TGs):Prop:=
 ∀ (pins:Ab (Af × Cs)) (s:Ah) (σ : St) (H:Hp) (vs:Ab V) (us:Ab Ad) (Q:St→Hp→Prop),Inv X pins σ H s→qK vs us→t vs σ H Q →
  Ao (Au X.prog X.w) X.A (Si ((Hb ts X.env).map (·.2)) us) (λ_ s'=>∃ σ' H',Inv X pins σ' H' s'∧Q σ' H') X.xe s
abbrev YJ:=V→V→V→Hp→(Hp→Prop)→Prop
def sU (X:Cx)(t:YJ):Prop:=
 ∀ (pins:Ab (Af × Cs)) (s:Ah) (σ : St) (H:Hp) (o i v:V) (ov iv u:Ad) (Q:Hp→Prop),Inv X pins σ H s→qL o ov→qL i iv→qL v u→t o i v H Q →
  Ao (Au X.prog X.w) X.A (Xr ov iv u) (λ_ s'=>∃ H',Inv X pins σ H' s'∧Q H') X.xe s
section
variable {X:Cx}{pos:Fh}
def RV (i:Ai):TG:=λv σ H Q=>Q (σ.set i (Aa v)) H
def F8 {i:Ai}{x:As}(hN:X.N.Nodup)(hi:X.N[i]? = Aa x)(hx:Loc X.env.scope x)(hf:X.fn x=true∨X.env.scope.names.lookup x=Aa .local:=by first|exact .inl rfl|exact .inr rfl|assumption):PG X (.Name x pos) (RV i):=by
 intro pins s σ H v u Q I r h;exact Uq (kI I hN hi hx r (λs' I'=>⟨_,H,I',h⟩) hf)
def CM:TGs:=λvs σ H Q=>vs=[]∧Q σ H
def RU (t:TG)(u:TGs):TGs:=λvs σ H Q=>∃ v r,vs=v::r∧t v σ H λσ' H'=>u r σ' H' Q
def F9:PGs X [] CM:=by
 intro pins s σ H vs us Q I r h;obtain⟨e,h⟩:=h;subst e;cases r;exact Ur ⟨σ,H,I,h⟩
def UO {e:Bw}{t:TG}{u:TGs}(h1:PG X e t)(h2:PGs X es u)
  (hs:(Hb (e::es) X.env).map (·.2)=assign e X.env::(Hb es X.env).map (·.2):=by rfl):PGs X (e::es) (RU t u):=by
 intro pins s σ H vs us Q I r h;obtain⟨v,vr,e1,h⟩:=h;subst e1;cases r with
 |cons r rr =>
  rw[hs];refine Oq (thn (h1 pins s σ H _ _ _ I r h) λ_ s1 ⟨σ1,H1,I1,q1⟩=>?_);exact h2 pins s1 σ1 H1 _ _ Q I1 rr q1
def CN (K:Ak)(n:Ai)(t:TGs):TG:=λv σ H Q=>∃ a xs,v=.ref a∧SqT K H a xs∧xs.length=n∧t xs σ H Q
def D3 {k:Ai}{t:TGs}{n:Ai}(hc:X.calm=true)(h:PGs X es t)
  (hn:(Hb es X.env).length=n:=by rfl) (hst:(Hb es X.env).findIdx? (·.1)=none:=by rfl):PG X (.Tuple es k pos) (CN X.K n t):=by
 intro pins s σ H v u Q I r hw;obtain⟨a,xs,e1,hq,hl,hw⟩:=hw;subst e1;cases r;obtain⟨its,rv,ht,hz⟩:=I.tuple hq;refine assign_Tuple_tuple (I.ok.hd hc) ht (by simp[hn,← hl,rv.length]) hst λh' hx=>?_
 have I1:Inv X pins σ H { s with heap:=h' }:=I.kept (t':=s.toks) λb o e=>hx b o (Cj (Ax e)) e
 exact h pins _ σ H xs _ Q I1 (by simpa using rv) hw
def xN (to ti:TE)(t:YJ):TG:=λv σ H Q=>to σ H λo H1=>ti σ H1 λi H2=>t o i v H2 λH3=>Q σ H3
def AC (i j:Ai)(ta:TA):TS:=λD σ H=>ta σ H λvs H1=>∃ v w,vs=[v,w]∧D.nx ((σ.set i (Aa v)).set j (Aa w)) H1
def D8 {i j:Ai}{x y:As}{a b:Bw}{ta:TA}{px py pt:Fh} {kt k2 pt2} (hc:X.calm=true) (hN:X.N.Nodup) (hi:X.N[i]? = Aa x) (hj:X.N[j]? = Aa y) (hij:i≠j)
  (hx:X.env.scope.names.lookup x=Aa .local) (hy:X.env.scope.names.lookup y=Aa .local) (ha:PA X [a,b] ta)
  (hw:Kc [.Tuple [.Name x px,.Name y py] kt pt] (.Tuple [a,b] k2 pt2) X.env=pure (Aa [x,y]))
  (hs:Ke [.Tuple [.Name x px,.Name y py] kt pt] (.Tuple [a,b] k2 pt2) pos.line X.env=pure false:=by rfl) :
  PS X (.Assign [.Tuple [.Name x px,.Name y py] kt pt] (.Tuple [a,b] k2 pt2) pos) (AC i j ta):=by
 intro pins s σ H D I h;rw[exec_Assign_arm];refine Ac (OG ?_);rw[hs];refine Ac (Al ?_);rw[Bf (by decide)]
 refine Ac (Tuple_ (thn (ha _ pins s σ H _ I h) λus s1 ⟨vs,H1,I1,r1,q1⟩=>?_));obtain⟨v,w,e1,q1⟩:=q1;subst e1;obtain⟨u1,u2,rfl,rv,rw'⟩:∃ u1 u2,us=[u1,u2]∧qL v u1∧qL w u2:=by
  cases r1 with
  |cons p q =>
   cases q with
   |cons p' q' =>
    cases q';exact⟨_,_,rfl,p,p'⟩
 refine Dn ?_ (by show 2≤sizeLine;decide)
 have I2:Inv X pins σ H1 { s1 with heap:=s1.heap.push { cls:=.type "tuple",data:=.seq [u1,u2].toArray } }:=I1.kept (t':=s1.toks) λb o e=>Ag _ e
 rw[hw];refine Ac (Al ?_);show Ao (Au X.prog X.w) X.A (do rule "assign.swapped-stores";let items ← unpackItems (.ref s1.heap.objs.size) 2 none;Si [λv=>Tl X.env y v,λv=>Tl X.env x v] items.reverse;pure Flow.next) _ _ _
 refine Ac (Hc (Ac (unpackItems_tuple (items:=#[u1,u2]) (I.ok.hd hc) (Us s1.heap _) λh' hx'=>?_)));have I3:=I2.kept (h':=h') (t':=s1.toks) λb o e=>hx' b o (Cj (Ax e)) e;show Ao _ _ (Si [λv=>Tl X.env y v,λv=>Tl X.env x v] [u2,u1] >>= λ_=>pure Flow.next) _ _ _;refine Ac (Oq (wpAny_bindName (kI I3 hN hj (.inl hy) rw' (λs2 I4=>?_) (.inr hy))));refine Oq (wpAny_bindName (kI I4 hN hi (.inl hx) rv (λs3 I5=>Ur (Al ?_)) (.inr hx)));rw[List.set_comm _ _ (Gx hij)] at I5;exact⟨_,H1,I5,q1⟩
end
structure It where
 go:Ai→Hp→Prop
 yld:Ai→Hp→V→Hp→Prop
 stop:Ai→Hp→Prop
def wG (X:Cx)(pins:Ab (Af × Cs))(H:Hp)(b:Af):Prop:=
 H b=none∧b≠X.env.locals∧b ∉ X.fs∧(b∈X.ex∨X.s₀.heap.objs.size≤b)∧(∀ x c,X.env.cells.lookup x=Aa c→c≠b)∧∀ p∈X.pn++pins,p.1≠b
def Inv.fpOk {X:Cx}{pins:Ab (Af × Cs)}{σ:St}{H H':Hp}{s:Ah}{b:Af}(I:Inv X pins σ H s)(hb:s.heap.objs.size≤b)(hn:H' b=none):wG X pins H' b:=by
 refine⟨hn,Hf (Bv I.lt hb),I.nofs hb,.inr (Fg I.sz hb),λx c e z=>?_,λp hp z=>?_⟩
 ·obtain⟨v,q⟩:=I.cell x c e
  exact absurd (Bv q.lt (by rw[z];exact hb)) (Er _)
 ·exact absurd (Bv (Ax (I.pin p hp).1) (by rw[z];exact hb)) (Er _)
structure Turn (P:Bl)(w:Bz)(K:Ak)(tg:Bw)(J:It)(fp:Ab Af)(it:Af)(tn:Ai→Bs→Prop):Prop where
 mem:it∈fp
 obj:∀ i h,tn i h→∀ b∈fp,∃ o,h.get? b=Aa o∧∀ v,o.data≠.cell v
 keep:∀ i h h',tn i h→(∀ b∈fp,∀ o,h.get? b=Aa o→h'.get? b=Aa o)→tn i h'
 item:∀ (X:Cx),X.prog=P→X.w=w→X.K=K→X.calm=true→∀ (i:Ai) (pins:Ab (Af × Cs)) (s:Ah) (σ : St) (H:Hp) (E:Ad→Ah→Prop),Inv X pins σ H s→(∀ b∈fp,wG X pins H b)→tn i s.heap→J.go i H →
  Ao (Au P w) X.A (Ld (.ref it)) (λr s1=>∃ u,r=Aa u ∧
   Ao (Au P w) X.A (Jc tg (.ref it) u) (λ_ s2=>∃ x H',Inv X pins σ H' s2∧qL x u∧J.yld i H x H'∧tn (i+1) s2.heap∧∀ b∈fp,H' b=none) E s1) E s
 done:∀ (X:Cx),X.prog=P→X.w=w→X.K=K→X.calm=true→∀ (i:Ai) (pins:Ab (Af × Cs)) (s:Ah) (σ : St) (H:Hp) (E:Ad→Ah→Prop),Inv X pins σ H s→(∀ b∈fp,wG X pins H b)→tn i s.heap→J.stop i H →
  Ao (Au P w) X.A (Ld (.ref it)) (λr s1=>r=none∧Inv X pins σ H s1) E s
 self:∀ (A:By) (i:Ai) (s:Ah) (Q:Ad→Ah→Prop) (E:Ad→Ah→Prop),tn i s.heap→Q (.ref it) s→Ao (Au P w) A (Nj (.ref it)) Q E s
abbrev TI:=St→Hp→(It→Hp→Prop)→Prop
inductive PIE (X:Cx)(pins:Ab (Af × Cs))(σ : St)(tg:Bw)(R:It→Hp→Prop)(itv:Ad)(s2:Ah):Prop
 |mk (it:Af) (fp:Ab Af) (tn:Ai→Bs→Prop) (J:It) (H':Hp) (e:itv=.ref it) (I:Inv X pins σ H' s2) (t:Turn X.prog X.w X.K tg J fp it tn) (z:tn 0 s2.heap) (f:∀ b∈fp,wG X pins H' b) (q:R J H'):PIE X pins σ tg R itv s2
def PI (X:Cx)(tg iter:Bw)(wi:TI):Prop:=
 ∀ (pins:Ab (Af × Cs)) (s:Ah) (σ : St) (H:Hp) (R:It→Hp→Prop),Inv X pins σ H s→wi σ H R →
  Ao (Au X.prog X.w) X.A (eval iter X.env) (λv s1=>Ao (Au X.prog X.w) X.A (Nj v) (PIE X pins σ tg R) X.xe s1) X.xe s
def oP {M:Ks}{A:By}{E:Ad→Ah→Prop}{s:Ah}{it:Af}{u:Ad}{o:Cs}{n:Ej}{vs:Ay Ad}{Q:Pk→Ah→Prop}(ho:s.heap.get? it=Aa o)(hc:o.cls=.type n)(hd:o.data=.fields vs)
    (hn:["enumerate","zip","dict_itemiterator","dict_reverseitemiterator","odict_iterator","itertools.zip_longest","itertools.pairwise"].contains n=false) (hQ:Q () s):Ao M A (Jc tg (.ref it) u) Q E s:=by
  unfold Jc;cases tg <;> first
    |exact Al hQ
    |(cases u <;> first
        |exact Al hQ
        | (refine Ac (wpAny_load ho ?_)
           rw[hc,hd];show Ao M A (if (["enumerate","zip","dict_itemiterator","dict_reverseitemiterator","odict_iterator","itertools.zip_longest","itertools.pairwise"].contains n&&vs[0]? == Aa (Mb _))=true then _ else _) Q E s
           rw[Bf (by intro h;rw[hn,Ob] at h;cases h)]
           exact Al hQ))
def Itl (K:Ak)(a:Af):It:=
 ⟨λi H=>∃ xs x,SqL K H a xs∧xs[i]? = Aa x,λi H x H'=>H'=H∧∀ xs,SqL K H a xs→xs[i]? = Aa x,λi H=>∃ xs,SqL K H a xs∧xs.length≤i⟩
def Itt (K:Ak)(a:Af):It:=
 ⟨λi H=>∃ xs x,SqT K H a xs∧xs[i]? = Aa x,λi H x H'=>H'=H∧∀ xs,SqT K H a xs→xs[i]? = Aa x,λi H=>∃ xs,SqT K H a xs∧xs.length≤i⟩
def Itr (lo:Aj)(n:Ai):It:=⟨λi _=>i<n,λi H x H'=>H'=H∧x=.int (lo+i),λi _=>n≤i⟩
def dZ (a it:Af):Turn P w K tg (Itl K a) [it] it (λi h=>h.IsListIter it a i) where
 mem:=by simp
 obj:=λi h st b hb=>by
  have e:b=it:=by simpa using hb
  subst e;obtain⟨o,e,c,d⟩:=st;exact⟨o,e,λv z=>by rw[d] at z;cases z⟩
 keep:=λi h h' st k=>st.at λo e=>k it (by simp) o e
 item:=by
  intro X hP hw hK hc i pins s σ H E I hf st hg;subst hP hw hK;obtain⟨xs,x,hq,hx⟩:=hg;obtain⟨its,rv,p,hz⟩:=I.list hq;obtain⟨u,hu,ru⟩:=rv.get hx;obtain⟨f0,f1,f2,f3,f4,f5⟩:=hf it (by simp)
  refine wpAny_pyNext_list_item st p.isList (x:=u) (by simpa using hu) λh' st' sb=>?_
  have I1:Inv X pins σ H { s with heap:=h' }:=I.turned (t':=s.toks) (λb o hb e=>(sb.2 b hb).trans e) f0 f1 f3 f4 f5
  obtain⟨o,e,c,d⟩:=id st';exact⟨u,rfl,oP (s:={ s with heap:=h' }) e c d (by decide) ⟨x,H,I1,ru,⟨rfl,λys hy=>by rw[I.list_inj hy hq];exact hx⟩,st',λb hb=>(hf b hb).1⟩⟩
 done:=by
  intro X hP hw hK hc i pins s σ H E I hf st hg;subst hP hw hK;obtain⟨xs,hq,hx⟩:=hg;obtain⟨its,rv,p,hz⟩:=I.list hq;obtain⟨f0,f1,f2,f3,f4,f5⟩:=hf it (by simp)
  have hl:=rv.length;exact wpAny_pyNext_list_end (I.ok.hd hc) st p.isList (by simp;omega) λh' eb=>⟨rfl,I.turned (t':=s.toks) (λb o hb e=>eb b o hb e) f0 f1 f3 f4 f5⟩
 self:=λ_ _ _ _ _ st h=>wpAny_pyIter_listiter st h
def QX (a it:Af):Turn P w K tg (Itt K a) [it] it (λi h=>h.IsTupleIter it a i) where
 mem:=by simp
 obj:=λi h st b hb=>by
  have e:b=it:=by simpa using hb
  subst e;obtain⟨o,e,c,d⟩:=st;exact⟨o,e,λv z=>by rw[d] at z;cases z⟩
 keep:=λi h h' st k=>st.at λo e=>k it (by simp) o e
 item:=by
  intro X hP hw hK hc i pins s σ H E I hf st hg;subst hP hw hK;obtain⟨xs,x,hq,hx⟩:=hg;obtain⟨its,rv,p,hz⟩:=I.tuple hq;obtain⟨u,hu,ru⟩:=rv.get hx;obtain⟨f0,f1,f2,f3,f4,f5⟩:=hf it (by simp)
  refine wpAny_pyNext_tuple_item st (show s.heap.IsTuple a its.toArray from p) (x:=u) (by simpa using hu) λh' st' sb=>?_
  have I1:Inv X pins σ H { s with heap:=h' }:=I.turned (t':=s.toks) (λb o hb e=>(sb.2 b hb).trans e) f0 f1 f3 f4 f5
  obtain⟨o,e,c,d⟩:=id st';exact⟨u,rfl,oP (s:={ s with heap:=h' }) e c d (by decide) ⟨x,H,I1,ru,⟨rfl,λys hy=>by rw[I.tuple_inj hy hq];exact hx⟩,st',λb hb=>(hf b hb).1⟩⟩
 done:=by
  intro X hP hw hK hc i pins s σ H E I hf st hg;subst hP hw hK;obtain⟨xs,hq,hx⟩:=hg;obtain⟨its,rv,p,hz⟩:=I.tuple hq;obtain⟨f0,f1,f2,f3,f4,f5⟩:=hf it (by simp)
  have hl:=rv.length;exact wpAny_pyNext_tuple_end (I.ok.hd hc) st (show s.heap.IsTuple a its.toArray from p) (by simp;omega) λh' eb=>⟨rfl,I.turned (t':=s.toks) (λb o hb e=>eb b o hb e) f0 f1 f3 f4 f5⟩
 self:=λ_ _ _ _ _ st h=>wpAny_pyIter_tupleiter st h
def QV (it:Af)(lo:Aj)(n:Ai):Turn P w K tg (Itr lo n) [it] it (λi h=>IsRangeIter h it (lo+(i:Ai)*1) ((n:Aj)-(i:Ai)) 1) where
 mem:=by simp
 obj:=λi h st b hb=>by
  have e:b=it:=by simpa using hb
  subst e;exact⟨_,st,λv z=>by
   have z':Data.fields _=Data.cell v:=z;cases z'⟩
 keep:=λi h h' st k=>k it (by simp) _ st
 item:=by
  intro X hP hw hK hc i pins s σ H E I hf st hg;subst hP hw hK;obtain⟨f0,f1,f2,f3,f4,f5⟩:=hf it (by simp)
  have W:=Walks.range (prog:=X.prog) (w:=X.w) (I.ok.hd hc) it lo 1 n;refine W.item i s _ _ hg st λv h' tk hv st' kk=>?_;obtain⟨t,rfl⟩:=hv;have I1:Inv X pins σ H { s with heap:=h',toks:=tk }:=I.turned (λb o hb e=>kk b o (by simpa using hb) e) f0 f1 f3 f4 f5
  refine⟨_,rfl,oP (s:={ s with heap:=h',toks:=tk }) (n:="range_iterator") st' rfl rfl (by decide) ⟨.int (lo+i),H,I1,⟨t,?_⟩,⟨rfl,rfl⟩,st',λb hb=>(hf b hb).1⟩⟩
  rw[Int.mul_one]
 done:=by
  intro X hP hw hK hc i pins s σ H E I hf st hg;subst hP hw hK;obtain⟨f0,f1,f2,f3,f4,f5⟩:=hf it (by simp)
  exact wpAny_pyNext_range_end (I.ok.hd hc) st (by have:n≤i:=hg;omega) λh' eb=>⟨rfl,I.turned (t':=s.toks) (λb o hb e=>eb b o hb e) f0 f1 f3 f4 f5⟩
 self:=λ_ _ _ _ _ st h=>wpAny_pyIter_rangeiter st h
end _L
namespace _L
open PySem PySem.Spec PyProof.Rows
variable {pins:Ab (Af × Cs)}{fp:Ab Af}{s:Ah}{H:Hp}{σ:St}
section
variable {X:Cx}{tg:Bw}
def eY {R:It→Hp→Prop}{E:Ad→Ah→Prop}{lo hi:Aj}{t u v:Pu}{tk:Ai}(I:Inv X pins σ H s)(h1 : -(2 ^ 62)≤lo)(h2:lo<2 ^ 62)(h3 : -(2 ^ 62)≤hi)(h4:hi<2 ^ 62)
  (q:R (Itr lo (hi-lo).toNat) H):Ao (Au X.prog X.w) X.A (Nj (.ref s.heap.objs.size)) (PIE X pins σ tg R) E { s with heap:=s.heap.push { cls:=.type "range",data:=.fields #[.int lo t,.int hi u,.int 1 v] },toks:=tk }:=by
 refine wpAny_pyIter_range (IsRange.new ..) (small_one h1 h2 h3 h4) ?_;have I1:Inv X pins σ H { s with heap:=s.heap.push { cls:=.type "range",data:=.fields #[.int lo t,.int hi u,.int 1 v] },toks:=tk }:=I.kept λb o e=>Ag _ e
 refine⟨(s.heap.push { cls:=.type "range",data:=.fields #[.int lo t,.int hi u,.int 1 v] }).objs.size,[(s.heap.push { cls:=.type "range",data:=.fields #[.int lo t,.int hi u,.int 1 v] }).objs.size],_,_,H,rfl,
  I1.kept (t':=tk) λb o e=>Ag _ e,QV _ lo (hi-lo).toNat,?_,λb hb=>?_,q⟩
 ·have e1:lo+((0:Ai):Aj)*1=lo:=by simp
  have e2:(((hi-lo).toNat:Ai):Aj)-((0:Ai):Aj)=Ye lo hi 1:=by rw[rangeSize_one];split <;> omega
  show IsRangeIter _ _ (lo+((0:Ai):Aj)*1) ((((hi-lo).toNat:Ai):Aj)-((0:Ai):Aj)) 1;rw[e1,e2];exact Bb _ rfl
 ·have e:b=(s.heap.push { cls:=.type "range",data:=.fields #[.int lo t,.int hi u,.int 1 v] }).objs.size:=by simpa using hb
  subst e;exact I1.fpOk (Av _) (I1.hok.fresh (Av _))
def A9 (wi:TI)(g:TG)(tb:TS):TS:=λD σ H=>wi σ H λJ H1=>∃ W:Ai→Ai→St→Hp→Prop,(∃ m,W 0 m σ H1)∧∀ i m σ H,W i m σ H →
 (J.stop i H∧D.nx σ H)∨(J.go i H∧∃ N:St→Hp→Prop,(∀ σ' H',N σ' H'→∃ m',m'<m∧W (i+1) m' σ' H')∧∀ x H',J.yld i H x H'→g x σ H' λσ2 H2=>tb { D with nx:=N,ct:=N,bk:=D.nx } σ2 H2)
def uA (fp:Ab Af)(h:Bs):Ab (Af × Cs):=fp.filterMap λb=>(h.get? b).map λo=>(b,o)
def jI {h:Bs}{b:Af}{o:Cs}(hb:b∈fp)(e:h.get? b=Aa o):(b,o)∈uA fp h:=Jb.mpr ⟨b,hb,by rw[e];rfl⟩
def dJ {h:Bs}{p:Af × Cs}(hp:p∈uA fp h):p.1∈fp∧h.get? p.1=Aa p.2:=by
 obtain⟨b,hb,e⟩:=Jb.mp hp;cases q:h.get? b with
 |none=>rw[q] at e;cases e
 |some o =>
  rw[q] at e;have e':(b,o)=p:=Co e;subst e';exact⟨hb,q⟩
def Inv.pinned (I:Inv X pins σ H s)(hf:∀ b∈fp,wG X pins H b)(ho:∀ b∈fp,∃ o,s.heap.get? b=Aa o∧∀ v,o.data≠.cell v):Inv X (pins++uA fp s.heap) σ H s:=
 I.pins_of λp hp=>(Ch.mp hp).elim (λz=>I.pin p (Ce _ z)) λz=>by
  obtain⟨hb,e⟩:=dJ z;obtain⟨f0,f1,f2,_⟩:=hf p.1 hb;obtain⟨o,e',d⟩:=ho p.1 hb;rw[e] at e';cases e';exact⟨e,f0,f1,f2,d⟩
def Inv.unpinned {pl:Ab (Af × Cs)}(I:Inv X (pins++pl) σ H s):Inv X pins σ H s:=I.pins_of λp hp=>I.pin p (Ce _ (Dh _ hp))
inductive ForI (X:Cx)(pins:Ab (Af × Cs))(fp:Ab Af)(tn:Ai→Bs→Prop)(W:Ai→Ai→St→Hp→Prop)(n:Ai)(s':Ah):Prop
 |mk (i:Ai) (σ' : St) (H':Hp) (I:Inv X pins σ' H' s') (t:tn i s'.heap) (f:∀ b∈fp,H' b=none) (w:W i n σ' H'):ForI X pins fp tn W n s'
def D7 {iter:Bw}{body:Ab Fl}{wi:TI}{g:TG}{tb:TS}{pos:Fh}(hp:Re (Au X.prog X.w) X.A X.env X.xe)(hc:X.calm=true)(hi:PI X tg iter wi)(hg:PG X tg g)(hb:PSs X body tb)
  (hs:∀ x,Ga iter X.env x=pure x:=by intro _;rfl):PS X (.For tg iter body [] pos) (A9 wi g tb):=by
 intro pins s σ H D I h;refine wpAny_For (thn (hi pins s σ H _ I h) λv s1 h1=>thn h1 λitv s2 h2=>?_) hs;obtain⟨it,fp,tn,J,H2,e,I2,T,st2,f2,W,⟨m0,w0⟩,turn⟩:=h2;subst e;have stat:∀ {H':Hp},(∀ b∈fp,H' b=none)→∀ b∈fp,wG X pins H' b:=λhn b hb=>⟨hn b hb,(f2 b hb).2⟩;refine codeAny_forLoop_any (ForI X pins fp tn W) ?_ m0 ⟨0,σ,H2,I2,st2,λb hb=>(f2 b hb).1,w0⟩;rintro n s3 ⟨i,σ3,H3,I3,st3,fr3,w3⟩;rcases turn i n σ3 H3 w3 with⟨stop,qn⟩|⟨go,N,hN,step⟩
 ·refine Ki hp (thn (T.done X rfl rfl rfl hc i pins s3 σ3 H3 X.xe I3 (stat fr3) st3 stop) λr s4 ⟨hr,I4⟩=>?_)
  subst hr;exact Na ⟨σ3,H3,I4,qn⟩
 ·refine Ki hp (thn (T.item X rfl rfl rfl hc i pins s3 σ3 H3 X.xe I3 (stat fr3) st3 go) λr s4 ⟨u,hr,h4⟩=>?_)
  subst hr;refine Ki hp (thn h4 λ_ s5 ⟨x,H5,I5,r5,y5,st5,fr5⟩=>?_);have I5':=I5.pinned (stat fr5) (T.obj _ _ st5);refine Ki hp (thn (hg _ s5 σ3 H5 x u _ I5' r5 (step x H5 y5)) λ_ s6 ⟨σ6,H6,I6,q6⟩=>?_);refine Ki hp (thn (hb _ s6 σ6 H6 _ I6 q6) λf s7 q7=>?_);have again:∀ {σ7:St} {H7:Hp},Inv X (pins++uA fp s5.heap) σ7 H7 s7→N σ7 H7→∃ m,m<n∧ForI X pins fp tn W m s7:=λ{σ7 H7} I7 n7=>by
   obtain⟨m',hm,w7⟩:=hN σ7 H7 n7;refine⟨m',hm,i+1,σ7,H7,I7.unpinned,T.keep _ _ _ st5 λb hb o e=>(I7.pin (b,o) (Ce _ (Ce _ (jI hb e)))).1,λb hb=>?_,w7⟩;obtain⟨o,e,d⟩:=T.obj _ _ st5 b hb;exact(I7.pin (b,o) (Ce _ (Ce _ (jI hb e)))).2.1
  cases f with
  |next=>obtain⟨σ7,H7,I7,n7⟩:=q7;exact again I7 n7
  |cont=>obtain⟨σ7,H7,I7,n7⟩:=q7;exact again I7 n7
  |brk=>obtain⟨σ7,H7,I7,q7⟩:=q7;exact⟨σ7,H7,I7.unpinned,q7⟩
  |ret v=>obtain⟨x7,σ7,H7,I7,r7,q7⟩:=q7;exact⟨x7,σ7,H7,I7.unpinned,r7,q7⟩
end
end _L
namespace _L
open PySem PySem.Spec PyProof.Rows
variable {us:Ab Ad}{f:Ad→Ad→Kb Ad}{g:Aj→Aj→Aj}
abbrev R2:=V→V→Hp→VK→Prop
def OpR (X:Cx)(f:Ad→Ad→Kb Ad)(r:R2):Prop:=
 ∀ (pins:Ab (Af × Cs)) (s:Ah) (σ : St) (H:Hp) (x y:V) (v u:Ad) (Q:VK),Inv X pins σ H s→qL x v→qL y u→r x y H Q →
  Ao (Au X.prog X.w) X.A (f v u) (EP X pins σ Q) X.xe s
def UnR (X:Cx)(f:Ad→Kb Ad)(r:V→Hp→VK→Prop):Prop:=
 ∀ (pins:Ab (Af × Cs)) (s:Ah) (σ : St) (H:Hp) (x:V) (v:Ad) (Q:VK),Inv X pins σ H s→qL x v→r x H Q →
  Ao (Au X.prog X.w) X.A (f v) (EP X pins σ Q) X.xe s
def kK (X:Cx)(f:Ad)(r:Ab V→Hp→VK→Prop):Prop:=
 ∀ (pins:Ab (Af × Cs)) (s:Ah) (σ : St) (H:Hp) (xs:Ab V) (us:Ab Ad) (Q:VK),Inv X pins σ H s→qK xs us→r xs H Q →
  Ao (Au X.prog X.w) X.A (call f us) (EP X pins σ Q) X.xe s
def HW (X:Cx)(r:V→Hp→(Ar→Hp→Prop)→Prop):Prop:=
 ∀ (pins:Ab (Af × Cs)) (s:Ah) (σ : St) (H:Hp) (x:V) (v:Ad) (Q:Ar→Hp→Prop),Inv X pins σ H s→qL x v→r x H Q →
  Ao (Au X.prog X.w) X.A (truthy v) (TP X pins σ Q) X.xe s
def tOp (r:R2)(ta tb:TE):TE:=λσ H Q=>ta σ H λx H1=>tb σ H1 λy H2=>r x y H2 Q
def rI (C:Aj→Aj→Prop)(g:Aj→Aj→V):R2:=λx y H Q=>∃ i j,x=.int i∧y=.int j∧C i j∧Q (g i j) H
def rI0 (g:Aj→Aj→V):R2:=λx y H Q=>∃ i j,x=.int i∧y=.int j∧Q (g i j) H
def rU (g:Aj→V):V→Hp→VK→Prop:=λx H Q=>∃ i,x=.int i∧Q (g i) H
section
variable {X:Cx}{a b c:Bw}{ta tb tc:TE}{pos:Fh}
def CB (ha:PE X a ta)(hb:PE X b tb){pins:Ab (Af × Cs)}{s:Ah}{σ : St}{H:Hp}{R:V→V→Hp→Prop}(I:Inv X pins σ H s)
  (h:ta σ H λx H1=>tb σ H1 λy H2=>R x y H2) {Q:Ad→Ah→Prop} {f:Ad→Ad→Kb Ad}
  (hf:∀ v u s2 x y H2,Inv X pins σ H2 s2→qL x v→qL y u→R x y H2→Ao (Au X.prog X.w) X.A (f v u) Q X.xe s2) :
  Ao (Au X.prog X.w) X.A (eval a X.env) (λv s₁=>Ao (Au X.prog X.w) X.A (eval b X.env) (λu s₂=>Ao (Au X.prog X.w) X.A (f v u) Q X.xe s₂) X.xe s₁) X.xe s:=by
 refine thn (ha pins s σ H _ I h) λv s1 ⟨x,H1,I1,r1,q1⟩=>?_;refine thn (hb pins s1 σ H1 _ I1 q1) λu s2 ⟨y,H2,I2,r2,q2⟩=>?_;exact hf v u s2 x y H2 I2 r1 r2 q2
def opI {f:Ad→Ad→Kb Ad}{C:Aj→Aj→Prop}
  (rule:∀ (i j:Aj) (t u:Pu) (s:Ah) (Q:Ad→Ah→Prop) (E:Ad→Ah→Prop),C i j→Q (.int (g i j) s.toks) { s with toks:=s.toks+1 } → Ao (Au X.prog X.w) X.A (f (.int i t) (.int j u)) Q E s) :
  OpR X f (rI C λi j=>.int (g i j)):=by
 intro pins s σ H x y v u Q I rx ry h;obtain⟨i,j,rfl,rfl,hc,q⟩:=h;obtain⟨t,rfl⟩:=rx;obtain⟨t',rfl⟩:=ry;exact rule i j t t' s _ _ hc ⟨.int (g i j),H,I.tok _,⟨_,rfl⟩,q⟩
def LL {f:Ad→Ad→Kb Ad}
  (rule:∀ (i j:Aj) (t u:Pu) (s:Ah) (Q:Ad→Ah→Prop) (E:Ad→Ah→Prop),Q (.int (g i j) s.toks) { s with toks:=s.toks+1 } → Ao (Au X.prog X.w) X.A (f (.int i t) (.int j u)) Q E s) :
  OpR X f (rI0 λi j=>.int (g i j)):=by
 intro pins s σ H x y v u Q I rx ry h;obtain⟨i,j,rfl,rfl,q⟩:=h;obtain⟨t,rfl⟩:=rx;obtain⟨t',rfl⟩:=ry;exact rule i j t t' s _ _ ⟨.int (g i j),H,I.tok _,⟨_,rfl⟩,q⟩
def Q2 {g:Aj→Aj→Ar}
  (rule:∀ (i j:Aj) (t u:Pu) (s:Ah) (Q:Ad→Ah→Prop) (E:Ad→Ah→Prop),Q (.bool (g i j)) s→Ao (Au X.prog X.w) X.A (f (.int i t) (.int j u)) Q E s) :
  OpR X f (rI0 λi j=>.bl (g i j)):=by
 intro pins s σ H x y v u Q I rx ry h;obtain⟨i,j,rfl,rfl,q⟩:=h;obtain⟨t,rfl⟩:=rx;obtain⟨t',rfl⟩:=ry;exact rule i j t t' s _ _ ⟨.bl (g i j),H,I,rfl,q⟩
def HU (i j:Aj):Prop:=0<j∧j<1073741824
def HV (i j:Aj):Prop:=0≤j∧j≤1000000∧i.natAbs<2 ^ 64
def YF (i j:Aj):Prop:=(-(2 ^ 64)<i∧i<2 ^ 64)∨(-(2 ^ 64)<j∧j<2 ^ 64)
def YF.ok {i j:Aj}(h:YF i j):IntMulOk i j:=by
 rcases h with⟨h1,h2⟩|⟨h1,h2⟩
 ·exact .of_left (intBits_le_64 h1 h2)
 ·exact .of_right (intBits_le_64 h1 h2)
def LN:OpR X (Ev .Add) (rI0 λi j=>.int (i+j)):=LL λ_ _ _ _ _ _ _ q=>add_int q
def LS:OpR X (Ev .Sub) (rI0 λi j=>.int (i-j)):=LL λ_ _ _ _ _ _ _ q=>sub_int q
def LQ:OpR X (Ev .Mult) (rI YF λi j=>.int (i*j)):=opI λ_ _ _ _ _ _ _ hc q=>mul_int q hc.ok
def F3:OpR X (Ev .FloorDiv) (rI HU λi j=>.int (i/j)):=opI λi j _ _ _ _ _ hc q=>by
 have h1:(0:Aj)<j:=hc.1;have h2:j<1073741824:=hc.2;exact floordiv_int om (by rw[Int.fdiv_eq_ediv_of_nonneg i om];exact q) (.inl (PyProof.noPylong_small om))
def LP:OpR X (Ev .Mod) (rI (λ_ j=>0<j) λi j=>.int (i % j)):=opI λi j _ _ _ _ _ hc q=>by
 have h1:(0:Aj)<j:=hc;exact mod_int' om (by rw[Int.fmod_eq_emod_of_nonneg i om];exact q)
def LR:OpR X (Ev .Pow) (rI HV λi j=>.int (i ^ j.toNat)):=opI λ_ _ _ _ _ _ _ hc q=>pow_int_small hc.1 hc.2.1 hc.2.2 q
def unI {f:Ad→Kb Ad}{g:Aj→Aj}
  (rule:∀ (i:Aj) (t:Pu) (s:Ah) (Q:Ad→Ah→Prop) (E:Ad→Ah→Prop),Q (.int (g i) s.toks) { s with toks:=s.toks+1 } → Ao (Au X.prog X.w) X.A (f (.int i t)) Q E s) :
  UnR X f (rU λi=>.int (g i)):=by
 intro pins s σ H x v Q I rx h;obtain⟨i,rfl,q⟩:=h;obtain⟨t,rfl⟩:=rx;exact rule i t s _ _ ⟨.int (g i),H,I.tok _,⟨_,rfl⟩,q⟩
def SZ:UnR X (Vp .USub) (rU λi=>.int (-i)):=unI λ_ _ _ _ _ q=>neg_int q
end
section
variable {X:Cx}{a b c:Bw}{ta tb tc:TE}{pos:Fh}
def NH {pins:Ab (Af × Cs)}{σ:St}{H:Hp}{s:Ah}{Q:VK}{k k':Ar}(I:Inv X pins σ H s)(q:Q (.bl k) H)(e:k=k'):EP X pins σ Q (.bool k') s:=by
 subst e;exact⟨.bl k,H,I,rfl,q⟩
def ED:OpR X (Dj .Lt) (rI0 λi j=>.bl (decide (i<j))):=Q2 λ_ _ _ _ _ _ _ q=>lt_int q
def EC:OpR X (Dj .LtE) (rI0 λi j=>.bl (decide (i≤j))):=Q2 λ_ _ _ _ _ _ _ q=>le_int q
def EB:OpR X (Dj .Gt) (rI0 λi j=>.bl (decide (j<i))):=Q2 λ_ _ _ _ _ _ _ q=>gt_int q
def EA:OpR X (Dj .GtE) (rI0 λi j=>.bl (decide (j≤i))):=Q2 λ_ _ _ _ _ _ _ q=>ge_int q
def LO:OpR X (Dj .Is) (λx y H Q=>y=.non∧Q (.bl (decide (x=.non))) H):=by
 intro pins s σ H x y v u Q I rx ry h;obtain⟨rfl,q⟩:=h;cases ry;refine is_none_gen (NH I q ?_);cases x <;> first
  |(cases rx;rfl)
  |(obtain⟨t,rfl⟩:=rx;rfl)
def OpR.or {r r':R2}(h:OpR X f r)(h':OpR X f r'):OpR X f (λx y H Q=>r x y H Q∨r' x y H Q):=by
 intro pins s σ H x y v u Q I rx ry q;rcases q with q|q
 ·exact h pins s σ H x y v u Q I rx ry q
 ·exact h' pins s σ H x y v u Q I rx ry q
def gH (b:Bw){op:Sj}(h:op≠.In:=by decide)(h2:op≠.NotIn:=by decide):Kf op b=false:=by
 have e1:(op == CmpOp.In)=false:=by cases op <;> first|rfl|exact absurd rfl h
 have e2:(op == CmpOp.NotIn)=false:=by cases op <;> first|rfl|exact absurd rfl h2
 cases b <;> simp[Kf,e1,e2]
def o7 (K:Ak)(x:V)(H:Hp)(k:Ar):Prop:=
 match x with
 |.non=>k=false
 |.bl b=>k=b
 |.int i=>k=(i != 0)
 |.str y=>y.length≤sizeLine∧k=((y.length:Aj) != 0)
 |.byt y=>y.size≤sizeLine∧k=((y.size:Aj) != 0)
 |.ref p=>(∃ xs,SqL K H p xs∧k=!xs.isEmpty)∨(∃ xs,SqT K H p xs∧k=!xs.isEmpty)∨∃ kvs,H p=Aa (.dK kvs)∧k=!kvs.isEmpty
 |_=>Fn
def oS {κ:Type}{kvs:Ab (κ × V)}{vs:Ab (κ × Ad)}(r:KV kvs vs):(!vs.isEmpty)=!kvs.isEmpty:=by
 cases r <;> rfl
def t7 {xs:Ab V}{its:Ab Ad}(r:qK xs its):(!its.toArray.isEmpty)=!xs.isEmpty:=by
 cases r <;> simp
def bF:(sizeLine:Ai)<2 ^ 63:=by rw[Fe];decide
def bP:HW X (λx H Q=>∃ k,o7 X.K x H k∧Q k H):=by
 intro pins s σ H x v Q I rx h;obtain⟨k,e,q⟩:=h;have hl:=bF;have hs:sizeLine=16777216:=Fe;cases x with
 |non =>
  cases rx;have e':k=false:=e;subst e';exact truthy_none ⟨H,I,q⟩
 |bl b =>
  cases rx;have e':k=b:=e;subst e';exact OH ⟨H,I,q⟩
 |int i =>
  obtain⟨t,rfl⟩:=rx;have e':k=(i != 0):=e;subst e';exact PySem.P.truthy_int ⟨H,I,q⟩
 |str y =>
  obtain⟨t,rfl⟩:=rx;obtain⟨hy,e'⟩:y.length≤sizeLine∧k=((y.length:Aj) != 0):=e;subst e';exact PySem.P.truthy_str om ⟨H,I.tok _,q⟩
 |byt y =>
  obtain⟨t,rfl⟩:=rx;obtain⟨hy,e'⟩:y.size≤sizeLine∧k=((y.size:Aj) != 0):=e;subst e';exact PySem.W.truthy_bytes om ⟨H,I.tok _,q⟩
 |ref p =>
  cases rx;have e':(∃ xs,SqL X.K H p xs∧k=!xs.isEmpty)∨(∃ xs,SqT X.K H p xs∧k=!xs.isEmpty)∨∃ kvs,H p=Aa (.dK kvs)∧k=!kvs.isEmpty:=e;rcases e' with⟨xs,hx,e'⟩|⟨xs,hx,e'⟩|⟨kvs,hx,e'⟩
  ·subst e'
   obtain⟨its,r,pl,hz⟩:=I.list hx;have hlen:=r.length;exact wpAny_truthy_list pl.isList (by simp only[Bc];omega) ⟨H,I.tok _,by rw[t7 r];exact q⟩
  ·subst e'
   obtain⟨its,r,pl,hz⟩:=I.tuple hx;have hlen:=r.length;exact truthy_tuple pl (by simp only[Bc];omega) ⟨H,I.tok _,by rw[t7 r];exact q⟩
  ·subst e'
   obtain⟨hz,hS,vs,r,m⟩:kvs.length≤sizeLine∧(p == IT)=false∧∃ vs,KV kvs vs∧s.heap.DictOf (x5 X.prog X.w) p vs:=I.hok p _ hx;have hlen:kvs.length=vs.length:=Paired.length r;exact wpAny_truthy_dict hS m om ⟨H,I.tok _,by rw[oS r];exact q⟩
 |_=>exact(show Fn from e).elim
def Q3:OpR X (Ev .Add) (λx y H Q=>∃ i j,x=.str i∧y=.str j∧i.length+j.length≤sizeLine∧Q (.str (i++j)) H):=by
 intro pins s σ H x y v u Q I rx ry h;obtain⟨i,j,rfl,rfl,hz,q⟩:=h;obtain⟨t,rfl⟩:=rx;obtain⟨t',rfl⟩:=ry;exact add_str (λt' tk=>⟨.str (i++j),H,I.tok _,⟨_,rfl⟩,q⟩) hz
def kU {x:V}(r:qK [x] us):∃ u,us=[u]∧qL x u:=by
 cases r with
 |cons r1 r2=>cases r2;exact⟨_,rfl,r1⟩
def QZ {x y:V}(r:qK [x,y] us):∃ u w',us=[u,w']∧qL x u∧qL y w':=by
 cases r with
 |cons r1 r2 =>
  cases r2 with
  |cons r3 r4=>cases r4;exact⟨_,_,rfl,r1,r3⟩
def lX:kK X (.type "int") (λxs H Q=>(∃ i,xs=[.int i]∧Q (.int i) H)∨∃ k,xs=[.bl k]∧Q (.int (if k then 1 else 0)) H):=by
 intro pins s σ H xs us Q I r h;rcases h with⟨i,rfl,q⟩|⟨k,rfl,q⟩
 ·obtain⟨u,rfl,t,rfl⟩:=kU r
  exact call_int_int ⟨.int i,H,I,⟨_,rfl⟩,q⟩
 ·obtain⟨u,rfl,r1⟩:=kU r
  cases r1;exact call_int_bool ⟨.int (if k then 1 else 0),H,I.tok _,⟨_,rfl⟩,q⟩
def MQ (K:Ak)(x:V)(H:Hp)(n:Ai):Prop:=
 match x with
 |.str y=>y.length≤sizeLine∧n=y.length
 |.byt y=>y.size≤sizeLine∧n=y.size
 |.ref p=>(∃ xs,SqL K H p xs∧n=xs.length)∨∃ xs,SqT K H p xs∧n=xs.length
 |_=>Fn
def YQ:kK X (.builtin "len") (λxs H Q=>∃ x n,xs=[x]∧MQ X.K x H n∧Q (.int n) H):=by
 intro pins s σ H xs us Q I r h;obtain⟨x,n,rfl,e,q⟩:=h;obtain⟨u,rfl,rx⟩:=kU r;have hl:=bF;have hs:sizeLine=16777216:=Fe;cases x with
 |str y =>
  obtain⟨t,rfl⟩:=rx;obtain⟨hy,e'⟩:y.length≤sizeLine∧n=y.length:=e;subst e';exact len_str om ⟨.int _,H,I.tok _,⟨_,rfl⟩,q⟩
 |byt y =>
  obtain⟨t,rfl⟩:=rx;obtain⟨hy,e'⟩:y.size≤sizeLine∧n=y.size:=e;subst e';exact PySem.W.len_bytes om ⟨.int _,H,I.tok _,⟨_,rfl⟩,q⟩
 |ref p =>
  cases rx;have e':(∃ xs,SqL X.K H p xs∧n=xs.length)∨∃ xs,SqT X.K H p xs∧n=xs.length:=e;rcases e' with⟨xs,hx,e'⟩|⟨xs,hx,e'⟩
  ·subst e'
   obtain⟨its,r',pl,hz⟩:=I.list hx;have hlen:=r'.length;exact Calls.call_len_list pl.isList (by simp only[Bc];omega) ⟨.int xs.length,H,I.tok _,⟨_,by simp only[Bc];rw[hlen]⟩,q⟩
  ·subst e'
   obtain⟨its,r',pl,hz⟩:=I.tuple hx;have hlen:=r'.length;exact len_tuple pl (by simp only[Bc];omega) ⟨.int xs.length,H,I.tok _,⟨_,by simp only[Bc];rw[hlen]⟩,q⟩
 |_=>exact(show Fn from e).elim
end
end _L
namespace _L
open PySem PySem.Spec PyProof.Rows
variable {mA:As→Am Ad}
structure ObjM (h:Bs)(x dx C:Af)(mA:As→Am Ad):Prop where
 obj:h.get? x=Aa (Qj C dx)
 ns:h.Ns1 dx mA
 ne:dx≠x
set_option tactic.hygienic true in
def XO {h:Bs}{dx:Af}(n:h.Ns1 dx mA):∃ od,h.get? dx=Aa od∧∀ name,Ru name od=Aa (mA name):=by
 obtain⟨o,es,ep,ho,hd,hk,_,hm⟩:=n;refine⟨o,ho,λname=>?_⟩;have e:=hm name;unfold nsFind findBy at e;rw[← Array.find?_toList] at e;unfold Ru;rw[hd];dsimp only
 split
 ·rename_i y q
  rw[q] at e;exact congrArg Aa e
 ·rename_i q
  rw[q] at e;have a:es.toList.any (·.refKey)=false:=by
   rw[List.any_eq_false];intro y hy;obtain⟨z,t,hkey⟩:=hk y (Mw.mp hy);simp[DictEntry.refKey,hkey]
  have a':¬ es.toList.any (·.refKey)=true:=by rw[a];exact Gz
  rw[Bf a'];exact congrArg Aa e
def ObjM.look {h:Bs}{x dx C:Af}(I:ObjM h x dx C mA):∃ od,PySem.W.InstAt h x (Qj C dx) C (Aa od)∧∀ name,Ru name od=Aa (mA name):=
 let ⟨od,ho,hl⟩:=XO I.ns
 ⟨od,⟨I.obj,rfl,rfl,ho⟩,hl⟩
section
variable {P:Bl}{w:Bz}{H H':Hp}{h h':Bs}{a C dx:Af}{fs fs':Ab (As × V)}
def B9 (hok:HOk P w H h)(e:H a=Aa (.ins C dx fs)):∃ mA,ObjM h a dx C mA∧(∀ f,gP (fs.lookup f) (mA f))∧Yc mA (fs.map (·.1))∧fs.length≤1000∧H dx=Aa (.own a):=by
 obtain⟨d,z,ne,ob,mA,n,r,q⟩:=(show zT P w H h a (.ins C dx fs) from hok a _ e)
 exact⟨mA,⟨ob,n,ne⟩,r,q,z,d⟩
end
structure Cls (K:Ak)(C:Af):Prop where
 pg:Vq K C Str.empty=true
 hd:PySem.W.hasDictIn K C=true
 po:PySem.W.plainOver K C=true
 sa:Lf K (.ref C) "__setattr__" = Aa (Aa (.builtin "object.__setattr__"))
def Cls.get {K:Ak}{C:Af}(c:Cls K C)(f:As):Vq K C f=true:=c.pg
section
variable {X:Cx}{pins:Ab (Af × Cs)}{σ : St}{H:Hp}{s:Ah}{A:By}{E:Ad→Ah→Prop}{Q:Ad→Ah→Prop}{c:Ad}{b:Ar}
inductive TyOf (K:Ak)(H:Hp):V→Ad→Prop where
 |non:TyOf K H .non (.type "NoneType")
 |bl (x:Ar):TyOf K H (.bl x) (.type "bool")
 |int (i:Aj):TyOf K H (.int i) (.type "int")
 |str (x:As):TyOf K H (.str x) (.type "str")
 |flt (x:UInt64):TyOf K H (.flt x) (.type "float")
 |lst {a:Af} {xs:Ab V} (e:H a=Aa (.lst xs)):TyOf K H (.ref a) (.type "list")
 |frz {a:Af} {o:Cs} {xs:Ab V} (e:H a=Aa (.frz o (.lst xs))):TyOf K H (.ref a) (.type "list")
 |tup {a:Af} {xs:Ab V} (e:H a=Aa (.tup xs)):TyOf K H (.ref a) (.type "tuple")
 |dK {a:Af} {kvs:Ab (Key × V)} (e:H a=Aa (.dK kvs)):TyOf K H (.ref a) (.type "dict")
 |dT {a:Af} {kvs:Ab (Ab Key × V)} (e:H a=Aa (.dT kvs)):TyOf K H (.ref a) (.type "dict")
 |ins {a C dx:Af} {fs:Ab (As × V)} (e:H a=Aa (.ins C dx fs)) (cl:Cls K C) (ha:Lf K (.ref C) "__class__" = Aa (Aa (.builtin "object.__class__")))
   (hn:Ut K (.builtin "object.__class__") "__get__" = Aa (Aa (.builtin "getset_descriptor.__get__"))) (htk:Wk K (.builtin "object.__class__")=Aa true)
   (hm:Sk K C (.type "object")=Aa true):TyOf K H (.ref a) (.ref C)
def XD {x:V}{u t:Ad}(I:Inv X pins σ H s)(rx:qL x u)(ty:TyOf X.K H x t)(e:Jt X.K t c=Aa b)(h:∀ tk,Q (.bool b) { s with toks:=tk }) :
  Ao (Au X.prog X.w) A (call (.builtin "isinstance") [u,c]) Q E s:=by
 cases ty with
 |non=>cases (show u=Dp from rx);exact Ek PySem.W.kitx_none I.kIn Ix e (λz=>nomatch z) h
 |bl y=>cases (show u=Gg y from rx);exact Ek PySem.W.kitx_bool I.kIn Ix e (λz=>nomatch z) h
 |int i=>obtain⟨t,q⟩:=(show ∃ t,u=My i t from rx);cases q;exact Ek PySem.W.kitx_int I.kIn Ix e (λz=>nomatch z) h
 |str y=>obtain⟨t,q⟩:=(show ∃ t,u=Up y t from rx);cases q;exact Ek PySem.W.kitx_str I.kIn Ix e (λz=>nomatch z) h
 |flt y=>obtain⟨t,q⟩:=(show ∃ t,u=Yq y t from rx);cases q;exact Ek PySem.W.kitx_float I.kIn Ix e (λz=>nomatch z) h
 |@lst a xs ea =>
  cases (show u=Dc a from rx)
  obtain⟨_,_,n,_,h1⟩:=(show zT X.prog X.w H s.heap a (.lst xs) from I.hok a _ ea)
  exact Ek OI I.kIn ⟨_,h1,rfl⟩ e (λz=>nomatch z) h
 |@frz a ob xs ea =>
  cases (show u=Dc a from rx)
  obtain⟨_,_,_,n,_,h1⟩:=(show zT X.prog X.w H s.heap a (.frz ob (.lst xs)) from I.hok a _ ea)
  exact Ek OI I.kIn ⟨_,h1,rfl⟩ e (λz=>nomatch z) h
 |@tup a xs ea =>
  cases (show u=Dc a from rx)
  obtain⟨_,_,_,p⟩:=(show zT X.prog X.w H s.heap a (.tup xs) from I.hok a _ ea)
  obtain⟨o,h1,h2,_⟩:=p;exact Ek Ts I.kIn ⟨o,h1,h2⟩ e (λz=>nomatch z) h
 |@dK a kvs ea =>
  cases (show u=Dc a from rx)
  obtain⟨_,_,vs,_,p⟩:=(show zT X.prog X.w H s.heap a (.dK kvs) from I.hok a _ ea)
  obtain⟨o,es,ep,h1,h2,_⟩:=p;exact Ek Uu I.kIn ⟨o,h1,h2.1⟩ e (λz=>nomatch z) h
 |@dT a kvs ea =>
  cases (show u=Dc a from rx)
  obtain⟨_,_,xs,_,o,es,ep,h1,h2,_⟩:=(show zT X.prog X.w H s.heap a (.dT kvs) from I.hok a _ ea)
  exact Ek Uu I.kIn ⟨o,h1,h2.1⟩ e (λz=>nomatch z) h
 |@ins a C dx fs ea cl ha hn htk hm =>
  cases (show u=Dc a from rx)
  obtain⟨mA,O,_⟩:=B9 I.hok ea;obtain⟨od,J,_⟩:=O.look;exact Ek (PySem.W.kitx_own (cl.get _) cl.hd ha hn htk hm) I.kIn J e (λz=>nomatch z) h
end
end _L
namespace _L
open PySem PySem.Spec PyProof.Rows
variable {ps:Ab As}{K:Ak}{mg:As→Am Ad}{kindOf:As→Am IC}{A:By}{scope:Gu}
structure Room (k:Ai)(A:By):Prop where
 hd:A.handled=none
 dp:A.depth+3*k+5<Oc
 un:A.units+16*k+200<Fi
 gd:A.guards=Aa []
def Room.deeper {k:Ai}(r:Room (k+1) A)(env:Jv):Room k (A.deeper env):=
 ⟨r.hd,by have:=r.dp;show A.depth+1+3*k+5<_;omega,by have:=r.un;show A.units+3+16*k+200<_;omega,r.gd⟩
def Room.depth {k:Ai}(r:Room k A):A.depth<Oc:=by have:=r.dp;omega
def Room.units {k:Ai}(r:Room k A):A.units+64<Fi:=by have:=r.un;omega
def AB:TA:=λ_ H Q=>Q [] H
section
variable {X:Cx}{e:Bw}{es:Ab Bw}{te:TE}{t:TA}{pos:Fh}
def LU:PA X [] AB:=λ_ _ _ _ H Q I h=>OJ ⟨[],H,I,.nil,h⟩
def AE (t:TA):TE:=λσ H Q=>t σ H λxs H1=>xs.length≤sizeLine∧∀ p,H1 p=none→Q (.ref p) (upd H1 p (.tup xs))
def AA (t:TA):TE:=λσ H Q=>t σ H λxs H1=>xs.length≤sizeLine∧∀ p,H1 p=none→Q (.ref p) (upd H1 p (.lst xs))
def LZ  (h:PA X es t):PE X (.Tuple es x1 pos) (AE t):=by
 intro pins s σ H Q I hq;refine wpAny_Tuple_spliced (thn (h pos pins s σ H _ I hq) λus s1 ⟨xs,H1,I1,r,z,q⟩=>⟨by rw[← r.length];exact z,?_⟩)
 have hf:H1 s1.heap.objs.size=none:=I1.hok.fresh (Av _);refine⟨.ref s1.heap.objs.size,upd H1 s1.heap.objs.size (.tup xs),I1.laid (t':=s1.toks) (λb u e=>Ag _ e) (Av _) ?_,rfl,q _ hf⟩;exact⟨z,us,r,⟨_,Bb _ rfl,rfl,_,rfl⟩⟩
def WA (h:PA X es t):PE X (.List es pos) (AA t):=by
 intro pins s σ H Q I hq;refine wpAny_List_spliced (thn (h pos pins s σ H _ I hq) λus s1 ⟨xs,H1,I1,r,z,q⟩=>⟨by rw[← r.length];exact z,?_⟩)
 have hf:H1 s1.heap.objs.size=none:=I1.hok.fresh (Av _);refine⟨.ref s1.heap.objs.size,upd H1 s1.heap.objs.size (.lst xs),I1.laid (t':=s1.toks) (λb u e=>Ag _ e) (Av _) ?_,rfl,q _ hf⟩;exact⟨z,us,0,r,Bb _ rfl⟩
end
abbrev Sp:=Ab V→Hp→VK→XK→Prop
abbrev CXT:=Ab Jv→Hp→Ah→XK→Ad→Ah→Prop
structure Env0 (P:Bl)(w:Bz)(K:Ak)(mg:As→Am Ad)(base:Bs)(A:By)(outer:Ab Jv)(s:Ah)(H:Hp):Prop where
 frames:A.frames=Aa outer
 mod:Mod K mg base
 bs:∀ b o,base.get? b=Aa o→s.heap.get? b=Aa o∧H b=none
 bsz:base.objs.size≤s.heap.objs.size
 funs:s.heap.FunFrames base outer
 frf:∀ b∈frs outer,H b=none
 hok:HOk P w H s.heap
 bare:Lz s.gens
def CE (outer:Ab Jv)(P:Bl)(w:Bz)(H:Hp)(s:Ah)(Q:VK)(u:Ad)(s':Ah):Prop:=
 ∃ v H',s'.os=s.os∧Lz s'.gens∧Un (frs outer) [] H H' s.heap s'.heap∧HOk P w H' s'.heap∧qL v u∧Q v H'
def CR (CX:CXT)(outer:Ab Jv)(P:Bl)(w:Bz)(H:Hp)(s:Ah)(Q:VK)(E:XK)(r:Tn)(s':Ah):Prop:=
 match r with
 |.ok (.ret u)=>CE outer P w H s Q u s'
 |.ok _=>Fn
 |.error e=>CX outer H s E e s'
structure FnOk (P:Bl)(w:Bz)(K:Ak)(mg:As→Am Ad)(base:Bs)(CX:CXT)(k:Ai)(f:Af)(fd:Fy)(ps:Ab As)(sp:Sp):Prop where
 len:∀ vs H Q E,sp vs H Q E→vs.length=ps.length
 run:∀ (A:By) (outer:Ab Jv) (s:Ah) (H:Hp) (args:Args) (us:Ab Ad) (vs:Ab V) (Q:VK) (E:XK),Room k A→Env0 P w K mg base A outer s H→Nn s fd args (ps.zip us)→qK vs us→sp vs H Q E →
  Jd (Au P w) A (.call (.ref f) args) (CR CX outer P w H s Q E) s
section
variable {X:Cx}{pins:Ab (Af × Cs)}{σ : St}{H:Hp}{s s':Ah}
def Inv.env0 (I:Inv X pins σ H s):Env0 X.prog X.w X.K X.mg X.base X.A X.stack s H:=
 ⟨I.ok.frames,I.ok.mod,I.bs,Fg I.ok.bsz I.sz,I.stack,I.stkFree,I.hok,I.bare⟩
def Inv.after {Q:VK}{u:Ad}(I:Inv X pins σ H s)(h:CE X.stack X.prog X.w H s Q u s'):EP X pins σ Q u s':=by
 obtain⟨v,H',os,bare,un,hok,r,q⟩:=h;obtain⟨hh,g,d,t,os'⟩:=s';obtain rfl:os'=s.os:=os;exact⟨v,H',I.call (h':=hh) (g':=g) (d':=d) (t':=t) (ch:=[]) un hok bare (λb z=>absurd z (by simp)),r,q⟩
end
def vW (K:Ak)(fd:Fy)(ps:Ab As)(ds:Ab Ad):Prop:=
 ∀ (s:Ah) (us:Ab Ad),K.In s.heap→(us++ds).length=ps.length→Nn s fd ⟨us,[]⟩ (ps.zip (us++ds))
def vW.all {fd:Fy}(h:∀ us:Ab Ad,us.length=ps.length→Wl fd ⟨us,[]⟩=pure (ps.zip us)):vW K fd ps []:=λs us _ hl=>by
 rw[Fo] at hl ⊢;exact .of_eq (h us hl)
structure FnScope (N P:Ab As)(sc:Gu):Prop where
 kind:sc.kind=.function
 co:sc.isCoroutine=false
 gen:sc.isGenerator=false
 nd:N.Nodup
 pre:N.take P.length=P
 par:∀ x∈P,sc.names.lookup x=Aa .local ∨ sc.names.lookup x=Aa .cell
 nofree:∀ y∈sc.names,y.2≠.free
def lV {x:As}:∀ {binds:Ab (As × Ad)} {m:As→Am Ad},(∀ v,(x,v) ∉ binds)→Sl kindOf binds m x=m x
 |[],_,_=>rfl
 |(n,v)::r,m,h=>by
  unfold Sl;rw[lV λw hw=>h w (Bq _ hw)]
  split
  ·have:x≠n:=by rintro rfl;exact h v Df
   simp[this]
  ·rfl
def lT {x:As}:∀ {binds:Ab (As × Ad)} {m:As→Am Ad},(∀ v,(x,v) ∉ binds)→Sm kindOf binds m x=m x
 |[],_,_=>rfl
 |(n,v)::r,m,h=>by
  unfold Sm;rw[lT λw hw=>h w (Bq _ hw)]
  split
  ·rfl
  ·have:x≠n:=by rintro rfl;exact h v Df
   simp[this]
def lU {x:As}{v:Ad}:∀ {P:Ab As} {vs:Ab Ad} {i:Ai} {m:As→Am Ad},P.Nodup→P[i]? = Aa x→vs[i]? = Aa v→kindOf x=Aa .local →
  Sl kindOf (P.zip vs) m x=Aa v
 |[],_,_,_,_,h,_,_=>by simp at h
 |_::_,[],_,_,_,_,h,_=>by simp at h
 |p::P,w::vs,0,m,nd,h1,h2,hk=>by
  simp at h1 h2;subst h1;subst h2;show Sl kindOf ((p,w)::P.zip vs) m p=_;unfold Sl;rw[lV λv hv=>(ID.mp nd).1 (Nb hv).1,Bi hk];simp
 |p::P,w::vs,i+1,m,nd,h1,h2,hk=>by
  show Sl kindOf ((p,w)::P.zip vs) m x=_;unfold Sl;exact lU (i:=i) (ID.mp nd).2 (by simpa using h1) (by simpa using h2) hk
def lS {x:As}{v:Ad}:∀ {P:Ab As} {vs:Ab Ad} {i:Ai} {m:As→Am Ad},P.Nodup→P[i]? = Aa x→vs[i]? = Aa v→kindOf x≠Aa .local →
  Sm kindOf (P.zip vs) m x=Aa v
 |[],_,_,_,_,h,_,_=>by simp at h
 |_::_,[],_,_,_,_,h,_=>by simp at h
 |p::P,w::vs,0,m,nd,h1,h2,hk=>by
  simp at h1 h2;subst h1;subst h2;show Sm kindOf ((p,w)::P.zip vs) m p=_;unfold Sm;rw[lT λv hv=>(ID.mp nd).1 (Nb hv).1,Bf hk];simp
 |p::P,w::vs,i+1,m,nd,h1,h2,hk=>by
  show Sm kindOf ((p,w)::P.zip vs) m x=_;unfold Sm;exact lS (i:=i) (ID.mp nd).2 (by simpa using h1) (by simpa using h2) hk
def yC (N:Ab As)(vs:Ab V):St:=vs.map Aa++Dm (N.length-vs.length) none
def nD (CX:CXT)(P:Bl)(w:Bz)(K:Ak)(mg:As→Am Ad)(base:Bs)(N:Ab As)(qual:As)(scope:Gu)(f:Af)(cd:Ad)(A:By)(outer:Ab Jv)(s:Ah)(H:Hp)(E:XK):Cx where
 prog:=P
 w:=w
 K:=K
 mg:=mg
 base:=base
 A:=A.deeper (Hd qual scope s.heap.objs.size f cd)
 N:=N
 s₀:=s
 H₀:=H
 env:=Hd qual scope s.heap.objs.size f cd
 outer:=outer
 stack:=Hd qual scope s.heap.objs.size f cd::outer
 ex:=[]
 calm:=true
 fn:=λ_=>true
 pn:=[]
 xe:=λe s'=>Ao (Au P w) (A.deeper (Hd qual scope s.heap.objs.size f cd)) (leaving (Hd qual scope s.heap.objs.size f cd) e) (λ_ s''=>CX outer H s E e s'') (λe' s''=>CX outer H s E e' s'') s'
def rA {sc:Gu}{n:Ai}{x:As}(h:sc.names.lookup x=Aa .cell):∃ c,(Rf n sc.names []).lookup x=Aa c:=by
 have q:=Lr sc.names n [] (.inl h);exact Option.isSome_iff_exists.mp q
def dB {CX:CXT}{P:Bl}{w:Bz}{base:Bs}{N:Ab As}{qual:As}{f:Af}{cd:Ad}{outer:Ab Jv}{s s1:Ah}{H:Hp}{E:XK}{us:Ab Ad}{vs:Ab V}
  (S:FnScope N ps scope) (hd:A.handled=none) (e0:Env0 P w K mg base A outer s H) (hl:vs.length=ps.length) (r:qK vs us)
  (x:InCallC s s.heap.objs.size (Sl (Hd qual scope s.heap.objs.size f cd).kindOf (ps.zip us) λ_=>none) (Rf (s.heap.objs.size+1) scope.names []) (Sm (Hd qual scope s.heap.objs.size f cd).kindOf (ps.zip us) λ_=>none) s1) :
  Inv (nD CX P w K mg base N qual scope f cd A outer s H E) [] (yC N vs) H s1:=by
 have hpl:ps.length≤N.length:=by have:=congrArg Jl S.pre;rw[Ee] at this;omega
 obtain⟨h1,tk,rfl,hk⟩:=x.done;have noA:∀ b:Af,b ∉ (nD CX P w K mg base N qual scope f cd A outer s H E).ex:=λb z=>absurd (show b∈([]:Ab Af) from z) (by simp)
 refine⟨⟨e0.mod,S.kind,rfl,rfl,Av _,λy z c h1 h2=>?_,λy hy=>?_,λy c _ h=>?_,λ_=>hd,Sc e0.frames,.inr ⟨rfl,rfl⟩,λb z=>absurd z (noA b),e0.bs,e0.bsz,λb _ _=>noA b,λb z=>absurd z (noA b),e0.funs,e0.frf⟩,
  rfl,e0.bare,Un.kept hk,⟨_,x.toInCall.ns,λi y v h1 h2 h3=>?_⟩,λy c h=>⟨_,x.cell y c h⟩,e0.hok.fresh (Av _),λy c h=>?_,λp hp=>absurd (show p∈([]:Ab (Af × Cs)) from hp) (by simp),e0.hok.kept hk,?_⟩
 ·exact name_of_addr x.apart (Fx h1) (Fx h2)
 ·have hy:scope.names.lookup y=Aa .cell∨scope.names.lookup y=Aa .free:=hy
  rcases hy with hy|hy
  ·exact rA hy
  ·exact absurd rfl (S.nofree _ (Fx hy))
 ·exact Ku (x.above y c (Fx h))
 ·have hi:i<vs.length:=by
   unfold yC at h2;by_cases hi:i<vs.length
   ·exact hi
   ·rw[Dd (by simpa using hi)] at h2
    rw[Kv] at h2
    split at h2 <;> cases h2
  have ha:vs[i]? = Aa v:=by
   unfold yC at h2;rw[Bk (by simpa using hi),Ds] at h2
   cases e:vs[i]? with
   |none=>rw[e] at h2;cases h2
   |some a=>rw[e] at h2;cases h2;rfl
  obtain⟨u,hu,rv⟩:=r.get ha;have hp:ps[i]? = Aa y:=by
   rw[← S.pre,Kp om];exact h1
  have ndP:ps.Nodup:=by rw[← S.pre];exact S.nd.sublist (List.take_sublist _ _)
  refine⟨u,rv,?_⟩;rcases S.par y (Cf hp) with k|k
  ·exact .inl ⟨k,lU ndP hp hu k⟩
  ·obtain⟨c,e⟩:=rA (n:=s.heap.objs.size+1) k
   refine .inr ⟨.inl k,c,e,?_⟩;have q:=x.cell y c e;rw[lS ndP hp hu (by show scope.names.lookup y≠_;rw[k];decide)] at q
   exact q
 ·exact e0.hok.fresh (Ku (x.above y c (Fx h)))
 ·unfold yC
  show _=N.length;rw[Cb,Aq,List.length_replicate];omega
def RT {CX:CXT}{P:Bl}{w:Bz}{base:Bs}{k:Ai}{f:Af}{name qual:As}{params:Arguments}{body:Ab Fl}{dV kV doc pm cdv ct oc:Ad}{an od:Am Af}
  {osl:Ay (Am Ad)} {N ps:Ab As} {sp:Sp} (lk:K.lookup f=Aa ⟨oc,od,.func (Ho name qual params body scope dV kV doc pm an cdv ct),osl⟩) (hcd:Lg K cdv qual=true) (S:FnScope N ps scope)
  (len:∀ vs H Q E,sp vs H Q E→vs.length=ps.length)
  (hbody:∀ (A:By) (outer:Ab Jv) (s:Ah) (H:Hp) (vs:Ab V) (Q:VK) (E:XK),Room k (A.deeper (Hd qual scope s.heap.objs.size f cdv))→sp vs H Q E →
   ∃ t,PSs (nD CX P w K mg base N qual scope f cdv A outer s H E) body t∧t { nx:=λ_ H'=>Q .non H',rt:=Q } (yC N vs) H) :
  FnOk P w K mg base CX (k+1) f (Ho name qual params body scope dV kV doc pm an cdv ct) ps sp:=by
 refine⟨len,λA outer s H args us vs Q E hr e0 hb r hsp=>?_⟩;have hl:=len _ _ _ _ hsp;have KX:K.In s.heap:=e0.mod.kin.keeps λb o e=>(e0.bs b o e).1;have lim:s.heap.NoLimit:=e0.mod.nolimit.keeps λb o e=>(e0.bs b o e).1;have hkind:∀ y∈ps.zip us,scope.names.lookup y.1=Aa .local ∨ (scope.names.lookup y.1=Aa .cell∧((Rf (s.heap.objs.size+1) scope.names []).lookup y.1).isSome=true):=λ⟨n,v⟩ hy=>by
  rcases S.par n (Nb hy).1 with q|q
  ·exact .inl q
  ·exact .inr ⟨q,Lr _ _ _ (.inl q)⟩
 refine Rg hr.depth (KX _ _ lk) rfl S.co S.gen rfl (Tt KX hcd) (hb _ _ _ _ ?_);refine O0 S.kind hkind λenv he s1 x=>?_;subst he;refine⟨lim.keeps x.toInCall.keep,codeAny_func ?_⟩;obtain⟨t,ht,hq⟩:=hbody A outer s H vs Q E (hr.deeper _) hsp;have I:Inv (nD CX P w K mg base N qual scope f cdv A outer s H E) [] (yC N vs) H s1:=dB S hr.hd e0 hl r x;refine Ia (ht [] s1 (yC N vs) H _ I hq) (λfl s' hs=>?_) λe s' hs=>hs;have fin:∀ {σ' : St} {H':Hp} {v:V} {u:Ad},Inv (nD CX P w K mg base N qual scope f cdv A outer s H E) [] σ' H' s'→qL v u→Q v H'→CE outer P w H s Q u s':=
  λ{σ' H' v u} J rv q=>⟨v,H',J.os,J.bare,J.base,J.hok,rv,q⟩
 cases fl with
 |ret u =>
  obtain⟨v,σ',H',J,rv,q⟩:=hs;exact fin J rv q
 |next =>
  obtain⟨σ',H',J,q⟩:=hs;exact fin (v:=V.non) (u:=Dp) J rfl q
 |brk =>
  obtain⟨_,_,_,q⟩:=hs;exact An q
 |cont =>
  obtain⟨_,_,_,q⟩:=hs;exact An q
end _L
namespace _H
open PySem PyProof.Rows
variable {Q:Ad→Ah→Prop}{lo hi:Am Aj}{items:Ay Ad}
def lexLt:Ab Aj→Ab Aj→Ar
 |[],[]=>false
 |[],_::_=>true
 |_::_,[]=>false
 |x::xs,y::ys=>if x=y then lexLt xs ys else decide (x<y)
def lexLt_cons (x y:Aj)(xs ys:Ab Aj):lexLt (x::xs) (y::ys)=if x=y then lexLt xs ys else decide (x<y):=rfl
def lexLt_nil_nil:lexLt [] []=false:=rfl
def l9 (y:Aj)(ys:Ab Aj):lexLt [] (y::ys)=true:=rfl
def l8 (x:Aj)(xs:Ab Aj):lexLt (x::xs) [] = false:=rfl
def VP (A:By)(s:Ah)(a:Aj)(t:Pu)(c:Aj)(u:Pu):∃ e,SeqAt.EqAt A s (.int a t) (.int c u) e∧(e=true↔a=c):=
 ⟨(a == c),SeqAt.EqAt.int_int a t c u,by simp⟩
def JC (A:By)(s:Ah)(a:Aj)(t:Pu)(c:Aj)(u:Pu)(prog:Bl)(w:Bz)(E:Ad→Ah→Prop)(Q:Ad→Ah→Prop)(h:Q (.bool (decide (a<c))) s) :
  Ao (Au prog w) A (richCompare .Lt (.int a t) (.int c u)) Q E s:=
 (Sn h:Ao (Au prog w) A (Dj .Lt (.int a t) (.int c u)) Q E s)
section
open PySem.SeqAt
open PySem.AutoSeq1 (wpAny_loadPart')
open PySem.MeetsSeq PySem.MeetsSeq2 PySem.MeetsSeq3
def sD (l b:Af)(items items2:Ay Ad)(n n2:Ai)(dd dd2:Am Af)(sl sl2:Ay (Am Ad))(ns ms:Ab Aj)(hi:Ik items.toList ns)(hj:Ik items2.toList ms) :
  Meets (Hw.«tuple.__lt__» ⟨[.ref l,.ref b],[]⟩)
   (λ_ R s=>s.heap.get? l=Aa { cls:=.type "tuple",dict:=dd,data:=.seq items n,slots:=sl } ∧ s.heap.get? b=Aa { cls:=.type "tuple",dict:=dd2,data:=.seq items2 n2,slots:=sl2 } ∧
    R (.ok (.ret (.bool (lexLt ns ms)))) s):=
 .of_wp λprog w A R s h=>by
  obtain⟨hp,g,d,tk,os⟩:=s;obtain⟨hl,hb,h⟩:=h;have f2:=AutoSeq1.sub_tuple_tuple;have z1:items.size=ns.length:=by rw[← hi.length];simp
  have z2:items2.size=ms.length:=by rw[← hj.length];simp
  wp_walk using wpAny_loadPart' hl,wpAny_loadPart' hb,Mc _ (λrest b s'=>b.1=none∧s'=⟨hp,g,d,tk,os⟩∧∃ (vs ws:Ab Ad) (ns' ms':Ab Aj),rest=vs.zip ws ∧
   Ik vs ns'∧Ik ws ms'∧ns'.length+items2.size=ms'.length+items.size∧R (.ok (.ret (.bool (lexLt ns' ms')))) ⟨hp,g,d,tk,os⟩) _
  case turn =>
   rintro⟨y,x⟩ rest b s' ⟨hb',rfl,vs,ws,ns',ms',hz,hvi,hwi,hlen,hR⟩;cases hvi with
   |nil=>rw[List.zip_nil_left] at hz;cases hz
   |cons a t hvi' =>
    cases hwi with
    |nil=>rw[List.zip_nil_right] at hz;cases hz
    |cons c u hwi' =>
     rw[Os] at hz;injection hz with hyx hrest
     injection hyx with hy hx
     subst hy hx;rw[lexLt_cons] at hR;simp only[Ci] at hlen;obtain⟨e,he,hiff⟩:=VP A.in1 ⟨hp,g,d,tk,os⟩ a t c u;refine Ac (he prog w _ _ ?_);cases e with
     |true =>
      rw[Bi (hiff.mp rfl)] at hR
      wp_walk
      exact⟨rfl,rfl,_,_,_,_,hrest,hvi',hwi',by omega,hR⟩
     |false =>
      rw[Bf (λq=>absurd (hiff.mpr q) Gz)] at hR;have hri:=JC A.in1 ⟨hp,g,d,tk,os⟩ a t c u prog w
      wp_walk using hri
      exact⟨_,rfl,by simpa using hR⟩
  case fin =>
   rintro⟨b1,b2⟩ s' ⟨hb',rfl,vs,ws,ns',ms',hz,hvi,hwi,hlen,hR⟩;simp only at hb';subst hb';have hv:lexLt ns' ms'=decide (items.size<items2.size):=by
    cases hvi with
    |nil =>
     cases hwi with
     |nil =>
      simp only[Gv] at hlen;rw[lexLt_nil_nil];exact(Cz om).symm
     |cons c u hw =>
      simp only[Gv,Ci] at hlen;rw[l9];exact(De om).symm
    |cons a t hv =>
     cases hwi with
     |nil =>
      simp only[Gv,Ci] at hlen;rw[l8];exact(Cz om).symm
     |cons c u hw =>
      rw[Os] at hz;cases hz
   rw[hv] at hR
   wp_walk
   exact⟨_,rfl,by simpa [Vr] using hR⟩
  case h =>
   exact⟨rfl,rfl,items.toList,items2.toList,ns,ms,rfl,hi,hj,by omega,h⟩
end
section
variable {prog:Bl}{w:Bz}{A:By}{E:Ad→Ah→Prop}{s:Ah}
def lt_tupInts {l b:Af}{items2:Ay Ad}{ns ms:Ab Aj}(hl:Oa s.heap l items)(hb:Oa s.heap b items2)(hi:Ik items.toList ns)(hj:Ik items2.toList ms)
  (hu:A.units<Fi) (h:Q (.bool (lexLt ns ms)) s):Ao (Au prog w) A (Dj .Lt (.ref l) (.ref b)) Q E s:=by
 obtain⟨⟨cls,dd,data,sl⟩,ho,hc,n,hd⟩:=id hl;obtain⟨⟨cls2,dd2,data2,sl2⟩,ho2,hc2,n2,hd2⟩:=id hb;simp only at hc hd hc2 hd2;subst hc hd hc2 hd2;exact richCompare_meets_room (op:=.Lt) ⟨_,ho,rfl⟩ ⟨_,ho2,rfl⟩ PySem.F.slot_tuple_lt PySem.F.entry_tuple_lt (PySem.F.args_tuple_lt_2 _ _) (sD l b items items2 n n2 dd dd2 sl sl2 ns ms hi hj)
  ⟨ho,ho2,show Gg (lexLt ns ms)≠Value.notImplemented∧Q (.bool (lexLt ns ms)) s from⟨(λx=>nomatch x),h⟩⟩ hu
def cat_tup {t b:Af}{vs ws:Ab Ad}(ht:Oa s.heap t vs.toArray)(hb:Oa s.heap b ws.toArray)(hv:vs≠[])
  (h1:ws=[]→Q (.ref t) s) (h2:ws≠[]→Q (.ref s.heap.objs.size) { s with heap:=s.heap.push { cls:=.type "tuple",data:=.seq (vs++ws).toArray } })
  (hsz:vs.length+ws.length≤sizeLine):Ao (Au prog w) A (Ev .Add (.ref t) (.ref b)) Q E s:=by
 obtain⟨⟨cls,dd,data,sl⟩,ho,hc,n,hd⟩:=id ht;obtain⟨⟨cls2,dd2,data2,sl2⟩,ho2,hc2,n2,hd2⟩:=id hb;simp only at hc hd hc2 hd2;subst hc hd hc2 hd2;have e:vs.toArray++ws.toArray=(vs++ws).toArray:=by simp
 by_cases hw:ws=[]
 ·exact Ud ⟨_,ho,rfl⟩ ⟨_,ho2,rfl⟩ Pl So Ls Kw (Kq _ _)
   (tuple_addW1 t b vs.toArray ws.toArray n n2 dd dd2 sl sl2 (by simpa using hv) (by simp[hw])) ⟨ho,ho2,h1 hw⟩
 ·refine Ud ⟨_,ho,rfl⟩ ⟨_,ho2,rfl⟩ Pl So Ls Kw (Kq _ _)
   (tuple_addW2 t b vs.toArray ws.toArray n n2 dd dd2 sl sl2 (by simpa using hv) (by simpa using hw) (by rw[Bc,Bc];exact hsz)) ⟨ho,ho2,?_⟩
  rw[e];exact h2 hw
def sIx (n d:Ai):Am Aj→Ai
 |none=>d
 |some v=>if v<0 then (v+(n:Aj)).toNat else min v.toNat n
def sIx_none (n d:Ai):sIx n d none=d:=rfl
def sIx_nat (n d k:Ai):sIx n d (Aa (k:Aj))=min k n:=by
 show (if (k:Aj)<0 then ((k:Aj)+(n:Aj)).toNat else min (k:Aj).toNat n)=min k n
 rw[Bf om,Gn]
def SJ (n d:Ai)(hd:d≤n)(o:Am Aj):sIx n d o≤n:=by
 cases o with
 |none=>exact hd
 |some v =>
  show (if v<0 then (v+(n:Aj)).toNat else min v.toNat n)≤n
  by_cases hv:v<0
  ·rw[Bi hv];omega
  ·rw[Bf hv];exact Nat.min_le_right _ _
def cV (v:Aj)(n d:Ai):(if v<0 then max (v+(n:Aj)) 0 else min v (n:Aj))=((sIx n d (Aa v):Ai):Aj):=by
 show (if v<0 then max (v+(n:Aj)) 0 else min v (n:Aj))=(((if v<0 then (v+(n:Aj)).toNat else min v.toNat n):Ai):Aj)
 by_cases hv:v<0
 ·simp only[Bi hv];omega
 ·simp only[Bf hv];omega
def o9 (lo hi:Am Aj)(n:Ai):Go lo hi 1 (n:Aj)=(((sIx n 0 lo:Ai):Aj),((sIx n n hi:Ai):Aj)):=by
 have h1:¬ ((1:Aj)<0):=by omega
 unfold Go;simp only[h1,Eh];refine Yn ?_ ?_
 ·cases lo with
  |none=>rfl
  |some v=>exact cV v n 0
 ·cases hi with
  |none=>rfl
  |some v=>exact cV v n n
def Q4 (i j:Ai):Gp (i:Aj) (j:Aj) 1=j-i:=by
 unfold Gp;have h1:(1:Aj)>0:=by omega
 simp only[h1,Dk,Int.ediv_one]
 split <;> omega
def tS {v:Ad}{o:Am Aj}{Q:Am Aj→Ah→Prop}(p:O1 v o)(h:Q o s):Ao (Au prog w) A (Ww v) Q E s:=by
 cases p with
 |none=>exact Od h
 |int i t=>exact slicePart_int h
def kG {sl:Af}{vl vu:Ad}{n:Ai}{Q:Aj × Aj × Ai→Ah→Prop}(hs:s.heap.IsSliceOf sl vl vu .none)(pl:O1 vl lo)(pu:O1 vu hi)
  (h:Q (((sIx n 0 lo:Ai):Aj),1,sIx n n hi-sIx n 0 lo) s):Ao (Au prog w) A (Ip (.ref sl) (pure (n:Aj))) Q E s:=by
 obtain⟨os,hos,hcs,hds⟩:=id hs;unfold Ip OK;refine Ac (Ac (Dv hos hds (x:=vl) rfl (Ac (Dv hos hds (x:=vu) rfl (Ac (Dv hos hds (x:=.none) rfl (Al ?_)))))));refine Ac (Od ?_);show Ao _ _ (if ((1:Aj) == 0)=true then _ else _) _ _ s
 rw[Bf (by decide)]
 refine Ac (tS pl (Ac (tS pu (Ac (Al ?_)))));show Ao _ _ (match Go lo hi 1 (n:Aj) with|(lo,hi)=>pure (lo,(1:Aj),Gp lo hi 1)) _ _ s
 rw[o9 lo hi n];show Ao _ _ (pure (((sIx n 0 lo:Ai):Aj),(1:Aj),Gp ((sIx n 0 lo:Ai):Aj) ((sIx n n hi:Ai):Aj) 1)) _ _ s;rw[Q4];exact Al h
def UP (xs:Ay Ad)(i k:Ai):((Dq k).filterMap λ(m:Ai)=>xs[((i:Aj)+(m:Aj)*1).toNat]?).toArray=((xs.toList.drop i).take k).toArray:=by
 have e:(λ(m:Ai)=>xs[((i:Aj)+(m:Aj)*1).toNat]?)=λm=>xs[i+m]?:=by
  funext m
  have:((i:Aj)+(m:Aj)*1).toNat=i+m:=by omega
  rw[this]
 rw[e];have:=pick_run xs i k;rw[List.filterMap_map] at this;have e2:((λx=>xs[x]?)∘λx=>i+x)=λm=>xs[i+m]?:=rfl;rw[e2] at this;rw[this]
def getItem_tuple_cut {t sl:Af}{vl vu:Ad}(ht:Oa s.heap t items)(hs:s.heap.IsSliceOf sl vl vu .none)(pl:O1 vl lo)(pu:O1 vu hi)
  (hw:¬ (sIx items.size 0 lo=0∧sIx items.size items.size hi=items.size))
  (h:Q (.ref s.heap.objs.size) { s with heap:=s.heap.push { cls:=.type "tuple",data:=.seq ((items.toList.drop (sIx items.size 0 lo)).take (sIx items.size items.size hi-sIx items.size 0 lo)).toArray } })
  (hsz:items.size≤sizeLine):Ao (Au prog w) A (Md (.ref t) (.ref sl)) Q E s:=by
 have htake:sizeOk (.seq ((items.toList.drop (sIx items.size 0 lo)).take (sIx items.size items.size hi-sIx items.size 0 lo)).toArray):=by
  show ((items.toList.drop (sIx items.size 0 lo)).take (sIx items.size items.size hi-sIx items.size 0 lo)).toArray.size≤sizeLine;rw[Bc,Ee,Hr,Bh];omega
 have hj:sIx items.size items.size hi≤items.size:=SJ _ _ (Av _) hi;obtain⟨os,hos,hcs,hds⟩:=id hs;have hTs:s.TypeIs (.ref sl) "slice":=⟨os,hos,hcs⟩;unfold Md
 try with_reducible refine Du ?_
 first|refine Ac (Al ?_)|skip
 refine Ac (OL ht.typeIs (by decide) ?_)
 refine Ac (Dx (name:=Fv "__getitem__") ht.typeIs Dr
  (Ef Dr ht.typeIs No ?_ (Ot _ _)))
 show Ao _ _ (Jy (.ref t) >>= _) _ _ s;refine Ac (Sr ht ?_);refine Ac (Ju hTs ?_);rw[Bi (by decide)]
 refine Ac (kG hs pl pu ?_);have hno:¬ ((((sIx items.size 0 lo:Ai):Aj) == 0&&(1:Aj) == 1&&(sIx items.size items.size hi-sIx items.size 0 lo) == items.size)=true):=by
  intro q;rw[Br,Br] at q;have q1:((sIx items.size 0 lo:Ai):Aj)=0:=eq_of_beq q.1.1;have q2:sIx items.size items.size hi-sIx items.size 0 lo=items.size:=eq_of_beq q.2;exact hw ⟨by omega,by omega⟩
 show Ao _ _ (if (((sIx items.size 0 lo:Ai):Aj) == 0&&(1:Aj) == 1&&(sIx items.size items.size hi-sIx items.size 0 lo) == items.size)=true then _ else _) _ _ s
 rw[Bf hno,UP]
 first
  |exact Ac (m:=Fc _) (Dn (Al ⟨_,rfl,Al h⟩) htake)
  |exact Ac (m:=Fc _) (Dn (Ac (Al (Al ⟨_,rfl,Al h⟩))) htake)
  |exact Ac (Ac (m:=Fc _) (Dn (Al (Al ⟨_,rfl,Al h⟩)) htake))
  |exact Ac (Ac (m:=Fc _) (Dn (Al ⟨_,rfl,Al h⟩) htake))
end
end _H
namespace _L
open PySem PySem.Spec PyProof.Rows
abbrev TO:=St→Hp→(Am Aj→Hp→Prop)→Prop
def PO (X:Cx)(e:Am Bw)(t:TO):Prop:=
 ∀ (pins:Ab (Af × Cs)) (s:Ah) (σ : St) (H:Hp) (Q:Am Aj→Hp→Prop),Inv X pins σ H s→t σ H Q →
  Ao (Au X.prog X.w) X.A (evalPart e X.env) (λu s'=>∃ o H',Inv X pins σ H' s'∧O1 u o∧Q o H') X.xe s
def M6:TO:=λ_ H Q=>Q none H
def H9 (t:TE):TO:=λσ H Q=>t σ H λx H1=>∃ i,x=.int i∧Q (Aa i) H1
def jH {ns:Ab Aj}:∀ {us:Ab Ad},qK (ns.map V.int) us→Ik us ns:=by
 induction ns with
 |nil=>intro us r;rw[Ue] at r;cases r;exact .nil
 |cons n ns ih =>
  intro us r;rw[Dy] at r;cases r with
  |cons r1 r2 =>
   obtain⟨t,e⟩:=r1;subst e;exact .cons n t (ih r2)
section
variable {X:Cx}{e:Bw}{te:TE}{lo hi:Am Bw}{tl th:TO}{pos p2:Fh}
def FB:PO X none M6:=by
 intro pins s σ H Q I h;rw[Ss];exact Al ⟨none,H,I,.none,h⟩
def FC (h:PE X e te):PO X (Aa e) (H9 te):=by
 intro pins s σ H Q I hw;rw[evalPart_some];refine thn (h pins s σ H _ I hw) λu s1 ⟨x,H1,I1,r1,q1⟩=>?_;obtain⟨i,rfl,q⟩:=q1;obtain⟨t,rfl⟩:=r1;exact⟨Aa i,H1,I1,.int i t,q⟩
def SlR (X:Cx)(r:V→Am Aj→Am Aj→Hp→VK→Prop):Prop:=
 ∀ (pins:Ab (Af × Cs)) (s:Ah) (σ : St) (H:Hp) (x:V) (v vl vu:Ad) (lo hi:Am Aj) (sl:Af) (Q:VK),Inv X pins σ H s→qL x v→s.heap.IsSliceOf sl vl vu .none→O1 vl lo→O1 vu hi→r x lo hi H Q →
  ∃ T id,typeLookup (.type T) "__getitem__" = pure (Aa (.builtin id))∧s.TypeIs v T∧Ao (Au X.prog X.w) X.A (Md v (.ref sl)) (EP X pins σ Q) X.xe s
def SlR.or {r r':V→Am Aj→Am Aj→Hp→VK→Prop}(h:SlR X r)(h':SlR X r'):SlR X (λx lo hi H Q=>r x lo hi H Q∨r' x lo hi H Q):=by
 intro pins s σ H x v vl vu lo hi sl Q I rx hs pl pu q;rcases q with q|q
 ·exact h pins s σ H x v vl vu lo hi sl Q I rx hs pl pu q
 ·exact h' pins s σ H x v vl vu lo hi sl Q I rx hs pl pu q
def tSl (r:V→Am Aj→Am Aj→Hp→VK→Prop)(te:TE)(tl th:TO):TE:=λσ H Q=>te σ H λx H1=>tl σ H1 λl H2=>th σ H2 λu H3=>r x l u H3 Q
def UM {r:V→Am Aj→Am Aj→Hp→VK→Prop}(hr:SlR X r)(he:PE X e te)(hl:PO X lo tl)(hu:PO X hi th):PE X (.Subscript e (.Slice lo hi none p2) pos) (tSl r te tl th):=by
 intro pins s σ H Q I h;refine Wx (thn (he pins s σ H _ I h) λv s1 ⟨x,H1,I1,r1,q1⟩=>?_);refine wpAny_Slice (thn (hl pins s1 σ H1 _ I1 q1) λvl s2 ⟨l,H2,I2,pl,q2⟩=>thn (hu pins s2 σ H2 _ I2 q2) λvu s3 ⟨u,H3,I3,pu,q3⟩=>?_);rw[Ss];refine Al ?_;have I4:Inv X pins σ H3 { s3 with heap:=s3.heap.push { cls:=.type "slice",data:=.fields #[vl,vu,.none] } }:=I3.kept (t':=s3.toks) λb ob q=>Ag _ q
 obtain⟨T,id,hT,ht,hg⟩:=hr pins { s3 with heap:=s3.heap.push { cls:=.type "slice",data:=.fields #[vl,vu,.none] } } σ H3 x v vl vu l u s3.heap.objs.size Q I4 r1 (Tu ..) pl pu q3
 show Ao (Au X.prog X.w) X.A (Su e (.Slice lo hi none p2) v (.ref s3.heap.objs.size)) (EP X pins σ Q) X.xe { s3 with heap:=s3.heap.push { cls:=.type "slice",data:=.fields #[vl,vu,.none] } }
 exact tail_any (ops:=[.ref s3.heap.objs.size,v]) ht hT hg (by with_unfolding_all rfl)
def b5 (xs:Ab V)(lo hi:Am Aj):Ab V:=(xs.drop (_H.sIx xs.length 0 lo)).take (_H.sIx xs.length xs.length hi-_H.sIx xs.length 0 lo)
def fW (xs:Ab V)(lo hi:Am Aj):(b5 xs lo hi).length≤xs.length:=by
 unfold b5;rw[Ee,Hr];omega
def A6 (K:Ak):V→Am Aj→Am Aj→Hp→VK→Prop:=λx lo hi H Q=>∃ a xs,x=.ref a∧SqT K H a xs ∧
 ¬ (_H.sIx xs.length 0 lo=0∧_H.sIx xs.length xs.length hi=xs.length)∧∀ p,H p=none→Q (.ref p) (upd H p (.tup (b5 xs lo hi)))
def SN:SlR X (A6 X.K):=by
 intro pins s σ H x v vl vu lo hi sl Q I rx hs pl pu h;obtain⟨a,xs,rfl,hx,hw,q⟩:=h;cases rx;obtain⟨its,r,ht,hz⟩:=I.tuple hx;have hlen:its.toArray.size=xs.length:=by rw[Bc];exact r.length.symm
 refine⟨"tuple",_,Dr.lookup,ht.typeIs,?_⟩;refine _H.getItem_tuple_cut ht hs pl pu (by rw[hlen];exact hw) ?_ (by rw[hlen];exact hz)
 rw[hlen];refine⟨.ref s.heap.objs.size,_,I.laid (t':=s.toks) (o:=.tup (b5 xs lo hi)) (λb ob q=>Ag _ q) (Av _) ?_,rfl,q _ (I.hok.fresh (Av _))⟩;exact⟨Fg (fW xs lo hi) hz,_,(r.drop (_H.sIx xs.length 0 lo)).take (_H.sIx xs.length xs.length hi-_H.sIx xs.length 0 lo),Us _ _⟩
end
end _L
namespace _L
open PySem PySem.Spec PyProof.Rows
variable {pins:Ab (Af × Cs)}{s:Ah}{H:Hp}{σ:St}
def ixN (n:Ai)(i:Aj):Am Ai:=if 0≤i then (if i<n then Aa i.toNat else none) else if -(n:Aj)≤i then Aa (i+n).toNat else none
def atI {α:Type}(xs:Ab α)(i:Aj):Am α:=(ixN xs.length i).bind λj=>xs[j]?
def aR {n:Ai}{i:Aj}{j:Ai}(h:ixN n i=Aa j):seqIndex? i n=Aa j∧j<n ∧ -(n:Aj)≤i∧i<n:=by
 unfold ixN at h;by_cases h0:0≤i
 ·rw[Bi h0] at h
  by_cases h1:i<n
  ·rw[Bi h1] at h
   have e:i.toNat=j:=Co h;exact⟨by rw[Vs h0 h1,e],by omega,by omega,h1⟩
  ·rw[Bf h1] at h;cases h
 ·rw[Bf h0] at h
  by_cases h1 : -(n:Aj)≤i
  ·rw[Bi h1] at h
   have e:(i+n).toNat=j:=Co h;exact⟨by rw[seqIndex_neg om h1,e],by omega,h1,by omega⟩
  ·rw[Bf h1] at h;cases h
def cR {α:Type}{xs:Ab α}{i:Aj}{v:α}(h:atI xs i=Aa v):∃ j,seqIndex? i xs.length=Aa j∧xs[j]? = Aa v∧j<xs.length ∧ -(xs.length:Aj)≤i∧i<xs.length:=by
 unfold atI at h;cases e:ixN xs.length i with
 |none=>rw[e] at h;cases h
 |some j =>
  rw[e] at h;obtain⟨h1,h2,h3,h4⟩:=aR e;exact⟨j,h1,h,h2,h3,h4⟩
def n6 {α:Type}{xs:Ab α}{j:Ai}{v:α}(h:xs[j]? = Aa v):atI xs (j:Aj)=Aa v:=by
 have hj:j<xs.length:=(Be.mp h).1;have e:ixN xs.length (j:Aj)=Aa j:=by
  unfold ixN;rw[Bi om,Bi om];simp
 unfold atI;rw[e];exact h
def jK (b:Bw):Prop:=∀ o i,subscripted b false o i=operate [o,i] (Md o i)
def IxR (X:Cx)(r:R2):Prop:=
 ∀ (value slice:Bw) (pins:Ab (Af × Cs)) (s:Ah) (σ : St) (H:Hp) (x y:V) (v u:Ad) (Q:VK),Inv X pins σ H s→qL x v→qL y u→r x y H Q →
  subscripted slice false v u=operate [v,u] (Md v u)→Ao (Au X.prog X.w) X.A (Su value slice v u) (EP X pins σ Q) X.xe s
def MtR (X:Cx)(id:Ej)(r:V→Ab V→Hp→VK→Prop):Prop:=
 ∀ (pins:Ab (Af × Cs)) (s:Ah) (σ : St) (H:Hp) (x:V) (xs:Ab V) (v:Ad) (us:Ab Ad) (Q:VK),Inv X pins σ H s→qL x v→qK xs us→r x xs H Q →
  Ao (Au X.prog X.w) X.A (call (.builtin id) (v::us)) (EP X pins σ Q) X.xe s
section
variable {X:Cx}{a b:Bw}{ta tb:TE}{pos:Fh}
def IxR.or {r r':R2}(h:IxR X r)(h':IxR X r'):IxR X (λx y H Q=>r x y H Q∨r' x y H Q):=by
 intro value slice pins s σ H x y v u Q I rx ry q hs;rcases q with q|q
 ·exact h value slice pins s σ H x y v u Q I rx ry q hs
 ·exact h' value slice pins s σ H x y v u Q I rx ry q hs
def MtR.or {id:Ej}{r r':V→Ab V→Hp→VK→Prop}(h:MtR X id r)(h':MtR X id r'):MtR X id (λx xs H Q=>r x xs H Q∨r' x xs H Q):=by
 intro pins s σ H x xs v us Q I rx rs q;rcases q with q|q
 ·exact h pins s σ H x xs v us Q I rx rs q
 ·exact h' pins s σ H x xs v us Q I rx rs q
def EF {r:R2}(hr:IxR X r)(ha:PE X a ta)(hb:PE X b tb)(hs:jK b):PE X (.Subscript a b pos) (tOp r ta tb):=by
 intro pins s σ H Q I h;exact Wx (CB ha hb I h λv u s2 x y H2 I2 rx ry q=>hr a b pins s2 σ H2 x y v u Q I2 rx ry q (hs _ _))
def A0 (K:Ak):R2:=λx y H Q=>∃ p xs i v,x=.ref p∧y=.int i∧SqL K H p xs∧atI xs i=Aa v∧Q v H
def A3 (K:Ak):R2:=λx y H Q=>∃ p xs i v,x=.ref p∧y=.int i∧SqT K H p xs∧atI xs i=Aa v∧Q v H
def aS:IxR X (A0 X.K):=by
 intro value slice pins s σ H x y v u Q I rx ry h hs;obtain⟨p,xs,i,z,rfl,rfl,hq,he,q⟩:=h;cases rx;obtain⟨t,rfl⟩:=ry;obtain⟨its,r,pl,hz⟩:=I.list hq;obtain⟨j,h1,h2,h3,h4,h5⟩:=cR he;obtain⟨w,ew,rw'⟩:=r.get h2;have hl:=r.length;have hn:=bF;have fin:EP X pins σ Q w s:=⟨z,H,I,rw',q⟩;by_cases h0:0≤i
 ·have hj:i.toNat=j:=by
   rw[Vs h0 h5] at h1;exact Co h1
  exact item_listR pl.isList h0 om (by rw[hj];simpa using ew) fin hs
 ·have hj:(i+(its.toArray.size:Aj)).toNat=j:=by
   rw[seqIndex_neg om h4] at h1;rw[Bc,← hl];exact Co h1
  exact Ql (x:=w) pl.isList.typeIs Uv.lookup
   (wpAny_getItem_list_neg (Q:=λr s'=>r=w∧EP X pins σ Q r s') pl.isList om (by rw[Bc] <;> omega) om (by rw[hj];simpa using ew) ⟨rfl,fin⟩) hs
def bE:IxR X (A3 X.K):=by
 intro value slice pins s σ H x y v u Q I rx ry h hs;obtain⟨p,xs,i,z,rfl,rfl,hq,he,q⟩:=h;cases rx;obtain⟨t,rfl⟩:=ry;obtain⟨its,r,pl,hz⟩:=I.tuple hq;obtain⟨j,h1,h2,h3,h4,h5⟩:=cR he;obtain⟨w,ew,rw'⟩:=r.get h2;have hl:=r.length;have hn:=bF;have fin:EP X pins σ Q w s:=⟨z,H,I,rw',q⟩;exact Ql (x:=w) pl.typeIs slot_tuple_getitem.lookup
  (getItem_tuple (j:=j) (Q:=λr s'=>r=w∧EP X pins σ Q r s') pl om om (by rw[Bc,← hl];exact h1) (by simpa using ew) ⟨rfl,fin⟩) hs
def Q0 (its:Ab Ad)(n j:Ai)(u:Ad):Ew (·.setIfInBounds j u) { cls:=.type "list",data:=.seq its.toArray n } = { cls:=.type "list",data:=.seq (its.set j u).toArray n }:=by
 simp[Ew]
def Inv.lst {p:Af}{xs:Ab V}(I:Inv X pins σ H s)(h:H p=Aa (.lst xs)) :
  ∃ (its:Ab Ad) (n:Ai),qK xs its∧s.heap.get? p=Aa { cls:=.type "list",data:=.seq its.toArray n } ∧ xs.length≤sizeLine:=by
 obtain⟨z,its,n,r,e⟩:=I.hok p _ h;exact⟨its,n,r,e,z⟩
def Inv.lstUpd {p:Af}{xs ys:Ab V}{its its':Ab Ad}{n n':Ai}{f:Cs→Cs}(I:Inv X pins σ H s)(h:H p=Aa (.lst xs))
  (ho:s.heap.get? p=Aa { cls:=.type "list",data:=.seq its.toArray n }) (hf:f { cls:=.type "list",data:=.seq its.toArray n } = { cls:=.type "list",data:=.seq its'.toArray n' }) (r:qK ys its') (hz:ys.length≤sizeLine) (t:Ai) :
  Inv X pins σ (upd H p (.lst ys)) { s with heap:=s.heap.update p f,toks:=t }:=by
 have e:(s.heap.update p f).get? p=Aa { cls:=.type "list",data:=.seq its'.toArray n' }:=by
  rw[Et f ho (by rw[hf] <;> rfl),hf]
 refine I.write (x:=p) (e:=p) (by rw[h];trivial) (.inl rfl) (λb u hb q=>(Cc _ _ (Gx hb)).trans q) ⟨_,e⟩ ?_
 exact⟨hz,its',n',r,e⟩
def EM:V→V→V→Hp→(Hp→Prop)→Prop:=λo i v H Q=>∃ p xs k j,o=.ref p∧i=.int k∧H p=Aa (.lst xs)∧ixN xs.length k=Aa j∧Q (upd H p (.lst (xs.set j v)))
def JG:sU X EM:=by
 intro pins s σ H o i v ov iv u Q I ro ri rv h;obtain⟨p,xs,k,j,rfl,rfl,hp,hj,q⟩:=h;cases ro;obtain⟨t,rfl⟩:=ri;obtain⟨its,n,r,ho,hz⟩:=I.lst hp;obtain⟨h1,h2,h3,h4⟩:=aR hj;have hl:=r.length;have hn:=bF;have I':Inv X pins σ (upd H p (.lst (xs.set j v))) { s with heap:=s.heap.update p (Ew (·.setIfInBounds j u)) }:=
  I.lstUpd hp ho (Q0 its n j u) (r.set rv j) (by rw[List.length_set];exact hz) s.toks
 by_cases h0:0≤k
 ·have hk:k.toNat=j:=by
   rw[Vs h0 h4] at h1;exact Co h1
  exact PySem.W.ki_setAt ho h0 om (by rw[Bc,← hl];exact h4) (by rw[hk];exact⟨_,I',q⟩)
 ·have hk:(k+(its.toArray.size:Aj)).toNat=j:=by
   rw[seqIndex_neg om h3] at h1;rw[Bc,← hl];exact Co h1
  exact PySem.W.ki_setBack ho om (by rw[Bc,← hl];exact h3) om (by rw[hk];exact⟨_,I',q⟩)
def c8 (lo hi:Am Aj)(n:Ai):(Kj lo hi none n).1=((_H.sIx n 0 lo:Ai):Aj)∧(Kj lo hi none n).2.1=((_H.sIx n n hi:Ai):Aj)∧(Kj lo hi none n).2.2=1:=by
 refine⟨?_,?_,rfl⟩
 ·cases lo with
  |none=>simp[Kj,_H.sIx]
  |some i =>
   simp only[Kj,_H.sIx,Vt,show (1:Aj)>0 by decide,Dk]
   by_cases h:i<0
   ·simp only[h,Dk] <;> omega
   ·simp only[h,Eh] <;> omega
 ·cases hi with
  |none=>simp[Kj,_H.sIx]
  |some i =>
   simp only[Kj,_H.sIx,Vt,show (1:Aj)>0 by decide,Dk]
   by_cases h:i<0
   ·simp only[h,Dk] <;> omega
   ·simp only[h,Eh] <;> omega
def sC (its:Ab Ad)(lo hi:Am Aj):slicePick its.toArray lo hi none=((its.drop (_H.sIx its.length 0 lo)).take (_H.sIx its.length its.length hi-_H.sIx its.length 0 lo)).toArray:=by
 obtain⟨h1,h2,h3⟩:=c8 lo hi its.toArray.size;unfold slicePick;rw[h1,h2,h3];simp only[sliceRange_one,pick_run,Bc] <;> rfl
def A5 (K:Ak):V→Am Aj→Am Aj→Hp→VK→Prop:=λx lo hi H Q=>∃ a xs,x=.ref a∧SqL K H a xs∧∀ p,H p=none→Q (.ref p) (upd H p (.lst (b5 xs lo hi)))
def iT:SlR X (A5 X.K):=by
 intro pins s σ H x v vl vu lo hi sl Q I rx hs pl pu h;obtain⟨a,xs,rfl,hx,q⟩:=h;cases rx;obtain⟨its,r,ht,hz⟩:=I.list hx;have hlen:=r.length;refine⟨"list",_,Uv.lookup,ht.isList.typeIs,?_⟩;refine wpAny_getItem_list_slice ht.isList hs pl pu .none (by simp) ?_ (by rw[Bc] <;> omega)
 rw[sC,← hlen];refine⟨.ref s.heap.objs.size,_,I.laid (t':=s.toks) (o:=.lst (b5 xs lo hi)) (λb ob q=>Ag _ q) (Av _) ?_,rfl,q _ (I.hok.fresh (Av _))⟩;exact⟨Fg (fW xs lo hi) hz,_,0,(r.drop (_H.sIx xs.length 0 lo)).take (_H.sIx xs.length xs.length hi-_H.sIx xs.length 0 lo),Bb _ rfl⟩
def kK.or {f:Ad}{r r':Ab V→Hp→VK→Prop}(h:kK X f r)(h':kK X f r'):kK X f (λxs H Q=>r xs H Q∨r' xs H Q):=by
 intro pins s σ H xs us Q I rs q;rcases q with q|q
 ·exact h pins s σ H xs us Q I rs q
 ·exact h' pins s σ H xs us Q I rs q
def pZ:kK X (.type "list") (λxs H Q=>∃ p ys,xs=[.ref p]∧(SqL X.K H p ys∨SqT X.K H p ys)∧∀ l,H l=none→Q (.ref l) (upd H l (.lst ys))):=by
 intro pins s σ H xs us Q I r h;obtain⟨p,ys,rfl,hq,q⟩:=h;obtain⟨u,rfl,rx⟩:=kU r;cases rx;have fin:∀ (its:Ab Ad),qK ys its→ys.length≤sizeLine→∀ (h':Bs) (c':Ai),(∀ b o',s.heap.get? b=Aa o'→h'.get? b=Aa o') →
   h'.get? s.heap.objs.size=Aa { cls:=.type "list",dict:=none,data:=.seq its.toArray c',slots:=#[] } → EP X pins σ Q (.ref s.heap.objs.size) { s with heap:=h' }:=λits r' hz h' c' kp e =>
  ⟨.ref s.heap.objs.size,_,I.laid (t':=s.toks) kp (Av _) (show zT X.prog X.w _ h' _ (.lst ys) from⟨hz,its,c',r',e⟩),rfl,q _ (I.hok.fresh (Av _))⟩
 rcases hq with hq|hq
 ·obtain⟨its,r',pl,hz⟩:=I.list hq
  have hlen:=r'.length;obtain⟨o,ho,hc,n,hd⟩:=pl.isList;exact call_list_seq p (.inl rfl) ho hc hd (λh' c' kp e=>fin its r' hz h' c' kp e) (by simp only[Bc] <;> omega)
 ·obtain⟨its,r',pl,hz⟩:=I.tuple hq
  have hlen:=r'.length;obtain⟨o,ho,hc,n,hd⟩:=pl;exact call_list_seq p (.inr rfl) ho hc hd (λh' c' kp e=>fin its r' hz h' c' kp e) (by simp only[Bc] <;> omega)
def pS:kK X (.type "tuple") (λxs H Q=>∃ p ys,xs=[.ref p]∧((SqL X.K H p ys∧∀ l,H l=none→Q (.ref l) (upd H l (.tup ys)))∨(SqT X.K H p ys∧Q (.ref p) H))):=by
 intro pins s σ H xs us Q I r h;obtain⟨p,ys,rfl,h⟩:=h;obtain⟨u,rfl,rx⟩:=kU r;cases rx;rcases h with⟨hq,q⟩|⟨hq,q⟩
 ·obtain⟨its,r',pl,hz⟩:=I.list hq
  have hlen:=r'.length;refine call_tuple_list pl.isList (λh' kp=>?_) (by simp only[Bc] <;> omega)
  have I1:Inv X pins σ H { s with heap:=h' }:=I.kept (t':=s.toks) kp
  have I2:Inv X pins σ (upd H h'.objs.size (.tup ys)) { s with heap:=h'.push { cls:=.type "tuple",data:=.seq its.toArray } }:=
   I1.laid (t':=s.toks) (λb o e=>Ag _ e) (Av _) (show zT X.prog X.w _ _ _ (.tup ys) from⟨hz,its,r',Us _ _⟩)
  exact⟨.ref h'.objs.size,_,I2,rfl,q _ (I1.hok.fresh (Av _))⟩
 ·obtain⟨its,r',pl,hz⟩:=I.tuple hq
  exact call_tuple_same pl ⟨.ref p,H,I,rfl,q⟩
def tyV (K:Ak)(T:Ej)(x:V)(H:Hp):Prop:=match x with
 |.str _=>T = "str"
 |.int _=>T = "int"
 |.ref p=>(T = "list" ∧ ∃ xs,SqL K H p xs)∨(T = "tuple" ∧ ∃ o,K.lookup p=Aa o∧o.cls=.type "tuple" ∧ o.dict=none) ∨
   (T = "dict" ∧ ((∃ kvs,H p=Aa (.dK kvs))∨∃ kvs,H p=Aa (.dT kvs)))∨(T = "set" ∧ ∃ S n,H p=Aa (.set S n))
 |_=>Fn
def Y7 {T:Ej}{x:V}{v:Ad}(I:Inv X pins σ H s)(r:qL x v)(ty:tyV X.K T x H) :
  s.TypeIs v T∧∀ a,v=.ref a→∃ ob,s.heap.get? a=Aa ob∧ob.dict=none:=by
 cases x with
 |str z =>
  obtain⟨t,rfl⟩:=r;cases (show T = "str" from ty)
  exact⟨typeIs_str s z t,λ_ e=>nomatch e⟩
 |int i =>
  obtain⟨t,rfl⟩:=r;cases (show T = "int" from ty)
  exact⟨Wy s i t,λ_ e=>nomatch e⟩
 |ref p =>
  cases r;rcases ty with⟨rfl,xs,hq⟩|⟨rfl,o,hk,hc,hd⟩|⟨rfl,hk⟩|⟨rfl,S,n,hk⟩
  ·obtain⟨its,_,pl,_⟩:=I.list hq
   refine⟨pl.isList.typeIs,λa e=>?_⟩;cases e;obtain⟨o,n,e,c,hd,_⟩:=pl;exact⟨o,e,hd⟩
  ·refine⟨⟨o,I.kIn p o hk,hc⟩,λa e=>?_⟩
   cases e;exact⟨o,I.kIn _ o hk,hd⟩
  ·have z:∃ o,s.heap.get? p=Aa o∧o.ExactDict:=by
    rcases hk with⟨kvs,hk⟩|⟨kvs,hk⟩
    ·obtain⟨_,_,_,_,o,_,_,e,ex,_⟩:=I.hok p _ hk
     exact⟨o,e,ex⟩
    ·obtain⟨_,_,_,_,o,_,_,e,ex,_⟩:=I.hok p _ hk
     exact⟨o,e,ex⟩
   obtain⟨o,e,ex⟩:=z;refine⟨⟨o,e,ex.1⟩,λa e2=>?_⟩;cases e2;exact⟨o,e,ex.2.1⟩
  ·obtain⟨o,_,_,_,e,ex,_⟩:=I.hok p _ hk
   refine⟨⟨o,e,ex.1⟩,λa e2=>?_⟩;cases e2;exact⟨o,e,ex.2.1⟩
 |_=>exact An ty
variable {o e:Bw}{es:Ab Bw}{to:TE}{t:TA}{name:As}{apos cpos:Fh}{T id:Ej}{r:V→Ab V→Hp→VK→Prop}
/- xs.append(e),list.index on a module's tuple .. are MtR facts of 06m -/
end
end _L
namespace _L
open PySem PySem.Spec PyProof.Rows
variable {us:Ab Ad}
def MtM (X:Cx)(id:Ej)(r:V→Ab V→Hp→VK→Prop):Prop:=
 ∀ (pins:Ab (Af × Cs)) (s:Ah) (σ : St) (H:Hp) (x:V) (xs:Ab V) (v:Ad) (us:Ab Ad) (Q:VK),Inv X pins σ H s→qL x v→qK xs us→r x xs H Q →
  Ao (Au X.prog X.w) X.A (call (.builtin id) (v::us)) (EP X pins σ Q) X.xe s
def qK.one {x:V}(h:qK [x] us):∃ u,us=[u]∧qL x u:=kU h
def qK.two {x y:V}(h:qK [x,y] us):∃ u v,us=[u,v]∧qL x u∧qL y v:=QZ h
def qK.rep {xs:Ab V}(h:qK xs us):∀ k:Ai,qK (Dm k xs).flatten (Dm k us).flatten
 |0=>.nil
 |k+1=>by
  rw[Hj,Hj,IF,IF];exact qK.append h (qK.rep h k)
def d9 (its:Ab Ad):∀ (k:Ai) (acc:Ab Ad),
  Wz (λx1 x2=>x1++x2) acc.toArray (Dm k its.toArray)=(acc++(Dm k its).flatten).toArray
 |0,acc=>by simp
 |k+1,acc=>by
  have e:acc.toArray++its.toArray=(acc++its).toArray:=by simp
  have e2:(acc++its)++(Dm k its).flatten=acc++(Dm (k+1) its).flatten:=by
   rw[Hj,IF,Cd]
  rw[← e2,← d9 its k (acc++its),← e,Hj,Hy]
section
variable {X:Cx}{pins:Ab (Af × Cs)}{σ : St}{H:Hp}{s:Ah}{l b:Af}{xs ys zs:Ab V}
def Inv.lset {its its':Ab Ad}{n:Ai}{f:Ay Ad→Ay Ad}{t':Ai}(I:Inv X pins σ H s)(hH:H l=Aa (.lst xs))
  (e:s.heap.get? l=Aa { cls:=.type "list",data:=.seq its.toArray n }) (hf:f its.toArray=its'.toArray) (hv:qK ys its') (hz:ys.length≤sizeLine) :
  Inv X pins σ (upd H l (.lst ys)) { s with heap:=s.heap.update l (Ew f),toks:=t' }:=by
 have q:=Vu e f;rw[hf] at q;refine I.write (x:=l) (e:=l) (by rw[hH];exact trivial) (.inl rfl) (λb' u hb hu=>(Cc s.heap (Ew f) (Gx hb)).trans hu) ⟨_,q⟩ ?_
 exact⟨hz,its',_,hv,q⟩
def Inv.lstM (I:Inv X pins σ H s)(hH:H l=Aa (.lst xs)):xs.length≤sizeLine∧∃ (its:Ab Ad) (n:Ai),qK xs its∧xs.length=its.length∧s.heap.get? l=Aa { cls:=.type "list",data:=.seq its.toArray n }:=by
 obtain⟨z,its,n,r,e⟩:=I.hok l _ hH;exact⟨z,its,n,r,r.length,e⟩
def UJ {n:Ai}(h:n≤sizeLine):Kr n=false:=by
 unfold Kr;exact Cz om
end
section
variable {X:Cx}
def FS:V→Ab V→Hp→VK→Prop:=λx vs H Q=>∃ l xs y,x=.ref l∧vs=[y]∧H l=Aa (.lst xs)∧xs.length<sizeLine∧Q .non (upd H l (.lst (xs++[y])))
def XY:MtM X "list.append" FS:=by
 intro pins s σ H x vs v us Q I rx rv h;obtain⟨l,xs,y,rfl,rfl,hH,hz,q⟩:=h;cases rx;obtain⟨u,rfl,ru⟩:=rv.one;obtain⟨z,its,n,r,hl,e⟩:=I.lstM hH;refine Lu Tv ⟨_,e,rfl⟩ Sv (Sd _ _) (Uw l its.toArray n u (by rw[Bc];omega)) ⟨e,?_⟩
 refine⟨.non,_,I.lset (its':=its++[u]) hH e (by simp) (r.append (.cons ru .nil)) ?_,rfl,q⟩
 rw[Cb,Me];omega
def BQ {α:Type}(xs:Ab α)(k:Ai):(Dm k xs).flatten.length=k*xs.length:=by
 induction k with
 |zero=>simp
 |succ k ih=>rw[Hj,IF,Cb,ih,Nat.succ_mul,Yf]
end
end _L
namespace _L
open PySem PySem.Spec PyProof.Rows
variable {xs:Ab (Ab Key × Af × Ad)}{kvs:Ab (Ab Key × V)}{H':Hp}
section
variable {κ : Type}[Vn κ]
def vR (kvs:Ab (κ × V))(k:κ):Am V:=(kvs.find? λkv=>decide (kv.1=k)).map (·.2)
def vO (kvs:Ab (κ × V))(k:κ)(v:V):Ab (κ × V):=
 if (kvs.any λkv=>decide (kv.1=k))=true then kvs.map (λkv=>if kv.1=k then (kv.1,v) else kv) else kvs++[(k,v)]
def mO {p:κ × V}{r:Ab (κ × V)}{k:κ}(e:p.1=k):vR (p::r) k=Aa p.2:=by simp[vR,Je,e]
def mM {p:κ × V}{r:Ab (κ × V)}{k:κ}(e:¬ p.1=k):vR (p::r) k=vR r k:=by simp[vR,Je,e]
def cD (k:κ):∀ kvs:Ab (κ × V),(kvs.any λkv=>decide (kv.1=k))=(vR kvs k).isSome
 |[]=>rfl
 |p::r=>by
  rw[Jf];by_cases e:p.1=k
  ·simp only[mO e,De e,Yg,Option.isSome_some]
  ·rw[mM e,Cz e,Mf];exact cD k r
def kW (kvs:Ab (κ × V))(k:κ)(v:V):(vO kvs k v).length≤kvs.length+1:=by
 unfold vO
 split
 ·rw[Aq];omega
 ·rw[Cb,Ci,Gv];omega
def gP.isSome_eq {o:Am V}{u:Am Ad}(r:gP o u):o.isSome=u.isSome:=by
 cases o with
 |none=>cases u with
  |none=>rfl
  |some _=>exact(show Fn from r).elim
 |some _=>cases u with
  |none=>exact(show Fn from r).elim
  |some _=>rfl
def gP.getD {o:Am V}{u:Am Ad}{d:V}{d':Ad}(r:gP o u)(rd:qL d d'):qL (o.getD d) (u.getD d'):=by
 cases o with
 |none=>cases u with
  |none=>exact rd
  |some _=>exact(show Fn from r).elim
 |some _=>cases u with
  |none=>exact(show Fn from r).elim
  |some _=>exact r
def KV.val {kvs:Ab (κ × V)}{vs:Ab (κ × Ad)}(r:KV kvs vs)(k:κ):gP (vR kvs k) (Sw vs k):=by
 unfold KV at r
 induction r with
 |nil=>exact Ix
 |@cons p q ps qs h t ih =>
  obtain⟨h1,h2⟩:=h;by_cases e:p.1=k
  ·have e':q.1=k:=h1.symm.trans e
   have b:Sw (q::qs) k=Aa q.2:=by simp[Sw,Je,e']
   rw[mO e,b];exact h2
  ·have e':¬ q.1=k:=λz=>e (h1.trans z)
   have b:Sw (q::qs) k=Sw qs k:=by simp[Sw,Je,e']
   rw[mM e,b];exact ih
def KV.any {kvs:Ab (κ × V)}{vs:Ab (κ × Ad)}(r:KV kvs vs)(k:κ):(kvs.any λkv=>decide (kv.1=k))=vs.any λkv=>decide (kv.1=k):=by
 unfold KV at r
 induction r with
 |nil=>rfl
 |cons h t ih=>rw[Jf,Jf,ih,h.1]
def KV.repl {kvs:Ab (κ × V)}{vs:Ab (κ × Ad)}(r:KV kvs vs)(k:κ){y:V}{u:Ad}(ry:qL y u) :
  KV (kvs.map λkv=>if kv.1=k then (kv.1,y) else kv) (vs.map λkv=>if kv.1=k then (kv.1,u) else kv):=by
 unfold KV at r ⊢
 induction r with
 |nil=>exact .nil
 |@cons p q ps qs h t ih =>
  rw[Dy,Dy];refine .cons ?_ ih;obtain⟨h1,h2⟩:=h;by_cases e:p.1=k
  ·rw[Bi e,Bi (h1.symm.trans e)];exact⟨h1,ry⟩
  ·rw[Bf e,Bf (λz=>e (h1.trans z))];exact⟨h1,h2⟩
def KV.put {kvs:Ab (κ × V)}{vs:Ab (κ × Ad)}(r:KV kvs vs)(k:κ){y:V}{u:Ad}(ry:qL y u):KV (vO kvs k y) (stored vs k u):=by
 unfold vO stored;rw[r.any k];by_cases e:(vs.any λkv=>decide (kv.1=k))=true
 ·rw[Bi e,Bi e];exact r.repl k ry
 ·rw[Bf e,Bf e];exact Paired.snoc r ⟨rfl,ry⟩
def KV.length {kvs:Ab (κ × V)}{vs:Ab (κ × Ad)}(r:KV kvs vs):kvs.length=vs.length:=Paired.length r
end
def tB {P:Bl}{w:Bz}{k:Key}{u:Ad}(r:qL (kV k) u):(x5 P w).is k u=true:=by
 cases k with
 |inl i=>obtain⟨t,e⟩:=(show ∃ t,u=My i t from r);subst e;exact cH P w i t
 |inr x=>obtain⟨t,e⟩:=(show ∃ t,u=Up x t from r);subst e;exact cI P w x t
def dE {P:Bl}{w:Bz}:∀ {ks:Ab Key} {us:Ab Ad},qK (ks.map kV) us→ItemsAre (x5 P w) ks us
 |[],_,r=>by rw[Ue] at r;cases r;exact .nil
 |k::ks,_,r=>by
  rw[Dy] at r;cases r with
  |cons h t=>exact .cons (tB h) (dE t)
abbrev KT (H:Hp):Ab (Ab Key × V)→Ab (Ab Key × Af × Ad)→Prop:=Paired λp q=>p.1=q.1∧H q.2.1=Aa (.tup (p.1.map kV))∧qL p.2 q.2.2
def KT.val {H:Hp}(r:KT H kvs xs)(k:Ab Key):gP (vR kvs k) ((Ux xs k).map (·.2)):=by
 induction r with
 |nil=>exact Ix
 |@cons p q ps qs h t ih =>
  obtain⟨h1,_,h2⟩:=h;by_cases e:p.1=k
  ·have e':q.1=k:=h1.symm.trans e
   have b:Ux (q::qs) k=Aa q.2:=by simp[Ux,Je,e']
   rw[mO e,b];exact h2
  ·have e':¬ q.1=k:=λz=>e (h1.trans z)
   have b:Ux (q::qs) k=Ux qs k:=by simp[Ux,Je,e']
   rw[mM e,b];exact ih
def KT.repl {H:Hp}(r:KT H kvs xs)(k:Ab Key){y:V}{u:Ad}(ry:qL y u) :
  KT H (kvs.map λkv=>if kv.1=k then (kv.1,y) else kv) (xs.map (putAt k u)):=by
 induction r with
 |nil=>exact .nil
 |@cons p q ps qs h t ih =>
  rw[Dy,Dy];refine .cons ?_ ih;obtain⟨h1,h2,h3⟩:=h;unfold putAt;by_cases e:p.1=k
  ·rw[Bi e,Bi (h1.symm.trans e)];exact⟨h1,h2,ry⟩
  ·rw[Bf e,Bf (λz=>e (h1.trans z))];exact⟨h1,h2,h3⟩
def KT.put {H:Hp}(r:KT H kvs xs)(k:Ab Key){b:Af}{y:V}{u:Ad}(hb:H b=Aa (.tup (k.map kV)))(ry:qL y u) :
  KT H (vO kvs k y) (storedH xs k b u):=by
 have e:(kvs.any λkv=>decide (kv.1=k))=(Ux xs k).isSome:=by
  rw[cD,(r.val k).isSome_eq,Option.isSome_map]
 unfold vO storedH;rw[e];by_cases q:(Ux xs k).isSome=true
 ·rw[Bi q,Bi q];exact r.repl k ry
 ·rw[Bf q,Bf q];exact Paired.snoc r ⟨rfl,hb,ry⟩
def KT.keeps {H:Hp}(r:KT H kvs xs)(ht:∀ b ys,H b=Aa (.tup ys)→H' b=Aa (.tup ys)):KT H' kvs xs:=
 Paired.mapP r λ_ _ z=>⟨z.1,ht _ _ z.2.1,z.2.2⟩
section
variable {P:Bl}{w:Bz}{H:Hp}{h:Bs}{a:Af}
def KY {u:HO}(ok:HOk P w H h)(e:Rd H a u):zT P w H h a u:=e.ok ok
def RL {kvs:Ab (Key × V)}(ok:HOk P w H h)(e:Rd H a (.dK kvs)):kvs.length≤sizeLine∧(a == IT)=false∧∃ vs,KV kvs vs∧h.DictOf (x5 P w) a vs:=
 show zT P w H h a (.dK kvs) from KY ok e
def oJ {kvs:Ab (Key × V)}(ok:HOk P w H h)(e:H a=Aa (.dK kvs)):kvs.length≤sizeLine∧(a == IT)=false∧∃ vs,KV kvs vs∧h.DictOf (x5 P w) a vs:=RL ok (.inl e)
def XI {ks:Ab Key}(ok:HOk P w H h)(e:H a=Aa (.tup (ks.map kV))):(Rc (x5 P w)).is h ks a:=by
 obtain⟨_,its,r,o,h1,h2,n,h3⟩:=(show zT P w H h a (.tup (ks.map kV)) from ok a _ e)
 exact⟨o,its.toArray,n,h1,h2,h3,by simpa using dE r⟩
def RO (ok:HOk P w H h)(e:Rd H a (.dT kvs)):kvs.length≤sizeLine∧(a == IT)=false ∧
  ∃ xs,KT H kvs xs∧h.DictOfH (Rc (x5 P w)) a xs:=by
 obtain⟨z,y,xs,r,o,es,ep,h1,h2,h3,h4,h5⟩:=(show zT P w H h a (.dT kvs) from KY ok e)
 refine⟨z,y,xs,r,o,es,ep,h1,h2,h3,h4,λx hx=>?_,h5⟩;have all:∀ {l:Ab (Ab Key × V)} {m:Ab (Ab Key × Af × Ad)},KT H l m→∀ x∈m,(Rc (x5 P w)).is h x.1 x.2.1:=by
  intro l m q
  induction q with
  |nil=>intro x hx;exact nomatch hx
  |@cons p q ps qs hq t ih =>
   intro x hx;rcases Aw.mp hx with e|hx
   ·subst e
    exact XI ok (by rw[← hq.1];exact hq.2.1)
   ·exact ih x hx
 exact all r x hx
def RN (ok:HOk P w H h)(e:H a=Aa (.dT kvs)):kvs.length≤sizeLine∧(a == IT)=false ∧
  ∃ xs,KT H kvs xs∧h.DictOfH (Rc (x5 P w)) a xs:=RO ok (.inl e)
end
def o3 (H:Hp)(a:Af)(y:V)(r:Am V):Prop:=
 (∃ kvs k,Rd H a (.dK kvs)∧y=kV k∧r=vR kvs k)∨∃ kvs k b,Rd H a (.dT kvs)∧y=.ref b∧H b=Aa (.tup (k.map kV))∧r=vR kvs k
def tZ (H:Hp)(a:Af)(y v:V)(H':Hp):Prop:=
 (∃ kvs k,H a=Aa (.dK kvs)∧y=kV k∧kvs.length<sizeLine∧H'=upd H a (.dK (vO kvs k v))) ∨
 ∃ kvs k b,H a=Aa (.dT kvs)∧y=.ref b∧H b=Aa (.tup (k.map kV))∧kvs.length<sizeLine∧H'=upd H a (.dT (vO kvs k v))
def o3.k {H:Hp}{a:Af}{kvs:Ab (Key × V)}{k:Key}(e:H a=Aa (.dK kvs)):o3 H a (kV k) (vR kvs k):=.inl ⟨kvs,k,.inl e,rfl,rfl⟩
def o3.t {H:Hp}{a b:Af}{k:Ab Key}(e:H a=Aa (.dT kvs))(eb:H b=Aa (.tup (k.map kV))):o3 H a (.ref b) (vR kvs k):=.inr ⟨kvs,k,b,.inl e,rfl,eb,rfl⟩
def tZ.k {H:Hp}{a:Af}{kvs:Ab (Key × V)}{k:Key}{v:V}(e:H a=Aa (.dK kvs))(hl:kvs.length<sizeLine):tZ H a (kV k) v (upd H a (.dK (vO kvs k v))):=.inl ⟨kvs,k,e,rfl,hl,rfl⟩
def tZ.t {H:Hp}{a b:Af}{k:Ab Key}{v:V}(e:H a=Aa (.dT kvs))(eb:H b=Aa (.tup (k.map kV)))(hl:kvs.length<sizeLine) :
  tZ H a (.ref b) v (upd H a (.dT (vO kvs k v))):=.inr ⟨kvs,k,b,e,rfl,eb,hl,rfl⟩
section
variable {X:Cx}{pins:Ab (Af × Cs)}{σ : St}{H:Hp}{s:Ah}{a:Af}{y v:V}{u r:Ad}{o:Am V}{A:By}{E:Ad→Ah→Prop}
def Inv.big (I:Inv X pins σ H s):IT<s.heap.objs.size:=by
 have h:Cn<s.heap.objs.size:=(I.mod.glob.keeps I.bk).lt;exact Kx (by decide) h
def nF {h':Bs}{t':Ai}{ob:HO}(I:Inv X pins σ H s)(mu:Mut (H a))(hs:Ex a s.heap h')(he:∃ q,h'.get? a=Aa q)(new:zT X.prog X.w (upd H a ob) h' a ob) :
  Inv X pins σ (upd H a ob) { s with heap:=h',toks:=t' }:=
 I.write (x:=a) (e:=a) mu (.inl rfl) (λb q hb z=>(hs.2 b hb).trans z) he new
def ZX {P:Bl}{w:Bz}{h':Bs}{kvs:Ab (Key × V)}{vs:Ab (Key × Ad)}(z:kvs.length≤sizeLine)(hd:(a == IT)=false)(rel:KV kvs vs)(dd:h'.DictOf (x5 P w) a vs) :
  zT P w H' h' a (.dK kvs):=⟨z,hd,vs,rel,dd⟩
def ZS {Q:Pk→Ah→Prop}(hu:A.units+1<Fi)(I:Inv X pins σ H s)(g:tZ H a y v H')(ry:qL y u)(rv:qL v r)(h:∀ s',Inv X pins σ H' s'→Q () s') :
  Ao (Au X.prog X.w) A (Xr (.ref a) u r) Q E s:=by
 rcases g with⟨kvs,k,e,ey,l,eH⟩|⟨kvs,k,b,e,ey,eb,l,eH⟩
 ·subst ey eH
  obtain⟨z,hd,vs,rel,dd⟩:=oJ I.hok e;have hz:vs.length≤sizeLine:=by rw[← rel.length];exact z
  have hl:(vO kvs k v).length≤sizeLine:=by have:=kW kvs k v;omega
  refine wpAny_setItem_pairs (hsz:=hz) (tB ry) dd λh' dd' hs=>h _ ?_;have he:∃ q,h'.get? a=Aa q:=let ⟨q,_,_,hq,_⟩:=dd';⟨q,hq⟩
  exact nF I (by rw[e];exact Ix) hs he (ZX hl hd (rel.put k rv) dd')
 ·subst ey eH
  cases (show u=Dc b from ry)
  obtain⟨z,hd,xs,rel,dd⟩:=RN I.hok e;have hz:xs.length≤sizeLine:=by rw[← Paired.length rel];exact z
  have hl:(vO kvs k v).length≤sizeLine:=by have:=kW kvs k v;omega
  refine wpAny_setItem_heap (hsz:=hz) (tupleKind_room_in1 hu) (XI I.hok eb) dd λh' dd' hs=>h _ ?_;obtain⟨q,es,ep,hq,h2,h3,h4,_,h5⟩:=dd';refine nF I (by rw[e];exact Ix) hs ⟨q,hq⟩ ⟨hl,hd,_,(rel.put k eb rv).keeps λc ys ec=>?_,q,es,ep,hq,h2,h3,h4,h5⟩
  rw[qR (E4 ec e (λz=>nomatch z))];exact ec
end
def VE {P:Bl}{w:Bz}{H:Hp}(h:Bs)(hb:IT<h.objs.size):zT P w H (h.push { cls:=.type "dict",data:=.dict #[] }) h.objs.size (.dK []):=
 ⟨HT _,IS.mpr (Gx (Cj hb)),[],.nil,Heap.DictOf.new h⟩
def SR:TE:=λ_ H Q=>∀ p,H p=none→Q (.ref p) (upd H p (.dK []))
section
variable {X:Cx}{pos:Fh}
def eS:PE X (.Dict [] [] pos) SR:=λpins s σ H Q I h =>
 wpAny_Dict_empty ⟨.ref s.heap.objs.size,_,I.laid (a:=s.heap.objs.size) (o:=.dK []) (t':=s.toks) (λ_ _ q=>Ag _ q) (Av _) (VE s.heap I.big),rfl,h _ (I.hok.fresh (Av _))⟩
end
end _L
namespace _A
open PySem PySem.W PySem.Calls PyProof.Rows
def t0 {P:Xl}{h:Bs}:∀ (ns:Ab Aj) (vs:Ab Ad),WellAll P h vs (ns.map Zc)→Ik vs ns:=by
 intro ns
 induction ns with
 |nil =>
  intro vs w;rw[Ue] at w;cases w;exact .nil
 |cons n ns ih =>
  intro vs w;rw[Dy] at w;cases w with
  |cons a b =>
   cases a;exact .cons _ _ (ih _ b)
def Y3 {l:OpenLaw}{n:Ai}(hn:l.most=Aa n){P:Xl}{h:Bs}{args:Ab WData}{vals:Ab Ad}
  (hpre:l.row.toRowW.claim.pre args=true) (hwl:WellAll P h vals args) :
  ∃ a vs ns,vals=[Dc a]∧args=[WData.list (ns.map Zc)]∧h.get? a=Aa { cls:=.type "list",data:=.seq vs.toArray } ∧ Ik vs ns∧ns.length≤n:=by
 have hsh:WShape.hasAll [] args [.list .int]=true:=(pre_splitW hpre).1;have hc:l.pre.holds [] { args:=args } = true:=(pre_splitW hpre).2;obtain⟨d,r,rfl,h1,h2⟩:=hasAllW_cons hsh;obtain rfl:=hasAllW_nil h2;obtain⟨xs,rfl,h3⟩:=hasW_list h1;obtain⟨ns,rfl⟩:=items_int h3;have hlen:ns.length≤n:=by
  unfold OpenLaw.pre at hc;have h4:(WTm.not (.lt (.lit (.int (n:Aj))) (.len (.arg 0)))).holds [] { args:=[.list (ns.map .int)] } = true:=by
   have h4:=(holds_andW hc).1;rw[hn] at h4;exact h4
  have h5:=condW_of h4 (w_not (w_lt w_lit (w_len_list (w_arg rfl))));rw[Aq] at h5;refine Nat.le_of_not_lt λq=>?_;have q':(n:Aj)<((ns.length:Ai):Aj):=by omega
  first
   |(rw[De q'] at h5;exact absurd h5 (by decide))
   |(simp at h5;omega)
 cases hwl with
 |cons w1 w2 =>
  cases w2;cases w1 with
  |list ho hall=>exact⟨_,_,ns,rfl,rfl,ho,t0 ns _ hall,hlen⟩
def WE (l:OpenLaw)(args:Ab WData):l.row.toRowW.claim.post args (.bool true) args=true:=
 postW_of (r:=l.row.toRowW) (X:=(true == true))
  (show Yw [] (.bool true) .bool=true by first|rfl|decide|simp[Yw,WShape.arms,WShape.armsAll])
  (show (WTm.eq .res (.lit (.bool true))).value [] { args:=args,res:=Aa (.bool true),after:=args } = Aa (.bool (true == true)) from w_eq_bool (w_res rfl) w_lit) rfl
def attach_call {l:OpenLaw}{n:Ai}{q:Bl}{loose:Ab As}{XP:(As→Am Ad)→Bs→Prop}{YP:Bz→Bs→Prop}{d:DefRec}
  (hn:l.most=Aa n) (hdf:d.params.defaults=[])
  (call:∀ (w:Bz) (s₀ s₁:Ah) (mg mb:As→Am Ad) (fa:Af) (o:Cs) (pm cd doc:Ad) (a:Af) (vs:Ab Ad) (ns:Ab Aj),
   Ground q loose [] XP w s₀ mg mb s₁.heap→YP w s₁.heap →
   s₁.heap.get? fa=Aa o→o.data=.func (docDef d.name d.params d.body d.scope pm cd doc)→s₁.heap.CodeRec cd d.name→mg d.name=Aa (.ref fa) →
   s₁.heap.get? a=Aa { cls:=.type "list",data:=.seq vs.toArray } → Ik vs ns→ns.length≤n→s₁.gens=#[] →
   Jd (Au l.prog w) OM (.call (.ref fa) ⟨[.ref a],[]⟩) (λr s'=>r=.ok (.ret (.bool true))∧OldK s₁.heap s'.heap∧s'.os=s₁.os∧Lz s'.gens) s₁) :
  WalkO q loose XP YP l.row.toRowW d [] (λf vs=>Xa f vs):=by
 intro w s₀ s₁ mg mb G Y fa o pm cd doc dV kV ho hd hcd hD hmg hg args vals as hpre hlay hrd hwl hlo;obtain rfl:dV=.none:=Dflts.none hD hdf;obtain rfl:kV=.none:=Dflts.noKw hD;obtain⟨a,vs,ns,rfl,rfl,hobj,hints,hlen⟩:=Y3 hn hpre hwl;refine enter_call (IX (call w s₀ s₁ mg mb fa o pm cd doc a vs ns G Y ho (fd_plain hd) hcd hmg hobj hints hlen hg) λr s' hq=>?_);obtain⟨rfl,h2,h3,h4⟩:=hq;exact⟨.inl ⟨.bool true,.bool true,[],rfl,λ_=>rfl,.bool true,WE l _,λ_=>⟨ON,λ_ hm=>(nomatch hm)⟩⟩,h2,h3,h4⟩
end _A
namespace _L
open PySem PySem.Spec PyProof.Rows
def YA {vs:Ab Ad}{ns:Ab Aj}(h:Ik vs ns):qK (ns.map V.int) vs:=by
 induction h with
 |nil=>exact .nil
 |cons n t h ih=>exact .cons ⟨t,rfl⟩ ih
def SqX (K:Ak)(H:Hp)(a:Af)(xs:Ab V):Prop:=
 Rd H a (.lst xs)∨∃ (its:Ab Ad) (n:Ai),K.lookup a=Aa { cls:=.type "list",data:=.seq its.toArray n } ∧ xs.length≤sizeLine∧qK xs its
def SqX.l {K:Ak}{H:Hp}{a:Af}{xs:Ab V}(h:SqX K H a xs):SqL K H a xs:=by
 rcases h with h|⟨its,n,e,l,v⟩
 ·exact .inl h
 ·exact .inr ⟨_,its.toArray,n,e,rfl,rfl,rfl,by rw[Bc,← v.length];exact l,by simpa using v⟩
def YI (H:Hp):Prop:=∀ b,H b=none∨∃ o xs,H b=Aa (.frz o (.lst xs))
def U6 {P:Bl}{w:Bz}{K:Ak}{mg mb:As→Am Ad}{CX:CXT}{k:Ai}{fa a:Af}{fd:Fy}{x:As}{sp:Sp}{s₁:Ah}{vs:Ab Ad}{ns:Ab Aj}
  (KX:K.In s₁.heap) (hns:s₁.heap.Ns Cn mg) (hb:s₁.heap.Ns Wu mb) (hbb:∀ x:As,x ≠ "__name__" → mb x=Ge x) (hlim:s₁.heap.NoLimit) (hg:s₁.gens=#[])
  (ha:s₁.heap.get? a=Aa { cls:=.type "list",data:=.seq vs.toArray }) (hi:Ik vs ns) (hl:ns.length≤sizeLine) (hr:Room k OM)
  (F:∀ base:Bs,K.In base→base.Ns Cn mg→FnOk P w K mg base CX k fa fd [x] sp) (hbind:∀ (s:Ah) (u:Ad),Nn s fd ⟨[u],[]⟩ [(x,u)])
  (hsp:∀ H:Hp,YI H→SqX K H a (ns.map V.int)→sp [.ref a] H (λv _=>v=.bl true) λ_ _ _=>Fn)
  (hCX:∀ H e s',CX [] H s₁ (λ_ _ _=>Fn) e s'→Fn) :
  Jd (Au P w) OM (.call (.ref fa) ⟨[.ref a],[]⟩) (λr s'=>r=.ok (.ret (.bool true))∧OldK s₁.heap s'.heap∧s'.os=s₁.os∧Lz s'.gens) s₁:=by
 have rv:=YA hi;have lenV:=hi.length;have core:∀ H:Hp,YI H→SqX K H a (ns.map V.int)→HOk P w H s₁.heap→(∀ b,H b≠none→b=a)→(H a≠none→K.lookup a=none) →
   Jd (Au P w) OM (.call (.ref fa) ⟨[.ref a],[]⟩) (λr s'=>r=.ok (.ret (.bool true))∧OldK s₁.heap s'.heap∧s'.os=s₁.os∧Lz s'.gens) s₁:=by
  intro H hO hS hok hA hK;have base_of:∀ {b:Af} {o:Cs},s₁.heap.get? b=Aa o→H b=none→(gV s₁.heap H).get? b=Aa o:=λe n=>U0 e n;have noA:∀ {b:Af} {o:Cs} {es:Ay DictEntry} {ep:Ai},s₁.heap.get? b=Aa o→o.data=.dict es ep→H b=none:=λ{b o es ep} e d=>by
   cases q:H b with
   |none=>rfl
   |some u =>
    have e':b=a:=hA b (by rw[q];simp)
    subst e';rw[ha] at e;cases e;have d':Data.seq vs.toArray _=Data.dict es ep:=d;cases d'
  have nsK:∀ {b:Af} {m:As→Am Ad},s₁.heap.Ns b m→(gV s₁.heap H).Ns b m:=λ{b m} ⟨o,es,ep,e,d,r⟩=>⟨o,es,ep,base_of e (noA e d),d,r⟩;have hKb:K.In (gV s₁.heap H):=λb o e=>base_of (KX b o e) (by
   cases q:H b with
   |none=>rfl
   |some u =>
    have e':b=a:=hA b (by rw[q];simp)
    subst e';rw[hK (by rw[q];simp)] at e;cases e)
  have hM:Mod K mg (gV s₁.heap H):=⟨hKb,nsK hns,⟨mb,nsK hb,hbb⟩,let ⟨mc,h1,h2⟩:=hlim;⟨mc,nsK h1,h2⟩⟩
  have e0:Env0 P w K mg (gV s₁.heap H) OM [] s₁ H:=⟨rfl,hM,λb o e=>F2 e,Nat.le_of_eq (X9 _ _),trivial,λb hb=>absurd (show b∈([]:Ab Af) from hb) (by simp),hok,.of_eq hg⟩
  refine IX ((F _ hKb (nsK hns)).run OM [] s₁ H ⟨[.ref a],[]⟩ [.ref a] [.ref a] _ _ hr e0 (hbind s₁ (.ref a)) (.cons rfl .nil) (hsp H hO hS)) λr s' h=>?_;cases r with
  |error e=>exact(hCX H e s' h).elim
  |ok fl =>
   cases fl with
   |next=>exact An h
   |brk=>exact An h
   |cont=>exact An h
   |ret u =>
    obtain⟨v,H',os,bare,un,hok',r',q⟩:=h;have q':v=.bl true:=q;subst q';obtain rfl:u=Gg true:=r';refine⟨rfl,OldK.of_keep λb o e=>?_,os,bare⟩;cases q:H b with
    |none=>exact un.keep b o e q (by intro z;exact absurd (show b∈([]:Ab Af) from z) (by simp)) (by simp)
    |some u =>
     rcases hO b with z|⟨ob,xs,z⟩
     ·rw[q] at z;cases z
     ·have z2:=un.frzs b ob _ z
      obtain⟨e1,_⟩:=hok b _ z;obtain⟨e2,_⟩:=hok' b _ z2;rw[e] at e1;cases e1;exact e2
 cases hk:K.lookup a with
 |some o =>
  have e:=KX a o hk;rw[ha] at e;cases e;refine core (λ_=>none) (λ_=>.inl rfl) (.inr ⟨vs,_,hk,by rw[Aq];exact hl,rv⟩) (λb u z=>by have z':(none:Am HO)=Aa u:=z;cases z') (λb z=>absurd rfl z) λz=>absurd rfl z
 |none =>
  refine core (λb=>if b=a then Aa (.frz { cls:=.type "list",data:=.seq vs.toArray } (.lst (ns.map V.int))) else none) (λb=>?_) (.inl (.inr ⟨{ cls:=.type "list",data:=.seq vs.toArray },Bi rfl⟩)) (λb u z=>?_) (λb z=>?_) λ_=>hk
  ·by_cases hb:b=a
   ·exact .inr ⟨_,_,Bi hb⟩
   ·exact .inl (Bf hb)
  ·by_cases hb:b=a
   ·have z':=(Bi hb).symm.trans z
    cases z';subst hb;exact⟨ha,by rw[Aq];exact hl,vs,_,rv,ha⟩
   ·have z':=(Bf hb).symm.trans z
    cases z'
  ·by_cases hb:b=a
   ·exact hb
   ·exact absurd (Bf hb) z
end _L
namespace _L
open PySem PySem.Spec PyProof.Rows
def MC {l:Wm}{n k:Ai}{q:Bl}{loose:Ab As}{XP:(As→Am Ad)→Bs→Prop}{YP:Bz→Bs→Prop}{d:DefRec}{K:Xl→Ak}{CX:Bz→CXT}{sp:Bz→Sp}{x:As}
  (hn:l.most=Aa n) (hn2:n≤sizeLine) (hdf:d.params.defaults=[]) (hr:Room k OM)
  (hY:∀ (w:Bz) (h:Bs),YP w h→(K w.params).In h)
  (F:∀ (w:Bz) (mg:As→Am Ad) (fa:Af) (h:Bs),(K w.params).In h→h.Ns Cn mg→mg d.name=Aa (.ref fa) →
   ∃ fd:Fy,(∀ (s:Ah) (u:Ad),Nn s fd ⟨[u],[]⟩ [(x,u)]) ∧
    ∀ base:Bs,(K w.params).In base→base.Ns Cn mg→FnOk l.prog w (K w.params) mg base (CX w) k fa fd [x] (sp w))
  (hsp:∀ (w:Bz) (H:Hp) (a:Af) (ns:Ab Aj),ns.length≤n→YI H→SqX (K w.params) H a (ns.map V.int)→sp w [.ref a] H (λv _=>v=.bl true) λ_ _ _=>Fn)
  (hCX:∀ (w:Bz) (H:Hp) (s:Ah) (e:Ad) (s':Ah),CX w [] H s (λ_ _ _=>Fn) e s'→Fn) :
  Sx q loose XP YP l.row.toRowW d [] (λf vs=>Xa f vs):=by
 refine _A.attach_call hn hdf λw s₀ s₁ mg mb fa o pm cd doc a vs ns G Y ho hd hcd hmg hobj hints hlen hg=>?_;have KX:=hY w _ Y;obtain⟨fd,hb,hF⟩:=F w mg fa _ KX G.T.g hmg;exact U6 KX G.T.g G.T.b G.T.builtins G.T.nolimit hg hobj hints (Fg hlen hn2) hr hF hb (λH hO hS=>hsp w H a ns hlen hO hS) λH e s'=>hCX w H s₁ e s'
end _L
namespace _L
open PySem PySem.Spec PyProof.Rows
variable {ps:Ab As}{f:Af}{x qual:As}{H:Hp}
def yX (s:Fl):Arguments:=match s with
 |.FunctionDef _ a _ _ _ _ _ _ _ _=>a
 |_=>{ posonlyargs:=[],args:=[],vararg:=none,kwonlyargs:=[],kw_defaults:=[],kwarg:=none,defaults:=[] }
def xD (s:Fl):Ab Fl:=match s with
 |.FunctionDef _ _ b _ _ _ _ _ _ _=>b
 |_=>[]
def qJ (s:Fl):Gu:=match s with
 |.FunctionDef _ _ _ _ _ _ sc _ _ _=>sc
 |_=>{ kind:=.function,names:=[],isGenerator:=false,isCoroutine:=false }
abbrev CX0:CXT:=λ_ _ _ _ _ _=>Fn
structure Fun (K:Ak)(x qual:As)(st:Fl)(f:Af)(fd:Fy):Prop where
 ex:∃ (oc:Ad) (od:Am Af) (kV doc pm:Ad) (an:Am Af) (cdv ct:Ad) (osl:Ay (Am Ad)),
  fd=Ho x qual (yX st) (xD st) (qJ st) .none kV doc pm an cdv ct∧K.lookup f=Aa ⟨oc,od,.func fd,osl⟩∧Lg K cdv qual=true
 kp:En K (.ref f)=true
section
variable {P:Bl}{w:Bz}{K:Ak}{mg:As→Am Ad}{base:Bs}
def Fun.ok {st:Fl}{fd:Fy}{N:Ab As}{k:Ai}{sp:Sp}(F:Fun K x qual st f fd)(S:FnScope N ps (qJ st))(len:∀ vs H Q E,sp vs H Q E→vs.length=ps.length)
  (hbody:∀ (cdv:Ad) (A:By) (outer:Ab Jv) (s:Ah) (H:Hp) (vs:Ab V) (Q:VK) (E:XK),Room k (A.deeper (Hd qual (qJ st) s.heap.objs.size f cdv))→sp vs H Q E →
   ∃ t,PSs (nD CX0 P w K mg base N qual (qJ st) f cdv A outer s H E).nox (xD st) t∧t { nx:=λ_ H'=>Q .non H',rt:=Q } (yC N vs) H):FnOk P w K mg base CX0 (k+1) f fd ps sp:=by
 obtain⟨oc,od,kV,doc,pm,an,cdv,ct,osl,rfl,lk,hcd⟩:=F.ex;refine RT lk hcd S len λA outer s H vs Q E hr hsp=>?_;obtain⟨t,h,q⟩:=hbody cdv A outer s H vs Q E hr hsp;exact⟨t,h.nox,q⟩
def Fun.binds {st:Fl}{fd:Fy}(F:Fun K x qual st f fd)
  (h:∀ (kV doc pm:Ad) (an:Am Af) (cdv ct:Ad) (us:Ab Ad),us.length=ps.length→Wl (Ho x qual (yX st) (xD st) (qJ st) .none kV doc pm an cdv ct) ⟨us,[]⟩=pure (ps.zip us)):vW K fd ps []:=by
 obtain⟨oc,od,kV,doc,pm,an,cdv,ct,osl,rfl,lk,hcd⟩:=F.ex;exact .all (h kV doc pm an cdv ct)
def NL {st:Fl}{oc:Ad}{od an:Am Af}{osl:Ay (Am Ad)}{kV doc pm cdv ct:Ad}(l:K.lookup f=Aa ⟨oc,od,.func (Ho x qual (yX st) (xD st) (qJ st) .none kV doc pm an cdv ct),osl⟩)
  (c:Lg K cdv qual=true) (k:En K (.ref f)=true):Fun K x qual st f (Ho x qual (yX st) (xD st) (qJ st) .none kV doc pm an cdv ct):=⟨⟨oc,od,kV,doc,pm,an,cdv,ct,osl,rfl,l,c⟩,k⟩
end
def qH (H H':Hp):Prop:=∀ b o,H b=Aa o→H' b=Aa o
def qH.refl (H:Hp):qH H H:=λ_ _ h=>h
def qH.trans {H1 H2:Hp}(a:qH H H1)(b:qH H1 H2):qH H H2:=λc o h=>b c o (a c o h)
def qH.free {H':Hp}(e:qH H H'){l:Af}(h:H' l=Yr):H l=Yr:=by
 cases q:H l with
 |none=>rfl
 |some o =>
  rw[e l o q] at h;cases h
def qH.seq {K:Ak}{H':Hp}{a:Af}{xs:Ab V}(e:qH H H')(h:SqL K H a xs):SqL K H' a xs:=by
 rcases h with (h|⟨o,h⟩)|h
 ·exact .inl (.inl (e _ _ h))
 ·exact .inl (.inr ⟨o,e _ _ h⟩)
 ·exact .inr h
end _L
end
section
namespace _D
open PySem PySem.Spec PyProof.Rows _L
inductive D where
 |non|bl (b:Ar)|int (i:Aj)|str (x:As)|ty (n:Ej)|obj (a:Af)|tup (xs:Ab D)|lst (xs:Ab D)|dct0|loc (i:Ai)|exn (c:Ad)|fd (ks:Ab Key) (ds:Ab D)
def rL (a:Af)(c:Ad):HO:=.ext λh=>∃ ob,h.get? a=Aa ob∧ob.cls=c
inductive MO where
 |dead|lst (xs:Ab D)|dct (kvs:Ab (Key × D))|ins (C:Af) (fs:Ab (As × D))
abbrev Sto:=Ab MO
inductive Res (β : Type) where
 |ok (d:β) (S:Sto)|ex (c:Ad) (x:D) (S:Sto)|bad
@[inline] def Res.bind {β γ:Type}(r:Res β)(f:β→Sto→Res γ) : Res γ:=
 match r with
 |.ok d S=>f d S
 |.ex c x S=>.ex c x S
 |.bad=>.bad
def Res.bind_ok {β γ:Type}(d:β)(S:Sto)(f:β→Sto→Res γ) : (Res.ok d S).bind f=f d S:=rfl
section
variable (K:Ak)(P:Hp)(α : Ab Af)
mutual
def Rep:D→V→Prop
 |.non,v=>v=.non
 |.bl b,v=>v=.bl b
 |.int i,v=>v=.int i
 |.str x,v=>v=.str x
 |.ty n,v=>v=.ty n
 |.obj a,v=>v=.ref a∧En K (.ref a)=true
 |.tup ds,v=>∃ a vs,v=.ref a∧SqT K P a vs∧qF ds vs
 |.lst ds,v=>∃ a vs,v=.ref a∧SqX K P a vs∧qF ds vs
 |.dct0,v=>∃ a,v=.ref a∧P a=Aa (.dK [])
 |.loc i,v=>∃ a,v=.ref a∧α[i]? = Aa a
 |.exn c,v=>∃ a,v=.ref a∧P a=Aa (rL a c)
 |.fd ks ds,v=>∃ a o vs,v=.ref a∧P a=Aa (.frz o (.dK (ks.zip vs)))∧ks.length=vs.length∧qF ds vs
def qF:Ab D→Ab V→Prop
 |[],vs=>vs=[]
 |d::ds,vs=>∃ w ws,vs=w::ws∧Rep d w∧qF ds ws
end
end
section
variable {K:Ak}{P P':Hp}{α α':Ab Af}
def vP (e:qH P P'){a:Af}{xs:Ab V}(h:SqT K P a xs):SqT K P' a xs:=by
 rcases h with (h|⟨o,h⟩)|h
 ·exact .inl (.inl (e _ _ h))
 ·exact .inl (.inr ⟨o,e _ _ h⟩)
 ·exact .inr h
def iM (e:qH P P'){a:Af}{u:HO}(h:Rd P a u):Rd P' a u:=by
 rcases h with h|⟨o,h⟩
 ·exact .inl (e _ _ h)
 ·exact .inr ⟨o,e _ _ h⟩
def w9 (e:qH P P'){a:Af}{xs:Ab V}(h:SqX K P a xs):SqX K P' a xs:=by
 rcases h with h|h
 ·exact .inl (iM e h)
 ·exact .inr h
def fE {i:Ai}{a:Af}(h:α<+:α')(e:α[i]? = Aa a):α'[i]? = Aa a:=by
 obtain⟨r,rfl⟩:=h;rw[Bk (Be.mp e).1];exact e
mutual
def Rep.mono (e:qH P P')(h:α<+:α'):∀ (d:D) (v:V),Rep K P α d v→Rep K P' α' d v
 |.non,_,r=>by simpa only [Rep] using r
 |.bl _,_,r=>by simpa only [Rep] using r
 |.int _,_,r=>by simpa only [Rep] using r
 |.str _,_,r=>by simpa only [Rep] using r
 |.ty _,_,r=>by simpa only [Rep] using r
 |.obj _,_,r=>by simpa only [Rep] using r
 |.tup ds,v,r=>by
  simp only[Rep] at r ⊢;obtain⟨a,vs,rfl,q,t⟩:=r;exact⟨a,vs,rfl,vP e q,qF.mono e h ds vs t⟩
 |.lst ds,v,r=>by
  simp only[Rep] at r ⊢;obtain⟨a,vs,rfl,q,t⟩:=r;exact⟨a,vs,rfl,w9 e q,qF.mono e h ds vs t⟩
 |.dct0,v,r=>by
  simp only[Rep] at r ⊢;obtain⟨a,rfl,q⟩:=r;exact⟨a,rfl,e _ _ q⟩
 |.loc i,v,r=>by
  simp only[Rep] at r ⊢;obtain⟨a,rfl,q⟩:=r;exact⟨a,rfl,fE h q⟩
 |.exn c,v,r=>by
  simp only[Rep] at r ⊢;obtain⟨a,rfl,q⟩:=r;exact⟨a,rfl,e _ _ q⟩
 |.fd ks ds,v,r=>by
  simp only[Rep] at r ⊢;obtain⟨a,o,vs,rfl,q,hl,t⟩:=r;exact⟨a,o,vs,rfl,e _ _ q,hl,qF.mono e h ds vs t⟩
def qF.mono (e:qH P P')(h:α<+:α'):∀ (ds:Ab D) (vs:Ab V),qF K P α ds vs→qF K P' α' ds vs
 |[],vs,r=>by simpa only [qF] using r
 |d::ds,vs,r=>by
  simp only[qF] at r ⊢;obtain⟨w,ws,rfl,r1,r2⟩:=r;exact⟨w,ws,rfl,Rep.mono e h d w r1,qF.mono e h ds ws r2⟩
end
def qF.nil:qF K P α [] []:=by simp only[qF]
def qF.cons {d:D}{v:V}{ds:Ab D}{vs:Ab V}(r:Rep K P α d v)(t:qF K P α ds vs):qF K P α (d::ds) (v::vs):=by
 simp only[qF];exact⟨v,vs,rfl,r,t⟩
def qF.nil_inv {vs:Ab V}(r:qF K P α [] vs):vs=[]:=by simpa only [qF] using r
def qF.cons_inv {d:D}{ds:Ab D}{vs:Ab V}(r:qF K P α (d::ds) vs):∃ w ws,vs=w::ws∧Rep K P α d w∧qF K P α ds ws:=by simpa only [qF] using r
def qF.length:∀ {ds:Ab D} {vs:Ab V},qF K P α ds vs→ds.length=vs.length
 |[],vs,r=>by rw[r.nil_inv];rfl
 |d::ds,vs,r=>by
  obtain⟨w,ws,rfl,_,t⟩:=r.cons_inv;rw[Ci,Ci,t.length]
def qF.append:∀ {ds es:Ab D} {vs ws:Ab V},qF K P α ds vs→qF K P α es ws→qF K P α (ds++es) (vs++ws)
 |[],es,vs,ws,r,t=>by rw[r.nil_inv];exact t
 |d::ds,es,vs,ws,r,t=>by
  obtain⟨w,us,rfl,r1,r2⟩:=r.cons_inv;exact .cons r1 (r2.append t)
def qF.get:∀ {ds:Ab D} {vs:Ab V} {i:Ai} {d:D},qF K P α ds vs→ds[i]? = Aa d→∃ v,vs[i]? = Aa v∧Rep K P α d v
 |[],_,_,_,_,e=>by simp at e
 |d::ds,vs,i,d',r,e=>by
  obtain⟨w,ws,rfl,r1,r2⟩:=r.cons_inv;cases i with
  |zero=>simp at e;subst e;exact⟨w,rfl,r1⟩
  |succ i =>
   obtain⟨v,h1,h2⟩:=r2.get (i:=i) (d:=d') (by simpa using e)
   exact⟨v,by simpa using h1,h2⟩
def qF.drop:∀ {ds:Ab D} {vs:Ab V} (n:Ai),qF K P α ds vs→qF K P α (ds.drop n) (vs.drop n)
 |ds,vs,0,r=>by simpa using r
 |[],vs,n+1,r=>by rw[r.nil_inv];exact .nil
 |d::ds,vs,n+1,r=>by
  obtain⟨w,ws,rfl,_,r2⟩:=r.cons_inv;simpa using r2.drop n
def qF.take:∀ {ds:Ab D} {vs:Ab V} (n:Ai),qF K P α ds vs→qF K P α (ds.take n) (vs.take n)
 |ds,vs,0,r=>by simpa using qF.nil
 |[],vs,n+1,r=>by rw[r.nil_inv];exact .nil
 |d::ds,vs,n+1,r=>by
  obtain⟨w,ws,rfl,r1,r2⟩:=r.cons_inv;simpa using qF.cons r1 (r2.take n)
def qF.set {d:D}{v:V}(q:Rep K P α d v):∀ {ds:Ab D} {vs:Ab V} (n:Ai),qF K P α ds vs→qF K P α (ds.set n d) (vs.set n v)
 |[],vs,n,r=>by rw[r.nil_inv];exact .nil
 |e::ds,vs,0,r=>by
  obtain⟨w,ws,rfl,r1,r2⟩:=r.cons_inv;exact .cons q r2
 |e::ds,vs,n+1,r=>by
  obtain⟨w,ws,rfl,r1,r2⟩:=r.cons_inv;exact .cons r1 (r2.set q n)
end
abbrev qD:=Ab (Am D)
def zH (K:Ak)(P:Hp)(α : Ab Af)(σ : _L.St)(env:qD):Prop:=env.length=σ.length∧∀ (i:Ai) (d:D),env[i]? = Aa (Aa d)→∃ v,σ[i]? = Aa (Aa v)∧Rep K P α d v
def KVs (K:Ak)(P:Hp)(α : Ab Af){κ : Type}:Ab (κ × D)→Ab (κ × V)→Prop:=Paired λ(p:κ × D) (q:κ × V)=>p.1=q.1∧Rep K P α p.2 q.2
def MOk (K:Ak)(H P:Hp)(α : Ab Af)(a:Af):MO→Prop
 |.dead=>Mv
 |.lst ds=>∃ vs,H a=Aa (.lst vs)∧qF K P α ds vs
 |.dct kvs=>∃ vs,H a=Aa (.dK vs)∧KVs K P α kvs vs
 |.ins C fs=>∃ dx vs,H a=Aa (.ins C dx vs)∧KVs K P α fs vs
structure Rel (K:Ak)(H P:Hp)(α : Ab Af)(S:Sto):Prop where
 sub:qH P H
 len:α.length=S.length
 nd:α.Nodup
 sep:∀ (i:Ai) (a:Af) (o:MO),α[i]? = Aa a→S[i]? = Aa o→o≠.dead→P a=none
 at':∀ (i:Ai) (a:Af) (o:MO),α[i]? = Aa a→S[i]? = Aa o→MOk K H P α a o
 own:∀ (i:Ai) (a:Af),α[i]? = Aa a→H a≠none
section
variable {K:Ak}{H P P':Hp}{α α':Ab Af}{S:Sto}
def zH.mono {σ : _L.St}{env:qD}(e:qH P P')(h:α<+:α')(r:zH K P α σ env):zH K P' α' σ env:=
 ⟨r.1,λi d q=>let ⟨v,h1,h2⟩:=r.2 i d q;⟨v,h1,Rep.mono e h d v h2⟩⟩
def KVs.mono {κ : Type}(e:qH P P')(h:α<+:α'){kvs:Ab (κ × D)}{vs:Ab (κ × V)}(r:KVs K P α kvs vs):KVs K P' α' kvs vs:=by
 refine Paired.mapP r λp q z=>⟨z.1,Rep.mono e h _ _ z.2⟩
def MOk.mono {a:Af}(e:qH P P')(h:α<+:α'):∀ {o:MO},MOk K H P α a o→MOk K H P' α' a o
 |.dead,_=>trivial
 |.lst _,⟨vs,q,r⟩=>⟨vs,q,qF.mono e h _ _ r⟩
 |.dct _,⟨vs,q,r⟩=>⟨vs,q,r.mono e h⟩
 |.ins _ _,⟨dx,vs,q,r⟩=>⟨dx,vs,q,r.mono e h⟩
def Rel.grow {H':Hp}(r:Rel K H P α S)(e:qH H H'):Rel K H' P α S where
 sub:=r.sub.trans e
 len:=r.len
 nd:=r.nd
 sep:=r.sep
 at':=λi a o q1 q2=>by
  have m:=r.at' i a o q1 q2;cases o with
  |dead=>trivial
  |lst ds=>obtain⟨vs,q,t⟩:=m;exact⟨vs,e _ _ q,t⟩
  |dct kvs=>obtain⟨vs,q,t⟩:=m;exact⟨vs,e _ _ q,t⟩
  |ins C fs=>obtain⟨dx,vs,q,t⟩:=m;exact⟨dx,vs,e _ _ q,t⟩
 own:=λi a q=>by
  have m:=r.own i a q;cases z:H a with
  |none=>exact absurd z m
  |some o=>rw[e _ _ z];intro w;cases w
def pK {H:Hp}{a:Af}{o:HO}(h:H a=none):qH H (upd H a o):=λb u e=>by rw[qR (zK e h)];exact e
def Rel.pure {a:Af}{o:HO}(r:Rel K H P α S)(h:H a=none):Rel K (upd H a o) (upd P a o) α S∧qH P (upd P a o):=by
 have hP:P a=none:=by
  cases z:P a with
  |none=>rfl
  |some u=>rw[r.sub _ _ z] at h;cases h
 have sP:qH P (upd P a o):=pK hP;have r1:=r.grow (pK (o:=o) h);refine⟨⟨λb u e=>?_,r.len,r.nd,λi b u q1 q2 q3=>?_,λi b u q1 q2=>(r1.at' i b u q1 q2).mono sP (Bn _),r1.own⟩,sP⟩
 ·by_cases hb:b=a
  ·subst hb;rw[zE] at e ⊢;exact e
  ·rw[qR hb] at e ⊢;exact r.sub _ _ e
 ·have hb:b≠a:=by rintro rfl;exact r.own i b q1 h
  rw[qR hb];exact r.sep i b u q1 q2 q3
def Rel.new {a:Af}{o:HO}{m:MO}(r:Rel K H P α S)(h:H a=none)(hm:MOk K (upd H a o) P (α ++ [a]) a m):Rel K (upd H a o) P (α ++ [a]) (S++[m]):=by
 have hP:P a=none:=by
  cases z:P a with
  |none=>rfl
  |some u=>rw[r.sub _ _ z] at h;cases h
 have r1:=r.grow (pK (o:=o) h);have hp:α<+:α++[a]:=Ha _ _;have split:∀ (i:Ai) (b:Af),(α++[a])[i]? = Aa b→(i<α.length∧α[i]? = Aa b)∨(i=α.length∧b=a):=λi b q=>by
  by_cases hi:i<α.length
  ·rw[Bk hi] at q;exact .inl ⟨hi,q⟩
  ·rw[Dd om] at q
   cases hk:i-α.length with
   |zero=>rw[hk] at q;simp at q;exact .inr ⟨by omega,q.symm⟩
   |succ k=>rw[hk] at q;simp at q
 refine⟨r1.sub,by simp[r.len],?_,λi b u q1 q2 q3=>?_,λi b u q1 q2=>?_,λi b q=>?_⟩
 ·rw[Ll]
  refine⟨r.nd,by simp,λb hb c hc e=>?_⟩
  simp at hc;subst hc;subst e;obtain⟨i,hi,e⟩:=Cg.mp hb;exact r.own i b (by rw[Ap hi,e]) h
 ·rcases split i b q1 with⟨hi,z⟩|⟨hi,rfl⟩
  ·rw[Bk (by rw[← r.len];exact hi)] at q2
   exact r.sep i b u z q2 q3
  ·exact hP
 ·rcases split i b q1 with⟨hi,z⟩|⟨hi,rfl⟩
  ·rw[Bk (by rw[← r.len];exact hi)] at q2
   exact(r1.at' i b u z q2).mono (qH.refl _) hp
  ·rw[hi,r.len,Dd (Av _)] at q2
   simp at q2;subst q2;exact hm
 ·rcases split i b q with⟨_,z⟩|⟨_,rfl⟩
  ·exact r1.own i b z
  ·rw[zE];intro z;cases z
def dI {N:Ab Af}(hN:N.Nodup){i j:Ai}{x:Af}(a:N[i]? = Aa x)(b:N[j]? = Aa x):i=j:=by
 obtain⟨h1,e1⟩:=Be.mp a;obtain⟨h2,e2⟩:=Be.mp b;exact(Ma hN).mp (e1.trans e2.symm)
def Rel.put {a:Af}{i:Ai}{o:HO}{m m':MO}(r:Rel K H P α S)(ha:α[i]? = Aa a)(hs:S[i]? = Aa m)(hd:m≠.dead)(hm:MOk K (upd H a o) P α a m'):Rel K (upd H a o) P α (S.set i m'):=by
 have hP:=r.sep i a m ha hs hd;have hi:i<S.length:=(Be.mp hs).1;refine⟨λb u e=>?_,by simp[r.len],r.nd,λj b u q1 q2 q3=>?_,λj b u q1 q2=>?_,λj b q=>?_⟩
 ·have hb:b≠a:=by rintro rfl;rw[hP] at e;cases e
  rw[qR hb];exact r.sub _ _ e
 ·by_cases hj:j=i
  ·subst hj;rw[ha] at q1;cases q1;exact hP
  ·rw[Cp (Gx hj)] at q2;exact r.sep j b u q1 q2 q3
 ·by_cases hj:j=i
  ·subst hj;rw[ha] at q1;cases q1
   rw[Ec hi] at q2;cases q2;exact hm
  ·rw[Cp (Gx hj)] at q2
   have hb:b≠a:=by rintro rfl;exact hj (dI r.nd q1 ha)
   have z:=r.at' j b u q1 q2;cases u with
   |dead=>trivial
   |lst ds=>obtain⟨vs,q,t⟩:=z;exact⟨vs,by rw[qR hb];exact q,t⟩
   |dct kvs=>obtain⟨vs,q,t⟩:=z;exact⟨vs,by rw[qR hb];exact q,t⟩
   |ins C fs=>obtain⟨dx,vs,q,t⟩:=z;exact⟨dx,vs,by rw[qR hb];exact q,t⟩
 ·by_cases hb:b=a
  ·subst hb;rw[zE];intro z;cases z
  ·rw[qR hb];exact r.own j b q
end
def nn {β : Type}{a:β}{p:Prop}(h:(none:Am β) = Aa a):p:=by cases h
def gW {β : Type}{c:Prop}[OE c]{a b:β}(h:(if c then Aa a else none)=Aa b):c∧a=b:=by
 by_cases z:c
 ·rw[Bi z] at h;exact⟨z,Co h⟩
 ·rw[Bf z] at h;exact nn h
end _D
end
namespace _D
open PySem PySem.Spec PyProof.Rows _L
variable {more:Ab (Af × Cs)}{us args cs:Ab Ad}{body:Ab Fl}{vs:Ab V}{u vv:Ad}{p C:Af}{od:Am Af}{sl:Ay (Am Ad)}{np:Fh}{R:It→Hp→Prop}{M:Ks}{sp:Sp}{S S1:Sto}{Q:VK}
abbrev DE:=qD→Sto→Res D
abbrev DT:=qD→Sto→Res Ar
abbrev DA:=qD→Sto→Res (Ab D)
inductive Out where
 |nx (env:qD) (S:Sto)|rt (d:D) (S:Sto)|bk (env:qD) (S:Sto)|ct (env:qD) (S:Sto)|ex (c:Ad) (x:D) (env:qD) (S:Sto)|bad
abbrev DS:=qD→Sto→Out
def Old (X:Cx)(pins:Ab (Af × Cs))(H:Hp)(b:Af):Prop:=
 (∃ o,X.s₀.heap.get? b=Aa o)∨H b≠none∨(∃ p∈X.pn++pins,p.1=b)∨∃ x,X.env.cells.lookup x=Aa b
def Cv (X:Cx)(pins:Ab (Af × Cs))(H:Hp)(B h:Bs):Prop:=∀ b o,h.get? b=Aa o→Old X pins H b→b ∉ frs X.stack→B.get? b=Aa o
inductive FlyX (X:Cx)(pins:Ab (Af × Cs))(H:Hp)(c:Ad)(e:Af)(h:Bs):Prop where
 |new (g:Bs) (args:Ab Ad):Rv g h e c args→g.FunFrames X.base X.stack→(∀ b o,h.get? b=Aa o→Old X pins H b→g.get? b=Aa o)→FlyX X pins H c e h
 |fly (B:Bs) (a0:Ad):Nk B X.stack e c a0 h→Cv X pins H B h→FlyX X pins H c e h
inductive XOk (X:Cx)(P:Hp)(α : Ab Af)(c:Ad)(x:D)(S:Sto)(u:Ad)(s:Ah):Prop
 |mk (e:Af) (pins:Ab (Af × Cs)) (σ : _L.St) (H:Hp) (P':Hp) (α' : Ab Af) (e1:u=.ref e) (I:Inv X pins σ H s) (r:Rel X.K H P' α' S) (q1:qH P P') (q2:α<+:α') (q3:X.ex=[]∧X.stack=X.env::X.outer∧X.env.frame=Aa X.env.locals) (q4:FlyX X pins H c e s.heap):XOk X P α c x S u s
def XOk.base {X:Cx}{P P1:Hp}{α α1:Ab Af}{c:Ad}{x:D}{s:Ah}(e:qH P P1)(h:α<+:α1)(k:XOk X P1 α1 c x S u s):XOk X P α c x S u s:=by
 obtain⟨a,pins,σ,H,P',α',e1,I,r,q1,q2,q3,q4⟩:=k;exact⟨a,pins,σ,H,P',α',e1,I,r,e.trans q1,h.trans q2,q3,q4⟩
section
variable (X:Cx)
def qI {β:Type}(P:Hp)(α : Ab Af)(r:Res β)(Ok:β→Sto→Prop):Prop:=
 match r with
 |.ok d S'=>Ok d S'
 |.ex c x S'=>∀ u s',XOk X P α c x S' u s'→X.xe u s'
 |.bad=>Fn
def OkV (P:Hp)(α : Ab Af)(Q:VK)(d:D)(S':Sto):Prop:=∀ v H' P' α',Rel X.K H' P' α' S'→qH P P'→α<+:α'→Rep X.K P' α' d v→Q v H'
def OkT (P:Hp)(α : Ab Af)(Q:Ar→Hp→Prop)(b:Ar)(S':Sto):Prop:=∀ H' P' α',Rel X.K H' P' α' S'→qH P P'→α<+:α'→Q b H'
def OkA (P:Hp)(α : Ab Af)(Q:Ab V→Hp→Prop)(ds:Ab D)(S':Sto):Prop:=∀ vs H' P' α',Rel X.K H' P' α' S'→qH P P'→α<+:α'→qF X.K P' α' ds vs→Q vs H'
abbrev zA (P:Hp)(α : Ab Af)(r:Res D)(Q:VK):Prop:=qI X P α r (OkV X P α Q)
abbrev vB (P:Hp)(α : Ab Af)(r:Res Ar)(Q:Ar→Hp→Prop):Prop:=qI X P α r (OkT X P α Q)
abbrev pW (P:Hp)(α : Ab Af)(r:Res (Ab D))(Q:Ab V→Hp→Prop):Prop:=qI X P α r (OkA X P α Q)
def zN (P:Hp)(α : Ab Af)(r:Out)(D:Ends):Prop:=
 match r with
 |.nx env' S'=>∀ σ' H' P' α',Rel X.K H' P' α' S'→zH X.K P' α' σ' env'→qH P P'→α<+:α'→D.nx σ' H'
 |.bk env' S'=>∀ σ' H' P' α',Rel X.K H' P' α' S'→zH X.K P' α' σ' env'→qH P P'→α<+:α'→D.bk σ' H'
 |.ct env' S'=>∀ σ' H' P' α',Rel X.K H' P' α' S'→zH X.K P' α' σ' env'→qH P P'→α<+:α'→D.ct σ' H'
 |.rt d S'=>∀ v H' P' α',Rel X.K H' P' α' S'→qH P P'→α<+:α'→Rep X.K P' α' d v→D.rt v H'
 |.ex c x _ S'=>∀ u s',XOk X P α c x S' u s'→X.xe u s'
 |.bad=>Fn
inductive tD (f:DE)(σ : _L.St)(H:Hp)(Q:VK):Prop
 |mk (P:Hp) (α : Ab Af) (env:qD) (S:Sto) (r:Rel X.K H P α S) (re:zH X.K P α σ env) (af:zA X P α (f env S) Q):tD f σ H Q
inductive tDT (f:DT)(σ : _L.St)(H:Hp)(Q:Ar→Hp→Prop):Prop
 |mk (P:Hp) (α : Ab Af) (env:qD) (S:Sto) (r:Rel X.K H P α S) (re:zH X.K P α σ env) (af:vB X P α (f env S) Q):tDT f σ H Q
inductive tDA (f:DA)(σ : _L.St)(H:Hp)(Q:Ab V→Hp→Prop):Prop
 |mk (P:Hp) (α : Ab Af) (env:qD) (S:Sto) (r:Rel X.K H P α S) (re:zH X.K P α σ env) (af:pW X P α (f env S) Q):tDA f σ H Q
inductive tDS (f:DS)(D:Ends)(σ : _L.St)(H:Hp):Prop
 |mk (P:Hp) (α : Ab Af) (env:qD) (S:Sto) (r:Rel X.K H P α S) (re:zH X.K P α σ env) (af:zN X P α (f env S) D):tDS f D σ H
end
section
variable {X:Cx}{P P1:Hp}{α α1:Ab Af}
def zA.base {r:Res D}(e:qH P P1)(h:α<+:α1)(k:zA X P α r Q):zA X P1 α1 r Q:=by
 cases r with
 |ok d S=>exact λv H' P' α' r q1 q2 q3=>k v H' P' α' r (e.trans q1) (h.trans q2) q3
 |ex c x S=>exact λu s' q=>k u s' (q.base e h)
 |bad=>exact k
def vB.base {r:Res Ar}{Q:Ar→Hp→Prop}(e:qH P P1)(h:α<+:α1)(k:vB X P α r Q):vB X P1 α1 r Q:=by
 cases r with
 |ok d S=>exact λH' P' α' r q1 q2=>k H' P' α' r (e.trans q1) (h.trans q2)
 |ex c x S=>exact λu s' q=>k u s' (q.base e h)
 |bad=>exact k
def pW.base {r:Res (Ab D)}{Q:Ab V→Hp→Prop}(e:qH P P1)(h:α<+:α1)(k:pW X P α r Q):pW X P1 α1 r Q:=by
 cases r with
 |ok d S=>exact λv H' P' α' r q1 q2 q3=>k v H' P' α' r (e.trans q1) (h.trans q2) q3
 |ex c x S=>exact λu s' q=>k u s' (q.base e h)
 |bad=>exact k
def zN.base {r:Out}{D:Ends}(e:qH P P1)(h:α<+:α1)(k:zN X P α r D):zN X P1 α1 r D:=by
 cases r with
 |nx env S=>exact λv H' P' α' r q0 q1 q2=>k v H' P' α' r q0 (e.trans q1) (h.trans q2)
 |bk env S=>exact λv H' P' α' r q0 q1 q2=>k v H' P' α' r q0 (e.trans q1) (h.trans q2)
 |ct env S=>exact λv H' P' α' r q0 q1 q2=>k v H' P' α' r q0 (e.trans q1) (h.trans q2)
 |rt d S=>exact λv H' P' α' r q1 q2 q3=>k v H' P' α' r (e.trans q1) (h.trans q2) q3
 |ex c x env S=>exact λu s' q=>k u s' (q.base e h)
 |bad=>exact k
def xr {v:V}{H:Hp}{d:D}(k:OkV X P α Q d S)(r:Rel X.K H P α S)(q:Rep X.K P α d v):Q v H:=k v H P α r (qH.refl _) (Bn _) q
end
section
variable {X:Cx}{a b e:Bw}{pos:Fh}
def peW {t t':TE}(h:PE X e t)(w:∀ σ H Q,t' σ H Q→t σ H Q):PE X e t':=λpins s σ H Q I q=>h pins s σ H Q I (w σ H Q q)
def psW {st:Fl}{t t':TS}(h:PS X st t)(w:∀ D σ H,t' D σ H→t D σ H):PS X st t':=λpins s σ H D I q=>h pins s σ H D I (w D σ H q)
def D9 {st:Ab Fl}{t t':TS}(h:PSs X st t)(w:∀ D σ H,t' D σ H→t D σ H):PSs X st t':=λpins s σ H D I q=>h pins s σ H D I (w D σ H q)
def paW {es:Ab Bw}{t t':TA}(h:PA X es t)(w:∀ σ H Q,t' σ H Q→t σ H Q):PA X es t':=λpos pins s σ H Q I q=>h pos pins s σ H Q I (w σ H Q q)
structure Got (X:Cx)(pins:Ab (Af × Cs))(σ : _L.St)(env:qD)(P:Hp)(α : Ab Af)(u:Ad)(s1:Ah)(v:V)(H1 P1:Hp)(α1:Ab Af)(d:D)(S1:Sto):Prop where
 inv:Inv X pins σ H1 s1
 val:qL v u
 rel:Rel X.K H1 P1 α1 S1
 env:zH X.K P1 α1 σ env
 rep:Rep X.K P1 α1 d v
 same:qH P P1
 pre:α<+:α1
inductive GotG (X:Cx)(pins:Ab (Af × Cs))(σ : _L.St)(env:qD)(P:Hp)(α : Ab Af)(u:Ad)(s1:Ah){γ : Type}(g:D→Sto→Res γ)(Ok:γ→Sto→Prop):Prop
 |mk (v:V) (H1 P1:Hp) (α1:Ab Af) (d:D) (S1:Sto) (G:Got X pins σ env P α u s1 v H1 P1 α1 d S1) (q:qI X P α (g d S1) Ok):GotG X pins σ env P α u s1 g Ok
inductive GotAG (X:Cx)(pins:Ab (Af × Cs))(σ : _L.St)(env:qD)(P:Hp)(α : Ab Af)(us:Ab Ad)(s1:Ah){γ : Type}(g:Ab D→Sto→Res γ)(Ok:γ→Sto→Prop):Prop
 |mk (vs:Ab V) (H1 P1:Hp) (α1:Ab Af) (ds:Ab D) (S1:Sto) (I:Inv X pins σ H1 s1) (rv:qK vs us) (r:Rel X.K H1 P1 α1 S1) (re:zH X.K P1 α1 σ env) (rp:qF X.K P1 α1 ds vs) (e1:qH P P1) (e2:α<+:α1) (q:qI X P α (g ds S1) Ok):GotAG X pins σ env P α us s1 g Ok
inductive GotT (X:Cx)(pins:Ab (Af × Cs))(σ : _L.St)(env:qD)(P:Hp)(α : Ab Af)(b:Ar)(s1:Ah){γ : Type}(g:Ar→Sto→Res γ)(Ok:γ→Sto→Prop):Prop
 |mk (H1 P1:Hp) (α1:Ab Af) (S1:Sto) (I:Inv X pins σ H1 s1) (r:Rel X.K H1 P1 α1 S1) (re:zH X.K P1 α1 σ env) (e1:qH P P1) (e2:α<+:α1) (q:qI X P α (g b S1) Ok):GotT X pins σ env P α b s1 g Ok
def xF {γ:Type}{f:DE}{g:D→Sto→Res γ}{Ok:γ→Sto→Prop}{pins:Ab (Af × Cs)}{s:Ah}{σ:_L.St}{H P:Hp}{α:Ab Af}{env:qD}(he:PE X e (tD X f))(I:Inv X pins σ H s)(r:Rel X.K H P α S)
  (re:zH X.K P α σ env) (af:qI X P α ((f env S).bind g) Ok) :
  Ao (Au X.prog X.w) X.A (eval e X.env) (λu s1=>GotG X pins σ env P α u s1 g Ok) X.xe s:=by
 refine thn (he pins s σ H (λv H1=>∃ P1 α1 d S1,Rel X.K H1 P1 α1 S1∧zH X.K P1 α1 σ env∧Rep X.K P1 α1 d v∧qH P P1∧α<+:α1∧qI X P α (g d S1) Ok) I ⟨P,α,env,S,r,re,?_⟩) λu s1 ⟨v,H1,I1,rv,P1,α1,d,S1,q1,q2,q3,q4,q5,q6⟩=>⟨v,H1,P1,α1,d,S1,⟨I1,rv,q1,q2,q3,q4,q5⟩,q6⟩;cases q:f env S with
 |bad=>rw[q] at af;exact af
 |ex c x S'=>rw[q] at af;exact af
 |ok d S' =>
  rw[q] at af;exact λv H' P' α' r' e1 e2 rp=>⟨P',α',d,S',r',re.mono e1 e2,rp,e1,e2,af⟩
def wV {γ:Type}{es:Ab Bw}{f:DA}{g:Ab D→Sto→Res γ}{Ok:γ→Sto→Prop}{pins:Ab (Af × Cs)}{s:Ah}{σ:_L.St}{H P:Hp}{α:Ab Af}{env:qD}(he:PA X es (tDA X f))(I:Inv X pins σ H s)(r:Rel X.K H P α S)
  (re:zH X.K P α σ env) (af:qI X P α ((f env S).bind g) Ok) (pos:Fh) :
  Ao (Au X.prog X.w) X.A (spliced (Fu pos (Bd es X.env))) (λus s1=>GotAG X pins σ env P α us s1 g Ok) X.xe s:=by
 refine thn (he pos pins s σ H (λvs H1=>∃ P1 α1 ds S1,Rel X.K H1 P1 α1 S1∧zH X.K P1 α1 σ env∧qF X.K P1 α1 ds vs∧qH P P1∧α<+:α1∧qI X P α (g ds S1) Ok) I ⟨P,α,env,S,r,re,?_⟩) λu s1 ⟨v,H1,I1,rv,P1,α1,d,S1,q1,q2,q3,q4,q5,q6⟩=>⟨v,H1,P1,α1,d,S1,I1,rv,q1,q2,q3,q4,q5,q6⟩;cases q:f env S with
 |bad=>rw[q] at af;exact af
 |ex c x S'=>rw[q] at af;exact af
 |ok d S' =>
  rw[q] at af;exact λv H' P' α' r' e1 e2 rp=>⟨P',α',d,S',r',re.mono e1 e2,rp,e1,e2,af⟩
def b7 {γ:Type}{f:DT}{g:Ar→Sto→Res γ}{Ok:γ→Sto→Prop}{pins:Ab (Af × Cs)}{s:Ah}{σ:_L.St}{H P:Hp}{α:Ab Af}{env:qD}{m:Kb Ar}
  (he:∀ (Q:Ar→Hp→Prop),tDT X f σ H Q→Ao (Au X.prog X.w) X.A m (TP X pins σ Q) X.xe s) (r:Rel X.K H P α S) (re:zH X.K P α σ env) (af:qI X P α ((f env S).bind g) Ok) :
  Ao (Au X.prog X.w) X.A m (λb s1=>GotT X pins σ env P α b s1 g Ok) X.xe s:=by
 refine thn (he (λb H1=>∃ P1 α1 S1,Rel X.K H1 P1 α1 S1∧zH X.K P1 α1 σ env∧qH P P1∧α<+:α1∧qI X P α (g b S1) Ok) ⟨P,α,env,S,r,re,?_⟩) λb s1 ⟨H1,I1,P1,α1,S1,q1,q2,q4,q5,q6⟩=>⟨H1,P1,α1,S1,I1,q1,q2,q4,q5,q6⟩;cases q:f env S with
 |bad=>rw[q] at af;exact af
 |ex c x S'=>rw[q] at af;exact af
 |ok d S' =>
  rw[q] at af;exact λH' P' α' r' e1 e2=>⟨P',α',S',r',re.mono e1 e2,e1,e2,af⟩
def dC (d:D):DE:=λ_ S=>.ok d S
def qB (i:Ai):DE:=λenv S=>match env[i]? with
 |some (Aa d)=>.ok d S
 |_=>.bad
def TN:PE X (.Constant (.int i) j pos) (tD X (dC (.int i))):=peW LV λσ H Q ⟨P,α,env,S,r,re,af⟩=>xr af r (by simp only[Rep])
def RE:PE X (.Constant (.bool i) j pos) (tD X (dC (.bl i))):=peW EE λσ H Q ⟨P,α,env,S,r,re,af⟩=>xr af r (by simp only[Rep])
def TV:PE X (.Constant (.str i) j pos) (tD X (dC (.str i))):=peW LY λσ H Q ⟨P,α,env,S,r,re,af⟩=>xr af r (by simp only[Rep])
def TQ:PE X (.Constant .none j pos) (tD X (dC .non)):=peW LW λσ H Q ⟨P,α,env,S,r,re,af⟩=>xr af r (by simp only[Rep])
set_option tactic.hygienic true in
def M7 {i:Ai}{σ:_L.St}{H:Hp}(h:tD X (qB i) σ H Q):SS i σ H Q:=by
 obtain⟨P,α,env,S,r,re,af⟩:=h;unfold qB at af
 split at af
 ·rename_i d q
  obtain⟨v,h1,h2⟩:=re.2 i d q;exact⟨v,h1,xr af r h2⟩
 ·exact An af
def dv (i:Ai){x:As}(hN:X.N[i]? = Aa x:=by rfl)(hv:Vis X.env.scope x:=by first|exact Xm rfl|exact Vv (Xm rfl)|exact Vv (Vv rfl))(hd:(x == ("__debug__" : As))=false:=by decide)
  (hcd:(x == ("__classdict__" : As))=false:=by decide):PE X (.Name x pos) (tD X (qB i)):=peW (D0 hN hv hd hcd) λσ H Q h=>M7 h
def cZ {x:As}{d:D}{v:V}(hg:Gl X x)(hm:X.mg x=Aa u)(r:qL v u)(q:∀ P α,Rep X.K P α d v)(hd:(x == ("__debug__" : As))=false:=by decide):PE X (.Name x pos) (tD X (dC d)):=
 peW (F7 hg hm r hd) λσ H Q ⟨P,α,env,S,r,re,af⟩=>xr af r (q _ _)
def GR {x:As}{n:Ej}(hg:Gl X x)(hm:X.mg x=none)(hv:Ge x=Aa (.type n))(hn:x ≠ "__name__":=by decide)(hd:(x == ("__debug__" : As))=false:=by decide):PE X (.Name x pos) (tD X (dC (.ty n))):=
 peW (F6 (v:=.ty n) hg hm hv rfl hn hd) λσ H Q ⟨P,α,env,S,r,re,af⟩=>xr af r (by simp only[Rep])
abbrev G2:=D→D→Sto→Res D
def OpD (X:Cx)(f:Ad→Ad→Kb Ad)(g:G2):Prop:=
 ∀ (pins:Ab (Af × Cs)) (σ : _L.St) (H:Hp) (s:Ah) (P:Hp) (α : Ab Af) (S:Sto) (v u:V) (vv uu:Ad) (a b:D) (Q:VK),Inv X pins σ H s→Rel X.K H P α S→qL v vv→qL u uu→Rep X.K P α a v→Rep X.K P α b u→zA X P α (g a b S) Q →
  Ao (Au X.prog X.w) X.A (f vv uu) (EP X pins σ Q) X.xe s
def OpD.of {f:Ad→Ad→Kb Ad}{r:R2}{g:G2}(h:OpR X f r)(w:∀ H P α S v u a b Q,Rel X.K H P α S→Rep X.K P α a v→Rep X.K P α b u→zA X P α (g a b S) Q→r v u H Q):OpD X f g:=
 λpins σ H s P α S v u vv uu a b Q I rl r1 r2 p1 p2 af=>h pins s σ H v u vv uu Q I r1 r2 (w H P α S v u a b Q rl p1 p2 af)
def UnD (X:Cx)(f:Ad→Kb Ad)(g:D→Sto→Res D):Prop:=
 ∀ (pins:Ab (Af × Cs)) (σ : _L.St) (H:Hp) (s:Ah) (P:Hp) (α : Ab Af) (S:Sto) (v:V) (vv:Ad) (a:D) (Q:VK),Inv X pins σ H s→Rel X.K H P α S→qL v vv→Rep X.K P α a v→zA X P α (g a S) Q →
  Ao (Au X.prog X.w) X.A (f vv) (EP X pins σ Q) X.xe s
def IxD (X:Cx)(g:G2):Prop:=
 ∀ (value slice:Bw) (pins:Ab (Af × Cs)) (σ : _L.St) (H:Hp) (s:Ah) (P:Hp) (α : Ab Af) (S:Sto) (v u:V) (vv uu:Ad) (a b:D) (Q:VK),Inv X pins σ H s→Rel X.K H P α S→qL v vv→qL u uu→Rep X.K P α a v→Rep X.K P α b u→zA X P α (g a b S) Q →
  subscripted slice false vv uu=operate [vv,uu] (Md vv uu)→Ao (Au X.prog X.w) X.A (Su value slice vv uu) (EP X pins σ Q) X.xe s
def yK (X:Cx)(f:Ad)(g:Ab D→Sto→Res D):Prop:=
 ∀ (pins:Ab (Af × Cs)) (σ : _L.St) (H:Hp) (s:Ah) (P:Hp) (α : Ab Af) (S:Sto) (vs:Ab V) (us:Ab Ad) (ds:Ab D) (Q:VK),Inv X pins σ H s→Rel X.K H P α S→qK vs us→qF X.K P α ds vs→zA X P α (g ds S) Q →
  Ao (Au X.prog X.w) X.A (call f us) (EP X pins σ Q) X.xe s
def d2 (g:G2)(fa fb:DE):DE:=λenv S=>(fa env S).bind λx S1=>(fb env S1).bind λy S2=>g x y S2
def d1 (g:D→Sto→Res D)(fa:DE):DE:=λenv S=>(fa env S).bind g
variable {fa fb:DE}
def rG {g:G2}{f:Ad→Ad→Kb Ad}{pins:Ab (Af × Cs)}{s:Ah}{σ:_L.St}{H:Hp}(ho:OpD X f g)(ha:PE X a (tD X fa))(hb:PE X b (tD X fb))(I:Inv X pins σ H s)(h:tD X (d2 g fa fb) σ H Q) :
  Ao (Au X.prog X.w) X.A (eval a X.env) (λv s₁=>Ao (Au X.prog X.w) X.A (eval b X.env) (λu s₂=>Ao (Au X.prog X.w) X.A (f v u) (EP X pins σ Q) X.xe s₂) X.xe s₁) X.xe s:=by
 obtain⟨P,α,env,S,r,re,af⟩:=h;refine thn (xF ha I r re af) λvv s1 ⟨v,H1,P1,α1,d,S1,G1,af1⟩=>?_;refine thn (xF hb G1.inv G1.rel G1.env (P:=P1) (α:=α1) (Ok:=OkV X P1 α1 Q) (g:=λy S2=>g d y S2) ?_) λuu s2 ⟨u,H2,P2,α2,d',S2,G2,af2⟩=>?_
 ·exact zA.base G1.same G1.pre af1
 ·exact ho pins σ H2 s2 P2 α2 S2 v u vv uu d d' Q G2.inv G2.rel G1.val G2.val (Rep.mono G2.same G2.pre _ _ G1.rep) G2.rep (zA.base G2.same G2.pre af2)
def RH {op:Operator}{g:G2}(ho:OpD X (Ev op) g)(ha:PE X a (tD X fa))(hb:PE X b (tD X fb)):PE X (.BinOp a op b pos) (tD X (d2 g fa fb)):=
 λpins s σ H Q I h=>wpAny_BinOp (rG ho ha hb I h)
def TL {op:Sj}{g:G2}(ho:OpD X (Dj op) g)(ha:PE X a (tD X fa))(hb:PE X b (tD X fb))(hm:Kf op b=false:=by first|exact gH _|with_unfolding_all rfl):PE X (.Compare a [op] [b] pos) (tD X (d2 g fa fb)):=
 λpins s σ H Q I h=>wpAny_Compare1 (rG ho ha hb I h) hm
def RI {op:UnaryOp}{g:D→Sto→Res D}(ho:UnD X (Vp op) g)(ha:PE X a (tD X fa)):PE X (.UnaryOp op a pos) (tD X (d1 g fa)):=by
 intro pins s σ H Q I h;obtain⟨P,α,env,S,r,re,af⟩:=h;exact UnaryOp_ (thn (xF ha I r re af) λvv s1 ⟨v,H1,P1,α1,d,S1,G1,af1⟩=>ho pins σ H1 s1 P1 α1 S1 v vv d Q G1.inv G1.rel G1.val G1.rep (zA.base G1.same G1.pre af1))
def K4 {g:G2}(ho:IxD X g)(ha:PE X a (tD X fa))(hb:PE X b (tD X fb))(hs:jK b:=by intro _ _;rfl):PE X (.Subscript a b pos) (tD X (d2 g fa fb)):=by
 intro pins s σ H Q I h;obtain⟨P,α,env,S,r,re,af⟩:=h;have IxR':IxR X (λx y H Q=>∃ P α S a b,Rel X.K H P α S∧Rep X.K P α a x∧Rep X.K P α b y∧zA X P α (g a b S) Q):=λvalue slice pins s σ H x y v u Q I rx ry ⟨P,α,S,a,b,r,p1,p2,af⟩ hsl =>
  ho value slice pins σ H s P α S x y v u a b Q I r rx ry p1 p2 af hsl
 refine peW (EF IxR' ha hb hs) (t':=tD X (d2 g fa fb)) (λσ H Q h=>?_) pins s σ H Q I ⟨P,α,env,S,r,re,af⟩;obtain⟨P,α,env,S,r,re,af⟩:=h;refine⟨P,α,env,S,r,re,?_⟩;unfold d2 at af;cases q:fa env S with
 |bad=>rw[q] at af;exact af
 |ex c x S'=>rw[q] at af;exact af
 |ok d S1 =>
  rw[q] at af;intro v H1 P1 α1 r1 e1 e2 rp;refine⟨P1,α1,env,S1,r1,re.mono e1 e2,?_⟩;have af':zA X P α ((fb env S1).bind λy S2=>g d y S2) Q:=af;cases q2:fb env S1 with
  |bad=>rw[q2] at af';exact af'
  |ex c x S'=>rw[q2] at af';exact λu s' z=>af' u s' (z.base e1 e2)
  |ok d' S2 =>
   rw[q2] at af';intro u H2 P2 α2 r2 e3 e4 rp2;exact⟨P2,α2,S2,d,d',r2,Rep.mono e3 e4 _ _ rp,rp2,zA.base (e1.trans e3) (e2.trans e4) af'⟩
def qC:DA:=λ_ S=>.ok [] S
def qA (f:DE)(g:DA):DA:=λenv S=>(f env S).bind λx S1=>(g env S1).bind λxs S2=>.ok (x::xs) S2
def ZT:PA X [] (tDA X qC):=paW LU λσ H Q ⟨P,α,env,S,r,re,af⟩=>af [] H P α r (qH.refl _) (Bn _) .nil
def cY {es:Ab Bw}{g:DA}(ha:PE X e (tD X fa))(hr:PA X es (tDA X g))(hs:Bd (e::es) X.env=(false,eval e X.env)::Bd es X.env:=by rfl):PA X (e::es) (tDA X (qA fa g)):=by
 intro pos pins s σ H Q I h;obtain⟨P,α,env,S,r,re,af⟩:=h;rw[hs];show Ao _ _ (spliced ((false,eval e X.env)::Fu pos (Bd es X.env))) _ _ s;refine Ou (thn (xF ha I r re af) λu s1 ⟨x,H1,P1,α1,d,S1,G1,af1⟩=>?_);refine thn (wV hr G1.inv G1.rel G1.env (P:=P1) (α:=α1) (Ok:=OkA X P1 α1 Q) (pW.base G1.same G1.pre af1) pos) λus s2 ⟨xs,H2,P2,α2,ds,S2,I2,rv,r2,re2,rp2,e1,e2,af2⟩=>?_;exact⟨x::xs,H2,I2,.cons G1.val rv,af2 _ _ _ _ r2 e1 e2 (.cons (Rep.mono e1 e2 _ _ G1.rep) rp2)⟩
def lim:Ai:=16777216
def xP:lim=sizeLine:=Fe.symm
def zG (f:DA):DE:=λenv S=>(f env S).bind λxs S1=>if xs.length≤lim then .ok (.tup xs) S1 else .bad
def zQ (f:DA):DE:=λenv S=>(f env S).bind λxs S1=>if xs.length≤lim then .ok (.lst xs) S1 else .bad
def sJ (f:DA):DE:=λenv S=>(f env S).bind λxs S1=>if xs.length≤lim then .ok (.loc S1.length) (S1++[.lst xs]) else .bad
def fL {K:Ak}{P:Hp}{α:Ab Af}{a:Af}{ds:Ab D}(h:SqT K P a vs)(r:qF K P α ds vs):Rep K P α (.tup ds) (.ref a):=by simp only[Rep];exact⟨a,vs,rfl,h,r⟩
def fK {K:Ak}{P:Hp}{α:Ab Af}{a:Af}{ds:Ab D}(h:SqX K P a vs)(r:qF K P α ds vs):Rep K P α (.lst ds) (.ref a):=by simp only[Rep];exact⟨a,vs,rfl,h,r⟩
def pG {H P:Hp}{α:Ab Af}{ds:Ab D}(r:Rel X.K H P α S)(hp:H p=none)(rp:qF X.K P α ds vs)(af:OkV X P α Q (.tup ds) S):Q (.ref p) (upd H p (.tup vs)):=by
 obtain⟨r1,e1⟩:=r.pure (o:=.tup vs) hp;exact af _ _ _ α r1 e1 (Bn _) (fL (.of zE) (qF.mono e1 (Bn _) _ _ rp))
def yQ {H P:Hp}{α:Ab Af}{ds:Ab D}(r:Rel X.K H P α S)(hp:H p=none)(rp:qF X.K P α ds vs)(af:OkV X P α Q (.lst ds) S):Q (.ref p) (upd H p (.lst vs)):=by
 obtain⟨r1,e1⟩:=r.pure (o:=.lst vs) hp;exact af _ _ _ α r1 e1 (Bn _) (fK (.inl (.inl zE)) (qF.mono e1 (Bn _) _ _ rp))
def i9 {H P:Hp}{α:Ab Af}{ds:Ab D}(r:Rel X.K H P α S)(hp:H p=none)(rp:qF X.K P α ds vs)(af:OkV X P α Q (.loc S.length) (S++[.lst ds])):Q (.ref p) (upd H p (.lst vs)):=by
 have hpre:α<+:α++[p]:=Ha _ _;have r1:=r.new (o:=.lst vs) (m:=.lst ds) hp ⟨vs,zE,qF.mono (qH.refl _) hpre _ _ rp⟩;refine af _ _ _ _ r1 (qH.refl _) hpre ?_;simp only[Rep];exact⟨p,rfl,by rw[← r.len];simp⟩
def nJ {f:DA}{σ:_L.St}{H:Hp}{G:Ab D→Sto→Res D}{mk:Ab V→HO}(h:tD X (λenv S=>(f env S).bind λxs S1=>if xs.length≤lim then G xs S1 else .bad) σ H Q)
  (k:∀ H1 P1 α1 S1 ds vs p,Rel X.K H1 P1 α1 S1→H1 p=none→qF X.K P1 α1 ds vs→zA X P1 α1 (G ds S1) Q→Q (.ref p) (upd H1 p (mk vs))) :
  tDA X f σ H λvs H1=>vs.length≤sizeLine∧∀ p,H1 p=none→Q (.ref p) (upd H1 p (mk vs)):=by
 obtain⟨P,α,env,S,r,re,af⟩:=h;refine⟨P,α,env,S,r,re,?_⟩;have af':zA X P α ((f env S).bind λxs S1=>if xs.length≤lim then G xs S1 else .bad) Q:=af
 cases q:f env S with
 |bad=>rw[q] at af';exact af'
 |ex c x S'=>rw[q] at af';exact af'
 |ok ds S1 =>
  rw[q] at af';intro vs H1 P1 α1 r1 e1 e2 rp;have af2:zA X P α (if ds.length≤lim then G ds S1 else .bad) Q:=af'
  by_cases hl:ds.length≤lim
  ·rw[Bi hl] at af2
   exact⟨by rw[← rp.length,← xP];exact hl,λp hp=>k H1 P1 α1 S1 ds vs p r1 hp rp (zA.base e1 e2 af2)⟩
  ·rw[Bf hl] at af2;exact An af2
def TX {es:Ab Bw}{f:DA} {x1} (h:PA X es (tDA X f)):PE X (.Tuple es x1 pos) (tD X (zG f)):=
 peW (LZ h) λσ H Q q=>nJ (G:=λxs S1=>.ok (.tup xs) S1) (mk:=.tup) q λH1 P1 α1 S1 ds vs p r hp rp af=>pG r hp rp af
def ZW {es:Ab Bw}{f:DA}(h:PA X es (tDA X f)):PE X (.List es pos) (tD X (zQ f)):=
 peW (WA h) λσ H Q q=>nJ (G:=λxs S1=>.ok (.lst xs) S1) (mk:=.lst) q λH1 P1 α1 S1 ds vs p r hp rp af=>yQ r hp rp af
def GU {es:Ab Bw}{f:DA}(h:PA X es (tDA X f)):PE X (.List es pos) (tD X (sJ f)):=
 peW (WA h) λσ H Q q=>nJ (G:=λxs S1=>.ok (.loc S1.length) (S1++[MO.lst xs])) (mk:=.lst) q λH1 P1 α1 S1 ds vs p r hp rp af=>i9 r hp rp af
end
section
variable {X:Cx}{a b c e:Bw}{pos:Fh}{fa fb fc:DE}{ta tb:DT}
def xX:D→Sto→Am Ar
 |.non,_=>Aa false
 |.bl b,_=>Aa b
 |.int i,_=>Aa (i != 0)
 |.str x,_=>if x.length≤lim then Aa ((x.length:Aj) != 0) else none
 |.tup xs,_=>Aa (!xs.isEmpty)
 |.lst xs,_=>Aa (!xs.isEmpty)
 |.dct0,_=>Aa false
 |.loc i,S=>match S[i]? with
  |some (.lst xs)=>Aa (!xs.isEmpty)
  |some (.dct kvs)=>Aa (!kvs.isEmpty)
  |_=>none
 |_,_=>none
def qF.isEmpty {K:Ak}{P:Hp}{α:Ab Af}{ds:Ab D}(r:qF K P α ds vs):(!ds.isEmpty)=!vs.isEmpty:=by
 cases ds with
 |nil=>rw[r.nil_inv];rfl
 |cons d ds=>obtain⟨w,ws,rfl,_,_⟩:=r.cons_inv;rfl
def wL {K:Ak}{H P:Hp}(e:qH P H){a:Af}{xs:Ab V}(h:SqT K P a xs):SqT K H a xs:=vP e h
def jP {H P:Hp}{α:Ab Af}{v:V}{d:D}{k:Ar}(r:Rel X.K H P α S)(p:Rep X.K P α d v)(h:xX d S=Aa k):o7 X.K v H k:=by
 cases d with
 |non=>simp only[Rep] at p;subst p;cases h;rfl
 |bl b=>simp only[Rep] at p;subst p;cases h;rfl
 |int i=>simp only[Rep] at p;subst p;cases h;rfl
 |str x =>
  simp only[Rep] at p;subst p;obtain⟨hl,rfl⟩:=gW h;exact⟨by rw[← xP];exact hl,rfl⟩
 |tup xs =>
  simp only[Rep] at p;obtain⟨a,vs,rfl,q,t⟩:=p;cases h;exact .inr (.inl ⟨vs,wL r.sub q,t.isEmpty⟩)
 |lst xs =>
  simp only[Rep] at p;obtain⟨a,vs,rfl,q,t⟩:=p;cases h;exact .inl ⟨vs,(w9 r.sub q).l,t.isEmpty⟩
 |dct0 =>
  simp only[Rep] at p;obtain⟨a,rfl,q⟩:=p;cases h;exact .inr (.inr ⟨[],r.sub _ _ q,rfl⟩)
 |loc i =>
  simp only[Rep] at p;obtain⟨a,rfl,q⟩:=p;have h:(match S[i]? with|some (.lst xs)=>Aa (!xs.isEmpty)|some (.dct kvs)=>Aa (!kvs.isEmpty)|_=>none)=Aa k:=h
  cases hs:S[i]? with
  |none=>rw[hs] at h;exact nn h
  |some m =>
   rw[hs] at h;cases m with
   |lst xs =>
    cases h;obtain⟨vs,z,t⟩:=r.at' i a _ q hs;exact .inl ⟨vs,.of z,t.isEmpty⟩
   |dct kvs =>
    cases h;obtain⟨vs,z,t⟩:=r.at' i a _ q hs;refine .inr (.inr ⟨vs,z,?_⟩);cases t <;> rfl
   |_=>exact nn h
 |ty n=>exact nn h
 |obj a=>exact nn h
 |exn c=>exact nn h
 |fd ks ds=>exact nn h
def GB {pins:Ab (Af × Cs)}{s:Ah}{σ:_L.St}{H P:Hp}{α:Ab Af}{v:V}{d:D}{k:Ar}{Q:Ar→Hp→Prop}(I:Inv X pins σ H s)(r:Rel X.K H P α S)(rv:qL v vv)(p:Rep X.K P α d v)(h:xX d S=Aa k)(q:Q k H) :
  Ao (Au X.prog X.w) X.A (truthy vv) (TP X pins σ Q) X.xe s:=bP pins s σ H v vv Q I rv ⟨k,jP r p h,q⟩
def uB (o:Am Ar)(S:Sto):Res Ar:=match o with
 |some b=>.ok b S
 |none=>.bad
def dTr (f:DE):DT:=λenv S=>(f env S).bind λd S1=>uB (xX d S1) S1
def lJ {o:Am Ar}{P:Hp}{α:Ab Af}{Ok:Ar→Sto→Prop}(h:qI X P α (uB o S) Ok):∃ b,o=Aa b∧Ok b S:=by
 cases o with
 |none=>exact An h
 |some b=>exact⟨b,rfl,h⟩
def ND (ha:PE X a (tD X fa))(he:∀ whole,isTrue a X.env whole=(do let v ← whole;Sy a.pos;holding [v] (truthy v)):=by intro _;rfl):PT X a (tDT X (dTr fa)):=by
 intro pins s σ H Q I h;obtain⟨P,α,env,S,r,re,af⟩:=h;refine isTrue_plain (thn (xF ha I r re af) λvv s1 ⟨v,H1,P1,α1,d,S1,G1,af1⟩=>?_) (he _);obtain⟨k,e1,q⟩:=lJ af1;exact GB G1.inv G1.rel G1.val G1.rep e1 (q H1 P1 α1 G1.rel G1.same G1.pre)
def NB {op:Sj}{g:G2}(ho:OpD X (Dj op) g)(ha:PE X a (tD X fa))(hb:PE X b (tD X fb))(hm:Kf op b=false:=by first|exact gH _|with_unfolding_all rfl):PT X (.Compare a [op] [b] pos) (tDT X (dTr (d2 g fa fb))):=by
 intro pins s σ H Q I h;obtain⟨P,α,env,S,r,re,af⟩:=h;refine wpAny_isTrue_Compare1 ?_ hm;have key:tD X (d2 g fa fb) σ H (λv H1=>∃ k,o7 X.K v H1 k∧Q k H1):=by
  refine⟨P,α,env,S,r,re,?_⟩;have af':qI X P α ((d2 g fa fb env S).bind λd S1=>uB (xX d S1) S1) (OkT X P α Q):=af;cases q:d2 g fa fb env S with
  |bad=>rw[q] at af';exact af'
  |ex c x S'=>rw[q] at af';exact af'
  |ok d S1 =>
   rw[q] at af';obtain⟨k,e1,qk⟩:=lJ (X:=X) af';exact λv H1 P1 α1 r1 e3 e4 rp=>⟨k,jP r1 rp e1,qk H1 P1 α1 r1 e3 e4⟩
 exact thn (rG ho ha hb I key) λv s1 h1=>thn h1 λu s2 h2=>thn h2 λx s3 ⟨y,H3,I3,r3,k,tk,qk⟩=>bP pins s3 σ H3 y x Q I3 r3 ⟨k,tk,qk⟩
def xR (g g':G2)(fa fb fc:DE):DE:=λenv S=>(fa env S).bind λx S1=>(fb env S1).bind λy S2=>(g x y S2).bind λz S3 =>
 match xX z S3 with
 |some true=>(fc env S3).bind λw S4=>g' y w S4
 |some false=>.ok z S3
 |none=>.bad
inductive GotO (X:Cx)(pins:Ab (Af × Cs))(σ : _L.St)(P:Hp)(α : Ab Af)(w:Ad)(s1:Ah){γ : Type}(k:D→Sto→Res γ)(Ok:γ→Sto→Prop):Prop
 |mk (y:V) (H1 P1:Hp) (α1:Ab Af) (d:D) (S1:Sto) (I:Inv X pins σ H1 s1) (rv:qL y w) (r:Rel X.K H1 P1 α1 S1) (rp:Rep X.K P1 α1 d y) (e1:qH P P1) (e2:α<+:α1) (q:qI X P α (k d S1) Ok):GotO X pins σ P α w s1 k Ok
def eQ {γ:Type}{f:Ad→Ad→Kb Ad}{g:G2}{k:D→Sto→Res γ}{Ok:γ→Sto→Prop}{pins:Ab (Af × Cs)}{σ:_L.St}{H:Hp}{s:Ah}{P:Hp}{α:Ab Af}{v u:V}{uu:Ad}{a b:D}(ho:OpD X f g)(I:Inv X pins σ H s)(r:Rel X.K H P α S)
  (rv:qL v vv) (ru:qL u uu) (pa:Rep X.K P α a v) (pb:Rep X.K P α b u) (af:qI X P α ((g a b S).bind k) Ok) :
  Ao (Au X.prog X.w) X.A (f vv uu) (λw s1=>GotO X pins σ P α w s1 k Ok) X.xe s:=by
 refine thn (ho pins σ H s P α S v u vv uu a b (λy H1=>∃ P1 α1 d S1,Rel X.K H1 P1 α1 S1∧Rep X.K P1 α1 d y∧qH P P1∧α<+:α1∧qI X P α (k d S1) Ok) I r rv ru pa pb ?_) λw s1 ⟨y,H1,I1,r1,P1,α1,d,S1,q1,q2,q3,q4,q5⟩=>⟨y,H1,P1,α1,d,S1,I1,r1,q1,q2,q3,q4,q5⟩;cases q:g a b S with
 |bad=>rw[q] at af;exact af
 |ex c x S'=>rw[q] at af;exact af
 |ok d S' =>
  rw[q] at af;exact λv H' P' α' r' e1 e2 rp=>⟨P',α',d,S',r',rp,e1,e2,af⟩
def qI.base' {β:Type}{P P1:Hp}{α α1:Ab Af}{r:Res β}{Ok Ok1:β→Sto→Prop}(e:qH P P1)(h:α<+:α1)(ho:∀ d S,Ok d S→Ok1 d S)(k:qI X P α r Ok):qI X P1 α1 r Ok1:=by
 cases r with
 |ok d S=>exact ho d S k
 |ex c x S=>exact λu s' q=>k u s' (q.base e h)
 |bad=>exact k
def V8 {op op':Sj}{g g':G2}(ho:OpD X (Dj op) g)(ho':OpD X (Dj op') g')(ha:PE X a (tD X fa))(hb:PE X b (tD X fb))(hc:PE X c (tD X fc))
  (hm:Uy [op,op'] [b,c]=false:=by with_unfolding_all rfl):PE X (.Compare a [op,op'] [b,c] pos) (tD X (xR g g' fa fb fc)):=by
 intro pins s σ H Q I h;obtain⟨P,α,env,S,r,re,af⟩:=h;refine Compare_chain (thn (xF ha I r re af) λvv s1 ⟨v,H1,P1,α1,d,S1,G1,af1⟩=>chain_link (thn (xF hb G1.inv G1.rel G1.env (zA.base G1.same G1.pre af1)) λuu s2 ⟨u,H2,P2,α2,d',S2,G2,af2⟩ =>
  thn (eQ ho G2.inv G2.rel G1.val G2.val (Rep.mono G2.same G2.pre _ _ G1.rep) G2.rep (zA.base G2.same G2.pre af2)) λw s3 ⟨y,H3,P3,α3,z,S3,I3,r3,rl3,rp3,e3,e4,af3⟩=>?_)) hm
 cases ht:xX z S3 with
 |none=>simp only[ht] at af3;exact An af3
 |some k =>
  simp only[ht] at af3;have tv:=jP rl3 rp3 ht;refine thn (bP pins s3 σ H3 y w (λk' H'=>k'=k∧H'=H3) I3 r3 ⟨k,tv,rfl,rfl⟩) λk' s4 ⟨H4,I4,hk,hH⟩=>?_;subst hk;subst hH;cases k' with
  |false=>exact ite_ff ⟨y,H4,I4,r3,af3 y H4 P3 α3 rl3 e3 e4 rp3⟩
  |true =>
   refine ite_tt (chain_last (thn (xF hc I4 rl3 (G2.env.mono e3 e4) (zA.base e3 e4 af3)) λww s5 ⟨w',H5,P5,α5,d5,S5,G5,af5⟩=>?_));exact ho' pins σ H5 s5 P5 α5 S5 u w' uu ww d' d5 Q G5.inv G5.rel G2.val G5.val (Rep.mono (e3.trans G5.same) (e4.trans G5.pre) _ _ G2.rep) G5.rep (zA.base G5.same G5.pre af5)
def VI {op op':Sj}{g g':G2}(ho:OpD X (Dj op) g)(ho':OpD X (Dj op') g')(ha:PE X a (tD X fa))(hb:PE X b (tD X fb))(hc:PE X c (tD X fc))
  (hm:Uy [op,op'] [b,c]=false:=by with_unfolding_all rfl):PT X (.Compare a [op,op'] [b,c] pos) (tDT X (dTr (xR g g' fa fb fc))):=by
 intro pins s σ H Q I h;obtain⟨P,α,env,S,r,re,af⟩:=h;have af':qI X P α ((xR g g' fa fb fc env S).bind λd S1=>uB (xX d S1) S1) (OkT X P α Q):=af;have assoc:(xR g g' fa fb fc env S).bind (λd S1=>uB (xX d S1) S1)=(fa env S).bind λx S1=>(fb env S1).bind λy S2=>(g x y S2).bind λz S3 =>
   match xX z S3 with
   |some true=>((fc env S3).bind λw S4=>g' y w S4).bind λd S1=>uB (xX d S1) S1
   |some false=>.ok false S3
   |none=>.bad:=by
  unfold xR;cases fa env S with
  |bad=>rfl
  |ex _ _ _=>rfl
  |ok x S1 =>
   show Res.bind (Res.bind (fb env S1) _) _=Res.bind (fb env S1) _;cases fb env S1 with
   |bad=>rfl
   |ex _ _ _=>rfl
   |ok y S2 =>
    show Res.bind (Res.bind (g x y S2) _) _=Res.bind (g x y S2) _;cases g x y S2 with
    |bad=>rfl
    |ex _ _ _=>rfl
    |ok z S3 =>
     show Res.bind (match xX z S3 with|some true=>(fc env S3).bind λw S4=>g' y w S4|some false=>.ok z S3|none=>.bad) _=_
     cases ht:xX z S3 with
     |none=>simp only[ht,Res.bind]
     |some k=>cases k <;> simp only[ht,Res.bind,uB]
 rw[assoc] at af';refine isTrue_chain (thn (xF ha I r re af') λvv s1 ⟨v,H1,P1,α1,d,S1,G1,af1⟩=>test_link (thn (xF hb G1.inv G1.rel G1.env (vB.base G1.same G1.pre af1)) λuu s2 ⟨u,H2,P2,α2,d',S2,G2,af2⟩ =>
  thn (eQ ho G2.inv G2.rel G1.val G2.val (Rep.mono G2.same G2.pre _ _ G1.rep) G2.rep (vB.base G2.same G2.pre af2)) λw s3 ⟨y,H3,P3,α3,z,S3,I3,r3,rl3,rp3,e3,e4,af3⟩=>?_)) hm
 cases ht:xX z S3 with
 |none=>simp only[ht] at af3;exact An af3
 |some k =>
  simp only[ht] at af3;have tv:=jP rl3 rp3 ht;refine thn (bP pins s3 σ H3 y w (λk' H'=>k'=k∧H'=H3) I3 r3 ⟨k,tv,rfl,rfl⟩) λk' s4 ⟨H4,I4,hk,hH⟩=>?_;subst hk;subst hH;cases k' with
  |false=>exact ite_ff ⟨H4,I4,af3 H4 P3 α3 rl3 e3 e4⟩
  |true =>
   have af4:qI X P2 α2 ((fc env S3).bind λw S4=>(g' d' w S4).bind λd S1=>uB (xX d S1) S1) (OkT X P2 α2 Q):=by
    have e:((fc env S3).bind λw S4=>(g' d' w S4).bind λd S1=>uB (xX d S1) S1)=(((fc env S3).bind λw S4=>g' d' w S4).bind λd S1=>uB (xX d S1) S1):=by
     cases fc env S3 <;> rfl
    rw[e];exact af3
   refine ite_tt (test_last (thn (xF hc I4 rl3 (G2.env.mono e3 e4) (vB.base e3 e4 af4)) λww s5 ⟨w',H5,P5,α5,d5,S5,G5,af5⟩ =>
    thn (eQ ho' G5.inv G5.rel G2.val G5.val (Rep.mono (e3.trans G5.same) (e4.trans G5.pre) _ _ G2.rep) G5.rep (vB.base G5.same G5.pre af5)) λx6 s6 ⟨y6,H6,P6,α6,d6,S6,I6,r6,rl6,rp6,e5,e6,af6⟩=>?_))
   obtain⟨k6,q6,z6⟩:=lJ af6;exact GB I6 rl6 r6 rp6 q6 (z6 H6 P6 α6 rl6 e5 e6)
def zW (t:DT):DT:=λenv S=>(t env S).bind λb S1=>.ok (!b) S1
def yW (t u:DT):DT:=λenv S=>(t env S).bind λb S1=>if b then u env S1 else .ok false S1
def wC (t u:DT):DT:=λenv S=>(t env S).bind λb S1=>if b then .ok true S1 else u env S1
def NC (ha:PT X a (tDT X ta)):PT X (.UnaryOp .Not a pos) (tDT X (zW ta)):=by
 intro pins s σ H Q I h;obtain⟨P,α,env,S,r,re,af⟩:=h;refine isTrue_not (thn (b7 (λQ' q=>ha pins s σ H Q' I q) r re af) λb s1 ⟨H1,P1,α1,S1,I1,r1,re1,e1,e2,af1⟩=>⟨H1,I1,af1 H1 P1 α1 r1 e1 e2⟩)
def PWD (X:Cx)(e:Bw)(t:DT):Prop:=PW X e (tDT X t)
def PWD.pt {t:DT}(h:PWD X e t):PT X e (tDT X t):=h _
def NE (ha:PT X a (tDT X ta)):PWD X (.BoolOp .Or [a] pos) ta:=DC ha
def RP {rest:Ab Bw}(ha:PT X a (tDT X ta))(hb:PWD X (.BoolOp .Or (b::rest) pos) tb):PWD X (.BoolOp .Or (a::b::rest) pos) (wC ta tb):=by
 intro wh pins s σ H Q I h;obtain⟨P,α,env,S,r,re,af⟩:=h;refine isTrue_or (thn (b7 (λQ' q=>ha pins s σ H Q' I q) r re af) λk s1 ⟨H1,P1,α1,S1,I1,r1,re1,e1,e2,af1⟩=>?_);cases k with
 |true=>exact⟨H1,I1,af1 H1 P1 α1 r1 e1 e2⟩
 |false=>exact hb wh pins s1 σ H1 Q I1 ⟨P1,α1,env,S1,r1,re1,vB.base e1 e2 af1⟩
def v7 (f g:DE):DE:=λenv S=>(f env S).bind λx S1=>match xX x S1 with
 |some true=>g env S1
 |some false=>.ok x S1
 |none=>.bad
def oH (f:DE):DE:=λenv S=>(f env S).bind λx S1=>match xX x S1 with
 |some b=>.ok (.bl (!b)) S1
 |none=>.bad
def TU  (h:PE X a (tD X fa)):PE X (.BoolOp op [a] pos) (tD X fa):=LX h
def SV {pins:Ab (Af × Cs)}{s:Ah}{σ:_L.St}{H:Hp}{v:V}{k:Ar}{R:Ar→Ah→Prop}(I:Inv X pins σ H s)(rv:qL v vv)(t:o7 X.K v H k)(h:∀ s',Inv X pins σ H s'→R k s') :
  Ao (Au X.prog X.w) X.A (truthy vv) R X.xe s:=thn (bP pins s σ H v vv (λk' H'=>k'=k∧H'=H) I rv ⟨k,t,rfl,rfl⟩) λk' s4 ⟨H4,I4,hk,hH⟩=>by subst hk;subst hH;exact h s4 I4
def TJ {rest:Ab Bw}(ha:PE X a (tD X fa))(hb:PE X (.BoolOp .And (b::rest) pos) (tD X fb)):PE X (.BoolOp .And (a::b::rest) pos) (tD X (v7 fa fb)):=by
 intro pins s σ H Q I h;obtain⟨P,α,env,S,r,re,af⟩:=h;refine BoolOp_and (thn (xF ha I r re af) λvv s1 ⟨v,H1,P1,α1,d,S1,G1,af1⟩=>?_);cases ht:xX d S1 with
 |none=>simp only[ht] at af1;exact An af1
 |some k =>
  simp only[ht] at af1;refine SV G1.inv G1.val (jP G1.rel G1.rep ht) λs2 I2=>?_;cases k with
  |true=>exact hb pins s2 σ H1 Q I2 ⟨P1,α1,env,S1,G1.rel,G1.env,zA.base G1.same G1.pre af1⟩
  |false=>exact⟨v,H1,I2,G1.val,af1 v H1 P1 α1 G1.rel G1.same G1.pre G1.rep⟩
def TR (ha:PE X a (tD X fa)):PE X (.UnaryOp .Not a pos) (tD X (oH fa)):=by
 intro pins s σ H Q I h;obtain⟨P,α,env,S,r,re,af⟩:=h;refine UnaryOp_ (thn (xF ha I r re af) λvv s1 ⟨v,H1,P1,α1,d,S1,G1,af1⟩=>?_);cases ht:xX d S1 with
 |none=>simp only[ht] at af1;exact An af1
 |some k =>
  simp only[ht] at af1;exact not_of (SV G1.inv G1.val (jP G1.rel G1.rep ht) λs2 I2=>⟨.bl (!k),H1,I2,rfl,af1 (.bl (!k)) H1 P1 α1 G1.rel G1.same G1.pre (by simp only[Rep])⟩)
def dIf (t:DT)(f g:DE):DE:=λenv S=>(t env S).bind λb S1=>if b then f env S1 else g env S1
def RG (hc:PT X c (tDT X ta))(ha:PE X a (tD X fa))(hb:PE X b (tD X fb)):PE X (.IfExp c a b pos) (tD X (dIf ta fa fb)):=by
 intro pins s σ H Q I h;obtain⟨P,α,env,S,r,re,af⟩:=h;refine wpAny_IfExp (thn (b7 (λQ' q=>hc pins s σ H Q' I q) r re af) λk s1 ⟨H1,P1,α1,S1,I1,r1,re1,e1,e2,af1⟩=>?_);cases k with
 |true=>exact ha pins s1 σ H1 Q I1 ⟨P1,α1,env,S1,r1,re1,zA.base e1 e2 af1⟩
 |false=>exact hb pins s1 σ H1 Q I1 ⟨P1,α1,env,S1,r1,re1,zA.base e1 e2 af1⟩
end
@[inline] def Res.toS {β:Type}(env:qD)(r:Res β)(k:β→Sto→Out):Out:=
 match r with
 |.ok d S=>k d S
 |.ex c x S=>.ex c x env S
 |.bad=>.bad
section
variable {X:Cx}{a b c e:Bw}{pos:Fh}{fa fb fc:DE}{ta tb:DT}{f g:DS}{st:Fl}{rest:Ab Fl}
def zM:DS:=λenv S=>.nx env S
def qP (f g:DS):DS:=λenv S=>match f env S with
 |.nx env1 S1=>g env1 S1
 |o=>o
def N5:PSs X [] (tDS X zM):=D9 FD λD σ H ⟨P,α,env,S,r,re,af⟩=>af σ H P α r re (qH.refl _) (Bn _)
def PD (h1:PS X st (tDS X f))(h2:PSs X rest (tDS X g)):PSs X (st::rest) (tDS X (qP f g)):=D9 (UQ h1 h2) λD σ H ⟨P,α,env,S,r,re,af⟩=>by
 refine⟨P,α,env,S,r,re,?_⟩;unfold qP at af;cases q:f env S with
 |nx env1 S1 =>
  rw[q] at af;exact λσ' H' P' α' r' re' e1 e2=>⟨P',α',env1,S1,r',re',zN.base e1 e2 af⟩
 |rt d S1=>rw[q] at af;exact af
 |bk env1 S1=>rw[q] at af;exact af
 |ct env1 S1=>rw[q] at af;exact af
 |ex c x env1 S1=>rw[q] at af;exact af
 |bad=>rw[q] at af;exact af
def N6 (h1:PS X st (tDS X f)):PSs X [st] (tDS X f):=FE h1
def yT {β:Type}{P:Hp}{α:Ab Af}{env:qD}{r:Res β}{k:β→Sto→Out}{D:Ends}(h:zN X P α (r.toS env k) D):qI X P α r λd S=>zN X P α (k d S) D:=by
 cases r with
 |ok d S=>exact h
 |ex c x S=>exact h
 |bad=>exact h
inductive GotS (X:Cx)(pins:Ab (Af × Cs))(σ : _L.St)(env:qD)(P:Hp)(α : Ab Af)(u:Ad)(s1:Ah)(k:D→Sto→Out)(E:Ends):Prop
 |mk (v:V) (H1 P1:Hp) (α1:Ab Af) (d:D) (S1:Sto) (G:Got X pins σ env P α u s1 v H1 P1 α1 d S1) (q:zN X P1 α1 (k d S1) E):GotS X pins σ env P α u s1 k E
def mS {k:D→Sto→Out}{pins:Ab (Af × Cs)}{s:Ah}{σ:_L.St}{H P:Hp}{α:Ab Af}{env:qD}{D:Ends}(he:PE X e (tD X fa))(I:Inv X pins σ H s)(r:Rel X.K H P α S)
  (re:zH X.K P α σ env) (af:zN X P α ((fa env S).toS env k) D) :
  Ao (Au X.prog X.w) X.A (eval e X.env) (λu s1=>GotS X pins σ env P α u s1 k D) X.xe s:=by
 have af1:qI X P α ((fa env S).bind λd S=>.ok d S) λd S=>zN X P α (k d S) D:=by
  have:=yT af;cases q:fa env S <;> rw[q] at this <;> exact this
 exact thn (xF he I r re af1) λu s1 ⟨v,H1,P1,α1,d,S1,G,q⟩=>⟨v,H1,P1,α1,d,S1,G,zN.base G.same G.pre q⟩
def vI (f:DE):DS:=λenv S=>(f env S).toS env λ_ S1=>.nx env S1
def PF (he:PE X e (tD X fa))(hs:Lm e none pos.line X.env=pure false:=by rfl):PS X (.Expr e pos) (tDS X (vI fa)):=by
 intro pins s σ H D I h;obtain⟨P,α,env,S,r,re,af⟩:=h;exact wpAny_Expr_any (thn (mS he I r re af) λv s1 ⟨x,H1,P1,α1,d,S1,G,q⟩=>⟨σ,H1,G.inv,q σ H1 P1 α1 G.rel G.env (qH.refl _) (Bn _)⟩) I.quiet hs
def qU (f:DE):DS:=λenv S=>(f env S).toS env λd S1=>.rt d S1
def N8 (he:PE X e (tD X fa)):PS X (.Return (Aa e) pos) (tDS X (qU fa)):=by
 intro pins s σ H D I h;obtain⟨P,α,env,S,r,re,af⟩:=h;exact wpAny_Return_some (thn (mS he I r re af) λv s1 ⟨x,H1,P1,α1,d,S1,G,q⟩=>⟨x,σ,H1,G.inv,G.val,q x H1 P1 α1 G.rel (qH.refl _) (Bn _) G.rep⟩)
def sIf (t:DT)(f g:DS):DS:=λenv S=>(t env S).toS env λb S1=>if b then f env S1 else g env S1
def RM {as bs:Ab Fl}(hc:PT X c (tDT X ta))(ha:PSs X as (tDS X f))(hb:PSs X bs (tDS X g)):PS X (.If c as bs pos) (tDS X (sIf ta f g)):=by
 intro pins s σ H D I h;obtain⟨P,α,env,S,r,re,af⟩:=h;have af1:qI X P α ((ta env S).bind λd S=>.ok d S) λb S=>zN X P α (if b then f env S else g env S) D:=by
  have:=yT af;cases q:ta env S <;> rw[q] at this <;> exact this
 refine wpAny_If (thn (b7 (λQ' q=>hc pins s σ H Q' I q) r re af1) λk s1 ⟨H1,P1,α1,S1,I1,r1,re1,e1,e2,af2⟩=>?_);cases k with
 |true=>exact ha pins s1 σ H1 D I1 ⟨P1,α1,env,S1,r1,re1,zN.base e1 e2 af2⟩
 |false=>exact hb pins s1 σ H1 D I1 ⟨P1,α1,env,S1,r1,re1,zN.base e1 e2 af2⟩
abbrev DG:=D→qD→Sto→Res qD
abbrev DGs:=Ab D→qD→Sto→Res qD
def OkE (X:Cx)(P:Hp)(α : Ab Af)(Q:_L.St→Hp→Prop)(env':qD)(S':Sto):Prop:=∀ σ' H' P' α',Rel X.K H' P' α' S'→zH X.K P' α' σ' env'→qH P P'→α<+:α'→Q σ' H'
def tDG (X:Cx)(g:DG):TG:=λv σ H Q=>∃ P α env S d,Rel X.K H P α S∧zH X.K P α σ env∧Rep X.K P α d v∧qI X P α (g d env S) (OkE X P α Q)
def c9 (X:Cx)(g:DGs):TGs:=λvs σ H Q=>∃ P α env S ds,Rel X.K H P α S∧zH X.K P α σ env∧qF X.K P α ds vs∧qI X P α (g ds env S) (OkE X P α Q)
def zH.set {K:Ak}{P:Hp}{α:Ab Af}{σ:_L.St}{env:qD}{d:D}{v:V}(re:zH K P α σ env)(i:Ai)(rp:Rep K P α d v):zH K P α (σ.set i (Aa v)) (env.set i (Aa d)):=by
 refine⟨by simp[re.1],λj d' e=>?_⟩
 by_cases hj:i=j
 ·subst hj
  by_cases hi:i<env.length
  ·rw[Ec hi] at e
   cases e;exact⟨v,by rw[Ec (by rw[← re.1];exact hi)],rp⟩
  ·rw[Mi (by simp;omega)] at e;cases e
 ·rw[Cp hj] at e ⊢
  exact re.2 j d' e
def gNm (i:Ai):DG:=λd env S=>.ok (env.set i (Aa d)) S
def GZ {i:Ai}{x:As}(hN:X.N.Nodup)(hi:X.N[i]? = Aa x:=by rfl)(hx:Loc X.env.scope x:=by first|exact Xm rfl|exact Vv rfl)(hf:X.fn x=true∨X.env.scope.names.lookup x=Aa .local:=by first|exact .inl rfl|exact .inr rfl|assumption):PG X (.Name x pos) (tDG X (gNm i)):=by
 intro pins s σ H v u Q I rv h;obtain⟨P,α,env,S,d,r,re,rp,af⟩:=h;exact F8 hN hi hx hf pins s σ H v u Q I rv (af _ H P α r (re.set i rp) (qH.refl _) (Bn _))
def zU:DGs:=λds env S=>match ds with
 |[]=>.ok env S
 |_=>.bad
def qM (g:DG)(gs:DGs):DGs:=λds env S=>match ds with
 |d::r=>(g d env S).bind λenv1 S1=>gs r env1 S1
 |[]=>.bad
def P7:PGs X [] (c9 X zU):=by
 intro pins s σ H vs us Q I rv h;obtain⟨P,α,env,S,ds,r,re,rp,af⟩:=h;cases ds with
 |nil=>exact F9 pins s σ H vs us Q I rv ⟨rp.nil_inv,af σ H P α r re (qH.refl _) (Bn _)⟩
 |cons d ds=>exact An af
def VB {es:Ab Bw}{g:DG}{gs:DGs}(h1:PG X e (tDG X g))(h2:PGs X es (c9 X gs))(hs:(Hb (e::es) X.env).map (·.2)=assign e X.env::(Hb es X.env).map (·.2):=by rfl):PGs X (e::es) (c9 X (qM g gs)):=by
 intro pins s σ H vs us Q I rv h;obtain⟨P,α,env,S,ds,r,re,rp,af⟩:=h;cases ds with
 |nil=>exact An af
 |cons d ds =>
  obtain⟨w,ws,rfl,p1,p2⟩:=rp.cons_inv;refine UO h1 h2 hs pins s σ H _ us Q I rv ⟨w,ws,rfl,P,α,env,S,d,r,re,p1,?_⟩;have af':qI X P α ((g d env S).bind λenv1 S1=>gs ds env1 S1) (OkE X P α Q):=af;cases q:g d env S with
  |bad=>rw[q] at af';exact af'
  |ex c x S'=>rw[q] at af';exact af'
  |ok env1 S1 =>
   rw[q] at af';intro σ' H' P' α' r' re' e1 e2;refine⟨P',α',env1,S1,ds,r',re',qF.mono e1 e2 _ _ p2,qI.base' e1 e2 (λenv' S' ok σ2 H2 P2 α2 r2 re2 e3 e4=>ok σ2 H2 P2 α2 r2 re2 (e1.trans e3) (e2.trans e4)) af'⟩
def gTp (n:Ai)(gs:DGs):DG:=λd env S=>match d with
 |.tup xs=>if xs.length=n then gs xs env S else .bad
 |_=>.bad
set_option tactic.hygienic true in
def N0 {es:Ab Bw}{k:Ai}{gs:DGs}{n:Ai}(hc:X.calm=true)(h:PGs X es (c9 X gs))(hn:(Hb es X.env).length=n:=by rfl)(hst:(Hb es X.env).findIdx? (·.1)=none:=by rfl):PG X (.Tuple es k pos) (tDG X (gTp n gs)):=by
 intro pins s σ H v u Q I rv hw;obtain⟨P,α,env,S,d,r,re,rp,af⟩:=hw;cases d with
 |tup xs =>
  simp only[Rep] at rp;obtain⟨a,vs,rfl,q,t⟩:=rp;simp only[gTp] at af
  split at af
  ·rename_i hl
   exact D3 hc h hn hst pins s σ H _ u Q I rv ⟨a,vs,rfl,wL r.sub q,by rw[← t.length];exact hl,P,α,env,S,xs,r,re,t,af⟩
  ·exact An af
 |_=>exact An af
abbrev G3:=D→D→D→Sto→Res Pk
def OkU (X:Cx)(P:Hp)(α : Ab Af)(Q:Hp→Prop)(_:Pk)(S':Sto):Prop:=∀ H' P' α',Rel X.K H' P' α' S'→qH P P'→α<+:α'→Q H'
def sS (X:Cx)(g:G3):YJ:=λo i v H Q=>∃ P α S a b d,Rel X.K H P α S∧Rep X.K P α a o∧Rep X.K P α b i∧Rep X.K P α d v∧qI X P α (g a b d S) (OkU X P α Q)
def gSb (fo fi:DE)(g:G3):DG:=λd env S=>(fo env S).bind λo S1=>(fi env S1).bind λi S2=>(g o i d S2).bind λ_ S3=>.ok env S3
def TZ {o i:Bw}{fo fi:DE}{g:G3}(ho:PE X o (tD X fo))(hi:PE X i (tD X fi))(hs:sU X (sS X g))
  (ha:∀ v,assign (.Subscript o i pos) X.env v=(do
   let ov ← holding [v] (eval o X.env)
   let iv ← holding [v,ov] (eval i X.env)
   Sy pos
   holding [v,ov,iv] (Xr ov iv v)
   release [v,ov,iv] []):=by intro _;rfl):PG X (.Subscript o i pos) (tDG X (gSb fo fi g)):=by
 intro pins s σ H v u Q I rv h;obtain⟨P,α,env,S,d,r,re,rp,af⟩:=h;rw[ha];refine Ac (Du (thn (xF ho I r re af) λov s1 ⟨x,H1,P1,α1,d1,S1,G1,af1⟩=>?_));refine Ac (Du (thn (xF hi G1.inv G1.rel G1.env (P:=P1) (α:=α1) (Ok:=OkE X P1 α1 Q) (qI.base' G1.same G1.pre (λenv' S' ok σ2 H2 P2 α2 r2 re2 e3 e4=>ok σ2 H2 P2 α2 r2 re2 (G1.same.trans e3) (G1.pre.trans e4)) af1)) λiv s2 ⟨y,H2,P2,α2,d2,S2,G2,af2⟩=>?_));refine Ac (OG (Ac (Du (thn (hs pins s2 σ H2 x y v ov iv u (λH3=>Q σ H3) G2.inv G1.val G2.val rv ⟨P2,α2,S2,d1,d2,d,G2.rel,Rep.mono G2.same G2.pre _ _ G1.rep,G2.rep,Rep.mono (G1.same.trans G2.same) (G1.pre.trans G2.pre) _ _ rp,?_⟩) λ_ s3 ⟨H3,I3,q3⟩=>?_))))
 ·cases q:g d1 d2 d S2 with
  |bad=>rw[q] at af2;exact af2
  |ex c x S'=>rw[q] at af2;exact λu s' z=>af2 u s' (z.base G2.same G2.pre)
  |ok w S3 =>
   rw[q] at af2;exact λH' P' α' r' e1 e2=>af2 σ H' P' α' r' (G2.env.mono e1 e2) (G2.same.trans e1) (G2.pre.trans e2)
 ·exact wpAny_release ⟨σ,H3,I3,q3⟩
def zB (f:DE)(g:DG):DS:=λenv S=>(f env S).toS env λd S1=>(g d env S1).toS env λenv' S2=>.nx env' S2
def Z9 {g:DG}{d:D}{env:qD}{P:Hp}{α:Ab Af}{D':Ends}(h:zN X P α ((g d env S).toS env λenv' S2=>.nx env' S2) D'):qI X P α (g d env S) (OkE X P α D'.nx):=by
 cases q:g d env S with
 |bad=>rw[q] at h;exact h
 |ex c x S'=>rw[q] at h;exact h
 |ok env1 S1=>rw[q] at h;exact h
def N3 {tg:Bw}{g:DG}(he:PE X e (tD X fa))(hg:PG X tg (tDG X g))(hs:Ke [tg] e pos.line X.env=pure false:=by rfl)(hw:Kc [tg] e X.env=pure none:=by rfl)
  (h1:(Hb [tg] X.env).map (·.2)=[assign tg X.env]:=by rfl):PS X (.Assign [tg] e pos) (tDS X (zB fa g)):=by
 intro pins s σ H D I h;obtain⟨P,α,env,S,r,re,af⟩:=h;refine wpAny_Assign_stores (thn (mS he I r re af) λv s1 ⟨x,H1,P1,α1,d,S1,G,q⟩=>?_) hs hw;rw[h1];exact thn (hg pins s1 σ H1 x v _ G.inv G.val ⟨P1,α1,env,S1,d,G.rel,G.env,G.rep,Z9 q⟩) λ_ s2 q=>q
def N9 {i:Ai}{x:As}{pos':Fh}(hN:X.N.Nodup)(he:PE X e (tD X fa))(hi:X.N[i]? = Aa x:=by rfl)(hx:Loc X.env.scope x:=by first|exact Xm rfl|exact Vv rfl)(hs:Lm e (Aa (.Name x pos')) pos.line X.env=pure false:=by rfl)
  (hf:X.fn x=true∨X.env.scope.names.lookup x=Aa .local:=by first|exact .inl rfl|exact .inr rfl|assumption):PS X (.Assign [.Name x pos'] e pos) (tDS X (zB fa (gNm i))):=by
 intro pins s σ H D I h;obtain⟨P,α,env,S,r,re,af⟩:=h;refine wpAny_Assign_Name (thn (mS he I r re af) λv s1 ⟨y,H1,P1,α1,d,S1,G,q⟩=>?_) hs;exact kI G.inv hN hi hx G.val (λs2 I2=>⟨_,H1,I2,q _ H1 P1 α1 G.rel (G.env.set i G.rep) (qH.refl _) (Bn _)⟩) hf
def eR (i j:Ai)(env:qD)(S1:Sto):Ab D→Out
 |[x,y]=>.nx ((env.set i (Aa x)).set j (Aa y)) S1
 |_=>.bad
def kX (i j:Ai)(f:DA):DS:=λenv S=>(f env S).toS env λds S1=>eR i j env S1 ds
def N7 {i j:Ai}{x y:As}{f:DA}{px py pt:Fh} {kt k2 pt2} (hc:X.calm=true) (hN:X.N.Nodup) (ha:PA X [a,b] (tDA X f)) (hi:X.N[i]? = Aa x:=by rfl) (hj:X.N[j]? = Aa y:=by rfl) (hij:i≠j:=by decide)
  (hx:X.env.scope.names.lookup x=Aa .local:=by rfl) (hy:X.env.scope.names.lookup y=Aa .local:=by rfl)
  (hw:Kc [.Tuple [.Name x px,.Name y py] kt pt] (.Tuple [a,b] k2 pt2) X.env=pure (Aa [x,y]):=by rfl)
  (hs:Ke [.Tuple [.Name x px,.Name y py] kt pt] (.Tuple [a,b] k2 pt2) pos.line X.env=pure false:=by rfl) :
  PS X (.Assign [.Tuple [.Name x px,.Name y py] kt pt] (.Tuple [a,b] k2 pt2) pos) (tDS X (kX i j f)):=psW (D8 hc hN hi hj hij hx hy ha hw hs) λD σ H ⟨P,α,env,S,r,re,af⟩=>by
 refine⟨P,α,env,S,r,re,?_⟩;have af1:=yT af;cases q:f env S with
 |bad=>rw[q] at af1;exact af1
 |ex c x S'=>rw[q] at af1;exact af1
 |ok ds S1 =>
  rw[q] at af1;intro vs H' P' α' r' e1 e2 rp;have af2:zN X P α (eR i j env S1 ds) D:=af1;cases ds with
  |nil=>exact An af2
  |cons d ds=>cases ds with
   |nil=>exact An af2
   |cons d' ds=>cases ds with
    |cons _ _=>exact An af2
    |nil =>
     obtain⟨w,ws,rfl,p1,t⟩:=rp.cons_inv;obtain⟨w',ws',rfl,p2,t⟩:=t.cons_inv;rw[t.nil_inv];exact⟨w,w',rfl,af2 _ _ P' α' r' (((re.mono e1 e2).set i p1).set j p2) e1 e2⟩
end
structure ItD (K:Ak)(J:It)(P:Hp)(α : Ab Af)(ds:Ab D):Prop where
 go:∀ i H P1 α1 S,i<ds.length→Rel K H P1 α1 S→qH P P1→α<+:α1→J.go i H
 yld:∀ i H x H' P1 α1 S,i<ds.length→Rel K H P1 α1 S→qH P P1→α<+:α1→J.yld i H x H'→∃ P2 d,ds[i]? = Aa d∧Rel K H' P2 α1 S∧qH P1 P2∧Rep K P2 α1 d x
 stop:∀ i H P1 α1 S,ds.length≤i→Rel K H P1 α1 S→qH P P1→α<+:α1→J.stop i H
abbrev DI:=qD→Sto→Res (Ab D)
def OkI (X:Cx)(P:Hp)(α : Ab Af)(R:It→Hp→Prop)(ds:Ab D)(S':Sto):Prop:=∀ J H' P' α',Rel X.K H' P' α' S'→qH P P'→α<+:α'→ItD X.K J P' α' ds→R J H'
inductive tDI (X:Cx)(f:DI)(σ : _L.St)(H:Hp)(R:It→Hp→Prop):Prop
 |mk (P:Hp) (α : Ab Af) (env:qD) (S:Sto) (r:Rel X.K H P α S) (re:zH X.K P α σ env) (af:qI X P α (f env S) (OkI X P α R)):tDI X f σ H R
def vA {β:Type}(o:Am β)(S:Sto):Res β:=match o with
 |some b=>.ok b S
 |none=>.bad
def uT {X:Cx}{β:Type}{o:Am β}{P:Hp}{α:Ab Af}{Ok:β→Sto→Prop}(h:qI X P α (vA o S) Ok):∃ b,o=Aa b∧Ok b S:=by
 cases o with
 |none=>exact An h
 |some b=>exact⟨b,rfl,h⟩
def j7 {X:Cx}{β:Type}{c:Prop}[OE c]{r:Res β}{P:Hp}{α : Ab Af}{Ok:β→Sto→Prop}(h:qI X P α (if c then r else .bad) Ok):c∧qI X P α r Ok:=by
 by_cases z:c
 ·rw[Bi z] at h;exact⟨z,h⟩
 ·rw[Bf z] at h;exact An h
def tI {X:Cx}{β:Type}{ds:Ab D}{g:D→Res β}{P:Hp}{α:Ab Af}{Ok:β→Sto→Prop}(h:qI X P α (match ds with|[d]=>g d|_=>.bad) Ok):∃ d,ds=[d]∧qI X P α (g d) Ok:=by
 cases ds with
 |nil=>exact An h
 |cons d ds =>
  cases ds with
  |nil=>exact⟨d,rfl,h⟩
  |cons _ _=>exact An h
def lC {β:Type}{i:Ai}{f:Ab D→Am β}{g:Ab (Key × D)→Am β}{b:β}(h:(match S[i]? with|some (.lst xs)=>f xs|some (.dct kvs)=>g kvs|_=>none)=Aa b):(∃ xs,S[i]? = Aa (.lst xs)∧f xs=Aa b)∨∃ kvs,S[i]? = Aa (.dct kvs)∧g kvs=Aa b:=by
 cases e:S[i]? with
 |none=>rw[e] at h;exact nn h
 |some m =>
  rw[e] at h;cases m with
  |lst xs=>exact .inl ⟨xs,rfl,h⟩
  |dct kvs=>exact .inr ⟨kvs,rfl,h⟩
  |_=>exact nn h
def L6 {β:Type}{i:Ai}{f:Ab D→Am β}{b:β}(h:(match S[i]? with|some (.lst xs)=>f xs|_=>none)=Aa b):∃ xs,S[i]? = Aa (.lst xs)∧f xs=Aa b:=by
 cases e:S[i]? with
 |none=>rw[e] at h;exact nn h
 |some m =>
  rw[e] at h;cases m with
  |lst xs=>exact⟨xs,rfl,h⟩
  |_=>exact nn h
inductive ItV (d:D)(xs:Ab D):Prop
 |tup (e:d=.tup xs)
 |lst (e:d=.lst xs)
def KO {β:Type}(S:Sto)(n:Ai)(f:Ab D→Res β) : Res β:=match S[n]? with
 |some (.lst xs)=>f xs
 |_=>.bad
def pE {X:Cx}{β:Type}{n:Ai}{f:Ab D→Res β}{P:Hp}{α:Ab Af}{Ok:β→Sto→Prop}(h:qI X P α (KO S n f) Ok):∃ xs,S[n]? = Aa (.lst xs)∧qI X P α (f xs) Ok:=by
 unfold KO at h;cases e:S[n]? with
 |none=>rw[e] at h;exact An h
 |some m =>
  rw[e] at h;cases m with
  |lst xs=>exact⟨xs,rfl,h⟩
  |_=>exact An h
def x8:D→Am (Ab D)
 |.tup xs=>Aa xs
 |.lst xs=>Aa xs
 |_=>none
def itV {d:D}{xs:Ab D}(h:x8 d=Aa xs):ItV d xs:=by
 cases d with
 |tup ys=>exact .tup (congrArg D.tup (Co h))
 |lst ys=>exact .lst (congrArg D.lst (Co h))
 |_=>exact nn h
def wP (f:DE):DI:=λenv S=>(f env S).bind λd S1=>vA (x8 d) S1
section
variable {X:Cx}{K:Ak}{tg e:Bw}{fa:DE}{pos:Fh}
def U4 {P:Hp}{α:Ab Af}{a:Af}{ds:Ab D}(q:SqL K P a vs)(t:qF K P α ds vs):ItD K (Itl K a) P α ds where
 go:=λi H P1 α1 S hi r e _=>⟨vs,vs[i]'(by rw[← t.length];exact hi),(e.trans r.sub).seq q,by simp⟩
 yld:=λi H x H' P1 α1 S hi r e e2 y=>by
  obtain⟨rfl,y⟩:=y;have hx:=y vs ((e.trans r.sub).seq q);obtain⟨v,h1,h2⟩:=t.get (Ap hi);rw[hx] at h1;cases h1;exact⟨P1,_,Ap hi,r,qH.refl _,Rep.mono e e2 _ _ h2⟩
 stop:=λi H P1 α1 S hi r e _=>⟨vs,(e.trans r.sub).seq q,by rw[← t.length];exact hi⟩
def BF {P:Hp}{α:Ab Af}{a:Af}{ds:Ab D}(q:SqT K P a vs)(t:qF K P α ds vs):ItD K (Itt K a) P α ds where
 go:=λi H P1 α1 S hi r e _=>⟨vs,vs[i]'(by rw[← t.length];exact hi),vP (e.trans r.sub) q,by simp⟩
 yld:=λi H x H' P1 α1 S hi r e e2 y=>by
  obtain⟨rfl,y⟩:=y;have hx:=y vs (vP (e.trans r.sub) q);obtain⟨v,h1,h2⟩:=t.get (Ap hi);rw[hx] at h1;cases h1;exact⟨P1,_,Ap hi,r,qH.refl _,Rep.mono e e2 _ _ h2⟩
 stop:=λi H P1 α1 S hi r e _=>⟨vs,vP (e.trans r.sub) q,by rw[← t.length];exact hi⟩
def rZ {pins:Ab (Af × Cs)}{σ:_L.St}{H P:Hp}{α:Ab Af}{s:Ah}{v:V}{d:D}{ds:Ab D}(I:Inv X pins σ H s)(r:Rel X.K H P α S)(rv:qL v vv)(rp:Rep X.K P α d v)(hd:x8 d=Aa ds)
  (q:OkI X P α R ds S):Ao (Au X.prog X.w) X.A (Nj vv) (PIE X pins σ tg R) X.xe s:=by
 cases d with
 |tup xs =>
  cases hd;simp only[Rep] at rp;obtain⟨a,vs,rfl,sq,t⟩:=rp;cases rv;obtain⟨its,rv,p,hz⟩:=I.tuple (wL r.sub sq);refine Gh (show s.heap.IsTuple a its.toArray from p) ?_
  refine⟨s.heap.objs.size,[s.heap.objs.size],_,_,H,rfl,I.kept (t':=s.toks) λb o e=>Ag _ e,QX a _,⟨_,Bb _ rfl,rfl,rfl⟩,λb hb=>?_,q _ _ P α r (qH.refl _) (Bn _) (BF sq t)⟩;have e:b=s.heap.objs.size:=by simpa using hb
  subst e;exact I.fpOk (Av _) (I.hok.fresh (Av _))
 |lst xs =>
  cases hd;simp only[Rep] at rp;obtain⟨a,vs,rfl,sq,t⟩:=rp;cases rv;obtain⟨its,rv,p,hz⟩:=I.list ((w9 r.sub sq).l);refine Gb p.isList ?_;refine⟨s.heap.objs.size,[s.heap.objs.size],_,_,H,rfl,I.kept (t':=s.toks) λb o e=>Ag _ e,dZ a _,⟨_,Bb _ rfl,rfl,rfl⟩,λb hb=>?_,q _ _ P α r (qH.refl _) (Bn _) (U4 sq.l t)⟩;have e:b=s.heap.objs.size:=by simpa using hb
  subst e;exact I.fpOk (Av _) (I.hok.fresh (Av _))
 |_=>cases hd
def OkI.base {P P1:Hp}{α α1:Ab Af}{ds:Ab D}(e:qH P P1)(h:α<+:α1)(k:OkI X P α R ds S):OkI X P1 α1 R ds S:=λJ H' P' α' r q1 q2 q3=>k J H' P' α' r (e.trans q1) (h.trans q2) q3
def N1 (ha:PE X e (tD X fa)):PI X tg e (tDI X (wP fa)):=by
 intro pins s σ H R I h;obtain⟨P,α,env,S,r,re,af⟩:=h;refine thn (xF ha I r re af) λvv s1 ⟨v,H1,P1,α1,d,S1,G1,af1⟩=>?_;obtain⟨ds,e1,q⟩:=uT af1;exact rZ G1.inv G1.rel G1.val G1.rep e1 (q.base G1.same G1.pre)
def wZ (lo:Aj)(n:Ai):Ab D:=(Dq n).map λ(i:Ai)=>D.int (lo+(i:Aj))
def pH (lo:Aj)(n:Ai):(wZ lo n).length=n:=by simp[wZ]
def dD {P:Hp}{α:Ab Af}{lo:Aj}{n:Ai}:ItD K (Itr lo n) P α (wZ lo n) where
 go:=λi H P1 α1 S hi r e _=>by rw[pH] at hi;exact hi
 yld:=λi H x H' P1 α1 S hi r e e2 y=>by
  obtain⟨rfl,rfl⟩:=y;rw[pH] at hi;exact⟨P1,.int (lo+i),by simp[wZ,hi],r,qH.refl _,by simp only[Rep]⟩
 stop:=λi H P1 α1 S hi r e _=>by rw[pH] at hi;exact hi
def bM (ds:Ab D):Am (Ab D):=match ds with
 |[.int j]=>if -(2 ^ 62)≤j∧j<2 ^ 62 then Aa (wZ 0 j.toNat) else none
 |[.int i,.int j]=>if -(2 ^ 62)≤i∧i<2 ^ 62 ∧ -(2 ^ 62)≤j∧j<2 ^ 62 then Aa (wZ i (j-i).toNat) else none
 |_=>none
def y9 (f:DA):DI:=λenv S=>(f env S).bind λds S1=>vA (bM ds) S1
def asI:D→Am Aj
 |.int i=>Aa i
 |_=>none
def m4 {d:D}{i:Aj}(h:asI d=Aa i):d=.int i:=by
 cases d with
 |int k=>exact congrArg D.int (Co h)
 |_=>exact nn h
inductive RngV:Ab D→Ab D→Prop
 |one (j:Aj) (h : -(2 ^ 62)≤j∧j<2 ^ 62):RngV [.int j] (wZ 0 j.toNat)
 |two (i j:Aj) (h : -(2 ^ 62)≤i∧i<2 ^ 62 ∧ -(2 ^ 62)≤j∧j<2 ^ 62):RngV [.int i,.int j] (wZ i (j-i).toNat)
def ES (d:D):bM [d]=(asI d).bind λj=>if -(2 ^ 62)≤j∧j<2 ^ 62 then Aa (wZ 0 j.toNat) else none:=by cases d <;> rfl
def ET (d d':D):bM [d,d']=(asI d).bind λi=>(asI d').bind λj=>if -(2 ^ 62)≤i∧i<2 ^ 62 ∧ -(2 ^ 62)≤j∧j<2 ^ 62 then Aa (wZ i (j-i).toNat) else none:=by
 cases d with
 |int i=>cases d' <;> rfl
 |_=>rfl
def FV {ds its:Ab D}(h:bM ds=Aa its):RngV ds its:=by
 cases ds with
 |nil=>exact nn h
 |cons d ds =>
  cases ds with
  |nil =>
   obtain⟨j,e,h⟩:=Ei.mp ((ES d).symm.trans h);obtain⟨c,rfl⟩:=gW h;rw[m4 e];exact .one j c
  |cons d' ds =>
   cases ds with
   |nil =>
    obtain⟨i,e,h⟩:=Ei.mp ((ET d d').symm.trans h);obtain⟨j,e',h⟩:=Ei.mp h;obtain⟨c,rfl⟩:=gW h;rw[m4 e,m4 e'];exact .two i j c
   |cons _ _ =>
    have h0:∀ d'' t,bM (d::d'::d''::t)=none:=λd'' t=>by cases d <;> first|rfl|(cases d' <;> rfl)
    exact nn ((h0 _ _).symm.trans h)
def lI {P:Hp}{α:Ab Af}{i:Aj}{ds:Ab D}(r:qF K P α (.int i::ds) vs):∃ ws,vs=.int i::ws∧qF K P α ds ws:=by
 obtain⟨w,ws,rfl,p,t⟩:=r.cons_inv;exact⟨ws,congrArg (· :: ws) (by simpa only [Rep] using p),t⟩
def PI.weak {iter:Bw}{t t':TI}(h:PI X tg iter t)(w:∀ σ H R,t' σ H R→t σ H R):PI X tg iter t':=λpins s σ H R I q=>h pins s σ H R I (w σ H R q)
end
section
variable {X:Cx}{tg a b:Bw}{f:DA}{p pos:Fh}
def VD {e:Bw}{es:Ab Bw}(hg:Gl X "range")(hm:X.mg "range" = none)(ha:PA X (e::es) (tDA X f))(hs:Bd (e::es) X.env=(false,eval e X.env)::Bd es X.env:=by rfl)(hpl:(Fu pos (Bd es X.env)).any (·.1)=false:=by rfl) :
  PI X tg (.Call (.Name "range" p) (e::es) [] pos) (tDI X (y9 f)):=by
 intro pins s σ H R I h;obtain⟨P,α,env,S,r,re,af⟩:=h;refine Call_ (u7 I hg hm boot_range (Hg (thn (wV ha I r re af pos) λus s1 ⟨vs,H1,P1,α1,ds,S1,I1,rv,r1,re1,rp,e1,e2,af1⟩=>?_) hs hpl));obtain⟨its,hi,q⟩:=uT af1;cases FV hi with
 |one j c =>
  obtain⟨ws,rfl,t1⟩:=lI rp;cases t1.nil_inv;obtain⟨u,rfl,t,rfl⟩:=kU rv;refine call_range_1 (eY I1 om om c.1 c.2 ?_);have z:=q (Itr 0 j.toNat) H1 P1 α1 r1 e1 e2 dD;rw[Int.sub_zero];exact z
 |two i j c =>
  obtain⟨ws,rfl,t1⟩:=lI rp;obtain⟨ws2,rfl,t2⟩:=lI t1;cases t2.nil_inv;obtain⟨u,u',rfl,⟨t,rfl⟩,t',rfl⟩:=QZ rv;exact call_range_2 (eY I1 c.1 c.2.1 c.2.2.1 c.2.2.2 (q (Itr i (j-i).toNat) H1 P1 α1 r1 e1 e2 dD))
def uY (g:DG)(f:DS):Ab D→qD→Sto→Out
 |[],env,S=>.nx env S
 |d::ds,env,S=>(g d env S).toS env λenv1 S1=>match f env1 S1 with
  |.nx env2 S2=>uY g f ds env2 S2
  |.ct env2 S2=>uY g f ds env2 S2
  |.bk env2 S2=>.nx env2 S2
  |o=>o
def uC (fi:DI)(g:DG)(f:DS):DS:=λenv S=>(fi env S).toS env λds S1=>uY g f ds env S1
inductive LoopW (X:Cx)(P1:Hp)(α1:Ab Af)(g:DG)(f:DS)(ds:Ab D)(D:Ends)(i m:Ai)(σ : _L.St)(H:Hp):Prop
 |mk (hi:i≤ds.length) (hm:m=ds.length-i) (P2:Hp) (α2:Ab Af) (env2:qD) (S2:Sto) (r:Rel X.K H P2 α2 S2) (re:zH X.K P2 α2 σ env2) (e1:qH P1 P2) (e2:α1<+:α2) (af:zN X P2 α2 (uY g f (ds.drop i) env2 S2) D):LoopW X P1 α1 g f ds D i m σ H
def N4 {iter:Bw}{fi:DI}{g:DG}{f:DS}(hp:Re (Au X.prog X.w) X.A X.env X.xe)(hc:X.calm=true)(hi:PI X tg iter (tDI X fi))(hg:PG X tg (tDG X g))(hb:PSs X body (tDS X f))
  (hs:∀ x,Ga iter X.env x=pure x:=by intro _;rfl):PS X (.For tg iter body [] pos) (tDS X (uC fi g f)):=psW (D7 hp hc hi hg hb hs) λD σ H ⟨P,α,env,S,r,re,af⟩=>by
 refine⟨P,α,env,S,r,re,?_⟩;have af1:=yT af;cases q:fi env S with
 |bad=>rw[q] at af1;exact af1
 |ex c x S'=>rw[q] at af1;exact af1
 |ok ds S1 =>
  rw[q] at af1;have af2:zN X P α (uY g f ds env S1) D:=af1;intro J H1 P1 α1 r1 e1 e2 it;refine⟨LoopW X P1 α1 g f ds D,
   ⟨ds.length,HT _,rfl,P1,α1,env,S1,r1,re.mono e1 e2,qH.refl _,Bn _,zN.base e1 e2 af2⟩,?_⟩
  rintro i m σ2 H2 ⟨hi,rfl,P2,α2,env2,S2,r2,re2,e3,e4,af3⟩;by_cases hlt:i<ds.length
  ·refine .inr ⟨it.go i H2 P2 α2 S2 hlt r2 e3 e4,LoopW X P1 α1 g f ds D (i+1) (ds.length-(i+1)),λσ' H' w=>⟨_,?_,w⟩,λx H3 y=>?_⟩
   ·omega
   ·obtain⟨P3,d,hd,r3,e5,rp⟩:=it.yld i H2 x H3 P2 α2 S2 hlt r2 e3 e4 y
    have hdr:ds.drop i=d::ds.drop (i+1):=by
     rw[Gq hlt];rw[Ap hlt] at hd;rw[Co hd]
    rw[hdr] at af3;have af4:=yT (zN.base e5 (Bn _) af3);refine⟨P3,α2,env2,S2,d,r3,re2.mono e5 (Bn _),rp,?_⟩;cases q2:g d env2 S2 with
    |bad=>rw[q2] at af4;exact af4
    |ex c x S'=>rw[q2] at af4;exact af4
    |ok env3 S3 =>
     rw[q2] at af4;intro σ4 H4 P4 α4 r4 re4 e6 e7;refine⟨P4,α4,env3,S3,r4,re4,?_⟩;have af5:=zN.base e6 e7 af4;cases q3:f env3 S3 with
     |bad=>simp only[q3] at af5;exact af5
     |ex c x env4 S4=>simp only[q3] at af5;exact af5
     |rt d4 S4=>simp only[q3] at af5;exact af5
     |bk env4 S4=>simp only[q3] at af5;exact af5
     |nx env4 S4 =>
      simp only[q3] at af5;exact λσ5 H5 P5 α5 r5 re5 e8 e9=>⟨hlt,rfl,P5,α5,env4,S4,r5,re5,((e3.trans e5).trans e6).trans e8,(e4.trans e7).trans e9,zN.base e8 e9 af5⟩
     |ct env4 S4 =>
      simp only[q3] at af5;exact λσ5 H5 P5 α5 r5 re5 e8 e9=>⟨hlt,rfl,P5,α5,env4,S4,r5,re5,((e3.trans e5).trans e6).trans e8,(e4.trans e7).trans e9,zN.base e8 e9 af5⟩
  ·have hdr:ds.drop i=[]:=Lv om
   rw[hdr] at af3;exact .inl ⟨it.stop i H2 P2 α2 S2 om r2 e3 e4,af3 σ2 H2 P2 α2 r2 re2 (qH.refl _) (Bn _)⟩
end
abbrev DF:=Ab D→Sto→Res D
section
variable {X:Cx}{x:As}{p pos:Fh}{e:Bw}{es:Ab Bw}{F:DF}{fa:DA}
def qE (F:DF)(fa:DA):DE:=λenv S=>(fa env S).bind λds S1=>F ds S1
def lW {pins:Ab (Af × Cs)}{s1:Ah}{σ:_L.St}{H1 P P1:Hp}{α α1:Ab Af}{ds:Ab D}(hc:yK X u F)(I1:Inv X pins σ H1 s1)(r1:Rel X.K H1 P1 α1 S1)(rv:qK vs us)
  (rp:qF X.K P1 α1 ds vs) (e1:qH P P1) (e2:α<+:α1) (af:qI X P α (F ds S1) (OkV X P α Q)):Ao (Au X.prog X.w) X.A (call u us) (EP X pins σ Q) X.xe s1:=hc pins σ H1 s1 P1 α1 S1 vs us ds Q I1 r1 rv rp (zA.base e1 e2 af)
def V6 {id:Ej}(hc:yK X (.builtin id) F)(hg:Gl X x)(hm:X.mg x=none)(hv:Ge x=Aa (.builtin id))(ha:PA X (e::es) (tDA X fa))(hn:x ≠ "__name__":=by decide)(hdb:(x == ("__debug__" : As))=false:=by decide)
  (he:Bd (e::es) X.env=(false,eval e X.env)::Bd es X.env:=by rfl) (hpl:(Fu pos (Bd es X.env)).any (·.1)=false:=by rfl):PE X (.Call (.Name x p) (e::es) [] pos) (tD X (qE F fa)):=by
 intro pins s σ H Q I h;obtain⟨P,α,env,S,r,re,af⟩:=h;refine Hu (u7 I hg hm hv ?_ hn hdb);exact Mu (thn (wV ha I r re af pos) λus s1 ⟨vs,H1,P1,α1,ds,S1,I1,rv,r1,re1,rp,e1,e2,af1⟩=>lW hc I1 r1 rv rp e1 e2 af1) he hpl
def ZU {T:Ej}(hc:yK X (.type T) F)(hg:Gl X x)(hm:X.mg x=none)(hv:Ge x=Aa (.type T))(ha:PA X (e::es) (tDA X fa))(hn:x ≠ "__name__":=by decide)(hdb:(x == ("__debug__" : As))=false:=by decide)
  (he:Bd (e::es) X.env=(false,eval e X.env)::Bd es X.env:=by rfl) (hpl:(Fu pos (Bd es X.env)).any (·.1)=false:=by rfl):PE X (.Call (.Name x p) (e::es) [] pos) (tD X (qE F fa)):=by
 intro pins s σ H Q I h;obtain⟨P,α,env,S,r,re,af⟩:=h;refine Hu (u7 I hg hm hv ?_ hn hdb);exact Hg (thn (wV ha I r re af pos) λus s1 ⟨vs,H1,P1,α1,ds,S1,I1,rv,r1,re1,rp,e1,e2,af1⟩=>lW hc I1 r1 rv rp e1 e2 af1) he hpl
end
def zT.there {P:Bl}{w:Bz}{H:Hp}{h:Bs}{a:Af}{o:HO}(x:zT P w H h a o):∃ ob,h.get? a=Aa ob:=by
 cases o with
 |lst xs=>obtain⟨_,_,_,_,e⟩:=x;exact⟨_,e⟩
 |tup xs=>obtain⟨_,_,_,ob,e,_⟩:=x;exact⟨_,e⟩
 |dK kvs=>obtain⟨_,_,_,_,o,_,_,e,_⟩:=x;exact⟨_,e⟩
 |dT kvs=>obtain⟨_,_,_,_,o,_,_,e,_⟩:=x;exact⟨_,e⟩
 |set S n=>obtain⟨o,_,_,_,e,_⟩:=x;exact⟨_,e⟩
 |ins C dx fs=>obtain⟨_,_,_,e,_⟩:=x;exact⟨_,e⟩
 |own y=>obtain⟨_,e⟩:=x;exact⟨_,e⟩
 |xd fs=>obtain⟨_,⟨_,_,_,e,_⟩,_⟩:=x;exact⟨_,e⟩
 |rng lo hi=>obtain⟨_,_,_,e⟩:=x;exact⟨_,e⟩
 |frz ob u=>obtain⟨e,_⟩:=x;exact⟨_,e⟩
 |tbl ps=>exact⟨_,show h.get? a=Aa _ from x⟩
 |met f y=>exact⟨_,show h.get? a=Aa _ from x⟩
 |ext φ => obtain⟨_,e,_⟩:=x;exact e
section
variable {X:Cx}{pins:Ab (Af × Cs)}{σ : _L.St}{H:Hp}{s:Ah}{B h':Bs}
abbrev Fn1 (X:Cx):Prop:=X.ex=[]∧X.stack=X.env::X.outer∧X.env.frame=Aa X.env.locals
def Fn1.mem (F:Fn1 X){b:Af}:b∈frs X.stack↔b=X.env.locals∨b∈X.fs:=by
 rw[F.2.1];unfold frs;rw[Gm,F.2.2];exact Aw
def Old.there (I:Inv X pins σ H s)(F:Fn1 X){b:Af}(o:Old X pins H b):∃ ob,s.heap.get? b=Aa ob:=by
 rcases o with⟨o,e⟩|e|⟨p,hp,rfl⟩|⟨x,e⟩
 ·exact I.base.there b o e (by rw[F.1];simp)
 ·cases q:H b with
  |none=>exact absurd q e
  |some u=>exact zT.there (I.hok b u q)
 ·exact⟨_,(I.pin p hp).1⟩
 ·obtain⟨v,ob,ho,_⟩:=I.cell x b e
  exact⟨ob,ho⟩
def Inv.fly (I:Inv X pins σ H s)(F:Fn1 X)(cv:Cv X pins H B s.heap)(st:B.StaysIn h')(up:s.heap.UpToSlots h'):Inv X pins σ H { s with heap:=h' } ∧ Cv X pins H B h':=by
 have kp:∀ b o,s.heap.get? b=Aa o→Old X pins H b→b ∉ frs X.stack→h'.get? b=Aa o:=λb o e q n=>st b o (cv b o e q n);have neL:∀ b o,X.s₀.heap.get? b=Aa o→b≠X.env.locals:=λb o e=>Cj (Bv (Ax e) I.ok.above);have nofr:∀ b o,X.s₀.heap.get? b=Aa o→b ∉ X.fs→b ∉ frs X.stack:=λb o e n z=>(F.mem.mp z).elim (neL b o e) n;have nx:∀ b,b ∉ X.ex:=λb=>by rw[F.1];simp
 have frU:∀ b,b∈frs X.stack→∀ o,s.heap.get? b=Aa o→∃ sl,h'.get? b=Aa { o with slots:=sl }:=λb hb o e=>by
  obtain⟨_,o',e',nf⟩:=I.stack.mem hb;rw[e] at e';cases e';exact up b o e nf
 have cellK:∀ x c,X.env.cells.lookup x=Aa c→∀ v,s.heap.IsCell c v→h'.IsCell c v:=λx c e v ⟨o,ho,hd⟩=>by
  obtain⟨sl,q⟩:=up c o ho λvs z=>by rw[hd] at z;cases z
  exact⟨_,q,hd⟩
 refine⟨⟨I.ok,I.os,I.bare,⟨λb o e n hb hx=>?_,λb o e n hb hx=>?_,I.base.free,λb o e hx=>?_,I.base.tups,I.base.frzs,I.base.tbls⟩,?_,λx c e=>?_,I.free,I.freeC,λp hp=>?_,λa o e=>?_,I.len⟩,λb o e q n=>?_⟩
 ·exact kp b o (I.base.keep b o e n hb hx) (.inl ⟨o,e⟩) (nofr b o e hb)
 ·obtain⟨sl,e1⟩:=I.base.slot b o e n hb hx
  obtain⟨sl',e2⟩:=frU b (F.mem.mpr (.inr hb)) _ e1;exact⟨sl',e2⟩
 ·obtain⟨o',e1⟩:=I.base.there b o e hx
  by_cases hb:b∈frs X.stack
  ·obtain⟨sl,e2⟩:=frU b hb _ e1
   exact⟨_,e2⟩
  ·exact⟨o',kp b o' e1 (.inl ⟨o,e⟩) hb⟩
 ·obtain⟨m,hn,hl⟩:=I.loc
  refine⟨m,up.ns hn,λi x v e1 e2 e3=>?_⟩;obtain⟨u,r,l⟩:=hl i x v e1 e2 e3;refine⟨u,r,?_⟩;rcases l with l|⟨k,c,e,z⟩
  ·exact .inl l
  ·exact .inr ⟨k,c,e,cellK x c e _ z⟩
 ·obtain⟨v,z⟩:=I.cell x c e
  exact⟨v,cellK x c e v z⟩
 ·obtain⟨e,n,ne,nf,d⟩:=I.pin p hp
  exact⟨kp p.1 p.2 e (.inr (.inr (.inl ⟨p,hp,rfl⟩))) λz=>(F.mem.mp z).elim ne nf,n,ne,nf,d⟩
 ·refine(I.hok a o e).stay (λb u hb q=>?_) (λ_ q=>q) λ_ _ q=>q
  have hn:H b≠none:=by
   rcases hb with rfl|hb
   ·rw[e];intro z;cases z
   ·rw[hb];intro z;cases z
  exact kp b u q (.inr (.inl hn)) λz=>hn (I.stkFree b z)
 ·obtain⟨o1,e1⟩:=Old.there I F q
  have e2:=cv b o1 e1 q n;have e3:=st b o1 e2;rw[e] at e3;cases e3;exact e2
def W1 {c:Ad}{e:Af}{g:Bs}(I:Inv X pins σ H s)(hm:Rv g s.heap e c args)(hf:g.FunFrames X.base X.stack)(hk:∀ b o,s.heap.get? b=Aa o→Old X pins H b→g.get? b=Aa o) :
  (Mz g (frs X.stack)).StaysIn g∧g.FunFrames (Mz g (frs X.stack)) X.stack∧Cv X pins H (Mz g (frs X.stack)) s.heap:=
 ⟨λb o q=>Tr _ q,PySem.W.funFrames_hide hf λenv he a ha=>Jb.mpr ⟨env,he,ha⟩,λb o e q n=>Sh _ (hk b o e q) n⟩
def XM {M:Ks}{A:By}{E:Ad→Ah→Prop}{c:Ad}{e:Af}{Q:Pk→Ah→Prop}(I:Inv X pins σ H s)(F:Fn1 X)(hA:A.frames=Aa X.stack)(f:FlyX X pins H c e s.heap)
  (hQ:∀ h' B a0,Nk B X.outer e c a0 h'→Inv X pins σ H { s with heap:=h' } → Cv X pins H B h'→Q () { s with heap:=h' }) : Ao M A (leaving X.env (.ref e)) Q E s:=by
 cases f with
 |new g args hm hf hk =>
  obtain⟨k1,k2,k3⟩:=W1 I hm hf hk;rw[F.2.1] at hA;refine wpAny_leaves_madeW hA F.2.2 k1 (by rw[← F.2.1];exact k2) hm λh' t x1 x2 x3 x4=>?_
  obtain⟨I1,cv1⟩:=Inv.fly I F k3 x1.1 x4;exact hQ h' _ _ x1 I1 cv1
 |fly B a0 fl cv =>
  rw[F.2.1] at hA;refine wpAny_leaves_onW hA F.2.2 (by rw[← F.2.1];exact fl) λh' x1 x2=>?_
  obtain⟨I1,cv1⟩:=Inv.fly I F cv x1.1 x2;exact hQ h' _ _ x1 I1 cv1
end
def CXd (P:Bl)(w:Bz):CXT:=λouter H s E u s' =>
 ∃ e c H' B a0,u=.ref e∧s'.os=s.os∧Lz s'.gens∧Un (frs outer) [] H H' s.heap s'.heap∧HOk P w H' s'.heap∧Nk B outer e c a0 s'.heap ∧
  (∀ b o,s'.heap.get? b=Aa o→((∃ o,s.heap.get? b=Aa o)∨H' b≠none)→b ∉ frs outer→B.get? b=Aa o)∧E c none H'
section
variable {X:Cx}{pins:Ab (Af × Cs)}{σ : _L.St}{H:Hp}{s s':Ah}
def NJ {E:XK}(I:Inv X pins σ H s)(F:Fn1 X)(h:CXd X.prog X.w X.stack H s E u s'):∃ e c H',u=.ref e∧Inv X pins σ H' s'∧FlyX X pins H' c e s'.heap∧E c none H':=by
 obtain⟨e,c,H',B,a0,rfl,os,bare,un,hok,fl,cov,q⟩:=h;have I':Inv X pins σ H' s':=Inv.call' I os un hok bare (ch:=[]) λb z=>absurd z (by simp)
 refine⟨e,c,H',rfl,I',.fly B a0 fl λb o eb old n=>cov b o eb ?_ n,q⟩;rcases old with⟨o,z⟩|z|⟨p,hp,rfl⟩|⟨x,z⟩
 ·exact .inl (I.base.there b o z (by rw[F.1];simp))
 ·exact .inr z
 ·exact .inl ⟨_,(I.pin p hp).1⟩
 ·obtain⟨v,ob,ho,_⟩:=I.cell x b z
  exact .inl ⟨ob,ho⟩
end
structure RoomC (cm:Ar)(k:Ai)(A:By):Prop where
 hd:cm=true→A.handled=none
 dp:A.depth+3*k+5<Oc
 un:A.units+16*k+200<Fi
 gd:A.guards=Aa []
def RoomC.mono {cm:Ar}{j k:Ai}{A:By}(r:RoomC cm k A)(h:j≤k:=by decide):RoomC cm j A:=⟨r.hd,by have:=r.dp;omega,by have:=r.un;omega,r.gd⟩
def RoomC.deeper {cm:Ar}{k:Ai}{A:By}(r:RoomC cm (k+1) A)(env:Jv):RoomC cm k (A.deeper env):=
 ⟨r.hd,by have:=r.dp;show A.depth+1+3*k+5<_;omega,by have:=r.un;show A.units+3+16*k+200<_;omega,r.gd⟩
def RoomC.depth {cm:Ar}{k:Ai}{A:By}(r:RoomC cm k A):A.depth<Oc:=by have:=r.dp;omega
def RoomC.units {cm:Ar}{k:Ai}{A:By}(r:RoomC cm k A):A.units+64<Fi:=by have:=r.un;omega
def RoomC.of {k:Ai}{A:By}(r:Room k A):RoomC true k A:=⟨λ_=>r.hd,r.dp,r.un,r.gd⟩
def RoomC.any {cm:Ar}{k:Ai}{A:By}(r:RoomC cm k A):RoomC false k A:=⟨(λz=>nomatch z),r.dp,r.un,r.gd⟩
def RoomC.mark {cm:Ar}{k:Ai}{A:By}(r:RoomC cm k A)(h:Am Ad):RoomC false k (A.mark h):=⟨(λz=>nomatch z),r.dp,r.un,r.gd⟩
abbrev Cx.re (X:Cx)(A:By)(cm:Ar)(E:Ad→Ah→Prop):Cx:={ X with A:=A,calm:=cm,xe:=E }
def Inv.re {X:Cx}{pins:Ab (Af × Cs)}{σ:_L.St}{H:Hp}{s:Ah}(I:Inv X pins σ H s)(A:By)(cm:Ar)(E:Ad→Ah→Prop)(hf:A.frames=Aa X.stack)(hh:cm=true→A.handled=none):Inv (Cx.re X A cm E) pins σ H s:=
 ⟨⟨I.ok.mod,I.ok.kind,I.ok.glob,I.ok.blt,I.ok.above,I.ok.inj,I.ok.has,I.ok.cab,hh,hf,I.ok.stk,I.ok.exf,I.ok.bs,I.ok.bsz,I.ok.noex,I.ok.exfs,I.ok.funs,I.ok.frf⟩,I.os,I.bare,I.base,I.loc,I.cell,I.free,I.freeC,I.pin,I.hok,I.len⟩
def Inv.unre {X:Cx}{pins:Ab (Af × Cs)}{σ:_L.St}{H:Hp}{s:Ah}{A:By}{cm:Ar}{E:Ad→Ah→Prop}(I:Inv (Cx.re X A cm E) pins σ H s)(hf:X.A.frames=Aa X.stack)(hh:X.calm=true→X.A.handled=none):Inv X pins σ H s:=
 ⟨⟨I.ok.mod,I.ok.kind,I.ok.glob,I.ok.blt,I.ok.above,I.ok.inj,I.ok.has,I.ok.cab,hh,hf,I.ok.stk,I.ok.exf,I.ok.bs,I.ok.bsz,I.ok.noex,I.ok.exfs,I.ok.funs,I.ok.frf⟩,I.os,I.bare,I.base,I.loc,I.cell,I.free,I.freeC,I.pin,I.hok,I.len⟩
structure FnX (P:Bl)(w:Bz)(K:Ak)(mg:As→Am Ad)(base:Bs)(cm:Ar)(k:Ai)(f:Af)(fd:Fy)(ps:Ab As)(sp:Sp):Prop where
 len:∀ vs H Q E,sp vs H Q E→vs.length=ps.length
 run:∀ (A:By) (outer:Ab Jv) (s:Ah) (H:Hp) (args:Args) (us:Ab Ad) (vs:Ab V) (Q:VK) (E:XK),RoomC cm k A→Env0 P w K mg base A outer s H→Nn s fd args (ps.zip us)→qK vs us→sp vs H Q E →
  Jd (Au P w) A (.call (.ref f) args) (CR (CXd P w) outer P w H s Q E) s
def FnX.ok {P:Bl}{w:Bz}{K:Ak}{mg:As→Am Ad}{base:Bs}{k:Ai}{f:Af}{fd:Fy}{ps:Ab As}(F:FnX P w K mg base true k f fd ps sp):FnOk P w K mg base (CXd P w) k f fd ps sp:=
 ⟨F.len,λA outer s H args us vs Q E hr=>F.run A outer s H args us vs Q E (.of hr)⟩
def FnX.any {P:Bl}{w:Bz}{K:Ak}{mg:As→Am Ad}{base:Bs}{cm:Ar}{k:Ai}{f:Af}{fd:Fy}{ps:Ab As}(F:FnX P w K mg base false k f fd ps sp):FnX P w K mg base cm k f fd ps sp:=
 ⟨F.len,λA outer s H args us vs Q E hr=>F.run A outer s H args us vs Q E hr.any⟩
def FnX.imp {P:Bl}{w:Bz}{K:Ak}{mg:As→Am Ad}{base:Bs}{cm:Ar}{k:Ai}{f:Af}{fd:Fy}{ps:Ab As}{sp':Sp}(F:FnX P w K mg base cm k f fd ps sp)
  (h:∀ vs H Q E,sp' vs H Q E→sp vs H Q E):FnX P w K mg base cm k f fd ps sp':=
 ⟨λvs H Q E q=>F.len vs H Q E (h _ _ _ _ q),λA outer s H args us vs Q E hr he hb hv hs=>F.run A outer s H args us vs Q E hr he hb hv (h _ _ _ _ hs)⟩
def cxC (cm:Ar)(P:Bl)(w:Bz)(K:Ak)(mg:As→Am Ad)(base:Bs)(N:Ab As)(qual:As)(scope:Gu)(f:Af)(cd:Ad)(A:By)(outer:Ab Jv)(s:Ah)(H:Hp)(E:XK):Cx where
 prog:=P
 w:=w
 K:=K
 mg:=mg
 base:=base
 A:=A.deeper (Hd qual scope s.heap.objs.size f cd)
 N:=N
 s₀:=s
 H₀:=H
 env:=Hd qual scope s.heap.objs.size f cd
 outer:=outer
 stack:=Hd qual scope s.heap.objs.size f cd::outer
 ex:=[]
 calm:=cm
 fn:=λ_=>true
 pn:=[]
 xe:=λe s'=>Ao (Au P w) (A.deeper (Hd qual scope s.heap.objs.size f cd)) (leaving (Hd qual scope s.heap.objs.size f cd) e) (λ_ s''=>CXd P w outer H s E e s'') (λe' s''=>CXd P w outer H s E e' s'') s'
section
variable {P:Bl}{w:Bz}{K:Ak}{mg:As→Am Ad}{base:Bs}{cm:Ar}{N:Ab As}{qual:As}{scope:Gu}{f:Af}{cd:Ad}{A:By}{outer:Ab Jv}{s:Ah}{H:Hp}{E:XK}
def V3:Re (Au P w) (A.deeper (Hd qual scope s.heap.objs.size f cd)) (Hd qual scope s.heap.objs.size f cd) (cxC cm P w K mg base N qual scope f cd A outer s H E).xe:=PassesOwn.leaving (Q₁:=λe s''=>CXd P w outer H s E e s'')
def ZO {P0:Hp}{α:Ab Af}{c:Ad}{x:D}{s':Ah}(k:XOk (cxC cm P w K mg base N qual scope f cd A outer s H E) P0 α c x S u s')
  (q:∀ H' P' α',Rel K H' P' α' S→qH P0 P'→α<+:α'→E c none H'):(cxC cm P w K mg base N qual scope f cd A outer s H E).xe u s':=by
 obtain⟨e,pins,σ,H1,P1,α1,rfl,I,r,e1,e2,F,fl⟩:=k;refine XM (X:=cxC cm P w K mg base N qual scope f cd A outer s H E) I F I.ok.frames fl λh' B a0 x1 I1 cv=>?_;refine⟨e,c,H1,B,a0,rfl,I1.os,I1.bare,I1.base,I1.hok,x1,λb o eb hb n=>cv b o eb ?_ λz=>?_,q H1 P1 α1 r e1 e2⟩
 ·rcases hb with z|z
  ·exact .inl z
  ·exact .inr (.inl z)
 ·rcases (Fn1.mem F).mp z with z|z
  ·subst z
   rcases hb with⟨o',e'⟩|z
   ·exact absurd (Ax e') (Pm.mpr I1.ok.above)
   ·exact z I1.free
  ·exact n z
def oR {ps:Ab As}{s1:Ah}(S:FnScope N ps scope)(hd:cm=true→A.handled=none)(e0:Env0 P w K mg base A outer s H)(hl:vs.length=ps.length)(r:qK vs us)
  (x:InCallC s s.heap.objs.size (Sl (Hd qual scope s.heap.objs.size f cd).kindOf (ps.zip us) λ_=>none) (Rf (s.heap.objs.size+1) scope.names []) (Sm (Hd qual scope s.heap.objs.size f cd).kindOf (ps.zip us) λ_=>none) s1) :
  Inv (cxC cm P w K mg base N qual scope f cd A outer s H E) [] (_L.yC N vs) H s1:=by
 have I:=dB (CX:=CXd P w) (E:=E) (A:={ A with handled:=none }) S rfl ⟨e0.frames,e0.mod,e0.bs,e0.bsz,e0.funs,e0.frf,e0.hok,e0.bare⟩ hl r x
 have J:=Inv.re I (A.deeper (Hd qual scope s.heap.objs.size f cd)) cm (cxC cm P w K mg base N qual scope f cd A outer s H E).xe (Sc e0.frames) hd;exact J
end
def NK {P:Bl}{w:Bz}{K:Ak}{mg:As→Am Ad}{base:Bs}{cm:Ar}{k:Ai}{f:Af}{x qual:As}{st:Fl}{fd:Fy}{N ps:Ab As}(F:Fun K x qual st f fd)(S:FnScope N ps (qJ st))
  (len:∀ vs H Q E,sp vs H Q E→vs.length=ps.length)
  (hbody:∀ (cdv:Ad) (A:By) (outer:Ab Jv) (s:Ah) (H:Hp) (vs:Ab V) (Q:VK) (E:XK),RoomC cm k (A.deeper (Hd qual (qJ st) s.heap.objs.size f cdv))→sp vs H Q E →
   ∃ t,PSs (cxC cm P w K mg base N qual (qJ st) f cdv A outer s H E) (xD st) t∧t { nx:=λ_ H'=>Q .non H',rt:=Q } (_L.yC N vs) H) :
  FnX P w K mg base cm (k+1) f fd ps sp:=by
 obtain⟨oc,od,kV,doc,pm,an,cdv,ct,osl,rfl,lk,hcd⟩:=F.ex;refine⟨len,λA outer s H args us vs Q E hr e0 hb r hsp=>?_⟩;have hl:=len _ _ _ _ hsp;have KX:K.In s.heap:=e0.mod.kin.keeps λb o e=>(e0.bs b o e).1;have lim:s.heap.NoLimit:=e0.mod.nolimit.keeps λb o e=>(e0.bs b o e).1;have hkind:∀ y∈ps.zip us,(qJ st).names.lookup y.1=Aa .local ∨ ((qJ st).names.lookup y.1=Aa .cell∧((Rf (s.heap.objs.size+1) (qJ st).names []).lookup y.1).isSome=true):=λ⟨n,v⟩ hy=>by
  rcases S.par n (Nb hy).1 with q|q
  ·exact .inl q
  ·exact .inr ⟨q,Lr _ _ _ (.inl q)⟩
 refine Rg hr.depth (KX _ _ lk) rfl S.co S.gen rfl (Tt KX hcd) (hb _ _ _ _ ?_);refine O0 S.kind hkind λenv he s1 x=>?_;subst he;refine⟨lim.keeps x.toInCall.keep,codeAny_func ?_⟩;obtain⟨t,ht,hq⟩:=hbody cdv A outer s H vs Q E (hr.deeper _) hsp;have I:Inv (cxC cm P w K mg base N qual (qJ st) f cdv A outer s H E) [] (_L.yC N vs) H s1:=oR S hr.hd e0 hl r x;refine Ia (ht [] s1 (_L.yC N vs) H _ I hq) (λfl s' hs=>?_) λe s' hs=>hs;have fin:∀ {σ' : _L.St} {H':Hp} {v:V} {u:Ad},Inv (cxC cm P w K mg base N qual (qJ st) f cdv A outer s H E) [] σ' H' s'→qL v u→Q v H'→CE outer P w H s Q u s':=
  λ{σ' H' v u} J rv q=>⟨v,H',J.os,J.bare,J.base,J.hok,rv,q⟩
 cases fl with
 |ret u =>
  obtain⟨v,σ',H',J,rv,q⟩:=hs;exact fin J rv q
 |next =>
  obtain⟨σ',H',J,q⟩:=hs;exact fin (v:=V.non) (u:=Dp) J rfl q
 |brk =>
  obtain⟨_,_,_,q⟩:=hs;exact An q
 |cont =>
  obtain⟨_,_,_,q⟩:=hs;exact An q
def uF (n:Ai)(ds:Ab D):qD:=ds.map Aa++Dm (n-ds.length) none
def v9:Out→Res D
 |.rt d S=>.ok d S
 |.nx _ S=>.ok .non S
 |.ex c x _ S=>.ex c x S
 |_=>.bad
def qQ (n:Ai)(g:DS):DF:=λds S=>v9 (g (uF n ds) S)
def spD (K:Ak)(n:Ai)(F:DF):Sp:=λvs H Q E=>vs.length=n∧∃ P α ds S,Rel K H P α S∧qF K P α ds vs∧match F ds S with
 |.ok d S'=>∀ v H' P' α',Rel K H' P' α' S'→qH P P'→α<+:α'→Rep K P' α' d v→Q v H'
 |.ex c _ S'=>∀ H' P' α',Rel K H' P' α' S'→qH P P'→α<+:α'→E c none H'
 |.bad=>Fn
def QF {K:Ak}{P:Hp}{α:Ab Af}{N:Ab As}{ds:Ab D}(r:qF K P α ds vs):zH K P α (_L.yC N vs) (uF N.length ds):=by
 refine⟨by simp[uF,_L.yC,r.length],λi d e=>?_⟩
 unfold uF at e;unfold _L.yC;by_cases hi:i<ds.length
 ·rw[Bk (by simpa using hi),Ds] at e
  rw[Bk (by rw[Aq,← r.length];exact hi),Ds]
  cases q:ds[i]? with
  |none=>rw[q] at e;cases e
  |some d' =>
   rw[q] at e;cases e;obtain⟨v,h1,h2⟩:=r.get q;exact⟨v,by rw[h1];rfl,h2⟩
 ·rw[Dd (by simpa using hi),Kv] at e
  split at e <;> cases e
section
variable {P:Bl}{w:Bz}{K:Ak}{mg:As→Am Ad}{base:Bs}{cm:Ar}
def fnX {x qual:As}{st:Fl}{f:Af}{fd:Fy}{N ps:Ab As}{k:Ai}{g:DS}(F:Fun K x qual st f fd)(S:FnScope N ps (qJ st))
  (hbody:∀ (cdv:Ad) (A:By) (outer:Ab Jv) (s:Ah) (H:Hp) (E:XK),RoomC cm k (A.deeper (Hd qual (qJ st) s.heap.objs.size f cdv)) →
   PSs (cxC cm P w K mg base N qual (qJ st) f cdv A outer s H E) (xD st) (tDS (cxC cm P w K mg base N qual (qJ st) f cdv A outer s H E) g)) :
  FnX P w K mg base cm (k+1) f fd ps (spD K ps.length (qQ N.length g)):=by
 refine NK F S (λvs H Q E h=>h.1) λcdv A outer s H vs Q E hr h=>?_;obtain⟨hl,P',α,ds,S',r,rp,af⟩:=h;refine⟨_,hbody cdv A outer s H E hr,P',α,uF N.length ds,S',r,QF rp,?_⟩;unfold qQ at af;cases q:g (uF N.length ds) S' with
 |rt d S1=>rw[q] at af;exact λv H' P1 α1 r1 e1 e2 p1=>af v H' P1 α1 r1 e1 e2 p1
 |nx env S1=>rw[q] at af;exact λσ' H' P1 α1 r1 re1 e1 e2=>af .non H' P1 α1 r1 e1 e2 (by simp only[Rep])
 |bk env S1=>rw[q] at af;exact An af
 |ct env S1=>rw[q] at af;exact An af
 |ex c x env S1=>rw[q] at af;exact λu s' z=>ZO z λH' P1 α1 r1 e1 e2=>af H' P1 α1 r1 e1 e2
 |bad=>rw[q] at af;exact An af
end
section
variable {X:Cx}{cm:Ar}{k:Ai}{f:Af}{fd:Fy}{ps:Ab As}{F:DF}{x:As}{p pos:Fh}{e:Bw}{es:Ab Bw}{fa:DA}{n:Ai}
def qG (n:Ai)(F:DF)(fa:DA):DE:=λenv S=>(fa env S).bind λds S1=>if ds.length=n then F ds S1 else .bad
def lL {pins:Ab (Af × Cs)}{σ:_L.St}{H:Hp}{s:Ah}{P:Hp}{α:Ab Af}{ds:Ab D}(G:FnX X.prog X.w X.K X.mg X.base cm k f fd ps (spD X.K n F))(hr:RoomC cm k X.A)(hb:vW X.K fd ps [])(hF:Fn1 X)
  (I:Inv X pins σ H s) (r:Rel X.K H P α S) (rv:qK vs us) (rp:qF X.K P α ds vs) (hn:ds.length=n) (af:zA X P α (F ds S) Q):Ao (Au X.prog X.w) X.A (call (.ref f) us) (EP X pins σ Q) X.xe s:=by
 have hvn:vs.length=n:=by rw[← rp.length];exact hn
 let E:XK:=λc _ H'=>match F ds S with
  |.ex c' _ S'=>c=c'∧∃ P' α',Rel X.K H' P' α' S'∧qH P P'∧α<+:α'
  |_=>Fn
 have hsp:spD X.K n F vs H Q E:=by
  refine⟨hvn,P,α,ds,S,r,rp,?_⟩;cases q:F ds S with
  |ok d S'=>rw[q] at af;exact af
  |ex c x S' =>
   intro H' P' α' r' e1 e2;show match F ds S with|.ex c' _ S'=>c=c'∧∃ P' α',Rel X.K H' P' α' S'∧qH P P'∧α<+:α'|_=>Fn
   rw[q];exact⟨rfl,P',α',r',e1,e2⟩
  |bad=>rw[q] at af;exact af
 have hl:us.length=ps.length:=by rw[← rv.length];exact G.len _ _ _ _ hsp
 have hb':=hb s us I.kIn (by rw[Fo];exact hl)
 rw[Fo] at hb';refine Np (IX (G.run X.A X.stack s H ⟨us,[]⟩ us vs Q E hr I.env0 hb' rv hsp) λr s' hq=>?_);cases r with
 |error u =>
  obtain⟨a,c,H',rfl,I',fl,q⟩:=NJ I hF hq;cases z:F ds S with
  |ok d S'=>simp only[E,z] at q
  |bad=>simp only[E,z] at q
  |ex c' x' S' =>
   simp only[E,z] at q;obtain⟨rfl,P',α',r',e1,e2⟩:=q;rw[z] at af;exact af _ _ ⟨a,pins,σ,H',P',α',rfl,I',r',e1,e2,hF,fl⟩
 |ok fl =>
  cases fl with
  |ret u=>exact I.after hq
  |next=>exact An hq
  |brk=>exact An hq
  |cont=>exact An hq
def b9 {env:qD}{S:Sto}{P:Hp}{α:Ab Af}{ds:Ab D}{Ok:D→Sto→Prop}(h:qI X P α (if ds.length=n then F ds S1 else .bad) Ok):ds.length=n∧qI X P α (F ds S1) Ok:=by
 by_cases hn:ds.length=n
 ·rw[Bi hn] at h;exact⟨hn,h⟩
 ·rw[Bf hn] at h;exact An h
def GS (G:FnX X.prog X.w X.K X.mg X.base cm k f fd ps (spD X.K n F))(hr:RoomC cm k X.A)(hF:Fn1 X)(hg:Gl X x)(hm:X.mg x=Aa (.ref f))(hk:En X.K (.ref f)=true)(hb:vW X.K fd ps [])
  (ha:PA X (e::es) (tDA X fa)) (hdb:(x == ("__debug__" : As))=false:=by decide) (he:Bd (e::es) X.env=(false,eval e X.env)::Bd es X.env:=by rfl) (hpl:(Fu pos (Bd es X.env)).any (·.1)=false:=by rfl) :
  PE X (.Call (.Name x p) (e::es) [] pos) (tD X (qG n F fa)):=by
 intro pins s σ H Q I h;obtain⟨P,α,env,S,r,re,af⟩:=h;refine Hu (jM I hg hm ?_ hdb);refine Kt (h₀:=X.base) I.ok.mod.kin hk (thn (wV ha I r re af pos) λus s1 ⟨vs,H1,P1,α1,ds,S1,I1,rv,r1,re1,rp,e1,e2,af1⟩=>⟨I1.kIn,?_⟩) he hpl;obtain⟨hn,af2⟩:=b9 (env:=env) (S:=S) af1;exact lL G hr hb hF I1 r1 rv rp hn (zA.base e1 e2 af2)
end
abbrev sZ:Ab Ad:=[.type "ValueError",.type "Exception",.type "BaseException",.type "object"]
def RX:Ad→Ar
 |.str _ _=>true
 |_=>false
def gJ (K:Ak)(N:Af):Ar:=(match Mj N K with
 |some o=>match o.data with
  |.dict es _=>es.toList.all λe=>RX e.key
  |_=>false
 |none=>false)&&decide (Dt K N "__init__" = Aa none)
def v4 {K:Ak}{N:Af}(h:gJ K N=true):Xh K N=true∧Dt K N "__init__" = Aa none:=by
 unfold gJ at h;rw[Br,Ct] at h;refine⟨?_,h.2⟩;have h1:=h.1;unfold Xh;cases e:Mj N K with
 |none=>rw[e] at h1;cases h1
 |some o =>
  rw[e] at h1;obtain⟨oc,od,dt,sl⟩:=o;cases dt with
  |dict es ep =>
   simp only at h1 ⊢;rw[Array.all_toList] at h1;refine Eq.trans (congrArg (λf=>Array.all es f) (funext λe=>?_)) h1;cases e.key <;> rfl
  |_=>cases h1
def sN (K:Ak)(C:Af)(f:Ad→Uz→Ay (Am Ad)→Ar):Ar:=match Mj C K with
 |some o=>(match o.data with|.cls cd=>f o.cls cd o.slots|_=>false)
 |none=>false
def eP {K:Ak}{f:Ad→Uz→Ay (Am Ad)→Ar}(h:sN K C f=true):∃ oc od cd sl,Mj C K=Aa ⟨oc,od,.cls cd,sl⟩∧f oc cd sl=true:=by
 unfold sN at h;cases e:Mj C K with
 |none=>rw[e] at h;exact He h
 |some o =>
  rw[e] at h;obtain⟨oc,od,dt,sl⟩:=o;cases dt with
  |cls cd=>exact⟨oc,od,cd,sl,rfl,h⟩
  |_=>exact He h
def m8 (K:Ak)(C A:Af):Ar:=sN K C λoc cd sl=>sN K A λ_ ca _=>decide (oc=.type "type")&&(decide (cd.mro=.ref C::.ref A::sZ)&&(!cd.hasDel&&(gJ K cd.ns&&(gJ K ca.ns&&(decide (sl.toList.length=6)&&decide (sl.toList[4]? = Aa (Aa (.builtin "ValueError.__new__"))))))))
inductive ExcO (h:Bs)(C:Af):Prop
 |mk (nm q:As) (N:Af) (bs bm:Ab Ad) (hdct:Ar) (sn:Ab As) (sub:Ab Ad) (ab:Ar) (col:Am Ar) (dd:Am Af) (k0 k1 k2 k3 k5:Am Ad) (mN:As→Am Ad) (hC:h.get? C=Aa (excClassObj nm q C N bs bm hdct sn sub ab col dd k0 k1 k2 k3 k5 "ValueError.__new__")) (hN:h.Ns N mN) (hni:mN "__init__" = none) (T:OwnTail h sZ bm):ExcO h C
def lF {β:Type}{l:Ab β}{n:Ai}(h:l.length=n+1):∃ a t,l=a::t∧t.length=n:=by
 cases l with
 |nil=>exact Nat.noConfusion h
 |cons a t=>exact⟨a,t,rfl,Nat.succ.inj h⟩
def six {β:Type}{l:Ab β}(h:l.length=6):∃ a b c d e f,l=[a,b,c,d,e,f]:=by
 obtain⟨a,t,e1,h⟩:=lF h;obtain⟨b,t2,e2,h⟩:=lF h;obtain⟨c,t3,e3,h⟩:=lF h;obtain⟨d,t4,e4,h⟩:=lF h;obtain⟨e,t5,e5,h⟩:=lF h;obtain⟨f,t6,e6,h⟩:=lF h;exact⟨a,b,c,d,e,f,by rw[e1,e2,e3,e4,e5,e6,Ky.mp h]⟩
def LC {cd:Uz}{tl:Ab Ad}{k0 k1 k2 k3 k4 k5:Am Ad}{n:Ej}(hm:cd.mro=.ref C::tl)(hd:cd.hasDel=false)(hs:sl.toList=[k0,k1,k2,k3,k4,k5])(hn:sl.toList[4]? = Aa (Aa (.builtin n))) :
  (⟨.type "type",od,.cls cd,sl⟩:Cs)=excClassObj cd.name cd.qualname C cd.ns cd.bases tl cd.hasDict cd.slotNames cd.subclasses cd.abstract cd.collection od k0 k1 k2 k3 k5 n:=by
 rw[hs] at hn;cases hn;cases cd;cases sl;cases hm;cases hd;cases hs;rfl
def PR {K:Ak}{h:Bs}{A:Af}{cd:Uz}(KI:K.In h)(e:Mj C K=Aa ⟨.type "type",od,.cls cd,sl⟩)(h2:cd.mro=.ref C::.ref A::sZ)(h3:cd.hasDel=false)(h4:gJ K cd.ns=true)(h6:sl.toList.length=6)(h7:sl.toList[4]? = Aa (Aa (.builtin "ValueError.__new__")))(T:OwnTail h sZ (.ref A::sZ)):ExcO h C:=by
 obtain⟨k0,k1,k2,k3,x,k5,es⟩:=six h6;exact⟨_,_,_,_,_,_,_,_,_,_,_,k0,k1,k2,k3,k5,_,(KI _ _ e).trans (congrArg Aa (LC h2 h3 es h7)),.of_isNs (Tw KI (v4 h4).1),Pa KI (v4 h4).1 (v4 h4).2,T⟩
def PU {K:Ak}{h:Bs}{A:Af}(KI:K.In h)(z:m8 K C A=true):ExcO h C:=by
 obtain⟨oc,od,cd,sl,e,z⟩:=eP z;obtain⟨qc,qd,ca,ql,e2,z⟩:=eP z;have a1:=Eu.mp z;have a2:=Eu.mp a1.2;have a3:=Eu.mp a2.2;have a4:=Eu.mp a3.2;have a5:=Eu.mp a4.2;have a6:=Eu.mp a5.2;rw[Cu a1.1] at e;exact PR KI e (Cu a2.1) (Ln _▸a3.1) a4.1 (Cu a6.1) (Cu a6.2) (.own (KI _ _ e2) (.of_isNs (Tw KI (v4 a5.1).1)) (Pa KI (v4 a5.1).1 (v4 a5.1).2) .base)
section
variable {X:Cx}{pos:Fh}{fa:DA}
def uD (c:Ad)(fa:DA):DS:=λenv S=>(fa env S).toS env λds S1=>if ds.length≤lim then .ex c .non env S1 else .bad
inductive GotAS (X:Cx)(pins:Ab (Af × Cs))(σ : _L.St)(env:qD)(P:Hp)(α : Ab Af)(us:Ab Ad)(s1:Ah)(k:Ab D→Sto→Out)(E:Ends):Prop
 |mk (vs:Ab V) (H1 P1:Hp) (α1:Ab Af) (ds:Ab D) (S1:Sto) (I:Inv X pins σ H1 s1) (rv:qK vs us) (r:Rel X.K H1 P1 α1 S1) (re:zH X.K P1 α1 σ env) (rp:qF X.K P1 α1 ds vs) (e1:qH P P1) (e2:α<+:α1) (q:zN X P1 α1 (k ds S1) E):GotAS X pins σ env P α us s1 k E
def GQ {es:Ab Bw}{k:Ab D→Sto→Out}{pins:Ab (Af × Cs)}{s:Ah}{σ:_L.St}{H P:Hp}{α:Ab Af}{env:qD}{D:Ends}(he:PA X es (tDA X fa))(I:Inv X pins σ H s)(r:Rel X.K H P α S)
  (re:zH X.K P α σ env) (af:zN X P α ((fa env S).toS env k) D) (pos:Fh) :
  Ao (Au X.prog X.w) X.A (spliced (Fu pos (Bd es X.env))) (λus s1=>GotAS X pins σ env P α us s1 k D) X.xe s:=by
 have af1:qI X P α ((fa env S).bind λd S=>.ok d S) λd S=>zN X P α (k d S) D:=by
  have:=yT af;cases q:fa env S <;> rw[q] at this <;> exact this
 exact thn (wV he I r re af1 pos) λu s1 ⟨vs,H1,P1,α1,ds,S1,I1,rv,r1,re1,rp,e1,e2,q⟩=>⟨vs,H1,P1,α1,ds,S1,I1,rv,r1,re1,rp,e1,e2,zN.base e1 e2 q⟩
def VH {x:As}{Ae:Af}{e₀:Bw}{rest:Ab Bw}{np cpos:Fh}(hc:X.calm=true)(hF:Fn1 X)(hg:Gl X x)(hm:X.mg x=Aa (.ref C))(hx:m8 X.K C Ae=true)(ha:PA X (e₀::rest) (tDA X fa))
  (hdb:(x == ("__debug__" : As))=false:=by decide) (he:Bd (e₀::rest) X.env=(false,eval e₀ X.env)::Bd rest X.env:=by rfl) (hpl:(Fu cpos (Bd rest X.env)).any (·.1)=false:=by rfl) :
  PS X (.Raise (Aa (.Call (.Name x np) (e₀::rest) [] cpos)) none pos) (tDS X (uD (.ref C) fa)):=by
 intro pins s σ H D I h;obtain⟨P,α,env,S,r,re,af⟩:=h;obtain⟨nm,qn,N,bs,tl,hdct,sn,sub,ab,col,dd,k0,k1,k2,k3,k5,mN,hC,hN,hni,T⟩:=PU I.mod.kin hx;refine wpAny_Raise_call_subT (C:=C) (nm:=nm) (q:=qn) (N:=N) (bs:=bs) (bm:=tl) (hdct:=hdct) (sn:=sn) (sub:=sub) (ab:=ab) (col:=col) (dd:=dd) (k0:=k0) (k1:=k1) (k2:=k2) (k3:=k3) (k5:=k5)
  O6 (mN:=mN) (T.hasType O6.hasBase) (I.ok.hd hc) (by rw[he];show (false||(Fu cpos (Bd rest X.env)).any (·.1))=false;rw[hpl];rfl) hni (jM I hg hm ⟨rfl,?_⟩ hdb)
 have run:=GQ ha I r re af cpos;rw[he] at run ⊢;refine Se (thn run λus s2 ⟨vs,H1,P1,α1,ds,S1,I1,rv,r1,re1,rp,e1,e2,q⟩=>?_);have hl:us.length=ds.length:=by rw[rp.length,rv.length]
 by_cases hz:ds.length≤lim
 ·rw[Bi hz] at q
  refine⟨rfl,by rw[hl,← xP];exact hz,I1.bk _ _ hC,hN.keeps I1.bk,T.keeps I1.bk,λh' e hm=>q _ _ ⟨e,pins,σ,H1,P1,α1,rfl,I1.kept (t':=s2.toks) hm.keeps,r1,qH.refl _,Bn _,hF,.new s2.heap us hm I1.stack λb o eb old=>?_⟩⟩
  obtain⟨o1,q1⟩:=Old.there I1 hF old;have q2:=hm.keeps b o1 q1;rw[eb] at q2;cases q2;exact q1
 ·rw[Bf hz] at q;exact An q
end
section
variable {X:Cx}{pins:Ab (Af × Cs)}{σ : _L.St}{H:Hp}{s:Ah}
def oZ {M:Ks}{A:By}{E:Ad→Ah→Prop}{base h:Bs}{env:Jv}{outer:Ab Jv}{L e:Af}{cls:Ad}{Q:Pk→Ah→Prop}
  (hfr:A.frames=Aa (env::outer)) (hf:env.frame=Aa L) (hkb:base.StaysIn h) (hl:h.FunFrames base (env::outer)) (hx:Rv h s.heap e cls args)
  (hQ:∀ h' a0,Yx base (env::outer) e cls a0 L h'→s.heap.UpToSlots h'→Q () { s with heap:=h' }) : Ao M A (Va (.ref e) env) Q E s:=by
 obtain⟨t,he,htn,ht⟩:=hx.there;have fresh:∀ b,h.get? b=none→base.get? b=none:=λb hb=>by
  cases hq:base.get? b with
  |none=>rfl
  |some o'=>have z:=hkb b o' hq;rw[hb] at z;cases z
 unfold Va;simp only[hf];refine Ac (Dv he rfl (x:=.none) rfl ?_);rw[Bf (by decide)]
 refine wpAny_entryW hfr (hl.of_keeps λb o hb _=>⟨o,hx.keeps b o hb,rfl⟩) hf he (λb o hb=>hx.keeps b o (hkb b o hb)) (fresh e hx.new) rfl (by simp) (a0:=.ref t) rfl λh' hN=>?_
 obtain⟨n1,n2,n3,n4⟩:=hN;exact hQ h' (.ref t) ⟨n1,fresh e hx.new,n2,n3⟩ n4
def U8 {M:Ks}{A:By}{E:Ad→Ah→Prop}{c:Ad}{e:Af}{Q:Pk→Ah→Prop}(I:Inv X pins σ H s)(F:Fn1 X)(hA:A.frames=Aa X.stack)(f:FlyX X pins H c e s.heap)
  (hQ:∀ h' B a0,Nk B X.stack e c a0 h'→Inv X pins σ H { s with heap:=h' } → Cv X pins H B h'→Q () { s with heap:=h' }) :
  Ao M A (Va (.ref e) X.env) (λ_ s₂=>Ao M A (Vb (.ref e) none) Q E s₂) E s:=by
 have land:∀ (B:Bs) (a0:Ad) (h1:Bs),Cv X pins H B s.heap→Yx B X.stack e c a0 X.env.locals h1→s.heap.UpToSlots h1→Ao M A (Vb (.ref e) none) Q E { s with heap:=h1 }:=λB a0 h1 cv hh up=>by
  refine wpAny_landsW (s:={ s with heap:=h1 }) hh λh2 f2 u2=>?_
  obtain⟨I2,cv2⟩:=Inv.fly I F cv f2.1 (up.trans u2);exact hQ h2 B a0 f2 I2 cv2
 cases f with
 |new g args hm hf hk =>
  obtain⟨k1,k2,k3⟩:=W1 I hm hf hk;rw[F.2.1] at hA;exact oZ hA F.2.2 k1 (by rw[← F.2.1];exact k2) hm λh' a0 x1 x2=>land _ a0 h' k3 (F.2.1▸x1) x2
 |fly B a0 fl cv =>
  rw[F.2.1] at hA;exact wpAny_looks_onW hA F.2.2 (by rw[← F.2.1];exact fl) λh' x1 x2=>land B a0 h' cv (by rw[F.2.1];exact x1) x2
def aD {B:Bs}{c a0:Ad}{e:Af}(I:Inv X pins σ H s)(F:Fn1 X)(fl:Nk B X.stack e c a0 s.heap)(cv:Cv X pins H B s.heap):¬ Old X pins H e∧e ∉ frs X.stack∧∃ ob,s.heap.get? e=Aa ob∧ob.cls=c:=by
 obtain⟨oe,vs,he,hc,hd,_⟩:=fl.first
 have nf:e ∉ frs X.stack:=λz=>by
  obtain⟨_,o,ho,hn⟩:=I.stack.mem z;rw[he] at ho;cases ho;exact hn vs hd
 refine⟨λz=>?_,nf,oe,he,hc⟩;have q:=cv e oe he z nf;rw[fl.2.1] at q;cases q
def Inv.track {e:Af}{c:Ad}{ob:Cs}(I:Inv X pins σ H s)(F:Fn1 X)(no:¬ Old X pins H e)(nf:e ∉ frs X.stack)(he:s.heap.get? e=Aa ob)(hc:ob.cls=c):Inv X pins σ (upd H e (rL e c)) s:=by
 have hn:H e=none:=by
  cases q:H e with
  |none=>rfl
  |some u=>exact absurd (.inr (.inl (by rw[q];intro z;cases z))) no
 have nL:e≠X.env.locals:=λz=>nf (F.mem.mpr (.inl z));have n0:∀ b o,X.s₀.heap.get? b=Aa o→b≠e:=λb o q z=>no (.inl ⟨o,z▸q⟩);refine⟨I.ok,I.os,I.bare,⟨I.base.keep,I.base.slot,λb o q n hx=>?_,I.base.there,λb xs q=>?_,λb o xs q=>?_,λb ps q=>?_⟩,I.loc,I.cell,?_,λx k q=>?_,λp hp=>?_,λb u q=>?_,I.len⟩
 ·rw[qR (n0 b o q)];exact I.base.free b o q n hx
 ·have z:=I.base.tups b xs q
  rw[qR (zK z hn)];exact z
 ·have z:=I.base.frzs b o xs q
  rw[qR (zK z hn)];exact z
 ·obtain⟨m,z⟩:=I.base.tbls b ps q
  exact⟨m,by rw[qR (zK z hn)];exact z⟩
 ·rw[qR (Gx nL)];exact I.free
 ·have z:k≠e:=λz=>no (.inr (.inr (.inr ⟨x,z▸q⟩)))
  rw[qR z];exact I.freeC x k q
 ·obtain⟨a1,a2,a3,a4,a5⟩:=I.pin p hp
  have z:p.1≠e:=λz=>no (.inr (.inr (.inl ⟨p,hp,z⟩)));exact⟨a1,by rw[qR z];exact a2,a3,a4,a5⟩
 ·by_cases hb:b=e
  ·subst hb
   rw[zE] at q;cases q;refine⟨⟨ob,he,hc⟩,⟨ob,he⟩,λh1 h2 ⟨o,q1,q2⟩ k=>⟨o,k o q1,q2⟩⟩
  ·rw[qR hb] at q
   exact(I.hok b u q).stay (λ_ _ _ z=>z) (λk z=>by rw[qR (zK z hn)];exact z) λk xs z=>by rw[qR (zK z hn)];exact z
def Inv.gone {i t':Ai}{n:As}{h':Bs}(I:Inv X pins σ H s)(hN:X.N.Nodup)(hi:X.N[i]? = Aa n){m:As→Am Ad}{v:Am Ad}(hl:∀ (j:Ai) (y:As) (w:V),X.N[j]? = Aa y→σ[j]? = Aa (Aa w)→Vis X.env.scope y→∃ u,qL w u∧MR X.env s.heap m y u)(hv:h'.Ns X.env.locals λy=>if y=n then v else m y)(sb:Ex X.env.locals s.heap h') :
  Inv X pins (σ.set i none) H { s with heap:=h',toks:=t' }:=by
 have neL:∀ b o,X.s₀.heap.get? b=Aa o→b≠X.env.locals:=λb o e=>Cj (Bv (Ax e) I.ok.above);have kp:∀ b o,b≠X.env.locals→s.heap.get? b=Aa o→h'.get? b=Aa o:=λb o n e=>(sb.2 b n).trans e;refine⟨I.ok,I.os,I.bare,⟨λb o e n hb hx=>kp b o (neL b o e) (I.base.keep b o e n hb hx),λb o e n hb hx=>?_,I.base.free,λb o e hx=>?_,I.base.tups,I.base.frzs,I.base.tbls⟩,⟨_,hv,λj y w e1 e2 e3=>?_⟩,λx c e=>?_,I.free,I.freeC,λp hp=>?_,λb u q=>?_,by simpa using I.len⟩
 ·obtain⟨sl,q⟩:=I.base.slot b o e n hb hx
  exact⟨sl,kp b _ (neL b o e) q⟩
 ·obtain⟨o',q⟩:=I.base.there b o e hx
  exact⟨o',kp b o' (neL b o e) q⟩
 ·have hj:i≠j:=λz=>by
   subst z;by_cases hs:i<σ.length
   ·rw[Ec hs] at e2;cases e2
   ·rw[Mi (by simp;omega)] at e2;cases e2
  rw[Cp hj] at e2;obtain⟨u,r,l⟩:=hl j y w e1 e2 e3;refine⟨u,r,?_⟩;rcases l with⟨k,z⟩|⟨k,c,z,zc⟩
  ·refine .inl ⟨k,?_⟩
   have:y≠n:=λz=>hj (mH hN hi (z▸e1));simp[this,z]
  ·exact .inr ⟨k,c,z,zc.sameBut sb (I.cne y c z)⟩
 ·obtain⟨w,z⟩:=I.cell x c e
  exact⟨w,z.sameBut sb (I.cne x c e)⟩
 ·obtain⟨e,n,ne,nf,d⟩:=I.pin p hp
  exact⟨kp p.1 p.2 ne e,n,ne,nf,d⟩
 ·refine(I.hok b u q).stay (λc w hc z=>kp c w ?_ z) (λ_ z=>z) λ_ _ z=>z
  rintro rfl;rcases hc with rfl|hc
  ·rw[I.free] at q;cases q
  ·rw[I.free] at hc;cases hc
def aG {A:By}{E:Ad→Ah→Prop}{i:Ai}{n:As}{pos:Fh}{Q:Pk→Ah→Prop}(I:Inv X pins σ H s)(hN:X.N.Nodup)(hi:X.N[i]? = Aa n)(hlo:X.env.scope.names.lookup n=Aa .local)
  (h:∀ s',Inv X pins (σ.set i none) H s'→Q () s'):Ao M A (do Tl X.env n .none;unbindBehindTheSuite X.env n pos) Q E s:=by
 obtain⟨m,hm,hl⟩:=id I.loc;exact wpAny_nameGoes_keeps hlo hm (by rw[I.ok.kind];rfl) λh' v hv sb=>h _ (Inv.gone I hN hi hl hv sb)
end
abbrev Cx.tryIn (X:Cx)(E:Ad→Ah→Prop)(pn:Ab (Af × Cs)):Cx:={ X with xe:=E,pn:=pn }
abbrev Cx.suite (X:Cx)(e:Af):Cx:=Cx.re X (X.A.mark (Aa (.ref e))) false λ_ _=>Fn
def mJ (N i:Ai)(cs:Ab Ad)(f g:DS):DS:=λenv S=>match f env S with
 |.ex c x env1 S1=>if cs.contains c then (match g ((Dm N none).set i (Aa (.exn c))) S1 with
   |.rt d S2=>.rt d S2
   |.nx env2 S2=>.nx (env2.set i none) S2
   |_=>.bad) else .bad
 |o=>o
section
variable {X:Cx}{pins:Ab (Af × Cs)}{σ : _L.St}{H:Hp}{s:Ah}
def Inv.inTry (I:Inv X pins σ H s)(E:Ad→Ah→Prop):Inv (Cx.tryIn X E (X.pn++pins)) [] σ H s:=
 ⟨⟨I.ok.mod,I.ok.kind,I.ok.glob,I.ok.blt,I.ok.above,I.ok.inj,I.ok.has,I.ok.cab,I.ok.hd,I.ok.frames,I.ok.stk,I.ok.exf,I.ok.bs,I.ok.bsz,I.ok.noex,I.ok.exfs,I.ok.funs,I.ok.frf⟩,I.os,I.bare,I.base,I.loc,I.cell,I.free,I.freeC,λp hp=>I.pin p (by simpa using hp),I.hok,I.len⟩
def Inv.outTry {E:Ad→Ah→Prop}(I:Inv (Cx.tryIn X E (X.pn++pins)) more σ H s):Inv X pins σ H s:=
 ⟨⟨I.ok.mod,I.ok.kind,I.ok.glob,I.ok.blt,I.ok.above,I.ok.inj,I.ok.has,I.ok.cab,I.ok.hd,I.ok.frames,I.ok.stk,I.ok.exf,I.ok.bs,I.ok.bsz,I.ok.noex,I.ok.exfs,I.ok.funs,I.ok.frf⟩,I.os,I.bare,I.base,I.loc,I.cell,I.free,I.freeC,λp hp=>I.pin p (Dh _ hp),I.hok,I.len⟩
def SP.outTry {E:Ad→Ah→Prop}{D:Ends}{f:Flow}{s':Ah}(h:SP (Cx.tryIn X E (X.pn++pins)) [] D f s'):SP X pins D f s':=by
 cases f with
 |next=>obtain⟨σ',H',I,q⟩:=h;exact⟨σ',H',Inv.outTry I,q⟩
 |brk=>obtain⟨σ',H',I,q⟩:=h;exact⟨σ',H',Inv.outTry I,q⟩
 |cont=>obtain⟨σ',H',I,q⟩:=h;exact⟨σ',H',Inv.outTry I,q⟩
 |ret u=>obtain⟨v,σ',H',I,r,q⟩:=h;exact⟨v,σ',H',Inv.outTry I,r,q⟩
def FlyX.outTry {E:Ad→Ah→Prop}{c:Ad}{e:Af}{h:Bs}(f:FlyX (Cx.tryIn X E (X.pn++pins)) more H c e h):FlyX X pins H c e h:=by
 have old:∀ b,Old X pins H b→Old (Cx.tryIn X E (X.pn++pins)) more H b:=λb o=>by
  rcases o with o|o|⟨p,hp,z⟩|o
  ·exact .inl o
  ·exact .inr (.inl o)
  ·exact .inr (.inr (.inl ⟨p,Dh _ hp,z⟩))
  ·exact .inr (.inr (.inr o))
 cases f with
 |new g args hm hf hk=>exact .new g args hm hf λb o e q=>hk b o e (old b q)
 |fly B a0 fl cv=>exact .fly B a0 fl λb o e q n=>cv b o e (old b q) n
def WZ {K:Ak}{P:Hp}{α:Ab Af}{n:Ai}(h:σ.length=n):zH K P α σ (Dm n none):=by
 refine⟨by simp[h],λi d e=>?_⟩
 rw[Kv] at e
 split at e <;> cases e
def zH.unset {K:Ak}{P:Hp}{α:Ab Af}{env:qD}(re:zH K P α σ env)(i:Ai):zH K P α (σ.set i none) (env.set i none):=by
 refine⟨by simp[re.1],λj d e=>?_⟩
 by_cases hj:i=j
 ·subst hj
  by_cases hi:i<env.length
  ·rw[Ec hi] at e;cases e
  ·rw[Mi (by simp;omega)] at e;cases e
 ·rw[Cp hj] at e ⊢
  exact re.2 j d e
end
section
variable {X:Cx}{pos:Fh}{f g:DS}
def NN {pins:Ab (Af × Cs)}{D:Ends}{c:Ad}{e C0:Af}{s':Ah}{σ:_L.St}{H P:Hp}{α:Ab Af}{x n:As}{i:Ai}{b₀:Fl}{suite:Ab Fl}{hpos:Fh}
  (F:Fn1 X) (hg:Gl X x) (hm:X.mg x=Aa (.ref C0)) (hcs:∀ c∈cs,IR X.K c (.ref C0)=Aa true) (hN:X.N.Nodup) (hi:X.N[i]? = Aa n) (hlo:X.env.scope.names.lookup n=Aa .local)
  (hs:∀ e,PSs (Cx.suite X e) (b₀::suite) (tDS (Cx.suite X e) g)) (hc:cs.contains c=true) (I:Inv X pins σ H s') (r:Rel X.K H P α S1) (fl:FlyX X pins H c e s'.heap)
  (af:zN X P α (match g ((Dm X.N.length none).set i (Aa (.exn c))) S1 with|.rt d S2=>.rt d S2|.nx env2 S2=>.nx (env2.set i none) S2|_=>.bad) D) (hdb:(x == ("__debug__" : As))=false) :
  Ao (Au X.prog X.w) X.A (Va (.ref e) X.env) (λ_ s₂=>Ao (Au X.prog X.w) X.A (Vb (.ref e) none) (λ_ s₃ =>
   Ao (Au X.prog X.w) X.A (handleBy (.ref e) X.env [.ExceptHandler (Aa (.Name x np)) (Aa n) (b₀::suite) hpos]) (SP X pins D) X.xe s₃) X.xe s₂) X.xe s':=by
 have hcs':IR X.K c (.ref C0)=Aa true:=hcs c (by simpa using hc)
 have Z:∀ {σ : _L.St} {H:Hp} {s:Ah},Inv X pins σ H s→Inv (Cx.suite X e) pins σ H s:=λI=>Inv.re I _ false _ I.ok.frames λz=>nomatch z;refine U8 I F I.ok.frames fl λh5 B a0 f5 I5 cv5=>?_;refine wpAny_handleBy_cons (codeAny_handlers_test (A:=X.A.mark (Aa (.ref e))) (jM (X:=Cx.suite X e) (Z I5) hg hm ?_ hdb)) (by intro q;cases q)
 obtain⟨no5,nf5,ob5,he5,hc5⟩:=aD I5 F f5 cv5;refine(PySem.W.exm_one I5.kIn (by subst hc5;exact(Ze he5).andThen .now) hcs').at ?_
 refine codeAny_handlers_suite_as ?_;refine lands_againW (s:={ s' with heap:=h5 }) f5 λh6 f6 u6=>?_
 obtain⟨I6,cv6⟩:=Inv.fly I5 F cv5 f6.1 u6;obtain⟨no6,nf6,ob6,he6,hc6⟩:=aD I6 F f6 cv6;have J6:Inv X pins σ (upd H e (rL e c)) { s' with heap:=h6 }:=Inv.track I6 F no6 nf6 he6 hc6
 have hn:H e=none:=by
  cases q:H e with
  |none=>rfl
  |some u=>exact absurd (.inr (.inl (by rw[q];intro z;cases z))) no6
 obtain⟨r1,sP⟩:=r.pure (o:=rL e c) hn;refine kI (X:=Cx.suite X e) (v:=.ref e) (Z J6) hN hi (.inl hlo) rfl (λs7 I7=>?_) (.inr hlo);have re7:zH X.K (upd P e (rL e c)) α (σ.set i (Aa (.ref e))) ((Dm X.N.length none).set i (Aa (.exn c))):=(WZ I.len).set i (by simp only[Rep];exact⟨e,rfl,zE⟩)
 refine Ia (hs e pins s7 _ _ { nx:=λσ' H'=>D.nx (σ'.set i none) H',rt:=D.rt } I7 ⟨_,α,_,S1,r1,re7,?_⟩) (λfl s8 q=>?_) λ_ _ z=>An z
 ·cases q:g ((Dm X.N.length none).set i (Aa (.exn c))) S1 with
  |rt d S2=>rw[q] at af;exact λv H' P' α' r' e1 e2 rp=>af v H' P' α' r' (sP.trans e1) e2 rp
  |nx env2 S2=>rw[q] at af;exact λσ' H' P' α' r' re' e1 e2=>af _ H' P' α' r' (zH.unset re' i) (sP.trans e1) e2
  |bk env2 S2=>rw[q] at af;exact An af
  |ct env2 S2=>rw[q] at af;exact An af
  |ex c' x' env2 S2=>rw[q] at af;exact An af
  |bad=>rw[q] at af;exact An af
 ·cases fl with
  |next =>
   obtain⟨σ',H',I8,q⟩:=q;exact aG (Inv.unre I8 I.ok.frames I.ok.hd) hN hi hlo λs9 I9=>⟨_,H',I9,q⟩
  |brk =>
   obtain⟨_,_,_,q⟩:=q;exact An q
  |cont =>
   obtain⟨_,_,_,q⟩:=q;exact An q
  |ret u =>
   obtain⟨v,σ',H',I8,rv,q⟩:=q;exact aG (Inv.unre I8 I.ok.frames I.ok.hd) hN hi hlo λs9 I9=>⟨v,_,H',I9,rv,q⟩
set_option tactic.hygienic true in
def NA {x n:As}{C0:Af}{i:Ai}{b₀:Fl}{suite:Ab Fl}{np hpos:Fh}(F:Fn1 X)(hb:∀ E pn,Re (Au X.prog X.w) X.A X.env E→PSs (Cx.tryIn X E pn) body (tDS (Cx.tryIn X E pn) f))
  (hs:∀ e,PSs (Cx.suite X e) (b₀::suite) (tDS (Cx.suite X e) g)) (hg:Gl X x) (hm:X.mg x=Aa (.ref C0)) (hcs:∀ c∈cs,IR X.K c (.ref C0)=Aa true) (hN:X.N.Nodup) (hi:X.N[i]? = Aa n:=by rfl) (hlo:X.env.scope.names.lookup n=Aa .local:=by rfl)
  (hdb:(x == ("__debug__" : As))=false:=by decide):PS X (.Try body [.ExceptHandler (Aa (.Name x np)) (Aa n) (b₀::suite) hpos] [] [] pos) (tDS X (mJ X.N.length i cs f g)):=by
 intro pins s σ H D I h;obtain⟨P,α,env,S,r,re,af⟩:=h;refine wpAny_Try_except ?_;refine Ia (hb _ (X.pn++pins) (PassesOwn.looking (K:=λe s₂=>Ao (Au X.prog X.w) X.A (Vb e none) (λ_ s₃=>Ao (Au X.prog X.w) X.A (handleBy e X.env [.ExceptHandler (Aa (.Name x np)) (Aa n) (b₀::suite) hpos]) (SP X pins D) X.xe s₃) X.xe s₂) (E₁:=X.xe))
  [] s σ H D (Inv.inTry I _) ⟨P,α,env,S,r,re,?_⟩) (λfl s1 q=>?_) λ_ _ z=>z
 ·unfold mJ at af
  cases q:f env S with
  |rt d S2=>rw[q] at af;exact af
  |nx env2 S2=>rw[q] at af;exact af
  |bk env2 S2=>rw[q] at af;exact af
  |ct env2 S2=>rw[q] at af;exact af
  |bad=>rw[q] at af;exact af
  |ex c x' env2 S2 =>
   rw[q] at af;dsimp only at af;intro u s' k;obtain⟨e,pins',σ',H',P',α',rfl,I',r',e1,e2,F',fl⟩:=k
   split at af
   ·rename_i hc
    exact NN F hg hm hcs hN hi hlo hs hc (Inv.outTry I') r' (FlyX.outTry fl) (zN.base e1 e2 af) hdb
   ·exact An af
 ·have q':=SP.outTry q
  cases fl with
  |next=>exact Na q'
  |brk=>exact q'
  |cont=>exact q'
  |ret u=>exact q'
end
end _D
namespace _D
open PySem PySem.Spec PyProof.Rows _L PySem.W
variable {R:Tn→Ah→Prop}
structure ExnK (K:Ak)(C:Af):Prop where
 ga:findIn K (.ref C) "__getattribute__" = Aa (Aa (.builtin "BaseException.__getattribute__"))
 hk:findIn K (.ref C) "__getattr__" = Aa none
 cl:findIn K (.ref C) "__class__" = Aa (Aa (.builtin "object.__class__"))
 sp:specialIn K (.builtin "object.__class__") "__get__" = Aa (Aa (.builtin "getset_descriptor.__get__"))
 tk:takesIn K (.builtin "object.__class__")=Aa true
 mo:mroIn K C (.type "object")=Aa true
 mb:mroIn K C (.type "BaseException")=Aa true
 isC:(clsIn K C).isSome=true
section
variable {prog:Bl}{w:Bz}{A:By}{E:Ad→Ah→Prop}{s:Ah}{K:Ak}{x C:Af}
abbrev uU (x C:Af)(h:Bs):Prop:=∃ ob,h.get? x=Aa ob∧ob.cls=.ref C
def uU.type {M:Ks}{h:Bs}(I:uU x C h):Looks M h (typeOf (.ref x)) (.ref C):=by
 obtain⟨ob,e,c⟩:=I;rw[← c];exact(Looks.ld e).andThen .now
def VR {M:Ks}{h:Bs}(X:K.In h)(Z:ExnK K C):Looks M h (Yh (.ref x) (.ref C) "__class__") (.bind (.builtin "getset_descriptor.__get__") (.builtin "object.__class__")):=by
 have l1:=Uf (M:=M) X Z.cl;have l2:Looks M h (Yb (Aa (.builtin "object.__class__"))) (Aa (.builtin "getset_descriptor.__get__")):=looks_specialIn X Z.sp;have l3:=looks_takesIn (M:=M) X Z.tk;have l4:Looks M h (Ug (Aa (.builtin "object.__class__")) (Aa (.builtin "getset_descriptor.__get__"))) (Aa (.builtin "getset_descriptor.__get__",.builtin "object.__class__")):=l3.andThen .now;exact l1.andThen (l2.andThen (l4.andThen (Looks.tag .now)))
def PV {tp:Ad}(X:K.In s.heap)(Z:ExnK K C)(I:uU x C s.heap)(h:R (.ok (.ret (.ref C))) s) :
  Jd (Au prog w) A (.call (.builtin "getset_descriptor.__get__") ⟨[.builtin "object.__class__",.ref x,tp],[]⟩) R s:=by
 have LT:=uU.type (M:=Au prog w) I;have LM:=looks_mroIn (M:=Au prog w) X Z.mo;cases s;refine Jw KF.slot_gs.plain KF.entry_gs (KF.slot_gs.check _ _ _ _ _ _ _ _ KF.type_class (KF.args_gs _ _ _) ?_);unfold Hw.«getset_descriptor.__get__» Uh;rw[dga_obj];refine Ac (Al ?_);unfold Sz Qh Qm isInstance;simp only[KF.owner_class]
 repeat lk
 refine⟨Ov _ (by decide +kernel),Gf KF.entry_class ?_⟩
 unfold Hw.«object.__class__» shownTypeOf
 repeat lk
 exact h
def NG {tk:Pu}(X:K.In s.heap)(Z:ExnK K C)(I:uU x C s.heap)(h:R (.ok (.ret (.ref C))) s) :
  Jd (Au prog w) A (.call (.builtin "BaseException.__getattribute__") ⟨[.ref x,.str "__class__" tk],[]⟩) R s:=by
 have LT:=uU.type (M:=Au prog w) I;have LM:=looks_mroIn (M:=Au prog w) X Z.mb;have LF:=VR (M:=Au prog w) (x:=x) X Z;have hk:builtinKind "BaseException.__getattribute__" = Aa .slot:=by decide +kernel
 have hsp:splitId "BaseException.__getattribute__" = Aa ("BaseException","__getattribute__"):=by decide +kernel
 have chk:∀ (A:By) (Q:Pk→Ah→Prop) (E:Ad→Ah→Prop),Q () s→Ao (Au prog w) A (Po "BaseException.__getattribute__" ⟨[.ref x,.str "__class__" tk],[]⟩) Q E s:=by
  intro A Q E hq;have ha:=PySem.F.args_bexc_ga (.ref x) (.str "__class__" tk);simp only[Po,hk,hsp];unfold isInstance;refine Ac (Ac (LT.here (LM.here ?_)))
  repeat (any_goals (first|assumption|wp_step))
 refine Jw Pv.ga.plain PySem.F.entry_bexc_ga (chk _ _ _ ?_);cases s;unfold Hw.«object.__getattribute__»;refine Ac (Mk (show slotArgs "__getattribute__" 1 ⟨[.ref x,.str "__class__" tk],[]⟩=pure (.ref x,[.str "__class__" tk]) from by kernel_rfl) ?_)
 refine Ac (Al (Ac (LT.at (Ac (LF.at ?_)))));show Ao _ _ (OO _ _ _ _) _ _ _;unfold OO;dsimp only;exact Ac (Du (Np (PV X Z I (Al h))))
def X5 {Q:Am Ad→Ah→Prop}(X:K.In s.heap)(Z:ExnK K C)(I:uU x C s.heap)(h:Q (Aa (.ref C)) { s with toks:=s.toks+1 }) : Ao (Au prog w) A (getAttr? (.ref x) "__class__") Q E s:=by
 have LT:=uU.type (M:=Au prog w) I;have L1:=Uf (M:=Au prog w) X Z.ga;have lk2:=Uf (M:=Au prog w) X Z.hk;unfold getAttr? getAttrBy? getAttrBy;cases s;refine Ac (wpAny_mkText (Ac (Ib (Du (Ac (LT.at (Ac (L1.at ?_))))))));dsimp only;have hx2:(Xs "BaseException.__getattribute__" == Xs "object.__getattribute__")=false:=by decide +kernel
 rw[hx2,Oe,Bf Gz];unfold getAttrByItsOwn hookBefore;rw[Bi (show onTheHeap (.ref C)=true from rfl)]
 refine Ac (lk2.at (Ac (Ib (Du ?_))));unfold callGetattribute;rw[Ob,Bf Gz];unfold boundAndCalled;refine Ac (Mk (Pv.ga.bind (.ref x)) ?_);refine Np (NG X Z I ?_);show Ao _ _ (handedOut (.ref C)) _ _ _;exact Al (Al h)
set_option tactic.hygienic true in
def eD (Z:ExnK K C):KitX K (.ref x) (.ref C) (uU x C) where
 ty:=λ_ _ _ I=>I.type
 it:=λM h X _=>by
  have z:=Z.isC;unfold clsIn at z
  split at z
  ·rename_i ho
   intro A' Q' E' s' k q;unfold isType loadHead;exact Ac (wpAny_loadPart (k _ _ (X _ _ ho)) (Al q))
  ·cases z
 ne:=λh tp dd its n sl X htp=>by
  have z:=Z.isC;unfold clsIn at z
  split at z
  ·rename_i ho
   cases hq:(Dc C == Dc tp) with
   |false=>rfl
   |true =>
    obtain rfl:C=tp:=Value.ref.inj (Nq.mp hq);have y:=(X _ _ ho).symm.trans htp;cases y
  ·cases z
 ca:=λX I k=>X5 X Z I k
end
end _D
namespace _D
open PySem PySem.Spec PyProof.Rows _L
variable {cells:Ab (As × Af)}{α α1:Ab Af}{ds:Ab D}{E:Ad→Ah→Prop}{C:Af}{s:Ah}{K:Ak}{w:Bz}{o:Cs}{H P P1:Hp}{S S1:Sto}
def mK {α:Type}{t:Kb α}{Q Q':α→Ah→Prop}{M:Ks}{A:By}(h:Ao M A t Q (λ_ _=>Fn) s)(hQ:∀ a s,Q a s→Q' a s):Ao M A t Q' E s:=Ia h hQ λ_ _ x=>x.elim
def kJ (ifs:Ab Bw)(env:Jv):Kb Ar:=forIn ifs true λc r=>if r=true then do let ok ← Yi c env (eval c env);pure (Jg ok) else pure (Jg r)
def PTs (X:Cx)(ifs:Ab Bw)(t:DT):Prop:=
 ∀ (pins:Ab (Af × Cs)) (s:Ah) (σ : _L.St) (H:Hp) (Q:Ar→Hp→Prop),Inv X pins σ H s→tDT X t σ H Q→Ao (Au X.prog X.w) X.A (kJ ifs X.env) (TP X pins σ Q) X.xe s
def zC:DT:=λ_ S=>.ok true S
section
variable {X:Cx}
def fZ {prog:Bl}{A:By}{env:Jv}{Q:Ar→Ah→Prop}:∀ (ifs:Ab Bw) {s:Ah},Q false s →
  Ao (Au prog w) A (forIn ifs false λc r=>if r=true then do let ok ← Yi c env (eval c env);pure (Jg ok) else pure (Jg r)) Q E s
 |[],s,h=>by rw[Of];exact Al h
 |c::cs,s,h=>by
  rw[Kk];rw[Bf (by simp)]
  refine Ac (Al ?_);exact fZ cs h
def PL:PTs X [] zC:=λpins s σ H Q I ⟨P,α,env,S,r,re,af⟩=>by
 unfold kJ;rw[Of];exact Al ⟨H,I,af H P α r (qH.refl _) (Bn _)⟩
def VJ {c:Bw}{cs:Ab Bw}{t u:DT}(h1:PT X c (tDT X t))(h2:PTs X cs u):PTs X (c::cs) (yW t u):=λpins s σ H Q I ⟨P,α,env,S,r,re,af⟩=>by
 unfold kJ;rw[Kk,Bi rfl];refine Ac (Ac (thn (b7 (λQ' q=>h1 pins s σ H Q' I q) r re af) λb s1 ⟨H1,P1,α1,S1,I1,r1,re1,e1,e2,af1⟩=>Al ?_));cases b with
 |true=>exact h2 pins s1 σ H1 Q I1 ⟨P1,α1,env,S1,r1,re1,vB.base e1 e2 af1⟩
 |false=>exact fZ cs ⟨H1,I1,af1 H1 P1 α1 r1 e1 e2⟩
def CY {e:Bw}{f:DE}{pins:Ab (Af × Cs)}{σ:_L.St}{env:qD}{d:D}(he:PE X e (tD X f))(I:Inv X pins σ H s)(r:Rel X.K H P α S)(re:zH X.K P α σ env)(q:f env S=.ok d S1) :
  Ao (Au X.prog X.w) X.A (eval e X.env) (λu s1=>∃ v H1 P1 α1,Got X pins σ env P α u s1 v H1 P1 α1 d S1) X.xe s:=by
 refine thn (xF (g:=λd S=>Res.ok d S) (Ok:=λd' S'=>d'=d∧S'=S1) he I r re (by rw[q];exact⟨rfl,rfl⟩)) λu s1 ⟨v,H1,P1,α1,d',S',G,h1,h2⟩=>?_
 have e1:d'=d:=h1;have e2:S'=S1:=h2;subst e1;subst e2;exact⟨v,H1,P1,α1,G⟩
def EH {ifs:Ab Bw}{t:DT}{pins:Ab (Af × Cs)}{σ:_L.St}{env:qD}{b:Ar}(he:PTs X ifs t)(I:Inv X pins σ H s)(r:Rel X.K H P α S)(re:zH X.K P α σ env)(q:t env S=.ok b S1) :
  Ao (Au X.prog X.w) X.A (kJ ifs X.env) (λb' s1=>b'=b∧∃ H1 P1 α1,Inv X pins σ H1 s1∧Rel X.K H1 P1 α1 S1∧zH X.K P1 α1 σ env∧qH P P1∧α<+:α1) X.xe s:=by
 refine thn (he pins s σ H (λb' H1=>b'=b∧∃ P1 α1,Rel X.K H1 P1 α1 S1∧zH X.K P1 α1 σ env∧qH P P1∧α<+:α1) I ⟨P,α,env,S,r,re,?_⟩) λb' s1 ⟨H1,I1,e,P1,α1,q1,q2,q3,q4⟩=>⟨e,H1,P1,α1,I1,q1,q2,q3,q4⟩;rw[q];exact λH' P' α' r' e1 e2=>⟨rfl,P',α',r',re.mono e1 e2,e1,e2⟩
def CZ {tg:Bw}{g:DG}{pins:Ab (Af × Cs)}{σ:_L.St}{env env1:qD}{d:D}{v:V}{u:Ad}(hg:PG X tg (tDG X g))(I:Inv X pins σ H s)(r:Rel X.K H P α S)(re:zH X.K P α σ env)(rv:qL v u)
  (rp:Rep X.K P α d v) (q:g d env S=.ok env1 S1) :
  Ao (Au X.prog X.w) X.A (assign tg X.env u) (λ_ s1=>∃ σ1 H1 P1 α1,Inv X pins σ1 H1 s1∧Rel X.K H1 P1 α1 S1∧zH X.K P1 α1 σ1 env1∧qH P P1∧α<+:α1) X.xe s:=by
 refine thn (hg pins s σ H v u (λσ1 H1=>∃ P1 α1,Rel X.K H1 P1 α1 S1∧zH X.K P1 α1 σ1 env1∧qH P P1∧α<+:α1) I rv ⟨P,α,env,S,d,r,re,rp,?_⟩) λ_ s1 ⟨σ1,H1,I1,P1,α1,q1,q2,q3,q4⟩=>⟨σ1,H1,P1,α1,I1,q1,q2,q3,q4⟩;rw[q];exact λσ' H' P' α' r' re' e1 e2=>⟨P',α',r',re',e1,e2⟩
def tY (K:Ak)(P:Hp)(α : Ab Af)(ds:Ab D)(o:Cs):Prop:=∃ (its:Ab Ad) (n:Ai) (vs:Ab V),o={ cls:=.type "list",data:=.seq its.toArray n } ∧ qK vs its∧qF K P α ds vs∧ds.length≤lim
def tY.mono (e:qH P P1)(h:α<+:α1)(a:tY K P α ds o):tY K P1 α1 ds o:=by
 obtain⟨its,n,vs,q1,q2,q3,q4⟩:=a;exact⟨its,n,vs,q1,q2,qF.mono e h _ _ q3,q4⟩
def tY.cell (a:tY K P α ds o):∀ v,o.data≠.cell v:=by
 obtain⟨its,n,vs,rfl,_⟩:=a;intro v z;cases z
def Inv.pin1 {pins:Ab (Af × Cs)}{σ:_L.St}{a:Af}(I:Inv X pins σ H s)(f:wG X pins H a)(e:s.heap.get? a=Aa o)(d:∀ v,o.data≠.cell v):Inv X (pins++[(a,o)]) σ H s:=
 I.pins_of λp hp=>(Ch.mp hp).elim (λz=>I.pin p (Ce _ z)) λz=>by
  have e':p=(a,o):=by simpa using z
  subst e';exact⟨e,f.1,f.2.1,f.2.2.1,d⟩
def Inv.pinned1 {pins:Ab (Af × Cs)}{σ:_L.St}{a:Af}(I:Inv X (pins++[(a,o)]) σ H s):s.heap.get? a=Aa o∧H a=none:=by
 have:=I.pin (a,o) (Ce _ (Ce _ (by simp)))
 exact⟨this.1,this.2.1⟩
end
structure TurnSt (Y:Cx)(pins:Ab (Af × Cs))(P1:Hp)(α1:Ab Af)(fp:Ab Af)(acc:Af)(env:qD)(S:Sto)(ds:Ab D)(s:Ah)(σ : _L.St)(H P:Hp)(α : Ab Af)(o:Cs):Prop where
 inv:Inv Y pins σ H s
 rel:Rel Y.K H P α S
 env:zH Y.K P α σ env
 same:qH P1 P
 pre:α1<+:α
 fpn:∀ b∈fp,H b=none
 acn:H acc=none
 at':s.heap.get? acc=Aa o
 acc:tY Y.K P α ds o
def y8 (cells:Ab (As × Af)):Ab (As × IC)→Ab (As × Af)→Ab (As × Af)
 |[],cs=>cs
 |(n,k)::r,cs=>y8 cells r (if k == .free then (n,(cells.lookup n).getD 0)::cs else cs)
def sA {env:Jv}{scope:Gu}(h:∀ y∈scope.names,y.2=.free→∃ c,env.cells.lookup y.1=Aa c):Xb scope env=pure (y8 env.cells scope.names []):=by
 have go:∀ (l:Ab (As × IC)) (cs:Ab (As × Af)),(∀ y∈l,y.2=.free→∃ c,env.cells.lookup y.1=Aa c) →
   (forIn l cs λx cs=>match x with|(name,kind)=>if (kind == IG)=true then do let a ← cellOf env name;pure (Jg ((name,a)::cs)) else pure (Jg cs):Kb (Ab (As × Af)))=pure (y8 env.cells l cs):=by
  intro l
  induction l with
  |nil=>intro cs _;rfl
  |cons y r ih =>
   intro cs hl;obtain⟨n,k⟩:=y;rw[Kk];by_cases hk:k=.free
   ·subst hk
    obtain⟨c,hc⟩:=hl (n,.free) Df rfl;have hc':env.cells.lookup n=Aa c:=hc;have e:cellOf env n=pure c:=by unfold cellOf;rw[hc']
    simp only[Eg,Dk,e,pure_bind];rw[ih _ λz hz=>hl z (Bq _ hz)];simp only[y8,Eg,Dk,hc',Pp]
   ·have hb:(k == IG)=false:=by simpa using hk
    simp only[hb,Bt,Eh,pure_bind];rw[ih _ λz hz=>hl z (Bq _ hz)];simp only[y8,hb,Bt,Eh]
 unfold Xb;have:=go scope.names [] h;simp only[bind_pure];exact this
def fU {x:As}{c:Af}:∀ (l:Ab (As × IC)) (cs:Ab (As × Af)),(y8 cells l cs).lookup x=Aa c→cs.lookup x=Aa c∨((x,IG)∈l∧c=(cells.lookup x).getD 0)
 |[],cs,h=>.inl h
 |(n,k)::r,cs,h=>by
  rcases fU r _ h with h|⟨h1,h2⟩
  ·by_cases hk:k=.free
   ·subst hk
    simp only[Eg,Dk,IU] at h;cases hb:x == n with
    |true =>
     rw[hb] at h;have e:x=n:=by simpa using hb
     subst e;exact .inr ⟨Df,(Co h).symm⟩
    |false=>rw[hb] at h;exact .inl h
   ·have hb:(k == IG)=false:=by simpa using hk
    simp only[hb,Bt,Eh] at h;exact .inl h
  ·exact .inr ⟨Bq _ h1,h2⟩
def b0 {x:As}:∀ (l:Ab (As × IC)) (cs:Ab (As × Af)),((x,IG)∈l∨∃ c,cs.lookup x=Aa c)→∃ c,(y8 cells l cs).lookup x=Aa c
 |[],cs,h=>by
  rcases h with h|h
  ·cases h
  ·exact h
 |(n,k)::r,cs,h=>by
  refine b0 r _ ?_;rcases h with h|⟨c,h⟩
  ·rcases Aw.mp h with e|h
   ·cases e
    exact .inr ⟨(cells.lookup x).getD 0,by simp only[Eg,Dk,IU]⟩
   ·exact .inl h
  ·by_cases hk:k=.free
   ·subst hk
    simp only[Eg,Dk,IU];cases hb:x == n with
    |true=>exact .inr ⟨_,rfl⟩
    |false=>exact .inr ⟨c,h⟩
   ·have hb:(k == IG)=false:=by simpa using hk
    simp only[hb,Bt,Eh];exact .inr ⟨c,h⟩
structure CompSc (scX:Gu)(NX:Ab As)(scope:Gu)(N':Ab As)(cap:Ab (Am Ai)):Prop where
 kind:scope.kind=.function
 names:∀ y∈scope.names,y.2=.local → scope.names.lookup y.1=Aa .local
 nocell:∀ y∈scope.names,y.2≠.cell
 free:∀ y∈scope.names,y.2=.free→scX.names.lookup y.1=Aa .cell∨scX.names.lookup y.1=Aa .free
 fr2:∀ y∈scope.names,y.2=.free→scope.names.lookup y.1=Aa .free
 len:cap.length=N'.length
 caps:((cap.zip N').all λp=>match p.1 with|none=>true|some i=>NX[i]? == Aa p.2&&scope.names.lookup p.2 == Aa .free)=true
 nd:N'.Nodup
def uG (cap:Ab (Am Ai))(σ : _L.St):_L.St:=cap.map λo=>match o with
 |none=>none
 |some i=>(σ[i]?).join
def x0 (cap:Ab (Am Ai))(env:qD):qD:=cap.map λo=>match o with
 |none=>none
 |some i=>(env[i]?).join
def WY {σ:_L.St}{env:qD}(re:zH K P α σ env)(cap:Ab (Am Ai)):zH K P α (uG cap σ) (x0 cap env):=by
 refine⟨by simp[uG,x0],λj d e=>?_⟩
 unfold x0 at e;unfold uG;rw[Ds] at e ⊢;cases q:cap[j]? with
 |none=>rw[q] at e;cases e
 |some o =>
  rw[q] at e;cases o with
  |none=>cases e
  |some i =>
   have e':(env[i]?).join=Aa d:=by simpa using e
   cases z:env[i]? with
   |none=>rw[z] at e';cases e'
   |some w =>
    rw[z] at e';have e'':w=Aa d:=e';subst e'';obtain⟨v,h1,h2⟩:=re.2 i d z;exact⟨v,by simp[h1],h2⟩
def zF (X:Cx)(N':Ab As)(scope:Gu)(cl:Ab (As × Af))(C:Af)(ex:Ab Af)(s₀:Ah)(H₀:Hp):Cx:=
 { X with N:=N',s₀:=s₀,H₀:=H₀,env:=compEnvC scope cl C X.env,outer:=X.stack,stack:=X.stack,ex:=ex,fn:=λ_=>false,pn:=[],xe:=λ_ _=>Fn }
def kB {scope:Gu}{env:Jv}:∀ {names:Ab (As × IC)} {x:As} {k:IC},
  (names.map λ(n,k)=>if (k == IG&&env.scope.kind == .function&&env.kindOf n == Aa .cell) then (n,Xt) else (n,k)).lookup x=Aa k →
  names.lookup x=Aa k∨(k=.cell∧names.lookup x=Aa .free)
 |[],_,_,h=>by simp at h
 |(n,k0)::r,x,k,h=>by
  rw[Dy,IU] at h;rw[IU];dsimp only at h;cases hb:(k0 == IG&&env.scope.kind == .function&&env.kindOf n == Aa .cell) with
  |true =>
   rw[hb] at h;simp only[Dk] at h;cases hx:x == n with
   |true =>
    rw[hx] at h;have e:Xt=k:=Co h;have hk:k0=.free:=by
     have:=(Br _ _).mp hb;have:=(Br _ _).mp this.1;simpa using this.1
    subst hk;exact .inr ⟨e.symm,rfl⟩
   |false=>rw[hx] at h;exact kB (scope:=scope) h
  |false =>
   rw[hb] at h;simp only[Bt,Eh] at h;cases hx:x == n with
   |true=>rw[hx] at h;exact .inl h
   |false=>rw[hx] at h;exact kB (scope:=scope) h
section
variable {X:Cx}{scope:Gu}{N':Ab As}{cap:Ab (Am Ai)}{pins:Ab (Af × Cs)}{σ : _L.St}{H2:Hp}{s2:Ah}{fp:Ab Af}
def gR (S:CompSc X.env.scope X.N scope N' cap){x:As}{k:IC}(h:(relabel scope X.env).names.lookup x=Aa k):scope.names.lookup x=Aa k∨(k=.cell∧scope.names.lookup x=Aa .free):=kB (scope:=scope) h
def wO (S:CompSc X.env.scope X.N scope N' cap)(ok:X.Ok){x:As}{c:Af}(h:(y8 X.env.cells scope.names []).lookup x=Aa c):X.env.cells.lookup x=Aa c:=by
 rcases fU _ _ h with h|⟨hm,hc⟩
 ·cases h
 ·have:=S.free _ hm rfl
  obtain⟨c',hc'⟩:=ok.has x this;rw[hc',Pp] at hc;rw[hc',hc]
def GO (S:CompSc X.env.scope X.N scope N' cap)(I2:Inv X pins σ H2 s2)(hf:∀ b∈fp,wG X pins H2 b)(hlt:∀ b∈fp,b<s2.heap.objs.size)(hC:s2.heap.objs.size≤C) :
  (zF X N' scope (y8 X.env.cells scope.names []) C fp s2 H2).Ok where
 mod:=I2.ok.mod
 kind:=S.kind
 glob:=I2.ok.glob
 blt:=I2.ok.blt
 above:=hC
 inj:=λx y c h1 h2=>I2.ok.inj x y c (wO S I2.ok h1) (wO S I2.ok h2)
 has:=λx hx=>by
  have hx':(relabel scope X.env).names.lookup x=Aa .cell∨(relabel scope X.env).names.lookup x=Aa .free:=hx;have hf:scope.names.lookup x=Aa .free:=by
   rcases hx' with h|h
   ·rcases gR S h with h|⟨_,h⟩
    ·exact absurd rfl (S.nocell _ (Fx h))
    ·exact h
   ·rcases gR S h with h|⟨z,_⟩
    ·exact h
    ·cases z
  exact b0 _ _ (.inl (Fx hf))
 cab:=λx c h _=>by cases h
 hd:=I2.ok.hd
 frames:=I2.ok.frames
 stk:=.inl rfl
 exf:=λb hb=>⟨Cj (Bv (hlt b hb) hC),λx c h=>(hf b hb).2.2.2.2.1 x c (wO S I2.ok h)⟩
 bs:=I2.bs
 bsz:=Fg I2.ok.bsz I2.sz
 noex:=λb o e hb=>by
  obtain⟨_,_,_,h,_⟩:=hf b hb;rcases h with h|h
  ·exact I2.ok.noex b o e h
  ·exact absurd (Bv (Ax e) (Fg I2.ok.bsz h)) (Er _)
 exfs:=λb hb hb2=>by
  obtain⟨_,h1,h2,_⟩:=hf b hb;rcases Aw.mp (I2.stkSub b hb2) with z|z
  ·exact h1 z
  ·exact h2 z
 funs:=I2.stack
 frf:=I2.stkFree
def V0 {s4:Ah}{m:As→Am Ad}(S:CompSc X.env.scope X.N scope N' cap)(I2:Inv X pins σ H2 s2)(hf:∀ b∈fp,wG X pins H2 b)(hlt:∀ b∈fp,b<s2.heap.objs.size)(hC:s2.heap.objs.size≤C)
  (hn:s4.heap.Ns C m) (os:s4.os=s2.os) (gens:s4.gens=s2.gens) (keep:∀ b o,s2.heap.get? b=Aa o→s4.heap.get? b=Aa o) :
  Inv (zF X N' scope (y8 X.env.cells scope.names []) C fp s2 H2) [] (uG cap σ) H2 s4 where
 ok:=GO S I2 hf hlt hC
 os:=os
 bare:=gens▸I2.bare
 base:=Un.kept keep
 loc:=by
  refine⟨m,hn,λj x v h1 h2 h3=>?_⟩;have h1':N'[j]? = Aa x:=h1;unfold uG at h2;rw[Ds] at h2;cases q:cap[j]? with
  |none=>rw[q] at h2;cases h2
  |some o =>
   rw[q] at h2;cases o with
   |none=>cases h2
   |some i =>
    have e':(σ[i]?).join=Aa v:=by simpa using h2
    have hσ:σ[i]? = Aa (Aa v):=by
     cases z:σ[i]? with
     |none=>rw[z] at e';cases e'
     |some w=>rw[z] at e';have:w=Aa v:=e';rw[this]
    have hz:(Aa i,x)∈cap.zip N':=by
     refine List.mem_iff_getElem?.mpr ⟨j,?_⟩;rw[List.getElem?_zip_eq_some];exact⟨q,h1'⟩
    have hc:=Az.mp S.caps _ hz;simp only[Br,Nq] at hc;obtain⟨hN,hfr⟩:=hc;have hk:=S.free _ (Fx hfr) rfl;obtain⟨mo,hmo,hl⟩:=I2.loc;have vis:Vis X.env.scope x:=by
     rcases hk with k|k
     ·exact .inr (.inl k)
     ·exact .inr (.inr k)
    obtain⟨u,ru,lk⟩:=hl i x v hN hσ vis;refine⟨u,ru,?_⟩;rcases lk with⟨kl,_⟩|⟨_,c,hcl,hcell⟩
    ·have kl':X.env.scope.names.lookup x=Aa .local:=kl
     rcases hk with k|k
     ·have k':X.env.scope.names.lookup x=Aa .cell:=k
      rw[kl'] at k';cases k'
     ·have k':X.env.scope.names.lookup x=Aa .free:=k
      rw[kl'] at k';cases k'
    ·obtain⟨c',hc'⟩:=b0 (cells:=X.env.cells) scope.names [] (.inl (Fx hfr))
     have e2:=wO S I2.ok hc';rw[hcl] at e2;cases e2;refine .inr ⟨?_,c,hc',?_⟩
     ·have h3':Vis (relabel scope X.env) x:=h3
      rcases h3' with h|h|h
      ·rcases gR S h with h|⟨z,_⟩
       ·rw[hfr] at h;cases h
       ·cases z
      ·exact .inl h
      ·exact .inr h
     ·obtain⟨ob,hob,hd⟩:=hcell
      exact⟨ob,keep c ob hob,hd⟩
 cell:=λx c h=>by
  obtain⟨v,ob,hob,hd⟩:=I2.cell x c (wO S I2.ok h);exact⟨v,ob,keep c ob hob,hd⟩
 free:=I2.hok.fresh hC
 freeC:=λx c h=>I2.freeC x c (wO S I2.ok h)
 pin:=λp hp=>absurd (show p∈([]:Ab (Af × Cs)) from hp) (by simp)
 hok:=I2.hok.kept keep
 len:=by
  show (uG cap σ).length=N'.length;simp[uG,S.len]
end
def XB {P:Bl}{h:Bs}{a:Af}{o:HO}(x:HOk P w H h)(hn:H a=none)(new:zT P w (upd H a o) h a o):HOk P w (upd H a o) h:=λb u e=>by
 by_cases hb:b=a
 ·subst hb;rw[zE] at e;cases e;exact new
 ·rw[qR hb] at e
  exact(x b u e).stay (λc v _ q=>q) (λc q=>by rw[qR (zK q hn)];exact q) λc xs q=>by rw[qR (zK q hn)];exact q
def XA {P:Bl}{h h':Bs}(x:HOk P w H h)(hn:H C=none)(k:∀ b o,b≠C→h.get? b=Aa o→h'.get? b=Aa o):HOk P w H h':=λb u e =>
 (x b u e).stay (λc v hc q=>k c v (by
  rintro rfl;rcases hc with z|z
  ·subst z;rw[hn] at e;cases e
  ·rw[hn] at z;cases z) q) (λ_ q=>q) λ_ _ q=>q
section
variable {X:Cx}{elt tg iter:Bw}{ifs:Ab Bw}{scope:Gu}{pos:Fh}{N':Ab As}{cap:Ab (Am Ai)}{fi:DI}{g:DG}{t:DT}{fe:DE}
def bR (X:Cx)(pins:Ab (Af × Cs))(σ : _L.St)(P1:Hp)(α1:Ab Af)(ds:Ab D)(SF:Sto)(acc C:Af)(s:Ah):Prop:=
 ∃ (H' P':Hp) (α' : Ab Af) (vs:Ab V),Inv X pins σ (upd H' acc (.lst vs)) s∧Rel X.K H' P' α' SF∧H' acc=none∧qH P1 P'∧α1<+:α'∧qF X.K P' α' ds vs∧H' C=none
def YZ {Y:Cx}{pins:Ab (Af × Cs)}{σ σ':_L.St}{H2:Hp}{s2 s':Ah}{fp:Ab Af}{acc:Af}{H' P':Hp}{α':Ab Af}{envF:qD}{SF:Sto}{cl:Ab (As × Af)}(I2:Inv X pins σ H2 s2)
  (hf:∀ b∈fp,wG X pins H2 b) (hY:Y=zF X N' scope cl C fp s2 H2) (hC:s2.heap.objs.size≤C) (hA:s2.heap.objs.size≤acc) (hne:acc≠C) (st:TurnSt Y [] P1 α1 fp acc envF SF ds s' σ' H' P' α' o)
  {h':Bs} (sb:Ex C s'.heap h'):bR X pins σ P1 α1 ds SF acc C { s' with heap:=h' }:=by
 subst hY;obtain⟨its,n,vs,rfl,rv,rp,hz⟩:=st.acc;have kC:∀ b o,b≠C→s'.heap.get? b=Aa o→h'.get? b=Aa o:=λb o hb e=>(sb.2 b hb).trans e;have nC:∀ b o,s2.heap.get? b=Aa o→b≠C:=λb o e=>Cj (Bv (Ax e) hC);have nA:∀ b o,s2.heap.get? b=Aa o→b≠acc:=λb o e=>Cj (Bv (Ax e) hA);have base:Un (frs X.stack) fp H2 H' s2.heap s'.heap:=st.inv.base;have nt:∀ b u,H' b=Aa u→b≠acc:=λb u e=>zK e st.acn;have un:Un (frs X.stack) fp H2 (upd H' acc (.lst vs)) s2.heap h':=by
  refine⟨λb ob q hn hb hx=>kC b ob (nC b ob q) (base.keep b ob q hn hb hx),λb ob q hn hb hx=>?_,λb ob q hn hx=>?_,λb ob q hx=>?_,λb xs q=>?_,λb ob u q=>?_,λb ps q=>?_⟩
  ·obtain⟨sl,e⟩:=base.slot b ob q hn hb hx
   exact⟨sl,kC b _ (nC b ob q) e⟩
  ·rw[qR (nA b ob q)];exact base.free b ob q hn hx
  ·obtain⟨o',e⟩:=base.there b ob q hx
   exact⟨o',kC b o' (nC b ob q) e⟩
  ·have:=base.tups b xs q;rw[qR (nt _ _ this)];exact this
  ·have:=base.frzs b ob u q;rw[qR (nt _ _ this)];exact this
  ·obtain⟨more,e⟩:=base.tbls b ps q
   exact⟨more,by rw[qR (nt _ _ e)];exact e⟩
 have hok':HOk X.prog X.w H' h':=XA st.inv.hok st.inv.free kC;have hat:h'.get? acc=Aa { cls:=.type "list",data:=.seq its.toArray n }:=kC acc _ hne st.at';have hok:HOk X.prog X.w (upd H' acc (.lst vs)) h':=XB hok' st.acn ⟨by rw[← rp.length,← xP];exact hz,its,n,rv,hat⟩
 refine⟨H',P',α',vs,?_,st.rel,st.acn,st.same,st.pre,rp,st.inv.free⟩;exact I2.call' (s':={ s' with heap:=h' }) (ch:=fp) (st.inv.os) un hok st.inv.bare λb hb=>by
  obtain⟨_,h1,h2,h3,h4,h5⟩:=hf b hb;exact⟨h3,h1,h4,h5⟩
def cW (S:CompSc X.env.scope X.N scope N' cap)(ok:X.Ok):Xb scope X.env=pure (y8 X.env.cells scope.names []):=sA λy hy hk=>ok.has y.1 (S.free y hy hk)
def PN {pins:Ab (Af × Cs)}{σ:_L.St}{SF:Sto}{acc:Af}{Q:VK}(c:bR X pins σ P1 α1 ds SF acc C s)(ok:OkV X P1 α1 Q (.lst ds) SF):EP X pins σ Q (.ref acc) s:=by
 obtain⟨H',P',α',vs,I,r,hn,e1,e2,rp,_⟩:=c;exact⟨.ref acc,_,I,rfl,yQ r hn rp λv H2 P2 α2 r2 q1 q2 q3=>ok v H2 P2 α2 r2 (e1.trans q1) (e2.trans q2) q3⟩
end
end _D
section
namespace _D
open PySem PySem.Spec PyProof.Rows _L PySem.SeqAt
def b01 (b:Ar):Aj:=if b then 1 else 0
mutual
def eqD:D→D→Ar
 |.non,.non=>true
 |.bl a,.bl b=>a == b
 |.bl a,.int b=>b01 a == b
 |.int a,.bl b=>a == b01 b
 |.int a,.int b=>a == b
 |.str a,.str b=>a == b
 |.tup xs,.tup ys=>xV xs ys
 |.lst xs,.lst ys=>xV xs ys
 |_,_=>false
def xV:Ab D→Ab D→Ar
 |[],[]=>true
 |x::xs,y::ys=>eqD x y&&xV xs ys
 |_,_=>false
end
def pl:Ai→D→Ar
 |_,.non=>true
 |_,.bl _=>true
 |_,.int _=>true
 |_,.str _=>true
 |n+1,.tup xs=>xs.all (pl n)
 |n+1,.lst xs=>xs.all (pl n)
 |_,_=>false
def X1 (x y:D)(xs ys:Ab D):xV (x::xs) (y::ys)=(eqD x y&&xV xs ys):=rfl
def vK:∀ (xs ys:Ab D),xV xs ys=((Dq (min xs.length ys.length)).all (λj=>eqD (xs.getD j .non) (ys.getD j .non))&&xs.length == ys.length)
 |[],[]=>rfl
 |[],y::ys=>rfl
 |x::xs,[]=>rfl
 |x::xs,y::ys=>by
  have ih:=vK xs ys;rw[X1,ih,Ci,Ci,Nat.succ_min_succ,Lw,Ml,IY,Bool.and_assoc];have e:(xs.length+1 == ys.length+1)=(xs.length == ys.length):=by simp
  rw[e];rfl
def VQ {xs ys:Ab D}(h:xs.length≠ys.length):xV xs ys=false:=by
 rw[vK];simp[h]
def nN (xs ys:Ab D):eqD (.tup xs) (.tup ys)=xV xs ys:=rfl
def nM (xs ys:Ab D):eqD (.lst xs) (.lst ys)=xV xs ys:=rfl
section
variable {X:Cx}{pins:Ab (Af × Cs)}{σ : _L.St}{H P:Hp}{α : Ab Af}{S:Sto}{s:Ah}
inductive Kd (X:Cx)(P:Hp)(α : Ab Af)(s:Ah):D→Ad→Prop where
 |non:Kd X P α s .non .none
 |bl (b:Ar):Kd X P α s (.bl b) (.bool b)
 |int (i:Aj) (t:Pu):Kd X P α s (.int i) (.int i t)
 |str (x:As) (t:Pu):Kd X P α s (.str x) (.str x t)
 |tup (a:Af) (xs:Ab D) (its:Ab Ad) (vs:Ab V) (rp:qF X.K P α xs vs) (rv:qK vs its) (h:s.heap.IsTuple a its.toArray) (q:SqT X.K P a vs):Kd X P α s (.tup xs) (.ref a)
 |lst (a:Af) (xs:Ab D) (its:Ab Ad) (vs:Ab V) (rp:qF X.K P α xs vs) (rv:qK vs its) (h:s.heap.IsList a its.toArray) (q:SqX X.K P a vs):Kd X P α s (.lst xs) (.ref a)
def vF (I:Inv X pins σ H s)(r:Rel X.K H P α S){n:Ai}{d:D}{v:V}{u:Ad}(h:pl n d=true)(p:Rep X.K P α d v)(rv:qL v u):Kd X P α s d u:=by
 cases d with
 |non=>simp only[Rep] at p;subst p;cases rv;exact .non
 |bl b=>simp only[Rep] at p;subst p;cases rv;exact .bl b
 |int i=>simp only[Rep] at p;subst p;obtain⟨t,rfl⟩:=rv;exact .int i t
 |str x=>simp only[Rep] at p;subst p;obtain⟨t,rfl⟩:=rv;exact .str x t
 |tup xs =>
  simp only[Rep] at p;obtain⟨a,vs,rfl,q,t⟩:=p;cases rv;obtain⟨its,r1,p1,_⟩:=I.tuple (wL r.sub q);exact .tup a xs its vs t r1 p1 q
 |lst xs =>
  simp only[Rep] at p;obtain⟨a,vs,rfl,q,t⟩:=p;cases rv;obtain⟨its,r1,p1,_⟩:=I.list ((w9 r.sub q).l);exact .lst a xs its vs t r1 p1.isList q
 |_=>cases n <;> exact He h
def yB {ds:Ab D}{vs:Ab V}{its:Ab Ad}(rp:qF X.K P α ds vs)(rv:qK vs its){j:Ai}(h:j<its.toArray.size):∃ v,Rep X.K P α (ds.getD j .non) v∧qL v its.toArray[j]∧ds.getD j .non∈ds:=by
 have l1:=rp.length;have l2:=rv.length;have hj:j<its.length:=by simpa using h
 have hd:j<ds.length:=by omega
 obtain⟨v,e1,p⟩:=rp.get (Ap hd);obtain⟨u,e2,q⟩:=rv.get e1;have e3:its.toArray[j]=u:=by
  have:its[j]? = Aa its[j]:=Ap hj;rw[this] at e2;simpa using Co e2
 have e4:ds.getD j .non=ds[j]:=by simp[IH,hd]
 rw[e3,e4];exact⟨v,p,q,Mm hd⟩
def wT {n:Ai}{ds:Ab D}(h:ds.all (pl n)=true){d:D}(hd:d∈ds):pl n d=true:=Az.mp h d hd
def aP {h:Bs}{a:Af}{xs ys:Ay Ad}(h1:h.IsTuple a xs)(h2:h.IsTuple a ys):xs=ys:=by
 obtain⟨o,e,_,n,d⟩:=h1;obtain⟨o',e',_,n',d'⟩:=h2;cases e.symm.trans e';cases d.symm.trans d';rfl
def aM {h:Bs}{a:Af}{xs ys:Ay Ad}(h1:h.IsList a xs)(h2:h.IsList a ys):xs=ys:=by
 obtain⟨o,e,_,n,d⟩:=h1;obtain⟨o',e',_,n',d'⟩:=h2;cases e.symm.trans e';cases d.symm.trans d';rfl
def oT {h:Bs}{a:Af}{xs ys:Ay Ad}(h1:h.IsTuple a xs)(h2:h.IsList a ys):Fn:=by
 obtain⟨o,e,c,_⟩:=h1;obtain⟨o',e',c',_⟩:=h2;cases e.symm.trans e';exact absurd (c.symm.trans c') (by decide)
inductive Seqs (X:Cx)(P:Hp)(α : Ab Af)(xs ys:Ab D)(its its2:Ab Ad):Prop
 |mk (vs ws:Ab V) (rp:qF X.K P α xs vs) (rv:qK vs its) (rp2:qF X.K P α ys ws) (rv2:qK ws its2):Seqs X P α xs ys its its2
def Seqs.len1 {xs ys:Ab D}{its its2:Ab Ad}(q:Seqs X P α xs ys its its2):xs.length=its.length:=by
 obtain⟨vs,ws,rp,rv,_,_⟩:=q;exact rp.length.trans rv.length
def Seqs.len2 {xs ys:Ab D}{its its2:Ab Ad}(q:Seqs X P α xs ys its its2):ys.length=its2.length:=by
 obtain⟨vs,ws,_,_,rp,rv⟩:=q;exact rp.length.trans rv.length
inductive SameR (X:Cx)(P:Hp)(α : Ab Af):D→D→Prop
 |eq {d d':D} (h:eqD d d'=true):SameR X P α d d'
 |tt (xs ys:Ab D) (its:Ab Ad) (q:Seqs X P α xs ys its its):SameR X P α (.tup xs) (.tup ys)
 |ll (xs ys:Ab D) (its:Ab Ad) (q:Seqs X P α xs ys its its):SameR X P α (.lst xs) (.lst ys)
def iP {d d':D}{u:Ad}(k1:Kd X P α s d u)(k2:Kd X P α s d' u):SameR X P α d d':=by
 cases k1 with
 |non=>cases k2;exact .eq rfl
 |bl b=>cases k2;exact .eq (Eg _)
 |int i t=>cases k2;exact .eq (Eg _)
 |str x t=>cases k2;exact .eq (Eg _)
 |tup a xs its vs rp rv h q =>
  cases k2 with
  |tup _ ys its2 ws rp2 rv2 h2 q2 =>
   cases aP h h2;exact .tt xs ys its ⟨vs,ws,rp,rv,rp2,rv2⟩
  |lst _ ys its2 ws rp2 rv2 h2 q2=>exact(oT h h2).elim
 |lst a xs its vs rp rv h q =>
  cases k2 with
  |lst _ ys its2 ws rp2 rv2 h2 q2 =>
   cases aM h h2;exact .ll xs ys its ⟨vs,ws,rp,rv,rp2,rv2⟩
  |tup _ ys its2 ws rp2 rv2 h2 q2=>exact(oT h2 h).elim
def d7 (I:Inv X pins σ H s)(r:Rel X.K H P α S){m:Ai}(ih:∀ (d d':D) (u:Ad),pl m d=true→pl m d'=true→Kd X P α s d u→Kd X P α s d' u→eqD d d'=true){xs ys:Ab D}{its:Ab Ad}(h1:xs.all (pl m)=true)(h2:ys.all (pl m)=true)(q:Seqs X P α xs ys its its):xV xs ys=true:=by
 obtain⟨vs,ws,rp,rv,rp2,rv2⟩:=q;have l1:=rp.length.trans rv.length;have l2:=rp2.length.trans rv2.length;rw[vK,l1,l2,Ui,Br];refine⟨Az.mpr λj hj=>?_,BEq.rfl⟩;have hj:j<its.toArray.size:=Em.mp hj;obtain⟨w1,y1,z1,m1⟩:=yB rp rv hj;obtain⟨w2,y2,z2,m2⟩:=yB rp2 rv2 hj;exact ih _ _ _ (wT h1 m1) (wT h2 m2) (vF I r (wT h1 m1) y1 z1) (vF I r (wT h2 m2) y2 z2)
def aA (I:Inv X pins σ H s)(r:Rel X.K H P α S):∀ (n:Ai) (d d':D) (u:Ad),pl n d=true→pl n d'=true→Kd X P α s d u→Kd X P α s d' u→eqD d d'=true:=by
 intro n
 induction n with
 |zero =>
  intro d d' u h1 h2 k1 k2;cases iP k1 k2 with
  |eq h=>exact h
  |tt=>exact He h1
  |ll=>exact He h1
 |succ m ih =>
  intro d d' u h1 h2 k1 k2;cases iP k1 k2 with
  |eq h=>exact h
  |tt xs ys its q=>exact(nN xs ys).trans (d7 I r ih h1 h2 q)
  |ll xs ys its q=>exact(nM xs ys).trans (d7 I r ih h1 h2 q)
structure E3 (A:By)(s:Ah)(u u':Ad)(b:Ar):Prop where
 eq:EqAt A s u u' b
 rc:RcAt A s u u' b
 ne:RcNeAt A s u u' (!b)
inductive EqR (X:Cx)(P:Hp)(α : Ab Af)(A:By)(s:Ah):D→D→Ad→Ad→Prop
 |of {d d':D} {u u':Ad} (b:Ar) (e:eqD d d'=b) (h:E3 A s u u' b):EqR X P α A s d d' u u'
 |tt (a b:Af) (xs ys:Ab D) (its its2:Ab Ad) (ha:s.heap.IsTuple a its.toArray) (hb:s.heap.IsTuple b its2.toArray) (q:Seqs X P α xs ys its its2):EqR X P α A s (.tup xs) (.tup ys) (.ref a) (.ref b)
 |ll (a b:Af) (xs ys:Ab D) (its its2:Ab Ad) (ha:s.heap.IsList a its.toArray) (hb:s.heap.IsList b its2.toArray) (q:Seqs X P α xs ys its its2):EqR X P α A s (.lst xs) (.lst ys) (.ref a) (.ref b)
def K6 {A:By}{d d':D}{u u':Ad}(hu:A.units<Fi)(k1:Kd X P α s d u)(k2:Kd X P α s d' u'):EqR X P α A s d d' u u':=by
 cases k1 with
 |non  =>
  cases k2 with
  |non  => exact .of _ rfl ⟨Xu _,RcAt.none_none,RcNeAt.none_none⟩
  |bl b=>exact .of _ rfl ⟨EqAt.none_bool b,RcAt.none_bool b,RcNeAt.none_bool b⟩
  |int b tb=>exact .of _ rfl ⟨EqAt.none_int b tb,RcAt.none_int b tb,RcNeAt.none_int b tb⟩
  |str b tb=>exact .of _ rfl ⟨EqAt.none_str b tb,RcAt.none_str b tb,RcNeAt.none_str b tb⟩
  |tup b ys its2 ws rp2 rv2 hb qb=>exact .of _ rfl ⟨EqAt.none_tuple hb hu,RcAt.none_tuple hb hu,RcNeAt.none_tuple hb hu⟩
  |lst b ys its2 ws rp2 rv2 hb qb=>exact .of _ rfl ⟨EqAt.none_list hb hu,RcAt.none_list hb hu,RcNeAt.none_list hb hu⟩
 |bl a =>
  cases k2 with
  |non  => exact .of _ rfl ⟨EqAt.bool_none a,RcAt.bool_none a,RcNeAt.bool_none a⟩
  |bl b=>exact .of _ rfl ⟨EqAt.bool_bool a b,RcAt.bool_bool a b,RcNeAt.bool_bool a b⟩
  |int b tb=>exact .of _ rfl ⟨EqAt.bool_int a b tb,RcAt.bool_int a b tb,RcNeAt.bool_int a b tb⟩
  |str b tb=>exact .of _ rfl ⟨EqAt.bool_str a b tb,RcAt.bool_str a b tb,RcNeAt.bool_str a b tb⟩
  |tup b ys its2 ws rp2 rv2 hb qb=>exact .of _ rfl ⟨EqAt.bool_tuple a hb hu,RcAt.bool_tuple a hb hu,RcNeAt.bool_tuple a hb hu⟩
  |lst b ys its2 ws rp2 rv2 hb qb=>exact .of _ rfl ⟨EqAt.bool_list a hb hu,RcAt.bool_list a hb hu,RcNeAt.bool_list a hb hu⟩
 |int a ta =>
  cases k2 with
  |non  => exact .of _ rfl ⟨EqAt.int_none a ta,RcAt.int_none a ta,RcNeAt.int_none a ta⟩
  |bl b=>exact .of _ rfl ⟨EqAt.int_bool a ta b,RcAt.int_bool a ta b,RcNeAt.int_bool a ta b⟩
  |int b tb=>exact .of _ rfl ⟨EqAt.int_int a ta b tb,RcAt.int_int a ta b tb,RcNeAt.int_int a ta b tb⟩
  |str b tb=>exact .of _ rfl ⟨EqAt.int_str a ta b tb,RcAt.int_str a ta b tb,RcNeAt.int_str a ta b tb⟩
  |tup b ys its2 ws rp2 rv2 hb qb=>exact .of _ rfl ⟨EqAt.int_tuple a ta hb hu,RcAt.int_tuple a ta hb hu,RcNeAt.int_tuple a ta hb hu⟩
  |lst b ys its2 ws rp2 rv2 hb qb=>exact .of _ rfl ⟨EqAt.int_list a ta hb hu,RcAt.int_list a ta hb hu,RcNeAt.int_list a ta hb hu⟩
 |str a ta =>
  cases k2 with
  |non  => exact .of _ rfl ⟨EqAt.str_none a ta,RcAt.str_none a ta,RcNeAt.str_none a ta⟩
  |bl b=>exact .of _ rfl ⟨EqAt.str_bool a ta b,RcAt.str_bool a ta b,RcNeAt.str_bool a ta b⟩
  |int b tb=>exact .of _ rfl ⟨EqAt.str_int a ta b tb,RcAt.str_int a ta b tb,RcNeAt.str_int a ta b tb⟩
  |str b tb=>exact .of _ rfl ⟨EqAt.str_str a ta b tb,RcAt.str_str a ta b tb,RcNeAt.str_str a ta b tb⟩
  |tup b ys its2 ws rp2 rv2 hb qb=>exact .of _ rfl ⟨EqAt.str_tuple a ta hb hu,RcAt.str_tuple a ta hb hu,RcNeAt.str_tuple a ta hb hu⟩
  |lst b ys its2 ws rp2 rv2 hb qb=>exact .of _ rfl ⟨EqAt.str_list a ta hb hu,RcAt.str_list a ta hb hu,RcNeAt.str_list a ta hb hu⟩
 |tup a xs its vs rp rv ha qa =>
  cases k2 with
  |non  => exact .of _ rfl ⟨EqAt.tuple_none ha hu,RcAt.tuple_none ha hu,RcNeAt.tuple_none ha hu⟩
  |bl b=>exact .of _ rfl ⟨EqAt.tuple_bool b ha hu,RcAt.tuple_bool b ha hu,RcNeAt.tuple_bool b ha hu⟩
  |int b tb=>exact .of _ rfl ⟨EqAt.tuple_int b tb ha hu,RcAt.tuple_int b tb ha hu,RcNeAt.tuple_int b tb ha hu⟩
  |str b tb=>exact .of _ rfl ⟨EqAt.tuple_str b tb ha hu,RcAt.tuple_str b tb ha hu,RcNeAt.tuple_str b tb ha hu⟩
  |tup b ys its2 ws rp2 rv2 hb qb=>exact .tt a b xs ys its its2 ha hb ⟨vs,ws,rp,rv,rp2,rv2⟩
  |lst b ys its2 ws rp2 rv2 hb qb=>exact .of _ rfl ⟨EqAt.tuple_list ha hb hu,RcAt.tuple_list ha hb hu,RcNeAt.tuple_list ha hb hu⟩
 |lst a xs its vs rp rv ha qa =>
  cases k2 with
  |non  => exact .of _ rfl ⟨EqAt.list_none ha hu,RcAt.list_none ha hu,RcNeAt.list_none ha hu⟩
  |bl b=>exact .of _ rfl ⟨EqAt.list_bool b ha hu,RcAt.list_bool b ha hu,RcNeAt.list_bool b ha hu⟩
  |int b tb=>exact .of _ rfl ⟨EqAt.list_int b tb ha hu,RcAt.list_int b tb ha hu,RcNeAt.list_int b tb ha hu⟩
  |str b tb=>exact .of _ rfl ⟨EqAt.list_str b tb ha hu,RcAt.list_str b tb ha hu,RcNeAt.list_str b tb ha hu⟩
  |tup b ys its2 ws rp2 rv2 hb qb=>exact .of _ rfl ⟨EqAt.list_tuple ha hb hu,RcAt.list_tuple ha hb hu,RcNeAt.list_tuple ha hb hu⟩
  |lst b ys its2 ws rp2 rv2 hb qb=>exact .ll a b xs ys its its2 ha hb ⟨vs,ws,rp,rv,rp2,rv2⟩
def E3.cast {A:By}{u u':Ad}{b c:Ar}(e:c=b)(h:E3 A s u u' b):E3 A s u u' c:=e▸h
def RS {A:By}{a b:Af}{xs ys:Ab D}{its its2:Ab Ad}(hu:A.units<Fi)(ha:s.heap.IsTuple a its.toArray)(hb:s.heap.IsTuple b its2.toArray)(l1:xs.length=its.length)(l2:ys.length=its2.length)
  (sub:∀ j (h1:j<its.toArray.size) (h2:j<its2.toArray.size),EqAt A.in1 s its.toArray[j] its2.toArray[j] (eqD (xs.getD j .non) (ys.getD j .non))) (same:a=b→xV xs ys=true):E3 A s (.ref a) (.ref b) (xV xs ys):=by
 have e:xV xs ys=((Dq (min its.toArray.size its2.toArray.size)).all (λj=>eqD (xs.getD j .non) (ys.getD j .non))&&its.toArray.size == its2.toArray.size):=by rw[vK,l1,l2];rfl
 have R1:=RcAt.tuples ha hb hu sub;have R2:=RcNeAt.tuples ha hb hu sub;rw[← e] at R1 R2;refine⟨?_,R1,R2⟩;by_cases hab:a=b
 ·rw[same hab,hab]
  exact Xu _
 ·exact Yj hab R1
def RQ {A:By}{a b:Af}{xs ys:Ab D}{its its2:Ab Ad}(hu:A.units<Fi)(ha:s.heap.IsList a its.toArray)(hb:s.heap.IsList b its2.toArray)(l1:xs.length=its.length)(l2:ys.length=its2.length)
  (sub:∀ j (h1:j<its.toArray.size) (h2:j<its2.toArray.size),EqAt A.in1 s its.toArray[j] its2.toArray[j] (eqD (xs.getD j .non) (ys.getD j .non))) (same:a=b→xV xs ys=true):E3 A s (.ref a) (.ref b) (xV xs ys):=by
 have R:RcAt A s (.ref a) (.ref b) (xV xs ys)∧RcNeAt A s (.ref a) (.ref b) (!xV xs ys):=by
  by_cases hl:its.length=its2.length
  ·have e:xV xs ys=(Dq its.toArray.size).all (λj=>eqD (xs.getD j .non) (ys.getD j .non)):=by rw[vK,l1,l2,← hl,Ui,BEq.rfl,Bool.and_true];rfl
   rw[e];exact⟨RcAt.lists ha hb hl hu sub,RcNeAt.lists ha hb hl hu sub⟩
  ·rw[VQ (by rw[l1,l2];exact hl)]
   have hn:(its.toArray.size != its2.toArray.size)=true:=bne_iff_ne.mpr hl;exact⟨RcAt.lists_lengths ha hb hn hu,RcNeAt.lists_lengths ha hb hn hu⟩
 refine⟨?_,R.1,R.2⟩;by_cases hab:a=b
 ·rw[same hab,hab]
  exact Xu _
 ·exact Yj hab R.1
def rJ (I:Inv X pins σ H s)(r:Rel X.K H P α S):∀ (n:Ai) (A:By) (d d':D) (u u':Ad),A.units+n<Fi→pl n d=true→pl n d'=true→Kd X P α s d u→Kd X P α s d' u'→E3 A s u u' (eqD d d'):=by
 intro n
 induction n with
 |zero =>
  intro A d d' u u' hu h1 h2 k1 k2;cases K6 hu k1 k2 with
  |of b e h=>exact h.cast e
  |tt=>exact He h1
  |ll=>exact He h1
 |succ m ih =>
  intro A d d' u u' hu h1 h2 k1 k2;have hu0:A.units<Fi:=Nat.lt_of_le_of_lt (IV _ _) hu;have hu1:A.in1.units+m<Fi:=by show A.units+1+m<Fi;omega
  have sub:∀ {xs ys:Ab D} {its its2:Ab Ad},xs.all (pl m)=true→ys.all (pl m)=true→Seqs X P α xs ys its its2 →
    ∀ j (h1:j<its.toArray.size) (h2:j<its2.toArray.size),EqAt A.in1 s its.toArray[j] its2.toArray[j] (eqD (xs.getD j .non) (ys.getD j .non)):=λ{xs ys its its2} a1 a2 ⟨vs,ws,b1,b2,c1,c2⟩ j g1 g2=>by
   obtain⟨w1,y1,z1,m1⟩:=yB b1 b2 g1;obtain⟨w2,y2,z2,m2⟩:=yB c1 c2 g2;exact(ih A.in1 _ _ _ _ hu1 (wT a1 m1) (wT a2 m2) (vF I r (wT a1 m1) y1 z1) (vF I r (wT a2 m2) y2 z2)).eq
  cases K6 hu0 k1 k2 with
  |of b e h=>exact h.cast e
  |tt a b xs ys its its2 ha hb q=>exact(RS hu0 ha hb q.len1 q.len2 (sub h1 h2 q) λe=>by subst e;exact(nN xs ys).symm.trans (aA I r (m+1) _ _ _ h1 h2 k1 k2)).cast (nN xs ys)
  |ll a b xs ys its its2 ha hb q=>exact(RQ hu0 ha hb q.len1 q.len2 (sub h1 h2 q) λe=>by subst e;exact(nM xs ys).symm.trans (aA I r (m+1) _ _ _ h1 h2 k1 k2)).cast (nM xs ys)
def xM:Ai:=30
def gEq:G2:=λa b S=>if pl xM a&&pl xM b then .ok (.bl (eqD a b)) S else .bad
def gNe:G2:=λa b S=>if pl xM a&&pl xM b then .ok (.bl (!eqD a b)) S else .bad
set_option tactic.hygienic true in
def E5 (hu:X.A.units+64<Fi):OpD X (Dj .Eq) gEq:=by
 intro pins σ H s P α S v u vv uu a b Q I r rv ru pa pb af;unfold gEq at af
 split at af
 ·rename_i h
  rw[Br] at h;exact(rJ I r xM X.A a b vv uu (by unfold xM;omega) h.1 h.2 (vF I r h.1 pa rv) (vF I r h.2 pb ru)).rc _ _ _ _ ⟨.bl _,H,I,rfl,xr af r (by simp only[Rep])⟩
 ·exact An af
set_option tactic.hygienic true in
def KN (hu:X.A.units+64<Fi):OpD X (Dj .NotEq) gNe:=by
 intro pins σ H s P α S v u vv uu a b Q I r rv ru pa pb af;unfold gNe at af
 split at af
 ·rename_i h
  rw[Br] at h;exact(rJ I r xM X.A a b vv uu (by unfold xM;omega) h.1 h.2 (vF I r h.1 pa rv) (vF I r h.2 pb ru)).ne _ _ _ _ ⟨.bl _,H,I,rfl,xr af r (by simp only[Rep])⟩
 ·exact An af
end
end _D
end
namespace _D
open PySem PySem.Spec PyProof.Rows _L
variable {pins:Ab (Af × Cs)}{kvs:Ab (Key × D)}{its us:Ab Ad}{xs ds:Ab D}{vs:Ab V}{s:Ah}{d:D}{v:V}{Q:VK}{σ:_L.St}
section
variable {X:Cx}
def i2 (C:Aj→Aj→Ar)(f:Aj→Aj→D):G2:=λa b S=>match a,b with
 |.int i,.int j=>if C i j then .ok (f i j) S else .bad
 |_,_=>.bad
def KA {C:Aj→Aj→Ar}{f:Aj→Aj→D}{a b:D}{S:Sto}{P:Hp}{α:Ab Af}{Ok:D→Sto→Prop}(h:qI X P α (i2 C f a b S) Ok):∃ i j,a=.int i∧b=.int j∧C i j=true∧Ok (f i j) S:=by
 cases a with
 |int i =>
  cases b with
  |int j =>
   obtain⟨hc,h⟩:=j7 (X:=X) h;exact⟨i,j,rfl,rfl,hc,h⟩
  |_=>exact An h
 |_=>exact An h
def wK {P:Hp}{α:Ab Af}{i:Aj}(r:Rep X.K P α (.int i) v):v=.int i:=by simpa only [Rep] using r
def tJ {f:Ad→Ad→Kb Ad}{C':Aj→Aj→Prop}{v:Aj→Aj→V}{C:Aj→Aj→Ar}{d:Aj→Aj→D}(h:OpR X f (rI C' v))(hC:∀ i j,C i j=true→C' i j)(hv:∀ P α i j,Rep X.K P α (d i j) (v i j)):OpD X f (i2 C d):=
 OpD.of h λH P α S x y a b Q r p1 p2 af=>by
  obtain⟨i,j,rfl,rfl,hc,ok⟩:=KA af;exact⟨i,j,wK p1,wK p2,hC i j hc,xr ok r (hv P α i j)⟩
def bJ {f:Ad→Ad→Kb Ad}{v:Aj→Aj→V}{d:Aj→Aj→D}(h:OpR X f (rI0 v))(hv:∀ P α i j,Rep X.K P α (d i j) (v i j)):OpD X f (i2 (λ_ _=>true) d):=
 OpD.of h λH P α S x y a b Q r p1 p2 af=>by
  obtain⟨i,j,rfl,rfl,_,ok⟩:=KA af;exact⟨i,j,wK p1,wK p2,xr ok r (hv P α i j)⟩
def xN:G2:=i2 (λ_ _=>true) λi j=>.int (i-j)
def LJ:OpD X (Ev .Sub) xN:=bJ LS λP α i j=>by simp only[Rep]
def r8 (i j:Aj):Ar:=decide (-(2 ^ 64)<i∧i<2 ^ 64)||decide (-(2 ^ 64)<j∧j<2 ^ 64)
def BY:OpD X (Ev .Mult) (i2 r8 λi j=>.int (i*j)):=tJ LQ (λi j h=>by
 unfold r8 at h;rw[Qn] at h;rcases h with h|h
 ·exact .inl (Cu h)
 ·exact .inr (Cu h)) λP α i j=>by simp only[Rep]
def MZ (i j:Aj):Ar:=decide (0<j∧j<1073741824)
def v8:G2:=i2 MZ λi j=>.int (i/j)
def LE:OpD X (Ev .FloorDiv) v8:=tJ F3 (λi j h=>(Cu h:0<j∧j<1073741824)) λP α i j=>by simp only[Rep]
def vL:G2:=i2 (λ_ j=>decide (0<j)) λi j=>.int (i % j)
def LH:OpD X (Ev .Mod) vL:=tJ LP (λi j h=>Cu h) λP α i j=>by simp only[Rep]
def T0 (i j:Aj):Ar:=decide (0≤j∧j≤1000000∧i.natAbs<2 ^ 64)
def vM:G2:=i2 T0 λi j=>.int (i ^ j.toNat)
def LI:OpD X (Ev .Pow) vM:=tJ LR (λi j h=>(Cu h:0≤j∧j≤1000000∧i.natAbs<2 ^ 64)) λP α i j=>by simp only[Rep]
def gLt:G2:=i2 (λ_ _=>true) λi j=>.bl (decide (i<j))
def gLe:G2:=i2 (λ_ _=>true) λi j=>.bl (decide (i≤j))
def gGt:G2:=i2 (λ_ _=>true) λi j=>.bl (decide (j<i))
def gGe:G2:=i2 (λ_ _=>true) λi j=>.bl (decide (j≤i))
def KM:OpD X (Dj .Lt) gLt:=bJ ED λP α i j=>by simp only[Rep]
def E9:OpD X (Dj .LtE) gLe:=bJ EC λP α i j=>by simp only[Rep]
def E7:OpD X (Dj .Gt) gGt:=bJ EB λP α i j=>by simp only[Rep]
def E6:OpD X (Dj .GtE) gGe:=bJ EA λP α i j=>by simp only[Rep]
def yM:D→Sto→Res D:=λa S=>match a with
 |.int i=>.ok (.int (-i)) S
 |_=>.bad
def SY:UnD X (Vp .USub) yM:=by
 intro pins σ H s P α S v vv a Q I r rv p af;cases a with
 |int i=>exact SZ pins s σ H v vv Q I rv ⟨i,wK p,xr af r (by simp only[Rep])⟩
 |_=>exact An af
def gIs:G2:=λa b S=>match b with
 |.non=>match a with
  |.non=>.ok (.bl true) S
  |_=>.ok (.bl false) S
 |_=>.bad
def BX {P:Hp}{α:Ab Af}(r:Rep X.K P α d v):decide (v=.non)=(match d with|.non=>true|_=>false):=by
 cases d <;> simp only[Rep] at r
 case non=>subst r;rfl
 case bl=>subst r;rfl
 case int=>subst r;rfl
 case str=>subst r;rfl
 case ty=>subst r;rfl
 case obj=>obtain⟨rfl,_⟩:=r;rfl
 case tup=>obtain⟨a,vs,rfl,_⟩:=r;rfl
 case lst=>obtain⟨a,vs,rfl,_⟩:=r;rfl
 case dct0=>obtain⟨a,rfl,_⟩:=r;rfl
 case loc=>obtain⟨a,rfl,_⟩:=r;rfl
 case exn=>obtain⟨a,rfl,_⟩:=r;rfl
 case fd=>obtain⟨a,o,vs,rfl,_⟩:=r;rfl
def E8:OpD X (Dj .Is) gIs:=OpD.of LO λH P α S x y a b Q r p1 p2 af=>by
 cases b with
 |non =>
  simp only[Rep] at p2;refine⟨p2,?_⟩;rw[BX p1];cases a <;> exact xr af r (by simp only[Rep])
 |_=>exact An af
def qV:G2:=λa b S=>match a,b with
 |.int i,.int j=>.ok (.int (i+j)) S
 |.str x,.str y=>if x.length+y.length≤lim then .ok (.str (x++y)) S else .bad
 |.tup xs,.tup ys=>if xs.length+ys.length≤lim then .ok (.tup (xs++ys)) S else .bad
 |.lst xs,.lst ys=>if xs.length+ys.length≤lim then .ok (.lst (xs++ys)) S else .bad
 |_,_=>.bad
def uH {H P:Hp}{α:Ab Af}{S:Sto}(I:Inv X pins σ H s)(r:Rel X.K H P α S)(p:Rep X.K P α (.tup xs) v) :
  ∃ a vs its,v=.ref a∧SqT X.K P a vs∧qF X.K P α xs vs∧qK vs its∧Oa s.heap a its.toArray∧xs.length=its.length∧xs.length≤lim:=by
 simp only[Rep] at p;obtain⟨a,vs,rfl,q,t⟩:=p;obtain⟨its,rv,p1,z⟩:=I.tuple (wL r.sub q);exact⟨a,vs,its,rfl,q,t,rv,p1,by rw[t.length,rv.length],by rw[t.length,xP];exact z⟩
def vC {H P:Hp}{α:Ab Af}{S:Sto}(I:Inv X pins σ H s)(r:Rel X.K H P α S)(p:Rep X.K P α (.lst xs) v) :
  ∃ a vs its n,v=.ref a∧SqX X.K P a vs∧qF X.K P α xs vs∧qK vs its∧s.heap.get? a=Aa { cls:=.type "list",data:=.seq its.toArray n } ∧ xs.length=its.length∧xs.length≤lim:=by
 simp only[Rep] at p;obtain⟨a,vs,rfl,q,t⟩:=p;have:∃ its n,qK vs its∧s.heap.get? a=Aa { cls:=.type "list",data:=.seq its.toArray n } ∧ vs.length≤sizeLine:=by
  rcases q with q|⟨its,n,e,z,rv⟩
  ·obtain⟨z,its,n,rv,e⟩:=(iM r.sub q).ok I.hok
   exact⟨its,n,rv,e,z⟩
  ·exact⟨its,n,rv,I.kIn _ _ e,z⟩
 obtain⟨its,n,rv,e,z⟩:=this;exact⟨a,vs,its,n,rfl,q,t,rv,e,by rw[t.length,rv.length],by rw[t.length,xP];exact z⟩
def eF {H P:Hp}{α:Ab Af}{S:Sto}(I:Inv X pins σ H s)(r:Rel X.K H P α S)(t:qF X.K P α xs vs)(rv:qK vs its)(hz:xs.length≤lim)
  (ok:OkV X P α Q (.tup xs) S):EP X pins σ Q (.ref s.heap.objs.size) { s with heap:=s.heap.push { cls:=.type "tuple",data:=.seq its.toArray } }:=by
 refine⟨.ref s.heap.objs.size,_,I.laid (t':=s.toks) (o:=.tup vs) (λb ob q=>Ag _ q) (Av _) ⟨by rw[← t.length,← xP];exact hz,its,rv,Us _ _⟩,rfl,pG r (I.hok.fresh (Av _)) t ok⟩
def eE {H P:Hp}{α:Ab Af}{S:Sto}(I:Inv X pins σ H s)(r:Rel X.K H P α S)(t:qF X.K P α xs vs)(rv:qK vs its)(hz:xs.length≤lim)
  (ok:OkV X P α Q (.lst xs) S):EP X pins σ Q (.ref s.heap.objs.size) { s with heap:=s.heap.push { cls:=.type "list",data:=.seq its.toArray } }:=by
 refine⟨.ref s.heap.objs.size,_,I.laid (t':=s.toks) (o:=.lst vs) (λb ob q=>Ag _ q) (Av _) ⟨by rw[← t.length,← xP];exact hz,its,0,rv,Bb _ rfl⟩,rfl,yQ r (I.hok.fresh (Av _)) t ok⟩
def MV {H P:Hp}{α:Ab Af}{S:Sto}{ys:Ab D}{u:V}{vv uu:Ad}(I:Inv X pins σ H s)(r:Rel X.K H P α S)(rv:qL v vv)(ru:qL u uu)(pa:Rep X.K P α (.tup xs) v)(pb:Rep X.K P α (.tup ys) u)(hl:xs.length+ys.length≤lim)(af:OkV X P α Q (.tup (xs++ys)) S) :
  Ao (Au X.prog X.w) X.A (Ev .Add vv uu) (EP X pins σ Q) X.xe s:=by
 obtain⟨a,vs,its,rfl,q1,t1,rv1,h1,l1,_⟩:=uH I r pa;obtain⟨b,ws,its2,rfl,q2,t2,rv2,h2,l2,_⟩:=uH I r pb;cases rv;cases ru;by_cases hx:its=[]
 ·obtain⟨⟨cls,dd,data,sl⟩,ho,hc,n,hd⟩:=id h1
  obtain⟨⟨cls2,dd2,data2,sl2⟩,ho2,hc2,n2,hd2⟩:=id h2;simp only at hc hd hc2 hd2;subst hc hd hc2 hd2;have hxs:xs=[]:=Ky.mp (by rw[l1,hx];rfl)
  subst hxs;exact Ud ⟨_,ho,rfl⟩ ⟨_,ho2,rfl⟩ Pl So Ls Kw (Kq _ _) (tuple_addW0 a b its.toArray its2.toArray n n2 dd dd2 sl sl2 (by simp[hx]))
   ⟨ho,ho2,⟨.ref b,H,I,rfl,xr af r pb⟩⟩
 ·refine _H.cat_tup h1 h2 hx (λz=>⟨.ref a,H,I,rfl,xr af r ?_⟩) (λz=>?_) (by rw[← l1,← l2,← xP];exact hl)
  ·have hys:ys=[]:=Ky.mp (by rw[l2,z];rfl)
   rw[hys,Fo];exact pa
  ·exact eF I r (t1.append t2) (rv1.append rv2) (by rw[Cb];exact hl) af
def MU {H P:Hp}{α:Ab Af}{S:Sto}{ys:Ab D}{u:V}{vv uu:Ad}(I:Inv X pins σ H s)(r:Rel X.K H P α S)(rv:qL v vv)(ru:qL u uu)(pa:Rep X.K P α (.lst xs) v)(pb:Rep X.K P α (.lst ys) u)(hl:xs.length+ys.length≤lim)(af:OkV X P α Q (.lst (xs++ys)) S) :
  Ao (Au X.prog X.w) X.A (Ev .Add vv uu) (EP X pins σ Q) X.xe s:=by
 obtain⟨a,vs,its,n,rfl,q1,t1,rv1,h1,l1,_⟩:=vC I r pa;obtain⟨b,ws,its2,n2,rfl,q2,t2,rv2,h2,l2,_⟩:=vC I r pb;cases rv;cases ru;refine PySem.P.add_list h1 h2 ?_ (by rw[Bc,Bc,← l1,← l2,← xP];exact hl)
 rw[List.append_toArray];exact eE I r (t1.append t2) (rv1.append rv2) (by rw[Cb];exact hl) af
inductive AddV (a b:D)(S:Sto):Prop
 |bad (e:qV a b S=.bad)
 |int (i j:Aj) (ea:a=.int i) (eb:b=.int j)
 |str (x y:As) (ea:a=.str x) (eb:b=.str y)
 |tup (x y:Ab D) (ea:a=.tup x) (eb:b=.tup y)
 |lst (x y:Ab D) (ea:a=.lst x) (eb:b=.lst y)
def CA (a b:D)(S:Sto):AddV a b S:=by
 cases a with
 |int i=>cases b with
  |int j=>exact .int i j rfl rfl
  |_=>exact .bad rfl
 |str i=>cases b with
  |str j=>exact .str i j rfl rfl
  |_=>exact .bad rfl
 |tup i=>cases b with
  |tup j=>exact .tup i j rfl rfl
  |_=>exact .bad rfl
 |lst i=>cases b with
  |lst j=>exact .lst i j rfl rfl
  |_=>exact .bad rfl
 |_=>exact .bad rfl
def LD:OpD X (Ev .Add) qV:=by
 intro pins σ H s P α S v u vv uu a b Q I r rv ru pa pb af;cases CA a b S with
 |bad e=>rw[e] at af;exact An af
 |int i j ea eb =>
  subst ea eb;exact LN pins s σ H v u vv uu Q I rv ru ⟨i,j,wK pa,wK pb,xr af r (by simp only[Rep])⟩
 |str x y ea eb =>
  subst ea eb;obtain⟨hl,af⟩:=j7 (X:=X) af;simp only[Rep] at pa pb;exact Q3 pins s σ H v u vv uu Q I rv ru ⟨x,y,pa,pb,by rw[← xP];exact hl,xr af r (by simp only[Rep])⟩
 |tup xs ys ea eb =>
  subst ea eb;obtain⟨hl,af⟩:=j7 (X:=X) af;exact MV I r rv ru pa pb hl af
 |lst xs ys ea eb =>
  subst ea eb;obtain⟨hl,af⟩:=j7 (X:=X) af;exact MU I r rv ru pa pb hl af
def gIx:G2:=λa b S=>match b with
 |.int k=>match a with
  |.tup xs=>vA (atI xs k) S
  |.lst xs=>vA (atI xs k) S
  |.loc i=>match S[i]? with
   |some (.lst xs)=>vA (atI xs k) S
   |_=>.bad
  |_=>.bad
 |_=>.bad
def n8 {P:Hp}{α:Ab Af}{k:Aj}(rp:qF X.K P α ds vs)(h:atI ds k=Aa d):∃ v,atI vs k=Aa v∧Rep X.K P α d v:=by
 unfold atI at h ⊢;rw[← rp.length];cases q:ixN ds.length k with
 |none=>rw[q] at h;cases h
 |some j =>
  rw[q] at h;obtain⟨v,h1,h2⟩:=rp.get (show ds[j]? = Aa d from h)
  exact⟨v,h1,h2⟩
def NQ:IxD X gIx:=by
 intro value slice pins σ H s P α S v u vv uu a b Q I r rv ru pa pb af hs;cases b with
 |int k =>
  have hk:=wK pb;cases a with
  |tup xs =>
   obtain⟨d,e,ok⟩:=uT (X:=X) af;simp only[Rep] at pa;obtain⟨p,vs,rfl,q,t⟩:=pa;obtain⟨w,e1,rw'⟩:=n8 t e;exact bE value slice pins s σ H _ u vv uu Q I rv ru ⟨p,vs,k,w,rfl,hk,wL r.sub q,e1,xr ok r rw'⟩ hs
  |lst xs =>
   obtain⟨d,e,ok⟩:=uT (X:=X) af;simp only[Rep] at pa;obtain⟨p,vs,rfl,q,t⟩:=pa;obtain⟨w,e1,rw'⟩:=n8 t e;exact aS value slice pins s σ H _ u vv uu Q I rv ru ⟨p,vs,k,w,rfl,hk,(w9 r.sub q).l,e1,xr ok r rw'⟩ hs
  |loc i =>
   obtain⟨xs,hS,af⟩:=pE (X:=X) (f:=λxs=>vA (atI xs k) S) af;obtain⟨d,e,ok⟩:=uT (X:=X) af;simp only[Rep] at pa;obtain⟨p,rfl,q⟩:=pa;obtain⟨vs,z,t⟩:=r.at' i p _ q hS;obtain⟨w,e1,rw'⟩:=n8 t e;exact aS value slice pins s σ H _ u vv uu Q I rv ru ⟨p,vs,k,w,rfl,hk,.of z,e1,xr ok r rw'⟩ hs
  |_=>exact An af
 |_=>exact An af
def nP:G3:=λo i d S=>match o,i with
 |.loc n,.int k=>match S[n]? with
  |some (.lst xs)=>match ixN xs.length k with
   |some j=>.ok () (S.set n (.lst (xs.set j d)))
   |none=>.bad
  |_=>.bad
 |_,_=>.bad
def EY:sU X (sS X nP):=by
 intro pins s σ H o i v ov iv u Q I ro ri rv h;obtain⟨P,α,S,a,b,d,r,pa,pb,pd,af⟩:=h;cases a with
 |loc n =>
  cases b with
  |int k =>
   obtain⟨xs,hS,af⟩:=pE (X:=X) (f:=λxs=>match ixN xs.length k with|some j=>.ok () (S.set n (.lst (xs.set j d)))|none=>.bad) af
   cases hj:ixN xs.length k with
   |none=>rw[hj] at af;exact An af
   |some j =>
    rw[hj] at af;simp only[Rep] at pa;obtain⟨p,rfl,q⟩:=pa;obtain⟨vs,z,t⟩:=r.at' n p _ q hS;refine JG pins s σ H _ i v ov iv u Q I ro ri rv ⟨p,vs,k,j,rfl,wK pb,z,by rw[← t.length];exact hj,?_⟩
    refine af _ P α (r.put (m':=.lst (xs.set j d)) q hS (by intro z;cases z) ⟨vs.set j v,zE,t.set pd j⟩) (qH.refl _) (Bn _)
  |_=>exact An af
 |_=>exact An af
def L3:D→Sto→Am Ai
 |.tup xs,_=>Aa xs.length
 |.lst xs,_=>Aa xs.length
 |.str x,_=>if x.length≤lim then Aa x.length else none
 |.dct0,_=>Aa 0
 |.loc i,S=>match S[i]? with
  |some (.lst xs)=>Aa xs.length
  |_=>none
 |_,_=>none
def rP:DF:=λds S=>match ds with
 |[d]=>match L3 d S with
  |some n=>.ok (.int n) S
  |none=>.bad
 |_=>.bad
end
section
variable {X:Cx}
def yL {P:Hp}{α:Ab Af}(rp:qF X.K P α [d] vs)(rv:qK vs us):∃ v u,vs=[v]∧us=[u]∧Rep X.K P α d v∧qL v u:=by
 obtain⟨v,ws,rfl,p,t⟩:=rp.cons_inv;have:=t.nil_inv;subst this;obtain⟨u,rfl,q⟩:=kU rv;exact⟨v,u,rfl,rfl,p,q⟩
def fM {P:Hp}{α:Ab Af}{e:D}(rp:qF X.K P α [d,e] vs)(rv:qK vs us):∃ v w u x,vs=[v,w]∧us=[u,x]∧Rep X.K P α d v∧Rep X.K P α e w∧qL v u∧qL w x:=by
 obtain⟨v,ws,rfl,p,t⟩:=rp.cons_inv;obtain⟨w,ws,rfl,p',t⟩:=t.cons_inv;have:=t.nil_inv;subst this;obtain⟨u,x,rfl,q,q'⟩:=QZ rv;exact⟨v,w,u,x,rfl,rfl,p,p',q,q'⟩
def oX (d:D)(S:Sto):Am Ai:=match d with
 |.dct0=>none
 |_=>L3 d S
def L4 {H P:Hp}{α:Ab Af}{S:Sto}{n:Ai}(r:Rel X.K H P α S)(p:Rep X.K P α d v)(hn:oX d S=Aa n):MQ X.K v H n:=by
 cases d with
 |str x =>
  cases (show v=.str x from p)
  obtain⟨hl,rfl⟩:=gW hn;exact⟨by rw[← xP];exact hl,rfl⟩
 |tup xs =>
  simp only[Rep] at p;obtain⟨a,ws,rfl,sq,t⟩:=p;cases hn;exact .inr ⟨ws,wL r.sub sq,t.length⟩
 |lst xs =>
  simp only[Rep] at p;obtain⟨a,ws,rfl,sq,t⟩:=p;cases hn;exact .inl ⟨ws,(w9 r.sub sq).l,t.length⟩
 |loc i =>
  simp only[Rep] at p;obtain⟨a,rfl,e⟩:=p;obtain⟨xs,hS,hn⟩:=L6 (f:=λxs=>Aa xs.length) hn;cases hn;obtain⟨ws,z,t⟩:=r.at' i a _ e hS;exact .inl ⟨ws,.of z,t.length⟩
 |_=>exact nn hn
inductive LenD1 (ds:Ab D)(S:Sto)(r:Res D):Prop
 |bad (e:r=.bad)
 |of (d:D) (n:Ai) (ed:ds=[d]) (hn:oX d S=Aa n) (e:r=.ok (.int n) S)
def E0 (ds:Ab D)(S:Sto):LenD1 ds S (match ds with|[.dct0]=>.bad|_=>rP ds S):=by
 cases ds with
 |nil=>exact .bad rfl
 |cons d ds =>
  cases ds with
  |cons _ _=>cases d <;> exact .bad rfl
  |nil =>
   have z:(match [d] with|[D.dct0]=>Res.bad|_=>rP [d] S)=(match oX d S with|some n=>Res.ok (D.int n) S|none=>.bad):=by cases d <;> rfl
   rw[z];cases hn:oX d S with
   |none=>exact .bad rfl
   |some n=>exact .of d n rfl hn rfl
def T7 (hD:Mv):yK X (.builtin "len") (λds S=>match ds with|[.dct0]=>.bad|_=>rP ds S):=by
 intro pins σ H s P α S vs us ds Q I r rv rp af;have af1:qI X P α (match ds with|[D.dct0]=>Res.bad|_=>rP ds S) (OkV X P α Q):=af
 clear af;cases E0 ds S with
 |bad e=>rw[e] at af1;exact An af1
 |of d n ed hn e =>
  rw[e] at af1;subst ed;obtain⟨v,u,rfl,rfl,p,q⟩:=yL rp rv;exact YQ pins s σ H _ _ Q I rv ⟨v,n,rfl,L4 r p hn,xr af1 r (by simp only[Rep])⟩
def tyD:D→Sto→Am Ej
 |.non,_=>Aa "NoneType"
 |.bl _,_=>Aa "bool"
 |.int _,_=>Aa "int"
 |.str _,_=>Aa "str"
 |.tup _,_=>Aa "tuple"
 |.lst _,_=>Aa "list"
 |.dct0,_=>Aa "dict"
 |.loc i,S=>match S[i]? with
  |some (.lst _)=>Aa "list"
  |some (.dct _)=>Aa "dict"
  |_=>none
 |_,_=>none
def w4 (a b:Ej):Ar:=a == b||(a == "bool" && b == "int")
def uS (b:Ej):Ar:=b == "int" || b == "bool" || b == "tuple" || b == "list" || b == "str" || b == "dict"
def NY (a b:Ej):Am Ar:=if (Hv a == Hv b)=true then Aa true else if PySem.W.kitMeta b=true then (fastBuiltinMro a).map (·.contains (.type b)) else none
def tyL:Ab Ej:=["NoneType","bool","int","str","tuple","list","dict"]
def okL:Ab Ej:=["int","bool","tuple","list","str","dict"]
def BI:(tyL.all λa=>okL.all λb=>decide (NY a b=Aa (w4 a b)))=true:=by decide +kernel
def LK {b:Ej}(hb:uS b=true):b∈okL:=by simpa [uS,okL,or_assoc] using hb
def BJ {K:Ak}{a b:Ej}(ha:a∈tyL)(hb:uS b=true):Jt K (.type a) (.type b)=Aa (w4 a b):=
 Cu (p:=NY a b=Aa (w4 a b)) (Az.mp (Az.mp BI a ha) b (LK hb))
def zJ:DF:=λds S=>match ds with
 |[d,.ty b]=>if uS b then match tyD d S with
   |some a=>.ok (.bl (w4 a b)) S
   |none=>.bad
  else .bad
 |_=>.bad
inductive TyV (X:Cx)(H:Hp)(v:V)(a:Ej):Prop
 |of (t:TyOf X.K H v (.type a))
 |tup (p:Af) (vs:Ab V) (e:v=.ref p) (q:SqT X.K H p vs) (ea:a = "tuple")
 |lst (p:Af) (vs:Ab V) (e:v=.ref p) (q:SqL X.K H p vs) (ea:a = "list")
def SX {S:Sto}{a:Ej}(h:tyD d S=Aa a):a∈tyL:=by
 cases d with
 |non=>cases h;exact .head _
 |bl b=>cases h;exact .tail _ (.head _)
 |int i=>cases h;exact .tail _ (.tail _ (.head _))
 |str x=>cases h;exact .tail _ (.tail _ (.tail _ (.head _)))
 |tup xs=>cases h;exact .tail _ (.tail _ (.tail _ (.tail _ (.head _))))
 |lst xs=>cases h;exact .tail _ (.tail _ (.tail _ (.tail _ (.tail _ (.head _)))))
 |dct0=>cases h;exact .tail _ (.tail _ (.tail _ (.tail _ (.tail _ (.tail _ (.head _))))))
 |loc i =>
  rcases lC (f:=λ_=>Aa "list") (g:=λ_=>Aa "dict") h with⟨_,_,h⟩|⟨_,_,h⟩
  ·cases h;exact .tail _ (.tail _ (.tail _ (.tail _ (.tail _ (.head _)))))
  ·cases h;exact .tail _ (.tail _ (.tail _ (.tail _ (.tail _ (.tail _ (.head _))))))
 |_=>exact nn h
def HB {H P:Hp}{α:Ab Af}{S:Sto}{a:Ej}(r:Rel X.K H P α S)(p:Rep X.K P α d v)(h:tyD d S=Aa a):TyV X H v a:=by
 cases d with
 |non=>cases h;cases (show v=.non from p);exact .of .non
 |bl b=>cases h;cases (show v=.bl b from p);exact .of (.bl b)
 |int i=>cases h;cases (show v=.int i from p);exact .of (.int i)
 |str x=>cases h;cases (show v=.str x from p);exact .of (.str x)
 |tup xs =>
  cases h;simp only[Rep] at p;obtain⟨a,vs,e,q,t⟩:=p;exact .tup a vs e (wL r.sub q) rfl
 |lst xs =>
  cases h;simp only[Rep] at p;obtain⟨a,vs,e,q,t⟩:=p;exact .lst a vs e (w9 r.sub q).l rfl
 |dct0 =>
  cases h;simp only[Rep] at p;obtain⟨a,rfl,q⟩:=p;exact .of (.dK (r.sub _ _ q))
 |loc i =>
  simp only[Rep] at p;obtain⟨a,rfl,q⟩:=p;rcases lC (f:=λ_=>Aa "list") (g:=λ_=>Aa "dict") h with⟨xs,hS,h⟩|⟨kvs,hS,h⟩
  ·cases h
   obtain⟨vs,z,t⟩:=r.at' i a _ q hS;exact .of (.lst z)
  ·cases h
   obtain⟨vs,z,t⟩:=r.at' i a _ q hS;exact .of (.dK z)
 |_=>exact nn h
inductive IsiV (ds:Ab D)(S:Sto):Prop
 |bad (e:zJ ds S=.bad)
 |of (d:D) (b a:Ej) (ed:ds=[d,.ty b]) (hb:uS b=true) (ha:tyD d S=Aa a) (e:zJ ds S=.ok (.bl (w4 a b)) S)
def CT (ds:Ab D)(S:Sto):IsiV ds S:=by
 cases ds with
 |nil=>exact .bad rfl
 |cons d ds =>
  cases ds with
  |nil=>exact .bad rfl
  |cons e ds =>
   cases ds with
   |cons _ _=>cases e <;> exact .bad rfl
   |nil =>
    cases e with
    |ty b =>
     have z:zJ [d,.ty b] S=if uS b then (match tyD d S with|some a=>.ok (.bl (w4 a b)) S|none=>.bad) else .bad:=rfl
     by_cases hb:uS b=true
     ·rw[Bi hb] at z
      cases ha:tyD d S with
      |none=>rw[ha] at z;exact .bad z
      |some a=>rw[ha] at z;exact .of d b a rfl hb ha z
     ·rw[Bf hb] at z
      exact .bad z
    |_=>exact .bad rfl
def ZI:yK X (.builtin "isinstance") zJ:=by
 intro pins σ H s P α S vs us ds Q I r rv rp af;cases CT ds S with
 |bad e=>rw[e] at af;exact An af
 |of d b a ed hb ha e =>
  subst ed;rw[e] at af;obtain⟨v,w,u,x,rfl,rfl,p,p',q,q'⟩:=fM rp rv;simp only[Rep] at p';subst p';cases (show x=Hv b from q')
  have kit:=BJ (K:=X.K) (SX ha) hb;have fin:∀ tk,EP X pins σ Q (.bool (w4 a b)) { s with toks:=tk }:=λtk=>⟨.bl _,H,I.tok tk,rfl,xr af r (by simp only[Rep])⟩
  cases HB r p ha with
  |of ht=>exact XD I q ht kit fin
  |tup p' ws e sq ea =>
   subst e ea;cases (show u=Dc p' from q)
   obtain⟨its,rv',⟨o,h1,h2,_⟩,_⟩:=I.tuple sq;exact Ek Ts I.kIn ⟨o,h1,h2⟩ kit (λz=>nomatch z) fin
  |lst p' ws e sq ea =>
   subst e ea;cases (show u=Dc p' from q)
   obtain⟨its,rv',⟨o,_,h1,h2,_⟩,_⟩:=I.list sq;exact Ek OI I.kIn ⟨o,h1,h2⟩ kit (λz=>nomatch z) fin
def xU:Ab D→Am (Ab Ar)
 |[]=>Aa []
 |.bl b::r=>(xU r).map (b::·)
 |_=>none
def vZ {P:Hp}{α:Ab Af}:∀ {ds:Ab D} {bs:Ab Ar} {vs:Ab V} {us:Ab Ad},xU ds=Aa bs→qF X.K P α ds vs→qK vs us→us=bs.map Gg
 |[],bs,vs,us,h,rp,rv=>by
  cases h;have:=rp.nil_inv;subst this;cases rv;rfl
 |d::ds,bs,vs,us,h,rp,rv=>by
  cases d with
  |bl b =>
   obtain⟨bs',q,rfl⟩:=El.mp (show (xU ds).map (b::·)=Aa bs from h)
   obtain⟨w,ws,rfl,p,t⟩:=rp.cons_inv;simp only[Rep] at p;subst p;cases rv with
   |cons q1 q2 =>
    cases (show _=Gg b from q1)
    rw[vZ q t q2];rfl
  |_=>exact nn h
def uN (any:Ar):DF:=λds S=>match ds with
 |[d]=>match (x8 d).bind xU with
  |some bs=>.ok (.bl (if any then bs.any id else bs.all id)) S
  |none=>.bad
 |_=>.bad
def dN (bs:Ab Ar):((Dq bs.length).all λi=>bs.getD i false)=bs.all id:=by
 induction bs with
 |nil=>rfl
 |cons b bs ih =>
  rw[Ci,Lw,Ml,IY,Ml,← ih];rfl
def dO (bs:Ab Ar):((Dq bs.length).any λi=>bs.getD i false)=bs.any id:=by
 induction bs with
 |nil=>rfl
 |cons b bs ih =>
  rw[Ci,Lw,Jf,List.any_map,Jf,← ih];rfl
def dF {H:Hp}{o:Cs}{h':Bs}{tk:Ai}(I:Inv X pins σ H s)(k:∀ b ob,b ∉ [s.heap.objs.size]→(s.heap.push o).get? b=Aa ob→h'.get? b=Aa ob):Inv X pins σ H { s with heap:=h',toks:=tk }:=
 I.kept λb u e=>k b u (by simp;exact Cj (Ax e)) (Ag _ e)
def kS {bs:Ab Ar}(hi:its=bs.map Gg){A:By}:TruthOf X.prog X.w A (λi v=>its.toArray[i]? = Aa v) (λi=>bs.getD i false):=λi v s' Q' E' hv hQ=>by
 subst hi;have hv':(bs.map Gg)[i]? = Aa v:=by simpa using hv
 rw[Ds] at hv';cases e:bs[i]? with
 |none=>rw[e] at hv';exact nn hv'
 |some b =>
  rw[e] at hv';cases Co hv';have:bs.getD i false=b:=by simp[IH,e]
  have hQ':Q' (bs.getD i false) s':=hQ;rw[this] at hQ';exact OH hQ'
def PX {any:Ar}{S:Sto}{P:Hp}{α:Ab Af}{Ok:D→Sto→Prop}(h:qI X P α (uN any ds S) Ok):∃ d xs bs,ds=[d]∧ItV d xs∧xU xs=Aa bs∧Ok (.bl (if any then bs.any id else bs.all id)) S:=by
 obtain⟨d,rfl,h1⟩:=tI (X:=X) (β:=D) (g:=λd=>match (x8 d).bind xU with|some bs=>.ok (D.bl (if any then bs.any id else bs.all id)) S|none=>.bad) h
 cases hb:(x8 d).bind xU with
 |none=>rw[hb] at h1;exact An h1
 |some bs =>
  rw[hb] at h1;obtain⟨xs,hx,hbs⟩:=Ei.mp hb;exact⟨d,xs,bs,rfl,itV hx,hbs,h1⟩
def T4 (any:Ar)(hc:X.calm=true):yK X (.builtin (if any then "any" else "all")) (uN any):=by
 intro pins σ H s P α S vs us ds Q I r rv rp af;obtain⟨d,xs,bs,ed,hd,hbs,ok⟩:=PX af;clear af;subst ed;obtain⟨v,u,rfl,rfl,p,q⟩:=yL rp rv;clear rp;have fin:∀ {o:Cs} (h':Bs) (tk:Ai),(∀ b ob,b ∉ [s.heap.objs.size]→(s.heap.push o).get? b=Aa ob→h'.get? b=Aa ob)→EP X pins σ Q (.bool (if any then bs.any id else bs.all id)) { s with heap:=h',toks:=tk }:=
  λ{o} h' tk k=>⟨.bl _,H,dF I k,rfl,xr ok r (by simp only[Rep])⟩
 clear rv ok;have hh:X.A.in1.handled=none:=I.ok.hd hc;cases hd with
 |tup ed =>
  subst ed;obtain⟨a,ws,its,rfl,sq,t,rvi,ht,hl,_⟩:=uH I r p;cases (show u=Dc a from q)
  have hi:=vZ hbs t rvi;have hlen:its.toArray.size=bs.length:=by rw[hi];simp
  have hne:a≠s.heap.objs.size:=by obtain⟨o,e,_⟩:=ht;exact Cj (Ax e)
  have W:=Vw (prog:=X.prog) (w:=X.w) hh s.heap.objs.size a hne its.toArray;have hT:∀ o,(s.heap.push o).IsTuple a its.toArray:=λo=>by obtain⟨o,e,c⟩:=ht;exact⟨o,Ag _ e,c⟩
  have ht':s.heap.IsTuple a its.toArray:=ht;cases any with
  |false =>
   refine call_all_walk (Gh ht' ⟨s.heap.objs.size,_,_,_,_,_,_,rfl,W,⟨⟨_,Bb _ rfl,rfl,rfl⟩,hT _⟩,kS hi,λh' tk k=>?_⟩);rw[hlen,dN];exact fin h' tk k
  |true =>
   refine call_any_walk (Gh ht' ⟨s.heap.objs.size,_,_,_,_,_,_,rfl,W,⟨⟨_,Bb _ rfl,rfl,rfl⟩,hT _⟩,kS hi,λh' tk k=>?_⟩);rw[hlen,dO];exact fin h' tk k
 |lst ed =>
  subst ed;obtain⟨a,ws,its,n,rfl,sq,t,rvi,ht,hl,_⟩:=vC I r p;cases (show u=Dc a from q)
  have hL:s.heap.IsList a its.toArray:=⟨_,ht,rfl,n,rfl⟩;have hi:=vZ hbs t rvi;have hlen:its.toArray.size=bs.length:=by rw[hi];simp
  have hne:a≠s.heap.objs.size:=Cj (Ax ht);have W:=Ta (prog:=X.prog) (w:=X.w) hh s.heap.objs.size a hne its.toArray;have hL':∀ o,(s.heap.push o).IsList a its.toArray:=λo=>⟨_,Ag _ ht,rfl,n,rfl⟩;cases any with
  |false =>
   refine call_all_walk (Gb hL ⟨s.heap.objs.size,_,_,_,_,_,_,rfl,W,⟨⟨_,Bb _ rfl,rfl,rfl⟩,hL' _⟩,kS hi,λh' tk k=>?_⟩);rw[hlen,dN];exact fin h' tk k
  |true =>
   refine call_any_walk (Gb hL ⟨s.heap.objs.size,_,_,_,_,_,_,rfl,W,⟨⟨_,Bb _ rfl,rfl,rfl⟩,hL' _⟩,kS hi,λh' tk k=>?_⟩);rw[hlen,dO];exact fin h' tk k
def rO:DF:=λds S=>match ds with
 |[.int i]=>.ok (.int i) S
 |[.bl b]=>.ok (.int (b01 b)) S
 |_=>.bad
inductive IntV (ds:Ab D)(S:Sto):Prop
 |bad (e:rO ds S=.bad)
 |int (i:Aj) (e:ds=[.int i])
 |bl (b:Ar) (e:ds=[.bl b])
def CP (ds:Ab D)(S:Sto):IntV ds S:=by
 cases ds with
 |nil=>exact .bad rfl
 |cons d ds =>
  cases ds with
  |cons _ _=>cases d <;> exact .bad rfl
  |nil =>
   cases d with
   |int i=>exact .int i rfl
   |bl b=>exact .bl b rfl
   |_=>exact .bad rfl
def T6:yK X (.type "int") rO:=by
 intro pins σ H s P α S vs us ds Q I r rv rp af;cases CP ds S with
 |bad e=>rw[e] at af;exact An af
 |int i e =>
  subst e;obtain⟨v,u,rfl,rfl,p,q⟩:=yL rp rv;exact lX pins s σ H _ _ Q I rv (.inl ⟨_,by rw[wK p],xr af r (by simp only[Rep])⟩)
 |bl b e =>
  subst e;obtain⟨v,u,rfl,rfl,p,q⟩:=yL rp rv;simp only[Rep] at p;subst p;exact lX pins s σ H _ _ Q I rv (.inr ⟨_,rfl,xr af r (by simp only[Rep];rfl)⟩)
def bC:DF:=λds S=>match ds with
 |[d]=>match x8 d with
  |some xs=>.ok (.tup xs) S
  |none=>.bad
 |_=>.bad
def YV:yK X (.type "tuple") bC:=by
 intro pins σ H s P α S vs us ds Q I r rv rp af;obtain⟨d,rfl,af1⟩:=tI (X:=X) (β:=D) (g:=λd=>match x8 d with|some xs=>.ok (D.tup xs) S|none=>.bad) af
 obtain⟨xs,hx,af2⟩:∃ xs,x8 d=Aa xs∧OkV X P α Q (.tup xs) S:=by
  cases hx:x8 d with
  |none=>rw[hx] at af1;exact An af1
  |some xs=>rw[hx] at af1;exact⟨xs,rfl,af1⟩
 obtain⟨v,u,rfl,rfl,p,q⟩:=yL rp rv;cases itV hx with
 |tup e =>
  subst e;have p0:=p;simp only[Rep] at p;obtain⟨a,ws,rfl,sq,t⟩:=p;exact pS pins s σ H _ _ Q I rv ⟨a,ws,rfl,.inr ⟨wL r.sub sq,xr af2 r p0⟩⟩
 |lst e =>
  subst e;simp only[Rep] at p;obtain⟨a,ws,rfl,sq,t⟩:=p;exact pS pins s σ H _ _ Q I rv ⟨a,ws,rfl,.inl ⟨(w9 r.sub sq).l,λl hl=>pG r hl t af2⟩⟩
def bX:DF:=λds S=>match ds with
 |[d]=>match x8 d with
  |some xs=>.ok (.lst xs) S
  |none=>.bad
 |_=>.bad
def GN:yK X (.type "list") bX:=by
 intro pins σ H s P α S vs us ds Q I r rv rp af;obtain⟨d,rfl,af1⟩:=tI (X:=X) (β:=D) (g:=λd=>match x8 d with|some xs=>.ok (D.lst xs) S|none=>.bad) af
 obtain⟨xs,hx,af2⟩:∃ xs,x8 d=Aa xs∧OkV X P α Q (.lst xs) S:=by
  cases hx:x8 d with
  |none=>rw[hx] at af1;exact An af1
  |some xs=>rw[hx] at af1;exact⟨xs,rfl,af1⟩
 obtain⟨v,u,rfl,rfl,p,q⟩:=yL rp rv;cases itV hx with
 |tup e =>
  subst e;simp only[Rep] at p;obtain⟨a,ws,rfl,sq,t⟩:=p;exact pZ pins s σ H _ _ Q I rv ⟨a,ws,rfl,.inr (wL r.sub sq),λl hl=>yQ r hl t af2⟩
 |lst e =>
  subst e;simp only[Rep] at p;obtain⟨a,ws,rfl,sq,t⟩:=p;exact pZ pins s σ H _ _ Q I rv ⟨a,ws,rfl,.inl ((w9 r.sub sq).l),λl hl=>yQ r hl t af2⟩
end
section
variable {X:Cx}
structure ClsK (K:Ak)(cl:Ab Af):Prop where
 ex:∀ C∈cl,ExnK K C
 one:∀ C∈cl,∀ B∈cl,Jt K (.ref C) (.ref B)=Aa (C == B)
 ve:∀ C∈cl,Jt K (.ref C) (.type "ValueError")=Aa true
def xB (cl:Ab Af):DF:=λds S=>match ds with
 |[.exn (.ref C),.obj B]=>if cl.contains C&&cl.contains B then .ok (.bl (C == B)) S else .bad
 |[.exn (.ref C),.ty b]=>if cl.contains C&&(b == "ValueError") then .ok (.bl true) S else .bad
 |_=>zJ ds S
def X4 {H P:Hp}{α:Ab Af}{S:Sto}{C:Af}{u:Ad}(I:Inv X pins σ H s)(r:Rel X.K H P α S)(p:Rep X.K P α (.exn (.ref C)) v)(q:qL v u):∃ a,u=.ref a∧uU a C s.heap:=by
 simp only[Rep] at p;obtain⟨a,rfl,z⟩:=p;obtain⟨y,_⟩:=I.hok a _ (r.sub _ _ z);exact⟨a,q,y⟩
inductive IsiE (cl:Ab Af)(ds:Ab D)(S:Sto):Prop
 |bad (e:xB cl ds S=.bad)
 |old (e:xB cl ds S=zJ ds S)
 |obj (C B:Af) (ed:ds=[.exn (.ref C),.obj B]) (h1:C∈cl) (h2:B∈cl) (e:xB cl ds S=.ok (.bl (C == B)) S)
 |ve (C:Af) (ed:ds=[.exn (.ref C),.ty "ValueError"]) (h1:C∈cl) (e:xB cl ds S=.ok (.bl true) S)
def RY (cl:Ab Af)(C:Af)(d:D)(S:Sto):IsiE cl [.exn (.ref C),d] S:=by
 cases d with
 |obj B =>
  have z:xB cl [.exn (.ref C),.obj B] S=if (cl.contains C&&cl.contains B)=true then .ok (.bl (C == B)) S else .bad:=rfl
  by_cases h:(cl.contains C&&cl.contains B)=true
  ·rw[Bi h] at z
   have h':=Eu.mp h;exact .obj C B rfl (Ff.mp h'.1) (Ff.mp h'.2) z
  ·rw[Bf h] at z
   exact .bad z
 |ty b =>
  have z:xB cl [.exn (.ref C),.ty b] S=if (cl.contains C&&(b == "ValueError"))=true then .ok (.bl true) S else .bad:=rfl
  by_cases h:(cl.contains C&&(b == "ValueError"))=true
  ·rw[Bi h] at z
   have h':=Eu.mp h;cases (Nq.mp h'.2);exact .ve C rfl (Ff.mp h'.1) z
  ·rw[Bf h] at z
   exact .bad z
 |_=>exact .old rfl
def CS (cl:Ab Af)(ds:Ab D)(S:Sto):IsiE cl ds S:=by
 cases ds with
 |nil=>exact .old rfl
 |cons a ds =>
  cases a with
  |exn c =>
   cases c with
   |ref C =>
    cases ds with
    |nil=>exact .old rfl
    |cons b ds =>
     cases ds with
     |nil=>exact RY cl C b S
     |cons _ _=>cases b <;> exact .old rfl
   |_=>exact .old rfl
  |_=>exact .old rfl
def GK {cl:Ab Af}(hK:ClsK X.K cl):yK X (.builtin "isinstance") (xB cl):=by
 intro pins σ H s P α S vs us ds Q I r rv rp af;cases CS cl ds S with
 |bad e=>rw[e] at af;exact An af
 |old e=>rw[e] at af;exact ZI pins σ H s P α S vs us ds Q I r rv rp af
 |obj C B ed h1 h2 e =>
  rw[e] at af;subst ed;obtain⟨v,w,u,x,rfl,rfl,p,p',q,q'⟩:=fM rp rv;simp only[Rep] at p';obtain⟨rfl,_⟩:=p';cases (show x=Dc B from q')
  obtain⟨a,rfl,ha⟩:=X4 I r p q;exact Ek (eD (hK.ex C h1)) I.kIn ha (hK.one C h1 B h2) (λz=>nomatch z) λtk=>⟨.bl _,H,I.tok tk,rfl,xr af r (by simp only[Rep])⟩
 |ve C ed h1 e =>
  rw[e] at af;subst ed;obtain⟨v,w,u,x,rfl,rfl,p,p',q,q'⟩:=fM rp rv;simp only[Rep] at p';subst p';cases (show x=Hv "ValueError" from q')
  obtain⟨a,rfl,ha⟩:=X4 I r p q;exact Ek (eD (hK.ex C h1)) I.kIn ha (hK.ve C h1) (λz=>nomatch z) λtk=>⟨.bl _,H,I.tok tk,rfl,xr af r (by simp only[Rep])⟩
def MtD (X:Cx)(id:Ej)(g:D→Ab D→Sto→Res D):Prop:=
 ∀ (pins:Ab (Af × Cs)) (σ : _L.St) (H:Hp) (s:Ah) (P:Hp) (α : Ab Af) (S:Sto) (v:V) (vv:Ad) (vs:Ab V) (us:Ab Ad) (a:D) (ds:Ab D) (Q:VK),Inv X pins σ H s→Rel X.K H P α S→qL v vv→Rep X.K P α a v→qK vs us→qF X.K P α ds vs→zA X P α (g a ds S) Q →
  Ao (Au X.prog X.w) X.A (call (.builtin id) (vv::us)) (EP X pins σ Q) X.xe s
def dBm (T:Ej)(g:D→Ab D→Sto→Res D)(fo:DE)(fa:DA):DE:=λenv S=>(fo env S).bind λa S1=>if (tyD a S1 == Aa T)=true then (fa env S1).bind λds S2=>g a ds S2 else .bad
def Y8 {H P:Hp}{α:Ab Af}{S:Sto}{a:D}{T:Ej}(r:Rel X.K H P α S)(p:Rep X.K P α a v)(h:tyD a S=Aa T)(hT:T = "list" ∨ T = "dict" ∨ T = "int" ∨ T = "str"):tyV X.K T v H:=by
 cases a with
 |int i=>cases h;simp only[Rep] at p;subst p;rfl
 |str x=>cases h;simp only[Rep] at p;subst p;rfl
 |lst xs =>
  cases h;simp only[Rep] at p;obtain⟨b,vs,rfl,q,t⟩:=p;exact .inl ⟨rfl,vs,(w9 r.sub q).l⟩
 |dct0 =>
  cases h;simp only[Rep] at p;obtain⟨b,rfl,q⟩:=p;exact .inr (.inr (.inl ⟨rfl,.inl ⟨[],r.sub _ _ q⟩⟩))
 |loc i =>
  simp only[Rep] at p;obtain⟨b,rfl,q⟩:=p;rcases lC (f:=λ_=>Aa "list") (g:=λ_=>Aa "dict") h with⟨xs,hS,h⟩|⟨kvs,hS,h⟩
  ·cases h
   obtain⟨vs,z,t⟩:=r.at' i b _ q hS;exact .inl ⟨rfl,vs,SqL.of z⟩
  ·cases h
   obtain⟨vs,z,t⟩:=r.at' i b _ q hS;exact .inr (.inr (.inl ⟨rfl,.inl ⟨vs,z⟩⟩))
 |non=>cases h;exact absurd hT (by decide)
 |bl b=>cases h;exact absurd hT (by decide)
 |tup xs=>cases h;exact absurd hT (by decide)
 |_=>exact nn h
variable {o e:Bw}{es:Ab Bw}{fo:DE}{fa:DA}{name:As}{apos cpos:Fh}{T id:Ej}{g:D→Ab D→Sto→Res D}
def TH {P:Hp}{α:Ab Af}{a:D}{S:Sto}{β:Type}{k:Res β}{Ok:β→Sto→Prop}(h:qI X P α (if (tyD a S == Aa T)=true then k else .bad) Ok):tyD a S=Aa T∧qI X P α k Ok:=by
 by_cases z:(tyD a S == Aa T)=true
 ·rw[Bi z] at h;exact⟨Nq.mp z,h⟩
 ·rw[Bf z] at h;exact An h
def RF (pa:PlainAttrs T)(slot:Slot T name id)(hty:typeOf (.builtin id)=pure (.type "method_descriptor"))(hT:T = "list" ∨ T = "dict" ∨ T = "int" ∨ T = "str")(hm:MtD X id g)(ho:PE X o (tD X fo))(ha:PA X (e::es) (tDA X fa))
  (hbase:OP o name X.env (eval o X.env)=eval o X.env:=by rfl)
  (hfew:((Fu cpos (Bd (e::es) X.env)).all (λx=>!x.1)&&(backToKw cpos (keywordEach [] X.env)).all (λx=>x.1.isSome)
   && decide ((e::es).length+([]:Ab Xv).length+(if ([] : Ab Xv).isEmpty then 0 else 1)<30))=true:=by rfl)
  (hline:(apos.endLine == cpos.line)=true:=by rfl) (hs:Bd (e::es) X.env=(false,eval e X.env)::Bd es X.env:=by rfl) (hplain:(Fu cpos (Bd es X.env)).any (·.1)=false:=by rfl) :
  PE X (.Call (.Attribute o name apos) (e::es) [] cpos) (tD X (dBm T g fo fa)):=by
 intro pins s σ H Q I h;obtain⟨P,α,env,S,r,re,af⟩:=h;refine wpAny_Call_method_late hbase hfew hline rfl (thn (xF ho I r re af) λvv s1 ⟨v,H1,P1,α1,d,S1,G1,af1⟩=>?_);obtain⟨ht,af2⟩:=TH af1;obtain⟨h1,h2⟩:=Y7 G1.inv G1.val (Y8 G1.rel G1.rep ht hT);refine⟨T,id,pa,slot,hty,h1,h2,?_⟩;have hA:=wV ha G1.inv G1.rel G1.env (P:=P1) (α:=α1) (Ok:=OkV X P1 α1 Q) (zA.base G1.same G1.pre (r:=(fa env S1).bind λds S2=>g d ds S2) af2) cpos;rw[hs] at hA ⊢;refine Qo (by show (false||(Fu cpos (Bd es X.env)).any (·.1))=false;rw[hplain] <;> rfl) (Se ?_)
 exact thn hA λus s2 ⟨vs,H2,P2,α2,ds,S2,I2,rv,r2,re2,rp2,e1,e2,af3⟩=>hm pins σ H2 s2 P2 α2 S2 v vv vs us d ds Q I2 r2 G1.val (Rep.mono e1 e2 _ _ G1.rep) rv rp2 (zA.base e1 e2 af3)
def wW:D→Ab D→Sto→Res D:=λa ds S=>match a,ds with
 |.loc i,[d]=>match S[i]? with
  |some (.lst xs)=>if xs.length<lim then .ok .non (S.set i (.lst (xs++[d]))) else .bad
  |_=>.bad
 |_,_=>.bad
inductive ApV (a:D)(ds:Ab D)(S:Sto):Prop
 |bad (e:wW a ds S=.bad)
 |of (i:Ai) (d:D) (xs:Ab D) (ea:a=.loc i) (ed:ds=[d]) (hS:S[i]? = Aa (.lst xs)) (hl:xs.length<lim) (e:wW a ds S=.ok .non (S.set i (.lst (xs++[d]))))
def apV (a:D)(ds:Ab D)(S:Sto):ApV a ds S:=by
 cases a with
 |loc i =>
  cases ds with
  |nil=>exact .bad rfl
  |cons d ds =>
   cases ds with
   |cons _ _=>exact .bad rfl
   |nil =>
    have z:wW (.loc i) [d] S=(match S[i]? with|some (.lst xs)=>(if xs.length<lim then .ok .non (S.set i (.lst (xs++[d]))) else .bad)|_=>.bad):=rfl
    cases hS:S[i]? with
    |none=>rw[hS] at z;exact .bad z
    |some m =>
     rw[hS] at z;cases m with
     |lst xs =>
      by_cases hl:xs.length<lim
      ·exact .of i d xs rfl rfl hS hl (z.trans (Bi hl))
      ·exact .bad (z.trans (Bf hl))
     |_=>exact .bad z
 |_=>exact .bad rfl
def XU:MtD X "list.append" wW:=by
 intro pins σ H s P α S v vv vs us a ds Q I r rv p rvs rps af;cases apV a ds S with
 |bad e=>rw[e] at af;exact An af
 |of i d xs ea ed hS hl e =>
  rw[e] at af;subst ea ed;obtain⟨w,u,rfl,rfl,p',q'⟩:=yL rps rvs;simp only[Rep] at p;obtain⟨b,rfl,q⟩:=p;obtain⟨ws,z,t⟩:=r.at' i b _ q hS;refine XY pins s σ H (.ref b) [w] vv [u] Q I rv (.cons q' .nil) ⟨b,ws,w,rfl,rfl,z,by rw[← t.length,← xP];exact hl,?_⟩
  exact xr af (r.put (m':=.lst (xs++[d])) q hS (by intro z;cases z) ⟨ws++[w],zE,t.append (.cons p' .nil)⟩) (by simp only[Rep])
end
def u4:D→Am Key
 |.int i=>Aa (.inl i)
 |.str x=>Aa (.inr x)
 |_=>none
def yF (kvs:Ab (Key × D))(k:Key):Am D:=(kvs.find? λkv=>decide (kv.1=k)).map (·.2)
def vN (kvs:Ab (Key × D))(k:Key)(v:D):Ab (Key × D):=
 if (kvs.any λkv=>decide (kv.1=k))=true then kvs.map (λkv=>if kv.1=k then (kv.1,v) else kv) else kvs++[(k,v)]
section
variable {K:Ak}{P:Hp}{α : Ab Af}
def aW {vs:Ab (Key × V)}(r:KVs K P α kvs vs):kvs.length=vs.length:=Paired.length r
def aZ {k:Key}:∀ {kvs:Ab (Key × D)} {vs:Ab (Key × V)},KVs K P α kvs vs→(∀ d,yF kvs k=Aa d→∃ v,vR vs k=Aa v∧Rep K P α d v)∧(yF kvs k=none→vR vs k=none)
 |_,_,.nil=>⟨λd h=>by simp[yF] at h,λ_=>rfl⟩
 |(k1,d1)::kvs,(k2,v2)::vs,.cons z t=>by
  obtain⟨e,r⟩:=z;dsimp only at e r;subst e;obtain⟨h1,h2⟩:=aZ (k:=k) t;unfold yF vR at *;by_cases hk:k1=k
  ·subst hk
   constructor
   ·intro d h
    simp at h;subst h;exact⟨v2,by simp,r⟩
   ·intro h
    simp at h
  ·constructor
   ·intro d h
    rw[Qp (by simpa using hk)] at h ⊢
    exact h1 d h
   ·intro h
    rw[Qp (by simpa using hk)] at h ⊢
    exact h2 h
def BK {k:Key}{vs:Ab (Key × V)}(h:KVs K P α kvs vs):(kvs.any λkv=>decide (kv.1=k))=(vs.any λkv=>decide (kv.1=k)):=by
 induction h with
 |nil=>rfl
 |cons z t ih=>rw[Jf,Jf,ih,z.1]
def BM {k:Key}(q:Rep K P α d v){kvs:Ab (Key × D)}{vs:Ab (Key × V)}(h:KVs K P α kvs vs):KVs K P α (kvs.map λkv=>if kv.1=k then (kv.1,d) else kv) (vs.map λkv=>if kv.1=k then (kv.1,v) else kv):=by
 induction h with
 |nil=>exact .nil
 |cons z t ih =>
  rw[Dy,Dy];refine .cons ?_ ih;rw[← z.1]
  split
  ·exact⟨rfl,q⟩
  ·exact z
def BL {k:Key}(q:Rep K P α d v){kvs:Ab (Key × D)}{vs:Ab (Key × V)}(h:KVs K P α kvs vs):KVs K P α (kvs++[(k,d)]) (vs++[(k,v)]):=by
 induction h with
 |nil=>exact .cons ⟨rfl,q⟩ .nil
 |cons z t ih=>exact .cons z ih
def aX {k:Key}(q:Rep K P α d v){kvs:Ab (Key × D)}{vs:Ab (Key × V)}(r:KVs K P α kvs vs):KVs K P α (vN kvs k d) (vO vs k v):=by
 unfold vN vO;rw[BK r]
 split
 ·exact BM q r
 ·exact BL q r
def XF {k:Key}(h:u4 d=Aa k)(r:Rep K P α d v):v=kV k:=by
 cases d with
 |int i=>cases h;simp only[Rep] at r;exact r
 |str x=>cases h;simp only[Rep] at r;exact r
 |_=>cases h
end
section
variable {X:Cx}{o i e:Bw}{pos:Fh}{fo fi:DE}
def V5:DE:=λ_ S=>.ok (.loc S.length) (S++[.dct []])
def TM:PE X (.Dict [] [] pos) (tD X V5):=by
 refine peW eS λσ H Q ⟨P,α,env,S,r,re,af⟩ p hp=>?_;have hpre:α<+:α++[p]:=Ha _ _;have r1:=r.new (o:=.dK []) (m:=.dct []) hp ⟨[],zE,.nil⟩;refine af _ _ _ _ r1 (qH.refl _) hpre ?_;simp only[Rep];exact⟨p,rfl,by rw[← r.len];simp⟩
def jG:DE:=λ_ S=>.ok .dct0 S
def GT:PE X (.Dict [] [] pos) (tD X jG):=by
 refine peW eS λσ H Q ⟨P,α,env,S,r,re,af⟩ p hp=>?_;obtain⟨r1,e1⟩:=r.pure (o:=.dK []) hp;refine af _ _ _ α r1 e1 (Bn _) ?_;simp only[Rep];exact⟨p,rfl,zE⟩
def uV:G3:=λo i d S=>match o with
 |.loc n=>match S[n]? with
  |some (.dct kvs)=>match u4 i with
   |some k=>if kvs.length<lim then .ok () (S.set n (.dct (vN kvs k d))) else .bad
   |none=>.bad
  |_=>nP o i d S
 |_=>nP o i d S
inductive Set2V (a b d:D)(S:Sto):Prop
 |bad (e:uV a b d S=.bad)
 |old (e:uV a b d S=nP a b d S)
 |of (n:Ai) (kvs:Ab (Key × D)) (k:Key) (ea:a=.loc n) (hS:S[n]? = Aa (.dct kvs)) (hk:u4 b=Aa k) (hl:kvs.length<lim) (e:uV a b d S=.ok () (S.set n (.dct (vN kvs k d))))
def EX (a b d:D)(S:Sto):Set2V a b d S:=by
 cases a with
 |loc n =>
  have z:uV (.loc n) b d S=(match S[n]? with|some (.dct kvs)=>(match u4 b with|some k=>(if kvs.length<lim then .ok () (S.set n (.dct (vN kvs k d))) else .bad)|none=>.bad)|_=>nP (.loc n) b d S):=rfl
  cases hS:S[n]? with
  |none=>rw[hS] at z;exact .old z
  |some m =>
   rw[hS] at z;cases m with
   |dct kvs =>
    cases hk:u4 b with
    |none=>rw[hk] at z;exact .bad z
    |some k =>
     rw[hk] at z;by_cases hl:kvs.length<lim
     ·exact .of n kvs k rfl hS hk hl (z.trans (Bi hl))
     ·exact .bad (z.trans (Bf hl))
   |_=>exact .old z
 |_=>exact .old rfl
def SL (hu:X.A.units+1<Fi):sU X (sS X uV):=by
 intro pins s σ H o i v ov iv u Q I ro ri rv h;obtain⟨P,α,S,a,b,d,r,pa,pb,pd,af⟩:=h;cases EX a b d S with
 |bad e=>rw[e] at af;exact An af
 |old e =>
  rw[e] at af;exact EY pins s σ H o i v ov iv u Q I ro ri rv ⟨P,α,S,a,b,d,r,pa,pb,pd,af⟩
 |of n kvs k ea hS hk hl e =>
  rw[e] at af;subst ea;simp only[Rep] at pa;obtain⟨p,rfl,q⟩:=pa;obtain⟨vs,z,t⟩:=r.at' n p _ q hS;cases XF hk pb;cases (show ov=Dc p from ro)
  refine ZS hu I (tZ.k (v:=v) z (by rw[← aW t,← xP];exact hl)) ri rv λs' I'=>⟨_,I',?_⟩
  exact af _ P α (r.put (m':=.dct (vN kvs k d)) q hS (by intro z;cases z) ⟨_,zE,aX pd t⟩) (qH.refl _) (Bn _)
def IA:D→Ab D→Sto→Res D:=λa ds S=>match a,ds with
 |.loc n,[i,x]=>match S[n]? with
  |some (.dct kvs)=>match u4 i with
   |some k=>.ok ((yF kvs k).getD x) S
   |none=>.bad
  |_=>.bad
 |_,_=>.bad
def mW:D→Ab D→Sto→Res D:=λa ds S=>match a,ds with
 |.lst xs,[.bl k]=>match xU xs with
  |some bs=>.ok (.int (bs.countP (· == k):Ai)) S
  |none=>.bad
 |_,_=>.bad
def nU (k:Ar):Ab Ar→Am Ai
 |[]=>none
 |b::r=>if b=k then Aa 0 else (nU k r).map (· + 1)
def mX:D→Ab D→Sto→Res D:=λa ds S=>match a,ds with
 |.lst xs,[.bl k]=>match (xU xs).bind (nU k) with
  |some j=>.ok (.int j) S
  |none=>.bad
 |_,_=>.bad
def rK (k:Ar){bs:Ab Ar}{y:Ad}(hy:y∈(bs.map Gg).toArray):Yo y (.bool k) (Qq k y):=by
 have hy':y∈bs.map Gg:=by rwa [List.mem_toArray] at hy
 obtain⟨b,_,rfl⟩:=Dl.mp hy';exact λprog w A E s Q h=>Xn b k prog w E Q h
def cG (k:Ar)(bs:Ab Ar):(bs.map Gg).countP (Qq k)=bs.countP (· == k):=by
 rw[Nc];rfl
def Z7 {β:Type}{r:Res β}{P:Hp}{α:Ab Af}{Ok:β→Sto→Prop}(e:r=.bad)(h:qI X P α r Ok):Fn:=by
 rw[e] at h;exact h
inductive BlV (a:D)(ds:Ab D):Prop
 |no (h:∀ (g:Ab D→Ar→Res D),(match a,ds with|.lst xs,[.bl k]=>g xs k|_,_=>.bad)=.bad)
 |of (xs:Ab D) (k:Ar) (ea:a=.lst xs) (ed:ds=[.bl k])
def blV (a:D)(ds:Ab D):BlV a ds:=by
 cases a with
 |lst xs =>
  cases ds with
  |nil=>exact .no λ_=>rfl
  |cons d ds =>
   cases ds with
   |cons _ _=>cases d <;> exact .no λ_=>rfl
   |nil =>
    cases d with
    |bl k=>exact .of xs k rfl rfl
    |_=>exact .no λ_=>rfl
 |_=>exact .no λ_=>rfl
def U9:MtD X "list.count" mW:=by
 intro pins σ H s P α S v vv vs us a ds Q I r rv p rvs rps af;cases blV a ds with
 |no h=>exact(Z7 (X:=X) (r:=mW a ds S) (h _) af).elim
 |of xs k ea ed =>
  subst ea ed;have af:qI X P α (match xU xs with|some bs=>Res.ok (D.int (bs.countP (· == k):Ai)) S|none=>.bad) (OkV X P α Q):=af
  cases hb:xU xs with
  |none=>rw[hb] at af;exact An af
  |some bs =>
   rw[hb] at af;obtain⟨vx,ux,rfl,rfl,px,qx⟩:=yL rps rvs;simp only[Rep] at px;subst px;cases (show ux=Gg k from qx)
   obtain⟨b,ws,its,n,rfl,sq,t,rvi,ht,hl,_⟩:=vC I r p;cases (show vv=Dc b from rv)
   have hi:=vZ hb t rvi;subst hi;refine Lu Kz ⟨_,ht,rfl⟩ Pb (OQ _ _) (Pc b (bs.map Gg).toArray n none #[] (.bool k) (Qq k)) ⟨ht,λy hy=>(rK k hy).at _ _,?_⟩;refine⟨.int _,H,I.tok _,⟨_,rfl⟩,?_⟩;rw[show (bs.map Gg).toArray.toList=bs.map Gg from rfl,cG]
   exact xr af r (by simp only[Rep])
def aI {k:Ar}:∀ {bs:Ab Ar} {j:Ai},nU k bs=Aa j→∃ h:j<bs.length,bs[j]=k∧∀ m (hm:m<bs.length),m<j→bs[m]≠k
 |[],j,h=>by cases h
 |b::r,j,h=>by
  unfold nU at h;by_cases hb:b=k
  ·rw[Bi hb] at h
   cases h;exact⟨by simp,by simpa using hb,λm hm z=>absurd z (Nat.not_lt_zero _)⟩
  ·rw[Bf hb] at h
   obtain⟨i,hi,rfl⟩:=El.mp h;obtain⟨h1,h2,h3⟩:=aI hi;refine⟨by simp;omega,by simpa using h2,λm hm hl=>?_⟩
   cases m with
   |zero=>simpa using hb
   |succ m=>simpa using h3 m (by simp at hm;omega) om
def UA:MtD X "list.index" mX:=by
 intro pins σ H s P α S v vv vs us a ds Q I r rv p rvs rps af;cases blV a ds with
 |no h=>exact(Z7 (X:=X) (r:=mX a ds S) (h _) af).elim
 |of xs k ea ed =>
  subst ea ed;have af:qI X P α (match (xU xs).bind (nU k) with|some j=>Res.ok (D.int j) S|none=>.bad) (OkV X P α Q):=af
  cases hj:(xU xs).bind (nU k) with
  |none=>rw[hj] at af;exact An af
  |some j =>
   rw[hj] at af;obtain⟨bs,hb,hi⟩:=Ei.mp hj;obtain⟨vx,ux,rfl,rfl,px,qx⟩:=yL rps rvs;simp only[Rep] at px;subst px;cases (show ux=Gg k from qx)
   obtain⟨b,ws,its,n,rfl,sq,t,rvi,ht,hl,hz⟩:=vC I r p;cases (show vv=Dc b from rv)
   have hi':=vZ hb t rvi;subst hi';obtain⟨h1,h2,h3⟩:=aI hi;have hlen:bs.length≤sizeLine:=by
    have e1:=t.length;have e2:=rvi.length;rw[Aq] at e2;rw[xP] at hz;omega
   refine Lu Pw ⟨_,ht,rfl⟩ PySem.F.entry_list_index (PySem.F.args_list_index_2 _ _) (Xw b (bs.map Gg).toArray n (.bool k) (Qq k) (λy hy=>rK k hy) j (by simpa using h1) ?_ ?_ ?_) ⟨ht,?_⟩
   ·rw[Fe] at hlen;omega
   ·simp[Qq,h2]
   ·intro m hm hl'
    have hm':m<bs.length:=by simpa using hm
    have:=h3 m hm' hl';simp[Qq,this]
   ·exact⟨.int _,H,I.tok _,⟨_,rfl⟩,xr af r (by simp only[Rep])⟩
end
def kO (S:Sto):Sto:=S.map λ_=>.dead
def K1:D→Ar
 |.non=>true
 |.bl _=>true
 |.int _=>true
 |.str _=>true
 |_=>false
def mapO {β γ:Type}(f:β→Am γ) : Ab β → Am (Ab γ)
 |[]=>Aa []
 |b::r=>match f b,mapO f r with
  |some c,Aa cs=>Aa (c::cs)
  |_,_=>none
def yR:Ai→Sto→D→Am D
 |n+1,S,.tup xs=>(mapO (yR n S) xs).map .tup
 |n+1,S,.lst xs=>(mapO (yR n S) xs).map .lst
 |n+1,S,.loc i=>match S[i]? with
  |some (.lst xs)=>(mapO (yR n S) xs).map .lst
  |_=>none
 |_,_,.non=>Aa .non
 |_,_,.bl b=>Aa (.bl b)
 |_,_,.int i=>Aa (.int i)
 |_,_,.str x=>Aa (.str x)
 |_,_,.ty n=>Aa (.ty n)
 |_,_,.obj a=>Aa (.obj a)
 |_,_,.dct0=>Aa .dct0
 |_,_,.exn c=>Aa (.exn c)
 |_,_,_=>none
def jD (H P:Hp)(α : Ab Af):Hp:=λb=>if (P b).isSome then P b else if b∈α then H b else none
section
variable {K:Ak}{H P:Hp}{α : Ab Af}{S:Sto}
def jX (H P:Hp)(α : Ab Af):qH P (jD H P α):=λb o e=>by
 unfold jD;rw[e];rfl
def VV (r:Rel K H P α S):qH (jD H P α) H:=λb o e=>by
 unfold jD at e
 split at e
 ·exact r.sub b o e
 ·split at e
  ·exact e
  ·cases e
def nO {a:Af}(h:P a=none)(ha:a∈α):jD H P α a=H a:=by
 unfold jD;rw[h];simp[ha]
def Rel.frz (r:Rel K H P α S):Rel K H (jD H P α) α (kO S) where
 sub:=VV r
 len:=by rw[r.len];simp[kO]
 nd:=r.nd
 sep:=λi a o h1 h2 h3=>by
  unfold kO at h2;rw[Ds] at h2;cases q:S[i]? with
  |none=>rw[q] at h2;cases h2
  |some m=>rw[q] at h2;cases h2;exact absurd rfl h3
 at':=λi a o h1 h2=>by
  unfold kO at h2;rw[Ds] at h2;cases q:S[i]? with
  |none=>rw[q] at h2;cases h2
  |some m=>rw[q] at h2;cases h2;trivial
 own:=r.own
def Rel.unfrz {H' P1:Hp}{α1:Ab Af}{S1:Sto}(r:Rel K H P α S)(r1:Rel K H' P1 α1 S1)(e:qH (jD H P α) P1):Rel K H' P α S:=by
 have mem:∀ i a,α[i]? = Aa a→a∈α:=λi a h=>Cf h;have kp:∀ (i:Ai) (a:Af) (o:MO) (u:HO),α[i]? = Aa a→S[i]? = Aa o→o≠MO.dead→H a=Aa u→H' a=Aa u:=λi a o u h1 h2 h3 h4 =>
  r1.sub a u (e a u (by rw[nO (r.sep i a o h1 h2 h3) (mem i a h1)];exact h4))
 refine⟨(jX H P α).trans (e.trans r1.sub),r.len,r.nd,r.sep,λi a o h1 h2=>?_,λi a h1=>?_⟩
 ·have m:=r.at' i a o h1 h2
  cases o with
  |dead=>trivial
  |lst ds=>obtain⟨vs,q,t⟩:=m;exact⟨vs,kp i a _ _ h1 h2 (by intro z;cases z) q,t⟩
  |dct kvs=>obtain⟨vs,q,t⟩:=m;exact⟨vs,kp i a _ _ h1 h2 (by intro z;cases z) q,t⟩
  |ins C fs=>obtain⟨dx,vs,q,t⟩:=m;exact⟨dx,vs,kp i a _ _ h1 h2 (by intro z;cases z) q,t⟩
 ·have h:=r.own i a h1
  cases q:H a with
  |none=>exact absurd q h
  |some u =>
   have z:∃ u',jD H P α a=Aa u':=by
    cases q2:P a with
    |none=>exact⟨u,by rw[nO q2 (mem i a h1)];exact q⟩
    |some u'=>exact⟨u',jX H P α a u' q2⟩
   obtain⟨u',z⟩:=z;rw[r1.sub a u' (e a u' z)];intro w;cases w
set_option tactic.hygienic true in
def qF.mapO {f:D→Am D}{P':Hp}(h:∀ d t v,f d=Aa t→Rep K P α d v→Rep K P' α t v):∀ {ds ts:Ab D} {vs:Ab V},_D.mapO f ds=Aa ts→qF K P α ds vs→qF K P' α ts vs
 |[],ts,vs,e,r=>by cases e;rw[r.nil_inv];exact .nil
 |d::ds,ts,vs,e,r=>by
  obtain⟨w,ws,rfl,r1,r2⟩:=r.cons_inv;unfold _D.mapO at e
  split at e
  ·rename_i c cs h1 h2
   cases e;exact .cons (h d c w h1 r1) (qF.mapO h h2 r2)
  ·cases e
def lK (r:Rel K H P α S):∀ (n:Ai) (d t:D) (v:V),yR n S d=Aa t→Rep K P α d v→Rep K (jD H P α) α t v:=by
 have mono:∀ (d:D) (v:V),Rep K P α d v→Rep K (jD H P α) α d v:=λd v=>Rep.mono (jX H P α) (Bn _) d v;intro n
 induction n with
 |zero =>
  intro d t v h p;cases d <;> first|(cases h;exact mono _ _ p)|exact nn h
 |succ n ih =>
  intro d t v h p;cases d with
  |tup xs =>
   obtain⟨ts,h1,rfl⟩:=El.mp h;simp only[Rep] at p ⊢;obtain⟨a,vs,rfl,q,t⟩:=p;exact⟨a,vs,rfl,vP (jX H P α) q,qF.mapO (λd t v=>ih d t v) h1 t⟩
  |lst xs =>
   obtain⟨ts,h1,rfl⟩:=El.mp h;simp only[Rep] at p ⊢;obtain⟨a,vs,rfl,q,t⟩:=p;exact⟨a,vs,rfl,w9 (jX H P α) q,qF.mapO (λd t v=>ih d t v) h1 t⟩
  |loc i =>
   have h:(match S[i]? with|some (.lst xs)=>(_D.mapO (yR n S) xs).map D.lst|_=>none)=Aa t:=h
   cases hS:S[i]? with
   |none=>rw[hS] at h;exact nn h
   |some m =>
    rw[hS] at h;cases m with
    |lst xs =>
     obtain⟨ts,h1,rfl⟩:=El.mp h;simp only[Rep] at p ⊢;obtain⟨a,rfl,q⟩:=p;obtain⟨vs,z,t⟩:=r.at' i a _ q hS;refine⟨a,vs,rfl,.inl (.inl ?_),qF.mapO (λd t v=>ih d t v) h1 t⟩;rw[nO (r.sep i a _ q hS (by intro z;cases z)) (Cf q)]
     exact z
    |_=>exact nn h
  |fd ks ds=>exact nn h
  |_=>cases h;exact mono _ _ p
def YM {P':Hp}{α':Ab Af}(h:K1 d=true)(p:Rep K P α d v):Rep K P' α' d v:=by
 cases d with
 |non=>simpa only [Rep] using p
 |bl b=>simpa only [Rep] using p
 |int i=>simpa only [Rep] using p
 |str x=>simpa only [Rep] using p
 |_=>cases h
end
def bA:Ai:=20
def oY (r:Res D)(S:Sto):Res D:=match r with
 |.ok d _=>if K1 d then .ok d S else .bad
 |_=>.bad
def tE {X:Cx}{H P:Hp}{α:Ab Af}{S:Sto}{r:Res D}(rl:Rel X.K H P α S)(af:zA X P α (oY r S) Q):zA X (jD H P α) α r Q:=by
 cases r with
 |ok d S' =>
  obtain⟨ha,af⟩:=j7 (X:=X) af;exact λv H' P' α' r' e1 e2 rp=>af v H' P α (rl.unfrz r' e1) (qH.refl _) (Bn _) (YM ha rp)
 |ex c x S'=>exact An af
 |bad=>exact An af
section
variable {X:Cx}
def fB (g:G2):G2:=λa b S=>match yR bA S a,yR bA S b with
 |some x,Aa y=>oY (g x y (kO S)) S
 |_,_=>.bad
set_option tactic.hygienic true in
def OpD.look {f:Ad→Ad→Kb Ad}{g:G2}(h:OpD X f g):OpD X f (fB g):=by
 intro pins σ H s P α S v u vv uu a b Q I r rv ru pa pb af;unfold fB at af
 split at af
 ·rename_i x y hx hy
  exact h pins σ H s _ α (kO S) v u vv uu x y Q I r.frz rv ru (lK r bA a x v hx pa) (lK r bA b y u hy pb) (tE r af)
 ·exact An af
def u8 (F:DF):DF:=λds S=>match mapO (yR bA S) ds with
 |some ts=>oY (F ts (kO S)) S
 |none=>.bad
variable {cm:Ar}{k:Ai}{f:Af}{fd:Fy}{ps:Ab As}{F:DF}{x:As}{p pos:Fh}{e:Bw}{es:Ab Bw}{fa:DA}{n:Ai}
set_option tactic.hygienic true in
def V7 (G:FnX X.prog X.w X.K X.mg X.base cm k f fd ps (spD X.K n F))(hr:RoomC cm k X.A)(hF:Fn1 X)(hg:Gl X x)(hm:X.mg x=Aa (.ref f))(hk:En X.K (.ref f)=true)(hb:vW X.K fd ps [])
  (ha:PA X (e::es) (tDA X fa)) (hdb:(x == ("__debug__" : As))=false:=by decide) (he:Bd (e::es) X.env=(false,eval e X.env)::Bd es X.env:=by rfl) (hpl:(Fu pos (Bd es X.env)).any (·.1)=false:=by rfl) :
  PE X (.Call (.Name x p) (e::es) [] pos) (tD X (qG n (u8 F) fa)):=by
 intro pins s σ H Q I h;obtain⟨P,α,env,S,r,re,af⟩:=h;refine Hu (jM I hg hm ?_ hdb);refine Kt (h₀:=X.base) I.ok.mod.kin hk (thn (wV ha I r re af pos) λus s1 ⟨vs,H1,P1,α1,ds,S1,I1,rv,r1,re1,rp,e1,e2,af1⟩=>⟨I1.kIn,?_⟩) he hpl;obtain⟨hn,af2⟩:=b9 (env:=env) (S:=S) af1;have af3:=zA.base e1 e2 af2;unfold u8 at af3
 split at af3
 ·rename_i ts ht
  have rp':=qF.mapO (λd t v=>lK r1 bA d t v) ht rp;have hl:ts.length=n:=by rw[rp'.length,← rp.length];exact hn
  exact lL G hr hb hF I1 r1.frz rv rp' hl (tE r1 af3)
 ·exact An af3
end
section
variable {X:Cx}{a b c e:Bw}{pos:Fh}{fa fe:DE}
def IB (i:Ai)(g:G2)(fe:DE):DS:=λenv S=>match env[i]? with
 |some (Aa x)=>(fe env S).toS env λy S1=>(g x y S1).toS env λz S2=>.nx (env.set i (Aa z)) S2
 |_=>.bad
def AX:G2:=i2 (λ_ _=>true) λi j=>.int (i+j)
def iG (i j k:Ai)(env:qD)(S1:Sto):Ab D→Out
 |[x,y,z]=>.nx (((env.set i (Aa x)).set j (Aa y)).set k (Aa z)) S1
 |_=>.bad
def AY (i j k:Ai)(f:DA):DS:=λenv S=>(f env S).toS env λds S1=>iG i j k env S1 ds
def zV (xs:Ab D)(lo hi:Am Aj):Ab D:=(xs.drop (_H.sIx xs.length 0 lo)).take (_H.sIx xs.length xs.length hi-_H.sIx xs.length 0 lo)
abbrev DO:=qD→Sto→Res (Am Aj)
def OkO (X:Cx)(P:Hp)(α : Ab Af)(Q:Am Aj→Hp→Prop)(o:Am Aj)(S':Sto):Prop:=∀ H' P' α',Rel X.K H' P' α' S'→qH P P'→α<+:α'→Q o H'
def tDO (X:Cx)(f:DO):TO:=λσ H Q=>∃ P α env S,Rel X.K H P α S∧zH X.K P α σ env∧qI X P α (f env S) (OkO X P α Q)
def qZ:DO:=λ_ S=>.ok none S
def qT (f:DE):DO:=λenv S=>(f env S).bind λd S1=>match d with
 |.int i=>.ok (Aa i) S1
 |_=>.bad
def PB:PO X none (tDO X qZ):=λpins s σ H Q I ⟨P,α,env,S,r,re,af⟩=>FB pins s σ H Q I (af H P α r (qH.refl _) (Bn _))
def PC (he:PE X e (tD X fe)):PO X (Aa e) (tDO X (qT fe)):=by
 intro pins s σ H Q I h;obtain⟨P,α,env,S,r,re,af⟩:=h;refine FC (te:=tD X fe) he pins s σ H Q I ⟨P,α,env,S,r,re,?_⟩;have af':qI X P α ((fe env S).bind λd S1=>match d with|.int i=>.ok (Aa i) S1|_=>.bad) (OkO X P α Q):=af
 cases q:fe env S with
 |bad=>rw[q] at af';exact af'
 |ex c x S'=>rw[q] at af';exact af'
 |ok d S1 =>
  rw[q] at af';intro v H1 P1 α1 r1 e1 e2 rp;cases d with
  |int i=>exact⟨i,wK rp,af' H1 P1 α1 r1 e1 e2⟩
  |_=>exact An af'
def qF.cut {K:Ak}{P:Hp}{α:Ab Af}(r:qF K P α ds vs)(lo hi:Am Aj):qF K P α (zV ds lo hi) (b5 vs lo hi):=by
 unfold zV b5;rw[r.length];exact(r.drop _).take _
def gSl (d:D)(lo hi:Am Aj)(S:Sto):Res D:=match d with
 |.lst xs=>.ok (.lst (zV xs lo hi)) S
 |.loc i=>match S[i]? with
  |some (.lst xs)=>.ok (.lst (zV xs lo hi)) S
  |_=>.bad
 |.tup xs=>.ok (.tup (zV xs lo hi)) S
 |_=>.bad
def dSl (fe:DE)(fl fh:DO):DE:=λenv S=>(fe env S).bind λd S1=>(fl env S1).bind λlo S2=>(fh env S2).bind λhi S3=>gSl d lo hi S3
end
end _D
namespace _D
open PySem PySem.Spec PyProof.Rows _L _H
section
variable {prog:Bl}{w:Bz}{A:By}{E:Ad→Ah→Prop}{s:Ah}
def pV {t sl:Af}{items:Ay Ad}{vl vu:Ad}{lo hi:Am Aj}{Q:Ad→Ah→Prop}(ht:Oa s.heap t items)(hs:s.heap.IsSliceOf sl vl vu .none)(pl:O1 vl lo)(pu:O1 vu hi)
  (hw:sIx items.size 0 lo=0∧sIx items.size items.size hi=items.size) (h:Q (.ref t) s):Ao (Au prog w) A (Md (.ref t) (.ref sl)) Q E s:=by
 obtain⟨ob,hob,hcb,_⟩:=id hs;have hTs:s.TypeIs (.ref sl) "slice":=⟨ob,hob,hcb⟩;unfold Md
 try with_reducible refine Du ?_
 first|refine Ac (Al ?_)|skip
 refine Ac (OL ht.typeIs (by decide) ?_)
 refine Ac (Dx (name:=Fv "__getitem__") ht.typeIs Dr
  (Ef Dr ht.typeIs No ?_ (Ot _ _)))
 show Ao _ _ (Jy (.ref t) >>= _) _ _ s;refine Ac (Sr ht ?_);refine Ac (Ju hTs ?_);rw[Bi (by decide)]
 refine Ac (kG hs pl pu ?_);show Ao _ _ (if (((sIx items.size 0 lo:Ai):Aj) == 0&&(1:Aj) == 1&&(sIx items.size items.size hi-sIx items.size 0 lo) == items.size)=true then _ else _) _ _ s
 rw[hw.1,hw.2,Bi (by simp)]
 unfold Xo;refine Ac (Ac (Ju ht.typeIs (Al ?_)));rw[Bi (by decide)]
 exact Ac (Hc (Al ⟨_,rfl,Al h⟩))
end
section
variable {X:Cx}{e:Bw}{fe:DE}{pos p2:Fh}
def A4 (X:Cx):V→Am Aj→Am Aj→Hp→VK→Prop:=λx lo hi H Q=>∃ P α S d,Rel X.K H P α S∧Rep X.K P α d x∧zA X P α (gSl d lo hi S) Q
def A8:SlR X (A4 X):=by
 intro pins s σ H x v vl vu lo hi sl Q I rx hs pl pu h;obtain⟨P,α,S,d,r,p,af⟩:=h;cases d with
 |lst xs =>
  simp only[Rep] at p;obtain⟨a,vs,rfl,q,t⟩:=p;exact iT pins s σ H _ v vl vu lo hi sl Q I rx hs pl pu ⟨a,vs,rfl,(w9 r.sub q).l,λb hb=>yQ r hb (qF.cut t lo hi) af⟩
 |loc i =>
  obtain⟨xs,hS,af⟩:=pE (X:=X) (f:=λxs=>Res.ok (D.lst (zV xs lo hi)) S) af;simp only[Rep] at p;obtain⟨a,rfl,q⟩:=p;obtain⟨vs,z,t⟩:=r.at' i a _ q hS;exact iT pins s σ H _ v vl vu lo hi sl Q I rx hs pl pu ⟨a,vs,rfl,SqL.of z,λb hb=>yQ r hb (qF.cut t lo hi) af⟩
 |tup xs =>
  have p0:=p;simp only[Rep] at p;obtain⟨a,vs,rfl,q,t⟩:=p;by_cases hw:sIx vs.length 0 lo=0∧sIx vs.length vs.length hi=vs.length
  ·cases rx
   obtain⟨its,rv,ht,hz⟩:=I.tuple (wL r.sub q);have hlen:its.toArray.size=vs.length:=by rw[Bc];exact rv.length.symm
   refine⟨"tuple",_,Dr.lookup,ht.typeIs,pV ht hs pl pu (by rw[hlen];exact hw) ⟨.ref a,H,I,rfl,xr af r ?_⟩⟩
   have e:zV xs lo hi=xs:=by
    unfold zV;rw[t.length,hw.1,hw.2,← t.length];simp
   rw[e];exact p0
  ·exact SN pins s σ H _ v vl vu lo hi sl Q I rx hs pl pu ⟨a,vs,rfl,wL r.sub q,hw,λb hb=>pG r hb (qF.cut t lo hi) af⟩
 |_=>exact An af
def VA {lo hi:Am Bw}{fl fh:DO}(he:PE X e (tD X fe))(hl:PO X lo (tDO X fl))(hu:PO X hi (tDO X fh)):PE X (.Subscript e (.Slice lo hi none p2) pos) (tD X (dSl fe fl fh)):=
 peW (UM A8 he hl hu) λσ H Q ⟨P,α,env,S,r,re,af⟩=>by
  refine⟨P,α,env,S,r,re,?_⟩;have af':qI X P α ((fe env S).bind λd S1=>(fl env S1).bind λlo S2=>(fh env S2).bind λhi S3=>gSl d lo hi S3) (OkV X P α Q):=af;cases q:fe env S with
  |bad=>rw[q] at af';exact af'
  |ex c x S'=>rw[q] at af';exact af'
  |ok d S1 =>
   rw[q] at af';intro v H1 P1 α1 r1 e1 e2 rp;refine⟨P1,α1,env,S1,r1,re.mono e1 e2,?_⟩;have af2:qI X P1 α1 ((fl env S1).bind λlo S2=>(fh env S2).bind λhi S3=>gSl d lo hi S3) (OkV X P1 α1 Q):=zA.base e1 e2 af';cases q2:fl env S1 with
   |bad=>rw[q2] at af2;exact af2
   |ex c x S'=>rw[q2] at af2;exact af2
   |ok l S2 =>
    rw[q2] at af2;intro H2 P2 α2 r2 e3 e4;refine⟨P2,α2,env,S2,r2,(re.mono e1 e2).mono e3 e4,?_⟩;have af3:qI X P2 α2 ((fh env S2).bind λhi S3=>gSl d l hi S3) (OkV X P2 α2 Q):=zA.base e3 e4 af2;cases q3:fh env S2 with
    |bad=>rw[q3] at af3;exact af3
    |ex c x S'=>rw[q3] at af3;exact af3
    |ok u S3 =>
     rw[q3] at af3;intro H3 P3 α3 r3 e5 e6;exact⟨P3,α3,S3,d,r3,Rep.mono (e3.trans e5) (e4.trans e6) _ _ rp,zA.base e5 e6 af3⟩
end
end _D
namespace _D
open PySem PySem.Spec PyProof.Rows _L
variable {us:Ab Ad}{α:Ab Af}{ns:Ab Aj}{N:Ab As}{its ds dsF:Ab D}{body:Ab Fl}{vs:Ab V}{Q:Ad→Ah→Prop}{C:Af}{Qa Qd:Ah→Prop}{m:Ai}{o':Am (Ai × MO)}{tp:Ar}{xs ys:Ay Ad}{h':Bs}{R:It→Hp→Prop}{S SF:Sto}{env envF:qD}
def zS (tp:Ar)(h:Bs)(it l:Af)(k:Ai):Prop:=if tp then h.IsTupleIter it l k else h.IsListIter it l k
def wM (tp:Ar)(h:Bs)(l:Af)(xs:Ay Ad):Prop:=if tp then h.IsTuple l xs else h.IsList l xs
def zS.keep {h:Bs}{it l:Af}{k:Ai}(x:zS tp h it l k)(q:∀ o,h.get? it=Aa o→h'.get? it=Aa o):zS tp h' it l k:=by
 cases tp <;> (obtain⟨o,e,r⟩:=x;exact⟨o,q o e,r⟩)
def wM.keep {h:Bs}{l:Af}(x:wM tp h l xs)(q:∀ o,h.get? l=Aa o→h'.get? l=Aa o):wM tp h' l xs:=by
 cases tp <;> (obtain⟨o,e,r⟩:=x;exact⟨o,q o e,r⟩)
def zS.there {h:Bs}{it l:Af}{k:Ai}(x:zS tp h it l k):∃ o,h.get? it=Aa o∧∀ v,o.data≠.cell v:=by
 cases tp <;> (obtain⟨o,e,_,d⟩:=x;exact⟨o,e,λv z=>by rw[d] at z;cases z⟩)
section
variable {prog:Bl}{w:Bz}{A:By}{E:Ad→Ah→Prop}{s:Ah}
def UG {it t:Af}{i:Ai}{items:Ay Ad}{x:Ad}(hit:s.heap.IsTupleIter it t i)(ht:s.heap.IsTuple t items)(hx:items[i]? = Aa x)
  (hQ:∀ h',h'.IsTupleIter it t (i+1)→Ex it s.heap h'→Q x { s with heap:=h' }) : Ao (Au prog w) A (Dz (.ref it)) Q E s:=by
 obtain⟨o,e,c,d⟩:=id hit;obtain⟨u,eu,_,m,du⟩:=ht;unfold Dz;refine Ac (Dx (name:=Fv "__next__") hit.typeIs Iq (Ef Iq hit.typeIs Og ?_ (Nr _)));show Ao _ _ (field (.ref it) 0 >>= _) _ _ s;refine Ac (Dv e d (x:=.ref t) rfl ?_);show Ao _ _ (if (Dc t == Dp)=true then _ else _) _ _ s;rw[Bf (show ¬ ((Dc t == Dp)=true) from Gz)]
 show Ao _ _ (field (.ref it) 1 >>= _) _ _ s;refine Ac (Dv e d (x:=.int i 0) rfl ?_);show Ao _ _ (Xx (.ref t) >>= _) _ _ s;refine Ac (Fm eu du ?_);simp only[Gn,hx];refine Ac (Lh e d (by simp) (Al ⟨x,rfl,Al (hQ _ ⟨_,Et _ e (Obj.isFreed_of_fields (Tx d _)),(Obj.cls_mapFields ..).trans c,?_⟩ (Hk ..))⟩))
 rw[Tx d];simp[Mb]
def eK {it t:Af}{i:Ai}{items:Ay Ad}{Q:Ad→Ah→Prop}(hh:A.handled=none)(hit:s.heap.IsTupleIter it t i)(ht:s.heap.IsTuple t items)(hx:items[i]? = none)
  (hE:∀ h' e,Ys it s.heap h'→(∃ o,h'.get? e=Aa o∧o.cls=.type "StopIteration")→E (.ref e) { s with heap:=h' }) : Ao (Au prog w) A (Dz (.ref it)) Q E s:=by
 obtain⟨o,e,c,d⟩:=id hit;obtain⟨u,eu,_,m,du⟩:=ht;unfold Dz;refine Ac (Dx (name:=Fv "__next__") hit.typeIs Iq (Ef Iq hit.typeIs Og ?_ (Nr _)));show Ao _ _ (field (.ref it) 0 >>= _) _ _ s;refine Ac (Dv e d (x:=.ref t) rfl ?_);show Ao _ _ (if (Dc t == Dp)=true then _ else _) _ _ s;rw[Bf (show ¬ ((Dc t == Dp)=true) from Gz)]
 show Ao _ _ (field (.ref it) 1 >>= _) _ _ s;refine Ac (Dv e d (x:=.int i 0) rfl ?_);show Ao _ _ (Xx (.ref t) >>= _) _ _ s;refine Ac (Fm eu du ?_);simp only[Gn,hx];refine Ac (Hc (Ac (Lh e d (by simp) ?_)))
 show Ao _ _ (newExc (.type "StopIteration") [] >>= _) _ _ _;refine Ac ?_;simp only[newExc,newTuple];refine Ac (Dn ?_ (by size_fits))
 refine Ac (m:=Oh _ _) (Mk (a:=Dp) (by first|rfl|(simp only[Oh];rfl)) (Dn ?_ (by size_fits)))
 simp only[raiseNew];refine Ac (wpAny_handled ?_)
 first|rw[show A.in1.handled=none from hh]|rw[hh]
 exact Ac (Al (wpAny_throw (hE _ _ (((Hk ..).extBut.push _).push _) ⟨_,Bb _ rfl,rfl⟩)))
def pC {it l:Af}{k:Ai}{x:Ad}(hit:zS tp s.heap it l k)(hl:wM tp s.heap l xs)(hx:xs[k]? = Aa x)
  (hQ:∀ h',zS tp h' it l (k+1)→Ex it s.heap h'→Q x { s with heap:=h' }) : Ao (Au prog w) A (Dz (.ref it)) Q E s:=by
 cases tp with
 |false=>exact wpAny_nextOf_list_item hit hl hx hQ
 |true=>exact UG hit hl hx hQ
def jZ {it l:Af}{k:Ai}{Q:Ad→Ah→Prop}(hh:A.handled=none)(hit:zS tp s.heap it l k)(hl:wM tp s.heap l xs)(hx:xs[k]? = none)
  (hE:∀ h' e,Ys it s.heap h'→(∃ o,h'.get? e=Aa o∧o.cls=.type "StopIteration")→E (.ref e) { s with heap:=h' }) : Ao (Au prog w) A (Dz (.ref it)) Q E s:=by
 cases tp with
 |false=>exact wpAny_nextOf_list_end hh hit hl hx hE
 |true=>exact eK hh hit hl hx hE
structure ZA (z I O i j:Af):Prop where
 Iz:I≠z
 Oz:O≠z
 iz:i≠z
 jz:j≠z
 IO:I≠O
 Ii:I≠i
 Ij:I≠j
 Oi:O≠i
 Oj:O≠j
 ij:i≠j
structure Off (z O i j a:Af):Prop where
 z:a≠z
 O:a≠O
 i:a≠i
 j:a≠j
abbrev YH (z O i j:Af)(h h':Bs):Prop:=∀ c o,c≠z→c≠O→c≠i→c≠j→h.get? c=Aa o→h'.get? c=Aa o
def JW {tq:Ar}{z I O i j a b:Af}{k:Ai}{x y p q:Ad}(D:ZA z I O i j)(Da:Off z O i j a)(Db:Off z O i j b)
  (hz:Ol s.heap z I O .none) (hI:Ir s.heap I (.ref i) (.ref j)) (hO:Ir s.heap O p q) (h1:zS tp s.heap i a k) (h2:zS tq s.heap j b k) (ha:wM tp s.heap a xs) (hb:wM tq s.heap b ys) (hx:xs[k]? = Aa x) (hy:ys[k]? = Aa y)
  (hQ:∀ h',Ol h' z I O (Mb s.heap.objs.size)→Ir h' O x y→zS tp h' i a (k+1)→zS tq h' j b (k+1)→Ir h' s.heap.objs.size x y→h'.objs.size=s.heap.objs.size+1→YH z O i j s.heap h'→Q (.ref s.heap.objs.size) { s with heap:=h' }) :
  Ao (Au prog w) A (Hw.«zip.__next__» ⟨[.ref z],[]⟩) (λfin s'=>∃ v,fin=.done (.ret v)∧Q v s') E s:=by
 show Ao _ _ (field (.ref z) 2 >>= _) _ _ _;refine Ac (Dv hz rfl (x:=.bool false) rfl ?_);show Ao _ _ (field (.ref z) 3 >>= _) _ _ _;refine Ac (Dv hz rfl (x:=.ref I) rfl (Ac (Fm hI rfl ?_)));show Ao _ _ (Es (.ref z) >>= _) _ _ _;refine Ac ?_;unfold Es;refine Ac (Dv hz rfl (x:=.none) rfl (Al ?_));simp only[Dk];refine Ac (Hc (Ac (Dv hz rfl (x:=.ref O) rfl (Ac (Ey hz (by simp) λg1 z1 s1=>?_)))))
 replace z1:Ol g1 z I O .ellipsis:=z1
 refine Ac ?_;simp only[Pq,Wn,Kk,Of];refine Ac (Ac (OR ?_));show Ao _ _ (Dz (.ref i) >>= _) _ _ _;refine Ac (pC (h1.keep λo e=>s1.extBut _ _ D.iz e) (ha.keep λo e=>s1.extBut _ _ Da.z e) hx λg2 i2 s2=>Al ?_);have O2:Ir g2 O p q:=s2.extBut _ _ D.Oi (s1.extBut _ _ D.Oz hO);refine Ac (Fm O2 rfl (Ac (Mx O2 λg3 O3 s3=>Ac (Jm (Al ?_)))))
 replace O3:Ir g3 O x q:=O3
 refine Ac (Ac (OR ?_));show Ao _ _ (Dz (.ref j) >>= _) _ _ _;refine Ac (pC (h2.keep λo e=>s3.extBut _ _ D.Oj.symm (s2.extBut _ _ D.ij.symm (s1.extBut _ _ D.jz e))) (hb.keep λo e=>s3.extBut _ _ Db.O (s2.extBut _ _ Db.i (s1.extBut _ _ Db.z e))) hy λg4 j4 s4=>Al ?_);have O4:Ir g4 O x q:=s4.extBut _ _ D.Oj O3;refine Ac (Fm O4 rfl (Ac (Mx O4 λg5 O5 s5=>Ac (Jm (Al (Al ?_))))))
 replace O5:Ir g5 O x y:=O5
 refine Ac (Fm O5 rfl (Ac (Rw ?_)));have sz:g5.objs.size=s.heap.objs.size:=by rw[s5.1,s4.1,s3.1,s2.1,s1.1]
 have z5:Ol g5 z I O .ellipsis:=s5.extBut _ _ D.Oz.symm (s4.extBut _ _ D.jz.symm (s3.extBut _ _ D.Oz.symm (s2.extBut _ _ D.iz.symm z1)));have k5:YH z O i j s.heap g5:=λc o c1 c2 c3 c4 e=>s5.extBut _ _ c2 (s4.extBut _ _ c4 (s3.extBut _ _ c2 (s2.extBut _ _ c3 (s1.extBut _ _ c1 e))));have i5:zS tp g5 i a (k+1):=i2.keep λo e=>s5.extBut _ _ D.Oi.symm (s4.extBut _ _ D.ij (s3.extBut _ _ D.Oi.symm e));have j5:zS tq g5 j b (k+1):=j4.keep λo e=>s5.extBut _ _ D.Oj.symm e;have zl:z<g5.objs.size:=Ax z5;show Ao _ _ (Gw (.ref z) (.ref g5.objs.size) >>= _) _ _ _;refine Ac ?_;unfold Gw;have z6:Ol (g5.push { cls:=.type "tuple",data:=.seq #[x,y] }) z I O .ellipsis:=Ag _ z5;refine Ac (Ey z6 (by simp) λg7 z7 s7=>?_)
 replace z7:Ol g7 z I O (Mb g5.objs.size):=z7
 refine Ey z7 (by simp) λg8 z8 s8=>?_
 replace z8:Ol g8 z I O (Mb g5.objs.size):=z8
 have up:∀ c o,c≠z→g5.get? c=Aa o→g8.get? c=Aa o:=λc o c1 e=>s8.extBut _ _ c1 (s7.extBut _ _ c1 (Ag _ e));have T8:Ir g8 g5.objs.size x y:=s8.extBut _ _ (Hf zl) (s7.extBut _ _ (Hf zl) (Bb _ rfl));have sz8:g8.objs.size=g5.objs.size+1:=by rw[s8.1,s7.1,Ea]
 rw[sz] at z8 T8 sz8;refine Al ⟨_,rfl,?_⟩;show Q (.ref g5.objs.size) _;rw[sz];exact hQ g8 z8 (up _ _ D.Oz O5) (i5.keep λo e=>up _ o D.iz e) (j5.keep λo e=>up _ o D.jz e) T8 sz8 λc o c1 c2 c3 c4 e=>up c o c1 (k5 c o c1 c2 c3 c4 e)
end
section
variable {prog:Bl}{w:Bz}{A:By}{E:Ad→Ah→Prop}{s:Ah}
def JX {tq:Ar}{z I O i j a b:Af}{k:Ai}{p q:Ad}{Q:Fin→Ah→Prop}(hh:A.handled=none)(D:ZA z I O i j)(Da:Off z O i j a)(Db:Off z O i j b)
  (hz:Ol s.heap z I O .none) (hI:Ir s.heap I (.ref i) (.ref j)) (hO:Ir s.heap O p q) (h1:zS tp s.heap i a k) (h2:zS tq s.heap j b k) (ha:wM tp s.heap a xs) (hb:wM tq s.heap b ys) (hend:xs[k]? = none∨ys[k]? = none)
  (hE:∀ h' e,YH z O i j s.heap h'→(∃ o,h'.get? e=Aa o∧o.cls=.type "StopIteration")→E (.ref e) { s with heap:=h' }) : Ao (Au prog w) A (Hw.«zip.__next__» ⟨[.ref z],[]⟩) Q E s:=by
 show Ao _ _ (field (.ref z) 2 >>= _) _ _ _;refine Ac (Dv hz rfl (x:=.bool false) rfl ?_);show Ao _ _ (field (.ref z) 3 >>= _) _ _ _;refine Ac (Dv hz rfl (x:=.ref I) rfl (Ac (Fm hI rfl ?_)));show Ao _ _ (Es (.ref z) >>= _) _ _ _;refine Ac ?_;unfold Es;refine Ac (Dv hz rfl (x:=.none) rfl (Al ?_));simp only[Dk];refine Ac (Hc (Ac (Dv hz rfl (x:=.ref O) rfl (Ac (Ey hz (by simp) λg1 z1 s1=>?_)))))
 replace z1:Ol g1 z I O .ellipsis:=z1
 refine Ac ?_;simp only[Pq,Wn,Kk,Of];refine Ac (Ac (OR ?_));show Ao _ _ (Dz (.ref i) >>= _) _ _ _;have it1:zS tp g1 i a k:=h1.keep λo e=>s1.extBut _ _ D.iz e;have sq1:wM tp g1 a xs:=ha.keep λo e=>s1.extBut _ _ Da.z e;cases hx:xs[k]? with
 |none =>
  refine Ac (jZ hh it1 sq1 hx λg2 e x2 he=>?_);obtain⟨oe,h3,h4⟩:=he;have z2:Ol g2 z I O .ellipsis:=x2 _ _ D.iz.symm z1;have ne:e≠z:=λy=>by subst y;rw[z2] at h3;cases h3;simp at h4
  exact Ey z2 (by simp) λg3 _ s3=>hE g3 e (λc o c1 _ c3 _ y=>s3.extBut _ _ c1 (x2 _ _ c3 (s1.extBut _ _ c1 y))) ⟨oe,s3.extBut _ _ ne h3,h4⟩
 |some x =>
  have hy:ys[k]? = none:=by
   rcases hend with y|y
   ·rw[hx] at y;cases y
   ·exact y
  refine Ac (pC it1 sq1 hx λg2 i2 s2=>Al ?_);have O2:Ir g2 O p q:=s2.extBut _ _ D.Oi (s1.extBut _ _ D.Oz hO);refine Ac (Fm O2 rfl (Ac (Mx O2 λg3 O3 s3=>Ac (Jm (Al ?_)))));refine Ac (Ac (OR ?_));show Ao _ _ (Dz (.ref j) >>= _) _ _ _;refine Ac (jZ hh (h2.keep λo e=>s3.extBut _ _ D.Oj.symm (s2.extBut _ _ D.ij.symm (s1.extBut _ _ D.jz e))) (hb.keep λo e=>s3.extBut _ _ Db.O (s2.extBut _ _ Db.i (s1.extBut _ _ Db.z e))) hy λg4 e x4 he=>?_);obtain⟨oe,h3,h4⟩:=he;have z4:Ol g4 z I O .ellipsis:=x4 _ _ D.jz.symm (s3.extBut _ _ D.Oz.symm (s2.extBut _ _ D.iz.symm z1));have ne:e≠z:=λy=>by subst y;rw[z4] at h3;cases h3;simp at h4
  exact Ey z4 (by simp) λg5 _ s5=>hE g5 e (λc o c1 c2 c3 c4 y=>s5.extBut _ _ c1 (x4 _ _ c4 (s3.extBut _ _ c2 (s2.extBut _ _ c3 (s1.extBut _ _ c1 y))))) ⟨oe,s5.extBut _ _ ne h3,h4⟩
abbrev uX (tp:Ar)(l:Af):Cs:={ cls:=.type (if tp then "tuple_iterator" else "list_iterator"),data:=.fields #[.ref l,.int 0 0] }
abbrev zh1 (tp:Ar)(h:Bs)(a:Af):Bs:=h.push (uX tp a)
abbrev zh2 (tp tq:Ar)(h:Bs)(a b:Af):Bs:=(zh1 tp h a).push (uX tq b)
abbrev zh3 (tp tq:Ar)(h:Bs)(a b:Af):Bs:=(zh2 tp tq h a b).push { cls:=.type "tuple",data:=.seq #[.ref h.objs.size,.ref (zh1 tp h a).objs.size] }
abbrev zh4 (tp tq:Ar)(h:Bs)(a b:Af):Bs:=(zh3 tp tq h a b).push { cls:=.type "tuple",data:=.seq #[.none,.none] }
abbrev zh5 (tp tq:Ar)(h:Bs)(a b:Af):Bs:=(zh4 tp tq h a b).push { cls:=.type "zip",data:=.fields #[.none,.bool false,.bool false,.ref (zh2 tp tq h a b).objs.size,.ref (zh3 tp tq h a b).objs.size] }
set_option maxHeartbeats 4000000 in
def MP (tp:Ar)(a b:Af)(xs ys:Ay Ad) :
  Meets (Hw.«zip.__new__» ⟨[.type "zip",.ref a,.ref b],[]⟩) (λ_ R s=>wM tp s.heap a xs∧wM tp s.heap b ys∧R (.ok (.ret (.ref (zh4 tp tp s.heap a b).objs.size))) { s with heap:=zh5 tp tp s.heap a b }):=
 .of_wp λprog w A R s h=>by
  obtain⟨hp,g,d,tk,os⟩:=s;obtain⟨q1,q2,h⟩:=h;have hsub:=sub_zip;have e2:∀ ob:Cs,wM tp (hp.push ob) b ys:=λob=>q2.keep λo e=>Ag _ e;cases tp
  ·have l1:Vx (Mn ⟨hp,g,d,tk,os⟩) a xs:=q1
   have l2:Vx (Mn ⟨hp.push { cls:=.type "list_iterator",data:=.fields #[.ref a,.int 0 0] },g,d,tk,os⟩) b ys:=e2 _
   wp_walk using Gb l1,Gb l2
   exact⟨_,rfl,h⟩
  ·have l1:Uj (Mn ⟨hp,g,d,tk,os⟩) a xs:=q1
   have l2:Uj (Mn ⟨hp.push { cls:=.type "tuple_iterator",data:=.fields #[.ref a,.int 0 0] },g,d,tk,os⟩) b ys:=e2 _
   wp_walk using Gh l1,Gh l2
   exact⟨_,rfl,h⟩
def gX {h:Bs}{it l:Af}(e:h.get? it=Aa (uX tp l)):zS tp h it l 0:=by
 cases tp
 ·exact⟨_,e,rfl,rfl⟩
 ·exact⟨_,e,rfl,rfl⟩
def YS {a b:Af}(ha:wM tp s.heap a xs)(hb:wM tp s.heap b ys)
  (h:∀ h',Ol h' (s.heap.objs.size+4) (s.heap.objs.size+2) (s.heap.objs.size+3) .none→Ir h' (s.heap.objs.size+2) (.ref s.heap.objs.size) (.ref (s.heap.objs.size+1)) →
   Ir h' (s.heap.objs.size+3) .none .none→zS tp h' s.heap.objs.size a 0→zS tp h' (s.heap.objs.size+1) b 0→h'.objs.size=s.heap.objs.size+5→(∀ c o,s.heap.get? c=Aa o→h'.get? c=Aa o)→Q (.ref (s.heap.objs.size+4)) { s with heap:=h' }) :
  Ao (Au prog w) A (call (.type "zip") [.ref a,.ref b]) Q E s:=by
 refine callType_new F.called_zip (by decide) (F.typeCall_zip_2 _ _) (F.newCall_zip_2 _ _) (λobj=>F.args_object_init_3 obj _ _) F.entry_zip_new (MP tp a b xs ys) ⟨ha,hb,?_⟩
 have y1:(zh1 tp s.heap a).objs.size=s.heap.objs.size+1:=Ea ..;have y2:(zh2 tp tp s.heap a b).objs.size=s.heap.objs.size+2:=by rw[Ea,y1]
 have y3:(zh3 tp tp s.heap a b).objs.size=s.heap.objs.size+3:=by rw[Ea,y2]
 have y4:(zh4 tp tp s.heap a b).objs.size=s.heap.objs.size+4:=by rw[Ea,y3]
 have y5:(zh5 tp tp s.heap a b).objs.size=s.heap.objs.size+5:=by rw[Ea,y4]
 have g5:(zh5 tp tp s.heap a b).get? (zh4 tp tp s.heap a b).objs.size=Aa _:=Bb _ rfl;have g4:(zh5 tp tp s.heap a b).get? (zh3 tp tp s.heap a b).objs.size=Aa _:=Ag _ (Bb _ rfl);have g3:(zh5 tp tp s.heap a b).get? (zh2 tp tp s.heap a b).objs.size=Aa _:=Ag _ (Ag _ (Bb _ rfl));have g2:(zh5 tp tp s.heap a b).get? (zh1 tp s.heap a).objs.size=Aa (uX tp b):=Ag _ (Ag _ (Ag _ (Bb _ rfl)));have g1:(zh5 tp tp s.heap a b).get? s.heap.objs.size=Aa (uX tp a):=Ag _ (Ag _ (Ag _ (Ag _ (Bb _ rfl))));have kp:∀ c o,s.heap.get? c=Aa o→(zh5 tp tp s.heap a b).get? c=Aa o:=λc o e=>Ag _ (Ag _ (Ag _ (Ag _ (Ag _ e))));show _∧_;rw[y2,y3,y4] at g5;rw[y1,y2] at g3;rw[y3] at g4;rw[y1] at g2;rw[y4];exact⟨⟨_,g5,rfl⟩,h _ g5 g3 g4 (gX g1) (gX g2) y5 kp⟩
end
def Sq (tp:Ar)(K:Ak)(H:Hp)(a:Af)(xs:Ab V):Prop:=if tp then SqT K H a xs else SqL K H a xs
section
variable {X:Cx}{pins:Ab (Af × Cs)}{σ : _L.St}{H:Hp}{s:Ah}
def Sq.at {a:Af}{xs:Ab V}(I:Inv X pins σ H s)(q:Sq tp X.K H a xs):∃ its,qK xs its∧wM tp s.heap a its.toArray:=by
 cases tp with
 |true =>
  obtain⟨its,rv,p,_⟩:=I.tuple q;exact⟨its,rv,p⟩
 |false =>
  obtain⟨its,rv,p,_⟩:=I.list q;exact⟨its,rv,p.isList⟩
def Sq.inj {a:Af}{xs ys:Ab V}(I:Inv X pins σ H s)(q:Sq tp X.K H a xs)(q':Sq tp X.K H a ys):xs=ys:=by
 cases tp with
 |true=>exact I.tuple_inj q q'
 |false=>exact I.list_inj q q'
def Sq.off {a b:Af}{xs:Ab V}(I:Inv X pins σ H s)(q:Sq tp X.K H a xs)(f:wG X pins H b):a≠b:=by
 have key:H a≠none∨∃ o,X.K.lookup a=Aa o:=by
  cases tp with
  |true =>
   rcases q with (q|⟨o,q⟩)|⟨o,_,_,q,_⟩
   ·exact .inl (by rw[q];intro z;cases z)
   ·exact .inl (by rw[q];intro z;cases z)
   ·exact .inr ⟨_,q⟩
  |false =>
   rcases q with (q|⟨o,q⟩)|⟨o,_,_,q,_⟩
   ·exact .inl (by rw[q];intro z;cases z)
   ·exact .inl (by rw[q];intro z;cases z)
   ·exact .inr ⟨_,q⟩
 rintro rfl;rcases key with k|⟨o,k⟩
 ·exact k f.1
 ·have e:=I.mod.kin a o k
  rcases f.2.2.2.1 with z|z
  ·exact I.ok.noex a o e z
  ·exact absurd (Ax (I.ok.bs a o e).1) (Pm.mpr z)
def Inv.turnLay {fp:Ab Af}{T:Af}{xs:Ab V}{its:Ab Ad}(I:Inv X pins σ H s)(hf:∀ b∈fp,wG X pins H b)(k:∀ b o,b ∉ fp→s.heap.get? b=Aa o→h'.get? b=Aa o)(th:∀ b∈fp,∃ o,h'.get? b=Aa o)
  (hT:s.heap.objs.size≤T) (rv:qK xs its) (hx:Oa h' T its.toArray) (hz:xs.length≤sizeLine):Inv X pins σ (upd H T (.tup xs)) { s with heap:=h' }:=by
 have hn:H T=none:=I.hok.fresh hT;have ne:∀ b o,s.heap.get? b=Aa o→b≠T:=λb o e=>Cj (Bv (Ax e) hT);refine I.step (g':=s.gens) (d':=s.drawn) (t':=s.toks) (ch:=fp) (λb hb=>⟨(hf b hb).2.2.2.1,(hf b hb).2.1,(hf b hb).2.2.2.2.1,(hf b hb).2.2.2.2.2⟩) (λb o _ _ hc e _=>k b o hc e) (λb o _ _ hc e _=>⟨o.slots,k b o hc e⟩)
  (λb o _ e n=>by rw[qR (ne b o e)];exact n) (λb o hc e=>⟨o,k b o hc e⟩) (λb ys e=>by rw[qR (zK e hn)];exact e) (λb o u e=>by rw[qR (zK e hn)];exact e)
  (λb ps e=>⟨#[],by rw[qR (zK e hn),e];simp⟩) (λm hm=>?_) (λb u e=>?_) I.bare
 ·obtain⟨o,es,ep,ho,r⟩:=hm
  exact⟨o,es,ep,k _ o (λz=>(hf _ z).2.1 rfl) ho,r⟩
 ·by_cases hb:b=T
  ·subst hb
   rw[zE] at e;cases e;exact⟨hz,its,rv,hx⟩
  ·rw[qR hb] at e
   refine(I.hok b u e).stay (λc v hc q=>k c v (λz=>?_) q) (λc q=>by rw[qR (zK q hn)];exact q) λc ys q=>by rw[qR (zK q hn)];exact q
   have hcn:=(hf c z).1;rcases hc with rfl|hc
   ·rw[hcn] at e;cases e
   ·rw[hcn] at hc;cases hc
def Inv.turnL {fp:Ab Af}(I:Inv X pins σ H s)(hf:∀ b∈fp,wG X pins H b)(k:∀ b o,b ∉ fp→s.heap.get? b=Aa o→h'.get? b=Aa o):Inv X pins σ H { s with heap:=h' }:=by
 refine I.step (g':=s.gens) (d':=s.drawn) (t':=s.toks) (ch:=fp) (λb hb=>⟨(hf b hb).2.2.2.1,(hf b hb).2.1,(hf b hb).2.2.2.2.1,(hf b hb).2.2.2.2.2⟩) (λb o _ _ hc e _=>k b o hc e) (λb o _ _ hc e _=>⟨o.slots,k b o hc e⟩)
  (λb o _ e n=>n) (λb o hc e=>⟨o,k b o hc e⟩) (λb ys e=>e) (λb o u e=>e) (λb ps e=>⟨#[],by rw[e];simp⟩) (λm hm=>?_) (λb u e=>?_) I.bare
 ·obtain⟨o,es,ep,ho,r⟩:=hm
  exact⟨o,es,ep,k _ o (λz=>(hf _ z).2.1 rfl) ho,r⟩
 ·refine(I.hok b u e).stay (λc v hc q=>k c v (λz=>?_) q) (λc q=>q) λc ys q=>q
  have hcn:=(hf c z).1;rcases hc with rfl|hc
  ·rw[hcn] at e;cases e
  ·rw[hcn] at hc;cases hc
end
def Itz (tp:Ar)(K:Ak)(a b:Af):It:=
  ⟨λi H=>∃ xs ys x y,Sq tp K H a xs∧Sq tp K H b ys∧xs[i]? = Aa x∧ys[i]? = Aa y,
   λi H v H'=>∃ T x y,v=.ref T∧H T=none∧H'=upd H T (.tup [x,y])∧(∀ xs,Sq tp K H a xs→xs[i]? = Aa x)∧∀ ys,Sq tp K H b ys→ys[i]? = Aa y,
   λi H=>∃ xs ys,Sq tp K H a xs∧Sq tp K H b ys∧(xs.length≤i∨ys.length≤i)⟩
def o8 (tp:Ar)(z I O i j a b:Af)(k:Ai)(h:Bs):Prop:=∃ p q,Ol h z I O .none∧Ir h I (.ref i) (.ref j)∧Ir h O p q∧zS tp h i a k∧zS tp h j b k
def bQ {z I O i j a b:Af}{k:Ai}{h:Bs}(st:o8 tp z I O i j a b k h):∀ c∈[z,I,O,i,j],∃ o,h.get? c=Aa o∧∀ v,o.data≠.cell v:=λc hc=>by
 obtain⟨p,q,s1,s2,s3,s4,s5⟩:=st;simp only[Aw,Cw,Fz] at hc;rcases hc with rfl|rfl|rfl|rfl|rfl
 ·exact⟨_,s1,λv y=>by cases y⟩
 ·exact⟨_,s2,λv y=>by cases y⟩
 ·exact⟨_,s3,λv y=>by cases y⟩
 ·exact s4.there
 ·exact s5.there
def KK {c z I O i j:Af}(h:c ∉ [z,I,O,i,j]):c≠z∧c≠O∧c≠i∧c≠j:=by
 simp only[Aw,Cw,Fz,To] at h;exact⟨h.1,h.2.2.1,h.2.2.2.1,h.2.2.2.2⟩
def JO {P:Bl}{w:Bz}{K:Ak}{elts:Ab Bw}{x1:Ai}{tpos:Fh}{z I O i j a b:Af}(D:ZA z I O i j):Turn P w K (.Tuple elts x1 tpos) (Itz tp K a b) [z,I,O,i,j] z (o8 tp z I O i j a b) where
 mem:=.head _
 obj:=λk h st=>bQ st
 keep:=λk h h' st kp=>by
  obtain⟨p,q,s1,s2,s3,s4,s5⟩:=st;exact⟨p,q,kp z (.head _) _ s1,kp I (.tail _ (.head _)) _ s2,kp O (.tail _ (.tail _ (.head _))) _ s3,s4.keep λo e=>kp i (.tail _ (.tail _ (.tail _ (.head _)))) o e,s5.keep λo e=>kp j (.tail _ (.tail _ (.tail _ (.tail _ (.head _))))) o e⟩
 item:=by
  intro X hP hw hK hc k pins s σ H E Iv hf st hg;subst hP hw hK;obtain⟨p,q,s1,s2,s3,s4,s5⟩:=st;obtain⟨xs,ys,x,y,qa,qb,hx,hy⟩:=hg;obtain⟨ia,ra,ha⟩:=qa.at Iv;obtain⟨ib,rb,hb⟩:=qb.at Iv;obtain⟨u,hu,ru⟩:=ra.get hx;obtain⟨u',hu',ru'⟩:=rb.get hy;have off:∀ {c:Af} {zs:Ab V},Sq tp X.K H c zs→Off z O i j c:=λ{c zs} qc=>⟨qc.off Iv (hf z (.head _)),qc.off Iv (hf O (.tail _ (.tail _ (.head _)))),qc.off Iv (hf i (.tail _ (.tail _ (.tail _ (.head _))))),qc.off Iv (hf j (.tail _ (.tail _ (.tail _ (.tail _ (.head _))))))⟩;have hT:s.TypeIs (.ref z) "zip":=⟨_,s1,rfl⟩;unfold Ld;refine Ac (Ib (Dx (name:=Fv "__next__") hT Nd (Ef Nd hT Vy
   (JW D (off qa) (off qb) s1 s2 s3 s4 s5 ha hb (by simpa using hu) (by simpa using hu') λh' a1 a2 a3 a4 a5 a6 a7=>Al ?_) (Vc _))))
  refine⟨_,rfl,wpAny_letOwnedTupleGo_zip (s:={ s with heap:=h' }) a1 λh2 b1 b2=>?_⟩
  have up:∀ c o,c≠z→h'.get? c=Aa o→h2.get? c=Aa o:=λc o n e=>(b2.2 c n).trans e;have zl:z<s.heap.objs.size:=Ax s1;have T2:Ir h2 s.heap.objs.size u u':=up _ _ (Hf zl) a5;have st2:o8 tp z I O i j a b (k+1) h2:=⟨u,u',b1,up _ _ D.Iz (a7 I _ D.Iz D.IO D.Ii D.Ij s2),up _ _ D.Oz a2,a3.keep λo e=>up _ o D.iz e,a4.keep λo e=>up _ o D.jz e⟩;refine⟨.ref s.heap.objs.size,upd H s.heap.objs.size (.tup [x,y]),?_,rfl,⟨_,x,y,rfl,Iv.hok.fresh (Av _),rfl,λzs qz=>by rw[qz.inj Iv qa];exact hx,λzs qz=>by rw[qz.inj Iv qb];exact hy⟩,st2,λc hc=>?_⟩
  ·show _L.Inv X pins σ (upd H s.heap.objs.size (.tup [x,y])) { s with heap:=h2 }
   refine Inv.turnLay (fp:=[z,I,O,i,j]) (its:=[u,u']) Iv hf (λc o hc e=>?_) (λc hc=>?_) (Av _) (.cons ru (.cons ru' .nil)) ⟨_,T2,rfl,_,rfl⟩ (by show 2≤sizeLine;decide)
   ·have hc:=KK hc
    exact up c o hc.1 (a7 c o hc.1 hc.2.1 hc.2.2.1 hc.2.2.2 e)
   ·obtain⟨o,e,_⟩:=bQ st2 c hc
    exact⟨o,e⟩
  ·have hn:=(hf c hc).1
   rw[qR ?_]
   ·exact hn
   ·rintro rfl
    obtain⟨o,e,_⟩:=bQ ⟨p,q,s1,s2,s3,s4,s5⟩ _ hc;exact absurd (Ax e) (Er _)
 done:=by
  intro X hP hw hK hc k pins s σ H E Iv hf st hg;subst hP hw hK;obtain⟨p,q,s1,s2,s3,s4,s5⟩:=st;obtain⟨xs,ys,qa,qb,hend⟩:=hg;obtain⟨ia,ra,ha⟩:=qa.at Iv;obtain⟨ib,rb,hb⟩:=qb.at Iv;have off:∀ {c:Af} {zs:Ab V},Sq tp X.K H c zs→Off z O i j c:=λ{c zs} qc=>⟨qc.off Iv (hf z (.head _)),qc.off Iv (hf O (.tail _ (.tail _ (.head _)))),qc.off Iv (hf i (.tail _ (.tail _ (.tail _ (.head _))))),qc.off Iv (hf j (.tail _ (.tail _ (.tail _ (.tail _ (.head _))))))⟩;have hT:s.TypeIs (.ref z) "zip":=⟨_,s1,rfl⟩;have l1:=ra.length;have l2:=rb.length;unfold Ld;refine Ac (Ib (Dx (name:=Fv "__next__") hT Nd (Ef Nd hT Vy
   (JX (Iv.ok.hd hc) D (off qa) (off qb) s1 s2 s3 s4 s5 ha hb ?_ λh' e kp he=>?_) (Vc _))))
  ·rcases hend with y|y
   ·exact .inl (by simp;omega)
   ·exact .inr (by simp;omega)
  ·obtain⟨o,ho,hcl⟩:=he
   refine Ac (Mp (T:="StopIteration") (b:=true) ⟨o,ho,hcl⟩ Rx (Al ⟨rfl,Inv.turnL (fp:=[z,I,O,i,j]) Iv hf λc o hc e=>?_⟩));have hc:=KK hc;exact kp c o hc.1 hc.2.1 hc.2.2.1 hc.2.2.2 e
 self:=λ_ _ _ _ _ st h=>by
  obtain⟨p,q,s1,_⟩:=st;exact Vz s1 h
def yJ (xs ys:Ab D):Ab D:=List.zipWith (λx y=>D.tup [x,y]) xs ys
def Z5 (ds:Ab D):Am (Ab D):=match ds with
 |[.tup xs,.tup ys]=>Aa (yJ xs ys)
 |[.lst xs,.lst ys]=>Aa (yJ xs ys)
 |_=>none
def b8 (f:DA):DI:=λenv S=>(f env S).bind λds S1=>vA (Z5 ds) S1
def JV {xs ys:Ab D}{i:Ai}:(yJ xs ys)[i]? = match xs[i]?,ys[i]? with|some x,Aa y=>Aa (D.tup [x,y])|_,_=>none:=by
 unfold yJ;rw[List.getElem?_zipWith];cases xs[i]? <;> cases ys[i]? <;> rfl
def mP (xs ys:Ab D):(yJ xs ys).length=min xs.length ys.length:=by simp[yJ]
section
variable {K:Ak}
def Sq.mono {P P':Hp}(e:qH P P'){a:Af}{xs:Ab V}(q:Sq tp K P a xs):Sq tp K P' a xs:=by
 cases tp with
 |true=>exact vP e q
 |false=>exact e.seq q
def BG {P:Hp}{a b:Af}{xs ys:Ab D}{ws:Ab V}(qa:Sq tp K P a vs)(qb:Sq tp K P b ws)(ta:qF K P α xs vs)(tb:qF K P α ys ws):ItD K (Itz tp K a b) P α (yJ xs ys) where
 go:=λi H P1 α1 S hi r e _=>by
  rw[mP] at hi;have h1:i<vs.length:=by rw[← ta.length];omega
  have h2:i<ws.length:=by rw[← tb.length];omega
  exact⟨vs,ws,vs[i],ws[i],qa.mono (e.trans r.sub),qb.mono (e.trans r.sub),by simp,by simp⟩
 yld:=λi H x H' P1 α1 S hi r e e2 y=>by
  obtain⟨T,u,w,rfl,hT,rfl,hu,hw⟩:=y;rw[mP] at hi;have h1:i<xs.length:=by omega
  have h2:i<ys.length:=by omega
  obtain⟨v1,z1,p1⟩:=ta.get (Ap h1);obtain⟨v2,z2,p2⟩:=tb.get (Ap h2);have eu:=hu vs (qa.mono (e.trans r.sub));have ew:=hw ws (qb.mono (e.trans r.sub));rw[z1] at eu;cases eu;rw[z2] at ew;cases ew;obtain⟨r1,s1⟩:=r.pure (o:=.tup [u,w]) hT;refine⟨_,.tup [xs[i],ys[i]],?_,r1,s1,?_⟩
  ·rw[JV,Ap h1,Ap h2]
  ·exact fL (.of zE) (.cons (Rep.mono (e.trans s1) e2 _ _ p1) (.cons (Rep.mono (e.trans s1) e2 _ _ p2) .nil))
 stop:=λi H P1 α1 S hi r e _=>by
  rw[mP] at hi;have l1:=ta.length;have l2:=tb.length;exact⟨vs,ws,qa.mono (e.trans r.sub),qb.mono (e.trans r.sub),by omega⟩
end
section
variable {X:Cx}{e1 e2:Bw}{elts:Ab Bw}{x1:Ai}{tpos:Fh}{f:DA}{p pos:Fh}
def YD {pins:Ab (Af × Cs)}{σ:_L.St}{H P:Hp}{s:Ah}{a b:Af}{xs ys:Ab D}{ws:Ab V}(I:Inv X pins σ H s)(r:Rel X.K H P α S)(qa:Sq tp X.K P a vs)(qb:Sq tp X.K P b ws)(ta:qF X.K P α xs vs)(tb:qF X.K P α ys ws)
  (q:OkI X P α R (yJ xs ys) S):Ao (Au X.prog X.w) X.A (call (.type "zip") [.ref a,.ref b]) (λv s1=>Ao (Au X.prog X.w) X.A (Nj v) (PIE X pins σ (.Tuple elts x1 tpos) R) X.xe s1) X.xe s:=by
 obtain⟨ia,ra,ha⟩:=(qa.mono r.sub).at I;obtain⟨ib,rb,hb⟩:=(qb.mono r.sub).at I;refine YS ha hb λh' z1 z2 z3 z4 z5 z6 z7=>?_;refine Vz (s:={ s with heap:=h' }) z1 ?_
 have D:ZA (s.heap.objs.size+4) (s.heap.objs.size+2) (s.heap.objs.size+3) s.heap.objs.size (s.heap.objs.size+1):=by constructor <;> (intro z;simp at z)
 refine⟨_,[s.heap.objs.size+4,s.heap.objs.size+2,s.heap.objs.size+3,s.heap.objs.size,s.heap.objs.size+1],_,_,H,rfl,I.kept (t':=s.toks) z7,JO (a:=a) (b:=b) D,⟨_,_,z1,z2,z3,z4,z5⟩,λc hc=>?_,q _ _ P α r (qH.refl _) (Bn _) (BG qa qb ta tb)⟩;have hl:s.heap.objs.size≤c:=by
  simp only[Aw,Cw,Fz] at hc;rcases hc with rfl|rfl|rfl|rfl|rfl <;> simp
 exact I.fpOk hl (I.hok.fresh hl)
inductive ZipV (ds:Ab D)(its:Ab D):Prop
 |tup (xs ys:Ab D) (ed:ds=[.tup xs,.tup ys]) (e:its=yJ xs ys)
 |lst (xs ys:Ab D) (ed:ds=[.lst xs,.lst ys]) (e:its=yJ xs ys)
def MN (h:Z5 ds=Aa its):ZipV ds its:=by
 cases ds with
 |nil=>exact nn h
 |cons a ds =>
  cases a with
  |tup xs =>
   cases ds with
   |nil=>exact nn h
   |cons b ds =>
    cases b with
    |tup ys =>
     cases ds with
     |nil=>exact .tup xs ys rfl (Co h).symm
     |cons _ _=>exact nn h
    |_=>exact nn h
  |lst xs =>
   cases ds with
   |nil=>exact nn h
   |cons b ds =>
    cases b with
    |lst ys =>
     cases ds with
     |nil=>exact .lst xs ys rfl (Co h).symm
     |cons _ _=>exact nn h
    |_=>exact nn h
  |_=>exact nn h
def N2 (hg:Gl X "zip")(hm:X.mg "zip" = none)(ha:PA X [e1,e2] (tDA X f))(hs:Bd [e1,e2] X.env=(false,eval e1 X.env)::Bd [e2] X.env:=by rfl)(hpl:(Fu pos (Bd [e2] X.env)).any (·.1)=false:=by rfl) :
  PI X (.Tuple elts x1 tpos) (.Call (.Name "zip" p) [e1,e2] [] pos) (tDI X (b8 f)):=by
 intro pins s σ H R I h;obtain⟨P,α,env,S,r,re,af⟩:=h;refine Call_ (u7 I hg hm boot_zip (Hg (thn (wV ha I r re af pos) λus s1 ⟨vs,H1,P1,α1,ds,S1,I1,rv,r1,re1,rp,e1,e2,af1⟩=>?_) hs hpl));obtain⟨its,hi,q⟩:=uT af1;cases MN hi with
 |tup xs ys ed e =>
  subst ed e;obtain⟨v,w,u,x,rfl,rfl,p1,p2,q1,q2⟩:=fM rp rv;simp only[Rep] at p1 p2;obtain⟨a,va,rfl,qa,ta⟩:=p1;obtain⟨b,vb,rfl,qb,tb⟩:=p2;cases (show u=Dc a from q1)
  cases (show x=Dc b from q2)
  exact YD (tp:=true) I1 r1 qa qb ta tb (q.base e1 e2)
 |lst xs ys ed e =>
  subst ed e;obtain⟨v,w,u,x,rfl,rfl,p1,p2,q1,q2⟩:=fM rp rv;simp only[Rep] at p1 p2;obtain⟨a,va,rfl,qa,ta⟩:=p1;obtain⟨b,vb,rfl,qb,tb⟩:=p2;cases (show u=Dc a from q1)
  cases (show x=Dc b from q2)
  exact YD (tp:=false) I1 r1 qa.l qb.l ta tb (q.base e1 e2)
end
def Src (K:Ak)(mg:As→Am Ad)(x:As)(st:Fl)(ps:Ab As):Prop:=∃ f fd,mg x=Aa (.ref f)∧Fun K x x st f fd∧vW K fd ps []
def Lk (K:Ak)(f:Af)(fd:Fy):Prop:=∃ oc od osl,K.lookup f=Aa ⟨oc,od,.func fd,osl⟩
def sK {K:Ak}{x q:As}{st:Fl}{f:Af}{fd:Fy}(F:Fun K x q st f fd):Lk K f fd:=by
 obtain⟨oc,od,kV,doc,pm,an,cdv,ct,osl,_,lk,_⟩:=F.ex;exact⟨oc,od,osl,lk⟩
def Lk.one {K:Ak}{f:Af}{fd fd':Fy}(h:Lk K f fd)(h':Lk K f fd'):fd=fd':=by
 obtain⟨oc,od,osl,e⟩:=h;obtain⟨oc',od',osl',e'⟩:=h';rw[e] at e';cases e';rfl
def Def (P:Bl)(w:Bz)(K:Ak)(mg:As→Am Ad)(base:Bs)(cm:Ar)(k:Ai)(x:As)(n:Ai)(F:DF):Prop:=
 ∃ f fd ps,ps.length=n∧mg x=Aa (.ref f)∧En K (.ref f)=true∧vW K fd ps [] ∧ Lk K f fd∧FnX P w K mg base cm k f fd ps (spD K n F)
def sT (P:Bl)(w:Bz)(K:Ak)(mg:As→Am Ad)(base:Bs)(cm:Ar)(k:Ai)(x:As)(ps:Ab As)(F:DF):Prop:=
 ∃ f fd,mg x=Aa (.ref f)∧En K (.ref f)=true∧vW K fd ps [] ∧ Lk K f fd∧FnX P w K mg base cm k f fd ps (spD K ps.length F)
section
variable {P:Bl}{w:Bz}{K:Ak}{mg:As→Am Ad}{base:Bs}{cm:Ar}
def TY {x:As}{st:Fl}{ps:Ab As}{k:Ai}{g:DS}(h:Src K mg x st ps)(S:FnScope N ps (qJ st))
  (hbody:∀ (f:Af) (cdv:Ad) (A:By) (outer:Ab Jv) (s:Ah) (H:Hp) (E:XK),RoomC cm k (A.deeper (Hd x (qJ st) s.heap.objs.size f cdv)) →
   PSs (cxC cm P w K mg base N x (qJ st) f cdv A outer s H E) (xD st) (tDS (cxC cm P w K mg base N x (qJ st) f cdv A outer s H E) g)):Def P w K mg base cm (k+1) x ps.length (qQ N.length g):=by
 obtain⟨f,fd,hm,F,hb⟩:=h;exact⟨f,fd,ps,rfl,hm,F.kp,hb,sK F,fnX F S λcdv A outer s H E hr=>hbody f cdv A outer s H E hr⟩
def GY {x:As}{st:Fl}{ps:Ab As}{k:Ai}{g:DS}(h:Src K mg x st ps)(S:FnScope N ps (qJ st))
  (hbody:∀ (f:Af) (cdv:Ad) (A:By) (outer:Ab Jv) (s:Ah) (H:Hp) (E:XK),RoomC cm k (A.deeper (Hd x (qJ st) s.heap.objs.size f cdv)) →
   PSs (cxC cm P w K mg base N x (qJ st) f cdv A outer s H E) (xD st) (tDS (cxC cm P w K mg base N x (qJ st) f cdv A outer s H E) g)):sT P w K mg base cm (k+1) x ps (qQ N.length g):=by
 obtain⟨f,fd,hm,F,hb⟩:=h;exact⟨f,fd,hm,F.kp,hb,sK F,fnX F S λcdv A outer s H E hr=>hbody f cdv A outer s H E hr⟩
def Def.mono {x:As}{j k n:Ai}{F:DF}(h:Def P w K mg base cm j x n F)(hk:j≤k:=by decide):Def P w K mg base cm k x n F:=by
 obtain⟨f,fd,ps,hn,hm,kp,hb,hl,X⟩:=h;exact⟨f,fd,ps,hn,hm,kp,hb,hl,X.len,λA outer s H args us vs Q E hr=>X.run A outer s H args us vs Q E (hr.mono hk)⟩
def Def.any {x:As}{k n:Ai}{F:DF}(h:Def P w K mg base false k x n F):Def P w K mg base cm k x n F:=by
 obtain⟨f,fd,ps,hn,hm,kp,hb,hl,X⟩:=h;exact⟨f,fd,ps,hn,hm,kp,hb,hl,X.any⟩
end
section
variable {X:Cx}{cm:Ar}{k n:Ai}{F:DF}{x:As}{p pos:Fh}{e:Bw}{es:Ab Bw}{fa:DA}
def dcN (G:Def X.prog X.w X.K X.mg X.base cm k x n F)(hr:RoomC cm k X.A)(hF:Fn1 X)(hg:Gl X x)(ha:PA X (e::es) (tDA X fa))(hdb:(x == ("__debug__" : As))=false:=by decide)(he:Bd (e::es) X.env=(false,eval e X.env)::Bd es X.env:=by rfl)(hpl:(Fu pos (Bd es X.env)).any (·.1)=false:=by rfl) :
  PE X (.Call (.Name x p) (e::es) [] pos) (tD X (qG n F fa)):=by
 obtain⟨f,fd,ps,hn,hm,kp,hb,hl,G⟩:=G;exact GS G hr hF hg hm kp hb ha hdb he hpl
def dcL (G:Def X.prog X.w X.K X.mg X.base cm k x n F)(hr:RoomC cm k X.A)(hF:Fn1 X)(hg:Gl X x)(ha:PA X (e::es) (tDA X fa))(hdb:(x == ("__debug__" : As))=false:=by decide)(he:Bd (e::es) X.env=(false,eval e X.env)::Bd es X.env:=by rfl)(hpl:(Fu pos (Bd es X.env)).any (·.1)=false:=by rfl) :
  PE X (.Call (.Name x p) (e::es) [] pos) (tD X (qG n (u8 F) fa)):=by
 obtain⟨f,fd,ps,hn,hm,kp,hb,hl,G⟩:=G;exact V7 G hr hF hg hm kp hb ha hdb he hpl
def ZV (hg:Gl X x)(hm:X.mg x=Aa (.ref C))(hk:En X.K (.ref C)=true)(hd:(x == ("__debug__" : As))=false:=by decide):PE X (.Name x pos) (tD X (dC (.obj C))):=
 cZ hg hm (v:=.ref C) rfl (λP α => by simp only[Rep];exact⟨trivial,hk⟩) hd
end
def zL:DF:=λds S=>match ds with
 |[.dct0]=>.bad
 |_=>rP ds S
def GM {X:Cx}:yK X (.builtin "len") zL:=T7 trivial
def b6:DE:=λ_ _=>.bad
def TK {X:Cx}{e:Bw}:PE X e (tD X b6):=λ_ _ _ _ _ _ ⟨_,_,_,_,_,_,h⟩=>An h
def K3:∃ C:Aj→Aj→Ar,C=r8:=⟨_,rfl⟩
def K2:Aj→Aj→Ar:=Mq K3
def r9:K2=r8:=Mr K3
def xZ:G2:=i2 K2 λi j=>.int (i*j)
def iB {X:Cx}:OpD X (Ev .Mult) xZ:=by
 unfold xZ;rw[r9];exact BY
def hu1 {cm:Ar}{k:Ai}{A:By}(hr:RoomC cm k A):A.units+1<Fi:=by have:=hr.units;omega
def okO (F:DF):DF:=λds S=>match F ds S with
 |.ok d S'=>.ok d S'
 |_=>.bad
def jA {F:DF}{S':Sto}{d:D}(h:F ds S=.ok d S'):okO F ds S=.ok d S':=by unfold okO;rw[h]
section
variable {X:Cx}{cm:Ar}{k n:Ai}{F:DF}{x:As}{p pos:Fh}{e:Bw}{es:Ab Bw}{fa:DA}{f:Af}{fd:Fy}{ps:Ab As}
def FW {pins:Ab (Af × Cs)}{σ:_L.St}{H:Hp}{s:Ah}{Q:VK}{P:Hp}(G:FnX X.prog X.w X.K X.mg X.base cm k f fd ps (spD X.K n F))(hr:RoomC cm k X.A)(hb:vW X.K fd ps [])
  (I:Inv X pins σ H s) (r:Rel X.K H P α S) (rv:qK vs us) (rp:qF X.K P α ds vs) (hn:ds.length=n) (af:zA X P α (okO F ds S) Q):Ao (Au X.prog X.w) X.A (call (.ref f) us) (EP X pins σ Q) X.xe s:=by
 have hvn:vs.length=n:=by rw[← rp.length];exact hn
 have hsp:spD X.K n F vs H Q λ_ _ _=>Fn:=by
  refine⟨hvn,P,α,ds,S,r,rp,?_⟩;unfold okO at af;cases q:F ds S with
  |ok d S'=>rw[q] at af;exact af
  |ex c x S'=>rw[q] at af;exact An af
  |bad=>rw[q] at af;exact af
 have hl:us.length=ps.length:=by rw[← rv.length];exact G.len _ _ _ _ hsp
 have hb':=hb s us I.kIn (by rw[Fo];exact hl)
 rw[Fo] at hb';refine Np (IX (G.run X.A X.stack s H ⟨us,[]⟩ us vs Q _ hr I.env0 hb' rv hsp) λr s' hq=>?_);cases r with
 |error u =>
  obtain⟨_,_,_,_,_,_,_,_,_,_,_,_,z⟩:=hq;exact An z
 |ok fl =>
  cases fl with
  |ret u=>exact I.after hq
  |next=>exact An hq
  |brk=>exact An hq
  |cont=>exact An hq
def dcO (G:Def X.prog X.w X.K X.mg X.base cm k x n F)(hr:RoomC cm k X.A)(hg:Gl X x)(ha:PA X (e::es) (tDA X fa))(hdb:(x == ("__debug__" : As))=false:=by decide)(he:Bd (e::es) X.env=(false,eval e X.env)::Bd es X.env:=by rfl)(hpl:(Fu pos (Bd es X.env)).any (·.1)=false:=by rfl) :
  PE X (.Call (.Name x p) (e::es) [] pos) (tD X (qG n (okO F) fa)):=by
 obtain⟨f,fd,ps,hn0,hm,hk,hb,hl,G⟩:=G;intro pins s σ H Q I h;obtain⟨P,α,env,S,r,re,af⟩:=h;refine Hu (jM I hg hm ?_ hdb);refine Kt (h₀:=X.base) I.ok.mod.kin hk (thn (wV ha I r re af pos) λus s1 ⟨vs,H1,P1,α1,ds,S1,I1,rv,r1,re1,rp,e1,e2,af1⟩=>⟨I1.kIn,?_⟩) he hpl;obtain⟨hn,af2⟩:=b9 (env:=env) (S:=S) af1;exact FW G hr hb I1 r1 rv rp hn (zA.base e1 e2 af2)
end
structure QE (X:Cx)(e:Bw)(f:DE):Prop where
 get:PE X e (tD X f)
structure QT (X:Cx)(e:Bw)(t:DT):Prop where
 get:PT X e (tDT X t)
structure QW (X:Cx)(e:Bw)(t:DT):Prop where
 get:PWD X e t
structure QA (X:Cx)(es:Ab Bw)(f:DA):Prop where
 get:PA X es (tDA X f)
structure QO (X:Cx)(e:Am Bw)(f:DO):Prop where
 get:PO X e (tDO X f)
structure QG (X:Cx)(t:Bw)(g:DG):Prop where
 get:PG X t (tDG X g)
structure QGs (X:Cx)(ts:Ab Bw)(g:DGs):Prop where
 get:PGs X ts (c9 X g)
structure QI (X:Cx)(tg it:Bw)(f:DI):Prop where
 get:PI X tg it (tDI X f)
structure QS (X:Cx)(s:Fl)(f:DS):Prop where
 get:PS X s (tDS X f)
structure QB (X:Cx)(ss:Ab Fl)(f:DS):Prop where
 get:PSs X ss (tDS X f)
structure ZOp (X:Cx)(f:Ad→Ad→Kb Ad)(g:G2):Prop where
 get:OpD X f g
structure ZUn (X:Cx)(f:Ad→Kb Ad)(g:D→Sto→Res D):Prop where
 get:UnD X f g
structure ZIx (X:Cx)(g:G2):Prop where
 get:IxD X g
structure ZCall (X:Cx)(f:Ad)(F:DF):Prop where
 get:yK X f F
structure ZMt (X:Cx)(id:Ej)(g:D→Ab D→Sto→Res D):Prop where
 get:MtD X id g
structure ZSet (X:Cx)(g:G3):Prop where
 get:sU X (sS X g)
structure ZPass (X:Cx):Prop where
 get:Re (Au X.prog X.w) X.A X.env X.xe
section
variable {X:Cx}{a b c e e1 e2 o i:Bw}{es rest:Ab Bw}{fa fb fc fe fo fi:DE}{ta tb:DT}{fA:DA}{f g:DS}{st:Fl}{sts:Ab Fl}{x:As}{p pos:Fh}{n k:Ai}{cm:Ar}{F:DF}{G2':G2}
def WL:QE X (.Constant .none j pos) (dC .non):=⟨TQ⟩
def KS:QE X (.Constant (.bool v) j pos) (dC (.bl v)):=⟨RE⟩
def DM:QE X (.Constant (.int v) j pos) (dC (.int v)):=⟨TN⟩
def DQ:QE X (.Constant (.str v) j pos) (dC (.str v)):=⟨TV⟩
def DV (m:Ai)(hN:X.N[m]? = Aa x)(hv:Vis X.env.scope x)(hd:(x == ("__debug__" : As))=false)(hcd:(x == ("__classdict__" : As))=false):QE X (.Name x pos) (qB m):=⟨dv m hN hv hd hcd⟩
def FF {nm:Ej}(hg:Gl X x)(hm:X.mg x=none)(hv:Ge x=Aa (.type nm))(hn:x ≠ "__name__")(hd:(x == ("__debug__" : As))=false):QE X (.Name x pos) (dC (.ty nm)):=⟨GR hg hm hv hn hd⟩
def DH (hg:Gl X x)(hm:X.mg x=Aa (.ref C))(hk:En X.K (.ref C)=true)(hd:(x == ("__debug__" : As))=false):QE X (.Name x pos) (dC (.obj C)):=⟨ZV hg hm hk hd⟩
def FH {v:Aj}(hg:Gl X x)(hm:∃ t,X.mg x=Aa (.int v t))(hd:(x == ("__debug__" : As))=false):QE X (.Name x pos) (dC (.int v)):=⟨let ⟨_,h⟩:=hm;cZ (v:=.int v) hg h ⟨_,rfl⟩ (λ_ _=>by simp only[Rep]) hd⟩
def DD:QE X e b6:=⟨TK⟩
def EL {op:UnaryOp}{h:D→Sto→Res D}(ho:ZUn X (Vp op) h)(ha:QE X a fa):QE X (.UnaryOp op a pos) (d1 h fa):=⟨RI ho.1 ha.1⟩
def DP (ha:QE X a fa):QE X (.UnaryOp .Not a pos) (oH fa):=⟨TR ha.1⟩
def EK {op:Operator}(ho:ZOp X (Ev op) G2')(ha:QE X a fa)(hb:QE X b fb):QE X (.BinOp a op b pos) (d2 G2' fa fb):=⟨RH ho.1 ha.1 hb.1⟩
def WK {op:Sj}(ho:ZOp X (Dj op) G2')(ha:QE X a fa)(hb:QE X b fb)(hm:Kf op b=false:=by first|exact gH _|with_unfolding_all rfl):QE X (.Compare a [op] [b] pos) (d2 G2' fa fb):=⟨TL ho.1 ha.1 hb.1 hm⟩
def US {op op':Sj}{g':G2}(ho:ZOp X (Dj op) G2')(ho':ZOp X (Dj op') g')(ha:QE X a fa)(hb:QE X b fb)(hc:QE X c fc)(hm:Uy [op,op'] [b,c]=false:=by with_unfolding_all rfl):QE X (.Compare a [op,op'] [b,c] pos) (xR G2' g' fa fb fc):=⟨V8 ho.1 ho'.1 ha.1 hb.1 hc.1 hm⟩
def WM  (h:QE X a fa):QE X (.BoolOp op [a] pos) fa:=⟨TU h.1⟩
def WI (ha:QE X a fa)(hb:QE X (.BoolOp .And (b::rest) pos) fb):QE X (.BoolOp .And (a::b::rest) pos) (v7 fa fb):=⟨TJ ha.1 hb.1⟩
def EI (hc:QT X c ta)(ha:QE X a fa)(hb:QE X b fb):QE X (.IfExp c a b pos) (dIf ta fa fb):=⟨RG hc.1 ha.1 hb.1⟩
def DU  (h:QA X es fA):QE X (.Tuple es x1 pos) (zG fA):=⟨TX h.1⟩
def DN (h:QA X es fA):QE X (.List es pos) (zQ fA):=⟨ZW h.1⟩
def FI (h:QA X es fA):QE X (.List es pos) (sJ fA):=⟨GU h.1⟩
def DJ:QE X (.Dict [] [] pos) V5:=⟨TM⟩
def FG:QE X (.Dict [] [] pos) jG:=⟨GT⟩
def EJ (ho:ZIx X G2')(ha:QE X a fa)(hb:QE X b fb)(hs:jK b:=by intro _ _;rfl):QE X (.Subscript a b pos) (d2 G2' fa fb):=⟨K4 ho.1 ha.1 hb.1 hs⟩
def UU {lo hi:Am Bw}{fl fh:DO}{p2:Fh}(he:QE X e fe)(hl:QO X lo fl)(hu:QO X hi fh):QE X (.Subscript e (.Slice lo hi none p2) pos) (dSl fe fl fh):=⟨VA he.1 hl.1 hu.1⟩
def FO:QO X none qZ:=⟨PB⟩
def FP (he:QE X e fe):QO X (Aa e) (qT fe):=⟨PC he.1⟩
def WG:QA X [] qC:=⟨ZT⟩
def iI (ha:QE X e fa)(hr:QA X es fA)(hs:Bd (e::es) X.env=(false,eval e X.env)::Bd es X.env:=by rfl):QA X (e::es) (qA fa fA):=⟨cY ha.1 hr.1 hs⟩
def qcN (G:Def X.prog X.w X.K X.mg X.base cm k x n F)(hr:RoomC cm k X.A)(hF:Fn1 X)(hg:Gl X x)(ha:QA X (e::es) fA)(hdb:(x == ("__debug__" : As))=false)(he:Bd (e::es) X.env=(false,eval e X.env)::Bd es X.env:=by rfl)(hpl:(Fu pos (Bd es X.env)).any (·.1)=false:=by rfl):QE X (.Call (.Name x p) (e::es) [] pos) (qG n F fA):=⟨dcN G hr hF hg ha.1 hdb he hpl⟩
def qcL (G:Def X.prog X.w X.K X.mg X.base cm k x n F)(hr:RoomC cm k X.A)(hF:Fn1 X)(hg:Gl X x)(ha:QA X (e::es) fA)(hdb:(x == ("__debug__" : As))=false)(he:Bd (e::es) X.env=(false,eval e X.env)::Bd es X.env:=by rfl)(hpl:(Fu pos (Bd es X.env)).any (·.1)=false:=by rfl):QE X (.Call (.Name x p) (e::es) [] pos) (qG n (u8 F) fA):=⟨dcL G hr hF hg ha.1 hdb he hpl⟩
def UR {id:Ej}(hc:ZCall X (.builtin id) F)(hg:Gl X x)(hm:X.mg x=none)(hv:Ge x=Aa (.builtin id))(ha:QA X (e::es) fA)(hn:x ≠ "__name__")(hdb:(x == ("__debug__" : As))=false)(he:Bd (e::es) X.env=(false,eval e X.env)::Bd es X.env:=by rfl)(hpl:(Fu pos (Bd es X.env)).any (·.1)=false:=by rfl):QE X (.Call (.Name x p) (e::es) [] pos) (qE F fA):=⟨V6 hc.1 hg hm hv ha.1 hn hdb he hpl⟩
def WJ {T:Ej}(hc:ZCall X (.type T) F)(hg:Gl X x)(hm:X.mg x=none)(hv:Ge x=Aa (.type T))(ha:QA X (e::es) fA)(hn:x ≠ "__name__")(hdb:(x == ("__debug__" : As))=false)(he:Bd (e::es) X.env=(false,eval e X.env)::Bd es X.env:=by rfl)(hpl:(Fu pos (Bd es X.env)).any (·.1)=false:=by rfl):QE X (.Call (.Name x p) (e::es) [] pos) (qE F fA):=⟨ZU hc.1 hg hm hv ha.1 hn hdb he hpl⟩
def sO {T id:Ej}{name:As}{apos:Fh}{h:D→Ab D→Sto→Res D}(pa:PlainAttrs T)(slot:Slot T name id)(hty:typeOf (.builtin id)=pure (.type "method_descriptor"))(hT:T = "list" ∨ T = "dict" ∨ T = "int" ∨ T = "str")(hm:ZMt X id h)(ho:QE X o fo)(ha:QA X (e::es) fA)
  (hbase:OP o name X.env (eval o X.env)=eval o X.env:=by rfl)
  (hfew:((Fu pos (Bd (e::es) X.env)).all (λx=>!x.1)&&(backToKw pos (keywordEach [] X.env)).all (λx=>x.1.isSome)&&decide ((e::es).length+([]:Ab Xv).length+(if ([] : Ab Xv).isEmpty then 0 else 1)<30))=true:=by rfl)
  (hline:(apos.endLine == pos.line)=true:=by rfl) (hs:Bd (e::es) X.env=(false,eval e X.env)::Bd es X.env:=by rfl) (hplain:(Fu pos (Bd es X.env)).any (·.1)=false:=by rfl):QE X (.Call (.Attribute o name apos) (e::es) [] pos) (dBm T h fo fA):=⟨RF pa slot hty hT hm.1 ho.1 ha.1 hbase hfew hline hs hplain⟩
def KW (h:QW X e ta):QT X e ta:=⟨PWD.pt h.1⟩
def tO (ha:QT X a ta):QW X (.BoolOp .Or [a] pos) ta:=⟨NE ha.1⟩
def sQ (ha:QT X a ta)(hb:QW X (.BoolOp .Or (b::rest) pos) tb):QW X (.BoolOp .Or (a::b::rest) pos) (wC ta tb):=⟨RP ha.1 hb.1⟩
def WS (ha:QT X a ta):QT X (.UnaryOp .Not a pos) (zW ta):=⟨NC ha.1⟩
def WR {op:Sj}(ho:ZOp X (Dj op) G2')(ha:QE X a fa)(hb:QE X b fb)(hm:Kf op b=false:=by first|exact gH _|with_unfolding_all rfl):QT X (.Compare a [op] [b] pos) (dTr (d2 G2' fa fb)):=⟨NB ho.1 ha.1 hb.1 hm⟩
def UZ {op op':Sj}{g':G2}(ho:ZOp X (Dj op) G2')(ho':ZOp X (Dj op') g')(ha:QE X a fa)(hb:QE X b fb)(hc:QE X c fc)(hm:Uy [op,op'] [b,c]=false:=by with_unfolding_all rfl):QT X (.Compare a [op,op'] [b,c] pos) (dTr (xR G2' g' fa fb fc)):=⟨VI ho.1 ho'.1 ha.1 hb.1 hc.1 hm⟩
def WT (ha:QE X a fa)(he:∀ whole,isTrue a X.env whole=(do let v ← whole;Sy a.pos;holding [v] (truthy v)):=by intro _;rfl):QT X a (dTr fa):=⟨ND ha.1 he⟩
def FL (hN:X.N.Nodup)(hi:X.N[m]? = Aa x)(hx:Loc X.env.scope x)(hf:X.fn x=true∨X.env.scope.names.lookup x=Aa .local):QG X (.Name x pos) (gNm m):=⟨GZ hN hi hx hf⟩
def iJ:QGs X [] zU:=⟨P7⟩
def eW {h:DG}{gs:DGs}(h1:QG X e h)(h2:QGs X es gs)(hs:(Hb (e::es) X.env).map (·.2)=assign e X.env::(Hb es X.env).map (·.2):=by rfl):QGs X (e::es) (qM h gs):=⟨VB h1.1 h2.1 hs⟩
def WN {kk:Ai}{gs:DGs}(hc:X.calm=true)(h:QGs X es gs)(hn:(Hb es X.env).length=n:=by rfl)(hst:(Hb es X.env).findIdx? (·.1)=none:=by rfl):QG X (.Tuple es kk pos) (gTp n gs):=⟨N0 hc h.1 hn hst⟩
def DW {h:G3}(ho:QE X o fo)(hi:QE X i fi)(hs:ZSet X h)
  (ha:∀ v,assign (.Subscript o i pos) X.env v=(do
   let ov ← holding [v] (eval o X.env)
   let iv ← holding [v,ov] (eval i X.env)
   Sy pos
   holding [v,ov,iv] (Xr ov iv v)
   release [v,ov,iv] []):=by intro _;rfl):QG X (.Subscript o i pos) (gSb fo fi h):=⟨TZ ho.1 hi.1 hs.1 ha⟩
def DZ {tg:Bw}(ha:QE X e fa):QI X tg e (wP fa):=⟨N1 ha.1⟩
def UW {tg:Bw}(hg:Gl X "range")(hm:X.mg "range" = none)(ha:QA X (e::es) fA)(hs:Bd (e::es) X.env=(false,eval e X.env)::Bd es X.env:=by rfl)(hpl:(Fu pos (Bd es X.env)).any (·.1)=false:=by rfl):QI X tg (.Call (.Name "range" p) (e::es) [] pos) (y9 fA):=⟨VD hg hm ha.1 hs hpl⟩
def WO {elts:Ab Bw}{x1:Ai}{tpos:Fh}(hg:Gl X "zip")(hm:X.mg "zip" = none)(ha:QA X [e1,e2] fA)(hs:Bd [e1,e2] X.env=(false,eval e1 X.env)::Bd [e2] X.env:=by rfl)(hpl:(Fu pos (Bd [e2] X.env)).any (·.1)=false:=by rfl):QI X (.Tuple elts x1 tpos) (.Call (.Name "zip" p) [e1,e2] [] pos) (b8 fA):=⟨N2 hg hm ha.1 hs hpl⟩
def WH:QB X [] zM:=⟨N5⟩
def tN (h:QS X st f):QB X [st] f:=⟨N6 h.1⟩
def fH (h1:QS X st f)(h2:QB X sts g):QB X (st::sts) (qP f g):=⟨PD h1.1 h2.1⟩
def FQ (he:QE X e fa)(hs:Lm e none pos.line X.env=pure false:=by rfl):QS X (.Expr e pos) (vI fa):=⟨PF he.1 hs⟩
def WQ (he:QE X e fa):QS X (.Return (Aa e) pos) (qU fa):=⟨N8 he.1⟩
def KU {as bs:Ab Fl}(hc:QT X c ta)(ha:QB X as f)(hb:QB X bs g):QS X (.If c as bs pos) (sIf ta f g):=⟨RM hc.1 ha.1 hb.1⟩
def WP {tg iter:Bw}{fI:DI}{h:DG}(hp:ZPass X)(hc:X.calm=true)(hi:QI X tg iter fI)(hg:QG X tg h)(hb:QB X body f)(hs:∀ x,Ga iter X.env x=pure x:=by intro _;rfl):QS X (.For tg iter body [] pos) (uC fI h f):=⟨N4 hp.1 hc hi.1 hg.1 hb.1 hs⟩
def S9 {pos':Fh}(hN:X.N.Nodup)(he:QE X e fa)(hi:X.N[m]? = Aa x)(hx:Loc X.env.scope x)(hs:Lm e (Aa (.Name x pos')) pos.line X.env=pure false)(hf:X.fn x=true∨X.env.scope.names.lookup x=Aa .local):QS X (.Assign [.Name x pos'] e pos) (zB fa (gNm m)):=⟨N9 hN he.1 hi hx hs hf⟩
def S7 {tg:Bw}{h:DG}(he:QE X e fa)(hg:QG X tg h)(hs:Ke [tg] e pos.line X.env=pure false:=by rfl)(hw:Kc [tg] e X.env=pure none:=by rfl)(h1:(Hb [tg] X.env).map (·.2)=[assign tg X.env]:=by rfl):QS X (.Assign [tg] e pos) (zB fa h):=⟨N3 he.1 hg.1 hs hw h1⟩
def S8 {l:Ai}{y:As}{px py pt:Fh} {kt k2 pt2} (hc:X.calm=true) (hN:X.N.Nodup) (ha:QA X [a,b] fA) (hi:X.N[m]? = Aa x) (hj:X.N[l]? = Aa y) (hij:m≠l) (hx:X.env.scope.names.lookup x=Aa .local) (hy:X.env.scope.names.lookup y=Aa .local)
  (hw:Kc [.Tuple [.Name x px,.Name y py] kt pt] (.Tuple [a,b] k2 pt2) X.env=pure (Aa [x,y]):=by rfl) (hs:Ke [.Tuple [.Name x px,.Name y py] kt pt] (.Tuple [a,b] k2 pt2) pos.line X.env=pure false:=by rfl) :
  QS X (.Assign [.Tuple [.Name x px,.Name y py] kt pt] (.Tuple [a,b] k2 pt2) pos) (kX m l fA):=⟨N7 hc hN ha.1 hi hj hij hx hy hw hs⟩
def UY {Ae:Af}{np cpos:Fh}(hc:X.calm=true)(hF:Fn1 X)(hg:Gl X x)(hm:X.mg x=Aa (.ref C))(hx:m8 X.K C Ae=true)(ha:QA X (e::rest) fA)(hdb:(x == ("__debug__" : As))=false)(he:Bd (e::rest) X.env=(false,eval e X.env)::Bd rest X.env:=by rfl)(hpl:(Fu cpos (Bd rest X.env)).any (·.1)=false:=by rfl) :
  QS X (.Raise (Aa (.Call (.Name x np) (e::rest) [] cpos)) none pos) (uD (.ref C) fA):=⟨VH hc hF hg hm hx ha.1 hdb he hpl⟩
def SA {nm:As}{C0:Af}{b₀:Fl}{suite:Ab Fl}{np hpos:Fh}{cs:Ab Ad}(hF:Fn1 X)(hb:∀ E pn,ZPass (Cx.tryIn X E pn)→QB (Cx.tryIn X E pn) body f)(hs:∀ e,QB (Cx.suite X e) (b₀::suite) g)(hg:Gl X x)(hm:X.mg x=Aa (.ref C0))(hcs:∀ c∈cs,IR X.K c (.ref C0)=Aa true)(hN:X.N.Nodup)(hi:X.N[m]? = Aa nm)(hlo:X.env.scope.names.lookup nm=Aa .local)(hdb:(x == ("__debug__" : As))=false)(hn:X.N.length=n) :
  QS X (.Try body [.ExceptHandler (Aa (.Name x np)) (Aa nm) (b₀::suite) hpos] [] [] pos) (mJ n m cs f g):=⟨hn▸NA hF (λE pn hp=>(hb E pn ⟨hp⟩).1) (λe=>(hs e).1) hg hm hcs hN hi hlo hdb⟩
def HE:ZOp X (Ev .Add) qV:=⟨LD⟩
def HQ:ZOp X (Ev .Sub) xN:=⟨LJ⟩
def HK:ZOp X (Ev .Mult) xZ:=⟨iB⟩
def HG:ZOp X (Ev .FloorDiv) v8:=⟨LE⟩
def HJ:ZOp X (Ev .Mod) vL:=⟨LH⟩
def HN:ZOp X (Ev .Pow) vM:=⟨LI⟩
def AJ:ZOp X (Dj .Lt) gLt:=⟨KM⟩
def AI:ZOp X (Dj .LtE) gLe:=⟨E9⟩
def AG:ZOp X (Dj .Gt) gGt:=⟨E7⟩
def AF:ZOp X (Dj .GtE) gGe:=⟨E6⟩
def R5:ZOp X (Dj .Is) gIs:=⟨E8⟩
def R4 (hr:RoomC cm k X.A):ZOp X (Dj .Eq) gEq:=⟨E5 hr.units⟩
def R9 (hr:RoomC cm k X.A):ZOp X (Dj .NotEq) gNe:=⟨KN hr.units⟩
def HL (hr:RoomC cm k X.A):ZOp X (Dj .NotEq) (fB gNe):=⟨OpD.look (KN hr.units)⟩
def HM:ZUn X (Vp .USub) yM:=⟨SY⟩
def AH:ZIx X gIx:=⟨NQ⟩
def GC:ZCall X (.builtin "isinstance") zJ:=⟨ZI⟩
def R6 {cl:Ab Af}(h:ClsK X.K cl):ZCall X (.builtin "isinstance") (xB cl):=⟨GK h⟩
def GD:ZCall X (.builtin "len") zL:=⟨GM⟩
def HF (hc:X.calm=true):ZCall X (.builtin "all") (uN false):=⟨T4 false hc⟩
def HH:ZCall X (.type "int") rO:=⟨T6⟩
def MM:ZCall X (.type "tuple") bC:=⟨YV⟩
def R7:ZCall X (.type "list") bX:=⟨GN⟩
def JR:ZMt X "list.append" wW:=⟨XU⟩
def MK:ZMt X "list.count" mW:=⟨U9⟩
def ML:ZMt X "list.index" mX:=⟨UA⟩
def HP (hr:RoomC cm k X.A):ZSet X uV:=⟨SL (hu1 hr)⟩
end
section
variable {P:Bl}{w:Bz}{K:Ak}{mg:As→Am Ad}{base:Bs}{cm:Ar}
def iZ {qual:As}{scope:Gu}{f:Af}{cd:Ad}{A:By}{outer:Ab Jv}{s:Ah}{H:Hp}{E:XK}:ZPass (cxC cm P w K mg base N qual scope f cd A outer s H E):=⟨V3⟩
def CJ {x:As}{st:Fl}{ps:Ab As}{k:Ai}{g:DS}(h:Src K mg x st ps)(S:FnScope N ps (qJ st))(hbd:xD st=body)
  (hbody:∀ (f:Af) (cdv:Ad) (A:By) (outer:Ab Jv) (s:Ah) (H:Hp) (E:XK),RoomC cm k (A.deeper (Hd x (qJ st) s.heap.objs.size f cdv)) →
   QB (cxC cm P w K mg base N x (qJ st) f cdv A outer s H E) body g):Def P w K mg base cm (k+1) x ps.length (qQ N.length g):=
 TY h S λf cdv A outer s H E hr=>hbd▸(hbody f cdv A outer s H E hr).1
def RJ {x:As}{st:Fl}{ps:Ab As}{k:Ai}{g:DS}(h:Src K mg x st ps)(S:FnScope N ps (qJ st))(hbd:xD st=body)
  (hbody:∀ (f:Af) (cdv:Ad) (A:By) (outer:Ab Jv) (s:Ah) (H:Hp) (E:XK),RoomC cm k (A.deeper (Hd x (qJ st) s.heap.objs.size f cdv)) →
   QB (cxC cm P w K mg base N x (qJ st) f cdv A outer s H E) body g):sT P w K mg base cm (k+1) x ps (qQ N.length g):=
 GY h S λf cdv A outer s H E hr=>hbd▸(hbody f cdv A outer s H E hr).1
def GX {x:As}{st:Fl}{ps:Ab As}(h:Src K mg x st ps):Def P w K mg base cm 0 x ps.length λ_ _=>.bad:=by
 obtain⟨f,fd,hm,F,hb⟩:=h;exact⟨f,fd,ps,rfl,hm,F.kp,hb,sK F,⟨λvs H Q E z=>z.1,λA outer s H args us vs Q E _ _ _ _ z=>by obtain⟨_,_,_,_,_,_,_,z⟩:=z;exact An z⟩⟩
end
structure QTs (X:Cx)(ifs:Ab Bw)(t:DT):Prop where
 get:PTs X ifs t
section
variable {X:Cx}{elt tg iter e:Bw}{ifs es:Ab Bw}{scope:Gu}{pos p:Fh}{N':Ab As}{cap:Ab (Am Ai)}{fi:DI}{g:DG}{t u:DT}{fe:DE}{fa:DA}{x:As}{cm:Ar}{k n:Ai}{F:DF}
def FR:QTs X [] zC:=⟨PL⟩
def J0 (h1:QT X e t)(h2:QTs X es u):QTs X (e::es) (yW t u):=⟨VJ h1.1 h2.1⟩
def qcO (G:Def X.prog X.w X.K X.mg X.base cm k x n F)(hr:RoomC cm k X.A)(hg:Gl X x)(ha:QA X (e::es) fa)(hdb:(x == ("__debug__" : As))=false)(he:Bd (e::es) X.env=(false,eval e X.env)::Bd es X.env:=by rfl)(hpl:(Fu pos (Bd es X.env)).any (·.1)=false:=by rfl) :
  QE X (.Call (.Name x p) (e::es) [] pos) (qG n (okO F) fa):=⟨dcO G hr hg ha.1 hdb he hpl⟩
end
def stn (o:Am (Ai × MO))(S:Sto):Prop:=match o with
 |none=>Mv
 |some p=>S[p.1]? = Aa p.2
open Classical in
def bO (o:Am (Ai × MO))(S:Sto):Ar:=decide (stn o S)
open Classical in
def dW (S:Sto):bO none S=true:=by unfold bO;exact De trivial
def yD {o:Am (Ai × MO)}:bO o S=true↔stn o S:=by simp[bO]
structure ItD2 (K:Ak)(J:It)(P:Hp)(α : Ab Af)(o:Am (Ai × MO))(ds:Ab D):Prop where
 go:∀ i H P1 α1 S,i<ds.length→Rel K H P1 α1 S→stn o S→qH P P1→α<+:α1→J.go i H
 yld:∀ i H x H' P1 α1 S,i<ds.length→Rel K H P1 α1 S→stn o S→qH P P1→α<+:α1→J.yld i H x H'→∃ P2 d,ds[i]? = Aa d∧Rel K H' P2 α1 S∧qH P1 P2∧Rep K P2 α1 d x
 stop:∀ i H P1 α1 S,ds.length≤i→Rel K H P1 α1 S→stn o S→qH P P1→α<+:α1→J.stop i H
def ItD.two {K:Ak}{J:It}{P:Hp}(h:ItD K J P α ds):ItD2 K J P α none ds:=
 ⟨λi H P1 α1 S a b _ c d=>h.go i H P1 α1 S a b c d,λi H x H' P1 α1 S a b _ c d e=>h.yld i H x H' P1 α1 S a b c d e,λi H P1 α1 S a b _ c d=>h.stop i H P1 α1 S a b c d⟩
abbrev DI2:=qD→Sto→Res (Am (Ai × MO) × Ab D)
inductive tDI2 (X:Cx)(f:DI2)(σ : _L.St)(H:Hp)(R:It→Hp→Prop):Prop
 |mk (P:Hp) (α : Ab Af) (env:qD) (S:Sto) (r:Rel X.K H P α S) (re:zH X.K P α σ env) (af:qI X P α (f env S) (λp S'=>∀ J H' P' α',Rel X.K H' P' α' S'→qH P P'→α<+:α'→ItD2 X.K J P' α' p.1 p.2→R J H')):tDI2 X f σ H R
def xS (f:DI):DI2:=λenv S=>(f env S).bind λds S1=>.ok (none,ds) S1
section
variable {X:Cx}{K:Ak}{tg e:Bw}{fa:DE}{pos:Fh}
def P9 {f:DI}(h:PI X tg e (tDI X f)):PI X tg e (tDI2 X (xS f)):=PI.weak h λσ H R ⟨P,α,env,S,r,re,af⟩=>by
 refine⟨P,α,env,S,r,re,?_⟩;unfold xS at af;cases q:f env S with
 |bad=>rw[q] at af;exact af
 |ex c x S'=>rw[q] at af;exact af
 |ok ds S1 =>
  rw[q] at af;exact λJ H' P' α' r' e1 e2 it=>af J H' P' α' r' e1 e2 it.two
def BE {P:Hp}{a:Af}{n:Ai}(hα:α[n]? = Aa a):ItD2 K (Itl K a) P α (Aa (n,.lst ds)) ds where
 go:=λi H P1 α1 S hi r st e e2=>by
  obtain⟨vs,z,t⟩:=r.at' n a _ (fE e2 hα) st;exact⟨vs,vs[i]'(by rw[← t.length];exact hi),.of z,by simp⟩
 yld:=λi H x H' P1 α1 S hi r st e e2 y=>by
  obtain⟨rfl,y⟩:=y;obtain⟨vs,z,t⟩:=r.at' n a _ (fE e2 hα) st;have hx:=y vs (.of z);obtain⟨v,h1,h2⟩:=t.get (Ap hi);rw[hx] at h1;cases h1;exact⟨P1,_,Ap hi,r,qH.refl _,h2⟩
 stop:=λi H P1 α1 S hi r st e e2=>by
  obtain⟨vs,z,t⟩:=r.at' n a _ (fE e2 hα) st;exact⟨vs,.of z,by rw[← t.length];exact hi⟩
def itD (d:D)(S:Sto):Res (Am (Ai × MO) × Ab D):=match d with
 |.tup xs=>.ok (none,xs) S
 |.lst xs=>.ok (none,xs) S
 |.loc n=>match S[n]? with
  |some (.lst xs)=>.ok (Aa (n,.lst xs),xs) S
  |_=>.bad
 |_=>.bad
def dIt (f:DE):DI2:=λenv S=>(f env S).bind λd S1=>itD d S1
def RK (ha:PE X e (tD X fa)):PI X tg e (tDI2 X (dIt fa)):=by
 intro pins s σ H R I h;obtain⟨P,α,env,S,r,re,af⟩:=h;refine thn (xF ha I r re af) λvv s1 ⟨v,H1,P1,α1,d,S1,G1,af1⟩=>?_;have seq:∀ ds,x8 d=Aa ds→(∀ J H' P' α',Rel X.K H' P' α' S1→qH P P'→α<+:α'→ItD2 X.K J P' α' none ds→R J H')→Ao (Au X.prog X.w) X.A (Nj vv) (PIE X pins σ tg R) X.xe s1:=λds e1 q =>
  rZ G1.inv G1.rel G1.val G1.rep e1 λJ H' P' α' r' h1 h2 it=>q J H' P' α' r' (G1.same.trans h1) (G1.pre.trans h2) it.two
 cases d with
 |tup xs=>exact seq xs rfl af1
 |lst xs=>exact seq xs rfl af1
 |loc n =>
  obtain⟨xs,hS,af1⟩:=pE (X:=X) (f:=λxs=>Res.ok (Aa (n,MO.lst xs),xs) S1) af1;have rp:=G1.rep;simp only[Rep] at rp;obtain⟨a,rfl,ha⟩:=rp;cases (show vv=Dc a from G1.val)
  obtain⟨vs,z,t⟩:=G1.rel.at' n a _ ha hS;obtain⟨its,rv,p,hz⟩:=G1.inv.list (SqL.of z);refine Gb p.isList ?_;refine⟨s1.heap.objs.size,[s1.heap.objs.size],_,_,H1,rfl,G1.inv.kept (t':=s1.toks) λb o e=>Ag _ e,dZ a _,⟨_,Bb _ rfl,rfl,rfl⟩,λb hb=>?_,af1 _ _ P1 α1 G1.rel G1.same G1.pre (BE ha)⟩;have e:b=s1.heap.objs.size:=by simpa using hb
  subst e;exact G1.inv.fpOk (Av _) (G1.inv.hok.fresh (Av _))
 |_=>exact An af1
end
def wD (elt:Bw)(gens:Ab Fp)(scope:Gu)(pos:Fh)(k:Ai)(acc:Ad)(env:Jv):Kb Pk:=
 match gens[k+1]? with
 |some g'=>do
  let x ← eval g'.iter env
  Sy g'.iter.pos
  let x ← Ga g'.iter env x
  let it ← holding [x] (Nj x)
  let _ ← runOwn (.compStart (.ListComp elt gens scope pos) (k+1) it acc env) env
 |none=>do let _ ← call (.builtin "list.append") [acc,← eval elt env]
def JN (elt target iter:Bw)(ifs:Ab Bw)(gens:Ab Fp)(scope:Gu)(pos:Fh)(it acc:Ad)(env:Jv)(k:Ai)(hg:gens[k]? = Aa ⟨target,iter,ifs,0⟩)(ha:∀ g',gens[k+1]? = Aa g'→g'.is_async=0) :
  compTurn (.ListComp elt gens scope pos) k it acc env=(do
   Sy iter.pos
   match ← Ld it with
   |none=>pure (.done .next)
   |some v =>
    Jc target it v
    assign target env v
    let mut ok:=true
    for c in ifs do
     if ok then ok ← isTrue c env (eval c env)
    if ok then wD elt gens scope pos k acc env
    again (.compLoop (.ListComp elt gens scope pos) k it acc env)):=by
 unfold compTurn wD;simp only[hg];cases q:gens[k+1]? with
 |none=>rfl
 |some g' =>
  have h0:=ha g' q;have e0:(g'.is_async != 0)=false:=by rw[h0];rfl
  simp only[e0,Bt,Eh,bind_assoc,pure_bind];rfl
abbrev DK:=qD→Sto→Ab D→Res (qD × Ab D)
def goL (o:Am (Ai × MO))(g:DG)(t:DT)(k:DK):Ab D→DK
 |[],env,S,acc=>if bO o S then .ok (env,acc) S else .bad
 |d::ds,env,S,acc=>if bO o S then (g d env S).bind λenv1 S1=>(t env1 S1).bind λb S2 =>
   if b then (k env1 S2 acc).bind λp S3=>goL o g t k ds p.1 S3 p.2 else goL o g t k ds env1 S2 acc
  else .bad
def qY (fe:DE):DK:=λenv S acc=>(fe env S).bind λx S1=>if acc.length<lim then .ok (env,acc++[x]) S1 else .bad
def JZ (Y:Cx)(pins:Ab (Af × Cs))(P1:Hp)(α1:Ab Af)(acc:Af)(env:qD)(S:Sto)(ds:Ab D)(s:Ah):Prop:=
 ∃ σ H P α o,TurnSt Y pins P1 α1 [] acc env S ds s σ H P α o
def PK (Y:Cx)(step:Ad→Kb Pk)(k:DK):Prop:=
 ∀ (pins:Ab (Af × Cs)) (P1:Hp) (α1:Ab Af) (acc:Af) (env env':qD) (S S':Sto) (ds ds':Ab D) (s:Ah),(∀ H:Hp,H acc=none→wG Y pins H acc)→JZ Y pins P1 α1 acc env S ds s→k env S ds=.ok (env',ds') S' →
  Ao (Au Y.prog Y.w) Y.A (step (.ref acc)) (λ_ s'=>JZ Y pins P1 α1 acc env' S' ds' s') (λ_ _=>Fn) s
section
variable {Y:Cx}{elt tg iter:Bw}{ifs:Ab Bw}{gens:Ab Fp}{scope:Gu}{pos:Fh}{k:Ai}{g:DG}{t:DT}{fe:DE}{it acc:Af}{fp:Ab Af}{J:It}{tn:Ai→Bs→Prop}{items:Ab D}{P1:Hp}{α1:Ab Af}{pins:Ab (Af × Cs)}
def X8 {X:Cx}{H:Hp}{b:Af}{h:Bs}(f:wG X pins H b)(hn:b ∉ fp):wG X (pins++uA fp h) H b:=by
 obtain⟨f0,f1,f2,f3,f4,f5⟩:=f;refine⟨f0,f1,f2,f3,f4,λp hp=>?_⟩;rcases Ch.mp hp with z|z
 ·exact f5 p (Dh _ z)
 ·rcases Ch.mp z with z|z
  ·exact f5 p (Ce _ z)
  ·rintro rfl
   exact hn (dJ z).1
def Res.bind_inv {β γ:Type}{r:Res β}{f:β→Sto→Res γ}{x:γ}(h:r.bind f=.ok x S):∃ b S1,r=.ok b S1∧f b S1=.ok x S:=by
 cases r with
 |ok b S1=>exact⟨b,S1,rfl,h⟩
 |_=>cases h
inductive GoC (o:Am (Ai × MO))(g:DG)(t:DT)(k:DK)(d:D)(ds acc:Ab D)(env:qD)(S SF:Sto)(x:qD × Ab D):Prop
 |no (env1:qD) (S1 S2:Sto) (z:stn o S) (q1:g d env S=.ok env1 S1) (q2:t env1 S1=.ok false S2) (r:goL o g t k ds env1 S2 acc=.ok x SF):GoC o g t k d ds acc env S SF x
 |yes (env1:qD) (S1 S2:Sto) (env5:qD) (ds5:Ab D) (S5:Sto) (z:stn o S) (q1:g d env S=.ok env1 S1) (q2:t env1 S1=.ok true S2) (q3:k env1 S2 acc=.ok (env5,ds5) S5) (r:goL o g t k ds env5 S5 ds5=.ok x SF):GoC o g t k d ds acc env S SF x
set_option tactic.hygienic true in
def VY {o:Am (Ai × MO)}{k:DK}{d:D}{acc:Ab D}{x:qD × Ab D}(h:goL o g t k (d::ds) env S acc=.ok x SF):GoC o g t k d ds acc env S SF x:=by
 simp only[goL] at h
 split at h
 ·rename_i z
  obtain⟨env1,S1,q1,h⟩:=Res.bind_inv h;obtain⟨b,S2,q2,h⟩:=Res.bind_inv h;cases b with
  |false=>exact .no env1 S1 S2 (yD.mp z) q1 q2 h
  |true =>
   obtain⟨⟨env5,ds5⟩,S5,q3,h⟩:=Res.bind_inv h;exact .yes env1 S1 S2 env5 ds5 S5 (yD.mp z) q1 q2 q3 h
 ·cases h
set_option tactic.hygienic true in
def B7 {o:Am (Ai × MO)}{k:DK}{acc:Ab D}(h:goL o g t k [] env S acc=.ok (envF,dsF) SF):stn o S∧env=envF∧acc=dsF∧S=SF:=by
 simp only[goL] at h
 split at h
 ·rename_i z
  cases h;exact⟨yD.mp z,rfl,rfl,rfl⟩
 ·cases h
inductive LpI (Y:Cx)(pins:Ab (Af × Cs))(P1:Hp)(α1:Ab Af)(fp:Ab Af)(acc:Af)(tn:Ai→Bs→Prop)(G:Ab D→DK)(items:Ab D)(x:qD × Ab D)(SF:Sto)(n:Ai)(s:Ah):Prop
 |mk (i:Ai) (σ : _L.St) (H P:Hp) (α : Ab Af) (o:Cs) (env:qD) (S:Sto) (ds:Ab D) (hn:n=items.length-i) (hi:i≤items.length) (st:TurnSt Y pins P1 α1 fp acc env S ds s σ H P α o) (st1:tn i s.heap) (run:G (items.drop i) env S ds=.ok x SF):LpI Y pins P1 α1 fp acc tn G items x SF n s
def M9 {M:Ks}{A:By}{Q:Fin→Ah→Prop}{E:Ad→Ah→Prop}{s:Ah}{it acc:Ad}{en:Jv}(hgk:gens[k]? = Aa ⟨tg,iter,ifs,0⟩)(has:∀ g',gens[k+1]? = Aa g'→g'.is_async=0)
  (ha:∀ s,Qa s→Q (.again (.compLoop (.ListComp elt gens scope pos) k it acc en)) s) (hd:∀ s,Qd s→Q (.done .next) s)
  (h:Ao M A (Ld it) (λr s1=>(r=none→Qd s1)∧∀ v,r=Aa v→Ao M A (Jc tg it v) (λ_ s2=>Ao M A (assign tg en v) (λ_ s3=>Ao M A (kJ ifs en) (λb s4=>(b=false→Qa s4)∧(b=true→Ao M A (wD elt gens scope pos k acc en) (λ_ s5=>Qa s5) E s4)) E s3) E s2) E s1) E s) :
  Ao M A (compTurn (.ListComp elt gens scope pos) k it acc en) Q E s:=by
 rw[JN elt tg iter ifs gens scope pos it acc en k hgk has];refine Ac (OG (Ac (thn h λr s1 ⟨h0,h1⟩=>?_)));cases r with
 |none=>exact Al (hd _ (h0 rfl))
 |some v =>
  refine Ac (thn (h1 v rfl) λ_ s2 h2=>Ac (thn h2 λ_ s3 h3=>Ac (thn h3 λb s4 h4=>?_)));cases b with
  |false=>exact Al (ha _ (h4.1 rfl))
  |true=>exact Ac (thn (h4.2 rfl) λ_ s5 h5=>Al (ha _ h5))
def B4 (hfp:∀ H:Hp,(∀ b∈fp,H b=none)→∀ b∈fp,wG Y pins H b)(hne:acc ∉ fp)(o:Cs)(H':Hp)(hn:∀ b∈fp,H' b=none):∀ b∈fp,wG Y (pins++[(acc,o)]) H' b:=λb hb=>by
 obtain⟨f0,f1,f2,f3,f4,f5⟩:=hfp H' hn b hb;refine⟨f0,f1,f2,f3,f4,λp hp=>?_⟩;rcases Ch.mp hp with z|z
 ·exact f5 p (Dh _ z)
 ·rcases Ch.mp z with z|z
  ·exact f5 p (Ce _ z)
  ·rw[Dg.mp z]
   rintro rfl;exact hne hb
def kT {i:Ai}{h:Bs}(T:Turn Y.prog Y.w Y.K tg J fp it tn)(st2:tn (i+1) h)(pl:∀ b∈fp,∃ o,h.get? b=Aa o∧∀ v,o.data≠.cell v){s5:Ah}{σ5:_L.St}{H5:Hp}(I5:Inv Y (pins++uA fp h) σ5 H5 s5):tn (i+1) s5.heap∧(∀ b∈fp,H5 b=none):=by
 refine⟨T.keep _ _ _ st2 λb hb o' e=>(I5.pin (b,o') (Ce _ (Ce _ (jI hb e)))).1,λb hb=>?_⟩;obtain⟨o',e,d'⟩:=pl b hb;exact(I5.pin (b,o') (Ce _ (Ce _ (jI hb e)))).2.1
def oF {kk:DK}{E:Ad→Ah→Prop}{s:Ah}{σ:_L.St}{H P:Hp}{o:Cs}{i:Ai}(hc:Y.calm=true)(hx:Y.xe=λ_ _=>Fn)
  (T:Turn Y.prog Y.w Y.K tg J fp it tn) (hit:ItD2 Y.K J P1 α1 o' items) (hg:PG Y tg (tDG Y g)) (ht:PTs Y ifs t) (he:PK Y (λacc=>wD elt gens scope pos k acc Y.env) kk) (hacc:∀ H:Hp,H acc=none→wG Y pins H acc) (hfp:∀ H:Hp,(∀ b∈fp,H b=none)→∀ b∈fp,wG Y pins H b) (hne:acc ∉ fp)
  (hi:i≤items.length) (st:TurnSt Y pins P1 α1 fp acc env S ds s σ H P α o) (st1:tn i s.heap) (run:goL o' g t kk (items.drop i) env S ds=.ok (envF,dsF) SF)
  (hA:∀ s' σ' H' P' α' o1 env1 S' ds',i<items.length→TurnSt Y pins P1 α1 fp acc env1 S' ds' s' σ' H' P' α' o1→tn (i+1) s'.heap→goL o' g t kk (items.drop (i+1)) env1 S' ds'=.ok (envF,dsF) SF→Qa s')
  (hD:∀ s' σ' H' P' α' o',TurnSt Y pins P1 α1 fp acc envF SF dsF s' σ' H' P' α' o'→Qd s') :
  Ao (Au Y.prog Y.w) Y.A (Ld (.ref it)) (λr s1=>(r=none→Qd s1)∧∀ v,r=Aa v→Ao (Au Y.prog Y.w) Y.A (Jc tg (.ref it) v) (λ_ s2=>Ao (Au Y.prog Y.w) Y.A (assign tg Y.env v) (λ_ s3=>Ao (Au Y.prog Y.w) Y.A (kJ ifs Y.env) (λb s4=>(b=false→Qa s4)∧(b=true→Ao (Au Y.prog Y.w) Y.A (wD elt gens scope pos k (.ref acc) Y.env) (λ_ s5=>Qa s5) E s4)) E s3) E s2) E s1) E s:=by
 have I1:=_D.Inv.pin1 st.inv (hacc H st.acn) st.at' st.acc.cell;have fp1:=B4 hfp hne o;by_cases hlt:i<items.length
 ·have hdr:items.drop i=items[i]::items.drop (i+1):=Gq hlt
  rw[hdr] at run;have run:=VY run;have hst:stn o' S:=by cases run with|no _ _ _ z=>exact z|yes _ _ _ _ _ _ z=>exact z
  refine mK (T.item Y rfl rfl rfl hc i _ s σ H (λ_ _=>Fn) I1 (fp1 H st.fpn) st1 (hit.go i H P α S hlt st.rel hst st.same st.pre)) λr s1 ⟨u,hr,h1⟩=>⟨λz=>(by rw[hr] at z;cases z),λv hv=>?_⟩
  obtain rfl:v=u:=Co (hv.symm.trans hr);refine mK h1 λ_ s2 ⟨x,H2,I2,rx,y,st2,fr2⟩=>?_;obtain⟨P2,d,hd,r2,e2,rp⟩:=hit.yld i H x H2 P α S hlt st.rel hst st.same st.pre y;cases (Ap hlt).symm.trans hd;have pl:=T.obj _ _ st2;have I2':=I2.pinned (fp1 _ fr2) pl;have two:∀ env1 S1 b S2,g items[i] env S=.ok env1 S1→t env1 S1=.ok b S2→(∀ s4 σ3 H4 P4 α4 (I4:Inv Y (pins++uA fp s2.heap) σ3 H4 s4),TurnSt Y pins P1 α1 fp acc env1 S2 ds s4 σ3 H4 P4 α4 o→tn (i+1) s4.heap→(b=false→Qa s4)∧(b=true→Ao (Au Y.prog Y.w) Y.A (wD elt gens scope pos k (.ref acc) Y.env) (λ_ s5=>Qa s5) E s4))→Ao (Au Y.prog Y.w) Y.A (assign tg Y.env v) (λ_ s3=>Ao (Au Y.prog Y.w) Y.A (kJ ifs Y.env) (λb s4=>(b=false→Qa s4)∧(b=true→Ao (Au Y.prog Y.w) Y.A (wD elt gens scope pos k (.ref acc) Y.env) (λ_ s5=>Qa s5) E s4)) E s3) E s2:=by
   intro env1 S1 b S2 q1 q2 next;refine mK (hx▸CZ hg I2' r2 (st.env.mono e2 (Bn _)) rx rp q1) λ_ s3 ⟨σ3,H3,P3,α3,I3,r3,re3,e3,e3'⟩=>?_;refine mK (hx▸EH ht I3 r3 re3 q2) λb' s4 ⟨hb,H4,P4,α4,I4,r4,re4,e4,e4'⟩=>?_;have I4':Inv Y (pins++uA fp s2.heap) σ3 H4 s4:=I4.pins_of λp hp=>I4.pin p (Ce _ ((Ch.mp hp).elim (λz=>Dh _ (Dh _ z)) λz=>Ce _ z));have a4:=I4.pin (acc,o) (Ce _ (Dh _ (Ce _ (Dg.mpr rfl))));rw[hb];exact next s4 σ3 H4 P4 α4 I4' ⟨I4'.unpinned,r4,re4,((st.same.trans e2).trans e3).trans e4,(st.pre.trans e3').trans e4',(kT T st2 pl I4').2,a4.2.1,a4.1,st.acc.mono ((e2.trans e3).trans e4) (e3'.trans e4')⟩ (kT T st2 pl I4').1
  cases run with
  |no env1 S1 S2 _ q1 q2 run=>exact two env1 S1 false S2 q1 q2 λs4 σ3 H4 P4 α4 I4 st4 tn4=>⟨λ_=>hA s4 σ3 H4 P4 α4 o env1 S2 ds hlt st4 tn4 run,λz=>(by cases z)⟩
  |yes env1 S1 S2 env5 ds5 S5 _ q1 q2 q3 run =>
   refine two env1 S1 true S2 q1 q2 λs4 σ3 H4 P4 α4 I4 st4 tn4=>⟨λz=>(by cases z),λ_=>?_⟩
   refine mK (he (pins++uA fp s2.heap) P1 α1 acc env1 env5 S2 S5 ds ds5 s4 (λH hn=>X8 (hacc H hn) hne) ⟨σ3,H4,P4,α4,o,I4,st4.rel,st4.env,st4.same,st4.pre,λb hb=>(by cases hb),st4.acn,st4.at',st4.acc⟩ q3) λ_ s5 ⟨σ5,H5,P5,α5,o5,T5⟩=>?_
   exact hA s5 σ5 H5 P5 α5 o5 env5 S5 ds5 hlt ⟨T5.inv.unpinned,T5.rel,T5.env,T5.same,T5.pre,(kT T st2 pl T5.inv).2,T5.acn,T5.at',T5.acc⟩ (kT T st2 pl T5.inv).1 run
 ·rw[Lv om] at run
  obtain⟨z,rfl,rfl,rfl⟩:=B7 run;refine mK (T.done Y rfl rfl rfl hc i _ s σ H (λ_ _=>Fn) I1 (fp1 H st.fpn) st1 (hit.stop i H P α _ om st.rel z st.same st.pre)) λr s1 ⟨hr,I2⟩=>⟨λ_=>?_,λv hv=>(by rw[hr] at hv;cases hv)⟩
  have a:=_D.Inv.pinned1 I2;exact hD s1 σ H P α o ⟨I2.unpinned,st.rel,st.env,st.same,st.pre,st.fpn,a.2,a.1,st.acc⟩
def oE {kk:DK}{R:Tn→Ah→Prop}{s:Ah}{σ:_L.St}{H P:Hp}{ds0:Ab D}{o:Cs}(hc:Y.calm=true)(hx:Y.xe=λ_ _=>Fn)(hgk:gens[k]? = Aa ⟨tg,iter,ifs,0⟩)(has:∀ g',gens[k+1]? = Aa g'→g'.is_async=0)
  (T:Turn Y.prog Y.w Y.K tg J fp it tn) (hit:ItD2 Y.K J P1 α1 o' items) (hg:PG Y tg (tDG Y g)) (ht:PTs Y ifs t) (he:PK Y (λacc=>wD elt gens scope pos k acc Y.env) kk) (hacc:∀ H:Hp,H acc=none→wG Y pins H acc) (hfp:∀ H:Hp,(∀ b∈fp,H b=none)→∀ b∈fp,wG Y pins H b) (hne:acc ∉ fp)
  (st:TurnSt Y pins P1 α1 fp acc env S ds0 s σ H P α o) (st0:tn 0 s.heap) (run:goL o' g t kk items env S ds0=.ok (envF,dsF) SF)
  (hR:∀ s' σ' H' P' α' o',TurnSt Y pins P1 α1 fp acc envF SF dsF s' σ' H' P' α' o'→R (.ok .next) s') :
  Jd (Au Y.prog Y.w) Y.A (.compLoop (.ListComp elt gens scope pos) k (.ref it) (.ref acc) Y.env) R s:=by
 refine codeAny_loop rfl (LpI Y pins P1 α1 fp acc tn (goL o' g t kk) items (envF,dsF) SF) (λn s hI=>?_) items.length ⟨0,σ,H,P,α,o,env,S,ds0,rfl,HT _,st,st0,run⟩;obtain⟨i,σ,H,P,α,o,env,S,ds,hn,hi,st,st1,run⟩:=hI;subst hn;refine wpAny_noted (M9 hgk has (Qa:=λs'=>∃ m,m<items.length-i∧LpI Y pins P1 α1 fp acc tn (goL o' g t kk) items (envF,dsF) SF m s') (Qd:=R (.ok .next)) (λ_ h=>⟨rfl,h⟩) (λ_ h=>h) ?_);exact oF hc hx T hit hg ht he hacc hfp hne hi st st1 run (λs' σ' H' P' α' o1 env1 S' ds' hlt st' tn' run'=>⟨_,Nat.sub_succ_lt_self _ _ hlt,i+1,σ',H',P',α',o1,env1,S',ds',rfl,hlt,st',tn',run'⟩) hR
set_option tactic.hygienic true in
def FA (hx:Y.xe=λ_ _=>Fn)(hlast:gens[k+1]? = none)(he:PE Y elt (tD Y fe)):PK Y (λacc=>wD elt gens scope pos k acc Y.env) (qY fe):=by
 intro pins P1 α1 acc env env' S S' ds ds' s hacc ⟨σ,H,P,α,o,st⟩ run;show Ao _ _ (wD elt gens scope pos k (.ref acc) Y.env) _ _ s;unfold wD;rw[hlast];dsimp only;unfold qY at run;cases q3:fe env S with
 |bad=>rw[q3] at run;cases run
 |ex c z S'=>rw[q3] at run;cases run
 |ok d5 S5 =>
  rw[q3,Res.bind_ok] at run
  split at run
  ·rename_i hlen
   cases run;have fA:=hacc H st.acn;have I1:=_D.Inv.pin1 st.inv fA st.at' st.acc.cell;refine Ac (mK (hx▸CY he I1 st.rel st.env q3) λu5 s5 ⟨v5,H5,P5,α5,G5⟩=>?_);have J:=_D.Inv.pinned1 G5.inv;have J1:=G5.inv.unpinned;obtain⟨J4,J5⟩:=J;obtain⟨its,n5,vs,ho,rvs,rps,hz⟩:=st.acc;subst ho;have hlen':vs.length=ds.length:=rps.length.symm;have hl2:=rvs.length;refine Ac (Lu Tv ⟨_,J4,rfl⟩ Sv (Sd _ _) (Uw acc its.toArray n5 u5 (by rw[Bc];rw[← xP];omega)) ⟨J4,?_⟩)
   have q:=Vu J4 (·.push u5)
   have fA5:=hacc H5 J5;have keep:∀ b o,b≠acc→s5.heap.get? b=Aa o→(s5.heap.update acc (Ew (·.push u5))).get? b=Aa o:=λb o hb e=>(Cc s5.heap _ (Gx hb)).trans e
   have I6:=J1.turned (t':=s5.toks) keep J5 fA5.2.1 fA5.2.2.2.1 fA5.2.2.2.2.1 fA5.2.2.2.2.2;refine Al ⟨σ,H5,P5,α5,_,I6,G5.rel,G5.env,st.same.trans G5.same,st.pre.trans G5.pre,λb hb=>(by simp at hb),J5,q,?_⟩
   refine⟨its++[u5],_,vs++[v5],by simp <;> rfl,rvs.append (.cons G5.val .nil),?_,by simp;omega⟩
   exact(qF.mono G5.same G5.pre _ _ rps).append (.cons G5.rep .nil)
  ·cases run
end
def mkM (m:Ar)(r:Res (qD × Ab D)):Res D:=match r with
 |.ok p S2=>if m then .ok (.loc S2.length) (S2++[.lst p.2]) else .ok (.lst p.2) S2
 |_=>.bad
def qS (m:Ar)(cap:Ab (Am Ai))(fi:DI2)(g:DG)(t:DT)(k:DK):DE:=λenv S=>(fi env S).bind λp S1=>mkM m (goL p.1 g t k p.2 (x0 cap env) S1 [])
section
variable {X:Cx}{elt tg iter:Bw}{ifs:Ab Bw}{scope:Gu}{pos:Fh}{N':Ab As}{cap:Ab (Am Ai)}{fi:DI2}{g:DG}{t:DT}{kk:DK}{rest:Ab Fp}{mm:Ar}
def XX {P:Hp}{r:Res (qD × Ab D)}{Ok:D→Sto→Prop}(h:qI X P α (mkM mm r) Ok):∃ envF ds SF,r=.ok (envF,ds) SF∧(if mm then Ok (.loc SF.length) (SF++[.lst ds]) else Ok (.lst ds) SF):=by
 cases r with
 |ok p S =>
  obtain⟨envF,ds⟩:=p;refine⟨envF,ds,S,rfl,?_⟩;cases mm <;> exact h
 |ex c x S=>exact An h
 |bad=>exact An h
def VL {pins:Ab (Af × Cs)}{σ:_L.St}{P1:Hp}{α1:Ab Af}{acc:Af}{s:Ah}{Q:VK}(c:bR X pins σ P1 α1 ds SF acc C s)(ok:if mm then OkV X P1 α1 Q (.loc SF.length) (SF++[.lst ds]) else OkV X P1 α1 Q (.lst ds) SF):EP X pins σ Q (.ref acc) s:=by
 cases mm with
 |false=>exact PN c ok
 |true =>
  obtain⟨H',P',α',vs,I,r,hn,e1,e2,rp,_⟩:=c;exact⟨.ref acc,_,I,rfl,i9 r hn rp λv H2 P2 α2 r2 q1 q2 q3=>ok v H2 P2 α2 r2 (e1.trans q1) (e2.trans q2) q3⟩
def fV {pins:Ab (Af × Cs)}{σ:_L.St}{H2 P1:Hp}{α1:Ab Af}{s2:Ah}{S1:Sto}{items:Ab D}{it:Af}{fp:Ab Af}{tn:Ai→Bs→Prop}{J:It}{E:Ad→Ah→Prop}{RR:Ad→Af→Tn→Ah→Prop}
  (hc:X.calm=true) (S:CompSc X.env.scope X.N scope N' cap) (has:∀ g',(⟨tg,iter,ifs,0⟩::rest:Ab Fp)[0+1]? = Aa g'→g'.is_async=0)
  (hg:∀ cl C ex s₀ H₀,PG (zF X N' scope cl C ex s₀ H₀) tg (tDG (zF X N' scope cl C ex s₀ H₀) g))
  (ht:∀ cl C ex s₀ H₀,PTs (zF X N' scope cl C ex s₀ H₀) ifs t) (he:∀ cl C ex s₀ H₀,PK (zF X N' scope cl C ex s₀ H₀) (λacc=>wD elt (⟨tg,iter,ifs,0⟩::rest) scope pos 0 acc (zF X N' scope cl C ex s₀ H₀).env) kk)
  (I2:Inv X pins σ H2 s2) (r:Rel X.K H2 P1 α1 S1) (re:zH X.K P1 α1 σ env) (T:Turn X.prog X.w X.K tg J fp it tn) (st0:tn 0 s2.heap) (hf:∀ b∈fp,wG X pins H2 b) (hit:ItD2 X.K J P1 α1 o' items) (run:goL o' g t kk items (x0 cap env) S1 [] = .ok (envF,ds) SF)
  (hRR:∀ acc C s',s2.heap.objs.size≤acc→(∃ m,s'.heap.Ns C m)→s2.heap.objs.size≤C→acc≠C→(∀ h',Ex C s'.heap h'→bR X pins σ P1 α1 ds SF acc C { s' with heap:=h' }) → RR (.ref acc) C (.ok .next) s') :
  Ao (Au X.prog X.w) X.A (newList []) (λacc s₃=>Ao (Au X.prog X.w) X.A (newFunctionEnv scope X.env.globals (y8 X.env.cells scope.names []) [] X.env.qual none .none (Aa X.env)) (λcenv s₄ =>
   Jd (Au X.prog X.w) X.A (.compStart (.ListComp elt (⟨tg,iter,ifs,0⟩::rest) scope pos) 0 (.ref it) acc { cenv with scope:=relabel scope X.env }) (RR acc cenv.locals) s₄) E s₃) E s2:=by
 have hlt:∀ b∈fp,b<s2.heap.objs.size:=λb hb=>by
  obtain⟨o,e,_⟩:=T.obj 0 _ st0 b hb;exact Ax e
 refine Dn (wpAny_newFunctionEnv S.nocell (by intro y hy;simp at hy) (λh₁ hns₁ hsb₁=>?_) S.kind)
 dsimp only at hns₁ hsb₁ ⊢;generalize hH2:s2.heap.push { cls:=.type "list",dict:=none,data:=.seq ([] : Ab Ad).toArray } = Hh at hns₁ hsb₁ ⊢;have hsz:Hh.objs.size=s2.heap.objs.size+1:=by rw[← hH2,Ea]
 have hC:s2.heap.objs.size≤Hh.objs.size:=by rw[hsz];exact Rh _
 have hne:s2.heap.objs.size≠Hh.objs.size:=by rw[hsz];exact Cj (Hs _)
 have keep:∀ b o,s2.heap.get? b=Aa o→h₁.get? b=Aa o:=λb o e=>by
  have hb:b≠Hh.objs.size:=by rw[hsz];exact Cj (II (Ax e))
  exact hsb₁.extBut b o hb (Ag _ (hH2▸Ag _ e))
 have hacc:h₁.get? s2.heap.objs.size=Aa { cls:=.type "list",data:=.seq ([] : Ab Ad).toArray }:=hsb₁.extBut _ _ hne (Ag _ (hH2▸Bb _ rfl));have I4:∀ tk,Inv (zF X N' scope (y8 X.env.cells scope.names []) Hh.objs.size fp s2 H2) [] (uG cap σ) H2 { s2 with heap:=h₁,toks:=tk }:=λtk =>
  V0 (s4:={ s2 with heap:=h₁,toks:=tk }) S I2 hf hlt hC hns₁ rfl rfl keep
 have loop:∀ tk,Jd (Au X.prog X.w) X.A (.compLoop (.ListComp elt (⟨tg,iter,ifs,0⟩::rest) scope pos) 0 (.ref it) (.ref s2.heap.objs.size) (compEnvC scope (y8 X.env.cells scope.names []) Hh.objs.size X.env)) (RR (.ref s2.heap.objs.size) Hh.objs.size) { s2 with heap:=h₁,toks:=tk }:=λtk=>by
  refine oE (kk:=kk) (o':=o') (Y:=zF X N' scope (y8 X.env.cells scope.names []) Hh.objs.size fp s2 H2) (pins:=[]) (fp:=fp) (acc:=s2.heap.objs.size) (P1:=P1) (α1:=α1) (σ:=uG cap σ) (H:=H2) (P:=P1) (α:=α1) (o:={ cls:=.type "list",data:=.seq ([] : Ab Ad).toArray }) hc rfl rfl has T hit
   (hg _ _ _ _ _) (ht _ _ _ _ _) (he _ _ _ _ _) (λH hn=>?_) (λH hn b hb=>?_) (λhm=>Er _ (hlt _ hm)) ⟨I4 tk,r,WY re cap,qH.refl _,Bn _,λb hb=>(hf b hb).1,I2.hok.fresh (Av _),hacc,⟨[],0,[],rfl,.nil,.nil,HT _⟩⟩ (T.keep _ _ _ st0 λb hb o e=>keep b o e) run λs' σ' H' P' α' o' st=>?_
  ·refine⟨hn,hne,λhm=>?_,.inr (Av _),λx c h z=>?_,λp hp=>absurd (show p∈([]:Ab (Af × Cs)) from hp) (by simp)⟩
   ·obtain⟨_,o,ho,_⟩:=I2.stack.mem hm
    exact Er _ (Ax ho)
   ·obtain⟨v,ob,hob,_⟩:=I2.cell x c (wO S I2.ok h)
    rw[z] at hob;exact Er _ (Ax hob)
  ·obtain⟨_,h1,h2,h3,h4,h5⟩:=hf b hb
   refine⟨hn b hb,Cj (Bv (hlt b hb) hC),λhm=>?_,.inl hb,λx c h=>h4 x c (wO S I2.ok h),λp hp=>absurd (show p∈([]:Ab (Af × Cs)) from hp) (by simp)⟩
   rcases Aw.mp (I2.stkSub b hm) with z|z
   ·exact h1 z
   ·exact h2 z
  ·obtain⟨m,hm,_⟩:=st.inv.loc
   exact hRR _ _ s' (Av _) ⟨m,hm⟩ hC hne λh' sb=>YZ I2 hf rfl hC (Av _) hne st sb
 exact codeAny_compStart_list (loop _) (T.self X.A 0 _ _ _ (T.keep _ _ _ st0 λb hb o e=>keep b o e) (loop _))
def V9 (hc:X.calm=true)(S:CompSc X.env.scope X.N scope N' cap)(hi:PI X tg iter (tDI2 X fi))
  (hg:∀ cl C ex s₀ H₀,PG (zF X N' scope cl C ex s₀ H₀) tg (tDG (zF X N' scope cl C ex s₀ H₀) g))
  (ht:∀ cl C ex s₀ H₀,PTs (zF X N' scope cl C ex s₀ H₀) ifs t) (has:∀ g',(⟨tg,iter,ifs,0⟩::rest:Ab Fp)[0+1]? = Aa g'→g'.is_async=0) (he:∀ cl C ex s₀ H₀,PK (zF X N' scope cl C ex s₀ H₀) (λacc=>wD elt (⟨tg,iter,ifs,0⟩::rest) scope pos 0 acc (zF X N' scope cl C ex s₀ H₀).env) kk)
  (hs:∀ x,Ga iter X.env x=pure x:=by intro _;rfl):PE X (.ListComp elt (⟨tg,iter,ifs,0⟩::rest) scope pos) (tD X (qS mm cap fi g t kk)):=by
 intro pins s σ H Q I h;obtain⟨P,α,env,S0,r,re,af⟩:=h;rw[eval_ListComp];have af':qI X P α ((fi env S0).bind λp S1=>mkM mm (goL p.1 g t kk p.2 (x0 cap env) S1 [])) (OkV X P α Q):=af;refine Pd (use:=none) rfl hs (cW S I.ok) S.kind S.names ?_;refine thn (hi pins s σ H (λJ H1=>∃ (P1:Hp) (α1:Ab Af) (p:Am (Ai × MO) × Ab _D.D) (S1:Sto),Rel X.K H1 P1 α1 S1∧qH P P1∧α<+:α1∧ItD2 X.K J P1 α1 p.1 p.2∧qI X P α (mkM mm (goL p.1 g t kk p.2 (x0 cap env) S1 [])) (OkV X P α Q)) I ⟨P,α,env,S0,r,re,?_⟩) λxv s1 h1=>thn h1 λitv s2 h2=>?_
 ·cases q:fi env S0 with
  |bad=>rw[q] at af';exact af'
  |ex c x S'=>rw[q] at af';exact af'
  |ok p S1=>rw[q] at af';exact λJ H1 P1 α1 r1 e1 e2 it=>⟨P1,α1,p,S1,r1,e1,e2,it,af'⟩
 obtain⟨it,fp,tn,J,H2,rfl,I2,T,st0,hf,P1,α1,p,S1,r1,e1,e2,hit,af1⟩:=h2;obtain⟨envF,ds,SF,run,ok⟩:=XX af1;refine fV (RR:=λacc C=>compPost (Au X.prog X.w) X.A X.xe none (EP X pins σ Q) acc C) hc S has hg ht he I2 r1 (re.mono e1 e2) T st0 hf hit run ?_;intro acc C s' hA ⟨m,hm⟩ hC hne fin;refine⟨m,hm,λh' sb=>VL (mm:=mm) (fin h' sb) ?_⟩;cases mm with
 |false=>exact λv H3 P3 α3 r3 q1 q2 q3=>ok v H3 P3 α3 r3 (e1.trans q1) (e2.trans q2) q3
 |true=>exact λv H3 P3 α3 r3 q1 q2 q3=>ok v H3 P3 α3 r3 (e1.trans q1) (e2.trans q2) q3
def VG {i:Ai}{y:As}{py spos:Fh}(hc:X.calm=true)(hN:X.N.Nodup)(S:CompSc X.env.scope X.N scope N' cap)(hi:PI X tg iter (tDI2 X fi))
  (hg:∀ cl C ex s₀ H₀,PG (zF X N' scope cl C ex s₀ H₀) tg (tDG (zF X N' scope cl C ex s₀ H₀) g))
  (ht:∀ cl C ex s₀ H₀,PTs (zF X N' scope cl C ex s₀ H₀) ifs t) (has:∀ g',(⟨tg,iter,ifs,0⟩::rest:Ab Fp)[0+1]? = Aa g'→g'.is_async=0) (he:∀ cl C ex s₀ H₀,PK (zF X N' scope cl C ex s₀ H₀) (λacc=>wD elt (⟨tg,iter,ifs,0⟩::rest) scope pos 0 acc (zF X N' scope cl C ex s₀ H₀).env) kk)
  (hy:X.N[i]? = Aa y:=by rfl) (hyl:Loc X.env.scope y:=by first|exact Xm rfl|exact Vv rfl) (hf:X.fn y=true∨X.env.scope.names.lookup y=Aa .local:=by first|exact .inl rfl|exact .inr rfl|assumption)
  (hsw:Lm (.ListComp elt (⟨tg,iter,ifs,0⟩::rest) scope pos) (Aa (.Name y py)) spos.line X.env=pure true:=by rfl)
  (hs:∀ x,Ga iter X.env x=pure x:=by intro _;rfl):PS X (.Assign [.Name y py] (.ListComp elt (⟨tg,iter,ifs,0⟩::rest) scope pos) spos) (tDS X (zB (qS mm cap fi g t kk) (gNm i))):=by
 intro pins s σ H D I h;obtain⟨P,α,env,S0,r,re,af⟩:=h;have af0:=yT af;have af':qI X P α ((fi env S0).bind λp S1=>mkM mm (goL p.1 g t kk p.2 (x0 cap env) S1 [])) (λd S=>zN X P α (.nx (env.set i (Aa d)) S) D):=af0;rw[exec_Assign_Name_used _ _ _ _ hsw];refine Ac (OG (Ac ?_));show Ao _ X.A (do let _ ← comprehension (.ListComp elt (⟨tg,iter,ifs,0⟩::rest) scope pos) scope X.env _ (newList []) false (eval iter X.env) (Aa (assign (.Name y py) X.env))) _ _ s
 refine Ac (Ia (Pd (use:=Aa (assign (.Name y py) X.env)) (Q:=λ_ s'=>SP X pins D .next s') rfl hs (cW S I.ok) S.kind S.names ?_) (λ_ s' hq=>Al (Al hq)) λ_ _ e=>e);refine thn (hi pins s σ H (λJ H1=>∃ (P1:Hp) (α1:Ab Af) (p:Am (Ai × MO) × Ab _D.D) (S1:Sto),Rel X.K H1 P1 α1 S1∧qH P P1∧α<+:α1∧ItD2 X.K J P1 α1 p.1 p.2∧qI X P α (mkM mm (goL p.1 g t kk p.2 (x0 cap env) S1 [])) (λd S=>zN X P α (.nx (env.set i (Aa d)) S) D)) I ⟨P,α,env,S0,r,re,?_⟩) λxv s1 h1=>thn h1 λitv s2 h2=>?_
 ·cases q:fi env S0 with
  |bad=>rw[q] at af';exact af'
  |ex c x S'=>rw[q] at af';exact af'
  |ok p S1=>rw[q] at af';exact λJ H1 P1 α1 r1 e1 e2 it=>⟨P1,α1,p,S1,r1,e1,e2,it,af'⟩
 obtain⟨it,fp,tn,J,H2,rfl,I2,T,st0,hfp,P1,α1,p,S1,r1,e1,e2,hit,af1⟩:=h2;obtain⟨envF,ds,SF,run,ok⟩:=XX af1;refine fV (RR:=λacc C=>compPost (Au X.prog X.w) X.A X.xe (Aa (assign (.Name y py) X.env)) (λ_ s'=>SP X pins D .next s') acc C) hc S has hg ht he I2 r1 (re.mono e1 e2) T st0 hfp hit run ?_;intro acc C s' hA ⟨m,hm⟩ hC hne fin;show Ao _ X.A (assign (.Name y py) X.env (.ref acc)) _ _ s';obtain⟨H3,P3,α3,vs,I3,r3,hn3,q1,q2,rp,hCn⟩:=fin s'.heap (OS _ _);obtain⟨r4,e4⟩:=r3.pure (o:=.lst vs) hn3;have hCn':(upd H3 acc (.lst vs)) C=none:=by rw[qR (Gx hne)];exact hCn
 have fC:=I2.fpOk hC hCn';refine Uq (dX I3 hN hy hyl (show qL (V.ref acc) (Dc acc) from rfl) (λs5 I5 ⟨a,sb,ha⟩=>?_) hf)
 have hCa:C≠a:=by
  rcases ha with rfl|ha
  ·exact fC.2.1
  ·exact λz=>fC.2.2.2.2.1 _ _ ha z.symm
 refine⟨m,hm.sameBut sb hCa,λh' sb'=>?_⟩;have I6:Inv X pins (σ.set i (Aa (V.ref acc))) (upd H3 acc (.lst vs)) { s5 with heap:=h' }:=I5.turned (t':=s5.toks) (λb o hb e=>(sb'.2 b hb).trans e) hCn' fC.2.1 fC.2.2.2.1 fC.2.2.2.2.1 fC.2.2.2.2.2
 cases mm with
 |false =>
  refine⟨_,_,I6,ok _ _ (upd P3 acc (.lst vs)) α3 r4 ?_ ((e1.trans q1).trans e4) (e2.trans q2)⟩;exact((re.mono e1 e2).mono (q1.trans e4) q2).set i (fK (.inl (.inl zE)) (qF.mono e4 (Bn _) _ _ rp))
 |true =>
  have hpre:α3<+:α3++[acc]:=Ha _ _;have r5:=r3.new (o:=.lst vs) (m:=.lst ds) hn3 ⟨vs,zE,qF.mono (qH.refl _) hpre _ _ rp⟩;refine⟨_,_,I6,ok _ _ P3 (α3++[acc]) r5 ?_ (e1.trans q1) ((e2.trans q2).trans hpre)⟩;refine((re.mono e1 e2).mono q1 (q2.trans hpre)).set i ?_;simp only[Rep];exact⟨acc,rfl,by rw[← r3.len];simp⟩
end
section
variable {prog:Bl}{w:Bz}{A:By}{E:Ad→Ah→Prop}{s:Ah}
def X0 {e it l:Af}{i:Ai}{x old:Ad}(he:Ri s.heap e it i old)(hit:zS tp s.heap it l i)(hl:wM tp s.heap l xs)(hx:xs[i]? = Aa x)(ne:e≠it)
  (hQ:∀ g,Xy g e it ((i:Aj)+1) x s.heap.objs.size→zS tp g it l (i+1)→Ir g s.heap.objs.size (.int i s.toks) x→g.objs.size=s.heap.objs.size+1→(∀ b o,b≠e→b≠it→s.heap.get? b=Aa o→g.get? b=Aa o)→Q (.ref s.heap.objs.size) { s with heap:=g,toks:=s.toks+1 }) :
  Ao (Au prog w) A (Hw.«enumerate.__next__» ⟨[.ref e],[]⟩) (λfin s'=>∃ v,fin=.done (.ret v)∧Q v s') E s:=by
 obtain⟨hp,gn,dr,tk,os⟩:=s;show Ao _ _ (field (.ref e) 2 >>= _) _ _ _;refine Ac (Dv he rfl (x:=.ref it) rfl (Ac (pC hit hl hx λg1 i1 s1=>?_)))
 replace s1:Ex it hp g1:=s1
 have e1:Ri g1 e it i old:=(s1.2 e ne).trans he;show Ao _ _ (field (.ref e) 3 >>= _) _ _ ⟨g1,gn,dr,tk,os⟩;refine Ac (Dv e1 rfl (x:=Mb i) rfl ?_);show Ao _ _ (field (.ref e) 4 >>= _) _ _ ⟨g1,gn,dr,tk,os⟩;refine Ac (Dv e1 rfl (x:=.none) rfl ?_);show Ao _ _ (mkInt i >>= _) _ _ ⟨g1,gn,dr,tk,os⟩;refine Ac (wpAny_mkInt ?_);show Ao _ _ (setField (.ref e) 3 (Mb ((i:Aj)+1)) >>= _) _ _ ⟨g1,gn,dr,tk+1,os⟩;refine Ac (Ey e1 (by simp) λg2 e2 s2=>?_)
 replace s2:Ex e g1 g2:=s2
 replace e2:Ri g2 e it ((i:Aj)+1) old:=e2
 show Ao _ _ (setField (.ref e) 4 .none >>= _) _ _ ⟨g2,gn,dr,tk+1,os⟩;refine Ac (Ey e2 (by simp) λg3 e3 s3=>?_)
 replace s3:Ex e g2 g3:=s3
 replace e3:Ri g3 e it ((i:Aj)+1) old:=e3
 show Ao _ _ (newTuple [.int i tk,x] >>= _) _ _ ⟨g3,gn,dr,tk+1,os⟩;refine Ac (Rw ?_);have e4:Ri (g3.push { cls:=.type "tuple",data:=.seq #[.int i tk,x] }) e it ((i:Aj)+1) old:=Ag _ e3;generalize q4:g3.push { cls:=.type "tuple",data:=.seq #[.int i tk,x] } = g4 at e4;have sz:g3.objs.size=hp.objs.size:=by rw[s3.1,s2.1,s1.1]
 have el:e<hp.objs.size:=Ax he;have t4:Ir g4 hp.objs.size (.int i tk) x:=by rw[← q4,← sz];exact Bb _ rfl
 have z4:g4.objs.size=hp.objs.size+1:=by rw[← q4,Ea,sz]
 have k4:∀ b o,b≠e→b≠it→hp.get? b=Aa o→g4.get? b=Aa o:=λb o b1 b2 q=>by
  rw[← q4];exact Ag _ (s3.extBut b o b1 (s2.extBut b o b1 (s1.extBut b o b2 q)))
 have i4:zS tp g4 it l (i+1):=i1.keep λo q=>by rw[← q4];exact Ag _ (s3.extBut _ o ne.symm (s2.extBut _ o ne.symm q))
 show Ao _ _ (Es (.ref e) >>= _) _ _ ⟨g4,gn,dr,tk+1,os⟩;rw[sz];refine Ac ?_;unfold Es;refine Ac (Dv e4 rfl (x:=.none) rfl (Al ?_));simp only[Dk];refine Ac (Hc (Ac (Dv e4 rfl (x:=old) rfl (Ac (Ey e4 (by simp) λg5 e5 s5=>?_)))))
 replace s5:Ex e g4 g5:=s5
 replace e5:Ri g5 e it ((i:Aj)+1) x:=e5
 show Ao _ _ (Gw (.ref e) (.ref hp.objs.size) >>= _) _ _ ⟨g5,gn,dr,tk+1,os⟩;refine Ac ?_;unfold Gw;refine Ac (Ey e5 (by simp) λg6 e6 s6=>?_)
 replace s6:Ex e g5 g6:=s6
 replace e6:Xy g6 e it ((i:Aj)+1) x hp.objs.size:=e6
 refine Ey e6 (by simp) λg7 e7 s7=>?_
 replace s7:Ex e g6 g7:=s7
 replace e7:Xy g7 e it ((i:Aj)+1) x hp.objs.size:=e7
 have up:∀ b o,b≠e→g4.get? b=Aa o→g7.get? b=Aa o:=λb o b1 q=>s7.extBut b o b1 (s6.extBut b o b1 (s5.extBut b o b1 q));exact Ac (Jm (Al ⟨_,rfl,hQ g7 e7 (i4.keep λo q=>up _ o ne.symm q) (up _ _ (Hf el) t4) (by rw[s7.1,s6.1,s5.1,z4]) λb o b1 b2 q=>up b o b1 (k4 b o b1 b2 q)⟩))
set_option maxHeartbeats 4000000 in
set_option tactic.hygienic true in
def VO (tp:Ar)(l:Af)(xs:Ay Ad) :
  Meets (Hw.«enumerate.__new__» ⟨[.type "enumerate",.ref l],[]⟩) (λ_ R s=>(∃ n dct sl,s.heap.get? l=Aa { cls:=.type (if tp then "tuple" else "list"),dict:=dct,data:=.seq xs n,slots:=sl }) ∧ R (.ok (.ret (.ref (s.heap.push (uX tp l)).objs.size))) { s with heap:=(s.heap.push (uX tp l)).push { cls:=.type "enumerate",data:=.fields #[.none,.bool false,.ref s.heap.objs.size,Mb 0,.none,.none] } }):=
 .of_wp λprog w A R s h=>by
  obtain⟨hp,gn,dr,tk,os⟩:=s;obtain⟨⟨n,dct,sl,hl⟩,h⟩:=h;have hsub:=sub_enumerate;cases tp
  ·have L1:Vx (Mn ⟨hp,gn,dr,tk,os⟩) l xs:=⟨_,hl,rfl,n,rfl⟩
   wp_walk using Gy hl
   refine Wo λst=>Al ?_
   split
   ·rename_i c _ _ _ _ _
    cases (c == Hv "enumerate") <;> (wp_walk using Gy hl,Gb L1;exact⟨_,rfl,h⟩)
   ·wp_walk using Gy hl,Gb L1;exact⟨_,rfl,h⟩
  ·have L1:Uj (Mn ⟨hp,gn,dr,tk,os⟩) l xs:=⟨_,hl,rfl,n,rfl⟩
   wp_walk using Gy hl
   refine Wo λst=>Al ?_
   split
   ·rename_i c _ _ _ _ _
    cases (c == Hv "enumerate") <;> (wp_walk using Gy hl,Gh L1;exact⟨_,rfl,h⟩)
   ·wp_walk using Gy hl,Gh L1;exact⟨_,rfl,h⟩
def ZG {tp:Ar}{l:Af}{xs:Ay Ad}{Q:Ad→Ah→Prop}(hl:∃ n dct sl,s.heap.get? l=Aa { cls:=.type (if tp then "tuple" else "list"),dict:=dct,data:=.seq xs n,slots:=sl })
  (h:∀ g,Ri g (s.heap.objs.size+1) s.heap.objs.size 0 .none→zS tp g s.heap.objs.size l 0→(∀ b o,s.heap.get? b=Aa o→g.get? b=Aa o)→Q (.ref (s.heap.objs.size+1)) { s with heap:=g }) :
  Ao (Au prog w) A (call (.type "enumerate") [.ref l]) Q E s:=by
 refine callType_new F.called_enumerate (by decide) (F.typeCall_enumerate_1 _) (F.newCall_enumerate_1 _) (λobj=>F.args_object_init_2 obj _) F.entry_enumerate_new (VO tp l xs) ⟨hl,?_⟩
 have hz:(s.heap.push (uX tp l)).objs.size=s.heap.objs.size+1:=Ea ..;show _∧_;have he:((s.heap.push (uX tp l)).push { cls:=.type "enumerate",data:=.fields #[.none,.bool false,.ref s.heap.objs.size,Mb 0,.none,.none] }).get? (s.heap.push (uX tp l)).objs.size=Aa _:=Bb _ rfl;rw[hz] at he ⊢;exact⟨⟨_,he,rfl⟩,h _ he (gX (Ag _ (Bb _ rfl))) λb o x=>Ag _ (Ag _ x)⟩
end
def Ite (tp:Ar)(K:Ak)(a:Af):It:=
  ⟨λi H=>∃ xs x,Sq tp K H a xs∧xs[i]? = Aa x,
   λi H v H'=>∃ T x,v=.ref T∧H T=none∧H'=upd H T (.tup [.int i,x])∧∀ xs,Sq tp K H a xs→xs[i]? = Aa x,
   λi H=>∃ xs,Sq tp K H a xs∧xs.length≤i⟩
def Z6 (tp:Ar)(e it l:Af)(k:Ai)(h:Bs):Prop:=∃ old,Ri h e it k old∧zS tp h it l k
def Y6 {P:Bl}{w:Bz}{K:Ak}{elts:Ab Bw}{x1:Ai}{tpos:Fh}{e it a:Af}(ne:e≠it):Turn P w K (.Tuple elts x1 tpos) (Ite tp K a) [e,it] e (Z6 tp e it a) where
 mem:=by simp
 obj:=λk h st c hc=>by
  obtain⟨old,s1,s2⟩:=st;simp only[Aw,Cw,Fz] at hc;rcases hc with rfl|rfl
  ·exact⟨_,s1,λv y=>by cases y⟩
  ·exact s2.there
 keep:=λk h h' st kp=>by
  obtain⟨old,s1,s2⟩:=st;exact⟨old,kp e (by simp) _ s1,s2.keep λo q=>kp it (by simp) o q⟩
 item:=by
  intro X hP hw hK hc k pins s σ H E Iv hf st hg;subst hP hw hK;obtain⟨old,s1,s2⟩:=st;obtain⟨xs,x,qa,hx⟩:=hg;obtain⟨ia,ra,ha⟩:=qa.at Iv;obtain⟨u,hu,ru⟩:=ra.get hx;have hT:s.TypeIs (.ref e) "enumerate":=⟨_,s1,rfl⟩;unfold Ld;refine Ac (Ib (Dx (name:=Fv "__next__") hT Jn (Ef Jn hT Qr
   (X0 s1 s2 ha (by simpa using hu) ne λh' a1 a2 a3 a4 a5=>Al ?_) (Px _))))
  refine⟨_,rfl,wpAny_letOwnedTupleGo_enum (s:={ s with heap:=h',toks:=s.toks+1 }) a1 λh2 b1 b2=>?_⟩
  have up:∀ c o,c≠e→h'.get? c=Aa o→h2.get? c=Aa o:=λc o n q=>(b2.2 c n).trans q;have el:e<s.heap.objs.size:=Ax s1;have T2:Ir h2 s.heap.objs.size (.int k s.toks) u:=up _ _ (Hf el) a3;have st2:Z6 tp e it a (k+1) h2:=⟨u,b1,a2.keep λo q=>up _ o ne.symm q⟩;refine⟨.ref s.heap.objs.size,upd H s.heap.objs.size (.tup [.int k,x]),?_,rfl,⟨_,x,rfl,Iv.hok.fresh (Av _),rfl,λzs qz=>by rw[qz.inj Iv qa];exact hx⟩,st2,λc hc=>?_⟩
  ·have:=Inv.turnLay (fp:=[e,it]) (its:=[.int k s.toks,u]) (h':=h2) (xs:=[.int k,x]) Iv hf (λc o hc q=>by
    simp only[Aw,Cw,Fz,To] at hc;exact up c o hc.1 (a5 c o hc.1 hc.2 q)) (λc hc=>by
    obtain⟨old',t1,t2⟩:=st2;simp only[Aw,Cw,Fz] at hc;rcases hc with rfl|rfl
    ·exact⟨_,t1⟩
    ·obtain⟨o,q,_⟩:=t2.there;exact⟨o,q⟩) (Av _) (.cons ⟨_,rfl⟩ (.cons ru .nil)) ⟨_,T2,rfl,_,rfl⟩ (by show 2≤sizeLine;decide)
   exact this.tok (s.toks+1)
  ·have hn:=(hf c hc).1
   rw[qR ?_]
   ·exact hn
   ·rintro rfl
    obtain⟨o,q,_⟩:∃ o,s.heap.get? s.heap.objs.size=Aa o∧Mv:=by
     simp only[Aw,Cw,Fz] at hc;rcases hc with z|z
     ·exact⟨_,z▸s1,trivial⟩
     ·obtain⟨o,e',_⟩:=s2.there;exact⟨o,z▸e',trivial⟩
    exact absurd (Ax q) (Er _)
 done:=by
  intro X hP hw hK hc k pins s σ H E Iv hf st hg;subst hP hw hK;obtain⟨old,s1,s2⟩:=st;obtain⟨xs,qa,hend⟩:=hg;obtain⟨ia,ra,ha⟩:=qa.at Iv;have hT:s.TypeIs (.ref e) "enumerate":=⟨_,s1,rfl⟩;have l1:=ra.length;unfold Ld;refine Ac (Ib (Dx (name:=Fv "__next__") hT Jn (Ef Jn hT Qr ?_ (Px _))));show Ao _ _ (field (.ref e) 2 >>= _) _ _ _;refine Ac (Dv s1 rfl (x:=.ref it) rfl (Ac (jZ (Iv.ok.hd hc) s2 ha (by simp;omega) λh' x kp hx'=>?_)))
  obtain⟨o,ho,hcl⟩:=hx';refine Ac (Mp (T:="StopIteration") (b:=true) ⟨o,ho,hcl⟩ Rx (Al ⟨rfl,Inv.turnL (fp:=[e,it]) Iv hf λc o hc q=>?_⟩));simp only[Aw,Cw,Fz,To] at hc;exact kp c o hc.2 q
 self:=λ_ _ _ _ _ st h=>by
  obtain⟨old,s1,_⟩:=st;exact Vd s1 h
def vE (xs:Ab D):Ab D:=xs.mapIdx λi x=>D.tup [.int i,x]
def K5 (ds:Ab D):Am (Ab D):=match ds with
 |[.tup xs]=>Aa (vE xs)
 |[.lst xs]=>Aa (vE xs)
 |_=>none
def oG (f:DA):DI:=λenv S=>(f env S).bind λds S1=>vA (K5 ds) S1
def ZZ (xs:Ab D)(i:Ai):(vE xs)[i]? = (xs[i]?).map λx=>D.tup [.int i,x]:=by
 unfold vE;rw[List.getElem?_mapIdx]
def bB (xs:Ab D):(vE xs).length=xs.length:=by simp[vE]
def U3 {K:Ak}{P:Hp}{a:Af}{xs:Ab D}(qa:Sq tp K P a vs)(ta:qF K P α xs vs):ItD K (Ite tp K a) P α (vE xs) where
 go:=λi H P1 α1 S hi r e _=>by
  rw[bB] at hi;have h1:i<vs.length:=by rw[← ta.length];omega
  exact⟨vs,vs[i],qa.mono (e.trans r.sub),by simp⟩
 yld:=λi H x H' P1 α1 S hi r e e2 y=>by
  obtain⟨T,u,rfl,hT,rfl,hu⟩:=y;rw[bB] at hi;obtain⟨v1,z1,p1⟩:=ta.get (Ap hi);have eu:=hu vs (qa.mono (e.trans r.sub));rw[z1] at eu;cases eu;obtain⟨r1,s1⟩:=r.pure (o:=.tup [.int i,u]) hT;refine⟨_,.tup [.int i,xs[i]],?_,r1,s1,?_⟩
  ·rw[ZZ,Ap hi];rfl
  ·exact fL (.of zE) (.cons (by simp only[Rep]) (.cons (Rep.mono (e.trans s1) e2 _ _ p1) .nil))
 stop:=λi H P1 α1 S hi r e _=>by
  rw[bB] at hi;have l1:=ta.length;exact⟨vs,qa.mono (e.trans r.sub),by omega⟩
section
variable {X:Cx}{e1:Bw}{elts:Ab Bw}{x1:Ai}{tpos:Fh}{f:DA}{p pos:Fh}
def Sq.obj {pins:Ab (Af × Cs)}{σ:_L.St}{H:Hp}{s:Ah}{a:Af}{xs:Ab V}(I:Inv X pins σ H s)(q:Sq tp X.K H a xs):∃ its:Ab Ad,qK xs its∧∃ n dct sl,s.heap.get? a=Aa { cls:=.type (if tp then "tuple" else "list"),dict:=dct,data:=.seq its.toArray n,slots:=sl }:=by
 obtain⟨its,rv,h⟩:=q.at I;refine⟨its,rv,?_⟩;cases tp with
 |true =>
  obtain⟨o,ho,hc,n,hd⟩:=h;obtain⟨c,d,dt,sl⟩:=o;dsimp only at hc hd;subst hc;subst hd;exact⟨n,_,_,ho⟩
 |false =>
  obtain⟨o,ho,hc,n,hd⟩:=h;obtain⟨c,d,dt,sl⟩:=o;dsimp only at hc hd;subst hc;subst hd;exact⟨n,_,_,ho⟩
def a8 {pins:Ab (Af × Cs)}{σ:_L.St}{H P:Hp}{s:Ah}{a:Af}{xs:Ab D}(I:Inv X pins σ H s)(r:Rel X.K H P α S)(qa:Sq tp X.K P a vs)(ta:qF X.K P α xs vs)
  (q:OkI X P α R (vE xs) S):Ao (Au X.prog X.w) X.A (call (.type "enumerate") [.ref a]) (λv s1=>Ao (Au X.prog X.w) X.A (Nj v) (PIE X pins σ (.Tuple elts x1 tpos) R) X.xe s1) X.xe s:=by
 obtain⟨ia,ra,ha⟩:=Sq.obj I (qa.mono r.sub);refine ZG (tp:=tp) ha λh' z1 z2 z7=>?_;refine Vd (s:={ s with heap:=h' }) z1 ?_
 refine⟨_,[s.heap.objs.size+1,s.heap.objs.size],_,_,H,rfl,I.kept (t':=s.toks) z7,Y6 (tp:=tp) (a:=a) (by intro z;simp at z),⟨_,z1,z2⟩,λc hc=>?_,q _ _ P α r (qH.refl _) (Bn _) (U3 qa ta)⟩
 have hl:s.heap.objs.size≤c:=by
  simp only[Aw,Cw,Fz] at hc;rcases hc with rfl|rfl <;> simp
 exact I.fpOk hl (I.hok.fresh hl)
def n9:Ge "enumerate" = Aa (.type "enumerate"):=by decide +kernel
def VN (h:K5 ds=Aa its):∃ d xs,ds=[d]∧ItV d xs∧its=vE xs:=by
 cases ds with
 |nil=>exact nn h
 |cons d ds =>
  cases ds with
  |cons _ _=>cases d <;> exact nn h
  |nil =>
   cases d with
   |tup xs=>exact⟨_,xs,rfl,.tup rfl,(Co h).symm⟩
   |lst xs=>exact⟨_,xs,rfl,.lst rfl,(Co h).symm⟩
   |_=>exact nn h
def P8 (hg:Gl X "enumerate")(hm:X.mg "enumerate" = none)(ha:PA X [e1] (tDA X f))(hs:Bd [e1] X.env=(false,eval e1 X.env)::Bd [] X.env:=by rfl)(hpl:(Fu pos (Bd [] X.env)).any (·.1)=false:=by rfl) :
  PI X (.Tuple elts x1 tpos) (.Call (.Name "enumerate" p) [e1] [] pos) (tDI X (oG f)):=by
 intro pins s σ H R I h;obtain⟨P,α,env,S,r,re,af⟩:=h;refine Call_ (u7 I hg hm n9 (Hg (thn (wV ha I r re af pos) λus s1 ⟨vs,H1,P1,α1,ds,S1,I1,rv,r1,re1,rp,e1,e2,af1⟩=>?_) hs hpl));obtain⟨its,hi,q⟩:=uT af1;obtain⟨d,xs,rfl,hd,rfl⟩:=VN hi;obtain⟨v,u,rfl,rfl,p1,q1⟩:=yL rp rv;cases hd with
 |tup ed =>
  subst ed;simp only[Rep] at p1;obtain⟨a,va,rfl,qa,ta⟩:=p1;cases (show u=Dc a from q1)
  exact a8 (tp:=true) I1 r1 qa ta (q.base e1 e2)
 |lst ed =>
  subst ed;simp only[Rep] at p1;obtain⟨a,va,rfl,qa,ta⟩:=p1;cases (show u=Dc a from q1)
  exact a8 (tp:=false) I1 r1 qa.l ta (q.base e1 e2)
end
section
variable {X:Cx}
def wX:D→Ab D→Sto→Res D:=λa ds S=>match a,ds with
 |.loc n,[i,x]=>match S[n]? with
  |some (.dct kvs)=>match u4 i with
   |some k=>match yF kvs k with
    |some d=>.ok d S
    |none=>if kvs.length<lim then .ok x (S.set n (.dct (vN kvs k x))) else .bad
   |none=>.bad
  |_=>.bad
 |_,_=>.bad
def fR (a b c:Ad):Rj "dict.setdefault" ⟨[a,b,c],[]⟩:=by unfold Rj;kernel_rfl
inductive SdV (a:D)(ds:Ab D)(S:Sto):Prop
 |bad (e:wX a ds S=.bad)
 |of (n:Ai) (i x:D) (kvs:Ab (Key × D)) (k:Key) (ea:a=.loc n) (ed:ds=[i,x]) (hS:S[n]? = Aa (.dct kvs)) (hk:u4 i=Aa k) (e:wX a ds S=(match yF kvs k with|some d=>.ok d S|none=>if kvs.length<lim then .ok x (S.set n (.dct (vN kvs k x))) else .bad))
def sdV (a:D)(ds:Ab D)(S:Sto):SdV a ds S:=by
 cases a with
 |loc n =>
  cases ds with
  |nil=>exact .bad rfl
  |cons i ds =>
   cases ds with
   |nil=>exact .bad rfl
   |cons x ds =>
    cases ds with
    |cons _ _=>exact .bad rfl
    |nil =>
     have z:wX (.loc n) [i,x] S=(match S[n]? with|some (.dct kvs)=>(match u4 i with|some k=>(match yF kvs k with|some d=>.ok d S|none=>if kvs.length<lim then .ok x (S.set n (.dct (vN kvs k x))) else .bad)|none=>.bad)|_=>.bad):=rfl
     cases hS:S[n]? with
     |none=>rw[hS] at z;exact .bad z
     |some m =>
      rw[hS] at z;cases m with
      |dct kvs =>
       cases hk:u4 i with
       |none=>rw[hk] at z;exact .bad z
       |some k=>rw[hk] at z;exact .of n i x kvs k rfl rfl hS hk z
      |_=>exact .bad z
 |_=>exact .bad rfl
def XW:MtD X "dict.setdefault" wX:=by
 intro pins σ H s P α S v vv vs us a ds Q I r rv p rvs rps af;cases sdV a ds S with
 |bad e=>rw[e] at af;exact An af
 |of n i x kvs k ea ed hS hk e =>
  rw[e] at af;subst ea ed;clear e;obtain⟨vi,vx,ui,ux,rfl,rfl,pi,px,qi,qx⟩:=fM rps rvs;simp only[Rep] at p;obtain⟨b,rfl,q⟩:=p;obtain⟨ws,z,t⟩:=r.at' n b _ q hS;cases XF hk pi;cases (show vv=Dc b from rv)
  obtain⟨hz,hd,us',rel,dd⟩:=oJ I.hok z;have hz':us'.length≤sizeLine:=by rw[← rel.length];exact hz
  obtain⟨k1,k2⟩:=aZ (k:=k) t;have er:=rel.val k;refine call_meetsIn Nt dd.typeIs PySem.F.entry_dict_setdefault (fR _ _ _) (kt_meets_setdefault (x5 X.prog X.w) b (tB qi) hd ux) ⟨us',dd,hz',λv' hv'=>?_,λhn h' dd' hs=>?_⟩
  ·cases hv:yF kvs k with
   |none =>
    rw[k2 hv,hv'] at er;exact An er
   |some d =>
    obtain⟨w',e1,e2⟩:=k1 d hv;rw[hv] at af;rw[e1,hv'] at er;exact⟨w',H,I.tok _,er,xr af r e2⟩
  ·cases hv:yF kvs k with
   |some d =>
    obtain⟨w',e1,e2⟩:=k1 d hv;rw[e1,hn] at er;exact An er
   |none =>
    rw[hv] at af;obtain⟨hl,af⟩:=j7 (X:=X) af;have hl':(vO ws k vx).length≤sizeLine:=by
     have:=kW ws k vx;have e3:=aW t;rw[← xP];omega
    have he:∃ q,h'.get? b=Aa q:=let ⟨q,_,_,hq,_⟩:=dd';⟨q,hq⟩
    have I':=nF (t':=s.toks+1) I (by rw[z];exact Ix) hs he (ZX hl' hd (rel.put k qx) dd')
    exact⟨vx,_,I',qx,af _ _ P α (r.put (m':=.dct (vN kvs k x)) q hS (by intro z;cases z) ⟨_,zE,aX px t⟩) (qH.refl _) (Bn _) px⟩
def xH:Ab D→Am (Ab Aj)
 |[]=>Aa []
 |.int i::r=>(xH r).map (i::·)
 |_::_=>none
def j6 (ns:Ab Aj):xH (ns.map D.int)=Aa ns:=by
 induction ns with
 |nil=>rfl
 |cons n r ih=>exact congrArg (Option.map (n::·)) ih
def yN:∀ {ds:Ab D} {ns:Ab Aj},xH ds=Aa ns→ds=ns.map D.int
 |[],ns,h=>by cases h;rfl
 |d::r,ns,h=>by
  cases d with
  |int i =>
   obtain⟨m,h1,rfl⟩:=El.mp (show (xH r).map (i::·)=Aa ns from h)
   rw[yN h1];rfl
  |_=>exact nn h
def wQ {K:Ak}{P:Hp}:∀ {ns:Ab Aj} {vs:Ab V},qF K P α (ns.map D.int) vs→vs=ns.map V.int
 |[],vs,r=>by rw[r.nil_inv];rfl
 |n::ns,vs,r=>by
  obtain⟨w,ws,rfl,p,t⟩:=r.cons_inv;simp only[Rep] at p;rw[p,wQ t];rfl
def mC:G2:=λa b S=>match a,b with
 |.tup xs,.tup ys=>match xH xs,xH ys with
  |some ns,Aa ms=>.ok (.bl (_H.lexLt ns ms)) S
  |_,_=>.bad
 |_,_=>gLt a b S
end
section
variable {X:Cx}
def cA {pins:Ab (Af × Cs)}{σ:_L.St}{H P:Hp}{s:Ah}{xs:Ab D}{v:V}{vv:Ad}(I:Inv X pins σ H s)(r:Rel X.K H P α S)(rv:qL v vv)(p:Rep X.K P α (.tup xs) v)(h:xH xs=Aa ns) :
  ∃ a its,vv=.ref a∧Oa s.heap a (List.toArray its)∧Ik its ns:=by
 have:=yN h;subst this;obtain⟨a,vs,its,rfl,q1,t1,rv1,h1,l1,_⟩:=uH I r p;have:=wQ t1;subst this;exact⟨a,its,rv,h1,by simpa using jH rv1⟩
set_option tactic.hygienic true in
def LG (hu:X.A.units<Fi):OpD X (Dj .Lt) mC:=by
 intro pins σ H s P α S v u vv uu a b Q I r rv ru pa pb af;unfold mC at af
 split at af
 ·rename_i xs ys
  split at af
  ·rename_i ns ms h1 h2
   obtain⟨a,its,rfl,t1,i1⟩:=cA I r rv pa h1;obtain⟨b,its2,rfl,t2,i2⟩:=cA I r ru pb h2;exact _H.lt_tupInts t1 t2 (by simpa using i1) (by simpa using i2) hu ⟨.bl _,H,I,rfl,xr af r (by simp only[Rep])⟩
  ·exact An af
 ·exact KM pins σ H s P α S v u vv uu a b Q I r rv ru pa pb af
end
section
variable {X:Cx}
def rQ:DF:=λds S=>match ds with
 |[d]=>match (x8 d).bind xH with
  |some ns=>.ok (.int ns.sum) S
  |none=>.bad
 |_=>.bad
def PZ {P:Hp}{Ok:D→Sto→Prop}(h:qI X P α (rQ ds S) Ok):∃ d xs ns,ds=[d]∧ItV d xs∧xH xs=Aa ns∧Ok (.int ns.sum) S:=by
 obtain⟨d,rfl,h1⟩:=tI (X:=X) (β:=D) (g:=λd=>match (x8 d).bind xH with|some ns=>.ok (D.int ns.sum) S|none=>.bad) h
 cases hb:(x8 d).bind xH with
 |none=>rw[hb] at h1;exact An h1
 |some ns =>
  rw[hb] at h1;obtain⟨xs,hx,hns⟩:=Ei.mp hb;exact⟨d,xs,ns,rfl,itV hx,hns,h1⟩
def aK (rv:qK (ns.map V.int) us){i:Ai}{v:Ad}(h:us.toArray[i]? = Aa v):∃ t,v=.int (ns.getD i 0) t:=by
 have hu:us[i]? = Aa v:=by simpa using h
 have hl:=rv.length;rw[Aq] at hl;have hi:i<us.length:=(Be.mp hu).1;have hn:i<ns.length:=by omega
 obtain⟨u,h1,h2⟩:=rv.get (i:=i) (x:=.int ns[i]) (by rw[Ds,Ap hn];rfl)
 cases h1.symm.trans hu;obtain⟨t,rfl⟩:=h2;exact⟨t,by simp[IH,hn]⟩
def T9 (hc:X.calm=true):yK X (.builtin "sum") rQ:=by
 intro pins σ H s P α S vs us ds Q I r rv rp af;obtain⟨d,xs,ns,ed,hd,hns,ok⟩:=PZ af;clear af;subst ed;obtain⟨v,u,rfl,rfl,p,q⟩:=yL rp rv;clear rp rv;have fin:∀ {o:Cs} (h':Bs) (tk t':Ai),(∀ b ob,b ∉ [s.heap.objs.size]→(s.heap.push o).get? b=Aa ob→h'.get? b=Aa ob)→EP X pins σ Q (.int (preSum (λi=>ns.getD i 0) ns.length) t') { s with heap:=h',toks:=tk }:=
  λ{o} h' tk t' k=>⟨.int _,H,dF I k,⟨t',rfl⟩,xr ok r (by simp only[Rep];rw[preSum_getD,List.take_length])⟩
 clear ok;have hh:X.A.in1.handled=none:=I.ok.hd hc;cases hd with
 |tup ed =>
  subst ed;obtain⟨a,ws,its,rfl,sq,t,rvi,ht,hl,_⟩:=uH I r p;cases (show u=Dc a from q)
  cases yN hns;cases wQ t;have hlen:its.toArray.size=ns.length:=by have:=rvi.length;rw[Aq] at this;rw[Bc,this]
  have hne:a≠s.heap.objs.size:=by obtain⟨o,e,_⟩:=ht;exact Cj (Ax e)
  have W:=Vw (prog:=X.prog) (w:=X.w) hh s.heap.objs.size a hne its.toArray;have hT:∀ o,(s.heap.push o).IsTuple a its.toArray:=λo=>by obtain⟨o,e,c⟩:=ht;exact⟨o,Ag _ e,c⟩
  have ht':s.heap.IsTuple a its.toArray:=ht;refine call_sum_walkG (Gh ht' ⟨s.heap.objs.size,_,_,_,_,_,λi=>ns.getD i 0,rfl,W,⟨⟨_,Bb _ rfl,rfl,rfl⟩,hT _⟩,?_,λi v h=>aK rvi h,λh' tk t' k=>?_⟩)
  ·intro b hb
   have:b<s.heap.objs.size+1:=by
    simp only[Aw,Cw,Fz] at hb;rcases hb with rfl|rfl
    ·exact Hs _
    ·obtain⟨o,e,_⟩:=ht
     exact II (Ax e)
   rw[Ea];exact this
  ·rw[hlen]
   exact fin h' tk t' k
 |lst ed =>
  subst ed;obtain⟨a,ws,its,n,rfl,sq,t,rvi,ht,hl,_⟩:=vC I r p;cases (show u=Dc a from q)
  cases yN hns;cases wQ t;have hL:s.heap.IsList a its.toArray:=⟨_,ht,rfl,n,rfl⟩;have hlen:its.toArray.size=ns.length:=by have:=rvi.length;rw[Aq] at this;rw[Bc,this]
  have hne:a≠s.heap.objs.size:=Cj (Ax ht);have W:=Ta (prog:=X.prog) (w:=X.w) hh s.heap.objs.size a hne its.toArray;have hL':∀ o,(s.heap.push o).IsList a its.toArray:=λo=>⟨_,Ag _ ht,rfl,n,rfl⟩;refine call_sum_walkG (Gb hL ⟨s.heap.objs.size,_,_,_,_,_,λi=>ns.getD i 0,rfl,W,⟨⟨_,Bb _ rfl,rfl,rfl⟩,hL' _⟩,?_,λi v h=>aK rvi h,λh' tk t' k=>?_⟩)
  ·intro b hb
   have:b<s.heap.objs.size+1:=by
    simp only[Aw,Cw,Fz] at hb;rcases hb with rfl|rfl
    ·exact Hs _
    ·exact II (Ax ht)
   rw[Ea];exact this
  ·rw[hlen]
   exact fin h' tk t' k
end
end _D
namespace _D
open PySem PySem.Spec PyProof.Rows _L PySem.SeqAt
section
variable {X:Cx}{pins:Ab (Af × Cs)}{σ : _L.St}{H P:Hp}{α : Ab Af}{S:Sto}{s:Ah}
inductive Same2 (X:Cx)(P:Hp)(α : Ab Af)(d d':D):Prop
 |eq (h:d=d')
 |tt (xs ys:Ab D) (its:Ab Ad) (ed:d=.tup xs) (ed':d'=.tup ys) (q:Seqs X P α xs ys its its)
 |ll (xs ys:Ab D) (its:Ab Ad) (ed:d=.lst xs) (ed':d'=.lst ys) (q:Seqs X P α xs ys its its)
def G6 {d d':D}{u:Ad}(k1:Kd X P α s d u)(k2:Kd X P α s d' u):Same2 X P α d d':=by
 cases k1 with
 |non=>cases k2;exact .eq rfl
 |bl b=>cases k2;exact .eq rfl
 |int i t=>cases k2;exact .eq rfl
 |str x t=>cases k2;exact .eq rfl
 |tup a xs its vs rp rv h q =>
  cases k2 with
  |tup _ ys its2 ws rp2 rv2 h2 q2 =>
   cases aP h h2;exact .tt xs ys its rfl rfl ⟨vs,ws,rp,rv,rp2,rv2⟩
  |lst _ ys its2 ws rp2 rv2 h2 q2=>exact(oT h h2).elim
 |lst a xs its vs rp rv h q =>
  cases k2 with
  |lst _ ys its2 ws rp2 rv2 h2 q2 =>
   cases aM h h2;exact .ll xs ys its rfl rfl ⟨vs,ws,rp,rv,rp2,rv2⟩
  |tup _ ys its2 ws rp2 rv2 h2 q2=>exact(oT h2 h).elim
def lZ (I:Inv X pins σ H s)(r:Rel X.K H P α S){m:Ai}(ih:∀ (d d' e:D) (u:Ad),pl m d=true→pl m d'=true→Kd X P α s d u→Kd X P α s d' u→eqD d e=eqD d' e){xs ys zs:Ab D}{its:Ab Ad}(h1:xs.all (pl m)=true)(h2:ys.all (pl m)=true)(q:Seqs X P α xs ys its its):xV xs zs=xV ys zs:=by
 obtain⟨vs,ws,rp,rv,rp2,rv2⟩:=q;have l1:=rp.length.trans rv.length;have l2:=rp2.length.trans rv2.length;rw[vK,vK,l1,l2]
 congr 1
 have key:∀ j∈Dq (min its.length zs.length),eqD (xs.getD j .non) (zs.getD j .non)=eqD (ys.getD j .non) (zs.getD j .non):=λj hj=>by
  have hj':=Em.mp hj;have hj:j<its.toArray.size:=by rw[Bc];omega
  obtain⟨w1,y1,z1,m1⟩:=yB rp rv hj;obtain⟨w2,y2,z2,m2⟩:=yB rp2 rv2 hj;exact ih _ _ _ _ (wT h1 m1) (wT h2 m2) (vF I r (wT h1 m1) y1 z1) (vF I r (wT h2 m2) y2 z2)
 rw[Bool.eq_iff_iff,Az,Az];exact⟨λh j hj=>(key j hj)▸h j hj,λh j hj=>(key j hj).symm▸h j hj⟩
def PP (I:Inv X pins σ H s)(r:Rel X.K H P α S):∀ (n:Ai) (d d' e:D) (u:Ad),pl n d=true→pl n d'=true→Kd X P α s d u→Kd X P α s d' u→eqD d e=eqD d' e:=by
 intro n
 induction n with
 |zero =>
  intro d d' e u h1 h2 k1 k2;cases G6 k1 k2 with
  |eq h=>rw[h]
  |tt _ _ _ ed=>subst ed;exact He h1
  |ll _ _ _ ed=>subst ed;exact He h1
 |succ m ih =>
  intro d d' e u h1 h2 k1 k2;cases G6 k1 k2 with
  |eq h=>rw[h]
  |tt xs ys its ed ed' q =>
   subst ed ed';cases e with
   |tup zs=>exact lZ I r ih h1 h2 q
   |_=>rfl
  |ll xs ys its ed ed' q =>
   subst ed ed';cases e with
   |lst zs=>exact lZ I r ih h1 h2 q
   |_=>rfl
open Classical in
def eOf (X:Cx)(P:Hp)(α : Ab Af)(s:Ah)(xs:Ab D)(d:D)(y:Ad):Ar:=if h:∃ z,z∈xs∧Kd X P α s z y then eqD (Mq h) d else false
def ZY (I:Inv X pins σ H s)(r:Rel X.K H P α S){n:Ai}{xs:Ab D}{vs:Ab V}{its:Ab Ad}{d:D}(h:xs.all (pl n)=true)(rp:qF X.K P α xs vs)(rv:qK vs its){j:Ai}(hj:j<its.length):∃ z,z∈xs∧Kd X P α s z its[j]∧eOf X P α s xs d its[j]=eqD z d∧eqD z d=eqD (xs.getD j .non) d:=by
 obtain⟨w,y,z,m⟩:=yB rp rv (j:=j) (by rw[Bc];exact hj)
 have k:=vF I r (wT h m) y z;have ex:∃ z,z∈xs∧Kd X P α s z its[j]:=⟨_,m,k⟩;have hs:=Mr ex;refine⟨Mq ex,hs.1,hs.2,?_,PP I r n _ _ d _ (wT h hs.1) (wT h m) hs.2 k⟩;unfold eOf;rw[dif_pos ex]
def PM (I:Inv X pins σ H s)(r:Rel X.K H P α S){n:Ai}{xs:Ab D}{vs:Ab V}{its:Ab Ad}{d:D}(h:xs.all (pl n)=true)(rp:qF X.K P α xs vs)(rv:qK vs its):its.map (eOf X P α s xs d)=xs.map λx=>eqD x d:=by
 have l:=rp.length.trans rv.length;refine Ms (by rw[Aq,Aq,l]) λj h1 h2=>?_
 rw[Aq] at h1 h2;rw[Wa,Wa];obtain⟨z,_,_,e1,e2⟩:=ZY (d:=d) I r h rp rv h1;rw[e1,e2];simp[IH,h2]
def NF (I:Inv X pins σ H s)(r:Rel X.K H P α S){n:Ai}{A:By}{xs:Ab D}{vs:Ab V}{its:Ab Ad}{d:D}{v:V}{u:Ad}(hu:A.units+n<Fi)(h:xs.all (pl n)=true)(hd:pl n d=true)(rp:qF X.K P α xs vs)(rv:qK vs its)(p:Rep X.K P α d v)(q:qL v u):∀ y,y∈its.toArray→EqAt A s y u (eOf X P α s xs d y):=λy hy=>by
 obtain⟨j,hj,rfl⟩:=Cg.mp (show y∈its by simpa using hy)
 obtain⟨z,hz,k,e1,_⟩:=ZY (d:=d) I r h rp rv hj;rw[e1];exact(rJ I r n A z d _ u hu (wT h hz) hd k (vF I r hd p q)).eq
end
section
variable {X:Cx}
def yZ:D→Ab D→Sto→Res D:=λa ds S=>match a,ds with
 |.lst xs,[d]=>if xs.all (pl xM)&&pl xM d then .ok (.int (xs.countP (λx=>eqD x d):Ai)) S else .bad
 |_,_=>.bad
inductive CpV (a:D)(ds:Ab D)(S:Sto):Prop
 |bad (e:yZ a ds S=.bad)
 |of (xs:Ab D) (d:D) (ea:a=.lst xs) (ed:ds=[d])
def cpV (a:D)(ds:Ab D)(S:Sto):CpV a ds S:=by
 cases a with
 |lst xs =>
  cases ds with
  |nil=>exact .bad rfl
  |cons d ds =>
   cases ds with
   |cons _ _=>exact .bad rfl
   |nil=>exact .of xs d rfl rfl
 |_=>exact .bad rfl
def pT {β : Type}(f:β→Ar)(l:Ab β) : (l.map f).countP id=l.countP f:=by
 rw[Nc];rfl
def XV (hu:X.A.units+64<Fi):MtD X "list.count" yZ:=by
 intro pins σ H s P α S v vv vs us a ds Q I r rv p rvs rps af;cases cpV a ds S with
 |bad e=>rw[e] at af;exact An af
 |of xs d ea ed =>
  subst ea ed;obtain⟨hc,af1⟩:=j7 (X:=X) af;clear af;have hc':=Eu.mp hc;obtain⟨vx,ux,rfl,rfl,px,qx⟩:=yL rps rvs;obtain⟨b,ws,its,n,rfl,sq,t,rvi,ht,hl,_⟩:=vC I r p;cases (show vv=Dc b from rv)
  refine Lu Kz ⟨_,ht,rfl⟩ Pb (OQ _ _) (Pc b its.toArray n none #[] ux (eOf X P α s xs d)) ⟨ht,NF I r (n:=xM) (by show X.A.units+1+xM<Fi;unfold xM;omega) hc'.1 hc'.2 t rvi px qx,?_⟩
  refine⟨.int _,H,I.tok _,⟨_,rfl⟩,?_⟩;have e:=congrArg (λl=>l.countP id) (PM (d:=d) I r hc'.1 t rvi);have e':its.countP (eOf X P α s xs d)=xs.countP λx=>eqD x d:=(pT _ _).symm.trans (e.trans (pT _ _));rw[show its.toArray.toList=its from rfl,e']
  exact xr af1 r (by simp only[Rep])
end
end _D
namespace _D
open PySem PySem.Spec PyProof.Rows _L
variable {Fs:Ab (Ai × DF)}
section
variable {K:Ak}{H P:Hp}{α : Ab Af}{S:Sto}
def Rel.still {a:Af}{n:Ai}{m:MO}{o:HO}(r:Rel K H P α S)(ha:α[n]? = Aa a)(hs:S[n]? = Aa m)(hd:m≠.dead):Rel K (upd H a o) (upd P a o) α (S.set n .dead)∧qH P (upd P a o):=by
 have hP:=r.sep n a m ha hs hd;have sP:qH P (upd P a o):=pK hP;have r1:=r.put (o:=o) (m':=.dead) ha hs hd trivial;have hn:n<S.length:=(Be.mp hs).1;refine⟨⟨λb u e=>?_,r1.len,r1.nd,λi b u q1 q2 q3=>?_,λi b u q1 q2=>(r1.at' i b u q1 q2).mono sP (Bn _),r1.own⟩,sP⟩
 ·by_cases hb:b=a
  ·subst hb;rw[zE] at e ⊢;exact e
  ·rw[qR hb] at e ⊢;exact r.sub _ _ e
 ·have hb:b≠a:=by
   rintro rfl;have:=dI r.nd q1 ha;subst this;rw[Ec hn] at q2;cases q2;exact q3 rfl
  rw[qR hb];exact r1.sep i b u q1 q2 q3
end
def AW (f:DE):DI:=λenv S=>(f env S).bind λd S1=>match d with
 |.loc n=>match S1[n]? with
  |some (.dct kvs)=>.ok (kvs.map (·.2)) (S1.set n .dead)
  |_=>.bad
 |_=>.bad
def aY {K:Ak}{P:Hp}{α:Ab Af}:∀ {kvs:Ab (Key × D)} {vs:Ab (Key × V)},KVs K P α kvs vs→qF K P α (kvs.map (·.2)) (vs.map (·.2))
 |_,_,.nil=>.nil
 |_,_,.cons z t=>.cons z.2 (aY t)
section
variable {X:Cx}{tg o:Bw}{fo:DE}{apos cpos:Fh}
def Y9 {S:Sto}{n:Ai}{kvs:Ab (Key × D)}(h:S[n]? = Aa (.dct kvs)):tyD (.loc n) S=Aa "dict":=by
 show (match S[n]? with|some (.lst _)=>Aa "list" | some (.dct _)=>Aa "dict" | _=>none)=_
 rw[h]
end
section
variable {X:Cx}
def f8:G2:=λa b S=>match a,b with
 |.lst xs,.int k=>if 0≤k∧k<2 ^ 62∧xs.length*k.toNat≤lim then .ok (.lst (Dm k.toNat xs).flatten) S else .bad
 |_,_=>xZ a b S
def hJ {K:Ak}{P:Hp}{α:Ab Af}{ds:Ab D}{vs:Ab V}(r:qF K P α ds vs):∀ k:Ai,qF K P α (Dm k ds).flatten (Dm k vs).flatten
 |0=>by simpa using qF.nil
 |k+1=>by
  rw[Hj,Hj,IF,IF];exact r.append (hJ r k)
inductive MulV (a b:D)(S:Sto):Prop
 |old (e:f8 a b S=xZ a b S)
 |of (xs:Ab D) (k:Aj) (ea:a=.lst xs) (eb:b=.int k)
def CV (a b:D)(S:Sto):MulV a b S:=by
 cases a with
 |lst xs=>cases b with
  |int k=>exact .of xs k rfl rfl
  |_=>exact .old rfl
 |_=>exact .old rfl
def BZ:OpD X (Ev .Mult) f8:=by
 intro pins σ H s P α S v u vv uu a b Q I r rv ru pa pb af;cases CV a b S with
 |old e =>
  rw[e] at af;exact iB pins σ H s P α S v u vv uu a b Q I r rv ru pa pb af
 |of xs k ea eb =>
  subst ea eb;obtain⟨hk,af⟩:=j7 (X:=X) af;obtain⟨h1,h2,hz⟩:=hk;obtain⟨l,vs,its,n,rfl,q1,t1,rv1,e,l1,_⟩:=vC I r pa;cases (show vv=Dc l from rv)
  have:=wK pb;subst this;obtain⟨t,rfl⟩:=ru;have hl:its.length=vs.length:=rv1.length.symm;have hlen:its.toArray.size*k.toNat≤sizeLine:=by rw[Bc,← l1,← xP];exact hz
  have hcap:¬ its.toArray.size*k.toNat>(2 ^ 63-1)/8:=by
   have:(sizeLine:Ai)≤(2 ^ 63-1)/8:=by decide
   omega
  have hfit:¬ (!Builtin.List.listFitsIndex k)=true:=by
   rw[fitsIndex_both om om];exact Gz
  have hlong:¬ Kr (its.toArray.size*k.toNat)=true:=by
   rw[UJ hlen];exact Gz
  have hnew:Wz (λx1 x2=>x1++x2) #[] (Dm (if its.toArray.isEmpty=true then 0 else k.toNat) its.toArray)=(Dm k.toNat its).flatten.toArray:=by
   have f0:∀ m:Ai,Wz (λx1 x2=>x1++x2) #[] (Dm m its.toArray)=(Dm m its).flatten.toArray:=λm=>by
    have:=d9 its m [];rw[Jh] at this;exact this
   rw[f0];cases its with
   |nil=>simp
   |cons a r'=>rw[Bf (by simp)]
  refine wpAny_binaryOp_repeat_ref (T:="list") (U:="int") (by decide) ⟨_,e,rfl⟩ (λs'=>Wy s' k t) noFill_list_mul F.fills_int_mul Wp repeat_list F.slot_int_index.lookup
   (Lu Wp (Wy s k t) F.entry_int_rmul (F.args_int_rmul_2 _ _) (int___rmul___int_list k t l its.toArray n)
    ⟨e,rfl,⟨_,e,rfl⟩,Lu F.slot_list_mul ⟨_,e,rfl⟩ F.entry_list_mul (F.args_list_mul_2 _ _) (AutoListH.list___mul___list_int_3 l its.toArray n k t hfit hcap hlong) ⟨e,?_⟩⟩)
  rw[hnew];exact eE I r (hJ t1 k.toNat) (rv1.rep k.toNat) (by rw[BQ,Nat.mul_comm];exact hz) af
def K0 (X:Cx)(cm:Ar)(k:Ai)(f:Af)(p:Ai × DF):Prop:=∃ fd ps,En X.K (.ref f)=true∧vW X.K fd ps [] ∧ FnX X.prog X.w X.K X.mg X.base cm k f fd ps (spD X.K p.1 p.2)
inductive TabL (X:Cx)(cm:Ar)(k:Ai):Ab Bw→Ab (Ai × DF)→Prop
 |nil:TabL X cm k [] []
 |cons {x:As} {p:Fh} {n:Ai} {F:DF} {es:Ab Bw} {Fs:Ab (Ai × DF)}:Def X.prog X.w X.K X.mg X.base cm k x n F→Gl X x→(x == ("__debug__" : As))=false→TabL X cm k es Fs→TabL X cm k (.Name x p::es) ((n,F)::Fs)
def flA:Ab Af→DA
 |[]=>qC
 |f::fs=>qA (dC (.obj f)) (flA fs)
def NI (fs:Ab Af)(env:qD)(S:Sto):flA fs env S=.ok (fs.map D.obj) S:=by
 induction fs with
 |nil=>rfl
 |cons f fs ih=>simp[flA,qA,dC,Res.bind,ih]
def ST {cm:Ar}{k:Ai}{es:Ab Bw}(h:TabL X cm k es Fs):∃ fs,PA X es (tDA X (flA fs))∧fs.length=Fs.length∧∀ (i:Ai) (p:Ai × DF),Fs[i]? = Aa p→∃ f,fs[i]? = Aa f∧K0 X cm k f p:=by
 induction h with
 |nil=>exact⟨[],ZT,rfl,λi p e=>by simp at e⟩
 |@cons x p n F es Fs G hg hd _ ih =>
  obtain⟨fs,h1,h2,h3⟩:=ih;obtain⟨f,fd,ps,hn,hm,kp,hb,hl,G⟩:=G;refine⟨f::fs,cY (ZV hg hm kp hd) h1,by simp[h2],λi q e=>?_⟩
  cases i with
  |zero =>
   simp at e;subst e;exact⟨f,rfl,fd,ps,kp,hb,G⟩
  |succ i =>
   obtain⟨f',e1,e2⟩:=h3 i q (by simpa using e)
   exact⟨f',by simpa using e1,e2⟩
def nE (Fs:Ab (Ai × DF))(fi:DE)(fa:DA):DE:=λenv S=>(fi env S).bind λd S1=>match d with
 |.int k=>match atI Fs k with
  |some p=>(fa env S1).bind λds S2=>if ds.length=p.1 then p.2 ds S2 else .bad
  |none=>.bad
 |_=>.bad
inductive TabR (X:Cx)(cm:Ar)(k:Ai)(P:Hp)(α : Ab Af)(Q:VK)(fa:DA)(env:qD)(v:V)(H1:Hp):Prop
 |mk (P1:Hp) (α1:Ab Af) (S1:Sto) (f:Af) (p:Ai × DF) (r:Rel X.K H1 P1 α1 S1) (e1:qH P P1) (e2:α<+:α1) (hv:v=.ref f) (g:K0 X cm k f p) (af:qI X P α ((fa env S1).bind λds S2=>if ds.length=p.1 then p.2 ds S2 else .bad) (OkV X P α Q)):TabR X cm k P α Q fa env v H1
def TW {cm:Ar}{k:Ai}{es:Ab Bw}{ie e:Bw}{rest:Ab Bw}{lp sp pos:Fh}{fi:DE}{fa:DA}(T:TabL X cm k es Fs)(hr:RoomC cm k X.A)(hF:Fn1 X)(hl:Fs.length≤lim)(hi:PE X ie (tD X fi))(ha:PA X (e::rest) (tDA X fa))(hs:jK ie:=by intro _ _;rfl)
  (he:Bd (e::rest) X.env=(false,eval e X.env)::Bd rest X.env:=by rfl) (hpl:(Fu pos (Bd rest X.env)).any (·.1)=false:=by rfl):PE X (.Call (.Subscript (.List es lp) ie sp) (e::rest) [] pos) (tD X (nE Fs fi fa)):=by
 obtain⟨fs,hpa,hfl,hgood⟩:=ST T;have key:PE X (.Subscript (.List es lp) ie sp) (tD X (d2 gIx (zQ (flA fs)) fi)):=K4 NQ (ZW hpa) hi hs;intro pins s σ H Q I h;obtain⟨P,α,env,S,r,re,af⟩:=h;refine Call_ (thn (key pins s σ H (TabR X cm k P α Q fa env) I ⟨P,α,env,S,r,re,?_⟩) λvv s1 ⟨v,H1,I1,rv,P1,α1,S1,f,p,r1,e1,e2,hv,⟨fd,ps,kp,hb,G⟩,af1⟩=>?_)
 ·have hll:(fs.map D.obj).length≤lim:=by rw[Aq,hfl];exact hl
  have ev:d2 gIx (zQ (flA fs)) fi env S=(fi env S).bind λy S2=>gIx (.lst (fs.map D.obj)) y S2:=by
   simp only[d2,zQ,NI,Res.bind,hll,Dk]
  rw[ev];unfold nE at af;cases q:fi env S with
  |bad=>rw[q] at af;exact af
  |ex c x S'=>rw[q] at af;exact af
  |ok d S1 =>
   rw[q] at af;simp only[Res.bind] at af ⊢;cases d with
   |int kk =>
    simp only at af;cases hp:atI Fs kk with
    |none=>rw[hp] at af;exact An af
    |some p =>
     rw[hp] at af;unfold atI at hp;cases hj:ixN Fs.length kk with
     |none=>rw[hj] at hp;cases hp
     |some j =>
      rw[hj] at hp;obtain⟨f,ef,gf⟩:=hgood j p hp;have ea:atI (fs.map D.obj) kk=Aa (.obj f):=by
       unfold atI;rw[Aq,hfl,hj];simp[ef]
      simp only[gIx,ea,vA];intro v H' P' α' r' e1 e2 rp;simp only[Rep] at rp;exact⟨P',α',S1,f,p,r',e1,e2,rp.1,gf,af⟩
   |_=>exact An af
 ·subst hv
  cases (show vv=Dc f from rv)
  refine Kt (h₀:=X.base) I.ok.mod.kin kp (thn (wV ha I1 r1 (re.mono e1 e2) (qI.base' e1 e2 (λd S ok v H' P' α' r' q1 q2 q3=>ok v H' P' α' r' (e1.trans q1) (e2.trans q2) q3) af1) pos) λus s2 ⟨vs,H2,P2,α2,ds,S2,I2,rv2,r2,re2,rp,e3,e4,af2⟩=>⟨I2.kIn,?_⟩) he hpl;have af3:qI X P1 α1 (if ds.length=p.1 then p.2 ds S2 else .bad) (OkV X P1 α1 Q):=af2
  by_cases hn:ds.length=p.1
  ·rw[Bi hn] at af3
   exact lL G hr hb hF I2 r2 rv2 rp hn (zA.base e3 e4 af3)
  ·rw[Bf hn] at af3;exact An af3
def YO:Ge "set" = Aa (.type "set"):=by decide +kernel
variable {e:Bw}{fa:DE}{p1 p2 pos1 pos2:Fh}
end
structure QI2 (X:Cx)(tg it:Bw)(f:DI2):Prop where
 get:PI X tg it (tDI2 X f)
structure QK (Y:Cx)(step:Ad→Kb Pk)(k:DK):Prop where
 get:PK Y step k
structure ZTab (X:Cx)(cm:Ar)(k:Ai)(es:Ab Bw)(Fs:Ab (Ai × DF)):Prop where
 get:TabL X cm k es Fs
section
variable {X Y:Cx}{tg it e o elt iter ie:Bw}{es ifs rest:Ab Bw}{fa fo fe fi:DE}{fA:DA}{fI:DI}{f2:DI2}{g:DG}{t:DT}{kk:DK}{p pos:Fh}{n k:Ai}{x:As}{cm:Ar}{F:DF}{f:DS}{gens grest:Ab Fp}{scope:Gu}{N':Ab As}{cap:Ab (Am Ai)}{mm:Ar}
def DY (h:QI X tg it fI):QI2 X tg it (xS fI):=⟨P9 h.1⟩
def DX (h:QE X e fa):QI2 X tg e (dIt fa):=⟨RK h.1⟩
def FM {e1:Bw}{elts:Ab Bw}{x1:Ai}{tpos:Fh}(hg:Gl X "enumerate")(hm:X.mg "enumerate" = none)(ha:QA X [e1] fA)(hs:Bd [e1] X.env=(false,eval e1 X.env)::Bd [] X.env:=by rfl)(hpl:(Fu pos (Bd [] X.env)).any (·.1)=false:=by rfl) :
  QI X (.Tuple elts x1 tpos) (.Call (.Name "enumerate" p) [e1] [] pos) (oG fA):=⟨P8 hg hm ha.1 hs hpl⟩
def FN (hx:Y.xe=λ_ _=>Fn)(hlast:gens[k+1]? = none)(he:QE Y elt fe):QK Y (λacc=>wD elt gens scope pos k acc Y.env) (qY fe):=⟨FA hx hlast he.1⟩
def UT (hc:X.calm=true)(S:CompSc X.env.scope X.N scope N' cap)(hi:QI2 X tg iter f2)(hg:∀ cl C ex s₀ H₀,QG (zF X N' scope cl C ex s₀ H₀) tg g)(ht:∀ cl C ex s₀ H₀,QTs (zF X N' scope cl C ex s₀ H₀) ifs t)
  (has:∀ g',(⟨tg,iter,ifs,0⟩::grest:Ab Fp)[0+1]? = Aa g'→g'.is_async=0)
  (he:∀ cl C ex s₀ H₀,QK (zF X N' scope cl C ex s₀ H₀) (λacc=>wD elt (⟨tg,iter,ifs,0⟩::grest) scope pos 0 acc (zF X N' scope cl C ex s₀ H₀).env) kk) (hs:∀ x,Ga iter X.env x=pure x) :
  QE X (.ListComp elt (⟨tg,iter,ifs,0⟩::grest) scope pos) (qS mm cap f2 g t kk):=
 ⟨V9 hc S hi.1 (λcl C ex s H=>(hg cl C ex s H).1) (λcl C ex s H=>(ht cl C ex s H).1) has (λcl C ex s H=>(he cl C ex s H).1) hs⟩
def UX {m:Ai}{y:As}{py spos:Fh}(hc:X.calm=true)(hN:X.N.Nodup)(S:CompSc X.env.scope X.N scope N' cap)(hi:QI2 X tg iter f2)(hg:∀ cl C ex s₀ H₀,QG (zF X N' scope cl C ex s₀ H₀) tg g)(ht:∀ cl C ex s₀ H₀,QTs (zF X N' scope cl C ex s₀ H₀) ifs t)
  (has:∀ g',(⟨tg,iter,ifs,0⟩::grest:Ab Fp)[0+1]? = Aa g'→g'.is_async=0)
  (he:∀ cl C ex s₀ H₀,QK (zF X N' scope cl C ex s₀ H₀) (λacc=>wD elt (⟨tg,iter,ifs,0⟩::grest) scope pos 0 acc (zF X N' scope cl C ex s₀ H₀).env) kk) (hy:X.N[m]? = Aa y) (hyl:Loc X.env.scope y) (hf:X.fn y=true∨X.env.scope.names.lookup y=Aa .local)
  (hsw:Lm (.ListComp elt (⟨tg,iter,ifs,0⟩::grest) scope pos) (Aa (.Name y py)) spos.line X.env=pure true) (hs:∀ x,Ga iter X.env x=pure x):QS X (.Assign [.Name y py] (.ListComp elt (⟨tg,iter,ifs,0⟩::grest) scope pos) spos) (zB (qS mm cap f2 g t kk) (gNm m)):=
 ⟨VG hc hN S hi.1 (λcl C ex s H=>(hg cl C ex s H).1) (λcl C ex s H=>(ht cl C ex s H).1) has (λcl C ex s H=>(he cl C ex s H).1) hy hyl hf hsw hs⟩
def JY:ZTab X cm k [] []:=⟨.nil⟩
def YE (G:Def X.prog X.w X.K X.mg X.base cm k x n F)(hg:Gl X x)(hd:(x == ("__debug__" : As))=false)(h:ZTab X cm k es Fs):ZTab X cm k (.Name x p::es) ((n,F)::Fs):=⟨.cons G hg hd h.1⟩
def DR {lp sp:Fh}(T:ZTab X cm k es Fs)(hr:RoomC cm k X.A)(hF:Fn1 X)(hl:Fs.length≤lim)(hi:QE X ie fi)(ha:QA X (e::rest) fA)(hs:jK ie:=by intro _ _;rfl)
  (he:Bd (e::rest) X.env=(false,eval e X.env)::Bd rest X.env:=by rfl) (hpl:(Fu pos (Bd rest X.env)).any (·.1)=false:=by rfl):QE X (.Call (.Subscript (.List es lp) ie sp) (e::rest) [] pos) (nE Fs fi fA):=⟨TW T.1 hr hF hl hi.1 ha.1 hs he hpl⟩
def JT:ZMt X "dict.setdefault" wX:=⟨XW⟩
def HI (hr:RoomC cm k X.A):ZOp X (Dj .Lt) mC:=⟨LG (by have:=hu1 hr;omega)⟩
def R8:ZOp X (Ev .Mult) f8:=⟨BZ⟩
end
def vQ (H:Hp):Ab (Af × HO)→Hp
 |[]=>H
 |p::ps=>vQ (upd H p.1 p.2) ps
def fP {b:Af}:∀ {L:Ab (Af × HO)} {H:Hp},b ∉ L.map (·.1)→vQ H L b=H b
 |[],_,_=>rfl
 |p::ps,H,h=>by
  simp only[Dy,Aw,To] at h;show vQ (upd H p.1 p.2) ps b=H b;rw[fP h.2,qR h.1]
def cC {a:Af}{o:HO}:∀ {L:Ab (Af × HO)} {H:Hp},(L.map (·.1)).Nodup→(a,o)∈L→vQ H L a=Aa o
 |p::ps,H,nd,h=>by
  simp only[Dy,ID] at nd;show vQ (upd H p.1 p.2) ps a=Aa o;rcases Aw.mp h with rfl|h
  ·rw[fP nd.1,zE]
  ·exact cC nd.2 h
def cB {b:Af}{u:HO}:∀ {L:Ab (Af × HO)} {H:Hp},vQ H L b=Aa u→(b,u)∈L∨H b=Aa u
 |[],_,h=>.inr h
 |p::ps,H,h=>by
  rcases cB (L:=ps) (H:=upd H p.1 p.2) h with h|h
  ·exact .inl (Bq _ h)
  ·by_cases hb:b=p.1
   ·subst hb
    rw[zE] at h;cases h;exact .inl (Df ..)
   ·rw[qR hb] at h
    exact .inr h
section
variable {K:Ak}
def Rel.pureL {α:Ab Af}{S:Sto}:∀ {L:Ab (Af × HO)} {H P:Hp},(∀ p∈L,H p.1=none)→(L.map (·.1)).Nodup→Rel K H P α S→Rel K (vQ H L) (vQ P L) α S∧qH P (vQ P L)
 |[],_,_,_,_,r=>⟨r,qH.refl _⟩
 |p::ps,H,P,hn,nd,r=>by
  simp only[Dy,ID] at nd;obtain⟨r1,e1⟩:=r.pure (o:=p.2) (hn p (Df ..));obtain⟨r2,e2⟩:=Rel.pureL (L:=ps) (λq hq=>by
   have:q.1≠p.1:=λe=>nd.1 (e▸Dl.mpr ⟨q,hq,rfl⟩);rw[qR this];exact hn q (Bq _ hq)) nd.2 r1
  exact⟨r2,e1.trans e2⟩
end
section
variable {X:Cx}{pins:Ab (Af × Cs)}{σ : _L.St}{H:Hp}{s:Ah}
def Inv.laidL {L:Ab (Af × HO)}{h':Bs}{t':Ai}(I:Inv X pins σ H s)(k:∀ b u,s.heap.get? b=Aa u→h'.get? b=Aa u)(hp:∀ p∈L,s.heap.objs.size≤p.1)(new:∀ p∈L,zT X.prog X.w (vQ H L) h' p.1 p.2) :
  Inv X pins σ (vQ H L) { s with heap:=h',toks:=t' }:=by
 have old:∀ b u,H b=Aa u→vQ H L b=Aa u:=λb u e=>by
  rw[fP (L:=L)]
  ·exact e
  ·intro hb
   obtain⟨p,hp',rfl⟩:=Dl.mp hb;rw[I.hok.fresh (hp p hp')] at e;cases e
 have low:∀ b,b<s.heap.objs.size→vQ H L b=H b:=λb hb=>fP λhm=>by
  obtain⟨p,hp',rfl⟩:=Dl.mp hm;exact absurd (Bv hb (hp p hp')) (Er _)
 refine I.un ⟨λb u q _ _ _=>k b u q,λb u q _ _ _=>⟨u.slots,k b u q⟩,λb u q n _=>by rw[low b (Ax q)];exact n,λb u q _=>⟨u,k b u q⟩,λb xs q=>old b _ q,λb o xs q=>old b _ q,λb ps q=>⟨#[],by rw[old b _ q];simp⟩⟩ λb u e=>?_
 rcases cB e with hm|hb
 ·exact new (b,u) hm
 ·exact(I.hok b u hb).stay (λc v _ q=>k c v q) (λc q=>old c _ q) λc xs q=>old c _ q
end
def kD:Key→D
 |.inl i=>.int i
 |.inr x=>.str x
def NR {K:Ak}{P:Hp}{α:Ab Af}(k:Key):Rep K P α (kD k) (kV k):=by
 cases k <;> simp only[kD,kV,Rep]
def RZ {k:Key}{u:Ad}(h:gZ k u=true):qL (kV k) u:=by
 rcases xJ h with⟨i,t,rfl,rfl⟩|⟨x,t,rfl,rfl⟩
 ·exact⟨t,rfl⟩
 ·exact⟨t,rfl⟩
def XJ {κ:Type}:∀ {vs:Ab (κ × V)} {us:Ab (κ × Ad)},KV vs us→∀ {j:Ai} {q:κ × V},vs[j]? = Aa q→∃ u,us[j]? = Aa (q.1,u)∧qL q.2 u
 |_,_,.nil,j,q,h=>by simp at h
 |_,_,.cons (a:=x) (b:=y) z t,j,q,h=>by
  cases j with
  |zero =>
   simp at h;subst h;exact⟨y.2,by simp;exact Yn z.1.symm rfl,z.2⟩
  |succ j =>
   obtain⟨u,e1,e2⟩:=XJ t (j:=j) (q:=q) (by simpa using h)
   exact⟨u,by simpa using e1,e2⟩
section
variable {X:Cx}{cm:Ar}{k:Ai}
def HR (hc:X.calm=true):ZCall X (.builtin "sum") rQ:=⟨T9 hc⟩
def JS (hr:RoomC cm k X.A):ZMt X "list.count" yZ:=⟨XV hr.units⟩
end
end _D
namespace _S
open PySem
variable {mask:Ai}{xs:Ay Ai}
def Rs (xs:Ay Ai):Prop:=xs.toList.Pairwise (· < ·)
def Rs.lt (h:Rs xs){a b:Ai}{x y:Ai}(hab:a<b)(ha:xs[a]? = Aa x)(hb:xs[b]? = Aa y):x<y:=by
 obtain⟨h1,e1⟩:=Dw.mp ha;obtain⟨h2,e2⟩:=Dw.mp hb;have:=IJ.mp h a b (by simpa using h1) (by simpa using h2) hab
 rw[← e1,← e2];simpa using this
def getD_some {i x d:Ai}(h:xs[i]? = Aa x):xs.getD i d=x:=by
 obtain⟨h1,e1⟩:=Dw.mp h;simp[Gr,h1,e1]
structure Bel (xs:Ay Ai)(j p:Ai):Prop where
 le:p≤xs.size
 lo:∀ i x,i<p→xs[i]? = Aa x→x<j
 hi:∀ i x,p≤i→xs[i]? = Aa x→j≤x
set_option tactic.hygienic true in
def m6 (h:Rs xs)(j:Ai):∀ (fuel lo hi:Ai),hi-lo≤fuel→lo≤hi→hi≤xs.size →
  (∀ i x,i<lo→xs[i]? = Aa x→x<j)→(∀ i x,hi≤i→xs[i]? = Aa x→j≤x)→Bel xs j (Ve xs j fuel lo hi)
 |0,lo,hi,h1,h2,h3,h4,h5=>by
  have:lo=hi:=by omega
  subst this;exact⟨h3,h4,h5⟩
 |fuel+1,lo,hi,h1,h2,h3,h4,h5=>by
  unfold Ve;by_cases hlt:lo<hi
  ·rw[Bi hlt]
   have hm:(lo+hi)/2<xs.size:=by omega
   have e:xs[(lo+hi)/2]? = Aa xs[(lo+hi)/2]:=DL hm;simp only[getD_some e]
   split
   ·rename_i hc
    refine m6 h j fuel _ hi (by omega) (by omega) h3 (λi x hi' ex=>?_) h5
    by_cases q:i=(lo+hi)/2
    ·subst q;rw[e] at ex;cases ex;exact hc
    ·exact Kx (h.lt (by omega) ex e) hc
   ·rename_i hc
    refine m6 h j fuel lo _ (by omega) (by omega) (by omega) h4 (λi x hi' ex=>?_)
    by_cases q:i=(lo+hi)/2
    ·subst q;rw[e] at ex;cases ex;omega
    ·have:=h.lt (show (lo+hi)/2<i by omega) e ex
     omega
  ·rw[Bf hlt]
   have:lo=hi:=by omega
   subst this;exact⟨h3,h4,h5⟩
def jU (h:Rs xs)(j:Ai):Bel xs j (Ca xs j):=
 m6 h j _ _ _ (by omega) (by omega) (Av _) (λi x hi=>by omega) λi x hi ex=>by
  have:=(Dw.mp ex).1;omega
def m5 (h:Rs xs){i j:Ai}(e:xs[i]? = Aa j):Ca xs j=i:=by
 have b:=jU h j;have hi:=(Dw.mp e).1;by_cases h1:Ca xs j<i
 ·have e2:xs[Ca xs j]? = Aa xs[Ca xs j]:=DL (by omega)
  have:=h.lt h1 e2 e;have:=b.hi _ _ (Av _) e2;omega
 ·by_cases h2:i<Ca xs j
  ·have:=b.lo _ _ h2 e
   omega
  ·omega
def oB (h:Rs xs){i j:Ai}(e:xs[i]? = Aa j):Ca xs (j+1)=i+1:=by
 have b:=jU h (j+1);have hi:=(Dw.mp e).1;have h1:i<Ca xs (j+1):=by
  apply Fq;intro q;have:=b.hi _ _ (by omega) e
  omega
 by_cases h2:i+1<Ca xs (j+1)
 ·have hz:i+1<xs.size:=by have:=b.le;omega
  have e2:xs[i+1]? = Aa xs[i+1]:=DL hz;have:=b.lo _ _ h2 e2;have:=h.lt (Hs i) e e2;omega
 ·omega
def oC (h:Rs xs):Ca xs 0=0:=by
 have b:=jU h 0;apply Fq;intro q;have hz:0<xs.size:=by have:=b.le;omega
 have e2:xs[0]? = Aa xs[0]:=DL hz;have:=b.lo _ _ (by omega) e2
 omega
structure Tb (t:Ft):Prop where
 rs:Rs t.place
 dm:t.dummies=#[]
def aH (j:Ai):Uk #[] j=false:=by simp[Uk]
def dR {t:Ft}(T:Tb t){i j:Ai}(e:t.place[i]? = Aa j):t.slot j=.live i:=by
 unfold Xz;simp only[m5 T.rs e,e];simp
def QL {t:Ft}(T:Tb t)(j:Ai):(∃ i,t.slot j=.live i∧t.place[i]? = Aa j)∨(t.slot j=.empty∧j ∉ t.place.toList):=by
 by_cases h:j∈t.place.toList
 ·obtain⟨i,hi,e⟩:=Cg.mp h
  have e':t.place[i]? = Aa j:=by rw[← Bj,Ap hi,e]
  exact .inl ⟨i,dR T e',e'⟩
 ·refine .inr ⟨?_,h⟩
  unfold Xz;simp only[T.dm,aH];rw[Bf,Bf (by simp)]
  intro q;apply h;have:t.place[Ca t.place j]? = Aa j:=by simpa using q
  obtain⟨h1,e1⟩:=Dw.mp this;rw[← e1];simp
def Y2 (h:Rs xs){j:Ai}(hj:j ∉ xs.toList):Rs (Bx xs (Ca xs j) j):=by
 have b:=jU h j;unfold Rs;rw[Pe];have key:∀ (i:Ai) (x:Ai),xs.toList[i]? = Aa x→(i<Ca xs j→x<j)∧(Ca xs j≤i→j<x):=λi x e=>by
  have e':xs[i]? = Aa x:=by rw[← Bj];exact e
  refine⟨λq=>b.lo _ _ q e',λq=>?_⟩;have h1:=b.hi _ _ q e';have:x≠j:=by
   rintro rfl;exact hj (Cf e)
  omega
 have tk:∀ x∈xs.toList.take (Ca xs j),x<j:=λx hx=>by
  obtain⟨i,hi,e⟩:=Cg.mp hx;rw[Ee] at hi;rw[OT] at e;exact(key i x (by rw[Ap (by omega),e])).1 (by omega)
 have dr:∀ x∈xs.toList.drop (Ca xs j),j<x:=λx hx=>by
  obtain⟨i,hi,e⟩:=Cg.mp hx;rw[Hr] at hi;rw[OU] at e;exact(key (Ca xs j+i) x (by rw[Ap (by omega),e])).2 (by omega)
 rw[Ed,Ez];refine⟨Yz h,⟨dr,Za h⟩,λx hx y hy=>?_⟩;rcases Aw.mp hy with rfl|hy
 ·exact tk x hx
 ·exact Kx (tk x hx) (dr y hy)
def mZ {α:Type}(xs:Ay α){p:Ai}(hp:p≤xs.size)(x:α)(i:Ai):(Bx xs p x)[i]? = if i<p then xs[i]? else if i=p then Aa x else xs[i-1]?:=by
 rw[← Bj,Pe];have hl:(xs.toList.take p).length=p:=by simp;omega
 by_cases h1:i<p
 ·rw[Bi h1,Bk (by omega),Kp h1,Bj]
 ·rw[Bf h1,Dd (by omega),hl]
  by_cases h2:i=p
  ·subst h2;simp
  ·rw[Bf h2]
   obtain⟨k,hk⟩:∃ k,i-p=k+1:=⟨i-p-1,by omega⟩
   rw[hk,Py,Tz,Bj]
   congr 1;omega
def uW {α:Type}(xs:Ay α)(p:Ai)(x:α):(Bx xs p x).size=xs.size+1:=by
 have:=(Ie xs p x).length_eq;simpa using this
def DB {t:Ft}(T:Tb t){j:Ai}(hj:j ∉ t.place.toList):Tb (t.put j).1:=by
 refine⟨Y2 T.rs hj,?_⟩;show (if Uk t.dummies j then _ else t.dummies)=#[]
 rw[T.dm,aH];rfl
open PySem.SetTable (Probe leap runEnd turns bits)
def adv (mask:Ai)(p:Lo):Lo:=if p.more>0 then { p with j:=p.j+1,more:=p.more-1 } else { p with j:=(leap mask p.i p.perturb).1,more:=Hn mask (leap mask p.i p.perturb).1-(leap mask p.i p.perturb).1,i:=(leap mask p.i p.perturb).1,perturb:=(leap mask p.i p.perturb).2 }
def MW (t:Ft)(p:Lo):t.advance p=adv t.mask p:=rfl
def it (mask:Ai):Ai→Lo→Lo
 |0,p=>p
 |n+1,p=>it mask n (adv mask p)
def f9 (mask:Ai):∀ (n:Ai) (p:Lo),it mask (n+1) p=adv mask (it mask n p)
 |0,p=>rfl
 |n+1,p=>f9 mask n (adv mask p)
def t8 (mask:Ai):∀ (m n:Ai) (p:Lo),it mask (m+n) p=it mask n (it mask m p)
 |0,n,p=>by rw[Nl];rfl
 |m+1,n,p=>by rw[Ow];exact t8 mask m n (adv mask p)
def rs (mask i pert:Ai):Lo:={ j:=i,more:=Hn mask i-i,i,perturb:=pert,dummy:=none }
def st (mask:Ai)(h:Aj):Lo:=rs mask (bits h % (mask+1)) (bits h)
def H0 (t:Ft)(h:Aj):t.probeStart h=st t.mask h:=rfl
def bD (mask i pert:Ai):∀ k,k≤Hn mask i-i→it mask k (rs mask i pert)={ j:=i+k,more:=Hn mask i-i-k,i,perturb:=pert,dummy:=none }
 |0,_=>rfl
 |k+1,hk=>by
  rw[f9,bD mask i pert k (by omega)]
  unfold adv;rw[Bi (by show Hn mask i-i-k>0;omega)]
  simp only[Probe.mk.injEq,and_true,true_and];omega
def aQ (mask i pert:Ai):it mask (Hn mask i-i+1) (rs mask i pert)=rs mask (leap mask i pert).1 (leap mask i pert).2:=by
 rw[f9,bD mask i pert _ (Av _)];unfold adv;rw[Bf (by show ¬ (Hn mask i-i-(Hn mask i-i)>0);omega)]
 rfl
def SI (mask i:Ai):Hn mask i-i+1≤10:=by
 unfold Hn
 split <;> omega
def lp (mask:Ai):Ai→Ai × Ai→Ai × Ai
 |0,q=>q
 |n+1,q=>lp mask n (leap mask q.1 q.2)
def XR (mask:Ai):∀ (m n:Ai) (q:Ai × Ai),lp mask (m+n) q=lp mask n (lp mask m q)
 |0,n,p=>by rw[Nl];rfl
 |m+1,n,p=>by rw[Ow];exact XR mask m n _
def KD (mask:Ai):∀ (n i pert:Ai),∃ k,k≤10*n∧it mask k (rs mask i pert)=rs mask (lp mask n (i,pert)).1 (lp mask n (i,pert)).2
 |0,i,pert=>⟨0,by omega,rfl⟩
 |n+1,i,pert=>by
  obtain⟨k,hk,e⟩:=KD mask n (leap mask i pert).1 (leap mask i pert).2;refine⟨(Hn mask i-i+1)+k,by have:=SI mask i;omega,?_⟩
  rw[t8,aQ,e];rfl
def i8 (mask:Ai):∀ (n i pert:Ai),(lp mask n (i,pert)).2=pert/32 ^ n
 |0,i,pert=>by simp[lp]
 |n+1,i,pert=>by
  show (lp mask n ((leap mask i pert).1,pert/32)).2=_;rw[i8 mask n _ (pert/32),Nat.div_div_eq_div_mul,← Nat.pow_succ']
def nZ (mask i pert:Ai):(leap mask i pert).1≤mask:=Jo (Nu _ (Nm _))
def KH (mask:Ai):∀ (n i pert:Ai),i≤mask→(lp mask n (i,pert)).1≤mask
 |0,i,pert,h=>h
 |n+1,i,pert,h=>KH mask n _ _ (nZ mask i pert)
def cS (h:Aj):bits h<2 ^ 64:=by
 unfold bits;have h1:(0:Aj)≤h % 2 ^ 64:=Ji _ (by decide)
 have h2:h % 2 ^ 64<(2 ^ 64:Aj):=Il _ (by decide)
 omega
def cyc (mask:Ai):Ai→Ai→Ai
 |0,i=>i
 |n+1,i=>cyc mask n ((i*5+1) % (mask+1))
def bU (mask:Ai):∀ (m n i:Ai),cyc mask (m+n) i=cyc mask n (cyc mask m i)
 |0,n,p=>by rw[Nl];rfl
 |m+1,n,p=>by rw[Ow];exact bU mask m n _
def XS (mask:Ai):∀ (n i:Ai),(lp mask n (i,0)).1=cyc mask n i
 |0,i=>rfl
 |n+1,i=>by
  show (lp mask n (leap mask i 0)).1=_;have:leap mask i 0=((i*5+1) % (mask+1),0):=by simp[leap]
  rw[this,XS mask n];rfl
def Msk (mask:Ai):Prop:=mask=7∨mask=31∨mask=127∨mask=511∨mask=2047
def orb (mask:Ai):Ai→Ai→Ai→Ai
 |0,_,acc=>acc
 |n+1,i,acc=>orb mask n ((i*5+1) % (mask+1)) (acc ||| 1 <<< i)
def ZP (mask:Ai):Ar:=orb mask (mask+1) 0 0 == 2 ^ (mask+1)-1&&cyc mask (mask+1) 0 == 0
def ZQ (h:Msk mask):ZP mask=true:=by
 rcases h with rfl|rfl|rfl|rfl|rfl <;> decide +kernel
def iF (mask e:Ai):∀ (n i acc:Ai),(orb mask n i acc).testBit e=true→acc.testBit e=true∨∃ m,m<n∧cyc mask m i=e
 |0,i,acc,h=>.inl h
 |n+1,i,acc,h=>by
  rcases iF mask e n _ _ h with q|⟨m,hm,q⟩
  ·rw[Nat.testBit_or,Qn] at q
   rcases q with q|q
   ·exact .inl q
   ·rw[Nat.one_shiftLeft,Nat.testBit_two_pow,Ct] at q
    exact .inr ⟨0,by omega,q⟩
  ·exact .inr ⟨m+1,by omega,q⟩
def V4 (h:Msk mask){i e:Ai}(hi:i≤mask)(he:e≤mask):∃ n,n≤mask∧cyc mask n i=e:=by
 have a:=ZQ h;unfold ZP at a;rw[Br] at a;obtain⟨a1,a2⟩:=a;have a1:orb mask (mask+1) 0 0=2 ^ (mask+1)-1:=by simpa using a1
 have g:∀ e,e≤mask→∃ n,n≤mask∧cyc mask n 0=e:=λe he=>by
  have q:(orb mask (mask+1) 0 0).testBit e=true:=by rw[a1,Nat.testBit_two_pow_sub_one];simp;omega
  rcases iF mask e _ _ _ q with q|⟨n,hn,q⟩
  ·simp at q
  ·exact⟨n,by omega,q⟩
 have a3:cyc mask (mask+1) 0=0:=by simpa using a2
 obtain⟨m,hm,em⟩:=g i hi;obtain⟨n,hn,en⟩:=g e he;by_cases q:m≤n
 ·refine⟨n-m,by omega,?_⟩
  rw[← em,← bU,show m+(n-m)=n by omega]
  exact en
 ·refine⟨n+(mask+1)-m,by omega,?_⟩
  rw[← em,← bU,show m+(n+(mask+1)-m)=(mask+1)+n by omega,bU,a3]
  exact en
def eI (h:Msk mask){i pert e:Ai}(hi:i≤mask)(hp:pert<2 ^ 64)(he:e≤mask):∃ n,n≤mask+13∧(lp mask n (i,pert)).1=e:=by
 have h0:(lp mask 13 (i,pert)).2=0:=by
  rw[i8];apply Nat.div_eq_of_lt;exact Kx hp (by decide)
 obtain⟨n,hn,q⟩:=V4 h (KH mask 13 i pert hi) he;refine⟨13+n,by omega,?_⟩
 rw[XR];have:lp mask 13 (i,pert)=((lp mask 13 (i,pert)).1,0):=by rw[← h0]
 rw[this,XS];exact q
def rY (h:Msk mask)(hs:Aj){e:Ai}(he:e≤mask):∃ n,n<10*turns mask∧(it mask n (st mask hs)).j=e:=by
 obtain⟨n,hn,q⟩:=eI h (i:=bits hs % (mask+1)) (Jo (Nu _ (Nm _))) (cS hs) he;obtain⟨k,hk,e1⟩:=KD mask n (bits hs % (mask+1)) (bits hs);refine⟨k,by unfold turns;omega,?_⟩
 show (it mask k (rs mask _ _)).j=e;rw[e1];exact q
def mE (mask:Ai):∀ (n:Ai) (p:Lo),(it mask n p).dummy=p.dummy
 |0,p=>rfl
 |n+1,p=>by
  show (it mask n (adv mask p)).dummy=_;rw[mE mask n];unfold adv
  split <;> rfl
def Way (t:Ft)(p:Lo)(n:Ai):Prop:=∀ m,m<n→(it t.mask m p).j∈t.place.toList
inductive Meets (t:Ft)(hashAt:Ai→Aj)(h:Aj)(p:Lo)(fuel:Ai):Am SetTable.Met→Prop
 |emp (n:Ai) (hn:n<fuel) (w:Way t p n) (e:(it t.mask n p).j ∉ t.place.toList) (q:∀ m i,m<n→t.place[i]? = Aa (it t.mask m p).j→hashAt i≠h):Meets t hashAt h p fuel (Aa (.empty (it t.mask n p).j none))
 |cand (n i:Ai) (hn:n<fuel) (w:Way t p n) (e:t.place[i]? = Aa (it t.mask n p).j) (hh:hashAt i=h) (q:∀ m i,m<n→t.place[i]? = Aa (it t.mask m p).j→hashAt i≠h):Meets t hashAt h p fuel (Aa (.candidate (it t.mask n p).j i (it t.mask (n+1) p)))
def Y1 (h:Rs xs){a b x:Ai}(ha:xs[a]? = Aa x)(hb:xs[b]? = Aa x):a=b:=by rw[← m5 h ha,m5 h hb]
set_option tactic.hygienic true in
def gU {t:Ft}(T:Tb t)(hashAt:Ai→Aj)(h:Aj):∀ (fuel:Ai) (p:Lo),p.dummy=none→(∃ n,n<fuel∧(it t.mask n p).j ∉ t.place.toList)→Meets t hashAt h p fuel (Jp t hashAt h fuel p)
 |0,p,_,⟨n,hn,_⟩=>by omega
 |fuel+1,p,hd,⟨n,hn,hne⟩=>by
  unfold Jp;rcases QL T p.j with⟨i,e,ei⟩|⟨e,q⟩
  ·rw[e]
   simp only
   split
   ·rename_i hh
    exact Meets.cand 0 i (by omega) (λm hm=>by omega) ei (by simpa using hh) λm i hm=>by omega
   ·rename_i hh
    have hh':hashAt i≠h:=by simpa using hh
    have hn0:n≠0:=by
     rintro rfl;exact hne (Cf (by rw[Bj];exact ei))
    obtain⟨n',rfl⟩:∃ n',n=n'+1:=⟨n-1,by omega⟩
    have ih:=gU T hashAt h fuel (adv t.mask p) (by rw[← hd];exact mE t.mask 1 p) ⟨n',by omega,hne⟩
    rw[MW];have mem0:p.j∈t.place.toList:=Cf (by rw[Bj];exact ei)
    have up:∀ {k:Ai},Way t (adv t.mask p) k→Way t p (k+1):=λ{k} w m hm=>by
     cases m with
     |zero=>exact mem0
     |succ m=>exact w m (by omega)
    have upq:∀ {k:Ai},(∀ m i,m<k→t.place[i]? = Aa (it t.mask m (adv t.mask p)).j→hashAt i≠h)→∀ m i,m<k+1→t.place[i]? = Aa (it t.mask m p).j→hashAt i≠h:=λ{k} q m i' hm e'=>by
     cases m with
     |zero=>rw[Y1 T.rs e' ei];exact hh'
     |succ m=>exact q m i' (by omega) e'
    generalize hg:Jp t hashAt h fuel (adv t.mask p)=r at ih;cases ih with
    |emp k hk w e1 q1=>exact Meets.emp (p:=p) (k+1) (by omega) (up w) e1 (upq q1)
    |cand k i' hk w e1 hh1 q1=>exact Meets.cand (p:=p) (k+1) i' (by omega) (up w) e1 hh1 (upq q1)
  ·rw[e]
   simp only[hd];exact Meets.emp (p:=p) 0 (by omega) (λm hm=>by omega) q λm i hm=>by omega
end _S
namespace _S
open PySem
open PySem.SetTable (Probe leap runEnd turns bits)
variable {us:Ab Ai}{mask:Ai}{owner:Ay (Am Ai)}
structure Own (mask:Ai)(owner:Ay (Am Ai))(us:Ab Ai):Prop where
 size:owner.size=mask+1
 nd:us.Nodup
 le:∀ u∈us,u≤mask
 at':∀ j k,j≤mask→(owner.getD j (Aa 0)=Aa k↔us[k]? = Aa j)
def lM {i:Ai}(hi:i≤mask):Hn mask i≤mask:=by
 unfold Hn
 split <;> omega
def lN (mask i:Ai):i≤Hn mask i:=by
 unfold Hn
 split <;> omega
def Own.none (O:Own mask owner us){j:Ai}(hj:j≤mask):(owner.getD j (Aa 0)).isNone=true↔j ∉ us:=by
 constructor
 ·intro h hm
  obtain⟨k,hk,e⟩:=Cg.mp hm;have:=(O.at' j k hj).mpr (by rw[Ap hk,e])
  rw[this] at h;cases h
 ·intro h
  cases q:owner.getD j (Aa 0) with
  |none=>rfl
  |some k=>exact absurd (Cf ((O.at' j k hj).mp q)) h
def dA (O:Own mask owner us):∀ (fuel i pert:Ai),i≤mask→(∃ L,L<fuel∧(lp mask L (i,pert)).1 ∉ us) →
  ∃ n,Ig mask owner fuel i pert=Aa (it mask n (rs mask i pert)).j∧(it mask n (rs mask i pert)).j≤mask∧(it mask n (rs mask i pert)).j ∉ us∧∀ m,m<n→(it mask m (rs mask i pert)).j∈us
 |0,i,pert,hi,⟨L,hL,_⟩=>by omega
 |fuel+1,i,pert,hi,⟨L,hL,hne⟩=>by
  unfold Ig;have hmx:=lM hi;have hmn:=lN mask i;cases hf:(Dq (Hn mask i+1-i)).find? λk=>(owner.getD (i+k) (Aa 0)).isNone with
  |some k =>
   obtain⟨h1,h2,h3⟩:=List.find?_range_eq_some.mp hf;have hk:k<Hn mask i+1-i:=Em.mp h2;have ej:(it mask k (rs mask i pert)).j=i+k:=by rw[bD mask i pert k (by omega)]
   refine⟨k,?_,?_,?_,λm hm=>?_⟩
   ·rw[ej]
   ·rw[ej];omega
   ·rw[ej];exact(O.none (by omega)).mp h1
   ·rw[bD mask i pert m (by omega)]
    have:=h3 m hm;apply Fq;intro q;rw[(O.none (show i+m≤mask by omega)).mpr q] at this
    cases this
  |none =>
   have hall:∀ k,k<Hn mask i+1-i→i+k∈us:=λk hk=>by
    have:=Ua.mp hf k (Em.mpr hk);apply Fq;intro q;exact this ((O.none (show i+k≤mask by omega)).mpr q)
   have hL0:L≠0:=by
    rintro rfl;exact hne (hall 0 (by omega))
   obtain⟨L',rfl⟩:∃ L',L=L'+1:=⟨L-1,by omega⟩
   obtain⟨n,q1,q2,q3,q4⟩:=dA O fuel (leap mask i pert).1 (leap mask i pert).2 (nZ mask i pert) ⟨L',by omega,hne⟩
   have e:∀ m,it mask (Hn mask i-i+1+m) (rs mask i pert)=it mask m (rs mask (leap mask i pert).1 (leap mask i pert).2):=λm=>by rw[t8,aQ]
   refine⟨Hn mask i-i+1+n,?_,?_,?_,λm hm=>?_⟩
   ·rw[e];exact q1
   ·rw[e];exact q2
   ·rw[e];exact q3
   ·by_cases hlt:m<Hn mask i-i+1
    ·rw[bD mask i pert m (by omega)]
     exact hall m (by omega)
    ·obtain⟨m',rfl⟩:∃ m',m=Hn mask i-i+1+m':=⟨m-(Hn mask i-i+1),by omega⟩
     rw[e];exact q4 m' (by omega)
def gap (h:us.length≤mask):∃ e,e≤mask∧e ∉ us:=by
 apply Fq;intro q;have:Dq (mask+1) ⊆ us:=λe he=>by
  apply Fq;intro r;exact q ⟨e,by have:=Em.mp he;omega,r⟩
 have:=List.Nodup.length_le_of_subset Wb this;rw[Gs] at this;omega
def F5 (mask:Ai):Own mask (Array.replicate (mask+1) none) []:=by
 refine⟨by simp,Om,λu hu=>by simp at hu,λj k hj=>?_⟩
 have:j<mask+1:=by omega
 simp[Gr,this]
def UL (O:Own mask owner us){j:Ai}(hj:j≤mask)(hn:j ∉ us):Own mask (owner.setIfInBounds j (Aa us.length)) (us++[j]):=by
 refine⟨by simp[O.size],?_,λu hu=>?_,λi k hi=>?_⟩
 ·rw[Ll]
  refine⟨O.nd,by simp,λa ha b hb=>?_⟩
  simp at hb;rintro rfl;subst hb;exact hn ha
 ·rcases Ch.mp hu with h|h
  ·exact O.le u h
  ·simp at h;omega
 ·have hsz:=O.size
  have hi':i<owner.size:=by omega
  have hk:∀ {k},us[k]? = Aa i→k<us.length:=λq=>(Be.mp q).1;by_cases hij:j=i
  ·subst hij
   have e1:(owner.setIfInBounds j (Aa us.length)).getD j (Aa 0)=Aa us.length:=by simp[Gr,hi']
   rw[e1];constructor
   ·intro q;cases q;simp
   ·intro q
    by_cases h1:k<us.length
    ·rw[Bk h1] at q
     exact absurd (Cf q) hn
    ·rw[Dd (by omega)] at q
     have:k-us.length=0:=by
      cases hz:k-us.length with
      |zero=>rfl
      |succ z=>rw[hz] at q;simp at q
     congr 1;omega
  ·have e1:(owner.setIfInBounds j (Aa us.length)).getD i (Aa 0)=owner.getD i (Aa 0):=by
    simp[Gr,hi',Array.getElem_setIfInBounds,hij]
   rw[e1,O.at' i k hi];constructor
   ·intro q;rw[Bk (hk q)];exact q
   ·intro q
    by_cases h1:k<us.length
    ·rw[Bk h1] at q;exact q
    ·rw[Dd (by omega)] at q
     cases hz:k-us.length with
     |zero=>rw[hz] at q;simp at q;exact absurd q hij
     |succ z=>rw[hz] at q;simp at q
def o4 (mask:Ai)(us:Ab Ai)(hs:Ab Aj):Prop:=∀ (k:Ai) (h:Aj),hs[k]? = Aa h→∃ n,us[k]? = Aa (it mask n (st mask h)).j∧∀ m,m<n→(it mask m (st mask h)).j∈us
def d8 (hM:Msk mask):∀ (hs done:Ab Aj) (owner:Ay (Am Ai)) (us:Ab Ai),Own mask owner us→us.length=done.length→done.length+hs.length≤mask→o4 mask us done →
  ∃ owner' us',hs.foldl (λacc h=>do
   let (owner,k) ← acc
   let j ← Ig mask owner (turns mask) (bits h % (mask+1)) (bits h)
   pure (owner.setIfInBounds j (Aa k),k+1)) (Aa (owner,us.length))=Aa (owner',us'.length)∧Own mask owner' us'∧us'.length=done.length+hs.length∧o4 mask us' (done++hs)
 |[],done,owner,us,O,hl,_,hL=>⟨owner,us,rfl,O,by simpa using hl,by simpa using hL⟩
 |h::hs,done,owner,us,O,hl,hlen,hL=>by
  rw[Ci] at hlen;obtain⟨e,he,hne⟩:=gap (mask:=mask) (us:=us) (by omega)
  obtain⟨L,hLn,hLe⟩:=eI hM (i:=bits h % (mask+1)) (Jo (Nu _ (Nm _))) (cS h) he;obtain⟨n,q1,q2,q3,q4⟩:=dA O (turns mask) (bits h % (mask+1)) (bits h) (Jo (Nu _ (Nm _))) ⟨L,by unfold turns;omega,by rw[hLe];exact hne⟩
  have O':=UL O q2 q3;have hL':o4 mask (us++[(it mask n (rs mask (bits h % (mask+1)) (bits h))).j]) (done++[h]):=λk h' e'=>by
   by_cases hk:k<done.length
   ·rw[Bk hk] at e'
    obtain⟨n',w1,w2⟩:=hL k h' e';exact⟨n',by rw[Bk (by omega)];exact w1,λm hm=>Dh _ (w2 m hm)⟩
   ·rw[Dd (by omega)] at e'
    cases hz:k-done.length with
    |succ z=>rw[hz] at e';simp at e'
    |zero =>
     rw[hz] at e';simp at e';subst e';refine⟨n,?_,λm hm=>Dh _ (q4 m hm)⟩;rw[Dd (by omega),hl,hz]
     rfl
  obtain⟨owner',us',r1,r2,r3,r4⟩:=d8 hM hs (done++[h]) _ _ O' (by simp[hl]) (by simp;omega) hL'
  refine⟨owner',us',?_,r2,by simpa [Ya,Yf 1] using r3,by simpa using r4⟩
  rw[Hy];rw[Cb] at r1;have e0:(do
   let (owner,k) ← Aa (owner,us.length)
   let j ← Ig mask owner (turns mask) (bits h % (mask+1)) (bits h)
   pure (owner.setIfInBounds j (Aa k),k+1))=Aa (owner.setIfInBounds (it mask n (rs mask (bits h % (mask+1)) (bits h))).j (Aa us.length),us.length+1):=by
   show (Ig mask owner (turns mask) (bits h % (mask+1)) (bits h)).bind _=_;rw[q1];rfl
  rw[e0];exact r1
def sB (hM:Msk mask)(hs:Ay Aj)(hlen:hs.size≤mask):∃ owner us,Vf mask hs=Aa owner∧Own mask owner us∧us.length=hs.size∧o4 mask us hs.toList:=by
 obtain⟨owner',us',r1,r2,r3,r4⟩:=d8 hM hs.toList [] _ [] (F5 mask) rfl (by simpa using hlen) (λk h e=>by simp at e)
 refine⟨owner',us',?_,r2,by simpa using r3,by simpa using r4⟩
 unfold Vf;rw[← Array.foldl_toList];have:(([]:Ab Ai).length)=0:=rfl;rw[this] at r1
 erw [r1]
 rfl
structure Laid (mask:Ai)(hs:Ay Aj)(t:Ft)(qW:Ay Ai):Prop where
 msk:t.mask=mask
 tb:Tb t
 size:t.place.size=hs.size
 le:∀ x∈t.place.toList,x≤mask
 perm:qW.toList.Perm (Dq hs.size)
 way:∀ (i k:Ai) (h:Aj),qW[i]? = Aa k→hs[k]? = Aa h→∃ n,t.place[i]? = Aa (it mask n (st mask h)).j∧Way t (st mask h) n
def XL (hM:Msk mask)(hs:Ay Aj)(hlen:hs.size≤mask)(finger moves:Ai)(led plain:Ar) :
  ∃ t qW,Tc mask finger moves led plain hs=Aa (t,qW)∧t.led=led∧t.plain=plain∧Laid mask hs t qW:=by
 obtain⟨owner,us,e,O,hl,hL⟩:=sB hM hs hlen;have hg:∀ j,j≤mask→owner.getD j none=owner.getD j (Aa 0):=λj hj=>by
  have:j<owner.size:=by rw[O.size];omega
  simp[Gr,this]
 generalize hlv:((Dq (mask+1)).filterMap λj=>(owner.getD j none).map (j,·))=live
 have mem:∀ (j k:Ai),(j,k)∈live↔us[k]? = Aa j:=λj k=>by
  rw[← hlv,Jb];constructor
  ·rintro⟨j',hj',q⟩
   have hj'':j'≤mask:=by have:=Em.mp hj';omega
   rw[hg j' hj''] at q;cases hz:owner.getD j' (Aa 0) with
   |none=>rw[hz] at q;cases q
   |some k' =>
    rw[hz] at q;simp at q;obtain⟨rfl,rfl⟩:=q;exact(O.at' _ _ hj'').mp hz
  ·intro q
   have hj:j≤mask:=O.le j (Cf q);refine⟨j,Em.mpr (by omega),?_⟩
   rw[hg j hj,(O.at' j k hj).mpr q];rfl
 have hfst:live.map (·.1)=(Dq (mask+1)).filter λj=>(owner.getD j none).isSome:=by
  rw[← hlv,List.map_filterMap];generalize owner.getD=f
  induction Dq (mask+1) with
  |nil=>rfl
  |cons a l ih =>
   rw[Gm,List.filter_cons];cases hz:f a none with
   |none=>simpa using ih
   |some k=>simpa using ih
 have hR:(live.map (·.1)).Pairwise (· < ·):=by
  rw[hfst];exact Yv _ List.pairwise_lt_range
 have ndl:(live.map (·.2)).Nodup:=by
  unfold Xc;rw[IK];have h1:=IK.mp hR;refine Pf (λ{a b} ha hb hab=>?_) h1;intro q;have ea:=(mem a.1 a.2).mp ha;have eb:=(mem b.1 b.2).mp hb;rw[← q,ea] at eb;simp at eb;omega
 have pm:(live.map (·.2)).Perm (Dq hs.size):=by
  rw[List.perm_ext_iff_of_nodup ndl Wb];intro k;rw[Dl,Em,← hl];constructor
  ·rintro⟨⟨j,k'⟩,h1,rfl⟩
   exact(Be.mp ((mem j k').mp h1)).1
  ·intro hk
   exact⟨(us[k],k),(mem _ _).mpr (Ap hk),rfl⟩
 have hmem:∀ j,j∈live.map (·.1)↔j∈us:=λj=>by
  rw[Dl];constructor
  ·rintro⟨⟨j',k⟩,h1,rfl⟩
   exact Cf ((mem _ _).mp h1)
  ·intro h1
   obtain⟨k,hk,e⟩:=Cg.mp h1;exact⟨(j,k),(mem _ _).mpr (by rw[Ap hk,e]),rfl⟩
 refine⟨{ mask,place:=(live.map (·.1)).toArray,dummies:=#[],finger,led,moves,plain },(live.map (·.2)).toArray,?_,rfl,rfl,rfl,⟨?_,rfl⟩,?_,λx hx=>?_,?_,λi k h e1 e2=>?_⟩
 ·unfold Tc
  rw[e,← hlv];rfl
 ·exact hR
 ·have:=pm.length_eq
  simp at this ⊢;exact this
 ·exact O.le x ((hmem x).mp hx)
 ·exact pm
 ·have e1':(live.map (·.2))[i]? = Aa k:=by simpa using e1
  rw[Ds] at e1';cases hz:live[i]? with
  |none=>rw[hz] at e1';cases e1'
  |some jk =>
   rw[hz] at e1';simp at e1';have hin:=Cf hz;have hu:=(mem jk.1 jk.2).mp hin;obtain⟨n,w1,w2⟩:=hL k h (by rw[Bj];exact e2)
   rw[← e1'] at w1;rw[hu] at w1;refine⟨n,?_,λm hm=>?_⟩
   ·rw[← w1]
    simp[hz]
   ·have:=(hmem _).mpr (w2 m hm)
    simpa using this
def M0 {t:Ft}{hs:Ay Aj}{w:Ai}:SetTable.relaid t hs w=Tc (Fa w-1) t.finger (t.movedTo (Fa w-1)) t.led t.plain hs:=rfl
end _S
namespace _S
open PySem
open PySem.SetTable (Probe leap runEnd turns bits)
structure Set0 {K:Type}(is:K→Ad→Prop)(hash:K→Aj)(es:Ay (Aj × Ad))(seen:Ab K):Prop where
 good:∀ e∈es.toList,∃ k,e.1=hash k∧is k e.2
 nd:es.toList.Pairwise λa b=>∀ k,is k a.2→¬ is k b.2
 mem:∀ k,k∈seen↔∃ e∈es.toList,is k e.2
section
variable {K:Type}{is:K→Ad→Prop}{hash:K→Aj}{es es':Ay (Aj × Ad)}{seen seen':Ab K}
def Set0.perm (Z:Set0 is hash es seen)(p:es'.toList.Perm es.toList):Set0 is hash es' seen:=
 ⟨λe he=>Z.good e (p.mem_iff.mp he),(p.pairwise_iff λ{x y} h k hy hx=>h k hx hy).mpr Z.nd,λk=>(Z.mem k).trans ⟨λ⟨e,he,q⟩=>⟨e,p.mem_iff.mpr he,q⟩,λ⟨e,he,q⟩=>⟨e,p.mem_iff.mp he,q⟩⟩⟩
def Set0.nil:Set0 is hash #[] []:=⟨λe he=>by simp at he,by simp,λk=>by simp⟩
def Set0.push (Z:Set0 is hash es seen)(inj:∀ {k k':K} {v:Ad},is k v→is k' v→k=k'){k:K}{x:Ad}(hk:is k x)(hn:k ∉ seen)(p:es'.toList.Perm (es.toList++[(hash k,x)])):Set0 is hash es' (k::seen):=by
 refine Set0.perm (es:=es.push (hash k,x)) ⟨λe he=>?_,?_,λk'=>?_⟩ (by simpa using p)
 ·rw[Eo] at he
  rcases Ch.mp he with he|he
  ·exact Z.good e he
  ·simp at he;subst he;exact⟨k,rfl,hk⟩
 ·rw[Eo,Ed]
  refine⟨Z.nd,by simp,λa ha b hb k' h1 h2=>?_⟩
  simp at hb;subst hb;have:=inj hk h2;subst this;exact hn ((Z.mem k).mpr ⟨a,ha,h1⟩)
 ·rw[Aw,Z.mem,Eo]
  constructor
  ·rintro (rfl|⟨e,he,q⟩)
   ·exact⟨(hash k',x),by simp,hk⟩
   ·exact⟨e,Dh _ he,q⟩
  ·rintro⟨e,he,q⟩
   rcases Ch.mp he with he|he
   ·exact .inr ⟨e,he,q⟩
   ·simp at he;subst he;exact .inl (inj q hk)
def Set0.again (Z:Set0 is hash es seen){k:K}(hk:k∈seen):Set0 is hash es (k::seen):=
 ⟨Z.good,Z.nd,λk'=>by rw[Aw,Z.mem];exact⟨λh=>h.elim (λe=>by subst e;exact(Z.mem _).mp hk) id,.inr⟩⟩
end
section
open Classical in
def mF {K:Type}{is:K→Ad→Prop}:∀ (L:Ab (Aj × Ad)) (U:Ab K),L.Pairwise (λa b=>∀ k,is k a.2→¬ is k b.2)→(∀ e∈L,∃ k∈U,is k e.2)→L.length≤U.length
 |[],U,_,_=>HT _
 |e::L,U,nd,h=>by
  rw[Ez] at nd;obtain⟨k0,hk0,q0⟩:=h e (by simp)
  have ih:=mF L (U.erase k0) nd.2 λe' he'=>by
   obtain⟨k,hk,q⟩:=h e' (by simp[he'])
   have:k≠k0:=λz=>nd.1 e' he' k0 q0 (z▸q);exact⟨k,(Sf this).mpr hk,q⟩
  rw[Pg hk0] at ih;have:0<U.length:=Lx hk0;rw[Ci];omega
open Classical in
def Set0.few {K:Type}{is:K→Ad→Prop}{hash:K→Aj}{es:Ay (Aj × Ad)}{seen U:Ab K}{k:K}(Z:Set0 is hash es seen)(hU:∀ k'∈seen,k'∈U)(hk:k∈U)(hn:k ∉ seen):es.size<U.length:=by
 have:=mF es.toList (U.erase k) Z.nd λe he=>by
  obtain⟨k',_,q⟩:=Z.good e he;have hs:=(Z.mem k').mpr ⟨e,he,q⟩;have hne:k'≠k:=λz=>hn (z▸hs);exact⟨k',(Sf hne).mpr (hU k' hs),q⟩
 rw[Pg hk,Bh] at this;have:0<U.length:=Lx hk;omega
end
structure TabT (t:Ft)(es:Ay (Aj × Ad)):Prop where
 tb:Tb t
 msk:Msk t.mask
 size:t.place.size=es.size
 le:∀ x∈t.place.toList,x≤t.mask
 few:es.size*5<t.mask*3
 way:∀ (i:Ai) (e:Aj × Ad),es[i]? = Aa e→∃ n,t.place[i]? = Aa (it t.mask n (st t.mask e.1)).j∧Way t (st t.mask e.1) n
 plain:t.plain=true
def TabT.fits {t:Ft}{es:Ay (Aj × Ad)}(T:TabT t es):t.fits es.size=true:=by
 have h1:=T.size;have h2:=T.few;have h3:t.fill=es.size:=by unfold Kg;rw[T.tb.dm,h1];rfl
 unfold Td;rw[h3,h1];rcases T.msk with h|h|h|h|h <;> rw[h] at h2 ⊢ <;> simp <;> omega
def TabT.gap {t:Ft}{es:Ay (Aj × Ad)}(T:TabT t es):∃ e,e≤t.mask∧e ∉ t.place.toList:=by
 apply _S.gap;rw[Bh,T.size];have h2:=T.few;rcases T.msk with h|h|h|h|h <;> rw[h] at h2 ⊢ <;> omega
def TabT.odd {t:Ft}{es:Ay (Aj × Ad)}(T:TabT t es):t.gaveWay=false:=by
 unfold SetTable.gaveWay;rcases T.msk with h|h|h|h|h <;> rw[h] <;> rfl
def TabT.put {t:Ft}{es:Ay (Aj × Ad)}(T:TabT t es){h:Aj}{x:Ad}{n:Ai}(w:Way t (st t.mask h) n)(hn:(it t.mask n (st t.mask h)).j ∉ t.place.toList)(hle:(it t.mask n (st t.mask h)).j≤t.mask) :
  let es':=Bx es (t.put (it t.mask n (st t.mask h)).j).2 (h,x)
  Tb (t.put (it t.mask n (st t.mask h)).j).1∧(t.put (it t.mask n (st t.mask h)).j).1.place.size=es'.size∧(∀ y∈(t.put (it t.mask n (st t.mask h)).j).1.place.toList,y≤t.mask) ∧
  (∀ (i:Ai) (e:Aj × Ad),es'[i]? = Aa e→∃ m,(t.put (it t.mask n (st t.mask h)).j).1.place[i]? = Aa (it t.mask m (st t.mask e.1)).j∧Way (t.put (it t.mask n (st t.mask h)).j).1 (st t.mask e.1) m):=by
 generalize hj:(it t.mask n (st t.mask h)).j=j at *;have pm:∀ y,y∈(t.put j).1.place.toList↔y=j∨y∈t.place.toList:=λy=>by
  show y∈(Bx t.place (Ca t.place j) j).toList↔_;rw[(Ie _ _ _).mem_iff];simp[or_comm]
 have hb:Ca t.place j≤t.place.size:=(jU T.tb.rs j).le;have wm:∀ {p:Lo} {m:Ai},Way t p m→Way (t.put j).1 p m:=λ{p m} w q hq=>(pm _).mpr (.inr (w q hq));refine⟨DB T.tb hn,?_,λy hy=>?_,λi e he=>?_⟩
 ·show (Bx t.place _ j).size=(Bx es _ (h,x)).size
  rw[uW,uW,T.size]
 ·rcases (pm y).mp hy with rfl|hy
  ·exact hle
  ·exact T.le y hy
 ·have he':(if i<Ca t.place j then es[i]? else if i=Ca t.place j then Aa (h,x) else es[i-1]?)=Aa e:=by
   rw[← mZ es (by rw[← T.size];exact hb)]
   exact he
  have pl:(t.put j).1.place[i]? = if i<Ca t.place j then t.place[i]? else if i=Ca t.place j then Aa j else t.place[i-1]?:=mZ t.place hb j i
  rw[pl];by_cases h1:i<Ca t.place j
  ·rw[Bi h1] at he' ⊢
   obtain⟨m,q1,q2⟩:=T.way i e he';exact⟨m,q1,wm q2⟩
  ·rw[Bf h1] at he' ⊢
   by_cases h2:i=Ca t.place j
   ·rw[Bi h2] at he' ⊢
    cases he';exact⟨n,by rw[hj],wm w⟩
   ·rw[Bf h2] at he' ⊢
    obtain⟨m,q1,q2⟩:=T.way _ e he';exact⟨m,q1,wm q2⟩
def KC {mask:Ai}(p:Lo)(hp:p.j+p.more≤mask):∀ n,(it mask n p).j+(it mask n p).more≤mask
 |0=>hp
 |n+1=>by
  rw[f9];have ih:=KC p hp n;unfold adv
  split
  ·show (it mask n p).j+1+((it mask n p).more-1)≤mask
   omega
  ·show (leap mask _ _).1+(Hn mask (leap mask _ _).1-(leap mask _ _).1)≤mask
   have h1:=lM (nZ mask (it mask n p).i (it mask n p).perturb);have h2:=lN mask (leap mask (it mask n p).i (it mask n p).perturb).1;omega
def GA (mask:Ai)(h:Aj)(n:Ai):(it mask n (st mask h)).j≤mask:=by
 have h0:bits h % (mask+1)≤mask:=Jo (Nu _ (Nm _));have:=KC (mask:=mask) (st mask h) (by
  show bits h % (mask+1)+(Hn mask (bits h % (mask+1))-bits h % (mask+1))≤mask;have h1:=lM h0;have h2:=lN mask (bits h % (mask+1));omega) n
 omega
def fY {t:Ft}{es:Ay (Aj × Ad)}(hM:Msk t.mask)(hp:t.plain=true)(h1:t.place.size=es.size)(h2:es.size≤1001)(hf:t.tooFull=true)(hd:t.dummies=#[])(h3:(es.size-1)*5<t.mask*3)(h4:0<es.size) :
  Fa (Hi es.size)≤2048∧∃ t' qW,t.relaid (es.map (·.1)) (Hi es.size)=Aa (t',qW)∧t'.led=t.led∧(qW.filterMap (es[·]?)).toList.Perm es.toList∧TabT t' (qW.filterMap (es[·]?))∧qW.toList.Perm (Dq es.size):=by
 have hfill:t.fill=es.size:=by unfold Kg;rw[hd,h1];rfl
 have hful:t.mask*3≤es.size*5:=by
  unfold Pr at hf;rw[hfill] at hf;simpa using hf
 have hcase:(es.size=5∧Fa (Hi es.size)=32)∨(es.size=19∧Fa (Hi es.size)=128)∨(es.size=77∧Fa (Hi es.size)=512)∨(es.size=307∧Fa (Hi es.size)=2048):=by
  rcases hM with h|h|h|h|h <;> rw[h] at hful h3
  ·have:es.size=5:=by omega
   exact .inl ⟨this,by rw[this];decide⟩
  ·have:es.size=19:=by omega
   exact .inr (.inl ⟨this,by rw[this];decide⟩)
  ·have:es.size=77:=by omega
   exact .inr (.inr (.inl ⟨this,by rw[this];decide⟩))
  ·have:es.size=307:=by omega
   exact .inr (.inr (.inr ⟨this,by rw[this];decide⟩))
  ·omega
 have hM':Msk (Fa (Hi es.size)-1):=by
  rcases hcase with⟨_,h⟩|⟨_,h⟩|⟨_,h⟩|⟨_,h⟩ <;> rw[h]
  ·exact .inr (.inl rfl)
  ·exact .inr (.inr (.inl rfl))
  ·exact .inr (.inr (.inr (.inl rfl)))
  ·exact .inr (.inr (.inr (.inr rfl)))
 have hle:(es.map (·.1)).size≤Fa (Hi es.size)-1:=by
  rw[Ry];rcases hcase with⟨h5,h⟩|⟨h5,h⟩|⟨h5,h⟩|⟨h5,h⟩ <;> rw[h,h5] <;> omega
 obtain⟨t',qW,e,l1,l2,L⟩:=XL hM' (es.map (·.1)) hle t.finger (t.movedTo (Fa (Hi es.size)-1)) t.led t.plain
 have hosz:qW.size=es.size:=by
  have:=L.perm.length_eq;simpa using this
 have hord:∀ i k,qW[i]? = Aa k→k<es.size:=λi k q=>by
  have:k∈Dq (es.map (·.1)).size:=L.perm.mem_iff.mp (Cf (by rw[Bj];exact q))
  simpa using this
 have hfm:(qW.filterMap (es[·]?)).toList=qW.toList.map λk=>es.toList.getD k (0,.none):=by
  rw[Array.toList_filterMap];have:∀ l:Ab Ai,(∀ k∈l,k<es.size)→l.filterMap (es[·]?)=l.map λk=>es.toList.getD k (0,.none):=by
   intro l
   induction l with
   |nil=>intro _;rfl
   |cons a l ih =>
    intro hl;have ha:=hl a (by simp)
    rw[Gm,Dy,ih λk hk=>hl k (by simp[hk])]
    rw[DL ha];simp[ha]
  refine this _ λk hk=>?_;obtain⟨i,hi,q⟩:=Cg.mp hk;exact hord i k (by rw[← Bj,Ap hi,q])
 have hperm:(qW.filterMap (es[·]?)).toList.Perm es.toList:=by
  rw[hfm];have p1:=L.perm.map λk=>es.toList.getD k (0,Dp);refine p1.trans ?_;have e2:(Dq (es.map (·.1)).size).map (λk=>es.toList.getD k (0,Dp))=es.toList:=by
   apply Ms
   ·simp
   ·intro i a1 a2
    have a3:i<es.size:=by simpa using a2
    simp[a3]
  rw[e2]
 have hsz:(qW.filterMap (es[·]?)).size=es.size:=by rw[← Bh,hperm.length_eq,Bh]
 have hentry:∀ i,(qW.filterMap (es[·]?))[i]? = (qW[i]?).map λk=>es.toList.getD k (0,.none):=λi=>by
  rw[← Bj,hfm,Ds,Bj]
 refine⟨by rcases hcase with⟨_,h⟩|⟨_,h⟩|⟨_,h⟩|⟨_,h⟩ <;> rw[h] <;> decide,t',qW,by rw[M0];exact e,l1,hperm,⟨L.tb,by rw[L.msk];exact hM',by rw[L.size,hsz,Ry],by rw[L.msk];exact L.le,?_,λi en q=>?_,by rw[l2];exact hp⟩,by have:=L.perm;rwa [Ry] at this⟩
 ·rw[hsz,L.msk]
  rcases hcase with⟨h5,h⟩|⟨h5,h⟩|⟨h5,h⟩|⟨h5,h⟩ <;> rw[h,h5] <;> omega
 ·rw[hentry] at q
  cases hz:qW[i]? with
  |none=>rw[hz] at q;cases q
  |some k =>
   rw[hz] at q;simp only[Qs,Option.some.injEq] at q;have hk:=hord i k hz;have:(es.map (·.1))[k]? = Aa en.1:=by
    rw[Array.getElem?_map,DL hk];rw[← q];simp[hk]
   rw[L.msk];exact L.way i k en.1 hz this
end _S
namespace _S
open PySem
open PySem.SetTable (Probe leap runEnd turns bits)
variable {Q:Ar→Ah→Prop}
def Sup (h0 h:Bs):Prop:=∀ b o,h0.get? b=Aa o→h.get? b=Aa o
def isT (prog:Bl)(w:Bz)(h0:Bs)(ks:Ab Aj)(v:Ad):Prop:=∃ a,v=.ref a∧Nv (Bg prog w) h0 ks a
section
variable {prog:Bl}{w:Bz}{h0:Bs}
def isT.inj {x y:Ab Aj}{v:Ad}(hx:isT prog w h0 x v)(hy:isT prog w h0 y v):x=y:=by
 obtain⟨a,rfl,h1⟩:=hx;obtain⟨b,e,h2⟩:=hy;cases e;exact h1.inj h2
def jB {h:Bs}{ks:Ab Aj}{a:Af}(hS:Sup h0 h)(hx:Nv (Bg prog w) h0 ks a):Nv (Bg prog w) h ks a:=by
 obtain⟨o,items,n,ho,r⟩:=hx;exact⟨o,items,n,hS _ _ ho,r⟩
variable {A:By}{E:Ad→Ah→Prop}{s:Ah}
def RW {k:Ab Aj}{v:Ad}{Q:Aj→Ah→Prop}(hu:A.units<Fi)(hS:Sup h0 s.heap)(hx:isT prog w h0 k v)(h:Q (Bp (Bg prog w) k) { s with toks:=s.toks+(k.length+1) }) : Ao (Au prog w) A (pyHash v) Q E s:=by
 obtain⟨a,rfl,hx⟩:=hx;exact wpAny_pyHash_tuple hu (jB hS hx) h
def eqT {k k':Ab Aj}{v v':Ad}(hu:A.units<Fi)(hS:Sup h0 s.heap)(hx:isT prog w h0 k v)(hy:isT prog w h0 k' v')(h:Q (decide (k=k')) s):Ao (Au prog w) A (eqBool v v') Q E s:=by
 obtain⟨a,rfl,hx⟩:=hx;obtain⟨b,rfl,hy⟩:=hy;exact wpAny_eqBool_tuple hu (jB hS hx) (jB hS hy) h
def t9:∀ {ks:Ab Aj} {vs:Ab Ad},ItemsAre (Bg prog w) ks vs→∀ v∈vs,∃ i t,v=.int i t:=by
 intro ks vs h
 induction h with
 |nil=>intro v hv;simp at hv
 |@cons k v' ks vs h1 _ ih =>
  intro v hv;rcases Aw.mp hv with rfl|hv
  ·cases v <;> first|exact⟨_,_,rfl⟩|exact absurd h1 (by rintro⟨⟩)
  ·exact ih v hv
def CC {k:Ab Aj}{v:Ad}(hS:Sup h0 s.heap)(hx:isT prog w h0 k v)(h:Q true s):Ao (Au prog w) A (O7 8 v) Q E s:=by
 obtain⟨a,rfl,hx⟩:=hx;have hx:=jB hS hx;have hT:=hx.typeIs;obtain⟨o,items,n,ho,_,hd,hi⟩:=hx;unfold O7;refine Ac (Wq hT F.slot_tuple_hash.lookup ?_);show Ao _ _ (Xx (.ref a) >>= _) Q E s;refine Ac (Fm ho hd ?_);refine Ac ?_;show Ao _ _ (forIn items _ _) _ _ s;rw[← Ub];refine Mc _ (λrest r s'=>r.1=none∧s'=s∧∀ v∈rest,∃ i t,v=.int i t) _ ?_ ?_ _ _ ⟨rfl,rfl,t9 hi⟩
 ·rintro v rest r s' ⟨hr,rfl,hall⟩
  obtain⟨i,t,rfl⟩:=hall v Df;show Ao _ _ (O7 7 (.int i t) >>= _) _ _ _;rw[show O7 7 (.int i t)=pure true from rfl]
  refine Ac (Al ?_);simp only[IL,Bt,Eh];exact Al ⟨rfl,rfl,λu hu'=>hall u (Bq _ hu')⟩
 ·rintro⟨r1,r2⟩ s' ⟨hr,rfl,_⟩
  simp only at hr;subst hr;exact Al h
def ZK {k:Ab Aj}{v:Ad}(hS:Sup h0 s.heap)(hx:isT prog w h0 k v)(h:Q false s):Ao (Au prog w) A (Lp 8 v) Q E s:=by
 obtain⟨a,rfl,hx⟩:=hx;have hx:=jB hS hx;have hT:=hx.typeIs;obtain⟨o,items,n,ho,_,hd,hi⟩:=hx;unfold Lp;refine Ac (Ju hT ?_);dsimp only;refine Ac (Al ?_);simp only[IL,Bt,Eh];refine Ac (Fm ho hd ?_);refine Ac ?_;show Ao _ _ (forIn items _ _) _ _ s;rw[← Ub];refine Mc _ (λrest r s'=>r.1=none∧s'=s∧∀ v∈rest,∃ i t,v=.int i t) _ ?_ ?_ _ _ ⟨rfl,rfl,t9 hi⟩
 ·rintro v rest r s' ⟨hr,rfl,hall⟩
  obtain⟨i,t,rfl⟩:=hall v Df;show Ao _ _ (Lp 7 (.int i t) >>= _) _ _ _;rw[show Lp 7 (.int i t)=pure false from rfl]
  refine Ac (Al ?_);simp only[Bt,Eh];exact Al ⟨rfl,rfl,λu hu'=>hall u (Bq _ hu')⟩
 ·rintro⟨r1,r2⟩ s' ⟨hr,rfl,_⟩
  simp only at hr;subst hr;exact Al h
def WU {k:Ab Aj}{v:Ad}(hS:Sup h0 s.heap)(hx:isT prog w h0 k v)(h:Q true s):Ao (Au prog w) A (eqIsQuiet 8 v) Q E s:=by
 obtain⟨a,rfl,hx⟩:=hx;exact wpAny_eqIsQuiet_tuple (jB hS hx) h
def oV {α:Type}{c:Prop}[OE c]{M:Ks}{t u:Kb α}{Q:α→Ah→Prop}(h1:c→Ao M A t Q E s)(h2:¬ c→Ao M A u Q E s):Ao M A (if c then t else u) Q E s:=by
 by_cases h:c
 ·rw[Bi h];exact h1 h
 ·rw[Bf h];exact h2 h
def EW {k:Ab Aj}{x:Ad}{ys:Ab Ad}(hS:Sup h0 s.heap)(hx:isT prog w h0 k x)(hy:∀ y∈ys,∃ k',isT prog w h0 k' y)(h:Q false s):Ao (Au prog w) A (Vg x ys) Q E s:=by
 unfold Vg;refine Ac ?_;refine Mc _ (λrest r s'=>r.1=none∧s'=s∧∀ v∈rest,∃ k',isT prog w h0 k' v) _ ?_ ?_ _ _ ⟨rfl,rfl,hy⟩
 ·rintro v rest r s' ⟨hr,rfl,hall⟩
  obtain⟨k',hv⟩:=hall v Df;have hrest:∀ u∈rest,∃ k',isT prog w h0 k' u:=λu hu'=>hall u (Bq _ hu');dsimp only;refine oV (λ_=>Al ⟨rfl,rfl,hrest⟩) λ_=>?_
  ·refine Ac (WU hS hx ?_)
   simp only[IL,Bt,Eh];refine Ac (WU hS hv ?_);simp only[IL,Bt,Eh];refine Ac (ZK hS hx ?_);simp only[Bt,Eh];refine Ac (ZK hS hv ?_);simp only[Bt,Eh];exact Al ⟨rfl,rfl,hrest⟩
 ·rintro⟨r1,r2⟩ s' ⟨hr,rfl,_⟩
  simp only at hr;subst hr;exact Al h
def EV {k:Ab Aj}{v:Ad}(hx:isT prog w h0 k v)(h:Q true s):Ao (Au prog w) A (isSame v v) Q E s:=by
 obtain⟨a,rfl,hx⟩:=hx;unfold isSame;simp only[Eg,Dk];exact Al h
def K7 {k:Ab Aj}{x:Ad}{S:Af}{o:Cs}{es:Ay (Aj × Ad)}{ep:Ai}{t:Ft}{seen:Ab (Ab Aj)}(hu:A.units<Fi)(hS:Sup h0 s.heap)(ho:s.heap.get? S=Aa o)(hd:o.data=.set es ep t)
  (T:TabT t es) (Z:Set0 (isT prog w h0) (Bp (Bg prog w)) es seen) (hx:isT prog w h0 k x) (N:Ai) (hNw:Way t (st t.mask (Bp (Bg prog w) k)) N)
  (hNe:(it t.mask N (st t.mask (Bp (Bg prog w) k))).j ∉ t.place.toList) (hNf:N<10*turns t.mask) {Q:SetFound→Ah→Prop}
  (h1:k∈seen→Q (.there none) s) (h2:k ∉ seen→Q (.free (it t.mask N (st t.mask (Bp (Bg prog w) k))).j false) s) :
  ∀ (fuel n:Ai) (stand:Am Lo),stand.getD (t.probeStart (Bp (Bg prog w) k))=it t.mask n (st t.mask (Bp (Bg prog w) k))→n≤N→N-n<fuel →
   (∀ (m i:Ai) (e:Aj × Ad),m<n→t.place[i]? = Aa (it t.mask m (st t.mask (Bp (Bg prog w) k))).j→es[i]? = Aa e→¬ isT prog w h0 k e.2) →
   Ao (Au prog w) A (OV S x (Bp (Bg prog w) k) true fuel stand) Q E s
 |0,n,stand,_,_,hf,_=>by omega
 |fuel+1,n,stand,hst,hn,hf,hq=>by
  unfold OV;refine Ac (Gc ho hd T.fits ?_);dsimp only;rw[T.odd];simp only[Bt,Eh];rw[hst];generalize hg:t.probe _ (Bp (Bg prog w) k) (it t.mask n (st t.mask (Bp (Bg prog w) k)))=r;obtain⟨H,hH,hg⟩:∃ H:Ai→Aj,(∀ i,H i=(es[i]?.map (·.1)).getD 0)∧t.probe H (Bp (Bg prog w) k) (it t.mask n (st t.mask (Bp (Bg prog w) k)))=r:=⟨_,λi=>rfl,hg⟩
  have itn:∀ m,it t.mask m (it t.mask n (st t.mask (Bp (Bg prog w) k)))=it t.mask (n+m) (st t.mask (Bp (Bg prog w) k)):=λm=>(t8 _ _ _ _).symm;have gm:Meets t H (Bp (Bg prog w) k) (it t.mask n (st t.mask (Bp (Bg prog w) k))) (10*turns t.mask) r:=by
   rw[← hg];refine gU T.tb H _ _ _ (by rw[mE];rfl) ⟨N-n,by omega,?_⟩
   rw[itn,show n+(N-n)=N by omega]
   exact hNe
  have miss:∀ j:Ai,(∀ m i:Ai,m<j→t.place[i]? = Aa (it t.mask m (it t.mask n (st t.mask (Bp (Bg prog w) k)))).j→H i≠Bp (Bg prog w) k) →
    ∀ (m i:Ai) (e:Aj × Ad),m<n+j→t.place[i]? = Aa (it t.mask m (st t.mask (Bp (Bg prog w) k))).j→es[i]? = Aa e→¬ isT prog w h0 k e.2:=λj qj m i e hm ei ee hk=>by
   by_cases hmn:m<n
   ·exact hq m i e hmn ei ee hk
   ·refine qj (m-n) i (by omega) (by rw[itn,show n+(m-n)=m by omega];exact ei) ?_
    rw[hH,ee];obtain⟨k',e1,e2⟩:=Z.good e (Cf (by rw[Bj];exact ee))
    rw[isT.inj hk e2];simpa using e1
  cases gm with
  |emp j hj w' e' q =>
   rw[itn] at e';have hjN:n+j=N:=by
    rcases Vh (n+j) N with h|h|h
    ·exact absurd (hNw _ h) e'
    ·exact h
    ·have:=w' (N-n) (by omega)
     rw[itn,show n+(N-n)=N by omega] at this
     exact absurd this hNe
   dsimp only;rw[itn,hjN];refine Al (h2 λhk=>?_);obtain⟨e,he,hke⟩:=(Z.mem k).mp hk;obtain⟨i,hi,ei⟩:=Cg.mp he;have ei':es[i]? = Aa e:=by rw[← Bj,Ap hi,ei]
   obtain⟨m,w1,w2⟩:=T.way i e ei';obtain⟨k',g1,g2⟩:=Z.good e he;have:=isT.inj hke g2;subst this;rw[g1] at w1 w2;have hmN:m<N:=by
    apply Fq;intro hc;by_cases hmN:m=N
    ·subst hmN
     exact hNe (Cf (by rw[Bj];exact w1))
    ·exact hNe (w2 N (by omega))
   exact miss j q m i e (by omega) w1 ei' hke
  |cand j i hj w' e' hh q =>
   rw[itn] at e';have hi:i<es.size:=by
    rw[← T.size];exact(Dw.mp e').1
   have ei:es[i]? = Aa es[i]:=DL hi;have hjN:n+j<N:=by
    rcases Vh (n+j) N with h|h|h
    ·exact h
    ·rw[h] at e'
     exact absurd (Cf (by rw[Bj];exact e')) hNe
    ·have:=w' (N-n) (by omega)
     rw[itn,show n+(N-n)=N by omega] at this
     exact absurd this hNe
   obtain⟨k',g1,g2⟩:=Z.good es[i] (by simp)
   dsimp only;have main:Ao (Au prog w) A (do
     let Aa (_,y):=es[i]?|unsupported "internal:set-entry"
     let equal ← holding [y] (eqBool y x)
     let (es',_,t') ← Tp S
     if true&&equal then return .there none
     let Aa same:=t'.sameMemory t.moves t.mask|unsupported "set.changed-during-lookup:is-the-new-block-at-the-old-address"
     let still ← match (if same then t'.slot (it t.mask j (it t.mask n (st t.mask (Bp (Bg prog w) k)))).j else .empty) with
      |.live i'=>match es'[i']? with
       |some (_,y')=>do pure (if ← isSame y' y then Aa i' else none)
       |none=>pure none
      |_=>pure none
     match still with
     |none=>rule "set.search.anew";OV S x (Bp (Bg prog w) k) true fuel none
     |some i'=>if equal then return .there (Aa i') else OV S x (Bp (Bg prog w) k) true fuel (Aa (it t.mask (j+1) (it t.mask n (st t.mask (Bp (Bg prog w) k)))))) Q E s:=by
    rw[ei];dsimp only;refine Ac (Du (eqT hu hS g2 hx ?_));refine Ac (Gc ho hd T.fits ?_);by_cases hkk:k'=k
    ·subst hkk
     simp only[IW,Bool.and_self,Dk];exact Al (h1 ((Z.mem k').mpr ⟨es[i],by simp,g2⟩))
    ·simp only[hkk,IZ,Oe,Bt,Eh]
     have hm:t.sameMemory t.moves t.mask=Aa true:=by simp[SetTable.sameMemory]
     rw[hm];dsimp only;rw[itn,dR T.tb e'];simp only[Dk,ei];refine Ac (EV g2 ?_);simp only[Dk];refine Ac (Al ?_);dsimp only;refine K7 hu hS ho hd T Z hx N hNw hNe hNf h1 h2 fuel (n+j+1) _ ?_ (by omega) (by omega) λm i' e hm ei' ee hk=>?_
     ·rw[Pp,itn]
      rfl
     ·by_cases hmj:m<n+j
      ·exact miss j q m i' e hmj ei' ee hk
      ·have:m=n+j:=by omega
       subst this;have:=Y1 T.tb.rs ei' e';subst this;rw[ei] at ee;cases ee;exact hkk (isT.inj g2 hk)
   refine oV (λ_=>?_) λ_=>?_
   ·refine Ac (EW hS hx (λy hy=>?_) ?_)
    ·obtain⟨e,he,rfl⟩:=Dl.mp hy
     have:e∈es.toList:=by
      have:=(Mw.mp he);exact Mw.mpr (Array.mem_filter.mp this).1
     obtain⟨k2,_,g⟩:=Z.good e this;exact⟨k2,g⟩
    ·simp only[Bt,Eh]
     exact main
   ·exact main
end
end _S
namespace _S
open PySem
open PySem.SetTable (Probe leap runEnd turns bits)
@[reducible] def setO (es:Ay (Aj × Ad))(ep:Ai)(t:Ft):Cs:={ cls:=.type "set",dict:=none,data:=.set es ep t }
def fG {h:Bs}{S:Af}{es es':Ay (Aj × Ad)}{ep:Ai}{t t':Ft}(ho:h.get? S=Aa (setO es ep t)):(h.update S (Xd es' t')).get? S=Aa (setO es' (ep+1) t'):=Et _ ho rfl
structure SetK {K:Type}(is:K→Ad→Prop)(hash:K→Aj)(S:Af)(led:Ar)(V:Ab Ad)(seen:Ab K)(h:Bs):Prop where
 ex:∃ es ep t,h.get? S=Aa (setO es ep t)∧Set0 is hash es seen∧TabT t es∧t.led=led∧∀ e∈es.toList,e.2∈V
section
variable {prog:Bl}{w:Bz}{h0:Bs}{A:By}{E:Ad→Ah→Prop}{s:Ah}{S:Af}{led:Ar}{V:Ab Ad}
def JD (a:Af)(wanted:Ai):setRelay a wanted=(do
  let (es,_,t) ← Tp a
  if Fa wanted>sizeLine then unsupported "set:memory"
  let (es,t) ← (do
   let Aa (t,qW):=t.relaid (es.map (·.1)) wanted|unsupported "internal:set-table-without-room"
   let es':=qW.filterMap (es[·]?)
   if es'.size != es.size then unsupported "internal:set-table-lost-an-element"
   pure (es',t))
  storeSet a es t):=rfl
def HZ {seen:Ab (Ab Aj)}{k:Ab Aj}{x:Ad}{Q:Ar→Ah→Prop}(hu:A.units<Fi)(hS:Sup h0 s.heap)(Z:SetK (isT prog w h0) (Bp (Bg prog w)) S led V seen s.heap)(hx:isT prog w h0 k x)(hV:x∈V){U:Ab (Ab Aj)}(hU:U.length≤1000)(hU1:∀ k'∈seen,k'∈U)(hU2:k∈U)
  (h:∀ (b:Ar) (h':Bs) (tk:Ai),s.toks≤tk→Ex S s.heap h'→SetK (isT prog w h0) (Bp (Bg prog w)) S led V (k::seen) h'→Q b { s with heap:=h',toks:=tk }) : Ao (Au prog w) A (Wc S x) Q E s:=by
 obtain⟨es,ep,t,ho,Z,T,hl,hm⟩:=Z;unfold Wc;refine Du (Ac (RW hu hS hx ?_));unfold setAddHashed setAddHashedIn;refine Du (Ac (Gc (s:={ s with toks:=s.toks+(k.length+1) }) ho rfl T.fits ?_))
 dsimp only;have hsc:byScan x es=false:=by
  obtain⟨a,rfl,_⟩:=hx;rfl
 rw[hsc];simp only[Bt,Eh];obtain⟨e,he,hne⟩:=T.gap;have first:∃ N,Way t (st t.mask (Bp (Bg prog w) k)) N∧(it t.mask N (st t.mask (Bp (Bg prog w) k))).j ∉ t.place.toList∧N<10*turns t.mask:=by
  obtain⟨N,hN,eN⟩:=rY T.msk (Bp (Bg prog w) k) he;have gm:=gU T.tb (λ_=>Bp (Bg prog w) k+1) (Bp (Bg prog w) k) (10*turns t.mask) (st t.mask (Bp (Bg prog w) k)) rfl ⟨N,hN,by rw[eN];exact hne⟩
  generalize Jp t _ _ _ _=r at gm;cases gm with
  |emp j hj w' e' q=>exact⟨j,w',e',hj⟩
  |cand j i hj w' e' hh q=>exact absurd hh (by omega)
 obtain⟨N,hNw,hNe,hNf⟩:=first
 have hNt:N<100000:=by
  have:turns t.mask≤2200:=by
   unfold turns;rcases T.msk with h|h|h|h|h <;> rw[h] <;> omega
  omega
 refine Ac (K7 (s:={ s with toks:=s.toks+(k.length+1) }) hu hS ho rfl T Z hx N hNw hNe hNf (λhk=>?_) (λhk=>?_) 100000 0 none rfl (by omega) (by omega) λm i e hm=>by omega)
 ·exact Al (h _ s.heap _ (by omega) (OS _ _) ⟨es,ep,t,ho,Z.again hk,T,hl,hm⟩)
 ·have hle:es.size<1000:=Bv (Z.few hU1 hU2 hk) hU
  dsimp only;refine Ac (Gc (s:={ s with toks:=s.toks+(k.length+1) }) ho rfl T.fits ?_)
  obtain⟨p1,p2,p3,p4⟩:=T.put (h:=Bp (Bg prog w) k) (x:=x) hNw hNe (GA _ _ _);generalize hj:(it t.mask N (st t.mask (Bp (Bg prog w) k))).j=j at *;have m1:(t.put j).1.mask=t.mask:=rfl;have m2:(t.put j).1.plain=true:=T.plain;have m3:(t.put j).1.led=led:=hl;generalize hp:t.put j=tp at *;obtain⟨t1,p⟩:=tp;dsimp only at p1 p2 p3 p4 m1 m2 m3 ⊢;rw[m2];simp only[Dk];refine Ac (CC (s:={ s with toks:=s.toks+(k.length+1) }) hS hx ?_)
  simp only[Dk,Rz,Te];have hsz:(Bx es p (Bp (Bg prog w) k,x)).size=es.size+1:=uW _ _ _;have hline:es.size+1≤sizeLine:=by rw[Fe];omega
  refine Ac (Lq (s:={ s with toks:=s.toks+(k.length+1) }) ho rfl ?_ (by rw[hsz];exact hline))
  have Z1:Set0 (isT prog w h0) (Bp (Bg prog w)) (Bx es p (Bp (Bg prog w) k,x)) (k::seen):=by
   refine Z.push (λa b=>isT.inj a b) hx hk ?_;have:=Ie es p (Bp (Bg prog w) k,x);rw[Eo] at this;exact this
  have hm1:∀ e∈(Bx es p (Bp (Bg prog w) k,x)).toList,e.2∈V:=λe he=>by
   have:=(Ie es p (Bp (Bg prog w) k,x)).mem_iff.mp he;rw[Eo] at this;rcases Ch.mp this with h1|h1
   ·exact hm e h1
   ·simp at h1;subst h1;exact hV
  have ho1:=fG (es':=Bx es p (Bp (Bg prog w) k,x)) (t':=t1) ho;have sb1:=Hk s.heap S (Xd (Bx es p (Bp (Bg prog w) k,x)) t1);have hfit:t1.fits (Bx es p (Bp (Bg prog w) k,x)).size=true:=by
   have h3:t1.fill=es.size+1:=by unfold Kg;rw[p1.dm,p2,hsz];rfl
   have h2:=T.few;unfold Td;rw[h3,p2,hsz,m1];rcases T.msk with h|h|h|h|h <;> rw[h] at h2 ⊢ <;> simp <;> omega
  refine oV (λhf=>?_) λhf=>?_
  ·have hM1:Msk t1.mask:=by rw[m1];exact T.msk
   have h3:((Bx es p (Bp (Bg prog w) k,x)).size-1)*5<t1.mask*3:=by rw[hsz,m1];exact T.few
   obtain⟨q1,t2,qW,q2,q3,q4,q5,_⟩:=fY hM1 m2 p2 (by rw[hsz];omega) (by simpa using hf) p1.dm h3 (by rw[hsz];omega)
   rw[hsz] at q1 q2;rw[JD];refine Ac ?_;refine Ac (Gc (s:={ s with heap:=_,toks:=s.toks+(k.length+1) }) ho1 rfl hfit ?_)
   dsimp only;rw[Bf (by rw[Fe];omega)]
   refine Ac ?_;rw[q2];dsimp only;have hs2:(qW.filterMap λx_1=>(Bx es p (Bp (Bg prog w) k,x))[x_1]?).size=es.size+1:=by rw[← Bh,q4.length_eq,Bh,hsz]
   rw[Bf (by rw[hs2,hsz];simp)]
   refine Al ?_;refine Lq (s:={ s with heap:=_,toks:=s.toks+(k.length+1) }) ho1 rfl ?_ (by rw[hs2];exact hline)
   refine Al (h _ _ _ (IV _ _) (sb1.trans (Hk _ S _)) ⟨_,_,t2,fG ho1,Z1.perm q4,q5,by rw[q3];exact m3,λe he=>hm1 e (q4.mem_iff.mp he)⟩)
  ·refine Al (h _ _ _ (IV _ _) sb1 ⟨_,_,t1,ho1,Z1,⟨p1,by rw[m1];exact T.msk,p2,by rw[m1];exact p3,?_,by rw[m1];exact p4,m2⟩,m3,hm1⟩)
   have h3:t1.fill=es.size+1:=by unfold Kg;rw[p1.dm,p2,hsz];rfl
   unfold Pr at hf;rw[h3] at hf;rw[hsz];simpa using hf
end
end _S
namespace _S
open PySem
open PySem.SetTable (Probe leap runEnd turns bits)
variable {seen:Ab Aj}
def isI (prog:Bl)(w:Bz)(k:Aj)(v:Ad):Prop:=(Bg prog w).is k v=true
section
variable {prog:Bl}{w:Bz}{A:By}{E:Ad→Ah→Prop}{s:Ah}{S:Af}{led:Ar}{V:Ab Ad}
set_option tactic.hygienic true in
def yI {k:Aj}{v:Ad}(h:isI prog w k v):∃ t,v=.int k t:=by
 cases v <;> first|(exact absurd h (by rintro⟨⟩)) | skip
 rename_i i t;refine⟨t,?_⟩;have:i=k:=(Bg prog w).inj (.int i t) i k (Tf _ _ _ _) h;rw[this]
def rH {es:Ay (Aj × Ad)}(Z:Set0 (isI prog w) (Bg prog w).hash es seen):ElemsOf (Bg prog w) es.toList:=λe he=>by
 obtain⟨k,h1,h2⟩:=Z.good e he;refine⟨⟨k,h2,h1⟩,?_⟩;obtain⟨t,q⟩:=yI h2;rw[q];rfl
def HY {k:Aj}{x:Ad}{Q:Ar→Ah→Prop}(Z:SetK (isI prog w) (Bg prog w).hash S led V seen s.heap)(hx:isI prog w k x)(hV:x∈V){U:Ab Aj}(hU:U.length≤1000)(hU1:∀ k'∈seen,k'∈U)(hU2:k∈U)
  (h:∀ (b:Ar) (h':Bs) (tk:Ai),s.toks≤tk→Ex S s.heap h'→SetK (isI prog w) (Bg prog w).hash S led V (k::seen) h'→Q b { s with heap:=h',toks:=tk }) : Ao (Au prog w) A (Wc S x) Q E s:=by
 obtain⟨es,ep,t,ho,Z,T,hl,hm⟩:=Z;have hsc:x.scannable=true:=by
  obtain⟨tk,q⟩:=yI hx;rw[q];rfl
 have hf:=T.fits;have hb:es.size<scanBound:=by
  have h1:=T.few;have:scanBound=4096:=rfl;rcases T.msk with h|h|h|h|h <;> rw[h] at h1 <;> omega
 unfold Wc;refine Du (Ac ((Bg prog w).pyHash (k:=k) hx ?_));unfold setAddHashed setAddHashedIn;refine Du (Ac (Gc (s:={ s with toks:=s.toks+1 }) ho rfl hf ?_))
 dsimp only;rw[byScan_of hsc hb (rH Z)];simp only[Dk];unfold setAddByScan;refine Ac (Ac (Hc (Ac (wpAny_setScan_of (s:={ s with toks:=s.toks+1 }) hx ho rfl hf (rH Z) ?_))))
 cases hr:es.toList.findIdx? (λe=>(Bg prog w).is k e.2) with
 |some j =>
  dsimp only;obtain⟨hj,hpj,_⟩:=List.findIdx?_eq_some_iff_getElem.mp hr;have hk:k∈seen:=(Z.mem k).mpr ⟨es.toList[j],Mm hj,hpj⟩;exact Al (Al (h _ s.heap _ (IV _ _) (OS _ _) ⟨es,ep,t,ho,Z.again hk,T,hl,hm⟩))
 |none =>
  dsimp only;have hk:k ∉ seen:=λhk=>by
   obtain⟨e,he,q⟩:=(Z.mem k).mp hk;have:=List.findIdx?_eq_none_iff.mp hr e he;rw[show (Bg prog w).is k e.2=true from q] at this
   cases this
  have hle:es.size<1000:=Bv (Z.few hU1 hU2 hk) hU;obtain⟨e,he,hne⟩:=T.gap;have first:∃ N,Way t (st t.mask ((Bg prog w).hash k)) N∧(it t.mask N (st t.mask ((Bg prog w).hash k))).j ∉ t.place.toList∧t.freeSlot ((Bg prog w).hash k)=Aa ((it t.mask N (st t.mask ((Bg prog w).hash k))).j,false):=by
   obtain⟨N,hN,eN⟩:=rY T.msk ((Bg prog w).hash k) he;have gm:=gU T.tb (λ_=>(Bg prog w).hash k+1) ((Bg prog w).hash k) (10*turns t.mask) (st t.mask ((Bg prog w).hash k)) rfl ⟨N,hN,by rw[eN];exact hne⟩
   unfold SetTable.freeSlot SetTable.probe;rw[H0];generalize Jp t _ _ _ _=r at gm;cases gm with
   |emp j hj w' e' q=>exact⟨j,w',e',rfl⟩
   |cand j i hj w' e' hh q=>exact absurd hh (by omega)
  obtain⟨N,hNw,hNe,hfs⟩:=first
  obtain⟨p1,p2,p3,p4⟩:=T.put (h:=(Bg prog w).hash k) (x:=x) hNw hNe (GA _ _ _);generalize hj:(it t.mask N (st t.mask ((Bg prog w).hash k))).j=j at *;have m1:(t.put j).1.mask=t.mask:=rfl;have m2:(t.put j).1.plain=true:=T.plain;have m3:(t.put j).1.led=led:=hl;generalize hp:t.put j=tp at *;obtain⟨t1,p⟩:=tp;dsimp only at p1 p2 p3 p4 m1 m2 m3 ⊢;have hsz:(Bx es p ((Bg prog w).hash k,x)).size=es.size+1:=uW _ _ _;have hfit:t1.fits (Bx es p ((Bg prog w).hash k,x)).size=true:=by
   have h3:t1.fill=es.size+1:=by unfold Kg;rw[p1.dm,p2,hsz];rfl
   have h2:=T.few;unfold Td;rw[h3,p2,hsz,m1];rcases T.msk with h|h|h|h|h <;> rw[h] at h2 ⊢ <;> simp <;> omega
  have lay:layNew t es ((Bg prog w).hash k) x=(Bx es p ((Bg prog w).hash k,x),t1,false,false):=by
   unfold layNew;rw[hfs];dsimp only;rw[hp];dsimp only;unfold SetTable.orStandIn;rw[hfit];rfl
  rw[lay];dsimp only;refine Ac (Al (a:=()) ?_);have hbv:O7 8 x=pure true:=by
   rw[hashByValue_scannable 8 hsc];obtain⟨tk,q⟩:=yI hx;subst q;rfl
  rw[hbv,ite_self];refine Ac (Al ?_);simp only[Dk];have hline:es.size+1≤sizeLine:=by rw[Fe];omega
  refine Ac (Lq (s:={ s with toks:=s.toks+1 }) ho rfl ?_ (by rw[hsz];exact hline))
  have pm:(Bx es p ((Bg prog w).hash k,x)).toList.Perm (es.toList++[((Bg prog w).hash k,x)]):=by
   have:=Ie es p ((Bg prog w).hash k,x);rw[Eo] at this;exact this
  have Z1:Set0 (isI prog w) (Bg prog w).hash (Bx es p ((Bg prog w).hash k,x)) (k::seen):=Z.push (λa b=>(Bg prog w).inj _ _ _ a b) hx hk pm;have hm1:∀ e∈(Bx es p ((Bg prog w).hash k,x)).toList,e.2∈V:=λe he=>by
   rcases Ch.mp (pm.mem_iff.mp he) with h1|h1
   ·exact hm e h1
   ·simp at h1;subst h1;exact hV
  have ho1:=fG (es':=Bx es p ((Bg prog w).hash k,x)) (t':=t1) ho;have sb1:=Hk s.heap S (Xd (Bx es p ((Bg prog w).hash k,x)) t1);refine oV (λhf=>?_) λhf=>?_
  ·have hM1:Msk t1.mask:=by rw[m1];exact T.msk
   have h3:((Bx es p ((Bg prog w).hash k,x)).size-1)*5<t1.mask*3:=by rw[hsz,m1];exact T.few
   obtain⟨q1,t2,qW,q2,q3,q4,q5,q6⟩:=fY hM1 m2 p2 (by rw[hsz];omega) (by simpa using hf) p1.dm h3 (by rw[hsz];omega)
   have hs2:(qW.filterMap λx_1=>(Bx es p ((Bg prog w).hash k,x))[x_1]?).size=es.size+1:=by rw[← Bh,q4.length_eq,Bh,hsz]
   have rl:relayAll t1 (Bx es p ((Bg prog w).hash k,x)) (Hi (Bx es p ((Bg prog w).hash k,x)).size)=(qW.filterMap λx_1=>(Bx es p ((Bg prog w).hash k,x))[x_1]?,t2,false):=by
    unfold relayAll;rw[q2];dsimp only;have c1:coversAll qW (Bx es p ((Bg prog w).hash k,x)).size=true:=by
     unfold coversAll;exact List.isPerm_iff.mpr q6
    rw[c1,q5.fits];rfl
   rw[rl];dsimp only;refine Ac (Al (a:=()) ?_);refine Ac (Lq (s:={ s with heap:=_,toks:=s.toks+1 }) ho1 rfl ?_ (by rw[hs2];exact hline))
   exact Al (Al (h _ _ _ (IV _ _) (sb1.trans (Hk _ S _)) ⟨_,_,t2,fG ho1,Z1.perm q4,q5,by rw[q3];exact m3,λe he=>hm1 e (q4.mem_iff.mp he)⟩))
  ·refine Al (Al (h _ _ _ (IV _ _) sb1 ⟨_,_,t1,ho1,Z1,⟨p1,by rw[m1];exact T.msk,p2,by rw[m1];exact p3,?_,by rw[m1];exact p4,m2⟩,m3,hm1⟩))
   have h3:t1.fill=es.size+1:=by unfold Kg;rw[p1.dm,p2,hsz];rfl
   unfold Pr at hf;rw[h3] at hf;rw[hsz];simpa using hf
end
end _S
namespace _S
open PySem
variable {Q:Ad→Ah→Prop}{i:Ai}
structure AddS (prog:Bl)(w:Bz){K:Type}(is:K→Ad→Prop)(hash:K→Aj)(h0:Bs):Prop where
 add:∀ {A:By} {E:Ad→Ah→Prop} {s:Ah} {S:Af} {led:Ar} {V:Ab Ad} {seen U:Ab K} {k:K} {x:Ad} {Q:Ar→Ah→Prop},A.units<Fi→Sup h0 s.heap→SetK is hash S led V seen s.heap→is k x→x∈V→U.length≤1000→(∀ k'∈seen,k'∈U)→k∈U →
  (∀ (b:Ar) (h':Bs) (tk:Ai),s.toks≤tk→Ex S s.heap h'→SetK is hash S led V (k::seen) h'→Q b { s with heap:=h',toks:=tk }) → Ao (Au prog w) A (Wc S x) Q E s
def MT {prog:Bl}{w:Bz}(h0:Bs):AddS prog w (isT prog w h0) (Bp (Bg prog w)) h0:=⟨λhu hS Z hx hV h1 h2 h3 h=>HZ hu hS Z hx hV h1 h2 h3 h⟩
def MS {prog:Bl}{w:Bz}(h0:Bs):AddS prog w (isI prog w) (Bg prog w).hash h0:=⟨λ_ _ Z hx hV h1 h2 h3 h=>HY Z hx hV h1 h2 h3 h⟩
def yY {K:Type}(key:Ai→K):Ai→Ab K
 |0=>[]
 |i+1=>key i::yY key i
def kQ {K:Type}{key:Ai→K}{k:K}:∀ {n:Ai},k∈yY key n↔∃ i,i<n∧key i=k
 |0=>by simp[yY]
 |n+1=>by
  rw[yY,Aw,kQ];constructor
  ·rintro (rfl|⟨i,h,e⟩)
   ·exact⟨n,by omega,rfl⟩
   ·exact⟨i,by omega,e⟩
  ·rintro⟨i,h,e⟩
   by_cases hi:i=n
   ·subst hi;exact .inl e.symm
   ·exact .inr ⟨i,by omega,e⟩
section
variable {prog:Bl}{w:Bz}{A:By}{R:Tn→Ah→Prop}{I:Af}{fp wr:Ab Af}{G:Ay Wj→Ay Wj→Prop}{n:Ai}{P:Ai→Ad→Prop}{St:Ai→Ah→Prop}
variable {K:Type}{is:K→Ad→Prop}{hash:K→Aj}{h0:Bs}{led:Ar}{V:Ab Ad}{U:Ab K}
def SetK.sup {S:Af}{seen:Ab K}{h h':Bs}(Z:SetK is hash S led V seen h)(e:∀ o,h.get? S=Aa o→h'.get? S=Aa o):SetK is hash S led V seen h':=by
 obtain⟨es,ep,t,ho,r⟩:=Z;exact⟨es,ep,t,e _ ho,r⟩
def iS (a:AddS prog w is hash h0)(W:WalksS prog w A.in1 I fp wr G n P St)(S:Af)(hSf:S ∉ fp)(hu:A.in1.units<Fi)(key:Ai→K)(hkey:∀ i v,P i v→is (key i) v∧v∈V)(hU:U.length≤1000)(hUk:∀ i,i<n→key i∈U)
  (hS0:h0.get? S=none) (hw0:∀ b∈wr,h0.get? b=none):∀ (k i:Ai) (s:Ah),n-i=k→i≤n→St i s→Sup h0 s.heap→SetK is hash S led V (yY key i) s.heap →
   (∀ s',Moved (S::wr) G s s'→SetK is hash S led V (yY key n) s'.heap→R (.ok (.ret .none)) s')→Jd (Au prog w) A (.builtin "set.update.loop" ⟨[.ref S,.ref I],[]⟩) R s:=by
 have hSw:S ∉ wr:=λh=>hSf (W.sub _ h);have hsub:∀ b∈wr,b∈S::wr:=λb hb=>Bq _ hb;intro k
 induction k with
 |zero =>
  intro i s hk hi hst hS Z hR;have hin:i=n:=by omega
  subst hin;refine Gf Kl ?_;rw[Gi Ih _];show Ao _ A.in1 (Ld (.ref I) >>= _) _ _ s;refine Ac (W.done s _ _ hst λs' hm=>?_);exact Al (hR s' (hm.mono hsub) (Z.sup λo e=>hm.heap S _ hSw e))
 |succ k ih =>
  intro i s hk hi hst hS Z hR;have hlt:i<n:=by omega
  refine Gf Kl ?_;rw[Gi Ih _];show Ao _ A.in1 (Ld (.ref I) >>= _) _ _ s;refine Ac (W.item i s _ _ hlt hst λv s' hP hst' hm=>?_);obtain⟨q1,q2⟩:=hkey i v hP;have hS':Sup h0 s'.heap:=λb o e=>hm.heap b o (λhb=>by rw[hw0 b hb] at e;cases e) (hS b o e)
  show Ao _ A.in1 (holding [v] (Wc S v) >>= _) _ _ s';refine Ac (Du (a.add hu hS' (Z.sup λo e=>hm.heap S _ hSw e) q1 q2 hU (λk' hk'=>?_) (hUk i hlt) λb h' tk htk hsb Z'=>?_))
  ·obtain⟨j,hj,e⟩:=kQ.mp hk'
   exact e▸hUk j (by omega)
  ·refine Al ⟨IM Ih _,ih (i+1) _ (by omega) hlt (W.frame _ s' _ _ hst' htk λb hb o e=>?_) (λb o e=>?_) Z' λs'' hm'' Z''=>?_⟩
   ·rw[hsb.2 b (λh:b=S=>hSf (by rw[← h];exact hb))];exact e
   ·rw[hsb.2 b (λh:b=S=>by rw[h,hS0] at e;cases e)];exact hS' b o e
   ·refine hR s'' (Moved.trans W.gtrans ((hm.mono hsub).then_heap htk λb o hb e=>?_) hm'') Z''
    rw[hsb.2 b (λh:b=S=>hb (by rw[h];exact Df))];exact e
end
section
variable {prog:Bl}{w:Bz}{A:By}{E:Ad→Ah→Prop}{s:Ah}
def yG (w:Bz):Ar:=!w.params.followText "set-order"
@[reducible] def set0 (w:Bz):Cs:=setO #[] 0 (.fresh 0 0 (yG w))
def fX (a:Ad){Q₁:Ad→Ah→Prop}(h:Q₁ (.ref s.heap.objs.size) { s with heap:=s.heap.push (set0 w) }) : Jd (Au prog w) A (.call (.builtin "set.__new__") ⟨[.type "set",a],[]⟩) (wants Q₁ E) s:=by
 refine Qt ?_;show Ao _ A.in1 (do Po "set.__new__" ⟨[.type "set",a],[]⟩;again (.builtin "set.__new__" ⟨[.type "set",a],[]⟩)) _ _ s
 refine Ac (Mk (PySem.F.newCall_set_1 a) (Al ⟨IM Rk _,Gf PySem.F.entry_set_new ?_⟩));rw[Gi Rk _];unfold Hw.«set.__new__» Xp;have hsub:=PySem.sub_set_self;obtain⟨hp,g,d,tk,os⟩:=s;dsimp only
 wp_walk
 refine Jz (Al ?_);dsimp only;simp only[newObj];exact Ac (wpAny_alloc (Al (Al h)))
def dY (w:Bz):TabT (.fresh 0 0 (yG w)) #[]:=⟨⟨by unfold Rs;exact ON,rfl⟩,.inl rfl,rfl,λx hx=>(by cases hx),(show 0*5<7*3 by decide),λi e h=>(by simp at h),rfl⟩
variable {K:Type}{is:K→Ad→Prop}{hash:K→Aj}{U:Ab K}
def YR (a:AddS prog w is hash s.heap){l:Af}{items:Ay Ad}{Q:Ad→Ah→Prop}(hh:A.handled=none)(hu:A.units+8<Fi)(hl:s.heap.IsList l items)(key:Ai→K)(hkey:∀ i v,items[i]? = Aa v→is (key i) v)(hU:U.length≤1000)(hUk:∀ i,i<items.size→key i∈U)
  (h:∀ (h':Bs) (tk:Ai),SetK is hash s.heap.objs.size (yG w) items.toList (yY key items.size) h'→(∀ b o,s.heap.get? b=Aa o→h'.get? b=Aa o)→Q (.ref s.heap.objs.size) { s with heap:=h',toks:=tk }) :
  Ao (Au prog w) A (call (.type "set") [.ref l]) Q E s:=by
 obtain⟨c,tl,hmro⟩:=Do.mro;have hmade:=Do.made;have hsub:=Do.sub;refine Np (Qt ?_);show Ao _ _ (callAny (.type "set") _) _ _ _;refine Al ⟨Ov _ (by decide +kernel),Gf Pz ?_⟩
 rw[Uc (Rl "set" [.ref l] []) rfl];have h1:=Do.notType;have h2:=Do.canCreate;have hct:=Qu (.ref l)
 repeat (any_goals (first|assumption|wp_step))
 refine IX (fX (.ref l) (E:=E) (Q₁:=λobj s₁=>obj=.ref s.heap.objs.size∧s₁={ s with heap:=s.heap.push (set0 w) }) ⟨rfl,rfl⟩) λr s₁ hr=>?_
 cases r with
 |error e=>exact hr
 |ok fl =>
  cases fl with
  |ret obj =>
   obtain⟨rfl,rfl⟩:=hr;have hS:(s.heap.push (set0 w)).get? s.heap.objs.size=Aa (set0 w):=Bb _ rfl;have hT:OW { s with heap:=s.heap.push (set0 w) } (.ref s.heap.objs.size) "set":=⟨_,hS,rfl⟩
   have hli:=Do.init.lookup;have hbi:=Do.init.bind (.ref s.heap.objs.size)
   repeat (any_goals (first|assumption|wp_step))
   refine IX (Jw (R:=wants (λr s₂=>r=.none∧∃ h' tk,s₂={ s with heap:=h',toks:=tk } ∧ SetK is hash s.heap.objs.size (yG w) items.toList (yY key items.size) h'∧∀ b o,s.heap.get? b=Aa o→h'.get? b=Aa o) E) Do.init.plain Qv (Wd hT ?_)) λr₂ s₂ hr₂=>?_
   ·obtain⟨ol,hol,hcl,nl,hdl⟩:=hl
    obtain⟨ocls,odict,odata,oslots⟩:=ol;simp only at hcl hdl;subst hcl;subst hdl;have hol':(s.heap.push (set0 w)).get? l=Aa { cls:=.type "list",dict:=odict,data:=.seq items nl,slots:=oslots }:=Ag _ hol;have hsls:=PySem.F.sub_list_set;have hslf:=PySem.F.sub_list_frozenset;have hne:(Hv "list" == Hv "dict")=false:=by decide
    have hl1:(s.heap.push (set0 w)).IsList l items:=⟨_,hol',rfl,nl,rfl⟩;unfold Hw.«set.__init__» noKeywords Nw;generalize hPI:Nj=PI
    wp_walk
    subst hPI;refine Gb hl1 ?_;refine Ac (Sa ?_);have hlS:l<s.heap.objs.size:=Ax hol;have hneI:l≠(s.heap.push (set0 w)).objs.size:=by
     rw[Ea];exact Cj (II hlS)
    have nS:s.heap.get? s.heap.objs.size=none:=IN (Av _);have nI:s.heap.get? (s.heap.push (set0 w)).objs.size=none:=IN (by rw[Ea];exact Rh _)
    refine iS (led:=yG w) (V:=items.toList) a ((Ta (A:=A.in1.in1.in1) (by simp[hh]) _ l hneI items).toS) s.heap.objs.size ?_ (by show A.units+3<Fi;omega) key (λi v hv=>⟨hkey i v hv,?_⟩) hU hUk nS (λb hb=>?_) (items.size-0) 0 _ (by omega) (HT _)
     ⟨⟨_,Bb _ rfl,rfl,rfl⟩,hl1.push _⟩ (λb o e=>Ag _ (Ag _ e)) ?_ λs' hm hS'=>?_
    ·rw[Ea];simp only[Aw,Dg,Cw,Fz,To]
     exact⟨Cj (Hs _),Hf hlS⟩
    ·exact Cf (by rw[Bj];exact hv)
    ·rw[Dg.mp hb];exact nI
    ·exact⟨#[],0,_,Ag _ hS,Set0.nil,dY w,rfl,λe he=>by simp at he⟩
    ·obtain⟨h',g',d',tk',os'⟩:=s'
     have eg:g'=s.gens:=hm.gens;have ed:d'=s.drawn:=hm.drawn;have eo:os'=s.os:=hm.os;subst eg;subst ed;subst eo;refine Al (Al ⟨rfl,h',tk',rfl,hS',λb o e=>?_⟩);refine hm.heap b o (λhb=>?_) (Ag _ (Ag _ e));rcases Aw.mp hb with rfl|hb
     ·rw[nS] at e;cases e
     ·rw[Dg.mp hb,nI] at e;cases e
   ·cases r₂ with
    |error e=>exact hr₂
    |ok fl₂ =>
     cases fl₂ with
     |ret r =>
      obtain⟨rfl,h',tk,rfl,hS',hk'⟩:=hr₂
      repeat (any_goals (first|assumption|wp_step))
      exact h _ _ hS' hk'
     |_=>exact hr₂.elim
  |_=>exact hr.elim
def ZH (a:AddS prog w is hash s.heap){l:Af}{items:Ay Ad}{Q:Ad→Ah→Prop}(hh:A.handled=none)(hu:A.units+8<Fi)(hl:s.heap.IsTuple l items)(key:Ai→K)(hkey:∀ i v,items[i]? = Aa v→is (key i) v)(hU:U.length≤1000)(hUk:∀ i,i<items.size→key i∈U)
  (h:∀ (h':Bs) (tk:Ai),SetK is hash s.heap.objs.size (yG w) items.toList (yY key items.size) h'→(∀ b o,s.heap.get? b=Aa o→h'.get? b=Aa o)→Q (.ref s.heap.objs.size) { s with heap:=h',toks:=tk }) :
  Ao (Au prog w) A (call (.type "set") [.ref l]) Q E s:=by
 obtain⟨c,tl,hmro⟩:=Do.mro;have hmade:=Do.made;have hsub:=Do.sub;refine Np (Qt ?_);show Ao _ _ (callAny (.type "set") _) _ _ _;refine Al ⟨Ov _ (by decide +kernel),Gf Pz ?_⟩
 rw[Uc (Rl "set" [.ref l] []) rfl];have h1:=Do.notType;have h2:=Do.canCreate;have hct:=Qu (.ref l)
 repeat (any_goals (first|assumption|wp_step))
 refine IX (fX (.ref l) (E:=E) (Q₁:=λobj s₁=>obj=.ref s.heap.objs.size∧s₁={ s with heap:=s.heap.push (set0 w) }) ⟨rfl,rfl⟩) λr s₁ hr=>?_
 cases r with
 |error e=>exact hr
 |ok fl =>
  cases fl with
  |ret obj =>
   obtain⟨rfl,rfl⟩:=hr;have hS:(s.heap.push (set0 w)).get? s.heap.objs.size=Aa (set0 w):=Bb _ rfl;have hT:OW { s with heap:=s.heap.push (set0 w) } (.ref s.heap.objs.size) "set":=⟨_,hS,rfl⟩
   have hli:=Do.init.lookup;have hbi:=Do.init.bind (.ref s.heap.objs.size)
   repeat (any_goals (first|assumption|wp_step))
   refine IX (Jw (R:=wants (λr s₂=>r=.none∧∃ h' tk,s₂={ s with heap:=h',toks:=tk } ∧ SetK is hash s.heap.objs.size (yG w) items.toList (yY key items.size) h'∧∀ b o,s.heap.get? b=Aa o→h'.get? b=Aa o) E) Do.init.plain Qv (Wd hT ?_)) λr₂ s₂ hr₂=>?_
   ·obtain⟨ol,hol,hcl,nl,hdl⟩:=hl
    obtain⟨ocls,odict,odata,oslots⟩:=ol;simp only at hcl hdl;subst hcl;subst hdl;have hol':(s.heap.push (set0 w)).get? l=Aa { cls:=.type "tuple",dict:=odict,data:=.seq items nl,slots:=oslots }:=Ag _ hol;have hsls:=PySem.F.sub_tuple_set;have hslf:=PySem.F.sub_tuple_frozenset;have hne:(Hv "tuple" == Hv "dict")=false:=by decide
    have hl1:(s.heap.push (set0 w)).IsTuple l items:=⟨_,hol',rfl,nl,rfl⟩;unfold Hw.«set.__init__» noKeywords Nw;generalize hPI:Nj=PI
    wp_walk
    subst hPI;refine Gh hl1 ?_;refine Ac (Sa ?_);have hlS:l<s.heap.objs.size:=Ax hol;have hneI:l≠(s.heap.push (set0 w)).objs.size:=by
     rw[Ea];exact Cj (II hlS)
    have nS:s.heap.get? s.heap.objs.size=none:=IN (Av _);have nI:s.heap.get? (s.heap.push (set0 w)).objs.size=none:=IN (by rw[Ea];exact Rh _)
    refine iS (led:=yG w) (V:=items.toList) a ((Vw (A:=A.in1.in1.in1) (by simp[hh]) _ l hneI items).toS) s.heap.objs.size ?_ (by show A.units+3<Fi;omega) key (λi v hv=>⟨hkey i v hv,?_⟩) hU hUk nS (λb hb=>?_) (items.size-0) 0 _ (by omega) (HT _)
     ⟨⟨_,Bb _ rfl,rfl,rfl⟩,hl1.push _⟩ (λb o e=>Ag _ (Ag _ e)) ?_ λs' hm hS'=>?_
    ·rw[Ea];simp only[Aw,Dg,Cw,Fz,To]
     exact⟨Cj (Hs _),Hf hlS⟩
    ·exact Cf (by rw[Bj];exact hv)
    ·rw[Dg.mp hb];exact nI
    ·exact⟨#[],0,_,Ag _ hS,Set0.nil,dY w,rfl,λe he=>by simp at he⟩
    ·obtain⟨h',g',d',tk',os'⟩:=s'
     have eg:g'=s.gens:=hm.gens;have ed:d'=s.drawn:=hm.drawn;have eo:os'=s.os:=hm.os;subst eg;subst ed;subst eo;refine Al (Al ⟨rfl,h',tk',rfl,hS',λb o e=>?_⟩);refine hm.heap b o (λhb=>?_) (Ag _ (Ag _ e));rcases Aw.mp hb with rfl|hb
     ·rw[nS] at e;cases e
     ·rw[Dg.mp hb,nI] at e;cases e
   ·cases r₂ with
    |error e=>exact hr₂
    |ok fl₂ =>
     cases fl₂ with
     |ret r =>
      obtain⟨rfl,h',tk,rfl,hS',hk'⟩:=hr₂
      repeat (any_goals (first|assumption|wp_step))
      exact h _ _ hS' hk'
     |_=>exact hr₂.elim
  |_=>exact hr.elim
def oD (a:AddS prog w is hash s.heap){l:Af}{items:Ay Ad}{Q:Ad→Ah→Prop}(hh:A.handled=none)(hu:A.units+8<Fi)(hl:s.heap.IsList l items∨s.heap.IsTuple l items)(key:Ai→K)(hkey:∀ i v,items[i]? = Aa v→is (key i) v)(hU:U.length≤1000)(hUk:∀ i,i<items.size→key i∈U)
  (h:∀ (h':Bs) (tk:Ai),SetK is hash s.heap.objs.size (yG w) items.toList (yY key items.size) h'→(∀ b o,s.heap.get? b=Aa o→h'.get? b=Aa o)→Q (.ref s.heap.objs.size) { s with heap:=h',toks:=tk }) :
  Ao (Au prog w) A (call (.type "set") [.ref l]) Q E s:=by
 rcases hl with hl|hl
 ·exact YR a hh hu hl key hkey hU hUk h
 ·exact ZH a hh hu hl key hkey hU hUk h
end
def mU {α:Type}:∀ {l:Ab α} {i:Ai} (h:i<l.length),(l[i]::l.eraseIdx i).Perm l
 |a::l,0,h=>by simp
 |a::l,i+1,h=>by
  rw[List.eraseIdx_cons_succ,List.getElem_cons_succ];exact(List.Perm.swap _ _ _).trans ((mU (l:=l) (i:=i) (by simpa using h)).cons a)
def dL {α:Type}(next:Ai→Ai):∀ (fuel k:Ai) (left:Ab α) (out:Ay α),left.length=fuel→(Ul next fuel k left out).toList.Perm (out.toList++left)
 |0,k,left,out,h=>by
  have:left=[]:=Ng h;subst this;unfold Ul;simp
 |fuel+1,k,left,out,h=>by
  unfold Ul;have hlt:next k % left.length<left.length:=Nu _ (by omega)
  rw[Ap hlt];dsimp only;refine(dL next fuel (k+1) _ _ (by rw[List.length_eraseIdx,Bi hlt];omega)).trans ?_
  rw[Eo,Cd];refine Iu _ ?_;exact mU hlt
def lH {α:Type}(next:Ai→Ai)(xs:Ay α) : (Nh next xs).toList.Perm xs.toList:=by
 have:=dL next xs.size 0 xs.toList #[] (by simp)
 simpa [Nh] using this
def vV:Slot "set_iterator" "__next__" "set_iterator.__next__":=
 .of (owner:="set_iterator") (n:="__next__") (by rw[Wr,Rm];kernel_rfl) (by decide +kernel) (by decide +kernel) (by decide +kernel) (.inl (by decide +kernel)) (by rw[Sb];kernel_rfl)
def mT:entryFor table "set_iterator.__next__" = Aa Hw.«set_iterator.__next__»:=entryFor_of_fast (by kernel_rfl)
def lR (a:Ad):Rj "set_iterator.__next__" ⟨[a],[]⟩:=by unfold Rj;kernel_rfl
def dS:Slot "set_iterator" "__iter__" "set_iterator.__iter__":=
 .of (owner:="set_iterator") (n:="__iter__") (by rw[Wr,Rm];kernel_rfl) (by decide +kernel) (by decide +kernel) (by decide +kernel) (.inl (by decide +kernel)) (by rw[Sb];kernel_rfl)
def oM:entryFor table "set_iterator.__iter__" = Aa Hw.«dict_keyiterator.__iter__»:=entryFor_alias (id':="dict_keyiterator.__iter__") (by kernel_rfl) rfl (by decide +kernel) (by kernel_rfl)
def Z8 (a:Ad):Rj "set_iterator.__iter__" ⟨[a],[]⟩:=by unfold Rj;kernel_rfl
def oK:entryFor table "set.__iter__" = Aa Hw.«frozenset.__iter__»:=entryFor_alias (id':="frozenset.__iter__") (by kernel_rfl) rfl (by decide +kernel) (by kernel_rfl)
def BW (a:Af)(slot given epochThen:Ai):setNext a slot given epochThen=(do
  let (es,epoch,t) ← Tp a
  if ← Xe then
   if epoch != epochThen then unsupported "set_iterator.__next__:elements-changed"
   return ((← setWalk a)[given]?).map λe=>(e.2,slot)
  if !t.plain&&es.size>1 then unsupported "set_iterator.__next__:the-table-is-plain-no-more"
  (do if !t.led&&!es.isEmpty then unsupported "set:maker-not-led")
  return match es[Ca t.place slot]?,t.place[Ca t.place slot]? with
   |some (_,x),Aa j=>Aa (x,j+1)
   |_,_=>none):=rfl
def MB (a:Af):setWalk a=(do
  let (es,epoch,t) ← Tp a
  if ← Xe then return Nh ((← ask).params.setOrder a epoch) es
  if !t.plain&&es.size>1 then return (← drawOrder es.size es.toList).toArray
  (do if !t.led&&es.size>1 then unsupported "set:maker-not-led")
  return es):=rfl
def VF (a:Af):setDrawn a=(do
  let (es,_,t) ← Tp a
  let byText ← Xe
  return !byText&&(!t.plain&&es.size>1)):=rfl
structure Still (w:Bz)(S:Af)(es:Ay (Aj × Ad))(ep:Ai)(t:Ft):Prop where
 tab:TabT t es
 led:t.led=yG w
def qW (w:Bz)(S:Af)(ep:Ai)(es:Ay (Aj × Ad)):Ay (Aj × Ad):=if w.params.followText "set-order" = true then Nh (w.params.setOrder S ep) es else es
def tK (w:Bz)(S:Af)(ep:Ai)(es:Ay (Aj × Ad)):(qW w S ep es).toList.Perm es.toList:=by
 unfold qW
 split
 ·exact lH _ _
 ·exact Li _
def jJ (w:Bz)(S:Af)(ep:Ai)(es:Ay (Aj × Ad)):(qW w S ep es).size=es.size:=by
 rw[← Bh,(tK w S ep es).length_eq,Bh]
def itO (slot i:Ai)(S:Af)(n ep:Ai):Cs:={ cls:=.type "set_iterator",data:=.fields #[.int slot 0,.int i 0,.ref S,.int n 0,.int ep 0] }
def At (w:Bz)(I S:Af)(es:Ay (Aj × Ad))(ep:Ai)(t:Ft)(i:Ai)(h:Bs):Prop:=
 ∃ slot,h.get? I=Aa (itO slot i S es.size ep)∧h.get? S=Aa (setO es ep t)∧(w.params.followText "set-order" = true∨Ca t.place slot=i)
section
variable {prog:Bl}{w:Bz}{A:By}{E:Ad→Ah→Prop}{s:Ah}{S I:Af}{es:Ay (Aj × Ad)}{ep:Ai}{t:Ft}
def QH {slot:Ai}{Q:Am (Ad × Ai)→Ah→Prop}(Z:Still w S es ep t)(ho:s.heap.get? S=Aa (setO es ep t))(hs:w.params.followText "set-order" = true∨Ca t.place slot=i)
  (h1:∀ e slot',(qW w S ep es)[i]? = Aa e→(w.params.followText "set-order" = true∨Ca t.place slot'=i+1)→Q (Aa (e.2,slot')) s) (h2:(qW w S ep es)[i]? = none→Q none s):Ao (Au prog w) A (setNext S slot i ep) Q E s:=by
 rw[BW];refine Ac (Gc ho rfl Z.tab.fits ?_);dsimp only;refine Ac (Ac (Jz (Al ?_)));cases hf:w.params.followText "set-order" with
 |true =>
  show Ao _ _ (if (w.params.followText "set-order")=true then _ else _) _ _ _
  rw[Bi hf];have hb:(ep != ep)=false:=by simp
  rw[hb];simp only[Bt,Eh];refine Ac ?_;rw[MB];refine Ac (Gc ho rfl Z.tab.fits ?_);dsimp only;refine Ac (Ac (Jz (Al ?_)));show Ao _ _ (if (w.params.followText "set-order")=true then _ else _) _ _ _
  rw[Bi hf];refine Ac (Jz (Al (Al ?_)));show Q (((Nh (w.params.setOrder S ep) es)[i]?).map λe=>(e.2,slot)) s;have ho':qW w S ep es=Nh (w.params.setOrder S ep) es:=by unfold qW;rw[Bi hf]
  rw[ho'] at h1 h2;cases hx:(Nh (w.params.setOrder S ep) es)[i]? with
  |none=>exact h2 hx
  |some e=>exact h1 e slot hx (.inl hf)
 |false =>
  show Ao _ _ (if (w.params.followText "set-order")=true then _ else _) _ _ _
  rw[Bf (by rw[hf];decide),Z.tab.plain,Z.led]
  unfold yG;rw[hf];simp only[IL,Ob,Bt,Eh,Rz];have hb:Ca t.place slot=i:=by
   rcases hs with h|h
   ·rw[hf] at h;cases h
   ·exact h
  rw[hb];have ho':qW w S ep es=es:=by unfold qW;rw[Bf (by rw[hf];decide)]
  rw[ho'] at h1 h2;refine Al ?_;cases hx:es[i]? with
  |none=>exact h2 hx
  |some e =>
   have hi:i<t.place.size:=by rw[Z.tab.size];exact(Dw.mp hx).1
   have hp:t.place[i]? = Aa t.place[i]:=DL hi;rw[hp];exact h1 e _ hx (.inr (oB Z.tab.tb.rs hp))
def At.type (h:At w I S es ep t i s.heap):s.TypeIs (.ref I) "set_iterator":=by
 obtain⟨slot,h,_⟩:=h;exact⟨_,h,rfl⟩
def dH (Z:Still w S es ep t)(hI:At w I S es ep t i s.heap)
  (h1:∀ e slot' slot,(qW w S ep es)[i]? = Aa e→s.heap.get? I=Aa (itO slot i S es.size ep)→s.heap.get? S=Aa (setO es ep t)→(w.params.followText "set-order" = true∨Ca t.place slot'=i+1) →
   Q e.2 { s with heap:=(s.heap.update I (Tg (·.setIfInBounds 0 (Mb slot')))).update I (Tg (·.setIfInBounds 1 (Mb ((i:Aj)+1)))) })
  (h2:(qW w S ep es)[i]? = none→Ao (Au prog w) A (do setField (.ref I) 2 .none;raiseNew (← newExc (.type "StopIteration") [])) (λ(fin:Zd) s'=>∃ r,fin=.done (.ret r)∧Q r s') E s) :
  Ao (Au prog w) A (Hw.«set_iterator.__next__» ⟨[.ref I],[]⟩) (λfin s'=>∃ r,fin=.done (.ret r)∧Q r s') E s:=by
 obtain⟨slot,hg,hS,hb⟩:=hI;show Ao _ _ (fieldsOf (.ref I) >>= _) _ _ s;refine Ac (wpAny_fieldsOf hg rfl ?_);show Ao _ _ (setEntries S >>= _) _ _ s;refine Ac (Th hS rfl Z.tab.fits ?_);have hne:(((es.size:Ai):Aj) != ((es.size:Ai):Aj))=false:=by simp
 rw[hne];simp only[Bt,Eh];show Ao _ _ (setNext S (slot:Aj).toNat (i:Aj).toNat (ep:Aj).toNat >>= _) _ _ s;rw[Gn,Gn,Gn];refine Ac (QH Z hS hb (λe slot' he hb'=>?_) λhe=>?_)
 ·dsimp only
  refine Ac (Lh hg rfl (by show 0<5;decide) ?_)
  have hg2:=Et (Tg (·.setIfInBounds 0 (Mb slot'))) hg rfl
  refine Ac (Lh hg2 rfl (by show 1<5;decide) ?_)
  exact Al ⟨_,rfl,h1 e slot' slot he hg hS hb'⟩
 ·exact h2 he
def MA (hh:A.handled=none)(hne:S≠I)(Z:Still w S es ep t):Walks prog w A I [I,S] [I] es.size (λi v=>∃ e,(qW w S ep es)[i]? = Aa e∧e.2=v) (λi h=>At w I S es ep t i h) where
 sub:=λb hb=>by simp at hb;simp[hb]
 frame:=λi h h' ⟨slot,h1,h2,h3⟩ hk=>⟨slot,hk I (by simp) _ h1,hk S (by simp) _ h2,h3⟩
 item:=λi s Q E hi st hQ=>by
  unfold Ld;refine Ac (Ib (Dx (name:=Fv "__next__") st.type vV (Ef vV st.type mT (dH Z st (λe slot' slot he hg hS hb=>?_) λhe=>?_) (lR _))))
  ·refine Al (hQ e.2 _ s.toks ⟨e,he,rfl⟩ ⟨slot',?_,?_,hb⟩ λb o hb e=>?_)
   ·exact Et _ (Et _ hg rfl) rfl
   ·rw[Cc _ _ hne.symm,Cc _ _ hne.symm];exact hS
   ·have hb:I≠b:=λz=>hb (by simp[z])
    rw[Cc _ _ hb,Cc _ _ hb];exact e
  ·have:=Array.getElem?_eq_none_iff.mp he
   rw[jJ] at this;omega
 done:=λs Q E st hQ=>by
  unfold Ld;refine Ac (Ib (Dx (name:=Fv "__next__") st.type vV (Ef vV st.type mT (dH Z st (λe slot' slot he hg hS hb=>?_) λhe=>?_) (lR _))))
  ·have:=(Dw.mp he).1
   rw[jJ] at this;omega
  ·obtain⟨slot,hg,hS,hb⟩:=st
   refine Ac (Lh hg rfl (by show 2<5;decide) ?_)
   refine Ac ?_;simp only[newExc,newTuple];refine Ac (Dn ?_ (by size_fits))
   refine Ac (m:=Oh _ _) (Mk (a:=Dp) (by first|rfl|(simp only[Oh];rfl)) ?_)
   refine Dn ?_ (by size_fits)
   simp only[raiseNew];refine Ac (wpAny_handled ?_);rw[show A.in1.handled=none from hh]
   refine Ac (Al (wpAny_throw ?_));refine Ac (Mp (T:="StopIteration") (b:=true) ⟨_,Bb _ rfl,rfl⟩ Rx ?_);refine Al (hQ _ s.toks λb o hb e=>?_);exact(((Hk ..).extBut.push _).push _) b o (λz=>hb (by simp[z])) e
 self:=λi s Q E st hQ=>by
  refine Vi st.type dS (Ef dS st.type oM ?_ (Z8 _));show Ao _ _ (ret (.ref I)) _ _ s;exact Al ⟨_,rfl,"set_iterator",_,st.type,vV.lookup,hQ⟩
def U5 (Z:Still w S es ep t)(ho:s.heap.get? S=Aa (setO es ep t))(h:Q (.ref s.heap.objs.size) { s with heap:=s.heap.push (itO 0 0 S es.size ep) }) : Ao (Au prog w) A (Nj (.ref S)) Q E s:=by
 have hT:s.TypeIs (.ref S) "set":=⟨_,ho,rfl⟩;refine Vi hT Ro (Ef Ro hT oK ?_ (PySem.F.args_set_iter_1 _));show Ao _ _ (Ph S >>= _) _ _ s;unfold Ph;refine Ac (Ac (Th ho rfl Z.tab.fits (Al ?_)));refine Ac ?_;rw[VF];refine Ac (Gc ho rfl Z.tab.fits ?_);dsimp only;refine Ac (Ac (Jz (Al (Al ?_))));rw[Z.tab.plain];simp only[IL,Ob,Oe,Bt,Eh];refine Ac (Al ?_);unfold setEpoch;refine Ac (Ac (Gc ho rfl Z.tab.fits (Al ?_)));refine Ac (Dn (Al ⟨_,rfl,"set_iterator",_,⟨_,Bb _ rfl,rfl⟩,vV.lookup,h⟩))
def GE (Z:Still w S es ep t)(ho:s.heap.get? S=Aa (setO es ep t)):At w s.heap.objs.size S es ep t 0 (s.heap.push (itO 0 0 S es.size ep)):=
 ⟨0,Bb _ rfl,Ag _ ho,.inr (oC Z.tab.tb.rs)⟩
end
end _S
namespace _S
open PySem PySem.W PyProof.Rows
variable {vs:Ab Ad}{n lo:Ai}{arr m:Ay Bo}
structure Ord {K:Type}(lt:K→K→Ar):Prop where
 irr:∀ a,lt a a=false
 tr:∀ {a b c},lt a b=true→lt b c=true→lt a c=true
 tri:∀ {a b},lt a b=false→a=b∨lt b a=true
def ltI (a b:Aj):Ar:=decide (a<b)
def pF:Ord ltI:=⟨λa=>by simp[ltI],λ{a b c} h1 h2=>by simp only[ltI,Ct] at *;omega,λ{a b} h=>by simp only[ltI,Ct,Fj] at *;omega⟩
def i0:∀ a:Ab Aj,_H.lexLt a a=false
 |[]=>rfl
 |x::xs=>by rw[_H.lexLt_cons,Bi rfl];exact i0 xs
def XN:∀ {a b c:Ab Aj},_H.lexLt a b=true→_H.lexLt b c=true→_H.lexLt a c=true
 |_,[],[],_,h=>by cases h
 |_,_::_,[],_,h=>by cases h
 |[],_,_::_,_,_=>rfl
 |_::_,[],_::_,h,_=>by cases h
 |x::xs,y::ys,z::zs,h1,h2=>by
  rw[_H.lexLt_cons] at h1 h2 ⊢;by_cases e1:x=y
  ·subst e1
   rw[Bi rfl] at h1;by_cases e2:x=z
   ·rw[Bi e2] at h2 ⊢;exact XN h1 h2
   ·rw[Bf e2] at h2 ⊢;exact h2
  ·rw[Bf e1] at h1
   have h1:=Cu h1;by_cases e2:y=z
   ·subst e2;rw[Bf e1];exact De h1
   ·rw[Bf e2] at h2
    have h2:=Cu h2;rw[Bf (by omega)]
    exact De (by omega)
def i3:∀ {a b:Ab Aj},_H.lexLt a b=false→a=b∨_H.lexLt b a=true
 |[],[],_=>.inl rfl
 |[],_::_,h=>by cases h
 |_::_,[],_=>.inr rfl
 |x::xs,y::ys,h=>by
  rw[_H.lexLt_cons] at h ⊢;by_cases e:x=y
  ·subst e
   rw[Bi rfl] at h ⊢;rcases i3 h with h|h
   ·exact .inl (by rw[h])
   ·exact .inr h
  ·rw[Bf e] at h
   have h:=of_decide_eq_false h;rw[Bf (Gx e)];exact .inr (De (by omega))
def k9:Ord _H.lexLt:=⟨i0,XN,i3⟩
def lY {α:Type}{p q:α→Ar}:∀ {l:Ab α},(∀ x∈l,p x=true→q x=true)→(∃ x∈l,q x=true∧p x=false)→l.countP p<l.countP q
 |[],_,⟨x,h,_⟩=>by simp at h
 |a::l,h,⟨x,hx,h1,h2⟩=>by
  have le:l.countP p≤l.countP q:=Rp λy hy=>h y (by simp[hy])
  rw[We,We];rcases Aw.mp hx with rfl|hx
  ·rw[Bf (by rw[h2];decide),Bi h1];omega
  ·have ih:=lY (l:=l) (λy hy=>h y (by simp[hy])) ⟨x,hx,h1,h2⟩
   have:=h a (by simp)
   cases hp:p a with
   |false=>rw[Bf (by decide)];split <;> omega
   |true=>rw[Bi rfl,Bi (this hp)];omega
section
variable {K:Type}{lt':K→K→Ar}
def pI (lt':K→K→Ar)(ks:Ab K)(x:K):Aj:=(ks.countP (λk=>lt' k x):Ai)
def eZ (O:Ord lt'){ks:Ab K}{x y:K}(hx:x∈ks):lt' x y=decide (pI lt' ks x<pI lt' ks y):=by
 unfold pI;cases h:lt' x y with
 |true =>
  refine(De ?_).symm;have:=lY (l:=ks) (p:=λk=>lt' k x) (q:=λk=>lt' k y) (λz _ hz=>O.tr hz h) ⟨x,hx,h,O.irr x⟩;omega
 |false =>
  refine(Cz ?_).symm;have:ks.countP (λk=>lt' k y)≤ks.countP (λk=>lt' k x):=by
   rcases O.tri h with e|h'
   ·rw[e];exact Av _
   ·exact Rp λz _ hz=>O.tr hz h'
  omega
def sY (lt':K→K→Ar)(ks:Ab K)(d:K)(i j:Ai):Ar:=lt' (ks.getD i d) (ks.getD j d)
def Nf (lt':K→K→Ar)(l:Ab K):Prop:=l.Pairwise λa b=>lt' b a=false
def lD (O:Ord lt'):∀ {a b:Ab K},Nf lt' a→Nf lt' b→a.Perm b→a=b
 |[],b,_,_,p=>(List.nil_perm.mp p).symm
 |x::a,b,ha,hb,p=>by
  cases b with
  |nil=>exact absurd p.symm (by simp)
  |cons y b =>
   unfold Nf at ha hb;rw[Ez] at ha hb;have e:x=y:=by
    rcases Aw.mp (p.mem_iff.mp (.head _)) with e|e
    ·exact e
    ·rcases Aw.mp (p.mem_iff.mpr (.head _)) with e'|e'
     ·exact e'.symm
     ·have h1:=ha.1 y e'
      have h2:=hb.1 x e;rcases O.tri h1 with e|h
      ·exact e.symm
      ·rw[h2] at h;cases h
   subst e;rw[lD O ha.2 hb.2 (List.Perm.cons_inv p)]
def W2 (O:Ord lt'){l:Ab K}(h:Nf lt' l)(nd:l.Nodup):l.Pairwise λa b=>lt' a b=true:=by
 refine Zb (λ{a b} h1 h2=>?_) h nd;exact(O.tri h1).elim (λe=>absurd e.symm h2) id
def kH (lt':K→K→Ar)(l:Ab K):Ab K:=l.mergeSort λa b=>!lt' b a
def kR (l:Ab K):(kH lt' l).Perm l:=List.mergeSort_perm _ _
def iW (O:Ord lt')(l:Ab K):Nf lt' (kH lt' l):=by
 have:=List.pairwise_mergeSort (le:=λa b=>!lt' b a) (λa b c h1 h2=>?_) (λa b=>?_) l
 ·exact this.imp λh=>by simpa using h
 ·have h1:lt' b a=false:=by simpa using h1
  have h2:lt' c b=false:=by simpa using h2
  cases h3:lt' c a with
  |false=>rfl
  |true =>
   rcases O.tri h1 with e|h
   ·rw[← e] at h3;rw[h3] at h2;cases h2
   ·have:=O.tr h3 h;rw[h2] at this;cases this
 ·cases h:lt' b a with
  |false=>rfl
  |true =>
   cases h':lt' a b with
   |false=>rfl
   |true=>have:=O.tr h h';rw[O.irr] at this;cases this
def jY (lt':K→K→Ar)(x:K):Ab K→Ab K
 |[]=>[x]
 |y::l=>if lt' x y then x::y::l else if lt' y x then y::jY lt' x l else y::l
def srt (lt':K→K→Ar):Ab K→Ab K
 |[]=>[]
 |x::xs=>jY lt' x (srt lt' xs)
set_option tactic.hygienic true in
def mD (O:Ord lt')(x y:K):∀ l:Ab K,y∈jY lt' x l↔y=x∨y∈l
 |[]=>by simp[jY]
 |z::l=>by
  unfold jY
  split
  ·simp
  ·rename_i h1
   split
   ·rw[Aw,mD O x y l,Aw]
    exact⟨λh=>by rcases h with h|h|h <;> simp[h],λh=>by rcases h with h|h|h <;> simp[h]⟩
   ·rename_i h2
    have:x=z:=(O.tri (by simpa using h1)).elim id λh=>absurd h h2
    subst this;simp
set_option tactic.hygienic true in
def aJ (O:Ord lt')(x:K):∀ l:Ab K,l.Pairwise (λa b=>lt' a b=true)→(jY lt' x l).Pairwise (λa b=>lt' a b=true)
 |[],_=>by simp[jY]
 |z::l,h=>by
  rw[Ez] at h;unfold jY
  split
  ·rename_i h1
   refine Ez.mpr ⟨λy hy=>?_,Ez.mpr h⟩;rcases Aw.mp hy with rfl|hy
   ·exact h1
   ·exact O.tr h1 (h.1 y hy)
  ·split
   ·rename_i h2
    refine Ez.mpr ⟨λy hy=>?_,aJ O x l h.2⟩;rcases (mD O x y l).mp hy with rfl|hy
    ·exact h2
    ·exact h.1 y hy
   ·exact Ez.mpr h
def y7 (O:Ord lt')(y:K):∀ l:Ab K,y∈srt lt' l↔y∈l
 |[]=>by simp[srt]
 |x::l=>by rw[srt,mD O,y7 O y l,Aw]
def vD (O:Ord lt'):∀ l:Ab K,(srt lt' l).Pairwise (λa b=>lt' a b=true)
 |[]=>by simp[srt]
 |x::l=>aJ O x _ (vD O l)
def fO (O:Ord lt'):∀ {a b:Ab K},a.Pairwise (λa b=>lt' a b=true)→b.Pairwise (λa b=>lt' a b=true)→(∀ x,x∈a↔x∈b)→a=b
 |[],[],_,_,_=>rfl
 |[],y::b,_,_,h=>by have:=(h y).mpr (by simp);simp at this
 |x::a,[],_,_,h=>by have:=(h x).mp (by simp);simp at this
 |x::a,y::b,ha,hb,h=>by
  rw[Ez] at ha hb;have asym:∀ {u v},lt' u v=true→lt' v u=true→Fn:=λp q=>by have:=O.tr p q;rw[O.irr] at this;cases this
  have e:x=y:=by
   rcases Aw.mp ((h x).mp (by simp)) with e|e
   ·exact e
   ·rcases Aw.mp ((h y).mpr (by simp)) with e'|e'
    ·exact e'.symm
    ·exact(asym (hb.1 x e) (ha.1 y e')).elim
  subst e;have ne:∀ {z:K} {l:Ab K},(∀ y∈l,lt' x y=true)→z∈l→z≠x:=λh hz e=>by subst e;have:=h _ hz;rw[O.irr] at this;cases this
  rw[fO O ha.2 hb.2 λz=>⟨λhz=>?_,λhz=>?_⟩]
  ·exact(Aw.mp ((h z).mp (by simp[hz]))).elim (λe=>absurd e (ne ha.1 hz)) id
  ·exact(Aw.mp ((h z).mpr (by simp[hz]))).elim (λe=>absurd e (ne hb.1 hz)) id
def LA (O:Ord lt'){l xs:Ab K}(h:Nf lt' l)(nd:l.Nodup)(m:∀ x,x∈l↔x∈xs):l=srt lt' xs:=
 fO O (W2 O h nd) (vD O xs) λx=>by rw[m,y7 O]
end
def BR:typeLookup (.type "set") "__len__" = pure (Aa (.builtin "set.__len__")):=PySem.F.slot_set_len.lookup
section
variable {prog:Bl}{w:Bz}{A:By}{E:Ad→Ah→Prop}{s:Ah}{S:Af}{es:Ay (Aj × Ad)}{ep:Ai}{t:Ft}
def U1 {r:Af}(hT:s.TypeIs (.ref r) "set"){Q:Ar→Ah→Prop}(h:Q false s):Ao (Au prog w) A (On (.ref r)) Q E s:=by
 unfold On;refine Ac (Wq hT BR ?_);generalize hid:("set.__len__" : Ej)=id0
 wp_delta
 rw[show splitId id0=Aa ("set","__len__") from by subst hid;decide +kernel]
 subst hid;refine Ac (Mp (T:="set") (b:=true) hT (by rw[Sb];kernel_rfl) ?_)
 refine Qw (λhab=>absurd hab (by decide)) (λ_=>?_)
 refine Qw (λ_=>?_) (λhab=>absurd (by decide +kernel) hab)
 exact Ac (Ju hT (Al h))
def cF {Q:Ab Ad→Ah→Prop}(hh:A.handled=none)(Z:Still w S es ep t)(ho:s.heap.get? S=Aa (setO es ep t))(hn:es.size≤1000)
  (h:∀ h' tk,(∀ b o,s.heap.get? b=Aa o→h'.get? b=Aa o)→s.heap.objs.size<h'.objs.size→Q ((qW w S ep es).toList.map (·.2)) { s with heap:=h',toks:=tk }) : Ao (Au prog w) A (collect (.ref S)) Q E s:=by
 have hS:S<s.heap.objs.size:=Ax ho;unfold collect;refine Ac (Sa (Gf PySem.F.entry_proto_collect ?_));rw[Gi PySem.F.plain_proto_collect _];show Ao _ A.in1 (newList [] >>= λl=>again (.builtin "list.__iadd__" ⟨[l,.ref S],[]⟩)) _ _ s;refine Ac (Dn (Al ⟨IM Qb _,Gf PySem.F.entry_list_iadd ?_⟩));rw[Gi Qb _];have hD:(s.heap.push { cls:=.type "list",data:=.seq ([] : Ab Ad).toArray }).get? s.heap.objs.size=Aa { cls:=.type "list",data:=.seq #[] }:=Bb _ rfl;have ho1:(s.heap.push { cls:=.type "list",data:=.seq ([] : Ab Ad).toArray }).get? S=Aa (setO es ep t):=Ag _ ho;show Ao _ A.in1 (Oo (.ref s.heap.objs.size) (.ref S) (.ref s.heap.objs.size)) _ _ _;unfold Oo;have hT1:OW { s with heap:=s.heap.push { cls:=.type "list",data:=.seq ([] : Ab Ad).toArray } } (.ref S) "set":=⟨_,ho1,rfl⟩
 refine Ac (Ju hT1 ?_);have h1:Pi (.ref s.heap.objs.size) (.ref S)=false:=by simp[Pi];exact Hf hS
 rw[Bf (by rw[h1];decide)]
 refine Ac (U5 (s:={ s with heap:=s.heap.push { cls:=.type "list",data:=.seq ([] : Ab Ad).toArray } }) Z ho1 ?_)
 have hD2:=Ag (itO 0 0 S es.size ep) hD;have hT2:OW { s with heap:=(s.heap.push { cls:=.type "list",data:=.seq ([] : Ab Ad).toArray }).push (itO 0 0 S es.size ep) } (.ref S) "set":=⟨_,Ag _ ho1,rfl⟩
 refine Ac (Du (U1 hT2 ?_));refine Qw (λ_=>?_) (λhab=>absurd (by decide) hab)
 refine Ac (Hc (Ac ?_));show Ao _ _ (updateSeq s.heap.objs.size (·.push .none) >>= λ_=>updateSeq s.heap.objs.size (·.pop)) _ _ _
 refine Ac (Km hD2 rfl ?_);have hD3:=Et (Ew (·.push Dp)) hD2 rfl
 refine Km (hz:=by seq_fits) hD3 rfl ?_
 have hD4:=Et (Ew (·.pop)) hD3 rfl
 have sz:(s.heap.push { cls:=.type "list",data:=.seq ([] : Ab Ad).toArray }).objs.size=s.heap.objs.size+1:=Ea ..;have oth:∀ {b:Af} {o:Cs},b≠s.heap.objs.size→((s.heap.push { cls:=.type "list",data:=.seq ([] : Ab Ad).toArray }).push (itO 0 0 S es.size ep)).get? b=Aa o →
   ((((s.heap.push { cls:=.type "list",data:=.seq ([] : Ab Ad).toArray }).push (itO 0 0 S es.size ep)).update s.heap.objs.size (Ew (·.push Dp))).update s.heap.objs.size (Ew (·.pop))).get? b=Aa o:=
  λhb e=>(Cc _ _ (Gx hb)).trans ((Cc _ _ (Gx hb)).trans e)
 have at0:=GE (w:=w) (s:={ s with heap:=s.heap.push { cls:=.type "list",data:=.seq ([] : Ab Ad).toArray } }) Z ho1
 refine Al ⟨IM PySem.F.plain_extend_loop _,?_⟩;refine codeAny_extend_loopS ((MA (prog:=prog) (A:=A.in1) (I:=(s.heap.push { cls:=.type "list",data:=.seq ([] : Ab Ad).toArray }).objs.size) hh (by rw[sz];exact Cj (II hS)) Z).toS) (by rw[Fe];omega) s.heap.objs.size ?_ _ es.size 0 _ #[] _ rfl (HT _) ?_ hD4 (ItemsOf.nil _) λs' acc c hm hS' hacc=>?_
 ·rw[sz]
  simp only[Aw,Cw,Fz,To];exact⟨Cj (Hs _),Hf hS⟩
 ·obtain⟨slot,a1,a2,a3⟩:=at0
  exact⟨slot,oth (by rw[sz];exact Hf (Hs _)) a1,oth (Cj hS) a2,a3⟩
 ·show Ao _ A (load s.heap.objs.size >>= _) _ _ s'
  refine Ac (wpAny_load hS' ?_);obtain⟨h',g',d',tk',os'⟩:=s';have eg:g'=s.gens:=hm.gens;have ed:d'=s.drawn:=hm.drawn;have eo:os'=s.os:=hm.os;subst eg;subst ed;subst eo;have e:acc.toList=(qW w S ep es).toList.map (·.2):=by
   refine Vj λi=>?_;rw[Bj,Ds,Bj];by_cases hi:i<es.size
   ·have hi':i<acc.size:=by rw[hacc.1];exact hi
    obtain⟨e,he,q⟩:=hacc.2 i acc[i] (DL hi');rw[DL hi',he,Qs,q]
   ·rw[Qx (by rw[hacc.1];omega),Qx (by rw[jJ];omega)]
    rfl
  refine Al ?_;show Q acc.toList _;rw[e];refine h h' tk' (λb o q=>?_) (Ax hS');have hb:b<s.heap.objs.size:=Ax q;refine hm.heap b o (λhx=>?_) (oth (Cj hb) (Ag _ (Ag _ q)));simp only[Aw,Cw,Fz] at hx;rcases hx with hx|hx
  ·exact absurd hb (by rw[hx];exact Er _)
  ·exact absurd hb (by rw[hx,sz];exact Pm.mpr (Rh _))
end
def nQ:Ar→Bo→Ay Bo→Ai→Ai→Ai→Tq Gd Kb (Am Ai):=sortPriv% PySem.Builtin.gallop
def UC:Ay Bo→Ay Bo→Tq Gd Kb (Ay Bo):=sortPriv% PySem.Builtin.mergeLo
def UB:Ay Bo→Ay Bo→Tq Gd Kb (Ay Bo):=sortPriv% PySem.Builtin.mergeHi
def nv:Bo:=(Dp,Dp)
section
variable {M:Ks}{A:By}{E:Ad→Ah→Prop}{s:Ah}{κ : Kn}{U:Bo→Prop}{r:Bo→Aj}
structure Cm (M:Ks)(A:By)(s:Ah)(κ : Kn)(U:Bo→Prop)(r:Bo→Aj):Prop where
 lt:∀ {x y:Bo},U x→U y→∀ {E:Ad→Ah→Prop} {Q:Am Ar→Gd→Prop} {st:Gd},kindOf st=κ→Q (Aa (decide (r x<r y))) st→wpS M A E s (lt' x y) Q st
def zP {i:Ai}{Q:Bo→Gd→Prop}{st:Gd}(h:i<arr.size)(q:Q (arr.getD i nv) st):wpS M A E s (elem' arr i) Q st:=by
 rw[elem'_eq,getElem?_pos arr i h];have e:arr.getD i nv=arr[i]:=by simp[Gr,h]
 rw[e] at q;exact Bm q
def Z4 (C:Cm M A s κ U r){left:Ar}{key:Bo}{arr:Ay Bo}{i:Ai}{Q:Am Ar→Gd→Prop}{st:Gd}(hk:kindOf st=κ)(hi:i<arr.size)(hU:U (arr.getD i nv))(hkU:U key)
  (q:Q (Aa (if left then decide (r (arr.getD i nv)<r key) else !decide (r key<r (arr.getD i nv)))) st) :
  wpS M A E s (do let x ← elem' arr i;if left then lt' x key else (do let a ← lt' key x;pure (a.map (λb=>!b)))) Q st:=by
 refine Ba (zP hi ?_);cases left with
 |true=>exact C.lt hU hkU hk q
 |false=>exact Ba (C.lt hkU hU hk (Bm q))
def tX (C:Cm M A s κ U r){left:Ar}{key:Bo}{arr:Ay Bo}{base n hint cut:Ai}{Q:Am Ai→Gd→Prop}{st:Gd}(hk:kindOf st=κ)(hh:hint<n)(hb:base+n≤arr.size)(hU:∀ i,i<n→U (arr.getD (base+i) nv))(hkU:U key)(hc:cut≤n)
  (hB:∀ i,i<n→(if left then decide (r (arr.getD (base+i) nv)<r key) else !decide (r key<r (arr.getD (base+i) nv)))=decide (i<cut)) (h:Q (Aa cut) st):wpS M A E s (nQ left key arr base n hint) Q st:=by
 have B:∀ {i:Ai} {E:Ad→Ah→Prop} {Q:Am Ar→Gd→Prop},i<n→Q (Aa (decide (i<cut))) st→wpS M A E s (do let x ← elem' arr (base+i);if left then lt' x key else (do let a ← lt' key x;pure (a.map (λb=>!b)))) Q st:=by
  intro i E Q hi q;exact Z4 C hk (by omega) (hU i hi) hkU (by rw[hB i hi];exact q)
 have bin:∀ {lo hi:Ai} {f:Ai→Am (Am Ai) × Ai × Ai→Tq Gd Kb (ForInStep (Am (Am Ai) × Ai × Ai))},lo≤cut→cut≤hi→hi≤n →
   (∀ x a b,f x (none,a,b)=if a≥b then pure (.done (none,a,b)) else ((do let x ← elem' arr (base+(a+(b-a)/2));if left then lt' x key else (do let a ← lt' key x;pure (a.map (λb=>!b)))) >>= λo=>match o with
    |some more=>if more then pure (.yield (none,a+(b-a)/2+1,b)) else pure (.yield (none,a,a+(b-a)/2))
    |_=>pure (.done (Aa none,a,b))))→wpS M A E s (forIn [0:n] (none,lo,hi) f) (λc st'=>st'=st∧∃ a,c=(none,a,cut)) st:=by
  intro lo hi f h1 h2 h3 hf;refine Fk (I:=λx c st'=>st'=st∧∃ a b,c=(none,a,b)∧a≤cut∧cut≤b∧b≤n∧b-a≤n-x) ?_ ?_ ⟨rfl,lo,hi,rfl,h1,h2,h3,by omega⟩
  ·rintro x c st' _ hx ⟨rfl,a,b,rfl,q1,q2,q3,q4⟩
   rw[hf];by_cases g:a≥b
   ·rw[Bi g];exact Bm ⟨rfl,a,by rw[show b=cut by omega]⟩
   ·rw[Bf g]
    refine Ba (B (by omega) ?_)
    by_cases z:a+(b-a)/2<cut
    ·simp only[z,IW,Dk]
     exact Bm ⟨rfl,_,_,rfl,by omega,q2,q3,by omega⟩
    ·simp only[z,IZ,Bt,Eh]
     exact Bm ⟨rfl,_,_,rfl,q1,by omega,by omega,by omega⟩
  ·rintro c st' ⟨rfl,a,b,rfl,q1,q2,q3,q4⟩
   exact⟨rfl,a,by rw[show b=cut by omega]⟩
 refine Ba (B hh ?_);dsimp only;by_cases hr:hint<cut
 ·simp only[hr,IW,Dk]
  refine Ba (Hl (Fk (I:=λx c st'=>st'=st∧∃ a b,c=(none,a,b)∧hint+a<cut∧a<b∧x<b)
   (Q:=λc st'=>st'=st∧∃ a b,c=(none,a,b)∧hint+a<cut∧cut≤hint+min b (n-hint)) ?_ ?_ ⟨rfl,0,1,rfl,hr,by omega,by omega⟩) ?_)
  ·rintro x c st' _ hx ⟨rfl,a,b,rfl,q1,q2,q3⟩
   dsimp only;by_cases g:b≥n-hint
   ·rw[Bi g];exact Bm ⟨rfl,a,b,rfl,q1,by omega⟩
   ·rw[Bf g]
    refine Ba (B (by omega) ?_)
    by_cases z:hint+b<cut
    ·simp only[z,IW,IL,Bt,Eh]
     exact Bm ⟨rfl,_,_,rfl,z,by omega,by omega⟩
    ·simp only[z,IZ,Rz,Dk]
     exact Bm ⟨rfl,a,b,rfl,q1,by omega⟩
  ·rintro c st' ⟨rfl,a,b,rfl,q1,q2,q3⟩
   exact⟨rfl,a,b,rfl,q1,by omega⟩
  ·rintro c st' ⟨rfl,a,b,rfl,q1,q2⟩
   dsimp only;refine Ba (Hl (bin (lo:=hint+a+1) (hi:=hint+min b (n-hint)) (by omega) q2 (by omega) λ_ _ _=>rfl) ?_)
   rintro c st' ⟨rfl,a',rfl⟩;exact Bm h
 ·simp only[hr,IZ,Bt,Eh]
  refine Ba (Hl (Fk (I:=λx c st'=>st'=st∧∃ a b,c=(none,a,b)∧cut+a≤hint∧a<b∧x<b)
   (Q:=λc st'=>st'=st∧∃ a b,c=(none,a,b)∧cut+a≤hint∧hint+1≤cut+min b (hint+1)) ?_ ?_ ⟨rfl,0,1,rfl,by omega,by omega,by omega⟩) ?_)
  ·rintro x c st' _ hx ⟨rfl,a,b,rfl,q1,q2,q3⟩
   dsimp only;by_cases g:b≥hint+1
   ·rw[Bi g];exact Bm ⟨rfl,a,b,rfl,q1,by omega⟩
   ·rw[Bf g]
    refine Ba (B (by omega) ?_)
    by_cases z:hint-b<cut
    ·simp only[z,IW,Dk]
     exact Bm ⟨rfl,a,b,rfl,q1,by omega⟩
    ·simp only[z,IZ,Bt,Eh]
     exact Bm ⟨rfl,_,_,rfl,by omega,by omega,by omega⟩
  ·rintro c st' ⟨rfl,a,b,rfl,q1,q2,q3⟩
   exact⟨rfl,a,b,rfl,q1,by omega⟩
  ·rintro c st' ⟨rfl,a,b,rfl,q1,q2⟩
   dsimp only;refine Ba (Hl (bin (lo:=hint+1-min b (hint+1)) (hi:=hint-a) (by omega) (by omega) (by omega) λ_ _ _=>rfl) ?_)
   rintro c st' ⟨rfl,a',rfl⟩;exact Bm h
end
def Le (r:Bo→Aj)(x y:Bo):Prop:=r x≤r y
structure Mg (r:Bo→Aj)(o A B T:Ab Bo):Prop where
 p1:(o++A).Pairwise (Le r)
 p2:(o++B).Pairwise (Le r)
 pm:(o++A++B).Perm T
structure Mh (r:Bo→Aj)(A B o T:Ab Bo):Prop where
 p1:(A++o).Pairwise (Le r)
 p2:(B++o).Pairwise (Le r)
 pm:(A++B++o).Perm T
section
variable {r:Bo→Aj}{o A B A1 A2 B1 B2 T:Ab Bo}
def Mg.b (h:Mg r o A (B1++B2) T)(l:∀ x∈B1,∀ y∈A,Le r x y):Mg r (o++B1) A B2 T:=by
 obtain⟨p1,p2,pm⟩:=h;refine⟨?_,by rw[Cd];exact p2,?_⟩
 ·rw[Cd]
  rw[Ed] at p1 p2 ⊢;refine⟨p1.1,?_,λx hx y hy=>?_⟩
  ·rw[Ed]
   exact⟨(Ed.mp p2.2.1).1,p1.2.1,l⟩
  ·rcases Ch.mp hy with hy|hy
   ·exact p2.2.2 x hx y (Dh _ hy)
   ·exact p1.2.2 x hx y hy
 ·refine Ni ?_ pm
  simp only[Cd];refine Iu _ ?_;simp only[← Cd];exact Jj _ Jq
def Mg.a (h:Mg r o (A1++A2) B T)(l:∀ x∈A1,∀ y∈B,Le r x y):Mg r (o++A1) A2 B T:=by
 obtain⟨p1,p2,pm⟩:=h;refine⟨by rw[Cd];exact p1,?_,by simpa only [Cd] using pm⟩
 rw[Cd];rw[Ed] at p1 p2 ⊢;refine⟨p2.1,?_,λx hx y hy=>?_⟩
 ·rw[Ed]
  exact⟨(Ed.mp p1.2.1).1,p2.2.1,l⟩
 ·rcases Ch.mp hy with hy|hy
  ·exact p1.2.2 x hx y (Dh _ hy)
  ·exact p2.2.2 x hx y hy
def Mh.a (h:Mh r (A1++A2) B o T)(l:∀ x∈B,∀ y∈A2,Le r x y):Mh r A1 B (A2++o) T:=by
 obtain⟨p1,p2,pm⟩:=h;refine⟨by rw[← Cd];exact p1,?_,?_⟩
 ·rw[Cd] at p1
  rw[Ed] at p1 p2 ⊢;refine⟨p2.1,p1.2.1,λx hx y hy=>?_⟩;rcases Ch.mp hy with hy|hy
  ·exact l x hx y hy
  ·exact p2.2.2 x hx y hy
 ·refine Ni ?_ pm
  simp only[Cd];refine Iu _ ?_;simp only[← Cd];exact Jj _ Jq
def Mh.b (h:Mh r A (B1++B2) o T)(l:∀ x∈A,∀ y∈B2,Le r x y):Mh r A B1 (B2++o) T:=by
 obtain⟨p1,p2,pm⟩:=h;refine⟨?_,by rw[← Cd];exact p2,by simpa only [Cd] using pm⟩
 rw[Cd] at p2;rw[Ed] at p1 p2 ⊢;refine⟨p1.1,p2.2.1,λx hx y hy=>?_⟩;rcases Ch.mp hy with hy|hy
 ·exact l x hx y hy
 ·exact p1.2.2 x hx y hy
end
structure Mo (r:Bo→Aj)(T:Ab Bo)(m:Ay Bo):Prop where
 pm:m.toList.Perm T
 up:m.toList.Pairwise (Le r)
abbrev uE (st:Gd)(g:Ai):Gd:=Di (kindOf st) (arrOf st) (pendingOf st) g (failedOf st)
def nK {a:Ay Bo}{i:Ai}(h:i<a.size):a.toList.drop i=a.getD i nv::a.toList.drop (i+1):=by
 rw[Gq (by simpa using h)]
 congr 1
 simp[Gr,h]
def zZ {a:Ay Bo}{i:Ai}(h:i<a.size):a.getD i nv∈a.toList:=by
 have e:a.getD i nv=a[i]:=by simp[Gr,h]
 rw[e];exact Array.getElem_mem_toList h
def yV {r:Bo→Aj}{a:Ay Bo}(s:a.toList.Pairwise (Le r)){i j:Ai}(h:i≤j)(hj:j<a.size):r (a.getD i nv)≤r (a.getD j nv):=by
 rcases Yk i j with l|l
 ·have e:=IJ.mp s i j (by simpa using Kx l hj) (by simpa using hj) l
  have hi:i<a.size:=Kx l hj;simpa [Gr,hi,hj,Le] using e
 ·rw[Nat.le_antisymm h l];exact Jr _
def p9 {a:Ay Bo}{i:Ai}{x:Bo}(h:x∈a.toList.drop i):∃ j,i≤j∧j<a.size∧x=a.getD j nv:=by
 obtain⟨k,hk,e⟩:=Cg.mp h;rw[OU] at e;have hk':k<a.size-i:=by simpa using hk
 refine⟨i+k,by omega,by omega,?_⟩
 have:i+k<a.size:=by omega
 simp[Gr,this,← e]
def pB {a:Ay Bo}{x:Bo}(h:x∈a.toList.take n):∃ j,j<n∧j<a.size∧x=a.getD j nv:=by
 obtain⟨k,hk,e⟩:=Cg.mp h;rw[OT] at e;have hk':k<n∧k<a.size:=by rw[Ee,Bh] at hk;omega
 refine⟨k,hk'.1,hk'.2,?_⟩;simp[Gr,hk'.2,← e]
def m9 {a:Ay Bo}{i k:Ai}:(a.extract i (i+k)).toList++a.toList.drop (i+k)=a.toList.drop i:=by
 rw[IP,Ht,Ja,← List.drop_drop];exact Mt _ _
def bW {a:Ay Bo}{i:Ai}:(a.extract i a.size).toList=a.toList.drop i:=by
 rw[IP,Ht];exact Gj (by simp)
def lB {a:Ay Bo}{i k:Ai}{x:Bo}(h:x∈(a.extract i (i+k)).toList):∃ j,i≤j∧j<i+k∧j<a.size∧x=a.getD j nv:=by
 rw[IP,Ht,Ja] at h;obtain⟨m,hm,e⟩:=Cg.mp h;rw[OT,OU] at e;have hm':m<k∧i+m<a.size:=by rw[Ee,Hr,Bh] at hm;omega
 refine⟨i+m,by omega,by omega,hm'.2,?_⟩
 simp[Gr,hm'.2,← e]
def GL (r:Bo→Aj)(a b o:Ay Bo)(i j:Ai):Prop:=Mg r o.toList (a.toList.drop i) (b.toList.drop j) (a.toList++b.toList)
section
variable {r:Bo→Aj}{a b o:Ay Bo}{i j k:Ai}
def GL.pb (sa:a.toList.Pairwise (Le r))(h:GL r a b o i j)(hj:j<b.size)(l:i<a.size→r (b.getD j nv)≤r (a.getD i nv)):GL r a b (o.push (b.getD j nv)) i (j+1):=by
 have h':Mg r o.toList (a.toList.drop i) ([b.getD j nv]++b.toList.drop (j+1)) (a.toList++b.toList):=by rw[Rq,← nK hj];exact h
 have:=h'.b λx hx y hy=>by
  cases Dg.mp hx;obtain⟨m,h1,h2,rfl⟩:=p9 hy;exact Fb (l (by omega)) (yV sa h1 h2)
 unfold GL;rw[Eo];exact this
def GL.pa (sb:b.toList.Pairwise (Le r))(h:GL r a b o i j)(hi:i<a.size)(l:j<b.size→r (a.getD i nv)≤r (b.getD j nv)):GL r a b (o.push (a.getD i nv)) (i+1) j:=by
 have h':Mg r o.toList ([a.getD i nv]++a.toList.drop (i+1)) (b.toList.drop j) (a.toList++b.toList):=by rw[Rq,← nK hi];exact h
 have:=h'.a λx hx y hy=>by
  cases Dg.mp hx;obtain⟨m,h1,h2,rfl⟩:=p9 hy;exact Fb (l (by omega)) (yV sb h1 h2)
 unfold GL;rw[Eo];exact this
def GL.ea (sb:b.toList.Pairwise (Le r))(h:GL r a b o i j)(hj:j<b.size)(l:∀ m,m<k→r (a.getD (i+m) nv)≤r (b.getD j nv)):GL r a b (o++a.extract i (i+k)) (i+k) j:=by
 have h':Mg r o.toList ((a.extract i (i+k)).toList++a.toList.drop (i+k)) (b.toList.drop j) (a.toList++b.toList):=by rw[m9];exact h
 have:=h'.a λx hx y hy=>by
  obtain⟨m,h1,h2,h3,rfl⟩:=lB hx;obtain⟨m',h4,h5,rfl⟩:=p9 hy;have:=l (m-i) (by omega)
  rw[show i+(m-i)=m by omega] at this
  exact Fb this (yV sb h4 h5)
 unfold GL;rw[Eb];exact this
def GL.eb (sa:a.toList.Pairwise (Le r))(h:GL r a b o i j)(hi:i<a.size)(l:∀ m,m<k→r (b.getD (j+m) nv)≤r (a.getD i nv)):GL r a b (o++b.extract j (j+k)) i (j+k):=by
 have h':Mg r o.toList (a.toList.drop i) ((b.extract j (j+k)).toList++b.toList.drop (j+k)) (a.toList++b.toList):=by rw[m9];exact h
 have:=h'.b λx hx y hy=>by
  obtain⟨m,h1,h2,h3,rfl⟩:=lB hx;obtain⟨m',h4,h5,rfl⟩:=p9 hy;have:=l (m-j) (by omega)
  rw[show j+(m-j)=m by omega] at this
  exact Fb this (yV sa h4 h5)
 unfold GL;rw[Eb];exact this
def GL.fin (h:GL r a b o i j)(e:i=a.size∨j=b.size):Mo r (a.toList++b.toList) (o++a.extract i a.size++b.extract j b.size):=by
 refine⟨?_,?_⟩ <;> rw[Eb,Eb,bW,bW]
 ·exact h.pm
 ·rcases e with rfl|rfl
  ·rw[Jk (by simp),Fo];exact h.p2
  ·rw[Jk (l:=b.toList) (by simp),Fo];exact h.p1
def GL.last (h:GL r a b o i j)(e:i+1=a.size)(l:∀ x∈b.toList,Le r x (a.getD (a.size-1) nv)):Mo r (a.toList++b.toList) (o++b.extract j b.size++a.extract i a.size):=by
 have hi:i<a.size:=by omega
 have hd:a.toList.drop i=[a.getD i nv]:=by rw[nK hi,Jk (by simp;omega)]
 refine⟨?_,?_⟩ <;> rw[Eb,Eb,bW,bW]
 ·refine Ni ?_ h.pm
  rw[Cd,Cd];exact Iu _ Jq
 ·have p1:=h.p1
  rw[hd] at p1 ⊢;rw[Ed] at p1 ⊢;refine⟨h.p2,La _ _,λx hx y hy=>?_⟩;rcases Ch.mp hx with hx|hx
  ·exact p1.2.2 x hx y hy
  ·cases Dg.mp hy
   have:=l x (IQ hx);rw[show a.size-1=i by omega] at this
   exact this
end
def rF {p:Ai→Ar}:∀ (n:Ai),(∀ i j,i≤j→j<n→p j=true→p i=true)→∃ c,c≤n∧∀ i,i<n→p i=decide (i<c)
 |0,_=>⟨0,Av _,λi h=>by omega⟩
 |n+1,h=>by
  obtain⟨c,hc,e⟩:=rF n λi j a b=>h i j a (by omega)
  by_cases q:p n=true
  ·refine⟨n+1,Av _,λi hi=>?_⟩
   rw[h i n (by omega) (by omega) q]
   simp[hi]
  ·refine⟨c,by omega,λi hi=>?_⟩
   rcases Yk i n with l|l
   ·exact e i l
   ·have:i=n:=by omega
    subst this;have:¬ i<c:=by omega
    simp[this,q]
section
variable {M:Ks}{A:By}{E:Ad→Ah→Prop}{s:Ah}{κ : Kn}{U:Bo→Prop}{r:Bo→Aj}
def qO {σ α:Type}{c:Prop}[OE c]{x y:Tq σ Kb α}{Q:α→σ→Prop}{st:σ}(h1:c→wpS M A E s x Q st)(h2:¬ c→wpS M A E s y Q st):wpS M A E s (if c then x else y) Q st:=by
 by_cases h:c
 ·rw[Bi h];exact h1 h
 ·rw[Bf h];exact h2 h
def VW (C:Cm M A s κ U r){key:Bo}{arr:Ay Bo}{base n hint:Ai}{Q:Am Ai→Gd→Prop}{st:Gd}(hk:kindOf st=κ)(hh:hint<n)(hb:base+n≤arr.size)(hU:∀ i,i<n→U (arr.getD (base+i) nv))(hkU:U key)
  (sa:∀ i j,i≤j→j<n→r (arr.getD (base+i) nv)≤r (arr.getD (base+j) nv)) (h:∀ c,c≤n→(∀ i,i<c→r (arr.getD (base+i) nv)≤r key)→(∀ i,c≤i→i<n→r key<r (arr.getD (base+i) nv))→Q (Aa c) st):wpS M A E s (nQ false key arr base n hint) Q st:=by
 obtain⟨c,hc,e⟩:=rF (p:=λi=>!decide (r key<r (arr.getD (base+i) nv))) n λi j a b q=>by
  have:=sa i j a b;simp only[Ln,Fj] at q ⊢;omega
 refine tX C hk hh hb hU hkU hc (λi hi=>by simpa using e i hi) (h c hc (λi hi=>?_) λi hi hn=>?_)
 ·have:=e i (by omega)
  simp only[hi,IW,Ln,Fj] at this;omega
 ·have:=e i hn
  simp only[show ¬ i<c by omega,IZ,Bool.not_eq_false',Ct] at this
  exact this
def VX (C:Cm M A s κ U r){key:Bo}{arr:Ay Bo}{base n hint:Ai}{Q:Am Ai→Gd→Prop}{st:Gd}(hk:kindOf st=κ)(hh:hint<n)(hb:base+n≤arr.size)(hU:∀ i,i<n→U (arr.getD (base+i) nv))(hkU:U key)
  (sa:∀ i j,i≤j→j<n→r (arr.getD (base+i) nv)≤r (arr.getD (base+j) nv)) (h:∀ c,c≤n→(∀ i,i<c→r (arr.getD (base+i) nv)<r key)→(∀ i,c≤i→i<n→r key≤r (arr.getD (base+i) nv))→Q (Aa c) st):wpS M A E s (nQ true key arr base n hint) Q st:=by
 obtain⟨c,hc,e⟩:=rF (p:=λi=>decide (r (arr.getD (base+i) nv)<r key)) n λi j a b q=>by
  have:=sa i j a b;simp only[Ct] at q ⊢;omega
 refine tX C hk hh hb hU hkU hc (λi hi=>by simpa using e i hi) (h c hc (λi hi=>?_) λi hi hn=>?_)
 ·have:=e i (by omega)
  simp only[hi,IW,Ct] at this;exact this
 ·have:=e i hn
  simp only[show ¬ i<c by omega,IZ,Fj] at this
  omega
end
section
variable {prog:Bl}{w:Bz}{A:By}{E:Ad→Ah→Prop}{s:Ah}{κ : Kn}{U:Bo→Prop}{r:Bo→Aj}
def cQ (C:Cm (Au prog w) A s κ U r){a b:Ay Bo}{Q:Ay Bo→Gd→Prop}{st:Gd}(hk:kindOf st=κ)(ua:∀ x∈a.toList,U x)(ub:∀ x∈b.toList,U x)(sa:a.toList.Pairwise (Le r))(sb:b.toList.Pairwise (Le r))
  (h:∀ m g,Mo r (a.toList++b.toList) m→Q m (uE st g)) (ha:0<a.size) (hb:0<b.size) (h0:r (b.getD 0 nv)≤r (a.getD 0 nv)) (h1:∀ x∈b.toList,Le r x (a.getD (a.size-1) nv)):wpS (Au prog w) A E s (UC a b) Q st:=by
 have G0:GL r a b #[] 0 0:=⟨by simpa using sa,by simpa using sb,by simp⟩
 have G1:=G0.pb sa hb λ_=>h0;refine Ba (OA (Hc ⟨rfl,?_⟩));refine Ba (zP hb ?_);dsimp only;refine qO (λe=>Bm (h _ (Qy st) (G1.fin (.inr (by simpa using e))))) λe1=>?_
 refine qO (λe=>Bm (h _ (Qy st) (G1.last (by simpa using e) h1))) λe2=>?_
 have e1:1<b.size:=by
  have:¬ 1=b.size:=by simpa using e1
  omega
 have e2:0+1<a.size:=by
  have:¬ 0+1=a.size:=by simpa using e2
  omega
 refine Ba (Lb ?_);refine Ba (Hl (Fk (I:=λx c st'=>(∃ g,st'=uE st g)∧∃ o i j g,c=(none,o,i,j,g)∧GL r a b o i j∧i+1<a.size∧j<b.size∧x<i+j)
  (Q:=λc st'=>(∃ g,st'=uE st g)∧∃ m,c.1=Aa m∧Mo r (a.toList++b.toList) m) ?_ ?_ ⟨⟨Qy st,rfl⟩,_,0,1,_,rfl,G1,e2,e1,by omega⟩) ?_)
 ·rintro x c st' _ hx ⟨⟨g,rfl⟩,o,i,j,mg,rfl,G,hi,hj,hp⟩
  dsimp only;refine Ba (Hl (Fk (I:=λy c st'=>(∃ g,st'=uE st g)∧∃ o i' j' p q,c=(none,o,i',j',p,q)∧GL r a b o i' j'∧i'+1<a.size∧j'<b.size∧i+j+y≤i'+j')
   (Q:=λc st'=>(∃ g,st'=uE st g)∧((∃ m,c.1=Aa m∧Mo r (a.toList++b.toList) m)∨∃ o i' j' p q,c=(none,o,i',j',p,q)∧GL r a b o i' j'∧i'+1<a.size∧j'<b.size∧x+1<i'+j')) ?_ ?_ ⟨⟨g,rfl⟩,o,i,j,0,0,rfl,G,hi,hj,by omega⟩) ?_)
  ·rintro y c st' _ hy ⟨⟨g,rfl⟩,o,i',j',p,q,rfl,G,hi,hj,hq⟩
   dsimp only;refine Ba (zP hj (Ba (zP (i:=i') (by omega) (Ba (C.lt (ub _ (zZ hj)) (ua _ (zZ (i:=i') (by omega))) hk ?_)))))
   dsimp only;refine qO (λl=>?_) λl=>?_
   ·have l:r (b.getD j' nv)<r (a.getD i' nv):=by simpa using l
    have G2:=G.pb sa hj λ_=>Hq l;refine Ba (zP hj ?_);refine qO (λe=>?_) λe=>?_
    ·exact Bm ⟨⟨g,rfl⟩,.inl ⟨_,rfl,G2.fin (.inr (by simpa using e))⟩⟩
    ·have e:¬ j'+1=b.size:=by simpa using e
     refine qO (λ_=>?_) λ_=>?_
     ·exact Bm ⟨⟨g,rfl⟩,.inr ⟨_,_,_,_,_,rfl,G2,hi,by omega,by omega⟩⟩
     ·exact Bm ⟨⟨g,rfl⟩,_,_,_,_,_,rfl,G2,hi,by omega,by omega⟩
   ·have l:¬ r (b.getD j' nv)<r (a.getD i' nv):=by simpa using l
    have G2:=G.pa sb (by omega) λ_=>Xf.mp l
    refine Ba (zP (i:=i') (by omega) ?_)
    refine qO (λe=>?_) λe=>?_
    ·exact Bm ⟨⟨g,rfl⟩,.inl ⟨_,rfl,G2.last (by simpa using e) h1⟩⟩
    ·have e:¬ i'+1+1=a.size:=by simpa using e
     refine qO (λ_=>?_) λ_=>?_
     ·exact Bm ⟨⟨g,rfl⟩,.inr ⟨_,_,_,_,_,rfl,G2,by omega,hj,by omega⟩⟩
     ·exact Bm ⟨⟨g,rfl⟩,_,_,_,_,_,rfl,G2,by omega,hj,by omega⟩
  ·rintro c st' ⟨z,o,i',j',p,q,rfl,G,hi,hj,hq⟩
   exact⟨z,.inr ⟨_,_,_,_,_,rfl,G,hi,hj,by omega⟩⟩
  ·rintro c st' ⟨⟨g,rfl⟩,⟨m,hc,hm⟩|⟨o,i',j',p,q,rfl,G,hi,hj,hq⟩⟩
   ·obtain⟨c0,c1⟩:=c
    cases hc;exact Bm ⟨⟨g,rfl⟩,m,rfl,hm⟩
   dsimp only;refine Ba (OA (Hc ⟨rfl,?_⟩));refine Ba (Hl (Fk (I:=λy c st'=>(∃ g,st'=uE st g)∧∃ o i' j' p q t,c=(none,o,i',j',p,q,t)∧GL r a b o i' j'∧i'+1<a.size∧j'<b.size∧x+1<i'+j')
    (Q:=λc st'=>(∃ g,st'=uE st g)∧((∃ m,c.1=Aa m∧Mo r (a.toList++b.toList) m)∨∃ o i' j' p q t,c=(none,o,i',j',p,q,t)∧GL r a b o i' j'∧i'+1<a.size∧j'<b.size∧x+1<i'+j')) ?_ ?_ ⟨⟨g,rfl⟩,o,i',j',_,_,_,rfl,G,hi,hj,hq⟩) ?_)
   ·rintro y c st' _ hy ⟨⟨g,rfl⟩,o,i,j,p,q,t,rfl,G,hi,hj,hq⟩
    dsimp only;refine qO (λ_=>?_) λ_=>?_
    all_goals
     refine Ba (Iy ?_);refine Ba (zP hj ?_);refine Ba (VW C hk (by omega) (by omega) (λi hi=>ua _ (zZ (by omega))) (ub _ (zZ hj)) (λi j a b=>yV sa (by omega) (by omega)) λk k1 k2 k3=>?_)
     dsimp only;apply qO
     case' h1 =>
      intro kp;have G2:=G.ea sb hj k2;refine qO (λe=>Bm ⟨⟨_,rfl⟩,.inl ⟨_,rfl,G2.last (by simpa using e) h1⟩⟩) λe3=>?_
      refine qO (λe=>Bm ⟨⟨_,rfl⟩,.inl ⟨_,rfl,G2.fin (.inl (by simpa using e))⟩⟩) λe4=>?_
      have e3:¬ i+k+1=a.size:=by simpa using e3
      have e4:¬ i+k=a.size:=by simpa using e4
      have hl:i+k+1<a.size:=by omega
      have hc:=k3 k (Av _) (by omega)
      have hq:x+1<i+k+j:=by omega
     case' h2 =>
      intro kp;have G2:=G;have hl:=hi;have hc:r (b.getD j nv)<r (a.getD i nv):=k3 0 (by omega) (by omega)
     all_goals
      refine Ba (zP hj ?_);have G3:=G2.pb sa hj λ_=>Hq hc;refine qO (λe=>Bm ⟨⟨_,rfl⟩,.inl ⟨_,rfl,G3.fin (.inr (by simpa using e))⟩⟩) λe5=>?_
      have e5:¬ j+1=b.size:=by simpa using e5
      refine Ba (zP (Js hl) ?_);refine Ba (VX C hk (by omega) (by omega) (λi hi=>ub _ (zZ (by omega))) (ua _ (zZ (Js hl))) (λi j a b=>yV sb (by omega) (by omega)) λm m1 m2 m3=>?_)
      dsimp only;apply qO
      case' h1 =>
       intro mp;have G4:=G3.eb sa (Js hl) λi hi=>Hq (m2 i hi);refine qO (λe=>Bm ⟨⟨_,rfl⟩,.inl ⟨_,rfl,G4.fin (.inr (by simpa using e))⟩⟩) λe6=>?_
       have e6:¬ j+1+m=b.size:=by simpa using e6
       have hj4:j+1+m<b.size:=by omega
       have hc4:=m3 m (Av _) (by omega)
      case' h2 =>
       intro mp;have G4:=G3;have hj4:j+1<b.size:=by omega
       have hc4:=m3 0 (by omega) (by omega)
      all_goals
       refine Ba (zP (Js hl) ?_);have G5:=G4.pa sb (Js hl) λ_=>hc4;refine qO (λe=>Bm ⟨⟨_,rfl⟩,.inl ⟨_,rfl,G5.last (by simpa using e) h1⟩⟩) λe7=>?_
       simp only[Nq] at e7;exact qO (λ_=>Bm ⟨⟨_,rfl⟩,.inr ⟨_,_,_,_,_,_,rfl,G5,by omega,by omega,by omega⟩⟩) λ_=>Bm ⟨⟨_,rfl⟩,_,_,_,_,_,_,rfl,G5,by omega,by omega,by omega⟩
   ·rintro c st' ⟨z,o,i',j',p,q,t,rfl,G,hi,hj,hq⟩
    exact⟨z,.inr ⟨_,_,_,_,_,_,rfl,G,hi,hj,by omega⟩⟩
   ·rintro c st' ⟨⟨g,rfl⟩,⟨m,hc,hm⟩|⟨o,i',j',p,q,t,rfl,G,hi,hj,hq⟩⟩
    ·obtain⟨c0,c1⟩:=c
     cases hc;exact Bm ⟨⟨g,rfl⟩,m,rfl,hm⟩
    dsimp only;refine Ba (Iy ?_);exact Bm ⟨⟨_,rfl⟩,_,_,_,_,rfl,G,hi,hj,by omega⟩
 ·rintro c st' ⟨z,o,i',j',p,rfl,G,hi,hj,hq⟩
  exfalso
  omega
 ·rintro c st' ⟨⟨g,rfl⟩,m,hc,hm⟩
  obtain⟨c0,c1⟩:=c;cases hc;exact Bm (h m g hm)
end
def lO {a:Ay Bo}(h:0<n)(hn:n≤a.size):a.toList.take n=a.toList.take (n-1)++[a.getD (n-1) nv]:=by
 obtain⟨m,rfl⟩:∃ m,n=m+1:=⟨n-1,by omega⟩
 rw[Nat.add_sub_cancel,List.take_add_one];have hm:m<a.size:=by omega
 simp[Gr,hm]
def rN {a:Ay Bo}{i:Ai}(h:i≤n):a.toList.take i++(a.extract i n).toList=a.toList.take n:=by
 rw[IP,Ht]
 conv=>rhs;rw[show n=i+(n-i) by omega,List.take_add]
def gT {a:Ay Bo}:(a.extract 0 n).toList=a.toList.take n:=by
 rw[IP,Ht];simp
def pA {a:Ay Bo}{i:Ai}{x:Bo}(hn:i≤n)(h:x∈(a.extract i n).toList):∃ j,i≤j∧j<n∧j<a.size∧x=a.getD j nv:=by
 obtain⟨k,rfl⟩:∃ k,n=i+k:=⟨n-i,by omega⟩
 exact lB h
def GH (r:Bo→Aj)(a b o:Ay Bo)(i j:Ai):Prop:=Mh r (a.toList.take i) (b.toList.take j) o.toList.reverse (a.toList++b.toList)
section
variable {r:Bo→Aj}{a b o:Ay Bo}{i j k:Ai}
def GH.pa (sb:b.toList.Pairwise (Le r))(h:GH r a b o i j)(h1:0<i)(h2:i≤a.size)(hj:j≤b.size)(l:0<j→r (b.getD (j-1) nv)≤r (a.getD (i-1) nv)):GH r a b (o.push (a.getD (i-1) nv)) (i-1) j:=by
 have h':Mh r (a.toList.take (i-1)++[a.getD (i-1) nv]) (b.toList.take j) o.toList.reverse (a.toList++b.toList):=by rw[← lO h1 h2];exact h
 have:=h'.a λx hx y hy=>by
  cases Dg.mp hy;obtain⟨m,q1,q2,rfl⟩:=pB hx;exact Fb (yV sb (by omega) (by omega)) (l (by omega))
 unfold GH;rw[Eo,Kh];exact this
def GH.pb (sa:a.toList.Pairwise (Le r))(h:GH r a b o i j)(h1:0<j)(h2:j≤b.size)(hi:i≤a.size)(l:0<i→r (a.getD (i-1) nv)≤r (b.getD (j-1) nv)):GH r a b (o.push (b.getD (j-1) nv)) i (j-1):=by
 have h':Mh r (a.toList.take i) (b.toList.take (j-1)++[b.getD (j-1) nv]) o.toList.reverse (a.toList++b.toList):=by rw[← lO h1 h2];exact h
 have:=h'.b λx hx y hy=>by
  cases Dg.mp hy;obtain⟨m,q1,q2,rfl⟩:=pB hx;exact Fb (yV sa (by omega) (by omega)) (l (by omega))
 unfold GH;rw[Eo,Kh];exact this
def GH.ea (sb:b.toList.Pairwise (Le r))(h:GH r a b o i j)(hk:k≤i)(hj:j≤b.size)(l:0<j→∀ m,k≤m→m<i→m<a.size→r (b.getD (j-1) nv)≤r (a.getD m nv)):GH r a b (o++(a.extract k i).reverse) k j:=by
 have h':Mh r (a.toList.take k++(a.extract k i).toList) (b.toList.take j) o.toList.reverse (a.toList++b.toList):=by rw[rN hk];exact h
 have:=h'.a λx hx y hy=>by
  obtain⟨m,q1,q2,rfl⟩:=pB hx;obtain⟨m',q3,q4,q5,rfl⟩:=pA hk hy;exact Fb (yV sb (by omega) (by omega)) (l (by omega) m' q3 q4 q5)
 unfold GH;rw[Eb,Jx,Kh,Sg];exact this
def GH.eb (sa:a.toList.Pairwise (Le r))(h:GH r a b o i j)(hk:k≤j)(hi:i≤a.size)(l:0<i→∀ m,k≤m→m<j→m<b.size→r (a.getD (i-1) nv)≤r (b.getD m nv)):GH r a b (o++(b.extract k j).reverse) i k:=by
 have h':Mh r (a.toList.take i) (b.toList.take k++(b.extract k j).toList) o.toList.reverse (a.toList++b.toList):=by rw[rN hk];exact h
 have:=h'.b λx hx y hy=>by
  obtain⟨m,q1,q2,rfl⟩:=pB hx;obtain⟨m',q3,q4,q5,rfl⟩:=pA hk hy;exact Fb (yV sa (by omega) (by omega)) (l (by omega) m' q3 q4 q5)
 unfold GH;rw[Eb,Jx,Kh,Sg];exact this
def GH.fin (h:GH r a b o i j)(e:i=0∨j=0):Mo r (a.toList++b.toList) (a.extract 0 i++b.extract 0 j++o.reverse):=by
 refine⟨?_,?_⟩ <;> rw[Eb,Eb,gT,gT,Jx]
 ·exact h.pm
 ·rcases e with rfl|rfl
  ·rw[Xi,Jh];exact h.p2
  ·rw[Xi,Fo];exact h.p1
def GH.first (h:GH r a b o i j)(e:j=1)(hb:0<b.size)(l:∀ x∈a.toList,Le r (b.getD 0 nv) x):Mo r (a.toList++b.toList) (b.extract 0 j++a.extract 0 i++o.reverse):=by
 subst e;have hd:b.toList.take 1=[b.getD 0 nv]:=by rw[lO (by omega) (by omega)];rfl
 refine⟨?_,?_⟩ <;> rw[Eb,Eb,gT,gT,Jx]
 ·refine Ni ?_ h.pm
  exact Jj _ Jq
 ·have p2:=h.p2
  rw[hd] at p2 ⊢;rw[Cd];rw[Ed] at p2 ⊢;refine⟨p2.1,h.p1,λx hx y hy=>?_⟩;rcases Ch.mp hy with hy|hy
  ·cases Dg.mp hx
   exact l y (Hx hy)
  ·exact p2.2.2 x hx y hy
end
section
variable {prog:Bl}{w:Bz}{A:By}{E:Ad→Ah→Prop}{s:Ah}{κ : Kn}{U:Bo→Prop}{r:Bo→Aj}
def cP (C:Cm (Au prog w) A s κ U r){a b:Ay Bo}{Q:Ay Bo→Gd→Prop}{st:Gd}(hk:kindOf st=κ)(ua:∀ x∈a.toList,U x)(ub:∀ x∈b.toList,U x)(sa:a.toList.Pairwise (Le r))(sb:b.toList.Pairwise (Le r))
  (h:∀ m g,Mo r (a.toList++b.toList) m→Q m (uE st g)) (ha:0<a.size) (hb:0<b.size) (h0:∀ x∈a.toList,Le r (b.getD 0 nv) x) (h1:r (b.getD (b.size-1) nv)≤r (a.getD (a.size-1) nv)):wpS (Au prog w) A E s (UB a b) Q st:=by
 have G0:GH r a b #[] a.size b.size:=by
  unfold GH;rw[Gj (by simp),Gj (by simp)]
  exact⟨by simpa using sa,by simpa using sb,by simp⟩
 have G1:=G0.pa sb ha (Av _) (Av _) λ_=>h1;refine Ba (OA (Hc ⟨rfl,?_⟩));refine Ba (zP (i:=a.size-1) (by omega) ?_)
 dsimp only;refine qO (λe=>Bm (h _ (Qy st) (G1.fin (.inl (by simpa using e))))) λe1=>?_
 refine qO (λe=>Bm (h _ (Qy st) (G1.first (by simpa using e) hb h0))) λe2=>?_
 have e1:¬ a.size-1=0:=by simpa using e1
 have e2:¬ b.size=1:=by simpa using e2
 refine Ba (Lb ?_);refine Ba (Hl (Fk (I:=λx c st'=>(∃ g,st'=uE st g)∧∃ o i j g,c=(none,i,j,o,g)∧GH r a b o i j∧0<i∧i≤a.size∧1<j∧j≤b.size∧x+i+j<a.size+b.size)
  (Q:=λc st'=>(∃ g,st'=uE st g)∧∃ m,c.1=Aa m∧Mo r (a.toList++b.toList) m) ?_ ?_ ⟨⟨Qy st,rfl⟩,_,a.size-1,b.size,_,rfl,G1,by omega,by omega,by omega,by omega,by omega⟩) ?_)
 ·rintro x c st' _ hx ⟨⟨g,rfl⟩,o,i,j,mg,rfl,G,hi,hi2,hj,hj2,hp⟩
  dsimp only;refine Ba (Hl (Fk (I:=λy c st'=>(∃ g,st'=uE st g)∧∃ o i' j' p q,c=(none,i',j',o,p,q)∧GH r a b o i' j'∧0<i'∧i'≤a.size∧1<j'∧j'≤b.size∧i'+j'+y≤i+j)
   (Q:=λc st'=>(∃ g,st'=uE st g)∧((∃ m,c.1=Aa m∧Mo r (a.toList++b.toList) m)∨∃ o i' j' p q,c=(none,i',j',o,p,q)∧GH r a b o i' j'∧0<i'∧i'≤a.size∧1<j'∧j'≤b.size∧x+1+i'+j'<a.size+b.size)) ?_ ?_ ⟨⟨g,rfl⟩,o,i,j,0,0,rfl,G,hi,hi2,hj,hj2,by omega⟩) ?_)
  ·rintro y c st' _ hy ⟨⟨g,rfl⟩,o,i',j',p,q,rfl,G,hi,hi2,hj,hj2,hq⟩
   dsimp only;refine Ba (zP (i:=j'-1) (by omega) (Ba (zP (i:=i'-1) (by omega) (Ba (C.lt (ub _ (zZ (i:=j'-1) (by omega))) (ua _ (zZ (i:=i'-1) (by omega))) hk ?_)))))
   dsimp only;refine qO (λl=>?_) λl=>?_
   ·have l:r (b.getD (j'-1) nv)<r (a.getD (i'-1) nv):=by simpa using l
    have G2:=G.pa sb hi hi2 hj2 λ_=>Hq l;refine Ba (zP (i:=i'-1) (by omega) ?_)
    refine qO (λe=>Bm ⟨⟨g,rfl⟩,.inl ⟨_,rfl,G2.fin (.inl (by simpa using e))⟩⟩) λe=>?_
    have e:¬ i'-1=0:=by simpa using e
    exact qO (λ_=>Bm ⟨⟨g,rfl⟩,.inr ⟨_,_,_,_,_,rfl,G2,by omega,by omega,hj,hj2,by omega⟩⟩) λ_=>Bm ⟨⟨g,rfl⟩,_,_,_,_,_,rfl,G2,by omega,by omega,hj,hj2,by omega⟩
   ·have l:¬ r (b.getD (j'-1) nv)<r (a.getD (i'-1) nv):=by simpa using l
    have G2:=G.pb sa (by omega) hj2 hi2 λ_=>Xf.mp l
    refine Ba (zP (i:=j'-1) (by omega) ?_)
    refine qO (λe=>Bm ⟨⟨g,rfl⟩,.inl ⟨_,rfl,G2.first (by simpa using e) hb h0⟩⟩) λe=>?_
    have e:¬ j'-1=1:=by simpa using e
    exact qO (λ_=>Bm ⟨⟨g,rfl⟩,.inr ⟨_,_,_,_,_,rfl,G2,hi,hi2,by omega,by omega,by omega⟩⟩) λ_=>Bm ⟨⟨g,rfl⟩,_,_,_,_,_,rfl,G2,hi,hi2,by omega,by omega,by omega⟩
  ·rintro c st' ⟨z,o,i',j',p,q,rfl,G,hi,hi2,hj,hj2,hq⟩
   exact⟨z,.inr ⟨_,_,_,_,_,rfl,G,hi,hi2,hj,hj2,by omega⟩⟩
  ·rintro c st' ⟨⟨g,rfl⟩,⟨m,hc,hm⟩|⟨o,i',j',p,q,rfl,G,hi,hi2,hj,hj2,hq⟩⟩
   ·obtain⟨c0,c1⟩:=c
    cases hc;exact Bm ⟨⟨g,rfl⟩,m,rfl,hm⟩
   dsimp only;refine Ba (OA (Hc ⟨rfl,?_⟩));refine Ba (Hl (Fk (I:=λy c st'=>(∃ g,st'=uE st g)∧∃ o i' j' p q t,c=(none,i',j',o,p,q,t)∧GH r a b o i' j'∧0<i'∧i'≤a.size∧1<j'∧j'≤b.size∧x+1+i'+j'<a.size+b.size)
    (Q:=λc st'=>(∃ g,st'=uE st g)∧((∃ m,c.1=Aa m∧Mo r (a.toList++b.toList) m)∨∃ o i' j' p q t,c=(none,i',j',o,p,q,t)∧GH r a b o i' j'∧0<i'∧i'≤a.size∧1<j'∧j'≤b.size∧x+1+i'+j'<a.size+b.size)) ?_ ?_ ⟨⟨g,rfl⟩,o,i',j',_,_,_,rfl,G,hi,hi2,hj,hj2,hq⟩) ?_)
   ·rintro y c st' _ hy ⟨⟨g,rfl⟩,o,i,j,p,q,t,rfl,G,hi,hi2,hj,hj2,hq⟩
    dsimp only;refine qO (λ_=>?_) λ_=>?_
    all_goals
     refine Ba (Iy ?_);refine Ba (zP (i:=j-1) (by omega) ?_)
     refine Ba (VW C hk (by omega) (by omega) (λi hi=>ua _ (zZ (by omega))) (ub _ (zZ (i:=j-1) (by omega))) (λi j a b=>yV sa (by omega) (by omega)) λk k1 k2 k3=>?_)
     simp only[Nl] at k2 k3;dsimp only;apply qO
     case' h1 =>
      intro kp;have G2:=G.ea sb k1 hj2 λ_ m q1 q2 _=>Hq (k3 m q1 q2);refine qO (λe=>Bm ⟨⟨_,rfl⟩,.inl ⟨_,rfl,G2.fin (.inl (by simpa using e))⟩⟩) λe3=>?_
      have e3:¬ k=0:=by simpa using e3
      have hl:0<k:=by omega
      have hl2:k≤a.size:=by omega
      have hc:=k2 (k-1) (by omega)
      have hq:x+1+k+j<a.size+b.size:=by omega
     case' h2 =>
      intro kp;have G2:=G;have hl:=hi;have hl2:=hi2;have hc:=k2 (i-1) (by omega)
     all_goals
      refine Ba (zP (i:=j-1) (by omega) ?_)
      have G3:=G2.pb sa (by omega) hj2 hl2 λ_=>hc
      refine qO (λe=>Bm ⟨⟨_,rfl⟩,.inl ⟨_,rfl,G3.first (by simpa using e) hb h0⟩⟩) λe5=>?_
      have e5:¬ j-1=1:=by simpa using e5
      refine Ba (zP (Bv (Xg hl Wf) hl2) ?_);refine Ba (VX C hk (by omega) (by omega) (λi hi=>ub _ (zZ (by omega))) (ua _ (zZ (Bv (Xg hl Wf) hl2))) (λi j a b=>yV sb (by omega) (by omega)) λm m1 m2 m3=>?_)
      simp only[Nl] at m2 m3;dsimp only;apply qO
      case' h1 =>
       intro mp;have G4:=G3.eb sa m1 hl2 λ_ m q1 q2 _=>m3 m q1 q2;refine qO (λe=>Bm ⟨⟨_,rfl⟩,.inl ⟨_,rfl,G4.first (by simpa using e) hb h0⟩⟩) λe6=>?_
       refine qO (λe=>Bm ⟨⟨_,rfl⟩,.inl ⟨_,rfl,G4.fin (.inr (by simpa using e))⟩⟩) λe7=>?_
       have e6:¬ m=1:=by simpa using e6
       have e7:¬ m=0:=by simpa using e7
       have hj4:1<m:=by omega
       have hj5:m≤b.size:=by omega
       have hc4:=Hq (m2 (m-1) (by omega))
      case' h2 =>
       intro mp;have G4:=G3;have hj4:1<j-1:=by omega
       have hj5:j-1≤b.size:=by omega
       have hc4:=Hq (m2 (j-1-1) (by omega))
      all_goals
       refine Ba (zP (Bv (Xg hl Wf) hl2) ?_);have G5:=G4.pa sb hl hl2 hj5 λ_=>hc4;refine qO (λe=>Bm ⟨⟨_,rfl⟩,.inl ⟨_,rfl,G5.fin (.inl (by simpa using e))⟩⟩) λe7=>?_
       simp only[Nq] at e7;exact qO (λ_=>Bm ⟨⟨_,rfl⟩,.inr ⟨_,_,_,_,_,_,rfl,G5,by omega,by omega,by omega,by omega,by omega⟩⟩) λ_=>Bm ⟨⟨_,rfl⟩,_,_,_,_,_,_,rfl,G5,by omega,by omega,by omega,by omega,by omega⟩
   ·rintro c st' ⟨z,o,i',j',p,q,t,rfl,G,hi,hi2,hj,hj2,hq⟩
    exact⟨z,.inr ⟨_,_,_,_,_,_,rfl,G,hi,hi2,hj,hj2,by omega⟩⟩
   ·rintro c st' ⟨⟨g,rfl⟩,⟨m,hc,hm⟩|⟨o,i',j',p,q,t,rfl,G,hi,hi2,hj,hj2,hq⟩⟩
    ·obtain⟨c0,c1⟩:=c
     cases hc;exact Bm ⟨⟨g,rfl⟩,m,rfl,hm⟩
    dsimp only;refine Ba (Iy ?_);exact Bm ⟨⟨_,rfl⟩,_,_,_,_,rfl,G,hi,hi2,hj,hj2,by omega⟩
 ·rintro c st' ⟨z,o,i',j',p,rfl,G,hi,hi2,hj,hj2,hq⟩
  exfalso
  omega
 ·rintro c st' ⟨⟨g,rfl⟩,m,hc,hm⟩
  obtain⟨c0,c1⟩:=c;cases hc;exact Bm (h m g hm)
end
def Z3:∀ (l:Ab Bo) (arr:Ay Bo) (o d:Ai),o+d+l.length≤arr.size→∀ k,((l.zipIdx d).foldl (λa p=>a.setIfInBounds (o+p.2) p.1) arr)[k]? = if o+d≤k∧k<o+d+l.length then l[k-(o+d)]? else arr[k]?
 |[],arr,o,d,h,k=>by
  rw[Bf (by simp only[Gv];omega)];rfl
 |x::l,arr,o,d,h,k=>by
  rw[Ci] at h;rw[Pq,Hy,Z3 l _ o (d+1) (by rw[Array.size_setIfInBounds];omega) k,Ci]
  by_cases h1:k=o+d
  ·subst h1
   rw[Bf (by omega),Bi (by omega),Um,Array.getElem?_setIfInBounds_self_of_lt (by omega)]
   rfl
  ·by_cases h2:o+(d+1)≤k∧k<o+(d+1)+l.length
   ·rw[Bi h2,Bi (by omega),show k-(o+d)=(k-(o+(d+1)))+1 by omega,Py]
   ·rw[Bf h2,Bf (by omega),Array.getElem?_setIfInBounds_ne (by omega)]
def wb (arr:Ay Bo)(o:Ai)(m:Ay Bo):Ay Bo:=m.toList.zipIdx.foldl (λa p=>a.setIfInBounds (o+p.2) p.1) arr
def MG {o:Ai}(h:o+m.size≤arr.size)(k:Ai):(wb arr o m).getD k nv=if o≤k∧k<o+m.size then m.getD (k-o) nv else arr.getD k nv:=by
 have e:=Z3 m.toList arr o 0 (by simpa using h) k
 simp only[Uo,Bh,Bj] at e;rw[Fd,Fd,Fd];unfold wb;rw[e]
 split <;> rfl
def MH {o:Ai}(h:o+m.size≤arr.size):(wb arr o m).toList=arr.toList.take o++(m.toList++arr.toList.drop (o+m.size)):=by
 apply Vj;intro k;have e:=Z3 m.toList arr o 0 (by simpa using h) k
 simp only[Uo,Bh,Bj] at e;unfold wb;rw[Bj,e];have lt:(arr.toList.take o).length=o:=by rw[Ee,Bh];omega
 by_cases h1:k<o
 ·rw[Bf (by omega),Bk (by omega),Kp h1,Bj]
 ·rw[Dd (by omega),lt]
  by_cases h2:k<o+m.size
  ·rw[Bi (by omega),Bk (by rw[Bh];omega),Bj]
  ·rw[Bf (by omega),Dd (by rw[Bh];omega),Tz,Bh,Bj]
   congr 1
   omega
def MI {o:Ai}(h:o+n≤arr.size)(p:m.toList.Perm (arr.extract o (o+n)).toList):(wb arr o m).toList.Perm arr.toList:=by
 have hm:m.size=n:=by
  have:=p.length_eq;rw[Bh,Bh,Im] at this;omega
 rw[MH (by omega),hm]
 have e:arr.toList=arr.toList.take o++((arr.extract o (o+n)).toList++arr.toList.drop (o+n)):=by rw[m9,Mt]
 conv=>rhs;rw[e]
 exact Iu _ (Jj _ p)
def Seg (r:Bo→Aj)(a:Ay Bo)(lo n:Ai):Prop:=∀ i j,lo≤i→i≤j→j<lo+n→r (a.getD i nv)≤r (a.getD j nv)
def iQ {r:Bo→Aj}{a:Ay Bo}(h:Seg r a lo n){i k:Ai}(h1:lo≤i)(h2:i+k≤lo+n)(h3:i+k≤a.size):(a.extract i (i+k)).toList.Pairwise (Le r):=by
 rw[IJ];intro x y hx hy l;have hx':x<k:=by rw[Bh,Im] at hx;omega
 have hy':y<k:=by rw[Bh,Im] at hy;omega
 have e:=h (i+x) (i+y) (by omega) (by omega) (by omega)
 have q1:i+x<a.size:=by omega
 have q2:i+y<a.size:=by omega
 simpa [Gr,q1,q2,Le] using e
def rM {a:Ay Bo}{i k m:Ai}(h:m<k)(h3:i+k≤a.size):(a.extract i (i+k)).getD m nv=a.getD (i+m) nv:=by
 have q1:i+m<a.size:=by omega
 have q2:m<(a.extract i (i+k)).size:=by rw[Im];omega
 have q3:m<min (i+k) a.size-i:=by omega
 simp[Gr,q1,q3]
def VS {a:Ay Bo}{i j k:Ai}(h1:i≤j)(h2:j≤k):(a.extract i j).toList++(a.extract j k).toList=(a.extract i k).toList:=by
 rw[← Eb,Array.extract_append_extract]
 congr 2 <;> omega
section
variable {prog:Bl}{w:Bz}{A:By}{E:Ad→Ah→Prop}{s:Ah}{κ : Kn}{U:Bo→Prop}{r:Bo→Aj}
def MJ {M:Ks}{σ:Type}{Q:PUnit→σ→Prop}{st st':σ}(h:Q ⟨⟩ st'):wpS M A E s (set st':Tq σ Kb PUnit) Q st:=by
 unfold wpS;rw[StateT.run_set];exact Al ⟨rfl,h⟩
def cO (C:Cm (Au prog w) A s κ U r){i sa na pw nb pz:Ai}{Q:Ar→Gd→Prop}{arr:Ay Bo}{pd:Ay (Ai × Ai × Ai)}{g:Ai}(ua:∀ x∈arr.toList,U x)(e1:pd[i]? = Aa (sa,na,pw))(e2:pd[i+1]? = Aa (sa+na,nb,pz))(p1:0<na)(p2:0<nb)(hz:sa+na+nb≤arr.size)
  (s1:Seg r arr sa na) (s2:Seg r arr (sa+na) nb)
  (h:∀ arr' g,arr'.toList.Perm arr.toList→(∀ k,k<sa∨sa+na+nb≤k→arr'.getD k nv=arr.getD k nv)→Seg r arr' sa (na+nb)→Q true (Di κ arr' ((pd.setIfInBounds i (sa,na+nb,pw)).eraseIdxIfInBounds (i+1)) g none)) :
  wpS (Au prog w) A E s (mergeAt' i) Q (Di κ arr pd g none):=by
 refine Ba (Lb ?_);dsimp only;rw[e1,e2];dsimp only;refine Ba (MJ ?_);refine Ba (zP (i:=sa+na) (by omega) ?_)
 refine Ba (VW C rfl (by omega) (by omega) (λi hi=>ua _ (zZ (by omega))) (ua _ (zZ (by omega))) (λi j a b=>s1 _ _ (by omega) (by omega) (by omega)) λk k1 k2 k3=>?_)
 dsimp only;refine qO (λe=>Bm (h arr g (Li _) (λ_ _=>rfl) λi j a b c=>?_)) λe=>?_
 ·have e:na-k=0:=by simpa using e
  by_cases q1:j<sa+na
  ·exact s1 i j a b q1
  ·by_cases q2:sa+na≤i
   ·exact s2 i j q2 b (by omega)
   ·have:=k2 (i-sa) (by omega)
    rw[show sa+(i-sa)=i by omega] at this
    exact Fb this (s2 _ _ (Av _) (by omega) (by omega))
 have e:¬ na-k=0:=by simpa using e
 refine Ba (zP (i:=sa+k+(na-k)-1) (by omega) ?_)
 refine Ba (VX C rfl (by omega) (by omega) (λi hi=>ua _ (zZ (by omega))) (ua _ (zZ (by omega))) (λi j a b=>s2 _ _ (by omega) (by omega) (by omega)) λm m1 m2 m3=>?_)
 dsimp only;rw[show sa+k+(na-k)-1=sa+na-1 by omega] at m2 m3
 have hk3:=k3 k (Av _) (by omega)
 refine qO (λe=>?_) λe'=>?_
 ·exfalso
  have e:m=0:=by simpa using e
  subst e;have q1:=m3 0 (Av _) p2;have q2:=s1 (sa+k) (sa+na-1) (by omega) (by omega) (by omega)
  rw[Uo] at q1;omega
 have e':¬ m=0:=by simpa using e'
 have ex:arr.extract (sa+k) (sa+na)=arr.extract (sa+k) (sa+k+(na-k)):=by rw[show sa+k+(na-k)=sa+na by omega]
 have zx:(arr.extract (sa+k) (sa+na)).size=na-k:=by rw[Im];omega
 have zy:(arr.extract (sa+na) (sa+na+m)).size=m:=by rw[Im];omega
 have gx:∀ i,i<na-k→(arr.extract (sa+k) (sa+na)).getD i nv=arr.getD (sa+k+i) nv:=λi hi=>by rw[ex];exact rM hi (by omega)
 have gy:∀ i,i<m→(arr.extract (sa+na) (sa+na+m)).getD i nv=arr.getD (sa+na+i) nv:=λi hi=>rM hi (by omega)
 have px:(arr.extract (sa+k) (sa+na)).toList.Pairwise (Le r):=by rw[ex];exact iQ s1 (by omega) (by omega) (by omega)
 have py:(arr.extract (sa+na) (sa+na+m)).toList.Pairwise (Le r):=iQ s2 (by omega) (by omega) (by omega)
 have mx:∀ x∈(arr.extract (sa+k) (sa+na)).toList,∃ j,sa+k≤j∧j<sa+na∧x=arr.getD j nv:=λx hx=>by
  obtain⟨j,q1,q2,q3,q4⟩:=pA (by omega) hx
  exact⟨j,q1,q2,q4⟩
 have my:∀ x∈(arr.extract (sa+na) (sa+na+m)).toList,∃ j,sa+na≤j∧j<sa+na+m∧x=arr.getD j nv:=λx hx=>by
  obtain⟨j,q1,q2,q3,q4⟩:=pA (by omega) hx
  exact⟨j,q1,q2,q4⟩
 have lox:∀ x∈(arr.extract (sa+k) (sa+na)).toList,r (arr.getD (sa+na) nv)≤r x∧r x≤r (arr.getD (sa+na-1) nv):=λx hx=>by
  obtain⟨j,q1,q2,rfl⟩:=mx x hx;have:=s1 (sa+k) j (by omega) q1 q2
  exact⟨by omega,s1 j _ (by omega) (by omega) (by omega)⟩
 have loy:∀ x∈(arr.extract (sa+na) (sa+na+m)).toList,r (arr.getD (sa+na) nv)≤r x∧r x≤r (arr.getD (sa+na-1) nv):=λx hx=>by
  obtain⟨j,q1,q2,rfl⟩:=my x hx;have:=m2 (j-(sa+na)) (by omega)
  rw[show sa+na+(j-(sa+na))=j by omega] at this
  exact⟨s2 _ _ (Av _) q1 (by omega),by omega⟩
 have fin:∀ mg g',Mo r ((arr.extract (sa+k) (sa+na)).toList++(arr.extract (sa+na) (sa+na+m)).toList) mg→Q true (Di κ (wb arr (sa+k) mg) ((pd.setIfInBounds i (sa,na+nb,pw)).eraseIdxIfInBounds (i+1)) g' none):=by
  intro mg g' M;have ej:(arr.extract (sa+k) (sa+na)).toList++(arr.extract (sa+na) (sa+na+m)).toList=(arr.extract (sa+k) (sa+k+(na-k+m))).toList:=by
   rw[VS (by omega) (by omega),show sa+k+(na-k+m)=sa+na+m by omega]
  have hm:mg.size=na-k+m:=by
   have:=M.pm.length_eq;rw[Cb,Bh,Bh,Bh,zx,zy] at this;exact this
  have gd:=λj=>MG (arr:=arr) (m:=mg) (o:=sa+k) (by omega) j
  refine h _ g' (MI (n:=na-k+m) (by omega) (ej▸M.pm)) (λj hj=>?_) λi j a b c=>?_
  ·rw[gd,Bf (by omega)]
  ·have bd:∀ j,sa+k≤j→j<sa+na+m→r (arr.getD (sa+na) nv)≤r (mg.getD (j-(sa+k)) nv)∧r (mg.getD (j-(sa+k)) nv)≤r (arr.getD (sa+na-1) nv):=λj h1 h2=>by
    have:=M.pm.mem_iff.mp (zZ (a:=mg) (i:=j-(sa+k)) (by omega))
    rcases Ch.mp this with q|q
    ·exact lox _ q
    ·exact loy _ q
   rw[gd,gd,hm];by_cases i1:i<sa+k
   ·rw[Bf (by omega)]
    have u:=k2 (i-sa) (by omega)
    rw[show sa+(i-sa)=i by omega] at u
    by_cases j1:j<sa+k
    ·rw[Bf (by omega)];exact s1 i j a b (by omega)
    ·by_cases j2:j<sa+na+m
     ·rw[Bi (by omega)];exact Fb u (bd j (by omega) j2).1
     ·rw[Bf (by omega)];exact Fb u (s2 _ _ (Av _) (by omega) (by omega))
   ·by_cases i2:i<sa+na+m
    ·rw[Bi (by omega)]
     by_cases j2:j<sa+na+m
     ·rw[Bi (by omega)];exact yV M.up (by omega) (by omega)
     ·rw[Bf (by omega)]
      have v:=m3 (j-(sa+na)) (by omega) (by omega)
      rw[show sa+na+(j-(sa+na))=j by omega] at v
      exact Fb (bd i (by omega) i2).2 v
    ·rw[Bf (by omega),Bf (by omega)]
     exact s2 i j (by omega) b (by omega)
 have ux:∀ x∈(arr.extract (sa+k) (sa+na)).toList,U x:=λx hx=>by obtain⟨j,q1,q2,rfl⟩:=mx x hx;exact ua _ (zZ (by omega))
 have uy:∀ x∈(arr.extract (sa+na) (sa+na+m)).toList,U x:=λx hx=>by obtain⟨j,q1,q2,rfl⟩:=my x hx;exact ua _ (zZ (by omega))
 have y0:(arr.extract (sa+na) (sa+na+m)).getD 0 nv=arr.getD (sa+na) nv:=gy 0 (by omega)
 have xl:(arr.extract (sa+k) (sa+na)).getD ((arr.extract (sa+k) (sa+na)).size-1) nv=arr.getD (sa+na-1) nv:=by rw[zx,gx _ (by omega)];congr 1;omega
 refine qO (λ_=>?_) λ_=>?_
 ·refine Ba (cQ C rfl ux uy px py (λmg g' M=>?_) (by rw[zx];omega) (by rw[zy];omega) ?_ λx hx=>?_)
  ·refine Ba (Iy (Ba (Lb (Bm ?_))))
   exact fin mg g' M
  ·rw[y0];exact(lox _ (zZ (by rw[zx];omega))).1
  ·rw[xl];exact(loy x hx).2
 ·refine Ba (cP C rfl ux uy px py (λmg g' M=>?_) (by rw[zx];omega) (by rw[zy];omega) (λx hx=>?_) ?_)
  ·refine Ba (Iy (Ba (Lb (Bm ?_))))
   exact fin mg g' M
  ·rw[y0];exact(lox x hx).1
  ·rw[xl];exact(loy _ (zZ (by rw[zy];omega))).2
end
def mir (a:Ay Bo)(i j:Ai):Ay Bo:=mirror a i j ((j-i)/2)
def yP {a:Ay Bo}{i j:Ai}(hj:j≤a.size)(k:Ai):(mir a i j).getD k nv=if i≤k∧k<j then a.getD (i+j-1-k) nv else a.getD k nv:=by
 rw[Fd,Fd,Fd];unfold mir;rw[getElem?_mirror_all hj]
 split <;> rfl
structure Cr (a b:Ay Bo)(lo n:Ai):Prop where
 pm:b.toList.Perm a.toList
 out:∀ k,k<lo∨lo+n≤k→b.getD k nv=a.getD k nv
def Cr.z {a b:Ay Bo}(h:Cr a b lo n):b.size=a.size:=by
 have:=h.pm.length_eq;simpa using this
def Cr.rfl' {a:Ay Bo}:Cr a a lo n:=⟨Li _,λ_ _=>rfl⟩
def Cr.mir {a b:Ay Bo}{i j:Ai}(h:Cr a b lo n)(h1:lo≤i)(h2:j≤lo+n)(h3:j≤a.size):Cr a (mir b i j) lo n:=
 ⟨(O8.mp (mirror_perm _ _ _ _)).trans h.pm,λk hk=>by rw[yP (by rw[h.z];exact h3),Bf (by omega)];exact h.out k hk⟩
def Dsg (r:Bo→Aj)(a:Ay Bo)(lo n:Ai):Prop:=∀ i j,lo≤i→i≤j→j<lo+n→r (a.getD j nv)≤r (a.getD i nv)
def JF {r:Bo→Aj}{a:Ay Bo}(h:Seg r a lo n)(h1:1≤n)(l:r (a.getD (lo+n-1) nv)≤r (a.getD (lo+n) nv)):Seg r a lo (n+1):=λi j h2 h3 h4=>by
 by_cases q:j<lo+n
 ·exact h i j h2 h3 q
 ·have:j=lo+n:=by omega
  subst this;by_cases q2:i=lo+n
  ·subst q2;exact Jr _
  ·exact Fb (h i (lo+n-1) h2 (by omega) (by omega)) l
def jW {r:Bo→Aj}{a:Ay Bo}(h:Dsg r a lo n)(h1:1≤n)(l:r (a.getD (lo+n) nv)≤r (a.getD (lo+n-1) nv)):Dsg r a lo (n+1):=λi j h2 h3 h4=>by
 by_cases q:j<lo+n
 ·exact h i j h2 h3 q
 ·have:j=lo+n:=by omega
  subst this;by_cases q2:i=lo+n
  ·subst q2;exact Jr _
  ·exact Fb l (h i (lo+n-1) h2 (by omega) (by omega))
def iR {r:Bo→Aj}{a:Ay Bo}:Seg r a lo 1:=λi j h2 h3 h4=>by
 have:i=j:=by omega
 subst this;exact Jr _
def PJ {r:Bo→Aj}{a:Ay Bo}:Dsg r a lo 1:=λi j h2 h3 h4=>by
 have:i=j:=by omega
 subst this;exact Jr _
def YG (r:Bo→Aj)(a:Ay Bo)(lo n q:Ai):Prop:=q+1≤n∧∀ k,lo+n-(q+1)≤k→k<lo+n→r (a.getD k nv)=r (a.getD (lo+n-1) nv)
set_option tactic.hygienic true in
def gS {r:Bo→Aj}{a:Ay Bo}{q:Ai}(hn:lo+n≤a.size)(h:YG r a lo n q)(k:Ai):r ((mir a (lo+n-(q+1)) (lo+n)).getD k nv)=r (a.getD k nv):=by
 rw[yP hn];have:=h.1
 split
 ·rename_i c
  rw[h.2 k (by omega) c.2,h.2 _ (by omega) (by omega)]
 ·rfl
def PH {r:Bo→Aj}{a:Ay Bo}(hn:lo+n≤a.size)(h:Dsg r a lo n):Seg r (mir a lo (lo+n)) lo n:=λi j h2 h3 h4=>by
 rw[yP hn,yP hn,Bi (by omega),Bi (by omega)]
 exact h _ _ (by omega) (by omega) (by omega)
section
variable {prog:Bl}{w:Bz}{A:By}{E:Ad→Ah→Prop}{s:Ah}{κ : Kn}{U:Bo→Prop}{r:Bo→Aj}
def gO (C:Cm (Au prog w) A s κ U r){i j:Ai}{arr:Ay Bo}{pd:Ay (Ai × Ai × Ai)}{g:Ai}{Q:Am Ar→Gd→Prop}(ua:∀ x∈arr.toList,U x)(hi:i<arr.size)(hj:j<arr.size)
  (q:Q (Aa (decide (r (arr.getD i nv)<r (arr.getD j nv)))) (Di κ arr pd g none)):wpS (Au prog w) A E s (ltAt' i j) Q (Di κ arr pd g none):=by
 refine Ba (Lb ?_);exact Ba (zP hi (Ba (zP hj (C.lt (ua _ (zZ hi)) (ua _ (zZ hj)) rfl q))))
def fQ {i j:Ai}{pd:Ay (Ai × Ai × Ai)}{g:Ai}{Q:PUnit→Gd→Prop}(q:Q ⟨⟩ (Di κ (mir arr i j) pd g none)):wpS (Au prog w) A E s (reverseSlice' i j) Q (Di κ arr pd g none):=Iy q
def sE (C:Cm (Au prog w) A s κ U r){lo N:Ai}{arr:Ay Bo}{pd:Ay (Ai × Ai × Ai)}{g:Ai}{Q:Am Ai→Gd→Prop}(ua:∀ x∈arr.toList,U x)(h1:1≤N)(hz:lo+N≤arr.size)
  (h:∀ n b,1≤n→n≤N→Cr arr b lo N→Seg r b lo n→Q (Aa n) (Di κ b pd g none)):wpS (Au prog w) A E s (countRun' lo N) Q (Di κ arr pd g none):=by
 have uc:∀ {b:Ay Bo},Cr arr b lo N→∀ x∈b.toList,U x:=λh x hx=>ua x (h.pm.mem_iff.mp hx);have asc:∀ {b:Ay Bo} {n:Ai} {f:Ai→Am (Am Ai) × Ai→Tq Gd Kb (ForInStep (Am (Am Ai) × Ai))},Cr arr b lo N→1≤n→n≤N→Seg r b lo n →
   (∀ x m,f x (none,m)=(ltAt' (lo+m) (lo+m-1) >>= λo=>match o with
    |some z=>if z then pure (.done (none,m)) else pure (.yield (none,m+1))
    |_=>pure (.done (Aa none,m))))→wpS (Au prog w) A E s (forIn [n:N] (none,n) f) (λc st'=>st'=Di κ b pd g none∧∃ m,c=(none,m)∧n≤m∧m≤N∧Seg r b lo m∧(m=N∨r (b.getD (lo+m) nv)<r (b.getD (lo+m-1) nv))) (Di κ b pd g none):=by
  intro b n f cr hn hN sg hf;have zb:=cr.z;refine Fk (I:=λx c st'=>st'=Di κ b pd g none∧c=(none,x)∧n≤x∧Seg r b lo x) ?_ ?_ ⟨rfl,rfl,Av _,sg⟩
  ·rintro x c st' hx1 hx ⟨rfl,rfl,hx3,sg⟩
   rw[hf];refine Ba (gO C (uc cr) (by omega) (by omega) ?_)
   by_cases l:r (b.getD (lo+x) nv)<r (b.getD (lo+x-1) nv)
   ·simp only[l,IW,Dk]
    exact Bm ⟨rfl,x,rfl,hx1,by omega,sg,.inr l⟩
   ·simp only[l,IZ,Bt,Eh]
    exact Bm ⟨rfl,rfl,by omega,JF sg (by omega) (by omega)⟩
  ·rintro c st' ⟨rfl,rfl,hx3,sg⟩
   rw[show max n N=N by omega] at sg ⊢
   exact⟨rfl,N,rfl,hN,Av _,sg,.inl rfl⟩
 refine Ba (Hl (asc Cr.rfl' (Av 1) h1 iR λ_ _=>rfl) ?_);rintro c st' ⟨rfl,n,rfl,n1,n2,sg,nd⟩;dsimp only;refine qO (λe=>Bm (h n arr n1 n2 Cr.rfl' sg)) λe=>?_;have e:¬ n=N:=by simpa using e
 have nd:r (arr.getD (lo+n) nv)<r (arr.getD (lo+n-1) nv):=by omega
 apply qO
 case' h1 =>
  intro np;refine Ba (gO C ua (by omega) (by omega) ?_)
  dsimp only;refine qO (λe=>Bm (h n arr n1 n2 Cr.rfl' sg)) λl=>?_;have l:¬ r (arr.getD lo nv)<r (arr.getD (lo+n-1) nv):=by simpa using l
  refine Ba (fQ ?_);have cr:Cr arr (mir arr lo (lo+n)) lo N:=Cr.rfl'.mir (Av _) (by omega) (by omega)
  have ds:Dsg r (mir arr lo (lo+n)) lo (n+1):=by
   refine jW (λi j a b c=>?_) n1 ?_
   ·rw[yP (by omega),yP (by omega),Bi (by omega),Bi (by omega)]
    exact sg _ _ (by omega) (by omega) (by omega)
   ·rw[yP (by omega),yP (by omega),Bf (by omega),Bi (by omega),show lo+(lo+n)-1-(lo+n-1)=lo by omega]
    omega
 case' h2 =>
  intro np;have cr:Cr arr arr lo N:=Cr.rfl';have ds:Dsg r arr lo (n+1):=by
   have:n=1:=by omega
   subst this;exact jW PJ (Av _) (Hq nd)
 all_goals
  refine Ba (OA (Hc ⟨rfl,?_⟩));refine Ba (Hl (Fk (I:=λx c st'=>∃ b q,st'=Di κ b pd g none∧c=(none,x,q)∧Cr arr b lo N∧Dsg r b lo x∧YG r b lo x q)
   (Q:=λc st'=>∃ b m q,st'=Di κ b pd g none∧c=(none,m,q)∧1≤m∧m≤N∧Cr arr b lo N∧Dsg r b lo m∧YG r b lo m q) ?_ ?_ ⟨_,0,rfl,rfl,cr,ds,by omega,λk a b=>by rw[show k=lo+(n+1)-1 by omega]⟩) ?_)
  ·rintro x c st' hx1 hx ⟨b,q,rfl,rfl,cr,ds,eq⟩
   dsimp only;have zb:=cr.z;refine Ba (gO C (uc cr) (by omega) (by omega) ?_)
   dsimp only;refine qO (λl=>?_) λl=>?_
   ·have l:r (b.getD (lo+x) nv)<r (b.getD (lo+x-1) nv):=by simpa using l
    refine qO (λqp=>Ba (fQ (Bm ⟨_,0,rfl,rfl,cr.mir (by have:=eq.1;omega) (by omega) (by omega),λi j a c d=>?_,by omega,λk a b=>by rw[show k=lo+(x+1)-1 by omega]⟩))) λqp=>Bm ⟨_,0,rfl,rfl,cr,jW ds (by omega) (Hq l),by omega,λk a b=>by rw[show k=lo+(x+1)-1 by omega]⟩
    rw[gS (by omega) eq,gS (by omega) eq]
    exact jW ds (by omega) (Hq l) i j a c d
   ·have l:¬ r (b.getD (lo+x) nv)<r (b.getD (lo+x-1) nv):=by simpa using l
    refine Ba (gO C (uc cr) (by omega) (by omega) ?_)
    dsimp only;refine qO (λl2=>Bm ⟨b,x,q,rfl,rfl,by omega,by omega,cr,ds,eq⟩) λl2=>?_
    have l2:¬ r (b.getD (lo+x-1) nv)<r (b.getD (lo+x) nv):=by simpa using l2
    have ee:r (b.getD (lo+x) nv)=r (b.getD (lo+x-1) nv):=by omega
    refine Bm ⟨b,q+1,rfl,rfl,cr,jW ds (by omega) (by omega),by have:=eq.1;omega,λk a c=>?_⟩
    rw[show lo+(x+1)-1=lo+x by omega]
    by_cases kx:k=lo+x
    ·rw[kx]
    ·rw[ee];exact eq.2 k (by omega) (by omega)
  ·rintro c st' ⟨b,q,rfl,rfl,cr,ds,eq⟩
   rw[show max (n+1) N=N by omega] at ds eq ⊢
   exact⟨b,N,q,rfl,rfl,h1,Av _,cr,ds,eq⟩
  ·rintro c st' ⟨b,m,q,rfl,rfl,m1,m2,cr,ds,eq⟩
   dsimp only;have zb:=cr.z;apply qO
   case' h1 =>
    intro qp;refine Ba (fQ ?_);have cr2:=cr.mir (i:=lo+m-(q+1)) (j:=lo+m) (by have:=eq.1;omega) (by omega) (by omega)
    have ds2:Dsg r (mir b (lo+m-(q+1)) (lo+m)) lo m:=λi j a c d=>by
     rw[gS (by omega) eq,gS (by omega) eq]
     exact ds i j a c d
   case' h2 =>
    intro qp;have cr2:=cr;have ds2:=ds
   all_goals
    have z2:=cr2.z;refine Ba (fQ ?_);refine Ba (Hl (asc (cr2.mir (Av _) (by omega) (by omega)) m1 m2 (PH (by omega) ds2) λ_ _=>rfl) ?_)
    rintro c st' ⟨rfl,n',rfl,q1,q2,q3,_⟩;exact Bm (h n' _ (by omega) q2 (cr2.mir (Av _) (by omega) (by omega)) q3)
end
def r0 {a:Ay Bo}{src d:Ai}(hs:src<a.size)(hd:d≤src)(k:Ai):(bubble a src d).getD k nv=if k=src-d then a.getD src nv else if src-d<k∧k≤src then a.getD (k-1) nv else a.getD k nv:=by
 simp only[Fd];rw[getElem?_bubble hs d hd]
 repeat' split
 all_goals rfl
section
variable {prog:Bl}{w:Bz}{A:By}{E:Ad→Ah→Prop}{s:Ah}{κ : Kn}{U:Bo→Prop}{r:Bo→Aj}
def cE (C:Cm (Au prog w) A s κ U r){lo n ok:Ai}{arr:Ay Bo}{pd:Ay (Ai × Ai × Ai)}{g:Ai}{Q:Ar→Gd→Prop}(ua:∀ x∈arr.toList,U x)(h1:ok≤n)(hz:lo+n≤arr.size)(sg:Seg r arr lo ok)
  (h:∀ b,Cr arr b lo n→Seg r b lo n→Q true (Di κ b pd g none)):wpS (Au prog w) A E s (binarySort' lo n ok) Q (Di κ arr pd g none):=by
 have uc:∀ {b:Ay Bo},Cr arr b lo n→∀ x∈b.toList,U x:=λh x hx=>ua x (h.pm.mem_iff.mp hx);have sg1:Seg r arr lo (max ok 1):=by
  by_cases q:ok=0
  ·rw[q];exact iR
  ·rw[show max ok 1=ok by omega];exact sg
 refine Ba (Hl (Fk (I:=λk c st'=>c=(none,())∧∃ b,st'=Di κ b pd g none∧Cr arr b lo n∧Seg r b lo (min k (max ok (max n 1))))
  (Q:=λc st'=>c=(none,())∧∃ b,st'=Di κ b pd g none∧Cr arr b lo n∧Seg r b lo n) ?_ ?_ ⟨rfl,arr,rfl,Cr.rfl',?_⟩) ?_)
 ·rintro k c st' hk hkn ⟨rfl,b,rfl,cr,sg⟩
  have zb:=cr.z;rw[show min k (max ok (max n 1))=k by omega] at sg
  dsimp only;refine Ba (Hl (Fk (I:=λx c st'=>st'=Di κ b pd g none∧∃ l u,c=(none,l,u)∧l≤u∧u≤k∧u-l≤k-x∧(∀ i,i<l→r (b.getD (lo+i) nv)≤r (b.getD (lo+k) nv))∧∀ i,u≤i→i<k→r (b.getD (lo+k) nv)<r (b.getD (lo+i) nv))
   (Q:=λc st'=>st'=Di κ b pd g none∧∃ l u,c=(none,l,u)∧l≤k∧(∀ i,i<l→r (b.getD (lo+i) nv)≤r (b.getD (lo+k) nv))∧∀ i,l≤i→i<k→r (b.getD (lo+k) nv)<r (b.getD (lo+i) nv)) ?_ ?_
   ⟨rfl,0,k,rfl,by omega,by omega,by omega,λi hi=>by omega,λi a b=>by omega⟩) ?_)
  ·rintro x c st' _ hx ⟨rfl,l,u,rfl,q1,q2,q3,q4,q5⟩
   dsimp only;refine qO (λe=>Bm ⟨rfl,l,u,rfl,by omega,q4,λi a b=>q5 i (by omega) b⟩) λe=>?_
   refine Ba (gO C (uc cr) (by omega) (by omega) ?_)
   dsimp only;refine qO (λz=>?_) λz=>?_
   ·have z:r (b.getD (lo+k) nv)<r (b.getD (lo+(l+u)/2) nv):=by simpa using z
    exact Bm ⟨rfl,_,_,rfl,by omega,by omega,by omega,q4,λi a c=>Int.lt_of_lt_of_le z (sg _ _ (by omega) (by omega) (by omega))⟩
   ·have z:¬ r (b.getD (lo+k) nv)<r (b.getD (lo+(l+u)/2) nv):=by simpa using z
    exact Bm ⟨rfl,_,_,rfl,by omega,by omega,by omega,λi a=>Fb (sg _ _ (by omega) (by omega) (by omega)) (Xf.mp z),q5⟩
  ·rintro c st' ⟨rfl,l,u,rfl,q1,q2,q3,q4,q5⟩
   exact⟨rfl,l,u,rfl,by omega,q4,λi a b=>q5 i (by omega) b⟩
  ·rintro c st' ⟨rfl,l,u,rfl,q1,q4,q5⟩
   dsimp only;refine Ba (Iy (Bm ⟨rfl,_,rfl,⟨(O8.mp (bubble_perm _ _ _)).trans cr.pm,λj hj=>?_⟩,?_⟩))
   ·show (bubble b (lo+k) (lo+k-(lo+l))).getD j nv=_
    rw[r0 (by omega) (by omega),Bf (by omega),Bf (by omega)]
    exact cr.out j hj
   ·rw[show min (k+1) (max ok (max n 1))=k+1 by omega]
    have e:∀ j,(bubble b (lo+k) (lo+k-(lo+l))).getD j nv=if j=lo+l then b.getD (lo+k) nv else if lo+l<j∧j≤lo+k then b.getD (j-1) nv else b.getD j nv:=λj=>by
     rw[r0 (by omega) (by omega),show lo+k-(lo+k-(lo+l))=lo+l by omega]
    intro i j a c d;show r ((bubble b (lo+k) (lo+k-(lo+l))).getD i nv)≤r ((bubble b (lo+k) (lo+k-(lo+l))).getD j nv);rw[e,e];by_cases i1:i<lo+l
    ·rw[Bf (by omega),Bf (by omega)]
     have u1:=q4 (i-lo) (by omega)
     rw[show lo+(i-lo)=i by omega] at u1
     by_cases j1:j<lo+l
     ·rw[Bf (by omega),Bf (by omega)];exact sg i j a c (by omega)
     ·by_cases j2:j=lo+l
      ·rw[Bi j2];exact u1
      ·rw[Bf j2,Bi (by omega)];exact sg _ _ a (by omega) (by omega)
    ·by_cases i2:i=lo+l
     ·rw[Bi i2]
      by_cases j2:j=lo+l
      ·rw[Bi j2];exact Jr _
      ·rw[Bf j2,Bi (by omega)]
       have:=q5 (j-1-lo) (by omega) (by omega)
       rw[show lo+(j-1-lo)=j-1 by omega] at this
       exact Hq this
     ·rw[Bf i2,Bi (by omega),Bf (by omega),Bi (by omega)]
      exact sg _ _ (by omega) (by omega) (by omega)
 ·rintro c st' ⟨rfl,b,rfl,cr,sg⟩
  refine⟨rfl,b,rfl,cr,?_⟩;intro i j a c d;exact sg i j a c (by omega)
 ·rw[show min (max ok 1) (max ok (max n 1))=max ok 1 by omega];exact sg1
 ·rintro c st' ⟨rfl,b,rfl,cr,sg⟩
  exact Bm (h b cr sg)
end
def Rn (r:Bo→Aj)(a:Ay Bo):Ab (Ai × Ai × Ai)→Ai→Ai→Prop
 |[],x,y=>x=y
 |(s,n,_)::t,x,y=>s=x∧0<n∧Seg r a s n∧Rn r a t (x+n) y
section
variable {r:Bo→Aj}{a b:Ay Bo}
def Rn.app:∀ {L1 L2:Ab (Ai × Ai × Ai)} {x y:Ai},Rn r a (L1++L2) x y↔∃ m,Rn r a L1 x m∧Rn r a L2 m y
 |[],L2,x,y=>⟨λh=>⟨x,rfl,h⟩,λ⟨m,h1,h2⟩=>by cases h1;exact h2⟩
 |(s,n,p)::t,L2,x,y=>by
  show s=x∧0<n∧Seg r a s n∧Rn r a (t++L2) (x+n) y↔∃ m,(s=x∧0<n∧Seg r a s n∧Rn r a t (x+n) m)∧Rn r a L2 m y;rw[Rn.app];exact⟨λ⟨h1,h2,h3,m,h4,h5⟩=>⟨m,⟨h1,h2,h3,h4⟩,h5⟩,λ⟨m,⟨h1,h2,h3,h4⟩,h5⟩=>⟨h1,h2,h3,m,h4,h5⟩⟩
def Rn.le:∀ {L:Ab (Ai × Ai × Ai)} {x y:Ai},Rn r a L x y→x+L.length≤y
 |[],x,y,h=>by cases h;simp
 |(s,n,p)::t,x,y,h=>by have:=Rn.le h.2.2.2;have:=h.2.1;simp only[Ci];omega
def Rn.congr:∀ {L:Ab (Ai × Ai × Ai)} {x y:Ai},Rn r a L x y→(∀ k,x≤k→k<y→b.getD k nv=a.getD k nv)→Rn r b L x y
 |[],x,y,h,_=>h
 |(s,n,p)::t,x,y,h,e=>by
  obtain⟨rfl,h2,h3,h4⟩:=h;have l:=Rn.le h4;refine⟨rfl,h2,λi j a c d=>?_,Rn.congr h4 λk h1 h2=>e k (by omega) h2⟩
  rw[e i (by omega) (by omega),e j (by omega) (by omega)]
  exact h3 i j a c d
def Rn.mod {f:Ai × Ai × Ai→Ai × Ai × Ai}(hf:∀ u v p,∃ p',f (u,v,p)=(u,v,p')):∀ {L:Ab (Ai × Ai × Ai)} {i x y:Ai},Rn r a L x y→Rn r a (L.modify i f) x y
 |[],i,x,y,h=>by simpa using h
 |(s,n,p)::t,0,x,y,h=>by
  obtain⟨p',e⟩:=hf s n p;rw[List.modify_zero_cons,e];exact h
 |(s,n,p)::t,i+1,x,y,h=>by
  rw[List.modify_succ_cons];exact⟨h.1,h.2.1,h.2.2.1,Rn.mod hf h.2.2.2⟩
end
def tW {α:Type}{l:Ab α}{i:Ai}(h:i+1<l.length):∃ L1 x y L2,l=L1++x::y::L2∧L1.length=i:=by
 refine⟨l.take i,l[i],l[i+1],l.drop (i+2),?_,by rw[Ee];omega⟩
 rw[← Gq h,← Gq (by omega),Mt]
section
variable {prog:Bl}{w:Bz}{A:By}{E:Ad→Ah→Prop}{s:Ah}{κ : Kn}{U:Bo→Prop}{r:Bo→Aj}
def tF (C:Cm (Au prog w) A s κ U r){i e:Ai}{Q:Ar→Gd→Prop}{arr:Ay Bo}{pd:Ay (Ai × Ai × Ai)}{g:Ai}(ua:∀ x∈arr.toList,U x)(hi:i+1<pd.size)(R:Rn r arr pd.toList 0 e)(he:e≤arr.size)
  (h:∀ b pd' g,b.toList.Perm arr.toList→(∀ k,e≤k→b.getD k nv=arr.getD k nv)→Rn r b pd'.toList 0 e→pd'.size+1=pd.size→Q true (Di κ b pd' g none)):wpS (Au prog w) A E s (mergeAt' i) Q (Di κ arr pd g none):=by
 obtain⟨L1,⟨sa,na,pa⟩,⟨sb,nb,pb⟩,L2,el,hl⟩:=tW (l:=pd.toList) (i:=i) (by simpa using hi)
 rw[el] at R;obtain⟨m,R1,rfl,p1,s1,rfl,p2,s2,R2⟩:=Rn.app.mp R;have l2:=Rn.le R2;have e1:pd[i]? = Aa (sa,na,pa):=by
  rw[← Bj,el,← hl,Dd (Av _),Um];rfl
 have e2:pd[i+1]? = Aa (sa+na,nb,pb):=by
  rw[← Bj,el,← hl,Dd (by omega),Ja];rfl
 refine cO C ua e1 e2 p1 p2 (by omega) s1 s2 λb g pm out sg=>?_
 have ep:((pd.setIfInBounds i (sa,na+nb,pa)).eraseIdxIfInBounds (i+1)).toList=L1++(sa,na+nb,pa)::L2:=by
  rw[Array.toList_eraseIdxIfInBounds,Array.toList_setIfInBounds,el,← hl,List.set_append_right _ _ (Av _),Um,Cq,List.eraseIdx_append_of_length_le (by omega),Ja]
  rfl
 refine h b _ g pm (λk hk=>out k (by omega)) ?_ ?_
 ·rw[ep]
  refine Rn.app.mpr ⟨sa,R1.congr λk _ hk=>out k (by omega),rfl,by omega,sg,?_⟩
  rw[← Ya];exact R2.congr λk hk _=>out k (by omega)
 ·have:=congrArg Jl ep
  have q:=congrArg Jl el;simp only[Bh,Cb,Ci] at this q;omega
def sF (C:Cm (Au prog w) A s κ U r){Q:Pk→Gd→Prop}{arr:Ay Bo}{g:Ai}(ua:∀ x∈arr.toList,U x)(h2:0<arr.size)
  (h:∀ b pd g,b.toList.Perm arr.toList→b.toList.Pairwise (Le r)→Q () (Di κ b pd g none)):wpS (Au prog w) A E s sortRuns' Q (Di κ arr #[] g none):=by
 have uc:∀ {b:Ay Bo},b.toList.Perm arr.toList→∀ x∈b.toList,U x:=λh x hx=>ua x (h.mem_iff.mp hx);have zc:∀ {b:Ay Bo},b.toList.Perm arr.toList→b.size=arr.size:=λh=>by simpa using h.length_eq
 refine Ba (Lb ?_);dsimp only;refine Ba (Hl (Fk (I:=λx c st'=>∃ b pd g lo,st'=Di κ b pd g none∧c=(none,lo)∧b.toList.Perm arr.toList∧lo≤arr.size∧min x arr.size≤lo∧Rn r b pd.toList 0 lo)
  (Q:=λc st'=>∃ b pd g,st'=Di κ b pd g none∧c=(none,arr.size)∧b.toList.Perm arr.toList∧Rn r b pd.toList 0 arr.size) ?_ ?_ ⟨arr,#[],g,0,rfl,rfl,Li _,by omega,by omega,rfl⟩) ?_)
 ·rintro x c st' _ hx ⟨b,pd,g,lo,rfl,rfl,pm,lo1,lo2,R⟩
  have zb:=zc pm;dsimp only;refine qO (λe=>Bm ⟨b,pd,g,rfl,by rw[show lo=arr.size by omega],pm,by rw[show arr.size=lo by omega];exact R⟩) λe=>?_
  refine Ba (sE C (uc pm) (by omega) (by omega) λn b2 n1 n2 cr sg=>?_)
  have R2:Rn r b2 pd.toList 0 lo:=R.congr λk _ hk=>cr.out k (.inl hk);have pm2:=cr.pm.trans pm;have z2:=zc pm2;dsimp only;apply qO
  case' h1 =>
   intro lt;refine Ba (OA (Hc ⟨rfl,?_⟩));refine Ba (cE C (uc pm2) (by omega) (by omega) sg λb3 cr3 sg3=>?_)
   have R3:Rn r b3 pd.toList 0 lo:=R2.congr λk _ hk=>cr3.out k (.inl hk);have pm3:=cr3.pm.trans pm2;refine qO (λe=>by simp at e) λ_=>?_
   have n3:lo+min (arr.size-lo) ((sortPriv% PySem.Builtin.minRun) arr.size arr.size 0)≤arr.size:=by omega
   have n4:0<min (arr.size-lo) ((sortPriv% PySem.Builtin.minRun) arr.size arr.size 0):=by omega
  case' h2 =>
   intro lt;have R3:=R2;have pm3:=pm2;have sg3:=sg;have n3:lo+n≤arr.size:=by omega
   have n4:0<n:=n1
  all_goals
   refine Ba (Lb ?_);dsimp only;rcases hb:pd.back? with _|⟨s1,l1,p1⟩
   ·dsimp only
    refine Ba (Iy (Bm ⟨_,_,_,_,rfl,rfl,pm3,n3,by omega,?_⟩))
    show Rn r _ (pd.push _).toList 0 _;rw[Eo];exact Rn.app.mpr ⟨lo,R3,rfl,n4,sg3,rfl⟩
   ·dsimp only
    refine Ba (Hl (Fk (I:=λ_ c st'=>c=(none,())∧∃ b pd g,st'=Di κ b pd g none∧b.toList.Perm arr.toList∧Rn r b pd.toList 0 lo∧Seg r b lo _)
     (Q:=λc st'=>c=(none,())∧∃ b pd g,st'=Di κ b pd g none∧b.toList.Perm arr.toList∧Rn r b pd.toList 0 lo∧Seg r b lo _) ?_ (λ_ _ z=>z) ⟨rfl,_,pd,g,rfl,pm3,R3,sg3⟩) ?_)
    ·rintro y c st' _ hy ⟨rfl,b,pd,g,rfl,pm,R,sg⟩
     have zb:=zc pm;refine Ba (Lb ?_);dsimp only;by_cases hp:pd.size>1
     ·rw[Bi hp]
      rcases hq:pd[pd.size-2]? with _|⟨u,v,old⟩
      ·exact Bm ⟨rfl,b,pd,g,rfl,pm,R,sg⟩
      ·dsimp only
       refine qO (λ_=>Bm ⟨rfl,b,pd,g,rfl,pm,R,sg⟩) λ_=>?_;refine Ba (tF C (uc pm) (by omega) R (by omega) λb' pd' g' p' out R' _=>?_)
       refine qO (λe=>by simp at e) λ_=>Bm ⟨rfl,b',pd',g',rfl,p'.trans pm,R',λi j a c d=>?_⟩
       rw[out i a,out j (by omega)]
       exact sg i j a c d
     ·rw[Bf hp]
      exact Bm ⟨rfl,b,pd,g,rfl,pm,R,sg⟩
    ·rintro c st' ⟨rfl,b,pd,g,rfl,pm,R,sg⟩
     dsimp only;refine Ba (Iy (Ba (Iy (Bm ⟨_,_,_,_,rfl,rfl,pm,n3,by omega,?_⟩))))
     show Rn r b ((pd.modify (pd.size-1) _).push _).toList 0 _;rw[Eo,Array.toList_modify];exact Rn.app.mpr ⟨lo,Rn.mod (λ_ _ _=>⟨_,rfl⟩) R,rfl,n4,sg,rfl⟩
 ·rintro c st' ⟨b,pd,g,lo,rfl,rfl,pm,lo1,lo2,R⟩
  have:lo=arr.size:=by omega
  subst this;exact⟨b,pd,g,rfl,rfl,pm,R⟩
 ·rintro c st' ⟨b,pd,g,rfl,rfl,pm,R⟩
  dsimp only;have hl:=R.le;rw[Bh] at hl;refine Ba (Hl (Fk (I:=λx c st'=>c=(none,())∧∃ b pd g,st'=Di κ b pd g none∧b.toList.Perm arr.toList∧Rn r b pd.toList 0 arr.size∧(pd.size≤1∨pd.size+x≤arr.size))
   (Q:=λc st'=>c=(none,())∧∃ b pd g,st'=Di κ b pd g none∧b.toList.Perm arr.toList∧Rn r b pd.toList 0 arr.size∧pd.size≤1) ?_ ?_ ⟨rfl,b,pd,g,rfl,pm,R,by omega⟩) ?_)
  ·rintro x c st' _ hx ⟨rfl,b,pd,g,rfl,pm,R,hs⟩
   have zb:=zc pm;refine Ba (Lb ?_);dsimp only;refine qO (λe=>Bm ⟨rfl,b,pd,g,rfl,pm,R,e⟩) λe=>?_;refine Ba (tF C (uc pm) ?_ R (by omega) λb' pd' g' p' out R' z'=>?_)
   ·have e:¬ pd.size≤1:=e
    have q:∀ (c:Prop) [OE c],(if c then pd.size-2-1 else pd.size-2)+1<pd.size:=λc _=>by split <;> omega
    exact q _
   exact qO (λe=>by simp at e) λ_=>Bm ⟨rfl,b',pd',g',rfl,p'.trans pm,R',by omega⟩
  ·rintro c st' ⟨rfl,b,pd,g,rfl,pm,R,hs⟩
   exact⟨rfl,b,pd,g,rfl,pm,R,by omega⟩
  ·rintro c st' ⟨rfl,b,pd,g,rfl,pm,R,hs⟩
   have zb:=zc pm;refine Bm (h b pd g pm ?_);have hs:pd.toList.length≤1:=by simpa using hs
   revert R hs
   cases pd.toList with
   |nil=>intro R;have:0=arr.size:=R;omega
   |cons q t =>
    obtain⟨s0,n0,p0⟩:=q;intro R hs;have:t=[]:=by cases t with|nil=>rfl|cons _ _=>simp at hs
    subst this;obtain⟨rfl,_,sg,e⟩:=R;have e:n0=arr.size:=by have:0+n0=arr.size:=e;omega
    subst e;rw[IJ];intro i j hi hj l;have hi':i<b.size:=by simpa using hi
    have hj':j<b.size:=by simpa using hj
    have:=sg i j (by omega) (by omega) (by omega)
    simpa [Gr,hi',hj',Le] using this
end
structure Cmps (prog:Bl)(w:Bz)(h0:Bs)(vs:Ab Ad)(f:Ai→Ai→Ar):Prop where
 ex:∃ κ,∀ (A:By),A.units<Fi→∀ (s:Ah),Sup h0 s.heap→(∀ (Q:Kn→Ah→Prop) (E:Ad→Ah→Prop),Q κ s→Ao (Au prog w) A (keyKind' vs.toArray) Q E s)∧∀ i j (C:Ar→Ah→Prop),i<vs.length→j<vs.length→C (f i j) s→kas_ask prog w A κ vs i j C s
open Classical in
def kV {K:Type}(is:K→Ad→Prop)(d:K)(v:Ad):K:=if h:∃ k,is k v then choose h else d
open Classical in
def tB {K:Type}{is:K→Ad→Prop}{d:K}{v:Ad}(h:∃ k,is k v):is (kV is d v) v:=by
 unfold kV;rw[dif_pos h];exact choose_spec h
section
variable {prog:Bl}{w:Bz}{A:By}{E:Ad→Ah→Prop}{s:Ah}
def KJ {K:Type}{is:K→Ad→Prop}{lt':K→K→Ar}{d:K}(O:Ord lt')(inj:∀ {k k':K} {v:Ad},is k v→is k' v→k=k'){a:Af}{vs:Ab Ad}{ks:Ab K}{n:Ai}{h0:Bs}{P:Zd→Ah→Prop}(hlen:vs.length=ks.length)(hks:∀ i v,vs[i]? = Aa v→is (ks.getD i d) v)(ho:s.heap.get? a=Aa (Ep "list" vs.toArray n))(hu:A.units<Fi)(hz:vs.length≤100000)(c:2≤vs.length→Cmps prog w h0 vs (sY lt' ks d))(hS:Sup h0 s.heap)(ha:h0.get? a=none)
  (h:∀ ps:Ab (K × Ad),ps.Perm (ks.zip vs)→Nf lt' (ps.map (·.1))→P (.done (.ret .none)) { s with heap:=sortedHeap s.heap a vs (ps.map (·.2)).toArray }) : Ao (Au prog w) A (Hw.«list.sort» ⟨[.ref a],[]⟩) P E s:=by
 rw[list_sort_plain];have hb:a<s.heap.objs.size:=Ax ho;have hsz:vs.toArray.size=vs.length:=by simp
 refine Ac (listItems_at ho rfl (Ac (listUpdate_at ho rfl ?_ (by rw[hsz,Fe];omega) (HT _))))
 obtain⟨e1,ho1⟩:∃ e1,(s.heap.update a (Ew λ_=>#[])).get? a=Aa (Ep "list" #[] e1):=⟨_,Ko ho (λ_=>#[])⟩;refine Ac (seqEpoch_at ho1 rfl (Ac (Rw (Ac (Ti (Du ?_) (HT _))) (by show vs.length≤_;rw[Fe];omega))))
 have ho6:(((s.heap.update a (Ew λ_=>#[])).push (Ep "tuple" vs.toArray 0)).push (Ep "list" #[] 0)).get? a=Aa (Ep "list" #[] e1):=
  Ag _ (Ag _ ho1)
 have S6:Sup h0 (((s.heap.update a (Ew λ_=>#[])).push (Ep "tuple" vs.toArray 0)).push (Ep "list" #[] 0)):=λb o e =>
  Ag _ (Ag _ ((Cc _ _ (λz:a=b=>by rw[← z,ha] at e;cases e)).trans (hS b o e)))
 show Ao (Au prog w) A _ P E { s with heap:=((s.heap.update a (Ew λ_=>#[])).push (Ep "tuple" vs.toArray 0)).push (Ep "list" #[] 0) }
 dsimp only;have fin:∀ (st':Gd) (ps:Ab (K × Ad)),(arrOf st').map (·.2)=(ps.map (·.2)).toArray→failedOf st'=none→ps.Perm (ks.zip vs)→Nf lt' (ps.map (·.1))→Ao (Au prog w) A (do
   let touched:=(← seqEpoch a) != e1
   Yl (.ref a) λ_=>(arrOf st').map (·.2)
   if let Aa e:=failedOf st' then rule "list.sort.comparison-raised";throw e
   if touched then rule "list.sort.modified";raiseError "ValueError" "list modified during sort"
   ret .none) P E { s with heap:=((s.heap.update a (Ew λ_=>#[])).push (Ep "tuple" vs.toArray 0)).push (Ep "list" #[] 0) }:=by
  intro st' ps h1 h2 h3 h4;have hl:(ps.map (·.2)).length=vs.length:=by rw[Aq,h3.length_eq,Ws,hlen,Ui]
  refine Ac (seqEpoch_at ho6 rfl ?_);rw[h1];refine Ac (listUpdate_at ho6 rfl ?_ (HT _) (by show (ps.map (·.2)).toArray.size≤_;rw[Bc,hl,Fe];omega))
  rw[h2];simp only[bne_self_eq_false,Bt,Eh];exact Al (h ps h3 h4)
 by_cases h2:vs.toArray.size<2
 ·rw[Bi h2,Bi h2]
  refine Ac (Al ?_);rw[StateT.run_pure];refine Ac (Al ?_);refine fin (Di general' (vs.toArray.zip vs.toArray) #[] 7 none) (ks.zip vs) ?_ rfl (Li _) ?_
  ·show (vs.toArray.zip vs.toArray).map (·.2)=_
   apply Wg.mp;simp[List.map_snd_zip,hlen]
  ·rw[Ps (by omega)]
   match ks,hlen with
   |[],_=>exact ON
   |[_],_=>exact La _ _
   |_::_::_,e=>simp at e h2;omega
 ·rw[Bf h2,Bf h2]
  have h2':2≤vs.length:=by omega
  obtain⟨κ,C⟩:=c h2';obtain⟨k1,k2⟩:=C A hu { s with heap:=((s.heap.update a (Ew λ_=>#[])).push (Ep "tuple" vs.toArray 0)).push (Ep "list" #[] 0) } S6
  have kv:∀ i,i<vs.length→kV is d (vs.getD i Dp)=ks.getD i d:=λi hi=>by
   have q:=hks i (vs.getD i Dp) (by rw[O9,Ap hi];rfl)
   exact inj (tB ⟨_,q⟩) q
  have km:∀ i,i<vs.length→ks.getD i d∈ks:=λi hi=>by
   have:i<ks.length:=by omega
   simp[IH,this]
  have cm:Cm (Au prog w) A { s with heap:=((s.heap.update a (Ew λ_=>#[])).push (Ep "tuple" vs.toArray 0)).push (Ep "list" #[] 0) } κ (λx=>∃ i,i<vs.length∧x=(vs.getD i Dp,vs.getD i Dp)) (λx=>pI lt' ks (kV is d x.1)):=by
   refine⟨?_⟩;rintro x y ⟨i,hi,rfl⟩ ⟨j,hj,rfl⟩ E Q st hk q;rw[lt'_eq];refine Ba (Lb ?_);rw[hk];rw[kv i hi,kv j hj,← eZ O (km i hi)] at q;refine Ba (OA (Ib (Ia (k2 i j (λb s'=>s'=_∧b=sY lt' ks d i j) hi hj ⟨rfl,rfl⟩) ?_ λ_ _ e=>e.elim)));rintro b s' ⟨rfl,rfl⟩;exact⟨rfl,Bm q⟩
  have pl:(vs.toArray.zip vs.toArray).toList=(Dq vs.length).map λi=>(vs.getD i Dp,vs.getD i Dp):=by
   apply Ms
   ·simp
   ·intro i h1 h2
    have:i<vs.length:=by simpa using h2
    simp[this]
  refine Ac (k1 _ _ ?_);refine Ac (Ia (sF (E:=E) (Q:=λ_ st'=>∃ b pd g,st'=Di κ b pd g none∧b.toList.Perm (vs.toArray.zip vs.toArray).toList∧b.toList.Pairwise (Le λx=>pI lt' ks (kV is d x.1))) cm (arr:=vs.toArray.zip vs.toArray) (g:=7) ?_ ?_ λb pd g p q=>⟨b,pd,g,rfl,p,q⟩) ?_ λ_ _ e=>e)
  ·intro x hx
   rw[pl] at hx;obtain⟨i,hi,rfl⟩:=Dl.mp hx;exact⟨i,Em.mp hi,rfl⟩
  ·simp;omega
  ·rintro⟨⟨⟩,st'⟩ s' ⟨rfl,b,pd,g,rfl,pm,up⟩
   refine fin _ (b.toList.map λx=>(kV is d x.1,x.2)) ?_ rfl ?_ ?_
   ·show b.map (·.2)=_
    apply Wg.mp;simp
   ·refine(pm.map _).trans ?_
    rw[pl,Fw];have:ks.zip vs=(Dq vs.length).map λi=>(ks.getD i d,vs.getD i Dp):=by
     apply Ms
     ·simp[hlen]
     ·intro i h1 h2
      have h3:i<vs.length:=by simpa using h2
      have h4:i<ks.length:=by omega
      simp[h3,h4]
    rw[this];refine List.Perm.of_eq (Tj λi hi=>?_);show (kV is d (vs.getD i Dp),_)=_;rw[kv i (Em.mp hi)]
   ·unfold Nf
    rw[Fw,IK];refine up.imp_of_mem λ{x y} hx hy h=>?_;have hx:=pm.mem_iff.mp hx;have hy:=pm.mem_iff.mp hy;rw[pl] at hx hy;obtain⟨i,hi,rfl⟩:=Dl.mp hx;obtain⟨j,hj,rfl⟩:=Dl.mp hy;have h:pI lt' ks (kV is d (vs.getD i Dp))≤pI lt' ks (kV is d (vs.getD j Dp)):=h;show lt' (kV is d (vs.getD j Dp)) (kV is d (vs.getD i Dp))=false;have hj:=Em.mp hj;rw[eZ O (ks:=ks) (by rw[kv j hj];exact km j hj)]
    exact Cz (by omega)
end
section
variable {prog:Bl}{w:Bz}{h0:Bs}
def BS {A:By}{s:Ah}{b:Ar}{Q:Ar→Ah→Prop}:∀ {xs ys:Ab Aj} {us vs:Ab Ad} {i:Ai} {N M:Ai},ItemsAre (Bg prog w) xs us→ItemsAre (Bg prog w) ys vs→N+ys.length=M+xs.length→Q (_H.lexLt xs ys) s→KatLex prog w A b (decide (N<M)) Q (us.zip vs) i s:=by
 intro xs ys us vs i N M hx
 induction hx generalizing ys vs i with
 |nil =>
  intro hy hl h;cases hy with
  |nil =>
   have:decide (N<M)=false:=Cz (by simp at hl;omega)
   rw[this];exact h
  |@cons k v ys vs q r =>
   have:decide (N<M)=true:=De (by simp at hl;omega)
   rw[this];exact h
 |@cons x u xs us qx rx ih =>
  intro hy hl h;cases hy with
  |nil =>
   have:decide (N<M)=false:=Cz (by simp at hl;omega)
   rw[this];exact h
  |@cons y v ys vs qy ry =>
   obtain⟨t,rfl⟩:=yI (prog:=prog) (w:=w) qx;obtain⟨t',rfl⟩:=yI (prog:=prog) (w:=w) qy;rw[Os];refine kat_cons (Vm ?_);rw[_H.lexLt_cons] at h;refine kat_go (λe=>kat_yes ?_) λe=>kat_no ?_
   ·rw[Bi (by simpa using e)] at h
    exact ih ry (by simp at hl;omega) h
   ·rw[Bf (by simpa using e)] at h
    cases b&&i == 0 with
    |true=>exact oneLt_int h
    |false=>exact kat_one _ _ (Sn h)
def iY {h:Bs}:∀ {vs:Ab Ad} {ks:Ab (Ab Aj)},vs.length=ks.length→(∀ i v,vs[i]? = Aa v→isT prog w h (ks.getD i []) v)→(∀ k∈ks,k≠[])→∃ fs,KatTups h vs fs∧fs.length=vs.length∧∀ f∈fs,∃ n t,f=My n t
 |[],[],_,_,_=>⟨[],trivial,rfl,λf hf=>by simp at hf⟩
 |v::vs,k::ks,hl,hv,hne=>by
  obtain⟨fs,a1,a2,a3⟩:=iY (vs:=vs) (ks:=ks) (by simpa using hl) (λi u hu=>by simpa using hv (i+1) u (by simpa using hu)) λk hk=>hne k (by simp[hk])
  obtain⟨a,rfl,o,items,n,ho,hc,hd,hi⟩:=hv 0 v rfl;have hk:k≠[]:=hne k (by simp)
  have hi':ItemsAre (Bg prog w) k items.toList:=hi;cases hz:items.toList with
  |nil=>rw[hz] at hi';cases hi';exact absurd rfl hk
  |cons f rest =>
   rw[hz] at hi';cases hi' with
   |cons q _ =>
    obtain⟨t,rfl⟩:=yI (prog:=prog) (w:=w) q;refine⟨_::fs,KatTups.cons ho hc hd (by rw[← Bj,hz];rfl) a1,by simp[a2],λf hf=>?_⟩
    rcases Aw.mp hf with rfl|hf
    ·exact⟨_,_,rfl⟩
    ·exact a3 f hf
def TF {ks:Ab (Ab Aj)}(hl:vs.length=ks.length)(hv:∀ i v,vs[i]? = Aa v→isT prog w h0 (ks.getD i []) v)(hne:∀ k∈ks,k≠[])(h2:2≤vs.length):Cmps prog w h0 vs (sY _H.lexLt ks []):=by
 refine⟨tuples' (Hv "int" != Hv "tuple"),λA hu s hS=>⟨λQ E h=>?_,λi j C hi hj h=>?_⟩⟩
 ·obtain⟨fs,a1,a2,a3⟩:=iY (h:=s.heap) hl (λi v hv'=>by obtain⟨a,e,q⟩:=hv i v hv';exact⟨a,e,jB hS q⟩) hne
  refine kat_kind a1 (by omega) (λv hv'=>?_) (by decide) h
  obtain⟨n,t,rfl⟩:=a3 v hv';exact Looks.of_pure rfl
 ·have g:∀ k (hk:k<vs.length),∃ a,vs.getD k Dp=.ref a∧Nv (Bg prog w) s.heap (ks.getD k []) a:=λk hk=>by
   obtain⟨a,e,q⟩:=hv k vs[k] (Ap hk);exact⟨a,by rw[← e];simp[IH,hk],jB hS q⟩
  obtain⟨a,ea,oa,ia,na,ha,_,da,qa⟩:=g i hi;obtain⟨b,eb,ob,ib,nb,hb,_,db,qb⟩:=g j hj;unfold kas_ask;rw[ea,eb];refine kat_lt ha da hb db (BS qa qb ?_ h);have la:=qa.length;have lb:=qb.length;simp only[Bh] at la lb;omega
def TD {ks:Ab Aj}(hl:vs.length=ks.length)(hv:∀ i v,vs[i]? = Aa v→isI prog w (ks.getD i 0) v)(h2:2≤vs.length):Cmps prog w h0 vs (sY ltI ks 0):=by
 have hi:∀ v∈vs,∃ n t,v=My n t:=λv hm=>by
  obtain⟨i,hi,e⟩:=Cg.mp hm;obtain⟨t,q⟩:=yI (hv i v (by rw[Ap hi,e]))
  exact⟨_,t,q⟩
 refine⟨oneType',λA hu s hS=>⟨λQ E h=>?_,λi j C hi hj h=>?_⟩⟩
 ·obtain⟨v₁,v₂,rest,rfl⟩:∃ v₁ v₂ rest,vs=v₁::v₂::rest:=by
   match vs,h2 with
   |v₁::v₂::rest,_=>exact⟨v₁,v₂,rest,rfl⟩
  rw[keyKind_ints (intsAre_map _ hi)];exact Al h
 ·have g:∀ k (hk:k<vs.length),∃ t,vs.getD k Dp=.int (ks.getD k 0) t:=λk hk=>by
   obtain⟨t,q⟩:=yI (hv k vs[k] (Ap hk));exact⟨t,by rw[← q];simp[IH,hk]⟩
  obtain⟨t,et⟩:=g i hi;obtain⟨u,eu⟩:=g j hj;unfold kas_ask;rw[et,eu];exact kat_lt_int h
end
section
variable {K:Type}{lt':K→K→Ar}
def YC {α:Type}{ks:Ab K}{vs:Ab α}{d:K}(hl:vs.length=ks.length){p:K × α}(h:p∈ks.zip vs):∃ i,vs[i]? = Aa p.2∧ks.getD i d=p.1:=by
 obtain⟨i,hi,e⟩:=Cg.mp h;have h1:i<ks.length:=by rw[Ws] at hi;omega
 have h2:i<vs.length:=by omega
 rw[List.getElem_zip] at e;subst e;exact⟨i,Ap h2,by simp[h1]⟩
end
structure Kind (prog:Bl)(w:Bz){K:Type}(is:K→Ad→Prop)(hash:K→Aj)(lt':K→K→Ar)(d:K)(Fit:K→Prop)(h0:Bs):Prop where
 ord:Ord lt'
 inj:∀ {k k':K} {v:Ad},is k v→is k' v→k=k'
 cmps:∀ {vs:Ab Ad} {ks:Ab K},vs.length=ks.length→(∀ i v,vs[i]? = Aa v→is (ks.getD i d) v)→(∀ k∈ks,Fit k)→2≤vs.length→Cmps prog w h0 vs (sY lt' ks d)
def KG (prog:Bl)(w:Bz)(h0:Bs):Kind prog w (isT prog w h0) (Bp (Bg prog w)) _H.lexLt [] (·≠[]) h0:=⟨k9,isT.inj,λh1 h2 h3 h4=>TF h1 h2 h3 h4⟩
def KE (prog:Bl)(w:Bz)(h0:Bs):Kind prog w (isI prog w) (Bg prog w).hash ltI 0 (λ_=>Mv) h0:=⟨pF,λa b=>(Bg prog w).inj _ _ _ a b,λh1 h2 _ h4=>TD h1 h2 h4⟩
section
variable {prog:Bl}{w:Bz}{A:By}{E:Ad→Ah→Prop}{s:Ah}{K:Type}{is:K→Ad→Prop}{hash:K→Aj}{lt':K→K→Ar}{d:K}{Fit:K→Prop}{h0:Bs}{S:Af}{V:Ab Ad}{seen:Ab K}
open Classical in
def kOf (is:K→Ad→Prop)(d:K)(e:Aj × Ad):K:=if h:∃ k,is k e.2 then choose h else d
open Classical in
def NS {e:Aj × Ad}(h:∃ k,is k e.2):is (kOf is d e) e.2:=by
 unfold kOf;rw[dif_pos h];exact choose_spec h
def QQ {Q:Ad→Ah→Prop}(kd:Kind prog w is hash lt' d Fit h0)(hh:A.handled=none)(hu:A.units+8<Fi)(hS:Sup h0 s.heap)(Z:SetK is hash S (yG w) V seen s.heap)(hf:∀ k∈seen,Fit k){U:Ab K}(hU:U.length≤1000)(hU1:∀ k∈seen,k∈U)
  (h:∀ h' tk D c (ps:Ab (K × Ad)),(∀ b o,s.heap.get? b=Aa o→h'.get? b=Aa o)→s.heap.objs.size≤D→h'.get? D=Aa (Ep "list" (ps.map (·.2)).toArray c)→ps.map (·.1)=srt lt' seen→(∀ p∈ps,is p.1 p.2∧p.2∈V)→ps.length≤1000→Q (.ref D) { s with heap:=h',toks:=tk }) :
  Ao (Au prog w) A (call (.builtin "sorted") [.ref S]) Q E s:=by
 obtain⟨es,ep,t,ho,Z0,T,hl,hV⟩:=Z;have st:Still w S es ep t:=⟨T,hl⟩;have hn:es.size≤1000:=by
  have:=mF es.toList U Z0.nd λe he=>by
   obtain⟨k',_,q⟩:=Z0.good e he;exact⟨k',hU1 k' ((Z0.mem k').mpr ⟨e,he,q⟩),q⟩
  rw[Bh] at this;omega
 have op:=tK w S ep es;have osz:=jJ w S ep es;have good:∀ e∈(qW w S ep es).toList,is (kOf is d e) e.2∧e.2∈V:=λe he=>by
  have he':=op.mem_iff.mp he;obtain⟨k,_,q⟩:=Z0.good e he';exact⟨NS ⟨k,q⟩,hV e he'⟩
 have nd0:(qW w S ep es).toList.Pairwise λa b=>∀ k,is k a.2→¬ is k b.2:=(op.pairwise_iff λ{x y} h k hy hx=>h k hx hy).mpr Z0.nd;generalize hoe:(qW w S ep es).toList=oe at *;have hoel:oe.length≤1000:=by rw[op.length_eq,Bh];exact hn
 have hks:∀ i v,(oe.map (·.2))[i]? = Aa v→is ((oe.map (kOf is d)).getD i d) v∧v∈V:=λi v hv=>by
  rw[Ds] at hv;cases hi:oe[i]? with
  |none=>rw[hi] at hv;cases hv
  |some e =>
   rw[hi] at hv;cases hv;have g:=good e (Cf hi);have:(oe.map (kOf is d)).getD i d=kOf is d e:=by rw[O9,Ds,hi];rfl
   rw[this];exact g
 have nd:(oe.map (kOf is d)).Nodup:=by
  unfold Xc;rw[IK];refine Pf (λ{a b} ha hb h e=>?_) nd0;exact h _ (good a ha).1 (e▸(good b hb).1)
 have mem:∀ x,x∈oe.map (kOf is d)↔x∈seen:=λx=>by
  rw[Z0.mem,Dl];constructor
  ·rintro⟨e,he,rfl⟩
   exact⟨e,op.mem_iff.mp he,(good e he).1⟩
  ·rintro⟨e,he,q⟩
   exact⟨e,op.mem_iff.mpr he,kd.inj (good e (op.mem_iff.mpr he)).1 q⟩
 have hlen:(oe.map (·.2)).length=(oe.map (kOf is d)).length:=by simp
 refine OX kind_sorted plain_sorted entry_sorted (args_sorted1 _) ?_;unfold Hw.«sorted»;refine Ac (m:=checkCount "sorted" 1 1 _) (Al ?_);refine Ac (cF hh st ho (by omega) λh1 tk1 kp1 hlt=>?_)
 rw[hoe];refine Ac (Ti ?_ (by rw[Fe,Aq];omega))
 have hD:(h1.push (Ep "list" (oe.map (·.2)).toArray 0)).get? h1.objs.size=Aa (Ep "list" (oe.map (·.2)).toArray 0):=Bb _ rfl
 have n0:h0.get? h1.objs.size=none:=by
  cases q:h0.get? h1.objs.size with
  |none=>rfl
  |some o=>exact absurd (Ax (hS _ _ q)) (Pm.mpr (Ku hlt))
 show Ao _ _ _ _ _ { s with heap:=h1.push (Ep "list" (oe.map (·.2)).toArray 0),toks:=tk1 }
 refine Ac (Du (Ef slot_list_sort ⟨_,hD,rfl⟩ Wt (KJ (h0:=h0) (is:=is) kd.ord kd.inj (d:=d) (vs:=oe.map (·.2)) hlen (λi v hv=>(hks i v hv).1) hD (by show A.units+2<Fi;omega) (by rw[Aq];omega) (λh2=>kd.cmps hlen (λi v hv=>(hks i v hv).1) (λk hk=>hf k ((mem k).mp hk)) h2) (λb o e=>Ag _ (kp1 b o (hS b o e))) n0 λps pm nf=>⟨_,rfl,?_⟩) (args_list_sort _)))
 refine Al ⟨_,rfl,?_⟩;have hz:(h1.push (Ep "list" (oe.map (·.2)).toArray 0)).objs.size=h1.objs.size+1:=size_push' ..
 have old:∀ b o,b≠h1.objs.size→(h1.push (Ep "list" (oe.map (·.2)).toArray 0)).get? b=Aa o→((((h1.push (Ep "list" (oe.map (·.2)).toArray 0)).update h1.objs.size (Ew λ_=>#[])).push (Ep "tuple" (oe.map (·.2)).toArray 0)).push (Ep "list" #[] 0)).get? b=Aa o:=λb o hb e =>
  Ag _ (Ag _ ((Cc _ _ (Gx hb)).trans e))
 obtain⟨e1,he1⟩:∃ e1,((h1.push (Ep "list" (oe.map (·.2)).toArray 0)).update h1.objs.size (Ew λ_=>#[])).get? h1.objs.size=Aa (Ep "list" #[] e1):=⟨_,Ko hD (λ_=>#[])⟩
 have he6:=Ko (Ag (Ep "list" #[] 0) (Ag (Ep "tuple" (oe.map (·.2)).toArray 0) he1)) (λ_=>(ps.map (·.2)).toArray)
 have pk:(ps.map (·.1)).Perm (oe.map (kOf is d)):=by
  have:=pm.map (·.1)
  rwa [Ps (by omega)] at this
 refine h _ tk1 h1.objs.size _ ps (λb o e=>?_) (Ku hlt) he6 (LA kd.ord nf (pk.nodup_iff.mpr nd) λx=>by rw[pk.mem_iff,mem]) (λp hp=>?_) (by have:=pk.length_eq;rw[Aq,Aq] at this;omega)
 ·have hb:b≠h1.objs.size:=λz=>by
   subst z;exact absurd (Ax e) (Pm.mpr (Ku hlt))
  exact(Cc _ _ (Gx hb)).trans (old b o hb (Ag _ (kp1 b o e)))
 ·obtain⟨i,e1,e2⟩:=YC (d:=d) hlen (pm.mem_iff.mp hp)
  exact e2▸hks i _ e1
end
end _S
namespace _D
open PySem PySem.Spec PyProof.Rows _L
def yE:Ab D→Am (Ab (Ab Aj))
 |[]=>Aa []
 |.tup ys::r=>(xH ys).bind λk=>(yE r).map (k::·)
 |_::_=>none
def tpD (k:Ab Aj):D:=.tup (k.map D.int)
def mL:∀ {ds:Ab D} {ks:Ab (Ab Aj)},yE ds=Aa ks→ds=ks.map tpD
 |[],ks,h=>by cases h;rfl
 |d::r,ks,h=>by
  cases d with
  |tup ys =>
   obtain⟨k,h1,h2⟩:=Ei.mp (show (xH ys).bind (λk=>(yE r).map (k::·))=Aa ks from h)
   obtain⟨m,h3,rfl⟩:=El.mp h2;rw[mL h3,yN h1];rfl
  |_=>cases h
def yU (ks:Ab (Ab Aj)):yE (ks.map tpD)=Aa ks:=by
 induction ks with
 |nil=>rfl
 |cons k ks ih =>
  show (xH (k.map D.int)).bind (λk=>(yE (ks.map tpD)).map (k::·))=_
  rw[j6,ih];rfl
def yS (xs:Ab D):Am (Ab D):=match xH xs with
 |some ns=>if (_S.srt _S.ltI ns).length≤1000 then Aa ((_S.srt _S.ltI ns).map D.int) else none
 |none=>match yE xs with
  |some ks=>if ((_S.srt _H.lexLt ks).length≤1000&&ks.all λk=>!k.isEmpty) then Aa ((_S.srt _H.lexLt ks).map tpD) else none
  |none=>none
def bN:D→Am (Ab D)
 |.lst xs=>Aa xs
 |.tup xs=>Aa xs
 |_=>none
def wH (f:DE):DE:=λenv S=>(f env S).bind λd S1=>match (bN d).bind yS with
 |some ys=>.ok (.lst ys) S1
 |none=>.bad
def JI {K:Type}{lt':K→K→Ar}(O:_S.Ord lt')(ks:Ab K)(d:K):_S.srt lt' (_S.yY (λi=>ks.getD i d) ks.length)=_S.srt lt' ks:=
 _S.fO O (_S.vD O _) (_S.vD O _) λx=>by
  rw[_S.y7 O,_S.y7 O,_S.kQ];constructor
  ·rintro⟨i,hi,rfl⟩
   simp[IH,hi]
  ·intro hx
   obtain⟨i,hi,e⟩:=Cg.mp hx;exact⟨i,hi,by simp[IH,hi,e]⟩
section
variable {X:Cx}{pins:Ab (Af × Cs)}{σ : _L.St}{H P:Hp}{α : Ab Af}{S:Sto}{s:Ah}
inductive NewL (X:Cx)(pins:Ab (Af × Cs))(σ : _L.St)(P:Hp)(α : Ab Af)(S:Sto)(ys:Ab D)(u:Ad)(s':Ah):Prop
 |mk (v:V) (H' P':Hp) (I:Inv X pins σ H' s') (rv:qL v u) (r:Rel X.K H' P' α S) (e:qH P P') (rp:Rep X.K P' α (.lst ys) v):NewL X pins σ P α S ys u s'
def tT {K:Type}{is:K→Ad→Prop}{hash:K→Aj}{lt':K→K→Ar}{d:K}{Fit:K→Prop}(kd:_S.Kind X.prog X.w is hash lt' d Fit s.heap)(ad:_S.AddS X.prog X.w is hash s.heap)(hc:X.calm=true)(hu:X.A.units+64<Fi)(I:Inv X pins σ H s)(r:Rel X.K H P α S){a:Af}{its:Ab Ad}
  (ha:s.heap.IsList a its.toArray∨s.heap.IsTuple a its.toArray) (ks:Ab K) (hl:ks.length=its.length) (hk:∀ i v,its[i]? = Aa v→is (ks.getD i d) v) (hn:(_S.srt lt' ks).length≤1000) (hf:∀ k∈ks,Fit k) (enc:K→D)
  (back:∀ k v,is k v→v∈its→∃ vv,qL vv v∧Rep X.K P α (enc k) vv) {E:Ad→Ah→Prop} :
  Ao (Au X.prog X.w) X.A (call (.type "set") [.ref a]) (λu s1=>Ao (Au X.prog X.w) X.A (call (.builtin "sorted") [u]) (NewL X pins σ P α S ((_S.srt lt' ks).map enc)) E s1) E s:=by
 have hsz:its.toArray.size=ks.length:=by rw[Bc,hl]
 have mem:∀ k,k∈_S.srt lt' ks↔k∈ks:=λk=>_S.y7 kd.ord k ks;have inn:∀ i,i<ks.length→ks.getD i d∈ks:=λi hi=>by simp[IH,hi]
 refine _S.oD (U:=_S.srt lt' ks) ad (I.ok.hd hc) om ha (λi=>ks.getD i d) (λi v hv=>hk i v (by simpa using hv)) om (λi hi=>(mem _).mpr (inn i (by rw[← hsz];exact hi))) λh1 tk1 Z kp=>?_
 have seen:∀ k∈_S.yY (λi=>ks.getD i d) its.toArray.size,k∈ks:=λk hk'=>by
  obtain⟨i,hi,rfl⟩:=_S.kQ.mp hk';exact inn i (by rw[← hsz];exact hi)
 have I1:Inv X pins σ H { s with heap:=h1,toks:=tk1 }:=I.kept kp
 refine _S.QQ (s:={ s with heap:=h1,toks:=tk1 }) kd (I.ok.hd hc) om kp Z (λk hk'=>hf k (seen k hk')) (U:=_S.srt lt' ks) om (λk hk'=>(mem k).mpr (seen k hk')) λh2 tk2 D c ps kp2 hD hob hps hp hpl=>?_
 rw[hsz,JI kd.ord] at hps;have vv:∀ (ps:Ab (K × Ad)),(∀ p∈ps,is p.1 p.2∧p.2∈its)→∃ vs,qK vs (ps.map (·.2))∧qF X.K P α ((ps.map (·.1)).map enc) vs:=by
  intro ps
  induction ps with
  |nil=>exact λ_=>⟨[],.nil,.nil⟩
  |cons p ps ih =>
   intro h;obtain⟨vs,a1,a2⟩:=ih λq hq=>h q (by simp[hq])
   obtain⟨v,b1,b2⟩:=back p.1 p.2 (h p (by simp)).1 (h p (by simp)).2
   exact⟨v::vs,.cons b1 a1,.cons b2 a2⟩
 obtain⟨vs,a1,a2⟩:=vv ps λp hpm=>by simpa using hp p hpm
 rw[hps] at a2;have nd:([(D,HO.lst vs)].map (·.1)).Nodup:=by simp
 have I2:Inv X pins σ (vQ H [(D,HO.lst vs)]) { s with heap:=h2,toks:=tk2 }:=Inv.laidL (s:={ s with heap:=h1,toks:=tk1 }) (L:=[(D,HO.lst vs)]) (t':=tk2) I1 kp2 (λp hpm=>by
  have:p=(D,HO.lst vs):=by simpa using hpm
  subst this;exact hD) λp hpm=>by
  have:p=(D,HO.lst vs):=by simpa using hpm
  subst this;refine⟨?_,ps.map (·.2),c,a1,hob⟩
  have:=a1.length;rw[Aq] at this;rw[this,Fe];omega
 obtain⟨r2,e2⟩:=r.pureL (L:=[(D,HO.lst vs)]) (λp hpm=>I1.hok.fresh (by
  have:p=(D,HO.lst vs):=by simpa using hpm
  subst this;exact hD)) nd
 exact⟨.ref D,_,_,I2,rfl,r2,e2,fK (.inl (.inl (cC nd (by simp)))) (qF.mono e2 (Bn _) _ _ a2)⟩
end
section
variable {X:Cx}{e:Bw}{fa:DE}{p1 p2 pos1 pos2:Fh}
def ZE:Ge "sorted" = Aa (.builtin "sorted"):=by decide +kernel
def nV {prog:Bl}{w:Bz}:∀ {k:Ab Aj} {us:Ab Ad},qK (k.map V.int) us→ItemsAre (Bg prog w) k us
 |[],us,h=>by cases h;exact .nil
 |i::k,us,h=>by
  cases h with
  |cons q t =>
   obtain⟨tk,rfl⟩:=q;exact .cons (Tf _ _ _ _) (nV t)
def Y4 {pins:Ab (Af × Cs)}{σ : _L.St}{H P:Hp}{α : Ab Af}{S:Sto}{s:Ah}{d:D}{xs:Ab D}{v:V}{vv:Ad}(I:Inv X pins σ H s)(r:Rel X.K H P α S)(p:Rep X.K P α d v)(q:qL v vv)(h:bN d=Aa xs) :
  ∃ a vs its,vv=.ref a∧qF X.K P α xs vs∧qK vs its∧(s.heap.IsList a its.toArray∨s.heap.IsTuple a its.toArray)∧xs.length=its.length:=by
 cases d with
 |lst ys =>
  cases h;obtain⟨a,vs,its,n,rfl,_,t,rv,e,l,_⟩:=vC I r p;exact⟨a,vs,its,q,t,rv,.inl ⟨_,e,rfl,n,rfl⟩,l⟩
 |tup ys =>
  cases h;obtain⟨a,vs,its,rfl,_,t,rv,⟨o,e,hc,n,hd⟩,l,_⟩:=uH I r p;exact⟨a,vs,its,q,t,rv,.inr ⟨o,e,hc,n,hd⟩,l⟩
 |_=>cases h
set_option tactic.hygienic true in
def oI (hc:X.calm=true)(hu:X.A.units+64<Fi)(hg:Gl X "sorted")(hm:X.mg "sorted" = none)(hg2:Gl X "set")(hm2:X.mg "set" = none)(ha:PE X e (tD X fa))(he:Bd [e] X.env=(false,eval e X.env)::Bd [] X.env:=by rfl) :
  PE X (.Call (.Name "sorted" p1) [.Call (.Name "set" p2) [e] [] pos2] [] pos1) (tD X (wH fa)):=by
 intro pins s σ H Q I h;obtain⟨P,α,env,S,r,re,af⟩:=h;refine Hu (u7 I hg hm ZE ?_);refine Mu ?_ rfl rfl;refine Ou ?_;refine Call_ (u7 I hg2 hm2 YO (Hg ?_ he rfl));rw[he];refine Ou (thn (xF ha I r re af) λvv s1 ⟨v,H1,P1,α1,d,S1,G1,af1⟩=>OJ ?_);cases hq:(bN d).bind yS with
 |none=>simp only[hq] at af1;exact An af1
 |some ys =>
   simp only[hq] at af1;obtain⟨xs,hd,hs⟩:=Ei.mp hq;obtain⟨a,vs,its,rfl,t1,rv1,e1,l1⟩:=Y4 G1.inv G1.rel G1.rep G1.val hd;have main:Ao (Au X.prog X.w) X.A (call (.type "set") [.ref a]) (λu s1=>Ao (Au X.prog X.w) X.A (call (.builtin "sorted") [u]) (NewL X pins σ P1 α1 S1 ys) X.xe s1) X.xe s1:=by
    unfold yS at hs;cases hi:xH xs with
    |some ns =>
     rw[hi] at hs;dsimp only at hs
     split at hs
     ·rename_i hlt
      cases hs;have:=yN hi;subst this;have:=wQ t1;subst this;refine tT (d:=0) (_S.KE X.prog X.w s1.heap) (_S.MS s1.heap) hc hu G1.inv G1.rel e1 ns (by simpa using l1) (λi u hu'=>?_) hlt (λ_ _=>trivial) D.int λk u hk _=>?_
      ·have hi:Ik its ns:=by simpa using jH rv1
       obtain⟨t,rfl⟩:=Op hi i u hu';exact Tf _ _ _ _
      ·obtain⟨t,rfl⟩:=_S.yI hk
       exact⟨.int k,⟨t,rfl⟩,by simp only[Rep]⟩
     ·cases hs
    |none =>
     rw[hi] at hs;dsimp only at hs;cases ht:yE xs with
     |none=>rw[ht] at hs;cases hs
     |some ks =>
      rw[ht] at hs;dsimp only at hs
      split at hs
      ·rename_i hlt
       cases hs;have hlt':=Eu.mp hlt;have:=mL ht;subst this;have at':∀ (i:Ai) (u:Ad),its[i]? = Aa u→∃ b,u=.ref b∧Nv (Bg X.prog X.w) s1.heap (ks.getD i []) b∧∃ vv,qL vv u∧Rep X.K P1 α1 (tpD (ks.getD i [])) vv:=λi u hu'=>by
        have hii:i<its.length:=(Be.mp hu').1;have hik:i<ks.length:=by rw[Aq] at l1;omega
        obtain⟨v,p,q,_⟩:=yB t1 rv1 (j:=i) (by rw[Bc];exact hii)
        have hd:(ks.map tpD).getD i D.non=tpD (ks.getD i []):=by simp[IH,hik]
        rw[hd] at p;have hu2:its.toArray[i]'(by rw[Bc];exact hii)=u:=by
         rw[Ap hii] at hu';simpa using hu'
        rw[hu2] at q;obtain⟨b,ws,us,rfl,sq,t,rv,⟨o,ho,hcl,m,hd⟩,_,_⟩:=uH G1.inv G1.rel (show Rep X.K P1 α1 (.tup ((ks.getD i []).map D.int)) v from p)
        cases (show u=Dc b from q)
        have:=wQ t;subst this;exact⟨b,rfl,⟨o,us.toArray,m,ho,hcl,hd,by simpa using nV rv⟩,.ref b,rfl,p⟩
       refine tT (d:=[]) (_S.KG X.prog X.w s1.heap) (_S.MT s1.heap) hc hu G1.inv G1.rel e1 ks (by simpa using l1) (λi u hu'=>?_) (Cu hlt'.1) (λk hk=>?_) tpD λk u hk hm'=>?_
       ·obtain⟨b,rfl,q,_⟩:=at' i u hu'
        exact⟨b,rfl,q⟩
       ·have:=Az.mp hlt'.2 k hk
        intro z;subst z;cases this
       ·obtain⟨i,hi',rfl⟩:=Cg.mp hm'
        obtain⟨b,eb,q,w,rw',pw⟩:=at' i _ (Ap hi');have:k=ks.getD i []:=_S.isT.inj hk ⟨b,eb,q⟩;rw[this];exact⟨w,rw',pw⟩
      ·cases hs
   refine thn main λu s2 h2=>OJ (thn h2 λu' s3 ⟨v,H',P',I',rv,r',e',rp⟩=>?_);exact⟨v,H',I',rv,af1 v H' P' α1 r' (G1.same.trans e') G1.pre rp⟩
end
section
variable {X:Cx}{cm:Ar}{k:Ai}{e:Bw}{fa:DE}{p1 p2 pos1 pos2:Fh}
def Q6 (hc:X.calm=true)(hr:RoomC cm k X.A)(hg:Gl X "sorted")(hm:X.mg "sorted" = none)(hg2:Gl X "set")(hm2:X.mg "set" = none)(ha:QE X e fa)(he:Bd [e] X.env=(false,eval e X.env)::Bd [] X.env:=by rfl) :
  QE X (.Call (.Name "sorted" p1) [.Call (.Name "set" p2) [e] [] pos2] [] pos1) (wH fa):=⟨oI hc hr.units hg hm hg2 hm2 ha.1 he⟩
end
end _D
section
namespace _D
open PySem PySem.Spec PyProof.Rows _L
mutual
def pyD:D→Am PyData
 |.non=>Aa .none
 |.bl b=>Aa (.bool b)
 |.int i=>Aa (.int i)
 |.str x=>Aa (.str x)
 |.tup xs=>(kA xs).map .tuple
 |.lst xs=>(kA xs).map .list
 |.dct0=>Aa (.dict [])
 |_=>none
def kA:Ab D→Am (Ab PyData)
 |[]=>Aa []
 |d::ds=>(pyD d).bind λx=>(kA ds).map (x::·)
end
end _D
end
section
namespace _H
open PySem PyProof.Rows
def stepLo (n:Ai)(k:Aj):Aj:=(Go none none k (n:Aj)).1
def stepHi (n:Ai)(k:Aj):Aj:=(Go none none k (n:Aj)).2
def stepN (n:Ai)(k:Aj):Ai:=Gp (stepLo n k) (stepHi n k) k
def stepL {α:Type}(xs:Ab α)(k:Aj):Ab α:=(Dq (stepN xs.length k)).filterMap λ(m:Ai)=>xs[(stepLo xs.length k+(m:Aj)*k).toNat]?
section
variable {prog:Bl}{w:Bz}{A:By}{E:Ad→Ah→Prop}{s:Ah}
def fS {sl:Af}{k:Aj}{t:Pu}{n:Ai}{Q:Aj × Aj × Ai→Ah→Prop}(hs:s.heap.IsSliceOf sl .none .none (.int k t))(hk:k≠0)
  (h:Q (stepLo n k,k,stepN n k) s):Ao (Au prog w) A (Ip (.ref sl) (pure (n:Aj))) Q E s:=by
 obtain⟨os,hos,hcs,hds⟩:=id hs;unfold Ip OK;refine Ac (Ac (Dv hos hds (x:=.none) rfl (Ac (Dv hos hds (x:=.none) rfl (Ac (Dv hos hds (x:=.int k t) rfl (Al ?_)))))));refine Ac (slicePart_int ?_);show Ao _ _ (if (k == 0)=true then _ else _) _ _ s
 rw[Bf (by simpa using hk)]
 refine Ac (Od (Ac (Od (Ac (Al ?_)))));exact Al h
def stepL_length {α:Type}(xs:Ab α)(k:Aj):(stepL xs k).length≤stepN xs.length k:=by
 unfold stepL;exact Fg (List.length_filterMap_le _ _) (by rw[Gs];exact Av _)
def getItem_tuple_step {t sl:Af}{items:Ay Ad}{k:Aj}{u:Pu}{Q:Ad→Ah→Prop}(ht:Oa s.heap t items)(hs:s.heap.IsSliceOf sl .none .none (.int k u))(h0:k≠0)(h1:k≠1)
  (h:Q (.ref s.heap.objs.size) { s with heap:=s.heap.push { cls:=.type "tuple",data:=.seq (stepL items.toList k).toArray } })
  (hsz:stepN items.size k≤sizeLine):Ao (Au prog w) A (Md (.ref t) (.ref sl)) Q E s:=by
 have htake:sizeOk (.seq (stepL items.toList k).toArray):=by
  show (stepL items.toList k).toArray.size≤sizeLine;rw[Bc];exact Fg (stepL_length _ _) (by simpa using hsz)
 obtain⟨os,hos,hcs,hds⟩:=id hs;have hTs:s.TypeIs (.ref sl) "slice":=⟨os,hos,hcs⟩;unfold Md
 try with_reducible refine Du ?_
 first|refine Ac (Al ?_)|skip
 refine Ac (OL ht.typeIs (by decide) ?_)
 refine Ac (Dx (name:=Fv "__getitem__") ht.typeIs Dr
  (Ef Dr ht.typeIs No ?_ (Ot _ _)))
 show Ao _ _ (Jy (.ref t) >>= _) _ _ s;refine Ac (Sr ht ?_);refine Ac (Ju hTs ?_);rw[Bi (by decide)]
 refine Ac (fS hs h0 ?_);have hno:¬ ((stepLo items.size k == 0&&k == 1&&stepN items.size k == items.size)=true):=by
  intro q;rw[Br,Br] at q;exact h1 (eq_of_beq q.1.2)
 show Ao _ _ (if (stepLo items.size k == 0&&k == 1&&stepN items.size k == items.size)=true then _ else _) _ _ s
 rw[Bf hno];have e:((Dq (stepN items.size k)).filterMap λ(m:Ai)=>items[(stepLo items.size k+(m:Aj)*k).toNat]?)=stepL items.toList k:=by
  unfold stepL;simp
 rw[e]
 first
  |exact Ac (m:=Fc _) (Dn (Al ⟨_,rfl,Al h⟩) htake)
  |exact Ac (m:=Fc _) (Dn (Ac (Al (Al ⟨_,rfl,Al h⟩))) htake)
  |exact Ac (Ac (m:=Fc _) (Dn (Al (Al ⟨_,rfl,Al h⟩)) htake))
  |exact Ac (Ac (m:=Fc _) (Dn (Al ⟨_,rfl,Al h⟩) htake))
end
end _H
namespace _D
open PySem PySem.Spec PyProof.Rows _L
def oN:G2:=λd k S=>match d,k with
 |.tup xs,.int k=>if k≠0∧k≠1∧_H.stepN xs.length k≤lim then .ok (.tup (_H.stepL xs k)) S else .bad
 |_,_=>.bad
def bV (fe fk:DE):DE:=d2 oN fe fk
section
variable {X:Cx}{e ek:Bw}{fe fk:DE}{p2 pos:Fh}
def YB {vs:Ab V}{us:Ab Ad}(rv:qK vs us)(l:Ab Ai)(f:Ai→Ai):qK (l.filterMap λm=>vs[f m]?) (l.filterMap λm=>us[f m]?):=by
 induction l with
 |nil=>exact .nil
 |cons m l ih =>
  simp only[Gm];cases h:vs[f m]? with
  |none =>
   have:us[f m]? = none:=by
    rw[OY] at h ⊢;rw[← rv.length];exact h
   rw[this];exact ih
  |some v =>
   obtain⟨u,hu,r⟩:=rv.get h;rw[hu];exact .cons r ih
def Y0 {K:Ak}{P:Hp}{α:Ab Af}{ds:Ab D}{vs:Ab V}(rp:qF K P α ds vs)(l:Ab Ai)(f:Ai→Ai):qF K P α (l.filterMap λm=>ds[f m]?) (l.filterMap λm=>vs[f m]?):=by
 induction l with
 |nil=>exact .nil
 |cons m l ih =>
  simp only[Gm];cases h:ds[f m]? with
  |none =>
   have:vs[f m]? = none:=by
    rw[OY] at h ⊢;rw[← rp.length];exact h
   rw[this];exact ih
  |some d =>
   obtain⟨u,hu,r⟩:=rp.get h;rw[hu];exact .cons r ih
set_option tactic.hygienic true in
def GW (he:PE X e (tD X fe))(hk:PE X ek (tD X fk)):PE X (.Subscript e (.Slice none none (Aa ek) p2) pos) (tD X (bV fe fk)):=by
 intro pins s σ H Q I h;obtain⟨P,α,env,S,r,re,af⟩:=h;have af':qI X P α ((fe env S).bind λd S1=>(fk env S1).bind λk S2=>oN d k S2) (OkV X P α Q):=af;refine Wx (thn (xF he I r re af') λv s1 ⟨x,H1,P1,α1,d,S1,G1,af1⟩=>?_);refine wpAny_Slice ?_;rw[Ss];refine Al (Al ?_);rw[evalPart_some];refine thn (xF hk G1.inv G1.rel G1.env (zA.base G1.same G1.pre af1)) λvk s2 ⟨y,H2,P2,α2,k,S2,G2,af2⟩=>?_;have af2:=zA.base G2.same G2.pre af2;cases d with
 |tup xs =>
  cases k with
  |int k =>
   simp only[oN] at af2
   split at af2
   ·rename_i hk'
    have rp:=Rep.mono G2.same G2.pre _ _ G1.rep;obtain⟨a,vs,its,rfl,q,t,rvs,ht,hl,_⟩:=uH G2.inv G2.rel rp;cases (show v=Dc a from G1.val)
    have gr:=G2.rep;simp only[Rep] at gr;subst gr;obtain⟨tk,rfl⟩:=G2.val;have I4:Inv X pins σ H2 { s2 with heap:=s2.heap.push { cls:=.type "slice",data:=.fields #[.none,.none,.int k tk] } }:=G2.inv.kept (t':=s2.toks) λb ob q=>Ag _ q
    have ht':Oa (s2.heap.push { cls:=.type "slice",data:=.fields #[.none,.none,.int k tk] }) a its.toArray:=ht.keeps λb ob q=>Ag _ q;refine tail_any (ops:=[.ref a,.ref s2.heap.objs.size]) (s:={ s2 with heap:=s2.heap.push { cls:=.type "slice",data:=.fields #[.none,.none,.int k tk] } }) ht'.typeIs Dr.lookup ?_ (by with_unfolding_all rfl)
    refine _H.getItem_tuple_step (s:={ s2 with heap:=s2.heap.push { cls:=.type "slice",data:=.fields #[.none,.none,.int k tk] } }) ht' (Tu ..) hk'.1 hk'.2.1 ?_ ?_
    ·have lv:vs.length=its.length:=rvs.length
     have ld:xs.length=vs.length:=t.length;have t':qF X.K P2 α2 (_H.stepL xs k) (_H.stepL vs k):=by
      unfold _H.stepL;rw[ld];exact Y0 t _ λm=>(_H.stepLo vs.length k+(m:Aj)*k).toNat
     have rv':qK (_H.stepL vs k) (_H.stepL its k):=by
      unfold _H.stepL;rw[lv];exact YB rvs _ λm=>(_H.stepLo its.length k+(m:Aj)*k).toNat
     exact eF I4 G2.rel t' rv' (Fg (_H.stepL_length _ _) hk'.2.2) af2
    ·rw[Bc,← hl,← xP];exact hk'.2.2
   ·exact An af2
  |_=>exact An af2
 |_=>exact An af2
end
end _D
end
namespace _D
open PySem PySem.Spec PyProof.Rows _L
section
variable {X:Cx}{cm:Ar}{k:Ai}{e ek:Bw}{fe fk:DE}{p2 pos:Fh}
def FK (he:QE X e fe)(hk:QE X ek fk):QE X (.Subscript e (.Slice none none (Aa ek) p2) pos) (bV fe fk):=⟨GW he.1 hk.1⟩
end
end _D
namespace _S
open PySem PySem.W PyProof.Rows
section
variable {prog:Bl}{w:Bz}{A:By}{E:Ad→Ah→Prop}{s:Ah}{K:Type}{is:K→Ad→Prop}{hash:K→Aj}{lt':K→K→Ar}{d:K}{Fit:K→Prop}{h0:Bs}
def QP {Q:Ad→Ah→Prop}(kd:Kind prog w is hash lt' d Fit h0)(hu:A.units+8<Fi)(hS:Sup h0 s.heap){l:Af}{vs:Ab Ad}(hl:s.heap.IsList l vs.toArray∨s.heap.IsTuple l vs.toArray)(ks:Ab K)(hlen:vs.length=ks.length)(hks:∀ i v,vs[i]? = Aa v→is (ks.getD i d) v)(hf:∀ k∈ks,Fit k)(hoel:vs.length≤100000)
  (h:∀ (h1 h':Bs) (tk:Ai) (D:Af) (c:Ai) (ps:Ab (K × Ad)),(∀ b o,s.heap.get? b=Aa o→h1.get? b=Aa o)→(∀ b o,h1.get? b=Aa o→h'.get? b=Aa o)→h1.objs.size≤D→h'.get? D=Aa (Ep "list" (ps.map (·.2)).toArray c)→ps.map (·.1)=kH lt' ks→(∀ p∈ps,is p.1 p.2∧p.2∈vs)→ps.length=ks.length→Q (.ref D) { s with heap:=h',toks:=tk }) :
  Ao (Au prog w) A (call (.builtin "sorted") [.ref l]) Q E s:=by
 refine OX kind_sorted plain_sorted entry_sorted (args_sorted1 _) ?_;unfold Hw.«sorted»;refine Ac (m:=checkCount "sorted" 1 1 _) (Al ?_);have hcol:∀ {R:Ab Ad→Ah→Prop},(∀ h1:Bs,(∀ b o,s.heap.get? b=Aa o→h1.get? b=Aa o)→R vs { s with heap:=h1 }) → Ao (Au prog w) A.in1 (collect (.ref l)) R E s:=λ{R} hR=>by
  have e:vs.toArray.toList=vs:=by simp
  rcases hl with⟨o,ho,hc,n,hd⟩|⟨o,ho,hc,n,hd⟩
  ·exact Vk l (.inl rfl) ho hc hd (λh' hk=>by rw[e];exact hR h' hk) (by rw[Bc,Fe];omega)
  ·exact Vk l (.inr rfl) ho hc hd (λh' hk=>by rw[e];exact hR h' hk) (by rw[Bc,Fe];omega)
 refine Ac (hcol λh1 kp1=>?_);refine Ac (Ti ?_ (by rw[Fe];omega))
 have hD:(h1.push (Ep "list" vs.toArray 0)).get? h1.objs.size=Aa (Ep "list" vs.toArray 0):=Bb _ rfl;have n0:h0.get? h1.objs.size=none:=by
  cases q:h0.get? h1.objs.size with
  |none=>rfl
  |some o=>exact absurd (Ax (kp1 _ _ (hS _ _ q))) (Er _)
 show Ao _ _ _ _ _ { s with heap:=h1.push (Ep "list" vs.toArray 0),toks:=s.toks }
 refine Ac (Du (Ef slot_list_sort ⟨_,hD,rfl⟩ Wt (KJ (h0:=h0) (is:=is) kd.ord kd.inj (d:=d) (vs:=vs) hlen hks hD (by show A.units+2<Fi;omega) hoel (λh2=>kd.cmps hlen hks hf h2) (λb o e=>Ag _ (kp1 b o (hS b o e))) n0 λps pm nf=>⟨_,rfl,?_⟩) (args_list_sort _)))
 refine Al ⟨_,rfl,?_⟩;have hz:(h1.push (Ep "list" vs.toArray 0)).objs.size=h1.objs.size+1:=size_push' ..;have old:∀ b o,b≠h1.objs.size→(h1.push (Ep "list" vs.toArray 0)).get? b=Aa o→((((h1.push (Ep "list" vs.toArray 0)).update h1.objs.size (Ew λ_=>#[])).push (Ep "tuple" vs.toArray 0)).push (Ep "list" #[] 0)).get? b=Aa o:=λb o hb e =>
  Ag _ (Ag _ ((Cc _ _ (Gx hb)).trans e))
 obtain⟨e1,he1⟩:∃ e1,((h1.push (Ep "list" vs.toArray 0)).update h1.objs.size (Ew λ_=>#[])).get? h1.objs.size=Aa (Ep "list" #[] e1):=⟨_,Ko hD (λ_=>#[])⟩;have he6:=Ko (Ag (Ep "list" #[] 0) (Ag (Ep "tuple" vs.toArray 0) he1)) (λ_=>(ps.map (·.2)).toArray)
 have pk:(ps.map (·.1)).Perm ks:=by
  have:=pm.map (·.1)
  rwa [Ps (by omega)] at this
 refine h h1 _ s.toks h1.objs.size _ ps kp1 (λb o e=>?_) (Av _) he6 (lD kd.ord nf (iW kd.ord ks) (pk.trans (kR ks).symm)) (λp hp=>?_) (by have:=pk.length_eq;rwa [Aq] at this)
 ·have hb:b≠h1.objs.size:=λz=>by
   subst z;exact absurd (Ax e) (Er _)
  exact(Cc _ _ (Gx hb)).trans (old b o hb (Ag _ e))
 ·obtain⟨i,e1,e2⟩:=YC (d:=d) hlen (pm.mem_iff.mp hp)
  exact⟨e2▸hks i _ e1,Cf e1⟩
end
end _S
namespace _D
open PySem PySem.Spec PyProof.Rows _L
variable {K:Ak}{mg:As→Am Ad}
def pL (xs:Ab D):Am (Ab D):=match xH xs with
 |some ns=>if ns.length≤100000 then Aa ((_S.kH _S.ltI ns).map D.int) else none
 |none=>match yE xs with
  |some ks=>if (decide (ks.length≤100000)&&ks.all λk=>!k.isEmpty) then Aa ((_S.kH _H.lexLt ks).map tpD) else none
  |none=>none
def JH (R:Ab D→Sto→Res D):DF:=λds S=>match ds with
 |[d]=>match (bN d).bind pL with
  |some ys=>R ys S
  |none=>.bad
 |_=>.bad
def bY:DF:=JH λys S=>.ok (.lst ys) S
section
variable {X:Cx}{pins:Ab (Af × Cs)}{σ : _L.St}{H P:Hp}{α : Ab Af}{S:Sto}{s:Ah}
inductive NewR (X:Cx)(pins:Ab (Af × Cs))(σ : _L.St)(H P:Hp)(α : Ab Af)(ys:Ab D)(u:Ad)(s':Ah):Prop
 |mk (D:Af) (vs:Ab V) (e:u=.ref D) (hn:H D=none) (I:Inv X pins σ (upd H D (.lst vs)) s') (rp:qF X.K P α ys vs):NewR X pins σ H P α ys u s'
def dU {K:Type}{is:K→Ad→Prop}{hash:K→Aj}{lt':K→K→Ar}{d:K}{Fit:K→Prop}(kd:_S.Kind X.prog X.w is hash lt' d Fit s.heap)(hu:X.A.units+64<Fi)(I:Inv X pins σ H s)(r:Rel X.K H P α S){a:Af}{its:Ab Ad}
  (ha:s.heap.IsList a its.toArray∨s.heap.IsTuple a its.toArray) (ks:Ab K) (hl:ks.length=its.length) (hk:∀ i v,its[i]? = Aa v→is (ks.getD i d) v) (hn:ks.length≤100000) (hf:∀ k∈ks,Fit k) (enc:K→D)
  (back:∀ k v,is k v→v∈its→∃ vv,qL vv v∧Rep X.K P α (enc k) vv) {E:Ad→Ah→Prop} :
  Ao (Au X.prog X.w) X.A (call (.builtin "sorted") [.ref a]) (NewR X pins σ H P α ((_S.kH lt' ks).map enc)) E s:=by
 refine _S.QP kd om (λ_ _ e=>e) ha ks hl.symm hk hf om λh1 h2 tk2 D c ps kp1 kp2 hD hob hps hp hpl=>?_;have I1:Inv X pins σ H { s with heap:=h1,toks:=s.toks }:=I.kept kp1
 have vv:∀ (ps:Ab (K × Ad)),(∀ p∈ps,is p.1 p.2∧p.2∈its)→∃ vs,qK vs (ps.map (·.2))∧qF X.K P α ((ps.map (·.1)).map enc) vs:=by
  intro ps
  induction ps with
  |nil=>exact λ_=>⟨[],.nil,.nil⟩
  |cons p ps ih =>
   intro h;obtain⟨vs,a1,a2⟩:=ih λq hq=>h q (by simp[hq])
   obtain⟨v,b1,b2⟩:=back p.1 p.2 (h p (by simp)).1 (h p (by simp)).2
   exact⟨v::vs,.cons b1 a1,.cons b2 a2⟩
 obtain⟨vs,a1,a2⟩:=vv ps hp;rw[hps] at a2;have nd:([(D,HO.lst vs)].map (·.1)).Nodup:=by simp
 have I2:Inv X pins σ (vQ H [(D,HO.lst vs)]) { s with heap:=h2,toks:=tk2 }:=Inv.laidL (s:={ s with heap:=h1,toks:=s.toks }) (L:=[(D,HO.lst vs)]) (t':=tk2) I1 kp2 (λp hpm=>by
  have:p=(D,HO.lst vs):=by simpa using hpm
  subst this;exact hD) λp hpm=>by
  have:p=(D,HO.lst vs):=by simpa using hpm
  subst this;refine⟨?_,ps.map (·.2),c,a1,hob⟩
  have:=a1.length;rw[Aq] at this;rw[this,Fe];omega
 exact⟨D,vs,rfl,I1.hok.fresh hD,I2,a2⟩
set_option tactic.hygienic true in
def QM {E:Ad→Ah→Prop}(hu:X.A.units+64<Fi)(I:Inv X pins σ H s)(r:Rel X.K H P α S){a:Af}{xs ys:Ab D}{vs:Ab V}{its:Ab Ad}(t1:qF X.K P α xs vs)(rv1:qK vs its)(e1:s.heap.IsList a its.toArray∨s.heap.IsTuple a its.toArray)(l1:xs.length=its.length)(hs:pL xs=Aa ys) :
  Ao (Au X.prog X.w) X.A (call (.builtin "sorted") [.ref a]) (NewR X pins σ H P α ys) E s:=by
 unfold pL at hs;cases hi:xH xs with
 |some ns =>
  rw[hi] at hs;dsimp only at hs
  split at hs
  ·rename_i hlt
   cases hs;have:=yN hi;subst this;have:=wQ t1;subst this;refine dU (d:=0) (_S.KE X.prog X.w s.heap) hu I r e1 ns (by simpa using l1) (λi u hu'=>?_) hlt (λ_ _=>trivial) D.int λk u hk _=>?_
   ·have hi:Ik its ns:=by simpa using jH rv1
    obtain⟨t,rfl⟩:=Op hi i u hu';exact Tf _ _ _ _
   ·obtain⟨t,rfl⟩:=_S.yI hk
    exact⟨.int k,⟨t,rfl⟩,by simp only[Rep]⟩
  ·cases hs
 |none =>
  rw[hi] at hs;dsimp only at hs;cases ht:yE xs with
  |none=>rw[ht] at hs;cases hs
  |some ks =>
   rw[ht] at hs;dsimp only at hs
   split at hs
   ·rename_i hlt
    cases hs;rw[Br,Ct] at hlt;have:=mL ht;subst this;have at':∀ (i:Ai) (u:Ad),its[i]? = Aa u→∃ b,u=.ref b∧Nv (Bg X.prog X.w) s.heap (ks.getD i []) b∧∃ vv,qL vv u∧Rep X.K P α (tpD (ks.getD i [])) vv:=λi u hu'=>by
     have hii:i<its.length:=(Be.mp hu').1;have hik:i<ks.length:=by rw[Aq] at l1;omega
     obtain⟨v,p,q,_⟩:=yB t1 rv1 (j:=i) (by rw[Bc];exact hii)
     have hd:(ks.map tpD).getD i D.non=tpD (ks.getD i []):=by simp[IH,hik]
     rw[hd] at p;have hu2:its.toArray[i]'(by rw[Bc];exact hii)=u:=by
      rw[Ap hii] at hu';simpa using hu'
     rw[hu2] at q;obtain⟨b,ws,us,rfl,sq,t,rv,⟨o,ho,hcl,m,hd⟩,_,_⟩:=uH I r (show Rep X.K P α (.tup ((ks.getD i []).map D.int)) v from p)
     cases (show u=Dc b from q)
     have:=wQ t;subst this;exact⟨b,rfl,⟨o,us.toArray,m,ho,hcl,hd,by simpa using nV rv⟩,.ref b,rfl,p⟩
    refine dU (d:=[]) (_S.KG X.prog X.w s.heap) hu I r e1 ks (by simpa using l1) (λi u hu'=>?_) hlt.1 (λk hk=>?_) tpD λk u hk hm'=>?_
    ·obtain⟨b,rfl,q,_⟩:=at' i u hu'
     exact⟨b,rfl,q⟩
    ·have:=Az.mp hlt.2 k hk
     intro z;subst z;cases this
    ·obtain⟨i,hi',rfl⟩:=Cg.mp hm'
     obtain⟨b,eb,q,w,rw',pw⟩:=at' i _ (Ap hi');have:k=ks.getD i []:=_S.isT.inj hk ⟨b,eb,q⟩;rw[this];exact⟨w,rw',pw⟩
   ·cases hs
def EZ (hu:X.A.units+64<Fi){vs:Ab V}{us:Ab Ad}{ds:Ab D}{Q:VK}{R:Ab D→Sto→Res D}(I:Inv X pins σ H s)(r:Rel X.K H P α S)(rv:qK vs us)(rp:qF X.K P α ds vs)(af:zA X P α (JH R ds S) Q)
  (k:∀ ys D vs',H D=none→qF X.K P α ys vs'→zA X P α (R ys S) Q→Q (.ref D) (upd H D (.lst vs'))):Ao (Au X.prog X.w) X.A (call (.builtin "sorted") us) (EP X pins σ Q) X.xe s:=by
 match ds,af,rp with
 |[],af,_=>exact An af
 |_::_::_,af,_=>exact An af
 |[d],af,rp =>
  simp only[JH] at af;cases hq:(bN d).bind pL with
  |none=>rw[hq] at af;exact An af
  |some ys =>
   rw[hq] at af;obtain⟨xs,hd,hs⟩:=Ei.mp hq;obtain⟨v,u,rfl,rfl,p,q⟩:=yL rp rv;obtain⟨a,vs,its,rfl,t1,rv1,e1,l1⟩:=Y4 I r p q hd;refine thn (QM hu I r t1 rv1 e1 l1 hs) λu' s3 ⟨D,vs',e,hn,I',rp'⟩=>?_;subst e;exact⟨.ref D,_,I',rfl,k ys D vs' hn rp' af⟩
def ZJ (hu:X.A.units+64<Fi):yK X (.builtin "sorted") bY:=by
 intro pins σ H s P α S vs us ds Q I r rv rp af;exact EZ hu I r rv rp af λys D vs' hn rp' af'=>yQ r hn rp' af'
end
def oQ {its:Ab Ad}{ns:Ab Aj}(h:Ik its ns):∃ xs:Ab (Aj × Pu),its=xs.map (λp=>My p.1 p.2)∧ns=xs.map (·.1):=by
 induction h with
 |nil=>exact⟨[],rfl,rfl⟩
 |cons n t h ih =>
  obtain⟨xs,rfl,rfl⟩:=ih;exact⟨(n,t)::xs,rfl,rfl⟩
def rT:∀ (ns:Ab Aj) (i:Aj),ns.foldl max i∈i::ns∧∀ a∈i::ns,a≤ns.foldl max i
 |[],i=>⟨by simp,λa ha=>by simp at ha;subst ha;exact Jr _⟩
 |n::ns,i=>by
  obtain⟨h1,h2⟩:=rT ns (max i n);refine⟨?_,λa ha=>?_⟩
  ·rcases Aw.mp h1 with h|h
   ·rcases Int.le_total i n with z|z
    ·rw[Hy,h,Int.max_eq_right z];simp
    ·rw[Hy,h,Int.max_eq_left z];simp
   ·exact Bq _ (Bq _ h)
  ·have h3:=h2 (max i n) (by simp)
   rcases Aw.mp ha with rfl|ha
   ·exact Fb (Int.le_max_left _ _) h3
   ·rcases Aw.mp ha with rfl|ha
    ·exact Fb (Int.le_max_right _ _) h3
    ·exact h2 a (Bq _ ha)
def iA (xs:Ab (Aj × Pu))(i:Ai)(hi:i<xs.length):Rr xs.toArray i=(xs.map (·.1))[i]'(by simpa using hi):=by
 simp[Rr,hi]
section
variable {X:Cx}{cm:Ar}{k:Ai}
def JU (hr:RoomC cm k X.A):ZCall X (.builtin "sorted") bY:=⟨ZJ hr.units⟩
end
def SO {h:Bs}(X:K.In h)(G:h.Ns Cn mg){x:As}{st:Fl}{ps:Ab As}{f:Af}{oc:Ad}{od an:Am Af}{osl:Ay (Am Ad)}{kV doc pm cdv ct:Ad}
  (a:Dt K Cn x=Aa (Aa (.ref f)))
  (l:K.lookup f=Aa ⟨oc,od,.func (Ho x x (yX st) (xD st) (qJ st) .none kV doc pm an cdv ct),osl⟩) (c:Lg K cdv x=true) (k:En K (.ref f)=true)
  (hb:∀ (kV doc pm:Ad) (an:Am Af) (cdv ct:Ad) (us:Ab Ad),us.length=ps.length→Wl (Ho x x (yX st) (xD st) (qJ st) .none kV doc pm an cdv ct) ⟨us,[]⟩=pure (ps.zip us)):Src K mg x st ps:=
 have F:=NL (st:=st) l c k
 ⟨f,_,Tk X G a,F,F.binds hb⟩
def rB (K:Ak)(C:Af):Ar:=
 decide (Lf K (.ref C) "__getattribute__" = Aa (Aa (.builtin "BaseException.__getattribute__")))&&decide (Lf K (.ref C) "__getattr__" = Aa none)
 && decide (Lf K (.ref C) "__class__" = Aa (Aa (.builtin "object.__class__")))&&decide (Sk K C (.type "object")=Aa true)&&decide (Sk K C (.type "BaseException")=Aa true)
 && (PySem.W.clsIn K C).isSome&&decide (Jt K (.ref C) (.type "ValueError")=Aa true)
def YY (K:Ak):Ar:=
 decide (Ut K (.builtin "object.__class__") "__get__" = Aa (Aa (.builtin "getset_descriptor.__get__")))&&decide (Wk K (.builtin "object.__class__")=Aa true)
def TB (K:Ak)(cl:Ab Af):Ar:=cl.all λC=>cl.all λB=>decide (Jt K (.ref C) (.ref B)=Aa (C == B))
def TC {cl:Ab Af}(h1:cl.all (rB K)=true)(h2:YY K=true)(h3:TB K cl=true):ClsK K cl:=by
 have g:=h2;unfold YY at g;simp only[Br,Ct] at g;have k1:∀ C∈cl,rB K C=true:=Az.mp h1;refine⟨λC hC=>?_,λC hC B hB=>?_,λC hC=>?_⟩
 ·have e:=k1 C hC
  unfold rB at e;simp only[Br,Ct] at e;obtain⟨⟨⟨⟨⟨⟨e1,e2⟩,e3⟩,e4⟩,e5⟩,e6⟩,e7⟩:=e;exact⟨e1,e2,e3,g.1,g.2,e4,e5,e6⟩
 ·have e:=Az.mp (Az.mp h3 C hC) B hB
  exact Cu e
 ·have e:=k1 C hC
  unfold rB at e;simp only[Br,Ct] at e;exact e.2
def CI (K:Ak)(cs:Ab Ad)(A:Af):Ar:=cs.all λv=>decide (IR K v (.ref A)=Aa true)
def CG (K:Ak)(cs:Ab Af)(A:Af):Ar:=cs.all λC=>m8 K C A
def CH (K:Ak)(cs:Ab Af):Ar:=cs.all λC=>En K (.ref C)
def sR (K:Ak):Sp:=λvs H Q E=>∃ a ns,vs=[.ref a]∧SqX K H a (List.map V.int ns)∧ns.length≤63∧∀ H',Q (.bl true) H'
def h9 {P:Hp}{α:Ab Af}:∀ ns:Ab Aj,qF K P α (ns.map D.int) (ns.map V.int)
 |[]=>.nil
 |n::ns=>.cons (by simp only[Rep]) (h9 ns)
def BO {P:Bl}{w:Bz}{fa:Af}{st:Fl}{k:Ai}{x:As}(hs:Src K mg "law" st [x])(hfa:mg "law" = Aa (.ref fa))
  (hbd:∀ (kV doc pm:Ad) (an:Am Af) (cdv ct:Ad) (s:Ah) (v:Ad),Nn s (Ho "law" "law" (yX st) (xD st) (qJ st) .none kV doc pm an cdv ct) ⟨[v],[]⟩ [(x,v)])
  (hall:∀ base:Bs,∃ F,sT P w K mg base true k "law" [x] F∧∀ ns:Ab Aj,ns.length≤63→∃ S,F [.lst (ns.map D.int)] [] = .ok (.bl true) S) :
  ∃ fd:Fy,(∀ (s:Ah) (v:Ad),Nn s fd ⟨[v],[]⟩ [(x,v)])∧∀ base:Bs,K.In base→base.Ns Cn mg→FnOk P w K mg base (CXd P w) k fa fd [x] (sR K):=by
 obtain⟨f,fd,hm,F,hb⟩:=hs;cases hfa.symm.trans hm;refine⟨fd,?_,λbase _ _=>?_⟩
 ·obtain⟨oc,od,kV,doc,pm,an,cdv,ct,osl,rfl,_,_⟩:=F.ex
  exact hbd kV doc pm an cdv ct
 ·obtain⟨G,⟨f',fd',hm',_,hb',hl,X⟩,hG⟩:=hall base
  cases hm.symm.trans hm';cases hl.one (sK F);refine(X.imp λvs H Q E h=>?_).ok;obtain⟨a,ns,rfl,hS,hl,k⟩:=h;obtain⟨S,e⟩:=hG ns hl;refine⟨rfl,H,[],[.lst (ns.map D.int)],[],⟨qH.refl _,rfl,.nil,by simp,by simp,by simp⟩,.cons (fK hS (h9 ns)) .nil,?_⟩
  rw[e];intro v H' P' α' _ _ _ rv;simp only[Rep] at rv;subst rv;exact k H'
def HC {l:Wm}{q:Bl}{loose:Ab As}{XP:(As→Am Ad)→Bs→Prop}{YP:Bz→Bs→Prop}{d:DefRec}{K:Xl→Ak}{k:Ai}{x:As}(hn:l.most=Aa 63)(hdf:d.params.defaults=[])(hr:Room k OM)
  (hY:∀ (w:Bz) (h:Bs),YP w h→(K w.params).In h)
  (F:∀ (w:Bz) (mg:As→Am Ad) (fa:Af) (h:Bs),(K w.params).In h→h.Ns Cn mg→mg d.name=Aa (.ref fa) →
   ∃ fd:Fy,(∀ (s:Ah) (u:Ad),Nn s fd ⟨[u],[]⟩ [(x,u)])∧∀ base:Bs,(K w.params).In base→base.Ns Cn mg→FnOk l.prog w (K w.params) mg base (CXd l.prog w) k fa fd [x] (sR (K w.params))) :
  Sx q loose XP YP l.row.toRowW d [] (λf vs=>Xa f vs):=
 _L.MC (n:=63) (k:=k) (x:=x) (CX:=λw=>CXd l.prog w) (sp:=λw=>sR (K w.params)) hn (by decide) hdf hr hY F (λ_ _ a ns hl _ hS=>⟨a,ns,rfl,hS,hl,λ_=>rfl⟩) λw H s e s' h=>by
  obtain⟨_,_,_,_,_,_,_,_,_,_,_,_,z⟩:=h;exact z
end _D
namespace _D
open PySem
variable {us:Ab Ad}
def us0 (h:us.length=0):us=[]:=Ng h
def usS {n:Ai}(h:us.length=n+1):∃ a vs,us=a::vs∧vs.length=n:=by
 cases us with
 |nil=>exact absurd h (by simp)
 |cons a vs=>exact⟨a,vs,rfl,by simpa using h⟩
def us1 (h:us.length=1):∃ a,us=[a]:=by
 obtain⟨a,vs,rfl,h'⟩:=usS h;exact⟨a,by rw[us0 h']⟩
def us2 (h:us.length=2):∃ a b,us=[a,b]:=by
 obtain⟨a,vs,rfl,h'⟩:=usS h;obtain⟨b,rfl⟩:=us1 h';exact⟨a,b,rfl⟩
def us3 (h:us.length=3):∃ a b c,us=[a,b,c]:=by
 obtain⟨a,vs,rfl,h'⟩:=usS h;obtain⟨b,c,rfl⟩:=us2 h';exact⟨a,b,c,rfl⟩
end _D
namespace _D
open PySem PySem.Spec PyProof.Rows _L
variable {Fs:Ab (Ai × DF)}{vs:Ab (Key × V)}{α:Ab Af}{sc:Gu}
def G9 (F:DF):∃ G:DF,G=F:=⟨F,rfl⟩
def sh (F:DF):DF:=Mq (G9 F)
def zR (F:DF):sh F=F:=Mr (G9 F)
def isV:Am IC→Ar
 |some .local => true
 |some .cell=>true
 |some .free=>true
 |_=>false
def isL:Am IC→Ar
 |some .local => true
 |some .cell=>true
 |_=>false
def isG:Am IC→Ar
 |some .globalImplicit=>true
 |_=>false
def okN (x:As):Ar:=!(x == ("__debug__" : As))&&(!(x == ("__classdict__" : As))&&!decide (x = "__name__"))
def okG (X:Cx)(x:As):Ar:=isG (X.env.kindOf x)&&okN x
def okB (v:Ad)(x:As):Ar:=decide (Ge x=Aa v)
def lA (sc:Gu):Ab As:=sc.names.filterMap λy=>if isL (Aa y.2) then Aa y.1 else none
def vG (sc:Gu):Ab As:=(sc.names.filterMap λy=>if isL (Aa y.2)&&!(y.1 == (".0" : As)) then Aa y.1 else none)++sc.names.filterMap λy=>if y.2 == .free then Aa y.1 else none
def Ck (b:Ar):Prop:=b=true
def ck {b:Ar}(h:b=true:=by kernel_rfl):Ck b:=h
structure DfS (F:DF)(P:Bl)(w:Bz)(K:Ak)(mg:As→Am Ad)(base:Bs)(cm:Ar)(k:Ai)(x:As)(n:Ai):Prop where
 get:Def P w K mg base cm k x n F
def okT (X:Cx)(m:Ai)(x:As):Ar:=decide (X.N[m]? = Aa x)&&(isL (X.env.scope.names.lookup x)&&(decide X.N.Nodup&&(X.fn x||decide (X.env.scope.names.lookup x=Aa .local))))
def okP (X:Cx)(m:Ai)(x:As):Ar:=decide (X.N[m]? = Aa x)&&decide (X.env.scope.names.lookup x=Aa .local)
def sH (scX:Gu)(NX:Ab As)(scope:Gu)(cap:Ab (Am Ai)):Ar:=
 decide (scope.kind=.function)&&(decide (∀ y∈scope.names,y.2=.local → scope.names.lookup y.1=Aa .local)&&(decide (∀ y∈scope.names,y.2≠.cell)&&(decide (∀ y∈scope.names,y.2=.free→scX.names.lookup y.1=Aa .cell∨scX.names.lookup y.1=Aa .free)
 && (decide (∀ y∈scope.names,y.2=.free→scope.names.lookup y.1=Aa .free)&&(decide (cap.length=(vG scope).length)&&(((cap.zip (vG scope)).all λp=>match p.1 with|none=>true|some i=>NX[i]? == Aa p.2&&scope.names.lookup p.2 == Aa .free)&&decide (vG scope).Nodup))))))
def fnB (N P:Ab As)(sc:Gu):Ar:=
 decide (sc.kind=.function)&&(decide (sc.isCoroutine=false)&&(decide (sc.isGenerator=false)&&(decide N.Nodup&&(decide (N.take P.length=P)&&(decide (∀ x∈P,sc.names.lookup x=Aa .local ∨ sc.names.lookup x=Aa .cell)&&decide (∀ y∈sc.names,y.2≠.free))))))
def rC {scX:Gu}{NX:Ab As}{scope:Gu}{cap:Ab (Am Ai)}(h:sH scX NX scope cap=true):CompSc scX NX scope (vG scope) cap:=by
 simp only[sH,Br,Ct] at h;obtain⟨a,b,c,d,e,f,g,k⟩:=h;exact⟨a,b,c,d,e,f,g,k⟩
def X7 {N P:Ab As}(h:fnB N P sc=true):FnScope N P sc:=by
 simp only[fnB,Br,Ct] at h;obtain⟨a,b,c,d,e,f,g⟩:=h;exact⟨a,b,c,d,e,f,g⟩
section
variable {X:Cx}{a b c e o elt tg iter:Bw}{ifs rest:Ab Bw}{f g:DS}{fa:DE}{f2:DI2}{dg:DG}{t:DT}{kk:DK}{gens grest:Ab Fp}{scope:Gu}{cap:Ab (Am Ai)}{mm:Ar}{l q:Ai}{y z:As}{G2':G2}{es:Ab Bw}{fA:DA}{x:As}{p pos:Fh}{cm:Ar}{k n m:Ai}{F:DF}
def BC (h:isV (sc.names.lookup x)=true):Vis sc x:=by
 unfold Vis
 revert h
 cases sc.names.lookup x with
 |none=>intro h;cases h
 |some y=>cases y <;> intro h <;> first|cases h;done|exact .inl rfl|exact .inr (.inl rfl)|exact .inr (.inr rfl)
def BA (h:isL (sc.names.lookup x)=true):_L.Loc sc x:=by
 unfold _L.Loc
 revert h
 cases sc.names.lookup x with
 |none=>intro h;cases h
 |some y=>cases y <;> intro h <;> first|cases h;done|exact .inl rfl|exact .inr rfl
def tH (h:okN x=true):(x == ("__debug__" : As))=false∧(x == ("__classdict__" : As))=false∧x ≠ "__name__":=by
 unfold okN at h;rw[Br,Br] at h;exact⟨by simpa using h.1,by simpa using h.2.1,by simpa using h.2.2⟩
def wY (h:okG X x=true):Gl X x∧(x == ("__debug__" : As))=false∧x ≠ "__name__":=by
 have h:=(Br _ _).mp h;refine⟨?_,(tH h.2).1,(tH h.2).2.2⟩;have z:=h.1;unfold Gl
 revert z
 cases X.env.kindOf x with
 |none=>intro z;cases z
 |some y=>cases y <;> intro z <;> first|cases z;done|rfl
def eO (h:okT X m x=true):X.N[m]? = Aa x∧_L.Loc X.env.scope x∧X.N.Nodup∧(X.fn x=true∨X.env.scope.names.lookup x=Aa .local):=by
 simp only[okT,Br,Ct,Qn] at h;exact⟨h.1,BA h.2.1,h.2.2⟩
def gI (h:okP X m x=true):X.N[m]? = Aa x∧X.env.scope.names.lookup x=Aa .local:=by
 simp only[okP,Br,Ct] at h;exact h
def K9 (h:Ck (okG X x)):Gl X x:=(wY h).1
def aV (h:Ck (decide (X.N[m]? = Aa x)&&(isV (X.env.scope.names.lookup x)&&okN x))):QE X (.Name x pos) (qB m):=by
 unfold Ck at h;simp only[Br,Ct] at h;exact DV m h.1 (BC h.2.1) (tH h.2.2).1 (tH h.2.2).2.1
def aBt {nm:Ej}(h:Ck (okG X x))(hm:X.mg x=none)(hb:Ck (okB (.type nm) x)):QE X (.Name x pos) (dC (.ty nm)):=
 have h:=wY h
 FF h.1 hm (Cu hb) h.2.2 h.2.1
def aCl {C:Af}(h:Ck (okG X x))(hm:X.mg x=Aa (.ref C)∧En X.K (.ref C)=true):QE X (.Name x pos) (dC (.obj C)):=
 have h:=wY h
 DH h.1 hm.1 hm.2 h.2.1
def aGi {v:Aj}(h:Ck (okG X x))(hm:∃ t,X.mg x=Aa (.int v t)):QE X (.Name x pos) (dC (.int v)):=
 have h:=wY h
 FH h.1 hm h.2.1
abbrev St1 (X:Cx)(e:Bw)(es:Ab Bw)(pos:Fh):Prop:=Bd (e::es) X.env=(false,eval e X.env)::Bd es X.env∧(Fu pos (Bd es X.env)).any (·.1)=false
def aN (G:DfS F X.prog X.w X.K X.mg X.base cm k x n)(hr:RoomC cm k X.A)(hF:Fn1 X)(h:Ck (okG X x))(ha:QA X (e::es) fA)(s:St1 X e es pos):QE X (.Call (.Name x p) (e::es) [] pos) (qG n F fA):=
 have h:=wY h
 qcN G.1 hr hF h.1 ha h.2.1 s.1 s.2
def aL (G:DfS F X.prog X.w X.K X.mg X.base cm k x n)(hr:RoomC cm k X.A)(hF:Fn1 X)(h:Ck (okG X x))(ha:QA X (e::es) fA)(s:St1 X e es pos):QE X (.Call (.Name x p) (e::es) [] pos) (qG n (u8 F) fA):=
 have h:=wY h
 qcL G.1 hr hF h.1 ha h.2.1 s.1 s.2
def aO (G:DfS F X.prog X.w X.K X.mg X.base cm k x n)(hr:RoomC cm k X.A)(h:Ck (okG X x))(ha:QA X (e::es) fA)(s:St1 X e es pos):QE X (.Call (.Name x p) (e::es) [] pos) (qG n (okO F) fA):=
 have h:=wY h
 qcO G.1 hr h.1 ha h.2.1 s.1 s.2
def aB {id:Ej}(hc:ZCall X (.builtin id) F)(h:Ck (okG X x))(hm:X.mg x=none)(hb:Ck (okB (.builtin id) x))(ha:QA X (e::es) fA)(s:St1 X e es pos):QE X (.Call (.Name x p) (e::es) [] pos) (qE F fA):=
 have h:=wY h
 UR hc h.1 hm (Cu hb) ha h.2.2 h.2.1 s.1 s.2
def aT {T:Ej}(hc:ZCall X (.type T) F)(h:Ck (okG X x))(hm:X.mg x=none)(hb:Ck (okB (.type T) x))(ha:QA X (e::es) fA)(s:St1 X e es pos):QE X (.Call (.Name x p) (e::es) [] pos) (qE F fA):=
 have h:=wY h
 WJ hc h.1 hm (Cu hb) ha h.2.2 h.2.1 s.1 s.2
def aC (S:Ck (sH X.env.scope X.N scope cap))(hc:X.calm=true)(hi:QI2 X tg iter f2)(hg:∀ cl C ex s₀ H₀,QG (zF X (vG scope) scope cl C ex s₀ H₀) tg dg)(ht:∀ cl C ex s₀ H₀,QTs (zF X (vG scope) scope cl C ex s₀ H₀) ifs t)
  (has:∀ g',(⟨tg,iter,ifs,0⟩::grest:Ab Fp)[0+1]? = Aa g'→g'.is_async=0)
  (he:∀ cl C ex s₀ H₀,QK (zF X (vG scope) scope cl C ex s₀ H₀) (λacc=>wD elt (⟨tg,iter,ifs,0⟩::grest) scope pos 0 acc (zF X (vG scope) scope cl C ex s₀ H₀).env) kk) (hs:∀ x,Ga iter X.env x=pure x) :
  QE X (.ListComp elt (⟨tg,iter,ifs,0⟩::grest) scope pos) (qS mm cap f2 dg t kk):=UT hc (rC S) hi hg ht has he hs
def aCs {py spos:Fh}(hsw:Lm (.ListComp elt (⟨tg,iter,ifs,0⟩::grest) scope pos) (Aa (.Name y py)) spos.line X.env=pure true)(S:Ck (sH X.env.scope X.N scope cap))(hN:Ck (okT X m y))(hc:X.calm=true)(hi:QI2 X tg iter f2)(hg:∀ cl C ex s₀ H₀,QG (zF X (vG scope) scope cl C ex s₀ H₀) tg dg)(ht:∀ cl C ex s₀ H₀,QTs (zF X (vG scope) scope cl C ex s₀ H₀) ifs t)
  (has:∀ g',(⟨tg,iter,ifs,0⟩::grest:Ab Fp)[0+1]? = Aa g'→g'.is_async=0)
  (he:∀ cl C ex s₀ H₀,QK (zF X (vG scope) scope cl C ex s₀ H₀) (λacc=>wD elt (⟨tg,iter,ifs,0⟩::grest) scope pos 0 acc (zF X (vG scope) scope cl C ex s₀ H₀).env) kk) (hs:∀ x,Ga iter X.env x=pure x) :
  QS X (.Assign [.Name y py] (.ListComp elt (⟨tg,iter,ifs,0⟩::grest) scope pos) spos) (zB (qS mm cap f2 dg t kk) (gNm m)):=
 have h:=eO hN
 UX hc h.2.2.1 (rC S) hi hg ht has he h.1 h.2.1 h.2.2.2 hsw hs
def aNm (h:Ck (okT X m x)):QG X (.Name x pos) (gNm m):=
 have h:=eO h
 FL h.2.2.1 h.1 h.2.1 h.2.2.2
def aSt {pos':Fh}(hs:Lm e (Aa (.Name x pos')) pos.line X.env=pure false)(he:QE X e fa)(h:Ck (okT X m x)):QS X (.Assign [.Name x pos'] e pos) (zB fa (gNm m)):=
 have h:=eO h
 S9 h.2.2.1 he h.1 h.2.1 hs h.2.2.2
def aP2 {px py pt:Fh} {kt k2 pt2} (h:Ck (decide X.N.Nodup&&(okP X m x&&(okP X l y&&!decide (m=l))))) (hc:X.calm=true) (ha:QA X [a,b] fA)
  (hw:Kc [.Tuple [.Name x px,.Name y py] kt pt] (.Tuple [a,b] k2 pt2) X.env=pure (Aa [x,y])) (hs:Ke [.Tuple [.Name x px,.Name y py] kt pt] (.Tuple [a,b] k2 pt2) pos.line X.env=pure false) :
  QS X (.Assign [.Tuple [.Name x px,.Name y py] kt pt] (.Tuple [a,b] k2 pt2) pos) (kX m l fA):=by
 unfold Ck at h;simp only[Br,Ct,Ln,Fj] at h;exact S8 hc h.1 ha (gI h.2.1).1 (gI h.2.2.1).1 h.2.2.2 (gI h.2.1).2 (gI h.2.2.1).2 hw hs
def aRs {C:Af}{np cpos:Fh}(h:Ck (okG X x))(hc:X.calm=true)(hF:Fn1 X)(hm:∃ Ae,X.mg x=Aa (.ref C)∧m8 X.K C Ae=true)(ha:QA X (e::rest) fA)(s:St1 X e rest cpos) :
  QS X (.Raise (Aa (.Call (.Name x np) (e::rest) [] cpos)) none pos) (uD (.ref C) fA):=
 have h:=wY h
 let ⟨_,hm,hx⟩:=hm
 UY hc hF h.1 hm hx ha h.2.1 s.1 s.2
def aTr {nm:As}{body:Ab Fl}{b₀:Fl}{suite:Ab Fl}{np hpos:Fh}{cs:Ab Ad}(h:Ck (okG X x&&(okP X m nm&&(decide X.N.Nodup&&decide (X.N.length=n)))))(hF:Fn1 X)(hm:∃ C0,X.mg x=Aa (.ref C0)∧∀ c∈cs,IR X.K c (.ref C0)=Aa true)(hb:∀ E pn,ZPass (Cx.tryIn X E pn)→QB (Cx.tryIn X E pn) body f)(hs:∀ e,QB (Cx.suite X e) (b₀::suite) g) :
  QS X (.Try body [.ExceptHandler (Aa (.Name x np)) (Aa nm) (b₀::suite) hpos] [] [] pos) (mJ n m cs f g):=by
 unfold Ck at h;simp only[Br,Ct] at h;obtain⟨C0,hm,hcs⟩:=hm;exact SA hF hb hs (wY h.1).1 hm hcs h.2.2.1 (gI h.2.1).1 (gI h.2.1).2 (wY h.1).2.1 h.2.2.2
def aTb {ie:Bw}{fi:DE}{lp sp:Fh}(hr:RoomC cm k X.A)(T:ZTab X cm k es Fs)(hF:Fn1 X)(hl:Ck (decide (Fs.length≤lim)))(hi:QE X ie fi)(ha:QA X (e::rest) fA)(hs:jK ie)(s:St1 X e rest pos) :
  QE X (.Call (.Subscript (.List es lp) ie sp) (e::rest) [] pos) (nE Fs fi fA):=DR T hr hF (Cu hl) hi ha hs s.1 s.2
def aZt {j:Ai}(G:DfS F X.prog X.w X.K X.mg X.base cm j x n)(hj:j≤k)(h:Ck (okG X x))(t:ZTab X cm k es Fs):ZTab X cm k (.Name x p::es) ((n,F)::Fs):=
 have h:=wY h
 YE (G.1.mono hj) h.1 h.2.1 t
end
structure TxS (K:Ak)(mg:As→Am Ad)(tp:Ai→Fl)(tab:Ab (As × Ai × Ab As))(bl:Ab As)(clt plt:Ab (As × Af))(cs:Ab Ad)(exl:Ab Af)(cst:Ab (As × Aj)):Prop where
 src:∀ (j:Ai) {x:As} {i:Ai} {ps:Ab As},tab[j]? = Aa (x,i,ps)→Src K mg x (tp i) ps
 nb:∀ {x:As},Ck (bl.contains x)→mg x=none
 cl:∀ {x:As} {C:Af},clt.lookup x=Aa C→mg x=Aa (.ref C)∧En K (.ref C)=true
 rz:∀ {x:As} {C:Af},plt.lookup x=Aa C→∃ Ae,mg x=Aa (.ref C)∧m8 K C Ae=true
 ct:∃ C0,mg "FarError" = Aa (.ref C0)∧∀ c∈cs,IR K c (.ref C0)=Aa true
 cls:ClsK K exl
 gi:∀ {x:As} {v:Aj},cst.lookup x=Aa v→∃ t,mg x=Aa (.int v t)
section
variable {K:Ak}{mg:As→Am Ad}{cm:Ar}{tp:Ai→Fl}{tab:Ab (As × Ai × Ab As)}{bl:Ab As}{clt plt:Ab (As × Af)}{cs:Ab Ad}{exl:Ab Af}{cst:Ab (As × Aj)}{x:As}{i m:Ai}{ps:Ab As}{F:DF}{g:DS}
def dq (P:Bl)(w:Bz)(base:Bs)(k j:Ai)(T:TxS K mg tp tab bl clt plt cs exl cst)(hj:tab[j]? = Aa (x,i,ps))(h:Ck (fnB (lA (qJ (tp i))) ps (qJ (tp i))&&decide ((lA (qJ (tp i))).length=m)))(hF:F=qQ m g)
  (hb:∀ (f:Af) (cdv:Ad) (A:By) (outer:Ab Jv) (s:Ah) (H:Hp) (E:XK),RoomC cm k (A.deeper (Hd x (qJ (tp i)) s.heap.objs.size f cdv)) →
   QB (cxC cm P w K mg base (lA (qJ (tp i))) x (qJ (tp i)) f cdv A outer s H E) (xD (tp i)) g):DfS F P w K mg base cm (k+1) x ps.length:=by
 unfold Ck at h;simp only[Br,Ct] at h;obtain⟨h,rfl⟩:=h;exact⟨hF▸CJ (T.src j hj) (X7 h) rfl hb⟩
def dqP {P:Bl}{w:Bz}{base:Bs}(k j:Ai)(T:TxS K mg tp tab bl clt plt cs exl cst)(hj:tab[j]? = Aa (x,i,ps))(h:Ck (fnB (lA (qJ (tp i))) ps (qJ (tp i))&&decide ((lA (qJ (tp i))).length=m)))
  (hb:∀ (f:Af) (cdv:Ad) (A:By) (outer:Ab Jv) (s:Ah) (H:Hp) (E:XK),RoomC cm k (A.deeper (Hd x (qJ (tp i)) s.heap.objs.size f cdv)) →
   QB (cxC cm P w K mg base (lA (qJ (tp i))) x (qJ (tp i)) f cdv A outer s H E) (xD (tp i)) g):sT P w K mg base cm (k+1) x ps (qQ m g):=by
 unfold Ck at h;simp only[Br,Ct] at h;obtain⟨h,rfl⟩:=h;exact RJ (T.src j hj) (X7 h) rfl hb
end
def hv {a b:Prop}(f:a→b)(h:a):b:=f h
inductive SrcF (K:Ak)(x:As)(st:Fl)(ps:Ab As):Prop
 |mk {f:Af} {oc:Ad} {od an:Am Af} {osl:Ay (Am Ad)} {kV doc pm cdv ct:Ad} (a:Dt K Cn x=Aa (Aa (.ref f)))
  (l:K.lookup f=Aa ⟨oc,od,.func (Ho x x (yX st) (xD st) (qJ st) .none kV doc pm an cdv ct),osl⟩) (c:Lg K cdv x=true) (k:En K (.ref f)=true):SrcF K x st ps
def o6 (K:Ak)(tp:Ai→Fl):Ab (As × Ai × Ab As)→Prop
 |[]=>Mv
 |(x,i,ps)::t=>SrcF K x (tp i) ps∧o6 K tp t
def BdF (tp:Ai→Fl):Ab (As × Ai × Ab As)→Prop
 |[]=>Mv
 |(x,i,ps)::t=>(∀ (kV doc pm:Ad) (an:Am Af) (cdv ct:Ad) (us:Ab Ad),us.length=ps.length→Wl (Ho x x (yX (tp i)) (xD (tp i)) (qJ (tp i)) .none kV doc pm an cdv ct) ⟨us,[]⟩=pure (ps.zip us))∧BdF tp t
def o0 (K:Ak):Ab (As × Af)→Prop
 |[]=>Mv
 |(x,C)::t=>Dt K Cn x=Aa (Aa (.ref C))∧o0 K t
def o2 (K:Ak):Ab (As × Aj)→Prop
 |[]=>Mv
 |(x,v)::t=>(∃ k,Dt K Cn x=Aa (Aa (.int v k)))∧o2 K t
def CQ:Am (Am Ad)→Ar
 |some none=>true
 |_=>false
section
variable {K:Ak}{h:Bs}{mg:As→Am Ad}{tp:Ai→Fl}
def iV (X:K.In h)(G:h.Ns Cn mg):∀ (tab:Ab (As × Ai × Ab As)),o6 K tp tab→BdF tp tab→∀ (j:Ai) {x:As} {i:Ai} {ps:Ab As},tab[j]? = Aa (x,i,ps)→Src K mg x (tp i) ps
 |[],_,_,_,_,_,_,e=>by cases e
 |(x,i,ps)::t,H,B,0,_,_,_,e=>by
  cases e;obtain⟨a,l,c,k⟩:=H.1;exact SO X G a l c k B.1
 |(x,i,ps)::t,H,B,j+1,_,_,_,e=>iV X G t H.2 B.2 j e
def yO {β:Type}{p:As→β→Prop}{x:As}{C:β}:∀ {l:Ab (As × β)},(∀ y∈l,p y.1 y.2)→l.lookup x=Aa C→p x C
 |[],_,e=>by cases e
 |(y,b)::t,H,e=>by
  rw[IU] at e;cases q:x == y with
  |true =>
   rw[q] at e;cases e;rw[eq_of_beq q];exact H (y,_) (.head _)
  |false =>
   rw[q] at e;exact yO (λz hz=>H z (.tail _ hz)) e
def bT (X:K.In h)(G:h.Ns Cn mg):∀ {l:Ab (As × Af)},o0 K l→∀ y∈l,mg y.1=Aa (.ref y.2)
 |(x,C)::t,H,y,hy=>by
  rcases Aw.mp hy with rfl|hy
  ·exact Tk X G H.1
  ·exact bT X G H.2 y hy
def cX (X:K.In h)(G:h.Ns Cn mg):∀ {l:Ab (As × Aj)},o2 K l→∀ y∈l,∃ k,mg y.1=Aa (.int y.2 k)
 |(x,C)::t,H,y,hy=>by
  rcases Aw.mp hy with rfl|hy
  ·obtain⟨k,e⟩:=H.1
   exact⟨k,Tk X G e⟩
  ·exact cX X G H.2 y hy
def HA {tab:Ab (As × Ai × Ab As)}{bl:Ab As}{clt plt:Ab (As × Af)}{cs:Ab Ad}{exl:Ab Af}{cst:Ab (As × Aj)}{far:Af}(B:BdF tp tab)(hp:∀ y∈plt,y∈clt)(hf:clt.lookup ("FarError" : As)=Aa far)(X:K.In h)(G:h.Ns Cn mg)
  (s:o6 K tp tab) (z:(bl.all λx=>CQ (Dt K Cn x))=true) (q:o0 K clt) (g:o2 K cst) (e1:exl.all (rB K)=true) (e2:YY K=true) (e3:TB K exl=true) (e4:CI K cs far=true) (e5:CG K (plt.map (·.2)) far=true) (e6:CH K (clt.map (·.2))=true):TxS K mg tp tab bl clt plt cs exl cst where
 src:=iV X G tab s B
 nb:=λ{x} hx=>by
  have e:=Az.mp z x (by simpa using Ff.mp hx)
  refine PySem.W.mg_none_of X G ?_
  revert e
  cases Dt K Cn x with
  |none=>intro e;cases e
  |some y=>cases y with
   |none=>intro _;rfl
   |some y=>intro e;cases e
 cl:=λh=>⟨yO (p:=λx C=>mg x=Aa (.ref C)) (bT X G q) h,yO (p:=λ_ C=>En K (.ref C)=true) (λy hy=>Az.mp e6 y.2 (Ic hy)) h⟩
 rz:=λh=>⟨far,yO (p:=λx C=>mg x=Aa (.ref C)) (λy hy=>bT X G q y (hp y hy)) h,yO (p:=λ_ C=>m8 K C far=true) (λy hy=>Az.mp e5 y.2 (Ic hy)) h⟩
 ct:=⟨far,yO (p:=λx C=>mg x=Aa (.ref C)) (bT X G q) hf,λv hv=>Cu (Az.mp e4 v hv)⟩
 cls:=TC e1 e2 e3
 gi:=λh=>yO (p:=λx v=>∃ k,mg x=Aa (.int v k)) (cX X G g) h
end
def HD {q:Bl}{loose:Ab As}{XP:(As→Am Ad)→Bs→Prop}{r:PySem.W.RowW}{d:DefRec}{kwd:Ab (As × Bw)}{run:Ad→Ab Ad→Kb Ad}{K:Xl→Ak}{as:Ab Af}{n t:Ai}(e:∀ P,as=(K P).map (·.1))
  (h:Sx q loose XP (λw h=>(K w.params).In h) r d kwd run):PySem.W.WalkX q loose XP (PySem.W.X.obsZ as) (PySem.W.X.valZ K n t) r d kwd run:=
 λw s₀ s₁ mg mb G Y a o pm cd doc dV kV h1 h2 h3 h4 h5 h6 args vals as' L=>h w s₀ s₁ mg mb G (PySem.W.InK.keeps w _ _ (PySem.W.X.z_facts e Y).2.1 L.keeps) a o pm cd doc dV kV h1 h2 h3 h4 h5 h6 args vals as'
def Iti (a:Af)(o:Cs)(vs:Ab (Key × V)):It:=
 ⟨λi H=>(∃ u,H a=Aa (.frz o u))∧i<vs.length,λi H v H'=>∃ T q,v=.ref T∧H T=none∧H'=upd H T (.tup [kV q.1,q.2])∧vs[i]? = Aa q,λi H=>(∃ u,H a=Aa (.frz o u))∧vs.length≤i⟩
def QU {P:Bl}{w:Bz}{K:Ak}{elts:Ab Bw}{x1:Ai}{tpos:Fh}{a it:Af}{o:Cs}{us:Ab (Key × Ad)}{ep:Ai}(kv:KV vs us)(at':∀ h:Bs,h.get? a=Aa o→h.DictAt (x5 P w) a us ep) :
  Turn P w K (.Tuple elts x1 tpos) (Iti a o vs) [it] it (λi h=>∃ ok ov,IsItemIter h it a i us.length ep ok ov) where
 mem:=by simp
 obj:=λi h st b hb=>by
  have e:b=it:=by simpa using hb
  subst e;obtain⟨ok,ov,e⟩:=st;exact⟨_,e,λv z=>by cases z⟩
 keep:=λi h h' st k=>by
  obtain⟨ok,ov,e⟩:=st;exact⟨ok,ov,k it (by simp) _ e⟩
 item:=by
  intro X hP hw hK hc i pins s σ H E I hf st hg;subst hP hw hK;obtain⟨⟨u0,hu⟩,hlt⟩:=hg;obtain⟨ok,ov,st⟩:=st;have ho:s.heap.get? a=Aa o:=(I.hok a _ hu).1;obtain⟨u,e1,e2⟩:=XJ kv (Ap hlt);refine wpAny_pyNext_items_item st (at' _ ho) e1 λkey h' hk a1 a2 a3 a4=>?_;refine⟨_,rfl,wpAny_letOwnedTupleGo_items (s:={ s with heap:=h' }) a1 λh2 b1 b2=>?_⟩
  have up:∀ c o,c≠it→h'.get? c=Aa o→h2.get? c=Aa o:=λc o n q=>(b2.2 c n).trans q;have el:it<s.heap.objs.size:=Ax st;have T2:=up _ _ (Hf el) a2;refine⟨.ref s.heap.objs.size,upd H s.heap.objs.size (.tup [kV (vs[i]).1,(vs[i]).2]),?_,rfl,⟨_,vs[i],rfl,I.hok.fresh (Av _),rfl,Ap hlt⟩,⟨_,_,b1⟩,λc hc=>?_⟩
  ·have:=Inv.turnLay (s:=s) (fp:=[it]) (its:=[key,u]) (h':=h2) (xs:=[kV (vs[i]).1,(vs[i]).2]) I hf (λc o hc q=>by
    have hc:c≠it:=by simpa using hc
    exact up c o hc (a4 c o hc q)) (λc hc=>by
    have:c=it:=by simpa using hc
    subst this;exact⟨_,b1⟩) (Av _) (.cons (RZ hk) (.cons e2 .nil)) ⟨_,T2,rfl,_,rfl⟩ (by show 2≤sizeLine;decide)
   exact this
  ·have hn:=(hf c hc).1
   rw[qR ?_]
   ·exact hn
   ·rintro rfl
    have:s.heap.objs.size=it:=by simpa using hc
    rw[this] at el;exact absurd el (Er _)
 done:=by
  intro X hP hw hK hc i pins s σ H E I hf st hg;subst hP hw hK;obtain⟨⟨u0,hu⟩,hle⟩:=hg;obtain⟨ok,ov,st⟩:=st;have ho:s.heap.get? a=Aa o:=(I.hok a _ hu).1;obtain⟨f0,f1,f2,f3,f4,f5⟩:=hf it (by simp)
  have hl:=kv.length;exact wpAny_pyNext_items_end (I.ok.hd hc) st (at' _ ho) (by simp;omega) λh' eb=>⟨rfl,I.turned (t':=s.toks) (λb o hb e=>eb b o hb e) f0 f1 f3 f4 f5⟩
 self:=λ_ _ _ _ _ st h=>by
  obtain⟨ok,ov,st⟩:=st;exact PySem.W.kcp_self st h
def nW (kvs:Ab (Key × D)):Ab D:=kvs.map λp=>D.tup [kD p.1,p.2]
def mQ (f:DE):DI:=λenv S=>(f env S).bind λd S1=>match d with
 |.loc n=>match S1[n]? with
  |some (.dct kvs)=>.ok (nW kvs) (S1.set n .dead)
  |_=>.bad
 |_=>.bad
def aU {K:Ak}{P:Hp}:∀ {kvs:Ab (Key × D)} {vs:Ab (Key × V)},KVs K P α kvs vs→∀ {i:Ai} {q:Key × D},kvs[i]? = Aa q→∃ v,vs[i]? = Aa (q.1,v)∧Rep K P α q.2 v
 |_,_,.nil,i,q,h=>by simp at h
 |_,_,.cons (a:=x) (b:=y) z t,i,q,h=>by
  cases i with
  |zero =>
   simp at h;subst h;exact⟨y.2,by simp;exact Yn z.1.symm rfl,z.2⟩
  |succ i =>
   obtain⟨v,e1,e2⟩:=aU t (i:=i) (q:=q) (by simpa using h)
   exact⟨v,by simpa using e1,e2⟩
def XE {K:Ak}{P:Hp}{a:Af}{o:Cs}{u:HO}{kvs:Ab (Key × D)}(q:P a=Aa (.frz o u))(t:KVs K P α kvs vs)(hl:kvs.length=vs.length):ItD K (Iti a o vs) P α (nW kvs) where
 go:=λi H P1 α1 S hi r e _=>⟨⟨u,r.sub _ _ (e _ _ q)⟩,by unfold nW at hi;rw[Aq] at hi;omega⟩
 yld:=λi H x H' P1 α1 S hi r e e2 y=>by
  obtain⟨T,p,rfl,hT,rfl,hp⟩:=y;unfold nW at hi;rw[Aq] at hi;obtain⟨v,h1,h2⟩:=aU t (Ap hi);rw[hp] at h1;cases h1;obtain⟨r1,s1⟩:=r.pure (o:=.tup [kV (kvs[i]).1,v]) hT;refine⟨_,.tup [kD (kvs[i]).1,(kvs[i]).2],?_,r1,s1,?_⟩
  ·unfold nW;rw[Ds,Ap hi];rfl
  ·exact fL (.of zE) (.cons (NR _) (.cons (Rep.mono (e.trans s1) e2 _ _ h2) .nil))
 stop:=λi H P1 α1 S hi r e _=>⟨⟨u,r.sub _ _ (e _ _ q)⟩,by unfold nW at hi;rw[Aq] at hi;omega⟩
section
variable {X:Cx}{o:Bw}{fo:DE}{apos cpos:Fh}{elts:Ab Bw}{x1:Ai}{tpos:Fh}
set_option tactic.hygienic true in
def VC (ho:PE X o (tD X fo))(hbase:OP o "items" X.env (eval o X.env)=eval o X.env:=by rfl)(hline:(apos.endLine == cpos.line)=true:=by rfl):PI X (.Tuple elts x1 tpos) (.Call (.Attribute o "items" apos) [] [] cpos) (tDI X (mQ fo)):=by
 intro pins s σ H R I h;obtain⟨P,α,env,S,r,re,af⟩:=h;refine wpAny_Call_method0_late hbase hline (thn (xF ho I r re af) λvv s1 ⟨v,H1,P1,α1,d,S1,G1,af1⟩=>?_);cases d with
 |loc n =>
  simp only at af1
  split at af1
  ·rename_i kvs hS
   have rp:=G1.rep;have I1:=G1.inv;have r1:=G1.rel;have ht:tyD (.loc n) S1=Aa "dict":=Y9 hS;obtain⟨h1,h2⟩:=Y7 I1 G1.val (Y8 r1 rp ht (by simp))
   simp only[Rep] at rp;obtain⟨a,rfl,ha⟩:=rp;cases (show vv=Dc a from G1.val)
   obtain⟨vs,z,t⟩:=r1.at' n a _ ha hS;obtain⟨hz,hd,us,rel,dd⟩:=oJ I1.hok z;refine⟨"dict","dict.items",Lc,Qc,PySem.F.type_dict_items,h1,h2,Qo rfl (PySem.evalArgs_none ?_)⟩;refine call_meetsIn Qc dd.typeIs PySem.F.entry_dict_items (PySem.F.args_dict_items_1 _) (meets_dict_items (x5 X.prog X.w) a hd) ⟨⟨us,dd⟩,?_⟩;obtain⟨ep,oa,es,hoa,rest⟩:=dd.dictAt;have at':∀ h:Bs,h.get? a=Aa oa→h.DictAt (x5 X.prog X.w) a us ep:=λh e=>⟨oa,es,e,rest⟩;obtain⟨r2,e2⟩:=r1.still (o:=.frz oa (.dK vs)) ha hS (by intro q;cases q)
   have I2:Inv X pins σ (upd H1 a (.frz oa (.dK vs))) { s1 with heap:=s1.heap,toks:=s1.toks }:=I1.write (x:=a) (e:=a) (by rw[z];exact Ix) (.inl rfl) (λb q hb e=>e) ⟨oa,hoa⟩ ⟨hoa,hz,hd,us,rel,dd⟩
   have I3:=I2.kept (t':=s1.toks) (h':=s1.heap.push { cls:=.type "dict_items",data:=.fields #[.ref a] }) λb u e=>Ag _ e;refine wpAny_pyIter_items (s:={ s1 with heap:=s1.heap.push { cls:=.type "dict_items",data:=.fields #[.ref a] } }) (knd:=x5 X.prog X.w) (d:=a) (kvs:=us) (ep:=ep) ⟨_,Bb _ rfl,rfl,rfl⟩ (at' _ (Ag _ hoa)) ?_
   have I4:=I3.kept (t':=s1.toks) (h':=(s1.heap.push { cls:=.type "dict_items",data:=.fields #[.ref a] }).push { cls:=.type "dict_itemiterator",data:=.fields #[.none,.bool false,.ref a,.int 0 0,.int us.length 0,.int ep 0,.none,.none] }) λb u e=>Ag _ e;refine⟨_,[_],_,_,_,rfl,I4,QU rel at',⟨_,_,Bb _ rfl⟩,λb hb=>?_,af1 _ _ _ α1 r2 (G1.same.trans e2) G1.pre (XE (u:=.dK vs) zE (KVs.mono e2 (Bn _) t) (by have:=aY t;have:=this.length;simpa using this))⟩
   have e:b=(s1.heap.push { cls:=.type "dict_items",data:=.fields #[.ref a] }).objs.size:=by simpa using hb
   subst e;exact I3.fpOk (Av _) (I3.hok.fresh (Av _))
  ·exact An af1
 |_=>exact An af1
def UV (ho:QE X o fo)(hbase:OP o "items" X.env (eval o X.env)=eval o X.env:=by rfl)(hline:(apos.endLine == cpos.line)=true:=by rfl):QI X (.Tuple elts x1 tpos) (.Call (.Attribute o "items" apos) [] [] cpos) (mQ fo):=⟨VC ho.1 hbase hline⟩
end
section
variable {prog:Bl}{w:Bz}{A:By}{R:Tn→Ah→Prop}{I:Af}{fp wr:Ab Af}{n:Ai}{P:Ai→Ad→Prop}{St:Ai→Bs→Prop}{bt:Ai→Ai→Ar}{S:Af}{d:Ad}
def sM:(toString "max" ++ toString ".loop" : Ej) = "max.loop":=by decide
def UF (W:Walks prog w A.in1 I fp wr n P St)(hcmp:CmpOf prog w A.in1 .Gt P bt)(hf:S ∉ fp) :
  ∀ (k j:Ai) (s:Ah) (u:Ad) (c:Ai),j+1+k=n→St (j+1) s.heap→P (Ny bt j) u→s.heap.get? S=Aa { cls:=.type "list",dict:=none,data:=.seq #[u,u] c,slots:=#[] } →
  (∀ v h' tk,P (Ny bt (n-1)) v→(∀ b o,b ∉ wr→b≠S→s.heap.get? b=Aa o→h'.get? b=Aa o)→R (.ok (.ret v)) { s with heap:=h',toks:=tk }) →
  Jd (Au prog w) A (.builtin "max.loop" ⟨[.ref I,.none,.ref S],[("default",d)]⟩) R s:=by
 have hw:S ∉ wr:=λz=>hf (W.sub _ z);intro k
 induction k with
 |zero =>
  intro j s u c hk st hu hS hR;have hn:j+1=n:=by omega
  subst hn;refine Gf Ly ?_;rw[Gi Gk _];refine Ac (Fm hS rfl ?_);refine Ac (Lj (W.done s _ _ st λh' tk q=>?_));refine Ac ?_;exact Km (q S _ hw hS) rfl (Ac (Jm (Al (hR u _ tk hu λb o z1 z2 e=>(Cc _ _ (Gx z2)).trans (q b o z1 e)))))
 |succ k ih =>
  intro j s u c hk st hu hS hR;refine Gf Ly ?_;rw[Gi Gk _];refine Ac (Fm hS rfl ?_);refine Ac (Lj (W.item (j+1) s _ _ om st λv h' tk hv st' q=>?_));have hS':=q S _ hw hS;refine Ac (Al ?_);refine Ac (Lj (Du (Ac (hcmp (j+1) (Ny bt j) v u _ _ _ hv hu ?_))));refine Ac (Du (OH ?_));refine Ac (Jm (Al ?_));cases hb:bt (j+1) (Ny bt j) with
  |true =>
   rw[Bi rfl];refine Ac ?_;refine Km hS' rfl (Ac (Jm ?_));rw[sM];refine Al ⟨IM Gk _,ih (j+1) _ v _ om (W.frame _ _ _ st' λb z o e=>(Cc _ _ λy:S=b=>hf (y▸z)).trans e) ?_ (Et _ hS' rfl) λv' h2 tk2 p2 q2=>hR v' h2 tk2 p2 λb o z1 z2 e=>q2 b o z1 z2 ((Cc _ _ (Gx z2)).trans (q b o z1 e))⟩;rw[Ny,Bi hb];exact hv
  |false =>
   rw[Bf (by simp)]
   refine Ac (Jm ?_);rw[sM];refine Al ⟨IM Gk _,ih (j+1) _ u c om st' ?_ hS' λv' h2 tk2 p2 q2=>hR v' h2 tk2 p2 λb o z1 z2 e=>q2 b o z1 z2 (q b o z1 e)⟩;rw[Ny,Bf (by rw[hb];simp)]
   exact hu
def XZ (W:Walks prog w A.in1 I fp wr n P St)(hcmp:CmpOf prog w A.in1 .Gt P bt)(hf:S ∉ fp){s:Ah}{c:Ai}(st:St 0 s.heap)(hS:s.heap.get? S=Aa { cls:=.type "list",dict:=none,data:=.seq #[] c,slots:=#[] })
  (hR:∀ v h' tk,(n=0∧v=d∨0<n∧P (Ny bt (n-1)) v)→(∀ b o,b ∉ wr→b≠S→s.heap.get? b=Aa o→h'.get? b=Aa o)→R (.ok (.ret v)) { s with heap:=h',toks:=tk }) :
  Jd (Au prog w) A (.builtin "max.loop" ⟨[.ref I,.none,.ref S],[("default",d)]⟩) R s:=by
 have hw:S ∉ wr:=λz=>hf (W.sub _ z);refine Gf Ly ?_;rw[Gi Gk _];refine Ac (Fm hS rfl ?_);by_cases h0:n=0
 ·subst h0
  refine Ac (Lj (W.done s _ _ st λh' tk q=>?_));exact Ac (Hc (Al (hR d h' tk (.inl ⟨rfl,rfl⟩) λb o z1 _ e=>q b o z1 e)))
 ·refine Ac (Lj (W.item 0 s _ _ om st λv h' tk hv st' q=>?_))
  have hS':=q S _ hw hS;refine Ac (Al ?_);refine Ac ?_;refine Km hS' rfl ?_;rw[sM];refine Al ⟨IM Gk _,UF W hcmp hf (n-1) 0 _ v _ om (W.frame _ _ _ st' λb z o e=>(Cc _ _ λy:S=b=>hf (y▸z)).trans e) hv (Et _ hS' rfl) λv' h2 tk2 p2 q2=>hR v' h2 tk2 (.inr ⟨by omega,p2⟩) λb o z1 z2 e=>q2 b o z1 z2 ((Cc _ _ (Gx z2)).trans (q b o z1 e))⟩
def UD (a v:Ad):Rj "max" ⟨[a],[(Fv "default",v)]⟩:=by unfold Rj;kernel_rfl
def UE {E:Ad→Ah→Prop}{s:Ah}{l:Af}{xs:Ay (Aj × Pu)}{Q:Ad→Ah→Prop}(hh:A.handled=none)(hl:s.heap.IsList l (OB xs))
  (h:∀ v h' tk,(xs.size=0∧v=d∨0<xs.size∧(OB xs)[Ny (λi j=>decide (Rr xs i>Rr xs j)) (xs.size-1)]? = Aa v)→(∀ b o,s.heap.get? b=Aa o→h'.get? b=Aa o)→Q v { s with heap:=h',toks:=tk }) :
  Ao (Au prog w) A (call (.builtin "max") [.ref l] [(Fv "default",d)]) Q E s:=by
 refine kmk_tree PySem.F.kind_max PySem.F.plain_max PySem.F.entry_max (UD _ _) ?_;refine Ac (Mk (show Xj "max" ["key","default"] 0 ⟨[],[(Fv "default",d)]⟩=pure [none,Aa d] from rfl) ?_)
 refine Ac (Al ?_);refine Ac (iter_intList hl λs₂ e st hfp hlI=>?_);subst e;refine Ac (Dn ?_);have W:=Ta (prog:=prog) (w:=w) (A:=A.in1) hh s.heap.objs.size l hlI (OB xs);have hz:(OB xs).size=xs.size:=by simp[OB]
 rw[sM];refine Al ⟨IM Gk _,XZ W (CmpOf.ints_gt (Rr xs) (λ_ _=>intItems_at)) (λz=>Er _ (hfp _ z)) (W.frame _ _ _ st λb _ o e=>Ag _ e) (Bb _ rfl) λv h' tk hv q=>?_⟩;rw[hz] at hv;exact h v h' tk hv (old_kept λb o z e=>q b o z (Cj (Ax e)) (Ag _ e))
end
def mxD (ds:Ab D)(b:D)(S:Sto):Res D:=match ds with
 |[.lst xs]=>match xH xs with
  |some [] => .ok b S
  |some (i::ns)=>.ok (.int (ns.foldl max i)) S
  |none=>.bad
 |_=>.bad
def mR (fA:DA)(fD:DE):DE:=λenv S=>(fA env S).bind λds S1=>(fD env S1).bind λb S2=>mxD ds b S2
section
variable {X:Cx}{e e2:Bw}{fA:DA}{fD:DE}{p pos kp:Fh}
set_option tactic.hygienic true in
def GV (hc:X.calm=true)(hg:Gl X "max")(hm:X.mg "max" = none)(ha:PA X [e] (tDA X fA))(hd:PE X e2 (tD X fD))(he:Bd [e] X.env=(false,eval e X.env)::Bd [] X.env:=by rfl):PE X (.Call (.Name "max" p) [e] [⟨Aa "default",e2,kp⟩] pos) (tD X (mR fA fD)):=by
 intro pins s σ H Q I h;obtain⟨P,α,env,S,r,re,af⟩:=h;refine Hu (u7 I hg hm (u:=.builtin "max") (by decide +kernel) ?_ (by decide) (by decide))
 refine callWith_kw (thn (wV ha I r re af pos) λus s1 ⟨vs,H1,P1,α1,ds,S1,I1,rv,r1,re1,rp,e1,e2',af1⟩=>kws_cons (thn (xF hd I1 r1 re1 (zA.base e1 e2' af1)) λu s2 ⟨v,H2,P2,α2,b,S2,G,af2⟩=>kws_nil ?_)) (by rw[he];rfl) (by rw[he];rfl)
 show Ao _ _ (call (.builtin "max") us [(Fv "default",u)]) _ _ s2;unfold mxD at af2
 split at af2
 ·rename_i xs _
  cases hi:xH xs with
  |none=>rw[hi] at af2;exact An af2
  |some ns =>
   rw[hi] at af2;have:=yN hi;subst this;obtain⟨v',u',rfl,rfl,p',q⟩:=yL rp rv;obtain⟨a,ws,its,n,rfl,_,t,rvi,ee,l,_⟩:=vC G.inv G.rel (Rep.mono G.same G.pre _ _ p');cases (show u'=Dc a from q)
   cases wQ t;obtain⟨ps,rfl,hps⟩:=oQ (show Ik its ns by simpa using jH rvi)
   have hL:s2.heap.IsList a (OB ps.toArray):=⟨_,ee,rfl,n,by simp[OB]⟩
   have hz:ps.toArray.size=ps.length:=by simp
   refine UE (G.inv.ok.hd hc) hL λw h' tk hw hk=>?_;cases ns with
   |nil =>
    have h0:ps.length=0:=by
     have:=congrArg Jl hps;simpa using this.symm
    rcases hw with⟨_,rfl⟩|⟨z,_⟩
    ·exact⟨v,H2,G.inv.kept (t':=tk) hk,G.val,af2 v H2 P2 α2 G.rel G.same G.pre G.rep⟩
    ·omega
   |cons i ns =>
    have h0:0<ps.length:=by
     have:=congrArg Jl hps;simp at this;omega
    rcases hw with⟨z,_⟩|⟨_,hv⟩
    ·omega
    ·obtain⟨tk',rfl⟩:=intItems_at hv
     obtain⟨b1,b2⟩:=argBest_gt (Rr ps.toArray) (ps.toArray.size-1);generalize Ny (λi j=>decide (Rr ps.toArray i>Rr ps.toArray j)) (ps.toArray.size-1)=m at b1 b2 hv;have hm':m<ps.length:=by omega
     obtain⟨f1,f2⟩:=rT ns i;have hM:Rr ps.toArray m=ns.foldl max i:=by
      have h1:Rr ps.toArray m∈i::ns:=by rw[iA ps m hm',hps];exact Mm _
      refine Int.le_antisymm (f2 _ h1) ?_;rw[hps] at f1;obtain⟨j,hj,ej⟩:=Cg.mp f1;have hj':j<ps.length:=by simpa using hj
      have:=b2 j om;rw[iA ps j hj',ej] at this;exact this
     exact⟨.int _,H2,G.inv.kept (t':=tk) hk,⟨tk',rfl⟩,af2 (.int _) H2 P2 α2 G.rel G.same G.pre (by simp only[Rep];rw[hM])⟩
 ·exact An af2
def FJ (hc:X.calm=true)(hg:Gl X "max")(hm:X.mg "max" = none)(ha:QA X [e] fA)(hd:QE X e2 fD)(he:Bd [e] X.env=(false,eval e X.env)::Bd [] X.env:=by rfl):QE X (.Call (.Name "max" p) [e] [⟨Aa "default",e2,kp⟩] pos) (mR fA fD):=⟨GV hc hg hm ha.1 hd.1 he⟩
end
end _D
namespace _D
open PySem
variable {ds as:Ab D}{i:Ai}{f f1 f2:DE}{F:DF}{S1 S' S2:Sto}{env:qD}{Q:qD→Sto→Prop}
def Nx (o:Out)(Q:qD→Sto→Prop):Prop:=∃ env S,o=.nx env S∧Q env S
def Rt (o:Out)(Q:D→Sto→Prop):Prop:=∃ d S,o=.rt d S∧Q d S
def Ok {β:Type}(r:Res β)(Q:β→Sto→Prop):Prop:=∃ d S,r=.ok d S∧Q d S
def xG {o:Out}{S:Sto}(h:o=.nx env S)(q:Q env S):Nx o Q:=⟨env,S,h,q⟩
def KZ {o:Out}{Q:D→Sto→Prop}{d:D}{S:Sto}(h:o=.rt d S)(q:Q d S):Rt o Q:=⟨d,S,h,q⟩
def zX {β:Type}{r:Res β}{Q:β→Sto→Prop}{d:β}{S:Sto}(h:r=.ok d S)(q:Q d S):Ok r Q:=⟨d,S,h,q⟩
def wI {f g:DS}{S:Sto}(h:Nx (f env S) λenv1 S1=>Nx (g env1 S1) Q):Nx (qP f g env S) Q:=by
 obtain⟨env1,S1,e,env2,S2,e2,q⟩:=h;exact⟨env2,S2,by unfold qP;rw[e];exact e2,q⟩
def qX {f g:DS}{S:Sto}{Q:D→Sto→Prop}(h:Nx (f env S) λenv1 S1=>Rt (g env1 S1) Q):Rt (qP f g env S) Q:=by
 obtain⟨env1,S1,e,env2,S2,e2,q⟩:=h;exact⟨env2,S2,by unfold qP;rw[e];exact e2,q⟩
def xT {t:DT}{f g:DS}{S:Sto}{b:Ar}(h:t env S=.ok b S1)(k:Nx ((if b then f else g) env S1) Q):Nx (sIf t f g env S) Q:=by
 obtain⟨env2,S2,e2,q⟩:=k;refine⟨env2,S2,?_,q⟩;unfold sIf;rw[h];cases b <;> exact e2
def k7 {S:Sto}(h:Ok (f env S) λd S1=>Q (env.set i (Aa d)) S1):Nx (zB f (gNm i) env S) Q:=by
 obtain⟨d,S1,e,q⟩:=h;exact⟨_,S1,by unfold zB gNm;rw[e];rfl,q⟩
def lE {S:Sto}(h:Ok (f env S) λ_ S1=>Q env S1):Nx (vI f env S) Q:=by
 obtain⟨d,S1,e,q⟩:=h;exact⟨_,S1,by unfold vI;rw[e];rfl,q⟩
def xE {S:Sto}{Q:D→Sto→Prop}(h:Ok (f env S) Q):Rt (qU f env S) Q:=by
 obtain⟨d,S1,e,q⟩:=h;exact⟨_,S1,by unfold qU;rw[e];rfl,q⟩
def j9 {fi:DI}{g:DG}{f:DS}{S:Sto}(h:fi env S=.ok ds S1)(k:Nx (uY g f ds env S1) Q):Nx (uC fi g f env S) Q:=by
 obtain⟨env2,S2,e2,q⟩:=k;exact⟨env2,S2,by unfold uC;rw[h];exact e2,q⟩
def vT {g:DG}{f:DS}(I:Ab D→qD→Sto→Prop)(turn:∀ d ds env S,I (d::ds) env S→∃ env1 S1,g d env S=.ok env1 S1∧Nx (f env1 S1) (I ds))(last:∀ env S,I [] env S→Q env S) :
  ∀ {ds:Ab D} {env:qD} {S:Sto},I ds env S→Nx (uY g f ds env S) Q
 |[],env,S,h=>⟨env,S,rfl,last env S h⟩
 |d::ds,env,S,h=>by
  obtain⟨env1,S1,e1,env2,S2,e2,h2⟩:=turn d ds env S h;obtain⟨env3,S3,e3,q⟩:=vT I turn last (ds:=ds) h2;refine⟨env3,S3,?_,q⟩;unfold uY;simp only[e1,Res.toS,e2];exact e3
def nR {o:Am (Ai × MO)}{g:DG}{t:DT}{k:DK}(out:D→Ab D)(C:qD→Sto→Prop)(hC:∀ env S,C env S→stn o S) :
  ∀ (items:Ab D) (env:qD) (S:Sto) (acc:Ab D),C env S→acc.length+(items.flatMap out).length≤lim →
  (∀ d∈items,∀ env S acc,C env S→acc.length+(out d).length≤lim→∃ env1 S1 b S2,g d env S=.ok env1 S1∧t env1 S1=.ok b S2∧((b=false∧out d=[]∧C env1 S2)∨(b=true∧∃ env3 S3,k env1 S2 acc=.ok (env3,acc++out d) S3∧C env3 S3))) →
  ∃ env' S',goL o g t k items env S acc=.ok (env',acc++items.flatMap out) S'∧C env' S'
 |[],env,S,acc,h,hl,_=>⟨env,S,by simp[goL,yD.mpr (hC _ _ h)],h⟩
 |d::ds,env,S,acc,h,hl,step=>by
  rw[Hz,Cb] at hl;obtain⟨env1,S1,b,S2,e1,e2,r⟩:=step d (Df ..) env S acc h om;have hst:=yD.mpr (hC _ _ h);rcases r with⟨rfl,h0,h2⟩|⟨rfl,env3,S3,e3,h3⟩
  ·obtain⟨env',S',e,q⟩:=nR out C hC ds env1 S2 acc h2 om λd hd=>step d (Bq _ hd)
   refine⟨env',S',?_,q⟩;simp only[goL,hst,Dk,e1,e2,Res.bind,Bt,Eh,Hz,h0,Jh];exact e
  ·obtain⟨env',S',e,q⟩:=nR out C hC ds env3 S3 (acc++out d) h3 (by rw[Cb];omega) λd hd=>step d (Bq _ hd)
   refine⟨env',S',?_,q⟩;simp only[goL,hst,Dk,e1,e2,Res.bind,e3,Hz];rw[e,Cd]
def gY {fe:DE}{S:Sto}{acc:Ab D}{x:D}(h:fe env S=.ok x S1)(hl:acc.length<lim):qY fe env S acc=.ok (env,acc++[x]) S1:=by
 unfold qY;rw[h];simp[Res.bind,hl]
def wE {cap:Ab (Am Ai)}{fi:DI2}{g:DG}{t:DT}{k:DK}{env':qD}{S:Sto}{o:Am (Ai × MO)}{items:Ab D}(h:fi env S=.ok (o,items) S1)(e:goL o g t k items (x0 cap env) S1 [] = .ok (env',ds) S'):qS false cap fi g t k env S=.ok (.lst ds) S':=by
 unfold qS;rw[h];simp only[Res.bind,e,mkM];rfl
def ZR {cap:Ab (Am Ai)}{fi:DI2}{g:DG}{t:DT}{k:DK}{env':qD}{S:Sto}{o:Am (Ai × MO)}{items:Ab D}(h:fi env S=.ok (o,items) S1)(e:goL o g t k items (x0 cap env) S1 [] = .ok (env',ds) S'):qS true cap fi g t k env S=.ok (.loc S'.length) (S'++[.lst ds]):=by
 unfold qS;rw[h];simp only[Res.bind,e,mkM];rfl
def jO {n:Ai}{S:Sto}{d:D}(hs:uF n ds=env)(h:f env S=.ok d S'):qQ n (qU f) ds S=.ok d S':=by
 subst hs;unfold qQ qU;rw[h];rfl
def yH {n:Ai}{g:DS}{S:Sto}{d:D}(hs:uF n ds=env)(h:g env S=.rt d S'):qQ n g ds S=.ok d S':=by
 subst hs;unfold qQ;rw[h];rfl
def B5 {S:Sto}{m:MO}(h:S[i]? = Aa m)(e:S<+:S'):S'[i]? = Aa m:=by
 obtain⟨r,rfl⟩:=e;rw[Bk (Be.mp h).1];exact h
def bZ {α β:Type}(sel:α→Ar)(val:α→β)(l:Ab α) : (l.flatMap λd=>if sel d then [val d] else []) = (l.filter sel).map val:=by
 induction l with
 |nil=>rfl
 |cons d l ih =>
  rw[Hz,ih];cases h:sel d <;> simp[h]
section
variable {cap:Ab (Am Ai)}{fi:DI2}{g:DG}{t:DT}{fe:DE}{env:qD}{S S0:Sto}{o:Am (Ai × MO)}{items:Ab D}
def CO (hst:stn o S)(sel:D→Ar)(val:D→D)(C:qD→Prop)(h0:C env)(hl:items.length≤lim)
  (step:∀ d∈items,∀ env,C env→∃ env1,g d env S=.ok env1 S∧C env1∧t env1 S=.ok (sel d) S∧(sel d=true→fe env1 S=.ok (val d) S)) :
  ∃ env',goL o g t (qY fe) items env S [] = .ok (env',(items.filter sel).map val) S:=by
 have lf:(items.flatMap λd=>if sel d then [val d] else []).length≤lim:=by
  rw[bZ,Aq];exact Fg (Iw _ _) hl
 obtain⟨env',S',e,_,q⟩:=nR (o:=o) (g:=g) (t:=t) (k:=qY fe) (λd=>if sel d then [val d] else []) (λenv S'=>C env∧S'=S) (λ_ _ h=>h.2▸hst) items env S [] ⟨h0,rfl⟩ (by simpa using lf) (λd hd env S' acc hC hl=>by
  obtain⟨hc,rfl⟩:=hC;obtain⟨env1,e1,c1,e2,k⟩:=step d hd env hc;refine⟨env1,S',sel d,S',e1,e2,?_⟩;cases hs:sel d with
  |false=>exact .inl ⟨rfl,by simp,c1,rfl⟩
  |true =>
   refine .inr ⟨rfl,env1,S',?_,c1,rfl⟩;simp only[Dk];exact gY (k hs) (by simp only[hs,Dk,Me] at hl;omega))
 subst q;refine⟨env',?_⟩;rw[e,Jh,bZ]
def ZL (h:fi env S=.ok (o,items) S)(hst:stn o S)(sel:D→Ar)(val:D→D)(C:qD→Prop)(h0:C (x0 cap env))(hl:items.length≤lim)
  (step:∀ d∈items,∀ env,C env→∃ env1,g d env S=.ok env1 S∧C env1∧t env1 S=.ok (sel d) S∧(sel d=true→fe env1 S=.ok (val d) S)) :
  qS false cap fi g t (qY fe) env S=.ok (.lst ((items.filter sel).map val)) S:=by
 obtain⟨env',e⟩:=CO hst sel val C h0 hl step;exact wE h e
end
def goT {α:Type}{enc:α→D}{o:Am (Ai × MO)}{g:DG}{t:DT}{k:DK}(out:α→Ab D)(C:qD→Sto→Prop)(hC:∀ env S,C env S→stn o S) :
  ∀ (xs:Ab α) (env:qD) (S:Sto) (acc:Ab D),C env S→acc.length+(xs.flatMap out).length≤lim →
  (∀ x∈xs,∀ env S acc,C env S→acc.length+(out x).length≤lim→∃ env1 S1 b S2,g (enc x) env S=.ok env1 S1∧t env1 S1=.ok b S2∧((b=false∧out x=[]∧C env1 S2)∨(b=true∧∃ env3 S3,k env1 S2 acc=.ok (env3,acc++out x) S3∧C env3 S3))) →
  ∃ env' S',goL o g t k (xs.map enc) env S acc=.ok (env',acc++xs.flatMap out) S'∧C env' S'
 |[],env,S,acc,h,hl,_=>⟨env,S,by simp[goL,yD.mpr (hC _ _ h)],h⟩
 |x::xs,env,S,acc,h,hl,step=>by
  rw[Hz,Cb] at hl;obtain⟨env1,S1,b,S2,e1,e2,r⟩:=step x (Df ..) env S acc h om;have hst:=yD.mpr (hC _ _ h);rcases r with⟨rfl,h0,h2⟩|⟨rfl,env3,S3,e3,h3⟩
  ·obtain⟨env',S',e,q⟩:=goT out C hC xs env1 S2 acc h2 om λd hd=>step d (Bq _ hd)
   refine⟨env',S',?_,q⟩;simp only[Dy,goL,hst,Dk,e1,e2,Res.bind,Bt,Eh,Hz,h0,Jh];exact e
  ·obtain⟨env',S',e,q⟩:=goT out C hC xs env3 S3 (acc++out x) h3 (by rw[Cb];omega) λd hd=>step d (Bq _ hd)
   refine⟨env',S',?_,q⟩;simp only[Dy,goL,hst,Dk,e1,e2,Res.bind,e3,Hz];rw[e,Cd]
section
variable {α β:Type}{enc:α→D}{enc2:β→D}{cap:Ab (Am Ai)}{fi:DI2}{g:DG}{t:DT}{fe:DE}{env:qD}{S S0:Sto}{o:Am (Ai × MO)}{xs:Ab α}
def oO (hst:stn o S)(sel:α→Ar)(val:α→D)(C:qD→Prop)(h0:C env)(hl:xs.length≤lim)
  (step:∀ x∈xs,∀ env,C env→∃ env1,g (enc x) env S=.ok env1 S∧C env1∧t env1 S=.ok (sel x) S∧(sel x=true→fe env1 S=.ok (val x) S)) :
  ∃ env',goL o g t (qY fe) (xs.map enc) env S [] = .ok (env',(xs.filter sel).map val) S:=by
 have lf:(xs.flatMap λd=>if sel d then [val d] else []).length≤lim:=by
  rw[bZ,Aq];exact Fg (Iw _ _) hl
 obtain⟨env',S',e,_,q⟩:=goT (enc:=enc) (o:=o) (g:=g) (t:=t) (k:=qY fe) (λd=>if sel d then [val d] else []) (λenv S'=>C env∧S'=S) (λ_ _ h=>h.2▸hst) xs env S [] ⟨h0,rfl⟩ (by simpa using lf) (λd hd env S' acc hC hl=>by
  obtain⟨hc,rfl⟩:=hC;obtain⟨env1,e1,c1,e2,k⟩:=step d hd env hc;refine⟨env1,S',sel d,S',e1,e2,?_⟩;cases hs:sel d with
  |false=>exact .inl ⟨rfl,by simp,c1,rfl⟩
  |true =>
   refine .inr ⟨rfl,env1,S',?_,c1,rfl⟩;simp only[Dk];exact gY (k hs) (by simp only[hs,Dk,Me] at hl;omega))
 subst q;refine⟨env',?_⟩;rw[e,Jh,bZ]
def jL (h:fi env S=.ok (o,xs.map enc) S)(hst:stn o S)(sel:α→Ar)(val:α→D)(C:qD→Prop)(h0:C (x0 cap env))(hl:xs.length≤lim)
  (step:∀ x∈xs,∀ env,C env→∃ env1,g (enc x) env S=.ok env1 S∧C env1∧t env1 S=.ok (sel x) S∧(sel x=true→fe env1 S=.ok (val x) S)) :
  qS false cap fi g t (qY fe) env S=.ok (.lst ((xs.filter sel).map val)) S:=by
 obtain⟨env',e⟩:=oO hst sel val C h0 hl step;exact wE h e
end
def qN {o:G2}{g:DE}{S:Sto}{a b:D}(h1:f env S=.ok a S1)(h2:g env S1=.ok b S2):d2 o f g env S=o a b S2:=by
 unfold d2;rw[h1];simp only[Res.bind];rw[h2]
def xA {S:Sto}{a:D}(h1:f1 env S=.ok a S1):qG 1 F (qA f1 (qC)) env S=F [a] S1:=by
 simp only[qG,qA,qC,h1,Res.bind,Ci,Gv,Dk]
def u3 {S:Sto}{a b:D}(h1:f1 env S=.ok a S1)(h2:f2 env S1=.ok b S2):qG 2 F (qA f1 (qA f2 (qC))) env S=F [a,b] S2:=by
 simp only[qG,qA,qC,h1,h2,Res.bind,Ci,Gv,Dk]
def gQ {f3:DE}{S S3:Sto}{a b c:D}(h1:f1 env S=.ok a S1)(h2:f2 env S1=.ok b S2)(h3:f3 env S2=.ok c S3):qG 3 F (qA f1 (qA f2 (qA f3 (qC)))) env S=F [a,b,c] S3:=by
 simp only[qG,qA,qC,h1,h2,h3,Res.bind,Ci,Gv,Dk]
def wU {S:Sto}{a:D}(h1:f1 env S=.ok a S1):qE F (qA f1 (qC)) env S=F [a] S1:=by
 simp only[qE,qA,qC,h1,Res.bind]
def ZF {S:Sto}{a b:D}(h1:f1 env S=.ok a S1)(h2:f2 env S1=.ok b S2):qE F (qA f1 (qA f2 (qC))) env S=F [a,b] S2:=by
 simp only[qE,qA,qC,h1,h2,Res.bind]
def w5 {S:Sto}{b:Ar}(h:f env S=.ok (.bl b) S1):dTr f env S=.ok b S1:=by
 unfold dTr;rw[h];rfl
def j8 {f:DT}{S:Sto}{b:Ar}(h:f env S=.ok b S1):zW f env S=.ok (!b) S1:=by
 unfold zW;rw[h];rfl
def vH {f g:DT}{S:Sto}{a b:Ar}(h:f env S=.ok a S1)(k:a=false→g env S1=.ok b S2)(e:a=true→S1=S2):wC f g env S=.ok (a||b) S2:=by
 unfold wC;rw[h];cases a with
 |true=>cases e rfl;rfl
 |false=>exact k rfl
def sW {g:DE}{S:Sto}{a b:Ar}(h:f env S=.ok (.bl a) S1)(k:a=true→g env S1=.ok (.bl b) S2)(e:a=false→S1=S2):v7 f g env S=.ok (.bl (a&&b)) S2:=by
 unfold v7;rw[h];cases a with
 |false=>cases e rfl;rfl
 |true=>exact k rfl
def xK {S:Sto}{a:D}(h1:f1 env S=.ok a S1):qA f1 (qC) env S=.ok [a] S1:=by
 simp only[qA,qC,h1,Res.bind]
def xL {S:Sto}{a b:D}(h1:f1 env S=.ok a S1)(h2:f2 env S1=.ok b S2):qA f1 (qA f2 (qC)) env S=.ok [a,b] S2:=by
 simp only[qA,qC,h1,h2,Res.bind]
def zD {g:DA}{S:Sto}{a:D}(h:f env S=.ok a S1)(k:g env S1=.ok as S2):qA f g env S=.ok (a::as) S2:=by
 simp only[qA,h,k,Res.bind]
def wR {g:DA}{S:Sto}(k:g env S=.ok as S1)(h:as.length≤lim):zQ g env S=.ok (.lst as) S1:=by
 simp only[zQ,k,Res.bind,h,Dk]
def x9 {g:DA}{S:Sto}(k:g env S=.ok as S1)(h:as.length≤lim):zG g env S=.ok (.tup as) S1:=by
 simp only[zG,k,Res.bind,h,Dk]
def xY {d:D}{S:Sto}(h:env[i]? = Aa (Aa d)):qB i env S=.ok d S:=by simp only[qB,h]
def xW {α:Type}(l:Ab α) : l.filter (λ_=>true)=l:=by simp
def ZD {α:Type}(p:α→Ar)(l:Ab α) : xU (l.map λx=>D.bl (p x))=Aa (l.map p):=by
 induction l with
 |nil=>rfl
 |cons x l ih =>
  show (xU (l.map λx=>D.bl (p x))).map (p x::·)=_
  rw[ih];rfl
def sV {α:Type}{S:Sto}{l:Ab α}{p:α→Ar}(h:f env S=.ok (.lst (l.map λx=>D.bl (p x))) S1):qE (uN false) (qA f (qC)) env S=.ok (.bl (l.all p)) S1:=by
 rw[wU h];show (match (x8 (.lst (l.map λx=>D.bl (p x)))).bind xU with|some bs=>Res.ok (D.bl (bs.all id)) S1|none=>.bad)=_
 rw[show (x8 (.lst (l.map λx=>D.bl (p x)))).bind xU=Aa (l.map p) from ZD p l]
 simp only[IY];rfl
def bH {j:Ai}{S:Sto}{a b:D}(h1:f1 env S=.ok a S1)(h2:f2 env S1=.ok b S2)(q:Q ((env.set i (Aa a)).set j (Aa b)) S2):Nx (kX i j (qA f1 (qA f2 (qC))) env S) Q:=by
 unfold kX;rw[xL h1 h2];exact xG rfl q
def zI {g:DG}{env1:qD}{S:Sto}{d:D}(h1:f env S=.ok d S1)(h2:g d env S1=.ok env1 S2)(q:Q env1 S2):Nx (zB f g env S) Q:=by
 unfold zB;rw[h1];simp only[Res.toS];rw[h2];exact xG rfl q
def kE {t:DT}{f g:DS}{S:Sto}{b:Ar}{Q:D→Sto→Prop}(h:t env S=.ok b S1)(k:Rt ((if b then f else g) env S1) Q):Rt (sIf t f g env S) Q:=by
 unfold sIf;rw[h];cases b <;> exact k
end _D
namespace _K
open PySem _D
def AR (b:Ar)(S:Sto):xX (.bl b) S=Aa b:=rfl
def AO (i:Aj)(S:Sto):xX (.int i) S=Aa (i != 0):=rfl
def SW (i:Aj)(S:Sto):tyD (.int i) S=Aa "int":=rfl
def AZ (b:Ar)(S:Sto):tyD (.bl b) S=Aa "bool":=rfl
def AT (S:Sto):tyD .non S=Aa "NoneType":=rfl
def AU (x:As)(S:Sto):tyD (.str x) S=Aa "str":=rfl
def AV (x:Ab D)(S:Sto):tyD (.tup x) S=Aa "tuple":=rfl
def AS (x:Ab D)(S:Sto):tyD (.lst x) S=Aa "list":=rfl
def AL (x:Ab D):x8 (.tup x)=Aa x:=rfl
def AK (x:Ab D):x8 (.lst x)=Aa x:=rfl
def F4 (d:D)(S:Sto):v9 (.rt d S)=.ok d S:=rfl
def AN (e:qD)(S:Sto):v9 (.nx e S)=.ok .non S:=rfl
def AM (c:Ad)(x:D)(e:qD)(S:Sto):v9 (.ex c x e S)=.ex c x S:=rfl
def CW (i j:Ai)(env:qD)(S:Sto)(x y:D):eR i j env S [x,y]=.nx ((env.set i (Aa x)).set j (Aa y)) S:=rfl
def HS (i j k:Ai)(env:qD)(S:Sto)(x y z:D):iG i j k env S [x,y,z]=.nx (((env.set i (Aa x)).set j (Aa y)).set k (Aa z)) S:=rfl
def NO (C:Aj→Aj→Ar)(f:Aj→Aj→D)(i j:Aj)(S:Sto):i2 C f (.int i) (.int j) S=if C i j=true then .ok (f i j) S else .bad:=rfl
def PY (b:Ar)(S:Sto):rO [.bl b] S=.ok (.int (b01 b)) S:=rfl
def vS {xs:Ab D}{k:Aj}{d:D}(h:_L.atI xs k=Aa d)(S:Sto):gIx (.lst xs) (.int k) S=.ok d S:=by
 show _D.vA (_L.atI xs k) S=_;rw[h];rfl
end _K
open PySem _D _K
namespace _K
open PySem PySem.Spec PyProof.Rows _L _D
def top (i:Ai):Fl:=OC.main.body.getD i (.Pass ⟨0,0,0,0⟩)
structure Cl where
 (FarError NoPoint NoLot NoNumber NoCircle NoMarks NoFars NoText NoLine NoDeed Alike TooMany:Af)
def wB (c:Cl):Ab Af:=[c.NoPoint,c.NoLot,c.NoNumber,c.NoCircle,c.NoMarks,c.NoFars,c.NoText,c.NoLine,c.NoDeed,c.Alike,c.TooMany]
def jV (c:Cl):Ab Ad:=[.ref c.NoPoint,.ref c.NoLot,.ref c.NoNumber,.ref c.NoCircle,.ref c.NoMarks,.ref c.NoFars,.ref c.NoText,.ref c.NoLine,.ref c.NoDeed]
abbrev clt (c:Cl):Ab (As × Af):=[("FarError",c.FarError),("NoPoint",c.NoPoint),("NoLot",c.NoLot),("NoNumber",c.NoNumber),("NoCircle",c.NoCircle),("NoMarks",c.NoMarks),("NoFars",c.NoFars),("NoText",c.NoText),("NoLine",c.NoLine),("NoDeed",c.NoDeed),("Alike",c.Alike),("TooMany",c.TooMany)]
abbrev plt (c:Cl):Ab (As × Af):=[("NoPoint",c.NoPoint),("NoLot",c.NoLot),("NoNumber",c.NoNumber),("NoCircle",c.NoCircle),("NoMarks",c.NoMarks),("NoFars",c.NoFars),("NoText",c.NoText),("NoLine",c.NoLine),("NoDeed",c.NoDeed)]
abbrev cst:Ab (As × Aj):=[("LEAST_NUMBER",-1000),("MOST_NUMBER",1000),("MOST_POINTS",40)]
abbrev bl:Ab As:=["ValueError","all","bool","enumerate","int","isinstance","len","list","max","range","set","sorted","str","sum","tuple","zip"]
abbrev tab:Ab (As × Ai × Ab As):=[(("is_whole" : As),(14:Ai),[("thing" : As)]),(("is_within" : As),(15:Ai),[("thing" : As),("least" : As),("most" : As)]),(("is_rising" : As),(16:Ai),[("some" : As)]),(("need_number" : As),(17:Ai),[("thing" : As)]),(("is_point" : As),(22:Ai),[("thing" : As)]),(("is_lot" : As),(23:Ai),[("thing" : As)]),(("need_lot" : As),(24:Ai),[("thing" : As)]),(("far_between" : As),(25:Ai),[("one" : As),("other" : As)]),(("pairs_by_far" : As),(26:Ai),[("points" : As)]),(("far_table" : As),(27:Ai),[("lot" : As)]),(("fars" : As),(28:Ai),[("lot" : As)]),(("many_fars" : As),(30:Ai),[("lot" : As)]),(("often" : As),(31:Ai),[("lot" : As),("number" : As)]),(("most_often" : As),(32:Ai),[("lot" : As)]),(("singles" : As),(33:Ai),[("lot" : As)]),(("_law_cell" : As),(35:Ai),[("_law_script" : As),("_law_k" : As)]),(("_law_pen" : As),(36:Ai),[("_law_cell_here" : As)]),(("_law_draw" : As),(37:Ai),[("_law_pen_here" : As),("_law_many" : As)]),(("_law_whole" : As),(38:Ai),[("_law_thing" : As)]),(("_law_same" : As),(39:Ai),[("_law_found" : As),("_law_due" : As)]),(("_law_kind_of" : As),(40:Ai),[("_law_e" : As)]),(("_law_no_whole" : As),(41:Ai),[("_law_pen_here" : As)]),(("_law_point" : As),(42:Ai),[("_law_pen_here" : As),("_law_wide" : As)]),(("_law_lot" : As),(43:Ai),[("_law_pen_here" : As),("_law_most" : As)]),(("_law_is_point" : As),(44:Ai),[("_law_thing" : As)]),(("_law_is_lot" : As),(45:Ai),[("_law_thing" : As)]),(("_law_no_point" : As),(46:Ai),[("_law_pen_here" : As),("_law_point_here" : As)]),(("_law_no_lot" : As),(47:Ai),[("_law_pen_here" : As),("_law_lot_here" : As)]),(("_law_far" : As),(48:Ai),[("_law_one" : As),("_law_other" : As)]),(("_law_pairs" : As),(49:Ai),[("_law_lot_here" : As)]),(("_law_fars" : As),(50:Ai),[("_law_lot_here" : As)]),(("_law_table" : As),(51:Ai),[("_law_lot_here" : As)]),(("_law_came" : As),(52:Ai),[("_law_way" : As),("_law_lot_here" : As),("_law_number" : As)]),(("law" : As),(53:Ai),[("_law_script" : As)])]
abbrev Txt (K:Ak)(mg:As→Am Ad)(c:Cl):Prop:=TxS K mg top tab bl (clt c) (plt c) (jV c) (wB c) cst
@[reducible] def b_is_whole:DS:=qU (v7 (qE zJ (qA (qB 0) (qA (dC (.ty "int")) (qC)))) (oH (qE zJ (qA (qB 0) (qA (dC (.ty "bool")) (qC))))))
@[irreducible] def S_is_whole:DF:=sh (qQ 1 b_is_whole)
def jC:S_is_whole=qQ 1 b_is_whole:=by delta S_is_whole;exact zR _
@[reducible] def b_is_within:DS:=qU (v7 (qG 1 S_is_whole (qA (qB 0) (qC))) (xR gLe gLe (qB 1) (qB 0) (qB 2)))
@[irreducible] def S_is_within:DF:=sh (qQ 3 b_is_within)
def uL:S_is_within=qQ 3 b_is_within:=by delta S_is_within;exact zR _
@[reducible] def b_is_rising:DS:=qU (qE (uN false) (qA (qS false [none,none] (xS (b8 (qA (qB 0) (qA (dSl (qB 0) (qT (dC (.int 1))) (qZ)) (qC))))) (gTp 2 (qM (gNm 0) (qM (gNm 1) (zU)))) (zC) (qY (d2 mC (qB 0) (qB 1)))) (qC)))
@[irreducible] def S_is_rising:DF:=sh (qQ 1 b_is_rising)
def gA:S_is_rising=qQ 1 b_is_rising:=by delta S_is_rising;exact zR _
@[reducible] def b_need_number (c:Cl):DS:=sIf (zW (dTr (qG 1 S_is_whole (qA (qB 0) (qC))))) (uD (.ref c.NoNumber) (qA (dC (.str "a whole number is needed")) (qC))) (zM)
@[irreducible] def S_need_number (c:Cl):DF:=sh (qQ 1 (b_need_number c))
def vJ (c:Cl):S_need_number c=qQ 1 (b_need_number c):=by delta S_need_number;exact zR _
@[reducible] def b_is_point:DS:=qP (sIf (wC (zW (dTr (qE zJ (qA (qB 0) (qA (dC (.ty "tuple")) (qC)))))) (dTr (d2 gNe (qE zL (qA (qB 0) (qC))) (dC (.int 2))))) (qU (dC (.bl false))) (zM)) (qU (qE (uN false) (qA (qS false [none] (dIt (qB 0)) (gNm 0) (zC) (qY (qG 3 (okO S_is_within) (qA (qB 0) (qA (dC (.int (-1000))) (qA (dC (.int (1000))) (qC))))))) (qC))))
@[irreducible] def S_is_point:DF:=sh (qQ 1 b_is_point)
def pQ:S_is_point=qQ 1 b_is_point:=by delta S_is_point;exact zR _
@[reducible] def b_is_lot:DS:=qP (sIf (wC (zW (dTr (qE zJ (qA (qB 0) (qA (dC (.ty "tuple")) (qC)))))) (zW (dTr (xR gLe gLe (dC (.int 1)) (qE zL (qA (qB 0) (qC))) (dC (.int (40))))))) (qU (dC (.bl false))) (zM)) (qU (v7 (qE (uN false) (qA (qS false [none] (dIt (qB 0)) (gNm 0) (zC) (qY (qG 1 (okO S_is_point) (qA (qB 0) (qC))))) (qC))) (qG 1 S_is_rising (qA (qB 0) (qC)))))
@[irreducible] def S_is_lot:DF:=sh (qQ 1 b_is_lot)
def fT:S_is_lot=qQ 1 b_is_lot:=by delta S_is_lot;exact zR _
@[reducible] def b_need_lot (c:Cl):DS:=sIf (zW (dTr (qG 1 S_is_lot (qA (qB 0) (qC))))) (uD (.ref c.NoLot) (qA (dC (.str "a lot is needed")) (qC))) (zM)
@[irreducible] def S_need_lot (c:Cl):DF:=sh (qQ 1 (b_need_lot c))
def pR (c:Cl):S_need_lot c=qQ 1 (b_need_lot c):=by delta S_need_lot;exact zR _
@[reducible] def b_far_between:DS:=qP (zB (d2 xN (d2 gIx (qB 0) (dC (.int 0))) (d2 gIx (qB 1) (dC (.int 0)))) (gNm 2)) (qP (zB (d2 xN (d2 gIx (qB 0) (dC (.int 1))) (d2 gIx (qB 1) (dC (.int 1)))) (gNm 3)) (qU (d2 qV (d2 xZ (qB 2) (qB 2)) (d2 xZ (qB 3) (qB 3)))))
@[irreducible] def S_far_between:DF:=sh (qQ 4 b_far_between)
def jS:S_far_between=qQ 4 b_far_between:=by delta S_far_between;exact zR _
@[reducible] def b_pairs_by_far:DS:=qP (zB (V5) (gNm 1)) (qP (uC (oG (qA (qB 0) (qC))) (gTp 2 (qM (gNm 2) (qM (gNm 3) (zU)))) (uC (wP (dSl (qB 0) (qT (d2 qV (qB 2) (dC (.int 1)))) (qZ))) (gNm 4) (vI (dBm "list" wW (dBm "dict" wX (qB 1) (qA (qG 2 S_far_between (qA (qB 3) (qA (qB 4) (qC)))) (qA (sJ (qC)) (qC)))) (qA (zG (qA (qB 3) (qA (qB 4) (qC)))) (qC)))))) (qU (qB 1)))
@[irreducible] def S_pairs_by_far:DF:=sh (qQ 5 b_pairs_by_far)
def jE:S_pairs_by_far=qQ 5 b_pairs_by_far:=by delta S_pairs_by_far;exact zR _
@[reducible] def b_far_table (c:Cl):DS:=qP (vI (qG 1 (S_need_lot c) (qA (qB 0) (qC)))) (qU (qE bY (qA (qS false [none,none] (xS (mQ (qG 1 S_pairs_by_far (qA (qB 0) (qC))))) (gTp 2 (qM (gNm 0) (qM (gNm 1) (zU)))) (zC) (qY (zG (qA (qB 0) (qA (qE zL (qA (qB 1) (qC))) (qC)))))) (qC))))
@[irreducible] def S_far_table (c:Cl):DF:=sh (qQ 1 (b_far_table c))
def uK (c:Cl):S_far_table c=qQ 1 (b_far_table c):=by delta S_far_table;exact zR _
@[reducible] def b_fars (c:Cl):DS:=qU (qS false [none,none] (dIt (qG 1 (S_far_table c) (qA (qB 0) (qC)))) (gTp 2 (qM (gNm 0) (qM (gNm 1) (zU)))) (zC) (qY (qB 0)))
@[irreducible] def S_fars (c:Cl):DF:=sh (qQ 1 (b_fars c))
def pY (c:Cl):S_fars c=qQ 1 (b_fars c):=by delta S_fars;exact zR _
@[reducible] def b_many_fars (c:Cl):DS:=qU (qE zL (qA (qG 1 (S_fars c) (qA (qB 0) (qC))) (qC)))
@[irreducible] def S_many_fars (c:Cl):DF:=sh (qQ 1 (b_many_fars c))
def uM (c:Cl):S_many_fars c=qQ 1 (b_many_fars c):=by delta S_many_fars;exact zR _
@[reducible] def b_often (c:Cl):DS:=qP (zB (qG 1 (S_far_table c) (qA (qB 0) (qC))) (gNm 2)) (qP (vI (qG 1 (S_need_number c) (qA (qB 1) (qC)))) (qU (qE rQ (qA (qS false [none,none,Aa 1] (dIt (qB 2)) (gTp 2 (qM (gNm 0) (qM (gNm 1) (zU)))) (yW (dTr (d2 gEq (qB 0) (qB 2))) (zC)) (qY (qB 1))) (qC)))))
@[irreducible] def S_often (c:Cl):DF:=sh (qQ 3 (b_often c))
def jF (c:Cl):S_often c=qQ 3 (b_often c):=by delta S_often;exact zR _
@[reducible] def b_most_often (c:Cl):DS:=qP (zB (dC .non) (gNm 1)) (qP (uC (wP (qG 1 (S_far_table c) (qA (qB 0) (qC)))) (gTp 2 (qM (gNm 2) (qM (gNm 3) (zU)))) (sIf (wC (dTr (d2 gIs (qB 1) (dC .non))) (dTr (d2 gGt (qB 3) (d2 gIx (qB 1) (dC (.int 1)))))) (zB (zG (qA (qB 2) (qA (qB 3) (qC)))) (gNm 1)) (zM))) (qU (qB 1)))
@[irreducible] def S_most_often (c:Cl):DF:=sh (qQ 4 (b_most_often c))
def vY (c:Cl):S_most_often c=qQ 4 (b_most_often c):=by delta S_most_often;exact zR _
@[reducible] def b_singles (c:Cl):DS:=qU (qS true [none,none] (dIt (qG 1 (S_far_table c) (qA (qB 0) (qC)))) (gTp 2 (qM (gNm 0) (qM (gNm 1) (zU)))) (yW (dTr (d2 gEq (qB 1) (dC (.int 1)))) (zC)) (qY (qB 0)))
@[irreducible] def S_singles (c:Cl):DF:=sh (qQ 1 (b_singles c))
def jT (c:Cl):S_singles c=qQ 1 (b_singles c):=by delta S_singles;exact zR _
@[reducible] def b__law_cell:DS:=qP (sIf (dTr (d2 gLt (qB 1) (qE zL (qA (qB 0) (qC))))) (qU (d2 gIx (qB 0) (qB 1))) (zM)) (qU (dC (.int 0)))
@[irreducible] def S__law_cell:DF:=sh (qQ 2 b__law_cell)
def kY:S__law_cell=qQ 2 b__law_cell:=by delta S__law_cell;exact zR _
@[reducible] def b__law_pen:DS:=qU (sJ (qA (qB 0) (qA (qE rO (qA (d2 gGe (qB 0) (d2 vM (dC (.int 10)) (dC (.int 18)))) (qC))) (qC))))
@[irreducible] def S__law_pen:DF:=sh (qQ 1 b__law_pen)
def pP:S__law_pen=qQ 1 b__law_pen:=by delta S__law_pen;exact zR _
@[reducible] def b__law_draw:DS:=qP (sIf (dTr (d2 gEq (d2 gIx (qB 0) (dC (.int 1))) (dC (.int 1)))) (qP (zB (d2 vL (d2 gIx (qB 0) (dC (.int 0))) (qB 1)) (gNm 2)) (qP (zB (d2 v8 (d2 gIx (qB 0) (dC (.int 0))) (qB 1)) (gSb (qB 0) (dC (.int 0)) uV)) (qU (qB 2)))) (zM)) (qP (zB (d2 vL (d2 qV (d2 xZ (d2 vL (d2 gIx (qB 0) (dC (.int 0))) (dC (.int 2147483629))) (dC (.int 48271))) (dC (.int 11))) (dC (.int 2147483629))) (gSb (qB 0) (dC (.int 0)) uV)) (qU (d2 vL (d2 v8 (d2 vL (d2 qV (d2 xZ (d2 gIx (qB 0) (dC (.int 0))) (d2 gIx (qB 0) (dC (.int 0)))) (d2 xZ (dC (.int 40692)) (d2 gIx (qB 0) (dC (.int 0))))) (dC (.int 2147483647))) (dC (.int 8))) (qB 1))))
@[irreducible] def S__law_draw:DF:=sh (qQ 3 b__law_draw)
def kZ:S__law_draw=qQ 3 b__law_draw:=by delta S__law_draw;exact zR _
@[reducible] def b__law_whole:DS:=qU (v7 (qE zJ (qA (qB 0) (qA (dC (.ty "int")) (qC)))) (oH (qE zJ (qA (qB 0) (qA (dC (.ty "bool")) (qC))))))
@[irreducible] def S__law_whole:DF:=sh (qQ 1 b__law_whole)
def vX:S__law_whole=qQ 1 b__law_whole:=by delta S__law_whole;exact zR _
@[reducible] def b__law_same (S__law_same:DF):DS:=qP (sIf (dTr (d2 gIs (qB 1) (dC .non))) (qU (d2 gIs (qB 0) (dC .non))) (zM)) (qP (sIf (wC (dTr (qE zJ (qA (qB 1) (qA (dC (.ty "tuple")) (qC))))) (dTr (qE zJ (qA (qB 1) (qA (dC (.ty "list")) (qC)))))) (qP (sIf (wC (dTr (d2 gNe (qE zJ (qA (qB 0) (qA (dC (.ty "tuple")) (qC)))) (qE zJ (qA (qB 1) (qA (dC (.ty "tuple")) (qC)))))) (dTr (d2 gNe (qE zJ (qA (qB 0) (qA (dC (.ty "list")) (qC)))) (qE zJ (qA (qB 1) (qA (dC (.ty "list")) (qC))))))) (qU (dC (.bl false))) (zM)) (qP (sIf (dTr (d2 gNe (qE zL (qA (qB 0) (qC))) (qE zL (qA (qB 1) (qC))))) (qU (dC (.bl false))) (zM)) (qP (uC (b8 (qA (qB 0) (qA (qB 1) (qC)))) (gTp 2 (qM (gNm 2) (qM (gNm 3) (zU)))) (sIf (zW (dTr (qG 2 S__law_same (qA (qB 2) (qA (qB 3) (qC)))))) (qU (dC (.bl false))) (zM))) (qU (dC (.bl true)))))) (zM)) (qP (sIf (dTr (qE zJ (qA (qB 1) (qA (dC (.ty "str")) (qC))))) (qU (v7 (qE zJ (qA (qB 0) (qA (dC (.ty "str")) (qC)))) (d2 gEq (qB 0) (qB 1)))) (zM)) (qU (v7 (d2 gEq (qE zJ (qA (qB 0) (qA (dC (.ty "bool")) (qC)))) (qE zJ (qA (qB 1) (qA (dC (.ty "bool")) (qC))))) (v7 (qE zJ (qA (qB 0) (qA (dC (.ty "int")) (qC)))) (d2 gEq (qB 0) (qB 1)))))))
def pJ:Ai→DF
 |0=>λ_ _=>.bad
 |n+1=>qQ 4 (b__law_same (pJ n))
@[irreducible] def S__law_same:DF:=sh (pJ 4)
def uJ:S__law_same=pJ 4:=by delta S__law_same;exact zR _
@[reducible] def b__law_kind_of (c:Cl):DS:=qP (zB (zQ (qA (qE (xB (wB c)) (qA (qB 0) (qA (dC (.obj c.NoPoint)) (qC)))) (qA (qE (xB (wB c)) (qA (qB 0) (qA (dC (.obj c.NoLot)) (qC)))) (qA (qE (xB (wB c)) (qA (qB 0) (qA (dC (.obj c.NoNumber)) (qC)))) (qA (qE (xB (wB c)) (qA (qB 0) (qA (dC (.obj c.NoCircle)) (qC)))) (qC)))))) (gNm 1)) (qP (zB (d2 qV (qB 1) (zQ (qA (qE (xB (wB c)) (qA (qB 0) (qA (dC (.obj c.NoMarks)) (qC)))) (qA (qE (xB (wB c)) (qA (qB 0) (qA (dC (.obj c.NoFars)) (qC)))) (qA (qE (xB (wB c)) (qA (qB 0) (qA (dC (.obj c.NoText)) (qC)))) (qA (qE (xB (wB c)) (qA (qB 0) (qA (dC (.obj c.NoLine)) (qC)))) (qC))))))) (gNm 1)) (qP (zB (d2 qV (qB 1) (zQ (qA (qE (xB (wB c)) (qA (qB 0) (qA (dC (.obj c.NoDeed)) (qC)))) (qA (qE (xB (wB c)) (qA (qB 0) (qA (dC (.obj c.Alike)) (qC)))) (qA (qE (xB (wB c)) (qA (qB 0) (qA (dC (.obj c.TooMany)) (qC)))) (qC)))))) (gNm 1)) (qP (sIf (wC (zW (dTr (qE (xB (wB c)) (qA (qB 0) (qA (dC (.ty "ValueError")) (qC)))))) (dTr (d2 gNe (dBm "list" mW (qB 1) (qA (dC (.bl true)) (qC))) (dC (.int 1))))) (qU (dC (.str "other"))) (zM)) (qP (sIf (dTr (qE (xB (wB c)) (qA (qB 0) (qA (dC (.obj c.Alike)) (qC))))) (qU (zQ (qA (dC (.str "alike")) (qA (b6) (qA (b6) (qA (b6) (qA (b6) (qC)))))))) (zM)) (qP (sIf (dTr (qE (xB (wB c)) (qA (qB 0) (qA (dC (.obj c.TooMany)) (qC))))) (qU (zQ (qA (dC (.str "many")) (qA (b6) (qA (b6) (qC)))))) (zM)) (qP (zB (zQ (qA (dC (.str "point")) (qA (dC (.str "lot")) (qA (dC (.str "number")) (qA (dC (.str "circle")) (qA (dC (.str "marks")) (qA (dC (.str "fars")) (qA (dC (.str "text")) (qA (dC (.str "line")) (qA (dC (.str "deed")) (qC))))))))))) (gNm 2)) (qU (d2 gIx (qB 2) (dBm "list" mX (qB 1) (qA (dC (.bl true)) (qC)))))))))))
@[irreducible] def S__law_kind_of (c:Cl):DF:=sh (qQ 3 (b__law_kind_of c))
def v6 (c:Cl):S__law_kind_of c=qQ 3 (b__law_kind_of c):=by delta S__law_kind_of;exact zR _
@[reducible] def b__law_no_whole:DS:=qU (d2 gIx (zQ (qA (dC .non) (qA (dC (.str "0")) (qA (dC (.bl true)) (qA (dC (.bl false)) (qA (zG (qA (dC (.int 0)) (qC))) (qA (zQ (qA (dC (.int 0)) (qC))) (qA (jG) (qC))))))))) (qG 2 S__law_draw (qA (qB 0) (qA (dC (.int 7)) (qC)))))
@[irreducible] def S__law_no_whole:DF:=sh (qQ 1 b__law_no_whole)
def j3:S__law_no_whole=qQ 1 b__law_no_whole:=by delta S__law_no_whole;exact zR _
@[reducible] def b__law_point:DS:=qU (zG (qA (d2 xN (qG 2 S__law_draw (qA (qB 0) (qA (d2 qV (d2 xZ (dC (.int 2)) (qB 1)) (dC (.int 1))) (qC)))) (qB 1)) (qA (d2 xN (qG 2 S__law_draw (qA (qB 0) (qA (d2 qV (d2 xZ (dC (.int 2)) (qB 1)) (dC (.int 1))) (qC)))) (qB 1)) (qC))))
@[irreducible] def S__law_point:DF:=sh (qQ 2 b__law_point)
def kM:S__law_point=qQ 2 b__law_point:=by delta S__law_point;exact zR _
@[reducible] def b__law_lot:DS:=qP (kX 2 3 (qA (qG 2 S__law_draw (qA (qB 0) (qA (dC (.int 7)) (qC)))) (qA (d2 qV (dC (.int 1)) (qG 2 S__law_draw (qA (qB 0) (qA (qB 1) (qC))))) (qC)))) (qP (zB (zG (qA (d2 gIx (zQ (qA (dC (.int 1)) (qA (dC (.int 2)) (qA (dC (.int 4)) (qA (dC (.int 12)) (qA (dC (.int 1000)) (qC))))))) (qG 2 S__law_draw (qA (qB 0) (qA (dC (.int 5)) (qC))))) (qA (qG 2 S__law_point (qA (qB 0) (qA (dC (.int 400)) (qC)))) (qC)))) (gTp 2 (qM (gNm 4) (qM (gNm 5) (zU))))) (qP (zB (d2 qV (dC (.int 1)) (qG 2 S__law_draw (qA (qB 0) (qA (dC (.int 9)) (qC))))) (gNm 6)) (qP (zB (qS false [none,Aa 0,Aa 4] (xS (y9 (qA (qB 3) (qC)))) (gNm 0) (zC) (qY (qG 2 (okO S__law_point) (qA (qB 1) (qA (qB 2) (qC)))))) (gNm 7)) (qP (sIf (dTr (d2 gEq (qB 2) (dC (.int 0)))) (zB (qS false [none,Aa 5] (xS (y9 (qA (qB 3) (qC)))) (gNm 0) (zC) (qY (zG (qA (d2 qV (d2 gIx (qB 1) (dC (.int 0))) (d2 vL (qB 0) (dC (.int 4)))) (qA (d2 qV (d2 gIx (qB 1) (dC (.int 1))) (d2 v8 (qB 0) (dC (.int 4)))) (qC)))))) (gNm 7)) (zM)) (qP (sIf (dTr (d2 gEq (qB 2) (dC (.int 1)))) (zB (qS false [none,Aa 5,Aa 6] (xS (y9 (qA (qB 3) (qC)))) (gNm 0) (zC) (qY (zG (qA (d2 qV (d2 gIx (qB 1) (dC (.int 0))) (d2 xZ (qB 2) (qB 0))) (qA (d2 xN (d2 gIx (qB 1) (dC (.int 1))) (qB 0)) (qC)))))) (gNm 7)) (zM)) (qP (sIf (dTr (d2 gEq (qB 2) (dC (.int 2)))) (qP (zB (dSl (qB 7) (qZ) (qT (d2 qV (dC (.int 1)) (d2 v8 (qB 3) (dC (.int 4)))))) (gNm 8)) (qP (zB (d2 qV (d2 qV (qB 8) (qS false [none,none] (dIt (qB 8)) (gTp 2 (qM (gNm 0) (qM (gNm 1) (zU)))) (zC) (qY (zG (qA (d2 xN (dC (.int 0)) (qB 1)) (qA (qB 0) (qC))))))) (qS false [none,none] (dIt (qB 8)) (gTp 2 (qM (gNm 0) (qM (gNm 1) (zU)))) (zC) (qY (zG (qA (d2 xN (dC (.int 0)) (qB 0)) (qA (d2 xN (dC (.int 0)) (qB 1)) (qC))))))) (gNm 7)) (zB (d2 qV (qB 7) (qS false [none,none] (dIt (qB 8)) (gTp 2 (qM (gNm 0) (qM (gNm 1) (zU)))) (zC) (qY (zG (qA (qB 1) (qA (d2 xN (dC (.int 0)) (qB 0)) (qC))))))) (gNm 7)))) (zM)) (qU (qE bC (qA (wH (dSl (qB 7) (qZ) (qT (qB 3)))) (qC))))))))))
@[irreducible] def S__law_lot:DF:=sh (qQ 9 b__law_lot)
def pO:S__law_lot=qQ 9 b__law_lot:=by delta S__law_lot;exact zR _
@[reducible] def b__law_is_point:DS:=qP (sIf (wC (zW (dTr (qE zJ (qA (qB 0) (qA (dC (.ty "tuple")) (qC)))))) (dTr (d2 gNe (qE zL (qA (qB 0) (qC))) (dC (.int 2))))) (qU (dC (.bl false))) (zM)) (qU (qE (uN false) (qA (qS false [none] (dIt (qB 0)) (gNm 0) (zC) (qY (v7 (qG 1 (okO S__law_whole) (qA (qB 0) (qC))) (xR gLe gLe (d1 yM (dC (.int 1000))) (qB 0) (dC (.int 1000)))))) (qC))))
@[irreducible] def S__law_is_point:DF:=sh (qQ 1 b__law_is_point)
def uZ:S__law_is_point=qQ 1 b__law_is_point:=by delta S__law_is_point;exact zR _
@[reducible] def b__law_is_lot:DS:=qP (sIf (wC (zW (dTr (qE zJ (qA (qB 0) (qA (dC (.ty "tuple")) (qC)))))) (wC (zW (dTr (xR gLe gLe (dC (.int 1)) (qE zL (qA (qB 0) (qC))) (dC (.int 40))))) (zW (dTr (qE (uN false) (qA (qS false [none] (dIt (qB 0)) (gNm 0) (zC) (qY (qG 1 (okO S__law_is_point) (qA (qB 0) (qC))))) (qC))))))) (qU (dC (.bl false))) (zM)) (qU (d2 gEq (qE bX (qA (qB 0) (qC))) (wH (qB 0))))
@[irreducible] def S__law_is_lot:DF:=sh (qQ 1 b__law_is_lot)
def jQ:S__law_is_lot=qQ 1 b__law_is_lot:=by delta S__law_is_lot;exact zR _
@[reducible] def b__law_no_point:DS:=qP (kX 2 3 (qA (qG 2 S__law_draw (qA (qB 0) (qA (dC (.int 12)) (qC)))) (qA (qG 2 S__law_draw (qA (qB 0) (qA (dC (.int 2)) (qC)))) (qC)))) (qP (zB (d2 gIx (zQ (qA (dC (.int 1001)) (qA (d1 yM (dC (.int 1001))) (qA (dC (.bl true)) (qA (dC (.bl false)) (qA (dC .non) (qA (dC (.str "0")) (qA (zG (qA (dC (.int 0)) (qC))) (qA (d2 vM (dC (.int 10)) (dC (.int 29))) (qA (zQ (qA (dC (.int 0)) (qC))) (qA (jG) (qC)))))))))))) (qG 2 S__law_draw (qA (qB 0) (qA (dC (.int 10)) (qC))))) (gNm 4)) (qP (zB (d2 qV (d2 qV (dSl (qB 1) (qZ) (qT (qB 3))) (zG (qA (qB 4) (qC)))) (dSl (qB 1) (qT (d2 qV (qB 3) (dC (.int 1)))) (qZ))) (gNm 5)) (qP (zB (zQ (qA (qB 5) (qA (qB 5) (qA (qB 5) (qA (qB 5) (qA (dSl (qB 1) (qZ) (qT (dC (.int 1)))) (qA (d2 qV (qB 1) (zG (qA (dC (.int 0)) (qC)))) (qA (qE bX (qA (qB 1) (qC))) (qA (dC .non) (qA (dC (.int 7)) (qA (dC (.str "0,0")) (qC)))))))))))) (gNm 6)) (qU (d2 gIx (d2 qV (qB 6) (zQ (qA (jG) (qA (zG (qA (qB 1) (qC))) (qC))))) (qB 2))))))
@[irreducible] def S__law_no_point:DF:=sh (qQ 7 b__law_no_point)
def j0:S__law_no_point=qQ 7 b__law_no_point:=by delta S__law_no_point;exact zR _
@[reducible] def b__law_no_lot:DS:=qP (kX 2 3 (qA (qG 2 S__law_draw (qA (qB 0) (qA (dC (.int 14)) (qC)))) (qA (qG 2 S__law_draw (qA (qB 0) (qA (qE zL (qA (qB 1) (qC))) (qC)))) (qC)))) (qP (zB (d2 qV (d2 qV (dSl (qB 1) (qZ) (qT (qB 3))) (zG (qA (qG 2 S__law_no_point (qA (qB 0) (qA (d2 gIx (qB 1) (qB 3)) (qC)))) (qC)))) (dSl (qB 1) (qT (d2 qV (qB 3) (dC (.int 1)))) (qZ))) (gNm 4)) (qP (zB (zQ (qA (qB 4) (qA (qB 4) (qA (qE bX (qA (qB 1) (qC))) (qA (bV (qB 1) (d1 yM (dC (.int 1)))) (qA (d2 qV (qB 1) (dSl (qB 1) (qT (d1 yM (dC (.int 1)))) (qZ))) (qA (d2 qV (dSl (qB 1) (qZ) (qT (d2 qV (qB 3) (dC (.int 1))))) (dSl (qB 1) (qT (qB 3)) (qZ))) (qA (zG (qC)) (qA (dC .non) (qA (dC (.int 7)) (qA (dC (.str "0,0")) (qA (jG) (qC))))))))))))) (gNm 5)) (qP (zB (qE bC (qA (qS false [none] (xS (y9 (qA (dC (.int 41)) (qC)))) (gNm 0) (zC) (qY (zG (qA (d2 v8 (qB 0) (dC (.int 8))) (qA (d2 vL (qB 0) (dC (.int 8))) (qC)))))) (qC))) (gNm 6)) (qP (zB (d2 gIx (d2 qV (qB 5) (zQ (qA (zG (qA (qB 1) (qC))) (qA (qB 6) (qA (d2 gIx (qB 1) (dC (.int 0))) (qC)))))) (qB 2)) (gNm 7)) (qU (dIf (dTr (qG 1 S__law_is_lot (qA (qB 7) (qC)))) (zG (qC)) (qB 7)))))))
@[irreducible] def S__law_no_lot:DF:=sh (qQ 8 b__law_no_lot)
def jR:S__law_no_lot=qQ 8 b__law_no_lot:=by delta S__law_no_lot;exact zR _
@[reducible] def b__law_far:DS:=qU (d2 qV (d2 vM (d2 xN (d2 gIx (qB 0) (dC (.int 0))) (d2 gIx (qB 1) (dC (.int 0)))) (dC (.int 2))) (d2 vM (d2 xN (d2 gIx (qB 0) (dC (.int 1))) (d2 gIx (qB 1) (dC (.int 1)))) (dC (.int 2))))
@[irreducible] def S__law_far:DF:=sh (qQ 2 b__law_far)
def pN:S__law_far=qQ 2 b__law_far:=by delta S__law_far;exact zR _
@[reducible] def b__law_pairs:DS:=qP (zB (zQ (qC)) (gNm 1)) (qP (uC (y9 (qA (qE zL (qA (qB 0) (qC))) (qC))) (gNm 2) (zB (d2 qV (qB 1) (qS false [none,Aa 2,Aa 0] (dIt (dSl (qB 0) (qT (d2 qV (qB 2) (dC (.int 1)))) (qZ))) (gNm 0) (zC) (qY (zG (qA (d2 gIx (qB 2) (qB 1)) (qA (qB 0) (qC))))))) (gNm 1))) (qU (qB 1)))
@[irreducible] def S__law_pairs:DF:=sh (qQ 3 b__law_pairs)
def kL:S__law_pairs=qQ 3 b__law_pairs:=by delta S__law_pairs;exact zR _
@[reducible] def b__law_fars:DS:=qU (qS false [none,none] (dIt (qG 1 S__law_pairs (qA (qB 0) (qC)))) (gTp 2 (qM (gNm 0) (qM (gNm 1) (zU)))) (zC) (qY (qG 2 (okO S__law_far) (qA (qB 0) (qA (qB 1) (qC))))))
@[irreducible] def S__law_fars:DF:=sh (qQ 1 b__law_fars)
def g9:S__law_fars=qQ 1 b__law_fars:=by delta S__law_fars;exact zR _
@[reducible] def b__law_table:DS:=qP (zB (qG 1 S__law_fars (qA (qB 0) (qC))) (gNm 1)) (qU (qS false [none,Aa 1] (dIt (wH (qB 1))) (gNm 0) (zC) (qY (zG (qA (qB 0) (qA (dBm "list" yZ (qB 1) (qA (qB 0) (qC))) (qC)))))))
@[irreducible] def S__law_table:DF:=sh (qQ 2 b__law_table)
def kN:S__law_table=qQ 2 b__law_table:=by delta S__law_table;exact zR _
@[reducible] def b__law_came (c:Cl):DS:=mJ 4 3 (jV c) (qU (dIf (dTr (d2 gEq (qB 0) (dC (.int 3)))) (qG 2 (S_often c) (qA (qB 1) (qA (qB 2) (qC)))) (nE [(1,(S_many_fars c)),(1,(S_most_often c)),(1,(S_singles c))] (qB 0) (qA (qB 1) (qC))))) (qU (qG 1 (S__law_kind_of c) (qA (qB 3) (qC))))
@[irreducible] def S__law_came (c:Cl):DF:=sh (qQ 4 (b__law_came c))
def uI (c:Cl):S__law_came c=qQ 4 (b__law_came c):=by delta S__law_came;exact zR _
@[reducible] def b_law (c:Cl):DS:=qP (uC (wP (d2 qV (zQ (qA (qG 2 S__law_cell (qA (qB 0) (qA (dC (.int 0)) (qC)))) (qC))) (dSl (qB 0) (qT (dC (.int 1))) (qT (dC (.int 6)))))) (gNm 1) (qP (zB (qG 1 S__law_pen (qA (qB 1) (qC))) (gNm 2)) (qP (zB (qG 2 S__law_lot (qA (qB 2) (qA (dC (.int 40)) (qC)))) (gNm 3)) (qP (kX 4 5 (qA (qG 1 S__law_table (qA (qB 3) (qC))) (qA (qG 1 S__law_fars (qA (qB 3) (qC))) (qC)))) (qP (zB (mR (qA (qS false [none,none] (dIt (qB 4)) (gTp 2 (qM (gNm 0) (qM (gNm 1) (zU)))) (zC) (qY (qB 1))) (qC)) (dC (.int 0))) (gNm 7)) (qP (zB (d2 gIx (d2 qV (qS false [none,none,Aa 7] (dIt (qB 4)) (gTp 2 (qM (gNm 0) (qM (gNm 1) (zU)))) (yW (dTr (d2 gEq (qB 1) (qB 2))) (zC)) (qY (zG (qA (qB 0) (qA (qB 1) (qC)))))) (zQ (qA (dC .non) (qC)))) (dC (.int 0))) (gNm 8)) (qP (zB (zQ (qA (qE zL (qA (qB 4) (qC))) (qA (qB 8) (qA (qS false [none,none] (dIt (qB 4)) (gTp 2 (qM (gNm 0) (qM (gNm 1) (zU)))) (yW (dTr (d2 gEq (qB 1) (dC (.int 1)))) (zC)) (qY (qB 0))) (qC))))) (gNm 9)) (qP (uC (y9 (qA (dC (.int 2)) (qC))) (gNm 10) (qP (zB (qS false [none,Aa 3] (xS (y9 (qA (dC (.int 3)) (qC)))) (gNm 0) (zC) (qY (qG 3 (okO (S__law_came c)) (qA (qB 0) (qA (qB 1) (qA (dC (.int 0)) (qC))))))) (gNm 11)) (qP (sIf (zW (dTr (qG 2 (u8 S__law_same) (qA (qB 11) (qA (qB 9) (qC)))))) (qU (dC (.bl false))) (zM)) (vI (dBm "list" wW (d2 gIx (qB 11) (dC (.int 2))) (qA (dC .non) (qC))))))) (qP (kX 12 13 (qA (qG 3 (S__law_came c) (qA (dC (.int 2)) (qA (qB 3) (qA (dC (.int 0)) (qC))))) (qA (qG 3 (S__law_came c) (qA (dC (.int 2)) (qA (dSl (qB 3) (qZ) (qT (dC (.int 1)))) (qA (dC (.int 0)) (qC))))) (qC)))) (qP (sIf (wC (dTr (d2 (fB gNe) (qB 13) (zQ (qC)))) (zW (dTr (qG 2 (u8 S__law_same) (qA (qB 12) (qA (d2 gIx (qB 9) (dC (.int 2))) (qC))))))) (qU (dC (.bl false))) (zM)) (qP (uC (wP (d2 qV (d2 qV (dSl (qB 5) (qZ) (qT (dC (.int 3)))) (dSl (qB 5) (qT (d1 yM (dC (.int 3)))) (qZ))) (zQ (qA (dC (.int 0)) (qA (d1 yM (dC (.int 1))) (qA (dC (.int 1)) (qA (d2 vM (dC (.int 10)) (dC (.int 29))) (qA (qG 2 S__law_draw (qA (qB 2) (qA (dC (.int 100)) (qC)))) (qC))))))))) (gNm 6) (sIf (zW (dTr (qG 2 S__law_same (qA (qG 3 (S__law_came c) (qA (dC (.int 3)) (qA (qB 3) (qA (qB 6) (qC))))) (qA (dBm "list" yZ (qB 5) (qA (qB 6) (qC))) (qC)))))) (qU (dC (.bl false))) (zM))) (qP (zB (zG (qA (qG 2 S__law_no_lot (qA (qB 2) (qA (qB 3) (qC)))) (qA (qG 1 S__law_no_whole (qA (qB 2) (qC))) (qC)))) (gTp 2 (qM (gNm 14) (qM (gNm 15) (zU))))) (sIf (wC (dTr (d2 gNe (qS false [none,Aa 14,Aa 15] (xS (y9 (qA (dC (.int 4)) (qC)))) (gNm 0) (zC) (qY (qG 3 (okO (S__law_came c)) (qA (qB 0) (qA (qB 1) (qA (qB 2) (qC))))))) (d2 f8 (zQ (qA (dC (.str "lot")) (qC))) (dC (.int 4))))) (dTr (d2 gNe (qG 3 (S__law_came c) (qA (dC (.int 3)) (qA (qB 3) (qA (qB 15) (qC))))) (dC (.str "number"))))) (qU (dC (.bl false))) (zM)))))))))))))) (qU (dC (.bl true)))
end _K
namespace _K
open PySem _D
variable {cap:Ab (Am Ai)}{kvs:Ab (_L.Key × D)}{cl:Ab Af}{ks:Ab Aj}{xs ys acc:Ab D}{C:Af}{n i:Ai}{o:Am (Ai × MO)}{f fe:DE}{g:DS}{Q:D→Sto→Prop}{S' S1:Sto}{env1:qD}
def uO (i j:Aj)(S:Sto):gEq (.int i) (.int j) S=.ok (.bl (decide (i=j))) S:=by kernel_rfl!
def aF (i j:Aj)(S:Sto):gNe (.int i) (.int j) S=.ok (.bl (decide (i≠j))) S:=by
 have h:gNe (.int i) (.int j) S=.ok (.bl (!decide (i=j))) S:=by kernel_rfl!
 rw[h,← decide_not]
def uQ (i j:Aj)(S:Sto)(h : -(2 ^ 64)<i∧i<2 ^ 64):xZ (.int i) (.int j) S=.ok (.int (i*j)) S:=by
 unfold xZ i2;rw[r9];unfold r8;simp only[h,and_self,IW,Yg,Dk]
def w8 (i j:Aj)(S:Sto):qV (.int i) (.int j) S=.ok (.int (i+j)) S:=rfl
def wS (h:xs.length+ys.length≤lim)(S:Sto):qV (.lst xs) (.lst ys) S=.ok (.lst (xs++ys)) S:=Bi h
def QY {S:Sto}{j:Ai}(h:S[j]? = Aa (.lst xs)):tyD (.loc j) S=Aa "list":=by
 show (match S[j]? with|some (.lst _)=>Aa "list" | some (.dct _)=>Aa "dict" | _=>none)=_
 rw[h]
def sX {S:Sto}{j:Ai}(h:S[j]? = Aa (.lst xs))(hl:xs.length<lim)(d:D):wW (.loc j) [d] S=.ok .non (S.set j (.lst (xs++[d]))):=by
 show (match S[j]? with|some (.lst xs)=>(if xs.length<lim then Res.ok D.non (S.set j (.lst (xs++[d]))) else .bad)|_=>.bad)=_
 rw[h];exact Bi hl
def gF (d:D)(b a:Ej)(S:Sto)(ho:uS b=true)(h:tyD d S=Aa a):zJ [d,.ty b] S=.ok (.bl (w4 a b)) S:=by
 unfold zJ;simp[ho,h]
def p7 (xs:Ab D)(S:Sto):zL [.lst xs] S=.ok (.int xs.length) S:=rfl
def p8 (xs:Ab D)(S:Sto):zL [.tup xs] S=.ok (.int xs.length) S:=rfl
def jN:uS "int" = true∧uS "bool" = true∧uS "tuple" = true∧uS "list" = true∧uS "str" = true:=kd
def M5:w4 "int" "tuple" = false∧w4 "int" "list" = false∧w4 "int" "str" = false∧w4 "int" "bool" = false∧w4 "int" "int" = true∧w4 "tuple" "tuple" = true∧w4 "tuple" "list" = false∧w4 "list" "tuple" = false∧w4 "list" "list" = true:=kd
def uP (i j:Aj)(S:Sto)(h:0<j):vL (.int i) (.int j) S=.ok (.int (i % j)) S:=by
 unfold vL i2;simp[h]
def gE (i j:Aj)(S:Sto)(h:0<j∧j<1073741824):v8 (.int i) (.int j) S=.ok (.int (i/j)) S:=by
 unfold v8 i2 MZ;simp[h]
def wA (d:D):Prop:=∀ S,tyD d S=Aa "NoneType" ∨ tyD d S=Aa "bool" ∨ tyD d S=Aa "str" ∨ tyD d S=Aa "tuple" ∨ tyD d S=Aa "list" ∨ tyD d S=Aa "dict"
def gK (i:Aj)(S:Sto):S_is_whole [.int i] S=.ok (.bl true) S:=by
 rw[jC]
 kernel_rfl!
def pU (d:D)(S:Sto)(h:wA d):S_is_whole [d] S=.ok (.bl false) S:=by
 rw[jC];unfold b_is_whole;rcases h S with h|h|h|h|h|h <;> simp[qQ,uF,F4,AN,AM,qP,sIf,qU,zM,vI,zB,gNm,gSb,gTp,qM,zU,kX,CW,AY,HS,dC,qB,d1,d2,qA,qC,qE,qG,dTr,zW,wC,zC,v7,oH,dIf,xR,zG,zQ,sJ,dBm,dSl,qT,qZ,wP,y9,Res.bind,Res.toS,_D.uB,_D.vA,AR,AO,SW,AZ,AT,AU,AV,AS,AL,AK,NO,gLt,gLe,gGt,gGe,_D.xN,AX,gF _ _ _ _ jN.1 h,gF _ _ _ _ jN.2.1 h,w4]
def J9 (i a b:Aj)(S:Sto):S_is_within [.int i,.int a,.int b] S=.ok (.bl (decide (a≤i∧i≤b))) S:=by
 rw[uL];unfold b_is_within;simp[qQ,uF,F4,AN,AM,qP,sIf,qU,zM,vI,zB,gNm,gSb,gTp,qM,zU,kX,CW,AY,HS,dC,qB,d1,d2,qA,qC,qE,qG,dTr,zW,wC,zC,v7,oH,dIf,xR,zG,zQ,sJ,dBm,dSl,qT,qZ,wP,y9,Res.bind,Res.toS,_D.uB,_D.vA,AR,AO,SW,AZ,AT,AU,AV,AS,AL,AK,NO,gLt,gLe,gGt,gGe,_D.xN,AX,gK];by_cases h:a≤i <;> simp[h,F4]
def cN (d:D)(a b:Aj)(S:Sto)(h:wA d):S_is_within [d,.int a,.int b] S=.ok (.bl false) S:=by
 rw[uL];unfold b_is_within;simp[qQ,uF,F4,AN,AM,qP,sIf,qU,zM,vI,zB,gNm,gSb,gTp,qM,zU,kX,CW,AY,HS,dC,qB,d1,d2,qA,qC,qE,qG,dTr,zW,wC,zC,v7,oH,dIf,xR,zG,zQ,sJ,dBm,dSl,qT,qZ,wP,y9,Res.bind,Res.toS,_D.uB,_D.vA,AR,AO,SW,AZ,AT,AU,AV,AS,AL,AK,NO,gLt,gLe,gGt,gGe,_D.xN,AX,pU d S h]
def W5:wA .non:=λ_=>.inl rfl
def Q1 (b:Ar):wA (.bl b):=λ_=>.inr (.inl rfl)
def W6 (x:As):wA (.str x):=λ_=>.inr (.inr (.inl rfl))
def W7 (x:Ab D):wA (.tup x):=λ_=>.inr (.inr (.inr (.inl rfl)))
def W4 (x:Ab D):wA (.lst x):=λ_=>.inr (.inr (.inr (.inr (.inl rfl))))
def W3:wA .dct0:=λ_=>.inr (.inr (.inr (.inr (.inr rfl))))
def zY (S:Sto)(p:Ai):Prop:=∃ v f:Aj,S[p]? = Aa (.lst [.int v,.int f])
def eA (p:Ai)(k:Aj)(xs:Ab D)(d:D)(S:Sto)(h:S[p]? = Aa (.lst xs))(hk:_L.atI xs k=Aa d):gIx (.loc p) (.int k) S=.ok d S:=by
 show (match S[p]? with|some (.lst xs)=>_D.vA (_L.atI xs k) S|_=>.bad)=_
 rw[h];show _D.vA (_L.atI xs k) S=_;rw[hk];rfl
def KQ (v f:Aj):_L.atI [D.int v,D.int f] 0=Aa (.int v):=rfl
def EG (v f:Aj):_L.atI [D.int v,D.int f] 1=Aa (.int f):=rfl
def iH (p:Ai)(v f w:Aj)(S:Sto)(h:S[p]? = Aa (.lst [.int v,.int f])):uV (.loc p) (.int 0) (.int w) S=.ok () (S.set p (.lst [.int w,.int f])):=by
 simp[uV,nP,h,_L.ixN]
def SC (S:Sto)(p:Ai)(m:Aj)(h:zY S p)(hm:0<m∧m<1073741824):∃ r v f:Aj,S__law_draw [.loc p,.int m] S=.ok (.int r) (S.set p (.lst [.int v,.int f]))∧0≤r∧r<m:=by
 obtain⟨v,f,hp⟩:=h;have hpl:=(Be.mp hp).1;have g0:=eA p 0 _ _ S hp (KQ v f);have g1:=eA p 1 _ _ S hp (EG v f);rw[kZ];unfold b__law_draw;by_cases hf:f=1
 ·refine⟨v % m,v/m,f,?_,Ji _ om,Il _ hm.1⟩
  subst hf;simp[qQ,uF,F4,AN,AM,qP,sIf,qU,zM,vI,zB,gNm,gSb,gTp,qM,zU,kX,CW,AY,HS,dC,qB,d1,d2,qA,qC,qE,qG,dTr,zW,wC,zC,v7,oH,dIf,xR,zG,zQ,sJ,dBm,dSl,qT,qZ,wP,y9,Res.bind,Res.toS,_D.uB,_D.vA,AR,AO,SW,AZ,AT,AU,AV,AS,AL,AK,NO,gLt,gLe,gGt,gGe,_D.xN,AX,g0,g1,uO,uP v m S hm.1,gE v m S hm,iH p v 1 (v/m) S hp]
 ·obtain⟨w,hw⟩:∃ w:Aj,w=(v % 2147483629*48271+11) % 2147483629:=⟨_,rfl⟩
  have hw1:0≤w∧w<2147483629:=by rw[hw];exact⟨Ji _ om,Il _ om⟩
  have hv1:0≤v % 2147483629∧v % 2147483629<2147483629:=⟨Ji _ om,Il _ om⟩;have hp':(S.set p (MO.lst [.int w,.int f]))[p]? = Aa (.lst [.int w,.int f]):=by simp[hpl]
  have k0:=eA p 0 _ _ (S.set p (MO.lst [.int w,.int f])) hp' (KQ w f);have m1:=uQ (v % 2147483629) 48271 S ⟨by omega,by omega⟩
  have m2:=uQ w w (S.set p (MO.lst [.int w,.int f])) ⟨by omega,by omega⟩
  have m3:=uQ 40692 w (S.set p (MO.lst [.int w,.int f])) ⟨by omega,by omega⟩
  have d1:=uP v 2147483629 S om;have d2':=uP (v % 2147483629*48271+11) 2147483629 S om;rw[← hw] at d2';have d3:=uP (w*w+40692*w) 2147483647 (S.set p (MO.lst [.int w,.int f])) om;have d4:=gE ((w*w+40692*w) % 2147483647) 8 (S.set p (MO.lst [.int w,.int f])) om;have d5:=uP ((w*w+40692*w) % 2147483647/8) m (S.set p (MO.lst [.int w,.int f])) hm.1;refine⟨(w*w+40692*w) % 2147483647/8 % m,w,f,?_,Ji _ om,Il _ hm.1⟩;simp[qQ,uF,F4,AN,AM,qP,sIf,qU,zM,vI,zB,gNm,gSb,gTp,qM,zU,kX,CW,AY,HS,dC,qB,d1,d2,qA,qC,qE,qG,dTr,zW,wC,zC,v7,oH,dIf,xR,zG,zQ,sJ,dBm,dSl,qT,qZ,wP,y9,Res.bind,Res.toS,_D.uB,_D.vA,AR,AO,SW,AZ,AT,AU,AV,AS,AL,AK,NO,gLt,gLe,gGt,gGe,_D.xN,AX,g0,g1,uO,hf,d1,m1,w8,d2',iH p v f w S hp,k0,m2,m3,d3,d4,d5]
def UN {S:Sto}{p:Ai}(h:zY S p)(v f:Aj):zY (S.set p (.lst [.int v,.int f])) p:=by
 obtain⟨v0,f0,hp⟩:=h;have hpl:=(Be.mp hp).1;exact⟨v,f,by simp[hpl]⟩
def lG {S:Sto}{p:Ai}(h:zY S p)(e:S<+:S'):zY S' p:=by
 obtain⟨v0,f0,hp⟩:=h;obtain⟨r,rfl⟩:=e;exact⟨v0,f0,by rw[Bk (Be.mp hp).1];exact hp⟩
def D5 (S:Sto):vM (.int 10) (.int 18) S=.ok (.int 1000000000000000000) S:=rfl
def WF (S:Sto):vM (.int 10) (.int 29) S=.ok (.int 100000000000000000000000000000) S:=rfl
def ER (x:Aj)(S:Sto):∃ f:Aj,S__law_pen [.int x] S=.ok (.loc S.length) (S++[.lst [.int x,.int f]]):=by
 refine⟨b01 (decide (1000000000000000000≤x)),?_⟩;have l2:2≤lim:=by decide
 rw[pP];unfold b__law_pen;simp[qQ,uF,F4,AN,AM,qP,sIf,qU,zM,vI,zB,gNm,gSb,gTp,qM,zU,kX,CW,AY,HS,dC,qB,d1,d2,qA,qC,qE,qG,dTr,zW,wC,zC,v7,oH,dIf,xR,zG,zQ,sJ,dBm,dSl,qT,qZ,wP,y9,Res.bind,Res.toS,_D.uB,_D.vA,AR,AO,SW,AZ,AT,AU,AV,AS,AL,AK,NO,gLt,gLe,gGt,gGe,_D.xN,AX,D5,PY,l2]
def SB (ns:Ab Aj)(S:Sto):∃ x:Aj,S__law_cell [.lst (ns.map D.int),.int 0] S=.ok (.int x) S:=by
 rw[kY];unfold b__law_cell;cases ns with
 |nil=>exact⟨0,by simp[qQ,uF,F4,AN,AM,qP,sIf,qU,zM,vI,zB,gNm,gSb,gTp,qM,zU,kX,CW,AY,HS,dC,qB,d1,d2,qA,qC,qE,qG,dTr,zW,wC,zC,v7,oH,dIf,xR,zG,zQ,sJ,dBm,dSl,qT,qZ,wP,y9,Res.bind,Res.toS,_D.uB,_D.vA,AR,AO,SW,AZ,AT,AU,AV,AS,AL,AK,NO,gLt,gLe,gGt,gGe,_D.xN,AX,p7]⟩
 |cons n ns =>
  refine⟨n,?_⟩;have h:(0:Aj)<(ns.length:Aj)+1:=by omega
  have a:_L.atI (D.int n::ns.map D.int) 0=Aa (.int n):=by simp[_L.atI,_L.ixN,h]
  simp[qQ,uF,F4,AN,AM,qP,sIf,qU,zM,vI,zB,gNm,gSb,gTp,qM,zU,kX,CW,AY,HS,dC,qB,d1,d2,qA,qC,qE,qG,dTr,zW,wC,zC,v7,oH,dIf,xR,zG,zQ,sJ,dBm,dSl,qT,qZ,wP,y9,Res.bind,Res.toS,_D.uB,_D.vA,AR,AO,SW,AZ,AT,AU,AV,AS,AL,AK,NO,gLt,gLe,gGt,gGe,_D.xN,AX,p7,vS a,h]
def gC (xs:Ab D)(r:Aj)(h:0≤r∧r<xs.length):∃ d,_L.atI xs r=Aa d∧d∈xs:=by
 have e:_L.ixN xs.length r=Aa r.toNat:=by simp[_L.ixN,h]
 have hl:r.toNat<xs.length:=by omega
 exact⟨xs[r.toNat],by simp[_L.atI,e,hl],Mm hl⟩
def nB (ns:Ab Aj)(lo hi:Am Aj):∃ ms:Ab Aj,zV (ns.map D.int) lo hi=ms.map D.int∧ms.length≤ns.length:=by
 unfold zV;rw[← OZ,← List.map_take];exact⟨_,rfl,by simp;omega⟩
def rW:DG:=gTp 2 (qM (gNm 2) (qM (gNm 3) (zU)))
def mV (S:DF):DS:=sIf (zW (dTr (qG 2 S (qA (qB 2) (qA (qB 3) (qC)))))) (qU (dC (.bl false))) (zM)
def MX (S:DF):b__law_same S=qP (sIf (dTr (d2 gIs (qB 1) (dC .non))) (qU (d2 gIs (qB 0) (dC .non))) (zM)) (qP (sIf (wC (dTr (qE zJ (qA (qB 1) (qA (dC (.ty "tuple")) (qC))))) (dTr (qE zJ (qA (qB 1) (qA (dC (.ty "list")) (qC)))))) (qP (sIf (wC (dTr (d2 gNe (qE zJ (qA (qB 0) (qA (dC (.ty "tuple")) (qC)))) (qE zJ (qA (qB 1) (qA (dC (.ty "tuple")) (qC)))))) (dTr (d2 gNe (qE zJ (qA (qB 0) (qA (dC (.ty "list")) (qC)))) (qE zJ (qA (qB 1) (qA (dC (.ty "list")) (qC))))))) (qU (dC (.bl false))) (zM)) (qP (sIf (dTr (d2 gNe (qE zL (qA (qB 0) (qC))) (qE zL (qA (qB 1) (qC))))) (qU (dC (.bl false))) (zM)) (qP (uC (b8 (qA (qB 0) (qA (qB 1) (qC)))) rW (mV S)) (qU (dC (.bl true)))))) (zM)) (qP (sIf (dTr (qE zJ (qA (qB 1) (qA (dC (.ty "str")) (qC))))) (qU (v7 (qE zJ (qA (qB 0) (qA (dC (.ty "str")) (qC)))) (d2 gEq (qB 0) (qB 1)))) (zM)) (qU (v7 (d2 gEq (qE zJ (qA (qB 0) (qA (dC (.ty "bool")) (qC)))) (qE zJ (qA (qB 1) (qA (dC (.ty "bool")) (qC))))) (v7 (qE zJ (qA (qB 0) (qA (dC (.ty "int")) (qC)))) (d2 gEq (qB 0) (qB 1))))))):=rfl
def XQ (F:DF)(x y:Am D)(S:Sto):∀ (ws:Ab D),(∀ d∈ws,F [d,d] S=.ok (.bl true) S)→∀ u v,∃ u' v',uY rW (mV F) (yJ ws ws) [x,y,u,v] S=.nx [x,y,u',v'] S:=by
 intro ws
 induction ws with
 |nil=>exact λ_ u v=>⟨u,v,rfl⟩
 |cons w ws ih =>
  intro h u v;obtain⟨u',v',e⟩:=ih (λd hd=>h d (Bq _ hd)) (Aa w) (Aa w);refine⟨u',v',?_⟩;have hw:=h w (Df ..);have hg:rW (.tup [w,w]) [x,y,u,v] S=.ok [x,y,Aa w,Aa w] S:=rfl;have hf:mV F [x,y,Aa w,Aa w] S=.nx [x,y,Aa w,Aa w] S:=by
   unfold mV;simp[qQ,uF,F4,AN,AM,qP,sIf,qU,zM,vI,zB,gNm,gSb,gTp,qM,zU,kX,CW,AY,HS,dC,qB,d1,d2,qA,qC,qE,qG,dTr,zW,wC,zC,v7,oH,dIf,xR,zG,zQ,sJ,dBm,dSl,qT,qZ,wP,y9,Res.bind,Res.toS,_D.uB,_D.vA,AR,AO,SW,AZ,AT,AU,AV,AS,AL,AK,NO,gLt,gLe,gGt,gGe,_D.xN,AX,hw]
  have hz:yJ (w::ws) (w::ws)=D.tup [w,w]::yJ ws ws:=rfl;rw[hz];unfold uY;simp only[hg,Res.toS,hf];exact e
def okD:Ai→D→Prop
 |n+1,.tup xs=>∀ x∈xs,okD n x
 |n+1,.lst xs=>∀ x∈xs,okD n x
 |_,.int _=>Mv
 |_,.bl _=>Mv
 |_,.non=>Mv
 |_,_=>Fn
def SH {t:DT}{f:DS}{env:qD}{S:Sto}{b:Ar}(h:t env S=.ok b S1)(k:Rt ((if b then f else g) env S1) Q):Rt (sIf t f g env S) Q:=by
 obtain⟨d,S2,e2,q⟩:=k;refine⟨d,S2,?_,q⟩;unfold sIf;rw[h];cases b <;> exact e2
def vU {f:DS}{env:qD}{S:Sto}(h:Rt (f env S) Q):Rt (qP f g env S) Q:=by
 obtain⟨d,S2,e2,q⟩:=h;exact⟨d,S2,by unfold qP;rw[e2],q⟩
def kF {ds:Ab D}{S:Sto}{d:D}{env:qD}(hs:uF n ds=env)(h:Rt (g env S) λd' S1=>d'=d∧S1=S'):qQ n g ds S=.ok d S':=by
 obtain⟨d',S1,e,rfl,rfl⟩:=h;exact yH hs e
def hW (F:DF)(d:D)(ws:Ab D)(S:Sto)(h1:gIs d .non S=.ok (.bl false) S)(h2:wC (dTr (qE zJ (qA (qB 1) (qA (dC (.ty "tuple")) (qC))))) (dTr (qE zJ (qA (qB 1) (qA (dC (.ty "list")) (qC))))) [Aa d,Aa d,none,none] S=.ok true S)
  (h3:wC (dTr (d2 gNe (qE zJ (qA (qB 0) (qA (dC (.ty "tuple")) (qC)))) (qE zJ (qA (qB 1) (qA (dC (.ty "tuple")) (qC)))))) (dTr (d2 gNe (qE zJ (qA (qB 0) (qA (dC (.ty "list")) (qC)))) (qE zJ (qA (qB 1) (qA (dC (.ty "list")) (qC)))))) [Aa d,Aa d,none,none] S=.ok false S)
  (h4:zL [d] S=.ok (.int ws.length) S) (h5:Z5 [d,d]=Aa (yJ ws ws)) (ih:∀ x∈ws,F [x,x] S=.ok (.bl true) S):qQ 4 (b__law_same F) [d,d] S=.ok (.bl true) S:=by
 rw[MX];obtain⟨u',v',e⟩:=XQ F (Aa d) (Aa d) S ws ih none none;have h1':dTr (d2 gIs (qB 1) (dC .non)) [Aa d,Aa d,none,none] S=.ok false S:=by
  show (Res.bind (gIs d .non S) λd S1=>uB (xX d S1) S1)=_;rw[h1];rfl
 have h4':dTr (d2 gNe (qE zL (qA (qB 0) (qC))) (qE zL (qA (qB 1) (qC)))) [Aa d,Aa d,none,none] S=.ok false S:=by
  show (Res.bind (Res.bind (zL [d] S) λa S1=>Res.bind (zL [d] S1) λb S2=>gNe a b S2) λd S1=>uB (xX d S1) S1)=_;rw[h4];show (Res.bind (Res.bind (zL [d] S) λb S2=>gNe (.int ws.length) b S2) λd S1=>uB (xX d S1) S1)=_;rw[h4];show (Res.bind (gNe (.int ws.length) (.int ws.length) S) λd S1=>uB (xX d S1) S1)=_;rw[aF,Cz (λh=>h rfl)];rfl
 have h5':b8 (qA (qB 0) (qA (qB 1) (qC))) [Aa d,Aa d,none,none] S=.ok (yJ ws ws) S:=by
  show _D.vA (Z5 [d,d]) S=_;rw[h5];rfl
 exact kF rfl (qX (xT h1' (xG rfl (vU (SH h2 (qX (xT h3 (xG rfl (qX (xT h4' (xG rfl (qX (j9 h5' (xG e (xE (zX rfl ⟨rfl,rfl⟩))))))))))))))))
def hX (F:DF)(i:Aj)(S:Sto):qQ 4 (b__law_same F) [.int i,.int i] S=.ok (.bl true) S:=by
 have h:qQ 4 (b__law_same F) [.int i,.int i] S=.ok (.bl (i == i)) S:=by kernel_rfl!
 rw[h,Eg]
def iO (F:DF)(b:Ar)(S:Sto):qQ 4 (b__law_same F) [.bl b,.bl b] S=.ok (.bl true) S:=by
 cases b <;> kernel_rfl!
def hZ (F:DF)(S:Sto):qQ 4 (b__law_same F) [.non,.non] S=.ok (.bl true) S:=by kernel_rfl!
def dQ:∀ (n:Ai) (d:D) (S:Sto),okD n d→pJ (n+1) [d,d] S=.ok (.bl true) S:=by
 intro n
 induction n with
 |zero =>
  intro d S h;cases d with
  |int i=>exact hX _ i S
  |bl b=>exact iO _ b S
  |non=>exact hZ _ S
  |_=>exact An h
 |succ n ih =>
  intro d S h;cases d with
  |tup ws=>exact hW (pJ (n+1)) (.tup ws) ws S rfl (by kernel_rfl!) (by kernel_rfl!) rfl rfl λx hx=>ih x S (h x hx)
  |lst ws=>exact hW (pJ (n+1)) (.lst ws) ws S rfl (by kernel_rfl!) (by kernel_rfl!) rfl rfl λx hx=>ih x S (h x hx)
  |int i=>exact hX _ i S
  |bl b=>exact iO _ b S
  |non=>exact hZ _ S
  |_=>exact An h
def gL (S:Sto):∀ (n m:Ai) (d:D),okD n d→n≤m→yR m S d=Aa d:=by
 have mp:∀ (f:D→Am D) (xs:Ab D),(∀ x∈xs,f x=Aa x)→mapO f xs=Aa xs:=by
  intro f xs
  induction xs with
  |nil=>exact λ_=>rfl
  |cons x xs ih =>
   intro h;have h1:=h x (Df ..);have h2:=ih λy hy=>h y (Bq _ hy);simp[mapO,h1,h2]
 intro n
 induction n with
 |zero =>
  intro m d h _;cases d <;> cases m <;> first|rfl|exact An h
 |succ n ih =>
  intro m d h hm;obtain⟨m,rfl⟩:∃ k,m=k+1:=⟨m-1,by omega⟩
  cases d with
  |tup ws =>
   show (mapO (yR m S) ws).map D.tup=_;rw[mp _ ws λx hx=>ih m x (h x hx) om];rfl
  |lst ws =>
   show (mapO (yR m S) ws).map D.lst=_;rw[mp _ ws λx hx=>ih m x (h x hx) om];rfl
  |int i=>rfl
  |bl b=>rfl
  |non=>rfl
  |_=>exact An h
def dG (S:Sto)(a b d:D)(n:Ai)(ha:yR 20 S a=Aa d)(hb:yR 20 S b=Aa d)(hd:okD n d)(hn:n+1=4):u8 S__law_same [a,b] S=.ok (.bl true) S:=by
 have h:=dQ n d (kO S) hd;rw[hn] at h;unfold u8;rw[uJ];simp only[mapO,bA,ha,hb];rw[h];rfl
def U2 {B:Af}(hC:C∈cl)(hB:B∈cl)(S:Sto):xB cl [.exn (.ref C),.obj B] S=.ok (.bl (C == B)) S:=by
 show (if (cl.contains C&&cl.contains B)=true then Res.ok (D.bl (C == B)) S else .bad)=_
 rw[Ff.mpr hC,Ff.mpr hB];rfl
def BD (hC:C∈cl)(S:Sto):xB cl [.exn (.ref C),.ty "ValueError"] S=.ok (.bl true) S:=by
 show (if (cl.contains C&&(("ValueError" : Ej) == "ValueError"))=true then Res.ok (D.bl true) S else .bad)=_
 rw[Ff.mpr hC];rfl
def xI (nd:cl.Nodup){i j:Ai}{a b:Af}(ha:cl[i]? = Aa a)(hb:cl[j]? = Aa b)(h:i≠j):(a == b)=false:=by
 rw[IS];rintro rfl;obtain⟨h1,e1⟩:=Be.mp ha;obtain⟨h2,e2⟩:=Be.mp hb;exact h ((Ma nd).mp (e1.trans e2.symm))
def xC {env:qD}{S:Sto}{B:Af}{b:Ar}(h0:env[0]? = Aa (Aa (.exn (.ref C))))(hC:C∈cl)(hB:B∈cl)(e:(C == B)=b):qE (xB cl) (qA (qB 0) (qA (dC (.obj B)) (qC))) env S=.ok (.bl b) S:=by
 unfold qE qA qB;rw[h0];exact(U2 hC hB S).trans (e▸rfl)
def KB {env:qD}{S:Sto}(h0:env[0]? = Aa (Aa (.exn (.ref C))))(hC:C∈cl):qE (xB cl) (qA (qB 0) (qA (dC (.ty "ValueError")) (qC))) env S=.ok (.bl true) S:=by
 unfold qE qA qB;rw[h0];exact BD hC S
def wJ {g:DA}{env:qD}{S:Sto}{a:D}{as:Ab D}(h:f env S=.ok a S)(k:g env S=.ok as S):qA f g env S=.ok (a::as) S:=by
 unfold qA;rw[h,Res.bind_ok,k];rfl
def nH {g:DA}{env:qD}{S:Sto}{as:Ab D}(k:g env S=.ok as S)(h:as.length≤lim):zQ g env S=.ok (.lst as) S:=by
 unfold zQ;rw[k,Res.bind_ok,Bi h]
def oW {o:G2}{g:DE}{env:qD}{S:Sto}{a b:D}(h1:f env S=.ok a S)(h2:g env S=.ok b S):d2 o f g env S=o a b S:=by
 unfold d2;rw[h1,Res.bind_ok,h2];rfl
def lP {env:qD}{S:Sto}{b:Ar}(h:f env S=.ok (.bl b) S):dTr f env S=.ok b S:=by
 unfold dTr;rw[h];rfl
def KL {f:DT}{env:qD}{S:Sto}{b:Ar}(h:f env S=.ok b S):zW f env S=.ok (!b) S:=by
 unfold zW;rw[h];rfl
def KP {f g:DT}{env:qD}{S:Sto}(h:f env S=.ok false S)(k:g env S=.ok false S):wC f g env S=.ok false S:=by
 unfold wC;rw[h];exact k
def eX (c:Cl)(nd:(wB c).Nodup)(S:Sto):S__law_kind_of c [.exn (.ref c.NoLot)] S=.ok (.str "lot") S:=by
 have mN:c.NoLot∈wB c:=.tail _ (.head _);rw[v6];refine kF (env:=[Aa (.exn (.ref c.NoLot)),none,none]) rfl ?_;refine qX (k7 (zX (nH (wJ (xC (env:=[Aa (.exn (.ref c.NoLot)),none,none]) rfl mN (.head _) (xI (i:=1) (j:=0) nd rfl rfl (by decide))) (wJ (xC (env:=[Aa (.exn (.ref c.NoLot)),none,none]) rfl mN (.tail _ (.head _)) (Eg _)) (wJ (xC (env:=[Aa (.exn (.ref c.NoLot)),none,none]) rfl mN (.tail _ (.tail _ (.head _))) (xI (i:=1) (j:=2) nd rfl rfl (by decide))) (wJ (xC (env:=[Aa (.exn (.ref c.NoLot)),none,none]) rfl mN (.tail _ (.tail _ (.tail _ (.head _)))) (xI (i:=1) (j:=3) nd rfl rfl (by decide))) rfl)))) (by decide)) ?_))
 refine qX (k7 (zX ((oW (a:=.lst [.bl false,.bl true,.bl false,.bl false]) rfl (nH (wJ (xC (env:=[Aa (.exn (.ref c.NoLot)),Aa (.lst [.bl false,.bl true,.bl false,.bl false]),none]) rfl mN (.tail _ (.tail _ (.tail _ (.tail _ (.head _))))) (xI (i:=1) (j:=4) nd rfl rfl (by decide))) (wJ (xC (env:=[Aa (.exn (.ref c.NoLot)),Aa (.lst [.bl false,.bl true,.bl false,.bl false]),none]) rfl mN (.tail _ (.tail _ (.tail _ (.tail _ (.tail _ (.head _)))))) (xI (i:=1) (j:=5) nd rfl rfl (by decide))) (wJ (xC (env:=[Aa (.exn (.ref c.NoLot)),Aa (.lst [.bl false,.bl true,.bl false,.bl false]),none]) rfl mN (.tail _ (.tail _ (.tail _ (.tail _ (.tail _ (.tail _ (.head _))))))) (xI (i:=1) (j:=6) nd rfl rfl (by decide))) (wJ (xC (env:=[Aa (.exn (.ref c.NoLot)),Aa (.lst [.bl false,.bl true,.bl false,.bl false]),none]) rfl mN (.tail _ (.tail _ (.tail _ (.tail _ (.tail _ (.tail _ (.tail _ (.head _)))))))) (xI (i:=1) (j:=7) nd rfl rfl (by decide))) rfl)))) (by decide))).trans (c:=.ok (.lst [.bl false,.bl true,.bl false,.bl false,.bl false,.bl false,.bl false,.bl false]) S) (by kernel_rfl!)) ?_))
 refine qX (k7 (zX ((oW (a:=.lst [.bl false,.bl true,.bl false,.bl false,.bl false,.bl false,.bl false,.bl false]) rfl (nH (wJ (xC (env:=[Aa (.exn (.ref c.NoLot)),Aa (.lst [.bl false,.bl true,.bl false,.bl false,.bl false,.bl false,.bl false,.bl false]),none]) rfl mN (.tail _ (.tail _ (.tail _ (.tail _ (.tail _ (.tail _ (.tail _ (.tail _ (.head _))))))))) (xI (i:=1) (j:=8) nd rfl rfl (by decide))) (wJ (xC (env:=[Aa (.exn (.ref c.NoLot)),Aa (.lst [.bl false,.bl true,.bl false,.bl false,.bl false,.bl false,.bl false,.bl false]),none]) rfl mN (.tail _ (.tail _ (.tail _ (.tail _ (.tail _ (.tail _ (.tail _ (.tail _ (.tail _ (.head _)))))))))) (xI (i:=1) (j:=9) nd rfl rfl (by decide))) (wJ (xC (env:=[Aa (.exn (.ref c.NoLot)),Aa (.lst [.bl false,.bl true,.bl false,.bl false,.bl false,.bl false,.bl false,.bl false]),none]) rfl mN (.tail _ (.tail _ (.tail _ (.tail _ (.tail _ (.tail _ (.tail _ (.tail _ (.tail _ (.tail _ (.head _))))))))))) (xI (i:=1) (j:=10) nd rfl rfl (by decide))) rfl))) (by decide))).trans (c:=.ok (.lst [.bl false,.bl true,.bl false,.bl false,.bl false,.bl false,.bl false,.bl false,.bl false,.bl false,.bl false]) S) (by kernel_rfl!)) ?_))
 refine qX (xT (b:=false) (S1:=S) (KP (KL (lP (KB (env:=[Aa (.exn (.ref c.NoLot)),Aa (.lst [.bl false,.bl true,.bl false,.bl false,.bl false,.bl false,.bl false,.bl false,.bl false,.bl false,.bl false]),none]) rfl mN))) (by kernel_rfl!)) (xG (env:=[Aa (.exn (.ref c.NoLot)),Aa (.lst [.bl false,.bl true,.bl false,.bl false,.bl false,.bl false,.bl false,.bl false,.bl false,.bl false,.bl false]),none]) (S:=S) rfl ?_))
 refine qX (xT (lP (xC (env:=[Aa (.exn (.ref c.NoLot)),Aa (.lst [.bl false,.bl true,.bl false,.bl false,.bl false,.bl false,.bl false,.bl false,.bl false,.bl false,.bl false]),none]) rfl mN (.tail _ (.tail _ (.tail _ (.tail _ (.tail _ (.tail _ (.tail _ (.tail _ (.tail _ (.head _)))))))))) (xI (i:=1) (j:=9) nd rfl rfl (by decide)))) (xG (env:=[Aa (.exn (.ref c.NoLot)),Aa (.lst [.bl false,.bl true,.bl false,.bl false,.bl false,.bl false,.bl false,.bl false,.bl false,.bl false,.bl false]),none]) (S:=S) rfl ?_))
 refine qX (xT (lP (xC (env:=[Aa (.exn (.ref c.NoLot)),Aa (.lst [.bl false,.bl true,.bl false,.bl false,.bl false,.bl false,.bl false,.bl false,.bl false,.bl false,.bl false]),none]) rfl mN (.tail _ (.tail _ (.tail _ (.tail _ (.tail _ (.tail _ (.tail _ (.tail _ (.tail _ (.tail _ (.head _))))))))))) (xI (i:=1) (j:=10) nd rfl rfl (by decide)))) (xG (env:=[Aa (.exn (.ref c.NoLot)),Aa (.lst [.bl false,.bl true,.bl false,.bl false,.bl false,.bl false,.bl false,.bl false,.bl false,.bl false,.bl false]),none]) (S:=S) rfl ?_))
 exact KZ (d:=.str "lot") (S:=S) (by kernel_rfl!) ⟨rfl,rfl⟩
def tP (c:Cl)(nd:(wB c).Nodup)(S:Sto):S__law_kind_of c [.exn (.ref c.NoNumber)] S=.ok (.str "number") S:=by
 have mN:c.NoNumber∈wB c:=.tail _ (.tail _ (.head _));rw[v6];refine kF (env:=[Aa (.exn (.ref c.NoNumber)),none,none]) rfl ?_;refine qX (k7 (zX (nH (wJ (xC (env:=[Aa (.exn (.ref c.NoNumber)),none,none]) rfl mN (.head _) (xI (i:=2) (j:=0) nd rfl rfl (by decide))) (wJ (xC (env:=[Aa (.exn (.ref c.NoNumber)),none,none]) rfl mN (.tail _ (.head _)) (xI (i:=2) (j:=1) nd rfl rfl (by decide))) (wJ (xC (env:=[Aa (.exn (.ref c.NoNumber)),none,none]) rfl mN (.tail _ (.tail _ (.head _))) (Eg _)) (wJ (xC (env:=[Aa (.exn (.ref c.NoNumber)),none,none]) rfl mN (.tail _ (.tail _ (.tail _ (.head _)))) (xI (i:=2) (j:=3) nd rfl rfl (by decide))) rfl)))) (by decide)) ?_))
 refine qX (k7 (zX ((oW (a:=.lst [.bl false,.bl false,.bl true,.bl false]) rfl (nH (wJ (xC (env:=[Aa (.exn (.ref c.NoNumber)),Aa (.lst [.bl false,.bl false,.bl true,.bl false]),none]) rfl mN (.tail _ (.tail _ (.tail _ (.tail _ (.head _))))) (xI (i:=2) (j:=4) nd rfl rfl (by decide))) (wJ (xC (env:=[Aa (.exn (.ref c.NoNumber)),Aa (.lst [.bl false,.bl false,.bl true,.bl false]),none]) rfl mN (.tail _ (.tail _ (.tail _ (.tail _ (.tail _ (.head _)))))) (xI (i:=2) (j:=5) nd rfl rfl (by decide))) (wJ (xC (env:=[Aa (.exn (.ref c.NoNumber)),Aa (.lst [.bl false,.bl false,.bl true,.bl false]),none]) rfl mN (.tail _ (.tail _ (.tail _ (.tail _ (.tail _ (.tail _ (.head _))))))) (xI (i:=2) (j:=6) nd rfl rfl (by decide))) (wJ (xC (env:=[Aa (.exn (.ref c.NoNumber)),Aa (.lst [.bl false,.bl false,.bl true,.bl false]),none]) rfl mN (.tail _ (.tail _ (.tail _ (.tail _ (.tail _ (.tail _ (.tail _ (.head _)))))))) (xI (i:=2) (j:=7) nd rfl rfl (by decide))) rfl)))) (by decide))).trans (c:=.ok (.lst [.bl false,.bl false,.bl true,.bl false,.bl false,.bl false,.bl false,.bl false]) S) (by kernel_rfl!)) ?_))
 refine qX (k7 (zX ((oW (a:=.lst [.bl false,.bl false,.bl true,.bl false,.bl false,.bl false,.bl false,.bl false]) rfl (nH (wJ (xC (env:=[Aa (.exn (.ref c.NoNumber)),Aa (.lst [.bl false,.bl false,.bl true,.bl false,.bl false,.bl false,.bl false,.bl false]),none]) rfl mN (.tail _ (.tail _ (.tail _ (.tail _ (.tail _ (.tail _ (.tail _ (.tail _ (.head _))))))))) (xI (i:=2) (j:=8) nd rfl rfl (by decide))) (wJ (xC (env:=[Aa (.exn (.ref c.NoNumber)),Aa (.lst [.bl false,.bl false,.bl true,.bl false,.bl false,.bl false,.bl false,.bl false]),none]) rfl mN (.tail _ (.tail _ (.tail _ (.tail _ (.tail _ (.tail _ (.tail _ (.tail _ (.tail _ (.head _)))))))))) (xI (i:=2) (j:=9) nd rfl rfl (by decide))) (wJ (xC (env:=[Aa (.exn (.ref c.NoNumber)),Aa (.lst [.bl false,.bl false,.bl true,.bl false,.bl false,.bl false,.bl false,.bl false]),none]) rfl mN (.tail _ (.tail _ (.tail _ (.tail _ (.tail _ (.tail _ (.tail _ (.tail _ (.tail _ (.tail _ (.head _))))))))))) (xI (i:=2) (j:=10) nd rfl rfl (by decide))) rfl))) (by decide))).trans (c:=.ok (.lst [.bl false,.bl false,.bl true,.bl false,.bl false,.bl false,.bl false,.bl false,.bl false,.bl false,.bl false]) S) (by kernel_rfl!)) ?_))
 refine qX (xT (b:=false) (S1:=S) (KP (KL (lP (KB (env:=[Aa (.exn (.ref c.NoNumber)),Aa (.lst [.bl false,.bl false,.bl true,.bl false,.bl false,.bl false,.bl false,.bl false,.bl false,.bl false,.bl false]),none]) rfl mN))) (by kernel_rfl!)) (xG (env:=[Aa (.exn (.ref c.NoNumber)),Aa (.lst [.bl false,.bl false,.bl true,.bl false,.bl false,.bl false,.bl false,.bl false,.bl false,.bl false,.bl false]),none]) (S:=S) rfl ?_))
 refine qX (xT (lP (xC (env:=[Aa (.exn (.ref c.NoNumber)),Aa (.lst [.bl false,.bl false,.bl true,.bl false,.bl false,.bl false,.bl false,.bl false,.bl false,.bl false,.bl false]),none]) rfl mN (.tail _ (.tail _ (.tail _ (.tail _ (.tail _ (.tail _ (.tail _ (.tail _ (.tail _ (.head _)))))))))) (xI (i:=2) (j:=9) nd rfl rfl (by decide)))) (xG (env:=[Aa (.exn (.ref c.NoNumber)),Aa (.lst [.bl false,.bl false,.bl true,.bl false,.bl false,.bl false,.bl false,.bl false,.bl false,.bl false,.bl false]),none]) (S:=S) rfl ?_))
 refine qX (xT (lP (xC (env:=[Aa (.exn (.ref c.NoNumber)),Aa (.lst [.bl false,.bl false,.bl true,.bl false,.bl false,.bl false,.bl false,.bl false,.bl false,.bl false,.bl false]),none]) rfl mN (.tail _ (.tail _ (.tail _ (.tail _ (.tail _ (.tail _ (.tail _ (.tail _ (.tail _ (.tail _ (.head _))))))))))) (xI (i:=2) (j:=10) nd rfl rfl (by decide)))) (xG (env:=[Aa (.exn (.ref c.NoNumber)),Aa (.lst [.bl false,.bl false,.bl true,.bl false,.bl false,.bl false,.bl false,.bl false,.bl false,.bl false,.bl false]),none]) (S:=S) rfl ?_))
 exact KZ (d:=.str "number") (S:=S) (by kernel_rfl!) ⟨rfl,rfl⟩
def Pn (d:D):Prop:=∃ p,pyD d=Aa p
def WC {d:D}(h:Pn d):(∃ i,d=.int i)∨wA d:=by
 obtain⟨p,h⟩:=h;cases d with
 |int i=>exact .inl ⟨i,rfl⟩
 |non=>exact .inr W5
 |bl b=>exact .inr (Q1 b)
 |str x=>exact .inr (W6 x)
 |tup x=>exact .inr (W7 x)
 |lst x=>exact .inr (W4 x)
 |dct0=>exact .inr W3
 |_=>simp[pyD] at h
def pns:∀ {ps:Ab PyData},kA xs=Aa ps→∀ x∈xs,Pn x:=by
 induction xs with
 |nil=>intro ps _ x hx;cases hx
 |cons d ds ih =>
  intro ps h x hx;simp only[kA] at h;obtain⟨p,h1,h2⟩:=Ei.mp h;obtain⟨ps',h3,_⟩:=El.mp h2;rcases Aw.mp hx with rfl|hx
  ·exact⟨p,h1⟩
  ·exact ih h3 x hx
def WD (h:Pn (.tup xs)):∀ x∈xs,Pn x:=by
 obtain⟨p,h⟩:=h;simp only[pyD] at h;obtain⟨ps,h1,_⟩:=El.mp h;exact pns h1
def Q5 {d:D}(h:Pn d):(∃ xs,d=.tup xs)∨∀ S,zW (dTr (qE zJ (qA (qB 0) (qA (dC (.ty "tuple")) (qC))))) [Aa d] S=.ok true S:=by
 have one:∀ (a:Ej),(∀ S,tyD d S=Aa a)→w4 a "tuple" = false→∀ S,zW (dTr (qE zJ (qA (qB 0) (qA (dC (.ty "tuple")) (qC))))) [Aa d] S=.ok true S:=λa h1 h2 S=>by
  have:=j8 (w5 ((ZF (f1:=qB 0) (f2:=dC (.ty "tuple")) (env:=[Aa d]) (S:=S) rfl rfl).trans (gF d "tuple" a S jN.2.2.1 (h1 S))));rw[h2] at this;exact this
 obtain⟨p,h⟩:=h;cases d with
 |tup xs=>exact .inl ⟨xs,rfl⟩
 |int i=>exact .inr (one "int" (λ_=>rfl) (kd))
 |non=>exact .inr (one "NoneType" (λ_=>rfl) (kd))
 |bl b=>exact .inr (one "bool" (λ_=>rfl) (kd))
 |str x=>exact .inr (one "str" (λ_=>rfl) (kd))
 |lst x=>exact .inr (one "list" (λ_=>rfl) (kd))
 |dct0=>exact .inr (one "dict" (λ_=>rfl) (kd))
 |_=>simp[pyD] at h
def uR (xs:Ab D)(S:Sto):zW (dTr (qE zJ (qA (qB 0) (qA (dC (.ty "tuple")) (qC))))) [Aa (.tup xs)] S=.ok false S:=by
 have:=j8 (w5 ((ZF (f1:=qB 0) (f2:=dC (.ty "tuple")) (env:=[Aa (.tup xs)]) (S:=S) rfl rfl).trans (gF (.tup xs) "tuple" "tuple" S jN.2.2.1 rfl)));rw[M5.2.2.2.2.2.1] at this;exact this
def isI:D→Ar
 |.int i=>decide (-1000≤i∧i≤1000)
 |_=>false
def z9:D→Ar
 |.tup [a,b]=>isI a&&isI b
 |_=>false
def XC {d:D}(h:wA d):isI d=false:=by
 cases d with
 |int i =>
  rcases h [] with h|h|h|h|h|h <;> (rw[SW] at h;exact absurd (Co h) (by decide))
 |_=>rfl
def A7 (x:D)(S:Sto)(h:Pn x):S_is_within [x,.int (-1000),.int 1000] S=.ok (.bl (isI x)) S:=by
 rcases WC h with⟨i,rfl⟩|h
 ·exact J9 i _ _ S
 ·rw[XC h];exact cN x _ _ S h
def cM (i:Aj)(S:Sto):S__law_whole [.int i] S=.ok (.bl true) S:=by
 rw[vX]
 kernel_rfl!
def QD (d:D)(S:Sto)(h:wA d):S__law_whole [d] S=.ok (.bl false) S:=by
 rw[vX];unfold b__law_whole;rcases h S with h|h|h|h|h|h <;> simp[qQ,uF,F4,AN,AM,qP,sIf,qU,zM,vI,zB,gNm,gSb,gTp,qM,zU,kX,CW,AY,HS,dC,qB,d1,d2,qA,qC,qE,qG,dTr,zW,wC,zC,v7,oH,dIf,xR,zG,zQ,sJ,dBm,dSl,qT,qZ,wP,y9,Res.bind,Res.toS,_D.uB,_D.vA,AR,AO,SW,AZ,AT,AU,AV,AS,AL,AK,NO,gLt,gLe,gGt,gGe,_D.xN,AX,gF _ _ _ _ jN.1 h,gF _ _ _ _ jN.2.1 h,w4]
def YX (i:Aj)(S:Sto):xR gLe gLe (d1 yM (dC (.int 1000))) (qB 0) (dC (.int 1000)) [Aa (.int i)] S=.ok (.bl (decide (-1000≤i∧i≤1000))) S:=by
 have e:d1 yM (dC (.int 1000)) [Aa (.int i)] S=.ok (.int (-1000)) S:=rfl;unfold xR;rw[e];simp[qQ,uF,F4,AN,AM,qP,sIf,qU,zM,vI,zB,gNm,gSb,gTp,qM,zU,kX,CW,AY,HS,dC,qB,d1,d2,qA,qC,qE,qG,dTr,zW,wC,zC,v7,oH,dIf,xR,zG,zQ,sJ,dBm,dSl,qT,qZ,wP,y9,Res.bind,Res.toS,_D.uB,_D.vA,AR,AO,SW,AZ,AT,AU,AV,AS,AL,AK,NO,gLt,gLe,gGt,gGe,_D.xN,AX,Res.bind];by_cases h:(-1000:Aj)≤i <;> simp[h]
def EO (x:D)(S:Sto)(h:Pn x):v7 (qG 1 (okO S__law_whole) (qA (qB 0) (qC))) (xR gLe gLe (d1 yM (dC (.int 1000))) (qB 0) (dC (.int 1000))) [Aa x] S=.ok (.bl (isI x)) S:=by
 rcases WC h with⟨i,rfl⟩|h
 ·exact sW (a:=true) ((xA (f1:=qB 0) rfl).trans (jA (cM i S))) (λ_=>YX i S) (by intro z;cases z)
 ·rw[XC h]
  exact sW (a:=false) (b:=false) ((xA (f1:=qB 0) rfl).trans (jA (QD x S h))) (by intro z;cases z) (λ_=>rfl)
def dM (fe:DE)(S:Sto)(hfe:∀ x,Pn x→fe [Aa x] S=.ok (.bl (isI x)) S)(d:D)(h:Pn d) :
  Rt (qP (sIf (wC (zW (dTr (qE zJ (qA (qB 0) (qA (dC (.ty "tuple")) (qC)))))) (dTr (d2 gNe (qE zL (qA (qB 0) (qC))) (dC (.int 2))))) (qU (dC (.bl false))) (zM)) (qU (qE (uN false) (qA (qS false [none] (dIt (qB 0)) (gNm 0) (zC) (qY fe)) (qC)))) [Aa d] S) λd' S1=>d'=.bl (z9 d)∧S1=S:=by
 rcases Q5 h with⟨xs,rfl⟩|hn
 ·have hl:dTr (d2 gNe (qE zL (qA (qB 0) (qC))) (dC (.int 2))) [Aa (.tup xs)] S=.ok (decide ((xs.length:Aj)≠2)) S:=w5 ((qN ((wU (f1:=qB 0) rfl).trans (p8 xs S)) rfl).trans (aF _ _ _))
  have ht:=vH (uR xs S) (λ_=>hl) (by intro z;cases z)
  rw[Mf] at ht;by_cases h2:xs.length=2
  ·rw[Cz om] at ht
   refine qX (xT ht (xG (S:=S) rfl (xE (zX ?_ (d:=.bl (z9 (.tup xs))) (S:=S) ⟨rfl,rfl⟩))));have hc:=ZL (cap:=[none]) (g:=gNm 0) (t:=zC) (fe:=fe) (fi:=dIt (qB 0)) (env:=[Aa (.tup xs)]) (S:=S) (o:=none) (items:=xs) rfl trivial (λ_=>true) (λx=>.bl (isI x)) (λenv=>∃ a,env=[a]) ⟨none,rfl⟩ (by rw[h2];decide)
    (λx hx env ⟨a,q⟩=>by subst q;exact⟨[Aa x],rfl,⟨_,rfl⟩,rfl,λ_=>hfe x (WD h x hx)⟩)
   rw[xW] at hc;rw[sV (p:=isI) hc]
   match xs,h2 with
   |[a,b],_=>simp[z9]
  ·rw[De om] at ht
   refine vU (kE ht (xE (zX (d:=.bl false) (S:=S) rfl ⟨?_,rfl⟩)))
   match xs,h2 with
   |[],_=>rfl
   |[a],_=>rfl
   |[a,b],h=>exact absurd rfl h
   |a::b::c::r,_=>rfl
 ·have ht:=vH (b:=false) (g:=dTr (d2 gNe (qE zL (qA (qB 0) (qC))) (dC (.int 2)))) (hn S) (by intro z;cases z) (λ_=>rfl)
  refine vU (kE ht (xE (zX (d:=.bl false) (S:=S) rfl ⟨?_,rfl⟩)))
  congr 1
  unfold z9
  split
  ·have:=hn S
   rw[uR] at this;cases this
  ·rfl
def Q7 (d:D)(S:Sto)(h:Pn d):S_is_point [d] S=.ok (.bl (z9 d)) S:=by
 rw[pQ];exact kF (env:=[Aa d]) rfl (dM _ S (λx hx=>(gQ (f1:=qB 0) rfl rfl rfl).trans (jA (A7 x S hx))) d h)
def cL (d:D)(S:Sto)(h:Pn d):S__law_is_point [d] S=.ok (.bl (z9 d)) S:=by
 rw[uZ];exact kF (env:=[Aa d]) rfl (dM _ S (λx hx=>EO x S hx) d h)
def upB (ks:Ab (Ab Aj)):Ar:=(ks.zip (ks.drop 1)).all λp=>_H.lexLt p.1 p.2
def xO:D→Ar
 |.tup xs=>decide (1≤xs.length∧xs.length≤40)&&xs.all z9&&(match yE xs with|some ks=>upB ks|none=>false)
 |_=>false
set_option tactic.hygienic true in
def tM:∀ (xs:Ab D),xs.all z9=true→∃ ks:Ab (Ab Aj),xs=ks.map tpD
 |[],_=>⟨[],rfl⟩
 |d::ds,h=>by
  rw[Ml,Br] at h;obtain⟨ks,rfl⟩:=tM ds h.2;have h1:=h.1;unfold z9 at h1
  split at h1
  ·rename_i a b
   rw[Br] at h1;cases a with
   |int x =>
    cases b with
    |int y=>exact⟨[x,y]::ks,rfl⟩
    |_=>simp[isI] at h1
   |_=>simp[isI] at h1
  ·cases h1
def E2 (a b:Ab Aj)(S:Sto):mC (tpD a) (tpD b) S=.ok (.bl (_H.lexLt a b)) S:=by
 unfold mC tpD;simp only[j6]
def gN:∀ (ks:Ab (Ab Aj)),upB ks=true↔ks.Pairwise (λa b=>_H.lexLt a b=true)
 |[]=>by simp[upB]
 |[a]=>by simp[upB]
 |a::b::r=>by
  have ih:=gN (b::r);have e:upB (a::b::r)=(_H.lexLt a b&&upB (b::r)):=by simp[upB]
  rw[e,Br,ih,Ez (a:=a)];constructor
  ·rintro⟨h1,h2⟩
   refine⟨λx hx=>?_,h2⟩;rcases Aw.mp hx with rfl|hx
   ·exact h1
   ·exact _S.k9.tr h1 ((Ez.mp h2).1 x hx)
  ·rintro⟨h1,h2⟩
   exact⟨h1 b (by simp),h2⟩
def RA (ks ms:Ab (Ab Aj)):yJ (ks.map tpD) (ms.map tpD)=(ks.zip ms).map λp=>D.tup [tpD p.1,tpD p.2]:=by
 unfold yJ
 induction ks generalizing ms with
 |nil=>rfl
 |cons k ks ih =>
  cases ms with
  |nil=>rfl
  |cons m ms=>exact congrArg (_::·) (ih ms)
def RD (xs:Ab D):zV xs (Aa 1) none=xs.drop 1:=by
 unfold zV;have h1:_H.sIx xs.length 0 (Aa 1)=min 1 xs.length:=rfl;have h2:_H.sIx xs.length xs.length none=xs.length:=rfl;rw[h1,h2];cases xs with
 |nil=>rfl
 |cons x r=>simp
def cK (ks:Ab (Ab Aj))(S:Sto)(hl:ks.length≤lim):S_is_rising [.tup (ks.map tpD)] S=.ok (.bl (upB ks)) S:=by
 rw[gA];refine jO (env:=[Aa (.tup (ks.map tpD))]) rfl ?_;have hz:xS (b8 (qA (qB 0) (qA (dSl (qB 0) (qT (dC (.int 1))) (qZ)) (qC)))) [Aa (.tup (ks.map tpD))] S=.ok (none,(ks.zip (ks.drop 1)).map λp=>D.tup [tpD p.1,tpD p.2]) S:=by
  have hs:dSl (qB 0) (qT (dC (.int 1))) (qZ) [Aa (.tup (ks.map tpD))] S=.ok (.tup ((ks.drop 1).map tpD)) S:=by
   have:gSl (.tup (ks.map tpD)) (Aa 1) none S=.ok (.tup ((ks.drop 1).map tpD)) S:=by
    show Res.ok (D.tup (zV (ks.map tpD) (Aa 1) none)) S=_;rw[RD,OZ]
   exact this
  unfold xS b8;rw[xL (f1:=qB 0) rfl hs];show Res.ok (none,yJ (ks.map tpD) ((ks.drop 1).map tpD)) S=_;rw[RA]
 have hc:=jL (enc:=λp:Ab Aj × Ab Aj=>D.tup [tpD p.1,tpD p.2]) (cap:=[none,none]) (g:=gTp 2 (qM (gNm 0) (qM (gNm 1) (zU)))) (t:=zC) (fe:=d2 mC (qB 0) (qB 1)) hz trivial (λ_=>true) (λp=>.bl (_H.lexLt p.1 p.2)) (λenv=>∃ a b,env=[a,b]) ⟨none,none,rfl⟩ (by simp;omega)
  (λp _ env ⟨a,b,q⟩=>by
   subst q;exact⟨[Aa (tpD p.1),Aa (tpD p.2)],rfl,⟨_,_,rfl⟩,rfl,λ_=>(qN (a:=tpD p.1) (b:=tpD p.2) rfl rfl).trans (E2 _ _ _)⟩)
 rw[xW] at hc;exact sV (p:=λp:Ab Aj × Ab Aj=>_H.lexLt p.1 p.2) hc
def eG (xs:Ab D)(S:Sto)(f:DE)(hf:f [Aa (.tup xs)] S=.ok (.int 40) S):zW (dTr (xR gLe gLe (dC (.int 1)) (qE zL (qA (qB 0) (qC))) f)) [Aa (.tup xs)] S=.ok (!decide (1≤xs.length∧xs.length≤40)) S:=by
 have hl:qE zL (qA (qB 0) (qC)) [Aa (.tup xs)] S=.ok (.int xs.length) S:=(wU (f1:=qB 0) rfl).trans (p8 xs S);refine j8 (w5 ?_);unfold xR;rw[show dC (.int 1) [Aa (.tup xs)] S=.ok (.int 1) S from rfl]
 simp only[Res.bind];rw[hl];simp[qQ,uF,F4,AN,AM,qP,sIf,qU,zM,vI,zB,gNm,gSb,gTp,qM,zU,kX,CW,AY,HS,dC,qB,d1,d2,qA,qC,qE,qG,dTr,zW,wC,zC,v7,oH,dIf,xR,zG,zQ,sJ,dBm,dSl,qT,qZ,wP,y9,Res.bind,Res.toS,_D.uB,_D.vA,AR,AO,SW,AZ,AT,AU,AV,AS,AL,AK,NO,gLt,gLe,gGt,gGe,_D.xN,AX,hf];by_cases h:1≤xs.length
 ·have h':(1:Aj)≤(xs.length:Aj):=by omega
  simp[h,h'];omega
 ·have h':¬ (1:Aj)≤(xs.length:Aj):=by omega
  simp[h,h']
def eU (F:DF)(xs:Ab D)(S:Sto)(hF:∀ x,Pn x→F [x] S=.ok (.bl (z9 x)) S)(h:Pn (.tup xs))(hl:xs.length≤40):qE (uN false) (qA (qS false [none] (dIt (qB 0)) (gNm 0) (zC) (qY (qG 1 (okO F) (qA (qB 0) (qC))))) (qC)) [Aa (.tup xs)] S=.ok (.bl (xs.all z9)) S:=by
 have hc:=ZL (cap:=[none]) (g:=gNm 0) (t:=zC) (fe:=qG 1 (okO F) (qA (qB 0) (qC))) (fi:=dIt (qB 0)) (env:=[Aa (.tup xs)]) (S:=S) (o:=none) (items:=xs) rfl trivial (λ_=>true) (λx=>.bl (z9 x)) (λenv=>∃ a,env=[a]) ⟨none,rfl⟩ (by unfold lim;omega)
  (λx hx env ⟨a,q⟩=>by subst q;exact⟨[Aa x],rfl,⟨_,rfl⟩,rfl,λ_=>(xA (f1:=qB 0) rfl).trans (jA (hF x (WD h x hx)))⟩)
 rw[xW] at hc;exact sV (p:=z9) hc
def J2 (d:D)(S:Sto)(h:Pn d):S_is_lot [d] S=.ok (.bl (xO d)) S:=by
 rw[fT];refine kF (env:=[Aa d]) rfl ?_;unfold b_is_lot;rcases Q5 h with⟨xs,rfl⟩|hn
 ·have ht:=vH (uR xs S) (λ_=>eG xs S (dC (.int (40))) rfl) (by intro z;cases z)
  rw[Mf] at ht;by_cases hl:1≤xs.length∧xs.length≤40
  ·rw[De hl] at ht
   refine qX (xT ht (xG (S:=S) rfl (xE (zX ?_ (d:=.bl (xO (.tup xs))) (S:=S) ⟨rfl,rfl⟩))));have hp:=eU S_is_point xs S (λx hx=>Q7 x S hx) h hl.2;have e:xO (.tup xs)=(xs.all z9&&(match yE xs with|some ks=>upB ks|none=>false)):=by
    show (decide (1≤xs.length∧xs.length≤40)&&xs.all z9&&_)=_;rw[De hl,Te]
   rw[e];refine sW hp (λha=>?_) (λ_=>rfl);obtain⟨ks,rfl⟩:=tM xs ha;rw[yU];exact(xA (f1:=qB 0) rfl).trans (cK ks S (by rw[Aq] at hl;unfold lim;omega))
  ·rw[Cz hl] at ht
   refine vU (kE ht (xE (zX (d:=.bl false) (S:=S) rfl ⟨?_,rfl⟩)));show _=D.bl (decide (1≤xs.length∧xs.length≤40)&&xs.all z9&&_);rw[Cz hl];rfl
 ·have ht:=vH (b:=false) (g:=zW (dTr (xR gLe gLe (dC (.int 1)) (qE zL (qA (qB 0) (qC))) (dC (.int (40)))))) (hn S) (by intro z;cases z) (λ_=>rfl)
  refine vU (kE ht (xE (zX (d:=.bl false) (S:=S) rfl ⟨?_,rfl⟩)))
  congr 1
  unfold xO
  split
  ·have:=hn S
   rw[uR] at this;cases this
  ·rfl
def rX {K:Type}(lt':K→K→Ar)(x:K):∀ l:Ab K,(_S.jY lt' x l).length≤l.length+1
 |[]=>by simp[_S.jY]
 |y::l=>by
  have:=rX lt' x l;unfold _S.jY
  split
  ·simp
  ·split
   ·simp
    omega
   ·simp
def fN {K:Type}(lt':K→K→Ar):∀ l:Ab K,(_S.srt lt' l).length≤l.length
 |[]=>by simp[_S.srt]
 |x::l=>by
  have h1:=rX lt' x (_S.srt lt' l);have h2:=fN lt' l;rw[_S.srt,Ci];omega
def iU (ks:Ab (Ab Aj))(h:ks≠[])(hl:ks.length<64)(he:∀ k∈ks,k≠[]):yS (ks.map tpD)=Aa ((_S.srt _H.lexLt ks).map tpD):=by
 unfold yS;have h0:xH (ks.map tpD)=none:=by
  cases ks with
  |nil=>exact absurd rfl h
  |cons k r=>rfl
 rw[h0,yU];have h1:=fN _H.lexLt ks;have h2:(ks.all λk=>!k.isEmpty)=true:=by
  rw[Az];intro k hk;have:=he k hk;cases k with
  |nil=>exact absurd rfl this
  |cons _ _=>rfl
 have h3:(decide ((_S.srt _H.lexLt ks).length≤1000)&&ks.all λk=>!k.isEmpty)=true:=by
  rw[h2,De om];rfl
 show (if (decide ((_S.srt _H.lexLt ks).length≤1000)&&ks.all λk=>!k.isEmpty)=true then _ else _)=_
 rw[Bi h3]
def R0 (ks:Ab (Ab Aj)):upB ks=decide (ks=_S.srt _H.lexLt ks):=by
 by_cases h:upB ks=true
 ·rw[h]
  symm
  rw[Ct];exact _S.fO _S.k9 ((gN ks).mp h) (_S.vD _S.k9 ks) λx=>(_S.y7 _S.k9 x ks).symm
 ·have h':upB ks=false:=by simpa using h
  rw[h']
  symm
  rw[Fj];intro e;apply h;rw[gN,e];exact _S.vD _S.k9 ks
def a9:∀ (a b:Ab Aj),xV (a.map D.int) (b.map D.int)=decide (a=b)
 |[],[]=>rfl
 |[],_::_=>rfl
 |_::_,[]=>rfl
 |x::a,y::b=>by
  show ((x == y)&&xV (a.map D.int) (b.map D.int))=_;rw[a9 a b];by_cases h1:x=y <;> by_cases h2:a=b <;> simp[h1,h2]
def X2:∀ (a b:Ab (Ab Aj)),xV (a.map tpD) (b.map tpD)=decide (a=b)
 |[],[]=>rfl
 |[],_::_=>rfl
 |_::_,[]=>rfl
 |x::a,y::b=>by
  show (xV (x.map D.int) (y.map D.int)&&xV (a.map tpD) (b.map tpD))=_;rw[a9,X2 a b];by_cases h1:x=y <;> by_cases h2:a=b <;> simp[h1,h2]
def WB (ks:Ab (Ab Aj)):pl xM (.lst (ks.map tpD))=true:=by
 show (ks.map tpD).all (pl 29)=true;rw[IY,Az];intro k _;show (k.map D.int).all (pl 28)=true;rw[IY,Az];intro i _;rfl
def WV (d:D)(S:Sto)(h:Pn d):S__law_is_lot [d] S=.ok (.bl (xO d)) S:=by
 rw[jQ];refine kF (env:=[Aa d]) rfl ?_;unfold b__law_is_lot;rcases Q5 h with⟨xs,rfl⟩|hn
 ·by_cases hl:1≤xs.length∧xs.length≤40
  ·have hp:=j8 (w5 (eU S__law_is_point xs S (λx hx=>cL x S hx) h hl.2))
   have ht:=vH (uR xs S) (λ_=>vH (eG xs S (dC (.int 40)) rfl) (λ_=>hp) (λ_=>rfl)) (by intro z;cases z)
   have e:xO (.tup xs)=(xs.all z9&&(match yE xs with|some ks=>upB ks|none=>false)):=by
    show (decide (1≤xs.length∧xs.length≤40)&&xs.all z9&&_)=_;rw[De hl,Te]
   rw[e];rw[De hl,Mf,IL,Mf] at ht;cases ha:xs.all z9 with
   |true =>
    rw[ha] at ht;obtain⟨ks,rfl⟩:=tM xs ha;rw[Aq] at hl;have hne:∀ k∈ks,k≠[]:=λk hk z=>by
     subst z;have:=Az.mp ha (tpD []) (Ic hk);cases this
    have hs:wH (qB 0) [Aa (.tup (ks.map tpD))] S=.ok (.lst ((_S.srt _H.lexLt ks).map tpD)) S:=by
     unfold wH;rw[show qB 0 [Aa (D.tup (ks.map tpD))] S=.ok (.tup (ks.map tpD)) S from rfl]
     simp only[Res.bind,bN,Ka,iU ks (by intro z;subst z;simp at hl) om hne]
    have hli:qE bX (qA (qB 0) (qC)) [Aa (.tup (ks.map tpD))] S=.ok (.lst (ks.map tpD)) S:=(wU (f1:=qB 0) rfl).trans rfl;refine qX (xT ht (xG (S:=S) rfl (xE (zX ((qN hli hs).trans ?_) (d:=.bl _) (S:=S) ⟨rfl,rfl⟩))));rw[yU];show _=Res.ok (D.bl (upB ks)) S;rw[R0];unfold gEq;rw[WB,WB];show Res.ok (D.bl (xV (ks.map tpD) ((_S.srt _H.lexLt ks).map tpD))) S=_;rw[X2]
   |false =>
    rw[ha] at ht;exact vU (kE ht (xE (zX (d:=.bl false) (S:=S) rfl ⟨rfl,rfl⟩)))
  ·have ht:=vH (uR xs S) (λ_=>vH (b:=false) (g:=zW (dTr (qE (uN false) (qA (qS false [none] (dIt (qB 0)) (gNm 0) (zC) (qY (qG 1 (okO S__law_is_point) (qA (qB 0) (qC))))) (qC))))) (eG xs S (dC (.int 40)) rfl) (λz=>by rw[Cz hl] at z;cases z) (λ_=>rfl)) (by intro z;cases z)
   rw[Cz hl] at ht;refine vU (kE ht (xE (zX (d:=.bl false) (S:=S) rfl ⟨?_,rfl⟩)));show _=D.bl (decide (1≤xs.length∧xs.length≤40)&&xs.all z9&&_);rw[Cz hl];rfl
 ·have ht:=vH (b:=false) (g:=wC (zW (dTr (xR gLe gLe (dC (.int 1)) (qE zL (qA (qB 0) (qC))) (dC (.int 40))))) (zW (dTr (qE (uN false) (qA (qS false [none] (dIt (qB 0)) (gNm 0) (zC) (qY (qG 1 (okO S__law_is_point) (qA (qB 0) (qC))))) (qC)))))) (hn S) (by intro z;cases z) (λ_=>rfl)
  refine vU (kE ht (xE (zX (d:=.bl false) (S:=S) rfl ⟨?_,rfl⟩)))
  congr 1
  unfold xO
  split
  ·have:=hn S
   rw[uR] at this;cases this
  ·rfl
def eT:∀ {xs:Ab D},(∀ x∈xs,Pn x)→∃ ps,kA xs=Aa ps
 |[],_=>⟨[],rfl⟩
 |d::ds,h=>by
  obtain⟨p,e⟩:=h d (.head _);obtain⟨ps,es⟩:=eT λx hx=>h x (.tail _ hx);exact⟨p::ps,by simp only[kA,e,es];rfl⟩
def eJ (h:∀ x∈xs,Pn x):Pn (.tup xs):=by
 obtain⟨ps,e⟩:=eT h;exact⟨.tuple ps,by simp only[pyD,e];rfl⟩
def L7 (h:∀ x∈xs,Pn x):Pn (.lst xs):=by
 obtain⟨ps,e⟩:=eT h;exact⟨.list ps,by simp only[pyD,e];rfl⟩
set_option tactic.hygienic true in
def bK {d:D}(h:z9 d=true):∃ x y:Aj,d=.tup [.int x,.int y]∧(-1000≤x∧x≤1000)∧(-1000≤y∧y≤1000):=by
 unfold z9 at h
 split at h
 ·rename_i a b
  rw[Br] at h;cases a with
  |int x =>
   cases b with
   |int y=>exact⟨x,y,rfl,Cu h.1,Cu h.2⟩
   |_=>simp[isI] at h
  |_=>simp[isI] at h
 ·cases h
def tL {d:D}(h:z9 d=true):Pn d:=by
 obtain⟨x,y,rfl,_⟩:=bK h;exact⟨_,rfl⟩
def gM (h:xs.all z9=true):Pn (.tup xs):=eJ λx hx=>tL (Az.mp h x hx)
def wF {S:Sto}{p:Ai}{m:Aj}{f2:DE}{env:qD}(h:zY S1 p)(hm:0<m∧m<1073741824)(he:env[i]? = Aa (Aa (.loc p)))(h2:f2 env S=.ok (.int m) S1):∃ (r:Ai) (S':Sto),qG 2 S__law_draw (qA (qB i) (qA f2 (qC))) env S=.ok (.int (r:Aj)) S'∧(r:Aj)<m∧zY S' p:=by
 obtain⟨r,v,f,e,a1,a2⟩:=SC S1 p m h hm;obtain⟨n,rfl⟩:=Int.eq_ofNat_of_zero_le a1;exact⟨n,_,(u3 (a:=.loc p) (S1:=S) (by simp only[qB,he]) h2).trans e,a2,UN h v f⟩
def KR {env:qD}{S:Sto}{r:Ai}(h:f env S=.ok (.int (r:Aj)) S'):d2 qV (dC (.int 1)) f env S=.ok (.int ((r+1:Ai):Aj)) S':=by
 refine(qN (a:=.int 1) (S1:=S) rfl h).trans ?_;rw[w8]
 congr 2
 omega
def goE {g:DG}{t:DT}(C:qD→Sto→Prop)(R:D→Prop):∀ (items:Ab D) (env:qD) (S:Sto) (acc:Ab D),
  C env S→acc.length+items.length≤lim→(∀ d env S,d∈items→C env S→∃ env1 x S1,g d env S=.ok env1 S∧t env1 S=.ok true S∧fe env1 S=.ok x S1∧C env1 S1∧R x) →
  ∃ ys env' S',goL none g t (qY fe) items env S acc=.ok (env',acc++ys) S'∧ys.length=items.length∧(∀ y∈ys,R y)∧C env' S'
 |[],env,S,acc,c,_,_=>by
  have hs:bO none S=true:=yD.mpr trivial;exact⟨[],env,S,by simp only[goL,hs,Dk,Fo],rfl,(λy hy=>by cases hy),c⟩
 |d::ds,env,S,acc,c,hl,step=>by
  have hs:bO none S=true:=yD.mpr trivial;obtain⟨env1,x,S1,h1,h2,h3,c1,hx⟩:=step d env S (by simp) c
  rw[Ci] at hl;obtain⟨ys,env',S',e,l,hy,c'⟩:=goE C R ds env1 S1 (acc++[x]) c1 (by rw[Cb];simp;omega) λd' env S hd=>step d' env S (by simp[hd])
  refine⟨x::ys,env',S',?_,by simp[l],?_,c'⟩
  ·have hk:=gY h3 (show acc.length<lim by omega)
   simp only[goL,hs,Dk,h1,h2,hk,Res.bind];rw[e,Cd];rfl
  ·intro y hy'
   rcases Aw.mp hy' with rfl|hy'
   ·exact hx
   ·exact hy y hy'
def sI {fi:DI2}{g:DG}{t:DT}{env:qD}{S S0:Sto}{items:Ab D}(C:qD→Sto→Prop)(R:D→Prop)(h:fi env S0=.ok (none,items) S)(h0:C (x0 cap env) S)(hl:items.length≤lim)
  (step:∀ d env S,d∈items→C env S→∃ env1 x S1,g d env S=.ok env1 S∧t env1 S=.ok true S∧fe env1 S=.ok x S1∧C env1 S1∧R x) :
  ∃ ys env' S',qS false cap fi g t (qY fe) env S0=.ok (.lst ys) S'∧ys.length=items.length∧(∀ y∈ys,R y)∧C env' S':=by
 obtain⟨ys,env',S',e,l,hy,c⟩:=goE C R items (x0 cap env) S [] h0 (by simpa using hl) step
 exact⟨ys,env',S',wE h e,l,hy,c⟩
def tW (w:Aj)(env:qD)(S:Sto)(h1:env[1]? = Aa (Aa (.int w))):d2 qV (d2 xZ (dC (.int 2)) (qB 1)) (dC (.int 1)) env S=.ok (.int (2*w+1)) S:=
 (qN ((qN (a:=.int 2) rfl (xY h1)).trans (uQ 2 w S om)) rfl).trans (w8 _ _ _)
def iL (S:Sto)(p:Ai)(w:Aj)(h:zY S p)(hw:0≤w∧w≤2000):∃ (x y:Aj) (S':Sto),S__law_point [.loc p,.int w] S=.ok (.tup [.int x,.int y]) S'∧(-w≤x∧x≤w)∧(-w≤y∧y≤w)∧zY S' p:=by
 obtain⟨a,S1,e1,ha,p1⟩:=wF (S:=S) (i:=0) (env:=[Aa (.loc p),Aa (.int w)]) (m:=2*w+1) h om rfl (tW w _ S rfl);obtain⟨b,S2,e2,hb,p2⟩:=wF (S:=S1) (i:=0) (env:=[Aa (.loc p),Aa (.int w)]) (m:=2*w+1) p1 om rfl (tW w _ S1 rfl);refine⟨a-w,b-w,S2,?_,by omega,by omega,p2⟩
 rw[kM];refine jO (env:=[Aa (.loc p),Aa (.int w)]) rfl ?_;have d1:d2 xN (qG 2 S__law_draw (qA (qB 0) (qA (d2 qV (d2 xZ (dC (.int 2)) (qB 1)) (dC (.int 1))) (qC)))) (qB 1) [Aa (.loc p),Aa (.int w)] S=.ok (.int (a-w)) S1:=(qN e1 rfl).trans rfl;have d2':d2 xN (qG 2 S__law_draw (qA (qB 0) (qA (d2 qV (d2 xZ (dC (.int 2)) (qB 1)) (dC (.int 1))) (qC)))) (qB 1) [Aa (.loc p),Aa (.int w)] S1=.ok (.int (b-w)) S2:=(qN e2 rfl).trans rfl;exact x9 (xL d1 d2') (by show 2≤lim;decide)
def fF {x y:Aj}(hx : -1000≤x∧x≤1000)(hy : -1000≤y∧y≤1000):z9 (.tup [.int x,.int y])=true:=by
 show (decide (-1000≤x∧x≤1000)&&decide (-1000≤y∧y≤1000))=true;rw[De hx,De hy];rfl
def iD (n:Ai):D:=.int (n:Aj)
def EU (n:Ai)(h:n≤1000000):bM [.int (n:Aj)]=Aa (wZ 0 (n:Aj).toNat):=by
 unfold bM;have : -(2 ^ 62)≤(n:Aj)∧(n:Aj)<2 ^ 62:=⟨by omega,by omega⟩
 exact Bi this
def JB (n:Ai):wZ 0 (n:Aj).toNat=(Dq n).map iD:=by
 unfold wZ;rw[Gn]
 congr 1
 funext i
 unfold iD;rw[Int.zero_add]
def iN (n:Ai)(h:n≤1000000):bM [.int (n:Aj)]=Aa ((Dq n).map iD):=by
 rw[EU n h,JB]
def dP {β:Type}(b:β)(S:Sto):_D.vA (Aa b) S=.ok b S:=rfl
def gG (f:DE)(n:Ai)(env:qD)(S:Sto)(h:n≤1000)(e:f env S=.ok (.int (n:Aj)) S):xS (y9 (qA f qC)) env S=.ok (none,(Dq n).map iD) S:=by
 have e1:qA f qC env S=.ok [.int (n:Aj)] S:=xK e;unfold xS y9;rw[e1,Res.bind_ok,iN n om,dP,Res.bind_ok]
inductive IvL (p w m:Ai)(e1:Am D)(ax ay st:Aj)(env:qD)(S:Sto):Prop
 |mk (wi:Aj) (ys:Ab D) (e8:Am D) (h_0:env=[Aa (.loc p),e1,Aa (.int (w:Aj)),Aa (.int (m:Aj)),Aa (.int wi),Aa (.tup [.int ax,.int ay]),Aa (.int st),Aa (.lst ys),e8]) (h_1:ys.all z9=true) (h_2:1≤ys.length∧ys.length≤200) (h_3:zY S p):IvL p w m e1 ax ay st env S
def sG (h:∀ y∈ys,z9 y=true):ys.all z9=true:=Az.mpr h
def Z2 (w:Ai)(k:Aj)(env:qD)(S:Sto)(h:env[2]? = Aa (Aa (.int (w:Aj)))):dTr (d2 gEq (qB 2) (dC (.int k))) env S=.ok (decide ((w:Aj)=k)) S:=w5 ((qN (xY h) rfl).trans (uO _ _ _))
section
variable {p w m:Ai}{e1:Am D}{ax ay st:Aj}{env:qD}{S:Sto}
def MD (hm:1≤m∧m≤40)(ha : -400≤ax∧ax≤400)(hb : -400≤ay∧ay≤400)(h:IvL p w m e1 ax ay st env S) :
  Nx (sIf (dTr (d2 gEq (qB 2) (dC (.int 0)))) (zB (qS false [none,Aa 5] (xS (y9 (qA (qB 3) (qC)))) (gNm 0) (zC) (qY (zG (qA (d2 qV (d2 gIx (qB 1) (dC (.int 0))) (d2 vL (qB 0) (dC (.int 4)))) (qA (d2 qV (d2 gIx (qB 1) (dC (.int 1))) (d2 v8 (qB 0) (dC (.int 4)))) (qC)))))) (gNm 7)) (zM) env S) (IvL p w m e1 ax ay st):=by
 obtain⟨wi,ys,e8,rfl,h1,h2,h3⟩:=h;refine xT (Z2 w 0 _ S rfl) ?_;by_cases hw:(w:Aj)=0
 ·rw[De hw]
  have hr:=gG (qB 3) m [Aa (.loc p),e1,Aa (.int (w:Aj)),Aa (.int (m:Aj)),Aa (.int wi),Aa (.tup [.int ax,.int ay]),Aa (.int st),Aa (.lst ys),e8] S om rfl;obtain⟨zs,env',S',e,l,hz,_,_,rfl⟩:=sI (cap:=[none,Aa 5]) (g:=gNm 0) (t:=zC) (fe:=zG (qA (d2 qV (d2 gIx (qB 1) (dC (.int 0))) (d2 vL (qB 0) (dC (.int 4)))) (qA (d2 qV (d2 gIx (qB 1) (dC (.int 1))) (d2 v8 (qB 0) (dC (.int 4)))) (qC)))) (λenv S'=>∃ a,env=[a,Aa (.tup [.int ax,.int ay])]∧S'=S) (λd=>z9 d=true) hr ⟨none,rfl,rfl⟩ (by rw[Aq,Gs];unfold lim;omega)
   (λd env S' hd ⟨a,q1,q2⟩=>by
    subst q1 q2;obtain⟨i,hi,rfl⟩:=Dl.mp hd;have hi:=Em.mp hi;refine⟨[Aa (iD i),Aa (.tup [.int ax,.int ay])],.tup [.int (ax+(i:Aj) % 4),.int (ay+(i:Aj)/4)],S',rfl,rfl,?_,⟨_,rfl,rfl⟩,fF om om⟩;refine x9 (xL (a:=.int (ax+(i:Aj) % 4)) (b:=.int (ay+(i:Aj)/4)) (S1:=S') ?_ ?_) (by show 2≤lim;decide)
    ·exact(qN (a:=.int ax) (b:=.int ((i:Aj) % 4)) rfl ((qN (a:=.int (i:Aj)) rfl rfl).trans (uP _ _ _ om))).trans (w8 _ _ _)
    ·exact(qN (a:=.int ay) (b:=.int ((i:Aj)/4)) rfl ((qN (a:=.int (i:Aj)) rfl rfl).trans (gE _ _ _ om))).trans (w8 _ _ _))
  rw[Aq,Gs] at l;exact zI e rfl ⟨wi,zs,e8,rfl,sG hz,by omega,h3⟩
 ·rw[Cz hw]
  exact xG rfl ⟨wi,ys,e8,rfl,h1,h2,h3⟩
def ME (hm:1≤m∧m≤40)(ha : -400≤ax∧ax≤400)(hb : -400≤ay∧ay≤400)(hst:1≤st∧st≤9)(h:IvL p w m e1 ax ay st env S) :
  Nx (sIf (dTr (d2 gEq (qB 2) (dC (.int 1)))) (zB (qS false [none,Aa 5,Aa 6] (xS (y9 (qA (qB 3) (qC)))) (gNm 0) (zC) (qY (zG (qA (d2 qV (d2 gIx (qB 1) (dC (.int 0))) (d2 xZ (qB 2) (qB 0))) (qA (d2 xN (d2 gIx (qB 1) (dC (.int 1))) (qB 0)) (qC)))))) (gNm 7)) (zM) env S) (IvL p w m e1 ax ay st):=by
 obtain⟨wi,ys,e8,rfl,h1,h2,h3⟩:=h;refine xT (Z2 w 1 _ S rfl) ?_;by_cases hw:(w:Aj)=1
 ·rw[De hw]
  have hr:=gG (qB 3) m [Aa (.loc p),e1,Aa (.int (w:Aj)),Aa (.int (m:Aj)),Aa (.int wi),Aa (.tup [.int ax,.int ay]),Aa (.int st),Aa (.lst ys),e8] S om rfl;obtain⟨zs,env',S',e,l,hz,_,_,rfl⟩:=sI (cap:=[none,Aa 5,Aa 6]) (g:=gNm 0) (t:=zC) (fe:=zG (qA (d2 qV (d2 gIx (qB 1) (dC (.int 0))) (d2 xZ (qB 2) (qB 0))) (qA (d2 xN (d2 gIx (qB 1) (dC (.int 1))) (qB 0)) (qC)))) (λenv S'=>∃ a,env=[a,Aa (.tup [.int ax,.int ay]),Aa (.int st)]∧S'=S) (λd=>z9 d=true) hr ⟨none,rfl,rfl⟩ (by rw[Aq,Gs];unfold lim;omega)
   (λd env S' hd ⟨a,q1,q2⟩=>by
    subst q1 q2;obtain⟨i,hi,rfl⟩:=Dl.mp hd;have hi:=Em.mp hi;have hmul:0≤st*(i:Aj)∧st*(i:Aj)≤9*39:=⟨Int.mul_nonneg om om,Int.mul_le_mul om om om om⟩;refine⟨[Aa (iD i),Aa (.tup [.int ax,.int ay]),Aa (.int st)],.tup [.int (ax+st*(i:Aj)),.int (ay-(i:Aj))],S',rfl,rfl,?_,⟨_,rfl,rfl⟩,fF om om⟩;refine x9 (xL (a:=.int (ax+st*(i:Aj))) (b:=.int (ay-(i:Aj))) (S1:=S') ?_ ?_) (by show 2≤lim;decide)
    ·exact(qN (a:=.int ax) (b:=.int (st*(i:Aj))) rfl ((qN (a:=.int st) (b:=.int (i:Aj)) rfl rfl).trans (uQ _ _ _ om))).trans (w8 _ _ _)
    ·exact(qN (a:=.int ay) (b:=.int (i:Aj)) rfl rfl).trans rfl)
  rw[Aq,Gs] at l;exact zI e rfl ⟨wi,zs,e8,rfl,sG hz,by omega,h3⟩
 ·rw[Cz hw]
  exact xG rfl ⟨wi,ys,e8,rfl,h1,h2,h3⟩
def lQ (fe:DE)(hfe:∀ (x y:Aj) (S:Sto),∃ x' y':Aj,fe [Aa (.int x),Aa (.int y)] S=.ok (.tup [.int x',.int y']) S∧((x'=x∨x' = -x)∧(y'=y∨y' = -y)∨(x'=y∨x' = -y)∧(y'=x∨y' = -x)))(ys:Ab D)(hy:ys.all z9=true)(hl:ys.length≤200)(env:qD)(S:Sto)(h8:env[8]? = Aa (Aa (.lst ys))) :
  ∃ zs,qS false [none,none] (dIt (qB 8)) (gTp 2 (qM (gNm 0) (qM (gNm 1) (zU)))) (zC) (qY fe) env S=.ok (.lst zs) S∧zs.all z9=true∧zs.length=ys.length:=by
 have hit:dIt (qB 8) env S=.ok (none,ys) S:=by
  unfold dIt;rw[xY h8];rfl
 obtain⟨zs,env',S',e,l,hz,_,_,_,rfl⟩:=sI (cap:=[none,none]) (g:=gTp 2 (qM (gNm 0) (qM (gNm 1) (zU)))) (t:=zC) (fe:=fe) (λenv S'=>∃ a b,env=[a,b]∧S'=S) (λd=>z9 d=true) hit ⟨none,none,rfl,rfl⟩ (by unfold lim;omega)
  (λd env S' hd ⟨a,b,q1,q2⟩=>by
   subst q1 q2;obtain⟨x,y,rfl,hx,hy'⟩:=bK (Az.mp hy d hd);obtain⟨x',y',e,hc⟩:=hfe x y S';exact⟨[Aa (.int x),Aa (.int y)],_,S',rfl,rfl,e,⟨_,_,rfl,rfl⟩,fF om om⟩)
 exact⟨zs,e,sG hz,l⟩
def gB {a b:Ab D}(ha:a.all z9=true)(hb:b.all z9=true):(a++b).all z9=true:=by rw[List.all_append,ha,hb];rfl
def GP (ys:Ab D)(lo hi:Am Aj)(h:ys.all z9=true):(zV ys lo hi).all z9=true:=by
 rw[Az];intro y hy;exact Az.mp h y (IQ (Hx hy))
def gD (ys:Ab D)(n:Ai):zV ys none (Aa (n:Aj))=ys.take n:=by
 unfold zV;have h1:_H.sIx ys.length 0 none=0:=rfl;have h2:_H.sIx ys.length ys.length (Aa (n:Aj))=min n ys.length:=by
  show (if (n:Aj)<0 then ((n:Aj)+(ys.length:Aj)).toNat else min (n:Aj).toNat ys.length)=_
  rw[Bf om,Gn]
 rw[h1,h2,List.drop_zero,Nat.sub_zero];rcases Nat.le_total n ys.length with h|h
 ·rw[Qz h]
 ·rw[Wh h,Gj h,Gj (Av _)]
def MF (hm:1≤m∧m≤40)(h:IvL p w m e1 ax ay st env S) :
  Nx (sIf (dTr (d2 gEq (qB 2) (dC (.int 2)))) (qP (zB (dSl (qB 7) (qZ) (qT (d2 qV (dC (.int 1)) (d2 v8 (qB 3) (dC (.int 4)))))) (gNm 8)) (qP (zB (d2 qV (d2 qV (qB 8) (qS false [none,none] (dIt (qB 8)) (gTp 2 (qM (gNm 0) (qM (gNm 1) (zU)))) (zC) (qY (zG (qA (d2 xN (dC (.int 0)) (qB 1)) (qA (qB 0) (qC))))))) (qS false [none,none] (dIt (qB 8)) (gTp 2 (qM (gNm 0) (qM (gNm 1) (zU)))) (zC) (qY (zG (qA (d2 xN (dC (.int 0)) (qB 0)) (qA (d2 xN (dC (.int 0)) (qB 1)) (qC))))))) (gNm 7)) (zB (d2 qV (qB 7) (qS false [none,none] (dIt (qB 8)) (gTp 2 (qM (gNm 0) (qM (gNm 1) (zU)))) (zC) (qY (zG (qA (qB 1) (qA (d2 xN (dC (.int 0)) (qB 0)) (qC))))))) (gNm 7)))) (zM) env S) (IvL p w m e1 ax ay st):=by
 obtain⟨wi,ys,e8,rfl,h1,h2,h3⟩:=h;refine xT (Z2 w 2 _ S rfl) ?_;by_cases hw:(w:Aj)=2
 ·rw[De hw,Bi rfl]
  have hs:dSl (qB 7) (qZ) (qT (d2 qV (dC (.int 1)) (d2 v8 (qB 3) (dC (.int 4))))) [Aa (.loc p),e1,Aa (.int (w:Aj)),Aa (.int (m:Aj)),Aa (.int wi),Aa (.tup [.int ax,.int ay]),Aa (.int st),Aa (.lst ys),e8] S=.ok (.lst (ys.take (1+m/4))) S:=by
   have hd:d2 qV (dC (.int 1)) (d2 v8 (qB 3) (dC (.int 4))) [Aa (.loc p),e1,Aa (.int (w:Aj)),Aa (.int (m:Aj)),Aa (.int wi),Aa (.tup [.int ax,.int ay]),Aa (.int st),Aa (.lst ys),e8] S=.ok (.int ((1+m/4:Ai):Aj)) S:=by
    refine(qN (a:=.int 1) (b:=.int ((m:Aj)/4)) rfl ((qN (a:=.int (m:Aj)) rfl rfl).trans (gE _ _ _ om))).trans ?_;rw[w8,show (1:Aj)+(m:Aj)/4=((1+m/4:Ai):Aj) by omega]
   unfold dSl;rw[xY (env:=[Aa (.loc p),e1,Aa (.int (w:Aj)),Aa (.int (m:Aj)),Aa (.int wi),Aa (.tup [.int ax,.int ay]),Aa (.int st),Aa (.lst ys),e8]) (i:=7) rfl];simp only[Res.bind,qZ,qT,hd];show Res.ok (D.lst (zV ys none (Aa ((1+m/4:Ai):Aj)))) S=_;rw[gD]
  have l1:(ys.take (1+m/4)).length≤11:=by rw[Ee];omega
  have l0:1≤(ys.take (1+m/4)).length:=by rw[Ee];omega
  have ps:(ys.take (1+m/4)).all z9=true:=Az.mpr λy hy=>Az.mp h1 y (Hx hy);generalize ys.take (1+m/4)=zs at hs l1 l0 ps;have l2:2≤lim:=by decide
  refine wI (zI hs rfl ?_);obtain⟨a1,c1,q1,n1⟩:=lQ (zG (qA (d2 xN (dC (.int 0)) (qB 1)) (qA (qB 0) (qC)))) (λx y S=>⟨0-y,x,x9 (xL rfl rfl) l2,by omega⟩) zs ps om [Aa (.loc p),e1,Aa (.int (w:Aj)),Aa (.int (m:Aj)),Aa (.int wi),Aa (.tup [.int ax,.int ay]),Aa (.int st),Aa (.lst ys),Aa (.lst zs)] S rfl
  obtain⟨a2,c2,q2,n2⟩:=lQ (zG (qA (d2 xN (dC (.int 0)) (qB 0)) (qA (d2 xN (dC (.int 0)) (qB 1)) (qC)))) (λx y S=>⟨0-x,0-y,x9 (xL rfl rfl) l2,by omega⟩) zs ps om [Aa (.loc p),e1,Aa (.int (w:Aj)),Aa (.int (m:Aj)),Aa (.int wi),Aa (.tup [.int ax,.int ay]),Aa (.int st),Aa (.lst ys),Aa (.lst zs)] S rfl
  refine wI (zI (d:=.lst (zs++a1++a2)) (S1:=S) ((qN ((qN rfl c1).trans (wS (by unfold lim;omega) S)) c2).trans (wS (by rw[Cb];unfold lim;omega) S)) rfl ?_)
  obtain⟨a3,c3,q3,n3⟩:=lQ (zG (qA (qB 1) (qA (d2 xN (dC (.int 0)) (qB 0)) (qC)))) (λx y S=>⟨y,0-x,x9 (xL rfl rfl) l2,by omega⟩) zs ps om [Aa (.loc p),e1,Aa (.int (w:Aj)),Aa (.int (m:Aj)),Aa (.int wi),Aa (.tup [.int ax,.int ay]),Aa (.int st),Aa (.lst (zs++a1++a2)),Aa (.lst zs)] S rfl
  refine zI (d:=.lst (zs++a1++a2++a3)) (S1:=S) ((qN rfl c3).trans (wS (by simp only[Cb];unfold lim;omega) S)) rfl ⟨wi,_,_,rfl,gB (gB (gB ps q1) q2) q3,?_,h3⟩
  simp only[Cb];omega
 ·rw[Cz hw]
  exact xG rfl ⟨wi,ys,e8,rfl,h1,h2,h3⟩
end
def ix5 (r:Ai)(h:r<5)(S:Sto):∃ m:Aj,gIx (.lst [.int 1,.int 2,.int 4,.int 12,.int 1000]) (.int (r:Aj)) S=.ok (.int m) S∧1≤m∧m≤1000:=by
 match r,h with
 |0,_=>exact⟨1,rfl,by omega⟩
 |1,_=>exact⟨2,rfl,by omega⟩
 |2,_=>exact⟨4,rfl,by omega⟩
 |3,_=>exact⟨12,rfl,by omega⟩
 |4,_=>exact⟨1000,rfl,by omega⟩
def CK (env:qD)(S:Sto):zQ (qA (dC (.int 1)) (qA (dC (.int 2)) (qA (dC (.int 4)) (qA (dC (.int 12)) (qA (dC (.int 1000)) (qC)))))) env S=.ok (.lst [.int 1,.int 2,.int 4,.int 12,.int 1000]) S:=by
 have l5:5≤lim:=by decide
 simp[qQ,uF,F4,AN,AM,qP,sIf,qU,zM,vI,zB,gNm,gSb,gTp,qM,zU,kX,CW,AY,HS,dC,qB,d1,d2,qA,qC,qE,qG,dTr,zW,wC,zC,v7,oH,dIf,xR,zG,zQ,sJ,dBm,dSl,qT,qZ,wP,y9,Res.bind,Res.toS,_D.uB,_D.vA,AR,AO,SW,AZ,AT,AU,AV,AS,AL,AK,NO,gLt,gLe,gGt,gGe,_D.xN,AX,l5]
def QN (zs:Ab D)(h:zs.all z9=true)(hl:1≤zs.length∧zs.length≤40):∃ xs:Ab D,yS zs=Aa xs∧xs.all z9=true∧(1≤xs.length∧xs.length≤40)∧xO (.tup xs)=true:=by
 obtain⟨ks,rfl⟩:=tM zs h;rw[Aq] at hl;have pk:∀ k∈ks,z9 (tpD k)=true:=λk hk=>Az.mp h _ (Ic hk);have hne:∀ k∈ks,k≠[]:=λk hk z=>by
  subst z;have:=pk [] hk;cases this
 have c1:((_S.srt _H.lexLt ks).map tpD).all z9=true:=by
  rw[IY,Az];intro k hk;exact pk k ((_S.y7 _S.k9 k ks).mp hk)
 have c2:1≤((_S.srt _H.lexLt ks).map tpD).length∧((_S.srt _H.lexLt ks).map tpD).length≤40:=by
  rw[Aq];refine⟨?_,?_⟩
  ·cases ks with
   |nil=>simp at hl
   |cons k r=>exact Lx ((_S.y7 _S.k9 k (k::r)).mpr (by simp))
  ·have:=fN _H.lexLt ks
   omega
 refine⟨(_S.srt _H.lexLt ks).map tpD,iU ks (by intro z;subst z;simp at hl) om hne,c1,c2,?_⟩
 show (decide (1≤((_S.srt _H.lexLt ks).map tpD).length∧((_S.srt _H.lexLt ks).map tpD).length≤40)&&((_S.srt _H.lexLt ks).map tpD).all z9&&(match yE ((_S.srt _H.lexLt ks).map tpD) with|some ks=>upB ks|none=>false))=true
 rw[De c2,c1,yU];exact(gN _).mpr (_S.vD _S.k9 ks)
def EQ (S:Sto)(p:Ai)(h:zY S p):∃ (xs:Ab D) (S':Sto),S__law_lot [.loc p,.int 40] S=.ok (.tup xs) S'∧xs.all z9=true∧(1≤xs.length∧xs.length≤40)∧xO (.tup xs)=true∧zY S' p:=by
 have key:Rt (b__law_lot [Aa (.loc p),Aa (.int 40),none,none,none,none,none,none,none] S) λd S'=>∃ xs,d=.tup xs∧xs.all z9=true∧(1≤xs.length∧xs.length≤40)∧xO (.tup xs)=true∧zY S' p:=by
  unfold b__law_lot;obtain⟨w,S1,c1,hw,p1⟩:=wF (S:=S) (i:=0) (f2:=dC (.int 7)) (env:=[Aa (.loc p),Aa (.int 40),none,none,none,none,none,none,none]) (m:=7) h om rfl rfl;obtain⟨m0,S2,c2,hm0,p2⟩:=wF (S:=S1) (i:=0) (f2:=qB 1) (env:=[Aa (.loc p),Aa (.int 40),none,none,none,none,none,none,none]) (m:=40) p1 om rfl rfl;refine qX (bH c1 (KR c2) ?_);clear c1 c2;have hm:1≤m0+1∧m0+1≤40:=by omega
  generalize m0+1=m at hm;simp only[Cy,Cq];obtain⟨k,S3,c3,hk,p3⟩:=wF (S:=S2) (i:=0) (f2:=dC (.int 5)) (env:=[Aa (.loc p),Aa (.int 40),Aa (.int (w:Aj)),Aa (.int (m:Aj)),none,none,none,none,none]) (m:=5) p2 om rfl rfl;obtain⟨wi,hwi,w1,w2⟩:=ix5 k om S3;obtain⟨ax,ay,S4,c4,ha,hb,p4⟩:=iL S3 p 400 p3 om;have l2:2≤lim:=by decide
  refine qX (zI (x9 (xL ((qN (CK _ _) c3).trans hwi) ((u3 (a:=.loc p) (b:=.int 400) rfl rfl).trans c4)) l2) (env1:=[Aa (.loc p),Aa (.int 40),Aa (.int (w:Aj)),Aa (.int (m:Aj)),Aa (.int wi),Aa (.tup [.int ax,.int ay]),none,none,none]) (S2:=S4) rfl ?_);clear c3 c4 hwi;obtain⟨s0,S5,c5,hs0,p5⟩:=wF (S:=S4) (i:=0) (f2:=dC (.int 9)) (env:=[Aa (.loc p),Aa (.int 40),Aa (.int (w:Aj)),Aa (.int (m:Aj)),Aa (.int wi),Aa (.tup [.int ax,.int ay]),none,none,none]) (m:=9) p4 om rfl rfl;refine qX (zI (KR c5) rfl ?_);clear c5;have hst:(1:Aj)≤((s0+1:Ai):Aj)∧((s0+1:Ai):Aj)≤9:=by omega
  generalize ((s0+1:Ai):Aj)=st at hst;simp only[Cy,Cq];have hr:=gG (qB 3) m [Aa (.loc p),Aa (.int 40),Aa (.int (w:Aj)),Aa (.int (m:Aj)),Aa (.int wi),Aa (.tup [.int ax,.int ay]),Aa (.int st),none,none] S5 om rfl;obtain⟨ys,env',S6,c6,l6,h6,_,_,p6⟩:=sI (cap:=[none,Aa 0,Aa 4]) (g:=gNm 0) (t:=zC) (fe:=qG 2 (okO S__law_point) (qA (qB 1) (qA (qB 2) (qC)))) (λenv S'=>∃ a,env=[a,Aa (.loc p),Aa (.int wi)]∧zY S' p) (λd=>z9 d=true) hr ⟨none,rfl,p5⟩ (by rw[Aq,Gs];unfold lim;omega)
   (λd env S' hd ⟨a,q1,q2⟩=>by
    subst q1;obtain⟨x,y,S'',e,hx,hy,p''⟩:=iL S' p wi q2 om;exact⟨[Aa d,Aa (.loc p),Aa (.int wi)],_,S'',rfl,rfl,(u3 (a:=.loc p) (b:=.int wi) rfl rfl).trans (jA e),⟨_,rfl,p''⟩,fF om om⟩)
  rw[Aq,Gs] at l6;refine qX (zI c6 rfl ?_);clear c6 hr;simp only[Cy,Cq];have I0:IvL p w m (Aa (.int 40)) ax ay st [Aa (.loc p),Aa (.int 40),Aa (.int (w:Aj)),Aa (.int (m:Aj)),Aa (.int wi),Aa (.tup [.int ax,.int ay]),Aa (.int st),Aa (.lst ys),none] S6:=⟨wi,ys,none,rfl,sG h6,by omega,p6⟩
  obtain⟨env1,T1,e1,I1⟩:=MD hm ha hb I0;refine qX ⟨env1,T1,e1,?_⟩;obtain⟨env2,T2,e2,I2⟩:=ME hm ha hb hst I1;refine qX ⟨env2,T2,e2,?_⟩;obtain⟨env3,T3,e3,I3⟩:=MF hm I2;refine qX ⟨env3,T3,e3,?_⟩;obtain⟨wi',zs,e8,rfl,z1,z2,z3⟩:=I3;have ht:(zs.take m).all z9=true:=Az.mpr λy hy=>Az.mp z1 y (Hx hy);have htl:1≤(zs.take m).length∧(zs.take m).length≤40:=by rw[Ee];omega
  obtain⟨xs,hs,x1,x2,x4⟩:=QN (zs.take m) ht htl;have hc:dSl (qB 7) (qZ) (qT (qB 3)) [Aa (.loc p),Aa (.int 40),Aa (.int (w:Aj)),Aa (.int (m:Aj)),Aa (.int wi'),Aa (.tup [.int ax,.int ay]),Aa (.int st),Aa (.lst zs),e8] T3=.ok (.lst (zs.take m)) T3:=by
   show Res.ok (D.lst (zV zs none (Aa (m:Aj)))) T3=_;rw[gD]
  have hd:wH (dSl (qB 7) (qZ) (qT (qB 3))) [Aa (.loc p),Aa (.int 40),Aa (.int (w:Aj)),Aa (.int (m:Aj)),Aa (.int wi'),Aa (.tup [.int ax,.int ay]),Aa (.int st),Aa (.lst zs),e8] T3=.ok (.lst xs) T3:=by
   unfold wH;rw[hc];simp only[Res.bind,bN,Ka,hs]
  exact xE (zX ((wU hd).trans rfl) ⟨xs,rfl,x1,x2,x4,z3⟩)
 obtain⟨d,S',e,xs,rfl,x1,x2,x4,x3⟩:=key;rw[pO];exact⟨xs,S',yH rfl e,x1,x2,x4,x3⟩
def yA (h:xs.length+ys.length≤lim)(S:Sto):qV (.tup xs) (.tup ys) S=.ok (.tup (xs++ys)) S:=Bi h
def nG (env:qD)(S:Sto):qC env S=.ok [] S:=rfl
def bI:Ab D:=[.int 1001,.int (-1001),.bl true,.bl false,.non,.str "0",.tup [.int 0],.int 100000000000000000000000000000,.lst [.int 0],.dct0]
def F1:∀ d∈bI,Pn d:=by
 intro d hd;simp only[bI,Aw,Cw,Fz] at hd;rcases hd with rfl|rfl|rfl|rfl|rfl|rfl|rfl|rfl|rfl|rfl <;> exact⟨_,rfl⟩
def F0 (env:qD)(S:Sto):zQ (qA (dC (.int 1001)) (qA (d1 yM (dC (.int 1001))) (qA (dC (.bl true)) (qA (dC (.bl false)) (qA (dC .non) (qA (dC (.str "0")) (qA (zG (qA (dC (.int 0)) (qC))) (qA (d2 vM (dC (.int 10)) (dC (.int 29))) (qA (zQ (qA (dC (.int 0)) (qC))) (qA (jG) (qC))))))))))) env S=.ok (.lst bI) S:=by
 have l1:1≤lim:=by decide
 have l10:10≤lim:=by decide
 refine wR (zD rfl (zD rfl (zD rfl (zD rfl (zD rfl (zD rfl (zD (x9 (xK rfl) l1) (zD (WF S) (zD (wR (xK rfl) l1) (zD rfl (nG _ _))))))))))) l10
def pt0 (x y:Aj):D:=.tup [.int x,.int y]
def wN (x y:Aj)(o:D):Ai→Ab D
 |0=>[o,.int y]
 |_=>[.int x,o]
def GF (x y:Aj)(o:D)(a:Ai)(ha:a<2)(env:qD)(S:Sto)(h1:env[1]? = Aa (Aa (pt0 x y)))(h3:env[3]? = Aa (Aa (.int (a:Aj))))(h4:env[4]? = Aa (Aa o)) :
  d2 qV (d2 qV (dSl (qB 1) (qZ) (qT (qB 3))) (zG (qA (qB 4) (qC)))) (dSl (qB 1) (qT (d2 qV (qB 3) (dC (.int 1)))) (qZ)) env S=.ok (.tup (wN x y o a)) S:=by
 have l1:1≤lim:=by decide
 have hs:dSl (qB 1) (qZ) (qT (qB 3)) env S=.ok (.tup (zV [.int x,.int y] none (Aa (a:Aj)))) S:=by
  simp only[dSl,xY h1,xY h3,Res.bind,qZ,qT];rfl
 have ht:dSl (qB 1) (qT (d2 qV (qB 3) (dC (.int 1)))) (qZ) env S=.ok (.tup (zV [.int x,.int y] (Aa ((a:Aj)+1)) none)) S:=by
  simp only[dSl,xY h1,Res.bind,qZ,qT,qN (o:=qV) (xY (S:=S) h3) (show dC (.int 1) env S=.ok (.int 1) S from rfl),w8]
  rfl
 have ho:=x9 (xK (xY (S:=S) h4)) l1
 match a,ha with
 |0,_ =>
  rw[qN ((qN hs ho).trans (yA (by show 1≤lim;decide) S)) ht,yA (by show 2≤lim;decide)]
  rfl
 |1,_ =>
  rw[qN ((qN hs ho).trans (yA (by show 2≤lim;decide) S)) ht,yA (by show 2≤lim;decide)]
  rfl
def tG (x y:Aj)(b:D):Ab D:=[b,b,b,b,.tup [.int x],.tup [.int x,.int y,.int 0],.lst [.int x,.int y],.non,.int 7,.str "0,0",.dct0,.tup [pt0 x y]]
def UI (x y:Aj)(b:D)(hb:Pn b):∀ d∈tG x y b,Pn d:=by
 intro d hd;simp only[tG,Aw,Cw,Fz] at hd;rcases hd with rfl|rfl|rfl|rfl|rfl|rfl|rfl|rfl|rfl|rfl|rfl|rfl <;> first|exact hb|exact⟨_,rfl⟩
def GG (x y:Aj)(o:D)(a:Ai)(ho:o∈bI):Pn (.tup (wN x y o a)):=by
 obtain⟨p,e⟩:=F1 o ho;cases a with
 |zero=>exact⟨.tuple [p,.int y],by simp only[wN,pyD,kA,e];rfl⟩
 |succ a=>exact⟨.tuple [.int x,p],by simp only[wN,pyD,kA,e];rfl⟩
def iC:∀ d∈bI,isI d=false:=by
 intro d hd;simp only[bI,Aw,Cw,Fz] at hd;rcases hd with rfl|rfl|rfl|rfl|rfl|rfl|rfl|rfl|rfl|rfl <;> rfl
def UH (x y:Aj)(o:D)(a:Ai)(ho:o∈bI):∀ d∈tG x y (.tup (wN x y o a)),z9 d=false:=by
 have hb:z9 (.tup (wN x y o a))=false:=by
  cases a with
  |zero =>
   show (isI o&&isI (.int y))=false;rw[iC o ho];rfl
  |succ a =>
   show (isI (.int x)&&isI o)=false;rw[iC o ho,Oe]
 intro d hd;simp only[tG,Aw,Cw,Fz] at hd;rcases hd with rfl|rfl|rfl|rfl|rfl|rfl|rfl|rfl|rfl|rfl|rfl|rfl <;> first|exact hb|rfl
def Q9 (S:Sto)(p:Ai)(x y:Aj)(h:zY S p)(hx : -1000≤x∧x≤1000)(hy : -1000≤y∧y≤1000):∃ (d:D) (S':Sto),S__law_no_point [.loc p,pt0 x y] S=.ok d S'∧Pn d∧z9 d=false∧zY S' p:=by
 have key:Rt (b__law_no_point [Aa (.loc p),Aa (pt0 x y),none,none,none,none,none] S) λd S'=>Pn d∧z9 d=false∧zY S' p:=by
  unfold b__law_no_point;obtain⟨w,S1,c1,hw,p1⟩:=wF (S:=S) (i:=0) (f2:=dC (.int 12)) (env:=[Aa (.loc p),Aa (pt0 x y),none,none,none,none,none]) (m:=12) h om rfl rfl;obtain⟨a,S2,c2,ha,p2⟩:=wF (S:=S1) (i:=0) (f2:=dC (.int 2)) (env:=[Aa (.loc p),Aa (pt0 x y),none,none,none,none,none]) (m:=2) p1 om rfl rfl;refine qX (bH c1 c2 ?_);clear c1 c2;simp only[Cy,Cq];obtain⟨k,S3,c3,hk,p3⟩:=wF (S:=S2) (i:=0) (f2:=dC (.int 10)) (env:=[Aa (.loc p),Aa (pt0 x y),Aa (.int (w:Aj)),Aa (.int (a:Aj)),none,none,none]) (m:=10) p2 om rfl rfl;obtain⟨o,ho,ho'⟩:=gC bI (k:Aj) ⟨by omega,by show (k:Aj)<10;omega⟩
  refine qX (zI ((qN (F0 _ _) c3).trans (vS ho S3)) rfl ?_);clear c3;simp only[Cy,Cq];refine qX (zI (GF x y o a om _ S3 rfl rfl rfl) rfl ?_);simp only[Cy,Cq];have l10:10≤lim:=by decide
  have l2:2≤lim:=by decide
  have l1:1≤lim:=by decide
  have h3:d2 qV (qB 1) (zG (qA (dC (.int 0)) (qC))) [Aa (.loc p),Aa (pt0 x y),Aa (.int (w:Aj)),Aa (.int (a:Aj)),Aa o,Aa (.tup (wN x y o a)),none] S3=.ok (.tup [.int x,.int y,.int 0]) S3:=
   (qN (a:=pt0 x y) (b:=.tup [.int 0]) rfl (x9 (xK rfl) l1)).trans (yA (by show 3≤lim;decide) S3)
  refine qX (zI (wR (zD (a:=.tup (wN x y o a)) rfl (zD (a:=.tup (wN x y o a)) rfl (zD (a:=.tup (wN x y o a)) rfl (zD (a:=.tup (wN x y o a)) rfl (zD (a:=.tup [.int x]) rfl (zD h3 (zD (a:=.lst [.int x,.int y]) rfl (zD (a:=.non) rfl (zD (a:=.int 7) rfl (zD (a:=.str "0,0") rfl (nG _ _))))))))))) l10) rfl ?_);simp only[Cy,Cq];obtain⟨d,hd,hd'⟩:=gC (tG x y (.tup (wN x y o a))) (w:Aj) ⟨by omega,by show (w:Aj)<12;omega⟩
  have hl:zQ (qA (jG) (qA (zG (qA (qB 1) (qC))) (qC))) [Aa (.loc p),Aa (pt0 x y),Aa (.int (w:Aj)),Aa (.int (a:Aj)),Aa o,Aa (.tup (wN x y o a)),Aa (.lst [.tup (wN x y o a),.tup (wN x y o a),.tup (wN x y o a),.tup (wN x y o a),.tup [.int x],.tup [.int x,.int y,.int 0],.lst [.int x,.int y],.non,.int 7,.str "0,0"])] S3=.ok (.lst [.dct0,.tup [pt0 x y]]) S3:=wR (xL rfl (x9 (xK rfl) l1)) l2;exact xE (zX ((qN ((qN rfl hl).trans (wS (by show 12≤lim;decide) S3)) rfl).trans (vS hd S3)) ⟨UI x y _ (GG x y o a ho') d hd',UH x y o a ho' d hd',p3⟩)
 obtain⟨d,S',e,n,p'⟩:=key;rw[j0];exact⟨d,S',yH rfl e,n,p'⟩
def rE (ys:Ab D)(n:Ai)(h:n≤ys.length):zV ys (Aa (n:Aj)) none=ys.drop n:=by
 unfold zV;have h1:_H.sIx ys.length ys.length none=ys.length:=rfl;have h2:_H.sIx ys.length 0 (Aa (n:Aj))=min n ys.length:=by
  show (if (n:Aj)<0 then ((n:Aj)+(ys.length:Aj)).toNat else min (n:Aj).toNat ys.length)=_
  rw[Bf om,Gn]
 rw[h1,h2,Qz h];exact Gj (by rw[Hr];exact Av _)
def V2 (ys:Ab D)(h:1≤ys.length):(zV ys (Aa (-1)) none).length≤1:=by
 unfold zV;have h1:_H.sIx ys.length ys.length none=ys.length:=rfl;have h2:_H.sIx ys.length 0 (Aa (-1))=ys.length-1:=by
  show (if (-1:Aj)<0 then ((-1:Aj)+(ys.length:Aj)).toNat else min (-1:Aj).toNat ys.length)=_
  rw[Bi om];omega
 rw[h1,h2,Ee];omega
def QR (n:Ai):_H.stepN n (-1)=n:=by
 unfold _H.stepN _H.stepLo _H.stepHi Go Gp;simp
 split <;> omega
def JJ {k:Aj}{x:D}(h:x∈_H.stepL xs k):x∈xs:=by
 unfold _H.stepL at h;obtain⟨m,_,e⟩:=Jb.mp h;exact Cf e
def JL {k:Aj}(h:xs.all z9=true):(_H.stepL xs k).all z9=true:=Az.mpr λx hx=>Az.mp h x (JJ hx)
def M2 (xs:Ab D)(k:Aj)(f:DE)(env:qD)(i:Ai)(S:Sto)(hi:env[i]? = Aa (Aa (.tup xs)))(hf:f env S=.ok (.int k) S)(h:k≠0∧k≠1∧_H.stepN xs.length k≤lim):bV (qB i) f env S=.ok (.tup (_H.stepL xs k)) S:=by
 unfold bV;rw[qN (xY hi) hf];exact Bi h
def B8 (k n:Ai)(hk:1≤k∧k≤8)(hn:n≤41)(env:qD)(S:Sto):qE bC (qA (qS false [none] (xS (y9 (qA (dC (.int (n:Aj))) (qC)))) (gNm 0) (zC) (qY (zG (qA (d2 v8 (qB 0) (dC (.int (k:Aj)))) (qA (d2 vL (qB 0) (dC (.int (k:Aj)))) (qC)))))) (qC)) env S=.ok (.tup ((Dq n).map λi:Ai=>D.tup [.int ((i:Aj)/k),.int ((i:Aj) % k)])) S:=by
 have hr:=gG (dC (.int (n:Aj))) n env S om rfl;have l2:2≤lim:=by decide
 have hc:=jL (enc:=iD) (cap:=[none]) (g:=gNm 0) (t:=zC) (fe:=zG (qA (d2 v8 (qB 0) (dC (.int (k:Aj)))) (qA (d2 vL (qB 0) (dC (.int (k:Aj)))) (qC)))) hr trivial (λ_=>true) (λi:Ai=>.tup [.int ((i:Aj)/k),.int ((i:Aj) % k)]) (λenv=>∃ a,env=[a]) ⟨none,rfl⟩ (by rw[Gs];unfold lim;omega)
  (λi _ env ⟨a,q⟩=>by
   subst q;exact⟨[Aa (iD i)],rfl,⟨_,rfl⟩,rfl,λ_=>x9 (xL ((qN (a:=.int (i:Aj)) (b:=.int (k:Aj)) rfl rfl).trans (gE _ _ _ om)) ((qN (a:=.int (i:Aj)) (b:=.int (k:Aj)) rfl rfl).trans (uP _ _ _ om))) l2⟩)
 rw[xW] at hc;exact(wU hc).trans rfl
def VZ (k n:Ai)(hk:1≤k∧k≤8)(hn:n≤41):((Dq n).map λi:Ai=>D.tup [.int ((i:Aj)/k),.int ((i:Aj) % k)]).all z9=true:=by
 rw[IY,Az];intro i hi;have hi:=Em.mp hi;have h0:(0:Aj)<(k:Aj):=by omega
 have h1:=Ji (i:Aj) (show (k:Aj)≠0 by omega)
 have h2:=Il (i:Aj) h0;have h3:(0:Aj)≤(i:Aj)/k:=Int.ediv_nonneg om om;have h4:(i:Aj)/k≤i:=Int.ediv_le_self _ om;exact fF om om
def bG (xs:Ab D)(b:D)(a:Ai):Ab D:=[b,b,.lst xs,.tup (_H.stepL xs (-1)),.tup (xs++zV xs (Aa (-1)) none),.tup (xs.take (a+1)++xs.drop a),.tup [],.non,.int 7,.str "0,0",.dct0]
def YN (xs:Ab D)(h:xs.all z9=true)(o:D)(ho:Pn o)(a:Ai):Pn (.tup (xs.take a++[o]++xs.drop (a+1))):=by
 refine eJ λz hz=>?_;rcases Ch.mp hz with hz|hz
 ·rcases Ch.mp hz with hz|hz
  ·exact tL (Az.mp h z (Hx hz))
  ·rw[Dg.mp hz];exact ho
 ·exact tL (Az.mp h z (IQ hz))
def W8 (xs:Ab D)(h:xs.all z9=true)(b:D)(hb:Pn b)(a:Ai):∀ d∈bG xs b a,Pn d:=by
 intro d hd;simp only[bG,Aw,Cw,Fz] at hd;rcases hd with rfl|rfl|rfl|rfl|rfl|rfl|rfl|rfl|rfl|rfl|rfl
 ·exact hb
 ·exact hb
 ·exact L7 λx hx=>tL (Az.mp h x hx)
 ·exact gM (JL h)
 ·exact gM (gB h (GP xs _ _ h))
 ·exact gM (gB (Az.mpr λy hy=>Az.mp h y (Hx hy)) (Az.mpr λy hy=>Az.mp h y (IQ hy)))
 all_goals exact⟨_,rfl⟩
def bE {k:Aj}{d:D}(h:_L.atI xs k=Aa d)(S:Sto):gIx (.tup xs) (.int k) S=.ok d S:=by
 show _D.vA (_L.atI xs k) S=_;rw[h];rfl
def J8 (S:Sto)(p:Ai)(xs:Ab D)(h:zY S p)(hx:xs.all z9=true)(hl:1≤xs.length∧xs.length≤40):∃ (d:D) (S':Sto),S__law_no_lot [.loc p,.tup xs] S=.ok d S'∧Pn d∧xO d=false∧zY S' p:=by
 have key:Rt (b__law_no_lot [Aa (.loc p),Aa (.tup xs),none,none,none,none,none,none] S) λd S'=>Pn d∧xO d=false∧zY S' p:=by
  unfold b__law_no_lot;obtain⟨w,S1,c1,hw,p1⟩:=wF (S:=S) (i:=0) (f2:=dC (.int 14)) (env:=[Aa (.loc p),Aa (.tup xs),none,none,none,none,none,none]) (m:=14) h om rfl rfl;obtain⟨a,S2,c2,ha,p2⟩:=wF (S:=S1) (i:=0) (f2:=qE zL (qA (qB 1) (qC))) (env:=[Aa (.loc p),Aa (.tup xs),none,none,none,none,none,none]) (m:=(xs.length:Aj)) p1 om rfl ((wU (f1:=qB 1) rfl).trans (p8 xs S1));refine qX (bH c1 c2 ?_);clear c1 c2;simp only[Cy,Cq];have l1:1≤lim:=by decide
  have l3:3≤lim:=by decide
  have l11:11≤lim:=by decide
  have ha':a<xs.length:=by omega
  obtain⟨q,hq,hq'⟩:=gC xs (a:Aj) ⟨by omega,ha⟩
  obtain⟨x,y,rfl,bx,by'⟩:=bK (Az.mp hx q hq');obtain⟨o,S3,c3,ho,_,p3⟩:=Q9 S2 p x y p2 bx by';have s1:dSl (qB 1) (qZ) (qT (qB 3)) [Aa (.loc p),Aa (.tup xs),Aa (.int (w:Aj)),Aa (.int (a:Aj)),none,none,none,none] S2=.ok (.tup (xs.take a)) S2:=by
   show Res.ok (D.tup (zV xs none (Aa (a:Aj)))) S2=_;rw[gD]
  have s2:dSl (qB 1) (qT (d2 qV (qB 3) (dC (.int 1)))) (qZ) [Aa (.loc p),Aa (.tup xs),Aa (.int (w:Aj)),Aa (.int (a:Aj)),none,none,none,none] S3=.ok (.tup (xs.drop (a+1))) S3:=by
   show Res.ok (D.tup (zV xs (Aa ((a:Aj)+1)) none)) S3=_;rw[show (a:Aj)+1=((a+1:Ai):Aj) by omega,rE xs (a+1) om]
  have s3:zG (qA (qG 2 S__law_no_point (qA (qB 0) (qA (d2 gIx (qB 1) (qB 3)) (qC)))) (qC)) [Aa (.loc p),Aa (.tup xs),Aa (.int (w:Aj)),Aa (.int (a:Aj)),none,none,none,none] S2=.ok (.tup [o]) S3:=
   x9 (xK ((u3 (a:=.loc p) (b:=pt0 x y) rfl ((qN (a:=.tup xs) (b:=.int (a:Aj)) rfl rfl).trans (bE hq S2))).trans c3)) l1
  have b1:(xs.take a).length+[o].length≤lim:=by
   rw[Ee];show _+1≤lim;unfold lim;omega
  have b2:(xs.take a++[o]).length+(xs.drop (a+1)).length≤lim:=by
   simp only[Cb,Ee,Hr,Ci,Gv];unfold lim;omega
  refine qX (zI ((qN ((qN s1 s3).trans (yA b1 S3)) s2).trans (yA b2 S3)) rfl ?_);clear s1 s2 s3 c3;have hb:=YN xs hx o ho a;generalize D.tup (xs.take a++[o]++xs.drop (a+1))=b at hb;simp only[Cy,Cq];have i4:bV (qB 1) (d1 yM (dC (.int 1))) [Aa (.loc p),Aa (.tup xs),Aa (.int (w:Aj)),Aa (.int (a:Aj)),Aa b,none,none,none] S3=.ok (.tup (_H.stepL xs (-1))) S3:=
   M2 xs (-1) _ _ 1 S3 rfl rfl ⟨by omega,by omega,by rw[QR];unfold lim;omega⟩
  have i5:d2 qV (qB 1) (dSl (qB 1) (qT (d1 yM (dC (.int 1)))) (qZ)) [Aa (.loc p),Aa (.tup xs),Aa (.int (w:Aj)),Aa (.int (a:Aj)),Aa b,none,none,none] S3=.ok (.tup (xs++zV xs (Aa (-1)) none)) S3:=
   (qN (a:=.tup xs) (b:=.tup (zV xs (Aa (-1)) none)) rfl rfl).trans (yA (by have:=V2 xs hl.1;unfold lim;omega) S3)
  have t1:dSl (qB 1) (qZ) (qT (d2 qV (qB 3) (dC (.int 1)))) [Aa (.loc p),Aa (.tup xs),Aa (.int (w:Aj)),Aa (.int (a:Aj)),Aa b,none,none,none] S3=.ok (.tup (xs.take (a+1))) S3:=by
   show Res.ok (D.tup (zV xs none (Aa ((a:Aj)+1)))) S3=_;rw[show (a:Aj)+1=((a+1:Ai):Aj) by omega,gD]
  have t2:dSl (qB 1) (qT (qB 3)) (qZ) [Aa (.loc p),Aa (.tup xs),Aa (.int (w:Aj)),Aa (.int (a:Aj)),Aa b,none,none,none] S3=.ok (.tup (xs.drop a)) S3:=by
   show Res.ok (D.tup (zV xs (Aa (a:Aj)) none)) S3=_;rw[rE xs a om]
  have i6:=(qN t1 t2).trans (yA (by simp only[Ee,Hr];unfold lim;omega) S3)
  have z0:∀ env:qD,zG (qC) env S3=.ok (.tup []) S3:=λenv=>x9 (nG _ _) (by show 0≤lim;decide)
  refine qX (zI (d:=.lst (bG xs b a)) (S1:=S3) (wR (zD rfl (zD rfl (zD (a:=.lst xs) rfl (zD i4 (zD i5 (zD i6 (zD (z0 _) (zD rfl (zD rfl (zD rfl (zD rfl (nG _ _)))))))))))) l11) rfl ?_);clear i4 i5 i6 t1 t2;have hno:=W8 xs hx b hb a;have nl:(bG xs b a).length=11:=rfl;generalize bG xs b a=L at hno nl;simp only[Cy,Cq];refine qX (zI (B8 8 41 om om _ S3) rfl ?_);have gp:=VZ 8 41 om om;have gl:((Dq 41).map λi:Ai=>D.tup [.int ((i:Aj)/(8:Ai)),.int ((i:Aj) % (8:Ai))]).length≤41:=by simp
  generalize ((Dq 41).map λi:Ai=>D.tup [.int ((i:Aj)/(8:Ai)),.int ((i:Aj) % (8:Ai))])=G at gp gl;simp only[Cy,Cq];obtain⟨q0,hq0,hq0'⟩:=gC xs 0 ⟨by omega,by omega⟩
  have h3:zQ (qA (zG (qA (qB 1) (qC))) (qA (qB 6) (qA (d2 gIx (qB 1) (dC (.int 0))) (qC)))) [Aa (.loc p),Aa (.tup xs),Aa (.int (w:Aj)),Aa (.int (a:Aj)),Aa b,Aa (.lst L),Aa (.tup G),none] S3=.ok (.lst [.tup [.tup xs],.tup G,q0]) S3:=
   wR (zD (x9 (xK rfl) l1) (xL rfl ((qN (a:=.tup xs) (b:=.int 0) rfl rfl).trans (bE hq0 S3)))) l3
  have hall:∀ d∈L++[.tup [.tup xs],.tup G,q0],Pn d:=by
   intro d hd;rcases Ch.mp hd with hd|hd
   ·exact hno d hd
   ·simp only[Aw,Cw,Fz] at hd
    rcases hd with rfl|rfl|rfl
    ·refine eJ λz hz=>?_
     rw[Dg.mp hz];exact gM hx
    ·exact gM gp
    ·exact tL (Az.mp hx _ hq0')
  obtain⟨d,hd,hd'⟩:=gC (L++[.tup [.tup xs],.tup G,q0]) (w:Aj) ⟨by omega,by rw[Cb,nl];show (w:Aj)<((11+3:Ai):Aj);omega⟩
  have td:=hall d hd';refine qX (zI ((qN ((qN rfl h3).trans (wS (by rw[nl];show 14≤lim;decide) S3)) rfl).trans (vS hd S3)) rfl ?_)
  clear h3;simp only[Cy,Cq];have hi:=w5 ((xA (f1:=qB 7) (env:=[Aa (.loc p),Aa (.tup xs),Aa (.int (w:Aj)),Aa (.int (a:Aj)),Aa b,Aa (.lst L),Aa (.tup G),Aa d]) (S:=S3) rfl).trans (WV d S3 td));cases hb':xO d with
  |true =>
   rw[hb'] at hi;refine xE (zX (d:=.tup []) (S:=S3) ?_ ⟨gM rfl,rfl,p3⟩);unfold dIf;rw[hi];exact z0 [Aa (.loc p),Aa (.tup xs),Aa (.int (w:Aj)),Aa (.int (a:Aj)),Aa b,Aa (.lst L),Aa (.tup G),Aa d]
  |false =>
   rw[hb'] at hi;refine xE (zX (d:=d) (S:=S3) ?_ ⟨td,hb',p3⟩);unfold dIf;rw[hi];rfl
 obtain⟨d,S',e,n,n',p'⟩:=key;rw[jR];exact⟨d,S',yH rfl e,n,n',p'⟩
def JA (v:Ad)(x:As)(env:qD)(S:Sto):uD v (qA (dC (.str x)) (qC)) env S=.ex v .non env S:=by
 have l1:1≤lim:=by decide
 unfold uD;rw[xK (show dC (.str x) env S=.ok (.str x) S from rfl)]
 show (if ([D.str x]:Ab D).length≤lim then Out.ex v D.non env S else Out.bad)=_
 exact Bi l1
def mG (F:DF)(v:Ad)(x:As)(d:D)(b:Ar)(S:Sto)(h:F [d] S=.ok (.bl b) S):qQ 1 (sIf (zW (dTr (qG 1 F (qA (qB 0) (qC))))) (uD v (qA (dC (.str x)) (qC))) (zM)) [d] S=if b then .ok .non S else .ex v .non S:=by
 have ht:=j8 (w5 ((xA (f1:=qB 0) (env:=[Aa d]) (S:=S) rfl).trans h));show v9 (sIf _ _ _ [Aa d] S)=_;unfold sIf;rw[ht];cases b with
 |true=>rfl
 |false =>
  show v9 (uD v (qA (dC (.str x)) (qC)) [Aa d] S)=_;rw[JA];rfl
def tQ (c:Cl)(d:D)(S:Sto)(h:Pn d):S_need_lot c [d] S=if xO d then .ok .non S else .ex (.ref c.NoLot) .non S:=by
 rw[pR];exact mG _ _ _ _ _ S (J2 d S h)
def Q8 (c:Cl)(i:Aj)(S:Sto):S_need_number c [.int i] S=.ok .non S:=by
 rw[vJ];exact(mG _ _ _ _ _ S (gK i S)).trans rfl
def WX (c:Cl)(d:D)(S:Sto)(h:wA d):S_need_number c [d] S=.ex (.ref c.NoNumber) .non S:=by
 rw[vJ];exact(mG _ _ _ _ _ S (pU d S h)).trans rfl
abbrev Pt:=Aj × Aj
def pD (q:Pt):D:=.tup [.int q.1,.int q.2]
def kP (q:Pt):Ab Aj:=[q.1,q.2]
def i7:∀ {xs:Ab D},xs.all z9=true→∃ ps:Ab Pt,xs=ps.map pD
 |[],_=>⟨[],rfl⟩
 |d::ds,h=>by
  rw[Ml,Br] at h;obtain⟨ps,rfl⟩:=i7 h.2;obtain⟨x,y,rfl,_⟩:=bK h.1;exact⟨(x,y)::ps,rfl⟩
def XT (ps:Ab Pt):ps.map pD=(ps.map kP).map tpD:=by rw[Fw];rfl
def AQ {ps:Ab Pt}(h:xO (.tup (ps.map pD))=true):(ps.map kP).Pairwise (λa b=>_H.lexLt a b=true):=by
 have h':(decide (1≤(ps.map pD).length∧(ps.map pD).length≤40)&&(ps.map pD).all z9&&(match yE (ps.map pD) with|some ks=>upB ks|none=>false))=true:=h
 rw[Br] at h';have h2:=h'.2;rw[XT,yU] at h2;exact(gN _).mp h2
def BT (a b c d:Aj):_H.lexLt [a,b] [c,d]=(if a=c then decide (b<d) else decide (a<c)):=by
 rw[_H.lexLt_cons];by_cases h:a=c
 ·rw[Bi h,Bi h,_H.lexLt_cons]
  by_cases h2:b=d
  ·rw[Bi h2,_H.lexLt_nil_nil];symm;rw[Fj];omega
  ·rw[Bf h2]
 ·rw[Bf h,Bf h]
def eV:∀ qs:Ab Pt,∃ l,kA (qs.map pD)=Aa l
 |[]=>⟨[],rfl⟩
 |q::qs=>by
  obtain⟨l,e⟩:=eV qs;refine⟨.tuple [.int q.1,.int q.2]::l,?_⟩;show (pyD (pD q)).bind (λx=>(kA (qs.map pD)).map (x::·))=_
  rw[e];rfl
def D4 (qs:Ab Pt):Pn (.tup (qs.map pD)):=by
 obtain⟨l,e⟩:=eV qs;exact⟨.tuple l,by simp only[pyD,e,Qs]⟩
structure Lt (ps:Ab Pt):Prop where
 pt:(ps.map pD).all z9=true
 ne:1≤ps.length
 le:ps.length≤40
 lot:xO (.tup (ps.map pD))=true
def Lt.pn {ps:Ab Pt}(h:Lt ps):Pn (.tup (ps.map pD)):=D4 ps
def E1 {ps:Ab Pt}(h1:(ps.map pD).all z9=true)(h2:1≤ps.length)(h3:ps.length≤40)(h4:(ps.map kP).Pairwise (λa b=>_H.lexLt a b=true)):Lt ps:=by
 refine⟨h1,h2,h3,?_⟩;show (decide (1≤(ps.map pD).length∧(ps.map pD).length≤40)&&(ps.map pD).all z9&&(match yE (ps.map pD) with|some ks=>upB ks|none=>false))=true
 rw[h1,Aq,De ⟨h2,h3⟩,XT,yU];exact(gN _).mpr h4
def Lt.bd {ps:Ab Pt}(h:Lt ps){q:Pt}(hq:q∈ps):(-1000≤q.1∧q.1≤1000)∧(-1000≤q.2∧q.2≤1000):=by
 have:=Az.mp h.pt (pD q) (Ic hq);obtain⟨x,y,e,hx,hy⟩:=bK this;unfold pD at e;injection e with e
 injection e with e1 e2
 injection e2 with e2 _
 cases e1;cases e2;exact⟨hx,hy⟩
def BB {q:Pt}(h:(-1000≤q.1∧q.1≤1000)∧(-1000≤q.2∧q.2≤1000)):z9 (pD q)=true:=fF h.1 h.2
def PQ {F:DF}{env:qD}{S:Sto}{d:D}(h:env[i]? = Aa (Aa d))(hF:F [d] S=.ok .non S):vI (qG 1 F (qA (qB i) (qC))) env S=.nx env S:=by
 unfold vI;rw[(xA (xY h)).trans hF];rfl
def X3 {F:DF}{env:qD}{S:Sto}{d:D}{v:Ad}(h:env[i]? = Aa (Aa d))(hF:F [d] S=.ex v .non S):vI (qG 1 F (qA (qB i) (qC))) env S=.ex v .non env S:=by
 unfold vI;rw[(xA (xY h)).trans hF];rfl
def c7 {f:DS}{env:qD}{S:Sto}(h:f env S=.nx env1 S1):qP f g env S=g env1 S1:=by
 unfold qP;rw[h]
def tR {f:DS}{env:qD}{S:Sto}{v:Ad}{x:D}(h:f env S=.ex v x env1 S1):qP f g env S=.ex v x env1 S1:=by
 unfold qP;rw[h]
def far (p q:Pt):Aj:=(p.1-q.1)*(p.1-q.1)+(p.2-q.2)*(p.2-q.2)
def pX (p:Pt):Prop:=-2000≤p.1∧p.1≤2000 ∧ -2000≤p.2∧p.2≤2000
def eB (p:Pt)(S:Sto):gIx (pD p) (.int 0) S=.ok (.int p.1) S:=rfl
def eC (p:Pt)(S:Sto):gIx (pD p) (.int 1) S=.ok (.int p.2) S:=rfl
def EN (p q:Pt)(S:Sto)(hp:pX p)(hq:pX q):S_far_between [pD p,pD q] S=.ok (.int (far p q)) S:=by
 obtain⟨a1,a2,a3,a4⟩:=hp;obtain⟨b1,b2,b3,b4⟩:=hq;have m1:=uQ (p.1-q.1) (p.1-q.1) S ⟨by omega,by omega⟩
 have m2:=uQ (p.2-q.2) (p.2-q.2) S ⟨by omega,by omega⟩
 rw[jS];unfold b_far_between;simp[qQ,uF,F4,AN,AM,qP,sIf,qU,zM,vI,zB,gNm,gSb,gTp,qM,zU,kX,CW,AY,HS,dC,qB,d1,d2,qA,qC,qE,qG,dTr,zW,wC,zC,v7,oH,dIf,xR,zG,zQ,sJ,dBm,dSl,qT,qZ,wP,y9,Res.bind,Res.toS,_D.uB,_D.vA,AR,AO,SW,AZ,AT,AU,AV,AS,AL,AK,NO,gLt,gLe,gGt,gGe,_D.xN,AX,eB,eC,m1,m2,w8,far]
def ZN (xs:Ab D)(i:Ai):zV xs (Aa ((i:Aj)+1)) none=xs.drop (i+1):=by
 unfold zV;have e1:_H.sIx xs.length 0 (Aa ((i:Aj)+1))=min (i+1) xs.length:=by
  have:((i:Aj)+1)=((i+1:Ai):Aj):=by omega
  rw[this,_H.sIx_nat]
 rw[e1,_H.sIx_none];by_cases h:i+1≤xs.length
 ·rw[Qz h,Gj (by simp)]
 ·have:xs.drop (i+1)=[]:=Lv om
  rw[this,Wh om];simp
def eL:Ai→Ab D→Ab D
 |_,[]=>[]
 |k,x::xs=>D.tup [.int (k:Aj),x]::eL (k+1) xs
def VM (xs:Ab D):vE xs=eL 0 xs:=by
 have key:∀ (xs:Ab D) (k:Ai),(xs.mapIdx λi x=>D.tup [.int ((i+k:Ai):Aj),x])=eL k xs:=by
  intro xs
  induction xs with
  |nil=>intro k;rfl
  |cons x xs ih =>
   intro k;rw[List.mapIdx_cons];show _::_=D.tup [.int (k:Aj),x]::eL (k+1) xs
   congr 1
   ·simp
   ·rw[← ih (k+1)]
    congr 1
    funext i y
    congr 4
    omega
 have:=key xs 0;simpa [vE] using this
def xQ:Ab Pt→Ab (Pt × Pt)
 |[]=>[]
 |p::ps=>ps.map (λq=>(p,q))++xQ ps
def zO (x:Pt × Pt):Aj:=far x.1 x.2
def fars (l:Ab Pt):Ab Aj:=(xQ l).map zO
def prD (x:Pt × Pt):D:=.tup [pD x.1,pD x.2]
structure GI (n:Ai)(prs:Ab (Pt × Pt))(kvs:Ab (_L.Key × D))(S:Sto):Prop where
 dict:S[n]? = Aa (.dct kvs)
 lists:∀ kv∈kvs,∃ (f:Aj) (j:Ai),kv=(.inl f,.loc j)∧n<j∧S[j]? = Aa (.lst ((prs.filter λx=>zO x == f).map prD))
 nd:(kvs.map (·.2)).Nodup
 keys:kvs.map (·.1)=((prs.map zO).foldl Bu []).map IE
set_option tactic.hygienic true in
def M4 {l:Ab Aj}{k x:Aj}:x∈Bu l k↔x∈l∨x=k:=by
 unfold Bu
 split
 ·rename_i h
  simp at h;constructor
  ·exact λz=>.inl z
  ·rintro (z|rfl)
   ·exact z
   ·exact h
 ·simp
def M3 {l:Ab Aj}{k:Aj}(h:k∈l):Bu l k=l:=by
 unfold Bu;rw[Bi (by simpa using h)]
def JK {l:Ab Aj}{k:Aj}(h:k ∉ l):Bu l k=l++[k]:=by
 unfold Bu;rw[Bf (by simpa using h)]
def mB:∀ {l:Ab Aj} {x:Aj},x∈ks.foldl Bu l↔x∈l∨x∈ks:=by
 induction ks with
 |nil=>intro l x;simp
 |cons k ks ih =>
  intro l x;rw[Hy,ih,M4,Aw];constructor
  ·rintro ((h|h)|h)
   ·exact .inl h
   ·exact .inr (.inl h)
   ·exact .inr (.inr h)
  ·rintro (h|h|h)
   ·exact .inl (.inl h)
   ·exact .inl (.inr h)
   ·exact .inr h
def rV:∀ {l:Ab Aj},(ks.foldl Bu l).length≤l.length+ks.length:=by
 induction ks with
 |nil=>intro l;simp
 |cons k ks ih =>
  intro l;rw[Hy];have h1:=ih (l:=Bu l k);have h2:(Bu l k).length≤l.length+1:=by
   unfold Bu
   split <;> simp
  rw[Ci];omega
def JQ {k:_L.Key}{d:D}(h:yF kvs k=Aa d):(k,d)∈kvs:=by
 unfold yF at h;obtain⟨kv,h1,rfl⟩:=El.mp h;have h2:=List.find?_some h1;have h3:=List.mem_of_find?_eq_some h1;have h4:kv.1=k:=by simpa using h2
 subst h4;exact h3
def JP {k:_L.Key}(h:yF kvs k=none):∀ kv∈kvs,kv.1≠k:=by
 unfold yF at h;have h1:=Option.map_eq_none_iff.mp h;intro kv hk e;have:=Ua.mp h1 kv hk;simp[e] at this
def G7 {S:Sto}{i x:D}{k:_L.Key}(hd:S[n]? = Aa (.dct kvs))(hk:u4 i=Aa k):wX (.loc n) [i,x] S=(match yF kvs k with|some d=>.ok d S|none=>if kvs.length<lim then .ok x (S.set n (.dct (vN kvs k x))) else .bad):=by
 show (match S[n]? with|some (.dct kvs)=>(match u4 i with|some k=>(match yF kvs k with|some d=>Res.ok d S|none=>if kvs.length<lim then .ok x (S.set n (.dct (vN kvs k x))) else .bad)|none=>.bad)|_=>.bad)=_
 rw[hd,hk]
def FZ {S:Sto}{i x d:D}{k:_L.Key}(hd:S[n]? = Aa (.dct kvs))(hk:u4 i=Aa k)(hv:yF kvs k=Aa d):wX (.loc n) [i,x] S=.ok d S:=by
 rw[G7 hd hk,hv]
def FY {S:Sto}{i x:D}{k:_L.Key}(hd:S[n]? = Aa (.dct kvs))(hk:u4 i=Aa k)(hv:yF kvs k=none)(hl:kvs.length<lim):wX (.loc n) [i,x] S=.ok x (S.set n (.dct (vN kvs k x))):=by
 rw[G7 hd hk,hv];exact Bi hl
def W0 {β γ:Type}{l:Ab β}{f:β→γ}(nd:(l.map f).Nodup){x y:β}(hx:x∈l)(hy:y∈l)(e:f x=f y):x=y:=by
 obtain⟨a,ha,rfl⟩:=Cg.mp hx;obtain⟨b,hb,rfl⟩:=Cg.mp hy;have:a=b:=(Ma nd (h₀:=by simpa using ha) (h₁:=by simpa using hb)).mp (by simpa using e)
 subst this;rfl
set_option tactic.hygienic true in
def aE:∀ (ks l:Ab Aj),l.Nodup→(ks.foldl Bu l).Nodup:=by
 intro ks
 induction ks with
 |nil=>exact λl h=>h
 |cons k ks ih =>
  intro l h;rw[Hy];apply ih;unfold Bu
  split
  ·exact h
  ·rename_i hn
   rw[Ll];refine⟨h,by simp,?_⟩
   intro a ha b hb hab;simp at hb hn;subst hb;subst hab;exact hn ha
def BH (h:kvs.map (·.1)=(ks.foldl Bu []).map IE):(kvs.map (·.1)).Nodup:=by
 rw[h,Xc,IK];exact(aE ks [] Om).imp λhne e=>hne (Rb e)
def B6 {prs:Ab (Pt × Pt)}{S:Sto}(I:GI n prs kvs S)(x:Pt × Pt)(hl:prs.length<4000) :
  ∃ (j:Ai) (S1 S2:Sto) (kvs':Ab (_L.Key × D)),wX (.loc n) [.int (zO x),.loc S.length] (S++[.lst []]) = .ok (.loc j) S1∧tyD (.loc j) S1=Aa "list" ∧ wW (.loc j) [prD x] S1=.ok .non S2∧GI n (prs++[x]) kvs' S2∧∀ m,m<n→S2[m]? = S[m]?:=by
 have hnS:n<S.length:=(Be.mp I.dict).1;have hd:(S++[MO.lst []])[n]? = Aa (.dct kvs):=by rw[Bk hnS];exact I.dict
 have hkl:kvs.length≤prs.length:=by
  have h1:kvs.length=(kvs.map (·.1)).length:=by simp
  rw[h1,I.keys,Aq];have:=rV (ks:=prs.map zO) (l:=[]);simpa using this
 have hlim:kvs.length<lim:=by unfold lim;omega
 have jlt:∀ {f:Aj} {j:Ai},((IE f:_L.Key),D.loc j)∈kvs→n<j∧j<S.length∧S[j]? = Aa (.lst ((prs.filter λx=>zO x == f).map prD)):=by
  intro f j hm;obtain⟨f',j',e,h1,h2⟩:=I.lists _ hm;cases e;exact⟨h1,(Be.mp h2).1,h2⟩
 cases hv:yF kvs (.inl (zO x)) with
 |some d =>
  have hm:=JQ hv;obtain⟨f,j,e,h1,h2⟩:=I.lists _ hm;have e1:f=zO x:=by
   have:=congrArg Prod.fst e;exact(Rb this).symm
  have e2:d=.loc j:=congrArg Prod.snd e;subst e1;subst e2;have hjS:=(Be.mp h2).1;have h2':(S++[MO.lst []])[j]? = Aa (.lst ((prs.filter λy=>zO y == zO x).map prD)):=by rw[Bk hjS];exact h2
  have hll:((prs.filter λy=>zO y == zO x).map prD).length<lim:=by
   rw[Aq];have:=Iw (λy=>zO y == zO x) prs;unfold lim;omega
  refine⟨j,S++[MO.lst []],(S++[MO.lst []]).set j (.lst ((prs.filter λy=>zO y == zO x).map prD++[prD x])),kvs,?_,?_,?_,⟨?_,?_,I.nd,?_⟩,?_⟩
  ·exact FZ hd rfl hv
  ·exact QY h2'
  ·exact sX h2' hll _
  ·rw[Cp om];exact hd
  ·intro kv hk
   obtain⟨f',j',rfl,h3,h4⟩:=I.lists kv hk;refine⟨f',j',rfl,h3,?_⟩;have hj':=(Be.mp h4).1;by_cases hjj:j=j'
   ·subst hjj
    have hff:f'=zO x:=Rb (congrArg Prod.fst (W0 (f:=(·.2)) I.nd hk hm rfl))
    subst hff;rw[Ec (by simp;omega)]
    rw[Io];simp
   ·rw[Cp hjj,Bk hj',h4]
    have hne:(zO x == f')=false:=by
     rw[IS];rintro rfl;exact hjj (D.loc.inj (congrArg Prod.snd (W0 (f:=(·.1)) (BH I.keys) hm hk rfl)))
    rw[Io];simp[hne]
  ·rw[Hm,Vl]
   show _=(Bu ((prs.map zO).foldl Bu []) (zO x)).map IE;have hin:zO x∈(prs.map zO).foldl Bu []:=by
    have:(IE (zO x):_L.Key)∈kvs.map (·.1):=Dl.mpr ⟨_,hm,rfl⟩
    rw[I.keys] at this;obtain⟨y,hy,e⟩:=Dl.mp this;cases e;exact hy
   rw[M3 hin];exact I.keys
  ·intro m hm
   rw[Cp om,Bk om]
 |none =>
  have hno:=JP hv;have hput:vN kvs (.inl (zO x)) (.loc S.length)=kvs++[(.inl (zO x),.loc S.length)]:=by
   unfold vN;rw[Bf];rw[List.any_eq_true];rintro⟨kv,hk,e⟩;exact hno kv hk (by simpa using e)
  have hfn:zO x ∉ prs.map zO:=by
   intro hin;have:(IE (zO x):_L.Key)∈kvs.map (·.1):=by
    rw[I.keys];exact Dl.mpr ⟨_,mB.mpr (.inr hin),rfl⟩
   obtain⟨kv,hk,e⟩:=Dl.mp this;exact hno kv hk e
  have hS1:((S++[MO.lst []]).set n (.dct (kvs++[(IE (zO x),.loc S.length)])))[S.length]? = Aa (.lst []):=by
   rw[Cp om];simp
  refine⟨S.length,(S++[MO.lst []]).set n (.dct (kvs++[(.inl (zO x),.loc S.length)])),((S++[MO.lst []]).set n (.dct (kvs++[(.inl (zO x),.loc S.length)]))).set S.length (.lst [prD x]),kvs++[(.inl (zO x),.loc S.length)],?_,?_,?_,⟨?_,?_,?_,?_⟩,?_⟩
  ·rw[← hput]
   exact FY hd rfl hv hlim
  ·exact QY hS1
  ·have:(0:Ai)<lim:=by decide
   exact sX hS1 this _
  ·rw[Cp om,Ec (by simp;omega)]
  ·intro kv hk
   rcases Ch.mp hk with hk|hk
   ·obtain⟨f',j',rfl,h3,h4⟩:=I.lists kv hk
    have hj':=(Be.mp h4).1;refine⟨f',j',rfl,h3,?_⟩;rw[Cp om,Cp om,Bk hj',h4];have hne:(zO x == f')=false:=by
     rw[IS];intro e;exact hno _ hk (by rw[e])
    rw[Io];simp[hne]
   ·have:kv=(.inl (zO x),.loc S.length):=by simpa using hk
    subst this;refine⟨zO x,S.length,rfl,hnS,?_⟩;rw[Ec (by simp)]
    have:(prs.filter λy=>zO y == zO x)=[]:=by
     rw[Ra];intro y hy e;exact hfn (by rw[← (by simpa using e:zO y=zO x)];exact Dl.mpr ⟨y,hy,rfl⟩)
    rw[Io,this];simp
  ·rw[Hm,Ll]
   refine⟨I.nd,by simp,?_⟩
   intro a ha b hb hab;simp at hb;subst hb;subst hab;obtain⟨kv,hk,e⟩:=Dl.mp ha;obtain⟨f',j',rfl,h3,h4⟩:=I.lists kv hk;have hj':=(Be.mp h4).1;have:j'=S.length:=D.loc.inj e;omega
  ·rw[Hm,I.keys,Hm,Vl]
   show _=(Bu ((prs.map zO).foldl Bu []) (zO x)).map IE;have hin:zO x ∉ (prs.map zO).foldl Bu []:=by
    intro h;rcases mB.mp h with h|h
    ·simp at h
    ·exact hfn h
   rw[JK hin,Hm];rfl
  ·intro m hm
   rw[Cp om,Cp om,Bk om]
def YK (l:Ab Pt):(xQ l).length≤l.length*l.length:=by
 induction l with
 |nil=>simp[xQ]
 |cons p l ih =>
  have e:(p::l).length*(p::l).length=l.length*l.length+l.length+l.length+1:=by
   simp only[Ci,Yt,Wi];omega
  rw[e];simp only[xQ,Cb,Aq];omega
def D6 {S:Sto}(h:∀ m,m<S.length→S'[m]? = S[m]?):S<+:S':=by
 rw[List.prefix_iff_getElem?];intro i hi;rw[h i hi,Ap hi]
def YL {l:Ab Pt}{x:Pt × Pt}(h:x∈xQ l):x.1∈l∧x.2∈l:=by
 induction l with
 |nil=>simp[xQ] at h
 |cons p l ih =>
  simp only[xQ,Ch,Dl] at h;rcases h with⟨q,hq,rfl⟩|h
  ·exact⟨Df ..,Bq _ hq⟩
  ·exact⟨Bq _ (ih h).1,Bq _ (ih h).2⟩
def sL {l:Ab Pt}(h:l.length≤41):(xQ l).length<4000:=by
 have h1:=YK l;have h2:l.length*l.length≤41*41:=Xk h h;omega
inductive IvG1 (l:Ab Pt)(S:Sto)(ds:Ab D)(env:qD)(S':Sto):Prop
 |mk (i:Ai) (e2 e3 e4:Am D) (done:Ab (Pt × Pt)) (kvs:Ab (_L.Key × D)) (h_0:env=[Aa (.tup (l.map pD)),Aa (.loc S.length),e2,e3,e4]) (h_1:ds=eL i ((l.drop i).map pD)) (h_2:GI S.length done kvs S') (h_3:done++xQ (l.drop i)=xQ l) (h_4:∀ m,m<S.length→S'[m]? = S[m]?):IvG1 l S ds env S'
inductive IvG2 (l:Ab Pt)(S:Sto)(i:Ai)(p:Pt)(rest:Ab Pt)(ds:Ab D)(env:qD)(S':Sto):Prop
 |mk (r:Ab Pt) (e4:Am D) (done:Ab (Pt × Pt)) (kvs:Ab (_L.Key × D)) (h_0:env=[Aa (.tup (l.map pD)),Aa (.loc S.length),Aa (.int (i:Aj)),Aa (pD p),e4]) (h_1:ds=r.map pD) (h_2:(∀ q∈r,q∈l)) (h_3:GI S.length done kvs S') (h_4:done++(r.map (λq=>(p,q))++xQ rest)=xQ l) (h_5:∀ m,m<S.length→S'[m]? = S[m]?):IvG2 l S i p rest ds env S'
def FU (l:Ab Pt)(S:Sto)(hok:∀ p∈l,pX p)(hl:l.length≤41):∃ (kvs:Ab (_L.Key × D)) (S':Sto),S_pairs_by_far [.tup (l.map pD)] S=.ok (.loc S.length) S'∧GI S.length (xQ l) kvs S'∧∀ m,m<S.length→S'[m]? = S[m]?:=by
 have key:Rt (b_pairs_by_far [Aa (.tup (l.map pD)),none,none,none,none] S) λd S'=>d=.loc S.length∧∃ kvs,GI S.length (xQ l) kvs S'∧∀ m,m<S.length→S'[m]? = S[m]?:=by
  unfold b_pairs_by_far;refine qX (k7 (zX rfl ?_));refine qX (j9 (ds:=vE (l.map pD)) (S1:=S++[.dct []]) rfl ?_);refine vT (IvG1 l S) ?_ ?_ ?_
  ·rintro d ds env S' ⟨i,e2,e3,e4,done,kvs,rfl,hds,G,hall,hpre⟩
   cases hdr:l.drop i with
   |nil=>rw[hdr] at hds;cases hds
   |cons p rest =>
    rw[hdr] at hds hall;simp only[Dy,eL] at hds;injection hds with h1 h2
    subst h1 h2;have hrest:l.drop (i+1)=rest:=by
     have:=congrArg List.tail hdr;simpa [List.tail_drop] using this
    have hmem:∀ q∈p::rest,q∈l:=λq hq=>IQ (hdr▸hq);refine⟨[Aa (.tup (l.map pD)),Aa (.loc S.length),Aa (.int (i:Aj)),Aa (pD p),e4],S',rfl,?_⟩;have hsl:wP (dSl (qB 0) (qT (d2 qV (qB 2) (dC (.int 1)))) (qZ)) [Aa (.tup (l.map pD)),Aa (.loc S.length),Aa (.int (i:Aj)),Aa (pD p),e4] S'=.ok (rest.map pD) S':=by
     have e1:gSl (.tup (l.map pD)) (Aa ((i:Aj)+1)) none S'=.ok (.tup (rest.map pD)) S':=by
      show Res.ok (D.tup (zV (l.map pD) (Aa ((i:Aj)+1)) none)) S'=_;rw[ZN,← OZ,hrest]
     simp[qQ,uF,F4,AN,AM,qP,sIf,qU,zM,vI,zB,gNm,gSb,gTp,qM,zU,kX,CW,AY,HS,dC,qB,d1,d2,qA,qC,qE,qG,dTr,zW,wC,zC,v7,oH,dIf,xR,zG,zQ,sJ,dBm,dSl,qT,qZ,wP,y9,Res.bind,Res.toS,_D.uB,_D.vA,AR,AO,SW,AZ,AT,AU,AV,AS,AL,AK,NO,gLt,gLe,gGt,gGe,_D.xN,AX,w8,e1]
    refine j9 hsl ?_;refine vT (IvG2 l S i p rest) ?_ ?_ ?_
    ·rintro d ds env S' ⟨r,e4,done,kvs,rfl,hds,hr,G,hall,hpre⟩
     cases r with
     |nil=>cases hds
     |cons q r =>
      injection hds with h1 h2
      subst h1 h2;have hdl:done.length<4000:=by
       have:=congrArg Jl hall;have h3:=sL hl;simp only[Cb] at this;omega
      obtain⟨j,S1,S2,kvs',f1,f2,f3,G',hp'⟩:=B6 G (p,q) hdl;refine⟨[Aa (.tup (l.map pD)),Aa (.loc S.length),Aa (.int (i:Aj)),Aa (pD p),Aa (pD q)],S',rfl,?_⟩;refine lE ?_;have hfar:=EN p q S' (hok p (hmem p (Df ..))) (hok q (hr q (Df ..)));have hty:tyD (.loc S.length) S'=Aa "dict":=Y9 G.dict;have l2:2≤lim:=by decide
      have l0:0≤lim:=by decide
      have f1':wX (.loc S.length) [.int (far p q),.loc S'.length] (S'++[MO.lst []]) = .ok (.loc j) S1:=f1;have f3':wW (.loc j) [.tup [pD p,pD q]] S1=.ok .non S2:=f3;refine zX (d:=.non) (S:=S2) ?_ ?_
      ·simp[qQ,uF,F4,AN,AM,qP,sIf,qU,zM,vI,zB,gNm,gSb,gTp,qM,zU,kX,CW,AY,HS,dC,qB,d1,d2,qA,qC,qE,qG,dTr,zW,wC,zC,v7,oH,dIf,xR,zG,zQ,sJ,dBm,dSl,qT,qZ,wP,y9,Res.bind,Res.toS,_D.uB,_D.vA,AR,AO,SW,AZ,AT,AU,AV,AS,AL,AK,NO,gLt,gLe,gGt,gGe,_D.xN,AX,hfar,hty,l2,l0,f1',f2,f3']
      ·refine⟨r,_,done++[(p,q)],kvs',rfl,rfl,λq' hq=>hr q' (Bq _ hq),G',?_,λm hm=>(hp' m hm).trans (hpre m hm)⟩
       rw[← hall];simp
    ·rintro env S' ⟨r,e4,done,kvs,rfl,hds,hr,G,hall,hpre⟩
     cases r with
     |cons _ _=>cases hds
     |nil =>
      refine⟨i+1,_,_,_,done,kvs,rfl,?_,G,?_,hpre⟩
      ·rw[hrest]
      ·rw[hrest];simpa using hall
    ·exact⟨rest,e4,done,kvs,rfl,rfl,λq hq=>hmem q (Bq _ hq),G,by simpa [xQ] using hall,hpre⟩
  ·rintro env S' ⟨i,e2,e3,e4,done,kvs,rfl,hds,G,hall,hpre⟩
   refine xE (zX rfl ⟨rfl,kvs,?_,hpre⟩);cases hdr:l.drop i with
   |cons _ _=>rw[hdr] at hds;cases hds
   |nil =>
    rw[hdr] at hall;have:done=xQ l:=by simpa [xQ] using hall
    rw[← this];exact G
  ·refine⟨0,none,none,none,[],[],rfl,?_,⟨?_,?_,Om,rfl⟩,rfl,?_⟩
   ·rw[VM];rfl
   ·simp
   ·intro kv hk;simp at hk
   ·intro m hm;rw[Bk hm]
 obtain⟨d,S',e,rfl,kvs,G,hp⟩:=key;exact⟨kvs,S',by rw[jE];exact yH rfl e,G,hp⟩
def kys (fs:Ab Aj):Ab Aj:=fs.foldl Bu []
def tbK (fs:Ab Aj):Ab (Ab Aj):=(kys fs).map λf=>[f,(fs.count f:Aj)]
def tbl (fs:Ab Aj):Ab (Ab Aj):=_S.kH _H.lexLt (tbK fs)
def nY {fs:Ab Aj}{x:Aj}:x∈kys fs↔x∈fs:=by
 unfold kys;rw[mB];simp
def NZ (fs:Ab Aj):(kys fs).Nodup:=aE fs [] Om
def cJ {α:Type}[Vn α]{a b:Ab α}(ha:a.Nodup)(hb:b.Nodup)(h:∀ x,x∈a↔x∈b):a.Perm b:=by
 rw[List.perm_iff_count];intro x;rw[ha.count,hb.count];simp only[h]
def VT (prs:Ab (Pt × Pt))(f:Aj):(prs.filter λx=>zO x == f).length=(prs.map zO).count f:=by
 rw[Yy,Nc,List.countP_eq_length_filter];rfl
def BP {S:Sto}{j:Ai}(h:S[j]? = Aa (.lst xs)):zL [.loc j] S=.ok (.int xs.length) S:=by
 show (match (match S[j]? with|some (.lst xs)=>Aa xs.length|_=>none:Am Ai) with|some n=>Res.ok (D.int n) S|none=>.bad)=_
 rw[h]
def ctD (fs:Ab Aj)(k:_L.Key):D:=match k with
 |.inl f=>.tup [.int f,.int (fs.count f:Aj)]
 |.inr _=>.non
def M1 (ks:Ab (Ab Aj))(hl:ks.length≤100000)(he:∀ k∈ks,k≠[]):pL (ks.map tpD)=Aa ((_S.kH _H.lexLt ks).map tpD):=by
 unfold pL;cases ks with
 |nil =>
  have e1:_S.kH _S.ltI [] = []:=Ox;have e2:_S.kH _H.lexLt [] = []:=Ox;show (if ([] : Ab Aj).length≤100000 then Aa ((_S.kH _S.ltI []).map D.int) else none)=_
  rw[e1,e2,Bi (by simp)]
  rfl
 |cons k r =>
  have h0:xH ((k::r).map tpD)=none:=rfl;rw[h0,yU];have h2:((k::r).all λk=>!k.isEmpty)=true:=Az.mpr λq hq=>by
   have:=he q hq;cases q with
   |nil=>exact absurd rfl this
   |cons _ _=>rfl
  have h3:(decide ((k::r).length≤100000)&&(k::r).all λk=>!k.isEmpty)=true:=by rw[h2,De hl];rfl
  show (if (decide ((k::r).length≤100000)&&(k::r).all λk=>!k.isEmpty)=true then _ else _)=_
  rw[Bi h3]
def oA {ps:Ab Pt}(h:Lt ps):∀ p∈ps,pX p:=λp hp=>by
 have:=h.bd hp;unfold pX;omega
def nX (l:Ab Pt)(h:l.length≤41):(kys (fars l)).length≤4000:=by
 have h1:=rV (ks:=fars l) (l:=[]);have h2:=sL h;have h3:(fars l).length=(xQ l).length:=by unfold fars;rw[Aq]
 unfold kys;simp only[Gv] at h1;omega
def fJ (c:Cl)(ps:Ab Pt)(h:Lt ps)(S:Sto):∃ S',S_far_table c [.tup (ps.map pD)] S=.ok (.lst ((tbl (fars ps)).map tpD)) S'∧S<+:S':=by
 have h41:ps.length≤41:=by have:=h.le;omega
 obtain⟨kvs,S1,e1,G,hp⟩:=FU ps S (oA h) h41;have hpre:S<+:S1.set S.length .dead:=D6 λm hm=>by rw[Cp om];exact hp m hm
 have hi:xS (mQ (qG 1 S_pairs_by_far (qA (qB 0) (qC)))) [Aa (.tup (ps.map pD))] S=.ok (none,kvs.map λp=>D.tup [kD p.1,p.2]) (S1.set S.length .dead):=by
  unfold xS mQ;rw[(xA (f1:=qB 0) (env:=[Aa (.tup (ps.map pD))]) (S:=S) rfl).trans e1];simp only[Res.bind,G.dict];rfl
 have ek:kvs.map (·.1)=(kys (fars ps)).map IE:=G.keys
 have hkl:kvs.length≤4000:=by
  have h1:kvs.length=(kvs.map (·.1)).length:=by simp
  rw[h1,ek,Aq];exact nX ps h41
 obtain⟨env',e2⟩:=oO (S:=S1.set S.length .dead) (o:=none) (xs:=kvs) (enc:=λp=>D.tup [kD p.1,p.2]) (g:=gTp 2 (qM (gNm 0) (qM (gNm 1) (zU)))) (t:=zC) (fe:=zG (qA (qB 0) (qA (qE zL (qA (qB 1) (qC))) (qC)))) (env:=x0 [none,none] [Aa (.tup (ps.map pD))]) trivial (λ_=>true) (λp=>ctD (fars ps) p.1) (λenv=>∃ a b,env=[a,b]) ⟨none,none,rfl⟩ (by unfold lim;omega)
  (λp hp env ⟨a,b,e⟩=>by
   subst e;obtain⟨f,j,rfl,h1,h2⟩:=G.lists p hp;have h4:(S1.set S.length MO.dead)[j]? = Aa (.lst (((xQ ps).filter λx=>zO x == f).map prD)):=by rw[Cp om];exact h2
   refine⟨[Aa (.int f),Aa (.loc j)],rfl,⟨_,_,rfl⟩,rfl,λ_=>?_⟩;have h5:=BP h4;rw[Aq,VT] at h5;exact x9 (xL (a:=.int f) rfl ((wU (a:=.loc j) rfl).trans h5)) (by show 2≤lim;decide))
 have hc:=wE hi e2;rw[xW] at hc;have ev:(kvs.map λp=>ctD (fars ps) p.1)=(tbK (fars ps)).map tpD:=by
  have:(kvs.map λp=>ctD (fars ps) p.1)=(kvs.map (·.1)).map (ctD (fars ps)):=by rw[Fw];rfl
  rw[this,ek];unfold tbK;rw[Fw,Fw];rfl
 rw[ev] at hc;refine⟨_,?_,hpre⟩;have hs:bY [.lst ((tbK (fars ps)).map tpD)] (S1.set S.length .dead)=.ok (.lst ((tbl (fars ps)).map tpD)) (S1.set S.length .dead):=by
  have e:=M1 (tbK (fars ps)) (by unfold tbK;rw[Aq];have:=nX ps h41;omega) (λk hk=>by
   obtain⟨f,_,rfl⟩:=Dl.mp hk;intro z;cases z)
  show (match (Aa ((tbK (fars ps)).map tpD)).bind pL with|some ys=>Res.ok (D.lst ys) (S1.set S.length .dead)|none=>.bad)=_
  rw[Ka,e];rfl
 rw[uK];show v9 (b_far_table c [Aa (.tup (ps.map pD))] S)=_;unfold b_far_table;have n1:=tQ c _ S h.pn;rw[h.lot,Bi rfl] at n1;rw[c7 (PQ (i:=0) rfl n1)];unfold qU;rw[(wU hc).trans hs];rfl
def tV {fs:Ab Aj}{k:Ab Aj}:k∈tbl fs↔∃ f∈fs,k=[f,(fs.count f:Aj)]:=by
 unfold tbl;rw[(_S.kR _).mem_iff];unfold tbK;rw[Dl];exact⟨λ⟨f,h,e⟩=>⟨f,nY.mp h,e.symm⟩,λ⟨f,h,e⟩=>⟨f,nY.mpr h,e.symm⟩⟩
def tU {ps:Ab Pt}(h:Lt ps):(tbl (fars ps)).length≤4000:=by
 unfold tbl;rw[(_S.kR _).length_eq];unfold tbK;rw[Aq];exact nX ps (by have:=h.le;omega)
def fs0 (fs:Ab Aj):Ab Aj:=(tbl fs).map λk=>k.getD 0 0
def oU {env:qD}{S:Sto}(h:env[i]? = Aa (Aa (.lst xs))):dIt (qB i) env S=.ok (none,xs) S:=by
 unfold dIt;rw[xY h];rfl
def mY {env:qD}{S:Sto}{t:DT}(fs:Ab Aj)(rest:qD)(ho:stn o S)(h0:∃ a b,x0 cap env=a::b::rest)(hl:(tbl fs).length≤4000)(sel:Aj→Aj→Ar)(val:Aj→Aj→D)
  (ht:∀ f n,t (Aa (.int f)::Aa (.int n)::rest) S=.ok (sel f n) S) (hfe:∀ f n,fe (Aa (.int f)::Aa (.int n)::rest) S=.ok (val f n) S) :
  ∃ env',goL o (gTp 2 (qM (gNm 0) (qM (gNm 1) (zU)))) t (qY fe) ((tbl fs).map tpD) (x0 cap env) S [] = .ok (env',((tbl fs).filter λk=>sel (k.getD 0 0) (k.getD 1 0)).map λk=>val (k.getD 0 0) (k.getD 1 0)) S:=
 oO (S:=S) (o:=o) (xs:=tbl fs) (enc:=tpD) (g:=gTp 2 (qM (gNm 0) (qM (gNm 1) (zU)))) (t:=t) (fe:=fe) (env:=x0 cap env) ho (λk=>sel (k.getD 0 0) (k.getD 1 0)) (λk=>val (k.getD 0 0) (k.getD 1 0)) (λenv=>∃ a b,env=a::b::rest) h0 (by unfold lim;omega)
  (λk hk env ⟨a,b,e⟩=>by
   subst e;obtain⟨f,_,rfl⟩:=tV.mp hk;exact⟨Aa (.int f)::Aa (.int (fs.count f:Aj))::rest,rfl,⟨_,_,rfl⟩,ht _ _,λ_=>hfe _ _⟩)
def NP (c:Cl)(ps:Ab Pt)(h:Lt ps)(S:Sto):∃ S',dIt (qG 1 (S_far_table c) (qA (qB 0) (qC))) [Aa (.tup (ps.map pD))] S=.ok (none,(tbl (fars ps)).map tpD) S'∧S<+:S':=by
 obtain⟨S',e,p⟩:=fJ c ps h S;refine⟨S',?_,p⟩;unfold dIt;rw[(xA (f1:=qB 0) (env:=[Aa (.tup (ps.map pD))]) (S:=S) rfl).trans e];rfl
def SD (c:Cl)(ps:Ab Pt)(h:Lt ps)(S:Sto):∃ S',S_fars c [.tup (ps.map pD)] S=.ok (.lst ((fs0 (fars ps)).map D.int)) S'∧S<+:S':=by
 obtain⟨S',hi,p⟩:=NP c ps h S;refine⟨S',?_,p⟩;obtain⟨env',e2⟩:=mY (cap:=[none,none]) (env:=[Aa (.tup (ps.map pD))]) (o:=none) (S:=S') (t:=zC) (fe:=qB 0) (fars ps) [] trivial ⟨_,_,rfl⟩ (tU h) (λ_ _=>true) (λf _=>.int f) (λ_ _=>rfl) λ_ _=>rfl;rw[xW] at e2;rw[pY];show v9 (b_fars c [Aa (.tup (ps.map pD))] S)=_;unfold b_fars qU;rw[wE hi e2];unfold fs0;rw[Fw];rfl
def SG (c:Cl)(ps:Ab Pt)(h:Lt ps)(S:Sto):∃ S',S_many_fars c [.tup (ps.map pD)] S=.ok (.int ((tbl (fars ps)).length:Aj)) S'∧S<+:S':=by
 obtain⟨S',e,p⟩:=SD c ps h S;refine⟨S',?_,p⟩;rw[uM];refine jO (env:=[Aa (.tup (ps.map pD))]) rfl ?_;rw[wU ((xA (a:=.tup (ps.map pD)) rfl).trans e),p7,Aq];unfold fs0;rw[Aq]
def sg (fs:Ab Aj):Ab Aj:=((tbl fs).filter λk=>decide (k.getD 1 0=1)).map λk=>k.getD 0 0
def G8 {env:qD}{S:Sto}(fs:Ab Aj)(ho:stn o S)(h0:∃ a b,x0 cap env=[a,b])(hl:(tbl fs).length≤4000):∃ env',goL o (gTp 2 (qM (gNm 0) (qM (gNm 1) (zU)))) (yW (dTr (d2 gEq (qB 1) (dC (.int 1)))) (zC)) (qY (qB 0)) ((tbl fs).map tpD) (x0 cap env) S [] = .ok (env',(sg fs).map D.int) S:=by
 obtain⟨env',e⟩:=mY (cap:=cap) (env:=env) (o:=o) (S:=S) (t:=yW (dTr (d2 gEq (qB 1) (dC (.int 1)))) (zC)) (fe:=qB 0) fs [] ho h0 hl (λ_ n=>decide (n=1)) (λf _=>.int f) (λf n=>by
  have ht:=w5 ((qN (a:=.int n) (b:=.int 1) (env:=[Aa (.int f),Aa (.int n)]) (S:=S) (f:=qB 1) (g:=dC (.int 1)) rfl rfl).trans (uO _ _ _));unfold yW;rw[ht];cases decide (n=1) <;> rfl) λ_ _=>rfl
 refine⟨env',e.trans ?_⟩;unfold sg;rw[Fw];rfl
def bL (c:Cl)(ps:Ab Pt)(h:Lt ps)(S:Sto):∃ S',S_singles c [.tup (ps.map pD)] S=.ok (.loc S'.length) (S'++[.lst ((sg (fars ps)).map D.int)])∧S<+:S':=by
 obtain⟨S',hi,p⟩:=NP c ps h S;refine⟨S',?_,p⟩;obtain⟨env',e2⟩:=G8 (cap:=[none,none]) (env:=[Aa (.tup (ps.map pD))]) (o:=none) (S:=S') (fars ps) trivial ⟨_,_,rfl⟩ (tU h);rw[jT];show v9 (b_singles c [Aa (.tup (ps.map pD))] S)=_;unfold b_singles qU;rw[ZR hi e2];rfl
def X6 (p:Pt)(l:Ab Pt):fars (p::l)=l.map (far p)++fars l:=by
 unfold fars;rw[xQ,Hm,Fw];rfl
def rS:∀ l:Ab Pt,2*(fars l).length=l.length*(l.length-1)
 |[]=>rfl
 |p::l=>by
  rw[X6,Cb,Aq,Ci,Wi,rS l];cases l.length with
  |zero=>rfl
  |succ n =>
   show 2*(n+1)+(n+1)*n=(n+1+1)*(n+1);rw[Yt (n+1) 1 (n+1),Nat.one_mul,Wi (n+1) n 1,Nat.mul_one];omega
def K8 (i:Aj)(h:i.natAbs<2 ^ 64)(S:Sto):vM (.int i) (.int 2) S=.ok (.int (i*i)) S:=by
 unfold vM;rw[NO,Bi (by unfold T0;exact De ⟨by omega,by omega,h⟩)]
 show Res.ok (D.int (i ^ (0+1+1))) S=_;rw[Ym,Ym,Int.pow_zero,Int.one_mul]
def SE (p q:Pt)(S:Sto)(hp:pX p)(hq:pX q):S__law_far [pD p,pD q] S=.ok (.int (far p q)) S:=by
 obtain⟨a1,a2,a3,a4⟩:=hp;obtain⟨b1,b2,b3,b4⟩:=hq;rw[pN];have sub:∀ (i j:Aj),xN (.int i) (.int j) S=.ok (.int (i-j)) S:=λ_ _=>rfl;have k1:d2 vM (d2 xN (d2 gIx (qB 0) (dC (.int 0))) (d2 gIx (qB 1) (dC (.int 0)))) (dC (.int 2)) [Aa (pD p),Aa (pD q)] S=.ok (.int ((p.1-q.1)*(p.1-q.1))) S:=
  (qN ((qN ((qN (a:=pD p) (b:=.int 0) rfl rfl).trans (eB p S)) ((qN (a:=pD q) (b:=.int 0) rfl rfl).trans (eB q S))).trans (sub _ _)) rfl).trans (K8 _ om S)
 have k2:d2 vM (d2 xN (d2 gIx (qB 0) (dC (.int 1))) (d2 gIx (qB 1) (dC (.int 1)))) (dC (.int 2)) [Aa (pD p),Aa (pD q)] S=.ok (.int ((p.2-q.2)*(p.2-q.2))) S:=
  (qN ((qN ((qN (a:=pD p) (b:=.int 1) rfl rfl).trans (eC p S)) ((qN (a:=pD q) (b:=.int 1) rfl rfl).trans (eC q S))).trans (sub _ _)) rfl).trans (K8 _ om S)
 exact jO (env:=[Aa (pD p),Aa (pD q)]) rfl ((qN k1 k2).trans (w8 _ _ S))
inductive IvP (l:Ab Pt)(S0:Sto)(ds:Ab D)(env:qD)(S:Sto):Prop
 |mk (i m:Ai) (e2:Am D) (done:Ab (Pt × Pt)) (h_0:env=[Aa (.tup (l.map pD)),Aa (.lst (done.map prD)),e2]) (h_1:ds=(Yu i m).map iD) (h_2:i+m=l.length) (h_3:done++xQ (l.drop i)=xQ l) (h_4:S=S0):IvP l S0 ds env S
def J3 (l:Ab Pt)(S:Sto)(hl:l.length≤41):S__law_pairs [.tup (l.map pD)] S=.ok (.lst ((xQ l).map prD)) S:=by
 have hA:=sL hl;have key:Rt (b__law_pairs [Aa (.tup (l.map pD)),none,none] S) λd S'=>d=.lst ((xQ l).map prD)∧S'=S:=by
  unfold b__law_pairs;refine qX (zI (d:=.lst []) (S1:=S) rfl rfl ?_);have hr:y9 (qA (qE zL (qA (qB 0) (qC))) (qC)) [Aa (.tup (l.map pD)),Aa (.lst []),none] S=.ok ((Yu 0 l.length).map iD) S:=by
   have e1:qE zL (qA (qB 0) (qC)) [Aa (.tup (l.map pD)),Aa (.lst []),none] S=.ok (.int (l.length:Aj)) S:=by
    rw[wU (a:=.tup (l.map pD)) rfl,p8,Aq]
   unfold y9;rw[xK e1,Res.bind_ok,iN l.length om,dP,List.range_eq_range']
  refine qX (j9 hr ?_);refine vT (IvP l S) ?_ ?_ ⟨0,l.length,none,[],rfl,rfl,by omega,rfl,rfl⟩
  ·rintro d ds env S' ⟨i,m,e2,done,rfl,hds,hm,hall,rfl⟩
   cases m with
   |zero=>cases hds
   |succ m =>
    rw[List.range'_succ,Dy] at hds;injection hds with h1 h2
    subst h1 h2;have hi:i<l.length:=by omega
    have hdr:l.drop i=l[i]::l.drop (i+1):=Gq hi;rw[hdr] at hall;refine⟨[Aa (.tup (l.map pD)),Aa (.lst (done.map prD)),Aa (iD i)],S',rfl,?_⟩;have hsl:dIt (dSl (qB 0) (qT (d2 qV (qB 2) (dC (.int 1)))) (qZ)) [Aa (.tup (l.map pD)),Aa (.lst (done.map prD)),Aa (iD i)] S'=.ok (none,(l.drop (i+1)).map pD) S':=by
     have e1:gSl (.tup (l.map pD)) (Aa ((i:Aj)+1)) none S'=.ok (.tup ((l.drop (i+1)).map pD)) S':=by
      show Res.ok (D.tup (zV (l.map pD) (Aa ((i:Aj)+1)) none)) S'=_;rw[ZN,← OZ]
     unfold iD;have e2:dSl (qB 0) (qT (d2 qV (qB 2) (dC (.int 1)))) (qZ) [Aa (.tup (l.map pD)),Aa (.lst (done.map prD)),Aa (.int (i:Aj))] S'=.ok (.tup ((l.drop (i+1)).map pD)) S':=by
      simp[qQ,uF,F4,AN,AM,qP,sIf,qU,zM,vI,zB,gNm,gSb,gTp,qM,zU,kX,CW,AY,HS,dC,qB,d1,d2,qA,qC,qE,qG,dTr,zW,wC,zC,v7,oH,dIf,xR,zG,zQ,sJ,dBm,dSl,qT,qZ,wP,y9,Res.bind,Res.toS,_D.uB,_D.vA,AR,AO,SW,AZ,AT,AU,AV,AS,AL,AK,NO,gLt,gLe,gGt,gGe,_D.xN,AX,w8,e1]
     unfold dIt;rw[e2];rfl
    have hat:_L.atI (l.map pD) (i:Aj)=Aa (pD l[i]):=_L.n6 (by rw[Ds,Ap hi];rfl)
    have hc:=jL (enc:=pD) (cap:=[none,Aa 2,Aa 0]) (g:=gNm 0) (t:=zC) (fe:=zG (qA (d2 gIx (qB 2) (qB 1)) (qA (qB 0) (qC)))) hsl trivial (λ_=>true) (λq=>prD (l[i],q)) (λenv=>∃ a,env=[a,Aa (iD i),Aa (.tup (l.map pD))]) ⟨none,rfl⟩ (by rw[Hr];unfold lim;omega)
     (λq hq env ⟨a,z⟩=>by
      subst z;exact⟨[Aa (pD q),Aa (iD i),Aa (.tup (l.map pD))],rfl,⟨_,rfl⟩,rfl,λ_=>x9 (xL ((qN (a:=.tup (l.map pD)) (b:=.int (i:Aj)) rfl rfl).trans (bE hat S')) rfl) (by show 2≤lim;decide)⟩)
    rw[xW] at hc;have hlen:done.length+(l.drop (i+1)).length≤lim:=by
     have:=congrArg Jl hall;simp only[xQ,Cb,Aq] at this;unfold lim;omega
    refine zI ((qN (a:=.lst (done.map prD)) rfl hc).trans (wS (by rw[Aq,Aq];exact hlen) S')) rfl ?_
    refine⟨i+1,m,Aa (iD i),done++(l.drop (i+1)).map λq=>(l[i],q),?_,rfl,by omega,?_,rfl⟩
    ·rw[Hm,Fw]
     rfl
    ·rw[Cd]
     exact hall
  ·rintro env S' ⟨i,m,e2,done,rfl,hds,hm,hall,rfl⟩
   have hm0:m=0:=by
    have:=congrArg Jl hds;simpa using this.symm
   rw[Jk om,xQ,Fo] at hall;subst hall;exact xE (zX (S:=S') rfl ⟨rfl,rfl⟩)
 obtain⟨d,S',e,rfl,rfl⟩:=key;rw[kL];exact yH rfl e
def iK (l:Ab Pt)(S:Sto)(hok:∀ p∈l,pX p)(hl:l.length≤41):S__law_fars [.tup (l.map pD)] S=.ok (.lst ((fars l).map D.int)) S:=by
 have hi:dIt (qG 1 S__law_pairs (qA (qB 0) (qC))) [Aa (.tup (l.map pD))] S=.ok (none,(xQ l).map prD) S:=by
  unfold dIt;rw[(xA (a:=.tup (l.map pD)) rfl).trans (J3 l S hl)];rfl
 have hc:=jL (enc:=prD) (cap:=[none,none]) (g:=gTp 2 (qM (gNm 0) (qM (gNm 1) (zU)))) (t:=zC) (fe:=qG 2 (okO S__law_far) (qA (qB 0) (qA (qB 1) (qC)))) hi trivial (λ_=>true) (λx=>.int (zO x)) (λenv=>∃ a b,env=[a,b]) ⟨_,_,rfl⟩ (by have:=sL hl;unfold lim;omega)
  (λx hx env ⟨a,b,z⟩=>by
   subst z;have hm:=YL hx;exact⟨[Aa (pD x.1),Aa (pD x.2)],rfl,⟨_,_,rfl⟩,rfl,λ_=>(u3 (a:=pD x.1) (b:=pD x.2) rfl rfl).trans (jA (SE x.1 x.2 S (hok _ hm.1) (hok _ hm.2)))⟩)
 rw[xW] at hc;rw[g9];refine jO (env:=[Aa (.tup (l.map pD))]) rfl (hc.trans ?_);unfold fars;rw[Fw];rfl
def rD (fs:Ab Aj)(x:Aj)(S:Sto):yZ (.lst (fs.map D.int)) [.int x] S=.ok (.int (fs.count x:Aj)) S:=by
 have h:(fs.map D.int).all (pl xM)=true:=by
  rw[IY,Az];intro i _;rfl
 have e:(fs.map D.int).countP (λy=>eqD y (.int x))=fs.count x:=by
  rw[Nc,Yy];rfl
 show (if (fs.map D.int).all (pl xM)&&pl xM (.int x) then Res.ok (D.int (((fs.map D.int).countP λy=>eqD y (.int x):Ai):Aj)) S else .bad)=_
 rw[h,e];rfl
def iX (fs:Ab Aj):tbl fs=(_S.srt _S.ltI fs).map λf=>[f,(fs.count f:Aj)]:=by
 have nd:(_S.srt _S.ltI fs).Nodup:=(_S.vD _S.pF fs).imp λ{a b} h e=>by
  subst e;rw[_S.pF.irr] at h;cases h
 refine _S.lD _S.k9 (_S.iW _S.k9 _) ?_ ((_S.kR _).trans ?_)
 ·unfold _S.Nf
  rw[IK];refine(_S.vD _S.pF fs).imp λ{a b} h=>?_;have h1:a<b:=Cu h;rw[BT,Bf om,Fj];omega
 ·unfold tbK
  exact(cJ (NZ fs) nd λx=>by rw[nY,_S.y7 _S.pF]).map _
def rR {ps:Ab Pt}(h:Lt ps):(fars ps).length≤780:=by
 have h1:=rS ps;have h2:ps.length*(ps.length-1)≤40*39:=Xk h.le (by have:=h.le;omega)
 omega
def J7 (ps:Ab Pt)(h:Lt ps)(S:Sto):S__law_table [.tup (ps.map pD)] S=.ok (.lst ((tbl (fars ps)).map tpD)) S:=by
 have h7:=rR h;have hsl:(_S.srt _S.ltI (fars ps)).length≤780:=by have:=fN _S.ltI (fars ps);omega
 have hs:dIt (wH (qB 1)) [Aa (.tup (ps.map pD)),Aa (.lst ((fars ps).map D.int))] S=.ok (none,(_S.srt _S.ltI (fars ps)).map D.int) S:=by
  unfold dIt wH;rw[show qB 1 [Aa (D.tup (ps.map pD)),Aa (.lst ((fars ps).map D.int))] S=.ok (.lst ((fars ps).map D.int)) S from rfl]
  have e:yS ((fars ps).map D.int)=Aa ((_S.srt _S.ltI (fars ps)).map D.int):=by
   unfold yS;rw[j6];exact Bi om
  simp only[Res.bind,bN,Ka,e];rfl
 have hc:=jL (enc:=D.int) (cap:=[none,Aa 1]) (g:=gNm 0) (t:=zC) (fe:=zG (qA (qB 0) (qA (dBm "list" yZ (qB 1) (qA (qB 0) (qC))) (qC)))) hs trivial (λ_=>true) (λf=>tpD [f,((fars ps).count f:Aj)]) (λenv=>∃ a,env=[a,Aa (.lst ((fars ps).map D.int))]) ⟨none,rfl⟩ (by unfold lim;omega)
  (λf hf env ⟨a,z⟩=>by
   subst z;refine⟨[Aa (.int f),Aa (.lst ((fars ps).map D.int))],rfl,⟨_,rfl⟩,rfl,λ_=>?_⟩;have e:dBm "list" yZ (qB 1) (qA (qB 0) (qC)) [Aa (.int f),Aa (.lst ((fars ps).map D.int))] S=.ok (.int ((fars ps).count f:Aj)) S:=by
    unfold dBm;rw[show qB 1 [Aa (D.int f),Aa (.lst ((fars ps).map D.int))] S=.ok (.lst ((fars ps).map D.int)) S from rfl]
    exact rD (fars ps) f S
   exact x9 (xL rfl e) (by show 2≤lim;decide))
 rw[xW] at hc;have key:Rt (b__law_table [Aa (.tup (ps.map pD)),none] S) λd S'=>d=.lst ((tbl (fars ps)).map tpD)∧S'=S:=by
  unfold b__law_table;refine qX (zI ((xA (a:=.tup (ps.map pD)) rfl).trans (iK ps S (oA h) (by have:=h.le;omega))) rfl ?_)
  refine xE (zX hc ⟨?_,rfl⟩);rw[iX,Fw];rfl
 obtain⟨d,S',e,rfl,rfl⟩:=key;rw[kN];exact yH rfl e
def VU {l:Ab Aj}(nd:l.Nodup)(x:Aj):l.filter (λf=>decide (f=x))=if x∈l then [x] else []:=by
 induction l with
 |nil=>simp
 |cons a l ih =>
  rw[ID] at nd;have ih:=ih nd.2;by_cases h:a=x
  ·subst h
   rw[List.filter_cons_of_pos (by simp),ih,Bf nd.1,Bi (.head _)]
  ·rw[List.filter_cons_of_neg (by simpa using h),ih]
   by_cases hx:x∈l
   ·rw[Bi hx,Bi (.tail _ hx)]
   ·rw[Bf hx,Bf (by simp[hx];exact λe=>h e.symm)]
def SQ (fs:Ab Aj):(_S.srt _S.ltI fs).Nodup:=(_S.vD _S.pF fs).imp λ{a b} h e=>by
 subst e;rw[_S.pF.irr] at h;cases h
def M8 (fs:Ab Aj)(x:Aj):((tbl fs).filter λk=>decide (k.getD 0 0=x)).map (λk=>k.getD 1 0)=if x∈fs then [(fs.count x:Aj)] else []:=by
 rw[iX,List.filter_map,Fw];have e:(λk:Ab Aj=>decide (k.getD 0 0=x))∘(λf=>[f,(fs.count f:Aj)])=λf=>decide (f=x):=rfl;rw[e,VU (SQ fs)];by_cases h:x∈fs
 ·rw[Bi ((_S.y7 _S.pF x fs).mpr h),Bi h];rfl
 ·rw[Bf λz=>h ((_S.y7 _S.pF x fs).mp z),Bf h];rfl
def SU (fs:Ab Aj)(x:Aj):(((tbl fs).filter λk=>decide (k.getD 0 0=x)).map (λk=>k.getD 1 0)).sum=(fs.count x:Aj):=by
 rw[M8];by_cases h:x∈fs
 ·rw[Bi h];simp
 ·rw[Bf h,List.count_eq_zero_of_not_mem h];rfl
def FT (c:Cl)(ps:Ab Pt)(h:Lt ps)(x:Aj)(S:Sto):∃ S',S_often c [.tup (ps.map pD),.int x] S=.ok (.int ((fars ps).count x:Aj)) S'∧S<+:S':=by
 obtain⟨S',e,p⟩:=fJ c ps h S;refine⟨S',?_,p⟩;obtain⟨env',e2⟩:=mY (cap:=[none,none,Aa 1]) (env:=[Aa (.tup (ps.map pD)),Aa (.int x),Aa (.lst ((tbl (fars ps)).map tpD))]) (o:=none) (S:=S') (t:=yW (dTr (d2 gEq (qB 0) (qB 2))) (zC)) (fe:=qB 1) (fars ps) [Aa (.int x)] trivial ⟨_,_,rfl⟩ (tU h) (λf _=>decide (f=x)) (λ_ n=>.int n) (λf n=>by
  have ht:=w5 ((qN (a:=.int f) (b:=.int x) (env:=[Aa (.int f),Aa (.int n),Aa (.int x)]) (S:=S') (f:=qB 0) (g:=qB 2) rfl rfl).trans (uO _ _ _));unfold yW;rw[ht];cases decide (f=x) <;> rfl) λ_ _=>rfl
 have hc:=wE (oU (i:=2) rfl) e2;have hs:rQ [.lst (((tbl (fars ps)).filter λk=>decide (k.getD 0 0=x)).map λk=>D.int (k.getD 1 0))] S'=.ok (.int ((fars ps).count x:Aj)) S':=by
  have e:(((tbl (fars ps)).filter λk=>decide (k.getD 0 0=x)).map λk=>D.int (k.getD 1 0))=(((tbl (fars ps)).filter λk=>decide (k.getD 0 0=x)).map λk=>k.getD 1 0).map D.int:=by rw[Fw];rfl
  rw[e];show (match (Aa ((((tbl (fars ps)).filter λk=>decide (k.getD 0 0=x)).map λk=>k.getD 1 0).map D.int)).bind xH with|some ns=>Res.ok (D.int ns.sum) S'|none=>.bad)=_
  rw[Ka,j6,← SU (fars ps) x]
 have key:Rt (b_often c [Aa (.tup (ps.map pD)),Aa (.int x),none] S) λd S2=>d=.int ((fars ps).count x:Aj)∧S2=S':=by
  unfold b_often;refine qX (zI ((xA (a:=.tup (ps.map pD)) rfl).trans e) rfl ?_);refine qX (lE (zX ((xA (a:=.int x) rfl).trans (Q8 c x S')) ?_));exact xE (zX ((wU hc).trans hs) ⟨rfl,rfl⟩)
 obtain⟨d,S2,e3,rfl,rfl⟩:=key;rw[jF];exact yH rfl e3
structure Bst (d:Ab (Ab Aj))(b:Ab Aj):Prop where
 mem:b∈d
 top:∀ k∈d,k.getD 1 0≤b.getD 1 0
 fst:(d.filter λk=>decide (k.getD 1 0=b.getD 1 0)).head? = Aa b
def cT {d:Ab (Ab Aj)}{k:Ab Aj}(h:∀ j∈d,j.getD 1 0<k.getD 1 0):Bst (d++[k]) k:=by
 refine⟨by simp,λj hj=>?_,?_⟩
 ·rcases Ch.mp hj with z|z
  ·have:=h j z;omega
  ·rw[Dg.mp z];exact Jr _
 ·rw[Io,Ra.mpr λj hj=>by have:=h j hj;rw[Ct];omega]
  simp
def GJ {d:Ab (Ab Aj)}{b k:Ab Aj}(h:Bst d b)(hk:k.getD 1 0≤b.getD 1 0):Bst (d++[k]) b:=by
 refine⟨Dh _ h.mem,λj hj=>?_,?_⟩
 ·rcases Ch.mp hj with z|z
  ·exact h.top j z
  ·rw[Dg.mp z];exact hk
 ·rw[Io,List.head?_append,h.fst]
  rfl
inductive BestOf (l:Ab (Ab Aj))(d:D):Prop
 |no (h:l=[]) (e:d=.non)
 |of (b:Ab Aj) (e:d=tpD b) (h:Bst l b)
inductive IvB (l:Ab (Ab Aj))(x:Am D)(S0:Sto)(ds:Ab D)(env:qD)(S:Sto):Prop
 |mk (done r:Ab (Ab Aj)) (d:D) (e2 e3:Am D) (h_0:ds=r.map tpD) (h_1:done++r=l) (h_2:env=[x,Aa d,e2,e3]) (h_3:BestOf done d) (h_4:S=S0):IvB l x S0 ds env S
def WW (c:Cl)(ps:Ab Pt)(h:Lt ps)(S:Sto):∃ (d:D) (S':Sto),S_most_often c [.tup (ps.map pD)] S=.ok d S'∧S<+:S'∧BestOf (tbl (fars ps)) d:=by
 obtain⟨S',e,p⟩:=fJ c ps h S;have key:Rt (b_most_often c [Aa (.tup (ps.map pD)),none,none,none] S) λd S2=>BestOf (tbl (fars ps)) d∧S2=S':=by
  unfold b_most_often;refine qX (zI (d:=.non) (S1:=S) rfl rfl ?_);have hi:wP (qG 1 (S_far_table c) (qA (qB 0) (qC))) [Aa (.tup (ps.map pD)),Aa .non,none,none] S=.ok ((tbl (fars ps)).map tpD) S':=by
   unfold wP;rw[(xA (a:=.tup (ps.map pD)) rfl).trans e];rfl
  refine qX (j9 hi ?_);refine vT (IvB (tbl (fars ps)) (Aa (.tup (ps.map pD))) S') ?_ ?_ ⟨[],_,.non,none,none,rfl,rfl,rfl,.no rfl rfl,rfl⟩
  ·rintro d ds env S2 ⟨done,r,d0,e2,e3,hds,hr,rfl,hb,rfl⟩
   cases r with
   |nil=>cases hds
   |cons k r =>
    injection hds with h1 h2
    subst h1 h2;obtain⟨f,hf,ek⟩:=tV.mp (show k∈tbl (fars ps) by rw[← hr];simp)
    generalize ((fars ps).count f:Aj)=n at ek;subst ek;refine⟨[Aa (.tup (ps.map pD)),Aa d0,Aa (.int f),Aa (.int n)],S2,rfl,?_⟩;have fin:∀ d1,BestOf (done++[[f,n]]) d1→IvB (tbl (fars ps)) (Aa (.tup (ps.map pD))) S2 (r.map tpD) [Aa (.tup (ps.map pD)),Aa d1,Aa (.int f),Aa (.int n)] S2:=λd1 hd=>⟨done++[[f,n]],r,d1,_,_,rfl,by rw[Cd];exact hr,rfl,hd,rfl⟩
    have asg:Nx (zB (zG (qA (qB 2) (qA (qB 3) (qC)))) (gNm 1) [Aa (.tup (ps.map pD)),Aa d0,Aa (.int f),Aa (.int n)] S2) λenv S3=>env=[Aa (.tup (ps.map pD)),Aa (tpD [f,n]),Aa (.int f),Aa (.int n)]∧S3=S2:=
     zI (x9 (xL (a:=.int f) (b:=.int n) rfl rfl) (by show 2≤lim;decide)) rfl ⟨rfl,rfl⟩
    rcases hb with⟨rfl,rfl⟩|⟨b,rfl,hb⟩
    ·refine xT (b:=true) (S1:=S2) rfl ?_
     obtain⟨env,S3,o,rfl,rfl⟩:=asg;exact xG o (fin _ (.of _ rfl (cT (d:=[]) λj hj=>by simp at hj)))
    ·have hbm:=hb.mem
     obtain⟨f',_,eb⟩:=tV.mp (show b∈tbl (fars ps) by rw[← hr];exact Dh _ hbm)
     generalize ((fars ps).count f':Aj)=n' at eb;subst eb;have ht:wC (dTr (d2 gIs (qB 1) (dC .non))) (dTr (d2 gGt (qB 3) (d2 gIx (qB 1) (dC (.int 1))))) [Aa (.tup (ps.map pD)),Aa (tpD [f',n']),Aa (.int f),Aa (.int n)] S2=.ok (false||decide (n'<n)) S2:=
      vH (a:=false) (w5 ((qN (a:=tpD [f',n']) (b:=.non) rfl rfl).trans rfl)) (λ_=>w5 ((qN (a:=.int n) (b:=.int n') rfl ((qN (a:=tpD [f',n']) (b:=.int 1) rfl rfl).trans rfl)).trans rfl)) (λz=>by cases z)
     refine xT ht ?_;by_cases hn:n'<n
     ·rw[De hn]
      obtain⟨env,S3,o,rfl,rfl⟩:=asg;refine xG o (fin _ (.of _ rfl (cT λj hj=>?_)));have:=hb.top j hj;show j.getD 1 0<n;have e1:([f',n']:Ab Aj).getD 1 0=n':=rfl;rw[e1] at this;omega
     ·rw[Cz hn]
      exact xG rfl (fin _ (.of _ rfl (GJ hb (by show n≤n';omega))))
  ·rintro env S2 ⟨done,r,d0,e2,e3,hds,hr,rfl,hb,rfl⟩
   have:r=[]:=by cases r with|nil=>rfl|cons _ _=>cases hds
   subst this;rw[Fo] at hr;subst hr;exact xE (zX rfl ⟨hb,rfl⟩)
 obtain⟨d,S2,e3,hb,rfl⟩:=key;refine⟨d,S2,?_,p,hb⟩;rw[vY];exact yH rfl e3
def Y5 (l:Ab (Ab Aj))(S:Sto):∃ M:Aj,mxD [.lst (l.map λk=>D.int (k.getD 1 0))] (.int 0) S=.ok (.int M) S∧(l≠[]→(∃ k∈l,k.getD 1 0=M)∧∀ k∈l,k.getD 1 0≤M):=by
 have e:(l.map λk=>D.int (k.getD 1 0))=(l.map λk=>k.getD 1 0).map D.int:=by rw[Fw];rfl
 cases l with
 |nil=>exact⟨0,rfl,λh=>absurd rfl h⟩
 |cons k r =>
  refine⟨(r.map λk=>k.getD 1 0).foldl max (k.getD 1 0),?_,λ_=>?_⟩
  ·rw[e]
   show (match xH (((k::r).map λk=>k.getD 1 0).map D.int) with|some [] => Res.ok (D.int 0) S|some (i::ns)=>Res.ok (D.int (ns.foldl max i)) S|none=>Res.bad)=_
   rw[j6];rfl
  ·obtain⟨f1,f2⟩:=rT (r.map λk=>k.getD 1 0) (k.getD 1 0)
   rw[← Dy (f:=λk:Ab Aj=>k.getD 1 0)] at f1;refine⟨?_,λj hj=>f2 _ ?_⟩
   ·obtain⟨j,hj,ej⟩:=Dl.mp f1
    exact⟨j,hj,ej⟩
   ·rw[← Dy (f:=λk:Ab Aj=>k.getD 1 0)]
    exact Ic hj
def m7 {l:Ab (Ab Aj)}{d:D}{M:Aj}(h:BestOf l d)(hM:l≠[]→(∃ k∈l,k.getD 1 0=M)∧∀ k∈l,k.getD 1 0≤M):_L.atI ((l.filter λk=>decide (k.getD 1 0=M)).map tpD++[.non]) 0=Aa d:=by
 rcases h with⟨rfl,rfl⟩|⟨b,rfl,hb⟩
 ·exact _L.n6 (j:=0) rfl
 ·obtain⟨⟨k,hk,ek⟩,h2⟩:=hM (List.ne_nil_of_mem hb.mem)
  have e:M=b.getD 1 0:=by
   have h3:=h2 b hb.mem;have h4:=hb.top k hk;omega
  subst e;have hf:=hb.fst;cases hl:l.filter λk=>decide (k.getD 1 0=b.getD 1 0) with
  |nil=>rw[hl] at hf;cases hf
  |cons a r =>
   rw[hl] at hf;cases hf;exact _L.n6 (j:=0) rfl
def pM (c:Cl)(d:D)(S:Sto)(hp:Pn d)(h:xO d=false):S_far_table c [d] S=.ex (.ref c.NoLot) .non S:=by
 rw[uK];show v9 (b_far_table c [Aa d] S)=_;unfold b_far_table;have n1:=tQ c d S hp;rw[h,Bf (by simp)] at n1
 rw[tR (X3 (i:=0) rfl n1)];rfl
def B0 (c:Cl)(d:D)(S:Sto)(hp:Pn d)(h:xO d=false):S_fars c [d] S=.ex (.ref c.NoLot) .non S:=by
 rw[pY];show v9 (b_fars c [Aa d] S)=_;unfold b_fars qU qS dIt;rw[(xA (a:=d) rfl).trans (pM c d S hp h)];rfl
def QJ (c:Cl)(d:D)(S:Sto)(hp:Pn d)(h:xO d=false):S_singles c [d] S=.ex (.ref c.NoLot) .non S:=by
 rw[jT];show v9 (b_singles c [Aa d] S)=_;unfold b_singles qU qS dIt;rw[(xA (a:=d) rfl).trans (pM c d S hp h)];rfl
def BU (c:Cl)(d:D)(S:Sto)(hp:Pn d)(h:xO d=false):S_many_fars c [d] S=.ex (.ref c.NoLot) .non S:=by
 rw[uM];show v9 (b_many_fars c [Aa d] S)=_;unfold b_many_fars qU;have e:=(xA (F:=S_fars c) (f1:=qB 0) (env:=[Aa d]) (S:=S) (a:=d) rfl).trans (B0 c d S hp h);have k:qE zL (qA (qG 1 (S_fars c) (qA (qB 0) (qC))) (qC)) [Aa d] S=.ex (.ref c.NoLot) .non S:=by
  show ((qG 1 (S_fars c) (qA (qB 0) (qC)) [Aa d] S).bind _).bind _=_;rw[e];rfl
 rw[k];rfl
def BV (c:Cl)(d:D)(S:Sto)(hp:Pn d)(h:xO d=false):S_most_often c [d] S=.ex (.ref c.NoLot) .non S:=by
 rw[vY];show v9 (b_most_often c [Aa d,none,none,none] S)=_;unfold b_most_often;rw[c7 (f:=zB (dC .non) (gNm 1)) (env:=[Aa d,none,none,none]) (S:=S) (env1:=[Aa d,Aa .non,none,none]) (S1:=S) rfl,tR (v:=.ref c.NoLot) (x:=.non) (env1:=[Aa d,Aa .non,none,none]) (S1:=S) (by
  unfold uC wP;rw[(xA (a:=d) rfl).trans (pM c d S hp h)];rfl)]
 rfl
def UK (c:Cl)(d a:D)(S:Sto)(hp:Pn d)(h:xO d=false):S_often c [d,a] S=.ex (.ref c.NoLot) .non S:=by
 rw[jF];show v9 (b_often c [Aa d,Aa a,none] S)=_;unfold b_often;rw[tR (v:=.ref c.NoLot) (x:=.non) (env1:=[Aa d,Aa a,none]) (S1:=S) (by
  unfold zB;rw[(xA (a:=d) rfl).trans (pM c d S hp h)];rfl)]
 rfl
def W9 (c:Cl)(ps:Ab Pt)(h:Lt ps)(a:D)(ha:wA a)(S:Sto):∃ S',S_often c [.tup (ps.map pD),a] S=.ex (.ref c.NoNumber) .non S':=by
 obtain⟨S',e,p⟩:=fJ c ps h S;refine⟨S',?_⟩;rw[jF];show v9 (b_often c [Aa (.tup (ps.map pD)),Aa a,none] S)=_;unfold b_often;rw[c7 (env1:=[Aa (.tup (ps.map pD)),Aa a,Aa (.lst ((tbl (fars ps)).map tpD))]) (S1:=S') (by
  unfold zB;rw[(xA (a:=.tup (ps.map pD)) rfl).trans e];rfl),tR (X3 (i:=1) rfl (WX c a S' ha))]
 rfl
def ans (c:Cl)(w:Ai)(l a:D)(S:Sto):Res D:=match w with
 |0=>S_many_fars c [l] S
 |1=>S_most_often c [l] S
 |2=>S_singles c [l] S
 |_=>S_often c [l,a] S
def ZB (c:Cl)(w:Ai)(hw:w<4)(l a:D)(S:Sto):dIf (dTr (d2 gEq (qB 0) (dC (.int 3)))) (qG 2 (S_often c) (qA (qB 1) (qA (qB 2) (qC)))) (nE [(1,(S_many_fars c)),(1,(S_most_often c)),(1,(S_singles c))] (qB 0) (qA (qB 1) (qC))) [Aa (.int (w:Aj)),Aa l,Aa a,none] S=ans c w l a S:=by
 have ht:=w5 ((qN (a:=.int (w:Aj)) (b:=.int 3) (env:=[Aa (.int (w:Aj)),Aa l,Aa a,none]) (S:=S) (f:=qB 0) (g:=dC (.int 3)) rfl rfl).trans (uO _ _ _));unfold dIf;rw[ht]
 match w,hw with
 |0,_=>rfl
 |1,_=>rfl
 |2,_=>rfl
 |3,_=>rfl
def bS (c:Cl)(w:Ai)(hw:w<4)(l a x:D)(S S':Sto)(h:ans c w l a S=.ok x S'):S__law_came c [.int (w:Aj),l,a] S=.ok x S':=by
 rw[uI];unfold b__law_came;refine yH (env:=[Aa (.int (w:Aj)),Aa l,Aa a,none]) rfl ?_;unfold mJ qU;rw[ZB c w hw,h];rfl
def cU (c:Cl)(w:Ai)(hw:w<4)(l a:D)(v:Af)(x:As)(S S':Sto)(h:ans c w l a S=.ex (.ref v) .non S')(hc:(jV c).contains (.ref v)=true)(hk:S__law_kind_of c [.exn (.ref v)] S'=.ok (.str x) S'):S__law_came c [.int (w:Aj),l,a] S=.ok (.str x) S':=by
 rw[uI];unfold b__law_came;refine yH (env:=[Aa (.int (w:Aj)),Aa l,Aa a,none]) rfl ?_;unfold mJ qU;rw[ZB c w hw,h];simp only[Res.toS,hc,Dk];simp[qQ,uF,F4,AN,AM,qP,sIf,qU,zM,vI,zB,gNm,gSb,gTp,qM,zU,kX,CW,AY,HS,dC,qB,d1,d2,qA,qC,qE,qG,dTr,zW,wC,zC,v7,oH,dIf,xR,zG,zQ,sJ,dBm,dSl,qT,qZ,wP,y9,Res.bind,Res.toS,_D.uB,_D.vA,AR,AO,SW,AZ,AT,AU,AV,AS,AL,AK,NO,gLt,gLe,gGt,gGe,_D.xN,AX,hk]
def CD (c:Cl):(jV c).contains (.ref c.NoLot)=true:=by rw[Ff];simp[jV]
def CF (c:Cl):(jV c).contains (.ref c.NoNumber)=true:=by rw[Ff];simp[jV]
def YT (c:Cl)(nd:(wB c).Nodup)(w:Ai)(hw:w<4)(d o:D)(S:Sto)(hp:Pn d)(h:xO d=false):S__law_came c [.int (w:Aj),d,o] S=.ok (.str "lot") S:=by
 refine cU c w hw _ _ _ _ S S ?_ (CD c) (eX c nd S)
 match w,hw with
 |0,_=>exact BU c d S hp h
 |1,_=>exact BV c d S hp h
 |2,_=>exact QJ c d S hp h
 |3,_=>exact UK c d o S hp h
def YU (c:Cl)(nd:(wB c).Nodup)(ps:Ab Pt)(h:Lt ps)(a:D)(ha:wA a)(S:Sto):∃ S',S__law_came c [.int 3,.tup (ps.map pD),a] S=.ok (.str "number") S':=by
 obtain⟨S',e⟩:=W9 c ps h a ha S;exact⟨S',cU c 3 om _ _ _ _ S S' e (CF c) (tP c nd S')⟩
def SK (d:D)(S:Sto)(h:okD 3 d):S__law_same [d,d] S=.ok (.bl true) S:=by
 rw[uJ];exact dQ 3 d S h
def nT {g:DG}{t:DT}{d x:D}{ds:Ab D}{env:qD}{S:Sto}{r:Res (qD × Ab D)}(hg:g d env S=.ok env1 S)(ht:t env1 S=.ok true S)(hf:fe env1 S=.ok x S1)(hl:acc.length<lim)(k:goL none g t (qY fe) ds env1 S1 (acc++[x])=r):goL none g t (qY fe) (d::ds) env S acc=r:=by
 simp only[goL,dW,Dk,hg,ht,Res.bind,gY hf hl];exact k
def NM {g:DG}{t:DT}{k:DK}{env:qD}{S:Sto}:goL none g t k [] env S acc=.ok (env,acc) S:=by
 simp only[goL,dW,Dk]
def eM {l:Ab (Ab Aj)}{d:D}(h:BestOf l d)(n:Ai):okD (n+1) d:=by
 rcases h with⟨_,rfl⟩|⟨b,rfl,_⟩
 ·trivial
 ·intro y hy
  obtain⟨i,_,rfl⟩:=Dl.mp hy;cases n <;> trivial
def k8 (n:Ai)(fs:Ab Aj):okD (n+1) (.lst (fs.map D.int)):=by
 intro y hy;obtain⟨i,_,rfl⟩:=Dl.mp hy;cases n <;> trivial
def ZC {l:Ab (Ab Aj)}{d d':D}(h:BestOf l d)(h':BestOf l d'):d=d':=by
 obtain⟨M,_,hM⟩:=Y5 l [];exact Co ((m7 h hM).symm.trans (m7 h' hM))
def JM (c:Cl)(ps:Ab Pt)(L:Lt ps)(bd:D)(hb:BestOf (tbl (fars ps)) bd)(env:qD)(S:Sto)(h3:env[3]? = Aa (Aa (.tup (ps.map pD)))) :
  ∃ (T:Sto) (j:Ai),qS false [none,Aa 3] (xS (y9 (qA (dC (.int 3)) (qC)))) (gNm 0) (zC) (qY (qG 3 (okO (S__law_came c)) (qA (qB 0) (qA (qB 1) (qA (dC (.int 0)) (qC)))))) env S=.ok (.lst [.int ((tbl (fars ps)).length:Aj),bd,.loc j]) T∧S<+:T∧S.length≤j∧T[j]? = Aa (.lst ((sg (fars ps)).map D.int)):=by
 obtain⟨S1,e1,q1⟩:=SG c ps L S;obtain⟨d,S2,e2,q2,hd⟩:=WW c ps L S1;obtain⟨S3,e3,q3⟩:=bL c ps L S2;have hd':=ZC hd hb;subst hd';have l0:(0:Ai)<lim:=by decide
 have l1:(1:Ai)<lim:=by decide
 have l2:(2:Ai)<lim:=by decide
 have hs:x0 [none,Aa 3] env=[none,Aa (.tup (ps.map pD))]:=by
  simp[x0,h3]
 have hi:=gG (dC (.int 3)) 3 env S om rfl;refine⟨S3++[.lst ((sg (fars ps)).map D.int)],S3.length,wE hi (env':=[Aa (.int 2),Aa (.tup (ps.map pD))]) ?_,((q1.trans q2).trans q3).trans (Ha _ _),((q1.trans q2).trans q3).length_le,by simp⟩
 rw[hs];have k:∀ (w:Ai) (x:D) (S S':Sto),w<4→ans c w (.tup (ps.map pD)) (.int 0) S=.ok x S'→qG 3 (okO (S__law_came c)) (qA (qB 0) (qA (qB 1) (qA (dC (.int 0)) (qC)))) [Aa (.int (w:Aj)),Aa (.tup (ps.map pD))] S=.ok x S':=λw x S S' hw h =>
  (gQ (a:=.int (w:Aj)) (b:=.tup (ps.map pD)) (c:=.int 0) rfl rfl rfl).trans (jA (bS c w hw _ _ _ _ _ h))
 exact nT (env1:=[Aa (.int ((0:Ai):Aj)),Aa (.tup (ps.map pD))]) rfl rfl (k 0 _ _ _ om e1) l0 (nT (env1:=[Aa (.int ((1:Ai):Aj)),Aa (.tup (ps.map pD))]) rfl rfl (k 1 _ _ _ om e2) l1 (nT (env1:=[Aa (.int ((2:Ai):Aj)),Aa (.tup (ps.map pD))]) rfl rfl (k 2 _ _ _ om e3) l2 NM))
def mI {S:Sto}{j m:Ai}(h:S[j]? = Aa (.lst xs))(hx:okD (n+1) (.lst xs))(hn:n≤m):yR (m+1) S (.loc j)=Aa (.lst xs):=by
 have:=gL S (n+1) (m+1) (.lst xs) hx om;show (match S[j]? with|some (.lst xs)=>(mapO (yR m S) xs).map D.lst|_=>none)=_
 rw[h];exact this
def FX {S:Sto}{j:Ai}{fs:Ab Aj}(h:S[j]? = Aa (.lst (fs.map D.int))):u8 S__law_same [.loc j,.lst (fs.map D.int)] S=.ok (.bl true) S:=
 dG S _ _ _ 3 (mI (n:=2) (m:=19) h (k8 2 fs) om) (gL S 3 20 _ (k8 2 fs) om) (k8 2 fs) rfl
def iE {l:Ab (Ab Aj)}{bd:D}(hb:BestOf l bd)(m:Aj)(fs:Ab Aj):okD 3 (.lst [.int m,bd,.lst (fs.map D.int)]):=by
 intro x hx;simp only[Aw,Cw,Fz] at hx;rcases hx with rfl|rfl|rfl
 ·trivial
 ·exact eM hb 1
 ·exact k8 1 fs
def JE {S:Sto}{j:Ai}{l:Ab (Ab Aj)}{bd:D}{m:Aj}{fs:Ab Aj}(hb:BestOf l bd)(h:S[j]? = Aa (.lst (fs.map D.int))):u8 S__law_same [.lst [.int m,bd,.loc j],.lst [.int m,bd,.lst (fs.map D.int)]] S=.ok (.bl true) S:=by
 have a:=mI (n:=1) (m:=18) h (k8 1 fs) om;have b:=gL S 2 19 bd (eM hb 1) om;refine dG S _ _ (.lst [.int m,bd,.lst (fs.map D.int)]) 3 ?_ (gL S 3 20 _ (iE hb m fs) om) (iE hb m fs) rfl;show (mapO (yR 19 S) [.int m,bd,.loc j]).map D.lst=_;simp only[mapO,a,b];rfl
def L8 {S:Sto}{j:Ai}(h:S[j]? = Aa (.lst ([] : Ab D))):fB gNe (.loc j) (.lst []) S=.ok (.bl false) S:=by
 have a:=mI (n:=0) (m:=19) (xs:=[]) h (k8 0 []) om;have b:yR 20 S (.lst []) = Aa (.lst []):=gL S 1 20 _ (k8 0 []) om;unfold fB;simp only[bA,a,b];rfl
def L5 {ps:Ab Pt}(h:Lt ps){p:Pt}(hp:p∈ps):Lt [p]:=by
 refine E1 ?_ (by simp) (by simp) (La _ _)
 show (z9 (pD p)&&true)=true;rw[BB (h.bd hp)];rfl
def SM (p:Pt):(sg (fars [p])).map D.int=[]:=by
 have e:tbl (fars [p])=[]:=Ox;unfold sg;rw[e];rfl
def ZM {ps:Ab Pt}(h:1≤ps.length):∃ p∈ps,zV (ps.map pD) none (Aa 1)=[p].map pD:=by
 cases ps with
 |nil=>simp at h
 |cons p r=>exact⟨p,.head _,by rw[show (Aa (1:Aj))=Aa ((1:Ai):Aj) from rfl,gD];rfl⟩
def YW (ns:Ab Aj)(hl:ns.length≤63)(env:qD)(S:Sto)(h0:env[0]? = Aa (Aa (.lst (ns.map D.int)))):∃ ms:Ab Aj,wP (d2 qV (zQ (qA (qG 2 S__law_cell (qA (qB 0) (qA (dC (.int 0)) (qC)))) (qC))) (dSl (qB 0) (qT (dC (.int 1))) (qT (dC (.int 6))))) env S=.ok (ms.map D.int) S:=by
 obtain⟨x,hx⟩:=SB ns S;obtain⟨ms,hm,hml⟩:=nB ns (Aa 1) (Aa 6);refine⟨x::ms,?_⟩;have l1:1≤lim:=by decide
 have hs:dSl (qB 0) (qT (dC (.int 1))) (qT (dC (.int 6))) env S=.ok (.lst (ms.map D.int)) S:=by
  simp only[dSl,xY h0,Res.bind,qT,dC];show Res.ok (D.lst (zV (ns.map D.int) (Aa 1) (Aa 6))) S=_;rw[hm]
 have hc:zQ (qA (qG 2 S__law_cell (qA (qB 0) (qA (dC (.int 0)) (qC)))) (qC)) env S=.ok (.lst [.int x]) S:=wR (xK ((u3 (xY h0) rfl).trans hx)) l1;unfold wP;rw[qN hc hs,wS (by rw[Aq];show 1+ms.length≤lim;unfold lim;omega)]
 rfl
def L9 (x:As)(S:Sto):gNe (.str x) (.str x) S=.ok (.bl false) S:=by
 unfold gNe;rw[show (pl xM (.str x))=true from rfl]
 show Res.ok (D.bl (!(x == x))) S=_;rw[Eg];rfl
def noW:Ab D:=[.non,.str "0",.bl true,.bl false,.tup [.int 0],.lst [.int 0],.dct0]
def LB:∀ d∈noW,wA d:=by
 intro d hd;simp only[noW,Aw,Cw,Fz] at hd;rcases hd with rfl|rfl|rfl|rfl|rfl|rfl|rfl
 ·exact W5
 ·exact W6 _
 ·exact Q1 _
 ·exact Q1 _
 ·exact W7 _
 ·exact W4 _
 ·exact W3
def QC (S:Sto)(p:Ai)(h:zY S p):∃ (d:D) (S':Sto),S__law_no_whole [.loc p] S=.ok d S'∧wA d:=by
 obtain⟨k,S1,c1,hk,p1⟩:=wF (S:=S) (i:=0) (f2:=dC (.int 7)) (env:=[Aa (.loc p)]) (m:=7) h om rfl rfl;obtain⟨o,ho,ho'⟩:=gC noW (k:Aj) ⟨by omega,by show (k:Aj)<7;omega⟩
 have l1:1≤lim:=by decide
 have l7:7≤lim:=by decide
 have hl:zQ (qA (dC .non) (qA (dC (.str "0")) (qA (dC (.bl true)) (qA (dC (.bl false)) (qA (zG (qA (dC (.int 0)) (qC))) (qA (zQ (qA (dC (.int 0)) (qC))) (qA (jG) (qC)))))))) [Aa (.loc p)] S=.ok (.lst noW) S:=
  wR (zD rfl (zD rfl (zD rfl (zD rfl (zD (x9 (xK rfl) l1) (zD (wR (xK rfl) l1) (zD rfl (nG _ _)))))))) l7
 refine⟨o,S1,?_,LB o ho'⟩;rw[j3];exact jO (env:=[Aa (.loc p)]) rfl ((qN hl c1).trans (vS ho S1))
def MY {env:qD}{T:Sto}{d:D}(h:f env T=.ok (.loc i) T)(t:T[i]? = Aa (.lst xs))(hl:xs.length<lim):dBm "list" wW f (qA (dC d) (qC)) env T=.ok .non (T.set i (.lst (xs++[d]))):=by
 unfold dBm;rw[h,Res.bind_ok,QY t,Bi (Eg _),xK (show dC d env T=.ok d T from rfl),Res.bind_ok]
 exact sX t hl d
def D2 {S:Sto}{p j:Ai}{m:MO}(h:zY S p)(ne:p≠j):zY (S.set j m) p:=by
 obtain⟨v,f,e⟩:=h;exact⟨v,f,by rw[Cp om];exact e⟩
def D1 {S:Sto}{p:Ai}(h:zY S p):p<S.length:=by
 obtain⟨v,f,e⟩:=h;exact(Be.mp e).1
def B3 (x:As)(S:Sto):gNe (.lst [.str x,.str x,.str x,.str x]) (.lst [.str x,.str x,.str x,.str x]) S=.ok (.bl false) S:=by
 unfold gNe;rw[show pl xM (.lst [.str x,.str x,.str x,.str x])=true from rfl]
 show Res.ok (D.bl (!((x == x)&&((x == x)&&((x == x)&&((x == x)&&true)))))) S=_;rw[Eg];rfl
def CL (x:As)(env:qD)(S:Sto):d2 f8 (zQ (qA (dC (.str x)) (qC))) (dC (.int 4)) env S=.ok (.lst [.str x,.str x,.str x,.str x]) S:=by
 have l1:1≤lim:=by decide
 refine(qN (wR (xK rfl) l1) rfl).trans ?_;have h:(0:Aj)≤4∧(4:Aj)<2 ^ 62∧[D.str x].length*(4:Aj).toNat≤lim:=⟨by omega,by omega,by show 1*4≤lim;decide⟩
 simp only[f8];rw[Bi h];rfl
def V1 (fs:Ab Aj)(x:Aj)(env:qD)(S:Sto)(h5:env[5]? = Aa (Aa (.lst (fs.map D.int))))(h6:env[6]? = Aa (Aa (.int x))):dBm "list" yZ (qB 5) (qA (qB 6) (qC)) env S=.ok (.int (fs.count x:Aj)) S:=by
 unfold dBm;rw[xY h5,Res.bind_ok,Bi (show (tyD (D.lst (fs.map D.int)) S == Aa "list")=true from rfl),xK (xY h6),Res.bind_ok]
 exact rD fs x S
inductive IvC (ns:Ab Aj)(ds:Ab D)(env:qD)(S:Sto):Prop
 |mk (ms:Ab Aj) (e1 e2 e3 e4 e5 e6 e7 e8 e9 e10 e11 e12 e13 e14 e15:Am D) (h_0:ds=ms.map D.int) (h_1:env=[Aa (.lst (ns.map D.int)),e1,e2,e3,e4,e5,e6,e7,e8,e9,e10,e11,e12,e13,e14,e15]):IvC ns ds env S
inductive IvT (ns:Ab Aj)(e1 e6 e12 e13 e14 e15:Am D)(p:Ai)(ps:Ab Pt)(M:Aj)(bd:D)(ds:Ab D)(env:qD)(S:Sto):Prop
 |mk (e10 e11:Am D) (h_1:env=[Aa (.lst (ns.map D.int)),e1,Aa (.loc p),Aa (.tup (ps.map pD)),Aa (.lst ((tbl (fars ps)).map tpD)),Aa (.lst ((fars ps).map D.int)),e6,Aa (.int M),Aa bd,Aa (.lst [.int ((tbl (fars ps)).length:Aj),bd,.lst ((sg (fars ps)).map D.int)]),e10,e11,e12,e13,e14,e15]) (h_2:zY S p):IvT ns e1 e6 e12 e13 e14 e15 p ps M bd ds env S
inductive IvQ (ns:Ab Aj)(e1 e10 e11 e12 e13 e14 e15:Am D)(p:Ai)(ps:Ab Pt)(M:Aj)(bd:D)(ds:Ab D)(env:qD)(S:Sto):Prop
 |mk (ms:Ab Aj) (e6:Am D) (h_0:ds=ms.map D.int) (h_1:env=[Aa (.lst (ns.map D.int)),e1,Aa (.loc p),Aa (.tup (ps.map pD)),Aa (.lst ((tbl (fars ps)).map tpD)),Aa (.lst ((fars ps).map D.int)),e6,Aa (.int M),Aa bd,Aa (.lst [.int ((tbl (fars ps)).length:Aj),bd,.lst ((sg (fars ps)).map D.int)]),e10,e11,e12,e13,e14,e15]) (h_3:zY S p):IvQ ns e1 e10 e11 e12 e13 e14 e15 p ps M bd ds env S
def U7 (c:Cl)(nd:(wB c).Nodup)(ns:Ab Aj)(hl:ns.length≤63):∃ S,qQ 16 (b_law c) [.lst (ns.map D.int)] [] = .ok (.bl true) S:=by
 have l0:0≤lim:=by decide
 have l1:1≤lim:=by decide
 have l2:2≤lim:=by decide
 have l3:3≤lim:=by decide
 have l4:4≤lim:=by decide
 have l5:5≤lim:=by decide
 have key:Rt (b_law c [Aa (.lst (ns.map D.int)),none,none,none,none,none,none,none,none,none,none,none,none,none,none,none] []) λd _=>d=.bl true:=by
  unfold b_law;obtain⟨ms,hms⟩:=YW ns hl [Aa (.lst (ns.map D.int)),none,none,none,none,none,none,none,none,none,none,none,none,none,none,none] [] rfl;refine qX (j9 hms ?_);refine vT (IvC ns) ?_ ?_ ⟨ms,_,_,_,_,_,_,_,_,_,_,_,_,_,_,_,rfl,rfl⟩
  ·rintro d ds env S ⟨ms,e1,e2,e3,e4,e5,e6,e7,e8,e9,e10,e11,e12,e13,e14,e15,hds,rfl⟩
   cases ms with
   |nil=>cases hds
   |cons y ms =>
    injection hds with h1 h2
    subst h1 h2;refine⟨[Aa (.lst (ns.map D.int)),Aa (.int y),e2,e3,e4,e5,e6,e7,e8,e9,e10,e11,e12,e13,e14,e15],S,rfl,?_⟩;obtain⟨f,hpen⟩:=ER y S;refine wI (zI ((xA (a:=.int y) rfl).trans hpen) rfl ?_);have p0:zY (S++[.lst [.int y,.int f]]) S.length:=⟨y,f,by simp⟩
    generalize S++[.lst [.int y,.int f]]=S0 at p0;generalize S.length=p at p0;simp only[Cy,Cq];obtain⟨xs,S1,c1,hx,hxl,hlot,p1⟩:=EQ S0 p p0;refine wI (zI ((u3 (a:=.loc p) (b:=.int 40) rfl rfl).trans c1) rfl ?_);clear c1 hpen;simp only[Cy,Cq];obtain⟨ps,rfl⟩:=i7 hx;rw[Aq] at hxl;have L:Lt ps:=⟨hx,hxl.1,hxl.2,hlot⟩;have tl:=tU L;have f7:=rR L;refine wI (bH ((xA (a:=.tup (ps.map pD)) rfl).trans (J7 ps L S1)) ((xA (a:=.tup (ps.map pD)) rfl).trans (iK ps S1 (oA L) om)) ?_);simp only[Cy,Cq];obtain⟨bd,_,_,_,hb⟩:=WW c ps L S1;obtain⟨M,hM1,hM2⟩:=Y5 (tbl (fars ps)) S1;have hbest:=m7 hb hM2;obtain⟨v1,g1⟩:=mY (cap:=[none,none]) (env:=[Aa (.lst (ns.map D.int)),Aa (.int y),Aa (.loc p),Aa (.tup (ps.map pD)),Aa (.lst ((tbl (fars ps)).map tpD)),Aa (.lst ((fars ps).map D.int)),e6,e7,e8,e9,e10,e11,e12,e13,e14,e15]) (o:=none) (S:=S1) (t:=zC) (fe:=qB 1) (fars ps) [] trivial ⟨_,_,rfl⟩ tl (λ_ _=>true) (λ_ n=>.int n) (λ_ _=>rfl) λ_ _=>rfl;rw[xW] at g1;have k1:=wE (oU (i:=4) (env:=[Aa (.lst (ns.map D.int)),Aa (.int y),Aa (.loc p),Aa (.tup (ps.map pD)),Aa (.lst ((tbl (fars ps)).map tpD)),Aa (.lst ((fars ps).map D.int)),e6,e7,e8,e9,e10,e11,e12,e13,e14,e15]) rfl) g1;have m1:mR (qA (qS false [none,none] (dIt (qB 4)) (gTp 2 (qM (gNm 0) (qM (gNm 1) (zU)))) (zC) (qY (qB 1))) (qC)) (dC (.int 0)) [Aa (.lst (ns.map D.int)),Aa (.int y),Aa (.loc p),Aa (.tup (ps.map pD)),Aa (.lst ((tbl (fars ps)).map tpD)),Aa (.lst ((fars ps).map D.int)),e6,e7,e8,e9,e10,e11,e12,e13,e14,e15] S1=.ok (.int M) S1:=by
     unfold mR;rw[xK k1,Res.bind_ok];exact hM1
    refine wI (zI m1 rfl ?_);clear m1 k1 g1;simp only[Cy,Cq];obtain⟨v2,g2⟩:=mY (cap:=[none,none,Aa 7]) (env:=[Aa (.lst (ns.map D.int)),Aa (.int y),Aa (.loc p),Aa (.tup (ps.map pD)),Aa (.lst ((tbl (fars ps)).map tpD)),Aa (.lst ((fars ps).map D.int)),e6,Aa (.int M),e8,e9,e10,e11,e12,e13,e14,e15]) (o:=none) (S:=S1) (t:=yW (dTr (d2 gEq (qB 1) (qB 2))) (zC)) (fe:=zG (qA (qB 0) (qA (qB 1) (qC)))) (fars ps) [Aa (.int M)] trivial ⟨_,_,rfl⟩ tl (λ_ n=>decide (n=M)) (λf n=>tpD [f,n]) (λf n=>by
     have ht:=w5 ((qN (a:=.int n) (b:=.int M) (env:=[Aa (.int f),Aa (.int n),Aa (.int M)]) (S:=S1) (f:=qB 1) (g:=qB 2) rfl rfl).trans (uO _ _ _));unfold yW;rw[ht];cases decide (n=M) <;> rfl) λf n=>x9 (xL rfl rfl) l2
    have k2:=wE (oU (i:=4) (env:=[Aa (.lst (ns.map D.int)),Aa (.int y),Aa (.loc p),Aa (.tup (ps.map pD)),Aa (.lst ((tbl (fars ps)).map tpD)),Aa (.lst ((fars ps).map D.int)),e6,Aa (.int M),e8,e9,e10,e11,e12,e13,e14,e15]) rfl) g2;have e2:(((tbl (fars ps)).filter λk=>decide (k.getD 1 0=M)).map λk=>tpD [k.getD 0 0,k.getD 1 0])=((tbl (fars ps)).filter λk=>decide (k.getD 1 0=M)).map tpD:=Tj λk hk=>by
     obtain⟨f,_,rfl⟩:=tV.mp (Qk.mp hk).1;rfl
    rw[e2] at k2;have lf:(((tbl (fars ps)).filter λk=>decide (k.getD 1 0=M)).map tpD).length+[D.non].length≤lim:=by
     rw[Aq];have:=Iw (λk=>decide (k.getD 1 0=M)) (tbl (fars ps));show _+1≤lim;unfold lim;omega
    refine wI (zI ((qN ((qN k2 (wR (xK rfl) l1)).trans (wS lf S1)) rfl).trans (vS hbest S1)) rfl ?_);clear k2 g2 e2 lf;simp only[Cy,Cq];obtain⟨v3,g3⟩:=G8 (cap:=[none,none]) (env:=[Aa (.lst (ns.map D.int)),Aa (.int y),Aa (.loc p),Aa (.tup (ps.map pD)),Aa (.lst ((tbl (fars ps)).map tpD)),Aa (.lst ((fars ps).map D.int)),e6,Aa (.int M),Aa bd,e9,e10,e11,e12,e13,e14,e15]) (o:=none) (S:=S1) (fars ps) trivial ⟨_,_,rfl⟩ tl;have k3:=wE (oU (i:=4) (env:=[Aa (.lst (ns.map D.int)),Aa (.int y),Aa (.loc p),Aa (.tup (ps.map pD)),Aa (.lst ((tbl (fars ps)).map tpD)),Aa (.lst ((fars ps).map D.int)),e6,Aa (.int M),Aa bd,e9,e10,e11,e12,e13,e14,e15]) rfl) g3;have k0:qE zL (qA (qB 4) (qC)) [Aa (.lst (ns.map D.int)),Aa (.int y),Aa (.loc p),Aa (.tup (ps.map pD)),Aa (.lst ((tbl (fars ps)).map tpD)),Aa (.lst ((fars ps).map D.int)),e6,Aa (.int M),Aa bd,e9,e10,e11,e12,e13,e14,e15] S1=.ok (.int ((tbl (fars ps)).length:Aj)) S1:=by
     rw[wU (a:=.lst ((tbl (fars ps)).map tpD)) rfl,p7,Aq]
    refine wI (zI (wR (zD k0 (xL (a:=bd) rfl k3)) l3) rfl ?_);clear k0 k3 g3;simp only[Cy,Cq];have sl:(sg (fars ps)).length≤4000:=by
     unfold sg;rw[Aq];exact Fg (Iw _ _) tl
    have hr2:y9 (qA (dC (.int 2)) (qC)) [Aa (.lst (ns.map D.int)),Aa (.int y),Aa (.loc p),Aa (.tup (ps.map pD)),Aa (.lst ((tbl (fars ps)).map tpD)),Aa (.lst ((fars ps).map D.int)),e6,Aa (.int M),Aa bd,Aa (.lst [.int ((tbl (fars ps)).length:Aj),bd,.lst ((sg (fars ps)).map D.int)]),e10,e11,e12,e13,e14,e15] S1=.ok [.int 0,.int 1] S1:=rfl;refine wI (j9 hr2 ?_);clear hr2;refine vT (IvT ns (Aa (.int y)) e6 e12 e13 e14 e15 p ps M bd) ?_ ?_ ⟨e10,e11,rfl,p1⟩
    ·rintro d ds env S ⟨e10,e11,rfl,hp⟩
     refine⟨[Aa (.lst (ns.map D.int)),Aa (.int y),Aa (.loc p),Aa (.tup (ps.map pD)),Aa (.lst ((tbl (fars ps)).map tpD)),Aa (.lst ((fars ps).map D.int)),e6,Aa (.int M),Aa bd,Aa (.lst [.int ((tbl (fars ps)).length:Aj),bd,.lst ((sg (fars ps)).map D.int)]),Aa d,e11,e12,e13,e14,e15],S,rfl,?_⟩;obtain⟨T,j,e,pre,hj,t1⟩:=JM c ps L bd hb [Aa (.lst (ns.map D.int)),Aa (.int y),Aa (.loc p),Aa (.tup (ps.map pD)),Aa (.lst ((tbl (fars ps)).map tpD)),Aa (.lst ((fars ps).map D.int)),e6,Aa (.int M),Aa bd,Aa (.lst [.int ((tbl (fars ps)).length:Aj),bd,.lst ((sg (fars ps)).map D.int)]),Aa d,e11,e12,e13,e14,e15] S rfl;refine wI (zI e rfl ?_);clear e;simp only[Cy,Cq];refine wI (xT (j8 (w5 ((u3 (f1:=qB 11) (f2:=qB 9) (env:=[Aa (.lst (ns.map D.int)),Aa (.int y),Aa (.loc p),Aa (.tup (ps.map pD)),Aa (.lst ((tbl (fars ps)).map tpD)),Aa (.lst ((fars ps).map D.int)),e6,Aa (.int M),Aa bd,Aa (.lst [.int ((tbl (fars ps)).length:Aj),bd,.lst ((sg (fars ps)).map D.int)]),Aa d,Aa (.lst [.int ((tbl (fars ps)).length:Aj),bd,.loc j]),e12,e13,e14,e15]) (S:=T) rfl rfl).trans (JE hb t1)))) (xG rfl ?_));have g2:d2 gIx (qB 11) (dC (.int 2)) [Aa (.lst (ns.map D.int)),Aa (.int y),Aa (.loc p),Aa (.tup (ps.map pD)),Aa (.lst ((tbl (fars ps)).map tpD)),Aa (.lst ((fars ps).map D.int)),e6,Aa (.int M),Aa bd,Aa (.lst [.int ((tbl (fars ps)).length:Aj),bd,.lst ((sg (fars ps)).map D.int)]),Aa d,Aa (.lst [.int ((tbl (fars ps)).length:Aj),bd,.loc j]),e12,e13,e14,e15] T=.ok (.loc j) T:=(qN (a:=.lst [.int ((tbl (fars ps)).length:Aj),bd,.loc j]) (b:=.int 2) rfl rfl).trans (vS rfl T);refine lE (zX (MY g2 t1 (by rw[Aq];unfold lim;omega)) ?_)
     have hlt:=D1 hp;exact⟨_,_,rfl,D2 (lG hp pre) om⟩
    ·rintro env S ⟨e10,e11,rfl,hp⟩
     obtain⟨S2,x2,q2⟩:=bL c ps L S;obtain⟨a,ha,ea⟩:=ZM L.ne;obtain⟨S3,x3,q3⟩:=bL c [a] (L5 L ha) (S2++[.lst ((sg (fars ps)).map D.int)]);have w1:=(gQ (f1:=dC (.int 2)) (a:=.int 2) (f2:=qB 3) (b:=.tup (ps.map pD)) (f3:=dC (.int 0)) (c:=.int 0) (env:=[Aa (.lst (ns.map D.int)),Aa (.int y),Aa (.loc p),Aa (.tup (ps.map pD)),Aa (.lst ((tbl (fars ps)).map tpD)),Aa (.lst ((fars ps).map D.int)),e6,Aa (.int M),Aa bd,Aa (.lst [.int ((tbl (fars ps)).length:Aj),bd,.lst ((sg (fars ps)).map D.int)]),e10,e11,e12,e13,e14,e15]) (S:=S) rfl rfl rfl).trans (bS c 2 om (.tup (ps.map pD)) (.int 0) _ S _ x2);have w2:=(gQ (f1:=dC (.int 2)) (a:=.int 2) (f2:=dSl (qB 3) (qZ) (qT (dC (.int 1)))) (b:=.tup ([a].map pD)) (f3:=dC (.int 0)) (c:=.int 0) (env:=[Aa (.lst (ns.map D.int)),Aa (.int y),Aa (.loc p),Aa (.tup (ps.map pD)),Aa (.lst ((tbl (fars ps)).map tpD)),Aa (.lst ((fars ps).map D.int)),e6,Aa (.int M),Aa bd,Aa (.lst [.int ((tbl (fars ps)).length:Aj),bd,.lst ((sg (fars ps)).map D.int)]),e10,e11,e12,e13,e14,e15]) (S:=S2++[MO.lst ((sg (fars ps)).map D.int)]) rfl (by
      show Res.ok (D.tup (zV (ps.map pD) none (Aa 1))) _=_;rw[ea]) rfl).trans (bS c 2 om (.tup ([a].map pD)) (.int 0) _ (S2++[MO.lst ((sg (fars ps)).map D.int)]) _ x3)
     refine wI (bH w1 w2 ?_);clear w1 w2 x2 x3;simp only[Cy,Cq];rw[SM];have z2:(S3++[MO.lst ([] : Ab D)])[S2.length]? = Aa (.lst ((sg (fars ps)).map D.int)):=B5 (S:=S2++[MO.lst ((sg (fars ps)).map D.int)]) (by simp) (q3.trans (Ha _ _))
     have z3:(S3++[MO.lst ([] : Ab D)])[S3.length]? = Aa (.lst []):=by simp
     have hp3:zY (S3++[MO.lst ([] : Ab D)]) p:=lG hp ((q2.trans (Ha _ _)).trans (q3.trans (Ha _ _)));generalize S3++[MO.lst ([] : Ab D)]=U at z2 z3 hp3;refine wI (xT (vH (a:=false) (w5 ((qN (f:=qB 13) (a:=.loc S3.length) (env:=[Aa (.lst (ns.map D.int)),Aa (.int y),Aa (.loc p),Aa (.tup (ps.map pD)),Aa (.lst ((tbl (fars ps)).map tpD)),Aa (.lst ((fars ps).map D.int)),e6,Aa (.int M),Aa bd,Aa (.lst [.int ((tbl (fars ps)).length:Aj),bd,.lst ((sg (fars ps)).map D.int)]),e10,e11,Aa (.loc S2.length),Aa (.loc S3.length),e14,e15]) (S:=U) rfl (wR (nG _ _) l0)).trans (L8 z3))) (λ_=>j8 (w5 ((u3 (f1:=qB 12) (a:=.loc S2.length) rfl ((qN (a:=.lst [.int ((tbl (fars ps)).length:Aj),bd,.lst ((sg (fars ps)).map D.int)]) (b:=.int 2) rfl rfl).trans (vS rfl U))).trans (FX z2)))) (λz=>by cases z)) (xG rfl ?_))
     clear z2 z3;generalize Aa (D.loc S2.length)=e12;generalize Aa (D.loc S3.length)=e13;obtain⟨ma,ka,la⟩:=nB (fars ps) none (Aa 3);obtain⟨mb,kb,lb⟩:=nB (fars ps) (Aa (-3)) none;obtain⟨r,V,c5,hr,p5⟩:=wF (S:=U) (i:=2) (f2:=dC (.int 100)) (env:=[Aa (.lst (ns.map D.int)),Aa (.int y),Aa (.loc p),Aa (.tup (ps.map pD)),Aa (.lst ((tbl (fars ps)).map tpD)),Aa (.lst ((fars ps).map D.int)),e6,Aa (.int M),Aa bd,Aa (.lst [.int ((tbl (fars ps)).length:Aj),bd,.lst ((sg (fars ps)).map D.int)]),e10,e11,e12,e13,e14,e15]) (m:=100) hp3 om rfl rfl;have s1:dSl (qB 5) (qZ) (qT (dC (.int 3))) [Aa (.lst (ns.map D.int)),Aa (.int y),Aa (.loc p),Aa (.tup (ps.map pD)),Aa (.lst ((tbl (fars ps)).map tpD)),Aa (.lst ((fars ps).map D.int)),e6,Aa (.int M),Aa bd,Aa (.lst [.int ((tbl (fars ps)).length:Aj),bd,.lst ((sg (fars ps)).map D.int)]),e10,e11,e12,e13,e14,e15] U=.ok (.lst (ma.map D.int)) U:=by
      show Res.ok (D.lst (zV ((fars ps).map D.int) none (Aa 3))) U=_;rw[ka]
     have s2:dSl (qB 5) (qT (d1 yM (dC (.int 3)))) (qZ) [Aa (.lst (ns.map D.int)),Aa (.int y),Aa (.loc p),Aa (.tup (ps.map pD)),Aa (.lst ((tbl (fars ps)).map tpD)),Aa (.lst ((fars ps).map D.int)),e6,Aa (.int M),Aa bd,Aa (.lst [.int ((tbl (fars ps)).length:Aj),bd,.lst ((sg (fars ps)).map D.int)]),e10,e11,e12,e13,e14,e15] U=.ok (.lst (mb.map D.int)) U:=by
      show Res.ok (D.lst (zV ((fars ps).map D.int) (Aa (-3)) none)) U=_;rw[kb]
     have hit:wP (d2 qV (d2 qV (dSl (qB 5) (qZ) (qT (dC (.int 3)))) (dSl (qB 5) (qT (d1 yM (dC (.int 3)))) (qZ))) (zQ (qA (dC (.int 0)) (qA (d1 yM (dC (.int 1))) (qA (dC (.int 1)) (qA (d2 vM (dC (.int 10)) (dC (.int 29))) (qA (qG 2 S__law_draw (qA (qB 2) (qA (dC (.int 100)) (qC)))) (qC)))))))) [Aa (.lst (ns.map D.int)),Aa (.int y),Aa (.loc p),Aa (.tup (ps.map pD)),Aa (.lst ((tbl (fars ps)).map tpD)),Aa (.lst ((fars ps).map D.int)),e6,Aa (.int M),Aa bd,Aa (.lst [.int ((tbl (fars ps)).length:Aj),bd,.lst ((sg (fars ps)).map D.int)]),e10,e11,e12,e13,e14,e15] U=.ok (((ma++mb)++[0,-1,1,100000000000000000000000000000,(r:Aj)]).map D.int) V:=by
      unfold wP;rw[qN ((qN s1 s2).trans (wS (by rw[Aq,Aq];unfold lim;omega) U)) (wR (zD (a:=.int 0) rfl (zD (a:=.int (-1)) rfl (zD (a:=.int 1) rfl (zD (WF U) (xK c5))))) l5),wS (by rw[Cb,Aq,Aq];show _+5≤lim;unfold lim;omega),Hm,Hm]
      rfl
     refine wI (j9 hit ?_);clear hit s1 s2 c5;refine vT (IvQ ns (Aa (.int y)) e10 e11 e12 e13 e14 e15 p ps M bd) ?_ ?_ ⟨_,e6,rfl,rfl,p5⟩
     ·rintro d ds env S ⟨qs,e6,hds,rfl,hp⟩
      cases qs with
      |nil=>cases hds
      |cons z qs =>
       injection hds with h1 h2
       subst h1 h2;refine⟨[Aa (.lst (ns.map D.int)),Aa (.int y),Aa (.loc p),Aa (.tup (ps.map pD)),Aa (.lst ((tbl (fars ps)).map tpD)),Aa (.lst ((fars ps).map D.int)),Aa (.int z),Aa (.int M),Aa bd,Aa (.lst [.int ((tbl (fars ps)).length:Aj),bd,.lst ((sg (fars ps)).map D.int)]),e10,e11,e12,e13,e14,e15],S,rfl,?_⟩;obtain⟨T,xo,qo⟩:=FT c ps L z S;exact xT (j8 (w5 ((u3 ((gQ (f1:=dC (.int 3)) (a:=.int 3) (b:=.tup (ps.map pD)) (c:=.int z) rfl rfl rfl).trans (bS c 3 om _ _ _ S T xo)) (V1 (fars ps) z _ T rfl rfl)).trans (SK _ T trivial)))) (xG rfl ⟨qs,_,rfl,rfl,lG hp qo⟩)
     ·rintro env S ⟨qs,e6,_,rfl,hp⟩
      obtain⟨d,S4,c4,td,hd,p4⟩:=J8 S p (ps.map pD) hp L.pt (by rw[Aq];exact hxl)
      obtain⟨n,S5,c5,hn⟩:=QC S4 p p4;refine wI (zI (x9 (xL ((u3 (a:=.loc p) (b:=.tup (ps.map pD)) rfl rfl).trans c4) ((xA (a:=.loc p) rfl).trans c5)) l2) (env1:=[Aa (.lst (ns.map D.int)),Aa (.int y),Aa (.loc p),Aa (.tup (ps.map pD)),Aa (.lst ((tbl (fars ps)).map tpD)),Aa (.lst ((fars ps).map D.int)),e6,Aa (.int M),Aa bd,Aa (.lst [.int ((tbl (fars ps)).length:Aj),bd,.lst ((sg (fars ps)).map D.int)]),e10,e11,e12,e13,Aa d,Aa n]) (S2:=S5) rfl ?_);clear c4 c5;have r4:=gG (dC (.int 4)) 4 [Aa (.lst (ns.map D.int)),Aa (.int y),Aa (.loc p),Aa (.tup (ps.map pD)),Aa (.lst ((tbl (fars ps)).map tpD)),Aa (.lst ((fars ps).map D.int)),e6,Aa (.int M),Aa bd,Aa (.lst [.int ((tbl (fars ps)).length:Aj),bd,.lst ((sg (fars ps)).map D.int)]),e10,e11,e12,e13,Aa d,Aa n] S5 om rfl;have hc:=jL (enc:=iD) (cap:=[none,Aa 14,Aa 15]) (g:=gNm 0) (t:=zC) (fe:=qG 3 (okO (S__law_came c)) (qA (qB 0) (qA (qB 1) (qA (qB 2) (qC))))) r4 trivial (λ_=>true) (λ_=>D.str "lot") (λenv=>∃ a,env=[a,Aa d,Aa n]) ⟨none,rfl⟩ (by show 4≤lim;decide)
       (λw hw env ⟨a,q⟩=>by
        subst q;have hw:=Em.mp hw;exact⟨[Aa (iD w),Aa d,Aa n],rfl,⟨_,rfl⟩,rfl,λ_=>(gQ (a:=.int (w:Aj)) (b:=d) (c:=n) rfl rfl rfl).trans (jA (YT c nd w hw d n S5 td hd))⟩)
      rw[xW] at hc;obtain⟨S6,w6⟩:=YU c nd ps L n hn S5;exact xT (vH (a:=false) (w5 ((qN hc (CL "lot" _ S5)).trans (B3 "lot" S5))) (λ_=>w5 ((qN ((gQ (a:=.int 3) (b:=.tup (ps.map pD)) (c:=n) rfl rfl rfl).trans w6) (b:=.str "number") rfl).trans (L9 "number" S6))) (λz=>by cases z)) (xG rfl ⟨ms,_,_,_,_,_,_,_,_,_,_,_,_,_,_,_,rfl,rfl⟩)
  ·rintro env S ⟨ms,e1,e2,e3,e4,e5,e6,e7,e8,e9,e10,e11,e12,e13,e14,e15,_,rfl⟩
   exact xE (zX (d:=.bl true) (S:=S) rfl rfl)
 obtain⟨d,S',e,rfl⟩:=key;exact⟨S',yH rfl e⟩
end _K
namespace _K
open PySem PySem.Spec PyProof.Rows _L _D
variable {mg:As→Am Ad}
def u9 {P:Bl}{w:Bz}{K:Ak}{base:Bs}{c:Cl}(T:Txt K mg c){k:Ai}{F:DF}(d:DfS F P w K mg base true k "_law_same" 2):DfS (qQ 4 (b__law_same F)) P w K mg base true (k+1) "_law_same" 2:=by
 refine dq P w base k 19 T rfl ck rfl ?_;intro _ _ _ _ _ _ _ hr
 repeat' first
  |with_reducible exact ck
  |((with_reducible show QE _ _ _);with_reducible first|apply aV|apply KS|apply WL|apply aBt|apply aN|(apply aB;first|apply GD|apply GC)|apply WK|apply WM|apply WI)
  |((with_reducible show _=_);first|exact T.nb ck|exact gH _|exact rfl|with_unfolding_all rfl)
  |((with_reducible show ZOp _ _ _);with_reducible first|apply R4|apply R9|apply R5)
  |((with_reducible show RoomC _ _ _);first|assumption|exact RoomC.mono (by assumption)|exact RoomC.mono (RoomC.any (by assumption))|exact RoomC.mark (by assumption) _|exact RoomC.mono (RoomC.mark (by assumption) _))
  |((with_reducible show St1 _ _ _ _);exact⟨rfl,rfl⟩)
  |((with_reducible show DfS _ _ _ _ _ _ _ _ _ _);assumption)
  |with_reducible first|apply WH|apply tN|apply fH|apply iI|apply WG|apply WS|apply WR|(apply KW;first|apply tO|apply sQ)|apply WT|apply tO|apply sQ|apply aNm|apply WN|apply eW|apply iJ|apply WO|apply WQ|apply KU|apply WP|apply K9
  |((with_reducible apply aSt);case hs=>exact rfl)
  |((with_reducible show ZPass _);first|assumption|exact iZ)
  |exact⟨rfl,rfl⟩
  |exact⟨rfl,rfl,rfl⟩
  |apply tN
  |apply fH
  |(intros;rfl)
  |(intro _ h;cases h <;> rfl)
  |intro _
def BN {P:Bl}{w:Bz}{K:Ak}{base:Bs}{c:Cl}(T:Txt K mg c)(nd:(wB c).Nodup):∃ F,sT P w K mg base true 10 "law" ["_law_script"] F∧∀ ns:Ab Aj,ns.length≤63→∃ S,F [.lst (ns.map D.int)] [] = .ok (.bl true) S:=by
 refine hv (λ_=>?_) (dq (cm:=true) P w base 0 0 T rfl ck (jC) ?_);refine hv (λ_=>?_) (dq (cm:=true) P w base 1 1 T rfl ck (uL) ?_);refine hv (λ_=>?_) (dq (cm:=true) P w base 0 2 T rfl ck (gA) ?_);refine hv (λ_=>?_) (dq (cm:=true) P w base 1 3 T rfl ck (vJ c) ?_);refine hv (λ_=>?_) (dq (cm:=true) P w base 2 4 T rfl ck (pQ) ?_);refine hv (λ_=>?_) (dq (cm:=true) P w base 3 5 T rfl ck (fT) ?_);refine hv (λ_=>?_) (dq (cm:=true) P w base 4 6 T rfl ck (pR c) ?_);refine hv (λ_=>?_) (dq (cm:=true) P w base 0 7 T rfl ck (jS) ?_);refine hv (λ_=>?_) (dq (cm:=true) P w base 1 8 T rfl ck (jE) ?_);refine hv (λ_=>?_) (dq (cm:=true) P w base 5 9 T rfl ck (uK c) ?_);refine hv (λ_=>?_) (dq (cm:=true) P w base 6 10 T rfl ck (pY c) ?_);refine hv (λ_=>?_) (dq (cm:=true) P w base 7 11 T rfl ck (uM c) ?_);refine hv (λ_=>?_) (dq (cm:=true) P w base 6 12 T rfl ck (jF c) ?_);refine hv (λ_=>?_) (dq (cm:=true) P w base 6 13 T rfl ck (vY c) ?_);refine hv (λ_=>?_) (dq (cm:=true) P w base 6 14 T rfl ck (jT c) ?_);refine hv (λ_=>?_) (dq (cm:=true) P w base 0 15 T rfl ck (kY) ?_);refine hv (λ_=>?_) (dq (cm:=true) P w base 0 16 T rfl ck (pP) ?_);refine hv (λ_=>?_) (dq (cm:=true) P w base 0 17 T rfl ck (kZ) ?_);refine hv (λ_=>?_) (dq (cm:=true) P w base 0 18 T rfl ck (vX) ?_);have s0:DfS (pJ 0) P w K mg base true 0 "_law_same" 2:=⟨GX (T.src 19 rfl)⟩;have d__law_same:DfS S__law_same P w K mg base true 4 "_law_same" 2:=uJ▸u9 T (u9 T (u9 T (u9 T s0)));refine hv (λ_=>?_) (dq (cm:=false) P w base 0 20 T rfl ck (v6 c) ?_);refine hv (λ_=>?_) (dq (cm:=true) P w base 1 21 T rfl ck (j3) ?_);refine hv (λ_=>?_) (dq (cm:=true) P w base 1 22 T rfl ck (kM) ?_);refine hv (λ_=>?_) (dq (cm:=true) P w base 2 23 T rfl ck (pO) ?_);refine hv (λ_=>?_) (dq (cm:=true) P w base 1 24 T rfl ck (uZ) ?_);refine hv (λ_=>?_) (dq (cm:=true) P w base 2 25 T rfl ck (jQ) ?_);refine hv (λ_=>?_) (dq (cm:=true) P w base 1 26 T rfl ck (j0) ?_);refine hv (λ_=>?_) (dq (cm:=true) P w base 3 27 T rfl ck (jR) ?_);refine hv (λ_=>?_) (dq (cm:=true) P w base 0 28 T rfl ck (pN) ?_);refine hv (λ_=>?_) (dq (cm:=true) P w base 0 29 T rfl ck (kL) ?_);refine hv (λ_=>?_) (dq (cm:=true) P w base 1 30 T rfl ck (g9) ?_);refine hv (λ_=>?_) (dq (cm:=true) P w base 2 31 T rfl ck (kN) ?_);refine hv (λ_=>?_) (dq (cm:=true) P w base 8 32 T rfl ck (uI c) ?_);refine⟨_,dqP 9 33 T rfl ck ?_,U7 c nd⟩
 all_goals
  intro _ _ _ _ _ _ _ hr
  repeat' first
   |with_reducible exact ck
   |((with_reducible show QE _ _ _);with_reducible first|apply aV|apply DM|apply KS|apply DQ|apply WL|apply aBt|apply aGi|apply aCl|apply aL|apply aO|apply aN|(apply aB;first|apply GD|apply GC|apply HF|apply HR|apply JU|apply R6)|(apply aT;first|apply MM|apply R7|apply HH)|apply aC|apply DU|apply DN|apply FI|apply EJ|apply UU|apply FK|apply EK|apply WK|apply US|apply DP|apply EL|apply WM|apply WI|apply EI|apply FG|apply DJ|apply Q6|apply FJ|apply aTb|(apply sO;(case slot=>apply Nt);(case' hm=>first|apply JT))|(apply sO;(case slot=>apply PySem.F.slot_list_append);(case' hm=>first|apply JR))|(apply sO;(case slot=>apply Kz);(case' hm=>first|apply MK|apply JS))|(apply sO;(case slot=>apply Pw);(case' hm=>first|apply ML))|apply DD)
   |((with_reducible show _=_);first|exact T.nb ck|with_reducible apply Lc|with_reducible apply Qe|with_reducible apply Nz|with_reducible apply Pj|with_reducible apply Qf|with_reducible apply Qg|exact gH _|exact rfl|with_unfolding_all rfl)
   |((with_reducible show ZOp _ _ _);with_reducible first|apply HE|apply HQ|apply R8|apply HK|apply HG|apply HJ|apply HN|apply AJ|apply AI|apply AG|apply AF|apply HL|apply R4|apply R9|apply R5|apply HI)
   |((with_reducible show RoomC _ _ _);first|assumption|exact RoomC.mono (by assumption)|exact RoomC.mono (RoomC.any (by assumption))|exact RoomC.mark (by assumption) _|exact RoomC.mono (RoomC.mark (by assumption) _))
   |((with_reducible show St1 _ _ _ _);exact⟨rfl,rfl⟩)
   |((with_reducible show DfS _ _ _ _ _ _ _ _ _ _);assumption)
   |with_reducible first|apply WH|apply tN|apply fH|apply iI|apply WG|apply aZt|apply JY|apply FO|apply FP|apply WS|apply WR|apply UZ|(apply KW;first|apply tO|apply sQ)|apply WT|apply tO|apply sQ|apply aNm|apply WN|apply DW|apply eW|apply iJ|apply DZ|apply UW|apply WO|apply FM|apply UV|apply DY|apply DX|apply FR|apply J0|apply FN|apply WQ|apply KU|apply FQ|apply WP|apply aP2|apply aRs|apply aTr|apply HM|apply AH|apply HP|apply K9|apply Lc|apply Qe|apply Nz|apply Pj|apply Qf|apply Qg
   |((with_reducible apply aCs);case hsw=>exact rfl)
   |((with_reducible apply aSt);case hs=>exact rfl)
   |with_reducible apply S7
   |exact T.cls
   |exact T.cl (by kernel_rfl)
   |exact T.rz (by kernel_rfl)
   |exact T.ct
   |exact T.gi (by kernel_rfl)
   |((with_reducible show ZPass _);first|assumption|exact iZ)
   |exact⟨rfl,rfl⟩
   |exact⟨rfl,rfl,rfl⟩
   |apply tN
   |apply fH
   |decide
   |(intros;rfl)
   |(intro _ h;cases h <;> rfl)
   |intro _
end _K
namespace _K
open PySem PySem.Spec PyProof.Rows _L _D
variable {K:Ak}
def bdf:BdF top tab:=by
 repeat (refine⟨?_,?_⟩;(intro _ _ _ _ _ _ us h;first|(obtain⟨_,rfl⟩:=us1 h;rfl)|(obtain⟨_,_,rfl⟩:=us2 h;rfl)|(obtain⟨_,_,_,rfl⟩:=us3 h;rfl)))
 exact trivial
def RB {C0 C1 C2 C3 C4 C5 C6 C7 C8 C9 C10 C11:Af}(q0:Dt K Cn "FarError" = Aa (Aa (.ref C0)))(q1:Dt K Cn "NoPoint" = Aa (Aa (.ref C1)))(q2:Dt K Cn "NoLot" = Aa (Aa (.ref C2)))(q3:Dt K Cn "NoNumber" = Aa (Aa (.ref C3)))(q4:Dt K Cn "NoCircle" = Aa (Aa (.ref C4)))(q5:Dt K Cn "NoMarks" = Aa (Aa (.ref C5)))(q6:Dt K Cn "NoFars" = Aa (Aa (.ref C6)))(q7:Dt K Cn "NoText" = Aa (Aa (.ref C7)))(q8:Dt K Cn "NoLine" = Aa (Aa (.ref C8)))(q9:Dt K Cn "NoDeed" = Aa (Aa (.ref C9)))(q10:Dt K Cn "Alike" = Aa (Aa (.ref C10)))(q11:Dt K Cn "TooMany" = Aa (Aa (.ref C11))):o0 K (clt ⟨C0,C1,C2,C3,C4,C5,C6,C7,C8,C9,C10,C11⟩):=⟨q0,q1,q2,q3,q4,q5,q6,q7,q8,q9,q10,q11,trivial⟩
def RC {k0 k1 k2:Pu}(g0:Dt K Cn "LEAST_NUMBER" = Aa (Aa (.int (-1000) k0)))(g1:Dt K Cn "MOST_NUMBER" = Aa (Aa (.int (1000) k1)))(g2:Dt K Cn "MOST_POINTS" = Aa (Aa (.int (40) k2))):o2 K cst:=⟨⟨_,g0⟩,⟨_,g1⟩,⟨_,g2⟩,trivial⟩
def L0 {P:Bl}{w:Bz}{mg:As→Am Ad}{c:Cl}{fa:Af}(T:Txt K mg c)(nd:(wB c).Nodup)(hfa:mg "law" = Aa (.ref fa)) :
  ∃ fd:Fy,(∀ (s:Ah) (v:Ad),Nn s fd ⟨[v],[]⟩ [("_law_script",v)])∧∀ base:Bs,K.In base→base.Ns Cn mg→FnOk P w K mg base (CXd P w) 10 fa fd ["_law_script"] (sR K):=
 BO (T.src 33 rfl) hfa (λkV doc pm an cdv ct s v=>.of_eq rfl) λbase=>BN T nd
end _K
theorem PySem.W.Fast.tw17964256139462972644 : True := trivial
theorem PySem.W.Fast.tw11013868243803243477 : True := trivial
theorem PySem.W.Fast.tw2310082304691314188 : True := trivial
theorem PySem.W.Fast.tw5047208558007459931 : True := trivial
theorem PySem.W.Fast.tw14470642369690917907 : True := trivial
theorem PySem.W.Fast.tw6074931273477633286 : True := trivial
theorem PySem.W.Fast.tw17466001425481351274 : True := trivial
theorem PySem.W.Fast.tw14493963726037841230 : True := trivial
theorem PySem.W.Fast.tw316540873462717662 : True := trivial
theorem PySem.W.Fast.tw6199219337350135812 : True := trivial
theorem PySem.W.Fast.tw17357675043640601548 : True := trivial
theorem PySem.W.Fast.tw5208652606766303189 : True := trivial
theorem PySem.W.Fast.tw13428825698145624391 : True := trivial
theorem PySem.W.Fast.tw7112956295039852252 : True := trivial
theorem PySem.W.Fast.tw11147735304842133270 : True := trivial
theorem PySem.W.Fast.tw12004607414145269933 : True := trivial
theorem PySem.W.Fast.tw17617068722680462905 : True := trivial
theorem PySem.W.Fast.tw5324623694975800672 : True := trivial
theorem PySem.W.Fast.tw5917721308833902301 : True := trivial
theorem PySem.W.Fast.tw12354511544867916625 : True := trivial
theorem PySem.W.Fast.tw4749815983188388956 : True := trivial
theorem PySem.W.Fast.tw8967766282683748623 : True := trivial
theorem PySem.W.Fast.tw6979864987020447445 : True := trivial
theorem PySem.W.Fast.tw12269564241627054712 : True := trivial
theorem PySem.W.Fast.tw6068978201730938509 : True := trivial
theorem PySem.W.Fast.tw3456805749943533059 : True := trivial
theorem PySem.W.Fast.tw10832704720529708088 : True := trivial
theorem PySem.W.Fast.tw18047060950470810919 : True := trivial
theorem PySem.W.Fast.tw7688649865064134650 : True := trivial
theorem PySem.W.Fast.tw9780685721911066782 : True := trivial
theorem PySem.W.Fast.tw9585786341704431799 : True := trivial
theorem PySem.W.Fast.tw13967170824091492669 : True := trivial
theorem PySem.W.Fast.tw18026155788678115814 : True := trivial
theorem PySem.W.Fast.tw13673478801404037347 : True := trivial
theorem PySem.W.Fast.tw10448264191684086351 : True := trivial
theorem PySem.W.Fast.tw217384656642296157 : True := trivial
theorem PySem.W.Fast.tw6748646806076730245 : True := trivial
theorem PySem.W.Fast.tw13511195077296813744 : True := trivial
theorem PySem.W.Fast.tw18411662682429881759 : True := trivial
theorem PySem.W.Fast.tw14594844958919892072 : True := trivial
theorem PySem.W.Fast.tw9579723933236568446 : True := trivial
theorem PySem.W.Fast.tw14077988928741813443 : True := trivial
theorem PySem.W.Fast.tw17857981439225476112 : True := trivial
theorem PySem.W.Fast.tw3789602586947132367 : True := trivial
theorem PySem.W.Fast.tw1823883997162603158 : True := trivial
theorem PySem.W.Fast.tw10440957940228143791 : True := trivial
theorem PySem.W.Fast.tw5611905175223693870 : True := trivial
theorem PySem.W.Fast.tw6790805864810130061 : True := trivial
theorem PySem.W.Fast.tw3378949405470238887 : True := trivial
theorem PySem.W.Fast.tw2172492544391985702 : True := trivial
theorem PySem.W.Fast.tw8975886275296053537 : True := trivial
theorem PySem.W.Fast.tw666484744628818753 : True := trivial
theorem PySem.W.Fast.tw5971335253165452820 : True := trivial
theorem PySem.W.Fast.tw2774816593772074153 : True := trivial
theorem PySem.W.Fast.tw14609700902382143606 : True := trivial
theorem PySem.W.Fast.tw16072116474301827439 : True := trivial
theorem PySem.W.Fast.tw9480165866328975603 : True := trivial
theorem PySem.W.Fast.tw8651584734085419492 : True := trivial
theorem PySem.W.Fast.tw3151753065237104920 : True := trivial
theorem PySem.W.Fast.tw2204127204895675312 : True := trivial
theorem PySem.W.Fast.tw14847427455105327568 : True := trivial
theorem PySem.W.Fast.tw8842012970060789813 : True := trivial
theorem PySem.W.Fast.tw4859365103619565653 : True := trivial
theorem PySem.W.Fast.tw2657780425819625098 : True := trivial
theorem PySem.W.Fast.tw12013271538297903789 : True := trivial
theorem PySem.W.Fast.tw6493689345307732218 : True := trivial
theorem PySem.W.Fast.tw18192975702561131504 : True := trivial
theorem PySem.W.Fast.tw656186732552821004 : True := trivial
theorem PySem.W.Fast.tw1483951628533115834 : True := trivial
theorem PySem.W.Fast.tw8534806301997626945 : True := trivial
theorem PySem.W.Fast.tw13952802703668892291 : True := trivial
theorem PySem.W.Fast.tw17337656107811820014 : True := trivial
theorem PySem.W.Fast.tw17518901794906392333 : True := trivial
theorem PySem.W.Fast.tw13283870227969104253 : True := trivial
theorem PySem.W.Fast.tw4651693844090531941 : True := trivial
theorem PySem.W.Fast.tw728507186793334973 : True := trivial
theorem PySem.W.Fast.tw9821415263790087539 : True := trivial
theorem PySem.W.Fast.tw6914130400411332636 : True := trivial
theorem PySem.W.Fast.tw11074520942952408786 : True := trivial
theorem PySem.W.Fast.tw16828444824901215210 : True := trivial
theorem PySem.W.Fast.tw8565803855593961412 : True := trivial
theorem PySem.W.Fast.tw13403429533552435627 : True := trivial
theorem PySem.W.Fast.tw4942912168938488769 : True := trivial
theorem PySem.W.Fast.tw6331696501059167601 : True := trivial
theorem PySem.W.Fast.tw7864934822500756089 : True := trivial
theorem PySem.W.Fast.tw5759188688979499788 : True := trivial
theorem PySem.W.Fast.tw174942733938704420 : True := trivial
theorem PySem.W.Fast.tw6845545357291241029 : True := trivial
theorem PySem.W.Fast.tw3691924927525546591 : True := trivial
theorem PySem.W.Fast.tw5723260873987507108 : True := trivial
theorem PySem.W.Fast.tw136783798735176174 : True := trivial
theorem PySem.W.Fast.tw11679514346014229930 : True := trivial
theorem PySem.W.Fast.tw14016149116106327296 : True := trivial
theorem PySem.W.Fast.tw5769497156251584753 : True := trivial
theorem PySem.W.Fast.tw969235516962697198 : True := trivial
open PySem PySem.W PyProof.Rows
set_option maxRecDepth 100000 in
set_option maxHeartbeats 0 in
theorem PySem.Challenge.cw_fewdistances_k10_counts_of_fars_holds : PySem.Challenge.rw_fewdistances_k10_counts_of_fars.Holds := by
 w_on;o_law;z_head;(case hw=>w_witness2)
 refine _D.HD (λ_=>by kernel_rfl) ?_
 refine _D.HC (l:=OD) (k:=10) (x:="_law_script") rfl rfl ⟨rfl,by decide,by decide,rfl⟩ (λw h Y=>Y) ?F
 case F =>
  intro w mg fa h KX G hmg
  refine' _K.L0 (_D.HA _K.bdf ?hp rfl KX G ?s ?z (_K.RB ?q0 ?q1 ?q2 ?q3 ?q4 ?q5 ?q6 ?q7 ?q8 ?q9 ?q10 ?q11) (_K.RC ?gi0 ?gi1 ?gi2) ?e1 ?e2 ?e3 ?e4 ?e5 ?e6) ?nd hmg
  (case s=>(repeat (refine' ⟨_D.SrcF.mk ?a ?l ?c ?k,?_⟩;(case a=>k_is);(case l=>k_is);(case c=>k_is);(case k=>k_is)));exact trivial)
  (case z=>rfl)
  (case q0=>k_is)
  (case q1=>k_is)
  (case q2=>k_is)
  (case q3=>k_is)
  (case q4=>k_is)
  (case q5=>k_is)
  (case q6=>k_is)
  (case q7=>k_is)
  (case q8=>k_is)
  (case q9=>k_is)
  (case q10=>k_is)
  (case q11=>k_is)
  (case gi0=>k_is)
  (case gi1=>k_is)
  (case gi2=>k_is)
  (case hp=>intro y hy;revert hy;simp;grind)
  (case e1=>rfl)
  (case e2=>rfl)
  (case e3=>rfl)
  (case e4=>rfl)
  (case e5=>rfl)
  (case e6=>rfl)
  (case nd=>decide)
