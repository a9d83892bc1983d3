import PyProof.Rows.All
import Wide.All
import OpenK.AllK
import Wide.FinOn
import Lean
import PyProof.EqAt
import PyProof.EqKinds
import PyProof.TupleCall
import KE.KLam
import KE.KTryMore
import KE.KIsAll
import PyProof.NeKinds
import PyProof.Rows.CountFlat
import PyProof.Rows.FStr
import PyProof.ZipIter
import PyProof.EnumMake
import PyProof.EnumStmt
import KE.KDictLaws
import PyProof.DictWalks
import PyProof.Rows.SetFrom
import PyProof.SumWalkG
import PyProof.Rows.SumGenD
import PyProof.SeqI2
import KE.KItemsList
import PyProof.SetKind
import PyProof.TupleKey
import KE.KSortTup
import PyProof.ReprRoads
import PyProof.ReprBulk
import PyProof.TupleOfSeq
import PyProof.WalkInts
import PyProof.SeqI3
import PyProof.Rows.RuleDivmod
import KE.KPairComp
import KE.KMinKey
import PyProof.Rows.CallKwBuiltin
import PySem.Challenge.RW_fewdistances_k82_squares_told_and_counte
set_option Elab.async false
set_option linter.all false
set_option maxRecDepth 100000
set_option maxHeartbeats 0
set_option tactic.hygienic false
set_option bootstrap.genMatcherCode false
set_option genSizeOf false
set_option compiler.extract_closed false
open Array renaming getElem?_toList→Bf,length_toList→Bh,toList_append→Dn,getElem?_eq_some_iff→Dq,getElem?_eq_getElem→Dv,toList_push→Ef,getD_eq_getD_getElem?→Eo,getD→Fx,size_extract→Hx,toList_extract→Io,toList_reverse→Jk,mem_toList_iff→Mb,perm_iff_toList_perm→Oh,getElem?_eq_none→Ql,size_map→Re,forIn_toList→Tg,toList_inj→Vn,toList→Xl
open Bool renaming and_eq_true→Bn,false_eq_true→Bq,false_ne_true→Ea,and_eq_true_iff→Ez,noConfusion→Hm,not_true→IS,not_eq_true'→IV,false_and→Jc,or_eq_true→Mn,and_false→Nj,not_false→Rf,and_true→Se,true_and→Sh,false_or→Xa,true_or→Xn
open Classical renaming byContradiction→Fd,choose_spec→Lv,choose→OV
open False renaming elim→An
open ForInStep renaming yield→Mm
open Int renaming le_trans→Fg,toNat_natCast→Gk,le_of_lt→Gr,mul_nonneg→Hd,mul_le_mul→Ht,natAbs_mul_self'→Ip,eq_ofNat_of_zero_le→IJ,emod_lt_of_pos→IL,emod_nonneg→Ka,mul_ediv_cancel_left→Ki,le_refl→Lw,natCast_add→Mt,natCast_one→Wd,not_lt→Wn
open List renaming getElem?_eq_getElem→Aq,set_cons_zero→Ay,set_cons_succ→Az,getElem?_eq_some_iff→AT,mem_cons→Bb,size_toArray→Bj,length_map→Bk,prefix_refl→Bo,mem_cons_of_mem→Bu,range→By,getElem?_append_left→Bz,mem_append_right→Ca,mem_of_getElem?→Cb,getElem?_append_right→Ci,append_assoc→Cj,mem_append→Cp,mem_cons_self→Ct,all_eq_true→Cu,mem_iff_getElem→Cw,not_mem_nil→Cy,length_append→Df,mem_append_left→Dg,length_cons→Dh,mem_map→Dk,getElem?_map→Dl,map_cons→Dt,mem_singleton→Dx,mem_range→Dy,getElem?_set_ne→Dz,pairwise_append→DL,contains_iff_mem→Eu,append_nil→Fm,prefix_append→Fo,pairwise_cons→Fp,getElem?_set_self→Fq,length_take→Gt,drop_eq_getElem_cons→Gu,extract_eq_take_drop→Gw,pairwise_map→Hf,flatMap_cons→Hg,length_eq_zero_iff→Hj,filterMap_cons→Hl,replicate→Hr,mem_filterMap→Hv,length_nil→Ia,nil_append→Ib,pairwise_iff_getElem→Ik,lookup_cons→Ix,getD→IF,map_map→II,find?_cons→IP,any_cons→IQ,map_append→IU,mem_iff_getElem?→IW,perm_append_comm→Ja,all_cons→Jt,reverse_append→Jv,of_mem_zip→Jx,getElem?_take_of_lt→Kg,getElem?_replicate→Km,all_map→Kr,length_range→Lb,range_succ_eq_map→Li,take_of_length_le→Lj,drop_of_length_le→Ll,length_drop→Lo,length_singleton→Lp,getElem?_eq_none→Lq,lookup→Lr,take_append_drop→Lx,nodup_cons→Mj,eq_nil_of_length_eq_zero→Mq,map_congr_left→Nh,forIn_nil→Nk,getD_eq_getElem?_getD→Ol,nodup_append→Oy,getElem?_zip_eq_some→O1,getElem_take→O8,getElem_drop→O9,length_erase_of_mem→OJ,getElem_inj→ON,getElem_mem→OU,zipIdx_cons→OW,ext_getElem→OZ,map_fst_zip→Pb,cons_append→Pc,getElem?_cons_succ→Pg,eraseIdx_cons_succ→Pi,pairwise_singleton→Pk,drop_eq_nil_of_le→Py,forIn_cons→Qb,find?_cons_of_neg→Qc,length_pos_of_mem→Qf,getElem_cons_succ→Qj,countP_mono_left→Qv,singleton_append→Qw,length_filter_le→Qx,mem_erase_of_ne→Rl,length_eraseIdx→Rm,reverse_reverse→Ro,range_eq_range'→Rp,mem_map_of_mem→Sn,lookup_append→Tc,getElem?_drop→Tf,mergeSort_nil→Ti,map_nil→Tk,ext_getElem?→Uq,length→Uz,nodup_range→Vi,countP_cons→Vl,range'_succ→Vo,mem_filter→Vp,length_set→Vs,zipIdx_nil→Vt,foldl_cons→Vv,length_zip→Vz,range_succ→Wc,Nodup→Wk,take_zero→Ws,map_id→Xz,range'→XV
open List.Pairwise renaming nil→Ky,imp_of_mem→OI,filter→Ya,take→Yf,drop→Yg,imp₂→Yh
open List.Perm renaming append_left→Gv,append_right→IT,refl→Kv,trans→Ms,swap→Wr
open Nat renaming le_refl→Ax,lt_of_lt_of_le→Ba,ne_of_lt→Cc,le_trans→Eb,lt_irrefl→Ei,le_of_lt→Fz,lt_succ_self→Gf,ne_of_gt→Gq,zero_le→Hi,le_add_right→Iy,lt_trans→ID,add_sub_cancel_left→IH,lt_succ_of_lt→IX,le_of_lt_succ→IY,lt_of_succ_lt→Jb,lt_or_ge→Jg,add_sub_cancel→Kl,not_lt→Lg,zero_add→Mw,succ_pos→Mx,mod_lt→Nc,add_right_comm→Nw,le_succ→Od,mul_lt_mul_of_lt_of_le→Om,lt_trichotomy→OB,le_of_not_lt→OR,lt_of_le_of_lt→Td,min_self→Tp,sub_self→Ts,add_zero→Tt,one_pos→Vm,sub_lt→Wo,add_assoc→Xh
open Ne renaming symm→Fu
open Option renaming some→Aa,map_eq_some_iff→De,bind_eq_some_iff→Ec,isSome_iff_exists→Iq,getD_some→Ls,isSome_map→Ow,isSome_some→Sz,getD_none→Vb,map_some→Vw,none→Xw
open Option.some renaming inj→Co
open Or renaming inr→Vd,inl→Wu
open Prod renaming ext→Xs
open PyProof.Rows renaming wpS_bind→Aw,wpS_pure→Bl,Keyed→Bp,seqObj→Eg,slot_tuple_getitem→Es,wpS_forRange→Ew,SortSt→Fl,envOfC→Ft,wpS_mono→Gn,callWith_type1→Hs,wpS_modify→Hz,SortKind→Kc,get?_update_seq→Ke,wpS_get→Ks,AllBare→Lm,callWith_builtin1→Ly,assignInOrder_cons→Nr,wpS_lift→Oo,IntsAre→Ou,subscriptTail→Ov,subscriptTail_builtinR→Pv,isBoolOf→Qe,gallopOf→Qm,entry_tuple_getitem→Rz,args_tuple_getitem→Sx,IsTup→Tu,assignInOrder_nil→Tw,entry_list_sort→Wa,Subscript_→Wh,lt_int→Yd
open PyProof.Rows.F renaming plain_set_update_loop→Hq,entry_set_update_loop→Kb
open PyProof.Rows.IntsAre renaming int_at→Nq
open PyProof.Rows.IsTup renaming new→Tx
open PyProof.Rows.SortSt renaming mk'→Cz
open PySem renaming Value→Ac,Addr→Ad,wpAny_bind→Af,Shared→Ag,wpAny_pure→Am,wpAny→Ao,Str→Ar,model→As,Program→Bd,intKind→Be,Heap→Bm,starEach→Br,tupleKeyHash→Bs,Around→Bt,Expr→Bv,World→Bw,Obj→Cg,mainGlobals→Ch,compareOp→Di,wpAny_holding→Ed,Scope→Eh,Stmt→Ej,wpAny_newObj_type→Ek,sizeLine_eq→Ep,mem_of_lookup→Er,wpAny_call_entry→Et,wpAny_callSpecial?_slot→Ev,binaryOp→Ex,cLine→Ey,Pos→EQ,FuncData→Fb,Comprehension→Fc,SetTable→Fe,foldedSetIterable→Fh,wpAny_field→Fi,wpAny_setState_of→Fk,wpAny_mono→Fv,bootBuiltins→Fy,backTo→Gb,assignEach→Ge,rawInt→Gg,wpAny_seqItems→Gh,wpAny_pyIter_list→Gj,cellsFrom→Gs,NameKind→Gx,wpAny_pyIter_tuple→Gy,wpAny_Call_Name_kw→Gz,wpAny_rule→Hb,codeAny_builtin→He,Env→Hu,wpAny_setField_rec→Hw,wpAny_passesOwn→HT,codeAny→Ie,Builtin→Ih,sysModules→Iw,codeAny_mono→IE,IsPair→IK,letOwnedTupleGo→IM,wpAny_attempt→IR,Model→Ji,codeAny_call_builtin→Jj,wpAny_askSetting→Jl,Sem→Jm,swappedStores→Jn,swapsWithSole→Jo,behindInMarks→Jp,TriplesOk→Js,wpAny_execs_nil→Jw,sliceBounds→Jy,getItem→Ko,wpAny_typeOf→Kq,wpAny_setField→Ku,swapsWith→Kz,ofAClassStatement→Lc,wpAny_storeSet_of→Ld,BindsTo→Ln,wpAny_updateSeq_pair→Md,PassesOwn→Mi,Arguments→Mk,codeAmong→Ml,pickOrder→Mr,pyNext→Mu,builtinsNs→Mz,wpAny_call→Na,IsTupleKey→Nd,recursionLimit→Ni,firstArgMember→Nm,IsZip→Nn,tupleKind_room_in1→Nt,pyIter→Nz,wpAny_newFunctionEnv_cells→NE,IsPart→Oa,wpAny_of_eq→Of,hashByValue→Og,wpAny_standAt→Os,callerA→Ox,wpAny_onRaise→O6,setSearchFrom→OA,plainId_quiet→OC,wpAny_comprehension_free→OG,noFill_tuple_add→OP,call_meets→OQ,checkBuiltinCall→OS,closureFor→OT,wpAny_isInstance→OX,wpAny_forIn_list→Pa,bindArgs→Pu,valueAt→Pw,wpAny_specialOf→Px,codeAny_of_tree→Qg,wpAny_ite_split→Qk,tupleKind→Qo,codeAny_call_function→Qp,weight_type_call_type→Qs,builtinLookup_eq_fast→Qt,newFunctionEnv→Rc,wpAny_runValue→Rg,isSubtype_type→Rh,assignInOrder→Rr,CmpOp→Ru,bindL→Rw,bindC→Rx,seq_tuple_add→Ry,atKey→Sb,standAt→Sc,intKind_is→Si,wpAny_setEntries_of→Sk,wpAny_newList→Sl,bindName→So,setState→Sr,Tok→Su,concat_meets→Tj,wpAny_assign_Name→Tv,wpAny_truthy_bool→Tz,wpAny_sequenceKey→Ua,seqIndex?→Ub,slot_list_getitem→Uc,list_append→Ud,lastMarks→Ue,ClassData→Uf,noteFrame→Ug,setFlight→Uh,pushCells→Uj,searchCouldBeSeen→Um,wpAny_pyIter_slot→Uo,wpAny_collect_seq→Ur,wpAny_eqBool_int→Us,wpAny_execs_cons→Ut,unaryOp→Uu,Result→Uy,seqIndex_of→Va,wpAny_letGo→Vf,wpAny_pyIter_zip→Vh,setAdd→Vj,check_set_init_1→Vk,GenState→Vq,pushCells_keeps→Vu,typeLookup_type→Vx,wpAny_updateSeq→Vy,wpAny_Name→We,typeLookup→Wg,call→Wi,setsByText→Wm,defaultsOf→Wp,setItem→WF,Keyword→Xd,seqItems?→Xf,Within→Xk,Fin→Yj
open PySem.Around renaming under_plainId→Im,frames_deeper→Mc,under_plain→Th
open PySem.Builtin.Frozenset renaming updateFrom→Ng,sizeOf→OK,newClass→Wy
open PySem.Builtin.Getset_descriptor renaming descrCheckInstance→Pp,descrNameAndClass→Pz,descrGetter→Sd,descrGet→To
open PySem.Builtin.List renaming listLengthHint→No,listExtendWith→Np,listSameRef→OL,listUpdate→Xr
open PySem.Builtin.ObjectAttr renaming bindTo→O0,dataDescriptor?→Tn,getOf→Xj,find→Xo
open PySem.Builtin.Range renaming rangeSize→Xm
open PySem.Builtin.Slice renaming slicePlaces→Ig,sliceAdjust→Jr,sliceApplied→Ob,slicePartIndex→Wf,sliceFields→WP
open PySem.Builtin.SmallTypes renaming nextOf→Du,ownedTupleIsFree→Gd,ownedTupleHandOut→Jz
open PySem.Builtin.Tuple renaming tupleExact→Ir,tupleItemsOf→Oc,tupleIsExact→Ww
open PySem.Calls renaming spliced_cons→Kk,Name_function_global→Ny,spliced_nil→Ot,call_function_entry→OE,evalArgs_plain→Rk
open PySem.Challenge renaming pw_fewdistances_k82_squares_told_and_counte→Lz,rw_fewdistances_k82_squares_told_and_counte→Ma
open PySem.Code renaming quiet_builtin→Nv
open PySem.F renaming called_set→Dm,slot_tuple_iterator_next→Hy,args_tuple_add_2→Kh,entry_tuple_add→Kn,slot_tuple_add→Lf,slot_zip_next→Mp,args_tuple_iterator_next_1→Nb,entry_tuple_iterator_next→Nl,excBase_ValueError→Oe,type_list_append→OM,attr_ValueError→Pd,slot_list_count→Pe,slot_list_index→Pf,entry_type_call→Ph,plain_list_iadd→Pj,plainAttrs_list→Pl,type_list_count→Pm,type_list_index→Po,typeCall_set_1→Qh,entry_set_init→Qi,plain_set_new→Qr,slot_set_iter→Qu,type_list_pop→Qy,args_list_append_2→Rj,entry_list_append→Sa,slot_list_append→Sy,args_zip_next_1→Ui,entry_zip_next→Vg
open PySem.Heap renaming get?_push_of_some→Aj,lt_size→Au,get?_push_size→Bi,get?_update_other→Dd,size_push→Dr,get?_update_self→Fj,SameBut→Gp,get?_none_of_le→Il,FlyingW→Mv,MadeExcOf→Rb,IsTuple→Xq,ExtBut→Xx,IsList→Xy,HeldW→Yc
open PySem.Heap.IsSliceOf renaming new→Ye
open PySem.Heap.SameBut renaming update→Gm,refl→O7
open PySem.IsL renaming update→Vc
open PySem.MeetsSeq renaming list_index→Xe,EqGives→Xt
open PySem.NameKind renaming free→Fw,cell→Lu
open PySem.Obj renaming mapSeq→El,mapFields→Sj,data_mapFields→Te,putSet→Wl
open PySem.SeqAt.EqAt renaming bool_bool→Wv,same→Xc,of_refs→Xp
open PySem.SetTable renaming insertAt→Bx,below→Ce,sizeAbove→Em,grown→Gi,runEnd→Go,insertAt_perm→Hn,fill→Ju,Probe→La,toList_insertAt→OH,tooFull→OY,laid→Sf,fits→Sg,has→Tq,layClean→Ul,slot→Xg
open PySem.SetTable.below renaming go→Uk
open PySem.SetTable.layClean renaming free→Ho
open PySem.SetTable.probe renaming go→IZ
open PySem.Shared renaming TypeIs→OD,heap→Qq
open PySem.Str renaming ofString→IC,empty→Jq
open PySem.Value renaming ref→Cf,none→Dj,bool→Fn,type→Ha,int→Me,str→Qn,isStrOf→Wz,builtin→Xb,isInt→Xu,float→Xv
open PySem.W renaming Frag→Ak,tabIn→Dp,nsIn→Ds,kia_one→Ee,keepIn→En,fnOf→Ga,kitx_list→Ic,exmOne→Iu,cellsFrom_some→IN,kitOne→Jd,codeIn→Je,tabObj→Jf,envX→Jh,kla_obj→Kf,kitx_tuple→Kj,findIn→Kt,kitx_dict→Kx,hideAll→Mf,callWith_K→Nu,methodObj→Oq,nsMap_none_of_in→OF,instObj→Ps,CodeHd→Qz,lookIn→Ra,kitAny→Ri,hideAll_get→Rq,mroIn→Rv,mg_of→Sm,of_hideAll→Sv,codeRec_of→Sw,isNs_of_in→Ta,looks_findIn→Tl,specialIn→T0,kitx_none→TD,kitx_bool→TW,plainGet→Uv,kitx_int→Uw,kitx_str→Ux,takesIn→Vr,OpenLaw→Wb,nsOkIn→Wq,kla_fn→Wt,WalkO→Xi
open PySem.W.Looks renaming ld→Yk
open PySem.W.WData renaming int→Yi
open PySem.W.WShape renaming has→Yb
open PySem.Walks renaming tuple→Ve,list→Wj
open PySem.pickOrder renaming go→Tr
open Sum renaming inl→Pq,inr→Pr
open True renaming intro→Hc
open _root_ renaming List→Ab,Nat→Ah,Int→Ai,Option→Al,Bool→Ap,Array→Av,if_neg→Bc,if_pos→Bg,decide_eq_true_eq→Cd,decide_eq_false→Cn,of_decide_eq_true→Cq,decide_eq_true→Cs,if_true→Dc,String→Do,if_false→Dw,False→Fa,beq_self_eq_true→Ff,or_false→Gc,decide_eq_false_iff_not→Hk,decide_true→IB,decide_false→IG,Decidable→Kw,beq_iff_eq→Lh,beq_eq_false_iff_ne→My,True→Op,Unit→OO,StateT→Ss,not_or→Wx
noncomputable section
def om {p:Prop}(h:p:=by omega):p:=h
def kd {p:Prop}[Kw p](h:p:=by decide +kernel):p:=h
section
namespace _L
open PySem PySem.Spec PyProof.Rows
abbrev Key:=Sum Ai Ar
def bU:Key→Ac→Ap
 |.inl k,v=>Xu k v
 |.inr x,v=>Wz x v
def CU (w:Bw):Key→Ai
 |.inl k=>hashInt k
 |.inr x=>hashStr w x
def xN:∀ {k:Key} {v:Ac},bU k v=true→(∃ i t,k=Pq i∧v=Me i t)∨(∃ x t,k=Pr x∧v=Qn x t)
 |.inl i,v,h=>by
  obtain⟨t,e⟩:=Value.isInt_shape (k:=i) (v:=v) h;exact .inl ⟨i,t,rfl,e⟩
 |.inr x,v,h=>by
  obtain⟨t,e⟩:=Value.isStrOf_shape (x:=x) (v:=v) h;exact .inr ⟨x,t,rfl,e⟩
def ZX (i:Ai)(t:Su):bU (.inl i) (.int i t)=true:=by simp[bU,Xu]
def ZY (x:Ar)(t:Su):bU (.inr x) (.str x t)=true:=by simp[bU,Wz]
def N3 (a b:Ai):decide ((Pq a:Key)=Pq b)=(a == b):=by
 by_cases e:a=b
 ·subst e;simp
 ·have h:¬ (Pq a:Key)=Pq b:=λq=>e (Sum.inl.inj q)
  rw[Cn h];exact(My.mpr e).symm
def N6 (a b:Ar):decide ((Pr a:Key)=Pr b)=decide (a=b):=by
 by_cases e:a=b
 ·subst e;simp
 ·have h:¬ (Pr a:Key)=Pr b:=λq=>e (Sum.inr.inj q)
  rw[Cn h,Cn e]
def N4 (a:Ai)(b:Ar):decide ((Pq a:Key)=Pr b)=false:=Cn (λq=>nomatch q)
def N5 (a:Ar)(b:Ai):decide ((Pr a:Key)=Pq b)=false:=Cn (λq=>nomatch q)
def xT (prog:Bd)(w:Bw):PySem.KeyKind prog w Key where
 is:=bU
 hash:=CU w
 inj:=λv a b ha hb=>by
  rcases xN ha with⟨i,t,rfl,rfl⟩|⟨x,t,rfl,rfl⟩
  ·rcases xN hb with⟨j,u,rfl,e⟩|⟨y,u,rfl,e⟩
   ·injection e with e1 _;rw[e1]
   ·exact nomatch e
  ·rcases xN hb with⟨j,u,rfl,e⟩|⟨y,u,rfl,e⟩
   ·exact nomatch e
   ·injection e with e1 _;rw[e1]
 byValue:=λk v h=>by
  rcases xN h with⟨i,t,rfl,rfl⟩|⟨x,t,rfl,rfl⟩ <;> rfl
 pyHash:=λhv h=>by
  rcases xN hv with⟨i,t,rfl,rfl⟩|⟨x,t,rfl,rfl⟩
  ·exact wpAny_pyHash_int h
  ·exact wpAny_pyHash_str h
 eqBool:=λhu hv h=>by
  rcases xN hu with⟨i,t,rfl,rfl⟩|⟨x,t,rfl,rfl⟩
  ·rcases xN hv with⟨j,u,rfl,rfl⟩|⟨y,u,rfl,rfl⟩
   ·rw[N3] at h;exact Us h
   ·rw[N4] at h;exact SeqAt.EqAt.int_str i t y u _ _ _ _ h
  ·rcases xN hv with⟨j,u,rfl,rfl⟩|⟨y,u,rfl,rfl⟩
   ·rw[N5] at h;exact SeqAt.EqAt.str_int x t j u _ _ _ _ h
   ·rw[N6] at h;exact wpAny_eqBool_str h
 «strs»:=λk x t v h=>by
  rcases xN h with⟨i,u,rfl,e⟩|⟨y,u,rfl,e⟩
  ·exact nomatch e
  ·injection e with e1 _
   subst e1;cases v <;> rfl
def cO (prog:Bd)(w:Bw)(i:Ai)(t:Su):(xT prog w).is (.inl i) (.int i t)=true:=ZX i t
def cP (prog:Bd)(w:Bw)(x:Ar)(t:Su):(xT prog w).is (.inr x) (.str x t)=true:=ZY x t
end _L
namespace _L
open PySem PySem.Spec PyProof.Rows
inductive V where
 |non|bl (b:Ap)|int (i:Ai)|str (x:Ar)|byt (b:Av UInt8)|flt (b:UInt64)|ref (a:Ad)|ty (n:Do)
 deriving DecidableEq
def qO:V→Ac→Prop
 |.non,u=>u=Dj
 |.bl b,u=>u=Fn b
 |.int i,u=>∃ t,u=Me i t
 |.str x,u=>∃ t,u=Qn x t
 |.byt b,u=>∃ t,u=Value.bytes b t
 |.flt b,u=>∃ t,u=Xv b t
 |.ref a,u=>u=Cf a
 |.ty n,u=>u=Ha n
abbrev qP:Ab V→Ab Ac→Prop:=Paired qO
def qP.length {xs:Ab V}{us:Ab Ac}(r:qP xs us):xs.length=us.length:=Paired.length r
def qP.get:∀ {xs:Ab V} {us:Ab Ac} {i:Ah} {x:V},qP xs us→xs[i]? = Aa x→∃ u,us[i]? = Aa u∧qO x u
 |_,_,_,_,.nil,e=>by simp at e
 |_,_,0,_,.cons r _,e=>by simp at e;subst e;exact⟨_,rfl,r⟩
 |_,_,i+1,x,.cons _ t,e=>by
  obtain⟨u,h1,h2⟩:=qP.get (i:=i) (x:=x) t (by simpa using e)
  exact⟨u,by simpa using h1,h2⟩
def qP.set {x:V}{u:Ac}(r:qO x u):∀ {xs:Ab V} {us:Ab Ac} (i:Ah),qP xs us→qP (xs.set i x) (us.set i u)
 |_,_,_,.nil=>.nil
 |_,_,0,.cons _ t=>.cons r t
 |_,_,i+1,.cons q t=>.cons q (qP.set r i t)
def qP.append {xs ys:Ab V}{us ws:Ab Ac}(h:qP xs us)(s:qP ys ws):qP (xs++ys) (us++ws):=by
 induction h with
 |nil=>exact s
 |cons r t ih=>exact .cons r ih
def qP.take:∀ {xs:Ab V} {us:Ab Ac} (n:Ah),qP xs us→qP (xs.take n) (us.take n)
 |_,_,0,_=>.nil
 |_,_,_+1,.nil=>.nil
 |_,_,n+1,.cons r t=>.cons r (qP.take n t)
def qP.drop:∀ {xs:Ab V} {us:Ab Ac} (n:Ah),qP xs us→qP (xs.drop n) (us.drop n)
 |_,_,0,r=>r
 |_,_,_+1,.nil=>.nil
 |_,_,n+1,.cons _ t=>qP.drop n t
def vZ:Al V→Al Ac→Prop
 |some v,Aa u=>qO v u
 |none,none=>Op
 |_,_=>Fa
def KV {κ : Type}:Ab (κ × V)→Ab (κ × Ac)→Prop:=Paired λ(p:κ × V) (q:κ × Ac)=>p.1=q.1∧qO p.2 q.2
def kV:Key→V
 |.inl i=>.int i
 |.inr x=>.str x
inductive HO where
  |lst (xs:Ab V)
  |tup (xs:Ab V)
  |dK (kvs:Ab (Key × V))|dT (kvs:Ab (Ab Key × V))
  |set (S:Ai→Ap) (n:Ah)
  |ins (C dx:Ad) (fs:Ab (Ar × V))
  |own (x:Ad)
  |xd (fs:Ab (Ar × V))
  |met (f x:Ad)
  |rng (lo hi:Ai)
  |frz (o:Cg) (u:HO)
  |tbl (ps:Av Ac)
  |ext (φ : Bm→Prop)
abbrev Hp:=Ad→Al HO
def upd (H:Hp)(a:Ad)(o:HO):Hp:=λb=>if b=a then Aa o else H b
def zB {H:Hp}{a:Ad}{o:HO}:upd H a o a=Aa o:=by unfold upd;rw[Bg rfl]
def qN {H:Hp}{a b:Ad}{o:HO}(h:b≠a):upd H a o b=H b:=by unfold upd;rw[Bc h]
def RY {H:Hp}{a b:Ad}{o u:HO}(h:H a=Aa o)(h':H b=Aa u)(d:o≠u):a≠b:=by
 intro e;subst e;rw[h] at h';exact d (Co h')
def qZ {H:Hp}{a b:Ad}{o:HO}(h:H a=Aa o)(h':H b=none):a≠b:=by
 intro e;subst e;rw[h] at h';cases h'
section
variable (P:Bd)(w:Bw)
def zK (H:Hp)(h:Bm)(a:Ad):HO→Prop
 |.lst xs=>xs.length≤sizeLine∧∃ (its:Ab Ac) (n:Ah),qP xs its∧h.get? a=Aa { cls:=.type "list",data:=.seq its.toArray n }
 |.tup xs=>xs.length≤sizeLine∧∃ its:Ab Ac,qP xs its∧Tu h a its.toArray
 |.dK kvs=>kvs.length≤sizeLine∧(a == Iw)=false∧∃ vs,KV kvs vs∧h.DictOf (xT P w) a vs
 |.dT kvs=>kvs.length≤sizeLine∧(a == Iw)=false∧∃ xs:Ab (Ab Key × Ad × Ac),
   Paired (λ(p:Ab Key × V) (q:Ab Key × Ad × Ac)=>p.1=q.1∧H q.2.1=Aa (.tup (p.1.map kV))∧qO p.2 q.2.2) kvs xs ∧
   ∃ o es ep,h.get? a=Aa o∧o.ExactDict∧o.data=.dict es ep∧es.toList=xs.map (entryOfKey (Qo (xT P w)))∧(xs.map (·.1)).Nodup
 |.set S n=>h.SetOf (Be P w) a S n
 |.ins C dx fs=>H dx=Aa (.own a)∧fs.length≤1000∧dx≠a∧h.get? a=Aa (Ps C dx) ∧
   ∃ mA,h.Ns1 dx mA∧(∀ f,vZ (fs.lookup f) (mA f))∧Xk mA (fs.map (·.1))
 |.own _=>∃ o,h.get? a=Aa o
 |.xd fs=>∃ mA,h.Ns1 a mA∧∀ f,vZ (fs.lookup f) (mA f)
 |.rng lo hi=>∃ t u v,h.get? a=Aa { cls:=.type "range",data:=.fields #[.int lo t,.int hi u,.int 1 v] }
 |.frz o u=>h.get? a=Aa o∧zK H h a u
 |.tbl ps=>h.get? a=Aa { cls:=.none,data:=.fields ps }
 |.met f x=>h.get? a=Aa (Oq (.ref f) (.ref x))
 |.ext φ => φ h∧(∃ o,h.get? a=Aa o)∧∀ h1 h2:Bm,φ h1→(∀ o,h1.get? a=Aa o→h2.get? a=Aa o)→φ h2
def HOk (H:Hp)(h:Bm):Prop:=∀ a o,H a=Aa o→zK P w H h a o
end
section
variable {P:Bd}{w:Bw}{H H':Hp}{h h':Bm}{a:Ad}{o:HO}
def zK.lt (x:zK P w H h a o):a<h.objs.size:=by
 cases o with
 |lst xs=>obtain⟨_,_,_,_,e⟩:=x;exact Au e
 |tup xs=>obtain⟨_,_,_,p⟩:=x;exact p.lt
 |dK kvs=>obtain⟨_,_,_,_,o,_,_,e,_⟩:=x;exact Au e
 |dT kvs=>obtain⟨_,_,_,_,o,_,_,e,_⟩:=x;exact Au e
 |set S n=>obtain⟨o,_,_,_,e,_⟩:=x;exact Au e
 |ins C dx fs=>obtain⟨_,_,_,e,_⟩:=x;exact Au e
 |own y=>obtain⟨_,e⟩:=x;exact Au e
 |xd fs=>obtain⟨_,⟨_,_,_,e,_⟩,_⟩:=x;exact Au e
 |rng lo hi=>obtain⟨_,_,_,e⟩:=x;exact Au e
 |frz ob u=>obtain⟨e,_⟩:=x;exact Au e
 |tbl ps=>exact Au (show h.get? a=Aa _ from x)
 |met f y=>exact Au (show h.get? a=Aa _ from x)
 |ext φ => obtain⟨_,⟨_,e⟩,_⟩:=x;exact Au e
def Paired.mapP {α β:Type}{F G:α→β→Prop}{l₁:Ab α}{l₂:Ab β}(h:Paired F l₁ l₂)(f:∀ a b,F a b→G a b):Paired G l₁ l₂:=by
 induction h with
 |nil=>exact .nil
 |cons r t ih=>exact .cons (f _ _ r) ih
def zK.stay (x:zK P w H h a o)(k:∀ b u,(b=a∨H b=Aa (.own a))→h.get? b=Aa u→h'.get? b=Aa u)
  (ho:∀ b,H b=Aa (.own a)→H' b=Aa (.own a)) (ht:∀ b xs,H b=Aa (.tup xs)→H' b=Aa (.tup xs)):zK P w H' h' a o:=by
 induction o with
 |lst xs=>obtain⟨z,its,n,r,e⟩:=x;exact⟨z,its,n,r,k _ _ (.inl rfl) e⟩
 |tup xs=>obtain⟨z,its,r,ob,e,c⟩:=x;exact⟨z,its,r,ob,k _ _ (.inl rfl) e,c⟩
 |dK kvs=>obtain⟨z,y,vs,r,ob,es,ep,e,c⟩:=x;exact⟨z,y,vs,r,ob,es,ep,k _ _ (.inl rfl) e,c⟩
 |dT kvs =>
  obtain⟨z,y,xs,r,ob,es,ep,e,c⟩:=x;exact⟨z,y,xs,Paired.mapP r λp q z=>⟨z.1,ht _ _ z.2.1,z.2.2⟩,ob,es,ep,k _ _ (.inl rfl) e,c⟩
 |set S n=>obtain⟨ob,es,ep,t,e,c⟩:=x;exact⟨ob,es,ep,t,k _ _ (.inl rfl) e,c⟩
 |ins C dx fs =>
  obtain⟨d,z,ne,e,mA,⟨od,es,ep,e2,c⟩,r⟩:=x;exact⟨ho _ d,z,ne,k _ _ (.inl rfl) e,mA,⟨od,es,ep,k _ _ (.inr d) e2,c⟩,r⟩
 |own y=>obtain⟨ob,e⟩:=x;exact⟨ob,k _ _ (.inl rfl) e⟩
 |xd fs=>obtain⟨mA,⟨od,es,ep,e,c⟩,r⟩:=x;exact⟨mA,⟨od,es,ep,k _ _ (.inl rfl) e,c⟩,r⟩
 |rng lo hi=>obtain⟨t,u,v,e⟩:=x;exact⟨t,u,v,k _ _ (.inl rfl) e⟩
 |frz ob u ih=>obtain⟨e,q⟩:=x;exact⟨k _ _ (.inl rfl) e,ih q⟩
 |tbl ps =>
  have e:h.get? a=Aa { cls:=.none,data:=.fields ps }:=x;show h'.get? a=Aa { cls:=.none,data:=.fields ps };exact k a _ (.inl rfl) e
 |met f y =>
  have e:h.get? a=Aa (Oq (.ref f) (.ref y)):=x;show h'.get? a=Aa (Oq (.ref f) (.ref y));exact k a _ (.inl rfl) e
 |ext φ => obtain⟨p,⟨o,e⟩,st⟩:=x;exact⟨st _ _ p λo q=>k _ _ (.inl rfl) q,⟨o,k _ _ (.inl rfl) e⟩,st⟩
def HOk.lt (x:HOk P w H h)(e:H a=Aa o):a<h.objs.size:=(x a o e).lt
def HOk.fresh (x:HOk P w H h)(e:h.objs.size≤a):H a=none:=by
 cases q:H a with
 |none=>rfl
 |some u=>exact absurd (Ba (x.lt q) e) (Ei _)
def HOk.kept (x:HOk P w H h)(k:∀ b u,h.get? b=Aa u→h'.get? b=Aa u):HOk P w H h':=λa o e =>
 (x a o e).stay (λb u _ q=>k b u q) (λ_ q=>q) λ_ _ q=>q
def HOk.laid (x:HOk P w H h)(k:∀ b u,h.get? b=Aa u→h'.get? b=Aa u)(hp:h.objs.size≤a)(new:zK P w (upd H a o) h' a o):HOk P w (upd H a o) h':=λb u e=>by
 have hn:=x.fresh hp;by_cases hb:b=a
 ·subst hb;rw[zB] at e;cases e;exact new
 ·rw[qN hb] at e
  exact(x b u e).stay (λc v _ q=>k c v q) (λc q=>by rw[qN (qZ q hn)];exact q) λc xs q=>by rw[qN (qZ q hn)];exact q
end
def Rd (H:Hp)(a:Ad)(u:HO):Prop:=H a=Aa u∨∃ o,H a=Aa (.frz o u)
def Rd.of {H:Hp}{a:Ad}{u:HO}(h:H a=Aa u):Rd H a u:=.inl h
def Rd.ok {P:Bd}{w:Bw}{H:Hp}{h:Bm}{a:Ad}{u:HO}(r:Rd H a u)(x:HOk P w H h):zK P w H h a u:=by
 rcases r with r|⟨o,r⟩
 ·exact x a u r
 ·obtain⟨_,q⟩:=x a _ r
  exact q
def Mut:Al HO→Prop
 |some (.lst _)=>Op
 |some (.dK _)=>Op
 |some (.dT _)=>Op
 |some (.set _ _)=>Op
 |some (.ins _ _ _)=>Op
 |some (.ext _)=>Op
 |_=>Fa
section
variable {P:Bd}{w:Bw}{H:Hp}{h h':Bm}{x e:Ad}{o':HO}
def HOk.write (ok:HOk P w H h)(mu:Mut (H x))(he:e=x∨H e=Aa (.own x))(k:∀ b u,b≠e→h.get? b=Aa u→h'.get? b=Aa u)(heo:∃ u,h'.get? e=Aa u)
  (new:zK P w (upd H x o') h' x o'):HOk P w (upd H x o') h':=λb u q=>by
 have nown:∀ c y,H c=Aa (.own y)→c≠x:=λc y r z=>by subst z;rw[r] at mu;exact mu
 have ntup:∀ c xs,H c=Aa (.tup xs)→c≠x:=λc xs r z=>by subst z;rw[r] at mu;exact mu
 by_cases hb:b=x
 ·subst hb;rw[zB] at q;cases q;exact new
 ·rw[qN hb] at q
  by_cases hbe:b=e
  ·have q':H b=Aa (.own x):=by
    rcases he with z|z
    ·exact absurd (hbe.trans z) hb
    ·rw[hbe];exact z
   rw[q] at q';cases q';obtain⟨v,hv⟩:=heo;exact⟨v,by rw[hbe];exact hv⟩
  ·refine(ok b u q).stay (λc v hc r=>k c v ?_ r) (λc r=>by rw[qN (nown c b r)];exact r) λc xs r=>by rw[qN (ntup c xs r)];exact r
   rcases hc with rfl|hc
   ·exact hbe
   ·rintro rfl
    rcases he with z|z
    ·exact nown c b hc z
    ·rw[hc] at z;cases z;exact hb rfl
end
structure Un (fs ex:Ab Ad)(H H':Hp)(h h':Bm):Prop where
 keep:∀ b o,h.get? b=Aa o→H b=none→b ∉ fs→b ∉ ex→h'.get? b=Aa o
 slot:∀ b o,h.get? b=Aa o→H b=none→b∈fs→b ∉ ex→∃ sl,h'.get? b=Aa { o with slots:=sl }
 free:∀ b o,h.get? b=Aa o→H b=none→b ∉ ex→H' b=none
 there:∀ b o,h.get? b=Aa o→b ∉ ex→∃ o',h'.get? b=Aa o'
 tups:∀ b xs,H b=Aa (.tup xs)→H' b=Aa (.tup xs)
 frzs:∀ b o u,H b=Aa (.frz o u)→H' b=Aa (.frz o u)
 tbls:∀ b ps,H b=Aa (.tbl ps)→∃ more,H' b=Aa (.tbl (ps++more))
section
variable {fs fs' ex ex':Ab Ad}{H H1 H2:Hp}{h h1 h2 h':Bm}{a x e:Ad}{o:HO}
def Un.any (u:Un fs ex H H1 h h1){b:Ad}{ob:Cg}(q:h.get? b=Aa ob)(n:H b=none)(hx:b ∉ ex):∃ sl,h1.get? b=Aa { ob with slots:=sl }:=by
 by_cases hb:b∈fs
 ·exact u.slot b ob q n hb hx
 ·exact⟨ob.slots,u.keep b ob q n hb hx⟩
def Un.kept (k:∀ b u,h.get? b=Aa u→h'.get? b=Aa u):Un fs ex H H h h':=
 ⟨λb ob q _ _ _=>k b ob q,λb ob q _ _ _=>⟨ob.slots,k b ob q⟩,λ_ _ _ n _=>n,λb ob q _=>⟨ob,k b ob q⟩,λ_ _ q=>q,λ_ _ _ q=>q,λ_ ps q=>⟨#[],by rw[q];simp⟩⟩
def Un.refl:Un fs ex H H h h:=Un.kept λ_ _ q=>q
def Un.laid (k:∀ b u,h.get? b=Aa u→h'.get? b=Aa u)(hp:h.objs.size≤a)(hn:H a=none):Un fs ex H (upd H a o) h h' where
 keep:=λb u q _ _ _=>k b u q
 slot:=λb u q _ _ _=>⟨u.slots,k b u q⟩
 free:=λb u q n _=>by rw[qN (Cc (Ba (Au q) hp))];exact n
 there:=λb u q _=>⟨u,k b u q⟩
 tups:=λb xs q=>by rw[qN (qZ q hn)];exact q
 frzs:=λb u xs q=>by rw[qN (qZ q hn)];exact q
 tbls:=λb ps q=>⟨#[],by rw[qN (qZ q hn),q];simp⟩
def Un.write (mu:Mut (H x))(he:e=x∨H e=Aa (.own x))(k:∀ b u,b≠e→h.get? b=Aa u→h'.get? b=Aa u)(heo:∃ u,h'.get? e=Aa u):Un fs ex H (upd H x o) h h':=by
 have hx:∀ b,H b=none→b≠x:=λb n z=>by subst z;rw[n] at mu;exact mu
 have hb:∀ b,H b=none→b≠e:=λb n z=>by
  subst z;rcases he with r|r
  ·exact hx b n r
  ·rw[n] at r;cases r
 have hm:∀ b u,H b=Aa u→¬ Mut (Aa u)→b≠x:=λb u q nm z=>by subst z;rw[q] at mu;exact nm mu
 refine⟨λb u q n _ _=>k b u (hb b n) q,λb u q n _ _=>⟨u.slots,k b u (hb b n) q⟩,λb u q n _=>by rw[qN (hx b n)];exact n,λb u q _=>?_,
  λb xs q=>by rw[qN (hm b _ q λz=>z)];exact q,λb u xs q=>by rw[qN (hm b _ q λz=>z)];exact q,λb ps q=>⟨#[],by rw[qN (hm b _ q λz=>z),q];simp⟩⟩
 by_cases hbe:b=e
 ·subst hbe;exact heo
 ·exact⟨u,k b u hbe q⟩
end
def trk (h:Bm)(H:Hp):Ab Ad:=(By h.objs.size).filter λa=>(H a).isSome
def gT (h:Bm)(H:Hp):Bm:=Mf h (trk h H)
def ZT (h:Bm)(H:Hp):(gT h H).objs.size=h.objs.size:=PySem.W.hideAll_size _ _
def V6 {h:Bm}{H:Hp}{b:Ad}{o:Cg}(e:h.get? b=Aa o)(n:H b=none):(gT h H).get? b=Aa o:=
 Rq _ e λhm=>by
  have q:(H b).isSome=true:=(Vp.mp hm).2;rw[n] at q;simp at q
def PV {h:Bm}{H:Hp}{b:Ad}{o:Cg}(e:(gT h H).get? b=Aa o):h.get? b=Aa o∧H b=none:=by
 have e':h.get? b=Aa o:=Sv (trk h H) e;refine⟨e',?_⟩;cases q:H b with
 |none=>rfl
 |some x =>
  have hm:b∈trk h H:=Vp.mpr ⟨Dy.mpr (Au e'),by simp[q]⟩
  have z:(gT h H).get? b=none:=PySem.W.hideAll_none (trk h H) hm;rw[z] at e;cases e
def K2 (g h:Bm)(L:Ad):Ab (Ad × Cg):=(By h.objs.size).filterMap λa=>if a=L∨(g.get? a).isSome=true then none else (h.get? a).map λo=>(a,o)
def qK (g h:Bm)(L d:Ad):Ab (Ad × Cg):=(K2 g h L).filter λp=>decide (p.1≠d)
end _L
namespace _L
open PySem PySem.Spec PyProof.Rows
variable {ch:Ab Ad}{E:Ac→Ag→Prop}{t':Ah}{g':Av Vq}{d':Drawn}{M:Ji}{Q:OO→Ag→Prop}
def wV:Ab Ar:=["law","_law_right","by_hull","pair_bound"]
def FN (mg:Ar→Al Ac)(h:Bm):Prop:=∃ bm o,mg "__builtins__" = Aa (.ref bm)∧bm≠Mz∧h.get? bm=Aa o∧o.cls=.type "module" ∧ o.dict=Aa Mz∧o.data=.plain
structure Mod (K:Ak)(mg:Ar→Al Ac)(base:Bm):Prop where
 kin:K.In base
 glob:base.Ns Ch mg
 blt:∃ mb,base.Ns Mz mb∧∀ x:Ar,x ≠ "__name__" → mb x=Fy x
 nolimit:base.NoLimit
 bm:FN mg base
 code:∀ x∈wV,∀ c T,Dp K x=Aa (c,T)→Qz base c T
 inj:∀ x∈wV,∀ y∈wV,∀ c d T,Dp K x=Aa (c,T)→Dp K y=Aa (d,T)→x=y
structure Cx where
 prog:Bd
 w:Bw
 K:Ak
 mg:Ar→Al Ac
 base:Bm
 A:Bt
 N:Ab Ar
 s₀:Ag
 H₀:Hp
 env:Hu
 outer:Ab Hu
 stack:Ab Hu
 ex:Ab Ad
 fn:Ar→Ap
 calm:Ap
 pn:Ab (Ad × Cg)
 xe:Ac→Ag→Prop
def frs (l:Ab Hu):Ab Ad:=l.filterMap (·.frame)
abbrev Cx.fs (X:Cx):Ab Ad:=frs X.outer
def Vis (sc:Eh)(x:Ar):Prop:=sc.names.lookup x=Aa .local ∨ sc.names.lookup x=Aa .cell∨sc.names.lookup x=Aa .free
def Loc (sc:Eh)(x:Ar):Prop:=sc.names.lookup x=Aa .local ∨ sc.names.lookup x=Aa .cell
def FQ (env:Hu)(h:Bm)(m:Ar→Al Ac)(x:Ar)(u:Ac):Prop:=
 (env.kindOf x=Aa .local ∧ m x=Aa u)∨((env.kindOf x=Aa .cell∨env.kindOf x=Aa .free)∧∃ c,env.cells.lookup x=Aa c∧h.IsCell c (Aa u))
structure Cx.Ok (X:Cx):Prop where
 mod:Mod X.K X.mg X.base
 kind:X.env.scope.kind=.function
 glob:X.env.globals=Ch
 blt:X.env.builtins=Mz
 above:X.s₀.heap.objs.size≤X.env.locals
 inj:∀ x y c,X.env.cells.lookup x=Aa c→X.env.cells.lookup y=Aa c→x=y
 has:∀ x,(X.env.kindOf x=Aa .cell∨X.env.kindOf x=Aa .free)→∃ c,X.env.cells.lookup x=Aa c
 cab:∀ x c,X.fn x=true→X.env.cells.lookup x=Aa c→X.s₀.heap.objs.size≤c
 hd:X.calm=true→X.A.handled=none
 frames:X.A.frames=Aa X.stack
 stk:X.stack=X.outer∨(X.stack=X.env::X.outer∧X.env.frame=Aa X.env.locals)
 exf:∀ b∈X.ex,b≠X.env.locals∧∀ x c,X.env.cells.lookup x=Aa c→c≠b
 bs:∀ b o,X.base.get? b=Aa o→X.s₀.heap.get? b=Aa o∧X.H₀ b=none
 bsz:X.base.objs.size≤X.s₀.heap.objs.size
 noex:∀ b o,X.base.get? b=Aa o→b ∉ X.ex
 exfs:∀ b∈X.ex,b ∉ X.fs
 funs:X.s₀.heap.FunFrames X.base X.outer
 frf:∀ b∈X.fs,X.H₀ b=none
structure Inv (X:Cx)(pins:Ab (Ad × Cg))(σ : Ab (Al V))(H:Hp)(s:Ag):Prop where
 ok:X.Ok
 os:s.os=X.s₀.os
 bare:Lm s.gens
 base:Un X.fs X.ex X.H₀ H X.s₀.heap s.heap
 loc:∃ m,s.heap.Ns X.env.locals m∧∀ (i:Ah) (x:Ar) (v:V),X.N[i]? = Aa x→σ[i]? = Aa (Aa v)→Vis X.env.scope x→∃ u,qO v u∧FQ X.env s.heap m x u
 cell:∀ x c,X.env.cells.lookup x=Aa c→∃ v,s.heap.IsCell c v
 free:H X.env.locals=none
 freeC:∀ x c,X.env.cells.lookup x=Aa c→H c=none
 pin:∀ p∈X.pn++pins,s.heap.get? p.1=Aa p.2∧H p.1=none∧p.1≠X.env.locals∧p.1 ∉ X.fs∧∀ v,p.2.data≠.cell v
 hok:HOk X.prog X.w H s.heap
 len:σ.length=X.N.length
section
variable {X:Cx}{pins:Ab (Ad × Cg)}{σ : Ab (Al V)}{H H':Hp}{s:Ag}{h':Bm}
def Cx.Ok.nofr (ok:X.Ok){b:Ad}{o:Cg}(e:X.base.get? b=Aa o):b ∉ X.fs:=λhb=>by
 have:=(ok.funs.mem hb).1;rw[e] at this;cases this
def Inv.bs (I:Inv X pins σ H s):∀ b o,X.base.get? b=Aa o→s.heap.get? b=Aa o∧H b=none:=λb o e =>
 ⟨I.base.keep b o (I.ok.bs b o e).1 (I.ok.bs b o e).2 (I.ok.nofr e) (I.ok.noex b o e),I.base.free b o (I.ok.bs b o e).1 (I.ok.bs b o e).2 (I.ok.noex b o e)⟩
def Inv.bk (I:Inv X pins σ H s):∀ b o,X.base.get? b=Aa o→s.heap.get? b=Aa o:=λb o e=>(I.bs b o e).1
def Inv.mod (I:Inv X pins σ H s):Mod X.K X.mg X.base:=I.ok.mod
def Inv.kIn (I:Inv X pins σ H s):X.K.In s.heap:=I.ok.mod.kin.keeps I.bk
def Inv.nolimit (I:Inv X pins σ H s):s.heap.NoLimit:=I.ok.mod.nolimit.keeps I.bk
def Inv.lt (I:Inv X pins σ H s):X.env.locals<s.heap.objs.size:=let ⟨_,hn,_⟩:=I.loc;hn.lt
def Inv.sz (I:Inv X pins σ H s):X.s₀.heap.objs.size≤s.heap.objs.size:=Eb I.ok.above (Fz I.lt)
def Inv.nofs (I:Inv X pins σ H s){a:Ad}(h:s.heap.objs.size≤a):a ∉ X.fs:=λhb=>by
 obtain⟨_,o,ho,_⟩:=I.ok.funs.mem hb;exact absurd (Ba (Au ho) (Eb I.sz h)) (Ei _)
def Inv.cne (I:Inv X pins σ H s):∀ x c,X.env.cells.lookup x=Aa c→c≠X.env.locals:=λx c e z=>by
 obtain⟨v,o,ho,hd⟩:=I.cell x c e;obtain⟨m,⟨o',es,ep,ho',hd',_⟩,_⟩:=I.loc;rw[z,ho'] at ho;cases ho;rw[hd'] at hd;cases hd
def Inv.funs (I:Inv X pins σ H s):s.heap.FunFrames X.base X.outer:=by
 have all:∀ (l:Ab Hu),(∀ b∈frs l,b∈X.fs)→X.s₀.heap.FunFrames X.base l→s.heap.FunFrames X.base l:=by
  intro l
  induction l with
  |nil=>intro _ _;trivial
  |cons env r ih =>
   intro hs hl;obtain⟨hk,⟨L,o,hf,hn,ho,hd⟩,hr⟩:=hl;have hL:L∈X.fs:=hs L (by unfold frs;rw[Hl,hf];exact Ct)
   obtain⟨sl,e⟩:=I.base.slot L o ho (I.ok.frf L hL) hL λz=>I.ok.exfs L z hL;exact⟨hk,⟨L,_,hf,hn,e,hd⟩,ih (λb hb=>hs b (by unfold frs;rw[Hl,hf];exact Bu _ hb)) hr⟩
 exact all X.outer (λ_ hb=>hb) I.ok.funs
def Inv.stack (I:Inv X pins σ H s):s.heap.FunFrames X.base X.stack:=by
 rcases I.ok.stk with e|⟨e,hf⟩
 ·rw[e];exact I.funs
 ·rw[e]
  obtain⟨m,hn,_⟩:=I.loc;refine .cons (by rw[I.ok.kind];decide) hf hn ?_ I.funs
  exact Il (Eb I.ok.bsz I.ok.above)
def Inv.stkSub (I:Inv X pins σ H s):∀ b∈frs X.stack,b∈X.env.locals::X.fs:=λb hb=>by
 rcases I.ok.stk with e|⟨e,hf⟩
 ·rw[e] at hb;exact Bu _ hb
 ·rw[e] at hb
  unfold frs at hb;rw[Hl,hf] at hb;exact hb
def Inv.stkFree (I:Inv X pins σ H s):∀ b∈frs X.stack,H b=none:=λb hb=>by
 rcases Bb.mp (I.stkSub b hb) with e|hb
 ·rw[e];exact I.free
 ·obtain⟨_,o,ho,_⟩:=I.ok.funs.mem hb
  exact I.base.free b o ho (I.ok.frf b hb) λz=>I.ok.exfs b z hb
def Inv.step {g':Av Vq}{t':Ah}{d':Drawn}(I:Inv X pins σ H s)
  (hch:∀ b∈ch,(b∈X.ex∨X.s₀.heap.objs.size≤b)∧b≠X.env.locals∧(∀ x c,X.env.cells.lookup x=Aa c→c≠b)∧∀ p∈X.pn++pins,p.1≠b)
  (keep:∀ b o,b≠X.env.locals→b ∉ X.fs→b ∉ ch→s.heap.get? b=Aa o→H b=none→h'.get? b=Aa o)
  (slot:∀ b o,b≠X.env.locals→b∈X.fs→b ∉ ch→s.heap.get? b=Aa o→H b=none→∃ sl,h'.get? b=Aa { o with slots:=sl }) (free:∀ b o,b ∉ ch→s.heap.get? b=Aa o→H b=none→H' b=none)
  (there:∀ b o,b ∉ ch→s.heap.get? b=Aa o→∃ o',h'.get? b=Aa o')
  (tups:∀ b xs,H b=Aa (.tup xs)→H' b=Aa (.tup xs)) (frzs:∀ b o u,H b=Aa (.frz o u)→H' b=Aa (.frz o u)) (tbls:∀ b ps,H b=Aa (.tbl ps)→∃ more,H' b=Aa (.tbl (ps++more)))
  (ns:∀ m,s.heap.Ns X.env.locals m→h'.Ns X.env.locals m) (hok:HOk X.prog X.w H' h') (hg:Lm g') :
  Inv X pins σ H' { s with heap:=h',gens:=g',drawn:=d',toks:=t' }:=by
 have neL:∀ b o,X.s₀.heap.get? b=Aa o→b≠X.env.locals:=λb o e=>Cc (Ba (Au e) I.ok.above);have neC:∀ b o,X.s₀.heap.get? b=Aa o→b ∉ X.ex→b ∉ ch:=λb o e hx hb=>by
  rcases (hch b hb).1 with z|z
  ·exact hx z
  ·exact absurd (Ba (Au e) z) (Ei _)
 have cellK:∀ x c,X.env.cells.lookup x=Aa c→∀ v,s.heap.IsCell c v→h'.IsCell c v:=λx c e v ⟨o,ho,hd⟩=>by
  have nch:c ∉ ch:=λz=>(hch c z).2.2.1 x c e rfl;by_cases hc:c∈X.fs
  ·obtain⟨sl,q⟩:=slot c o (I.cne x c e) hc nch ho (I.freeC x c e)
   exact⟨_,q,hd⟩
  ·exact⟨o,keep c o (I.cne x c e) hc nch ho (I.freeC x c e),hd⟩
 refine⟨I.ok,I.os,hg,⟨λb o e n hb hx=>?_,λb o e n hb hx=>?_,λb o e n hx=>?_,λb o e hx=>?_,λb xs e=>tups b xs (I.base.tups b xs e),λb o xs e=>frzs b o xs (I.base.frzs b o xs e),λb ps e=>?_⟩,?_,λx c e=>?_,?_,λx c e=>?_,λp hp=>?_,hok,I.len⟩
 ·exact keep b o (neL b o e) hb (neC b o e hx) (I.base.keep b o e n hb hx) (I.base.free b o e n hx)
 ·obtain⟨sl,e1⟩:=I.base.slot b o e n hb hx
  obtain⟨sl',e2⟩:=slot b _ (neL b o e) hb (neC b o e hx) e1 (I.base.free b o e n hx);exact⟨sl',e2⟩
 ·obtain⟨o',e1⟩:=I.base.there b o e hx
  exact free b o' (neC b o e hx) e1 (I.base.free b o e n hx)
 ·obtain⟨o',e1⟩:=I.base.there b o e hx
  exact there b o' (neC b o e hx) e1
 ·obtain⟨m1,e1⟩:=I.base.tbls b ps e
  obtain⟨m2,e2⟩:=tbls b _ e1;exact⟨m1++m2,by rw[e2,Array.append_assoc]⟩
 ·obtain⟨m,hn,hl⟩:=I.loc
  refine⟨m,ns m hn,λi x v e1 e2 e3=>?_⟩;obtain⟨u,r,l⟩:=hl i x v e1 e2 e3;refine⟨u,r,?_⟩;rcases l with l|⟨k,c,e,z⟩
  ·exact .inl l
  ·exact .inr ⟨k,c,e,cellK x c e _ z⟩
 ·obtain⟨v,z⟩:=I.cell x c e
  exact⟨v,cellK x c e v z⟩
 ·obtain⟨m,⟨o,_,_,ho,_⟩,_⟩:=I.loc
  exact free _ o (λz=>(hch _ z).2.1 rfl) ho I.free
 ·obtain⟨v,o,ho,hd⟩:=I.cell x c e
  exact free c o (λz=>(hch c z).2.2.1 x c e rfl) ho (I.freeC x c e)
 ·obtain⟨e,n,ne,nf,d⟩:=I.pin p hp
  have nch:p.1 ∉ ch:=λz=>(hch p.1 z).2.2.2 p hp rfl;exact⟨keep p.1 p.2 ne nf nch e n,free p.1 p.2 nch e n,ne,nf,d⟩
def Inv.un {t':Ah}(I:Inv X pins σ H s)(u:Un X.fs [] H H' s.heap h')(hok:HOk X.prog X.w H' h'):Inv X pins σ H' { s with heap:=h',toks:=t' }:=by
 obtain⟨m,⟨o,es,ep,ho,r⟩,_⟩:=id I.loc;obtain⟨sl,hL⟩:=u.any ho I.free (by simp)
 exact I.step (g':=s.gens) (d':=s.drawn) (ch:=[]) (λ_ z=>nomatch z) (λb o _ hb _ e n=>u.keep b o e n hb (by simp)) (λb o _ hb _ e n=>u.slot b o e n hb (by simp)) (λb o _ e n=>u.free b o e n (by simp)) (λb o _ e=>u.there b o e (by simp)) u.tups u.frzs u.tbls (λm' hm=>by
  obtain⟨o',es',ep',ho',r'⟩:=hm;rw[ho] at ho';cases ho';exact⟨_,es',ep',hL,r'⟩) hok I.bare
def Inv.call {t':Ah}{d':Drawn}(I:Inv X pins σ H s)(u:Un (frs X.stack) ch H H' s.heap h')(hok:HOk X.prog X.w H' h')(hg:Lm g')
  (hch:∀ b∈ch,(b∈X.ex∨X.s₀.heap.objs.size≤b)∧b≠X.env.locals∧(∀ x c,X.env.cells.lookup x=Aa c→c≠b)∧∀ p∈X.pn++pins,p.1≠b) :
  Inv X pins σ H' { s with heap:=h',gens:=g',drawn:=d',toks:=t' }:=by
 obtain⟨m,⟨o,es,ep,ho,r⟩,_⟩:=id I.loc;obtain⟨sl,hL⟩:=u.any ho I.free λz=>(hch _ z).2.1 rfl;exact I.step (ch:=ch) hch (λb o hL hb hc e n=>u.keep b o e n (λz=>(Bb.mp (I.stkSub b z)).elim hL hb) hc) (λb o _ _ hc e n=>u.any e n hc) (λb o hc e n=>u.free b o e n hc) (λb o hc e=>u.there b o e hc) u.tups u.frzs u.tbls (λm' hm=>by
  obtain⟨o',es',ep',ho',r'⟩:=hm;rw[ho] at ho';cases ho';exact⟨_,es',ep',hL,r'⟩) hok hg
def Inv.turned {t':Ah}{it:Ad}(I:Inv X pins σ H s)(k:∀ b o,b≠it→s.heap.get? b=Aa o→h'.get? b=Aa o)(hn:H it=none)(hL:it≠X.env.locals)
  (h1:it∈X.ex∨X.s₀.heap.objs.size≤it) (h2:∀ x c,X.env.cells.lookup x=Aa c→c≠it) (h3:∀ p∈X.pn++pins,p.1≠it):Inv X pins σ H { s with heap:=h',toks:=t' }:=by
 have nit:∀ b u,H b=Aa u→b≠it:=λb u e z=>by rw[z,hn] at e;cases e
 refine I.step (g':=s.gens) (d':=s.drawn) (ch:=[it]) (λb hb=>?_) (λb o _ _ hc e _=>k b o (λz=>hc (by simp[z])) e) (λb o _ _ hc e _=>⟨o.slots,k b o (λz=>hc (by simp[z])) e⟩) (λ_ _ _ _ n=>n)
  (λb o hc e=>⟨o,k b o (λz=>hc (by simp[z])) e⟩) (λ_ _ e=>e) (λ_ _ _ e=>e) (λb ps e=>⟨#[],by rw[e];simp⟩) (λm hm=>?_) (λb u e=>?_) I.bare
 ·have e:b=it:=by simpa using hb
  subst e;exact⟨h1,hL,h2,h3⟩
 ·obtain⟨o,es,ep,ho,r⟩:=hm
  exact⟨o,es,ep,k _ o (Fu hL) ho,r⟩
 ·refine(I.hok b u e).stay (λc v hc q=>k c v ?_ q) (λ_ q=>q) λ_ _ q=>q
  rcases hc with z|z
  ·rw[z];exact nit b u e
  ·exact nit c _ z
def Inv.tok (I:Inv X pins σ H s)(t:Ah):Inv X pins σ H { s with toks:=t }:=I.un (h':=s.heap) (t':=t) Un.refl I.hok
def Inv.kept {t':Ah}(I:Inv X pins σ H s)(k:∀ b u,s.heap.get? b=Aa u→h'.get? b=Aa u):Inv X pins σ H { s with heap:=h',toks:=t' }:=I.un (Un.kept k) (I.hok.kept k)
def Inv.laid {a:Ad}{o:HO}{t':Ah}(I:Inv X pins σ H s)(k:∀ b u,s.heap.get? b=Aa u→h'.get? b=Aa u)(hp:s.heap.objs.size≤a)(new:zK X.prog X.w (upd H a o) h' a o) :
  Inv X pins σ (upd H a o) { s with heap:=h',toks:=t' }:=I.un (Un.laid k hp (I.hok.fresh hp)) (I.hok.laid k hp new)
def Inv.write {x e:Ad}{o:HO}{t':Ah}(I:Inv X pins σ H s)(mu:Mut (H x))(he:e=x∨H e=Aa (.own x))(k:∀ b u,b≠e→s.heap.get? b=Aa u→h'.get? b=Aa u)(heo:∃ u,h'.get? e=Aa u)
  (new:zK X.prog X.w (upd H x o) h' x o):Inv X pins σ (upd H x o) { s with heap:=h',toks:=t' }:=I.un (Un.write mu he k heo) (I.hok.write mu he k heo new)
def Inv.pins_of {pins':Ab (Ad × Cg)}(I:Inv X pins σ H s)(h:∀ p∈pins',s.heap.get? p.1=Aa p.2∧H p.1=none∧p.1≠X.env.locals∧p.1 ∉ X.fs∧∀ v,p.2.data≠.cell v):Inv X pins' σ H s:=
 ⟨I.ok,I.os,I.bare,I.base,I.loc,I.cell,I.free,I.freeC,λp hp=>(Cp.mp hp).elim (λz=>I.pin p (Dg _ z)) (h p),I.hok,I.len⟩
def m6 {N:Ab Ar}(hN:N.Nodup){i j:Ah}{x:Ar}(a:N[i]? = Aa x)(b:N[j]? = Aa x):i=j:=by
 obtain⟨h1,e1⟩:=AT.mp a;obtain⟨h2,e2⟩:=AT.mp b;exact(ON hN).mp (e1.trans e2.symm)
def dP {A:Bt}{i:Ah}{x:Ar}{v:V}{u:Ac}(I:Inv X pins σ H s)(hN:X.N.Nodup)(hi:X.N[i]? = Aa x)(hx:Loc X.env.scope x)(r:qO v u)
  (h:∀ s',Inv X pins (σ.set i (Aa v)) H s'→(∃ a,Gp a s.heap s'.heap∧(a=X.env.locals∨X.env.cells.lookup x=Aa a))→Q () s') (hf:X.fn x=true∨X.env.scope.names.lookup x=Aa .local:=by first|exact .inl rfl|exact .inr rfl|assumption):Ao M A (storeName X.env x u) Q E s:=by
 obtain⟨m,hn,hl⟩:=id I.loc;have hcls:(X.env.scope.kind == .class||(X.env.scope.kind == .module&&X.env.locals != X.env.globals))=false:=by rw[I.ok.kind];rfl
 have hiσ:i<σ.length:=by rw[I.len];exact(AT.mp hi).1
 have cne:=I.cne;have tracked:∀ {a:Ad} {h':Bm},(∃ o,s.heap.get? a=Aa o∧H a=none)→Gp a s.heap h'→HOk X.prog X.w H h':=λ{a h'} ha hs b ob e=>by
  obtain⟨_,_,hfree⟩:=ha;refine(I.hok b ob e).stay (λc w' hc q=>(hs.2 c ?_).trans q) (λ_ q=>q) λ_ _ q=>q;rintro rfl;rcases hc with rfl|hc
  ·rw[hfree] at e;cases e
  ·rw[hfree] at hc;cases hc
 rcases hx with hk|hk
 ·refine wpAny_storeName_local hk hn (λh' hn' hs=>?_) hcls
  obtain⟨oL,_,_,hoL,_⟩:=id hn;refine h _ ⟨I.ok,I.os,I.bare,⟨λb o e n hb hx=>?_,λb o e n hb hx=>?_,I.base.free,λb o e hx=>?_,I.base.tups,I.base.frzs,I.base.tbls⟩,⟨_,hn',λj y v' e1 e2 e3=>?_⟩,λy c e=>?_,I.free,I.freeC,λp hp=>?_,tracked ⟨oL,hoL,I.free⟩ hs,by simpa using I.len⟩ ⟨_,hs,.inl rfl⟩
  ·exact(hs.2 b (Cc (Ba (Au e) I.ok.above))).trans (I.base.keep b o e n hb hx)
  ·obtain⟨sl,e1⟩:=I.base.slot b o e n hb hx
   exact⟨sl,(hs.2 b (Cc (Ba (Au e) I.ok.above))).trans e1⟩
  ·obtain⟨o',e1⟩:=I.base.there b o e hx
   exact⟨o',(hs.2 b (Cc (Ba (Au e) I.ok.above))).trans e1⟩
  ·by_cases hj:j=i
   ·subst hj
    rw[hi] at e1;cases e1;rw[Fq hiσ] at e2;cases e2;exact⟨u,r,.inl ⟨hk,by simp⟩⟩
   ·rw[Dz (Fu hj)] at e2
    obtain⟨u',r',q⟩:=hl j y v' e1 e2 e3;refine⟨u',r',?_⟩;rcases q with⟨k,e⟩|⟨k,c,e,z⟩
    ·refine .inl ⟨k,?_⟩
     have:y≠x:=λe=>hj (m6 hN e1 (e▸hi));simp[this,e]
    ·exact .inr ⟨k,c,e,z.sameBut hs (cne y c e)⟩
  ·obtain⟨w',z⟩:=I.cell y c e
   exact⟨w',z.sameBut hs (cne y c e)⟩
  ·obtain⟨e,n,ne,nf,d⟩:=I.pin p hp
   exact⟨(hs.2 p.1 ne).trans e,n,ne,nf,d⟩
 ·have hfn:X.fn x=true:=by
   rcases hf with z|z
   ·exact z
   ·rw[z] at hk;cases hk
  obtain⟨c,hc⟩:=I.ok.has x (.inl hk);obtain⟨w',z⟩:=I.cell x c hc;refine wpAny_storeName_cell I.ok.kind hk hc z (λh' hc' hs=>?_);obtain⟨oc,hoc,hocd⟩:=id z;refine h { s with heap:=h' } ⟨I.ok,I.os,I.bare,⟨λb o e n hb hx=>?_,λb o e n hb hx=>?_,I.base.free,λb o e hx=>?_,I.base.tups,I.base.frzs,I.base.tbls⟩,⟨m,hn.sameBut hs (Fu (cne x c hc)),λj y v' e1 e2 e3=>?_⟩,λy c' e=>?_,I.free,I.freeC,λp hp=>?_,tracked ⟨oc,hoc,I.freeC x c hc⟩ hs,by simpa using I.len⟩ ⟨c,hs,.inr hc⟩
  ·exact(hs.2 b (Cc (Ba (Au e) (I.ok.cab x c hfn hc)))).trans (I.base.keep b o e n hb hx)
  ·obtain⟨sl,e1⟩:=I.base.slot b o e n hb hx
   exact⟨sl,(hs.2 b (Cc (Ba (Au e) (I.ok.cab x c hfn hc)))).trans e1⟩
  ·obtain⟨o',e1⟩:=I.base.there b o e hx
   exact⟨o',(hs.2 b (Cc (Ba (Au e) (I.ok.cab x c hfn hc)))).trans e1⟩
  ·by_cases hj:j=i
   ·subst hj
    rw[hi] at e1;cases e1;rw[Fq hiσ] at e2;cases e2;exact⟨u,r,.inr ⟨.inl hk,c,hc,hc'⟩⟩
   ·rw[Dz (Fu hj)] at e2
    obtain⟨u',r',q⟩:=hl j y v' e1 e2 e3;refine⟨u',r',?_⟩;rcases q with q|⟨k,c',e,z'⟩
    ·exact .inl q
    ·refine .inr ⟨k,c',e,z'.sameBut hs ?_⟩
     rintro rfl;exact hj (m6 hN e1 (I.ok.inj _ _ _ e hc▸hi))
  ·by_cases hcc:c'=c
   ·subst hcc;exact⟨_,hc'⟩
   ·obtain⟨w2,z2⟩:=I.cell y c' e
    exact⟨w2,z2.sameBut hs hcc⟩
  ·obtain⟨e,n,ne,nf,d⟩:=I.pin p hp
   refine⟨(hs.2 p.1 ?_).trans e,n,ne,nf,d⟩;intro q;rw[q,hoc] at e;have q':oc=p.2:=Co e;exact d w' (by rw[← q'];exact hocd)
def jU {A:Bt}{i:Ah}{x:Ar}{v:V}{u:Ac}(I:Inv X pins σ H s)(hN:X.N.Nodup)(hi:X.N[i]? = Aa x)(hx:Loc X.env.scope x)(r:qO v u)
  (h:∀ s',Inv X pins (σ.set i (Aa v)) H s'→Q () s') (hf:X.fn x=true∨X.env.scope.names.lookup x=Aa .local:=by first|exact .inl rfl|exact .inr rfl|assumption):Ao M A (storeName X.env x u) Q E s:=
 dP I hN hi hx r (λs' I' _=>h s' I') hf
def Inv.call' {s':Ag}(I:Inv X pins σ H s)(ho:s'.os=s.os)(u:Un (frs X.stack) ch H H' s.heap s'.heap)(hok:HOk X.prog X.w H' s'.heap)(hg:Lm s'.gens)
  (hch:∀ b∈ch,(b∈X.ex∨X.s₀.heap.objs.size≤b)∧b≠X.env.locals∧(∀ x c,X.env.cells.lookup x=Aa c→c≠b)∧∀ p∈X.pn++pins,p.1≠b):Inv X pins σ H' s':=by
 obtain⟨h',g',d',t',o'⟩:=s';have e:o'=s.os:=ho;subst e;exact I.call (g':=g') (t':=t') (d':=d') u hok hg hch
end
abbrev XK:=Ac→Al Ad→Hp→Prop
abbrev St:=Ab (Al V)
abbrev VK:=V→Hp→Prop
abbrev TE:=St→Hp→VK→Prop
abbrev TT:=St→Hp→(Ap→Hp→Prop)→Prop
abbrev TA:=St→Hp→(Ab V→Hp→Prop)→Prop
structure Ends where
 nx:St→Hp→Prop
 rt:VK
 bk:St→Hp→Prop:=λ_ _=>Fa
 ct:St→Hp→Prop:=λ_ _=>Fa
abbrev TS:=Ends→St→Hp→Prop
inductive EP (X:Cx)(pins:Ab (Ad × Cg))(σ : St)(Q:VK)(u:Ac)(s':Ag):Prop
 |mk (v:V) (H':Hp) (I:Inv X pins σ H' s') (r:qO v u) (q:Q v H'):EP X pins σ Q u s'
inductive TP (X:Cx)(pins:Ab (Ad × Cg))(σ : St)(Q:Ap→Hp→Prop)(b:Ap)(s':Ag):Prop
 |mk (H':Hp) (I:Inv X pins σ H' s') (q:Q b H'):TP X pins σ Q b s'
inductive AP (X:Cx)(pins:Ab (Ad × Cg))(σ : St)(Q:Ab V→Hp→Prop)(us:Ab Ac)(s':Ag):Prop
 |mk (vs:Ab V) (H':Hp) (I:Inv X pins σ H' s') (r:qP vs us) (q:Q vs H'):AP X pins σ Q us s'
def SP (X:Cx)(pins:Ab (Ad × Cg))(D:Ends)(f:Flow)(s':Ag):Prop:=
 match f with
 |.next=>∃ σ' H',Inv X pins σ' H' s'∧D.nx σ' H'
 |.brk=>∃ σ' H',Inv X pins σ' H' s'∧D.bk σ' H'
 |.cont=>∃ σ' H',Inv X pins σ' H' s'∧D.ct σ' H'
 |.ret u=>∃ v σ' H',Inv X pins σ' H' s'∧qO v u∧D.rt v H'
def PE (X:Cx)(e:Bv)(t:TE):Prop:=
 ∀ (pins:Ab (Ad × Cg)) (s:Ag) (σ : St) (H:Hp) (Q:VK),Inv X pins σ H s→t σ H Q→Ao (As X.prog X.w) X.A (eval e X.env) (EP X pins σ Q) X.xe s
def PT (X:Cx)(e:Bv)(t:TT):Prop:=
 ∀ (pins:Ab (Ad × Cg)) (s:Ag) (σ : St) (H:Hp) (Q:Ap→Hp→Prop),Inv X pins σ H s→t σ H Q→Ao (As X.prog X.w) X.A (isTrue e X.env (eval e X.env)) (TP X pins σ Q) X.xe s
def PW (X:Cx)(e:Bv)(t:TT):Prop:=
 ∀ (whole:Jm Ac) (pins:Ab (Ad × Cg)) (s:Ag) (σ : St) (H:Hp) (Q:Ap→Hp→Prop),Inv X pins σ H s→t σ H Q→Ao (As X.prog X.w) X.A (isTrue e X.env whole) (TP X pins σ Q) X.xe s
def PA (X:Cx)(es:Ab Bv)(t:TA):Prop:=
 ∀ (pos:EQ) (pins:Ab (Ad × Cg)) (s:Ag) (σ : St) (H:Hp) (Q:Ab V→Hp→Prop),Inv X pins σ H s→t σ H Q→Ao (As X.prog X.w) X.A (spliced (Gb pos (Br es X.env))) (AP X pins σ Q) X.xe s
def PS (X:Cx)(st:Ej)(t:TS):Prop:=
 ∀ (pins:Ab (Ad × Cg)) (s:Ag) (σ : St) (H:Hp) (D:Ends),Inv X pins σ H s→t D σ H→Ao (As X.prog X.w) X.A (exec st X.env) (SP X pins D) X.xe s
def PSs (X:Cx)(st:Ab Ej)(t:TS):Prop:=
 ∀ (pins:Ab (Ad × Cg)) (s:Ag) (σ : St) (H:Hp) (D:Ends),Inv X pins σ H s→t D σ H→Ao (As X.prog X.w) X.A (execs st X.env) (SP X pins D) X.xe s
def thn {α:Type}{t:Jm α}{Q Q':α→Ag→Prop}{A:Bt}{s:Ag}(h:Ao M A t Q E s)(hQ:∀ a s,Q a s→Q' a s):Ao M A t Q' E s:=Fv h hQ λ_ _ x=>x
end _L
namespace _L
open PySem PySem.Spec PyProof.Rows
variable {pins:Ab (Ad × Cg)}{u:Ac}{E Q:Ac→Ag→Prop}
section
variable {X:Cx}
def bin {a b:Bv}{ta tb:TE}(ha:PE X a ta)(hb:PE X b tb){pins:Ab (Ad × Cg)}{s:Ag}{σ : St}{H:Hp}{R:V→V→Hp→Prop}(I:Inv X pins σ H s)(h:ta σ H λx H1=>tb σ H1 λy H2=>R x y H2)
  {α:Type} {Q:α→Ag→Prop} {f:Ac→Ac→Jm α}
  (hf:∀ v u s2 x y H2,Inv X pins σ H2 s2→qO x v→qO y u→R x y H2→Ao (As X.prog X.w) X.A (f v u) Q X.xe s2) :
  Ao (As X.prog X.w) X.A (eval a X.env) (λv s₁=>Ao (As X.prog X.w) X.A (eval b X.env) (λu s₂=>Ao (As X.prog X.w) X.A (f v u) Q X.xe s₂) X.xe s₁) X.xe s:=by
 refine thn (ha pins s σ H _ I h) λv s1 ⟨x,H1,I1,r1,q1⟩=>?_;refine thn (hb pins s1 σ H1 _ I1 q1) λu s2 ⟨y,H2,I2,r2,q2⟩=>?_;exact hf v u s2 x y H2 I2 r1 r2 q2
def SI (i:Ah):TE:=λσ H Q=>∃ v,σ[i]? = Aa (Aa v)∧Q v H
def tC (v:V):TE:=λ_ H Q=>Q v H
def XM {i:Ah}{x:Ar}{pos:EQ}(hN:X.N[i]? = Aa x)(hv:Vis X.env.scope x)(hd:(x == ("__debug__" : Ar))=false:=by decide)(hcd:(x == ("__classdict__" : Ar))=false:=by decide):PE X (.Name x pos) (SI i):=by
 intro pins s σ H Q I h;obtain⟨v,e,h⟩:=h;obtain⟨m,hn,hl⟩:=I.loc;obtain⟨u,r,l⟩:=hl i x v hN e hv;have fin:EP X pins σ Q u s:=⟨v,H,I,r,h⟩;rcases l with⟨hk,hm⟩|⟨hk,c,hc,hcell⟩
 ·exact We (wpAny_loadName_local I.ok.kind hk hn hm fin) hd
 ·rcases hk with hk|hk
  ·exact We (wpAny_loadName_cell I.ok.kind hk hc hcell fin) hd
  ·exact We (wpAny_loadName_free I.ok.kind hk hc hcell fin hcd) hd
def LA:PE X (.Constant (.int i) j pos) (tC (.int i)):=λ_ _ _ H _ I h=>wpAny_Constant_int ⟨.int i,H,I.tok _,⟨_,rfl⟩,h⟩
def E8:PE X (.Constant (.bool b) j pos) (tC (.bl b)):=λ_ _ _ H _ I h=>Constant_bool ⟨.bl b,H,I,rfl,h⟩
def LB:PE X (.Constant .none j pos) (tC .non):=λ_ _ _ H _ I h=>Constant_none ⟨.non,H,I,rfl,h⟩
def LD:PE X (.Constant (.str x) j pos) (tC (.str x)):=λ_ _ _ H _ I h=>Calls.Constant_str ⟨.str x,H,I.tok _,⟨_,rfl⟩,h⟩
def Gl (X:Cx)(x:Ar):Prop:=X.env.kindOf x=Aa .globalImplicit
def j6 {s:Ag}{σ:St}{H:Hp}{x:Ar}{pos:EQ}(I:Inv X pins σ H s)(hg:Gl X x)(hm:X.mg x=Aa u)(h:Q u s)
  (hd:(x == ("__debug__" : Ar))=false:=by decide):Ao (As X.prog X.w) X.A (eval (.Name x pos) X.env) Q E s:=
 Ny I.ok.kind hg (Calls.loadGlobal_global (by rw[I.ok.glob];exact I.mod.glob.keeps I.bk) hm h) hd
def jL {s:Ag}{σ:St}{H:Hp}{x:Ar}{pos:EQ}(I:Inv X pins σ H s)(hg:Gl X x)(hm:X.mg x=none)(hv:Fy x=Aa u)(h:Q u s)
  (hn:x ≠ "__name__":=by decide) (hd:(x == ("__debug__" : Ar))=false:=by decide):Ao (As X.prog X.w) X.A (eval (.Name x pos) X.env) Q E s:=by
 obtain⟨mb,h1,h2⟩:=I.mod.blt;exact Ny I.ok.kind hg (Calls.loadGlobal_builtin (by rw[I.ok.glob];exact I.mod.glob.keeps I.bk) hm (by rw[I.ok.blt];exact h1.keeps I.bk) ((h2 x hn).trans hv) h) hd
def B5 {x:Ar}{v:V}{pos:EQ}(hg:Gl X x)(hm:X.mg x=Aa u)(r:qO v u)(hd:(x == ("__debug__" : Ar))=false:=by decide):PE X (.Name x pos) (tC v):=
 λ_ _ _ H _ I h=>j6 I hg hm ⟨v,H,I,r,h⟩ hd
def B4 {x:Ar}{v:V}{pos:EQ}(hg:Gl X x)(hm:X.mg x=none)(hv:Fy x=Aa u)(r:qO v u)(hn:x ≠ "__name__":=by decide)(hd:(x == ("__debug__" : Ar))=false:=by decide):PE X (.Name x pos) (tC v):=
 λ_ _ _ H _ I h=>jL I hg hm hv ⟨v,H,I,r,h⟩ hn hd
variable {a b:Bv}{ta tb:TE}{pos:EQ}
variable {tA tB':TT}{qK:Ab Bv}
def BE (ha:PT X a tA):PW X (.BoolOp .And [a] pos) tA:=by
 intro wh pins s σ H Q I h;refine isTrue_and (thn (ha pins s σ H Q I h) λc s1 e=>?_);cases c with
 |true=>exact isTrue_and_nil e
 |false=>exact e
def LW (ha:PT X a tA):PW X (.BoolOp .Or [a] pos) tA:=by
 intro wh pins s σ H Q I h;refine isTrue_or (thn (ha pins s σ H Q I h) λc s1 e=>?_);cases c with
 |false=>exact isTrue_or_nil e
 |true=>exact e
def LC {t:TE}(h:PE X a t):PE X (.BoolOp op [a] pos) t:=λpins s σ H Q I hw=>BoolOp_one (h pins s σ H Q I hw)
end
end _L
namespace _L
open PySem PySem.Spec PyProof.Rows
variable {es:Ab Bv}{K:Ak}{P:Bd}{tg:Bv}{w:Bw}
def SqL (K:Ak)(H:Hp)(a:Ad)(xs:Ab V):Prop:=
 Rd H a (.lst xs) ∨
  ∃ (o:Cg) (its:Av Ac) (n:Ah),K.lookup a=Aa o∧o.cls=.type "list" ∧ o.dict=none∧o.data=.seq its n∧its.size≤sizeLine∧qP xs its.toList
def SqT (K:Ak)(H:Hp)(a:Ad)(xs:Ab V):Prop:=
 Rd H a (.tup xs) ∨
  ∃ (o:Cg) (its:Av Ac) (n:Ah),K.lookup a=Aa o∧o.cls=.type "tuple" ∧ o.data=.seq its n∧its.size≤sizeLine∧qP xs its.toList
def HU:Ac→Al V
 |.none=>Aa .non
 |.bool b=>Aa (.bl b)
 |.int i _=>Aa (.int i)
 |.str x _=>Aa (.str x)
 |.bytes b _=>Aa (.byt b)
 |.float b _=>Aa (.flt b)
 |.ref a=>Aa (.ref a)
 |.type n=>Aa (.ty n)
 |_=>none
def qO.abs {x:V}{u:Ac}(r:qO x u):HU u=Aa x:=by
 cases x with
 |non=>cases r;rfl
 |bl _=>cases r;rfl
 |int _=>obtain⟨t,rfl⟩:=r;rfl
 |str _=>obtain⟨t,rfl⟩:=r;rfl
 |byt _=>obtain⟨t,rfl⟩:=r;rfl
 |flt _=>obtain⟨t,rfl⟩:=r;rfl
 |ref _=>cases r;rfl
 |ty _=>cases r;rfl
def qO.inj {x y:V}{u:Ac}(r:qO x u)(q:qO y u):x=y:=Co (r.abs.symm.trans q.abs)
def qP.inj {xs ys:Ab V}{us:Ab Ac}(h:qP xs us)(k:qP ys us):xs=ys:=by
 induction h generalizing ys with
 |nil=>cases k;rfl
 |cons r t ih =>
  cases k with
  |cons r' t'=>rw[r.inj r',ih t']
section
variable {X:Cx}{pins:Ab (Ad × Cg)}{σ : St}{H:Hp}{s:Ag}{a:Ad}{xs ys:Ab V}
def SqL.of (h:H a=Aa (.lst xs)):SqL K H a xs:=.inl (.inl h)
def SqT.of (h:H a=Aa (.tup xs)):SqT K H a xs:=.inl (.inl h)
def Inv.list (I:Inv X pins σ H s)(h:SqL X.K H a xs):∃ its:Ab Ac,qP xs its∧PlainL s.heap a its.toArray∧xs.length≤sizeLine:=by
 rcases h with h|⟨o,its,n,hk,hc,hd,hs,hz,r⟩
 ·obtain⟨z,its,n,r,e⟩:=h.ok I.hok
  exact⟨its,r,⟨_,n,e,rfl,rfl,rfl⟩,z⟩
 ·refine⟨its.toList,r,⟨o,n,I.kIn a o hk,hc,hd,by simpa using hs⟩,?_⟩
  have e:=r.length;simp only[Bh] at e;omega
def Inv.tuple (I:Inv X pins σ H s)(h:SqT X.K H a xs):∃ its:Ab Ac,qP xs its∧Tu s.heap a its.toArray∧xs.length≤sizeLine:=by
 rcases h with h|⟨o,its,n,hk,hc,hs,hz,r⟩
 ·obtain⟨z,its,r,p⟩:=h.ok I.hok
  exact⟨its,r,p,z⟩
 ·refine⟨its.toList,r,⟨o,I.kIn a o hk,hc,n,by simpa using hs⟩,?_⟩
  have e:=r.length;simp only[Bh] at e;omega
def Inv.list_inj (I:Inv X pins σ H s)(h:SqL X.K H a xs)(h':SqL X.K H a ys):xs=ys:=by
 obtain⟨its,r,⟨o,n,e,_,_,d⟩,_⟩:=I.list h;obtain⟨its',r',⟨o',n',e',_,_,d'⟩,_⟩:=I.list h';rw[e] at e';cases e';rw[d] at d';injection d' with d1 _
 have:its=its':=by simpa using congrArg Xl d1
 subst this;exact r.inj r'
def Inv.tuple_inj (I:Inv X pins σ H s)(h:SqT X.K H a xs)(h':SqT X.K H a ys):xs=ys:=by
 obtain⟨its,r,⟨o,e,_,n,d⟩,_⟩:=I.tuple h;obtain⟨its',r',⟨o',e',_,n',d'⟩,_⟩:=I.tuple h';rw[e] at e';cases e';rw[d] at d';injection d' with d1 _
 have:its=its':=by simpa using congrArg Xl d1
 subst this;exact r.inj r'
end
abbrev Cx.wish (X:Cx)(E:Ac→Ag→Prop):Cx:={ X with xe:=E }
abbrev Cx.nox (X:Cx):Cx:=X.wish λ_ _=>Fa
def Cx.Ok.wish {X:Cx}(ok:X.Ok)(E:Ac→Ag→Prop):(X.wish E).Ok:=
 ⟨ok.mod,ok.kind,ok.glob,ok.blt,ok.above,ok.inj,ok.has,ok.cab,ok.hd,ok.frames,ok.stk,ok.exf,ok.bs,ok.bsz,ok.noex,ok.exfs,ok.funs,ok.frf⟩
def Cx.Ok.unwish {X:Cx}{E:Ac→Ag→Prop}(ok:(X.wish E).Ok):X.Ok:=
 ⟨ok.mod,ok.kind,ok.glob,ok.blt,ok.above,ok.inj,ok.has,ok.cab,ok.hd,ok.frames,ok.stk,ok.exf,ok.bs,ok.bsz,ok.noex,ok.exfs,ok.funs,ok.frf⟩
section
variable {X:Cx}{pins:Ab (Ad × Cg)}{σ : St}{H:Hp}{s:Ag}{E:Ac→Ag→Prop}
def Inv.wish (I:Inv X pins σ H s)(E:Ac→Ag→Prop):Inv (X.wish E) pins σ H s:=⟨I.ok.wish E,I.os,I.bare,I.base,I.loc,I.cell,I.free,I.freeC,I.pin,I.hok,I.len⟩
def Inv.unwish (I:Inv (X.wish E) pins σ H s):Inv X pins σ H s:=⟨I.ok.unwish,I.os,I.bare,I.base,I.loc,I.cell,I.free,I.freeC,I.pin,I.hok,I.len⟩
def SP.unwish {D:Ends}{f:Flow}{s':Ag}(h:SP (X.wish E) pins D f s'):SP X pins D f s':=by
 cases f with
 |next=>obtain⟨σ',H',I,q⟩:=h;exact⟨σ',H',I.unwish,q⟩
 |brk=>obtain⟨σ',H',I,q⟩:=h;exact⟨σ',H',I.unwish,q⟩
 |cont=>obtain⟨σ',H',I,q⟩:=h;exact⟨σ',H',I.unwish,q⟩
 |ret u=>obtain⟨v,σ',H',I,r,q⟩:=h;exact⟨v,σ',H',I.unwish,r,q⟩
def PE.nox {e:Bv}{t:TE}(h:PE X.nox e t):PE X e t:=λpins s σ H Q I hw =>
 Fv (h pins s σ H Q (I.wish _) hw) (λ_ _ ⟨v,H',I',r,q⟩=>⟨v,H',I'.unwish,r,q⟩) λ_ _ z=>An z
def PT.nox {e:Bv}{t:TT}(h:PT X.nox e t):PT X e t:=λpins s σ H Q I hw =>
 Fv (h pins s σ H Q (I.wish _) hw) (λ_ _ ⟨H',I',q⟩=>⟨H',I'.unwish,q⟩) λ_ _ z=>An z
def PSs.nox {st:Ab Ej}{t:TS}(h:PSs X.nox st t):PSs X st t:=λpins s σ H D I hw =>
 Fv (h pins s σ H D (I.wish _) hw) (λ_ _ q=>q.unwish) λ_ _ z=>An z
end
section
variable {X:Cx}{st:Ej}{qK:Ab Ej}{t u:TS}{e:Bv}{te:TE}{pos:EQ}
def EZ:TS:=λD σ H=>D.nx σ H
def AE (t u:TS):TS:=λD σ H=>t { D with nx:=u D } σ H
def BC:PSs X [] EZ:=λ_ _ σ H _ I h=>Jw ⟨σ,H,I,h⟩
def U4 (h1:PS X st t)(h2:PSs X qK u):PSs X (st::qK) (AE t u):=by
 intro pins s σ H D I h;refine Ut (thn (h1 pins s σ H { D with nx:=u D } I h) λf s1 q=>?_)
 cases f with
 |next =>
  obtain⟨σ',H',I',q⟩:=q;exact h2 pins s1 σ' H' D I' q
 |ret v=>exact q
 |brk=>exact q
 |cont=>exact q
def BD (h1:PS X st t):PSs X [st] t:=by
 intro pins s σ H D I h;refine Ut (thn (h1 pins s σ H D I h) λf s1 q=>?_);cases f with
 |next=>exact Jw q
 |ret v=>exact q
 |brk=>exact q
 |cont=>exact q
def Inv.quiet {pins:Ab (Ad × Cg)}{σ:St}{H:Hp}{s:Ag}(I:Inv X pins σ H s):interactive X.env=false:=by simp[interactive,I.ok.kind]
end
abbrev TG:=V→St→Hp→(St→Hp→Prop)→Prop
abbrev TGs:=Ab V→St→Hp→(St→Hp→Prop)→Prop
def PG (X:Cx)(target:Bv)(t:TG):Prop:=
 ∀ (pins:Ab (Ad × Cg)) (s:Ag) (σ : St) (H:Hp) (v:V) (u:Ac) (Q:St→Hp→Prop),Inv X pins σ H s→qO v u→t v σ H Q →
  Ao (As X.prog X.w) X.A (assign target X.env u) (λ_ s'=>∃ σ' H',Inv X pins σ' H' s'∧Q σ' H') X.xe s
def PGs (X:Cx)(ts:Ab Bv)(t:TGs):Prop:=
 ∀ (pins:Ab (Ad × Cg)) (s:Ag) (σ : St) (H:Hp) (vs:Ab V) (us:Ab Ac) (Q:St→Hp→Prop),Inv X pins σ H s→qP vs us→t vs σ H Q →
  Ao (As X.prog X.w) X.A (Rr ((Ge ts X.env).map (·.2)) us) (λ_ s'=>∃ σ' H',Inv X pins σ' H' s'∧Q σ' H') X.xe s
abbrev WZ:=V→V→V→Hp→(Hp→Prop)→Prop
def sQ (X:Cx)(t:WZ):Prop:=
 ∀ (pins:Ab (Ad × Cg)) (s:Ag) (σ : St) (H:Hp) (o i v:V) (ov iv u:Ac) (Q:Hp→Prop),Inv X pins σ H s→qO o ov→qO i iv→qO v u→t o i v H Q →
  Ao (As X.prog X.w) X.A (WF ov iv u) (λ_ s'=>∃ H',Inv X pins σ H' s'∧Q H') X.xe s
section
variable {X:Cx}{pos:EQ}
def RN (i:Ah):TG:=λv σ H Q=>Q (σ.set i (Aa v)) H
def B7 {i:Ah}{x:Ar}(hN:X.N.Nodup)(hi:X.N[i]? = Aa x)(hx:Loc X.env.scope x)(hf:X.fn x=true∨X.env.scope.names.lookup x=Aa .local:=by first|exact .inl rfl|exact .inr rfl|assumption):PG X (.Name x pos) (RN i):=by
 intro pins s σ H v u Q I r h;exact Tv (jU I hN hi hx r (λs' I'=>⟨_,H,I',h⟩) hf)
def CL:TGs:=λvs σ H Q=>vs=[]∧Q σ H
def RL (t:TG)(u:TGs):TGs:=λvs σ H Q=>∃ v r,vs=v::r∧t v σ H λσ' H'=>u r σ' H' Q
def B8:PGs X [] CL:=by
 intro pins s σ H vs us Q I r h;obtain⟨e,h⟩:=h;subst e;cases r;exact Tw ⟨σ,H,I,h⟩
def U1 {e:Bv}{t:TG}{u:TGs}(h1:PG X e t)(h2:PGs X es u)
  (hs:(Ge (e::es) X.env).map (·.2)=assign e X.env::(Ge es X.env).map (·.2):=by rfl):PGs X (e::es) (RL t u):=by
 intro pins s σ H vs us Q I r h;obtain⟨v,vr,e1,h⟩:=h;subst e1;cases r with
 |cons r rr =>
  rw[hs];refine Nr (thn (h1 pins s σ H _ _ _ I r h) λ_ s1 ⟨σ1,H1,I1,q1⟩=>?_);exact h2 pins s1 σ1 H1 _ _ Q I1 rr q1
def CM (K:Ak)(n:Ah)(t:TGs):TG:=λv σ H Q=>∃ a xs,v=.ref a∧SqT K H a xs∧xs.length=n∧t xs σ H Q
def LH {k:Ah}{t:TGs}{n:Ah}(hc:X.calm=true)(h:PGs X es t)
  (hn:(Ge es X.env).length=n:=by rfl) (hst:(Ge es X.env).findIdx? (·.1)=none:=by rfl):PG X (.Tuple es k pos) (CM X.K n t):=by
 intro pins s σ H v u Q I r hw;obtain⟨a,xs,e1,hq,hl,hw⟩:=hw;subst e1;cases r;obtain⟨its,rv,ht,hz⟩:=I.tuple hq;refine assign_Tuple_tuple (I.ok.hd hc) ht (by simp[hn,← hl,rv.length]) hst λh' hx=>?_
 have I1:Inv X pins σ H { s with heap:=h' }:=I.kept (t':=s.toks) λb o e=>hx b o (Cc (Au e)) e
 exact h pins _ σ H xs _ Q I1 (by simpa using rv) hw
def zJ (to ti:TE)(t:WZ):TG:=λv σ H Q=>to σ H λo H1=>ti σ H1 λi H2=>t o i v H2 λH3=>Q σ H3
def AD (i j:Ah)(ta:TA):TS:=λD σ H=>ta σ H λvs H1=>∃ v w,vs=[v,w]∧D.nx ((σ.set i (Aa v)).set j (Aa w)) H1
def LS {i j:Ah}{x y:Ar}{a b:Bv}{ta:TA}{px py pt:EQ} {kt k2 pt2} (hc:X.calm=true) (hN:X.N.Nodup) (hi:X.N[i]? = Aa x) (hj:X.N[j]? = Aa y) (hij:i≠j)
  (hx:X.env.scope.names.lookup x=Aa .local) (hy:X.env.scope.names.lookup y=Aa .local) (ha:PA X [a,b] ta)
  (hw:Jn [.Tuple [.Name x px,.Name y py] kt pt] (.Tuple [a,b] k2 pt2) X.env=pure (Aa [x,y]))
  (hs:Jo [.Tuple [.Name x px,.Name y py] kt pt] (.Tuple [a,b] k2 pt2) pos.line X.env=pure false:=by rfl) :
  PS X (.Assign [.Tuple [.Name x px,.Name y py] kt pt] (.Tuple [a,b] k2 pt2) pos) (AD i j ta):=by
 intro pins s σ H D I h;rw[exec_Assign_arm];refine Af (Os ?_);rw[hs];refine Af (Am ?_);rw[Bc (by decide)]
 refine Af (Tuple_ (thn (ha _ pins s σ H _ I h) λus s1 ⟨vs,H1,I1,r1,q1⟩=>?_));obtain⟨v,w,e1,q1⟩:=q1;subst e1;obtain⟨u1,u2,rfl,rv,rw'⟩:∃ u1 u2,us=[u1,u2]∧qO v u1∧qO w u2:=by
  cases r1 with
  |cons p q =>
   cases q with
   |cons p' q' =>
    cases q';exact⟨_,_,rfl,p,p'⟩
 refine Ek ?_ (by show 2≤sizeLine;decide)
 have I2:Inv X pins σ H1 { s1 with heap:=s1.heap.push { cls:=.type "tuple",data:=.seq [u1,u2].toArray } }:=I1.kept (t':=s1.toks) λb o e=>Aj _ e
 rw[hw];refine Af (Am ?_);show Ao (As X.prog X.w) X.A (do rule "assign.swapped-stores";let items ← unpackItems (.ref s1.heap.objs.size) 2 none;Rr [λv=>So X.env y v,λv=>So X.env x v] items.reverse;pure Flow.next) _ _ _
 refine Af (Hb (Af (unpackItems_tuple (items:=#[u1,u2]) (I.ok.hd hc) (Tx s1.heap _) λh' hx'=>?_)));have I3:=I2.kept (h':=h') (t':=s1.toks) λb o e=>hx' b o (Cc (Au e)) e;show Ao _ _ (Rr [λv=>So X.env y v,λv=>So X.env x v] [u2,u1] >>= λ_=>pure Flow.next) _ _ _;refine Af (Nr (wpAny_bindName (jU I3 hN hj (.inl hy) rw' (λs2 I4=>?_) (.inr hy))));refine Nr (wpAny_bindName (jU I4 hN hi (.inl hx) rv (λs3 I5=>Tw (Am ?_)) (.inr hx)));rw[List.set_comm _ _ (Fu hij)] at I5;exact⟨_,H1,I5,q1⟩
end
section
variable {X:Cx}{pos:EQ}
def SJ (c:TT)(tb:TS):TS:=λD σ H=>∃ W:Ah→St→Hp→Prop,(∃ m,W m σ H)∧∀ m σ H,W m σ H →
 c σ H λb H1=>if b=true then ∃ N:St→Hp→Prop,(∀ σ' H',N σ' H'→∃ m',m'<m∧W m' σ' H')∧tb { D with nx:=N,ct:=N,bk:=D.nx } σ H1 else D.nx σ H1
def U3 {c:Bv}{body:Ab Ej}{tc:TT}{tb:TS}(hp:Mi (As X.prog X.w) X.A X.env X.xe)(hc:PT X c tc)(hb:PSs X body tb):PS X (.While c body [] pos) (SJ tc tb):=by
 intro pins s σ H D I h;obtain⟨W,⟨m0,w0⟩,turn⟩:=h;refine wpAny_While (codeAny_whileLoop (λn s'=>∃ σ' H',Inv X pins σ' H' s'∧W n σ' H') ?_ m0 ⟨σ,H,I,w0⟩);rintro n s1 ⟨σ1,H1,I1,w1⟩;refine HT hp (thn (hc pins s1 σ1 H1 _ I1 (turn n σ1 H1 w1)) λb s2 ⟨H2,I2,q2⟩=>?_);cases b with
 |true =>
  obtain⟨N,hN,q2⟩:=q2;rw[Bg rfl];refine HT hp (thn (hb pins s2 σ1 H2 _ I2 q2) λf s3 q3=>?_);cases f with
  |next =>
   obtain⟨σ3,H3,I3,n3⟩:=q3;obtain⟨m',hm,w3⟩:=hN σ3 H3 n3;exact⟨m',hm,σ3,H3,I3,w3⟩
  |cont =>
   obtain⟨σ3,H3,I3,n3⟩:=q3;obtain⟨m',hm,w3⟩:=hN σ3 H3 n3;exact⟨m',hm,σ3,H3,I3,w3⟩
  |brk=>exact q3
  |ret v=>exact q3
 |false =>
  rw[Bc Ea];exact Jw ⟨σ1,H2,I2,q2⟩
end
structure It where
 go:Ah→Hp→Prop
 yld:Ah→Hp→V→Hp→Prop
 stop:Ah→Hp→Prop
def xY (X:Cx)(pins:Ab (Ad × Cg))(H:Hp)(b:Ad):Prop:=
 H b=none∧b≠X.env.locals∧b ∉ X.fs∧(b∈X.ex∨X.s₀.heap.objs.size≤b)∧(∀ x c,X.env.cells.lookup x=Aa c→c≠b)∧∀ p∈X.pn++pins,p.1≠b
def Inv.fpOk {X:Cx}{pins:Ab (Ad × Cg)}{σ:St}{H H':Hp}{s:Ag}{b:Ad}(I:Inv X pins σ H s)(hb:s.heap.objs.size≤b)(hn:H' b=none):xY X pins H' b:=by
 refine⟨hn,Gq (Ba I.lt hb),I.nofs hb,.inr (Eb I.sz hb),λx c e z=>?_,λp hp z=>?_⟩
 ·obtain⟨v,q⟩:=I.cell x c e
  exact absurd (Ba q.lt (by rw[z];exact hb)) (Ei _)
 ·exact absurd (Ba (Au (I.pin p hp).1) (by rw[z];exact hb)) (Ei _)
structure Turn (P:Bd)(w:Bw)(K:Ak)(tg:Bv)(J:It)(fp:Ab Ad)(it:Ad)(tn:Ah→Bm→Prop):Prop where
 mem:it∈fp
 obj:∀ i h,tn i h→∀ b∈fp,∃ o,h.get? b=Aa o∧∀ v,o.data≠.cell v
 keep:∀ i h h',tn i h→(∀ b∈fp,∀ o,h.get? b=Aa o→h'.get? b=Aa o)→tn i h'
 item:∀ (X:Cx),X.prog=P→X.w=w→X.K=K→X.calm=true→∀ (i:Ah) (pins:Ab (Ad × Cg)) (s:Ag) (σ : St) (H:Hp) (E:Ac→Ag→Prop),Inv X pins σ H s→(∀ b∈fp,xY X pins H b)→tn i s.heap→J.go i H →
  Ao (As P w) X.A (Mu (.ref it)) (λr s1=>∃ u,r=Aa u ∧
   Ao (As P w) X.A (IM tg (.ref it) u) (λ_ s2=>∃ x H',Inv X pins σ H' s2∧qO x u∧J.yld i H x H'∧tn (i+1) s2.heap∧∀ b∈fp,H' b=none) E s1) E s
 done:∀ (X:Cx),X.prog=P→X.w=w→X.K=K→X.calm=true→∀ (i:Ah) (pins:Ab (Ad × Cg)) (s:Ag) (σ : St) (H:Hp) (E:Ac→Ag→Prop),Inv X pins σ H s→(∀ b∈fp,xY X pins H b)→tn i s.heap→J.stop i H →
  Ao (As P w) X.A (Mu (.ref it)) (λr s1=>r=none∧Inv X pins σ H s1) E s
 self:∀ (A:Bt) (i:Ah) (s:Ag) (Q:Ac→Ag→Prop) (E:Ac→Ag→Prop),tn i s.heap→Q (.ref it) s→Ao (As P w) A (Nz (.ref it)) Q E s
abbrev TI:=St→Hp→(It→Hp→Prop)→Prop
inductive PIE (X:Cx)(pins:Ab (Ad × Cg))(σ : St)(tg:Bv)(R:It→Hp→Prop)(itv:Ac)(s2:Ag):Prop
 |mk (it:Ad) (fp:Ab Ad) (tn:Ah→Bm→Prop) (J:It) (H':Hp) (e:itv=.ref it) (I:Inv X pins σ H' s2) (t:Turn X.prog X.w X.K tg J fp it tn) (z:tn 0 s2.heap) (f:∀ b∈fp,xY X pins H' b) (q:R J H'):PIE X pins σ tg R itv s2
def PI (X:Cx)(tg iter:Bv)(wi:TI):Prop:=
 ∀ (pins:Ab (Ad × Cg)) (s:Ag) (σ : St) (H:Hp) (R:It→Hp→Prop),Inv X pins σ H s→wi σ H R →
  Ao (As X.prog X.w) X.A (eval iter X.env) (λv s1=>Ao (As X.prog X.w) X.A (Nz v) (PIE X pins σ tg R) X.xe s1) X.xe s
def oQ {M:Ji}{A:Bt}{E:Ac→Ag→Prop}{s:Ag}{it:Ad}{u:Ac}{o:Cg}{n:Do}{vs:Av Ac}{Q:OO→Ag→Prop}(ho:s.heap.get? it=Aa o)(hc:o.cls=.type n)(hd:o.data=.fields vs)
    (hn:["enumerate","zip","dict_itemiterator","dict_reverseitemiterator","odict_iterator","itertools.zip_longest","itertools.pairwise"].contains n=false) (hQ:Q () s):Ao M A (IM tg (.ref it) u) Q E s:=by
  unfold IM;cases tg <;> first
    |exact Am hQ
    |(cases u <;> first
        |exact Am hQ
        | (refine Af (wpAny_load ho ?_)
           rw[hc,hd];show Ao M A (if (["enumerate","zip","dict_itemiterator","dict_reverseitemiterator","odict_iterator","itertools.zip_longest","itertools.pairwise"].contains n&&vs[0]? == Aa (Gg _))=true then _ else _) Q E s
           rw[Bc (by intro h;rw[hn,Jc] at h;cases h)]
           exact Am hQ))
def Itl (K:Ak)(a:Ad):It:=
 ⟨λi H=>∃ xs x,SqL K H a xs∧xs[i]? = Aa x,λi H x H'=>H'=H∧∀ xs,SqL K H a xs→xs[i]? = Aa x,λi H=>∃ xs,SqL K H a xs∧xs.length≤i⟩
def Itt (K:Ak)(a:Ad):It:=
 ⟨λi H=>∃ xs x,SqT K H a xs∧xs[i]? = Aa x,λi H x H'=>H'=H∧∀ xs,SqT K H a xs→xs[i]? = Aa x,λi H=>∃ xs,SqT K H a xs∧xs.length≤i⟩
def Itr (lo:Ai)(n:Ah):It:=⟨λi _=>i<n,λi H x H'=>H'=H∧x=.int (lo+i),λi _=>n≤i⟩
def dS (a it:Ad):Turn P w K tg (Itl K a) [it] it (λi h=>h.IsListIter it a i) where
 mem:=by simp
 obj:=λi h st b hb=>by
  have e:b=it:=by simpa using hb
  subst e;obtain⟨o,e,c,d⟩:=st;exact⟨o,e,λv z=>by rw[d] at z;cases z⟩
 keep:=λi h h' st k=>st.at λo e=>k it (by simp) o e
 item:=by
  intro X hP hw hK hc i pins s σ H E I hf st hg;subst hP hw hK;obtain⟨xs,x,hq,hx⟩:=hg;obtain⟨its,rv,p,hz⟩:=I.list hq;obtain⟨u,hu,ru⟩:=rv.get hx;obtain⟨f0,f1,f2,f3,f4,f5⟩:=hf it (by simp)
  refine wpAny_pyNext_list_item st p.isList (x:=u) (by simpa using hu) λh' st' sb=>?_
  have I1:Inv X pins σ H { s with heap:=h' }:=I.turned (t':=s.toks) (λb o hb e=>(sb.2 b hb).trans e) f0 f1 f3 f4 f5
  obtain⟨o,e,c,d⟩:=id st';exact⟨u,rfl,oQ (s:={ s with heap:=h' }) e c d (by decide) ⟨x,H,I1,ru,⟨rfl,λys hy=>by rw[I.list_inj hy hq];exact hx⟩,st',λb hb=>(hf b hb).1⟩⟩
 done:=by
  intro X hP hw hK hc i pins s σ H E I hf st hg;subst hP hw hK;obtain⟨xs,hq,hx⟩:=hg;obtain⟨its,rv,p,hz⟩:=I.list hq;obtain⟨f0,f1,f2,f3,f4,f5⟩:=hf it (by simp)
  have hl:=rv.length;exact wpAny_pyNext_list_end (I.ok.hd hc) st p.isList (by simp;omega) λh' eb=>⟨rfl,I.turned (t':=s.toks) (λb o hb e=>eb b o hb e) f0 f1 f3 f4 f5⟩
 self:=λ_ _ _ _ _ st h=>wpAny_pyIter_listiter st h
def QL (a it:Ad):Turn P w K tg (Itt K a) [it] it (λi h=>h.IsTupleIter it a i) where
 mem:=by simp
 obj:=λi h st b hb=>by
  have e:b=it:=by simpa using hb
  subst e;obtain⟨o,e,c,d⟩:=st;exact⟨o,e,λv z=>by rw[d] at z;cases z⟩
 keep:=λi h h' st k=>st.at λo e=>k it (by simp) o e
 item:=by
  intro X hP hw hK hc i pins s σ H E I hf st hg;subst hP hw hK;obtain⟨xs,x,hq,hx⟩:=hg;obtain⟨its,rv,p,hz⟩:=I.tuple hq;obtain⟨u,hu,ru⟩:=rv.get hx;obtain⟨f0,f1,f2,f3,f4,f5⟩:=hf it (by simp)
  refine wpAny_pyNext_tuple_item st (show s.heap.IsTuple a its.toArray from p) (x:=u) (by simpa using hu) λh' st' sb=>?_
  have I1:Inv X pins σ H { s with heap:=h' }:=I.turned (t':=s.toks) (λb o hb e=>(sb.2 b hb).trans e) f0 f1 f3 f4 f5
  obtain⟨o,e,c,d⟩:=id st';exact⟨u,rfl,oQ (s:={ s with heap:=h' }) e c d (by decide) ⟨x,H,I1,ru,⟨rfl,λys hy=>by rw[I.tuple_inj hy hq];exact hx⟩,st',λb hb=>(hf b hb).1⟩⟩
 done:=by
  intro X hP hw hK hc i pins s σ H E I hf st hg;subst hP hw hK;obtain⟨xs,hq,hx⟩:=hg;obtain⟨its,rv,p,hz⟩:=I.tuple hq;obtain⟨f0,f1,f2,f3,f4,f5⟩:=hf it (by simp)
  have hl:=rv.length;exact wpAny_pyNext_tuple_end (I.ok.hd hc) st (show s.heap.IsTuple a its.toArray from p) (by simp;omega) λh' eb=>⟨rfl,I.turned (t':=s.toks) (λb o hb e=>eb b o hb e) f0 f1 f3 f4 f5⟩
 self:=λ_ _ _ _ _ st h=>wpAny_pyIter_tupleiter st h
def QH (it:Ad)(lo:Ai)(n:Ah):Turn P w K tg (Itr lo n) [it] it (λi h=>IsRangeIter h it (lo+(i:Ah)*1) ((n:Ai)-(i:Ah)) 1) where
 mem:=by simp
 obj:=λi h st b hb=>by
  have e:b=it:=by simpa using hb
  subst e;exact⟨_,st,λv z=>by
   have z':Data.fields _=Data.cell v:=z;cases z'⟩
 keep:=λi h h' st k=>k it (by simp) _ st
 item:=by
  intro X hP hw hK hc i pins s σ H E I hf st hg;subst hP hw hK;obtain⟨f0,f1,f2,f3,f4,f5⟩:=hf it (by simp)
  have W:=Walks.range (prog:=X.prog) (w:=X.w) (I.ok.hd hc) it lo 1 n;refine W.item i s _ _ hg st λv h' tk hv st' kk=>?_;obtain⟨t,rfl⟩:=hv;have I1:Inv X pins σ H { s with heap:=h',toks:=tk }:=I.turned (λb o hb e=>kk b o (by simpa using hb) e) f0 f1 f3 f4 f5
  refine⟨_,rfl,oQ (s:={ s with heap:=h',toks:=tk }) (n:="range_iterator") st' rfl rfl (by decide) ⟨.int (lo+i),H,I1,⟨t,?_⟩,⟨rfl,rfl⟩,st',λb hb=>(hf b hb).1⟩⟩
  rw[Int.mul_one]
 done:=by
  intro X hP hw hK hc i pins s σ H E I hf st hg;subst hP hw hK;obtain⟨f0,f1,f2,f3,f4,f5⟩:=hf it (by simp)
  exact wpAny_pyNext_range_end (I.ok.hd hc) st (by have:n≤i:=hg;omega) λh' eb=>⟨rfl,I.turned (t':=s.toks) (λb o hb e=>eb b o hb e) f0 f1 f3 f4 f5⟩
 self:=λ_ _ _ _ _ st h=>wpAny_pyIter_rangeiter st h
end _L
namespace _L
open PySem PySem.Spec PyProof.Rows
variable {pins:Ab (Ad × Cg)}{fp:Ab Ad}{s:Ag}{H:Hp}{σ:St}
section
variable {X:Cx}{tg:Bv}
def eW {R:It→Hp→Prop}{E:Ac→Ag→Prop}{lo hi:Ai}{t u v:Su}{tk:Ah}(I:Inv X pins σ H s)(h1 : -(2 ^ 62)≤lo)(h2:lo<2 ^ 62)(h3 : -(2 ^ 62)≤hi)(h4:hi<2 ^ 62)
  (q:R (Itr lo (hi-lo).toNat) H):Ao (As X.prog X.w) X.A (Nz (.ref s.heap.objs.size)) (PIE X pins σ tg R) E { s with heap:=s.heap.push { cls:=.type "range",data:=.fields #[.int lo t,.int hi u,.int 1 v] },toks:=tk }:=by
 refine wpAny_pyIter_range (IsRange.new ..) (small_one h1 h2 h3 h4) ?_;have I1:Inv X pins σ H { s with heap:=s.heap.push { cls:=.type "range",data:=.fields #[.int lo t,.int hi u,.int 1 v] },toks:=tk }:=I.kept λb o e=>Aj _ e
 refine⟨(s.heap.push { cls:=.type "range",data:=.fields #[.int lo t,.int hi u,.int 1 v] }).objs.size,[(s.heap.push { cls:=.type "range",data:=.fields #[.int lo t,.int hi u,.int 1 v] }).objs.size],_,_,H,rfl,
  I1.kept (t':=tk) λb o e=>Aj _ e,QH _ lo (hi-lo).toNat,?_,λb hb=>?_,q⟩
 ·have e1:lo+((0:Ah):Ai)*1=lo:=by simp
  have e2:(((hi-lo).toNat:Ah):Ai)-((0:Ah):Ai)=Xm lo hi 1:=by rw[rangeSize_one];split <;> omega
  show IsRangeIter _ _ (lo+((0:Ah):Ai)*1) ((((hi-lo).toNat:Ah):Ai)-((0:Ah):Ai)) 1;rw[e1,e2];exact Bi _ rfl
 ·have e:b=(s.heap.push { cls:=.type "range",data:=.fields #[.int lo t,.int hi u,.int 1 v] }).objs.size:=by simpa using hb
  subst e;exact I1.fpOk (Ax _) (I1.hok.fresh (Ax _))
def AA (wi:TI)(g:TG)(tb:TS):TS:=λD σ H=>wi σ H λJ H1=>∃ W:Ah→Ah→St→Hp→Prop,(∃ m,W 0 m σ H1)∧∀ i m σ H,W i m σ H →
 (J.stop i H∧D.nx σ H)∨(J.go i H∧∃ N:St→Hp→Prop,(∀ σ' H',N σ' H'→∃ m',m'<m∧W (i+1) m' σ' H')∧∀ x H',J.yld i H x H'→g x σ H' λσ2 H2=>tb { D with nx:=N,ct:=N,bk:=D.nx } σ2 H2)
def vQ (fp:Ab Ad)(h:Bm):Ab (Ad × Cg):=fp.filterMap λb=>(h.get? b).map λo=>(b,o)
def uT {h:Bm}{b:Ad}{o:Cg}(hb:b∈fp)(e:h.get? b=Aa o):(b,o)∈vQ fp h:=Hv.mpr ⟨b,hb,by rw[e];rfl⟩
def dF {h:Bm}{p:Ad × Cg}(hp:p∈vQ fp h):p.1∈fp∧h.get? p.1=Aa p.2:=by
 obtain⟨b,hb,e⟩:=Hv.mp hp;cases q:h.get? b with
 |none=>rw[q] at e;cases e
 |some o =>
  rw[q] at e;have e':(b,o)=p:=Co e;subst e';exact⟨hb,q⟩
def Inv.pinned (I:Inv X pins σ H s)(hf:∀ b∈fp,xY X pins H b)(ho:∀ b∈fp,∃ o,s.heap.get? b=Aa o∧∀ v,o.data≠.cell v):Inv X (pins++vQ fp s.heap) σ H s:=
 I.pins_of λp hp=>(Cp.mp hp).elim (λz=>I.pin p (Ca _ z)) λz=>by
  obtain⟨hb,e⟩:=dF z;obtain⟨f0,f1,f2,_⟩:=hf p.1 hb;obtain⟨o,e',d⟩:=ho p.1 hb;rw[e] at e';cases e';exact⟨e,f0,f1,f2,d⟩
def Inv.unpinned {pl:Ab (Ad × Cg)}(I:Inv X (pins++pl) σ H s):Inv X pins σ H s:=I.pins_of λp hp=>I.pin p (Ca _ (Dg _ hp))
inductive ForI (X:Cx)(pins:Ab (Ad × Cg))(fp:Ab Ad)(tn:Ah→Bm→Prop)(W:Ah→Ah→St→Hp→Prop)(n:Ah)(s':Ag):Prop
 |mk (i:Ah) (σ' : St) (H':Hp) (I:Inv X pins σ' H' s') (t:tn i s'.heap) (f:∀ b∈fp,H' b=none) (w:W i n σ' H'):ForI X pins fp tn W n s'
def LR {iter:Bv}{body:Ab Ej}{wi:TI}{g:TG}{tb:TS}{pos:EQ}(hp:Mi (As X.prog X.w) X.A X.env X.xe)(hc:X.calm=true)(hi:PI X tg iter wi)(hg:PG X tg g)(hb:PSs X body tb)
  (hs:∀ x,Fh iter X.env x=pure x:=by intro _;rfl):PS X (.For tg iter body [] pos) (AA wi g tb):=by
 intro pins s σ H D I h;refine wpAny_For (thn (hi pins s σ H _ I h) λv s1 h1=>thn h1 λitv s2 h2=>?_) hs;obtain⟨it,fp,tn,J,H2,e,I2,T,st2,f2,W,⟨m0,w0⟩,turn⟩:=h2;subst e;have stat:∀ {H':Hp},(∀ b∈fp,H' b=none)→∀ b∈fp,xY X pins H' b:=λhn b hb=>⟨hn b hb,(f2 b hb).2⟩;refine codeAny_forLoop_any (ForI X pins fp tn W) ?_ m0 ⟨0,σ,H2,I2,st2,λb hb=>(f2 b hb).1,w0⟩;rintro n s3 ⟨i,σ3,H3,I3,st3,fr3,w3⟩;rcases turn i n σ3 H3 w3 with⟨stop,qn⟩|⟨go,N,hN,step⟩
 ·refine HT hp (thn (T.done X rfl rfl rfl hc i pins s3 σ3 H3 X.xe I3 (stat fr3) st3 stop) λr s4 ⟨hr,I4⟩=>?_)
  subst hr;exact Jw ⟨σ3,H3,I4,qn⟩
 ·refine HT hp (thn (T.item X rfl rfl rfl hc i pins s3 σ3 H3 X.xe I3 (stat fr3) st3 go) λr s4 ⟨u,hr,h4⟩=>?_)
  subst hr;refine HT hp (thn h4 λ_ s5 ⟨x,H5,I5,r5,y5,st5,fr5⟩=>?_);have I5':=I5.pinned (stat fr5) (T.obj _ _ st5);refine HT hp (thn (hg _ s5 σ3 H5 x u _ I5' r5 (step x H5 y5)) λ_ s6 ⟨σ6,H6,I6,q6⟩=>?_);refine HT hp (thn (hb _ s6 σ6 H6 _ I6 q6) λf s7 q7=>?_);have again:∀ {σ7:St} {H7:Hp},Inv X (pins++vQ fp s5.heap) σ7 H7 s7→N σ7 H7→∃ m,m<n∧ForI X pins fp tn W m s7:=λ{σ7 H7} I7 n7=>by
   obtain⟨m',hm,w7⟩:=hN σ7 H7 n7;refine⟨m',hm,i+1,σ7,H7,I7.unpinned,T.keep _ _ _ st5 λb hb o e=>(I7.pin (b,o) (Ca _ (Ca _ (uT hb e)))).1,λb hb=>?_,w7⟩;obtain⟨o,e,d⟩:=T.obj _ _ st5 b hb;exact(I7.pin (b,o) (Ca _ (Ca _ (uT hb e)))).2.1
  cases f with
  |next=>obtain⟨σ7,H7,I7,n7⟩:=q7;exact again I7 n7
  |cont=>obtain⟨σ7,H7,I7,n7⟩:=q7;exact again I7 n7
  |brk=>obtain⟨σ7,H7,I7,q7⟩:=q7;exact⟨σ7,H7,I7.unpinned,q7⟩
  |ret v=>obtain⟨x7,σ7,H7,I7,r7,q7⟩:=q7;exact⟨x7,σ7,H7,I7.unpinned,r7,q7⟩
end
end _L
namespace _L
open PySem PySem.Spec PyProof.Rows
variable {us:Ab Ac}{f:Ac→Ac→Jm Ac}{g:Ai→Ai→Ai}
abbrev R2:=V→V→Hp→VK→Prop
def OpR (X:Cx)(f:Ac→Ac→Jm Ac)(r:R2):Prop:=
 ∀ (pins:Ab (Ad × Cg)) (s:Ag) (σ : St) (H:Hp) (x y:V) (v u:Ac) (Q:VK),Inv X pins σ H s→qO x v→qO y u→r x y H Q →
  Ao (As X.prog X.w) X.A (f v u) (EP X pins σ Q) X.xe s
def UnR (X:Cx)(f:Ac→Jm Ac)(r:V→Hp→VK→Prop):Prop:=
 ∀ (pins:Ab (Ad × Cg)) (s:Ag) (σ : St) (H:Hp) (x:V) (v:Ac) (Q:VK),Inv X pins σ H s→qO x v→r x H Q →
  Ao (As X.prog X.w) X.A (f v) (EP X pins σ Q) X.xe s
def gF (X:Cx)(f:Ac)(r:Ab V→Hp→VK→Prop):Prop:=
 ∀ (pins:Ab (Ad × Cg)) (s:Ag) (σ : St) (H:Hp) (xs:Ab V) (us:Ab Ac) (Q:VK),Inv X pins σ H s→qP xs us→r xs H Q →
  Ao (As X.prog X.w) X.A (call f us) (EP X pins σ Q) X.xe s
def HR (X:Cx)(r:V→Hp→(Ap→Hp→Prop)→Prop):Prop:=
 ∀ (pins:Ab (Ad × Cg)) (s:Ag) (σ : St) (H:Hp) (x:V) (v:Ac) (Q:Ap→Hp→Prop),Inv X pins σ H s→qO x v→r x H Q →
  Ao (As X.prog X.w) X.A (truthy v) (TP X pins σ Q) X.xe s
def tOp (r:R2)(ta tb:TE):TE:=λσ H Q=>ta σ H λx H1=>tb σ H1 λy H2=>r x y H2 Q
def rI (C:Ai→Ai→Prop)(g:Ai→Ai→V):R2:=λx y H Q=>∃ i j,x=.int i∧y=.int j∧C i j∧Q (g i j) H
def rI0 (g:Ai→Ai→V):R2:=λx y H Q=>∃ i j,x=.int i∧y=.int j∧Q (g i j) H
def rU (g:Ai→V):V→Hp→VK→Prop:=λx H Q=>∃ i,x=.int i∧Q (g i) H
section
variable {X:Cx}{a b c:Bv}{ta tb tc:TE}{pos:EQ}
def HY (ha:PE X a ta)(hb:PE X b tb){pins:Ab (Ad × Cg)}{s:Ag}{σ : St}{H:Hp}{R:V→V→Hp→Prop}(I:Inv X pins σ H s)
  (h:ta σ H λx H1=>tb σ H1 λy H2=>R x y H2) {Q:Ac→Ag→Prop} {f:Ac→Ac→Jm Ac}
  (hf:∀ v u s2 x y H2,Inv X pins σ H2 s2→qO x v→qO y u→R x y H2→Ao (As X.prog X.w) X.A (f v u) Q X.xe s2) :
  Ao (As X.prog X.w) X.A (eval a X.env) (λv s₁=>Ao (As X.prog X.w) X.A (eval b X.env) (λu s₂=>Ao (As X.prog X.w) X.A (f v u) Q X.xe s₂) X.xe s₁) X.xe s:=by
 refine thn (ha pins s σ H _ I h) λv s1 ⟨x,H1,I1,r1,q1⟩=>?_;refine thn (hb pins s1 σ H1 _ I1 q1) λu s2 ⟨y,H2,I2,r2,q2⟩=>?_;exact hf v u s2 x y H2 I2 r1 r2 q2
def opI {f:Ac→Ac→Jm Ac}{C:Ai→Ai→Prop}
  (rule:∀ (i j:Ai) (t u:Su) (s:Ag) (Q:Ac→Ag→Prop) (E:Ac→Ag→Prop),C i j→Q (.int (g i j) s.toks) { s with toks:=s.toks+1 } → Ao (As X.prog X.w) X.A (f (.int i t) (.int j u)) Q E s) :
  OpR X f (rI C λi j=>.int (g i j)):=by
 intro pins s σ H x y v u Q I rx ry h;obtain⟨i,j,rfl,rfl,hc,q⟩:=h;obtain⟨t,rfl⟩:=rx;obtain⟨t',rfl⟩:=ry;exact rule i j t t' s _ _ hc ⟨.int (g i j),H,I.tok _,⟨_,rfl⟩,q⟩
def NZ {f:Ac→Ac→Jm Ac}
  (rule:∀ (i j:Ai) (t u:Su) (s:Ag) (Q:Ac→Ag→Prop) (E:Ac→Ag→Prop),Q (.int (g i j) s.toks) { s with toks:=s.toks+1 } → Ao (As X.prog X.w) X.A (f (.int i t) (.int j u)) Q E s) :
  OpR X f (rI0 λi j=>.int (g i j)):=by
 intro pins s σ H x y v u Q I rx ry h;obtain⟨i,j,rfl,rfl,q⟩:=h;obtain⟨t,rfl⟩:=rx;obtain⟨t',rfl⟩:=ry;exact rule i j t t' s _ _ ⟨.int (g i j),H,I.tok _,⟨_,rfl⟩,q⟩
def VX {g:Ai→Ai→Ap}
  (rule:∀ (i j:Ai) (t u:Su) (s:Ag) (Q:Ac→Ag→Prop) (E:Ac→Ag→Prop),Q (.bool (g i j)) s→Ao (As X.prog X.w) X.A (f (.int i t) (.int j u)) Q E s) :
  OpR X f (rI0 λi j=>.bl (g i j)):=by
 intro pins s σ H x y v u Q I rx ry h;obtain⟨i,j,rfl,rfl,q⟩:=h;obtain⟨t,rfl⟩:=rx;obtain⟨t',rfl⟩:=ry;exact rule i j t t' s _ _ ⟨.bl (g i j),H,I,rfl,q⟩
def HN (i j:Ai):Prop:=0<j∧j<1073741824
def HP (i j:Ai):Prop:=0≤j∧j≤1000000∧i.natAbs<2 ^ 64
def WV (i j:Ai):Prop:=(-(2 ^ 64)<i∧i<2 ^ 64)∨(-(2 ^ 64)<j∧j<2 ^ 64)
def WV.ok {i j:Ai}(h:WV i j):IntMulOk i j:=by
 rcases h with⟨h1,h2⟩|⟨h1,h2⟩
 ·exact .of_left (intBits_le_64 h1 h2)
 ·exact .of_right (intBits_le_64 h1 h2)
def L0:OpR X (Ex .Add) (rI0 λi j=>.int (i+j)):=NZ λ_ _ _ _ _ _ _ q=>add_int q
def L7:OpR X (Ex .Sub) (rI0 λi j=>.int (i-j)):=NZ λ_ _ _ _ _ _ _ q=>sub_int q
def L5:OpR X (Ex .Mult) (rI WV λi j=>.int (i*j)):=opI λ_ _ _ _ _ _ _ hc q=>mul_int q hc.ok
def PX:OpR X (Ex .FloorDiv) (rI HN λi j=>.int (i/j)):=opI λi j _ _ _ _ _ hc q=>by
 have h1:(0:Ai)<j:=hc.1;have h2:j<1073741824:=hc.2;exact floordiv_int om (by rw[Int.fdiv_eq_ediv_of_nonneg i om];exact q) (.inl (PyProof.noPylong_small om))
def L4:OpR X (Ex .Mod) (rI (λ_ j=>0<j) λi j=>.int (i % j)):=opI λi j _ _ _ _ _ hc q=>by
 have h1:(0:Ai)<j:=hc;exact mod_int' om (by rw[Int.fmod_eq_emod_of_nonneg i om];exact q)
def L6:OpR X (Ex .Pow) (rI HP λi j=>.int (i ^ j.toNat)):=opI λ_ _ _ _ _ _ _ hc q=>pow_int_small hc.1 hc.2.1 hc.2.2 q
def unI {f:Ac→Jm Ac}{g:Ai→Ai}
  (rule:∀ (i:Ai) (t:Su) (s:Ag) (Q:Ac→Ag→Prop) (E:Ac→Ag→Prop),Q (.int (g i) s.toks) { s with toks:=s.toks+1 } → Ao (As X.prog X.w) X.A (f (.int i t)) Q E s) :
  UnR X f (rU λi=>.int (g i)):=by
 intro pins s σ H x v Q I rx h;obtain⟨i,rfl,q⟩:=h;obtain⟨t,rfl⟩:=rx;exact rule i t s _ _ ⟨.int (g i),H,I.tok _,⟨_,rfl⟩,q⟩
def SR:UnR X (Uu .USub) (rU λi=>.int (-i)):=unI λ_ _ _ _ _ q=>neg_int q
end
section
variable {X:Cx}{a b c:Bv}{ta tb tc:TE}{pos:EQ}
def ZO {pins:Ab (Ad × Cg)}{σ:St}{H:Hp}{s:Ag}{Q:VK}{k k':Ap}(I:Inv X pins σ H s)(q:Q (.bl k) H)(e:k=k'):EP X pins σ Q (.bool k') s:=by
 subst e;exact⟨.bl k,H,I,rfl,q⟩
def E7:OpR X (Di .Lt) (rI0 λi j=>.bl (decide (i<j))):=VX λ_ _ _ _ _ _ _ q=>lt_int q
def E6:OpR X (Di .LtE) (rI0 λi j=>.bl (decide (i≤j))):=VX λ_ _ _ _ _ _ _ q=>le_int q
def E5:OpR X (Di .GtE) (rI0 λi j=>.bl (decide (j≤i))):=VX λ_ _ _ _ _ _ _ q=>ge_int q
def L3:OpR X (Di .Is) (λx y H Q=>y=.non∧Q (.bl (decide (x=.non))) H):=by
 intro pins s σ H x y v u Q I rx ry h;obtain⟨rfl,q⟩:=h;cases ry;refine is_none_gen (ZO I q ?_);cases x <;> first
  |(cases rx;rfl)
  |(obtain⟨t,rfl⟩:=rx;rfl)
def PY:OpR X (Di .IsNot) (λx y H Q=>y=.non∧Q (.bl (!decide (x=.non))) H):=by
 intro pins s σ H x y v u Q I rx ry h;obtain⟨rfl,q⟩:=h;cases ry;refine isnot_none_gen (ZO I q ?_);cases x <;> first
  |(cases rx;rfl)
  |(obtain⟨t,rfl⟩:=rx;rfl)
def OpR.or {r r':R2}(h:OpR X f r)(h':OpR X f r'):OpR X f (λx y H Q=>r x y H Q∨r' x y H Q):=by
 intro pins s σ H x y v u Q I rx ry q;rcases q with q|q
 ·exact h pins s σ H x y v u Q I rx ry q
 ·exact h' pins s σ H x y v u Q I rx ry q
def kZ (b:Bv){op:Ru}(h:op≠.In:=by decide)(h2:op≠.NotIn:=by decide):Jp op b=false:=by
 have e1:(op == CmpOp.In)=false:=by cases op <;> first|rfl|exact absurd rfl h
 have e2:(op == CmpOp.NotIn)=false:=by cases op <;> first|rfl|exact absurd rfl h2
 cases b <;> simp[Jp,e1,e2]
def o7 (K:Ak)(x:V)(H:Hp)(k:Ap):Prop:=
 match x with
 |.non=>k=false
 |.bl b=>k=b
 |.int i=>k=(i != 0)
 |.str y=>y.length≤sizeLine∧k=((y.length:Ai) != 0)
 |.byt y=>y.size≤sizeLine∧k=((y.size:Ai) != 0)
 |.ref p=>(∃ xs,SqL K H p xs∧k=!xs.isEmpty)∨(∃ xs,SqT K H p xs∧k=!xs.isEmpty)∨∃ kvs,H p=Aa (.dK kvs)∧k=!kvs.isEmpty
 |_=>Fa
def oS {κ:Type}{kvs:Ab (κ × V)}{vs:Ab (κ × Ac)}(r:KV kvs vs):(!vs.isEmpty)=!kvs.isEmpty:=by
 cases r <;> rfl
def mV {xs:Ab V}{its:Ab Ac}(r:qP xs its):(!its.toArray.isEmpty)=!xs.isEmpty:=by
 cases r <;> simp
def b7:(sizeLine:Ah)<2 ^ 63:=by rw[Ep];decide
def bG:HR X (λx H Q=>∃ k,o7 X.K x H k∧Q k H):=by
 intro pins s σ H x v Q I rx h;obtain⟨k,e,q⟩:=h;have hl:=b7;have hs:sizeLine=16777216:=Ep;cases x with
 |non =>
  cases rx;have e':k=false:=e;subst e';exact truthy_none ⟨H,I,q⟩
 |bl b =>
  cases rx;have e':k=b:=e;subst e';exact Tz ⟨H,I,q⟩
 |int i =>
  obtain⟨t,rfl⟩:=rx;have e':k=(i != 0):=e;subst e';exact PySem.P.truthy_int ⟨H,I,q⟩
 |str y =>
  obtain⟨t,rfl⟩:=rx;obtain⟨hy,e'⟩:y.length≤sizeLine∧k=((y.length:Ai) != 0):=e;subst e';exact PySem.P.truthy_str om ⟨H,I.tok _,q⟩
 |byt y =>
  obtain⟨t,rfl⟩:=rx;obtain⟨hy,e'⟩:y.size≤sizeLine∧k=((y.size:Ai) != 0):=e;subst e';exact PySem.W.truthy_bytes om ⟨H,I.tok _,q⟩
 |ref p =>
  cases rx;have e':(∃ xs,SqL X.K H p xs∧k=!xs.isEmpty)∨(∃ xs,SqT X.K H p xs∧k=!xs.isEmpty)∨∃ kvs,H p=Aa (.dK kvs)∧k=!kvs.isEmpty:=e;rcases e' with⟨xs,hx,e'⟩|⟨xs,hx,e'⟩|⟨kvs,hx,e'⟩
  ·subst e'
   obtain⟨its,r,pl,hz⟩:=I.list hx;have hlen:=r.length;exact wpAny_truthy_list pl.isList (by simp only[Bj];omega) ⟨H,I.tok _,by rw[mV r];exact q⟩
  ·subst e'
   obtain⟨its,r,pl,hz⟩:=I.tuple hx;have hlen:=r.length;exact truthy_tuple pl (by simp only[Bj];omega) ⟨H,I.tok _,by rw[mV r];exact q⟩
  ·subst e'
   obtain⟨hz,hS,vs,r,m⟩:kvs.length≤sizeLine∧(p == Iw)=false∧∃ vs,KV kvs vs∧s.heap.DictOf (xT X.prog X.w) p vs:=I.hok p _ hx;have hlen:kvs.length=vs.length:=Paired.length r;exact wpAny_truthy_dict hS m om ⟨H,I.tok _,by rw[oS r];exact q⟩
 |_=>exact(show Fa from e).elim
def Q1:OpR X (Ex .Add) (λx y H Q=>∃ i j,x=.str i∧y=.str j∧i.length+j.length≤sizeLine∧Q (.str (i++j)) H):=by
 intro pins s σ H x y v u Q I rx ry h;obtain⟨i,j,rfl,rfl,hz,q⟩:=h;obtain⟨t,rfl⟩:=rx;obtain⟨t',rfl⟩:=ry;exact add_str (λt' tk=>⟨.str (i++j),H,I.tok _,⟨_,rfl⟩,q⟩) hz
def pG {x:V}(r:qP [x] us):∃ u,us=[u]∧qO x u:=by
 cases r with
 |cons r1 r2=>cases r2;exact⟨_,rfl,r1⟩
def sN {x y:V}(r:qP [x,y] us):∃ u w',us=[u,w']∧qO x u∧qO y w':=by
 cases r with
 |cons r1 r2 =>
  cases r2 with
  |cons r3 r4=>cases r4;exact⟨_,_,rfl,r1,r3⟩
def lR:gF X (.type "int") (λxs H Q=>(∃ i,xs=[.int i]∧Q (.int i) H)∨∃ k,xs=[.bl k]∧Q (.int (if k then 1 else 0)) H):=by
 intro pins s σ H xs us Q I r h;rcases h with⟨i,rfl,q⟩|⟨k,rfl,q⟩
 ·obtain⟨u,rfl,t,rfl⟩:=pG r
  exact call_int_int ⟨.int i,H,I,⟨_,rfl⟩,q⟩
 ·obtain⟨u,rfl,r1⟩:=pG r
  cases r1;exact call_int_bool ⟨.int (if k then 1 else 0),H,I.tok _,⟨_,rfl⟩,q⟩
def FP (K:Ak)(x:V)(H:Hp)(n:Ah):Prop:=
 match x with
 |.str y=>y.length≤sizeLine∧n=y.length
 |.byt y=>y.size≤sizeLine∧n=y.size
 |.ref p=>(∃ xs,SqL K H p xs∧n=xs.length)∨∃ xs,SqT K H p xs∧n=xs.length
 |_=>Fa
def Y4:gF X (.builtin "len") (λxs H Q=>∃ x n,xs=[x]∧FP X.K x H n∧Q (.int n) H):=by
 intro pins s σ H xs us Q I r h;obtain⟨x,n,rfl,e,q⟩:=h;obtain⟨u,rfl,rx⟩:=pG r;have hl:=b7;have hs:sizeLine=16777216:=Ep;cases x with
 |str y =>
  obtain⟨t,rfl⟩:=rx;obtain⟨hy,e'⟩:y.length≤sizeLine∧n=y.length:=e;subst e';exact len_str om ⟨.int _,H,I.tok _,⟨_,rfl⟩,q⟩
 |byt y =>
  obtain⟨t,rfl⟩:=rx;obtain⟨hy,e'⟩:y.size≤sizeLine∧n=y.size:=e;subst e';exact PySem.W.len_bytes om ⟨.int _,H,I.tok _,⟨_,rfl⟩,q⟩
 |ref p =>
  cases rx;have e':(∃ xs,SqL X.K H p xs∧n=xs.length)∨∃ xs,SqT X.K H p xs∧n=xs.length:=e;rcases e' with⟨xs,hx,e'⟩|⟨xs,hx,e'⟩
  ·subst e'
   obtain⟨its,r',pl,hz⟩:=I.list hx;have hlen:=r'.length;exact Calls.call_len_list pl.isList (by simp only[Bj];omega) ⟨.int xs.length,H,I.tok _,⟨_,by simp only[Bj];rw[hlen]⟩,q⟩
  ·subst e'
   obtain⟨its,r',pl,hz⟩:=I.tuple hx;have hlen:=r'.length;exact len_tuple pl (by simp only[Bj];omega) ⟨.int xs.length,H,I.tok _,⟨_,by simp only[Bj];rw[hlen]⟩,q⟩
 |_=>exact(show Fa from e).elim
end
end _L
namespace _L
open PySem PySem.Spec PyProof.Rows
variable {mA:Ar→Al Ac}
structure ObjM (h:Bm)(x dx C:Ad)(mA:Ar→Al Ac):Prop where
 obj:h.get? x=Aa (Ps C dx)
 ns:h.Ns1 dx mA
 ne:dx≠x
set_option tactic.hygienic true in
def X2 {h:Bm}{dx:Ad}(n:h.Ns1 dx mA):∃ od,h.get? dx=Aa od∧∀ name,Ra name od=Aa (mA name):=by
 obtain⟨o,es,ep,ho,hd,hk,_,hm⟩:=n;refine⟨o,ho,λname=>?_⟩;have e:=hm name;unfold nsFind findBy at e;rw[← Array.find?_toList] at e;unfold Ra;rw[hd];dsimp only
 split
 ·rename_i y q
  rw[q] at e;exact congrArg Aa e
 ·rename_i q
  rw[q] at e;have a:es.toList.any (·.refKey)=false:=by
   rw[List.any_eq_false];intro y hy;obtain⟨z,t,hkey⟩:=hk y (Mb.mp hy);simp[DictEntry.refKey,hkey]
  have a':¬ es.toList.any (·.refKey)=true:=by rw[a];exact Ea
  rw[Bc a'];exact congrArg Aa e
def ObjM.look {h:Bm}{x dx C:Ad}(I:ObjM h x dx C mA):∃ od,PySem.W.InstAt h x (Ps C dx) C (Aa od)∧∀ name,Ra name od=Aa (mA name):=
 let ⟨od,ho,hl⟩:=X2 I.ns
 ⟨od,⟨I.obj,rfl,rfl,ho⟩,hl⟩
def vZ.some_of {v:V}{o:Al Ac}(r:vZ (Aa v) o):∃ u,o=Aa u∧qO v u:=by
 cases o with
 |none=>exact(show Fa from r).elim
 |some u=>exact⟨u,rfl,r⟩
section
variable {P:Bd}{w:Bw}{H H':Hp}{h h':Bm}{a C dx:Ad}{fs fs':Ab (Ar × V)}
def GO (hok:HOk P w H h)(e:H a=Aa (.ins C dx fs)):∃ mA,ObjM h a dx C mA∧(∀ f,vZ (fs.lookup f) (mA f))∧Xk mA (fs.map (·.1))∧fs.length≤1000∧H dx=Aa (.own a):=by
 obtain⟨d,z,ne,ob,mA,n,r,q⟩:=(show zK P w H h a (.ins C dx fs) from hok a _ e)
 exact⟨mA,⟨ob,n,ne⟩,r,q,z,d⟩
end
structure Cls (K:Ak)(C:Ad):Prop where
 pg:Uv K C Jq=true
 hd:PySem.W.hasDictIn K C=true
 po:PySem.W.plainOver K C=true
 sa:Kt K (.ref C) "__setattr__" = Aa (Aa (.builtin "object.__setattr__"))
def Cls.get {K:Ak}{C:Ad}(c:Cls K C)(f:Ar):Uv K C f=true:=c.pg
section
variable {X:Cx}{pins:Ab (Ad × Cg)}{σ : St}{H:Hp}{s:Ag}{A:Bt}{E:Ac→Ag→Prop}{Q:Ac→Ag→Prop}{c:Ac}{b:Ap}
inductive TyOf (K:Ak)(H:Hp):V→Ac→Prop where
 |non:TyOf K H .non (.type "NoneType")
 |bl (x:Ap):TyOf K H (.bl x) (.type "bool")
 |int (i:Ai):TyOf K H (.int i) (.type "int")
 |str (x:Ar):TyOf K H (.str x) (.type "str")
 |flt (x:UInt64):TyOf K H (.flt x) (.type "float")
 |lst {a:Ad} {xs:Ab V} (e:H a=Aa (.lst xs)):TyOf K H (.ref a) (.type "list")
 |frz {a:Ad} {o:Cg} {xs:Ab V} (e:H a=Aa (.frz o (.lst xs))):TyOf K H (.ref a) (.type "list")
 |tup {a:Ad} {xs:Ab V} (e:H a=Aa (.tup xs)):TyOf K H (.ref a) (.type "tuple")
 |dK {a:Ad} {kvs:Ab (Key × V)} (e:H a=Aa (.dK kvs)):TyOf K H (.ref a) (.type "dict")
 |dT {a:Ad} {kvs:Ab (Ab Key × V)} (e:H a=Aa (.dT kvs)):TyOf K H (.ref a) (.type "dict")
 |ins {a C dx:Ad} {fs:Ab (Ar × V)} (e:H a=Aa (.ins C dx fs)) (cl:Cls K C) (ha:Kt K (.ref C) "__class__" = Aa (Aa (.builtin "object.__class__")))
   (hn:T0 K (.builtin "object.__class__") "__get__" = Aa (Aa (.builtin "getset_descriptor.__get__"))) (htk:Vr K (.builtin "object.__class__")=Aa true)
   (hm:Rv K C (.type "object")=Aa true):TyOf K H (.ref a) (.ref C)
def ZW {x:V}{u t:Ac}(I:Inv X pins σ H s)(rx:qO x u)(ty:TyOf X.K H x t)(e:Jd X.K t c=Aa b)(h:∀ tk,Q (.bool b) { s with toks:=tk }) :
  Ao (As X.prog X.w) A (call (.builtin "isinstance") [u,c]) Q E s:=by
 cases ty with
 |non=>cases (show u=Dj from rx);exact Ee TD I.kIn Hc e (λz=>nomatch z) h
 |bl y=>cases (show u=Fn y from rx);exact Ee TW I.kIn Hc e (λz=>nomatch z) h
 |int i=>obtain⟨t,q⟩:=(show ∃ t,u=Me i t from rx);cases q;exact Ee Uw I.kIn Hc e (λz=>nomatch z) h
 |str y=>obtain⟨t,q⟩:=(show ∃ t,u=Qn y t from rx);cases q;exact Ee Ux I.kIn Hc e (λz=>nomatch z) h
 |flt y=>obtain⟨t,q⟩:=(show ∃ t,u=Xv y t from rx);cases q;exact Ee PySem.W.kitx_float I.kIn Hc e (λz=>nomatch z) h
 |@lst a xs ea =>
  cases (show u=Cf a from rx)
  obtain⟨_,_,n,_,h1⟩:=(show zK X.prog X.w H s.heap a (.lst xs) from I.hok a _ ea)
  exact Ee Ic I.kIn ⟨_,h1,rfl⟩ e (λz=>nomatch z) h
 |@frz a ob xs ea =>
  cases (show u=Cf a from rx)
  obtain⟨_,_,_,n,_,h1⟩:=(show zK X.prog X.w H s.heap a (.frz ob (.lst xs)) from I.hok a _ ea)
  exact Ee Ic I.kIn ⟨_,h1,rfl⟩ e (λz=>nomatch z) h
 |@tup a xs ea =>
  cases (show u=Cf a from rx)
  obtain⟨_,_,_,p⟩:=(show zK X.prog X.w H s.heap a (.tup xs) from I.hok a _ ea)
  obtain⟨o,h1,h2,_⟩:=p;exact Ee Kj I.kIn ⟨o,h1,h2⟩ e (λz=>nomatch z) h
 |@dK a kvs ea =>
  cases (show u=Cf a from rx)
  obtain⟨_,_,vs,_,p⟩:=(show zK X.prog X.w H s.heap a (.dK kvs) from I.hok a _ ea)
  obtain⟨o,es,ep,h1,h2,_⟩:=p;exact Ee Kx I.kIn ⟨o,h1,h2.1⟩ e (λz=>nomatch z) h
 |@dT a kvs ea =>
  cases (show u=Cf a from rx)
  obtain⟨_,_,xs,_,o,es,ep,h1,h2,_⟩:=(show zK X.prog X.w H s.heap a (.dT kvs) from I.hok a _ ea)
  exact Ee Kx I.kIn ⟨o,h1,h2.1⟩ e (λz=>nomatch z) h
 |@ins a C dx fs ea cl ha hn htk hm =>
  cases (show u=Cf a from rx)
  obtain⟨mA,O,_⟩:=GO I.hok ea;obtain⟨od,J,_⟩:=O.look;exact Ee (PySem.W.kitx_own (cl.get _) cl.hd ha hn htk hm) I.kIn J e (λz=>nomatch z) h
end
end _L
namespace _L
open PySem PySem.Spec PyProof.Rows
variable {ps:Ab Ar}{K:Ak}{mg:Ar→Al Ac}{kindOf:Ar→Al Gx}{A:Bt}{scope:Eh}
structure Room (k:Ah)(A:Bt):Prop where
 hd:A.handled=none
 dp:A.depth+3*k+5<Ni
 un:A.units+16*k+200<Ey
 gd:A.guards=Aa []
def Room.deeper {k:Ah}(r:Room (k+1) A)(env:Hu):Room k (A.deeper env):=
 ⟨r.hd,by have:=r.dp;show A.depth+1+3*k+5<_;omega,by have:=r.un;show A.units+3+16*k+200<_;omega,r.gd⟩
def Room.depth {k:Ah}(r:Room k A):A.depth<Ni:=by have:=r.dp;omega
def Room.units {k:Ah}(r:Room k A):A.units+64<Ey:=by have:=r.un;omega
def AC:TA:=λ_ H Q=>Q [] H
section
variable {X:Cx}{e:Bv}{es:Ab Bv}{te:TE}{t:TA}{pos:EQ}
def L9:PA X [] AC:=λ_ _ _ _ H Q I h=>Ot ⟨[],H,I,.nil,h⟩
def AF (t:TA):TE:=λσ H Q=>t σ H λxs H1=>xs.length≤sizeLine∧∀ p,H1 p=none→Q (.ref p) (upd H1 p (.tup xs))
def AB (t:TA):TE:=λσ H Q=>t σ H λxs H1=>xs.length≤sizeLine∧∀ p,H1 p=none→Q (.ref p) (upd H1 p (.lst xs))
def LG  (h:PA X es t):PE X (.Tuple es x1 pos) (AF t):=by
 intro pins s σ H Q I hq;refine wpAny_Tuple_spliced (thn (h pos pins s σ H _ I hq) λus s1 ⟨xs,H1,I1,r,z,q⟩=>⟨by rw[← r.length];exact z,?_⟩)
 have hf:H1 s1.heap.objs.size=none:=I1.hok.fresh (Ax _);refine⟨.ref s1.heap.objs.size,upd H1 s1.heap.objs.size (.tup xs),I1.laid (t':=s1.toks) (λb u e=>Aj _ e) (Ax _) ?_,rfl,q _ hf⟩;exact⟨z,us,r,⟨_,Bi _ rfl,rfl,_,rfl⟩⟩
def XJ (h:PA X es t):PE X (.List es pos) (AB t):=by
 intro pins s σ H Q I hq;refine wpAny_List_spliced (thn (h pos pins s σ H _ I hq) λus s1 ⟨xs,H1,I1,r,z,q⟩=>⟨by rw[← r.length];exact z,?_⟩)
 have hf:H1 s1.heap.objs.size=none:=I1.hok.fresh (Ax _);refine⟨.ref s1.heap.objs.size,upd H1 s1.heap.objs.size (.lst xs),I1.laid (t':=s1.toks) (λb u e=>Aj _ e) (Ax _) ?_,rfl,q _ hf⟩;exact⟨z,us,0,r,Bi _ rfl⟩
end
abbrev Sp:=Ab V→Hp→VK→XK→Prop
abbrev CXT:=Ab Hu→Hp→Ag→XK→Ac→Ag→Prop
structure Env0 (P:Bd)(w:Bw)(K:Ak)(mg:Ar→Al Ac)(base:Bm)(A:Bt)(outer:Ab Hu)(s:Ag)(H:Hp):Prop where
 frames:A.frames=Aa outer
 mod:Mod K mg base
 bs:∀ b o,base.get? b=Aa o→s.heap.get? b=Aa o∧H b=none
 bsz:base.objs.size≤s.heap.objs.size
 funs:s.heap.FunFrames base outer
 frf:∀ b∈frs outer,H b=none
 hok:HOk P w H s.heap
 bare:Lm s.gens
def CE (outer:Ab Hu)(P:Bd)(w:Bw)(H:Hp)(s:Ag)(Q:VK)(u:Ac)(s':Ag):Prop:=
 ∃ v H',s'.os=s.os∧Lm s'.gens∧Un (frs outer) [] H H' s.heap s'.heap∧HOk P w H' s'.heap∧qO v u∧Q v H'
def CR (CX:CXT)(outer:Ab Hu)(P:Bd)(w:Bw)(H:Hp)(s:Ag)(Q:VK)(E:XK)(r:Uy)(s':Ag):Prop:=
 match r with
 |.ok (.ret u)=>CE outer P w H s Q u s'
 |.ok _=>Fa
 |.error e=>CX outer H s E e s'
structure FnOk (P:Bd)(w:Bw)(K:Ak)(mg:Ar→Al Ac)(base:Bm)(CX:CXT)(k:Ah)(f:Ad)(fd:Fb)(ps:Ab Ar)(sp:Sp):Prop where
 len:∀ vs H Q E,sp vs H Q E→vs.length=ps.length
 run:∀ (A:Bt) (outer:Ab Hu) (s:Ag) (H:Hp) (args:Args) (us:Ab Ac) (vs:Ab V) (Q:VK) (E:XK),Room k A→Env0 P w K mg base A outer s H→Ln s fd args (ps.zip us)→qP vs us→sp vs H Q E →
  Ie (As P w) A (.call (.ref f) args) (CR CX outer P w H s Q E) s
section
variable {X:Cx}{pins:Ab (Ad × Cg)}{σ : St}{H:Hp}{s s':Ag}
def Inv.env0 (I:Inv X pins σ H s):Env0 X.prog X.w X.K X.mg X.base X.A X.stack s H:=
 ⟨I.ok.frames,I.ok.mod,I.bs,Eb I.ok.bsz I.sz,I.stack,I.stkFree,I.hok,I.bare⟩
def Inv.after {Q:VK}{u:Ac}(I:Inv X pins σ H s)(h:CE X.stack X.prog X.w H s Q u s'):EP X pins σ Q u s':=by
 obtain⟨v,H',os,bare,un,hok,r,q⟩:=h;obtain⟨hh,g,d,t,os'⟩:=s';obtain rfl:os'=s.os:=os;exact⟨v,H',I.call (h':=hh) (g':=g) (d':=d) (t':=t) (ch:=[]) un hok bare (λb z=>absurd z (by simp)),r,q⟩
end
def uG (K:Ak)(fd:Fb)(ps:Ab Ar)(ds:Ab Ac):Prop:=
 ∀ (s:Ag) (us:Ab Ac),K.In s.heap→(us++ds).length=ps.length→Ln s fd ⟨us,[]⟩ (ps.zip (us++ds))
def uG.all {fd:Fb}(h:∀ us:Ab Ac,us.length=ps.length→Pu fd ⟨us,[]⟩=pure (ps.zip us)):uG K fd ps []:=λs us _ hl=>by
 rw[Fm] at hl ⊢;exact .of_eq (h us hl)
structure FnScope (N P:Ab Ar)(sc:Eh):Prop where
 kind:sc.kind=.function
 co:sc.isCoroutine=false
 gen:sc.isGenerator=false
 nd:N.Nodup
 pre:N.take P.length=P
 par:∀ x∈P,sc.names.lookup x=Aa .local ∨ sc.names.lookup x=Aa .cell
 nofree:∀ y∈sc.names,y.2≠.free
def lP {x:Ar}:∀ {binds:Ab (Ar × Ac)} {m:Ar→Al Ac},(∀ v,(x,v) ∉ binds)→Rw kindOf binds m x=m x
 |[],_,_=>rfl
 |(n,v)::r,m,h=>by
  unfold Rw;rw[lP λw hw=>h w (Bu _ hw)]
  split
  ·have:x≠n:=by rintro rfl;exact h v Ct
   simp[this]
  ·rfl
def lN {x:Ar}:∀ {binds:Ab (Ar × Ac)} {m:Ar→Al Ac},(∀ v,(x,v) ∉ binds)→Rx kindOf binds m x=m x
 |[],_,_=>rfl
 |(n,v)::r,m,h=>by
  unfold Rx;rw[lN λw hw=>h w (Bu _ hw)]
  split
  ·rfl
  ·have:x≠n:=by rintro rfl;exact h v Ct
   simp[this]
def lO {x:Ar}{v:Ac}:∀ {P:Ab Ar} {vs:Ab Ac} {i:Ah} {m:Ar→Al Ac},P.Nodup→P[i]? = Aa x→vs[i]? = Aa v→kindOf x=Aa .local →
  Rw kindOf (P.zip vs) m x=Aa v
 |[],_,_,_,_,h,_,_=>by simp at h
 |_::_,[],_,_,_,_,h,_=>by simp at h
 |p::P,w::vs,0,m,nd,h1,h2,hk=>by
  simp at h1 h2;subst h1;subst h2;show Rw kindOf ((p,w)::P.zip vs) m p=_;unfold Rw;rw[lP λv hv=>(Mj.mp nd).1 (Jx hv).1,Bg hk];simp
 |p::P,w::vs,i+1,m,nd,h1,h2,hk=>by
  show Rw kindOf ((p,w)::P.zip vs) m x=_;unfold Rw;exact lO (i:=i) (Mj.mp nd).2 (by simpa using h1) (by simpa using h2) hk
def lM {x:Ar}{v:Ac}:∀ {P:Ab Ar} {vs:Ab Ac} {i:Ah} {m:Ar→Al Ac},P.Nodup→P[i]? = Aa x→vs[i]? = Aa v→kindOf x≠Aa .local →
  Rx kindOf (P.zip vs) m x=Aa v
 |[],_,_,_,_,h,_,_=>by simp at h
 |_::_,[],_,_,_,_,h,_=>by simp at h
 |p::P,w::vs,0,m,nd,h1,h2,hk=>by
  simp at h1 h2;subst h1;subst h2;show Rx kindOf ((p,w)::P.zip vs) m p=_;unfold Rx;rw[lN λv hv=>(Mj.mp nd).1 (Jx hv).1,Bc hk];simp
 |p::P,w::vs,i+1,m,nd,h1,h2,hk=>by
  show Rx kindOf ((p,w)::P.zip vs) m x=_;unfold Rx;exact lM (i:=i) (Mj.mp nd).2 (by simpa using h1) (by simpa using h2) hk
def wK (N:Ab Ar)(vs:Ab V):St:=vs.map Aa++Hr (N.length-vs.length) none
def tZ (CX:CXT)(P:Bd)(w:Bw)(K:Ak)(mg:Ar→Al Ac)(base:Bm)(N:Ab Ar)(qual:Ar)(scope:Eh)(f:Ad)(cd:Ac)(A:Bt)(outer:Ab Hu)(s:Ag)(H:Hp)(E:XK):Cx where
 prog:=P
 w:=w
 K:=K
 mg:=mg
 base:=base
 A:=A.deeper (Ft qual scope s.heap.objs.size f cd)
 N:=N
 s₀:=s
 H₀:=H
 env:=Ft qual scope s.heap.objs.size f cd
 outer:=outer
 stack:=Ft qual scope s.heap.objs.size f cd::outer
 ex:=[]
 calm:=true
 fn:=λ_=>true
 pn:=[]
 xe:=λe s'=>Ao (As P w) (A.deeper (Ft qual scope s.heap.objs.size f cd)) (leaving (Ft qual scope s.heap.objs.size f cd) e) (λ_ s''=>CX outer H s E e s'') (λe' s''=>CX outer H s E e' s'') s'
def sZ {sc:Eh}{n:Ah}{x:Ar}(h:sc.names.lookup x=Aa .cell):∃ c,(Gs n sc.names []).lookup x=Aa c:=by
 have q:=IN sc.names n [] (.inl h);exact Iq.mp q
def lZ {CX:CXT}{P:Bd}{w:Bw}{base:Bm}{N:Ab Ar}{qual:Ar}{f:Ad}{cd:Ac}{outer:Ab Hu}{s s1:Ag}{H:Hp}{E:XK}{us:Ab Ac}{vs:Ab V}
  (S:FnScope N ps scope) (hd:A.handled=none) (e0:Env0 P w K mg base A outer s H) (hl:vs.length=ps.length) (r:qP vs us)
  (x:InCallC s s.heap.objs.size (Rw (Ft qual scope s.heap.objs.size f cd).kindOf (ps.zip us) λ_=>none) (Gs (s.heap.objs.size+1) scope.names []) (Rx (Ft qual scope s.heap.objs.size f cd).kindOf (ps.zip us) λ_=>none) s1) :
  Inv (tZ CX P w K mg base N qual scope f cd A outer s H E) [] (wK N vs) H s1:=by
 have hpl:ps.length≤N.length:=by have:=congrArg Uz S.pre;rw[Gt] at this;omega
 obtain⟨h1,tk,rfl,hk⟩:=x.done;have noA:∀ b:Ad,b ∉ (tZ CX P w K mg base N qual scope f cd A outer s H E).ex:=λb z=>absurd (show b∈([]:Ab Ad) from z) (by simp)
 refine⟨⟨e0.mod,S.kind,rfl,rfl,Ax _,λy z c h1 h2=>?_,λy hy=>?_,λy c _ h=>?_,λ_=>hd,Mc e0.frames,.inr ⟨rfl,rfl⟩,λb z=>absurd z (noA b),e0.bs,e0.bsz,λb _ _=>noA b,λb z=>absurd z (noA b),e0.funs,e0.frf⟩,
  rfl,e0.bare,Un.kept hk,⟨_,x.toInCall.ns,λi y v h1 h2 h3=>?_⟩,λy c h=>⟨_,x.cell y c h⟩,e0.hok.fresh (Ax _),λy c h=>?_,λp hp=>absurd (show p∈([]:Ab (Ad × Cg)) from hp) (by simp),e0.hok.kept hk,?_⟩
 ·exact name_of_addr x.apart (Er h1) (Er h2)
 ·have hy:scope.names.lookup y=Aa .cell∨scope.names.lookup y=Aa .free:=hy
  rcases hy with hy|hy
  ·exact sZ hy
  ·exact absurd rfl (S.nofree _ (Er hy))
 ·exact Fz (x.above y c (Er h))
 ·have hi:i<vs.length:=by
   unfold wK at h2;by_cases hi:i<vs.length
   ·exact hi
   ·rw[Ci (by simpa using hi)] at h2
    rw[Km] at h2
    split at h2 <;> cases h2
  have ha:vs[i]? = Aa v:=by
   unfold wK at h2;rw[Bz (by simpa using hi),Dl] at h2
   cases e:vs[i]? with
   |none=>rw[e] at h2;cases h2
   |some a=>rw[e] at h2;cases h2;rfl
  obtain⟨u,hu,rv⟩:=r.get ha;have hp:ps[i]? = Aa y:=by
   rw[← S.pre,Kg om];exact h1
  have ndP:ps.Nodup:=by rw[← S.pre];exact S.nd.sublist (List.take_sublist _ _)
  refine⟨u,rv,?_⟩;rcases S.par y (Cb hp) with k|k
  ·exact .inl ⟨k,lO ndP hp hu k⟩
  ·obtain⟨c,e⟩:=sZ (n:=s.heap.objs.size+1) k
   refine .inr ⟨.inl k,c,e,?_⟩;have q:=x.cell y c e;rw[lM ndP hp hu (by show scope.names.lookup y≠_;rw[k];decide)] at q
   exact q
 ·exact e0.hok.fresh (Fz (x.above y c (Er h)))
 ·unfold wK
  show _=N.length;rw[Df,Bk,List.length_replicate];omega
def RK {CX:CXT}{P:Bd}{w:Bw}{base:Bm}{k:Ah}{f:Ad}{name qual:Ar}{params:Mk}{body:Ab Ej}{dV kV doc pm cdv ct oc:Ac}{an od:Al Ad}
  {osl:Av (Al Ac)} {N ps:Ab Ar} {sp:Sp} (lk:K.lookup f=Aa ⟨oc,od,.func (Ga name qual params body scope dV kV doc pm an cdv ct),osl⟩) (hcd:Je K cdv qual=true) (S:FnScope N ps scope)
  (len:∀ vs H Q E,sp vs H Q E→vs.length=ps.length)
  (hbody:∀ (A:Bt) (outer:Ab Hu) (s:Ag) (H:Hp) (vs:Ab V) (Q:VK) (E:XK),Room k (A.deeper (Ft qual scope s.heap.objs.size f cdv))→sp vs H Q E →
   ∃ t,PSs (tZ CX P w K mg base N qual scope f cdv A outer s H E) body t∧t { nx:=λ_ H'=>Q .non H',rt:=Q } (wK N vs) H) :
  FnOk P w K mg base CX (k+1) f (Ga name qual params body scope dV kV doc pm an cdv ct) ps sp:=by
 refine⟨len,λA outer s H args us vs Q E hr e0 hb r hsp=>?_⟩;have hl:=len _ _ _ _ hsp;have KX:K.In s.heap:=e0.mod.kin.keeps λb o e=>(e0.bs b o e).1;have lim:s.heap.NoLimit:=e0.mod.nolimit.keeps λb o e=>(e0.bs b o e).1;have hkind:∀ y∈ps.zip us,scope.names.lookup y.1=Aa .local ∨ (scope.names.lookup y.1=Aa .cell∧((Gs (s.heap.objs.size+1) scope.names []).lookup y.1).isSome=true):=λ⟨n,v⟩ hy=>by
  rcases S.par n (Jx hy).1 with q|q
  ·exact .inl q
  ·exact .inr ⟨q,IN _ _ _ (.inl q)⟩
 refine Qp hr.depth (KX _ _ lk) rfl S.co S.gen rfl (Sw KX hcd) (hb _ _ _ _ ?_);refine NE S.kind hkind λenv he s1 x=>?_;subst he;refine⟨lim.keeps x.toInCall.keep,codeAny_func ?_⟩;obtain⟨t,ht,hq⟩:=hbody A outer s H vs Q E (hr.deeper _) hsp;have I:Inv (tZ CX P w K mg base N qual scope f cdv A outer s H E) [] (wK N vs) H s1:=lZ S hr.hd e0 hl r x;refine Fv (ht [] s1 (wK N vs) H _ I hq) (λfl s' hs=>?_) λe s' hs=>hs;have fin:∀ {σ' : St} {H':Hp} {v:V} {u:Ac},Inv (tZ CX P w K mg base N qual scope f cdv A outer s H E) [] σ' H' s'→qO v u→Q v H'→CE outer P w H s Q u s':=
  λ{σ' H' v u} J rv q=>⟨v,H',J.os,J.bare,J.base,J.hok,rv,q⟩
 cases fl with
 |ret u =>
  obtain⟨v,σ',H',J,rv,q⟩:=hs;exact fin J rv q
 |next =>
  obtain⟨σ',H',J,q⟩:=hs;exact fin (v:=V.non) (u:=Dj) J rfl q
 |brk =>
  obtain⟨_,_,_,q⟩:=hs;exact An q
 |cont =>
  obtain⟨_,_,_,q⟩:=hs;exact An q
end _L
namespace _H
open PySem PyProof.Rows
variable {Q:Ac→Ag→Prop}{lo hi:Al Ai}
def lexLt:Ab Ai→Ab Ai→Ap
 |[],[]=>false
 |[],_::_=>true
 |_::_,[]=>false
 |x::xs,y::ys=>if x=y then lexLt xs ys else decide (x<y)
def lexLt_cons (x y:Ai)(xs ys:Ab Ai):lexLt (x::xs) (y::ys)=if x=y then lexLt xs ys else decide (x<y):=rfl
section
variable {prog:Bd}{w:Bw}{A:Bt}{E:Ac→Ag→Prop}{s:Ag}
def cat_tup {t b:Ad}{vs ws:Ab Ac}(ht:Tu s.heap t vs.toArray)(hb:Tu s.heap b ws.toArray)(hv:vs≠[])
  (h1:ws=[]→Q (.ref t) s) (h2:ws≠[]→Q (.ref s.heap.objs.size) { s with heap:=s.heap.push { cls:=.type "tuple",data:=.seq (vs++ws).toArray } })
  (hsz:vs.length+ws.length≤sizeLine):Ao (As prog w) A (Ex .Add (.ref t) (.ref b)) Q E s:=by
 obtain⟨⟨cls,dd,data,sl⟩,ho,hc,n,hd⟩:=id ht;obtain⟨⟨cls2,dd2,data2,sl2⟩,ho2,hc2,n2,hd2⟩:=id hb;simp only at hc hd hc2 hd2;subst hc hd hc2 hd2;have e:vs.toArray++ws.toArray=(vs++ws).toArray:=by simp
 by_cases hw:ws=[]
 ·exact Tj ⟨_,ho,rfl⟩ ⟨_,ho2,rfl⟩ OP Ry Lf Kn (Kh _ _)
   (tuple_addW1 t b vs.toArray ws.toArray n n2 dd dd2 sl sl2 (by simpa using hv) (by simp[hw])) ⟨ho,ho2,h1 hw⟩
 ·refine Tj ⟨_,ho,rfl⟩ ⟨_,ho2,rfl⟩ OP Ry Lf Kn (Kh _ _)
   (tuple_addW2 t b vs.toArray ws.toArray n n2 dd dd2 sl sl2 (by simpa using hv) (by simpa using hw) (by rw[Bj,Bj];exact hsz)) ⟨ho,ho2,?_⟩
  rw[e];exact h2 hw
def sIx (n d:Ah):Al Ai→Ah
 |none=>d
 |some v=>if v<0 then (v+(n:Ai)).toNat else min v.toNat n
def DY (n d:Ah)(hd:d≤n)(o:Al Ai):sIx n d o≤n:=by
 cases o with
 |none=>exact hd
 |some v =>
  show (if v<0 then (v+(n:Ai)).toNat else min v.toNat n)≤n
  by_cases hv:v<0
  ·rw[Bg hv];omega
  ·rw[Bc hv];exact Nat.min_le_right _ _
def aA (v:Ai)(n d:Ah):(if v<0 then max (v+(n:Ai)) 0 else min v (n:Ai))=((sIx n d (Aa v):Ah):Ai):=by
 show (if v<0 then max (v+(n:Ai)) 0 else min v (n:Ai))=(((if v<0 then (v+(n:Ai)).toNat else min v.toNat n):Ah):Ai)
 by_cases hv:v<0
 ·simp only[Bg hv];omega
 ·simp only[Bc hv];omega
def o9 (lo hi:Al Ai)(n:Ah):Jr lo hi 1 (n:Ai)=(((sIx n 0 lo:Ah):Ai),((sIx n n hi:Ah):Ai)):=by
 have h1:¬ ((1:Ai)<0):=by omega
 unfold Jr;simp only[h1,Dw];refine Xs ?_ ?_
 ·cases lo with
  |none=>rfl
  |some v=>exact aA v n 0
 ·cases hi with
  |none=>rfl
  |some v=>exact aA v n n
def Q3 (i j:Ah):Ig (i:Ai) (j:Ai) 1=j-i:=by
 unfold Ig;have h1:(1:Ai)>0:=by omega
 simp only[h1,Dc,Int.ediv_one]
 split <;> omega
def tP {v:Ac}{o:Al Ai}{Q:Al Ai→Ag→Prop}(p:Oa v o)(h:Q o s):Ao (As prog w) A (Wf v) Q E s:=by
 cases p with
 |none=>exact slicePart_none h
 |int i t=>exact slicePart_int h
def jS {sl:Ad}{vl vu:Ac}{n:Ah}{Q:Ai × Ai × Ah→Ag→Prop}(hs:s.heap.IsSliceOf sl vl vu .none)(pl:Oa vl lo)(pu:Oa vu hi)
  (h:Q (((sIx n 0 lo:Ah):Ai),1,sIx n n hi-sIx n 0 lo) s):Ao (As prog w) A (Ob (.ref sl) (pure (n:Ai))) Q E s:=by
 obtain⟨os,hos,hcs,hds⟩:=id hs;unfold Ob WP;refine Af (Af (Fi hos hds (x:=vl) rfl (Af (Fi hos hds (x:=vu) rfl (Af (Fi hos hds (x:=.none) rfl (Am ?_)))))));refine Af (slicePart_none ?_);show Ao _ _ (if ((1:Ai) == 0)=true then _ else _) _ _ s
 rw[Bc (by decide)]
 refine Af (tP pl (Af (tP pu (Af (Am ?_)))));show Ao _ _ (match Jr lo hi 1 (n:Ai) with|(lo,hi)=>pure (lo,(1:Ai),Ig lo hi 1)) _ _ s
 rw[o9 lo hi n];show Ao _ _ (pure (((sIx n 0 lo:Ah):Ai),(1:Ai),Ig ((sIx n 0 lo:Ah):Ai) ((sIx n n hi:Ah):Ai) 1)) _ _ s;rw[Q3];exact Am h
def U2 (xs:Av Ac)(i k:Ah):((By k).filterMap λ(m:Ah)=>xs[((i:Ai)+(m:Ai)*1).toNat]?).toArray=((xs.toList.drop i).take k).toArray:=by
 have e:(λ(m:Ah)=>xs[((i:Ai)+(m:Ai)*1).toNat]?)=λm=>xs[i+m]?:=by
  funext m
  have:((i:Ai)+(m:Ai)*1).toNat=i+m:=by omega
  rw[this]
 rw[e];have:=pick_run xs i k;rw[List.filterMap_map] at this;have e2:((λx=>xs[x]?)∘λx=>i+x)=λm=>xs[i+m]?:=rfl;rw[e2] at this;rw[this]
def getItem_tuple_cut {t sl:Ad}{items:Av Ac}{vl vu:Ac}(ht:Tu s.heap t items)(hs:s.heap.IsSliceOf sl vl vu .none)(pl:Oa vl lo)(pu:Oa vu hi)
  (hw:¬ (sIx items.size 0 lo=0∧sIx items.size items.size hi=items.size))
  (h:Q (.ref s.heap.objs.size) { s with heap:=s.heap.push { cls:=.type "tuple",data:=.seq ((items.toList.drop (sIx items.size 0 lo)).take (sIx items.size items.size hi-sIx items.size 0 lo)).toArray } })
  (hsz:items.size≤sizeLine):Ao (As prog w) A (Ko (.ref t) (.ref sl)) Q E s:=by
 have htake:sizeOk (.seq ((items.toList.drop (sIx items.size 0 lo)).take (sIx items.size items.size hi-sIx items.size 0 lo)).toArray):=by
  show ((items.toList.drop (sIx items.size 0 lo)).take (sIx items.size items.size hi-sIx items.size 0 lo)).toArray.size≤sizeLine;rw[Bj,Gt,Lo,Bh];omega
 have hj:sIx items.size items.size hi≤items.size:=DY _ _ (Ax _) hi;obtain⟨os,hos,hcs,hds⟩:=id hs;have hTs:s.TypeIs (.ref sl) "slice":=⟨os,hos,hcs⟩;unfold Ko
 try with_reducible refine Ed ?_
 first|refine Af (Am ?_)|skip
 refine Af (Ua ht.typeIs (by decide) ?_)
 refine Af (Ev (name:=IC "__getitem__") ht.typeIs Es
  (Et Es ht.typeIs Rz ?_ (Sx _ _)))
 show Ao _ _ (Oc (.ref t) >>= _) _ _ s;refine Af (tupleItemsOf_ ht ?_);refine Af (Kq hTs ?_);rw[Bg (by decide)]
 refine Af (jS hs pl pu ?_);have hno:¬ ((((sIx items.size 0 lo:Ah):Ai) == 0&&(1:Ai) == 1&&(sIx items.size items.size hi-sIx items.size 0 lo) == items.size)=true):=by
  intro q;rw[Bn,Bn] at q;have q1:((sIx items.size 0 lo:Ah):Ai)=0:=eq_of_beq q.1.1;have q2:sIx items.size items.size hi-sIx items.size 0 lo=items.size:=eq_of_beq q.2;exact hw ⟨by omega,by omega⟩
 show Ao _ _ (if (((sIx items.size 0 lo:Ah):Ai) == 0&&(1:Ai) == 1&&(sIx items.size items.size hi-sIx items.size 0 lo) == items.size)=true then _ else _) _ _ s
 rw[Bc hno,U2]
 first
  |exact Af (m:=Ir _) (Ek (Am ⟨_,rfl,Am h⟩) htake)
  |exact Af (m:=Ir _) (Ek (Af (Am (Am ⟨_,rfl,Am h⟩))) htake)
  |exact Af (Af (m:=Ir _) (Ek (Am (Am ⟨_,rfl,Am h⟩)) htake))
  |exact Af (Af (m:=Ir _) (Ek (Am ⟨_,rfl,Am h⟩) htake))
end
end _H
namespace _L
open PySem PySem.Spec PyProof.Rows
abbrev TO:=St→Hp→(Al Ai→Hp→Prop)→Prop
def PO (X:Cx)(e:Al Bv)(t:TO):Prop:=
 ∀ (pins:Ab (Ad × Cg)) (s:Ag) (σ : St) (H:Hp) (Q:Al Ai→Hp→Prop),Inv X pins σ H s→t σ H Q →
  Ao (As X.prog X.w) X.A (evalPart e X.env) (λu s'=>∃ o H',Inv X pins σ H' s'∧Oa u o∧Q o H') X.xe s
def H0 (t:TE):TO:=λσ H Q=>t σ H λx H1=>∃ i,x=.int i∧Q (Aa i) H1
def mT {ns:Ab Ai}:∀ {us:Ab Ac},qP (ns.map V.int) us→Ou us ns:=by
 induction ns with
 |nil=>intro us r;rw[Tk] at r;cases r;exact .nil
 |cons n ns ih =>
  intro us r;rw[Dt] at r;cases r with
  |cons r1 r2 =>
   obtain⟨t,e⟩:=r1;subst e;exact .cons n t (ih r2)
section
variable {X:Cx}{e:Bv}{te:TE}{lo hi:Al Bv}{tl th:TO}{pos p2:EQ}
def BB (h:PE X e te):PO X (Aa e) (H0 te):=by
 intro pins s σ H Q I hw;rw[evalPart_some];refine thn (h pins s σ H _ I hw) λu s1 ⟨x,H1,I1,r1,q1⟩=>?_;obtain⟨i,rfl,q⟩:=q1;obtain⟨t,rfl⟩:=r1;exact⟨Aa i,H1,I1,.int i t,q⟩
def SlR (X:Cx)(r:V→Al Ai→Al Ai→Hp→VK→Prop):Prop:=
 ∀ (pins:Ab (Ad × Cg)) (s:Ag) (σ : St) (H:Hp) (x:V) (v vl vu:Ac) (lo hi:Al Ai) (sl:Ad) (Q:VK),Inv X pins σ H s→qO x v→s.heap.IsSliceOf sl vl vu .none→Oa vl lo→Oa vu hi→r x lo hi H Q →
  ∃ T id,Wg (.type T) "__getitem__" = pure (Aa (.builtin id))∧s.TypeIs v T∧Ao (As X.prog X.w) X.A (Ko v (.ref sl)) (EP X pins σ Q) X.xe s
def SlR.or {r r':V→Al Ai→Al Ai→Hp→VK→Prop}(h:SlR X r)(h':SlR X r'):SlR X (λx lo hi H Q=>r x lo hi H Q∨r' x lo hi H Q):=by
 intro pins s σ H x v vl vu lo hi sl Q I rx hs pl pu q;rcases q with q|q
 ·exact h pins s σ H x v vl vu lo hi sl Q I rx hs pl pu q
 ·exact h' pins s σ H x v vl vu lo hi sl Q I rx hs pl pu q
def tSl (r:V→Al Ai→Al Ai→Hp→VK→Prop)(te:TE)(tl th:TO):TE:=λσ H Q=>te σ H λx H1=>tl σ H1 λl H2=>th σ H2 λu H3=>r x l u H3 Q
def U0 {r:V→Al Ai→Al Ai→Hp→VK→Prop}(hr:SlR X r)(he:PE X e te)(hl:PO X lo tl)(hu:PO X hi th):PE X (.Subscript e (.Slice lo hi none p2) pos) (tSl r te tl th):=by
 intro pins s σ H Q I h;refine Wh (thn (he pins s σ H _ I h) λv s1 ⟨x,H1,I1,r1,q1⟩=>?_);refine wpAny_Slice (thn (hl pins s1 σ H1 _ I1 q1) λvl s2 ⟨l,H2,I2,pl,q2⟩=>thn (hu pins s2 σ H2 _ I2 q2) λvu s3 ⟨u,H3,I3,pu,q3⟩=>?_);rw[evalPart_none];refine Am ?_;have I4:Inv X pins σ H3 { s3 with heap:=s3.heap.push { cls:=.type "slice",data:=.fields #[vl,vu,.none] } }:=I3.kept (t':=s3.toks) λb ob q=>Aj _ q
 obtain⟨T,id,hT,ht,hg⟩:=hr pins { s3 with heap:=s3.heap.push { cls:=.type "slice",data:=.fields #[vl,vu,.none] } } σ H3 x v vl vu l u s3.heap.objs.size Q I4 r1 (Ye ..) pl pu q3
 show Ao (As X.prog X.w) X.A (Ov e (.Slice lo hi none p2) v (.ref s3.heap.objs.size)) (EP X pins σ Q) X.xe { s3 with heap:=s3.heap.push { cls:=.type "slice",data:=.fields #[vl,vu,.none] } }
 exact tail_any (ops:=[.ref s3.heap.objs.size,v]) ht hT hg (by with_unfolding_all rfl)
def pQ (xs:Ab V)(lo hi:Al Ai):Ab V:=(xs.drop (_H.sIx xs.length 0 lo)).take (_H.sIx xs.length xs.length hi-_H.sIx xs.length 0 lo)
def fG (xs:Ab V)(lo hi:Al Ai):(pQ xs lo hi).length≤xs.length:=by
 unfold pQ;rw[Gt,Lo];omega
def A7 (K:Ak):V→Al Ai→Al Ai→Hp→VK→Prop:=λx lo hi H Q=>∃ a xs,x=.ref a∧SqT K H a xs ∧
 ¬ (_H.sIx xs.length 0 lo=0∧_H.sIx xs.length xs.length hi=xs.length)∧∀ p,H p=none→Q (.ref p) (upd H p (.tup (pQ xs lo hi)))
def SB:SlR X (A7 X.K):=by
 intro pins s σ H x v vl vu lo hi sl Q I rx hs pl pu h;obtain⟨a,xs,rfl,hx,hw,q⟩:=h;cases rx;obtain⟨its,r,ht,hz⟩:=I.tuple hx;have hlen:its.toArray.size=xs.length:=by rw[Bj];exact r.length.symm
 refine⟨"tuple",_,Es.lookup,ht.typeIs,?_⟩;refine _H.getItem_tuple_cut ht hs pl pu (by rw[hlen];exact hw) ?_ (by rw[hlen];exact hz)
 rw[hlen];refine⟨.ref s.heap.objs.size,_,I.laid (t':=s.toks) (o:=.tup (pQ xs lo hi)) (λb ob q=>Aj _ q) (Ax _) ?_,rfl,q _ (I.hok.fresh (Ax _))⟩;exact⟨Eb (fG xs lo hi) hz,_,(r.drop (_H.sIx xs.length 0 lo)).take (_H.sIx xs.length xs.length hi-_H.sIx xs.length 0 lo),Tx _ _⟩
end
end _L
namespace _L
open PySem PySem.Spec PyProof.Rows
variable {pins:Ab (Ad × Cg)}{s:Ag}{H:Hp}{σ:St}
def ixN (n:Ah)(i:Ai):Al Ah:=if 0≤i then (if i<n then Aa i.toNat else none) else if -(n:Ai)≤i then Aa (i+n).toNat else none
def atI {α:Type}(xs:Ab α)(i:Ai):Al α:=(ixN xs.length i).bind λj=>xs[j]?
def aX {n:Ah}{i:Ai}{j:Ah}(h:ixN n i=Aa j):Ub i n=Aa j∧j<n ∧ -(n:Ai)≤i∧i<n:=by
 unfold ixN at h;by_cases h0:0≤i
 ·rw[Bg h0] at h
  by_cases h1:i<n
  ·rw[Bg h1] at h
   have e:i.toNat=j:=Co h;exact⟨by rw[Va h0 h1,e],by omega,by omega,h1⟩
  ·rw[Bc h1] at h;cases h
 ·rw[Bc h0] at h
  by_cases h1 : -(n:Ai)≤i
  ·rw[Bg h1] at h
   have e:(i+n).toNat=j:=Co h;exact⟨by rw[seqIndex_neg om h1,e],by omega,h1,by omega⟩
  ·rw[Bc h1] at h;cases h
def cX {α:Type}{xs:Ab α}{i:Ai}{v:α}(h:atI xs i=Aa v):∃ j,Ub i xs.length=Aa j∧xs[j]? = Aa v∧j<xs.length ∧ -(xs.length:Ai)≤i∧i<xs.length:=by
 unfold atI at h;cases e:ixN xs.length i with
 |none=>rw[e] at h;cases h
 |some j =>
  rw[e] at h;obtain⟨h1,h2,h3,h4⟩:=aX e;exact⟨j,h1,h,h2,h3,h4⟩
def tV (b:Bv):Prop:=∀ o i,subscripted b false o i=operate [o,i] (Ko o i)
def IxR (X:Cx)(r:R2):Prop:=
 ∀ (value slice:Bv) (pins:Ab (Ad × Cg)) (s:Ag) (σ : St) (H:Hp) (x y:V) (v u:Ac) (Q:VK),Inv X pins σ H s→qO x v→qO y u→r x y H Q →
  subscripted slice false v u=operate [v,u] (Ko v u)→Ao (As X.prog X.w) X.A (Ov value slice v u) (EP X pins σ Q) X.xe s
def MtR (X:Cx)(id:Do)(r:V→Ab V→Hp→VK→Prop):Prop:=
 ∀ (pins:Ab (Ad × Cg)) (s:Ag) (σ : St) (H:Hp) (x:V) (xs:Ab V) (v:Ac) (us:Ab Ac) (Q:VK),Inv X pins σ H s→qO x v→qP xs us→r x xs H Q →
  Ao (As X.prog X.w) X.A (call (.builtin id) (v::us)) (EP X pins σ Q) X.xe s
section
variable {X:Cx}{a b:Bv}{ta tb:TE}{pos:EQ}
def IxR.or {r r':R2}(h:IxR X r)(h':IxR X r'):IxR X (λx y H Q=>r x y H Q∨r' x y H Q):=by
 intro value slice pins s σ H x y v u Q I rx ry q hs;rcases q with q|q
 ·exact h value slice pins s σ H x y v u Q I rx ry q hs
 ·exact h' value slice pins s σ H x y v u Q I rx ry q hs
def MtR.or {id:Do}{r r':V→Ab V→Hp→VK→Prop}(h:MtR X id r)(h':MtR X id r'):MtR X id (λx xs H Q=>r x xs H Q∨r' x xs H Q):=by
 intro pins s σ H x xs v us Q I rx rs q;rcases q with q|q
 ·exact h pins s σ H x xs v us Q I rx rs q
 ·exact h' pins s σ H x xs v us Q I rx rs q
def E9 {r:R2}(hr:IxR X r)(ha:PE X a ta)(hb:PE X b tb)(hs:tV b):PE X (.Subscript a b pos) (tOp r ta tb):=by
 intro pins s σ H Q I h;exact Wh (HY ha hb I h λv u s2 x y H2 I2 rx ry q=>hr a b pins s2 σ H2 x y v u Q I2 rx ry q (hs _ _))
def A3 (K:Ak):R2:=λx y H Q=>∃ p xs i v,x=.ref p∧y=.int i∧SqL K H p xs∧atI xs i=Aa v∧Q v H
def A4 (K:Ak):R2:=λx y H Q=>∃ p xs i v,x=.ref p∧y=.int i∧SqT K H p xs∧atI xs i=Aa v∧Q v H
def aY:IxR X (A3 X.K):=by
 intro value slice pins s σ H x y v u Q I rx ry h hs;obtain⟨p,xs,i,z,rfl,rfl,hq,he,q⟩:=h;cases rx;obtain⟨t,rfl⟩:=ry;obtain⟨its,r,pl,hz⟩:=I.list hq;obtain⟨j,h1,h2,h3,h4,h5⟩:=cX he;obtain⟨w,ew,rw'⟩:=r.get h2;have hl:=r.length;have hn:=b7;have fin:EP X pins σ Q w s:=⟨z,H,I,rw',q⟩;by_cases h0:0≤i
 ·have hj:i.toNat=j:=by
   rw[Va h0 h5] at h1;exact Co h1
  exact item_listR pl.isList h0 om (by rw[hj];simpa using ew) fin hs
 ·have hj:(i+(its.toArray.size:Ai)).toNat=j:=by
   rw[seqIndex_neg om h4] at h1;rw[Bj,← hl];exact Co h1
  exact Pv (x:=w) pl.isList.typeIs Uc.lookup
   (wpAny_getItem_list_neg (Q:=λr s'=>r=w∧EP X pins σ Q r s') pl.isList om (by rw[Bj] <;> omega) om (by rw[hj];simpa using ew) ⟨rfl,fin⟩) hs
def N0:IxR X (A4 X.K):=by
 intro value slice pins s σ H x y v u Q I rx ry h hs;obtain⟨p,xs,i,z,rfl,rfl,hq,he,q⟩:=h;cases rx;obtain⟨t,rfl⟩:=ry;obtain⟨its,r,pl,hz⟩:=I.tuple hq;obtain⟨j,h1,h2,h3,h4,h5⟩:=cX he;obtain⟨w,ew,rw'⟩:=r.get h2;have hl:=r.length;have hn:=b7;have fin:EP X pins σ Q w s:=⟨z,H,I,rw',q⟩;exact Pv (x:=w) pl.typeIs slot_tuple_getitem.lookup
  (getItem_tuple (j:=j) (Q:=λr s'=>r=w∧EP X pins σ Q r s') pl om om (by rw[Bj,← hl];exact h1) (by simpa using ew) ⟨rfl,fin⟩) hs
def oY (its:Ab Ac)(n j:Ah)(u:Ac):El (·.setIfInBounds j u) { cls:=.type "list",data:=.seq its.toArray n } = { cls:=.type "list",data:=.seq (its.set j u).toArray n }:=by
 simp[El]
def Inv.lst {p:Ad}{xs:Ab V}(I:Inv X pins σ H s)(h:H p=Aa (.lst xs)) :
  ∃ (its:Ab Ac) (n:Ah),qP xs its∧s.heap.get? p=Aa { cls:=.type "list",data:=.seq its.toArray n } ∧ xs.length≤sizeLine:=by
 obtain⟨z,its,n,r,e⟩:=I.hok p _ h;exact⟨its,n,r,e,z⟩
def Inv.lstUpd {p:Ad}{xs ys:Ab V}{its its':Ab Ac}{n n':Ah}{f:Cg→Cg}(I:Inv X pins σ H s)(h:H p=Aa (.lst xs))
  (ho:s.heap.get? p=Aa { cls:=.type "list",data:=.seq its.toArray n }) (hf:f { cls:=.type "list",data:=.seq its.toArray n } = { cls:=.type "list",data:=.seq its'.toArray n' }) (r:qP ys its') (hz:ys.length≤sizeLine) (t:Ah) :
  Inv X pins σ (upd H p (.lst ys)) { s with heap:=s.heap.update p f,toks:=t }:=by
 have e:(s.heap.update p f).get? p=Aa { cls:=.type "list",data:=.seq its'.toArray n' }:=by
  rw[Fj f ho (by rw[hf] <;> rfl),hf]
 refine I.write (x:=p) (e:=p) (by rw[h];trivial) (.inl rfl) (λb u hb q=>(Dd _ _ (Fu hb)).trans q) ⟨_,e⟩ ?_
 exact⟨hz,its',n',r,e⟩
def EI:V→V→V→Hp→(Hp→Prop)→Prop:=λo i v H Q=>∃ p xs k j,o=.ref p∧i=.int k∧H p=Aa (.lst xs)∧ixN xs.length k=Aa j∧Q (upd H p (.lst (xs.set j v)))
def UJ:sQ X EI:=by
 intro pins s σ H o i v ov iv u Q I ro ri rv h;obtain⟨p,xs,k,j,rfl,rfl,hp,hj,q⟩:=h;cases ro;obtain⟨t,rfl⟩:=ri;obtain⟨its,n,r,ho,hz⟩:=I.lst hp;obtain⟨h1,h2,h3,h4⟩:=aX hj;have hl:=r.length;have hn:=b7;have I':Inv X pins σ (upd H p (.lst (xs.set j v))) { s with heap:=s.heap.update p (El (·.setIfInBounds j u)) }:=
  I.lstUpd hp ho (oY its n j u) (r.set rv j) (by rw[Vs];exact hz) s.toks
 by_cases h0:0≤k
 ·have hk:k.toNat=j:=by
   rw[Va h0 h4] at h1;exact Co h1
  exact PySem.W.ki_setAt ho h0 om (by rw[Bj,← hl];exact h4) (by rw[hk];exact⟨_,I',q⟩)
 ·have hk:(k+(its.toArray.size:Ai)).toNat=j:=by
   rw[seqIndex_neg om h3] at h1;rw[Bj,← hl];exact Co h1
  exact PySem.W.ki_setBack ho om (by rw[Bj,← hl];exact h3) om (by rw[hk];exact⟨_,I',q⟩)
def hZ (lo hi:Al Ai)(n:Ah):(Jy lo hi none n).1=((_H.sIx n 0 lo:Ah):Ai)∧(Jy lo hi none n).2.1=((_H.sIx n n hi:Ah):Ai)∧(Jy lo hi none n).2.2=1:=by
 refine⟨?_,?_,rfl⟩
 ·cases lo with
  |none=>simp[Jy,_H.sIx]
  |some i =>
   simp only[Jy,_H.sIx,Vb,show (1:Ai)>0 by decide,Dc]
   by_cases h:i<0
   ·simp only[h,Dc] <;> omega
   ·simp only[h,Dw] <;> omega
 ·cases hi with
  |none=>simp[Jy,_H.sIx]
  |some i =>
   simp only[Jy,_H.sIx,Vb,show (1:Ai)>0 by decide,Dc]
   by_cases h:i<0
   ·simp only[h,Dc] <;> omega
   ·simp only[h,Dw] <;> omega
def dX (its:Ab Ac)(lo hi:Al Ai):slicePick its.toArray lo hi none=((its.drop (_H.sIx its.length 0 lo)).take (_H.sIx its.length its.length hi-_H.sIx its.length 0 lo)).toArray:=by
 obtain⟨h1,h2,h3⟩:=hZ lo hi its.toArray.size;unfold slicePick;rw[h1,h2,h3];simp only[sliceRange_one,pick_run,Bj] <;> rfl
def A6 (K:Ak):V→Al Ai→Al Ai→Hp→VK→Prop:=λx lo hi H Q=>∃ a xs,x=.ref a∧SqL K H a xs∧∀ p,H p=none→Q (.ref p) (upd H p (.lst (pQ xs lo hi)))
def iS:SlR X (A6 X.K):=by
 intro pins s σ H x v vl vu lo hi sl Q I rx hs pl pu h;obtain⟨a,xs,rfl,hx,q⟩:=h;cases rx;obtain⟨its,r,ht,hz⟩:=I.list hx;have hlen:=r.length;refine⟨"list",_,Uc.lookup,ht.isList.typeIs,?_⟩;refine wpAny_getItem_list_slice ht.isList hs pl pu .none (by simp) ?_ (by rw[Bj] <;> omega)
 rw[dX,← hlen];refine⟨.ref s.heap.objs.size,_,I.laid (t':=s.toks) (o:=.lst (pQ xs lo hi)) (λb ob q=>Aj _ q) (Ax _) ?_,rfl,q _ (I.hok.fresh (Ax _))⟩;exact⟨Eb (fG xs lo hi) hz,_,0,(r.drop (_H.sIx xs.length 0 lo)).take (_H.sIx xs.length xs.length hi-_H.sIx xs.length 0 lo),Bi _ rfl⟩
def gF.or {f:Ac}{r r':Ab V→Hp→VK→Prop}(h:gF X f r)(h':gF X f r'):gF X f (λxs H Q=>r xs H Q∨r' xs H Q):=by
 intro pins s σ H xs us Q I rs q;rcases q with q|q
 ·exact h pins s σ H xs us Q I rs q
 ·exact h' pins s σ H xs us Q I rs q
def pL:gF X (.type "tuple") (λxs H Q=>∃ p ys,xs=[.ref p]∧((SqL X.K H p ys∧∀ l,H l=none→Q (.ref l) (upd H l (.tup ys)))∨(SqT X.K H p ys∧Q (.ref p) H))):=by
 intro pins s σ H xs us Q I r h;obtain⟨p,ys,rfl,h⟩:=h;obtain⟨u,rfl,rx⟩:=pG r;cases rx;rcases h with⟨hq,q⟩|⟨hq,q⟩
 ·obtain⟨its,r',pl,hz⟩:=I.list hq
  have hlen:=r'.length;refine call_tuple_list pl.isList (λh' kp=>?_) (by simp only[Bj] <;> omega)
  have I1:Inv X pins σ H { s with heap:=h' }:=I.kept (t':=s.toks) kp
  have I2:Inv X pins σ (upd H h'.objs.size (.tup ys)) { s with heap:=h'.push { cls:=.type "tuple",data:=.seq its.toArray } }:=
   I1.laid (t':=s.toks) (λb o e=>Aj _ e) (Ax _) (show zK X.prog X.w _ _ _ (.tup ys) from⟨hz,its,r',Tx _ _⟩)
  exact⟨.ref h'.objs.size,_,I2,rfl,q _ (I1.hok.fresh (Ax _))⟩
 ·obtain⟨its,r',pl,hz⟩:=I.tuple hq
  exact call_tuple_same pl ⟨.ref p,H,I,rfl,q⟩
def tyV (K:Ak)(T:Do)(x:V)(H:Hp):Prop:=match x with
 |.str _=>T = "str"
 |.int _=>T = "int"
 |.ref p=>(T = "list" ∧ ∃ xs,SqL K H p xs)∨(T = "tuple" ∧ ∃ o,K.lookup p=Aa o∧o.cls=.type "tuple" ∧ o.dict=none) ∨
   (T = "dict" ∧ ((∃ kvs,H p=Aa (.dK kvs))∨∃ kvs,H p=Aa (.dT kvs)))∨(T = "set" ∧ ∃ S n,H p=Aa (.set S n))
 |_=>Fa
def SN {T:Do}{x:V}{v:Ac}(I:Inv X pins σ H s)(r:qO x v)(ty:tyV X.K T x H) :
  s.TypeIs v T∧∀ a,v=.ref a→∃ ob,s.heap.get? a=Aa ob∧ob.dict=none:=by
 cases x with
 |str z =>
  obtain⟨t,rfl⟩:=r;cases (show T = "str" from ty)
  exact⟨typeIs_str s z t,λ_ e=>nomatch e⟩
 |int i =>
  obtain⟨t,rfl⟩:=r;cases (show T = "int" from ty)
  exact⟨typeIs_int s i t,λ_ e=>nomatch e⟩
 |ref p =>
  cases r;rcases ty with⟨rfl,xs,hq⟩|⟨rfl,o,hk,hc,hd⟩|⟨rfl,hk⟩|⟨rfl,S,n,hk⟩
  ·obtain⟨its,_,pl,_⟩:=I.list hq
   refine⟨pl.isList.typeIs,λa e=>?_⟩;cases e;obtain⟨o,n,e,c,hd,_⟩:=pl;exact⟨o,e,hd⟩
  ·refine⟨⟨o,I.kIn p o hk,hc⟩,λa e=>?_⟩
   cases e;exact⟨o,I.kIn _ o hk,hd⟩
  ·have z:∃ o,s.heap.get? p=Aa o∧o.ExactDict:=by
    rcases hk with⟨kvs,hk⟩|⟨kvs,hk⟩
    ·obtain⟨_,_,_,_,o,_,_,e,ex,_⟩:=I.hok p _ hk
     exact⟨o,e,ex⟩
    ·obtain⟨_,_,_,_,o,_,_,e,ex,_⟩:=I.hok p _ hk
     exact⟨o,e,ex⟩
   obtain⟨o,e,ex⟩:=z;refine⟨⟨o,e,ex.1⟩,λa e2=>?_⟩;cases e2;exact⟨o,e,ex.2.1⟩
  ·obtain⟨o,_,_,_,e,ex,_⟩:=I.hok p _ hk
   refine⟨⟨o,e,ex.1⟩,λa e2=>?_⟩;cases e2;exact⟨o,e,ex.2.1⟩
 |_=>exact An ty
variable {o e:Bv}{es:Ab Bv}{to:TE}{t:TA}{name:Ar}{apos cpos:EQ}{T id:Do}{r:V→Ab V→Hp→VK→Prop}
/- xs.append(e),list.index on a module's tuple .. are MtR facts of 06m -/
end
end _L
namespace _L
open PySem PySem.Spec PyProof.Rows
variable {us:Ab Ac}
def MtM (X:Cx)(id:Do)(r:V→Ab V→Hp→VK→Prop):Prop:=
 ∀ (pins:Ab (Ad × Cg)) (s:Ag) (σ : St) (H:Hp) (x:V) (xs:Ab V) (v:Ac) (us:Ab Ac) (Q:VK),Inv X pins σ H s→qO x v→qP xs us→r x xs H Q →
  Ao (As X.prog X.w) X.A (call (.builtin id) (v::us)) (EP X pins σ Q) X.xe s
def qP.one {x:V}(h:qP [x] us):∃ u,us=[u]∧qO x u:=pG h
def qP.two {x y:V}(h:qP [x,y] us):∃ u v,us=[u,v]∧qO x u∧qO y v:=sN h
def qP.eraseIdx:∀ {xs:Ab V} {us:Ab Ac} (i:Ah),qP xs us→qP (xs.eraseIdx i) (us.eraseIdx i)
 |_,_,_,.nil=>.nil
 |_,_,0,.cons _ t=>t
 |_,_,i+1,.cons r t=>.cons r (qP.eraseIdx i t)
def d9 {α:Type}:∀ (l:Ab α) (i:Ah),(l.eraseIdx i).length≤l.length
 |[],_=>Ax _
 |_::_,0=>Od _
 |_::r,i+1=>Nat.succ_le_succ (d9 r i)
section
variable {X:Cx}{pins:Ab (Ad × Cg)}{σ : St}{H:Hp}{s:Ag}{l b:Ad}{xs ys zs:Ab V}
def Inv.lset {its its':Ab Ac}{n:Ah}{f:Av Ac→Av Ac}{t':Ah}(I:Inv X pins σ H s)(hH:H l=Aa (.lst xs))
  (e:s.heap.get? l=Aa { cls:=.type "list",data:=.seq its.toArray n }) (hf:f its.toArray=its'.toArray) (hv:qP ys its') (hz:ys.length≤sizeLine) :
  Inv X pins σ (upd H l (.lst ys)) { s with heap:=s.heap.update l (El f),toks:=t' }:=by
 have q:=Vc e f;rw[hf] at q;refine I.write (x:=l) (e:=l) (by rw[hH];exact trivial) (.inl rfl) (λb' u hb hu=>(Dd s.heap (El f) (Fu hb)).trans hu) ⟨_,q⟩ ?_
 exact⟨hz,its',_,hv,q⟩
def Inv.lstM (I:Inv X pins σ H s)(hH:H l=Aa (.lst xs)):xs.length≤sizeLine∧∃ (its:Ab Ac) (n:Ah),qP xs its∧xs.length=its.length∧s.heap.get? l=Aa { cls:=.type "list",data:=.seq its.toArray n }:=by
 obtain⟨z,its,n,r,e⟩:=I.hok l _ hH;exact⟨z,its,n,r,r.length,e⟩
end
section
variable {X:Cx}
def BO:V→Ab V→Hp→VK→Prop:=λx vs H Q=>∃ l xs y,x=.ref l∧vs=[y]∧H l=Aa (.lst xs)∧xs.length<sizeLine∧Q .non (upd H l (.lst (xs++[y])))
def X8:MtM X "list.append" BO:=by
 intro pins s σ H x vs v us Q I rx rv h;obtain⟨l,xs,y,rfl,rfl,hH,hz,q⟩:=h;cases rx;obtain⟨u,rfl,ru⟩:=rv.one;obtain⟨z,its,n,r,hl,e⟩:=I.lstM hH;refine OQ Sy ⟨_,e,rfl⟩ Sa (Rj _ _) (Ud l its.toArray n u (by rw[Bj];omega)) ⟨e,?_⟩
 refine⟨.non,_,I.lset (its':=its++[u]) hH e (by simp) (r.append (.cons ru .nil)) ?_,rfl,q⟩
 rw[Df,Lp];omega
def DQ:V→Ab V→Hp→VK→Prop:=λx vs H Q=>∃ l xs i k y,x=.ref l∧vs=[.int i]∧H l=Aa (.lst xs) ∧ -(2 ^ 63)≤i∧i<2 ^ 63∧Ub i xs.length=Aa k∧xs[k]? = Aa y∧Q y (upd H l (.lst (xs.eraseIdx k)))
def VS:MtM X "list.pop" DQ:=by
 intro pins s σ H x vs v us Q I rx rv h;obtain⟨l,xs,i,k,y,rfl,rfl,hH,h1,h2,hk,hy,q⟩:=h;cases rx;obtain⟨u,rfl,ru⟩:=rv.one;obtain⟨t,rfl⟩:=ru;obtain⟨z,its,n,r,hl,e⟩:=I.lstM hH;obtain⟨w,hw,rw'⟩:=r.get hy;refine OQ F.slot_list_pop ⟨_,e,rfl⟩ F.entry_list_pop (F.args_list_pop_2 _ _)
  (MeetsSeq.list_pop_at l its.toArray n i t k w (fitsIndex_both h1 h2) (by rw[Bj,← hl];exact hk) (by rw[← Bf];exact hw) (by rw[Bj];omega)) ⟨e,?_⟩
 refine⟨y,_,I.lset (its':=its.eraseIdx k) hH e ?_ (r.eraseIdx k) ?_,rw',q⟩
 ·show its.toArray.eraseIdxIfInBounds k=(its.eraseIdx k).toArray
  rw[List.eraseIdxIfInBounds_toArray]
 ·have:=d9 xs k
  omega
end
end _L
namespace _L
open PySem PySem.Spec PyProof.Rows
variable {xs:Ab (Ab Key × Ad × Ac)}{kvs:Ab (Ab Key × V)}{Q:Ac→Ag→Prop}{H':Hp}
section
variable {κ : Type}[DecidableEq κ]
def yU (kvs:Ab (κ × V))(k:κ):Al V:=(kvs.find? λkv=>decide (kv.1=k)).map (·.2)
def vR (kvs:Ab (κ × V))(k:κ)(v:V):Ab (κ × V):=
 if (kvs.any λkv=>decide (kv.1=k))=true then kvs.map (λkv=>if kv.1=k then (kv.1,v) else kv) else kvs++[(k,v)]
def mI {p:κ × V}{r:Ab (κ × V)}{k:κ}(e:p.1=k):yU (p::r) k=Aa p.2:=by simp[yU,IP,e]
def mH {p:κ × V}{r:Ab (κ × V)}{k:κ}(e:¬ p.1=k):yU (p::r) k=yU r k:=by simp[yU,IP,e]
def cI (k:κ):∀ kvs:Ab (κ × V),(kvs.any λkv=>decide (kv.1=k))=(yU kvs k).isSome
 |[]=>rfl
 |p::r=>by
  rw[IQ];by_cases e:p.1=k
  ·simp only[mI e,Cs e,Xn,Sz]
  ·rw[mH e,Cn e,Xa];exact cI k r
def fH (kvs:Ab (κ × V))(k:κ)(v:V):(vR kvs k v).length≤kvs.length+1:=by
 unfold vR
 split
 ·rw[Bk];omega
 ·rw[Df,Dh,Ia];omega
def vZ.isSome_eq {o:Al V}{u:Al Ac}(r:vZ o u):o.isSome=u.isSome:=by
 cases o with
 |none=>cases u with
  |none=>rfl
  |some _=>exact(show Fa from r).elim
 |some _=>cases u with
  |none=>exact(show Fa from r).elim
  |some _=>rfl
def vZ.getD {o:Al V}{u:Al Ac}{d:V}{d':Ac}(r:vZ o u)(rd:qO d d'):qO (o.getD d) (u.getD d'):=by
 cases o with
 |none=>cases u with
  |none=>exact rd
  |some _=>exact(show Fa from r).elim
 |some _=>cases u with
  |none=>exact(show Fa from r).elim
  |some _=>exact r
def KV.val {kvs:Ab (κ × V)}{vs:Ab (κ × Ac)}(r:KV kvs vs)(k:κ):vZ (yU kvs k) (Pw vs k):=by
 unfold KV at r
 induction r with
 |nil=>exact Hc
 |@cons p q ps qs h t ih =>
  obtain⟨h1,h2⟩:=h;by_cases e:p.1=k
  ·have e':q.1=k:=h1.symm.trans e
   have b:Pw (q::qs) k=Aa q.2:=by simp[Pw,IP,e']
   rw[mI e,b];exact h2
  ·have e':¬ q.1=k:=λz=>e (h1.trans z)
   have b:Pw (q::qs) k=Pw qs k:=by simp[Pw,IP,e']
   rw[mH e,b];exact ih
def KV.any {kvs:Ab (κ × V)}{vs:Ab (κ × Ac)}(r:KV kvs vs)(k:κ):(kvs.any λkv=>decide (kv.1=k))=vs.any λkv=>decide (kv.1=k):=by
 unfold KV at r
 induction r with
 |nil=>rfl
 |cons h t ih=>rw[IQ,IQ,ih,h.1]
def KV.repl {kvs:Ab (κ × V)}{vs:Ab (κ × Ac)}(r:KV kvs vs)(k:κ){y:V}{u:Ac}(ry:qO y u) :
  KV (kvs.map λkv=>if kv.1=k then (kv.1,y) else kv) (vs.map λkv=>if kv.1=k then (kv.1,u) else kv):=by
 unfold KV at r ⊢
 induction r with
 |nil=>exact .nil
 |@cons p q ps qs h t ih =>
  rw[Dt,Dt];refine .cons ?_ ih;obtain⟨h1,h2⟩:=h;by_cases e:p.1=k
  ·rw[Bg e,Bg (h1.symm.trans e)];exact⟨h1,ry⟩
  ·rw[Bc e,Bc (λz=>e (h1.trans z))];exact⟨h1,h2⟩
def KV.put {kvs:Ab (κ × V)}{vs:Ab (κ × Ac)}(r:KV kvs vs)(k:κ){y:V}{u:Ac}(ry:qO y u):KV (vR kvs k y) (stored vs k u):=by
 unfold vR stored;rw[r.any k];by_cases e:(vs.any λkv=>decide (kv.1=k))=true
 ·rw[Bg e,Bg e];exact r.repl k ry
 ·rw[Bc e,Bc e];exact Paired.snoc r ⟨rfl,ry⟩
def KV.length {kvs:Ab (κ × V)}{vs:Ab (κ × Ac)}(r:KV kvs vs):kvs.length=vs.length:=Paired.length r
end
def bT {P:Bd}{w:Bw}{k:Key}{u:Ac}(r:qO (kV k) u):(xT P w).is k u=true:=by
 cases k with
 |inl i=>obtain⟨t,e⟩:=(show ∃ t,u=Me i t from r);subst e;exact cO P w i t
 |inr x=>obtain⟨t,e⟩:=(show ∃ t,u=Qn x t from r);subst e;exact cP P w x t
def d7 {P:Bd}{w:Bw}:∀ {ks:Ab Key} {us:Ab Ac},qP (ks.map kV) us→ItemsAre (xT P w) ks us
 |[],_,r=>by rw[Tk] at r;cases r;exact .nil
 |k::ks,_,r=>by
  rw[Dt] at r;cases r with
  |cons h t=>exact .cons (bT h) (d7 t)
abbrev KT (H:Hp):Ab (Ab Key × V)→Ab (Ab Key × Ad × Ac)→Prop:=Paired λp q=>p.1=q.1∧H q.2.1=Aa (.tup (p.1.map kV))∧qO p.2 q.2.2
def KT.val {H:Hp}(r:KT H kvs xs)(k:Ab Key):vZ (yU kvs k) ((Sb xs k).map (·.2)):=by
 induction r with
 |nil=>exact Hc
 |@cons p q ps qs h t ih =>
  obtain⟨h1,_,h2⟩:=h;by_cases e:p.1=k
  ·have e':q.1=k:=h1.symm.trans e
   have b:Sb (q::qs) k=Aa q.2:=by simp[Sb,IP,e']
   rw[mI e,b];exact h2
  ·have e':¬ q.1=k:=λz=>e (h1.trans z)
   have b:Sb (q::qs) k=Sb qs k:=by simp[Sb,IP,e']
   rw[mH e,b];exact ih
def KT.repl {H:Hp}(r:KT H kvs xs)(k:Ab Key){y:V}{u:Ac}(ry:qO y u) :
  KT H (kvs.map λkv=>if kv.1=k then (kv.1,y) else kv) (xs.map (putAt k u)):=by
 induction r with
 |nil=>exact .nil
 |@cons p q ps qs h t ih =>
  rw[Dt,Dt];refine .cons ?_ ih;obtain⟨h1,h2,h3⟩:=h;unfold putAt;by_cases e:p.1=k
  ·rw[Bg e,Bg (h1.symm.trans e)];exact⟨h1,h2,ry⟩
  ·rw[Bc e,Bc (λz=>e (h1.trans z))];exact⟨h1,h2,h3⟩
def KT.put {H:Hp}(r:KT H kvs xs)(k:Ab Key){b:Ad}{y:V}{u:Ac}(hb:H b=Aa (.tup (k.map kV)))(ry:qO y u) :
  KT H (vR kvs k y) (storedH xs k b u):=by
 have e:(kvs.any λkv=>decide (kv.1=k))=(Sb xs k).isSome:=by
  rw[cI,(r.val k).isSome_eq,Ow]
 unfold vR storedH;rw[e];by_cases q:(Sb xs k).isSome=true
 ·rw[Bg q,Bg q];exact r.repl k ry
 ·rw[Bc q,Bc q];exact Paired.snoc r ⟨rfl,hb,ry⟩
def KT.keeps {H:Hp}(r:KT H kvs xs)(ht:∀ b ys,H b=Aa (.tup ys)→H' b=Aa (.tup ys)):KT H' kvs xs:=
 Paired.mapP r λ_ _ z=>⟨z.1,ht _ _ z.2.1,z.2.2⟩
section
variable {P:Bd}{w:Bw}{H:Hp}{h:Bm}{a:Ad}
def JS {u:HO}(ok:HOk P w H h)(e:Rd H a u):zK P w H h a u:=e.ok ok
def sE {kvs:Ab (Key × V)}(ok:HOk P w H h)(e:Rd H a (.dK kvs)):kvs.length≤sizeLine∧(a == Iw)=false∧∃ vs,KV kvs vs∧h.DictOf (xT P w) a vs:=
 show zK P w H h a (.dK kvs) from JS ok e
def RE {kvs:Ab (Key × V)}(ok:HOk P w H h)(e:H a=Aa (.dK kvs)):kvs.length≤sizeLine∧(a == Iw)=false∧∃ vs,KV kvs vs∧h.DictOf (xT P w) a vs:=sE ok (.inl e)
def t7 {ks:Ab Key}(ok:HOk P w H h)(e:H a=Aa (.tup (ks.map kV))):(Qo (xT P w)).is h ks a:=by
 obtain⟨_,its,r,o,h1,h2,n,h3⟩:=(show zK P w H h a (.tup (ks.map kV)) from ok a _ e)
 exact⟨o,its.toArray,n,h1,h2,h3,by simpa using d7 r⟩
def sF (ok:HOk P w H h)(e:Rd H a (.dT kvs)):kvs.length≤sizeLine∧(a == Iw)=false ∧
  ∃ xs,KT H kvs xs∧h.DictOfH (Qo (xT P w)) a xs:=by
 obtain⟨z,y,xs,r,o,es,ep,h1,h2,h3,h4,h5⟩:=(show zK P w H h a (.dT kvs) from JS ok e)
 refine⟨z,y,xs,r,o,es,ep,h1,h2,h3,h4,λx hx=>?_,h5⟩;have all:∀ {l:Ab (Ab Key × V)} {m:Ab (Ab Key × Ad × Ac)},KT H l m→∀ x∈m,(Qo (xT P w)).is h x.1 x.2.1:=by
  intro l m q
  induction q with
  |nil=>intro x hx;exact nomatch hx
  |@cons p q ps qs hq t ih =>
   intro x hx;rcases Bb.mp hx with e|hx
   ·subst e
    exact t7 ok (by rw[← hq.1];exact hq.2.1)
   ·exact ih x hx
 exact all r x hx
def RG (ok:HOk P w H h)(e:H a=Aa (.dT kvs)):kvs.length≤sizeLine∧(a == Iw)=false ∧
  ∃ xs,KT H kvs xs∧h.DictOfH (Qo (xT P w)) a xs:=sF ok (.inl e)
end
def gH (H:Hp)(a:Ad)(y:V)(r:Al V):Prop:=
 (∃ kvs k,Rd H a (.dK kvs)∧y=kV k∧r=yU kvs k)∨∃ kvs k b,Rd H a (.dT kvs)∧y=.ref b∧H b=Aa (.tup (k.map kV))∧r=yU kvs k
def tS (H:Hp)(a:Ad)(y v:V)(H':Hp):Prop:=
 (∃ kvs k,H a=Aa (.dK kvs)∧y=kV k∧kvs.length<sizeLine∧H'=upd H a (.dK (vR kvs k v))) ∨
 ∃ kvs k b,H a=Aa (.dT kvs)∧y=.ref b∧H b=Aa (.tup (k.map kV))∧kvs.length<sizeLine∧H'=upd H a (.dT (vR kvs k v))
def gH.k {H:Hp}{a:Ad}{kvs:Ab (Key × V)}{k:Key}(e:H a=Aa (.dK kvs)):gH H a (kV k) (yU kvs k):=.inl ⟨kvs,k,.inl e,rfl,rfl⟩
def gH.t {H:Hp}{a b:Ad}{k:Ab Key}(e:H a=Aa (.dT kvs))(eb:H b=Aa (.tup (k.map kV))):gH H a (.ref b) (yU kvs k):=.inr ⟨kvs,k,b,.inl e,rfl,eb,rfl⟩
def tS.k {H:Hp}{a:Ad}{kvs:Ab (Key × V)}{k:Key}{v:V}(e:H a=Aa (.dK kvs))(hl:kvs.length<sizeLine):tS H a (kV k) v (upd H a (.dK (vR kvs k v))):=.inl ⟨kvs,k,e,rfl,hl,rfl⟩
def tS.t {H:Hp}{a b:Ad}{k:Ab Key}{v:V}(e:H a=Aa (.dT kvs))(eb:H b=Aa (.tup (k.map kV)))(hl:kvs.length<sizeLine) :
  tS H a (.ref b) v (upd H a (.dT (vR kvs k v))):=.inr ⟨kvs,k,b,e,rfl,eb,hl,rfl⟩
section
variable {X:Cx}{pins:Ab (Ad × Cg)}{σ : St}{H:Hp}{s:Ag}{a:Ad}{y v:V}{u r:Ac}{o:Al V}{A:Bt}{E:Ac→Ag→Prop}
def Inv.big (I:Inv X pins σ H s):Iw<s.heap.objs.size:=by
 have h:Ch<s.heap.objs.size:=(I.mod.glob.keeps I.bk).lt;exact ID (by decide) h
def ZD (hu:A.units+1<Ey)(I:Inv X pins σ H s)(g:gH H a y (Aa v))(ry:qO y u)(h:∀ w' s',Inv X pins σ H s'→qO v w'→Q w' s') :
  Ao (As X.prog X.w) A (Ko (.ref a) u) Q E s:=by
 rcases g with⟨kvs,k,e,ey,l⟩|⟨kvs,k,b,e,ey,eb,l⟩
 ·subst ey
  obtain⟨z,hd,vs,rel,dd⟩:=sE I.hok e;obtain⟨w',hw,rw'⟩:=vZ.some_of (v:=v) (o:=Pw vs k) (by rw[l];exact rel.val k)
  exact wpAny_getItem_of (bT ry) dd.mapOf hw (h w' _ (I.tok _) rw')
 ·subst ey
  cases (show u=Cf b from ry)
  obtain⟨z,hd,xs,rel,dd⟩:=sF I.hok e;obtain⟨w',hw,rw'⟩:=vZ.some_of (v:=v) (o:=(Sb xs k).map (·.2)) (by rw[l];exact rel.val k)
  obtain⟨p,hp,hp2⟩:=De.mp hw;refine wpAny_getItem_heap (Nt hu) (t7 I.hok eb) dd hp ?_;rw[hp2];exact h w' _ (I.tok _) rw'
def CH (hu:A.units+1<Ey)(I:Inv X pins σ H s)(g:gH H a y o)(ry:qO y u)(h:∀ s',Inv X pins σ H s'→Q (.bool o.isSome) s') :
  Ao (As X.prog X.w) A (Di .In u (.ref a)) Q E s:=by
 rcases g with⟨kvs,k,e,ey,l⟩|⟨kvs,k,b,e,ey,eb,l⟩
 ·subst ey
  obtain⟨z,hd,vs,rel,dd⟩:=sE I.hok e;refine wpAny_in_of (bT ry) hd dd.mapOf ?_;rw[← (rel.val k).isSome_eq,← l];exact h _ (I.tok _)
 ·subst ey
  cases (show u=Cf b from ry)
  obtain⟨z,hd,xs,rel,dd⟩:=sF I.hok e;refine wpAny_in_heap (Nt hu) (t7 I.hok eb) hd dd ?_;have q:=(rel.val k).isSome_eq;rw[Ow] at q;rw[← q,← l];exact h _ (I.tok _)
def aF {h':Bm}{t':Ah}{ob:HO}(I:Inv X pins σ H s)(mu:Mut (H a))(hs:Gp a s.heap h')(he:∃ q,h'.get? a=Aa q)(new:zK X.prog X.w (upd H a ob) h' a ob) :
  Inv X pins σ (upd H a ob) { s with heap:=h',toks:=t' }:=
 I.write (x:=a) (e:=a) mu (.inl rfl) (λb q hb z=>(hs.2 b hb).trans z) he new
def MU {P:Bd}{w:Bw}{h':Bm}{kvs:Ab (Key × V)}{vs:Ab (Key × Ac)}(z:kvs.length≤sizeLine)(hd:(a == Iw)=false)(rel:KV kvs vs)(dd:h'.DictOf (xT P w) a vs) :
  zK P w H' h' a (.dK kvs):=⟨z,hd,vs,rel,dd⟩
def ZE {Q:OO→Ag→Prop}(hu:A.units+1<Ey)(I:Inv X pins σ H s)(g:tS H a y v H')(ry:qO y u)(rv:qO v r)(h:∀ s',Inv X pins σ H' s'→Q () s') :
  Ao (As X.prog X.w) A (WF (.ref a) u r) Q E s:=by
 rcases g with⟨kvs,k,e,ey,l,eH⟩|⟨kvs,k,b,e,ey,eb,l,eH⟩
 ·subst ey eH
  obtain⟨z,hd,vs,rel,dd⟩:=RE I.hok e;have hz:vs.length≤sizeLine:=by rw[← rel.length];exact z
  have hl:(vR kvs k v).length≤sizeLine:=by have:=fH kvs k v;omega
  refine wpAny_setItem_pairs (hsz:=hz) (bT ry) dd λh' dd' hs=>h _ ?_;have he:∃ q,h'.get? a=Aa q:=let ⟨q,_,_,hq,_⟩:=dd';⟨q,hq⟩
  exact aF I (by rw[e];exact Hc) hs he (MU hl hd (rel.put k rv) dd')
 ·subst ey eH
  cases (show u=Cf b from ry)
  obtain⟨z,hd,xs,rel,dd⟩:=RG I.hok e;have hz:xs.length≤sizeLine:=by rw[← Paired.length rel];exact z
  have hl:(vR kvs k v).length≤sizeLine:=by have:=fH kvs k v;omega
  refine wpAny_setItem_heap (hsz:=hz) (Nt hu) (t7 I.hok eb) dd λh' dd' hs=>h _ ?_;obtain⟨q,es,ep,hq,h2,h3,h4,_,h5⟩:=dd';refine aF I (by rw[e];exact Hc) hs ⟨q,hq⟩ ⟨hl,hd,_,(rel.put k eb rv).keeps λc ys ec=>?_,q,es,ep,hq,h2,h3,h4,h5⟩
  rw[qN (RY ec e (λz=>nomatch z))];exact ec
end
def WY (i:Bv):Prop:=∀ ov iv,subscripted i false ov iv=operate [ov,iv] (Ko ov iv)
def F4 {prog:Bd}{w:Bw}{A:Bt}{E:Ac→Ag→Prop}{s:Ag}{env:Hu}{value slice:Bv}{pos:EQ}{T id:Do}
  (hl:Wg (.type T) "__getitem__" = pure (Aa (.builtin id))) (hs:WY slice)
  (h:Ao (As prog w) A (eval value env) (λo s₁=>Ao (As prog w) A (eval slice env) (λi s₂=>s₂.TypeIs o T∧Ao (As prog w) A (Ko o i) Q E s₂) E s₁) E s) :
  Ao (As prog w) A (eval (.Subscript value slice pos) env) Q E s:=by
 refine Wh (Fv h (λo s₁ h₁=>Fv h₁ (λi s₂ h₂=>?_) λ_ _ x=>x) λ_ _ x=>x);obtain⟨hT,h₂⟩:=h₂;unfold Ov;refine Af ?_;rw[getitemInPython_of_ne hT.not_modules];refine Af (Px hT hl ?_);have fin:Ao (As prog w) A (subscripted slice false o i) (λr s₃=>Ao (As prog w) A (letTemporaryGo value o r >>= λ_=>pure r) Q E s₃) E s₂:=by
  rw[hs o i];exact wpAny_operating (Fv h₂ (λr s₃ h₃=>Af (wpAny_letTemporaryGo (Am h₃))) λ_ _ x=>x)
 first
  |exact Am (Af fin)
  |exact Af (Am (Af fin))
  |exact Af fin
def cN {X:Cx}{pins:Ab (Ad × Cg)}{σ:St}{H:Hp}{s:Ag}{a:Ad}{y:V}{o:Al V}(I:Inv X pins σ H s)(g:gH H a y o):s.TypeIs (.ref a) "dict":=by
 rcases g with⟨kvs,k,e,_,_⟩|⟨kvs,k,b,e,_,_,_⟩
 ·obtain⟨_,_,vs,_,dd⟩:=sE I.hok e
  exact dd.typeIs
 ·obtain⟨_,_,xs,_,dd⟩:=sF I.hok e
  exact dd.typeIs
def YO {P:Bd}{w:Bw}{H:Hp}(h:Bm)(hb:Iw<h.objs.size):zK P w H (h.push { cls:=.type "dict",data:=.dict #[] }) h.objs.size (.dK []):=
 ⟨Hi _,My.mpr (Fu (Cc hb)),[],.nil,Heap.DictOf.new h⟩
def SH:TE:=λ_ H Q=>∀ p,H p=none→Q (.ref p) (upd H p (.dK []))
section
variable {X:Cx}{pos:EQ}
def eO:PE X (.Dict [] [] pos) SH:=λpins s σ H Q I h =>
 wpAny_Dict_empty ⟨.ref s.heap.objs.size,_,I.laid (a:=s.heap.objs.size) (o:=.dK []) (t':=s.toks) (λ_ _ q=>Aj _ q) (Ax _) (YO s.heap I.big),rfl,h _ (I.hok.fresh (Ax _))⟩
end
end _L
namespace _A
open PySem PySem.W PySem.Calls PyProof.Rows
def mU {P:Params}{h:Bm}:∀ (ns:Ab Ai) (vs:Ab Ac),WellAll P h vs (ns.map Yi)→Ou vs ns:=by
 intro ns
 induction ns with
 |nil =>
  intro vs w;rw[Tk] at w;cases w;exact .nil
 |cons n ns ih =>
  intro vs w;rw[Dt] at w;cases w with
  |cons a b =>
   cases a;exact .cons _ _ (ih _ b)
def WO {l:OpenLaw}{n:Ah}(hn:l.most=Aa n){P:Params}{h:Bm}{args:Ab WData}{vals:Ab Ac}
  (hpre:l.row.toRowW.claim.pre args=true) (hwl:WellAll P h vals args) :
  ∃ a vs ns,vals=[Cf a]∧args=[WData.list (ns.map Yi)]∧h.get? a=Aa { cls:=.type "list",data:=.seq vs.toArray } ∧ Ou vs ns∧ns.length≤n:=by
 have hsh:WShape.hasAll [] args [.list .int]=true:=(pre_splitW hpre).1;have hc:l.pre.holds [] { args:=args } = true:=(pre_splitW hpre).2;obtain⟨d,r,rfl,h1,h2⟩:=hasAllW_cons hsh;obtain rfl:=hasAllW_nil h2;obtain⟨xs,rfl,h3⟩:=hasW_list h1;obtain⟨ns,rfl⟩:=items_int h3;have hlen:ns.length≤n:=by
  unfold OpenLaw.pre at hc;have h4:(WTm.not (.lt (.lit (.int (n:Ai))) (.len (.arg 0)))).holds [] { args:=[.list (ns.map .int)] } = true:=by
   have h4:=(holds_andW hc).1;rw[hn] at h4;exact h4
  have h5:=condW_of h4 (w_not (w_lt w_lit (w_len_list (w_arg rfl))));rw[Bk] at h5;refine OR λq=>?_;have q':(n:Ai)<((ns.length:Ah):Ai):=by omega
  first
   |(rw[Cs q'] at h5;exact absurd h5 (by decide))
   |(simp at h5;omega)
 cases hwl with
 |cons w1 w2 =>
  cases w2;cases w1 with
  |list ho hall=>exact⟨_,_,ns,rfl,rfl,ho,mU ns _ hall,hlen⟩
def XQ (l:OpenLaw)(args:Ab WData):l.row.toRowW.claim.post args (.bool true) args=true:=
 postW_of (r:=l.row.toRowW) (X:=(true == true))
  (show Yb [] (.bool true) .bool=true by first|rfl|decide|simp[Yb,WShape.arms,WShape.armsAll])
  (show (WTm.eq .res (.lit (.bool true))).value [] { args:=args,res:=Aa (.bool true),after:=args } = Aa (.bool (true == true)) from w_eq_bool (w_res rfl) w_lit) rfl
def attach_call {l:OpenLaw}{n:Ah}{q:Bd}{loose:Ab Ar}{XP:(Ar→Al Ac)→Bm→Prop}{YP:Bw→Bm→Prop}{d:DefRec}
  (hn:l.most=Aa n) (hdf:d.params.defaults=[])
  (call:∀ (w:Bw) (s₀ s₁:Ag) (mg mb:Ar→Al Ac) (fa:Ad) (o:Cg) (pm cd doc:Ac) (a:Ad) (vs:Ab Ac) (ns:Ab Ai),
   Ground q loose [] XP w s₀ mg mb s₁.heap→YP w s₁.heap →
   s₁.heap.get? fa=Aa o→o.data=.func (docDef d.name d.params d.body d.scope pm cd doc)→s₁.heap.CodeRec cd d.name→mg d.name=Aa (.ref fa) →
   s₁.heap.get? a=Aa { cls:=.type "list",data:=.seq vs.toArray } → Ou vs ns→ns.length≤n→s₁.gens=#[] →
   Ie (As l.prog w) Ox (.call (.ref fa) ⟨[.ref a],[]⟩) (λr s'=>r=.ok (.ret (.bool true))∧OldK s₁.heap s'.heap∧s'.os=s₁.os∧Lm s'.gens) s₁) :
  WalkO q loose XP YP l.row.toRowW d [] (λf vs=>Wi f vs):=by
 intro w s₀ s₁ mg mb G Y fa o pm cd doc dV kV ho hd hcd hD hmg hg args vals as hpre hlay hrd hwl hlo;obtain rfl:dV=.none:=Dflts.none hD hdf;obtain rfl:kV=.none:=Dflts.noKw hD;obtain⟨a,vs,ns,rfl,rfl,hobj,hints,hlen⟩:=WO hn hpre hwl;refine enter_call (IE (call w s₀ s₁ mg mb fa o pm cd doc a vs ns G Y ho (fd_plain hd) hcd hmg hobj hints hlen hg) λr s' hq=>?_);obtain⟨rfl,h2,h3,h4⟩:=hq;exact⟨.inl ⟨.bool true,.bool true,[],rfl,λ_=>rfl,.bool true,XQ l _,λ_=>⟨Ky,λ_ hm=>(nomatch hm)⟩⟩,h2,h3,h4⟩
end _A
namespace _L
open PySem PySem.Spec PyProof.Rows
def WR {vs:Ab Ac}{ns:Ab Ai}(h:Ou vs ns):qP (ns.map V.int) vs:=by
 induction h with
 |nil=>exact .nil
 |cons n t h ih=>exact .cons ⟨t,rfl⟩ ih
def SqX (K:Ak)(H:Hp)(a:Ad)(xs:Ab V):Prop:=
 Rd H a (.lst xs)∨∃ (its:Ab Ac) (n:Ah),K.lookup a=Aa { cls:=.type "list",data:=.seq its.toArray n } ∧ xs.length≤sizeLine∧qP xs its
def SqX.l {K:Ak}{H:Hp}{a:Ad}{xs:Ab V}(h:SqX K H a xs):SqL K H a xs:=by
 rcases h with h|⟨its,n,e,l,v⟩
 ·exact .inl h
 ·exact .inr ⟨_,its.toArray,n,e,rfl,rfl,rfl,by rw[Bj,← v.length];exact l,by simpa using v⟩
end _L
namespace _L
open PySem PySem.Spec PyProof.Rows
variable {ps:Ab Ar}{f:Ad}{x qual:Ar}{H:Hp}
def yN (s:Ej):Mk:=match s with
 |.FunctionDef _ a _ _ _ _ _ _ _ _=>a
 |_=>{ posonlyargs:=[],args:=[],vararg:=none,kwonlyargs:=[],kw_defaults:=[],kwarg:=none,defaults:=[] }
def zS (s:Ej):Ab Ej:=match s with
 |.FunctionDef _ _ b _ _ _ _ _ _ _=>b
 |_=>[]
def qJ (s:Ej):Eh:=match s with
 |.FunctionDef _ _ _ _ _ _ sc _ _ _=>sc
 |_=>{ kind:=.function,names:=[],isGenerator:=false,isCoroutine:=false }
abbrev CX0:CXT:=λ_ _ _ _ _ _=>Fa
structure Fun (K:Ak)(x qual:Ar)(st:Ej)(f:Ad)(fd:Fb):Prop where
 ex:∃ (oc:Ac) (od:Al Ad) (kV doc pm:Ac) (an:Al Ad) (cdv ct:Ac) (osl:Av (Al Ac)),
  fd=Ga x qual (yN st) (zS st) (qJ st) .none kV doc pm an cdv ct∧K.lookup f=Aa ⟨oc,od,.func fd,osl⟩∧Je K cdv qual=true
 kp:En K (.ref f)=true
section
variable {P:Bd}{w:Bw}{K:Ak}{mg:Ar→Al Ac}{base:Bm}
def Fun.ok {st:Ej}{fd:Fb}{N:Ab Ar}{k:Ah}{sp:Sp}(F:Fun K x qual st f fd)(S:FnScope N ps (qJ st))(len:∀ vs H Q E,sp vs H Q E→vs.length=ps.length)
  (hbody:∀ (cdv:Ac) (A:Bt) (outer:Ab Hu) (s:Ag) (H:Hp) (vs:Ab V) (Q:VK) (E:XK),Room k (A.deeper (Ft qual (qJ st) s.heap.objs.size f cdv))→sp vs H Q E →
   ∃ t,PSs (tZ CX0 P w K mg base N qual (qJ st) f cdv A outer s H E).nox (zS st) t∧t { nx:=λ_ H'=>Q .non H',rt:=Q } (wK N vs) H):FnOk P w K mg base CX0 (k+1) f fd ps sp:=by
 obtain⟨oc,od,kV,doc,pm,an,cdv,ct,osl,rfl,lk,hcd⟩:=F.ex;refine RK lk hcd S len λA outer s H vs Q E hr hsp=>?_;obtain⟨t,h,q⟩:=hbody cdv A outer s H vs Q E hr hsp;exact⟨t,h.nox,q⟩
def Fun.binds {st:Ej}{fd:Fb}(F:Fun K x qual st f fd)
  (h:∀ (kV doc pm:Ac) (an:Al Ad) (cdv ct:Ac) (us:Ab Ac),us.length=ps.length→Pu (Ga x qual (yN st) (zS st) (qJ st) .none kV doc pm an cdv ct) ⟨us,[]⟩=pure (ps.zip us)):uG K fd ps []:=by
 obtain⟨oc,od,kV,doc,pm,an,cdv,ct,osl,rfl,lk,hcd⟩:=F.ex;exact .all (h kV doc pm an cdv ct)
def TM {st:Ej}{oc:Ac}{od an:Al Ad}{osl:Av (Al Ac)}{kV doc pm cdv ct:Ac}(l:K.lookup f=Aa ⟨oc,od,.func (Ga x qual (yN st) (zS st) (qJ st) .none kV doc pm an cdv ct),osl⟩)
  (c:Je K cdv qual=true) (k:En K (.ref f)=true):Fun K x qual st f (Ga x qual (yN st) (zS st) (qJ st) .none kV doc pm an cdv ct):=⟨⟨oc,od,kV,doc,pm,an,cdv,ct,osl,rfl,l,c⟩,k⟩
end
def qI (H H':Hp):Prop:=∀ b o,H b=Aa o→H' b=Aa o
def qI.refl (H:Hp):qI H H:=λ_ _ h=>h
def qI.trans {H1 H2:Hp}(a:qI H H1)(b:qI H1 H2):qI H H2:=λc o h=>b c o (a c o h)
def qI.free {H':Hp}(e:qI H H'){l:Ad}(h:H' l=Xw):H l=Xw:=by
 cases q:H l with
 |none=>rfl
 |some o =>
  rw[e l o q] at h;cases h
def qI.seq {K:Ak}{H':Hp}{a:Ad}{xs:Ab V}(e:qI H H')(h:SqL K H a xs):SqL K H' a xs:=by
 rcases h with (h|⟨o,h⟩)|h
 ·exact .inl (.inl (e _ _ h))
 ·exact .inl (.inr ⟨o,e _ _ h⟩)
 ·exact .inr h
end _L
end
section
namespace _D
open PySem PySem.Spec PyProof.Rows _L
inductive D where
 |non|bl (b:Ap)|int (i:Ai)|str (x:Ar)|ty (n:Do)|obj (a:Ad)|tup (xs:Ab D)|lst (xs:Ab D)|dct0|loc (i:Ah)|exn (c:Ac)|fd (ks:Ab Key) (ds:Ab D)|clo (a:Ad) (vs:Ab V) (ds:Ab D)
def rK (a:Ad)(c:Ac):HO:=.ext λh=>∃ ob,h.get? a=Aa ob∧ob.cls=c
inductive MO where
 |dead|lst (xs:Ab D)|dct (kvs:Ab (Key × D))|ins (C:Ad) (fs:Ab (Ar × D))
abbrev Sto:=Ab MO
inductive Res (β : Type) where
 |ok (d:β) (S:Sto)|ex (c:Ac) (x:D) (S:Sto)|bad
@[inline] def Res.bind {β γ:Type}(r:Res β)(f:β→Sto→Res γ) : Res γ:=
 match r with
 |.ok d S=>f d S
 |.ex c x S=>.ex c x S
 |.bad=>.bad
def Res.bind_ok {β γ:Type}(d:β)(S:Sto)(f:β→Sto→Res γ) : (Res.ok d S).bind f=f d S:=rfl
section
variable (K:Ak)(P:Hp)(α : Ab Ad)
mutual
def Rep:D→V→Prop
 |.non,v=>v=.non
 |.bl b,v=>v=.bl b
 |.int i,v=>v=.int i
 |.str x,v=>v=.str x
 |.ty n,v=>v=.ty n
 |.obj a,v=>v=.ref a∧En K (.ref a)=true
 |.tup ds,v=>∃ a vs,v=.ref a∧SqT K P a vs∧qG ds vs
 |.lst ds,v=>∃ a vs,v=.ref a∧SqX K P a vs∧qG ds vs
 |.dct0,v=>∃ a,v=.ref a∧P a=Aa (.dK [])
 |.loc i,v=>∃ a,v=.ref a∧α[i]? = Aa a
 |.exn c,v=>∃ a,v=.ref a∧P a=Aa (rK a c)
 |.fd ks ds,v=>∃ a o vs,v=.ref a∧P a=Aa (.frz o (.dK (ks.zip vs)))∧ks.length=vs.length∧qG ds vs
 |.clo a vs ds,v=>v=.ref a∧qG ds vs
def qG:Ab D→Ab V→Prop
 |[],vs=>vs=[]
 |d::ds,vs=>∃ w ws,vs=w::ws∧Rep d w∧qG ds ws
end
end
section
variable {K:Ak}{P P':Hp}{α α':Ab Ad}
def vB (e:qI P P'){a:Ad}{xs:Ab V}(h:SqT K P a xs):SqT K P' a xs:=by
 rcases h with (h|⟨o,h⟩)|h
 ·exact .inl (.inl (e _ _ h))
 ·exact .inl (.inr ⟨o,e _ _ h⟩)
 ·exact .inr h
def iK (e:qI P P'){a:Ad}{u:HO}(h:Rd P a u):Rd P' a u:=by
 rcases h with h|⟨o,h⟩
 ·exact .inl (e _ _ h)
 ·exact .inr ⟨o,e _ _ h⟩
def wA (e:qI P P'){a:Ad}{xs:Ab V}(h:SqX K P a xs):SqX K P' a xs:=by
 rcases h with h|h
 ·exact .inl (iK e h)
 ·exact .inr h
def bZ {i:Ah}{a:Ad}(h:α<+:α')(e:α[i]? = Aa a):α'[i]? = Aa a:=by
 obtain⟨r,rfl⟩:=h;rw[Bz (AT.mp e).1];exact e
mutual
def Rep.mono (e:qI P P')(h:α<+:α'):∀ (d:D) (v:V),Rep K P α d v→Rep K P' α' d v
 |.non,_,r=>by simpa only [Rep] using r
 |.bl _,_,r=>by simpa only [Rep] using r
 |.int _,_,r=>by simpa only [Rep] using r
 |.str _,_,r=>by simpa only [Rep] using r
 |.ty _,_,r=>by simpa only [Rep] using r
 |.obj _,_,r=>by simpa only [Rep] using r
 |.tup ds,v,r=>by
  simp only[Rep] at r ⊢;obtain⟨a,vs,rfl,q,t⟩:=r;exact⟨a,vs,rfl,vB e q,qG.mono e h ds vs t⟩
 |.lst ds,v,r=>by
  simp only[Rep] at r ⊢;obtain⟨a,vs,rfl,q,t⟩:=r;exact⟨a,vs,rfl,wA e q,qG.mono e h ds vs t⟩
 |.dct0,v,r=>by
  simp only[Rep] at r ⊢;obtain⟨a,rfl,q⟩:=r;exact⟨a,rfl,e _ _ q⟩
 |.loc i,v,r=>by
  simp only[Rep] at r ⊢;obtain⟨a,rfl,q⟩:=r;exact⟨a,rfl,bZ h q⟩
 |.exn c,v,r=>by
  simp only[Rep] at r ⊢;obtain⟨a,rfl,q⟩:=r;exact⟨a,rfl,e _ _ q⟩
 |.fd ks ds,v,r=>by
  simp only[Rep] at r ⊢;obtain⟨a,o,vs,rfl,q,hl,t⟩:=r;exact⟨a,o,vs,rfl,e _ _ q,hl,qG.mono e h ds vs t⟩
 |.clo a vs ds,v,r=>by
  simp only[Rep] at r ⊢;exact⟨r.1,qG.mono e h ds vs r.2⟩
def qG.mono (e:qI P P')(h:α<+:α'):∀ (ds:Ab D) (vs:Ab V),qG K P α ds vs→qG K P' α' ds vs
 |[],vs,r=>by simpa only [qG] using r
 |d::ds,vs,r=>by
  simp only[qG] at r ⊢;obtain⟨w,ws,rfl,r1,r2⟩:=r;exact⟨w,ws,rfl,Rep.mono e h d w r1,qG.mono e h ds ws r2⟩
end
def qG.nil:qG K P α [] []:=by simp only[qG]
def qG.cons {d:D}{v:V}{ds:Ab D}{vs:Ab V}(r:Rep K P α d v)(t:qG K P α ds vs):qG K P α (d::ds) (v::vs):=by
 simp only[qG];exact⟨v,vs,rfl,r,t⟩
def qG.nil_inv {vs:Ab V}(r:qG K P α [] vs):vs=[]:=by simpa only [qG] using r
def qG.cons_inv {d:D}{ds:Ab D}{vs:Ab V}(r:qG K P α (d::ds) vs):∃ w ws,vs=w::ws∧Rep K P α d w∧qG K P α ds ws:=by simpa only [qG] using r
def qG.length:∀ {ds:Ab D} {vs:Ab V},qG K P α ds vs→ds.length=vs.length
 |[],vs,r=>by rw[r.nil_inv];rfl
 |d::ds,vs,r=>by
  obtain⟨w,ws,rfl,_,t⟩:=r.cons_inv;rw[Dh,Dh,t.length]
def qG.append:∀ {ds es:Ab D} {vs ws:Ab V},qG K P α ds vs→qG K P α es ws→qG K P α (ds++es) (vs++ws)
 |[],es,vs,ws,r,t=>by rw[r.nil_inv];exact t
 |d::ds,es,vs,ws,r,t=>by
  obtain⟨w,us,rfl,r1,r2⟩:=r.cons_inv;exact .cons r1 (r2.append t)
def qG.get:∀ {ds:Ab D} {vs:Ab V} {i:Ah} {d:D},qG K P α ds vs→ds[i]? = Aa d→∃ v,vs[i]? = Aa v∧Rep K P α d v
 |[],_,_,_,_,e=>by simp at e
 |d::ds,vs,i,d',r,e=>by
  obtain⟨w,ws,rfl,r1,r2⟩:=r.cons_inv;cases i with
  |zero=>simp at e;subst e;exact⟨w,rfl,r1⟩
  |succ i =>
   obtain⟨v,h1,h2⟩:=r2.get (i:=i) (d:=d') (by simpa using e)
   exact⟨v,by simpa using h1,h2⟩
def qG.drop:∀ {ds:Ab D} {vs:Ab V} (n:Ah),qG K P α ds vs→qG K P α (ds.drop n) (vs.drop n)
 |ds,vs,0,r=>by simpa using r
 |[],vs,n+1,r=>by rw[r.nil_inv];exact .nil
 |d::ds,vs,n+1,r=>by
  obtain⟨w,ws,rfl,_,r2⟩:=r.cons_inv;simpa using r2.drop n
def qG.take:∀ {ds:Ab D} {vs:Ab V} (n:Ah),qG K P α ds vs→qG K P α (ds.take n) (vs.take n)
 |ds,vs,0,r=>by simpa using qG.nil
 |[],vs,n+1,r=>by rw[r.nil_inv];exact .nil
 |d::ds,vs,n+1,r=>by
  obtain⟨w,ws,rfl,r1,r2⟩:=r.cons_inv;simpa using qG.cons r1 (r2.take n)
def qG.set {d:D}{v:V}(q:Rep K P α d v):∀ {ds:Ab D} {vs:Ab V} (n:Ah),qG K P α ds vs→qG K P α (ds.set n d) (vs.set n v)
 |[],vs,n,r=>by rw[r.nil_inv];exact .nil
 |e::ds,vs,0,r=>by
  obtain⟨w,ws,rfl,r1,r2⟩:=r.cons_inv;exact .cons q r2
 |e::ds,vs,n+1,r=>by
  obtain⟨w,ws,rfl,r1,r2⟩:=r.cons_inv;exact .cons r1 (r2.set q n)
end
abbrev qD:=Ab (Al D)
def zE (K:Ak)(P:Hp)(α : Ab Ad)(σ : _L.St)(env:qD):Prop:=env.length=σ.length∧∀ (i:Ah) (d:D),env[i]? = Aa (Aa d)→∃ v,σ[i]? = Aa (Aa v)∧Rep K P α d v
def KVs (K:Ak)(P:Hp)(α : Ab Ad){κ : Type}:Ab (κ × D)→Ab (κ × V)→Prop:=Paired λ(p:κ × D) (q:κ × V)=>p.1=q.1∧Rep K P α p.2 q.2
def MOk (K:Ak)(H P:Hp)(α : Ab Ad)(a:Ad):MO→Prop
 |.dead=>Op
 |.lst ds=>∃ vs,H a=Aa (.lst vs)∧qG K P α ds vs
 |.dct kvs=>∃ vs,H a=Aa (.dK vs)∧KVs K P α kvs vs
 |.ins C fs=>∃ dx vs,H a=Aa (.ins C dx vs)∧KVs K P α fs vs
inductive TbAt (x:Ar)(H P:Hp)(α : Ab Ad)(T:Ad):Prop
 |mk (ps:Av Ac) (e:H T=Aa (.tbl ps)) (pn:P T=none) (an:T ∉ α) (ok:Js ps.toList) (cd:∀ pos cv,Ml pos ps.toList=Aa cv→∃ c oc vs t,cv=.ref c∧H c=Aa (.frz oc (.frz oc (.own 0)))∧oc.data=.fields vs∧vs[1]? = Aa (.str (x ++ ".<locals>." ++ "<lambda>") t)):TbAt x H P α T
def o6 (K:Ak)(H P:Hp)(α : Ab Ad):Prop:=∀ x∈wV,∀ c T,Dp K x=Aa (c,T)→TbAt x H P α T
def TV (u:HO):Prop:=(∃ ps,u=.tbl ps)∨∃ o,u=.frz o (.frz o (.own 0))
def o6.keep {K:Ak}{H H' P P':Hp}{α α':Ab Ad}(r:o6 K H P α)(e:∀ b u,H b=Aa u→TV u→H' b=Aa u)(hp:∀ b u,H b=Aa u→TV u→P b=none→b ∉ α→P' b=none∧b ∉ α'):o6 K H' P' α':=λx hx c T h =>
 let ⟨ps,e1,pn,an,ok,cd⟩:=r x hx c T h
 let z:=hp _ _ e1 (.inl ⟨_,rfl⟩) pn an
 ⟨ps,e _ _ e1 (.inl ⟨_,rfl⟩),z.1,z.2,ok,λpos cv q=>let ⟨c,oc,vs,t,a,b,d⟩:=cd pos cv q;⟨c,oc,vs,t,a,e _ _ b (.inr ⟨_,rfl⟩),d⟩⟩
structure Rel (K:Ak)(H P:Hp)(α : Ab Ad)(S:Sto):Prop where
 tb:o6 K H P α
 sub:qI P H
 len:α.length=S.length
 nd:α.Nodup
 sep:∀ (i:Ah) (a:Ad) (o:MO),α[i]? = Aa a→S[i]? = Aa o→o≠.dead→P a=none
 at':∀ (i:Ah) (a:Ad) (o:MO),α[i]? = Aa a→S[i]? = Aa o→MOk K H P α a o
 own:∀ (i:Ah) (a:Ad),α[i]? = Aa a→H a≠none
section
variable {K:Ak}{H P P':Hp}{α α':Ab Ad}{S:Sto}
def zE.mono {σ : _L.St}{env:qD}(e:qI P P')(h:α<+:α')(r:zE K P α σ env):zE K P' α' σ env:=
 ⟨r.1,λi d q=>let ⟨v,h1,h2⟩:=r.2 i d q;⟨v,h1,Rep.mono e h d v h2⟩⟩
def KVs.mono {κ : Type}(e:qI P P')(h:α<+:α'){kvs:Ab (κ × D)}{vs:Ab (κ × V)}(r:KVs K P α kvs vs):KVs K P' α' kvs vs:=by
 refine Paired.mapP r λp q z=>⟨z.1,Rep.mono e h _ _ z.2⟩
def MOk.mono {a:Ad}(e:qI P P')(h:α<+:α'):∀ {o:MO},MOk K H P α a o→MOk K H P' α' a o
 |.dead,_=>trivial
 |.lst _,⟨vs,q,r⟩=>⟨vs,q,qG.mono e h _ _ r⟩
 |.dct _,⟨vs,q,r⟩=>⟨vs,q,r.mono e h⟩
 |.ins _ _,⟨dx,vs,q,r⟩=>⟨dx,vs,q,r.mono e h⟩
def Rel.grow {H':Hp}(r:Rel K H P α S)(e:qI H H'):Rel K H' P α S where
 tb:=r.tb.keep (λb u q _=>e _ _ q) λ_ _ _ _ p n=>⟨p,n⟩
 sub:=r.sub.trans e
 len:=r.len
 nd:=r.nd
 sep:=r.sep
 at':=λi a o q1 q2=>by
  have m:=r.at' i a o q1 q2;cases o with
  |dead=>trivial
  |lst ds=>obtain⟨vs,q,t⟩:=m;exact⟨vs,e _ _ q,t⟩
  |dct kvs=>obtain⟨vs,q,t⟩:=m;exact⟨vs,e _ _ q,t⟩
  |ins C fs=>obtain⟨dx,vs,q,t⟩:=m;exact⟨dx,vs,e _ _ q,t⟩
 own:=λi a q=>by
  have m:=r.own i a q;cases z:H a with
  |none=>exact absurd z m
  |some o=>rw[e _ _ z];intro w;cases w
def mD {H:Hp}{a:Ad}{o:HO}(h:H a=none):qI H (upd H a o):=λb u e=>by rw[qN (qZ e h)];exact e
def Rel.pure {a:Ad}{o:HO}(r:Rel K H P α S)(h:H a=none):Rel K (upd H a o) (upd P a o) α S∧qI P (upd P a o):=by
 have hP:P a=none:=by
  cases z:P a with
  |none=>rfl
  |some u=>rw[r.sub _ _ z] at h;cases h
 have sP:qI P (upd P a o):=mD hP;have r1:=r.grow (mD (o:=o) h);refine⟨⟨r.tb.keep (λb u q _=>(qN (qZ q h)).trans q) λb u q _ p n=>⟨(qN (qZ q h)).trans p,n⟩,λb u e=>?_,r.len,r.nd,λi b u q1 q2 q3=>?_,λi b u q1 q2=>(r1.at' i b u q1 q2).mono sP (Bo _),r1.own⟩,sP⟩
 ·by_cases hb:b=a
  ·subst hb;rw[zB] at e ⊢;exact e
  ·rw[qN hb] at e ⊢;exact r.sub _ _ e
 ·have hb:b≠a:=by rintro rfl;exact r.own i b q1 h
  rw[qN hb];exact r.sep i b u q1 q2 q3
def Rel.new {a:Ad}{o:HO}{m:MO}(r:Rel K H P α S)(h:H a=none)(hm:MOk K (upd H a o) P (α ++ [a]) a m):Rel K (upd H a o) P (α ++ [a]) (S++[m]):=by
 have hP:P a=none:=by
  cases z:P a with
  |none=>rfl
  |some u=>rw[r.sub _ _ z] at h;cases h
 have r1:=r.grow (mD (o:=o) h);have hp:α<+:α++[a]:=Fo _ _;have split:∀ (i:Ah) (b:Ad),(α++[a])[i]? = Aa b→(i<α.length∧α[i]? = Aa b)∨(i=α.length∧b=a):=λi b q=>by
  by_cases hi:i<α.length
  ·rw[Bz hi] at q;exact .inl ⟨hi,q⟩
  ·rw[Ci om] at q
   cases hk:i-α.length with
   |zero=>rw[hk] at q;simp at q;exact .inr ⟨by omega,q.symm⟩
   |succ k=>rw[hk] at q;simp at q
 refine⟨r.tb.keep (λb u q _=>(qN (qZ q h)).trans q) λb u q _ p n=>⟨p,λz=>(Cp.mp z).elim n λw=>qZ q h (by simpa using w)⟩,r1.sub,by simp[r.len],?_,λi b u q1 q2 q3=>?_,λi b u q1 q2=>?_,λi b q=>?_⟩
 ·rw[Oy]
  refine⟨r.nd,by simp,λb hb c hc e=>?_⟩
  simp at hc;subst hc;subst e;obtain⟨i,hi,e⟩:=Cw.mp hb;exact r.own i b (by rw[Aq hi,e]) h
 ·rcases split i b q1 with⟨hi,z⟩|⟨hi,rfl⟩
  ·rw[Bz (by rw[← r.len];exact hi)] at q2
   exact r.sep i b u z q2 q3
  ·exact hP
 ·rcases split i b q1 with⟨hi,z⟩|⟨hi,rfl⟩
  ·rw[Bz (by rw[← r.len];exact hi)] at q2
   exact(r1.at' i b u z q2).mono (qI.refl _) hp
  ·rw[hi,r.len,Ci (Ax _)] at q2
   simp at q2;subst q2;exact hm
 ·rcases split i b q with⟨_,z⟩|⟨_,rfl⟩
  ·exact r1.own i b z
  ·rw[zB];intro z;cases z
def XH {N:Ab Ad}(hN:N.Nodup){i j:Ah}{x:Ad}(a:N[i]? = Aa x)(b:N[j]? = Aa x):i=j:=by
 obtain⟨h1,e1⟩:=AT.mp a;obtain⟨h2,e2⟩:=AT.mp b;exact(ON hN).mp (e1.trans e2.symm)
def Rel.put {a:Ad}{i:Ah}{o:HO}{m m':MO}(r:Rel K H P α S)(ha:α[i]? = Aa a)(hs:S[i]? = Aa m)(hd:m≠.dead)(hm:MOk K (upd H a o) P α a m'):Rel K (upd H a o) P α (S.set i m'):=by
 have hP:=r.sep i a m ha hs hd;have hi:i<S.length:=(AT.mp hs).1;refine⟨r.tb.keep (λb u q hu=>?_) λ_ _ _ _ p n=>⟨p,n⟩,λb u e=>?_,by simp[r.len],r.nd,λj b u q1 q2 q3=>?_,λj b u q1 q2=>?_,λj b q=>?_⟩
 ·refine(qN ?_).trans q
  rintro rfl;have z:=r.at' i _ m ha hs;cases m with
  |dead=>exact hd rfl
  |lst ds=>obtain⟨vs,z,_⟩:=z;rw[q] at z;rcases hu with⟨_,rfl⟩|⟨_,rfl⟩ <;> cases z
  |dct kvs=>obtain⟨vs,z,_⟩:=z;rw[q] at z;rcases hu with⟨_,rfl⟩|⟨_,rfl⟩ <;> cases z
  |ins C fs=>obtain⟨dx,vs,z,_⟩:=z;rw[q] at z;rcases hu with⟨_,rfl⟩|⟨_,rfl⟩ <;> cases z
 ·have hb:b≠a:=by rintro rfl;rw[hP] at e;cases e
  rw[qN hb];exact r.sub _ _ e
 ·by_cases hj:j=i
  ·subst hj;rw[ha] at q1;cases q1;exact hP
  ·rw[Dz (Fu hj)] at q2;exact r.sep j b u q1 q2 q3
 ·by_cases hj:j=i
  ·subst hj;rw[ha] at q1;cases q1
   rw[Fq hi] at q2;cases q2;exact hm
  ·rw[Dz (Fu hj)] at q2
   have hb:b≠a:=by rintro rfl;exact hj (XH r.nd q1 ha)
   have z:=r.at' j b u q1 q2;cases u with
   |dead=>trivial
   |lst ds=>obtain⟨vs,q,t⟩:=z;exact⟨vs,by rw[qN hb];exact q,t⟩
   |dct kvs=>obtain⟨vs,q,t⟩:=z;exact⟨vs,by rw[qN hb];exact q,t⟩
   |ins C fs=>obtain⟨dx,vs,q,t⟩:=z;exact⟨dx,vs,by rw[qN hb];exact q,t⟩
 ·by_cases hb:b=a
  ·subst hb;rw[zB];intro z;cases z
  ·rw[qN hb];exact r.own j b q
end
def nn {β : Type}{a:β}{p:Prop}(h:(none:Al β) = Aa a):p:=by cases h
def gU {β : Type}{c:Prop}[Kw c]{a b:β}(h:(if c then Aa a else none)=Aa b):c∧a=b:=by
 by_cases z:c
 ·rw[Bg z] at h;exact⟨z,Co h⟩
 ·rw[Bc z] at h;exact nn h
end _D
end
namespace _D
open PySem PySem.Spec PyProof.Rows _L
variable {more:Ab (Ad × Cg)}{us args cs:Ab Ac}{body:Ab Ej}{vs:Ab V}{u vv:Ac}{p C:Ad}{od:Al Ad}{sl:Av (Al Ac)}{np:EQ}{R:It→Hp→Prop}{M:Ji}{sp:Sp}{S S1:Sto}{Q:VK}
abbrev DE:=qD→Sto→Res D
abbrev DT:=qD→Sto→Res Ap
abbrev DA:=qD→Sto→Res (Ab D)
inductive Out where
 |nx (env:qD) (S:Sto)|rt (d:D) (S:Sto)|bk (env:qD) (S:Sto)|ct (env:qD) (S:Sto)|ex (c:Ac) (x:D) (env:qD) (S:Sto)|bad
abbrev DS:=qD→Sto→Out
def Old (X:Cx)(pins:Ab (Ad × Cg))(H:Hp)(b:Ad):Prop:=
 (∃ o,X.s₀.heap.get? b=Aa o)∨H b≠none∨(∃ p∈X.pn++pins,p.1=b)∨∃ x,X.env.cells.lookup x=Aa b
def Cv (X:Cx)(pins:Ab (Ad × Cg))(H:Hp)(B h:Bm):Prop:=∀ b o,h.get? b=Aa o→Old X pins H b→b ∉ frs X.stack→B.get? b=Aa o
inductive FlyX (X:Cx)(pins:Ab (Ad × Cg))(H:Hp)(c:Ac)(e:Ad)(h:Bm):Prop where
 |new (g:Bm) (args:Ab Ac):Rb g h e c args→g.FunFrames X.base X.stack→(∀ b o,h.get? b=Aa o→Old X pins H b→g.get? b=Aa o)→FlyX X pins H c e h
 |fly (B:Bm) (a0:Ac):Mv B X.stack e c a0 h→Cv X pins H B h→FlyX X pins H c e h
inductive XOk (X:Cx)(P:Hp)(α : Ab Ad)(c:Ac)(x:D)(S:Sto)(u:Ac)(s:Ag):Prop
 |mk (e:Ad) (pins:Ab (Ad × Cg)) (σ : _L.St) (H:Hp) (P':Hp) (α' : Ab Ad) (e1:u=.ref e) (I:Inv X pins σ H s) (r:Rel X.K H P' α' S) (q1:qI P P') (q2:α<+:α') (q3:X.ex=[]∧X.stack=X.env::X.outer∧X.env.frame=Aa X.env.locals) (q4:FlyX X pins H c e s.heap):XOk X P α c x S u s
def XOk.base {X:Cx}{P P1:Hp}{α α1:Ab Ad}{c:Ac}{x:D}{s:Ag}(e:qI P P1)(h:α<+:α1)(k:XOk X P1 α1 c x S u s):XOk X P α c x S u s:=by
 obtain⟨a,pins,σ,H,P',α',e1,I,r,q1,q2,q3,q4⟩:=k;exact⟨a,pins,σ,H,P',α',e1,I,r,e.trans q1,h.trans q2,q3,q4⟩
section
variable (X:Cx)
def qM {β:Type}(P:Hp)(α : Ab Ad)(r:Res β)(Ok:β→Sto→Prop):Prop:=
 match r with
 |.ok d S'=>Ok d S'
 |.ex c x S'=>∀ u s',XOk X P α c x S' u s'→X.xe u s'
 |.bad=>Fa
def OkV (P:Hp)(α : Ab Ad)(Q:VK)(d:D)(S':Sto):Prop:=∀ v H' P' α',Rel X.K H' P' α' S'→qI P P'→α<+:α'→Rep X.K P' α' d v→Q v H'
def OkT (P:Hp)(α : Ab Ad)(Q:Ap→Hp→Prop)(b:Ap)(S':Sto):Prop:=∀ H' P' α',Rel X.K H' P' α' S'→qI P P'→α<+:α'→Q b H'
def OkA (P:Hp)(α : Ab Ad)(Q:Ab V→Hp→Prop)(ds:Ab D)(S':Sto):Prop:=∀ vs H' P' α',Rel X.K H' P' α' S'→qI P P'→α<+:α'→qG X.K P' α' ds vs→Q vs H'
abbrev z9 (P:Hp)(α : Ab Ad)(r:Res D)(Q:VK):Prop:=qM X P α r (OkV X P α Q)
abbrev yV (P:Hp)(α : Ab Ad)(r:Res Ap)(Q:Ap→Hp→Prop):Prop:=qM X P α r (OkT X P α Q)
abbrev pO (P:Hp)(α : Ab Ad)(r:Res (Ab D))(Q:Ab V→Hp→Prop):Prop:=qM X P α r (OkA X P α Q)
def zF (P:Hp)(α : Ab Ad)(r:Out)(D:Ends):Prop:=
 match r with
 |.nx env' S'=>∀ σ' H' P' α',Rel X.K H' P' α' S'→zE X.K P' α' σ' env'→qI P P'→α<+:α'→D.nx σ' H'
 |.bk env' S'=>∀ σ' H' P' α',Rel X.K H' P' α' S'→zE X.K P' α' σ' env'→qI P P'→α<+:α'→D.bk σ' H'
 |.ct env' S'=>∀ σ' H' P' α',Rel X.K H' P' α' S'→zE X.K P' α' σ' env'→qI P P'→α<+:α'→D.ct σ' H'
 |.rt d S'=>∀ v H' P' α',Rel X.K H' P' α' S'→qI P P'→α<+:α'→Rep X.K P' α' d v→D.rt v H'
 |.ex c x _ S'=>∀ u s',XOk X P α c x S' u s'→X.xe u s'
 |.bad=>Fa
inductive tD (f:DE)(σ : _L.St)(H:Hp)(Q:VK):Prop
 |mk (P:Hp) (α : Ab Ad) (env:qD) (S:Sto) (r:Rel X.K H P α S) (re:zE X.K P α σ env) (af:z9 X P α (f env S) Q):tD f σ H Q
inductive tDT (f:DT)(σ : _L.St)(H:Hp)(Q:Ap→Hp→Prop):Prop
 |mk (P:Hp) (α : Ab Ad) (env:qD) (S:Sto) (r:Rel X.K H P α S) (re:zE X.K P α σ env) (af:yV X P α (f env S) Q):tDT f σ H Q
inductive tDA (f:DA)(σ : _L.St)(H:Hp)(Q:Ab V→Hp→Prop):Prop
 |mk (P:Hp) (α : Ab Ad) (env:qD) (S:Sto) (r:Rel X.K H P α S) (re:zE X.K P α σ env) (af:pO X P α (f env S) Q):tDA f σ H Q
inductive tDS (f:DS)(D:Ends)(σ : _L.St)(H:Hp):Prop
 |mk (P:Hp) (α : Ab Ad) (env:qD) (S:Sto) (r:Rel X.K H P α S) (re:zE X.K P α σ env) (af:zF X P α (f env S) D):tDS f D σ H
end
section
variable {X:Cx}{P P1:Hp}{α α1:Ab Ad}
def z9.base {r:Res D}(e:qI P P1)(h:α<+:α1)(k:z9 X P α r Q):z9 X P1 α1 r Q:=by
 cases r with
 |ok d S=>exact λv H' P' α' r q1 q2 q3=>k v H' P' α' r (e.trans q1) (h.trans q2) q3
 |ex c x S=>exact λu s' q=>k u s' (q.base e h)
 |bad=>exact k
def yV.base {r:Res Ap}{Q:Ap→Hp→Prop}(e:qI P P1)(h:α<+:α1)(k:yV X P α r Q):yV X P1 α1 r Q:=by
 cases r with
 |ok d S=>exact λH' P' α' r q1 q2=>k H' P' α' r (e.trans q1) (h.trans q2)
 |ex c x S=>exact λu s' q=>k u s' (q.base e h)
 |bad=>exact k
def pO.base {r:Res (Ab D)}{Q:Ab V→Hp→Prop}(e:qI P P1)(h:α<+:α1)(k:pO X P α r Q):pO X P1 α1 r Q:=by
 cases r with
 |ok d S=>exact λv H' P' α' r q1 q2 q3=>k v H' P' α' r (e.trans q1) (h.trans q2) q3
 |ex c x S=>exact λu s' q=>k u s' (q.base e h)
 |bad=>exact k
def zF.base {r:Out}{D:Ends}(e:qI P P1)(h:α<+:α1)(k:zF X P α r D):zF X P1 α1 r D:=by
 cases r with
 |nx env S=>exact λv H' P' α' r q0 q1 q2=>k v H' P' α' r q0 (e.trans q1) (h.trans q2)
 |bk env S=>exact λv H' P' α' r q0 q1 q2=>k v H' P' α' r q0 (e.trans q1) (h.trans q2)
 |ct env S=>exact λv H' P' α' r q0 q1 q2=>k v H' P' α' r q0 (e.trans q1) (h.trans q2)
 |rt d S=>exact λv H' P' α' r q1 q2 q3=>k v H' P' α' r (e.trans q1) (h.trans q2) q3
 |ex c x env S=>exact λu s' q=>k u s' (q.base e h)
 |bad=>exact k
def xr {v:V}{H:Hp}{d:D}(k:OkV X P α Q d S)(r:Rel X.K H P α S)(q:Rep X.K P α d v):Q v H:=k v H P α r (qI.refl _) (Bo _) q
end
section
variable {X:Cx}{a b e:Bv}{pos:EQ}
def peW {t t':TE}(h:PE X e t)(w:∀ σ H Q,t' σ H Q→t σ H Q):PE X e t':=λpins s σ H Q I q=>h pins s σ H Q I (w σ H Q q)
def psW {st:Ej}{t t':TS}(h:PS X st t)(w:∀ D σ H,t' D σ H→t D σ H):PS X st t':=λpins s σ H D I q=>h pins s σ H D I (w D σ H q)
def LU {st:Ab Ej}{t t':TS}(h:PSs X st t)(w:∀ D σ H,t' D σ H→t D σ H):PSs X st t':=λpins s σ H D I q=>h pins s σ H D I (w D σ H q)
def paW {es:Ab Bv}{t t':TA}(h:PA X es t)(w:∀ σ H Q,t' σ H Q→t σ H Q):PA X es t':=λpos pins s σ H Q I q=>h pos pins s σ H Q I (w σ H Q q)
structure Got (X:Cx)(pins:Ab (Ad × Cg))(σ : _L.St)(env:qD)(P:Hp)(α : Ab Ad)(u:Ac)(s1:Ag)(v:V)(H1 P1:Hp)(α1:Ab Ad)(d:D)(S1:Sto):Prop where
 inv:Inv X pins σ H1 s1
 val:qO v u
 rel:Rel X.K H1 P1 α1 S1
 env:zE X.K P1 α1 σ env
 rep:Rep X.K P1 α1 d v
 same:qI P P1
 pre:α<+:α1
inductive GotG (X:Cx)(pins:Ab (Ad × Cg))(σ : _L.St)(env:qD)(P:Hp)(α : Ab Ad)(u:Ac)(s1:Ag){γ : Type}(g:D→Sto→Res γ)(Ok:γ→Sto→Prop):Prop
 |mk (v:V) (H1 P1:Hp) (α1:Ab Ad) (d:D) (S1:Sto) (G:Got X pins σ env P α u s1 v H1 P1 α1 d S1) (q:qM X P α (g d S1) Ok):GotG X pins σ env P α u s1 g Ok
inductive GotAG (X:Cx)(pins:Ab (Ad × Cg))(σ : _L.St)(env:qD)(P:Hp)(α : Ab Ad)(us:Ab Ac)(s1:Ag){γ : Type}(g:Ab D→Sto→Res γ)(Ok:γ→Sto→Prop):Prop
 |mk (vs:Ab V) (H1 P1:Hp) (α1:Ab Ad) (ds:Ab D) (S1:Sto) (I:Inv X pins σ H1 s1) (rv:qP vs us) (r:Rel X.K H1 P1 α1 S1) (re:zE X.K P1 α1 σ env) (rp:qG X.K P1 α1 ds vs) (e1:qI P P1) (e2:α<+:α1) (q:qM X P α (g ds S1) Ok):GotAG X pins σ env P α us s1 g Ok
inductive GotT (X:Cx)(pins:Ab (Ad × Cg))(σ : _L.St)(env:qD)(P:Hp)(α : Ab Ad)(b:Ap)(s1:Ag){γ : Type}(g:Ap→Sto→Res γ)(Ok:γ→Sto→Prop):Prop
 |mk (H1 P1:Hp) (α1:Ab Ad) (S1:Sto) (I:Inv X pins σ H1 s1) (r:Rel X.K H1 P1 α1 S1) (re:zE X.K P1 α1 σ env) (e1:qI P P1) (e2:α<+:α1) (q:qM X P α (g b S1) Ok):GotT X pins σ env P α b s1 g Ok
def x5 {γ:Type}{f:DE}{g:D→Sto→Res γ}{Ok:γ→Sto→Prop}{pins:Ab (Ad × Cg)}{s:Ag}{σ:_L.St}{H P:Hp}{α:Ab Ad}{env:qD}(he:PE X e (tD X f))(I:Inv X pins σ H s)(r:Rel X.K H P α S)
  (re:zE X.K P α σ env) (af:qM X P α ((f env S).bind g) Ok) :
  Ao (As X.prog X.w) X.A (eval e X.env) (λu s1=>GotG X pins σ env P α u s1 g Ok) X.xe s:=by
 refine thn (he pins s σ H (λv H1=>∃ P1 α1 d S1,Rel X.K H1 P1 α1 S1∧zE X.K P1 α1 σ env∧Rep X.K P1 α1 d v∧qI P P1∧α<+:α1∧qM X P α (g d S1) Ok) I ⟨P,α,env,S,r,re,?_⟩) λu s1 ⟨v,H1,I1,rv,P1,α1,d,S1,q1,q2,q3,q4,q5,q6⟩=>⟨v,H1,P1,α1,d,S1,⟨I1,rv,q1,q2,q3,q4,q5⟩,q6⟩;cases q:f env S with
 |bad=>rw[q] at af;exact af
 |ex c x S'=>rw[q] at af;exact af
 |ok d S' =>
  rw[q] at af;exact λv H' P' α' r' e1 e2 rp=>⟨P',α',d,S',r',re.mono e1 e2,rp,e1,e2,af⟩
def yW {γ:Type}{es:Ab Bv}{f:DA}{g:Ab D→Sto→Res γ}{Ok:γ→Sto→Prop}{pins:Ab (Ad × Cg)}{s:Ag}{σ:_L.St}{H P:Hp}{α:Ab Ad}{env:qD}(he:PA X es (tDA X f))(I:Inv X pins σ H s)(r:Rel X.K H P α S)
  (re:zE X.K P α σ env) (af:qM X P α ((f env S).bind g) Ok) (pos:EQ) :
  Ao (As X.prog X.w) X.A (spliced (Gb pos (Br es X.env))) (λus s1=>GotAG X pins σ env P α us s1 g Ok) X.xe s:=by
 refine thn (he pos pins s σ H (λvs H1=>∃ P1 α1 ds S1,Rel X.K H1 P1 α1 S1∧zE X.K P1 α1 σ env∧qG X.K P1 α1 ds vs∧qI P P1∧α<+:α1∧qM X P α (g ds S1) Ok) I ⟨P,α,env,S,r,re,?_⟩) λu s1 ⟨v,H1,I1,rv,P1,α1,d,S1,q1,q2,q3,q4,q5,q6⟩=>⟨v,H1,P1,α1,d,S1,I1,rv,q1,q2,q3,q4,q5,q6⟩;cases q:f env S with
 |bad=>rw[q] at af;exact af
 |ex c x S'=>rw[q] at af;exact af
 |ok d S' =>
  rw[q] at af;exact λv H' P' α' r' e1 e2 rp=>⟨P',α',d,S',r',re.mono e1 e2,rp,e1,e2,af⟩
def pS {γ:Type}{f:DT}{g:Ap→Sto→Res γ}{Ok:γ→Sto→Prop}{pins:Ab (Ad × Cg)}{s:Ag}{σ:_L.St}{H P:Hp}{α:Ab Ad}{env:qD}{m:Jm Ap}
  (he:∀ (Q:Ap→Hp→Prop),tDT X f σ H Q→Ao (As X.prog X.w) X.A m (TP X pins σ Q) X.xe s) (r:Rel X.K H P α S) (re:zE X.K P α σ env) (af:qM X P α ((f env S).bind g) Ok) :
  Ao (As X.prog X.w) X.A m (λb s1=>GotT X pins σ env P α b s1 g Ok) X.xe s:=by
 refine thn (he (λb H1=>∃ P1 α1 S1,Rel X.K H1 P1 α1 S1∧zE X.K P1 α1 σ env∧qI P P1∧α<+:α1∧qM X P α (g b S1) Ok) ⟨P,α,env,S,r,re,?_⟩) λb s1 ⟨H1,I1,P1,α1,S1,q1,q2,q4,q5,q6⟩=>⟨H1,P1,α1,S1,I1,q1,q2,q4,q5,q6⟩;cases q:f env S with
 |bad=>rw[q] at af;exact af
 |ex c x S'=>rw[q] at af;exact af
 |ok d S' =>
  rw[q] at af;exact λH' P' α' r' e1 e2=>⟨P',α',S',r',re.mono e1 e2,e1,e2,af⟩
def dC (d:D):DE:=λ_ S=>.ok d S
def qB (i:Ah):DE:=λenv S=>match env[i]? with
 |some (Aa d)=>.ok d S
 |_=>.bad
def MG:PE X (.Constant (.int i) j pos) (tD X (dC (.int i))):=peW LA λσ H Q ⟨P,α,env,S,r,re,af⟩=>xr af r (by simp only[Rep])
def R6:PE X (.Constant (.bool i) j pos) (tD X (dC (.bl i))):=peW E8 λσ H Q ⟨P,α,env,S,r,re,af⟩=>xr af r (by simp only[Rep])
def MM:PE X (.Constant (.str i) j pos) (tD X (dC (.str i))):=peW LD λσ H Q ⟨P,α,env,S,r,re,af⟩=>xr af r (by simp only[Rep])
def MJ:PE X (.Constant .none j pos) (tD X (dC .non)):=peW LB λσ H Q ⟨P,α,env,S,r,re,af⟩=>xr af r (by simp only[Rep])
set_option tactic.hygienic true in
def F5 {i:Ah}{σ:_L.St}{H:Hp}(h:tD X (qB i) σ H Q):SI i σ H Q:=by
 obtain⟨P,α,env,S,r,re,af⟩:=h;unfold qB at af
 split at af
 ·rename_i d q
  obtain⟨v,h1,h2⟩:=re.2 i d q;exact⟨v,h1,xr af r h2⟩
 ·exact An af
def dv (i:Ah){x:Ar}(hN:X.N[i]? = Aa x:=by rfl)(hv:Vis X.env.scope x:=by first|exact Wu rfl|exact Vd (Wu rfl)|exact Vd (Vd rfl))(hd:(x == ("__debug__" : Ar))=false:=by decide)
  (hcd:(x == ("__classdict__" : Ar))=false:=by decide):PE X (.Name x pos) (tD X (qB i)):=peW (XM hN hv hd hcd) λσ H Q h=>F5 h
def aG {x:Ar}{d:D}{v:V}(hg:Gl X x)(hm:X.mg x=Aa u)(r:qO v u)(q:∀ P α,Rep X.K P α d v)(hd:(x == ("__debug__" : Ar))=false:=by decide):PE X (.Name x pos) (tD X (dC d)):=
 peW (B5 hg hm r hd) λσ H Q ⟨P,α,env,S,r,re,af⟩=>xr af r (q _ _)
def KM {x:Ar}{n:Do}(hg:Gl X x)(hm:X.mg x=none)(hv:Fy x=Aa (.type n))(hn:x ≠ "__name__":=by decide)(hd:(x == ("__debug__" : Ar))=false:=by decide):PE X (.Name x pos) (tD X (dC (.ty n))):=
 peW (B4 (v:=.ty n) hg hm hv rfl hn hd) λσ H Q ⟨P,α,env,S,r,re,af⟩=>xr af r (by simp only[Rep])
abbrev G2:=D→D→Sto→Res D
def OpD (X:Cx)(f:Ac→Ac→Jm Ac)(g:G2):Prop:=
 ∀ (pins:Ab (Ad × Cg)) (σ : _L.St) (H:Hp) (s:Ag) (P:Hp) (α : Ab Ad) (S:Sto) (v u:V) (vv uu:Ac) (a b:D) (Q:VK),Inv X pins σ H s→Rel X.K H P α S→qO v vv→qO u uu→Rep X.K P α a v→Rep X.K P α b u→z9 X P α (g a b S) Q →
  Ao (As X.prog X.w) X.A (f vv uu) (EP X pins σ Q) X.xe s
def OpD.of {f:Ac→Ac→Jm Ac}{r:R2}{g:G2}(h:OpR X f r)(w:∀ H P α S v u a b Q,Rel X.K H P α S→Rep X.K P α a v→Rep X.K P α b u→z9 X P α (g a b S) Q→r v u H Q):OpD X f g:=
 λpins σ H s P α S v u vv uu a b Q I rl r1 r2 p1 p2 af=>h pins s σ H v u vv uu Q I r1 r2 (w H P α S v u a b Q rl p1 p2 af)
def UnD (X:Cx)(f:Ac→Jm Ac)(g:D→Sto→Res D):Prop:=
 ∀ (pins:Ab (Ad × Cg)) (σ : _L.St) (H:Hp) (s:Ag) (P:Hp) (α : Ab Ad) (S:Sto) (v:V) (vv:Ac) (a:D) (Q:VK),Inv X pins σ H s→Rel X.K H P α S→qO v vv→Rep X.K P α a v→z9 X P α (g a S) Q →
  Ao (As X.prog X.w) X.A (f vv) (EP X pins σ Q) X.xe s
def IxD (X:Cx)(g:G2):Prop:=
 ∀ (value slice:Bv) (pins:Ab (Ad × Cg)) (σ : _L.St) (H:Hp) (s:Ag) (P:Hp) (α : Ab Ad) (S:Sto) (v u:V) (vv uu:Ac) (a b:D) (Q:VK),Inv X pins σ H s→Rel X.K H P α S→qO v vv→qO u uu→Rep X.K P α a v→Rep X.K P α b u→z9 X P α (g a b S) Q →
  subscripted slice false vv uu=operate [vv,uu] (Ko vv uu)→Ao (As X.prog X.w) X.A (Ov value slice vv uu) (EP X pins σ Q) X.xe s
def wN (X:Cx)(f:Ac)(g:Ab D→Sto→Res D):Prop:=
 ∀ (pins:Ab (Ad × Cg)) (σ : _L.St) (H:Hp) (s:Ag) (P:Hp) (α : Ab Ad) (S:Sto) (vs:Ab V) (us:Ab Ac) (ds:Ab D) (Q:VK),Inv X pins σ H s→Rel X.K H P α S→qP vs us→qG X.K P α ds vs→z9 X P α (g ds S) Q →
  Ao (As X.prog X.w) X.A (call f us) (EP X pins σ Q) X.xe s
def d2 (g:G2)(fa fb:DE):DE:=λenv S=>(fa env S).bind λx S1=>(fb env S1).bind λy S2=>g x y S2
def d1 (g:D→Sto→Res D)(fa:DE):DE:=λenv S=>(fa env S).bind g
variable {fa fb:DE}
def rF {g:G2}{f:Ac→Ac→Jm Ac}{pins:Ab (Ad × Cg)}{s:Ag}{σ:_L.St}{H:Hp}(ho:OpD X f g)(ha:PE X a (tD X fa))(hb:PE X b (tD X fb))(I:Inv X pins σ H s)(h:tD X (d2 g fa fb) σ H Q) :
  Ao (As X.prog X.w) X.A (eval a X.env) (λv s₁=>Ao (As X.prog X.w) X.A (eval b X.env) (λu s₂=>Ao (As X.prog X.w) X.A (f v u) (EP X pins σ Q) X.xe s₂) X.xe s₁) X.xe s:=by
 obtain⟨P,α,env,S,r,re,af⟩:=h;refine thn (x5 ha I r re af) λvv s1 ⟨v,H1,P1,α1,d,S1,G1,af1⟩=>?_;refine thn (x5 hb G1.inv G1.rel G1.env (P:=P1) (α:=α1) (Ok:=OkV X P1 α1 Q) (g:=λy S2=>g d y S2) ?_) λuu s2 ⟨u,H2,P2,α2,d',S2,G2,af2⟩=>?_
 ·exact z9.base G1.same G1.pre af1
 ·exact ho pins σ H2 s2 P2 α2 S2 v u vv uu d d' Q G2.inv G2.rel G1.val G2.val (Rep.mono G2.same G2.pre _ _ G1.rep) G2.rep (z9.base G2.same G2.pre af2)
def RA {op:Operator}{g:G2}(ho:OpD X (Ex op) g)(ha:PE X a (tD X fa))(hb:PE X b (tD X fb)):PE X (.BinOp a op b pos) (tD X (d2 g fa fb)):=
 λpins s σ H Q I h=>wpAny_BinOp (rF ho ha hb I h)
def MD {op:Ru}{g:G2}(ho:OpD X (Di op) g)(ha:PE X a (tD X fa))(hb:PE X b (tD X fb))(hm:Jp op b=false:=by first|exact kZ _|with_unfolding_all rfl):PE X (.Compare a [op] [b] pos) (tD X (d2 g fa fb)):=
 λpins s σ H Q I h=>wpAny_Compare1 (rF ho ha hb I h) hm
def RB {op:UnaryOp}{g:D→Sto→Res D}(ho:UnD X (Uu op) g)(ha:PE X a (tD X fa)):PE X (.UnaryOp op a pos) (tD X (d1 g fa)):=by
 intro pins s σ H Q I h;obtain⟨P,α,env,S,r,re,af⟩:=h;exact UnaryOp_ (thn (x5 ha I r re af) λvv s1 ⟨v,H1,P1,α1,d,S1,G1,af1⟩=>ho pins σ H1 s1 P1 α1 S1 v vv d Q G1.inv G1.rel G1.val G1.rep (z9.base G1.same G1.pre af1))
def R9 {g:G2}(ho:IxD X g)(ha:PE X a (tD X fa))(hb:PE X b (tD X fb))(hs:tV b:=by intro _ _;rfl):PE X (.Subscript a b pos) (tD X (d2 g fa fb)):=by
 intro pins s σ H Q I h;obtain⟨P,α,env,S,r,re,af⟩:=h;have IxR':IxR X (λx y H Q=>∃ P α S a b,Rel X.K H P α S∧Rep X.K P α a x∧Rep X.K P α b y∧z9 X P α (g a b S) Q):=λvalue slice pins s σ H x y v u Q I rx ry ⟨P,α,S,a,b,r,p1,p2,af⟩ hsl =>
  ho value slice pins σ H s P α S x y v u a b Q I r rx ry p1 p2 af hsl
 refine peW (E9 IxR' ha hb hs) (t':=tD X (d2 g fa fb)) (λσ H Q h=>?_) pins s σ H Q I ⟨P,α,env,S,r,re,af⟩;obtain⟨P,α,env,S,r,re,af⟩:=h;refine⟨P,α,env,S,r,re,?_⟩;unfold d2 at af;cases q:fa env S with
 |bad=>rw[q] at af;exact af
 |ex c x S'=>rw[q] at af;exact af
 |ok d S1 =>
  rw[q] at af;intro v H1 P1 α1 r1 e1 e2 rp;refine⟨P1,α1,env,S1,r1,re.mono e1 e2,?_⟩;have af':z9 X P α ((fb env S1).bind λy S2=>g d y S2) Q:=af;cases q2:fb env S1 with
  |bad=>rw[q2] at af';exact af'
  |ex c x S'=>rw[q2] at af';exact λu s' z=>af' u s' (z.base e1 e2)
  |ok d' S2 =>
   rw[q2] at af';intro u H2 P2 α2 r2 e3 e4 rp2;exact⟨P2,α2,S2,d,d',r2,Rep.mono e3 e4 _ _ rp,rp2,z9.base (e1.trans e3) (e2.trans e4) af'⟩
def qC:DA:=λ_ S=>.ok [] S
def qA (f:DE)(g:DA):DA:=λenv S=>(f env S).bind λx S1=>(g env S1).bind λxs S2=>.ok (x::xs) S2
def M8:PA X [] (tDA X qC):=paW L9 λσ H Q ⟨P,α,env,S,r,re,af⟩=>af [] H P α r (qI.refl _) (Bo _) .nil
def KL {es:Ab Bv}{g:DA}(ha:PE X e (tD X fa))(hr:PA X es (tDA X g))(hs:Br (e::es) X.env=(false,eval e X.env)::Br es X.env:=by rfl):PA X (e::es) (tDA X (qA fa g)):=by
 intro pos pins s σ H Q I h;obtain⟨P,α,env,S,r,re,af⟩:=h;rw[hs];show Ao _ _ (spliced ((false,eval e X.env)::Gb pos (Br es X.env))) _ _ s;refine Kk (thn (x5 ha I r re af) λu s1 ⟨x,H1,P1,α1,d,S1,G1,af1⟩=>?_);refine thn (yW hr G1.inv G1.rel G1.env (P:=P1) (α:=α1) (Ok:=OkA X P1 α1 Q) (pO.base G1.same G1.pre af1) pos) λus s2 ⟨xs,H2,P2,α2,ds,S2,I2,rv,r2,re2,rp2,e1,e2,af2⟩=>?_;exact⟨x::xs,H2,I2,.cons G1.val rv,af2 _ _ _ _ r2 e1 e2 (.cons (Rep.mono e1 e2 _ _ G1.rep) rp2)⟩
def lim:Ah:=16777216
def xD:lim=sizeLine:=Ep.symm
def qQ (f:DA):DE:=λenv S=>(f env S).bind λxs S1=>if xs.length≤lim then .ok (.tup xs) S1 else .bad
def zL (f:DA):DE:=λenv S=>(f env S).bind λxs S1=>if xs.length≤lim then .ok (.lst xs) S1 else .bad
def vL (f:DA):DE:=λenv S=>(f env S).bind λxs S1=>if xs.length≤lim then .ok (.loc S1.length) (S1++[.lst xs]) else .bad
def iL {K:Ak}{P:Hp}{α:Ab Ad}{a:Ad}{ds:Ab D}(h:SqT K P a vs)(r:qG K P α ds vs):Rep K P α (.tup ds) (.ref a):=by simp only[Rep];exact⟨a,vs,rfl,h,r⟩
def lA {K:Ak}{P:Hp}{α:Ab Ad}{a:Ad}{ds:Ab D}(h:SqX K P a vs)(r:qG K P α ds vs):Rep K P α (.lst ds) (.ref a):=by simp only[Rep];exact⟨a,vs,rfl,h,r⟩
def pA {H P:Hp}{α:Ab Ad}{ds:Ab D}(r:Rel X.K H P α S)(hp:H p=none)(rp:qG X.K P α ds vs)(af:OkV X P α Q (.tup ds) S):Q (.ref p) (upd H p (.tup vs)):=by
 obtain⟨r1,e1⟩:=r.pure (o:=.tup vs) hp;exact af _ _ _ α r1 e1 (Bo _) (iL (.of zB) (qG.mono e1 (Bo _) _ _ rp))
def vA {H P:Hp}{α:Ab Ad}{ds:Ab D}(r:Rel X.K H P α S)(hp:H p=none)(rp:qG X.K P α ds vs)(af:OkV X P α Q (.lst ds) S):Q (.ref p) (upd H p (.lst vs)):=by
 obtain⟨r1,e1⟩:=r.pure (o:=.lst vs) hp;exact af _ _ _ α r1 e1 (Bo _) (lA (.inl (.inl zB)) (qG.mono e1 (Bo _) _ _ rp))
def nW {H P:Hp}{α:Ab Ad}{ds:Ab D}(r:Rel X.K H P α S)(hp:H p=none)(rp:qG X.K P α ds vs)(af:OkV X P α Q (.loc S.length) (S++[.lst ds])):Q (.ref p) (upd H p (.lst vs)):=by
 have hpre:α<+:α++[p]:=Fo _ _;have r1:=r.new (o:=.lst vs) (m:=.lst ds) hp ⟨vs,zB,qG.mono (qI.refl _) hpre _ _ rp⟩;refine af _ _ _ _ r1 (qI.refl _) hpre ?_;simp only[Rep];exact⟨p,rfl,by rw[← r.len];simp⟩
def n8 {f:DA}{σ:_L.St}{H:Hp}{G:Ab D→Sto→Res D}{mk:Ab V→HO}(h:tD X (λenv S=>(f env S).bind λxs S1=>if xs.length≤lim then G xs S1 else .bad) σ H Q)
  (k:∀ H1 P1 α1 S1 ds vs p,Rel X.K H1 P1 α1 S1→H1 p=none→qG X.K P1 α1 ds vs→z9 X P1 α1 (G ds S1) Q→Q (.ref p) (upd H1 p (mk vs))) :
  tDA X f σ H λvs H1=>vs.length≤sizeLine∧∀ p,H1 p=none→Q (.ref p) (upd H1 p (mk vs)):=by
 obtain⟨P,α,env,S,r,re,af⟩:=h;refine⟨P,α,env,S,r,re,?_⟩;have af':z9 X P α ((f env S).bind λxs S1=>if xs.length≤lim then G xs S1 else .bad) Q:=af
 cases q:f env S with
 |bad=>rw[q] at af';exact af'
 |ex c x S'=>rw[q] at af';exact af'
 |ok ds S1 =>
  rw[q] at af';intro vs H1 P1 α1 r1 e1 e2 rp;have af2:z9 X P α (if ds.length≤lim then G ds S1 else .bad) Q:=af'
  by_cases hl:ds.length≤lim
  ·rw[Bg hl] at af2
   exact⟨by rw[← rp.length,← xD];exact hl,λp hp=>k H1 P1 α1 S1 ds vs p r1 hp rp (z9.base e1 e2 af2)⟩
  ·rw[Bc hl] at af2;exact An af2
def MN {es:Ab Bv}{f:DA} {x1} (h:PA X es (tDA X f)):PE X (.Tuple es x1 pos) (tD X (qQ f)):=
 peW (LG h) λσ H Q q=>n8 (G:=λxs S1=>.ok (.tup xs) S1) (mk:=.tup) q λH1 P1 α1 S1 ds vs p r hp rp af=>pA r hp rp af
def MI {es:Ab Bv}{f:DA}(h:PA X es (tDA X f)):PE X (.List es pos) (tD X (zL f)):=
 peW (XJ h) λσ H Q q=>n8 (G:=λxs S1=>.ok (.lst xs) S1) (mk:=.lst) q λH1 P1 α1 S1 ds vs p r hp rp af=>vA r hp rp af
def KR {es:Ab Bv}{f:DA}(h:PA X es (tDA X f)):PE X (.List es pos) (tD X (vL f)):=
 peW (XJ h) λσ H Q q=>n8 (G:=λxs S1=>.ok (.loc S1.length) (S1++[MO.lst xs])) (mk:=.lst) q λH1 P1 α1 S1 ds vs p r hp rp af=>nW r hp rp af
end
section
variable {X:Cx}{a b c e:Bv}{pos:EQ}{fa fb fc:DE}{ta tb:DT}
def wG:D→Sto→Al Ap
 |.non,_=>Aa false
 |.bl b,_=>Aa b
 |.int i,_=>Aa (i != 0)
 |.str x,_=>if x.length≤lim then Aa ((x.length:Ai) != 0) else none
 |.tup xs,_=>Aa (!xs.isEmpty)
 |.lst xs,_=>Aa (!xs.isEmpty)
 |.dct0,_=>Aa false
 |.loc i,S=>match S[i]? with
  |some (.lst xs)=>Aa (!xs.isEmpty)
  |some (.dct kvs)=>Aa (!kvs.isEmpty)
  |_=>none
 |_,_=>none
def qG.isEmpty {K:Ak}{P:Hp}{α:Ab Ad}{ds:Ab D}(r:qG K P α ds vs):(!ds.isEmpty)=!vs.isEmpty:=by
 cases ds with
 |nil=>rw[r.nil_inv];rfl
 |cons d ds=>obtain⟨w,ws,rfl,_,_⟩:=r.cons_inv;rfl
def wH {K:Ak}{H P:Hp}(e:qI P H){a:Ad}{xs:Ab V}(h:SqT K P a xs):SqT K H a xs:=vB e h
def j8 {H P:Hp}{α:Ab Ad}{v:V}{d:D}{k:Ap}(r:Rel X.K H P α S)(p:Rep X.K P α d v)(h:wG d S=Aa k):o7 X.K v H k:=by
 cases d with
 |non=>simp only[Rep] at p;subst p;cases h;rfl
 |bl b=>simp only[Rep] at p;subst p;cases h;rfl
 |int i=>simp only[Rep] at p;subst p;cases h;rfl
 |str x =>
  simp only[Rep] at p;subst p;obtain⟨hl,rfl⟩:=gU h;exact⟨by rw[← xD];exact hl,rfl⟩
 |tup xs =>
  simp only[Rep] at p;obtain⟨a,vs,rfl,q,t⟩:=p;cases h;exact .inr (.inl ⟨vs,wH r.sub q,t.isEmpty⟩)
 |lst xs =>
  simp only[Rep] at p;obtain⟨a,vs,rfl,q,t⟩:=p;cases h;exact .inl ⟨vs,(wA r.sub q).l,t.isEmpty⟩
 |dct0 =>
  simp only[Rep] at p;obtain⟨a,rfl,q⟩:=p;cases h;exact .inr (.inr ⟨[],r.sub _ _ q,rfl⟩)
 |loc i =>
  simp only[Rep] at p;obtain⟨a,rfl,q⟩:=p;have h:(match S[i]? with|some (.lst xs)=>Aa (!xs.isEmpty)|some (.dct kvs)=>Aa (!kvs.isEmpty)|_=>none)=Aa k:=h
  cases hs:S[i]? with
  |none=>rw[hs] at h;exact nn h
  |some m =>
   rw[hs] at h;cases m with
   |lst xs =>
    cases h;obtain⟨vs,z,t⟩:=r.at' i a _ q hs;exact .inl ⟨vs,.of z,t.isEmpty⟩
   |dct kvs =>
    cases h;obtain⟨vs,z,t⟩:=r.at' i a _ q hs;refine .inr (.inr ⟨vs,z,?_⟩);cases t <;> rfl
   |_=>exact nn h
 |ty n=>exact nn h
 |obj a=>exact nn h
 |exn c=>exact nn h
 |fd ks ds=>exact nn h
 |clo a vs ds=>exact nn h
def JX {pins:Ab (Ad × Cg)}{s:Ag}{σ:_L.St}{H P:Hp}{α:Ab Ad}{v:V}{d:D}{k:Ap}{Q:Ap→Hp→Prop}(I:Inv X pins σ H s)(r:Rel X.K H P α S)(rv:qO v vv)(p:Rep X.K P α d v)(h:wG d S=Aa k)(q:Q k H) :
  Ao (As X.prog X.w) X.A (truthy vv) (TP X pins σ Q) X.xe s:=bG pins s σ H v vv Q I rv ⟨k,j8 r p h,q⟩
def kL (o:Al Ap)(S:Sto):Res Ap:=match o with
 |some b=>.ok b S
 |none=>.bad
def dTr (f:DE):DT:=λenv S=>(f env S).bind λd S1=>kL (wG d S1) S1
def lC {o:Al Ap}{P:Hp}{α:Ab Ad}{Ok:Ap→Sto→Prop}(h:qM X P α (kL o S) Ok):∃ b,o=Aa b∧Ok b S:=by
 cases o with
 |none=>exact An h
 |some b=>exact⟨b,rfl,h⟩
def TB (ha:PE X a (tD X fa))(he:∀ whole,isTrue a X.env whole=(do let v ← whole;Sc a.pos;holding [v] (truthy v)):=by intro _;rfl):PT X a (tDT X (dTr fa)):=by
 intro pins s σ H Q I h;obtain⟨P,α,env,S,r,re,af⟩:=h;refine isTrue_plain (thn (x5 ha I r re af) λvv s1 ⟨v,H1,P1,α1,d,S1,G1,af1⟩=>?_) (he _);obtain⟨k,e1,q⟩:=lC af1;exact JX G1.inv G1.rel G1.val G1.rep e1 (q H1 P1 α1 G1.rel G1.same G1.pre)
def T7 {op:Ru}{g:G2}(ho:OpD X (Di op) g)(ha:PE X a (tD X fa))(hb:PE X b (tD X fb))(hm:Jp op b=false:=by first|exact kZ _|with_unfolding_all rfl):PT X (.Compare a [op] [b] pos) (tDT X (dTr (d2 g fa fb))):=by
 intro pins s σ H Q I h;obtain⟨P,α,env,S,r,re,af⟩:=h;refine wpAny_isTrue_Compare1 ?_ hm;have key:tD X (d2 g fa fb) σ H (λv H1=>∃ k,o7 X.K v H1 k∧Q k H1):=by
  refine⟨P,α,env,S,r,re,?_⟩;have af':qM X P α ((d2 g fa fb env S).bind λd S1=>kL (wG d S1) S1) (OkT X P α Q):=af;cases q:d2 g fa fb env S with
  |bad=>rw[q] at af';exact af'
  |ex c x S'=>rw[q] at af';exact af'
  |ok d S1 =>
   rw[q] at af';obtain⟨k,e1,qk⟩:=lC (X:=X) af';exact λv H1 P1 α1 r1 e3 e4 rp=>⟨k,j8 r1 rp e1,qk H1 P1 α1 r1 e3 e4⟩
 exact thn (rF ho ha hb I key) λv s1 h1=>thn h1 λu s2 h2=>thn h2 λx s3 ⟨y,H3,I3,r3,k,tk,qk⟩=>bG pins s3 σ H3 y x Q I3 r3 ⟨k,tk,qk⟩
def wI (g g':G2)(fa fb fc:DE):DE:=λenv S=>(fa env S).bind λx S1=>(fb env S1).bind λy S2=>(g x y S2).bind λz S3 =>
 match wG z S3 with
 |some true=>(fc env S3).bind λw S4=>g' y w S4
 |some false=>.ok z S3
 |none=>.bad
inductive GotO (X:Cx)(pins:Ab (Ad × Cg))(σ : _L.St)(P:Hp)(α : Ab Ad)(w:Ac)(s1:Ag){γ : Type}(k:D→Sto→Res γ)(Ok:γ→Sto→Prop):Prop
 |mk (y:V) (H1 P1:Hp) (α1:Ab Ad) (d:D) (S1:Sto) (I:Inv X pins σ H1 s1) (rv:qO y w) (r:Rel X.K H1 P1 α1 S1) (rp:Rep X.K P1 α1 d y) (e1:qI P P1) (e2:α<+:α1) (q:qM X P α (k d S1) Ok):GotO X pins σ P α w s1 k Ok
def eL {γ:Type}{f:Ac→Ac→Jm Ac}{g:G2}{k:D→Sto→Res γ}{Ok:γ→Sto→Prop}{pins:Ab (Ad × Cg)}{σ:_L.St}{H:Hp}{s:Ag}{P:Hp}{α:Ab Ad}{v u:V}{uu:Ac}{a b:D}(ho:OpD X f g)(I:Inv X pins σ H s)(r:Rel X.K H P α S)
  (rv:qO v vv) (ru:qO u uu) (pa:Rep X.K P α a v) (pb:Rep X.K P α b u) (af:qM X P α ((g a b S).bind k) Ok) :
  Ao (As X.prog X.w) X.A (f vv uu) (λw s1=>GotO X pins σ P α w s1 k Ok) X.xe s:=by
 refine thn (ho pins σ H s P α S v u vv uu a b (λy H1=>∃ P1 α1 d S1,Rel X.K H1 P1 α1 S1∧Rep X.K P1 α1 d y∧qI P P1∧α<+:α1∧qM X P α (k d S1) Ok) I r rv ru pa pb ?_) λw s1 ⟨y,H1,I1,r1,P1,α1,d,S1,q1,q2,q3,q4,q5⟩=>⟨y,H1,P1,α1,d,S1,I1,r1,q1,q2,q3,q4,q5⟩;cases q:g a b S with
 |bad=>rw[q] at af;exact af
 |ex c x S'=>rw[q] at af;exact af
 |ok d S' =>
  rw[q] at af;exact λv H' P' α' r' e1 e2 rp=>⟨P',α',d,S',r',rp,e1,e2,af⟩
def qM.base' {β:Type}{P P1:Hp}{α α1:Ab Ad}{r:Res β}{Ok Ok1:β→Sto→Prop}(e:qI P P1)(h:α<+:α1)(ho:∀ d S,Ok d S→Ok1 d S)(k:qM X P α r Ok):qM X P1 α1 r Ok1:=by
 cases r with
 |ok d S=>exact ho d S k
 |ex c x S=>exact λu s' q=>k u s' (q.base e h)
 |bad=>exact k
def YJ {op op':Ru}{g g':G2}(ho:OpD X (Di op) g)(ho':OpD X (Di op') g')(ha:PE X a (tD X fa))(hb:PE X b (tD X fb))(hc:PE X c (tD X fc))
  (hm:Ue [op,op'] [b,c]=false:=by with_unfolding_all rfl):PE X (.Compare a [op,op'] [b,c] pos) (tD X (wI g g' fa fb fc)):=by
 intro pins s σ H Q I h;obtain⟨P,α,env,S,r,re,af⟩:=h;refine Compare_chain (thn (x5 ha I r re af) λvv s1 ⟨v,H1,P1,α1,d,S1,G1,af1⟩=>chain_link (thn (x5 hb G1.inv G1.rel G1.env (z9.base G1.same G1.pre af1)) λuu s2 ⟨u,H2,P2,α2,d',S2,G2,af2⟩ =>
  thn (eL ho G2.inv G2.rel G1.val G2.val (Rep.mono G2.same G2.pre _ _ G1.rep) G2.rep (z9.base G2.same G2.pre af2)) λw s3 ⟨y,H3,P3,α3,z,S3,I3,r3,rl3,rp3,e3,e4,af3⟩=>?_)) hm
 cases ht:wG z S3 with
 |none=>simp only[ht] at af3;exact An af3
 |some k =>
  simp only[ht] at af3;have tv:=j8 rl3 rp3 ht;refine thn (bG pins s3 σ H3 y w (λk' H'=>k'=k∧H'=H3) I3 r3 ⟨k,tv,rfl,rfl⟩) λk' s4 ⟨H4,I4,hk,hH⟩=>?_;subst hk;subst hH;cases k' with
  |false=>exact ite_ff ⟨y,H4,I4,r3,af3 y H4 P3 α3 rl3 e3 e4 rp3⟩
  |true =>
   refine ite_tt (chain_last (thn (x5 hc I4 rl3 (G2.env.mono e3 e4) (z9.base e3 e4 af3)) λww s5 ⟨w',H5,P5,α5,d5,S5,G5,af5⟩=>?_));exact ho' pins σ H5 s5 P5 α5 S5 u w' uu ww d' d5 Q G5.inv G5.rel G2.val G5.val (Rep.mono (e3.trans G5.same) (e4.trans G5.pre) _ _ G2.rep) G5.rep (z9.base G5.same G5.pre af5)
def YV {op op':Ru}{g g':G2}(ho:OpD X (Di op) g)(ho':OpD X (Di op') g')(ha:PE X a (tD X fa))(hb:PE X b (tD X fb))(hc:PE X c (tD X fc))
  (hm:Ue [op,op'] [b,c]=false:=by with_unfolding_all rfl):PT X (.Compare a [op,op'] [b,c] pos) (tDT X (dTr (wI g g' fa fb fc))):=by
 intro pins s σ H Q I h;obtain⟨P,α,env,S,r,re,af⟩:=h;have af':qM X P α ((wI g g' fa fb fc env S).bind λd S1=>kL (wG d S1) S1) (OkT X P α Q):=af;have assoc:(wI g g' fa fb fc env S).bind (λd S1=>kL (wG d S1) S1)=(fa env S).bind λx S1=>(fb env S1).bind λy S2=>(g x y S2).bind λz S3 =>
   match wG z S3 with
   |some true=>((fc env S3).bind λw S4=>g' y w S4).bind λd S1=>kL (wG d S1) S1
   |some false=>.ok false S3
   |none=>.bad:=by
  unfold wI;cases fa env S with
  |bad=>rfl
  |ex _ _ _=>rfl
  |ok x S1 =>
   show Res.bind (Res.bind (fb env S1) _) _=Res.bind (fb env S1) _;cases fb env S1 with
   |bad=>rfl
   |ex _ _ _=>rfl
   |ok y S2 =>
    show Res.bind (Res.bind (g x y S2) _) _=Res.bind (g x y S2) _;cases g x y S2 with
    |bad=>rfl
    |ex _ _ _=>rfl
    |ok z S3 =>
     show Res.bind (match wG z S3 with|some true=>(fc env S3).bind λw S4=>g' y w S4|some false=>.ok z S3|none=>.bad) _=_
     cases ht:wG z S3 with
     |none=>simp only[ht,Res.bind]
     |some k=>cases k <;> simp only[ht,Res.bind,kL]
 rw[assoc] at af';refine isTrue_chain (thn (x5 ha I r re af') λvv s1 ⟨v,H1,P1,α1,d,S1,G1,af1⟩=>test_link (thn (x5 hb G1.inv G1.rel G1.env (yV.base G1.same G1.pre af1)) λuu s2 ⟨u,H2,P2,α2,d',S2,G2,af2⟩ =>
  thn (eL ho G2.inv G2.rel G1.val G2.val (Rep.mono G2.same G2.pre _ _ G1.rep) G2.rep (yV.base G2.same G2.pre af2)) λw s3 ⟨y,H3,P3,α3,z,S3,I3,r3,rl3,rp3,e3,e4,af3⟩=>?_)) hm
 cases ht:wG z S3 with
 |none=>simp only[ht] at af3;exact An af3
 |some k =>
  simp only[ht] at af3;have tv:=j8 rl3 rp3 ht;refine thn (bG pins s3 σ H3 y w (λk' H'=>k'=k∧H'=H3) I3 r3 ⟨k,tv,rfl,rfl⟩) λk' s4 ⟨H4,I4,hk,hH⟩=>?_;subst hk;subst hH;cases k' with
  |false=>exact ite_ff ⟨H4,I4,af3 H4 P3 α3 rl3 e3 e4⟩
  |true =>
   have af4:qM X P2 α2 ((fc env S3).bind λw S4=>(g' d' w S4).bind λd S1=>kL (wG d S1) S1) (OkT X P2 α2 Q):=by
    have e:((fc env S3).bind λw S4=>(g' d' w S4).bind λd S1=>kL (wG d S1) S1)=(((fc env S3).bind λw S4=>g' d' w S4).bind λd S1=>kL (wG d S1) S1):=by
     cases fc env S3 <;> rfl
    rw[e];exact af3
   refine ite_tt (test_last (thn (x5 hc I4 rl3 (G2.env.mono e3 e4) (yV.base e3 e4 af4)) λww s5 ⟨w',H5,P5,α5,d5,S5,G5,af5⟩ =>
    thn (eL ho' G5.inv G5.rel G2.val G5.val (Rep.mono (e3.trans G5.same) (e4.trans G5.pre) _ _ G2.rep) G5.rep (yV.base G5.same G5.pre af5)) λx6 s6 ⟨y6,H6,P6,α6,d6,S6,I6,r6,rl6,rp6,e5,e6,af6⟩=>?_))
   obtain⟨k6,q6,z6⟩:=lC af6;exact JX I6 rl6 r6 rp6 q6 (z6 H6 P6 α6 rl6 e5 e6)
def xB (t:DT):DT:=λenv S=>(t env S).bind λb S1=>.ok (!b) S1
def yM (t u:DT):DT:=λenv S=>(t env S).bind λb S1=>if b then u env S1 else .ok false S1
def vM (t u:DT):DT:=λenv S=>(t env S).bind λb S1=>if b then .ok true S1 else u env S1
def T9 (ha:PT X a (tDT X ta)):PT X (.UnaryOp .Not a pos) (tDT X (xB ta)):=by
 intro pins s σ H Q I h;obtain⟨P,α,env,S,r,re,af⟩:=h;refine isTrue_not (thn (pS (λQ' q=>ha pins s σ H Q' I q) r re af) λb s1 ⟨H1,P1,α1,S1,I1,r1,re1,e1,e2,af1⟩=>⟨H1,I1,af1 H1 P1 α1 r1 e1 e2⟩)
def PWD (X:Cx)(e:Bv)(t:DT):Prop:=PW X e (tDT X t)
def PWD.pt {t:DT}(h:PWD X e t):PT X e (tDT X t):=h _
def GC (ha:PT X a (tDT X ta)):PWD X (.BoolOp .And [a] pos) ta:=BE ha
def TF (ha:PT X a (tDT X ta)):PWD X (.BoolOp .Or [a] pos) ta:=LW ha
def TC {qK:Ab Bv}(ha:PT X a (tDT X ta))(hb:PWD X (.BoolOp .And (b::qK) pos) tb):PWD X (.BoolOp .And (a::b::qK) pos) (yM ta tb):=by
 intro wh pins s σ H Q I h;obtain⟨P,α,env,S,r,re,af⟩:=h;refine isTrue_and (thn (pS (λQ' q=>ha pins s σ H Q' I q) r re af) λk s1 ⟨H1,P1,α1,S1,I1,r1,re1,e1,e2,af1⟩=>?_);cases k with
 |true=>exact hb wh pins s1 σ H1 Q I1 ⟨P1,α1,env,S1,r1,re1,yV.base e1 e2 af1⟩
 |false=>exact⟨H1,I1,af1 H1 P1 α1 r1 e1 e2⟩
def RH {qK:Ab Bv}(ha:PT X a (tDT X ta))(hb:PWD X (.BoolOp .Or (b::qK) pos) tb):PWD X (.BoolOp .Or (a::b::qK) pos) (vM ta tb):=by
 intro wh pins s σ H Q I h;obtain⟨P,α,env,S,r,re,af⟩:=h;refine isTrue_or (thn (pS (λQ' q=>ha pins s σ H Q' I q) r re af) λk s1 ⟨H1,P1,α1,S1,I1,r1,re1,e1,e2,af1⟩=>?_);cases k with
 |true=>exact⟨H1,I1,af1 H1 P1 α1 r1 e1 e2⟩
 |false=>exact hb wh pins s1 σ H1 Q I1 ⟨P1,α1,env,S1,r1,re1,yV.base e1 e2 af1⟩
def n6 (f g:DE):DE:=λenv S=>(f env S).bind λx S1=>match wG x S1 with
 |some true=>g env S1
 |some false=>.ok x S1
 |none=>.bad
def YG (f:DE):DE:=λenv S=>(f env S).bind λx S1=>match wG x S1 with
 |some b=>.ok (.bl (!b)) S1
 |none=>.bad
def ML  (h:PE X a (tD X fa)):PE X (.BoolOp op [a] pos) (tD X fa):=LC h
def SK {pins:Ab (Ad × Cg)}{s:Ag}{σ:_L.St}{H:Hp}{v:V}{k:Ap}{R:Ap→Ag→Prop}(I:Inv X pins σ H s)(rv:qO v vv)(t:o7 X.K v H k)(h:∀ s',Inv X pins σ H s'→R k s') :
  Ao (As X.prog X.w) X.A (truthy vv) R X.xe s:=thn (bG pins s σ H v vv (λk' H'=>k'=k∧H'=H) I rv ⟨k,t,rfl,rfl⟩) λk' s4 ⟨H4,I4,hk,hH⟩=>by subst hk;subst hH;exact h s4 I4
def MA {qK:Ab Bv}(ha:PE X a (tD X fa))(hb:PE X (.BoolOp .And (b::qK) pos) (tD X fb)):PE X (.BoolOp .And (a::b::qK) pos) (tD X (n6 fa fb)):=by
 intro pins s σ H Q I h;obtain⟨P,α,env,S,r,re,af⟩:=h;refine BoolOp_and (thn (x5 ha I r re af) λvv s1 ⟨v,H1,P1,α1,d,S1,G1,af1⟩=>?_);cases ht:wG d S1 with
 |none=>simp only[ht] at af1;exact An af1
 |some k =>
  simp only[ht] at af1;refine SK G1.inv G1.val (j8 G1.rel G1.rep ht) λs2 I2=>?_;cases k with
  |true=>exact hb pins s2 σ H1 Q I2 ⟨P1,α1,env,S1,G1.rel,G1.env,z9.base G1.same G1.pre af1⟩
  |false=>exact⟨v,H1,I2,G1.val,af1 v H1 P1 α1 G1.rel G1.same G1.pre G1.rep⟩
def MK (ha:PE X a (tD X fa)):PE X (.UnaryOp .Not a pos) (tD X (YG fa)):=by
 intro pins s σ H Q I h;obtain⟨P,α,env,S,r,re,af⟩:=h;refine UnaryOp_ (thn (x5 ha I r re af) λvv s1 ⟨v,H1,P1,α1,d,S1,G1,af1⟩=>?_);cases ht:wG d S1 with
 |none=>simp only[ht] at af1;exact An af1
 |some k =>
  simp only[ht] at af1;exact not_of (SK G1.inv G1.val (j8 G1.rel G1.rep ht) λs2 I2=>⟨.bl (!k),H1,I2,rfl,af1 (.bl (!k)) H1 P1 α1 G1.rel G1.same G1.pre (by simp only[Rep])⟩)
def dIf (t:DT)(f g:DE):DE:=λenv S=>(t env S).bind λb S1=>if b then f env S1 else g env S1
def R8 (hc:PT X c (tDT X ta))(ha:PE X a (tD X fa))(hb:PE X b (tD X fb)):PE X (.IfExp c a b pos) (tD X (dIf ta fa fb)):=by
 intro pins s σ H Q I h;obtain⟨P,α,env,S,r,re,af⟩:=h;refine wpAny_IfExp (thn (pS (λQ' q=>hc pins s σ H Q' I q) r re af) λk s1 ⟨H1,P1,α1,S1,I1,r1,re1,e1,e2,af1⟩=>?_);cases k with
 |true=>exact ha pins s1 σ H1 Q I1 ⟨P1,α1,env,S1,r1,re1,z9.base e1 e2 af1⟩
 |false=>exact hb pins s1 σ H1 Q I1 ⟨P1,α1,env,S1,r1,re1,z9.base e1 e2 af1⟩
end
@[inline] def Res.toS {β:Type}(env:qD)(r:Res β)(k:β→Sto→Out):Out:=
 match r with
 |.ok d S=>k d S
 |.ex c x S=>.ex c x env S
 |.bad=>.bad
section
variable {X:Cx}{a b c e:Bv}{pos:EQ}{fa fb fc:DE}{ta tb:DT}{f g:DS}{st:Ej}{qK:Ab Ej}
def zH:DS:=λenv S=>.nx env S
def qL (f g:DS):DS:=λenv S=>match f env S with
 |.nx env1 S1=>g env1 S1
 |o=>o
def MX:PSs X [] (tDS X zH):=LU BC λD σ H ⟨P,α,env,S,r,re,af⟩=>af σ H P α r re (qI.refl _) (Bo _)
def G7 (h1:PS X st (tDS X f))(h2:PSs X qK (tDS X g)):PSs X (st::qK) (tDS X (qL f g)):=LU (U4 h1 h2) λD σ H ⟨P,α,env,S,r,re,af⟩=>by
 refine⟨P,α,env,S,r,re,?_⟩;unfold qL at af;cases q:f env S with
 |nx env1 S1 =>
  rw[q] at af;exact λσ' H' P' α' r' re' e1 e2=>⟨P',α',env1,S1,r',re',zF.base e1 e2 af⟩
 |rt d S1=>rw[q] at af;exact af
 |bk env1 S1=>rw[q] at af;exact af
 |ct env1 S1=>rw[q] at af;exact af
 |ex c x env1 S1=>rw[q] at af;exact af
 |bad=>rw[q] at af;exact af
def MY (h1:PS X st (tDS X f)):PSs X [st] (tDS X f):=BD h1
def wU {β:Type}{P:Hp}{α:Ab Ad}{env:qD}{r:Res β}{k:β→Sto→Out}{D:Ends}(h:zF X P α (r.toS env k) D):qM X P α r λd S=>zF X P α (k d S) D:=by
 cases r with
 |ok d S=>exact h
 |ex c x S=>exact h
 |bad=>exact h
inductive GotS (X:Cx)(pins:Ab (Ad × Cg))(σ : _L.St)(env:qD)(P:Hp)(α : Ab Ad)(u:Ac)(s1:Ag)(k:D→Sto→Out)(E:Ends):Prop
 |mk (v:V) (H1 P1:Hp) (α1:Ab Ad) (d:D) (S1:Sto) (G:Got X pins σ env P α u s1 v H1 P1 α1 d S1) (q:zF X P1 α1 (k d S1) E):GotS X pins σ env P α u s1 k E
def mL {k:D→Sto→Out}{pins:Ab (Ad × Cg)}{s:Ag}{σ:_L.St}{H P:Hp}{α:Ab Ad}{env:qD}{D:Ends}(he:PE X e (tD X fa))(I:Inv X pins σ H s)(r:Rel X.K H P α S)
  (re:zE X.K P α σ env) (af:zF X P α ((fa env S).toS env k) D) :
  Ao (As X.prog X.w) X.A (eval e X.env) (λu s1=>GotS X pins σ env P α u s1 k D) X.xe s:=by
 have af1:qM X P α ((fa env S).bind λd S=>.ok d S) λd S=>zF X P α (k d S) D:=by
  have:=wU af;cases q:fa env S <;> rw[q] at this <;> exact this
 exact thn (x5 he I r re af1) λu s1 ⟨v,H1,P1,α1,d,S1,G,q⟩=>⟨v,H1,P1,α1,d,S1,G,zF.base G.same G.pre q⟩
def zR (f:DE):DS:=λenv S=>(f env S).toS env λ_ S1=>.nx env S1
def G8 (he:PE X e (tD X fa))(hs:Kz e none pos.line X.env=pure false:=by rfl):PS X (.Expr e pos) (tDS X (zR fa)):=by
 intro pins s σ H D I h;obtain⟨P,α,env,S,r,re,af⟩:=h;exact wpAny_Expr_any (thn (mL he I r re af) λv s1 ⟨x,H1,P1,α1,d,S1,G,q⟩=>⟨σ,H1,G.inv,q σ H1 P1 α1 G.rel G.env (qI.refl _) (Bo _)⟩) I.quiet hs
def zA (f:DE):DS:=λenv S=>(f env S).toS env λd S1=>.rt d S1
def T3 (he:PE X e (tD X fa)):PS X (.Return (Aa e) pos) (tDS X (zA fa)):=by
 intro pins s σ H D I h;obtain⟨P,α,env,S,r,re,af⟩:=h;exact wpAny_Return_some (thn (mL he I r re af) λv s1 ⟨x,H1,P1,α1,d,S1,G,q⟩=>⟨x,σ,H1,G.inv,G.val,q x H1 P1 α1 G.rel (qI.refl _) (Bo _) G.rep⟩)
def sIf (t:DT)(f g:DS):DS:=λenv S=>(t env S).toS env λb S1=>if b then f env S1 else g env S1
def RF {as bs:Ab Ej}(hc:PT X c (tDT X ta))(ha:PSs X as (tDS X f))(hb:PSs X bs (tDS X g)):PS X (.If c as bs pos) (tDS X (sIf ta f g)):=by
 intro pins s σ H D I h;obtain⟨P,α,env,S,r,re,af⟩:=h;have af1:qM X P α ((ta env S).bind λd S=>.ok d S) λb S=>zF X P α (if b then f env S else g env S) D:=by
  have:=wU af;cases q:ta env S <;> rw[q] at this <;> exact this
 refine wpAny_If (thn (pS (λQ' q=>hc pins s σ H Q' I q) r re af1) λk s1 ⟨H1,P1,α1,S1,I1,r1,re1,e1,e2,af2⟩=>?_);cases k with
 |true=>exact ha pins s1 σ H1 D I1 ⟨P1,α1,env,S1,r1,re1,zF.base e1 e2 af2⟩
 |false=>exact hb pins s1 σ H1 D I1 ⟨P1,α1,env,S1,r1,re1,zF.base e1 e2 af2⟩
abbrev DG:=D→qD→Sto→Res qD
abbrev DGs:=Ab D→qD→Sto→Res qD
def OkE (X:Cx)(P:Hp)(α : Ab Ad)(Q:_L.St→Hp→Prop)(env':qD)(S':Sto):Prop:=∀ σ' H' P' α',Rel X.K H' P' α' S'→zE X.K P' α' σ' env'→qI P P'→α<+:α'→Q σ' H'
def tDG (X:Cx)(g:DG):TG:=λv σ H Q=>∃ P α env S d,Rel X.K H P α S∧zE X.K P α σ env∧Rep X.K P α d v∧qM X P α (g d env S) (OkE X P α Q)
def cD (X:Cx)(g:DGs):TGs:=λvs σ H Q=>∃ P α env S ds,Rel X.K H P α S∧zE X.K P α σ env∧qG X.K P α ds vs∧qM X P α (g ds env S) (OkE X P α Q)
def zE.set {K:Ak}{P:Hp}{α:Ab Ad}{σ:_L.St}{env:qD}{d:D}{v:V}(re:zE K P α σ env)(i:Ah)(rp:Rep K P α d v):zE K P α (σ.set i (Aa v)) (env.set i (Aa d)):=by
 refine⟨by simp[re.1],λj d' e=>?_⟩
 by_cases hj:i=j
 ·subst hj
  by_cases hi:i<env.length
  ·rw[Fq hi] at e
   cases e;exact⟨v,by rw[Fq (by rw[← re.1];exact hi)],rp⟩
  ·rw[Lq (by simp;omega)] at e;cases e
 ·rw[Dz hj] at e ⊢
  exact re.2 j d' e
def gNm (i:Ah):DG:=λd env S=>.ok (env.set i (Aa d)) S
def KW {i:Ah}{x:Ar}(hN:X.N.Nodup)(hi:X.N[i]? = Aa x:=by rfl)(hx:Loc X.env.scope x:=by first|exact Wu rfl|exact Vd rfl)(hf:X.fn x=true∨X.env.scope.names.lookup x=Aa .local:=by first|exact .inl rfl|exact .inr rfl|assumption):PG X (.Name x pos) (tDG X (gNm i)):=by
 intro pins s σ H v u Q I rv h;obtain⟨P,α,env,S,d,r,re,rp,af⟩:=h;exact B7 hN hi hx hf pins s σ H v u Q I rv (af _ H P α r (re.set i rp) (qI.refl _) (Bo _))
def xS:DGs:=λds env S=>match ds with
 |[]=>.ok env S
 |_=>.bad
def zD (g:DG)(gs:DGs):DGs:=λds env S=>match ds with
 |d::r=>(g d env S).bind λenv1 S1=>gs r env1 S1
 |[]=>.bad
def KY:PGs X [] (cD X xS):=by
 intro pins s σ H vs us Q I rv h;obtain⟨P,α,env,S,ds,r,re,rp,af⟩:=h;cases ds with
 |nil=>exact B8 pins s σ H vs us Q I rv ⟨rp.nil_inv,af σ H P α r re (qI.refl _) (Bo _)⟩
 |cons d ds=>exact An af
def YM {es:Ab Bv}{g:DG}{gs:DGs}(h1:PG X e (tDG X g))(h2:PGs X es (cD X gs))(hs:(Ge (e::es) X.env).map (·.2)=assign e X.env::(Ge es X.env).map (·.2):=by rfl):PGs X (e::es) (cD X (zD g gs)):=by
 intro pins s σ H vs us Q I rv h;obtain⟨P,α,env,S,ds,r,re,rp,af⟩:=h;cases ds with
 |nil=>exact An af
 |cons d ds =>
  obtain⟨w,ws,rfl,p1,p2⟩:=rp.cons_inv;refine U1 h1 h2 hs pins s σ H _ us Q I rv ⟨w,ws,rfl,P,α,env,S,d,r,re,p1,?_⟩;have af':qM X P α ((g d env S).bind λenv1 S1=>gs ds env1 S1) (OkE X P α Q):=af;cases q:g d env S with
  |bad=>rw[q] at af';exact af'
  |ex c x S'=>rw[q] at af';exact af'
  |ok env1 S1 =>
   rw[q] at af';intro σ' H' P' α' r' re' e1 e2;refine⟨P',α',env1,S1,ds,r',re',qG.mono e1 e2 _ _ p2,qM.base' e1 e2 (λenv' S' ok σ2 H2 P2 α2 r2 re2 e3 e4=>ok σ2 H2 P2 α2 r2 re2 (e1.trans e3) (e2.trans e4)) af'⟩
def gTp (n:Ah)(gs:DGs):DG:=λd env S=>match d with
 |.tup xs=>if xs.length=n then gs xs env S else .bad
 |_=>.bad
set_option tactic.hygienic true in
def MR {es:Ab Bv}{k:Ah}{gs:DGs}{n:Ah}(hc:X.calm=true)(h:PGs X es (cD X gs))(hn:(Ge es X.env).length=n:=by rfl)(hst:(Ge es X.env).findIdx? (·.1)=none:=by rfl):PG X (.Tuple es k pos) (tDG X (gTp n gs)):=by
 intro pins s σ H v u Q I rv hw;obtain⟨P,α,env,S,d,r,re,rp,af⟩:=hw;cases d with
 |tup xs =>
  simp only[Rep] at rp;obtain⟨a,vs,rfl,q,t⟩:=rp;simp only[gTp] at af
  split at af
  ·rename_i hl
   exact LH hc h hn hst pins s σ H _ u Q I rv ⟨a,vs,rfl,wH r.sub q,by rw[← t.length];exact hl,P,α,env,S,xs,r,re,t,af⟩
  ·exact An af
 |_=>exact An af
abbrev G3:=D→D→D→Sto→Res OO
def OkU (X:Cx)(P:Hp)(α : Ab Ad)(Q:Hp→Prop)(_:OO)(S':Sto):Prop:=∀ H' P' α',Rel X.K H' P' α' S'→qI P P'→α<+:α'→Q H'
def sM (X:Cx)(g:G3):WZ:=λo i v H Q=>∃ P α S a b d,Rel X.K H P α S∧Rep X.K P α a o∧Rep X.K P α b i∧Rep X.K P α d v∧qM X P α (g a b d S) (OkU X P α Q)
def gSb (fo fi:DE)(g:G3):DG:=λd env S=>(fo env S).bind λo S1=>(fi env S1).bind λi S2=>(g o i d S2).bind λ_ S3=>.ok env S3
def MQ {o i:Bv}{fo fi:DE}{g:G3}(ho:PE X o (tD X fo))(hi:PE X i (tD X fi))(hs:sQ X (sM X g))
  (ha:∀ v,assign (.Subscript o i pos) X.env v=(do
   let ov ← holding [v] (eval o X.env)
   let iv ← holding [v,ov] (eval i X.env)
   Sc pos
   holding [v,ov,iv] (WF ov iv v)
   release [v,ov,iv] []):=by intro _;rfl):PG X (.Subscript o i pos) (tDG X (gSb fo fi g)):=by
 intro pins s σ H v u Q I rv h;obtain⟨P,α,env,S,d,r,re,rp,af⟩:=h;rw[ha];refine Af (Ed (thn (x5 ho I r re af) λov s1 ⟨x,H1,P1,α1,d1,S1,G1,af1⟩=>?_));refine Af (Ed (thn (x5 hi G1.inv G1.rel G1.env (P:=P1) (α:=α1) (Ok:=OkE X P1 α1 Q) (qM.base' G1.same G1.pre (λenv' S' ok σ2 H2 P2 α2 r2 re2 e3 e4=>ok σ2 H2 P2 α2 r2 re2 (G1.same.trans e3) (G1.pre.trans e4)) af1)) λiv s2 ⟨y,H2,P2,α2,d2,S2,G2,af2⟩=>?_));refine Af (Os (Af (Ed (thn (hs pins s2 σ H2 x y v ov iv u (λH3=>Q σ H3) G2.inv G1.val G2.val rv ⟨P2,α2,S2,d1,d2,d,G2.rel,Rep.mono G2.same G2.pre _ _ G1.rep,G2.rep,Rep.mono (G1.same.trans G2.same) (G1.pre.trans G2.pre) _ _ rp,?_⟩) λ_ s3 ⟨H3,I3,q3⟩=>?_))))
 ·cases q:g d1 d2 d S2 with
  |bad=>rw[q] at af2;exact af2
  |ex c x S'=>rw[q] at af2;exact λu s' z=>af2 u s' (z.base G2.same G2.pre)
  |ok w S3 =>
   rw[q] at af2;exact λH' P' α' r' e1 e2=>af2 σ H' P' α' r' (G2.env.mono e1 e2) (G2.same.trans e1) (G2.pre.trans e2)
 ·exact wpAny_release ⟨σ,H3,I3,q3⟩
def qT (f:DE)(g:DG):DS:=λenv S=>(f env S).toS env λd S1=>(g d env S1).toS env λenv' S2=>.nx env' S2
def QY {g:DG}{d:D}{env:qD}{P:Hp}{α:Ab Ad}{D':Ends}(h:zF X P α ((g d env S).toS env λenv' S2=>.nx env' S2) D'):qM X P α (g d env S) (OkE X P α D'.nx):=by
 cases q:g d env S with
 |bad=>rw[q] at h;exact h
 |ex c x S'=>rw[q] at h;exact h
 |ok env1 S1=>rw[q] at h;exact h
def MV {tg:Bv}{g:DG}(he:PE X e (tD X fa))(hg:PG X tg (tDG X g))(hs:Jo [tg] e pos.line X.env=pure false:=by rfl)(hw:Jn [tg] e X.env=pure none:=by rfl)
  (h1:(Ge [tg] X.env).map (·.2)=[assign tg X.env]:=by rfl):PS X (.Assign [tg] e pos) (tDS X (qT fa g)):=by
 intro pins s σ H D I h;obtain⟨P,α,env,S,r,re,af⟩:=h;refine wpAny_Assign_stores (thn (mL he I r re af) λv s1 ⟨x,H1,P1,α1,d,S1,G,q⟩=>?_) hs hw;rw[h1];exact thn (hg pins s1 σ H1 x v _ G.inv G.val ⟨P1,α1,env,S1,d,G.rel,G.env,G.rep,QY q⟩) λ_ s2 q=>q
def T4 {i:Ah}{x:Ar}{pos':EQ}(hN:X.N.Nodup)(he:PE X e (tD X fa))(hi:X.N[i]? = Aa x:=by rfl)(hx:Loc X.env.scope x:=by first|exact Wu rfl|exact Vd rfl)(hs:Kz e (Aa (.Name x pos')) pos.line X.env=pure false:=by rfl)
  (hf:X.fn x=true∨X.env.scope.names.lookup x=Aa .local:=by first|exact .inl rfl|exact .inr rfl|assumption):PS X (.Assign [.Name x pos'] e pos) (tDS X (qT fa (gNm i))):=by
 intro pins s σ H D I h;obtain⟨P,α,env,S,r,re,af⟩:=h;refine wpAny_Assign_Name (thn (mL he I r re af) λv s1 ⟨y,H1,P1,α1,d,S1,G,q⟩=>?_) hs;exact jU G.inv hN hi hx G.val (λs2 I2=>⟨_,H1,I2,q _ H1 P1 α1 G.rel (G.env.set i G.rep) (qI.refl _) (Bo _)⟩) hf
def eM (i j:Ah)(env:qD)(S1:Sto):Ab D→Out
 |[x,y]=>.nx ((env.set i (Aa x)).set j (Aa y)) S1
 |_=>.bad
def jR (i j:Ah)(f:DA):DS:=λenv S=>(f env S).toS env λds S1=>eM i j env S1 ds
def MZ {i j:Ah}{x y:Ar}{f:DA}{px py pt:EQ} {kt k2 pt2} (hc:X.calm=true) (hN:X.N.Nodup) (ha:PA X [a,b] (tDA X f)) (hi:X.N[i]? = Aa x:=by rfl) (hj:X.N[j]? = Aa y:=by rfl) (hij:i≠j:=by decide)
  (hx:X.env.scope.names.lookup x=Aa .local:=by rfl) (hy:X.env.scope.names.lookup y=Aa .local:=by rfl)
  (hw:Jn [.Tuple [.Name x px,.Name y py] kt pt] (.Tuple [a,b] k2 pt2) X.env=pure (Aa [x,y]):=by rfl)
  (hs:Jo [.Tuple [.Name x px,.Name y py] kt pt] (.Tuple [a,b] k2 pt2) pos.line X.env=pure false:=by rfl) :
  PS X (.Assign [.Tuple [.Name x px,.Name y py] kt pt] (.Tuple [a,b] k2 pt2) pos) (tDS X (jR i j f)):=psW (LS hc hN hi hj hij hx hy ha hw hs) λD σ H ⟨P,α,env,S,r,re,af⟩=>by
 refine⟨P,α,env,S,r,re,?_⟩;have af1:=wU af;cases q:f env S with
 |bad=>rw[q] at af1;exact af1
 |ex c x S'=>rw[q] at af1;exact af1
 |ok ds S1 =>
  rw[q] at af1;intro vs H' P' α' r' e1 e2 rp;have af2:zF X P α (eM i j env S1 ds) D:=af1;cases ds with
  |nil=>exact An af2
  |cons d ds=>cases ds with
   |nil=>exact An af2
   |cons d' ds=>cases ds with
    |cons _ _=>exact An af2
    |nil =>
     obtain⟨w,ws,rfl,p1,t⟩:=rp.cons_inv;obtain⟨w',ws',rfl,p2,t⟩:=t.cons_inv;rw[t.nil_inv];exact⟨w,w',rfl,af2 _ _ P' α' r' (((re.mono e1 e2).set i p1).set j p2) e1 e2⟩
end
structure ItD (K:Ak)(J:It)(P:Hp)(α : Ab Ad)(ds:Ab D):Prop where
 go:∀ i H P1 α1 S,i<ds.length→Rel K H P1 α1 S→qI P P1→α<+:α1→J.go i H
 yld:∀ i H x H' P1 α1 S,i<ds.length→Rel K H P1 α1 S→qI P P1→α<+:α1→J.yld i H x H'→∃ P2 d,ds[i]? = Aa d∧Rel K H' P2 α1 S∧qI P1 P2∧Rep K P2 α1 d x
 stop:∀ i H P1 α1 S,ds.length≤i→Rel K H P1 α1 S→qI P P1→α<+:α1→J.stop i H
abbrev DI:=qD→Sto→Res (Ab D)
def OkI (X:Cx)(P:Hp)(α : Ab Ad)(R:It→Hp→Prop)(ds:Ab D)(S':Sto):Prop:=∀ J H' P' α',Rel X.K H' P' α' S'→qI P P'→α<+:α'→ItD X.K J P' α' ds→R J H'
inductive tDI (X:Cx)(f:DI)(σ : _L.St)(H:Hp)(R:It→Hp→Prop):Prop
 |mk (P:Hp) (α : Ab Ad) (env:qD) (S:Sto) (r:Rel X.K H P α S) (re:zE X.K P α σ env) (af:qM X P α (f env S) (OkI X P α R)):tDI X f σ H R
def vT {β:Type}(o:Al β)(S:Sto):Res β:=match o with
 |some b=>.ok b S
 |none=>.bad
def j7 {X:Cx}{β:Type}{o:Al β}{P:Hp}{α:Ab Ad}{Ok:β→Sto→Prop}(h:qM X P α (vT o S) Ok):∃ b,o=Aa b∧Ok b S:=by
 cases o with
 |none=>exact An h
 |some b=>exact⟨b,rfl,h⟩
def wX {X:Cx}{β:Type}{c:Prop}[Kw c]{r:Res β}{P:Hp}{α : Ab Ad}{Ok:β→Sto→Prop}(h:qM X P α (if c then r else .bad) Ok):c∧qM X P α r Ok:=by
 by_cases z:c
 ·rw[Bg z] at h;exact⟨z,h⟩
 ·rw[Bc z] at h;exact An h
def eK {X:Cx}{β:Type}{ds:Ab D}{g:D→Res β}{P:Hp}{α:Ab Ad}{Ok:β→Sto→Prop}(h:qM X P α (match ds with|[d]=>g d|_=>.bad) Ok):∃ d,ds=[d]∧qM X P α (g d) Ok:=by
 cases ds with
 |nil=>exact An h
 |cons d ds =>
  cases ds with
  |nil=>exact⟨d,rfl,h⟩
  |cons _ _=>exact An h
def nV {β:Type}{i:Ah}{f:Ab D→Al β}{g:Ab (Key × D)→Al β}{b:β}(h:(match S[i]? with|some (.lst xs)=>f xs|some (.dct kvs)=>g kvs|_=>none)=Aa b):(∃ xs,S[i]? = Aa (.lst xs)∧f xs=Aa b)∨∃ kvs,S[i]? = Aa (.dct kvs)∧g kvs=Aa b:=by
 cases e:S[i]? with
 |none=>rw[e] at h;exact nn h
 |some m =>
  rw[e] at h;cases m with
  |lst xs=>exact .inl ⟨xs,rfl,h⟩
  |dct kvs=>exact .inr ⟨kvs,rfl,h⟩
  |_=>exact nn h
def NF {β:Type}{i:Ah}{f:Ab D→Al β}{b:β}(h:(match S[i]? with|some (.lst xs)=>f xs|_=>none)=Aa b):∃ xs,S[i]? = Aa (.lst xs)∧f xs=Aa b:=by
 cases e:S[i]? with
 |none=>rw[e] at h;exact nn h
 |some m =>
  rw[e] at h;cases m with
  |lst xs=>exact⟨xs,rfl,h⟩
  |_=>exact nn h
inductive ItV (d:D)(xs:Ab D):Prop
 |tup (e:d=.tup xs)
 |lst (e:d=.lst xs)
def t9 {β:Type}(S:Sto)(n:Ah)(f:Ab D→Res β) : Res β:=match S[n]? with
 |some (.lst xs)=>f xs
 |_=>.bad
def jO {X:Cx}{β:Type}{n:Ah}{f:Ab D→Res β}{P:Hp}{α:Ab Ad}{Ok:β→Sto→Prop}(h:qM X P α (t9 S n f) Ok):∃ xs,S[n]? = Aa (.lst xs)∧qM X P α (f xs) Ok:=by
 unfold t9 at h;cases e:S[n]? with
 |none=>rw[e] at h;exact An h
 |some m =>
  rw[e] at h;cases m with
  |lst xs=>exact⟨xs,rfl,h⟩
  |_=>exact An h
def xK:D→Al (Ab D)
 |.tup xs=>Aa xs
 |.lst xs=>Aa xs
 |_=>none
def itV {d:D}{xs:Ab D}(h:xK d=Aa xs):ItV d xs:=by
 cases d with
 |tup ys=>exact .tup (congrArg D.tup (Co h))
 |lst ys=>exact .lst (congrArg D.lst (Co h))
 |_=>exact nn h
def xZ (f:DE):DI:=λenv S=>(f env S).bind λd S1=>vT (xK d) S1
section
variable {X:Cx}{K:Ak}{tg e:Bv}{fa:DE}{pos:EQ}
def VA {P:Hp}{α:Ab Ad}{a:Ad}{ds:Ab D}(q:SqL K P a vs)(t:qG K P α ds vs):ItD K (Itl K a) P α ds where
 go:=λi H P1 α1 S hi r e _=>⟨vs,vs[i]'(by rw[← t.length];exact hi),(e.trans r.sub).seq q,by simp⟩
 yld:=λi H x H' P1 α1 S hi r e e2 y=>by
  obtain⟨rfl,y⟩:=y;have hx:=y vs ((e.trans r.sub).seq q);obtain⟨v,h1,h2⟩:=t.get (Aq hi);rw[hx] at h1;cases h1;exact⟨P1,_,Aq hi,r,qI.refl _,Rep.mono e e2 _ _ h2⟩
 stop:=λi H P1 α1 S hi r e _=>⟨vs,(e.trans r.sub).seq q,by rw[← t.length];exact hi⟩
def GW {P:Hp}{α:Ab Ad}{a:Ad}{ds:Ab D}(q:SqT K P a vs)(t:qG K P α ds vs):ItD K (Itt K a) P α ds where
 go:=λi H P1 α1 S hi r e _=>⟨vs,vs[i]'(by rw[← t.length];exact hi),vB (e.trans r.sub) q,by simp⟩
 yld:=λi H x H' P1 α1 S hi r e e2 y=>by
  obtain⟨rfl,y⟩:=y;have hx:=y vs (vB (e.trans r.sub) q);obtain⟨v,h1,h2⟩:=t.get (Aq hi);rw[hx] at h1;cases h1;exact⟨P1,_,Aq hi,r,qI.refl _,Rep.mono e e2 _ _ h2⟩
 stop:=λi H P1 α1 S hi r e _=>⟨vs,vB (e.trans r.sub) q,by rw[← t.length];exact hi⟩
def rT {pins:Ab (Ad × Cg)}{σ:_L.St}{H P:Hp}{α:Ab Ad}{s:Ag}{v:V}{d:D}{ds:Ab D}(I:Inv X pins σ H s)(r:Rel X.K H P α S)(rv:qO v vv)(rp:Rep X.K P α d v)(hd:xK d=Aa ds)
  (q:OkI X P α R ds S):Ao (As X.prog X.w) X.A (Nz vv) (PIE X pins σ tg R) X.xe s:=by
 cases d with
 |tup xs =>
  cases hd;simp only[Rep] at rp;obtain⟨a,vs,rfl,sq,t⟩:=rp;cases rv;obtain⟨its,rv,p,hz⟩:=I.tuple (wH r.sub sq);refine Gy (show s.heap.IsTuple a its.toArray from p) ?_
  refine⟨s.heap.objs.size,[s.heap.objs.size],_,_,H,rfl,I.kept (t':=s.toks) λb o e=>Aj _ e,QL a _,⟨_,Bi _ rfl,rfl,rfl⟩,λb hb=>?_,q _ _ P α r (qI.refl _) (Bo _) (GW sq t)⟩;have e:b=s.heap.objs.size:=by simpa using hb
  subst e;exact I.fpOk (Ax _) (I.hok.fresh (Ax _))
 |lst xs =>
  cases hd;simp only[Rep] at rp;obtain⟨a,vs,rfl,sq,t⟩:=rp;cases rv;obtain⟨its,rv,p,hz⟩:=I.list ((wA r.sub sq).l);refine Gj p.isList ?_;refine⟨s.heap.objs.size,[s.heap.objs.size],_,_,H,rfl,I.kept (t':=s.toks) λb o e=>Aj _ e,dS a _,⟨_,Bi _ rfl,rfl,rfl⟩,λb hb=>?_,q _ _ P α r (qI.refl _) (Bo _) (VA sq.l t)⟩;have e:b=s.heap.objs.size:=by simpa using hb
  subst e;exact I.fpOk (Ax _) (I.hok.fresh (Ax _))
 |_=>cases hd
def OkI.base {P P1:Hp}{α α1:Ab Ad}{ds:Ab D}(e:qI P P1)(h:α<+:α1)(k:OkI X P α R ds S):OkI X P1 α1 R ds S:=λJ H' P' α' r q1 q2 q3=>k J H' P' α' r (e.trans q1) (h.trans q2) q3
def MS (ha:PE X e (tD X fa)):PI X tg e (tDI X (xZ fa)):=by
 intro pins s σ H R I h;obtain⟨P,α,env,S,r,re,af⟩:=h;refine thn (x5 ha I r re af) λvv s1 ⟨v,H1,P1,α1,d,S1,G1,af1⟩=>?_;obtain⟨ds,e1,q⟩:=j7 af1;exact rT G1.inv G1.rel G1.val G1.rep e1 (q.base G1.same G1.pre)
def yI (lo:Ai)(n:Ah):Ab D:=(By n).map λ(i:Ah)=>D.int (lo+(i:Ai))
def pB (lo:Ai)(n:Ah):(yI lo n).length=n:=by simp[yI]
def d0 {P:Hp}{α:Ab Ad}{lo:Ai}{n:Ah}:ItD K (Itr lo n) P α (yI lo n) where
 go:=λi H P1 α1 S hi r e _=>by rw[pB] at hi;exact hi
 yld:=λi H x H' P1 α1 S hi r e e2 y=>by
  obtain⟨rfl,rfl⟩:=y;rw[pB] at hi;exact⟨P1,.int (lo+i),by simp[yI,hi],r,qI.refl _,by simp only[Rep]⟩
 stop:=λi H P1 α1 S hi r e _=>by rw[pB] at hi;exact hi
def pD (ds:Ab D):Al (Ab D):=match ds with
 |[.int j]=>if -(2 ^ 62)≤j∧j<2 ^ 62 then Aa (yI 0 j.toNat) else none
 |[.int i,.int j]=>if -(2 ^ 62)≤i∧i<2 ^ 62 ∧ -(2 ^ 62)≤j∧j<2 ^ 62 then Aa (yI i (j-i).toNat) else none
 |_=>none
def w6 (f:DA):DI:=λenv S=>(f env S).bind λds S1=>vT (pD ds) S1
def asI:D→Al Ai
 |.int i=>Aa i
 |_=>none
def fN {d:D}{i:Ai}(h:asI d=Aa i):d=.int i:=by
 cases d with
 |int k=>exact congrArg D.int (Co h)
 |_=>exact nn h
inductive RngV:Ab D→Ab D→Prop
 |one (j:Ai) (h : -(2 ^ 62)≤j∧j<2 ^ 62):RngV [.int j] (yI 0 j.toNat)
 |two (i j:Ai) (h : -(2 ^ 62)≤i∧i<2 ^ 62 ∧ -(2 ^ 62)≤j∧j<2 ^ 62):RngV [.int i,.int j] (yI i (j-i).toNat)
def EL (d:D):pD [d]=(asI d).bind λj=>if -(2 ^ 62)≤j∧j<2 ^ 62 then Aa (yI 0 j.toNat) else none:=by cases d <;> rfl
def EM (d d':D):pD [d,d']=(asI d).bind λi=>(asI d').bind λj=>if -(2 ^ 62)≤i∧i<2 ^ 62 ∧ -(2 ^ 62)≤j∧j<2 ^ 62 then Aa (yI i (j-i).toNat) else none:=by
 cases d with
 |int i=>cases d' <;> rfl
 |_=>rfl
def BR {ds its:Ab D}(h:pD ds=Aa its):RngV ds its:=by
 cases ds with
 |nil=>exact nn h
 |cons d ds =>
  cases ds with
  |nil =>
   obtain⟨j,e,h⟩:=Ec.mp ((EL d).symm.trans h);obtain⟨c,rfl⟩:=gU h;rw[fN e];exact .one j c
  |cons d' ds =>
   cases ds with
   |nil =>
    obtain⟨i,e,h⟩:=Ec.mp ((EM d d').symm.trans h);obtain⟨j,e',h⟩:=Ec.mp h;obtain⟨c,rfl⟩:=gU h;rw[fN e,fN e'];exact .two i j c
   |cons _ _ =>
    have h0:∀ d'' t,pD (d::d'::d''::t)=none:=λd'' t=>by cases d <;> first|rfl|(cases d' <;> rfl)
    exact nn ((h0 _ _).symm.trans h)
def lB {P:Hp}{α:Ab Ad}{i:Ai}{ds:Ab D}(r:qG K P α (.int i::ds) vs):∃ ws,vs=.int i::ws∧qG K P α ds ws:=by
 obtain⟨w,ws,rfl,p,t⟩:=r.cons_inv;exact⟨ws,congrArg (· :: ws) (by simpa only [Rep] using p),t⟩
def PI.weak {iter:Bv}{t t':TI}(h:PI X tg iter t)(w:∀ σ H R,t' σ H R→t σ H R):PI X tg iter t':=λpins s σ H R I q=>h pins s σ H R I (w σ H R q)
end
section
variable {X:Cx}{tg a b:Bv}{f:DA}{p pos:EQ}
def YN {e:Bv}{es:Ab Bv}(hg:Gl X "range")(hm:X.mg "range" = none)(ha:PA X (e::es) (tDA X f))(hs:Br (e::es) X.env=(false,eval e X.env)::Br es X.env:=by rfl)(hpl:(Gb pos (Br es X.env)).any (·.1)=false:=by rfl) :
  PI X tg (.Call (.Name "range" p) (e::es) [] pos) (tDI X (w6 f)):=by
 intro pins s σ H R I h;obtain⟨P,α,env,S,r,re,af⟩:=h;refine Call_ (jL I hg hm boot_range (Hs (thn (yW ha I r re af pos) λus s1 ⟨vs,H1,P1,α1,ds,S1,I1,rv,r1,re1,rp,e1,e2,af1⟩=>?_) hs hpl));obtain⟨its,hi,q⟩:=j7 af1;cases BR hi with
 |one j c =>
  obtain⟨ws,rfl,t1⟩:=lB rp;cases t1.nil_inv;obtain⟨u,rfl,t,rfl⟩:=pG rv;refine call_range_1 (eW I1 om om c.1 c.2 ?_);have z:=q (Itr 0 j.toNat) H1 P1 α1 r1 e1 e2 d0;rw[Int.sub_zero];exact z
 |two i j c =>
  obtain⟨ws,rfl,t1⟩:=lB rp;obtain⟨ws2,rfl,t2⟩:=lB t1;cases t2.nil_inv;obtain⟨u,u',rfl,⟨t,rfl⟩,t',rfl⟩:=sN rv;exact call_range_2 (eW I1 c.1 c.2.1 c.2.2.1 c.2.2.2 (q (Itr i (j-i).toNat) H1 P1 α1 r1 e1 e2 d0))
def x8 (g:DG)(f:DS):Ab D→qD→Sto→Out
 |[],env,S=>.nx env S
 |d::ds,env,S=>(g d env S).toS env λenv1 S1=>match f env1 S1 with
  |.nx env2 S2=>x8 g f ds env2 S2
  |.ct env2 S2=>x8 g f ds env2 S2
  |.bk env2 S2=>.nx env2 S2
  |o=>o
def wR (fi:DI)(g:DG)(f:DS):DS:=λenv S=>(fi env S).toS env λds S1=>x8 g f ds env S1
inductive LoopW (X:Cx)(P1:Hp)(α1:Ab Ad)(g:DG)(f:DS)(ds:Ab D)(D:Ends)(i m:Ah)(σ : _L.St)(H:Hp):Prop
 |mk (hi:i≤ds.length) (hm:m=ds.length-i) (P2:Hp) (α2:Ab Ad) (env2:qD) (S2:Sto) (r:Rel X.K H P2 α2 S2) (re:zE X.K P2 α2 σ env2) (e1:qI P1 P2) (e2:α1<+:α2) (af:zF X P2 α2 (x8 g f (ds.drop i) env2 S2) D):LoopW X P1 α1 g f ds D i m σ H
def MW {iter:Bv}{fi:DI}{g:DG}{f:DS}(hp:Mi (As X.prog X.w) X.A X.env X.xe)(hc:X.calm=true)(hi:PI X tg iter (tDI X fi))(hg:PG X tg (tDG X g))(hb:PSs X body (tDS X f))
  (hs:∀ x,Fh iter X.env x=pure x:=by intro _;rfl):PS X (.For tg iter body [] pos) (tDS X (wR fi g f)):=psW (LR hp hc hi hg hb hs) λD σ H ⟨P,α,env,S,r,re,af⟩=>by
 refine⟨P,α,env,S,r,re,?_⟩;have af1:=wU af;cases q:fi env S with
 |bad=>rw[q] at af1;exact af1
 |ex c x S'=>rw[q] at af1;exact af1
 |ok ds S1 =>
  rw[q] at af1;have af2:zF X P α (x8 g f ds env S1) D:=af1;intro J H1 P1 α1 r1 e1 e2 it;refine⟨LoopW X P1 α1 g f ds D,
   ⟨ds.length,Hi _,rfl,P1,α1,env,S1,r1,re.mono e1 e2,qI.refl _,Bo _,zF.base e1 e2 af2⟩,?_⟩
  rintro i m σ2 H2 ⟨hi,rfl,P2,α2,env2,S2,r2,re2,e3,e4,af3⟩;by_cases hlt:i<ds.length
  ·refine .inr ⟨it.go i H2 P2 α2 S2 hlt r2 e3 e4,LoopW X P1 α1 g f ds D (i+1) (ds.length-(i+1)),λσ' H' w=>⟨_,?_,w⟩,λx H3 y=>?_⟩
   ·omega
   ·obtain⟨P3,d,hd,r3,e5,rp⟩:=it.yld i H2 x H3 P2 α2 S2 hlt r2 e3 e4 y
    have hdr:ds.drop i=d::ds.drop (i+1):=by
     rw[Gu hlt];rw[Aq hlt] at hd;rw[Co hd]
    rw[hdr] at af3;have af4:=wU (zF.base e5 (Bo _) af3);refine⟨P3,α2,env2,S2,d,r3,re2.mono e5 (Bo _),rp,?_⟩;cases q2:g d env2 S2 with
    |bad=>rw[q2] at af4;exact af4
    |ex c x S'=>rw[q2] at af4;exact af4
    |ok env3 S3 =>
     rw[q2] at af4;intro σ4 H4 P4 α4 r4 re4 e6 e7;refine⟨P4,α4,env3,S3,r4,re4,?_⟩;have af5:=zF.base e6 e7 af4;cases q3:f env3 S3 with
     |bad=>simp only[q3] at af5;exact af5
     |ex c x env4 S4=>simp only[q3] at af5;exact af5
     |rt d4 S4=>simp only[q3] at af5;exact af5
     |bk env4 S4=>simp only[q3] at af5;exact af5
     |nx env4 S4 =>
      simp only[q3] at af5;exact λσ5 H5 P5 α5 r5 re5 e8 e9=>⟨hlt,rfl,P5,α5,env4,S4,r5,re5,((e3.trans e5).trans e6).trans e8,(e4.trans e7).trans e9,zF.base e8 e9 af5⟩
     |ct env4 S4 =>
      simp only[q3] at af5;exact λσ5 H5 P5 α5 r5 re5 e8 e9=>⟨hlt,rfl,P5,α5,env4,S4,r5,re5,((e3.trans e5).trans e6).trans e8,(e4.trans e7).trans e9,zF.base e8 e9 af5⟩
  ·have hdr:ds.drop i=[]:=Py om
   rw[hdr] at af3;exact .inl ⟨it.stop i H2 P2 α2 S2 om r2 e3 e4,af3 σ2 H2 P2 α2 r2 re2 (qI.refl _) (Bo _)⟩
end
abbrev DF:=Ab D→Sto→Res D
section
variable {X:Cx}{x:Ar}{p pos:EQ}{e:Bv}{es:Ab Bv}{F:DF}{fa:DA}
def qH (F:DF)(fa:DA):DE:=λenv S=>(fa env S).bind λds S1=>F ds S1
def lQ {pins:Ab (Ad × Cg)}{s1:Ag}{σ:_L.St}{H1 P P1:Hp}{α α1:Ab Ad}{ds:Ab D}(hc:wN X u F)(I1:Inv X pins σ H1 s1)(r1:Rel X.K H1 P1 α1 S1)(rv:qP vs us)
  (rp:qG X.K P1 α1 ds vs) (e1:qI P P1) (e2:α<+:α1) (af:qM X P α (F ds S1) (OkV X P α Q)):Ao (As X.prog X.w) X.A (call u us) (EP X pins σ Q) X.xe s1:=hc pins σ H1 s1 P1 α1 S1 vs us ds Q I1 r1 rv rp (z9.base e1 e2 af)
def YH {id:Do}(hc:wN X (.builtin id) F)(hg:Gl X x)(hm:X.mg x=none)(hv:Fy x=Aa (.builtin id))(ha:PA X (e::es) (tDA X fa))(hn:x ≠ "__name__":=by decide)(hdb:(x == ("__debug__" : Ar))=false:=by decide)
  (he:Br (e::es) X.env=(false,eval e X.env)::Br es X.env:=by rfl) (hpl:(Gb pos (Br es X.env)).any (·.1)=false:=by rfl):PE X (.Call (.Name x p) (e::es) [] pos) (tD X (qH F fa)):=by
 intro pins s σ H Q I h;obtain⟨P,α,env,S,r,re,af⟩:=h;refine Gz (jL I hg hm hv ?_ hn hdb);exact Ly (thn (yW ha I r re af pos) λus s1 ⟨vs,H1,P1,α1,ds,S1,I1,rv,r1,re1,rp,e1,e2,af1⟩=>lQ hc I1 r1 rv rp e1 e2 af1) he hpl
def ZI {T:Do}(hc:wN X (.type T) F)(hg:Gl X x)(hm:X.mg x=none)(hv:Fy x=Aa (.type T))(ha:PA X (e::es) (tDA X fa))(hn:x ≠ "__name__":=by decide)(hdb:(x == ("__debug__" : Ar))=false:=by decide)
  (he:Br (e::es) X.env=(false,eval e X.env)::Br es X.env:=by rfl) (hpl:(Gb pos (Br es X.env)).any (·.1)=false:=by rfl):PE X (.Call (.Name x p) (e::es) [] pos) (tD X (qH F fa)):=by
 intro pins s σ H Q I h;obtain⟨P,α,env,S,r,re,af⟩:=h;refine Gz (jL I hg hm hv ?_ hn hdb);exact Hs (thn (yW ha I r re af pos) λus s1 ⟨vs,H1,P1,α1,ds,S1,I1,rv,r1,re1,rp,e1,e2,af1⟩=>lQ hc I1 r1 rv rp e1 e2 af1) he hpl
end
def zK.there {P:Bd}{w:Bw}{H:Hp}{h:Bm}{a:Ad}{o:HO}(x:zK P w H h a o):∃ ob,h.get? a=Aa ob:=by
 cases o with
 |lst xs=>obtain⟨_,_,_,_,e⟩:=x;exact⟨_,e⟩
 |tup xs=>obtain⟨_,_,_,ob,e,_⟩:=x;exact⟨_,e⟩
 |dK kvs=>obtain⟨_,_,_,_,o,_,_,e,_⟩:=x;exact⟨_,e⟩
 |dT kvs=>obtain⟨_,_,_,_,o,_,_,e,_⟩:=x;exact⟨_,e⟩
 |set S n=>obtain⟨o,_,_,_,e,_⟩:=x;exact⟨_,e⟩
 |ins C dx fs=>obtain⟨_,_,_,e,_⟩:=x;exact⟨_,e⟩
 |own y=>obtain⟨_,e⟩:=x;exact⟨_,e⟩
 |xd fs=>obtain⟨_,⟨_,_,_,e,_⟩,_⟩:=x;exact⟨_,e⟩
 |rng lo hi=>obtain⟨_,_,_,e⟩:=x;exact⟨_,e⟩
 |frz ob u=>obtain⟨e,_⟩:=x;exact⟨_,e⟩
 |tbl ps=>exact⟨_,show h.get? a=Aa _ from x⟩
 |met f y=>exact⟨_,show h.get? a=Aa _ from x⟩
 |ext φ => obtain⟨_,e,_⟩:=x;exact e
section
variable {X:Cx}{pins:Ab (Ad × Cg)}{σ : _L.St}{H:Hp}{s:Ag}{B h':Bm}
abbrev Fn1 (X:Cx):Prop:=X.ex=[]∧X.stack=X.env::X.outer∧X.env.frame=Aa X.env.locals
def Fn1.mem (F:Fn1 X){b:Ad}:b∈frs X.stack↔b=X.env.locals∨b∈X.fs:=by
 rw[F.2.1];unfold frs;rw[Hl,F.2.2];exact Bb
def Old.there (I:Inv X pins σ H s)(F:Fn1 X){b:Ad}(o:Old X pins H b):∃ ob,s.heap.get? b=Aa ob:=by
 rcases o with⟨o,e⟩|e|⟨p,hp,rfl⟩|⟨x,e⟩
 ·exact I.base.there b o e (by rw[F.1];simp)
 ·cases q:H b with
  |none=>exact absurd q e
  |some u=>exact zK.there (I.hok b u q)
 ·exact⟨_,(I.pin p hp).1⟩
 ·obtain⟨v,ob,ho,_⟩:=I.cell x b e
  exact⟨ob,ho⟩
def Inv.fly (I:Inv X pins σ H s)(F:Fn1 X)(cv:Cv X pins H B s.heap)(st:B.StaysIn h')(up:s.heap.UpToSlots h'):Inv X pins σ H { s with heap:=h' } ∧ Cv X pins H B h':=by
 have kp:∀ b o,s.heap.get? b=Aa o→Old X pins H b→b ∉ frs X.stack→h'.get? b=Aa o:=λb o e q n=>st b o (cv b o e q n);have neL:∀ b o,X.s₀.heap.get? b=Aa o→b≠X.env.locals:=λb o e=>Cc (Ba (Au e) I.ok.above);have nofr:∀ b o,X.s₀.heap.get? b=Aa o→b ∉ X.fs→b ∉ frs X.stack:=λb o e n z=>(F.mem.mp z).elim (neL b o e) n;have nx:∀ b,b ∉ X.ex:=λb=>by rw[F.1];simp
 have frU:∀ b,b∈frs X.stack→∀ o,s.heap.get? b=Aa o→∃ sl,h'.get? b=Aa { o with slots:=sl }:=λb hb o e=>by
  obtain⟨_,o',e',nf⟩:=I.stack.mem hb;rw[e] at e';cases e';exact up b o e nf
 have cellK:∀ x c,X.env.cells.lookup x=Aa c→∀ v,s.heap.IsCell c v→h'.IsCell c v:=λx c e v ⟨o,ho,hd⟩=>by
  obtain⟨sl,q⟩:=up c o ho λvs z=>by rw[hd] at z;cases z
  exact⟨_,q,hd⟩
 refine⟨⟨I.ok,I.os,I.bare,⟨λb o e n hb hx=>?_,λb o e n hb hx=>?_,I.base.free,λb o e hx=>?_,I.base.tups,I.base.frzs,I.base.tbls⟩,?_,λx c e=>?_,I.free,I.freeC,λp hp=>?_,λa o e=>?_,I.len⟩,λb o e q n=>?_⟩
 ·exact kp b o (I.base.keep b o e n hb hx) (.inl ⟨o,e⟩) (nofr b o e hb)
 ·obtain⟨sl,e1⟩:=I.base.slot b o e n hb hx
  obtain⟨sl',e2⟩:=frU b (F.mem.mpr (.inr hb)) _ e1;exact⟨sl',e2⟩
 ·obtain⟨o',e1⟩:=I.base.there b o e hx
  by_cases hb:b∈frs X.stack
  ·obtain⟨sl,e2⟩:=frU b hb _ e1
   exact⟨_,e2⟩
  ·exact⟨o',kp b o' e1 (.inl ⟨o,e⟩) hb⟩
 ·obtain⟨m,hn,hl⟩:=I.loc
  refine⟨m,up.ns hn,λi x v e1 e2 e3=>?_⟩;obtain⟨u,r,l⟩:=hl i x v e1 e2 e3;refine⟨u,r,?_⟩;rcases l with l|⟨k,c,e,z⟩
  ·exact .inl l
  ·exact .inr ⟨k,c,e,cellK x c e _ z⟩
 ·obtain⟨v,z⟩:=I.cell x c e
  exact⟨v,cellK x c e v z⟩
 ·obtain⟨e,n,ne,nf,d⟩:=I.pin p hp
  exact⟨kp p.1 p.2 e (.inr (.inr (.inl ⟨p,hp,rfl⟩))) λz=>(F.mem.mp z).elim ne nf,n,ne,nf,d⟩
 ·refine(I.hok a o e).stay (λb u hb q=>?_) (λ_ q=>q) λ_ _ q=>q
  have hn:H b≠none:=by
   rcases hb with rfl|hb
   ·rw[e];intro z;cases z
   ·rw[hb];intro z;cases z
  exact kp b u q (.inr (.inl hn)) λz=>hn (I.stkFree b z)
 ·obtain⟨o1,e1⟩:=Old.there I F q
  have e2:=cv b o1 e1 q n;have e3:=st b o1 e2;rw[e] at e3;cases e3;exact e2
def X9 {c:Ac}{e:Ad}{g:Bm}(I:Inv X pins σ H s)(hm:Rb g s.heap e c args)(hf:g.FunFrames X.base X.stack)(hk:∀ b o,s.heap.get? b=Aa o→Old X pins H b→g.get? b=Aa o) :
  (Mf g (frs X.stack)).StaysIn g∧g.FunFrames (Mf g (frs X.stack)) X.stack∧Cv X pins H (Mf g (frs X.stack)) s.heap:=
 ⟨λb o q=>Sv _ q,PySem.W.funFrames_hide hf λenv he a ha=>Hv.mpr ⟨env,he,ha⟩,λb o e q n=>Rq _ (hk b o e q) n⟩
def X0 {M:Ji}{A:Bt}{E:Ac→Ag→Prop}{c:Ac}{e:Ad}{Q:OO→Ag→Prop}(I:Inv X pins σ H s)(F:Fn1 X)(hA:A.frames=Aa X.stack)(f:FlyX X pins H c e s.heap)
  (hQ:∀ h' B a0,Mv B X.outer e c a0 h'→Inv X pins σ H { s with heap:=h' } → Cv X pins H B h'→Q () { s with heap:=h' }) : Ao M A (leaving X.env (.ref e)) Q E s:=by
 cases f with
 |new g args hm hf hk =>
  obtain⟨k1,k2,k3⟩:=X9 I hm hf hk;rw[F.2.1] at hA;refine wpAny_leaves_madeW hA F.2.2 k1 (by rw[← F.2.1];exact k2) hm λh' t x1 x2 x3 x4=>?_
  obtain⟨I1,cv1⟩:=Inv.fly I F k3 x1.1 x4;exact hQ h' _ _ x1 I1 cv1
 |fly B a0 fl cv =>
  rw[F.2.1] at hA;refine wpAny_leaves_onW hA F.2.2 (by rw[← F.2.1];exact fl) λh' x1 x2=>?_
  obtain⟨I1,cv1⟩:=Inv.fly I F cv x1.1 x2;exact hQ h' _ _ x1 I1 cv1
end
def CXd (P:Bd)(w:Bw):CXT:=λouter H s E u s' =>
 ∃ e c H' B a0,u=.ref e∧s'.os=s.os∧Lm s'.gens∧Un (frs outer) [] H H' s.heap s'.heap∧HOk P w H' s'.heap∧Mv B outer e c a0 s'.heap ∧
  (∀ b o,s'.heap.get? b=Aa o→((∃ o,s.heap.get? b=Aa o)∨H' b≠none)→b ∉ frs outer→B.get? b=Aa o)∧E c none H'
section
variable {X:Cx}{pins:Ab (Ad × Cg)}{σ : _L.St}{H:Hp}{s s':Ag}
def TK {E:XK}(I:Inv X pins σ H s)(F:Fn1 X)(h:CXd X.prog X.w X.stack H s E u s'):∃ e c H',u=.ref e∧Inv X pins σ H' s'∧FlyX X pins H' c e s'.heap∧E c none H':=by
 obtain⟨e,c,H',B,a0,rfl,os,bare,un,hok,fl,cov,q⟩:=h;have I':Inv X pins σ H' s':=Inv.call' I os un hok bare (ch:=[]) λb z=>absurd z (by simp)
 refine⟨e,c,H',rfl,I',.fly B a0 fl λb o eb old n=>cov b o eb ?_ n,q⟩;rcases old with⟨o,z⟩|z|⟨p,hp,rfl⟩|⟨x,z⟩
 ·exact .inl (I.base.there b o z (by rw[F.1];simp))
 ·exact .inr z
 ·exact .inl ⟨_,(I.pin p hp).1⟩
 ·obtain⟨v,ob,ho,_⟩:=I.cell x b z
  exact .inl ⟨ob,ho⟩
end
structure RoomC (cm:Ap)(k:Ah)(A:Bt):Prop where
 hd:cm=true→A.handled=none
 dp:A.depth+3*k+5<Ni
 un:A.units+16*k+200<Ey
 gd:A.guards=Aa []
def RoomC.mono {cm:Ap}{j k:Ah}{A:Bt}(r:RoomC cm k A)(h:j≤k:=by decide):RoomC cm j A:=⟨r.hd,by have:=r.dp;omega,by have:=r.un;omega,r.gd⟩
def RoomC.deeper {cm:Ap}{k:Ah}{A:Bt}(r:RoomC cm (k+1) A)(env:Hu):RoomC cm k (A.deeper env):=
 ⟨r.hd,by have:=r.dp;show A.depth+1+3*k+5<_;omega,by have:=r.un;show A.units+3+16*k+200<_;omega,r.gd⟩
def RoomC.depth {cm:Ap}{k:Ah}{A:Bt}(r:RoomC cm k A):A.depth<Ni:=by have:=r.dp;omega
def RoomC.units {cm:Ap}{k:Ah}{A:Bt}(r:RoomC cm k A):A.units+64<Ey:=by have:=r.un;omega
def RoomC.of {k:Ah}{A:Bt}(r:Room k A):RoomC true k A:=⟨λ_=>r.hd,r.dp,r.un,r.gd⟩
def RoomC.any {cm:Ap}{k:Ah}{A:Bt}(r:RoomC cm k A):RoomC false k A:=⟨(λz=>nomatch z),r.dp,r.un,r.gd⟩
def RoomC.mark {cm:Ap}{k:Ah}{A:Bt}(r:RoomC cm k A)(h:Al Ac):RoomC false k (A.mark h):=⟨(λz=>nomatch z),r.dp,r.un,r.gd⟩
abbrev Cx.re (X:Cx)(A:Bt)(cm:Ap)(E:Ac→Ag→Prop):Cx:={ X with A:=A,calm:=cm,xe:=E }
def Inv.re {X:Cx}{pins:Ab (Ad × Cg)}{σ:_L.St}{H:Hp}{s:Ag}(I:Inv X pins σ H s)(A:Bt)(cm:Ap)(E:Ac→Ag→Prop)(hf:A.frames=Aa X.stack)(hh:cm=true→A.handled=none):Inv (Cx.re X A cm E) pins σ H s:=
 ⟨⟨I.ok.mod,I.ok.kind,I.ok.glob,I.ok.blt,I.ok.above,I.ok.inj,I.ok.has,I.ok.cab,hh,hf,I.ok.stk,I.ok.exf,I.ok.bs,I.ok.bsz,I.ok.noex,I.ok.exfs,I.ok.funs,I.ok.frf⟩,I.os,I.bare,I.base,I.loc,I.cell,I.free,I.freeC,I.pin,I.hok,I.len⟩
def Inv.unre {X:Cx}{pins:Ab (Ad × Cg)}{σ:_L.St}{H:Hp}{s:Ag}{A:Bt}{cm:Ap}{E:Ac→Ag→Prop}(I:Inv (Cx.re X A cm E) pins σ H s)(hf:X.A.frames=Aa X.stack)(hh:X.calm=true→X.A.handled=none):Inv X pins σ H s:=
 ⟨⟨I.ok.mod,I.ok.kind,I.ok.glob,I.ok.blt,I.ok.above,I.ok.inj,I.ok.has,I.ok.cab,hh,hf,I.ok.stk,I.ok.exf,I.ok.bs,I.ok.bsz,I.ok.noex,I.ok.exfs,I.ok.funs,I.ok.frf⟩,I.os,I.bare,I.base,I.loc,I.cell,I.free,I.freeC,I.pin,I.hok,I.len⟩
structure FnX (P:Bd)(w:Bw)(K:Ak)(mg:Ar→Al Ac)(base:Bm)(cm:Ap)(k:Ah)(f:Ad)(fd:Fb)(ps:Ab Ar)(sp:Sp):Prop where
 len:∀ vs H Q E,sp vs H Q E→vs.length=ps.length
 run:∀ (A:Bt) (outer:Ab Hu) (s:Ag) (H:Hp) (args:Args) (us:Ab Ac) (vs:Ab V) (Q:VK) (E:XK),RoomC cm k A→Env0 P w K mg base A outer s H→Ln s fd args (ps.zip us)→qP vs us→sp vs H Q E →
  Ie (As P w) A (.call (.ref f) args) (CR (CXd P w) outer P w H s Q E) s
def FnX.ok {P:Bd}{w:Bw}{K:Ak}{mg:Ar→Al Ac}{base:Bm}{k:Ah}{f:Ad}{fd:Fb}{ps:Ab Ar}(F:FnX P w K mg base true k f fd ps sp):FnOk P w K mg base (CXd P w) k f fd ps sp:=
 ⟨F.len,λA outer s H args us vs Q E hr=>F.run A outer s H args us vs Q E (.of hr)⟩
def FnX.any {P:Bd}{w:Bw}{K:Ak}{mg:Ar→Al Ac}{base:Bm}{cm:Ap}{k:Ah}{f:Ad}{fd:Fb}{ps:Ab Ar}(F:FnX P w K mg base false k f fd ps sp):FnX P w K mg base cm k f fd ps sp:=
 ⟨F.len,λA outer s H args us vs Q E hr=>F.run A outer s H args us vs Q E hr.any⟩
def FnX.imp {P:Bd}{w:Bw}{K:Ak}{mg:Ar→Al Ac}{base:Bm}{cm:Ap}{k:Ah}{f:Ad}{fd:Fb}{ps:Ab Ar}{sp':Sp}(F:FnX P w K mg base cm k f fd ps sp)
  (h:∀ vs H Q E,sp' vs H Q E→sp vs H Q E):FnX P w K mg base cm k f fd ps sp':=
 ⟨λvs H Q E q=>F.len vs H Q E (h _ _ _ _ q),λA outer s H args us vs Q E hr he hb hv hs=>F.run A outer s H args us vs Q E hr he hb hv (h _ _ _ _ hs)⟩
def cxC (cm:Ap)(P:Bd)(w:Bw)(K:Ak)(mg:Ar→Al Ac)(base:Bm)(N:Ab Ar)(qual:Ar)(scope:Eh)(f:Ad)(cd:Ac)(A:Bt)(outer:Ab Hu)(s:Ag)(H:Hp)(E:XK):Cx where
 prog:=P
 w:=w
 K:=K
 mg:=mg
 base:=base
 A:=A.deeper (Ft qual scope s.heap.objs.size f cd)
 N:=N
 s₀:=s
 H₀:=H
 env:=Ft qual scope s.heap.objs.size f cd
 outer:=outer
 stack:=Ft qual scope s.heap.objs.size f cd::outer
 ex:=[]
 calm:=cm
 fn:=λ_=>true
 pn:=[]
 xe:=λe s'=>Ao (As P w) (A.deeper (Ft qual scope s.heap.objs.size f cd)) (leaving (Ft qual scope s.heap.objs.size f cd) e) (λ_ s''=>CXd P w outer H s E e s'') (λe' s''=>CXd P w outer H s E e' s'') s'
section
variable {P:Bd}{w:Bw}{K:Ak}{mg:Ar→Al Ac}{base:Bm}{cm:Ap}{N:Ab Ar}{qual:Ar}{scope:Eh}{f:Ad}{cd:Ac}{A:Bt}{outer:Ab Hu}{s:Ag}{H:Hp}{E:XK}
def YD:Mi (As P w) (A.deeper (Ft qual scope s.heap.objs.size f cd)) (Ft qual scope s.heap.objs.size f cd) (cxC cm P w K mg base N qual scope f cd A outer s H E).xe:=PassesOwn.leaving (Q₁:=λe s''=>CXd P w outer H s E e s'')
abbrev xeL (P:Bd)(w:Bw)(A:Bt)(env:Hu)(outer:Ab Hu)(H:Hp)(s:Ag)(E:XK):Ac→Ag→Prop:=λe s'=>Ao (As P w) (A.deeper env) (leaving env e) (λ_ s''=>CXd P w outer H s E e s'') (λe' s''=>CXd P w outer H s E e' s'') s'
def rE {X:Cx}{P0:Hp}{α:Ab Ad}{c:Ac}{x:D}{s':Ag}(hA:X.A=A.deeper X.env)(k:XOk X P0 α c x S u s')
  (q:∀ H' P' α',Rel X.K H' P' α' S→qI P0 P'→α<+:α'→E c none H'):xeL X.prog X.w A X.env X.outer X.H₀ X.s₀ E u s':=by
 obtain⟨e,pins,σ,H1,P1,α1,rfl,I,r,e1,e2,F,fl⟩:=k;unfold xeL;rw[← hA];refine X0 I F I.ok.frames fl λh' B a0 x1 I1 cv=>?_;refine⟨e,c,H1,B,a0,rfl,I1.os,I1.bare,by have z:=I1.base;rw[F.1] at z;exact z,I1.hok,x1,λb o eb hb n=>cv b o eb ?_ λz=>?_,q H1 P1 α1 r e1 e2⟩
 ·rcases hb with z|z
  ·exact .inl z
  ·exact .inr (.inl z)
 ·rcases (Fn1.mem F).mp z with z|z
  ·subst z
   rcases hb with⟨o',e'⟩|z
   ·exact absurd (Au e') (Lg.mpr I1.ok.above)
   ·exact z I1.free
  ·exact n z
def oR {ps:Ab Ar}{s1:Ag}(S:FnScope N ps scope)(hd:cm=true→A.handled=none)(e0:Env0 P w K mg base A outer s H)(hl:vs.length=ps.length)(r:qP vs us)
  (x:InCallC s s.heap.objs.size (Rw (Ft qual scope s.heap.objs.size f cd).kindOf (ps.zip us) λ_=>none) (Gs (s.heap.objs.size+1) scope.names []) (Rx (Ft qual scope s.heap.objs.size f cd).kindOf (ps.zip us) λ_=>none) s1) :
  Inv (cxC cm P w K mg base N qual scope f cd A outer s H E) [] (_L.wK N vs) H s1:=by
 have I:=lZ (CX:=CXd P w) (E:=E) (A:={ A with handled:=none }) S rfl ⟨e0.frames,e0.mod,e0.bs,e0.bsz,e0.funs,e0.frf,e0.hok,e0.bare⟩ hl r x
 have J:=Inv.re I (A.deeper (Ft qual scope s.heap.objs.size f cd)) cm (cxC cm P w K mg base N qual scope f cd A outer s H E).xe (Mc e0.frames) hd;exact J
end
def ZQ {P:Bd}{w:Bw}{K:Ak}{mg:Ar→Al Ac}{base:Bm}{cm:Ap}{k:Ah}{f:Ad}{qual:Ar}{params:Mk}{scope:Eh}{oc:Ac}{an:Al Ad}{osl:Av (Al Ac)}{x:Ar}{kV doc pm cdv ct:Ac}{N ps:Ab Ar}
  {A:Bt} {outer:Ab Hu} {s:Ag} {H:Hp} {args:Args} {us:Ab Ac} {vs:Ab V} {Q:VK} {E:XK} (lk:K.lookup f=Aa ⟨oc,od,.func (Ga x qual params body scope .none kV doc pm an cdv ct),osl⟩) (hcd:Je K cdv qual=true) (S:FnScope N ps scope) (hl:vs.length=ps.length) (hr:RoomC cm (k+1) A)
  (e0:Env0 P w K mg base A outer s H) (hb:Ln s (Ga x qual params body scope .none kV doc pm an cdv ct) args (ps.zip us)) (r:qP vs us)
  (hbody:∃ t,PSs (cxC cm P w K mg base N qual scope f cdv A outer s H E) body t∧t { nx:=λ_ H'=>Q .non H',rt:=Q } (_L.wK N vs) H) :
  Ie (As P w) A (.call (.ref f) args) (CR (CXd P w) outer P w H s Q E) s:=by
 have KX:K.In s.heap:=e0.mod.kin.keeps λb o e=>(e0.bs b o e).1;have lim:s.heap.NoLimit:=e0.mod.nolimit.keeps λb o e=>(e0.bs b o e).1;have hkind:∀ y∈ps.zip us,scope.names.lookup y.1=Aa .local ∨ (scope.names.lookup y.1=Aa .cell∧((Gs (s.heap.objs.size+1) scope.names []).lookup y.1).isSome=true):=λ⟨n,v⟩ hy=>by
  rcases S.par n (Jx hy).1 with q|q
  ·exact .inl q
  ·exact .inr ⟨q,IN _ _ _ (.inl q)⟩
 refine Qp hr.depth (KX _ _ lk) rfl S.co S.gen rfl (Sw KX hcd) (hb _ _ _ _ ?_);refine NE S.kind hkind λenv he s1 x=>?_;subst he;refine⟨lim.keeps x.toInCall.keep,codeAny_func ?_⟩;obtain⟨t,ht,hq⟩:=hbody;have I:Inv (cxC cm P w K mg base N qual scope f cdv A outer s H E) [] (_L.wK N vs) H s1:=oR S hr.hd e0 hl r x;refine Fv (ht [] s1 (_L.wK N vs) H _ I hq) (λfl s' hs=>?_) λe s' hs=>hs;have fin:∀ {σ' : _L.St} {H':Hp} {v:V} {u:Ac},Inv (cxC cm P w K mg base N qual scope f cdv A outer s H E) [] σ' H' s'→qO v u→Q v H'→CE outer P w H s Q u s':=
  λ{σ' H' v u} J rv q=>⟨v,H',J.os,J.bare,J.base,J.hok,rv,q⟩
 cases fl with
 |ret u =>
  obtain⟨v,σ',H',J,rv,q⟩:=hs;exact fin J rv q
 |next =>
  obtain⟨σ',H',J,q⟩:=hs;exact fin (v:=V.non) (u:=Dj) J rfl q
 |brk =>
  obtain⟨_,_,_,q⟩:=hs;exact An q
 |cont =>
  obtain⟨_,_,_,q⟩:=hs;exact An q
def gG (K:Ak)(x:Ar)(cdv:Ac):Prop:=∀ c T,Dp K x=Aa (c,T)→cdv=.ref c
def TL {P:Bd}{w:Bw}{K:Ak}{mg:Ar→Al Ac}{base:Bm}{cm:Ap}{k:Ah}{f:Ad}{x qual:Ar}{st:Ej}{fd:Fb}{N ps:Ab Ar}(F:Fun K x qual st f fd)(S:FnScope N ps (qJ st))
  (len:∀ vs H Q E,sp vs H Q E→vs.length=ps.length)
  (hbody:∀ (cdv:Ac) (A:Bt) (outer:Ab Hu) (s:Ag) (H:Hp) (vs:Ab V) (Q:VK) (E:XK),fd.code=cdv∧Mod K mg base→RoomC cm k (A.deeper (Ft qual (qJ st) s.heap.objs.size f cdv))→sp vs H Q E →
   ∃ t,PSs (cxC cm P w K mg base N qual (qJ st) f cdv A outer s H E) (zS st) t∧t { nx:=λ_ H'=>Q .non H',rt:=Q } (_L.wK N vs) H) :
  FnX P w K mg base cm (k+1) f fd ps sp:=by
 obtain⟨oc,od,kV,doc,pm,an,cdv,ct,osl,rfl,lk,hcd⟩:=F.ex;exact⟨len,λA outer s H args us vs Q E hr e0 hb r hsp=>ZQ lk hcd S (len _ _ _ _ hsp) hr e0 hb r (hbody cdv A outer s H vs Q E ⟨rfl,e0.mod⟩ (hr.deeper _) hsp)⟩
def v3 (n:Ah)(ds:Ab D):qD:=ds.map Aa++Hr (n-ds.length) none
def nY:Out→Res D
 |.rt d S=>.ok d S
 |.nx _ S=>.ok .non S
 |.ex c x _ S=>.ex c x S
 |_=>.bad
def qX (n:Ah)(g:DS):DF:=λds S=>nY (g (v3 n ds) S)
def spR (K:Ak)(P:Hp)(α : Ab Ad)(R:Res D)(Q:VK)(E:XK):Prop:=match R with
 |.ok d S'=>∀ v H' P' α',Rel K H' P' α' S'→qI P P'→α<+:α'→Rep K P' α' d v→Q v H'
 |.ex c _ S'=>∀ H' P' α',Rel K H' P' α' S'→qI P P'→α<+:α'→E c none H'
 |.bad=>Fa
def spD (K:Ak)(n:Ah)(F:DF):Sp:=λvs H Q E=>vs.length=n∧∃ P α ds S,Rel K H P α S∧qG K P α ds vs∧spR K P α (F ds S) Q E
def Q6 {K:Ak}{P:Hp}{α:Ab Ad}{N:Ab Ar}{ds:Ab D}(r:qG K P α ds vs):zE K P α (_L.wK N vs) (v3 N.length ds):=by
 refine⟨by simp[v3,_L.wK,r.length],λi d e=>?_⟩
 unfold v3 at e;unfold _L.wK;by_cases hi:i<ds.length
 ·rw[Bz (by simpa using hi),Dl] at e
  rw[Bz (by rw[Bk,← r.length];exact hi),Dl]
  cases q:ds[i]? with
  |none=>rw[q] at e;cases e
  |some d' =>
   rw[q] at e;cases e;obtain⟨v,h1,h2⟩:=r.get q;exact⟨v,by rw[h1];rfl,h2⟩
 ·rw[Ci (by simpa using hi),Km] at e
  split at e <;> cases e
section
variable {P:Bd}{w:Bw}{K:Ak}{mg:Ar→Al Ac}{base:Bm}{cm:Ap}
def sU {qual:Ar}{scope:Eh}{f:Ad}{cdv:Ac}{A:Bt}{outer:Ab Hu}{s:Ag}{H P':Hp}{E:XK}{N:Ab Ar}{g:DS}{α:Ab Ad}{ds:Ab D}{S':Sto}(hb:PSs (cxC cm P w K mg base N qual scope f cdv A outer s H E) body (tDS (cxC cm P w K mg base N qual scope f cdv A outer s H E) g))
  (r:Rel K H P' α S') (rp:qG K P' α ds vs) (af:spR K P' α (qX N.length g ds S') Q E):∃ t,PSs (cxC cm P w K mg base N qual scope f cdv A outer s H E) body t∧t { nx:=λ_ H'=>Q .non H',rt:=Q } (_L.wK N vs) H:=by
 refine⟨_,hb,P',α,v3 N.length ds,S',r,Q6 rp,?_⟩;unfold qX at af;cases q:g (v3 N.length ds) S' with
 |rt d S1=>rw[q] at af;exact λv H' P1 α1 r1 e1 e2 p1=>af v H' P1 α1 r1 e1 e2 p1
 |nx env S1=>rw[q] at af;exact λσ' H' P1 α1 r1 re1 e1 e2=>af .non H' P1 α1 r1 e1 e2 (by simp only[Rep])
 |bk env S1=>rw[q] at af;exact An af
 |ct env S1=>rw[q] at af;exact An af
 |ex c x env S1=>rw[q] at af;exact λu s' z=>rE (A:=A) rfl z λH' P1 α1 r1 e1 e2=>af H' P1 α1 r1 e1 e2
 |bad=>rw[q] at af;exact An af
def fnX {x qual:Ar}{st:Ej}{f:Ad}{fd:Fb}{N ps:Ab Ar}{k:Ah}{g:DS}(F:Fun K x qual st f fd)(S:FnScope N ps (qJ st))
  (hbody:∀ (cdv:Ac) (A:Bt) (outer:Ab Hu) (s:Ag) (H:Hp) (E:XK),fd.code=cdv∧Mod K mg base→RoomC cm k (A.deeper (Ft qual (qJ st) s.heap.objs.size f cdv)) →
   PSs (cxC cm P w K mg base N qual (qJ st) f cdv A outer s H E) (zS st) (tDS (cxC cm P w K mg base N qual (qJ st) f cdv A outer s H E) g)) :
  FnX P w K mg base cm (k+1) f fd ps (spD K ps.length (qX N.length g)):=by
 refine TL F S (λvs H Q E h=>h.1) λcdv A outer s H vs Q E hc hr h=>?_;obtain⟨hl,P',α,ds,S',r,rp,af⟩:=h;exact sU (hbody cdv A outer s H E hc hr) r rp af
end
section
variable {X:Cx}{cm:Ap}{k:Ah}{f:Ad}{fd:Fb}{ps:Ab Ar}{F:DF}{x:Ar}{p pos:EQ}{e:Bv}{es:Ab Bv}{fa:DA}{n:Ah}
def qE (n:Ah)(F:DF)(fa:DA):DE:=λenv S=>(fa env S).bind λds S1=>if ds.length=n then F ds S1 else .bad
def EX (X:Cx)(P:Hp)(α : Ab Ad)(R:Res D):XK:=λc _ H'=>match R with
 |.ex c' _ S'=>c=c'∧∃ P' α',Rel X.K H' P' α' S'∧qI P P'∧α<+:α'
 |_=>Fa
def cA {P:Hp}{α:Ab Ad}{R:Res D}(af:z9 X P α R Q):spR X.K P α R Q (EX X P α R):=by
 cases R with
 |ok d S'=>exact af
 |ex c x S'=>exact λH' P' α' r' e1 e2=>⟨rfl,P',α',r',e1,e2⟩
 |bad=>exact af
def fQ {pins:Ab (Ad × Cg)}{σ:_L.St}{H:Hp}{s:Ag}{P:Hp}{α:Ab Ad}{R:Res D}(hF:(∃ c x S',R=.ex c x S')→Fn1 X)(I:Inv X pins σ H s)(af:z9 X P α R Q)
  (h:Ie (As X.prog X.w) X.A (.call u ⟨us,[]⟩) (CR (CXd X.prog X.w) X.stack X.prog X.w H s Q (EX X P α R)) s):Ao (As X.prog X.w) X.A (call u us) (EP X pins σ Q) X.xe s:=by
 refine Na (IE h λr s' hq=>?_);cases r with
 |error u =>
  have hq:CXd X.prog X.w X.stack H s (EX X P α R) u s':=hq;cases R with
  |ok d S'=>obtain⟨_,_,_,_,_,_,_,_,_,_,_,_,q⟩:=hq;exact An q
  |bad=>exact An af
  |ex c' x' S' =>
   have hG:=hF ⟨_,_,_,rfl⟩;obtain⟨a,c,H',rfl,I',fl,rfl,P',α',r',e1,e2⟩:=TK I hG hq;exact af _ _ ⟨a,pins,σ,H',P',α',rfl,I',r',e1,e2,hG,fl⟩
 |ok fl =>
  cases fl with
  |ret u=>exact I.after hq
  |next=>exact An hq
  |brk=>exact An hq
  |cont=>exact An hq
def BU {pins:Ab (Ad × Cg)}{σ:_L.St}{H:Hp}{s:Ag}{P:Hp}{α:Ab Ad}{ds:Ab D}(G:FnX X.prog X.w X.K X.mg X.base cm k f fd ps (spD X.K n F))(hr:RoomC cm k X.A)(hb:uG X.K fd ps [])(hF:Fn1 X)
  (I:Inv X pins σ H s) (r:Rel X.K H P α S) (rv:qP vs us) (rp:qG X.K P α ds vs) (hn:ds.length=n) (af:z9 X P α (F ds S) Q):Ao (As X.prog X.w) X.A (call (.ref f) us) (EP X pins σ Q) X.xe s:=by
 have hsp:spD X.K n F vs H Q (EX X P α (F ds S)):=⟨by rw[← rp.length];exact hn,P,α,ds,S,r,rp,cA af⟩
 have hl:us.length=ps.length:=by rw[← rv.length];exact G.len _ _ _ _ hsp
 have hb':=hb s us I.kIn (by rw[Fm];exact hl)
 rw[Fm] at hb';exact fQ (λ_=>hF) I af (G.run X.A X.stack s H ⟨us,[]⟩ us vs Q _ hr I.env0 hb' rv hsp)
def lU {env:qD}{S:Sto}{P:Hp}{α:Ab Ad}{ds:Ab D}{Ok:D→Sto→Prop}(h:qM X P α (if ds.length=n then F ds S1 else .bad) Ok):ds.length=n∧qM X P α (F ds S1) Ok:=by
 by_cases hn:ds.length=n
 ·rw[Bg hn] at h;exact⟨hn,h⟩
 ·rw[Bc hn] at h;exact An h
def KN (G:FnX X.prog X.w X.K X.mg X.base cm k f fd ps (spD X.K n F))(hr:RoomC cm k X.A)(hF:Fn1 X)(hg:Gl X x)(hm:X.mg x=Aa (.ref f))(hk:En X.K (.ref f)=true)(hb:uG X.K fd ps [])
  (ha:PA X (e::es) (tDA X fa)) (hdb:(x == ("__debug__" : Ar))=false:=by decide) (he:Br (e::es) X.env=(false,eval e X.env)::Br es X.env:=by rfl) (hpl:(Gb pos (Br es X.env)).any (·.1)=false:=by rfl) :
  PE X (.Call (.Name x p) (e::es) [] pos) (tD X (qE n F fa)):=by
 intro pins s σ H Q I h;obtain⟨P,α,env,S,r,re,af⟩:=h;refine Gz (j6 I hg hm ?_ hdb);refine Nu (h₀:=X.base) I.ok.mod.kin hk (thn (yW ha I r re af pos) λus s1 ⟨vs,H1,P1,α1,ds,S1,I1,rv,r1,re1,rp,e1,e2,af1⟩=>⟨I1.kIn,?_⟩) he hpl;obtain⟨hn,af2⟩:=lU (env:=env) (S:=S) af1;exact BU G hr hb hF I1 r1 rv rp hn (z9.base e1 e2 af2)
end
abbrev sT:Ab Ac:=[.type "ValueError",.type "Exception",.type "BaseException",.type "object"]
def RQ:Ac→Ap
 |.str _ _=>true
 |_=>false
def gC (K:Ak)(N:Ad):Ap:=(match Lr N K with
 |some o=>match o.data with
  |.dict es _=>es.toList.all λe=>RQ e.key
  |_=>false
 |none=>false)&&decide (Ds K N "__init__" = Aa none)
def yP {K:Ak}{N:Ad}(h:gC K N=true):Wq K N=true∧Ds K N "__init__" = Aa none:=by
 unfold gC at h;rw[Bn,Cd] at h;refine⟨?_,h.2⟩;have h1:=h.1;unfold Wq;cases e:Lr N K with
 |none=>rw[e] at h1;cases h1
 |some o =>
  rw[e] at h1;obtain⟨oc,od,dt,sl⟩:=o;cases dt with
  |dict es ep =>
   simp only at h1 ⊢;rw[Array.all_toList] at h1;refine Eq.trans (congrArg (λf=>Array.all es f) (funext λe=>?_)) h1;cases e.key <;> rfl
  |_=>cases h1
def sG (K:Ak)(C:Ad)(f:Ac→Uf→Av (Al Ac)→Ap):Ap:=match Lr C K with
 |some o=>(match o.data with|.cls cd=>f o.cls cd o.slots|_=>false)
 |none=>false
def eJ {K:Ak}{f:Ac→Uf→Av (Al Ac)→Ap}(h:sG K C f=true):∃ oc od cd sl,Lr C K=Aa ⟨oc,od,.cls cd,sl⟩∧f oc cd sl=true:=by
 unfold sG at h;cases e:Lr C K with
 |none=>rw[e] at h;exact Hm h
 |some o =>
  rw[e] at h;obtain⟨oc,od,dt,sl⟩:=o;cases dt with
  |cls cd=>exact⟨oc,od,cd,sl,rfl,h⟩
  |_=>exact Hm h
def fR (K:Ak)(C A:Ad):Ap:=sG K C λoc cd sl=>sG K A λ_ ca _=>decide (oc=.type "type")&&(decide (cd.mro=.ref C::.ref A::sT)&&(!cd.hasDel&&(gC K cd.ns&&(gC K ca.ns&&(decide (sl.toList.length=6)&&decide (sl.toList[4]? = Aa (Aa (.builtin "ValueError.__new__"))))))))
inductive ExcO (h:Bm)(C:Ad):Prop
 |mk (nm q:Ar) (N:Ad) (bs bm:Ab Ac) (hdct:Ap) (sn:Ab Ar) (sub:Ab Ac) (ab:Ap) (col:Al Ap) (dd:Al Ad) (k0 k1 k2 k3 k5:Al Ac) (mN:Ar→Al Ac) (hC:h.get? C=Aa (excClassObj nm q C N bs bm hdct sn sub ab col dd k0 k1 k2 k3 k5 "ValueError.__new__")) (hN:h.Ns N mN) (hni:mN "__init__" = none) (T:OwnTail h sT bm):ExcO h C
def nZ {β:Type}{l:Ab β}{n:Ah}(h:l.length=n+1):∃ a t,l=a::t∧t.length=n:=by
 cases l with
 |nil=>exact Nat.noConfusion h
 |cons a t=>exact⟨a,t,rfl,Nat.succ.inj h⟩
def six {β:Type}{l:Ab β}(h:l.length=6):∃ a b c d e f,l=[a,b,c,d,e,f]:=by
 obtain⟨a,t,e1,h⟩:=nZ h;obtain⟨b,t2,e2,h⟩:=nZ h;obtain⟨c,t3,e3,h⟩:=nZ h;obtain⟨d,t4,e4,h⟩:=nZ h;obtain⟨e,t5,e5,h⟩:=nZ h;obtain⟨f,t6,e6,h⟩:=nZ h;exact⟨a,b,c,d,e,f,by rw[e1,e2,e3,e4,e5,e6,Hj.mp h]⟩
def NO {cd:Uf}{tl:Ab Ac}{k0 k1 k2 k3 k4 k5:Al Ac}{n:Do}(hm:cd.mro=.ref C::tl)(hd:cd.hasDel=false)(hs:sl.toList=[k0,k1,k2,k3,k4,k5])(hn:sl.toList[4]? = Aa (Aa (.builtin n))) :
  (⟨.type "type",od,.cls cd,sl⟩:Cg)=excClassObj cd.name cd.qualname C cd.ns cd.bases tl cd.hasDict cd.slotNames cd.subclasses cd.abstract cd.collection od k0 k1 k2 k3 k5 n:=by
 rw[hs] at hn;cases hn;cases cd;cases sl;cases hm;cases hd;cases hs;rfl
def GE {K:Ak}{h:Bm}{A:Ad}{cd:Uf}(KI:K.In h)(e:Lr C K=Aa ⟨.type "type",od,.cls cd,sl⟩)(h2:cd.mro=.ref C::.ref A::sT)(h3:cd.hasDel=false)(h4:gC K cd.ns=true)(h6:sl.toList.length=6)(h7:sl.toList[4]? = Aa (Aa (.builtin "ValueError.__new__")))(T:OwnTail h sT (.ref A::sT)):ExcO h C:=by
 obtain⟨k0,k1,k2,k3,x,k5,es⟩:=six h6;exact⟨_,_,_,_,_,_,_,_,_,_,_,k0,k1,k2,k3,k5,_,(KI _ _ e).trans (congrArg Aa (NO h2 h3 es h7)),.of_isNs (Ta KI (yP h4).1),OF KI (yP h4).1 (yP h4).2,T⟩
def GF {K:Ak}{h:Bm}{A:Ad}(KI:K.In h)(z:fR K C A=true):ExcO h C:=by
 obtain⟨oc,od,cd,sl,e,z⟩:=eJ z;obtain⟨qc,qd,ca,ql,e2,z⟩:=eJ z;have a1:=Ez.mp z;have a2:=Ez.mp a1.2;have a3:=Ez.mp a2.2;have a4:=Ez.mp a3.2;have a5:=Ez.mp a4.2;have a6:=Ez.mp a5.2;rw[Cq a1.1] at e;exact GE KI e (Cq a2.1) (IV _▸a3.1) a4.1 (Cq a6.1) (Cq a6.2) (.own (KI _ _ e2) (.of_isNs (Ta KI (yP a5.1).1)) (OF KI (yP a5.1).1 (yP a5.1).2) .base)
section
variable {X:Cx}{pos:EQ}{fa:DA}
def vU (c:Ac)(fa:DA):DS:=λenv S=>(fa env S).toS env λds S1=>if ds.length≤lim then .ex c .non env S1 else .bad
inductive GotAS (X:Cx)(pins:Ab (Ad × Cg))(σ : _L.St)(env:qD)(P:Hp)(α : Ab Ad)(us:Ab Ac)(s1:Ag)(k:Ab D→Sto→Out)(E:Ends):Prop
 |mk (vs:Ab V) (H1 P1:Hp) (α1:Ab Ad) (ds:Ab D) (S1:Sto) (I:Inv X pins σ H1 s1) (rv:qP vs us) (r:Rel X.K H1 P1 α1 S1) (re:zE X.K P1 α1 σ env) (rp:qG X.K P1 α1 ds vs) (e1:qI P P1) (e2:α<+:α1) (q:zF X P1 α1 (k ds S1) E):GotAS X pins σ env P α us s1 k E
def KJ {es:Ab Bv}{k:Ab D→Sto→Out}{pins:Ab (Ad × Cg)}{s:Ag}{σ:_L.St}{H P:Hp}{α:Ab Ad}{env:qD}{D:Ends}(he:PA X es (tDA X fa))(I:Inv X pins σ H s)(r:Rel X.K H P α S)
  (re:zE X.K P α σ env) (af:zF X P α ((fa env S).toS env k) D) (pos:EQ) :
  Ao (As X.prog X.w) X.A (spliced (Gb pos (Br es X.env))) (λus s1=>GotAS X pins σ env P α us s1 k D) X.xe s:=by
 have af1:qM X P α ((fa env S).bind λd S=>.ok d S) λd S=>zF X P α (k d S) D:=by
  have:=wU af;cases q:fa env S <;> rw[q] at this <;> exact this
 exact thn (yW he I r re af1 pos) λu s1 ⟨vs,H1,P1,α1,ds,S1,I1,rv,r1,re1,rp,e1,e2,q⟩=>⟨vs,H1,P1,α1,ds,S1,I1,rv,r1,re1,rp,e1,e2,zF.base e1 e2 q⟩
def YT {x:Ar}{Ae:Ad}{e₀:Bv}{qK:Ab Bv}{np cpos:EQ}(hc:X.calm=true)(hF:Fn1 X)(hg:Gl X x)(hm:X.mg x=Aa (.ref C))(hx:fR X.K C Ae=true)(ha:PA X (e₀::qK) (tDA X fa))
  (hdb:(x == ("__debug__" : Ar))=false:=by decide) (he:Br (e₀::qK) X.env=(false,eval e₀ X.env)::Br qK X.env:=by rfl) (hpl:(Gb cpos (Br qK X.env)).any (·.1)=false:=by rfl) :
  PS X (.Raise (Aa (.Call (.Name x np) (e₀::qK) [] cpos)) none pos) (tDS X (vU (.ref C) fa)):=by
 intro pins s σ H D I h;obtain⟨P,α,env,S,r,re,af⟩:=h;obtain⟨nm,qn,N,bs,tl,hdct,sn,sub,ab,col,dd,k0,k1,k2,k3,k5,mN,hC,hN,hni,T⟩:=GF I.mod.kin hx;refine wpAny_Raise_call_subT (C:=C) (nm:=nm) (q:=qn) (N:=N) (bs:=bs) (bm:=tl) (hdct:=hdct) (sn:=sn) (sub:=sub) (ab:=ab) (col:=col) (dd:=dd) (k0:=k0) (k1:=k1) (k2:=k2) (k3:=k3) (k5:=k5)
  Oe (mN:=mN) (T.hasType Oe.hasBase) (I.ok.hd hc) (by rw[he];show (false||(Gb cpos (Br qK X.env)).any (·.1))=false;rw[hpl];rfl) hni (j6 I hg hm ⟨rfl,?_⟩ hdb)
 have run:=KJ ha I r re af cpos;rw[he] at run ⊢;refine Rk (thn run λus s2 ⟨vs,H1,P1,α1,ds,S1,I1,rv,r1,re1,rp,e1,e2,q⟩=>?_);have hl:us.length=ds.length:=by rw[rp.length,rv.length]
 by_cases hz:ds.length≤lim
 ·rw[Bg hz] at q
  refine⟨rfl,by rw[hl,← xD];exact hz,I1.bk _ _ hC,hN.keeps I1.bk,T.keeps I1.bk,λh' e hm=>q _ _ ⟨e,pins,σ,H1,P1,α1,rfl,I1.kept (t':=s2.toks) hm.keeps,r1,qI.refl _,Bo _,hF,.new s2.heap us hm I1.stack λb o eb old=>?_⟩⟩
  obtain⟨o1,q1⟩:=Old.there I1 hF old;have q2:=hm.keeps b o1 q1;rw[eb] at q2;cases q2;exact q1
 ·rw[Bc hz] at q;exact An q
end
section
variable {X:Cx}{pins:Ab (Ad × Cg)}{σ : _L.St}{H:Hp}{s:Ag}
def oX {M:Ji}{A:Bt}{E:Ac→Ag→Prop}{base h:Bm}{env:Hu}{outer:Ab Hu}{L e:Ad}{cls:Ac}{Q:OO→Ag→Prop}
  (hfr:A.frames=Aa (env::outer)) (hf:env.frame=Aa L) (hkb:base.StaysIn h) (hl:h.FunFrames base (env::outer)) (hx:Rb h s.heap e cls args)
  (hQ:∀ h' a0,Yc base (env::outer) e cls a0 L h'→s.heap.UpToSlots h'→Q () { s with heap:=h' }) : Ao M A (Ug (.ref e) env) Q E s:=by
 obtain⟨t,he,htn,ht⟩:=hx.there;have fresh:∀ b,h.get? b=none→base.get? b=none:=λb hb=>by
  cases hq:base.get? b with
  |none=>rfl
  |some o'=>have z:=hkb b o' hq;rw[hb] at z;cases z
 unfold Ug;simp only[hf];refine Af (Fi he rfl (x:=.none) rfl ?_);rw[Bc (by decide)]
 refine wpAny_entryW hfr (hl.of_keeps λb o hb _=>⟨o,hx.keeps b o hb,rfl⟩) hf he (λb o hb=>hx.keeps b o (hkb b o hb)) (fresh e hx.new) rfl (by simp) (a0:=.ref t) rfl λh' hN=>?_
 obtain⟨n1,n2,n3,n4⟩:=hN;exact hQ h' (.ref t) ⟨n1,fresh e hx.new,n2,n3⟩ n4
def VM {M:Ji}{A:Bt}{E:Ac→Ag→Prop}{c:Ac}{e:Ad}{Q:OO→Ag→Prop}(I:Inv X pins σ H s)(F:Fn1 X)(hA:A.frames=Aa X.stack)(f:FlyX X pins H c e s.heap)
  (hQ:∀ h' B a0,Mv B X.stack e c a0 h'→Inv X pins σ H { s with heap:=h' } → Cv X pins H B h'→Q () { s with heap:=h' }) :
  Ao M A (Ug (.ref e) X.env) (λ_ s₂=>Ao M A (Uh (.ref e) none) Q E s₂) E s:=by
 have land:∀ (B:Bm) (a0:Ac) (h1:Bm),Cv X pins H B s.heap→Yc B X.stack e c a0 X.env.locals h1→s.heap.UpToSlots h1→Ao M A (Uh (.ref e) none) Q E { s with heap:=h1 }:=λB a0 h1 cv hh up=>by
  refine wpAny_landsW (s:={ s with heap:=h1 }) hh λh2 f2 u2=>?_
  obtain⟨I2,cv2⟩:=Inv.fly I F cv f2.1 (up.trans u2);exact hQ h2 B a0 f2 I2 cv2
 cases f with
 |new g args hm hf hk =>
  obtain⟨k1,k2,k3⟩:=X9 I hm hf hk;rw[F.2.1] at hA;exact oX hA F.2.2 k1 (by rw[← F.2.1];exact k2) hm λh' a0 x1 x2=>land _ a0 h' k3 (F.2.1▸x1) x2
 |fly B a0 fl cv =>
  rw[F.2.1] at hA;exact wpAny_looks_onW hA F.2.2 (by rw[← F.2.1];exact fl) λh' x1 x2=>land B a0 h' cv (by rw[F.2.1];exact x1) x2
def aI {B:Bm}{c a0:Ac}{e:Ad}(I:Inv X pins σ H s)(F:Fn1 X)(fl:Mv B X.stack e c a0 s.heap)(cv:Cv X pins H B s.heap):¬ Old X pins H e∧e ∉ frs X.stack∧∃ ob,s.heap.get? e=Aa ob∧ob.cls=c:=by
 obtain⟨oe,vs,he,hc,hd,_⟩:=fl.first
 have nf:e ∉ frs X.stack:=λz=>by
  obtain⟨_,o,ho,hn⟩:=I.stack.mem z;rw[he] at ho;cases ho;exact hn vs hd
 refine⟨λz=>?_,nf,oe,he,hc⟩;have q:=cv e oe he z nf;rw[fl.2.1] at q;cases q
def Inv.track {e:Ad}{c:Ac}{ob:Cg}(I:Inv X pins σ H s)(F:Fn1 X)(no:¬ Old X pins H e)(nf:e ∉ frs X.stack)(he:s.heap.get? e=Aa ob)(hc:ob.cls=c):Inv X pins σ (upd H e (rK e c)) s:=by
 have hn:H e=none:=by
  cases q:H e with
  |none=>rfl
  |some u=>exact absurd (.inr (.inl (by rw[q];intro z;cases z))) no
 have nL:e≠X.env.locals:=λz=>nf (F.mem.mpr (.inl z));have n0:∀ b o,X.s₀.heap.get? b=Aa o→b≠e:=λb o q z=>no (.inl ⟨o,z▸q⟩);refine⟨I.ok,I.os,I.bare,⟨I.base.keep,I.base.slot,λb o q n hx=>?_,I.base.there,λb xs q=>?_,λb o xs q=>?_,λb ps q=>?_⟩,I.loc,I.cell,?_,λx k q=>?_,λp hp=>?_,λb u q=>?_,I.len⟩
 ·rw[qN (n0 b o q)];exact I.base.free b o q n hx
 ·have z:=I.base.tups b xs q
  rw[qN (qZ z hn)];exact z
 ·have z:=I.base.frzs b o xs q
  rw[qN (qZ z hn)];exact z
 ·obtain⟨m,z⟩:=I.base.tbls b ps q
  exact⟨m,by rw[qN (qZ z hn)];exact z⟩
 ·rw[qN (Fu nL)];exact I.free
 ·have z:k≠e:=λz=>no (.inr (.inr (.inr ⟨x,z▸q⟩)))
  rw[qN z];exact I.freeC x k q
 ·obtain⟨a1,a2,a3,a4,a5⟩:=I.pin p hp
  have z:p.1≠e:=λz=>no (.inr (.inr (.inl ⟨p,hp,z⟩)));exact⟨a1,by rw[qN z];exact a2,a3,a4,a5⟩
 ·by_cases hb:b=e
  ·subst hb
   rw[zB] at q;cases q;refine⟨⟨ob,he,hc⟩,⟨ob,he⟩,λh1 h2 ⟨o,q1,q2⟩ k=>⟨o,k o q1,q2⟩⟩
  ·rw[qN hb] at q
   exact(I.hok b u q).stay (λ_ _ _ z=>z) (λk z=>by rw[qN (qZ z hn)];exact z) λk xs z=>by rw[qN (qZ z hn)];exact z
def Inv.gone {i t':Ah}{n:Ar}{h':Bm}(I:Inv X pins σ H s)(hN:X.N.Nodup)(hi:X.N[i]? = Aa n){m:Ar→Al Ac}{v:Al Ac}(hl:∀ (j:Ah) (y:Ar) (w:V),X.N[j]? = Aa y→σ[j]? = Aa (Aa w)→Vis X.env.scope y→∃ u,qO w u∧FQ X.env s.heap m y u)(hv:h'.Ns X.env.locals λy=>if y=n then v else m y)(sb:Gp X.env.locals s.heap h') :
  Inv X pins (σ.set i none) H { s with heap:=h',toks:=t' }:=by
 have neL:∀ b o,X.s₀.heap.get? b=Aa o→b≠X.env.locals:=λb o e=>Cc (Ba (Au e) I.ok.above);have kp:∀ b o,b≠X.env.locals→s.heap.get? b=Aa o→h'.get? b=Aa o:=λb o n e=>(sb.2 b n).trans e;refine⟨I.ok,I.os,I.bare,⟨λb o e n hb hx=>kp b o (neL b o e) (I.base.keep b o e n hb hx),λb o e n hb hx=>?_,I.base.free,λb o e hx=>?_,I.base.tups,I.base.frzs,I.base.tbls⟩,⟨_,hv,λj y w e1 e2 e3=>?_⟩,λx c e=>?_,I.free,I.freeC,λp hp=>?_,λb u q=>?_,by simpa using I.len⟩
 ·obtain⟨sl,q⟩:=I.base.slot b o e n hb hx
  exact⟨sl,kp b _ (neL b o e) q⟩
 ·obtain⟨o',q⟩:=I.base.there b o e hx
  exact⟨o',kp b o' (neL b o e) q⟩
 ·have hj:i≠j:=λz=>by
   subst z;by_cases hs:i<σ.length
   ·rw[Fq hs] at e2;cases e2
   ·rw[Lq (by simp;omega)] at e2;cases e2
  rw[Dz hj] at e2;obtain⟨u,r,l⟩:=hl j y w e1 e2 e3;refine⟨u,r,?_⟩;rcases l with⟨k,z⟩|⟨k,c,z,zc⟩
  ·refine .inl ⟨k,?_⟩
   have:y≠n:=λz=>hj (m6 hN hi (z▸e1));simp[this,z]
  ·exact .inr ⟨k,c,z,zc.sameBut sb (I.cne y c z)⟩
 ·obtain⟨w,z⟩:=I.cell x c e
  exact⟨w,z.sameBut sb (I.cne x c e)⟩
 ·obtain⟨e,n,ne,nf,d⟩:=I.pin p hp
  exact⟨kp p.1 p.2 ne e,n,ne,nf,d⟩
 ·refine(I.hok b u q).stay (λc w hc z=>kp c w ?_ z) (λ_ z=>z) λ_ _ z=>z
  rintro rfl;rcases hc with rfl|hc
  ·rw[I.free] at q;cases q
  ·rw[I.free] at hc;cases hc
def aK {A:Bt}{E:Ac→Ag→Prop}{i:Ah}{n:Ar}{pos:EQ}{Q:OO→Ag→Prop}(I:Inv X pins σ H s)(hN:X.N.Nodup)(hi:X.N[i]? = Aa n)(hlo:X.env.scope.names.lookup n=Aa .local)
  (h:∀ s',Inv X pins (σ.set i none) H s'→Q () s'):Ao M A (do So X.env n .none;unbindBehindTheSuite X.env n pos) Q E s:=by
 obtain⟨m,hm,hl⟩:=id I.loc;exact wpAny_nameGoes_keeps hlo hm (by rw[I.ok.kind];rfl) λh' v hv sb=>h _ (Inv.gone I hN hi hl hv sb)
end
abbrev Cx.tryIn (X:Cx)(E:Ac→Ag→Prop)(pn:Ab (Ad × Cg)):Cx:={ X with xe:=E,pn:=pn }
abbrev Cx.suite (X:Cx)(e:Ad):Cx:=Cx.re X (X.A.mark (Aa (.ref e))) false λ_ _=>Fa
def mC (N i:Ah)(cs:Ab Ac)(f g:DS):DS:=λenv S=>match f env S with
 |.ex c x env1 S1=>if cs.contains c then (match g ((Hr N none).set i (Aa (.exn c))) S1 with
   |.rt d S2=>.rt d S2
   |.nx env2 S2=>.nx (env2.set i none) S2
   |_=>.bad) else .bad
 |o=>o
section
variable {X:Cx}{pins:Ab (Ad × Cg)}{σ : _L.St}{H:Hp}{s:Ag}
def Inv.inTry (I:Inv X pins σ H s)(E:Ac→Ag→Prop):Inv (Cx.tryIn X E (X.pn++pins)) [] σ H s:=
 ⟨⟨I.ok.mod,I.ok.kind,I.ok.glob,I.ok.blt,I.ok.above,I.ok.inj,I.ok.has,I.ok.cab,I.ok.hd,I.ok.frames,I.ok.stk,I.ok.exf,I.ok.bs,I.ok.bsz,I.ok.noex,I.ok.exfs,I.ok.funs,I.ok.frf⟩,I.os,I.bare,I.base,I.loc,I.cell,I.free,I.freeC,λp hp=>I.pin p (by simpa using hp),I.hok,I.len⟩
def Inv.outTry {E:Ac→Ag→Prop}(I:Inv (Cx.tryIn X E (X.pn++pins)) more σ H s):Inv X pins σ H s:=
 ⟨⟨I.ok.mod,I.ok.kind,I.ok.glob,I.ok.blt,I.ok.above,I.ok.inj,I.ok.has,I.ok.cab,I.ok.hd,I.ok.frames,I.ok.stk,I.ok.exf,I.ok.bs,I.ok.bsz,I.ok.noex,I.ok.exfs,I.ok.funs,I.ok.frf⟩,I.os,I.bare,I.base,I.loc,I.cell,I.free,I.freeC,λp hp=>I.pin p (Dg _ hp),I.hok,I.len⟩
def SP.outTry {E:Ac→Ag→Prop}{D:Ends}{f:Flow}{s':Ag}(h:SP (Cx.tryIn X E (X.pn++pins)) [] D f s'):SP X pins D f s':=by
 cases f with
 |next=>obtain⟨σ',H',I,q⟩:=h;exact⟨σ',H',Inv.outTry I,q⟩
 |brk=>obtain⟨σ',H',I,q⟩:=h;exact⟨σ',H',Inv.outTry I,q⟩
 |cont=>obtain⟨σ',H',I,q⟩:=h;exact⟨σ',H',Inv.outTry I,q⟩
 |ret u=>obtain⟨v,σ',H',I,r,q⟩:=h;exact⟨v,σ',H',Inv.outTry I,r,q⟩
def FlyX.outTry {E:Ac→Ag→Prop}{c:Ac}{e:Ad}{h:Bm}(f:FlyX (Cx.tryIn X E (X.pn++pins)) more H c e h):FlyX X pins H c e h:=by
 have old:∀ b,Old X pins H b→Old (Cx.tryIn X E (X.pn++pins)) more H b:=λb o=>by
  rcases o with o|o|⟨p,hp,z⟩|o
  ·exact .inl o
  ·exact .inr (.inl o)
  ·exact .inr (.inr (.inl ⟨p,Dg _ hp,z⟩))
  ·exact .inr (.inr (.inr o))
 cases f with
 |new g args hm hf hk=>exact .new g args hm hf λb o e q=>hk b o e (old b q)
 |fly B a0 fl cv=>exact .fly B a0 fl λb o e q n=>cv b o e (old b q) n
def WJ {K:Ak}{P:Hp}{α:Ab Ad}{n:Ah}(h:σ.length=n):zE K P α σ (Hr n none):=by
 refine⟨by simp[h],λi d e=>?_⟩
 rw[Km] at e
 split at e <;> cases e
def zE.unset {K:Ak}{P:Hp}{α:Ab Ad}{env:qD}(re:zE K P α σ env)(i:Ah):zE K P α (σ.set i none) (env.set i none):=by
 refine⟨by simp[re.1],λj d e=>?_⟩
 by_cases hj:i=j
 ·subst hj
  by_cases hi:i<env.length
  ·rw[Fq hi] at e;cases e
  ·rw[Lq (by simp;omega)] at e;cases e
 ·rw[Dz hj] at e ⊢
  exact re.2 j d e
end
section
variable {X:Cx}{pos:EQ}{f g:DS}
def TN {pins:Ab (Ad × Cg)}{D:Ends}{c:Ac}{e C0:Ad}{s':Ag}{σ:_L.St}{H P:Hp}{α:Ab Ad}{x n:Ar}{i:Ah}{b₀:Ej}{suite:Ab Ej}{hpos:EQ}
  (F:Fn1 X) (hg:Gl X x) (hm:X.mg x=Aa (.ref C0)) (hcs:∀ c∈cs,Iu X.K c (.ref C0)=Aa true) (hN:X.N.Nodup) (hi:X.N[i]? = Aa n) (hlo:X.env.scope.names.lookup n=Aa .local)
  (hs:∀ e,PSs (Cx.suite X e) (b₀::suite) (tDS (Cx.suite X e) g)) (hc:cs.contains c=true) (I:Inv X pins σ H s') (r:Rel X.K H P α S1) (fl:FlyX X pins H c e s'.heap)
  (af:zF X P α (match g ((Hr X.N.length none).set i (Aa (.exn c))) S1 with|.rt d S2=>.rt d S2|.nx env2 S2=>.nx (env2.set i none) S2|_=>.bad) D) (hdb:(x == ("__debug__" : Ar))=false) :
  Ao (As X.prog X.w) X.A (Ug (.ref e) X.env) (λ_ s₂=>Ao (As X.prog X.w) X.A (Uh (.ref e) none) (λ_ s₃ =>
   Ao (As X.prog X.w) X.A (handleBy (.ref e) X.env [.ExceptHandler (Aa (.Name x np)) (Aa n) (b₀::suite) hpos]) (SP X pins D) X.xe s₃) X.xe s₂) X.xe s':=by
 have hcs':Iu X.K c (.ref C0)=Aa true:=hcs c (by simpa using hc)
 have Z:∀ {σ : _L.St} {H:Hp} {s:Ag},Inv X pins σ H s→Inv (Cx.suite X e) pins σ H s:=λI=>Inv.re I _ false _ I.ok.frames λz=>nomatch z;refine VM I F I.ok.frames fl λh5 B a0 f5 I5 cv5=>?_;refine wpAny_handleBy_cons (codeAny_handlers_test (A:=X.A.mark (Aa (.ref e))) (j6 (X:=Cx.suite X e) (Z I5) hg hm ?_ hdb)) (by intro q;cases q)
 obtain⟨no5,nf5,ob5,he5,hc5⟩:=aI I5 F f5 cv5;refine(PySem.W.exm_one I5.kIn (by subst hc5;exact(Yk he5).andThen .now) hcs').at ?_
 refine codeAny_handlers_suite_as ?_;refine lands_againW (s:={ s' with heap:=h5 }) f5 λh6 f6 u6=>?_
 obtain⟨I6,cv6⟩:=Inv.fly I5 F cv5 f6.1 u6;obtain⟨no6,nf6,ob6,he6,hc6⟩:=aI I6 F f6 cv6;have J6:Inv X pins σ (upd H e (rK e c)) { s' with heap:=h6 }:=Inv.track I6 F no6 nf6 he6 hc6
 have hn:H e=none:=by
  cases q:H e with
  |none=>rfl
  |some u=>exact absurd (.inr (.inl (by rw[q];intro z;cases z))) no6
 obtain⟨r1,sP⟩:=r.pure (o:=rK e c) hn;refine jU (X:=Cx.suite X e) (v:=.ref e) (Z J6) hN hi (.inl hlo) rfl (λs7 I7=>?_) (.inr hlo);have re7:zE X.K (upd P e (rK e c)) α (σ.set i (Aa (.ref e))) ((Hr X.N.length none).set i (Aa (.exn c))):=(WJ I.len).set i (by simp only[Rep];exact⟨e,rfl,zB⟩)
 refine Fv (hs e pins s7 _ _ { nx:=λσ' H'=>D.nx (σ'.set i none) H',rt:=D.rt } I7 ⟨_,α,_,S1,r1,re7,?_⟩) (λfl s8 q=>?_) λ_ _ z=>An z
 ·cases q:g ((Hr X.N.length none).set i (Aa (.exn c))) S1 with
  |rt d S2=>rw[q] at af;exact λv H' P' α' r' e1 e2 rp=>af v H' P' α' r' (sP.trans e1) e2 rp
  |nx env2 S2=>rw[q] at af;exact λσ' H' P' α' r' re' e1 e2=>af _ H' P' α' r' (zE.unset re' i) (sP.trans e1) e2
  |bk env2 S2=>rw[q] at af;exact An af
  |ct env2 S2=>rw[q] at af;exact An af
  |ex c' x' env2 S2=>rw[q] at af;exact An af
  |bad=>rw[q] at af;exact An af
 ·cases fl with
  |next =>
   obtain⟨σ',H',I8,q⟩:=q;exact aK (Inv.unre I8 I.ok.frames I.ok.hd) hN hi hlo λs9 I9=>⟨_,H',I9,q⟩
  |brk =>
   obtain⟨_,_,_,q⟩:=q;exact An q
  |cont =>
   obtain⟨_,_,_,q⟩:=q;exact An q
  |ret u =>
   obtain⟨v,σ',H',I8,rv,q⟩:=q;exact aK (Inv.unre I8 I.ok.frames I.ok.hd) hN hi hlo λs9 I9=>⟨v,_,H',I9,rv,q⟩
set_option tactic.hygienic true in
def T6 {x n:Ar}{C0:Ad}{i:Ah}{b₀:Ej}{suite:Ab Ej}{np hpos:EQ}(F:Fn1 X)(hb:∀ E pn,Mi (As X.prog X.w) X.A X.env E→PSs (Cx.tryIn X E pn) body (tDS (Cx.tryIn X E pn) f))
  (hs:∀ e,PSs (Cx.suite X e) (b₀::suite) (tDS (Cx.suite X e) g)) (hg:Gl X x) (hm:X.mg x=Aa (.ref C0)) (hcs:∀ c∈cs,Iu X.K c (.ref C0)=Aa true) (hN:X.N.Nodup) (hi:X.N[i]? = Aa n:=by rfl) (hlo:X.env.scope.names.lookup n=Aa .local:=by rfl)
  (hdb:(x == ("__debug__" : Ar))=false:=by decide):PS X (.Try body [.ExceptHandler (Aa (.Name x np)) (Aa n) (b₀::suite) hpos] [] [] pos) (tDS X (mC X.N.length i cs f g)):=by
 intro pins s σ H D I h;obtain⟨P,α,env,S,r,re,af⟩:=h;refine wpAny_Try_except ?_;refine Fv (hb _ (X.pn++pins) (PassesOwn.looking (K:=λe s₂=>Ao (As X.prog X.w) X.A (Uh e none) (λ_ s₃=>Ao (As X.prog X.w) X.A (handleBy e X.env [.ExceptHandler (Aa (.Name x np)) (Aa n) (b₀::suite) hpos]) (SP X pins D) X.xe s₃) X.xe s₂) (E₁:=X.xe))
  [] s σ H D (Inv.inTry I _) ⟨P,α,env,S,r,re,?_⟩) (λfl s1 q=>?_) λ_ _ z=>z
 ·unfold mC at af
  cases q:f env S with
  |rt d S2=>rw[q] at af;exact af
  |nx env2 S2=>rw[q] at af;exact af
  |bk env2 S2=>rw[q] at af;exact af
  |ct env2 S2=>rw[q] at af;exact af
  |bad=>rw[q] at af;exact af
  |ex c x' env2 S2 =>
   rw[q] at af;dsimp only at af;intro u s' k;obtain⟨e,pins',σ',H',P',α',rfl,I',r',e1,e2,F',fl⟩:=k
   split at af
   ·rename_i hc
    exact TN F hg hm hcs hN hi hlo hs hc (Inv.outTry I') r' (FlyX.outTry fl) (zF.base e1 e2 af) hdb
   ·exact An af
 ·have q':=SP.outTry q
  cases fl with
  |next=>exact Jw q'
  |brk=>exact q'
  |cont=>exact q'
  |ret u=>exact q'
end
end _D
namespace _D
open PySem PySem.Spec PyProof.Rows _L PySem.W
variable {R:Uy→Ag→Prop}
structure ExnK (K:Ak)(C:Ad):Prop where
 ga:findIn K (.ref C) "__getattribute__" = Aa (Aa (.builtin "BaseException.__getattribute__"))
 hk:findIn K (.ref C) "__getattr__" = Aa none
 cl:findIn K (.ref C) "__class__" = Aa (Aa (.builtin "object.__class__"))
 sp:specialIn K (.builtin "object.__class__") "__get__" = Aa (Aa (.builtin "getset_descriptor.__get__"))
 tk:takesIn K (.builtin "object.__class__")=Aa true
 mo:mroIn K C (.type "object")=Aa true
 mb:mroIn K C (.type "BaseException")=Aa true
 isC:(clsIn K C).isSome=true
section
variable {prog:Bd}{w:Bw}{A:Bt}{E:Ac→Ag→Prop}{s:Ag}{K:Ak}{x C:Ad}
abbrev uH (x C:Ad)(h:Bm):Prop:=∃ ob,h.get? x=Aa ob∧ob.cls=.ref C
def uH.type {M:Ji}{h:Bm}(I:uH x C h):Looks M h (typeOf (.ref x)) (.ref C):=by
 obtain⟨ob,e,c⟩:=I;rw[← c];exact(Looks.ld e).andThen .now
def YY {M:Ji}{h:Bm}(X:K.In h)(Z:ExnK K C):Looks M h (Xo (.ref x) (.ref C) "__class__") (.bind (.builtin "getset_descriptor.__get__") (.builtin "object.__class__")):=by
 have l1:=Tl (M:=M) X Z.cl;have l2:Looks M h (Xj (Aa (.builtin "object.__class__"))) (Aa (.builtin "getset_descriptor.__get__")):=looks_specialIn X Z.sp;have l3:=looks_takesIn (M:=M) X Z.tk;have l4:Looks M h (Tn (Aa (.builtin "object.__class__")) (Aa (.builtin "getset_descriptor.__get__"))) (Aa (.builtin "getset_descriptor.__get__",.builtin "object.__class__")):=l3.andThen .now;exact l1.andThen (l2.andThen (l4.andThen (Looks.tag .now)))
def GG {tp:Ac}(X:K.In s.heap)(Z:ExnK K C)(I:uH x C s.heap)(h:R (.ok (.ret (.ref C))) s) :
  Ie (As prog w) A (.call (.builtin "getset_descriptor.__get__") ⟨[.builtin "object.__class__",.ref x,tp],[]⟩) R s:=by
 have LT:=uH.type (M:=As prog w) I;have LM:=looks_mroIn (M:=As prog w) X Z.mo;cases s;refine Jj KF.slot_gs.plain KF.entry_gs (KF.slot_gs.check _ _ _ _ _ _ _ _ KF.type_class (KF.args_gs _ _ _) ?_);unfold Ih.«getset_descriptor.__get__» To;rw[dga_obj];refine Af (Am ?_);unfold Sd Pp Pz isInstance;simp only[KF.owner_class]
 repeat lk
 refine⟨Nv _ (by decide +kernel),He KF.entry_class ?_⟩
 unfold Ih.«object.__class__» shownTypeOf
 repeat lk
 exact h
def TJ {tk:Su}(X:K.In s.heap)(Z:ExnK K C)(I:uH x C s.heap)(h:R (.ok (.ret (.ref C))) s) :
  Ie (As prog w) A (.call (.builtin "BaseException.__getattribute__") ⟨[.ref x,.str "__class__" tk],[]⟩) R s:=by
 have LT:=uH.type (M:=As prog w) I;have LM:=looks_mroIn (M:=As prog w) X Z.mb;have LF:=YY (M:=As prog w) (x:=x) X Z;have hk:builtinKind "BaseException.__getattribute__" = Aa .slot:=by decide +kernel
 have hsp:splitId "BaseException.__getattribute__" = Aa ("BaseException","__getattribute__"):=by decide +kernel
 have chk:∀ (A:Bt) (Q:OO→Ag→Prop) (E:Ac→Ag→Prop),Q () s→Ao (As prog w) A (OS "BaseException.__getattribute__" ⟨[.ref x,.str "__class__" tk],[]⟩) Q E s:=by
  intro A Q E hq;have ha:=PySem.F.args_bexc_ga (.ref x) (.str "__class__" tk);simp only[OS,hk,hsp];unfold isInstance;refine Af (Af (LT.here (LM.here ?_)))
  repeat (any_goals (first|assumption|wp_step))
 refine Jj Pd.ga.plain PySem.F.entry_bexc_ga (chk _ _ _ ?_);cases s;unfold Ih.«object.__getattribute__»;refine Af (Of (show slotArgs "__getattribute__" 1 ⟨[.ref x,.str "__class__" tk],[]⟩=pure (.ref x,[.str "__class__" tk]) from by kernel_rfl) ?_)
 refine Af (Am (Af (LT.at (Af (LF.at ?_)))));show Ao _ _ (O0 _ _ _ _) _ _ _;unfold O0;dsimp only;exact Af (Ed (Na (GG X Z I (Am h))))
def ZN {Q:Al Ac→Ag→Prop}(X:K.In s.heap)(Z:ExnK K C)(I:uH x C s.heap)(h:Q (Aa (.ref C)) { s with toks:=s.toks+1 }) : Ao (As prog w) A (getAttr? (.ref x) "__class__") Q E s:=by
 have LT:=uH.type (M:=As prog w) I;have L1:=Tl (M:=As prog w) X Z.ga;have lk2:=Tl (M:=As prog w) X Z.hk;unfold getAttr? getAttrBy? getAttrBy;cases s;refine Af (wpAny_mkText (Af (IR (Ed (Af (LT.at (Af (L1.at ?_))))))));dsimp only;have hx2:(Xb "BaseException.__getattribute__" == Xb "object.__getattribute__")=false:=by decide +kernel
 rw[hx2,Nj,Bc Ea];unfold getAttrByItsOwn hookBefore;rw[Bg (show onTheHeap (.ref C)=true from rfl)]
 refine Af (lk2.at (Af (IR (Ed ?_))));unfold callGetattribute;rw[Jc,Bc Ea];unfold boundAndCalled;refine Af (Of (Pd.ga.bind (.ref x)) ?_);refine Na (TJ X Z I ?_);show Ao _ _ (handedOut (.ref C)) _ _ _;exact Am (Am h)
set_option tactic.hygienic true in
def rZ (Z:ExnK K C):KitX K (.ref x) (.ref C) (uH x C) where
 ty:=λ_ _ _ I=>I.type
 it:=λM h X _=>by
  have z:=Z.isC;unfold clsIn at z
  split at z
  ·rename_i ho
   intro A' Q' E' s' k q;unfold isType loadHead;exact Af (wpAny_loadPart (k _ _ (X _ _ ho)) (Am q))
  ·cases z
 ne:=λh tp dd its n sl X htp=>by
  have z:=Z.isC;unfold clsIn at z
  split at z
  ·rename_i ho
   cases hq:(Cf C == Cf tp) with
   |false=>rfl
   |true =>
    obtain rfl:C=tp:=Value.ref.inj (Lh.mp hq);have y:=(X _ _ ho).symm.trans htp;cases y
  ·cases z
 ca:=λX I k=>ZN X Z I k
end
end _D
namespace _D
open PySem PySem.Spec PyProof.Rows _L
variable {cells:Ab (Ar × Ad)}{α α1:Ab Ad}{ds:Ab D}{C:Ad}{s:Ag}{K:Ak}{o:Cg}{H P P1:Hp}{S S1:Sto}
def mE {α:Type}{t:Jm α}{Q Q':α→Ag→Prop}{M:Ji}{A:Bt}{E:Ac→Ag→Prop}(h:Ao M A t Q (λ_ _=>Fa) s)(hQ:∀ a s,Q a s→Q' a s):Ao M A t Q' E s:=Fv h hQ λ_ _ x=>x.elim
def gD (ifs:Ab Bv)(env:Hu):Jm Ap:=forIn ifs true λc r=>if r=true then do let ok ← PySem.isTrue c env (eval c env);pure (Mm ok) else pure (Mm r)
def PTs (X:Cx)(ifs:Ab Bv)(t:DT):Prop:=
 ∀ (pins:Ab (Ad × Cg)) (s:Ag) (σ : _L.St) (H:Hp) (Q:Ap→Hp→Prop),Inv X pins σ H s→tDT X t σ H Q→Ao (As X.prog X.w) X.A (gD ifs X.env) (TP X pins σ Q) X.xe s
def w8:DT:=λ_ S=>.ok true S
section
variable {X:Cx}
def GB:PTs X [] w8:=λpins s σ H Q I ⟨P,α,env,S,r,re,af⟩=>by
 unfold gD;rw[Nk];exact Am ⟨H,I,af H P α r (qI.refl _) (Bo _)⟩
def CZ {e:Bv}{f:DE}{pins:Ab (Ad × Cg)}{σ:_L.St}{env:qD}{d:D}(he:PE X e (tD X f))(I:Inv X pins σ H s)(r:Rel X.K H P α S)(re:zE X.K P α σ env)(q:f env S=.ok d S1) :
  Ao (As X.prog X.w) X.A (eval e X.env) (λu s1=>∃ v H1 P1 α1,Got X pins σ env P α u s1 v H1 P1 α1 d S1) X.xe s:=by
 refine thn (x5 (g:=λd S=>Res.ok d S) (Ok:=λd' S'=>d'=d∧S'=S1) he I r re (by rw[q];exact⟨rfl,rfl⟩)) λu s1 ⟨v,H1,P1,α1,d',S',G,h1,h2⟩=>?_
 have e1:d'=d:=h1;have e2:S'=S1:=h2;subst e1;subst e2;exact⟨v,H1,P1,α1,G⟩
def ED {ifs:Ab Bv}{t:DT}{pins:Ab (Ad × Cg)}{σ:_L.St}{env:qD}{b:Ap}(he:PTs X ifs t)(I:Inv X pins σ H s)(r:Rel X.K H P α S)(re:zE X.K P α σ env)(q:t env S=.ok b S1) :
  Ao (As X.prog X.w) X.A (gD ifs X.env) (λb' s1=>b'=b∧∃ H1 P1 α1,Inv X pins σ H1 s1∧Rel X.K H1 P1 α1 S1∧zE X.K P1 α1 σ env∧qI P P1∧α<+:α1) X.xe s:=by
 refine thn (he pins s σ H (λb' H1=>b'=b∧∃ P1 α1,Rel X.K H1 P1 α1 S1∧zE X.K P1 α1 σ env∧qI P P1∧α<+:α1) I ⟨P,α,env,S,r,re,?_⟩) λb' s1 ⟨H1,I1,e,P1,α1,q1,q2,q3,q4⟩=>⟨e,H1,P1,α1,I1,q1,q2,q3,q4⟩;rw[q];exact λH' P' α' r' e1 e2=>⟨rfl,P',α',r',re.mono e1 e2,e1,e2⟩
def A0 {tg:Bv}{g:DG}{pins:Ab (Ad × Cg)}{σ:_L.St}{env env1:qD}{d:D}{v:V}{u:Ac}(hg:PG X tg (tDG X g))(I:Inv X pins σ H s)(r:Rel X.K H P α S)(re:zE X.K P α σ env)(rv:qO v u)
  (rp:Rep X.K P α d v) (q:g d env S=.ok env1 S1) :
  Ao (As X.prog X.w) X.A (assign tg X.env u) (λ_ s1=>∃ σ1 H1 P1 α1,Inv X pins σ1 H1 s1∧Rel X.K H1 P1 α1 S1∧zE X.K P1 α1 σ1 env1∧qI P P1∧α<+:α1) X.xe s:=by
 refine thn (hg pins s σ H v u (λσ1 H1=>∃ P1 α1,Rel X.K H1 P1 α1 S1∧zE X.K P1 α1 σ1 env1∧qI P P1∧α<+:α1) I rv ⟨P,α,env,S,d,r,re,rp,?_⟩) λ_ s1 ⟨σ1,H1,I1,P1,α1,q1,q2,q3,q4⟩=>⟨σ1,H1,P1,α1,I1,q1,q2,q3,q4⟩;rw[q];exact λσ' H' P' α' r' re' e1 e2=>⟨P',α',r',re',e1,e2⟩
def tR (K:Ak)(P:Hp)(α : Ab Ad)(ds:Ab D)(o:Cg):Prop:=∃ (its:Ab Ac) (n:Ah) (vs:Ab V),o={ cls:=.type "list",data:=.seq its.toArray n } ∧ qP vs its∧qG K P α ds vs∧ds.length≤lim
def tR.mono (e:qI P P1)(h:α<+:α1)(a:tR K P α ds o):tR K P1 α1 ds o:=by
 obtain⟨its,n,vs,q1,q2,q3,q4⟩:=a;exact⟨its,n,vs,q1,q2,qG.mono e h _ _ q3,q4⟩
def tR.cell (a:tR K P α ds o):∀ v,o.data≠.cell v:=by
 obtain⟨its,n,vs,rfl,_⟩:=a;intro v z;cases z
def Inv.pin1 {pins:Ab (Ad × Cg)}{σ:_L.St}{a:Ad}(I:Inv X pins σ H s)(f:xY X pins H a)(e:s.heap.get? a=Aa o)(d:∀ v,o.data≠.cell v):Inv X (pins++[(a,o)]) σ H s:=
 I.pins_of λp hp=>(Cp.mp hp).elim (λz=>I.pin p (Ca _ z)) λz=>by
  have e':p=(a,o):=by simpa using z
  subst e';exact⟨e,f.1,f.2.1,f.2.2.1,d⟩
def Inv.pinned1 {pins:Ab (Ad × Cg)}{σ:_L.St}{a:Ad}(I:Inv X (pins++[(a,o)]) σ H s):s.heap.get? a=Aa o∧H a=none:=by
 have:=I.pin (a,o) (Ca _ (Ca _ (by simp)))
 exact⟨this.1,this.2.1⟩
end
structure TurnSt (Y:Cx)(pins:Ab (Ad × Cg))(P1:Hp)(α1:Ab Ad)(fp:Ab Ad)(acc:Ad)(env:qD)(S:Sto)(ds:Ab D)(s:Ag)(σ : _L.St)(H P:Hp)(α : Ab Ad)(o:Cg):Prop where
 inv:Inv Y pins σ H s
 rel:Rel Y.K H P α S
 env:zE Y.K P α σ env
 same:qI P1 P
 pre:α1<+:α
 fpn:∀ b∈fp,H b=none
 acn:H acc=none
 at':s.heap.get? acc=Aa o
 acc:tR Y.K P α ds o
def yB (cells:Ab (Ar × Ad)):Ab (Ar × Gx)→Ab (Ar × Ad)→Ab (Ar × Ad)
 |[],cs=>cs
 |(n,k)::r,cs=>yB cells r (if k == .free then (n,(cells.lookup n).getD 0)::cs else cs)
def pM {env:Hu}{scope:Eh}(h:∀ y∈scope.names,y.2=.free→∃ c,env.cells.lookup y.1=Aa c):OT scope env=pure (yB env.cells scope.names []):=by
 have go:∀ (l:Ab (Ar × Gx)) (cs:Ab (Ar × Ad)),(∀ y∈l,y.2=.free→∃ c,env.cells.lookup y.1=Aa c) →
   (forIn l cs λx cs=>match x with|(name,kind)=>if (kind == Fw)=true then do let a ← cellOf env name;pure (Mm ((name,a)::cs)) else pure (Mm cs):Jm (Ab (Ar × Ad)))=pure (yB env.cells l cs):=by
  intro l
  induction l with
  |nil=>intro cs _;rfl
  |cons y r ih =>
   intro cs hl;obtain⟨n,k⟩:=y;rw[Qb];by_cases hk:k=.free
   ·subst hk
    obtain⟨c,hc⟩:=hl (n,.free) Ct rfl;have hc':env.cells.lookup n=Aa c:=hc;have e:cellOf env n=pure c:=by unfold cellOf;rw[hc']
    simp only[Ff,Dc,e,pure_bind];rw[ih _ λz hz=>hl z (Bu _ hz)];simp only[yB,Ff,Dc,hc',Ls]
   ·have hb:(k == Fw)=false:=by simpa using hk
    simp only[hb,Bq,Dw,pure_bind];rw[ih _ λz hz=>hl z (Bu _ hz)];simp only[yB,hb,Bq,Dw]
 unfold OT;have:=go scope.names [] h;simp only[bind_pure];exact this
def kH {x:Ar}{c:Ad}:∀ (l:Ab (Ar × Gx)) (cs:Ab (Ar × Ad)),(yB cells l cs).lookup x=Aa c→cs.lookup x=Aa c∨((x,Fw)∈l∧c=(cells.lookup x).getD 0)
 |[],cs,h=>.inl h
 |(n,k)::r,cs,h=>by
  rcases kH r _ h with h|⟨h1,h2⟩
  ·by_cases hk:k=.free
   ·subst hk
    simp only[Ff,Dc,Ix] at h;cases hb:x == n with
    |true =>
     rw[hb] at h;have e:x=n:=by simpa using hb
     subst e;exact .inr ⟨Ct,(Co h).symm⟩
    |false=>rw[hb] at h;exact .inl h
   ·have hb:(k == Fw)=false:=by simpa using hk
    simp only[hb,Bq,Dw] at h;exact .inl h
  ·exact .inr ⟨Bu _ h1,h2⟩
def jX {x:Ar}:∀ (l:Ab (Ar × Gx)) (cs:Ab (Ar × Ad)),((x,Fw)∈l∨∃ c,cs.lookup x=Aa c)→∃ c,(yB cells l cs).lookup x=Aa c
 |[],cs,h=>by
  rcases h with h|h
  ·cases h
  ·exact h
 |(n,k)::r,cs,h=>by
  refine jX r _ ?_;rcases h with h|⟨c,h⟩
  ·rcases Bb.mp h with e|h
   ·cases e
    exact .inr ⟨(cells.lookup x).getD 0,by simp only[Ff,Dc,Ix]⟩
   ·exact .inl h
  ·by_cases hk:k=.free
   ·subst hk
    simp only[Ff,Dc,Ix];cases hb:x == n with
    |true=>exact .inr ⟨_,rfl⟩
    |false=>exact .inr ⟨c,h⟩
   ·have hb:(k == Fw)=false:=by simpa using hk
    simp only[hb,Bq,Dw];exact .inr ⟨c,h⟩
structure CompSc (scX:Eh)(NX:Ab Ar)(scope:Eh)(N':Ab Ar)(cap:Ab (Al Ah)):Prop where
 kind:scope.kind=.function
 names:∀ y∈scope.names,y.2=.local → scope.names.lookup y.1=Aa .local
 cel:∀ y∈scope.names,y.2=.cell→scope.names.lookup y.1=Aa .cell
 free:∀ y∈scope.names,y.2=.free→scX.names.lookup y.1=Aa .cell∨scX.names.lookup y.1=Aa .free
 fr2:∀ y∈scope.names,y.2=.free→scope.names.lookup y.1=Aa .free
 len:cap.length=N'.length
 caps:((cap.zip N').all λp=>match p.1 with|none=>true|some i=>NX[i]? == Aa p.2&&scope.names.lookup p.2 == Aa .free)=true
 nd:N'.Nodup
def vW (cap:Ab (Al Ah))(σ : _L.St):_L.St:=cap.map λo=>match o with
 |none=>none
 |some i=>(σ[i]?).join
def wL (cap:Ab (Al Ah))(env:qD):qD:=cap.map λo=>match o with
 |none=>none
 |some i=>(env[i]?).join
def WH {σ:_L.St}{env:qD}(re:zE K P α σ env)(cap:Ab (Al Ah)):zE K P α (vW cap σ) (wL cap env):=by
 refine⟨by simp[vW,wL],λj d e=>?_⟩
 unfold wL at e;unfold vW;rw[Dl] at e ⊢;cases q:cap[j]? with
 |none=>rw[q] at e;cases e
 |some o =>
  rw[q] at e;cases o with
  |none=>cases e
  |some i =>
   have e':(env[i]?).join=Aa d:=by simpa using e
   cases z:env[i]? with
   |none=>rw[z] at e';cases e'
   |some w =>
    rw[z] at e';have e'':w=Aa d:=e';subst e'';obtain⟨v,h1,h2⟩:=re.2 i d z;exact⟨v,by simp[h1],h2⟩
def zG (X:Cx)(N':Ab Ar)(scope:Eh)(cl:Ab (Ar × Ad))(C:Ad)(ex:Ab Ad)(s₀:Ag)(H₀:Hp):Cx:=
 { X with N:=N',s₀:=s₀,H₀:=H₀,env:=compEnvC scope cl C X.env,outer:=X.stack,stack:=X.stack,ex:=ex,fn:=λx=>decide (scope.names.lookup x=Aa .cell),pn:=[],xe:=λ_ _=>Fa }
def jP {scope:Eh}{env:Hu}:∀ {names:Ab (Ar × Gx)} {x:Ar} {k:Gx},
  (names.map λ(n,k)=>if (k == Fw&&env.scope.kind == .function&&env.kindOf n == Aa .cell) then (n,Lu) else (n,k)).lookup x=Aa k →
  names.lookup x=Aa k∨(k=.cell∧names.lookup x=Aa .free)
 |[],_,_,h=>by simp at h
 |(n,k0)::r,x,k,h=>by
  rw[Dt,Ix] at h;rw[Ix];dsimp only at h;cases hb:(k0 == Fw&&env.scope.kind == .function&&env.kindOf n == Aa .cell) with
  |true =>
   rw[hb] at h;simp only[Dc] at h;cases hx:x == n with
   |true =>
    rw[hx] at h;have e:Lu=k:=Co h;have hk:k0=.free:=by
     have:=(Bn _ _).mp hb;have:=(Bn _ _).mp this.1;simpa using this.1
    subst hk;exact .inr ⟨e.symm,rfl⟩
   |false=>rw[hx] at h;exact jP (scope:=scope) h
  |false =>
   rw[hb] at h;simp only[Bq,Dw] at h;cases hx:x == n with
   |true=>rw[hx] at h;exact .inl h
   |false=>rw[hx] at h;exact jP (scope:=scope) h
section
variable {X:Cx}{scope:Eh}{N':Ab Ar}{cap:Ab (Al Ah)}{pins:Ab (Ad × Cg)}{σ : _L.St}{H2:Hp}{s2:Ag}{fp:Ab Ad}
def gM (S:CompSc X.env.scope X.N scope N' cap){x:Ar}{k:Gx}(h:(relabel scope X.env).names.lookup x=Aa k):scope.names.lookup x=Aa k∨(k=.cell∧scope.names.lookup x=Aa .free):=jP (scope:=scope) h
def Z8 (S:CompSc X.env.scope X.N scope N' cap)(ok:X.Ok){x:Ar}{c:Ad}(h:(yB X.env.cells scope.names []).lookup x=Aa c):X.env.cells.lookup x=Aa c∧(x,Fw)∈scope.names:=by
 rcases kH _ _ h with h|⟨hm,hc⟩
 ·cases h
 ·have:=S.free _ hm rfl
  obtain⟨c',hc'⟩:=ok.has x this;rw[hc',Ls] at hc;rw[hc',hc];exact⟨rfl,hm⟩
def VY (scope:Eh)(C:Ad):Ab (Ar × Ad):=Gs (C+1) scope.names []
def gL (X:Cx)(scope:Eh)(C:Ad):Ab (Ar × Ad):=Gs (C+1) scope.names (yB X.env.cells scope.names [])
def vD:∀ (names:Ab (Ar × Gx)) (lo:Ah) (acc:Ab (Ar × Ad)),Gs lo names acc=Gs lo names [] ++ acc
 |[],_,_=>rfl
 |(n,k)::r,lo,acc=>by
  unfold Gs
  split
  ·rw[vD r _ ((n,lo)::acc),vD r _ [(n,lo)],Cj];rfl
  ·exact vD r lo acc
set_option tactic.hygienic true in
def pP:∀ (names:Ab (Ar × Gx)) (lo:Ah) {n:Ar} {c:Ad},(n,c)∈Gs lo names [] → (n,Lu)∈names
 |[],_,_,_,h=>by cases h
 |(n0,k)::r,lo,n,c,h=>by
  unfold Gs at h
  split at h
  ·rename_i hk
   rw[vD] at h;rcases Cp.mp h with h|h
   ·exact Bu _ (pP r _ h)
   ·have e:(n,c)=(n0,lo):=by simpa using h
    cases e;have:k=Lu:=by simpa using hk
    rw[this];exact Ct
  ·exact Bu _ (pP r _ h)
def xW (S:CompSc X.env.scope X.N scope N' cap)(ok:X.Ok){C:Ad}{x:Ar}{c:Ad}(h:(gL X scope C).lookup x=Aa c):((x,c)∈VY scope C∧scope.names.lookup x=Aa .cell)∨(X.env.cells.lookup x=Aa c∧(x,Fw)∈scope.names):=by
 unfold gL at h;rw[vD,Tc] at h;cases q:(Gs (C+1) scope.names []).lookup x with
 |some c' =>
  rw[q] at h;cases h;have m:=Er q;exact .inl ⟨m,S.cel _ (pP _ _ m) rfl⟩
 |none =>
  rw[q] at h;exact .inr (Z8 S ok h)
def rC (S:CompSc X.env.scope X.N scope N' cap)(ok:X.Ok){C:Ad}{x:Ar}(h:scope.names.lookup x=Aa .cell∨scope.names.lookup x=Aa .free):∃ c,(gL X scope C).lookup x=Aa c:=by
 unfold gL;rw[vD,Tc];rcases h with h|h
 ·have:=IN scope.names (C+1) [] (x:=x) (.inl h)
  obtain⟨c,hc⟩:=Iq.mp this;exact⟨c,by rw[hc];rfl⟩
 ·obtain⟨c',hc'⟩:=jX (cells:=X.env.cells) scope.names [] (.inl (Er h))
  rw[hc'];cases (Gs (C+1) scope.names []).lookup x with
  |none=>exact⟨c',rfl⟩
  |some c=>exact⟨c,rfl⟩
def KG (S:CompSc X.env.scope X.N scope N' cap)(I2:Inv X pins σ H2 s2)(hf:∀ b∈fp,xY X pins H2 b)(hlt:∀ b∈fp,b<s2.heap.objs.size)(hC:s2.heap.objs.size≤C){h1:Bm}(co:CellsOk h1 (C+1) (VY scope C)) :
  (zG X N' scope (gL X scope C) C fp s2 H2).Ok where
 mod:=I2.ok.mod
 kind:=S.kind
 glob:=I2.ok.glob
 blt:=I2.ok.blt
 above:=hC
 inj:=λx y c h1 h2=>by
  rcases xW S I2.ok h1 with⟨m1,_⟩|⟨m1,_⟩ <;> rcases xW S I2.ok h2 with⟨m2,_⟩|⟨m2,_⟩
  ·exact PySem.name_of_addr co.apart m1 m2
  ·obtain⟨v,ob,hob,_⟩:=I2.cell y c m2
   exact absurd (Ba (Au hob) hC) (Lg.mpr (Fz (co.empty x c m1).2))
  ·obtain⟨v,ob,hob,_⟩:=I2.cell x c m1
   exact absurd (Ba (Au hob) hC) (Lg.mpr (Fz (co.empty y c m2).2))
  ·exact I2.ok.inj x y c m1 m2
 has:=λx hx=>by
  have hx':(relabel scope X.env).names.lookup x=Aa .cell∨(relabel scope X.env).names.lookup x=Aa .free:=hx;refine rC S I2.ok ?_;rcases hx' with h|h
  ·rcases gM S h with h|⟨_,h⟩
   ·exact .inl h
   ·exact .inr h
  ·rcases gM S h with h|⟨z,_⟩
   ·exact .inr h
   ·cases z
 cab:=λx c h h2=>by
  have hx:scope.names.lookup x=Aa .cell:=Cq h;rcases xW S I2.ok h2 with⟨m,_⟩|⟨_,m⟩
  ·exact Eb hC (Fz (co.empty x c m).2)
  ·have:=S.fr2 _ m rfl
   have this':scope.names.lookup x=Aa .free:=this;rw[hx] at this';cases this'
 hd:=I2.ok.hd
 frames:=I2.ok.frames
 stk:=.inl rfl
 exf:=λb hb=>⟨Cc (Ba (hlt b hb) hC),λx c h=>by
  rcases xW S I2.ok h with⟨m,_⟩|⟨m,_⟩
  ·exact Fu (Cc (ID (Ba (hlt b hb) hC) (co.empty x c m).2))
  ·exact(hf b hb).2.2.2.2.1 x c m⟩
 bs:=I2.bs
 bsz:=Eb I2.ok.bsz I2.sz
 noex:=λb o e hb=>by
  obtain⟨_,_,_,h,_⟩:=hf b hb;rcases h with h|h
  ·exact I2.ok.noex b o e h
  ·exact absurd (Ba (Au e) (Eb I2.ok.bsz h)) (Ei _)
 exfs:=λb hb hb2=>by
  obtain⟨_,h1,h2,_⟩:=hf b hb;rcases Bb.mp (I2.stkSub b hb2) with z|z
  ·exact h1 z
  ·exact h2 z
 funs:=I2.stack
 frf:=I2.stkFree
def YB {s4:Ag}{m:Ar→Al Ac}(S:CompSc X.env.scope X.N scope N' cap)(I2:Inv X pins σ H2 s2)(hf:∀ b∈fp,xY X pins H2 b)(hlt:∀ b∈fp,b<s2.heap.objs.size)(hC:s2.heap.objs.size≤C)
  (hn:s4.heap.Ns C m) (os:s4.os=s2.os) (gens:s4.gens=s2.gens) (keep:∀ b o,s2.heap.get? b=Aa o→s4.heap.get? b=Aa o) (co:CellsOk s4.heap (C+1) (VY scope C)) :
  Inv (zG X N' scope (gL X scope C) C fp s2 H2) [] (vW cap σ) H2 s4 where
 ok:=KG S I2 hf hlt hC co
 os:=os
 bare:=gens▸I2.bare
 base:=Un.kept keep
 loc:=by
  refine⟨m,hn,λj x v h1 h2 h3=>?_⟩;have h1':N'[j]? = Aa x:=h1;unfold vW at h2;rw[Dl] at h2;cases q:cap[j]? with
  |none=>rw[q] at h2;cases h2
  |some o =>
   rw[q] at h2;cases o with
   |none=>cases h2
   |some i =>
    have e':(σ[i]?).join=Aa v:=by simpa using h2
    have hσ:σ[i]? = Aa (Aa v):=by
     cases z:σ[i]? with
     |none=>rw[z] at e';cases e'
     |some w=>rw[z] at e';have:w=Aa v:=e';rw[this]
    have hz:(Aa i,x)∈cap.zip N':=by
     refine IW.mpr ⟨j,?_⟩;rw[O1];exact⟨q,h1'⟩
    have hc:=Cu.mp S.caps _ hz;simp only[Bn,Lh] at hc;obtain⟨hN,hfr⟩:=hc;have hk:=S.free _ (Er hfr) rfl;obtain⟨mo,hmo,hl⟩:=I2.loc;have vis:Vis X.env.scope x:=by
     rcases hk with k|k
     ·exact .inr (.inl k)
     ·exact .inr (.inr k)
    obtain⟨u,ru,lk⟩:=hl i x v hN hσ vis;refine⟨u,ru,?_⟩;rcases lk with⟨kl,_⟩|⟨_,c,hcl,hcell⟩
    ·have kl':X.env.scope.names.lookup x=Aa .local:=kl
     rcases hk with k|k
     ·have k':X.env.scope.names.lookup x=Aa .cell:=k
      rw[kl'] at k';cases k'
     ·have k':X.env.scope.names.lookup x=Aa .free:=k
      rw[kl'] at k';cases k'
    ·obtain⟨c',hc'⟩:=rC S I2.ok (C:=C) (.inr hfr)
     have e2:X.env.cells.lookup x=Aa c':=by
      rcases xW S I2.ok hc' with⟨_,z⟩|⟨z,_⟩
      ·rw[hfr] at z;cases z
      ·exact z
     rw[hcl] at e2;cases e2;refine .inr ⟨?_,c,hc',?_⟩
     ·have h3':Vis (relabel scope X.env) x:=h3
      rcases h3' with h|h|h
      ·rcases gM S h with h|⟨z,_⟩
       ·rw[hfr] at h;cases h
       ·cases z
      ·exact .inl h
      ·exact .inr h
     ·obtain⟨ob,hob,hd⟩:=hcell
      exact⟨ob,keep c ob hob,hd⟩
 cell:=λx c h=>by
  rcases xW S I2.ok h with⟨m,_⟩|⟨m,_⟩
  ·exact⟨none,(co.empty x c m).1⟩
  ·obtain⟨v,ob,hob,hd⟩:=I2.cell x c m
   exact⟨v,ob,keep c ob hob,hd⟩
 free:=I2.hok.fresh hC
 freeC:=λx c h=>by
  rcases xW S I2.ok h with⟨m,_⟩|⟨m,_⟩
  ·exact I2.hok.fresh (Eb hC (Fz (co.empty x c m).2))
  ·exact I2.freeC x c m
 pin:=λp hp=>absurd (show p∈([]:Ab (Ad × Cg)) from hp) (by simp)
 hok:=I2.hok.kept keep
 len:=by
  show (vW cap σ).length=N'.length;simp[vW,S.len]
end
def ZV {P:Bd}{w:Bw}{h:Bm}{a:Ad}{o:HO}(x:HOk P w H h)(hn:H a=none)(new:zK P w (upd H a o) h a o):HOk P w (upd H a o) h:=λb u e=>by
 by_cases hb:b=a
 ·subst hb;rw[zB] at e;cases e;exact new
 ·rw[qN hb] at e
  exact(x b u e).stay (λc v _ q=>q) (λc q=>by rw[qN (qZ q hn)];exact q) λc xs q=>by rw[qN (qZ q hn)];exact q
def ZU {P:Bd}{w:Bw}{h h':Bm}(x:HOk P w H h)(hn:H C=none)(k:∀ b o,b≠C→h.get? b=Aa o→h'.get? b=Aa o):HOk P w H h':=λb u e =>
 (x b u e).stay (λc v hc q=>k c v (by
  rintro rfl;rcases hc with z|z
  ·subst z;rw[hn] at e;cases e
  ·rw[hn] at z;cases z) q) (λ_ q=>q) λ_ _ q=>q
section
variable {X:Cx}{elt tg iter:Bv}{ifs:Ab Bv}{scope:Eh}{pos:EQ}{N':Ab Ar}{cap:Ab (Al Ah)}{fi:DI}{g:DG}{t:DT}{fe:DE}
def bJ (X:Cx)(pins:Ab (Ad × Cg))(σ : _L.St)(P1:Hp)(α1:Ab Ad)(ds:Ab D)(SF:Sto)(acc C:Ad)(s:Ag):Prop:=
 ∃ (H' P':Hp) (α' : Ab Ad) (vs:Ab V),Inv X pins σ (upd H' acc (.lst vs)) s∧Rel X.K H' P' α' SF∧H' acc=none∧qI P1 P'∧α1<+:α'∧qG X.K P' α' ds vs∧H' C=none
def YA {Y:Cx}{pins:Ab (Ad × Cg)}{σ σ':_L.St}{H2:Hp}{s2 s':Ag}{fp:Ab Ad}{acc:Ad}{H' P':Hp}{α':Ab Ad}{envF:qD}{SF:Sto}{cl:Ab (Ar × Ad)}(I2:Inv X pins σ H2 s2)
  (hf:∀ b∈fp,xY X pins H2 b) (hY:Y=zG X N' scope cl C fp s2 H2) (hC:s2.heap.objs.size≤C) (hA:s2.heap.objs.size≤acc) (hne:acc≠C) (st:TurnSt Y [] P1 α1 fp acc envF SF ds s' σ' H' P' α' o)
  {h':Bm} (sb:Gp C s'.heap h'):bJ X pins σ P1 α1 ds SF acc C { s' with heap:=h' }:=by
 subst hY;obtain⟨its,n,vs,rfl,rv,rp,hz⟩:=st.acc;have kC:∀ b o,b≠C→s'.heap.get? b=Aa o→h'.get? b=Aa o:=λb o hb e=>(sb.2 b hb).trans e;have nC:∀ b o,s2.heap.get? b=Aa o→b≠C:=λb o e=>Cc (Ba (Au e) hC);have nA:∀ b o,s2.heap.get? b=Aa o→b≠acc:=λb o e=>Cc (Ba (Au e) hA);have base:Un (frs X.stack) fp H2 H' s2.heap s'.heap:=st.inv.base;have nt:∀ b u,H' b=Aa u→b≠acc:=λb u e=>qZ e st.acn;have un:Un (frs X.stack) fp H2 (upd H' acc (.lst vs)) s2.heap h':=by
  refine⟨λb ob q hn hb hx=>kC b ob (nC b ob q) (base.keep b ob q hn hb hx),λb ob q hn hb hx=>?_,λb ob q hn hx=>?_,λb ob q hx=>?_,λb xs q=>?_,λb ob u q=>?_,λb ps q=>?_⟩
  ·obtain⟨sl,e⟩:=base.slot b ob q hn hb hx
   exact⟨sl,kC b _ (nC b ob q) e⟩
  ·rw[qN (nA b ob q)];exact base.free b ob q hn hx
  ·obtain⟨o',e⟩:=base.there b ob q hx
   exact⟨o',kC b o' (nC b ob q) e⟩
  ·have:=base.tups b xs q;rw[qN (nt _ _ this)];exact this
  ·have:=base.frzs b ob u q;rw[qN (nt _ _ this)];exact this
  ·obtain⟨more,e⟩:=base.tbls b ps q
   exact⟨more,by rw[qN (nt _ _ e)];exact e⟩
 have hok':HOk X.prog X.w H' h':=ZU st.inv.hok st.inv.free kC;have hat:h'.get? acc=Aa { cls:=.type "list",data:=.seq its.toArray n }:=kC acc _ hne st.at';have hok:HOk X.prog X.w (upd H' acc (.lst vs)) h':=ZV hok' st.acn ⟨by rw[← rp.length,← xD];exact hz,its,n,rv,hat⟩
 refine⟨H',P',α',vs,?_,st.rel,st.acn,st.same,st.pre,rp,st.inv.free⟩;exact I2.call' (s':={ s' with heap:=h' }) (ch:=fp) (st.inv.os) un hok st.inv.bare λb hb=>by
  obtain⟨_,h1,h2,h3,h4,h5⟩:=hf b hb;exact⟨h3,h1,h4,h5⟩
def aD (S:CompSc X.env.scope X.N scope N' cap)(ok:X.Ok):OT scope X.env=pure (yB X.env.cells scope.names []):=pM λy hy hk=>ok.has y.1 (S.free y hy hk)
def GD {pins:Ab (Ad × Cg)}{σ:_L.St}{SF:Sto}{acc:Ad}{Q:VK}(c:bJ X pins σ P1 α1 ds SF acc C s)(ok:OkV X P1 α1 Q (.lst ds) SF):EP X pins σ Q (.ref acc) s:=by
 obtain⟨H',P',α',vs,I,r,hn,e1,e2,rp,_⟩:=c;exact⟨.ref acc,_,I,rfl,vA r hn rp λv H2 P2 α2 r2 q1 q2 q3=>ok v H2 P2 α2 r2 (e1.trans q1) (e2.trans q2) q3⟩
end
end _D
section
namespace _D
open PySem PySem.Spec PyProof.Rows _L PySem.SeqAt
def b01 (b:Ap):Ai:=if b then 1 else 0
mutual
def eqD:D→D→Ap
 |.non,.non=>true
 |.bl a,.bl b=>a == b
 |.bl a,.int b=>b01 a == b
 |.int a,.bl b=>a == b01 b
 |.int a,.int b=>a == b
 |.str a,.str b=>a == b
 |.tup xs,.tup ys=>y9 xs ys
 |.lst xs,.lst ys=>y9 xs ys
 |_,_=>false
def y9:Ab D→Ab D→Ap
 |[],[]=>true
 |x::xs,y::ys=>eqD x y&&y9 xs ys
 |_,_=>false
end
def pl:Ah→D→Ap
 |_,.non=>true
 |_,.bl _=>true
 |_,.int _=>true
 |_,.str _=>true
 |n+1,.tup xs=>xs.all (pl n)
 |n+1,.lst xs=>xs.all (pl n)
 |_,_=>false
def ZL (x y:D)(xs ys:Ab D):y9 (x::xs) (y::ys)=(eqD x y&&y9 xs ys):=rfl
def jE:∀ (xs ys:Ab D),y9 xs ys=((By (min xs.length ys.length)).all (λj=>eqD (xs.getD j .non) (ys.getD j .non))&&xs.length == ys.length)
 |[],[]=>rfl
 |[],y::ys=>rfl
 |x::xs,[]=>rfl
 |x::xs,y::ys=>by
  have ih:=jE xs ys;rw[ZL,ih,Dh,Dh,Nat.succ_min_succ,Li,Jt,Kr,Bool.and_assoc];have e:(xs.length+1 == ys.length+1)=(xs.length == ys.length):=by simp
  rw[e];rfl
def YX {xs ys:Ab D}(h:xs.length≠ys.length):y9 xs ys=false:=by
 rw[jE];simp[h]
def nD (xs ys:Ab D):eqD (.tup xs) (.tup ys)=y9 xs ys:=rfl
def nB (xs ys:Ab D):eqD (.lst xs) (.lst ys)=y9 xs ys:=rfl
section
variable {X:Cx}{pins:Ab (Ad × Cg)}{σ : _L.St}{H P:Hp}{α : Ab Ad}{S:Sto}{s:Ag}
inductive Kd (X:Cx)(P:Hp)(α : Ab Ad)(s:Ag):D→Ac→Prop where
 |non:Kd X P α s .non .none
 |bl (b:Ap):Kd X P α s (.bl b) (.bool b)
 |int (i:Ai) (t:Su):Kd X P α s (.int i) (.int i t)
 |str (x:Ar) (t:Su):Kd X P α s (.str x) (.str x t)
 |tup (a:Ad) (xs:Ab D) (its:Ab Ac) (vs:Ab V) (rp:qG X.K P α xs vs) (rv:qP vs its) (h:s.heap.IsTuple a its.toArray) (q:SqT X.K P a vs):Kd X P α s (.tup xs) (.ref a)
 |lst (a:Ad) (xs:Ab D) (its:Ab Ac) (vs:Ab V) (rp:qG X.K P α xs vs) (rv:qP vs its) (h:s.heap.IsList a its.toArray) (q:SqX X.K P a vs):Kd X P α s (.lst xs) (.ref a)
def jZ (I:Inv X pins σ H s)(r:Rel X.K H P α S){n:Ah}{d:D}{v:V}{u:Ac}(h:pl n d=true)(p:Rep X.K P α d v)(rv:qO v u):Kd X P α s d u:=by
 cases d with
 |non=>simp only[Rep] at p;subst p;cases rv;exact .non
 |bl b=>simp only[Rep] at p;subst p;cases rv;exact .bl b
 |int i=>simp only[Rep] at p;subst p;obtain⟨t,rfl⟩:=rv;exact .int i t
 |str x=>simp only[Rep] at p;subst p;obtain⟨t,rfl⟩:=rv;exact .str x t
 |tup xs =>
  simp only[Rep] at p;obtain⟨a,vs,rfl,q,t⟩:=p;cases rv;obtain⟨its,r1,p1,_⟩:=I.tuple (wH r.sub q);exact .tup a xs its vs t r1 p1 q
 |lst xs =>
  simp only[Rep] at p;obtain⟨a,vs,rfl,q,t⟩:=p;cases rv;obtain⟨its,r1,p1,_⟩:=I.list ((wA r.sub q).l);exact .lst a xs its vs t r1 p1.isList q
 |_=>cases n <;> exact Hm h
def uD {ds:Ab D}{vs:Ab V}{its:Ab Ac}(rp:qG X.K P α ds vs)(rv:qP vs its){j:Ah}(h:j<its.toArray.size):∃ v,Rep X.K P α (ds.getD j .non) v∧qO v its.toArray[j]∧ds.getD j .non∈ds:=by
 have l1:=rp.length;have l2:=rv.length;have hj:j<its.length:=by simpa using h
 have hd:j<ds.length:=by omega
 obtain⟨v,e1,p⟩:=rp.get (Aq hd);obtain⟨u,e2,q⟩:=rv.get e1;have e3:its.toArray[j]=u:=by
  have:its[j]? = Aa its[j]:=Aq hj;rw[this] at e2;simpa using Co e2
 have e4:ds.getD j .non=ds[j]:=by simp[IF,hd]
 rw[e3,e4];exact⟨v,p,q,OU hd⟩
def kD {n:Ah}{ds:Ab D}(h:ds.all (pl n)=true){d:D}(hd:d∈ds):pl n d=true:=Cu.mp h d hd
def GT {h:Bm}{a:Ad}{xs ys:Av Ac}(h1:h.IsTuple a xs)(h2:h.IsTuple a ys):xs=ys:=by
 obtain⟨o,e,_,n,d⟩:=h1;obtain⟨o',e',_,n',d'⟩:=h2;cases e.symm.trans e';cases d.symm.trans d';rfl
def GR {h:Bm}{a:Ad}{xs ys:Av Ac}(h1:h.IsList a xs)(h2:h.IsList a ys):xs=ys:=by
 obtain⟨o,e,_,n,d⟩:=h1;obtain⟨o',e',_,n',d'⟩:=h2;cases e.symm.trans e';cases d.symm.trans d';rfl
def TU {h:Bm}{a:Ad}{xs ys:Av Ac}(h1:h.IsTuple a xs)(h2:h.IsList a ys):Fa:=by
 obtain⟨o,e,c,_⟩:=h1;obtain⟨o',e',c',_⟩:=h2;cases e.symm.trans e';exact absurd (c.symm.trans c') (by decide)
inductive Seqs (X:Cx)(P:Hp)(α : Ab Ad)(xs ys:Ab D)(its its2:Ab Ac):Prop
 |mk (vs ws:Ab V) (rp:qG X.K P α xs vs) (rv:qP vs its) (rp2:qG X.K P α ys ws) (rv2:qP ws its2):Seqs X P α xs ys its its2
def Seqs.len1 {xs ys:Ab D}{its its2:Ab Ac}(q:Seqs X P α xs ys its its2):xs.length=its.length:=by
 obtain⟨vs,ws,rp,rv,_,_⟩:=q;exact rp.length.trans rv.length
def Seqs.len2 {xs ys:Ab D}{its its2:Ab Ac}(q:Seqs X P α xs ys its its2):ys.length=its2.length:=by
 obtain⟨vs,ws,_,_,rp,rv⟩:=q;exact rp.length.trans rv.length
inductive SameR (X:Cx)(P:Hp)(α : Ab Ad):D→D→Prop
 |eq {d d':D} (h:eqD d d'=true):SameR X P α d d'
 |tt (xs ys:Ab D) (its:Ab Ac) (q:Seqs X P α xs ys its its):SameR X P α (.tup xs) (.tup ys)
 |ll (xs ys:Ab D) (its:Ab Ac) (q:Seqs X P α xs ys its its):SameR X P α (.lst xs) (.lst ys)
def iO {d d':D}{u:Ac}(k1:Kd X P α s d u)(k2:Kd X P α s d' u):SameR X P α d d':=by
 cases k1 with
 |non=>cases k2;exact .eq rfl
 |bl b=>cases k2;exact .eq (Ff _)
 |int i t=>cases k2;exact .eq (Ff _)
 |str x t=>cases k2;exact .eq (Ff _)
 |tup a xs its vs rp rv h q =>
  cases k2 with
  |tup _ ys its2 ws rp2 rv2 h2 q2 =>
   cases GT h h2;exact .tt xs ys its ⟨vs,ws,rp,rv,rp2,rv2⟩
  |lst _ ys its2 ws rp2 rv2 h2 q2=>exact(TU h h2).elim
 |lst a xs its vs rp rv h q =>
  cases k2 with
  |lst _ ys its2 ws rp2 rv2 h2 q2 =>
   cases GR h h2;exact .ll xs ys its ⟨vs,ws,rp,rv,rp2,rv2⟩
  |tup _ ys its2 ws rp2 rv2 h2 q2=>exact(TU h2 h).elim
def lV (I:Inv X pins σ H s)(r:Rel X.K H P α S){m:Ah}(ih:∀ (d d':D) (u:Ac),pl m d=true→pl m d'=true→Kd X P α s d u→Kd X P α s d' u→eqD d d'=true){xs ys:Ab D}{its:Ab Ac}(h1:xs.all (pl m)=true)(h2:ys.all (pl m)=true)(q:Seqs X P α xs ys its its):y9 xs ys=true:=by
 obtain⟨vs,ws,rp,rv,rp2,rv2⟩:=q;have l1:=rp.length.trans rv.length;have l2:=rp2.length.trans rv2.length;rw[jE,l1,l2,Tp,Bn];refine⟨Cu.mpr λj hj=>?_,BEq.rfl⟩;have hj:j<its.toArray.size:=Dy.mp hj;obtain⟨w1,y1,z1,m1⟩:=uD rp rv hj;obtain⟨w2,y2,z2,m2⟩:=uD rp2 rv2 hj;exact ih _ _ _ (kD h1 m1) (kD h2 m2) (jZ I r (kD h1 m1) y1 z1) (jZ I r (kD h2 m2) y2 z2)
def aH (I:Inv X pins σ H s)(r:Rel X.K H P α S):∀ (n:Ah) (d d':D) (u:Ac),pl n d=true→pl n d'=true→Kd X P α s d u→Kd X P α s d' u→eqD d d'=true:=by
 intro n
 induction n with
 |zero =>
  intro d d' u h1 h2 k1 k2;cases iO k1 k2 with
  |eq h=>exact h
  |tt=>exact Hm h1
  |ll=>exact Hm h1
 |succ m ih =>
  intro d d' u h1 h2 k1 k2;cases iO k1 k2 with
  |eq h=>exact h
  |tt xs ys its q=>exact(nD xs ys).trans (lV I r ih h1 h2 q)
  |ll xs ys its q=>exact(nB xs ys).trans (lV I r ih h1 h2 q)
structure E3 (A:Bt)(s:Ag)(u u':Ac)(b:Ap):Prop where
 eq:EqAt A s u u' b
 rc:RcAt A s u u' b
 ne:RcNeAt A s u u' (!b)
inductive EqR (X:Cx)(P:Hp)(α : Ab Ad)(A:Bt)(s:Ag):D→D→Ac→Ac→Prop
 |of {d d':D} {u u':Ac} (b:Ap) (e:eqD d d'=b) (h:E3 A s u u' b):EqR X P α A s d d' u u'
 |tt (a b:Ad) (xs ys:Ab D) (its its2:Ab Ac) (ha:s.heap.IsTuple a its.toArray) (hb:s.heap.IsTuple b its2.toArray) (q:Seqs X P α xs ys its its2):EqR X P α A s (.tup xs) (.tup ys) (.ref a) (.ref b)
 |ll (a b:Ad) (xs ys:Ab D) (its its2:Ab Ac) (ha:s.heap.IsList a its.toArray) (hb:s.heap.IsList b its2.toArray) (q:Seqs X P α xs ys its its2):EqR X P α A s (.lst xs) (.lst ys) (.ref a) (.ref b)
def J7 {A:Bt}{d d':D}{u u':Ac}(hu:A.units<Ey)(k1:Kd X P α s d u)(k2:Kd X P α s d' u'):EqR X P α A s d d' u u':=by
 cases k1 with
 |non  =>
  cases k2 with
  |non  => exact .of _ rfl ⟨Xc _,RcAt.none_none,RcNeAt.none_none⟩
  |bl b=>exact .of _ rfl ⟨EqAt.none_bool b,RcAt.none_bool b,RcNeAt.none_bool b⟩
  |int b tb=>exact .of _ rfl ⟨EqAt.none_int b tb,RcAt.none_int b tb,RcNeAt.none_int b tb⟩
  |str b tb=>exact .of _ rfl ⟨EqAt.none_str b tb,RcAt.none_str b tb,RcNeAt.none_str b tb⟩
  |tup b ys its2 ws rp2 rv2 hb qb=>exact .of _ rfl ⟨EqAt.none_tuple hb hu,RcAt.none_tuple hb hu,RcNeAt.none_tuple hb hu⟩
  |lst b ys its2 ws rp2 rv2 hb qb=>exact .of _ rfl ⟨EqAt.none_list hb hu,RcAt.none_list hb hu,RcNeAt.none_list hb hu⟩
 |bl a =>
  cases k2 with
  |non  => exact .of _ rfl ⟨EqAt.bool_none a,RcAt.bool_none a,RcNeAt.bool_none a⟩
  |bl b=>exact .of _ rfl ⟨EqAt.bool_bool a b,RcAt.bool_bool a b,RcNeAt.bool_bool a b⟩
  |int b tb=>exact .of _ rfl ⟨EqAt.bool_int a b tb,RcAt.bool_int a b tb,RcNeAt.bool_int a b tb⟩
  |str b tb=>exact .of _ rfl ⟨EqAt.bool_str a b tb,RcAt.bool_str a b tb,RcNeAt.bool_str a b tb⟩
  |tup b ys its2 ws rp2 rv2 hb qb=>exact .of _ rfl ⟨EqAt.bool_tuple a hb hu,RcAt.bool_tuple a hb hu,RcNeAt.bool_tuple a hb hu⟩
  |lst b ys its2 ws rp2 rv2 hb qb=>exact .of _ rfl ⟨EqAt.bool_list a hb hu,RcAt.bool_list a hb hu,RcNeAt.bool_list a hb hu⟩
 |int a ta =>
  cases k2 with
  |non  => exact .of _ rfl ⟨EqAt.int_none a ta,RcAt.int_none a ta,RcNeAt.int_none a ta⟩
  |bl b=>exact .of _ rfl ⟨EqAt.int_bool a ta b,RcAt.int_bool a ta b,RcNeAt.int_bool a ta b⟩
  |int b tb=>exact .of _ rfl ⟨EqAt.int_int a ta b tb,RcAt.int_int a ta b tb,RcNeAt.int_int a ta b tb⟩
  |str b tb=>exact .of _ rfl ⟨EqAt.int_str a ta b tb,RcAt.int_str a ta b tb,RcNeAt.int_str a ta b tb⟩
  |tup b ys its2 ws rp2 rv2 hb qb=>exact .of _ rfl ⟨EqAt.int_tuple a ta hb hu,RcAt.int_tuple a ta hb hu,RcNeAt.int_tuple a ta hb hu⟩
  |lst b ys its2 ws rp2 rv2 hb qb=>exact .of _ rfl ⟨EqAt.int_list a ta hb hu,RcAt.int_list a ta hb hu,RcNeAt.int_list a ta hb hu⟩
 |str a ta =>
  cases k2 with
  |non  => exact .of _ rfl ⟨EqAt.str_none a ta,RcAt.str_none a ta,RcNeAt.str_none a ta⟩
  |bl b=>exact .of _ rfl ⟨EqAt.str_bool a ta b,RcAt.str_bool a ta b,RcNeAt.str_bool a ta b⟩
  |int b tb=>exact .of _ rfl ⟨EqAt.str_int a ta b tb,RcAt.str_int a ta b tb,RcNeAt.str_int a ta b tb⟩
  |str b tb=>exact .of _ rfl ⟨EqAt.str_str a ta b tb,RcAt.str_str a ta b tb,RcNeAt.str_str a ta b tb⟩
  |tup b ys its2 ws rp2 rv2 hb qb=>exact .of _ rfl ⟨EqAt.str_tuple a ta hb hu,RcAt.str_tuple a ta hb hu,RcNeAt.str_tuple a ta hb hu⟩
  |lst b ys its2 ws rp2 rv2 hb qb=>exact .of _ rfl ⟨EqAt.str_list a ta hb hu,RcAt.str_list a ta hb hu,RcNeAt.str_list a ta hb hu⟩
 |tup a xs its vs rp rv ha qa =>
  cases k2 with
  |non  => exact .of _ rfl ⟨EqAt.tuple_none ha hu,RcAt.tuple_none ha hu,RcNeAt.tuple_none ha hu⟩
  |bl b=>exact .of _ rfl ⟨EqAt.tuple_bool b ha hu,RcAt.tuple_bool b ha hu,RcNeAt.tuple_bool b ha hu⟩
  |int b tb=>exact .of _ rfl ⟨EqAt.tuple_int b tb ha hu,RcAt.tuple_int b tb ha hu,RcNeAt.tuple_int b tb ha hu⟩
  |str b tb=>exact .of _ rfl ⟨EqAt.tuple_str b tb ha hu,RcAt.tuple_str b tb ha hu,RcNeAt.tuple_str b tb ha hu⟩
  |tup b ys its2 ws rp2 rv2 hb qb=>exact .tt a b xs ys its its2 ha hb ⟨vs,ws,rp,rv,rp2,rv2⟩
  |lst b ys its2 ws rp2 rv2 hb qb=>exact .of _ rfl ⟨EqAt.tuple_list ha hb hu,RcAt.tuple_list ha hb hu,RcNeAt.tuple_list ha hb hu⟩
 |lst a xs its vs rp rv ha qa =>
  cases k2 with
  |non  => exact .of _ rfl ⟨EqAt.list_none ha hu,RcAt.list_none ha hu,RcNeAt.list_none ha hu⟩
  |bl b=>exact .of _ rfl ⟨EqAt.list_bool b ha hu,RcAt.list_bool b ha hu,RcNeAt.list_bool b ha hu⟩
  |int b tb=>exact .of _ rfl ⟨EqAt.list_int b tb ha hu,RcAt.list_int b tb ha hu,RcNeAt.list_int b tb ha hu⟩
  |str b tb=>exact .of _ rfl ⟨EqAt.list_str b tb ha hu,RcAt.list_str b tb ha hu,RcNeAt.list_str b tb ha hu⟩
  |tup b ys its2 ws rp2 rv2 hb qb=>exact .of _ rfl ⟨EqAt.list_tuple ha hb hu,RcAt.list_tuple ha hb hu,RcNeAt.list_tuple ha hb hu⟩
  |lst b ys its2 ws rp2 rv2 hb qb=>exact .ll a b xs ys its its2 ha hb ⟨vs,ws,rp,rv,rp2,rv2⟩
def E3.cast {A:Bt}{u u':Ac}{b c:Ap}(e:c=b)(h:E3 A s u u' b):E3 A s u u' c:=e▸h
def RJ {A:Bt}{a b:Ad}{xs ys:Ab D}{its its2:Ab Ac}(hu:A.units<Ey)(ha:s.heap.IsTuple a its.toArray)(hb:s.heap.IsTuple b its2.toArray)(l1:xs.length=its.length)(l2:ys.length=its2.length)
  (sub:∀ j (h1:j<its.toArray.size) (h2:j<its2.toArray.size),EqAt A.in1 s its.toArray[j] its2.toArray[j] (eqD (xs.getD j .non) (ys.getD j .non))) (same:a=b→y9 xs ys=true):E3 A s (.ref a) (.ref b) (y9 xs ys):=by
 have e:y9 xs ys=((By (min its.toArray.size its2.toArray.size)).all (λj=>eqD (xs.getD j .non) (ys.getD j .non))&&its.toArray.size == its2.toArray.size):=by rw[jE,l1,l2];rfl
 have R1:=RcAt.tuples ha hb hu sub;have R2:=RcNeAt.tuples ha hb hu sub;rw[← e] at R1 R2;refine⟨?_,R1,R2⟩;by_cases hab:a=b
 ·rw[same hab,hab]
  exact Xc _
 ·exact Xp hab R1
def RI {A:Bt}{a b:Ad}{xs ys:Ab D}{its its2:Ab Ac}(hu:A.units<Ey)(ha:s.heap.IsList a its.toArray)(hb:s.heap.IsList b its2.toArray)(l1:xs.length=its.length)(l2:ys.length=its2.length)
  (sub:∀ j (h1:j<its.toArray.size) (h2:j<its2.toArray.size),EqAt A.in1 s its.toArray[j] its2.toArray[j] (eqD (xs.getD j .non) (ys.getD j .non))) (same:a=b→y9 xs ys=true):E3 A s (.ref a) (.ref b) (y9 xs ys):=by
 have R:RcAt A s (.ref a) (.ref b) (y9 xs ys)∧RcNeAt A s (.ref a) (.ref b) (!y9 xs ys):=by
  by_cases hl:its.length=its2.length
  ·have e:y9 xs ys=(By its.toArray.size).all (λj=>eqD (xs.getD j .non) (ys.getD j .non)):=by rw[jE,l1,l2,← hl,Tp,BEq.rfl,Se];rfl
   rw[e];exact⟨RcAt.lists ha hb hl hu sub,RcNeAt.lists ha hb hl hu sub⟩
  ·rw[YX (by rw[l1,l2];exact hl)]
   have hn:(its.toArray.size != its2.toArray.size)=true:=bne_iff_ne.mpr hl;exact⟨RcAt.lists_lengths ha hb hn hu,RcNeAt.lists_lengths ha hb hn hu⟩
 refine⟨?_,R.1,R.2⟩;by_cases hab:a=b
 ·rw[same hab,hab]
  exact Xc _
 ·exact Xp hab R.1
def ZK (I:Inv X pins σ H s)(r:Rel X.K H P α S):∀ (n:Ah) (A:Bt) (d d':D) (u u':Ac),A.units+n<Ey→pl n d=true→pl n d'=true→Kd X P α s d u→Kd X P α s d' u'→E3 A s u u' (eqD d d'):=by
 intro n
 induction n with
 |zero =>
  intro A d d' u u' hu h1 h2 k1 k2;cases J7 hu k1 k2 with
  |of b e h=>exact h.cast e
  |tt=>exact Hm h1
  |ll=>exact Hm h1
 |succ m ih =>
  intro A d d' u u' hu h1 h2 k1 k2;have hu0:A.units<Ey:=Td (Iy _ _) hu;have hu1:A.in1.units+m<Ey:=by show A.units+1+m<Ey;omega
  have sub:∀ {xs ys:Ab D} {its its2:Ab Ac},xs.all (pl m)=true→ys.all (pl m)=true→Seqs X P α xs ys its its2 →
    ∀ j (h1:j<its.toArray.size) (h2:j<its2.toArray.size),EqAt A.in1 s its.toArray[j] its2.toArray[j] (eqD (xs.getD j .non) (ys.getD j .non)):=λ{xs ys its its2} a1 a2 ⟨vs,ws,b1,b2,c1,c2⟩ j g1 g2=>by
   obtain⟨w1,y1,z1,m1⟩:=uD b1 b2 g1;obtain⟨w2,y2,z2,m2⟩:=uD c1 c2 g2;exact(ih A.in1 _ _ _ _ hu1 (kD a1 m1) (kD a2 m2) (jZ I r (kD a1 m1) y1 z1) (jZ I r (kD a2 m2) y2 z2)).eq
  cases J7 hu0 k1 k2 with
  |of b e h=>exact h.cast e
  |tt a b xs ys its its2 ha hb q=>exact(RJ hu0 ha hb q.len1 q.len2 (sub h1 h2 q) λe=>by subst e;exact(nD xs ys).symm.trans (aH I r (m+1) _ _ _ h1 h2 k1 k2)).cast (nD xs ys)
  |ll a b xs ys its its2 ha hb q=>exact(RI hu0 ha hb q.len1 q.len2 (sub h1 h2 q) λe=>by subst e;exact(nB xs ys).symm.trans (aH I r (m+1) _ _ _ h1 h2 k1 k2)).cast (nB xs ys)
def yX:Ah:=30
def gEq:G2:=λa b S=>if pl yX a&&pl yX b then .ok (.bl (eqD a b)) S else .bad
def gNe:G2:=λa b S=>if pl yX a&&pl yX b then .ok (.bl (!eqD a b)) S else .bad
set_option tactic.hygienic true in
def RZ (hu:X.A.units+64<Ey):OpD X (Di .Eq) gEq:=by
 intro pins σ H s P α S v u vv uu a b Q I r rv ru pa pb af;unfold gEq at af
 split at af
 ·rename_i h
  rw[Bn] at h;exact(ZK I r yX X.A a b vv uu (by unfold yX;omega) h.1 h.2 (jZ I r h.1 pa rv) (jZ I r h.2 pb ru)).rc _ _ _ _ ⟨.bl _,H,I,rfl,xr af r (by simp only[Rep])⟩
 ·exact An af
set_option tactic.hygienic true in
def JN (hu:X.A.units+64<Ey):OpD X (Di .NotEq) gNe:=by
 intro pins σ H s P α S v u vv uu a b Q I r rv ru pa pb af;unfold gNe at af
 split at af
 ·rename_i h
  rw[Bn] at h;exact(ZK I r yX X.A a b vv uu (by unfold yX;omega) h.1 h.2 (jZ I r h.1 pa rv) (jZ I r h.2 pb ru)).ne _ _ _ _ ⟨.bl _,H,I,rfl,xr af r (by simp only[Rep])⟩
 ·exact An af
end
end _D
end
namespace _D
open PySem PySem.Spec PyProof.Rows _L
variable {pins:Ab (Ad × Cg)}{kvs:Ab (Key × D)}{its us:Ab Ac}{xs ds:Ab D}{vs:Ab V}{f:Ac→Ac→Jm Ac}{s:Ag}{d:D}{v:V}{Q:VK}{σ:_L.St}
section
variable {X:Cx}
def i2 (C:Ai→Ai→Ap)(f:Ai→Ai→D):G2:=λa b S=>match a,b with
 |.int i,.int j=>if C i j then .ok (f i j) S else .bad
 |_,_=>.bad
def JB {C:Ai→Ai→Ap}{f:Ai→Ai→D}{a b:D}{S:Sto}{P:Hp}{α:Ab Ad}{Ok:D→Sto→Prop}(h:qM X P α (i2 C f a b S) Ok):∃ i j,a=.int i∧b=.int j∧C i j=true∧Ok (f i j) S:=by
 cases a with
 |int i =>
  cases b with
  |int j =>
   obtain⟨hc,h⟩:=wX (X:=X) h;exact⟨i,j,rfl,rfl,hc,h⟩
  |_=>exact An h
 |_=>exact An h
def xE {P:Hp}{α:Ab Ad}{i:Ai}(r:Rep X.K P α (.int i) v):v=.int i:=by simpa only [Rep] using r
def tE {C':Ai→Ai→Prop}{v:Ai→Ai→V}{C:Ai→Ai→Ap}{d:Ai→Ai→D}(h:OpR X f (rI C' v))(hC:∀ i j,C i j=true→C' i j)(hv:∀ P α i j,Rep X.K P α (d i j) (v i j)):OpD X f (i2 C d):=
 OpD.of h λH P α S x y a b Q r p1 p2 af=>by
  obtain⟨i,j,rfl,rfl,hc,ok⟩:=JB af;exact⟨i,j,xE p1,xE p2,hC i j hc,xr ok r (hv P α i j)⟩
def tB {v:Ai→Ai→V}{d:Ai→Ai→D}(h:OpR X f (rI0 v))(hv:∀ P α i j,Rep X.K P α (d i j) (v i j)):OpD X f (i2 (λ_ _=>true) d):=
 OpD.of h λH P α S x y a b Q r p1 p2 af=>by
  obtain⟨i,j,rfl,rfl,_,ok⟩:=JB af;exact⟨i,j,xE p1,xE p2,xr ok r (hv P α i j)⟩
def zJ:G2:=i2 (λ_ _=>true) λi j=>.int (i-j)
def NU:OpD X (Ex .Sub) zJ:=tB L7 λP α i j=>by simp only[Rep]
def sW (i j:Ai):Ap:=decide (-(2 ^ 64)<i∧i<2 ^ 64)||decide (-(2 ^ 64)<j∧j<2 ^ 64)
def PR:OpD X (Ex .Mult) (i2 sW λi j=>.int (i*j)):=tE L5 (λi j h=>by
 unfold sW at h;rw[Mn] at h;rcases h with h|h
 ·exact .inl (Cq h)
 ·exact .inr (Cq h)) λP α i j=>by simp only[Rep]
def FX (i j:Ai):Ap:=decide (0<j∧j<1073741824)
def uA:G2:=i2 FX λi j=>.int (i/j)
def NQ:OpD X (Ex .FloorDiv) uA:=tE PX (λi j h=>(Cq h:0<j∧j<1073741824)) λP α i j=>by simp only[Rep]
def uN:G2:=i2 (λ_ j=>decide (0<j)) λi j=>.int (i % j)
def NS:OpD X (Ex .Mod) uN:=tE L4 (λi j h=>Cq h) λP α i j=>by simp only[Rep]
def CA (i j:Ai):Ap:=decide (0≤j∧j≤1000000∧i.natAbs<2 ^ 64)
def xR:G2:=i2 CA λi j=>.int (i ^ j.toNat)
def NT:OpD X (Ex .Pow) xR:=tE L6 (λi j h=>(Cq h:0≤j∧j≤1000000∧i.natAbs<2 ^ 64)) λP α i j=>by simp only[Rep]
def gLt:G2:=i2 (λ_ _=>true) λi j=>.bl (decide (i<j))
def gLe:G2:=i2 (λ_ _=>true) λi j=>.bl (decide (i≤j))
def gGt:G2:=i2 (λ_ _=>true) λi j=>.bl (decide (j<i))
def gGe:G2:=i2 (λ_ _=>true) λi j=>.bl (decide (j≤i))
def E4:OpD X (Di .Lt) gLt:=tB E7 λP α i j=>by simp only[Rep]
def E2:OpD X (Di .LtE) gLe:=tB E6 λP α i j=>by simp only[Rep]
def E0:OpD X (Di .GtE) gGe:=tB E5 λP α i j=>by simp only[Rep]
def yR:D→Sto→Res D:=λa S=>match a with
 |.int i=>.ok (.int (-i)) S
 |_=>.bad
def SQ:UnD X (Uu .USub) yR:=by
 intro pins σ H s P α S v vv a Q I r rv p af;cases a with
 |int i=>exact SR pins s σ H v vv Q I rv ⟨i,xE p,xr af r (by simp only[Rep])⟩
 |_=>exact An af
def gIs:G2:=λa b S=>match b with
 |.non=>match a with
  |.non=>.ok (.bl true) S
  |_=>.ok (.bl false) S
 |_=>.bad
def jH:G2:=λa b S=>match b with
 |.non=>match a with
  |.non=>.ok (.bl false) S
  |_=>.ok (.bl true) S
 |_=>.bad
def iA {P:Hp}{α:Ab Ad}(r:Rep X.K P α d v):decide (v=.non)=(match d with|.non=>true|_=>false):=by
 cases d <;> simp only[Rep] at r
 case non=>subst r;rfl
 case bl=>subst r;rfl
 case int=>subst r;rfl
 case str=>subst r;rfl
 case ty=>subst r;rfl
 case clo=>obtain⟨rfl,_⟩:=r;rfl
 case obj=>obtain⟨rfl,_⟩:=r;rfl
 case tup=>obtain⟨a,vs,rfl,_⟩:=r;rfl
 case lst=>obtain⟨a,vs,rfl,_⟩:=r;rfl
 case dct0=>obtain⟨a,rfl,_⟩:=r;rfl
 case loc=>obtain⟨a,rfl,_⟩:=r;rfl
 case exn=>obtain⟨a,rfl,_⟩:=r;rfl
 case fd=>obtain⟨a,o,vs,rfl,_⟩:=r;rfl
def E1:OpD X (Di .Is) gIs:=OpD.of L3 λH P α S x y a b Q r p1 p2 af=>by
 cases b with
 |non =>
  simp only[Rep] at p2;refine⟨p2,?_⟩;rw[iA p1];cases a <;> exact xr af r (by simp only[Rep])
 |_=>exact An af
def VV:OpD X (Di .IsNot) jH:=OpD.of PY λH P α S x y a b Q r p1 p2 af=>by
 cases b with
 |non =>
  simp only[Rep] at p2;refine⟨p2,?_⟩;rw[iA p1];cases a <;> exact xr af r (by simp only[Rep] <;> rfl)
 |_=>exact An af
def qW:G2:=λa b S=>match a,b with
 |.int i,.int j=>.ok (.int (i+j)) S
 |.str x,.str y=>if x.length+y.length≤lim then .ok (.str (x++y)) S else .bad
 |.tup xs,.tup ys=>if xs.length+ys.length≤lim then .ok (.tup (xs++ys)) S else .bad
 |.lst xs,.lst ys=>if xs.length+ys.length≤lim then .ok (.lst (xs++ys)) S else .bad
 |_,_=>.bad
def jV {H P:Hp}{α:Ab Ad}{S:Sto}(I:Inv X pins σ H s)(r:Rel X.K H P α S)(p:Rep X.K P α (.tup xs) v) :
  ∃ a vs its,v=.ref a∧SqT X.K P a vs∧qG X.K P α xs vs∧qP vs its∧Tu s.heap a its.toArray∧xs.length=its.length∧xs.length≤lim:=by
 simp only[Rep] at p;obtain⟨a,vs,rfl,q,t⟩:=p;obtain⟨its,rv,p1,z⟩:=I.tuple (wH r.sub q);exact⟨a,vs,its,rfl,q,t,rv,p1,by rw[t.length,rv.length],by rw[t.length,xD];exact z⟩
def jM {H P:Hp}{α:Ab Ad}{S:Sto}(I:Inv X pins σ H s)(r:Rel X.K H P α S)(p:Rep X.K P α (.lst xs) v) :
  ∃ a vs its n,v=.ref a∧SqX X.K P a vs∧qG X.K P α xs vs∧qP vs its∧s.heap.get? a=Aa { cls:=.type "list",data:=.seq its.toArray n } ∧ xs.length=its.length∧xs.length≤lim:=by
 simp only[Rep] at p;obtain⟨a,vs,rfl,q,t⟩:=p;have:∃ its n,qP vs its∧s.heap.get? a=Aa { cls:=.type "list",data:=.seq its.toArray n } ∧ vs.length≤sizeLine:=by
  rcases q with q|⟨its,n,e,z,rv⟩
  ·obtain⟨z,its,n,rv,e⟩:=(iK r.sub q).ok I.hok
   exact⟨its,n,rv,e,z⟩
  ·exact⟨its,n,rv,I.kIn _ _ e,z⟩
 obtain⟨its,n,rv,e,z⟩:=this;exact⟨a,vs,its,n,rfl,q,t,rv,e,by rw[t.length,rv.length],by rw[t.length,xD];exact z⟩
def VD {H P:Hp}{α:Ab Ad}{S:Sto}(I:Inv X pins σ H s)(r:Rel X.K H P α S)(t:qG X.K P α xs vs)(rv:qP vs its)(hz:xs.length≤lim)
  (ok:OkV X P α Q (.tup xs) S):EP X pins σ Q (.ref s.heap.objs.size) { s with heap:=s.heap.push { cls:=.type "tuple",data:=.seq its.toArray } }:=by
 refine⟨.ref s.heap.objs.size,_,I.laid (t':=s.toks) (o:=.tup vs) (λb ob q=>Aj _ q) (Ax _) ⟨by rw[← t.length,← xD];exact hz,its,rv,Tx _ _⟩,rfl,pA r (I.hok.fresh (Ax _)) t ok⟩
def VC {H P:Hp}{α:Ab Ad}{S:Sto}(I:Inv X pins σ H s)(r:Rel X.K H P α S)(t:qG X.K P α xs vs)(rv:qP vs its)(hz:xs.length≤lim)
  (ok:OkV X P α Q (.lst xs) S):EP X pins σ Q (.ref s.heap.objs.size) { s with heap:=s.heap.push { cls:=.type "list",data:=.seq its.toArray } }:=by
 refine⟨.ref s.heap.objs.size,_,I.laid (t':=s.toks) (o:=.lst vs) (λb ob q=>Aj _ q) (Ax _) ⟨by rw[← t.length,← xD];exact hz,its,0,rv,Bi _ rfl⟩,rfl,vA r (I.hok.fresh (Ax _)) t ok⟩
def FU {H P:Hp}{α:Ab Ad}{S:Sto}{ys:Ab D}{u:V}{vv uu:Ac}(I:Inv X pins σ H s)(r:Rel X.K H P α S)(rv:qO v vv)(ru:qO u uu)(pa:Rep X.K P α (.tup xs) v)(pb:Rep X.K P α (.tup ys) u)(hl:xs.length+ys.length≤lim)(af:OkV X P α Q (.tup (xs++ys)) S) :
  Ao (As X.prog X.w) X.A (Ex .Add vv uu) (EP X pins σ Q) X.xe s:=by
 obtain⟨a,vs,its,rfl,q1,t1,rv1,h1,l1,_⟩:=jV I r pa;obtain⟨b,ws,its2,rfl,q2,t2,rv2,h2,l2,_⟩:=jV I r pb;cases rv;cases ru;by_cases hx:its=[]
 ·obtain⟨⟨cls,dd,data,sl⟩,ho,hc,n,hd⟩:=id h1
  obtain⟨⟨cls2,dd2,data2,sl2⟩,ho2,hc2,n2,hd2⟩:=id h2;simp only at hc hd hc2 hd2;subst hc hd hc2 hd2;have hxs:xs=[]:=Hj.mp (by rw[l1,hx];rfl)
  subst hxs;exact Tj ⟨_,ho,rfl⟩ ⟨_,ho2,rfl⟩ OP Ry Lf Kn (Kh _ _) (tuple_addW0 a b its.toArray its2.toArray n n2 dd dd2 sl sl2 (by simp[hx]))
   ⟨ho,ho2,⟨.ref b,H,I,rfl,xr af r pb⟩⟩
 ·refine _H.cat_tup h1 h2 hx (λz=>⟨.ref a,H,I,rfl,xr af r ?_⟩) (λz=>?_) (by rw[← l1,← l2,← xD];exact hl)
  ·have hys:ys=[]:=Hj.mp (by rw[l2,z];rfl)
   rw[hys,Fm];exact pa
  ·exact VD I r (t1.append t2) (rv1.append rv2) (by rw[Df];exact hl) af
def FT {H P:Hp}{α:Ab Ad}{S:Sto}{ys:Ab D}{u:V}{vv uu:Ac}(I:Inv X pins σ H s)(r:Rel X.K H P α S)(rv:qO v vv)(ru:qO u uu)(pa:Rep X.K P α (.lst xs) v)(pb:Rep X.K P α (.lst ys) u)(hl:xs.length+ys.length≤lim)(af:OkV X P α Q (.lst (xs++ys)) S) :
  Ao (As X.prog X.w) X.A (Ex .Add vv uu) (EP X pins σ Q) X.xe s:=by
 obtain⟨a,vs,its,n,rfl,q1,t1,rv1,h1,l1,_⟩:=jM I r pa;obtain⟨b,ws,its2,n2,rfl,q2,t2,rv2,h2,l2,_⟩:=jM I r pb;cases rv;cases ru;refine PySem.P.add_list h1 h2 ?_ (by rw[Bj,Bj,← l1,← l2,← xD];exact hl)
 rw[List.append_toArray];exact VC I r (t1.append t2) (rv1.append rv2) (by rw[Df];exact hl) af
inductive AddV (a b:D)(S:Sto):Prop
 |bad (e:qW a b S=.bad)
 |int (i j:Ai) (ea:a=.int i) (eb:b=.int j)
 |str (x y:Ar) (ea:a=.str x) (eb:b=.str y)
 |tup (x y:Ab D) (ea:a=.tup x) (eb:b=.tup y)
 |lst (x y:Ab D) (ea:a=.lst x) (eb:b=.lst y)
def HX (a b:D)(S:Sto):AddV a b S:=by
 cases a with
 |int i=>cases b with
  |int j=>exact .int i j rfl rfl
  |_=>exact .bad rfl
 |str i=>cases b with
  |str j=>exact .str i j rfl rfl
  |_=>exact .bad rfl
 |tup i=>cases b with
  |tup j=>exact .tup i j rfl rfl
  |_=>exact .bad rfl
 |lst i=>cases b with
  |lst j=>exact .lst i j rfl rfl
  |_=>exact .bad rfl
 |_=>exact .bad rfl
def NP:OpD X (Ex .Add) qW:=by
 intro pins σ H s P α S v u vv uu a b Q I r rv ru pa pb af;cases HX a b S with
 |bad e=>rw[e] at af;exact An af
 |int i j ea eb =>
  subst ea eb;exact L0 pins s σ H v u vv uu Q I rv ru ⟨i,j,xE pa,xE pb,xr af r (by simp only[Rep])⟩
 |str x y ea eb =>
  subst ea eb;obtain⟨hl,af⟩:=wX (X:=X) af;simp only[Rep] at pa pb;exact Q1 pins s σ H v u vv uu Q I rv ru ⟨x,y,pa,pb,by rw[← xD];exact hl,xr af r (by simp only[Rep])⟩
 |tup xs ys ea eb =>
  subst ea eb;obtain⟨hl,af⟩:=wX (X:=X) af;exact FU I r rv ru pa pb hl af
 |lst xs ys ea eb =>
  subst ea eb;obtain⟨hl,af⟩:=wX (X:=X) af;exact FT I r rv ru pa pb hl af
def gIx:G2:=λa b S=>match b with
 |.int k=>match a with
  |.tup xs=>vT (atI xs k) S
  |.lst xs=>vT (atI xs k) S
  |.loc i=>match S[i]? with
   |some (.lst xs)=>vT (atI xs k) S
   |_=>.bad
  |_=>.bad
 |_=>.bad
def tW {P:Hp}{α:Ab Ad}{k:Ai}(rp:qG X.K P α ds vs)(h:atI ds k=Aa d):∃ v,atI vs k=Aa v∧Rep X.K P α d v:=by
 unfold atI at h ⊢;rw[← rp.length];cases q:ixN ds.length k with
 |none=>rw[q] at h;cases h
 |some j =>
  rw[q] at h;obtain⟨v,h1,h2⟩:=rp.get (show ds[j]? = Aa d from h)
  exact⟨v,h1,h2⟩
def CT:IxD X gIx:=by
 intro value slice pins σ H s P α S v u vv uu a b Q I r rv ru pa pb af hs;cases b with
 |int k =>
  have hk:=xE pb;cases a with
  |tup xs =>
   obtain⟨d,e,ok⟩:=j7 (X:=X) af;simp only[Rep] at pa;obtain⟨p,vs,rfl,q,t⟩:=pa;obtain⟨w,e1,rw'⟩:=tW t e;exact N0 value slice pins s σ H _ u vv uu Q I rv ru ⟨p,vs,k,w,rfl,hk,wH r.sub q,e1,xr ok r rw'⟩ hs
  |lst xs =>
   obtain⟨d,e,ok⟩:=j7 (X:=X) af;simp only[Rep] at pa;obtain⟨p,vs,rfl,q,t⟩:=pa;obtain⟨w,e1,rw'⟩:=tW t e;exact aY value slice pins s σ H _ u vv uu Q I rv ru ⟨p,vs,k,w,rfl,hk,(wA r.sub q).l,e1,xr ok r rw'⟩ hs
  |loc i =>
   obtain⟨xs,hS,af⟩:=jO (X:=X) (f:=λxs=>vT (atI xs k) S) af;obtain⟨d,e,ok⟩:=j7 (X:=X) af;simp only[Rep] at pa;obtain⟨p,rfl,q⟩:=pa;obtain⟨vs,z,t⟩:=r.at' i p _ q hS;obtain⟨w,e1,rw'⟩:=tW t e;exact aY value slice pins s σ H _ u vv uu Q I rv ru ⟨p,vs,k,w,rfl,hk,.of z,e1,xr ok r rw'⟩ hs
  |_=>exact An af
 |_=>exact An af
def fW:G3:=λo i d S=>match o,i with
 |.loc n,.int k=>match S[n]? with
  |some (.lst xs)=>match ixN xs.length k with
   |some j=>.ok () (S.set n (.lst (xs.set j d)))
   |none=>.bad
  |_=>.bad
 |_,_=>.bad
def EV:sQ X (sM X fW):=by
 intro pins s σ H o i v ov iv u Q I ro ri rv h;obtain⟨P,α,S,a,b,d,r,pa,pb,pd,af⟩:=h;cases a with
 |loc n =>
  cases b with
  |int k =>
   obtain⟨xs,hS,af⟩:=jO (X:=X) (f:=λxs=>match ixN xs.length k with|some j=>.ok () (S.set n (.lst (xs.set j d)))|none=>.bad) af
   cases hj:ixN xs.length k with
   |none=>rw[hj] at af;exact An af
   |some j =>
    rw[hj] at af;simp only[Rep] at pa;obtain⟨p,rfl,q⟩:=pa;obtain⟨vs,z,t⟩:=r.at' n p _ q hS;refine UJ pins s σ H _ i v ov iv u Q I ro ri rv ⟨p,vs,k,j,rfl,xE pb,z,by rw[← t.length];exact hj,?_⟩
    refine af _ P α (r.put (m':=.lst (xs.set j d)) q hS (by intro z;cases z) ⟨vs.set j v,zB,t.set pd j⟩) (qI.refl _) (Bo _)
  |_=>exact An af
 |_=>exact An af
def eB:D→Sto→Al Ah
 |.tup xs,_=>Aa xs.length
 |.lst xs,_=>Aa xs.length
 |.str x,_=>if x.length≤lim then Aa x.length else none
 |.dct0,_=>Aa 0
 |.loc i,S=>match S[i]? with
  |some (.lst xs)=>Aa xs.length
  |_=>none
 |_,_=>none
def rO:DF:=λds S=>match ds with
 |[d]=>match eB d S with
  |some n=>.ok (.int n) S
  |none=>.bad
 |_=>.bad
end
section
variable {X:Cx}
def vS {P:Hp}{α:Ab Ad}(rp:qG X.K P α [d] vs)(rv:qP vs us):∃ v u,vs=[v]∧us=[u]∧Rep X.K P α d v∧qO v u:=by
 obtain⟨v,ws,rfl,p,t⟩:=rp.cons_inv;have:=t.nil_inv;subst this;obtain⟨u,rfl,q⟩:=pG rv;exact⟨v,u,rfl,rfl,p,q⟩
def kE {P:Hp}{α:Ab Ad}{e:D}(rp:qG X.K P α [d,e] vs)(rv:qP vs us):∃ v w u x,vs=[v,w]∧us=[u,x]∧Rep X.K P α d v∧Rep X.K P α e w∧qO v u∧qO w x:=by
 obtain⟨v,ws,rfl,p,t⟩:=rp.cons_inv;obtain⟨w,ws,rfl,p',t⟩:=t.cons_inv;have:=t.nil_inv;subst this;obtain⟨u,x,rfl,q,q'⟩:=sN rv;exact⟨v,w,u,x,rfl,rfl,p,p',q,q'⟩
def oU (d:D)(S:Sto):Al Ah:=match d with
 |.dct0=>none
 |_=>eB d S
def ND {H P:Hp}{α:Ab Ad}{S:Sto}{n:Ah}(r:Rel X.K H P α S)(p:Rep X.K P α d v)(hn:oU d S=Aa n):FP X.K v H n:=by
 cases d with
 |str x =>
  cases (show v=.str x from p)
  obtain⟨hl,rfl⟩:=gU hn;exact⟨by rw[← xD];exact hl,rfl⟩
 |tup xs =>
  simp only[Rep] at p;obtain⟨a,ws,rfl,sq,t⟩:=p;cases hn;exact .inr ⟨ws,wH r.sub sq,t.length⟩
 |lst xs =>
  simp only[Rep] at p;obtain⟨a,ws,rfl,sq,t⟩:=p;cases hn;exact .inl ⟨ws,(wA r.sub sq).l,t.length⟩
 |loc i =>
  simp only[Rep] at p;obtain⟨a,rfl,e⟩:=p;obtain⟨xs,hS,hn⟩:=NF (f:=λxs=>Aa xs.length) hn;cases hn;obtain⟨ws,z,t⟩:=r.at' i a _ e hS;exact .inl ⟨ws,.of z,t.length⟩
 |_=>exact nn hn
inductive LenD1 (ds:Ab D)(S:Sto)(r:Res D):Prop
 |bad (e:r=.bad)
 |of (d:D) (n:Ah) (ed:ds=[d]) (hn:oU d S=Aa n) (e:r=.ok (.int n) S)
def RT (ds:Ab D)(S:Sto):LenD1 ds S (match ds with|[.dct0]=>.bad|_=>rO ds S):=by
 cases ds with
 |nil=>exact .bad rfl
 |cons d ds =>
  cases ds with
  |cons _ _=>cases d <;> exact .bad rfl
  |nil =>
   have z:(match [d] with|[D.dct0]=>Res.bad|_=>rO [d] S)=(match oU d S with|some n=>Res.ok (D.int n) S|none=>.bad):=by cases d <;> rfl
   rw[z];cases hn:oU d S with
   |none=>exact .bad rfl
   |some n=>exact .of d n rfl hn rfl
def M0 (hD:Op):wN X (.builtin "len") (λds S=>match ds with|[.dct0]=>.bad|_=>rO ds S):=by
 intro pins σ H s P α S vs us ds Q I r rv rp af;have af1:qM X P α (match ds with|[D.dct0]=>Res.bad|_=>rO ds S) (OkV X P α Q):=af
 clear af;cases RT ds S with
 |bad e=>rw[e] at af1;exact An af1
 |of d n ed hn e =>
  rw[e] at af1;subst ed;obtain⟨v,u,rfl,rfl,p,q⟩:=vS rp rv;exact Y4 pins s σ H _ _ Q I rv ⟨v,n,rfl,ND r p hn,xr af1 r (by simp only[Rep])⟩
def tyD:D→Sto→Al Do
 |.non,_=>Aa "NoneType"
 |.bl _,_=>Aa "bool"
 |.int _,_=>Aa "int"
 |.str _,_=>Aa "str"
 |.tup _,_=>Aa "tuple"
 |.lst _,_=>Aa "list"
 |.dct0,_=>Aa "dict"
 |.loc i,S=>match S[i]? with
  |some (.lst _)=>Aa "list"
  |some (.dct _)=>Aa "dict"
  |_=>none
 |_,_=>none
def zO (a b:Do):Ap:=a == b||(a == "bool" && b == "int")
def wM (b:Do):Ap:=b == "int" || b == "bool" || b == "tuple" || b == "list" || b == "str" || b == "dict"
def N7 (a b:Do):Al Ap:=if (Ha a == Ha b)=true then Aa true else if PySem.W.kitMeta b=true then (fastBuiltinMro a).map (·.contains (.type b)) else none
def tyL:Ab Do:=["NoneType","bool","int","str","tuple","list","dict"]
def okL:Ab Do:=["int","bool","tuple","list","str","dict"]
def GZ:(tyL.all λa=>okL.all λb=>decide (N7 a b=Aa (zO a b)))=true:=by decide +kernel
def NW {b:Do}(hb:wM b=true):b∈okL:=by simpa [wM,okL,or_assoc] using hb
def nO {K:Ak}{a b:Do}(ha:a∈tyL)(hb:wM b=true):Jd K (.type a) (.type b)=Aa (zO a b):=
 Cq (p:=N7 a b=Aa (zO a b)) (Cu.mp (Cu.mp GZ a ha) b (NW hb))
def xC:DF:=λds S=>match ds with
 |[d,.ty b]=>if wM b then match tyD d S with
   |some a=>.ok (.bl (zO a b)) S
   |none=>.bad
  else .bad
 |_=>.bad
inductive TyV (X:Cx)(H:Hp)(v:V)(a:Do):Prop
 |of (t:TyOf X.K H v (.type a))
 |tup (p:Ad) (vs:Ab V) (e:v=.ref p) (q:SqT X.K H p vs) (ea:a = "tuple")
 |lst (p:Ad) (vs:Ab V) (e:v=.ref p) (q:SqL X.K H p vs) (ea:a = "list")
def cF {S:Sto}{a:Do}(h:tyD d S=Aa a):a∈tyL:=by
 cases d with
 |non=>cases h;exact .head _
 |bl b=>cases h;exact .tail _ (.head _)
 |int i=>cases h;exact .tail _ (.tail _ (.head _))
 |str x=>cases h;exact .tail _ (.tail _ (.tail _ (.head _)))
 |tup xs=>cases h;exact .tail _ (.tail _ (.tail _ (.tail _ (.head _))))
 |lst xs=>cases h;exact .tail _ (.tail _ (.tail _ (.tail _ (.tail _ (.head _)))))
 |dct0=>cases h;exact .tail _ (.tail _ (.tail _ (.tail _ (.tail _ (.tail _ (.head _))))))
 |loc i =>
  rcases nV (f:=λ_=>Aa "list") (g:=λ_=>Aa "dict") h with⟨_,_,h⟩|⟨_,_,h⟩
  ·cases h;exact .tail _ (.tail _ (.tail _ (.tail _ (.tail _ (.head _)))))
  ·cases h;exact .tail _ (.tail _ (.tail _ (.tail _ (.tail _ (.tail _ (.head _))))))
 |_=>exact nn h
def JY {H P:Hp}{α:Ab Ad}{S:Sto}{a:Do}(r:Rel X.K H P α S)(p:Rep X.K P α d v)(h:tyD d S=Aa a):TyV X H v a:=by
 cases d with
 |non=>cases h;cases (show v=.non from p);exact .of .non
 |bl b=>cases h;cases (show v=.bl b from p);exact .of (.bl b)
 |int i=>cases h;cases (show v=.int i from p);exact .of (.int i)
 |str x=>cases h;cases (show v=.str x from p);exact .of (.str x)
 |tup xs =>
  cases h;simp only[Rep] at p;obtain⟨a,vs,e,q,t⟩:=p;exact .tup a vs e (wH r.sub q) rfl
 |lst xs =>
  cases h;simp only[Rep] at p;obtain⟨a,vs,e,q,t⟩:=p;exact .lst a vs e (wA r.sub q).l rfl
 |dct0 =>
  cases h;simp only[Rep] at p;obtain⟨a,rfl,q⟩:=p;exact .of (.dK (r.sub _ _ q))
 |loc i =>
  simp only[Rep] at p;obtain⟨a,rfl,q⟩:=p;rcases nV (f:=λ_=>Aa "list") (g:=λ_=>Aa "dict") h with⟨xs,hS,h⟩|⟨kvs,hS,h⟩
  ·cases h
   obtain⟨vs,z,t⟩:=r.at' i a _ q hS;exact .of (.lst z)
  ·cases h
   obtain⟨vs,z,t⟩:=r.at' i a _ q hS;exact .of (.dK z)
 |_=>exact nn h
inductive IsiV (ds:Ab D)(S:Sto):Prop
 |bad (e:xC ds S=.bad)
 |of (d:D) (b a:Do) (ed:ds=[d,.ty b]) (hb:wM b=true) (ha:tyD d S=Aa a) (e:xC ds S=.ok (.bl (zO a b)) S)
def CS (ds:Ab D)(S:Sto):IsiV ds S:=by
 cases ds with
 |nil=>exact .bad rfl
 |cons d ds =>
  cases ds with
  |nil=>exact .bad rfl
  |cons e ds =>
   cases ds with
   |cons _ _=>cases e <;> exact .bad rfl
   |nil =>
    cases e with
    |ty b =>
     have z:xC [d,.ty b] S=if wM b then (match tyD d S with|some a=>.ok (.bl (zO a b)) S|none=>.bad) else .bad:=rfl
     by_cases hb:wM b=true
     ·rw[Bg hb] at z
      cases ha:tyD d S with
      |none=>rw[ha] at z;exact .bad z
      |some a=>rw[ha] at z;exact .of d b a rfl hb ha z
     ·rw[Bc hb] at z
      exact .bad z
    |_=>exact .bad rfl
def Z5:wN X (.builtin "isinstance") xC:=by
 intro pins σ H s P α S vs us ds Q I r rv rp af;cases CS ds S with
 |bad e=>rw[e] at af;exact An af
 |of d b a ed hb ha e =>
  subst ed;rw[e] at af;obtain⟨v,w,u,x,rfl,rfl,p,p',q,q'⟩:=kE rp rv;simp only[Rep] at p';subst p';cases (show x=Ha b from q')
  have kit:=nO (K:=X.K) (cF ha) hb;have fin:∀ tk,EP X pins σ Q (.bool (zO a b)) { s with toks:=tk }:=λtk=>⟨.bl _,H,I.tok tk,rfl,xr af r (by simp only[Rep])⟩
  cases JY r p ha with
  |of ht=>exact ZW I q ht kit fin
  |tup p' ws e sq ea =>
   subst e ea;cases (show u=Cf p' from q)
   obtain⟨its,rv',⟨o,h1,h2,_⟩,_⟩:=I.tuple sq;exact Ee Kj I.kIn ⟨o,h1,h2⟩ kit (λz=>nomatch z) fin
  |lst p' ws e sq ea =>
   subst e ea;cases (show u=Cf p' from q)
   obtain⟨its,rv',⟨o,_,h1,h2,_⟩,_⟩:=I.list sq;exact Ee Ic I.kIn ⟨o,h1,h2⟩ kit (λz=>nomatch z) fin
def xQ:Ab D→Al (Ab Ap)
 |[]=>Aa []
 |.bl b::r=>(xQ r).map (b::·)
 |_=>none
def vJ {P:Hp}{α:Ab Ad}:∀ {ds:Ab D} {bs:Ab Ap} {vs:Ab V} {us:Ab Ac},xQ ds=Aa bs→qG X.K P α ds vs→qP vs us→us=bs.map Fn
 |[],bs,vs,us,h,rp,rv=>by
  cases h;have:=rp.nil_inv;subst this;cases rv;rfl
 |d::ds,bs,vs,us,h,rp,rv=>by
  cases d with
  |bl b =>
   obtain⟨bs',q,rfl⟩:=De.mp (show (xQ ds).map (b::·)=Aa bs from h)
   obtain⟨w,ws,rfl,p,t⟩:=rp.cons_inv;simp only[Rep] at p;subst p;cases rv with
   |cons q1 q2 =>
    cases (show _=Fn b from q1)
    rw[vJ q t q2];rfl
  |_=>exact nn h
def fU (any:Ap):DF:=λds S=>match ds with
 |[d]=>match (xK d).bind xQ with
  |some bs=>.ok (.bl (if any then bs.any id else bs.all id)) S
  |none=>.bad
 |_=>.bad
def dI (bs:Ab Ap):((By bs.length).all λi=>bs.getD i false)=bs.all id:=by
 induction bs with
 |nil=>rfl
 |cons b bs ih =>
  rw[Dh,Li,Jt,Kr,Jt,← ih];rfl
def dJ (bs:Ab Ap):((By bs.length).any λi=>bs.getD i false)=bs.any id:=by
 induction bs with
 |nil=>rfl
 |cons b bs ih =>
  rw[Dh,Li,IQ,List.any_map,IQ,← ih];rfl
def d8 {H:Hp}{o:Cg}{h':Bm}{tk:Ah}(I:Inv X pins σ H s)(k:∀ b ob,b ∉ [s.heap.objs.size]→(s.heap.push o).get? b=Aa ob→h'.get? b=Aa ob):Inv X pins σ H { s with heap:=h',toks:=tk }:=
 I.kept λb u e=>k b u (by simp;exact Cc (Au e)) (Aj _ e)
def kF {bs:Ab Ap}(hi:its=bs.map Fn){A:Bt}:TruthOf X.prog X.w A (λi v=>its.toArray[i]? = Aa v) (λi=>bs.getD i false):=λi v s' Q' E' hv hQ=>by
 subst hi;have hv':(bs.map Fn)[i]? = Aa v:=by simpa using hv
 rw[Dl] at hv';cases e:bs[i]? with
 |none=>rw[e] at hv';exact nn hv'
 |some b =>
  rw[e] at hv';cases Co hv';have:bs.getD i false=b:=by simp[IF,e]
  have hQ':Q' (bs.getD i false) s':=hQ;rw[this] at hQ';exact Tz hQ'
def GI {any:Ap}{S:Sto}{P:Hp}{α:Ab Ad}{Ok:D→Sto→Prop}(h:qM X P α (fU any ds S) Ok):∃ d xs bs,ds=[d]∧ItV d xs∧xQ xs=Aa bs∧Ok (.bl (if any then bs.any id else bs.all id)) S:=by
 obtain⟨d,rfl,h1⟩:=eK (X:=X) (β:=D) (g:=λd=>match (xK d).bind xQ with|some bs=>.ok (D.bl (if any then bs.any id else bs.all id)) S|none=>.bad) h
 cases hb:(xK d).bind xQ with
 |none=>rw[hb] at h1;exact An h1
 |some bs =>
  rw[hb] at h1;obtain⟨xs,hx,hbs⟩:=Ec.mp hb;exact⟨d,xs,bs,rfl,itV hx,hbs,h1⟩
def FY (any:Ap)(hc:X.calm=true):wN X (.builtin (if any then "any" else "all")) (fU any):=by
 intro pins σ H s P α S vs us ds Q I r rv rp af;obtain⟨d,xs,bs,ed,hd,hbs,ok⟩:=GI af;clear af;subst ed;obtain⟨v,u,rfl,rfl,p,q⟩:=vS rp rv;clear rp;have fin:∀ {o:Cg} (h':Bm) (tk:Ah),(∀ b ob,b ∉ [s.heap.objs.size]→(s.heap.push o).get? b=Aa ob→h'.get? b=Aa ob)→EP X pins σ Q (.bool (if any then bs.any id else bs.all id)) { s with heap:=h',toks:=tk }:=
  λ{o} h' tk k=>⟨.bl _,H,d8 I k,rfl,xr ok r (by simp only[Rep])⟩
 clear rv ok;have hh:X.A.in1.handled=none:=I.ok.hd hc;cases hd with
 |tup ed =>
  subst ed;obtain⟨a,ws,its,rfl,sq,t,rvi,ht,hl,_⟩:=jV I r p;cases (show u=Cf a from q)
  have hi:=vJ hbs t rvi;have hlen:its.toArray.size=bs.length:=by rw[hi];simp
  have hne:a≠s.heap.objs.size:=by obtain⟨o,e,_⟩:=ht;exact Cc (Au e)
  have W:=Ve (prog:=X.prog) (w:=X.w) hh s.heap.objs.size a hne its.toArray;have hT:∀ o,(s.heap.push o).IsTuple a its.toArray:=λo=>by obtain⟨o,e,c⟩:=ht;exact⟨o,Aj _ e,c⟩
  have ht':s.heap.IsTuple a its.toArray:=ht;cases any with
  |false =>
   refine call_all_walk (Gy ht' ⟨s.heap.objs.size,_,_,_,_,_,_,rfl,W,⟨⟨_,Bi _ rfl,rfl,rfl⟩,hT _⟩,kF hi,λh' tk k=>?_⟩);rw[hlen,dI];exact fin h' tk k
  |true =>
   refine call_any_walk (Gy ht' ⟨s.heap.objs.size,_,_,_,_,_,_,rfl,W,⟨⟨_,Bi _ rfl,rfl,rfl⟩,hT _⟩,kF hi,λh' tk k=>?_⟩);rw[hlen,dJ];exact fin h' tk k
 |lst ed =>
  subst ed;obtain⟨a,ws,its,n,rfl,sq,t,rvi,ht,hl,_⟩:=jM I r p;cases (show u=Cf a from q)
  have hL:s.heap.IsList a its.toArray:=⟨_,ht,rfl,n,rfl⟩;have hi:=vJ hbs t rvi;have hlen:its.toArray.size=bs.length:=by rw[hi];simp
  have hne:a≠s.heap.objs.size:=Cc (Au ht);have W:=Wj (prog:=X.prog) (w:=X.w) hh s.heap.objs.size a hne its.toArray;have hL':∀ o,(s.heap.push o).IsList a its.toArray:=λo=>⟨_,Aj _ ht,rfl,n,rfl⟩;cases any with
  |false =>
   refine call_all_walk (Gj hL ⟨s.heap.objs.size,_,_,_,_,_,_,rfl,W,⟨⟨_,Bi _ rfl,rfl,rfl⟩,hL' _⟩,kF hi,λh' tk k=>?_⟩);rw[hlen,dI];exact fin h' tk k
  |true =>
   refine call_any_walk (Gj hL ⟨s.heap.objs.size,_,_,_,_,_,_,rfl,W,⟨⟨_,Bi _ rfl,rfl,rfl⟩,hL' _⟩,kF hi,λh' tk k=>?_⟩);rw[hlen,dJ];exact fin h' tk k
def rN:DF:=λds S=>match ds with
 |[.int i]=>.ok (.int i) S
 |[.bl b]=>.ok (.int (b01 b)) S
 |_=>.bad
inductive IntV (ds:Ab D)(S:Sto):Prop
 |bad (e:rN ds S=.bad)
 |int (i:Ai) (e:ds=[.int i])
 |bl (b:Ap) (e:ds=[.bl b])
def CO (ds:Ab D)(S:Sto):IntV ds S:=by
 cases ds with
 |nil=>exact .bad rfl
 |cons d ds =>
  cases ds with
  |cons _ _=>cases d <;> exact .bad rfl
  |nil =>
   cases d with
   |int i=>exact .int i rfl
   |bl b=>exact .bl b rfl
   |_=>exact .bad rfl
def FZ:wN X (.type "int") rN:=by
 intro pins σ H s P α S vs us ds Q I r rv rp af;cases CO ds S with
 |bad e=>rw[e] at af;exact An af
 |int i e =>
  subst e;obtain⟨v,u,rfl,rfl,p,q⟩:=vS rp rv;exact lR pins s σ H _ _ Q I rv (.inl ⟨_,by rw[xE p],xr af r (by simp only[Rep])⟩)
 |bl b e =>
  subst e;obtain⟨v,u,rfl,rfl,p,q⟩:=vS rp rv;simp only[Rep] at p;subst p;exact lR pins s σ H _ _ Q I rv (.inr ⟨_,rfl,xr af r (by simp only[Rep];rfl)⟩)
def jF:DF:=λds S=>match ds with
 |[d]=>match xK d with
  |some xs=>.ok (.tup xs) S
  |none=>.bad
 |_=>.bad
def Y7:wN X (.type "tuple") jF:=by
 intro pins σ H s P α S vs us ds Q I r rv rp af;obtain⟨d,rfl,af1⟩:=eK (X:=X) (β:=D) (g:=λd=>match xK d with|some xs=>.ok (D.tup xs) S|none=>.bad) af
 obtain⟨xs,hx,af2⟩:∃ xs,xK d=Aa xs∧OkV X P α Q (.tup xs) S:=by
  cases hx:xK d with
  |none=>rw[hx] at af1;exact An af1
  |some xs=>rw[hx] at af1;exact⟨xs,rfl,af1⟩
 obtain⟨v,u,rfl,rfl,p,q⟩:=vS rp rv;cases itV hx with
 |tup e =>
  subst e;have p0:=p;simp only[Rep] at p;obtain⟨a,ws,rfl,sq,t⟩:=p;exact pL pins s σ H _ _ Q I rv ⟨a,ws,rfl,.inr ⟨wH r.sub sq,xr af2 r p0⟩⟩
 |lst e =>
  subst e;simp only[Rep] at p;obtain⟨a,ws,rfl,sq,t⟩:=p;exact pL pins s σ H _ _ Q I rv ⟨a,ws,rfl,.inl ⟨(wA r.sub sq).l,λl hl=>pA r hl t af2⟩⟩
end
section
variable {X:Cx}
structure ClsK (K:Ak)(cl:Ab Ad):Prop where
 ex:∀ C∈cl,ExnK K C
 one:∀ C∈cl,∀ B∈cl,Jd K (.ref C) (.ref B)=Aa (C == B)
 ve:∀ C∈cl,Jd K (.ref C) (.type "ValueError")=Aa true
def zX (cl:Ab Ad):DF:=λds S=>match ds with
 |[.exn (.ref C),.obj B]=>if cl.contains C&&cl.contains B then .ok (.bl (C == B)) S else .bad
 |[.exn (.ref C),.ty b]=>if cl.contains C&&(b == "ValueError") then .ok (.bl true) S else .bad
 |_=>xC ds S
def ZM {H P:Hp}{α:Ab Ad}{S:Sto}{C:Ad}{u:Ac}(I:Inv X pins σ H s)(r:Rel X.K H P α S)(p:Rep X.K P α (.exn (.ref C)) v)(q:qO v u):∃ a,u=.ref a∧uH a C s.heap:=by
 simp only[Rep] at p;obtain⟨a,rfl,z⟩:=p;obtain⟨y,_⟩:=I.hok a _ (r.sub _ _ z);exact⟨a,q,y⟩
inductive IsiE (cl:Ab Ad)(ds:Ab D)(S:Sto):Prop
 |bad (e:zX cl ds S=.bad)
 |old (e:zX cl ds S=xC ds S)
 |obj (C B:Ad) (ed:ds=[.exn (.ref C),.obj B]) (h1:C∈cl) (h2:B∈cl) (e:zX cl ds S=.ok (.bl (C == B)) S)
 |ve (C:Ad) (ed:ds=[.exn (.ref C),.ty "ValueError"]) (h1:C∈cl) (e:zX cl ds S=.ok (.bl true) S)
def RS (cl:Ab Ad)(C:Ad)(d:D)(S:Sto):IsiE cl [.exn (.ref C),d] S:=by
 cases d with
 |obj B =>
  have z:zX cl [.exn (.ref C),.obj B] S=if (cl.contains C&&cl.contains B)=true then .ok (.bl (C == B)) S else .bad:=rfl
  by_cases h:(cl.contains C&&cl.contains B)=true
  ·rw[Bg h] at z
   have h':=Ez.mp h;exact .obj C B rfl (Eu.mp h'.1) (Eu.mp h'.2) z
  ·rw[Bc h] at z
   exact .bad z
 |ty b =>
  have z:zX cl [.exn (.ref C),.ty b] S=if (cl.contains C&&(b == "ValueError"))=true then .ok (.bl true) S else .bad:=rfl
  by_cases h:(cl.contains C&&(b == "ValueError"))=true
  ·rw[Bg h] at z
   have h':=Ez.mp h;cases (Lh.mp h'.2);exact .ve C rfl (Eu.mp h'.1) z
  ·rw[Bc h] at z
   exact .bad z
 |_=>exact .old rfl
def CQ (cl:Ab Ad)(ds:Ab D)(S:Sto):IsiE cl ds S:=by
 cases ds with
 |nil=>exact .old rfl
 |cons a ds =>
  cases a with
  |exn c =>
   cases c with
   |ref C =>
    cases ds with
    |nil=>exact .old rfl
    |cons b ds =>
     cases ds with
     |nil=>exact RS cl C b S
     |cons _ _=>cases b <;> exact .old rfl
   |_=>exact .old rfl
  |_=>exact .old rfl
def K7 {cl:Ab Ad}(hK:ClsK X.K cl):wN X (.builtin "isinstance") (zX cl):=by
 intro pins σ H s P α S vs us ds Q I r rv rp af;cases CQ cl ds S with
 |bad e=>rw[e] at af;exact An af
 |old e=>rw[e] at af;exact Z5 pins σ H s P α S vs us ds Q I r rv rp af
 |obj C B ed h1 h2 e =>
  rw[e] at af;subst ed;obtain⟨v,w,u,x,rfl,rfl,p,p',q,q'⟩:=kE rp rv;simp only[Rep] at p';obtain⟨rfl,_⟩:=p';cases (show x=Cf B from q')
  obtain⟨a,rfl,ha⟩:=ZM I r p q;exact Ee (rZ (hK.ex C h1)) I.kIn ha (hK.one C h1 B h2) (λz=>nomatch z) λtk=>⟨.bl _,H,I.tok tk,rfl,xr af r (by simp only[Rep])⟩
 |ve C ed h1 e =>
  rw[e] at af;subst ed;obtain⟨v,w,u,x,rfl,rfl,p,p',q,q'⟩:=kE rp rv;simp only[Rep] at p';subst p';cases (show x=Ha "ValueError" from q')
  obtain⟨a,rfl,ha⟩:=ZM I r p q;exact Ee (rZ (hK.ex C h1)) I.kIn ha (hK.ve C h1) (λz=>nomatch z) λtk=>⟨.bl _,H,I.tok tk,rfl,xr af r (by simp only[Rep])⟩
def MtD (X:Cx)(id:Do)(g:D→Ab D→Sto→Res D):Prop:=
 ∀ (pins:Ab (Ad × Cg)) (σ : _L.St) (H:Hp) (s:Ag) (P:Hp) (α : Ab Ad) (S:Sto) (v:V) (vv:Ac) (vs:Ab V) (us:Ab Ac) (a:D) (ds:Ab D) (Q:VK),Inv X pins σ H s→Rel X.K H P α S→qO v vv→Rep X.K P α a v→qP vs us→qG X.K P α ds vs→z9 X P α (g a ds S) Q →
  Ao (As X.prog X.w) X.A (call (.builtin id) (vv::us)) (EP X pins σ Q) X.xe s
def dBm (T:Do)(g:D→Ab D→Sto→Res D)(fo:DE)(fa:DA):DE:=λenv S=>(fo env S).bind λa S1=>if (tyD a S1 == Aa T)=true then (fa env S1).bind λds S2=>g a ds S2 else .bad
def SO {H P:Hp}{α:Ab Ad}{S:Sto}{a:D}{T:Do}(r:Rel X.K H P α S)(p:Rep X.K P α a v)(h:tyD a S=Aa T)(hT:T = "list" ∨ T = "dict" ∨ T = "int" ∨ T = "str"):tyV X.K T v H:=by
 cases a with
 |int i=>cases h;simp only[Rep] at p;subst p;rfl
 |str x=>cases h;simp only[Rep] at p;subst p;rfl
 |lst xs =>
  cases h;simp only[Rep] at p;obtain⟨b,vs,rfl,q,t⟩:=p;exact .inl ⟨rfl,vs,(wA r.sub q).l⟩
 |dct0 =>
  cases h;simp only[Rep] at p;obtain⟨b,rfl,q⟩:=p;exact .inr (.inr (.inl ⟨rfl,.inl ⟨[],r.sub _ _ q⟩⟩))
 |loc i =>
  simp only[Rep] at p;obtain⟨b,rfl,q⟩:=p;rcases nV (f:=λ_=>Aa "list") (g:=λ_=>Aa "dict") h with⟨xs,hS,h⟩|⟨kvs,hS,h⟩
  ·cases h
   obtain⟨vs,z,t⟩:=r.at' i b _ q hS;exact .inl ⟨rfl,vs,SqL.of z⟩
  ·cases h
   obtain⟨vs,z,t⟩:=r.at' i b _ q hS;exact .inr (.inr (.inl ⟨rfl,.inl ⟨vs,z⟩⟩))
 |non=>cases h;exact absurd hT (by decide)
 |bl b=>cases h;exact absurd hT (by decide)
 |tup xs=>cases h;exact absurd hT (by decide)
 |_=>exact nn h
variable {o e:Bv}{es:Ab Bv}{fo:DE}{fa:DA}{name:Ar}{apos cpos:EQ}{T id:Do}{g:D→Ab D→Sto→Res D}
def M9 {P:Hp}{α:Ab Ad}{a:D}{S:Sto}{β:Type}{k:Res β}{Ok:β→Sto→Prop}(h:qM X P α (if (tyD a S == Aa T)=true then k else .bad) Ok):tyD a S=Aa T∧qM X P α k Ok:=by
 by_cases z:(tyD a S == Aa T)=true
 ·rw[Bg z] at h;exact⟨Lh.mp z,h⟩
 ·rw[Bc z] at h;exact An h
def R7 (pa:PlainAttrs T)(slot:Slot T name id)(hty:typeOf (.builtin id)=pure (.type "method_descriptor"))(hT:T = "list" ∨ T = "dict" ∨ T = "int" ∨ T = "str")(hm:MtD X id g)(ho:PE X o (tD X fo))(ha:PA X (e::es) (tDA X fa))
  (hbase:attributeBase o name X.env (eval o X.env)=eval o X.env:=by rfl)
  (hfew:((Gb cpos (Br (e::es) X.env)).all (λx=>!x.1)&&(backToKw cpos (keywordEach [] X.env)).all (λx=>x.1.isSome)
   && decide ((e::es).length+([]:Ab Xd).length+(if ([] : Ab Xd).isEmpty then 0 else 1)<30))=true:=by rfl)
  (hline:(apos.endLine == cpos.line)=true:=by rfl) (hs:Br (e::es) X.env=(false,eval e X.env)::Br es X.env:=by rfl) (hplain:(Gb cpos (Br es X.env)).any (·.1)=false:=by rfl) :
  PE X (.Call (.Attribute o name apos) (e::es) [] cpos) (tD X (dBm T g fo fa)):=by
 intro pins s σ H Q I h;obtain⟨P,α,env,S,r,re,af⟩:=h;refine wpAny_Call_method_late hbase hfew hline rfl (thn (x5 ho I r re af) λvv s1 ⟨v,H1,P1,α1,d,S1,G1,af1⟩=>?_);obtain⟨ht,af2⟩:=M9 af1;obtain⟨h1,h2⟩:=SN G1.inv G1.val (SO G1.rel G1.rep ht hT);refine⟨T,id,pa,slot,hty,h1,h2,?_⟩;have hA:=yW ha G1.inv G1.rel G1.env (P:=P1) (α:=α1) (Ok:=OkV X P1 α1 Q) (z9.base G1.same G1.pre (r:=(fa env S1).bind λds S2=>g d ds S2) af2) cpos;rw[hs] at hA ⊢;refine Calls.callWith_builtin (by show (false||(Gb cpos (Br es X.env)).any (·.1))=false;rw[hplain] <;> rfl) (Rk ?_)
 exact thn hA λus s2 ⟨vs,H2,P2,α2,ds,S2,I2,rv,r2,re2,rp2,e1,e2,af3⟩=>hm pins σ H2 s2 P2 α2 S2 v vv vs us d ds Q I2 r2 G1.val (Rep.mono e1 e2 _ _ G1.rep) rv rp2 (z9.base e1 e2 af3)
def y7:D→Ab D→Sto→Res D:=λa ds S=>match a,ds with
 |.loc i,[d]=>match S[i]? with
  |some (.lst xs)=>if xs.length<lim then .ok .non (S.set i (.lst (xs++[d]))) else .bad
  |_=>.bad
 |_,_=>.bad
inductive ApV (a:D)(ds:Ab D)(S:Sto):Prop
 |bad (e:y7 a ds S=.bad)
 |of (i:Ah) (d:D) (xs:Ab D) (ea:a=.loc i) (ed:ds=[d]) (hS:S[i]? = Aa (.lst xs)) (hl:xs.length<lim) (e:y7 a ds S=.ok .non (S.set i (.lst (xs++[d]))))
def apV (a:D)(ds:Ab D)(S:Sto):ApV a ds S:=by
 cases a with
 |loc i =>
  cases ds with
  |nil=>exact .bad rfl
  |cons d ds =>
   cases ds with
   |cons _ _=>exact .bad rfl
   |nil =>
    have z:y7 (.loc i) [d] S=(match S[i]? with|some (.lst xs)=>(if xs.length<lim then .ok .non (S.set i (.lst (xs++[d]))) else .bad)|_=>.bad):=rfl
    cases hS:S[i]? with
    |none=>rw[hS] at z;exact .bad z
    |some m =>
     rw[hS] at z;cases m with
     |lst xs =>
      by_cases hl:xs.length<lim
      ·exact .of i d xs rfl rfl hS hl (z.trans (Bg hl))
      ·exact .bad (z.trans (Bc hl))
     |_=>exact .bad z
 |_=>exact .bad rfl
def X6:MtD X "list.append" y7:=by
 intro pins σ H s P α S v vv vs us a ds Q I r rv p rvs rps af;cases apV a ds S with
 |bad e=>rw[e] at af;exact An af
 |of i d xs ea ed hS hl e =>
  rw[e] at af;subst ea ed;obtain⟨w,u,rfl,rfl,p',q'⟩:=vS rps rvs;simp only[Rep] at p;obtain⟨b,rfl,q⟩:=p;obtain⟨ws,z,t⟩:=r.at' i b _ q hS;refine X8 pins s σ H (.ref b) [w] vv [u] Q I rv (.cons q' .nil) ⟨b,ws,w,rfl,rfl,z,by rw[← t.length,← xD];exact hl,?_⟩
  exact xr af (r.put (m':=.lst (xs++[d])) q hS (by intro z;cases z) ⟨ws++[w],zB,t.append (.cons p' .nil)⟩) (by simp only[Rep])
end
def gW:D→Al Key
 |.int i=>Aa (.inl i)
 |.str x=>Aa (.inr x)
 |_=>none
def yT (kvs:Ab (Key × D))(k:Key):Al D:=(kvs.find? λkv=>decide (kv.1=k)).map (·.2)
def kK (kvs:Ab (Key × D))(k:Key)(v:D):Ab (Key × D):=
 if (kvs.any λkv=>decide (kv.1=k))=true then kvs.map (λkv=>if kv.1=k then (kv.1,v) else kv) else kvs++[(k,v)]
section
variable {K:Ak}{P:Hp}{α : Ab Ad}
def P9 {vs:Ab (Key × V)}(r:KVs K P α kvs vs):kvs.length=vs.length:=Paired.length r
def nP {k:Key}:∀ {kvs:Ab (Key × D)} {vs:Ab (Key × V)},KVs K P α kvs vs→(∀ d,yT kvs k=Aa d→∃ v,yU vs k=Aa v∧Rep K P α d v)∧(yT kvs k=none→yU vs k=none)
 |_,_,.nil=>⟨λd h=>by simp[yT] at h,λ_=>rfl⟩
 |(k1,d1)::kvs,(k2,v2)::vs,.cons z t=>by
  obtain⟨e,r⟩:=z;dsimp only at e r;subst e;obtain⟨h1,h2⟩:=nP (k:=k) t;unfold yT yU at *;by_cases hk:k1=k
  ·subst hk
   constructor
   ·intro d h
    simp at h;subst h;exact⟨v2,by simp,r⟩
   ·intro h
    simp at h
  ·constructor
   ·intro d h
    rw[Qc (by simpa using hk)] at h ⊢
    exact h1 d h
   ·intro h
    rw[Qc (by simpa using hk)] at h ⊢
    exact h2 h
def P7 {k:Key}{vs:Ab (Key × V)}(h:KVs K P α kvs vs):(kvs.any λkv=>decide (kv.1=k))=(vs.any λkv=>decide (kv.1=k)):=by
 induction h with
 |nil=>rfl
 |cons z t ih=>rw[IQ,IQ,ih,z.1]
def PB {k:Key}(q:Rep K P α d v){kvs:Ab (Key × D)}{vs:Ab (Key × V)}(h:KVs K P α kvs vs):KVs K P α (kvs.map λkv=>if kv.1=k then (kv.1,d) else kv) (vs.map λkv=>if kv.1=k then (kv.1,v) else kv):=by
 induction h with
 |nil=>exact .nil
 |cons z t ih =>
  rw[Dt,Dt];refine .cons ?_ ih;rw[← z.1]
  split
  ·exact⟨rfl,q⟩
  ·exact z
def P8 {k:Key}(q:Rep K P α d v){kvs:Ab (Key × D)}{vs:Ab (Key × V)}(h:KVs K P α kvs vs):KVs K P α (kvs++[(k,d)]) (vs++[(k,v)]):=by
 induction h with
 |nil=>exact .cons ⟨rfl,q⟩ .nil
 |cons z t ih=>exact .cons z ih
def PC {k:Key}(q:Rep K P α d v){kvs:Ab (Key × D)}{vs:Ab (Key × V)}(r:KVs K P α kvs vs):KVs K P α (kK kvs k d) (vR vs k v):=by
 unfold kK vR;rw[P7 r]
 split
 ·exact PB q r
 ·exact P8 q r
def rY {k:Key}(h:gW d=Aa k)(r:Rep K P α d v):v=kV k:=by
 cases d with
 |int i=>cases h;simp only[Rep] at r;exact r
 |str x=>cases h;simp only[Rep] at r;exact r
 |_=>cases h
end
section
variable {X:Cx}{o i e:Bv}{pos:EQ}{fo fi:DE}
def YF:DE:=λ_ S=>.ok (.loc S.length) (S++[.dct []])
def ME:PE X (.Dict [] [] pos) (tD X YF):=by
 refine peW eO λσ H Q ⟨P,α,env,S,r,re,af⟩ p hp=>?_;have hpre:α<+:α++[p]:=Fo _ _;have r1:=r.new (o:=.dK []) (m:=.dct []) hp ⟨[],zB,.nil⟩;refine af _ _ _ _ r1 (qI.refl _) hpre ?_;simp only[Rep];exact⟨p,rfl,by rw[← r.len];simp⟩
def oK:DE:=λ_ S=>.ok .dct0 S
def KP:PE X (.Dict [] [] pos) (tD X oK):=by
 refine peW eO λσ H Q ⟨P,α,env,S,r,re,af⟩ p hp=>?_;obtain⟨r1,e1⟩:=r.pure (o:=.dK []) hp;refine af _ _ _ α r1 e1 (Bo _) ?_;simp only[Rep];exact⟨p,rfl,zB⟩
def v7:G3:=λo i d S=>match o with
 |.loc n=>match S[n]? with
  |some (.dct kvs)=>match gW i with
   |some k=>if kvs.length<lim then .ok () (S.set n (.dct (kK kvs k d))) else .bad
   |none=>.bad
  |_=>fW o i d S
 |_=>fW o i d S
inductive Set2V (a b d:D)(S:Sto):Prop
 |bad (e:v7 a b d S=.bad)
 |old (e:v7 a b d S=fW a b d S)
 |of (n:Ah) (kvs:Ab (Key × D)) (k:Key) (ea:a=.loc n) (hS:S[n]? = Aa (.dct kvs)) (hk:gW b=Aa k) (hl:kvs.length<lim) (e:v7 a b d S=.ok () (S.set n (.dct (kK kvs k d))))
def EU (a b d:D)(S:Sto):Set2V a b d S:=by
 cases a with
 |loc n =>
  have z:v7 (.loc n) b d S=(match S[n]? with|some (.dct kvs)=>(match gW b with|some k=>(if kvs.length<lim then .ok () (S.set n (.dct (kK kvs k d))) else .bad)|none=>.bad)|_=>fW (.loc n) b d S):=rfl
  cases hS:S[n]? with
  |none=>rw[hS] at z;exact .old z
  |some m =>
   rw[hS] at z;cases m with
   |dct kvs =>
    cases hk:gW b with
    |none=>rw[hk] at z;exact .bad z
    |some k =>
     rw[hk] at z;by_cases hl:kvs.length<lim
     ·exact .of n kvs k rfl hS hk hl (z.trans (Bg hl))
     ·exact .bad (z.trans (Bc hl))
   |_=>exact .old z
 |_=>exact .old rfl
def DZ (hu:X.A.units+1<Ey):sQ X (sM X v7):=by
 intro pins s σ H o i v ov iv u Q I ro ri rv h;obtain⟨P,α,S,a,b,d,r,pa,pb,pd,af⟩:=h;cases EU a b d S with
 |bad e=>rw[e] at af;exact An af
 |old e =>
  rw[e] at af;exact EV pins s σ H o i v ov iv u Q I ro ri rv ⟨P,α,S,a,b,d,r,pa,pb,pd,af⟩
 |of n kvs k ea hS hk hl e =>
  rw[e] at af;subst ea;simp only[Rep] at pa;obtain⟨p,rfl,q⟩:=pa;obtain⟨vs,z,t⟩:=r.at' n p _ q hS;cases rY hk pb;cases (show ov=Cf p from ro)
  refine ZE hu I (tS.k (v:=v) z (by rw[← P9 t,← xD];exact hl)) ri rv λs' I'=>⟨_,I',?_⟩
  exact af _ P α (r.put (m':=.dct (kK kvs k d)) q hS (by intro z;cases z) ⟨_,zB,PC pd t⟩) (qI.refl _) (Bo _)
def AZ:D→Ab D→Sto→Res D:=λa ds S=>match a,ds with
 |.loc n,[i,x]=>match S[n]? with
  |some (.dct kvs)=>match gW i with
   |some k=>.ok ((yT kvs k).getD x) S
   |none=>.bad
  |_=>.bad
 |_,_=>.bad
def mQ:D→Ab D→Sto→Res D:=λa ds S=>match a,ds with
 |.lst xs,[.bl k]=>match xQ xs with
  |some bs=>.ok (.int (bs.countP (· == k):Ah)) S
  |none=>.bad
 |_,_=>.bad
def nJ (k:Ap):Ab Ap→Al Ah
 |[]=>none
 |b::r=>if b=k then Aa 0 else (nJ k r).map (· + 1)
def mR:D→Ab D→Sto→Res D:=λa ds S=>match a,ds with
 |.lst xs,[.bl k]=>match (xQ xs).bind (nJ k) with
  |some j=>.ok (.int j) S
  |none=>.bad
 |_,_=>.bad
def rJ (k:Ap){bs:Ab Ap}{y:Ac}(hy:y∈(bs.map Fn).toArray):Xt y (.bool k) (Qe k y):=by
 have hy':y∈bs.map Fn:=by rwa [List.mem_toArray] at hy
 obtain⟨b,_,rfl⟩:=Dk.mp hy';exact λprog w A E s Q h=>Wv b k prog w E Q h
def cL (k:Ap)(bs:Ab Ap):(bs.map Fn).countP (Qe k)=bs.countP (· == k):=by
 rw[List.countP_map];rfl
def mK {β:Type}{r:Res β}{P:Hp}{α:Ab Ad}{Ok:β→Sto→Prop}(e:r=.bad)(h:qM X P α r Ok):Fa:=by
 rw[e] at h;exact h
inductive BlV (a:D)(ds:Ab D):Prop
 |no (h:∀ (g:Ab D→Ap→Res D),(match a,ds with|.lst xs,[.bl k]=>g xs k|_,_=>.bad)=.bad)
 |of (xs:Ab D) (k:Ap) (ea:a=.lst xs) (ed:ds=[.bl k])
def blV (a:D)(ds:Ab D):BlV a ds:=by
 cases a with
 |lst xs =>
  cases ds with
  |nil=>exact .no λ_=>rfl
  |cons d ds =>
   cases ds with
   |cons _ _=>cases d <;> exact .no λ_=>rfl
   |nil =>
    cases d with
    |bl k=>exact .of xs k rfl rfl
    |_=>exact .no λ_=>rfl
 |_=>exact .no λ_=>rfl
def VN:MtD X "list.count" mQ:=by
 intro pins σ H s P α S v vv vs us a ds Q I r rv p rvs rps af;cases blV a ds with
 |no h=>exact(mK (X:=X) (r:=mQ a ds S) (h _) af).elim
 |of xs k ea ed =>
  subst ea ed;have af:qM X P α (match xQ xs with|some bs=>Res.ok (D.int (bs.countP (· == k):Ah)) S|none=>.bad) (OkV X P α Q):=af
  cases hb:xQ xs with
  |none=>rw[hb] at af;exact An af
  |some bs =>
   rw[hb] at af;obtain⟨vx,ux,rfl,rfl,px,qx⟩:=vS rps rvs;simp only[Rep] at px;subst px;cases (show ux=Fn k from qx)
   obtain⟨b,ws,its,n,rfl,sq,t,rvi,ht,hl,_⟩:=jM I r p;cases (show vv=Cf b from rv)
   have hi:=vJ hb t rvi;subst hi;refine OQ Pe ⟨_,ht,rfl⟩ PySem.F.entry_list_count (PySem.F.args_list_count_2 _ _) (PySem.SeqAt.list_countAt b (bs.map Fn).toArray n none #[] (.bool k) (Qe k)) ⟨ht,λy hy=>(rJ k hy).at _ _,?_⟩;refine⟨.int _,H,I.tok _,⟨_,rfl⟩,?_⟩;rw[show (bs.map Fn).toArray.toList=bs.map Fn from rfl,cL]
   exact xr af r (by simp only[Rep])
def aM {k:Ap}:∀ {bs:Ab Ap} {j:Ah},nJ k bs=Aa j→∃ h:j<bs.length,bs[j]=k∧∀ m (hm:m<bs.length),m<j→bs[m]≠k
 |[],j,h=>by cases h
 |b::r,j,h=>by
  unfold nJ at h;by_cases hb:b=k
  ·rw[Bg hb] at h
   cases h;exact⟨by simp,by simpa using hb,λm hm z=>absurd z (Nat.not_lt_zero _)⟩
  ·rw[Bc hb] at h
   obtain⟨i,hi,rfl⟩:=De.mp h;obtain⟨h1,h2,h3⟩:=aM hi;refine⟨by simp;omega,by simpa using h2,λm hm hl=>?_⟩
   cases m with
   |zero=>simpa using hb
   |succ m=>simpa using h3 m (by simp at hm;omega) om
def VO:MtD X "list.index" mR:=by
 intro pins σ H s P α S v vv vs us a ds Q I r rv p rvs rps af;cases blV a ds with
 |no h=>exact(mK (X:=X) (r:=mR a ds S) (h _) af).elim
 |of xs k ea ed =>
  subst ea ed;have af:qM X P α (match (xQ xs).bind (nJ k) with|some j=>Res.ok (D.int j) S|none=>.bad) (OkV X P α Q):=af
  cases hj:(xQ xs).bind (nJ k) with
  |none=>rw[hj] at af;exact An af
  |some j =>
   rw[hj] at af;obtain⟨bs,hb,hi⟩:=Ec.mp hj;obtain⟨vx,ux,rfl,rfl,px,qx⟩:=vS rps rvs;simp only[Rep] at px;subst px;cases (show ux=Fn k from qx)
   obtain⟨b,ws,its,n,rfl,sq,t,rvi,ht,hl,hz⟩:=jM I r p;cases (show vv=Cf b from rv)
   have hi':=vJ hb t rvi;subst hi';obtain⟨h1,h2,h3⟩:=aM hi;have hlen:bs.length≤sizeLine:=by
    have e1:=t.length;have e2:=rvi.length;rw[Bk] at e2;rw[xD] at hz;omega
   refine OQ Pf ⟨_,ht,rfl⟩ PySem.F.entry_list_index (PySem.F.args_list_index_2 _ _) (Xe b (bs.map Fn).toArray n (.bool k) (Qe k) (λy hy=>rJ k hy) j (by simpa using h1) ?_ ?_ ?_) ⟨ht,?_⟩
   ·rw[Ep] at hlen;omega
   ·simp[Qe,h2]
   ·intro m hm hl'
    have hm':m<bs.length:=by simpa using hm
    have:=h3 m hm' hl';simp[Qe,this]
   ·exact⟨.int _,H,I.tok _,⟨_,rfl⟩,xr af r (by simp only[Rep])⟩
end
def gO (S:Sto):Sto:=S.map λ_=>.dead
def UY:D→Ap
 |.non=>true
 |.bl _=>true
 |.int _=>true
 |.str _=>true
 |_=>false
def mapO {β γ:Type}(f:β→Al γ) : Ab β → Al (Ab γ)
 |[]=>Aa []
 |b::r=>match f b,mapO f r with
  |some c,Aa cs=>Aa (c::cs)
  |_,_=>none
def uP:Ah→Sto→D→Al D
 |n+1,S,.tup xs=>(mapO (uP n S) xs).map .tup
 |n+1,S,.lst xs=>(mapO (uP n S) xs).map .lst
 |n+1,S,.loc i=>match S[i]? with
  |some (.lst xs)=>(mapO (uP n S) xs).map .lst
  |_=>none
 |_,_,.non=>Aa .non
 |_,_,.bl b=>Aa (.bl b)
 |_,_,.int i=>Aa (.int i)
 |_,_,.str x=>Aa (.str x)
 |_,_,.ty n=>Aa (.ty n)
 |_,_,.obj a=>Aa (.obj a)
 |_,_,.dct0=>Aa .dct0
 |_,_,.exn c=>Aa (.exn c)
 |_,_,_=>none
def u9 (H P:Hp)(α : Ab Ad):Hp:=λb=>if (P b).isSome then P b else if b∈α then H b else none
section
variable {K:Ak}{H P:Hp}{α : Ab Ad}{S:Sto}
def jG (H P:Hp)(α : Ab Ad):qI P (u9 H P α):=λb o e=>by
 unfold u9;rw[e];rfl
def V1 (r:Rel K H P α S):qI (u9 H P α) H:=λb o e=>by
 unfold u9 at e
 split at e
 ·exact r.sub b o e
 ·split at e
  ·exact e
  ·cases e
def nE {a:Ad}(h:P a=none)(ha:a∈α):u9 H P α a=H a:=by
 unfold u9;rw[h];simp[ha]
def Rel.frz (r:Rel K H P α S):Rel K H (u9 H P α) α (gO S) where
 tb:=r.tb.keep (λ_ _ q _=>q) λb u q _ p n=>⟨by unfold u9;rw[p];simp[n],n⟩
 sub:=V1 r
 len:=by rw[r.len];simp[gO]
 nd:=r.nd
 sep:=λi a o h1 h2 h3=>by
  unfold gO at h2;rw[Dl] at h2;cases q:S[i]? with
  |none=>rw[q] at h2;cases h2
  |some m=>rw[q] at h2;cases h2;exact absurd rfl h3
 at':=λi a o h1 h2=>by
  unfold gO at h2;rw[Dl] at h2;cases q:S[i]? with
  |none=>rw[q] at h2;cases h2
  |some m=>rw[q] at h2;cases h2;trivial
 own:=r.own
def Rel.unfrz {H' P1:Hp}{α1:Ab Ad}{S1:Sto}(r:Rel K H P α S)(r1:Rel K H' P1 α1 S1)(e:qI (u9 H P α) P1):Rel K H' P α S:=by
 have mem:∀ i a,α[i]? = Aa a→a∈α:=λi a h=>Cb h;have kp:∀ (i:Ah) (a:Ad) (o:MO) (u:HO),α[i]? = Aa a→S[i]? = Aa o→o≠MO.dead→H a=Aa u→H' a=Aa u:=λi a o u h1 h2 h3 h4 =>
  r1.sub a u (e a u (by rw[nE (r.sep i a o h1 h2 h3) (mem i a h1)];exact h4))
 refine⟨λx hx c T h=>let ⟨ps,e,_,_,ok,cd⟩:=r1.tb x hx c T h;let ⟨_,_,pn,an,_,_⟩:=r.tb x hx c T h;⟨ps,e,pn,an,ok,cd⟩,(jG H P α).trans (e.trans r1.sub),r.len,r.nd,r.sep,λi a o h1 h2=>?_,λi a h1=>?_⟩
 ·have m:=r.at' i a o h1 h2
  cases o with
  |dead=>trivial
  |lst ds=>obtain⟨vs,q,t⟩:=m;exact⟨vs,kp i a _ _ h1 h2 (by intro z;cases z) q,t⟩
  |dct kvs=>obtain⟨vs,q,t⟩:=m;exact⟨vs,kp i a _ _ h1 h2 (by intro z;cases z) q,t⟩
  |ins C fs=>obtain⟨dx,vs,q,t⟩:=m;exact⟨dx,vs,kp i a _ _ h1 h2 (by intro z;cases z) q,t⟩
 ·have h:=r.own i a h1
  cases q:H a with
  |none=>exact absurd q h
  |some u =>
   have z:∃ u',u9 H P α a=Aa u':=by
    cases q2:P a with
    |none=>exact⟨u,by rw[nE q2 (mem i a h1)];exact q⟩
    |some u'=>exact⟨u',jG H P α a u' q2⟩
   obtain⟨u',z⟩:=z;rw[r1.sub a u' (e a u' z)];intro w;cases w
set_option tactic.hygienic true in
def qG.mapO {f:D→Al D}{P':Hp}(h:∀ d t v,f d=Aa t→Rep K P α d v→Rep K P' α t v):∀ {ds ts:Ab D} {vs:Ab V},_D.mapO f ds=Aa ts→qG K P α ds vs→qG K P' α ts vs
 |[],ts,vs,e,r=>by cases e;rw[r.nil_inv];exact .nil
 |d::ds,ts,vs,e,r=>by
  obtain⟨w,ws,rfl,r1,r2⟩:=r.cons_inv;unfold _D.mapO at e
  split at e
  ·rename_i c cs h1 h2
   cases e;exact .cons (h d c w h1 r1) (qG.mapO h h2 r2)
  ·cases e
def iN (r:Rel K H P α S):∀ (n:Ah) (d t:D) (v:V),uP n S d=Aa t→Rep K P α d v→Rep K (u9 H P α) α t v:=by
 have mono:∀ (d:D) (v:V),Rep K P α d v→Rep K (u9 H P α) α d v:=λd v=>Rep.mono (jG H P α) (Bo _) d v;intro n
 induction n with
 |zero =>
  intro d t v h p;cases d <;> first|(cases h;exact mono _ _ p)|exact nn h
 |succ n ih =>
  intro d t v h p;cases d with
  |tup xs =>
   obtain⟨ts,h1,rfl⟩:=De.mp h;simp only[Rep] at p ⊢;obtain⟨a,vs,rfl,q,t⟩:=p;exact⟨a,vs,rfl,vB (jG H P α) q,qG.mapO (λd t v=>ih d t v) h1 t⟩
  |lst xs =>
   obtain⟨ts,h1,rfl⟩:=De.mp h;simp only[Rep] at p ⊢;obtain⟨a,vs,rfl,q,t⟩:=p;exact⟨a,vs,rfl,wA (jG H P α) q,qG.mapO (λd t v=>ih d t v) h1 t⟩
  |loc i =>
   have h:(match S[i]? with|some (.lst xs)=>(_D.mapO (uP n S) xs).map D.lst|_=>none)=Aa t:=h
   cases hS:S[i]? with
   |none=>rw[hS] at h;exact nn h
   |some m =>
    rw[hS] at h;cases m with
    |lst xs =>
     obtain⟨ts,h1,rfl⟩:=De.mp h;simp only[Rep] at p ⊢;obtain⟨a,rfl,q⟩:=p;obtain⟨vs,z,t⟩:=r.at' i a _ q hS;refine⟨a,vs,rfl,.inl (.inl ?_),qG.mapO (λd t v=>ih d t v) h1 t⟩;rw[nE (r.sep i a _ q hS (by intro z;cases z)) (Cb q)]
     exact z
    |_=>exact nn h
  |fd ks ds=>exact nn h
  |clo a vs ds=>exact nn h
  |_=>cases h;exact mono _ _ p
def Y0 {P':Hp}{α':Ab Ad}(h:UY d=true)(p:Rep K P α d v):Rep K P' α' d v:=by
 cases d with
 |non=>simpa only [Rep] using p
 |bl b=>simpa only [Rep] using p
 |int i=>simpa only [Rep] using p
 |str x=>simpa only [Rep] using p
 |_=>cases h
end
def rG:Ah:=20
def oV (r:Res D)(S:Sto):Res D:=match r with
 |.ok d _=>if UY d then .ok d S else .bad
 |_=>.bad
def oW {X:Cx}{H P:Hp}{α:Ab Ad}{S:Sto}{r:Res D}(rl:Rel X.K H P α S)(af:z9 X P α (oV r S) Q):z9 X (u9 H P α) α r Q:=by
 cases r with
 |ok d S' =>
  obtain⟨ha,af⟩:=wX (X:=X) af;exact λv H' P' α' r' e1 e2 rp=>af v H' P α (rl.unfrz r' e1) (qI.refl _) (Bo _) (Y0 ha rp)
 |ex c x S'=>exact An af
 |bad=>exact An af
section
variable {X:Cx}
def kA (g:G2):G2:=λa b S=>match uP rG S a,uP rG S b with
 |some x,Aa y=>oV (g x y (gO S)) S
 |_,_=>.bad
set_option tactic.hygienic true in
def OpD.look {g:G2}(h:OpD X f g):OpD X f (kA g):=by
 intro pins σ H s P α S v u vv uu a b Q I r rv ru pa pb af;unfold kA at af
 split at af
 ·rename_i x y hx hy
  exact h pins σ H s _ α (gO S) v u vv uu x y Q I r.frz rv ru (iN r rG a x v hx pa) (iN r rG b y u hy pb) (oW r af)
 ·exact An af
variable {cm:Ap}{k:Ah}{f:Ad}{fd:Fb}{ps:Ab Ar}{F:DF}{x:Ar}{p pos:EQ}{e:Bv}{es:Ab Bv}{fa:DA}{n:Ah}
end
def vX (t:DT)(f:DS):Ah→qD→Sto→Out
 |0,_,_=>.bad
 |n+1,env,S=>(t env S).toS env λb S1=>if b then (match f env S1 with
   |.nx env2 S2=>vX t f n env2 S2
   |.ct env2 S2=>vX t f n env2 S2
   |.bk env2 S2=>.nx env2 S2
   |o=>o) else .nx env S1
def QZ:∃ n:Ah,n=2 ^ 60:=⟨_,rfl⟩
def big:Ah:=OV QZ
def FW:big=2 ^ 60:=Lv QZ
def tN (t:DT)(f:DS):DS:=λenv S=>vX t f big env S
section
variable {X:Cx}{pos:EQ}
inductive WhI (X:Cx)(P:Hp)(α : Ab Ad)(t:DT)(f:DS)(D:Ends)(m:Ah)(σ : _L.St)(H:Hp):Prop
 |mk (P2:Hp) (α2:Ab Ad) (env2:qD) (S2:Sto) (r:Rel X.K H P2 α2 S2) (re:zE X.K P2 α2 σ env2) (e1:qI P P2) (e2:α<+:α2) (af:zF X P2 α2 (vX t f m env2 S2) D):WhI X P α t f D m σ H
def YU {c:Bv}{body:Ab Ej}{t:DT}{f:DS}(hp:Mi (As X.prog X.w) X.A X.env X.xe)(hc:PT X c (tDT X t))(hb:PSs X body (tDS X f)):PS X (.While c body [] pos) (tDS X (tN t f)):=
 psW (U3 hp hc hb) λD σ H ⟨P,α,env,S,r,re,af⟩=>by
  refine⟨WhI X P α t f D,⟨big,P,α,env,S,r,re,qI.refl _,Bo _,af⟩,?_⟩;rintro m σ2 H2 ⟨P2,α2,env2,S2,r2,re2,e1,e2,af2⟩;cases m with
  |zero=>exact An af2
  |succ m =>
   have af3:=wU af2;refine⟨P2,α2,env2,S2,r2,re2,?_⟩;cases q:t env2 S2 with
   |bad=>rw[q] at af3;exact af3
   |ex c x S'=>rw[q] at af3;exact af3
   |ok b S3 =>
    rw[q] at af3;intro H3 P3 α3 r3 e3 e4;have af4:zF X P3 α3 (if b then (match f env2 S3 with|.nx env2 S2=>vX t f m env2 S2|.ct env2 S2=>vX t f m env2 S2|.bk env2 S2=>.nx env2 S2|o=>o) else .nx env2 S3) D:=zF.base e3 e4 af3
    cases b with
    |false=>exact af4 σ2 H3 P3 α3 r3 (re2.mono e3 e4) (qI.refl _) (Bo _)
    |true =>
     simp only[Dc] at af4 ⊢;refine⟨WhI X P α t f D m,λσ' H' w=>⟨m,Gf _,w⟩,P3,α3,env2,S3,r3,re2.mono e3 e4,?_⟩;cases q2:f env2 S3 with
     |bad=>rw[q2] at af4;exact af4
     |ex c x env4 S4=>rw[q2] at af4;exact af4
     |rt d4 S4=>rw[q2] at af4;exact af4
     |bk env4 S4=>rw[q2] at af4;exact af4
     |nx env4 S4 =>
      rw[q2] at af4;exact λσ5 H5 P5 α5 r5 re5 e8 e9=>⟨P5,α5,env4,S4,r5,re5,(e1.trans e3).trans e8,(e2.trans e4).trans e9,zF.base e8 e9 af4⟩
     |ct env4 S4 =>
      rw[q2] at af4;exact λσ5 H5 P5 α5 r5 re5 e8 e9=>⟨P5,α5,env4,S4,r5,re5,(e1.trans e3).trans e8,(e2.trans e4).trans e9,zF.base e8 e9 af4⟩
end
section
variable {X:Cx}{a b c e:Bv}{pos:EQ}{fa fe:DE}
def IA (i:Ah)(g:G2)(fe:DE):DS:=λenv S=>match env[i]? with
 |some (Aa x)=>(fe env S).toS env λy S1=>(g x y S1).toS env λz S2=>.nx (env.set i (Aa z)) S2
 |_=>.bad
def AX:G2:=i2 (λ_ _=>true) λi j=>.int (i+j)
def jC (xs:Ab D)(lo hi:Al Ai):Ab D:=(xs.drop (_H.sIx xs.length 0 lo)).take (_H.sIx xs.length xs.length hi-_H.sIx xs.length 0 lo)
abbrev DO:=qD→Sto→Res (Al Ai)
def OkO (X:Cx)(P:Hp)(α : Ab Ad)(Q:Al Ai→Hp→Prop)(o:Al Ai)(S':Sto):Prop:=∀ H' P' α',Rel X.K H' P' α' S'→qI P P'→α<+:α'→Q o H'
def tDO (X:Cx)(f:DO):TO:=λσ H Q=>∃ P α env S,Rel X.K H P α S∧zE X.K P α σ env∧qM X P α (f env S) (OkO X P α Q)
def AR:DO:=λ_ S=>.ok none S
def vN (f:DE):DO:=λenv S=>(f env S).bind λd S1=>match d with
 |.int i=>.ok (Aa i) S1
 |_=>.bad
def G6 (he:PE X e (tD X fe)):PO X (Aa e) (tDO X (vN fe)):=by
 intro pins s σ H Q I h;obtain⟨P,α,env,S,r,re,af⟩:=h;refine BB (te:=tD X fe) he pins s σ H Q I ⟨P,α,env,S,r,re,?_⟩;have af':qM X P α ((fe env S).bind λd S1=>match d with|.int i=>.ok (Aa i) S1|_=>.bad) (OkO X P α Q):=af
 cases q:fe env S with
 |bad=>rw[q] at af';exact af'
 |ex c x S'=>rw[q] at af';exact af'
 |ok d S1 =>
  rw[q] at af';intro v H1 P1 α1 r1 e1 e2 rp;cases d with
  |int i=>exact⟨i,xE rp,af' H1 P1 α1 r1 e1 e2⟩
  |_=>exact An af'
def qG.cut {K:Ak}{P:Hp}{α:Ab Ad}(r:qG K P α ds vs)(lo hi:Al Ai):qG K P α (jC ds lo hi) (pQ vs lo hi):=by
 unfold jC pQ;rw[r.length];exact(r.drop _).take _
def gSl (d:D)(lo hi:Al Ai)(S:Sto):Res D:=match d with
 |.lst xs=>.ok (.lst (jC xs lo hi)) S
 |.loc i=>match S[i]? with
  |some (.lst xs)=>.ok (.lst (jC xs lo hi)) S
  |_=>.bad
 |.tup xs=>.ok (.tup (jC xs lo hi)) S
 |_=>.bad
def dSl (fe:DE)(fl fh:DO):DE:=λenv S=>(fe env S).bind λd S1=>(fl env S1).bind λlo S2=>(fh env S2).bind λhi S3=>gSl d lo hi S3
end
end _D
namespace _D
open PySem PySem.Spec PyProof.Rows _L _H
section
variable {prog:Bd}{w:Bw}{A:Bt}{E:Ac→Ag→Prop}{s:Ag}
def pN {t sl:Ad}{items:Av Ac}{vl vu:Ac}{lo hi:Al Ai}{Q:Ac→Ag→Prop}(ht:Tu s.heap t items)(hs:s.heap.IsSliceOf sl vl vu .none)(pl:Oa vl lo)(pu:Oa vu hi)
  (hw:sIx items.size 0 lo=0∧sIx items.size items.size hi=items.size) (h:Q (.ref t) s):Ao (As prog w) A (Ko (.ref t) (.ref sl)) Q E s:=by
 obtain⟨ob,hob,hcb,_⟩:=id hs;have hTs:s.TypeIs (.ref sl) "slice":=⟨ob,hob,hcb⟩;unfold Ko
 try with_reducible refine Ed ?_
 first|refine Af (Am ?_)|skip
 refine Af (Ua ht.typeIs (by decide) ?_)
 refine Af (Ev (name:=IC "__getitem__") ht.typeIs Es
  (Et Es ht.typeIs Rz ?_ (Sx _ _)))
 show Ao _ _ (Oc (.ref t) >>= _) _ _ s;refine Af (tupleItemsOf_ ht ?_);refine Af (Kq hTs ?_);rw[Bg (by decide)]
 refine Af (jS hs pl pu ?_);show Ao _ _ (if (((sIx items.size 0 lo:Ah):Ai) == 0&&(1:Ai) == 1&&(sIx items.size items.size hi-sIx items.size 0 lo) == items.size)=true then _ else _) _ _ s
 rw[hw.1,hw.2,Bg (by simp)]
 unfold Ww;refine Af (Af (Kq ht.typeIs (Am ?_)));rw[Bg (by decide)]
 exact Af (Hb (Am ⟨_,rfl,Am h⟩))
end
section
variable {X:Cx}{e:Bv}{fe:DE}{pos p2:EQ}
def A5 (X:Cx):V→Al Ai→Al Ai→Hp→VK→Prop:=λx lo hi H Q=>∃ P α S d,Rel X.K H P α S∧Rep X.K P α d x∧z9 X P α (gSl d lo hi S) Q
def A9:SlR X (A5 X):=by
 intro pins s σ H x v vl vu lo hi sl Q I rx hs pl pu h;obtain⟨P,α,S,d,r,p,af⟩:=h;cases d with
 |lst xs =>
  simp only[Rep] at p;obtain⟨a,vs,rfl,q,t⟩:=p;exact iS pins s σ H _ v vl vu lo hi sl Q I rx hs pl pu ⟨a,vs,rfl,(wA r.sub q).l,λb hb=>vA r hb (qG.cut t lo hi) af⟩
 |loc i =>
  obtain⟨xs,hS,af⟩:=jO (X:=X) (f:=λxs=>Res.ok (D.lst (jC xs lo hi)) S) af;simp only[Rep] at p;obtain⟨a,rfl,q⟩:=p;obtain⟨vs,z,t⟩:=r.at' i a _ q hS;exact iS pins s σ H _ v vl vu lo hi sl Q I rx hs pl pu ⟨a,vs,rfl,SqL.of z,λb hb=>vA r hb (qG.cut t lo hi) af⟩
 |tup xs =>
  have p0:=p;simp only[Rep] at p;obtain⟨a,vs,rfl,q,t⟩:=p;by_cases hw:sIx vs.length 0 lo=0∧sIx vs.length vs.length hi=vs.length
  ·cases rx
   obtain⟨its,rv,ht,hz⟩:=I.tuple (wH r.sub q);have hlen:its.toArray.size=vs.length:=by rw[Bj];exact rv.length.symm
   refine⟨"tuple",_,Es.lookup,ht.typeIs,pN ht hs pl pu (by rw[hlen];exact hw) ⟨.ref a,H,I,rfl,xr af r ?_⟩⟩
   have e:jC xs lo hi=xs:=by
    unfold jC;rw[t.length,hw.1,hw.2,← t.length];simp
   rw[e];exact p0
  ·exact SB pins s σ H _ v vl vu lo hi sl Q I rx hs pl pu ⟨a,vs,rfl,wH r.sub q,hw,λb hb=>pA r hb (qG.cut t lo hi) af⟩
 |_=>exact An af
def YL {lo hi:Al Bv}{fl fh:DO}(he:PE X e (tD X fe))(hl:PO X lo (tDO X fl))(hu:PO X hi (tDO X fh)):PE X (.Subscript e (.Slice lo hi none p2) pos) (tD X (dSl fe fl fh)):=
 peW (U0 A9 he hl hu) λσ H Q ⟨P,α,env,S,r,re,af⟩=>by
  refine⟨P,α,env,S,r,re,?_⟩;have af':qM X P α ((fe env S).bind λd S1=>(fl env S1).bind λlo S2=>(fh env S2).bind λhi S3=>gSl d lo hi S3) (OkV X P α Q):=af;cases q:fe env S with
  |bad=>rw[q] at af';exact af'
  |ex c x S'=>rw[q] at af';exact af'
  |ok d S1 =>
   rw[q] at af';intro v H1 P1 α1 r1 e1 e2 rp;refine⟨P1,α1,env,S1,r1,re.mono e1 e2,?_⟩;have af2:qM X P1 α1 ((fl env S1).bind λlo S2=>(fh env S2).bind λhi S3=>gSl d lo hi S3) (OkV X P1 α1 Q):=z9.base e1 e2 af';cases q2:fl env S1 with
   |bad=>rw[q2] at af2;exact af2
   |ex c x S'=>rw[q2] at af2;exact af2
   |ok l S2 =>
    rw[q2] at af2;intro H2 P2 α2 r2 e3 e4;refine⟨P2,α2,env,S2,r2,(re.mono e1 e2).mono e3 e4,?_⟩;have af3:qM X P2 α2 ((fh env S2).bind λhi S3=>gSl d l hi S3) (OkV X P2 α2 Q):=z9.base e3 e4 af2;cases q3:fh env S2 with
    |bad=>rw[q3] at af3;exact af3
    |ex c x S'=>rw[q3] at af3;exact af3
    |ok u S3 =>
     rw[q3] at af3;intro H3 P3 α3 r3 e5 e6;exact⟨P3,α3,S3,d,r3,Rep.mono (e3.trans e5) (e4.trans e6) _ _ rp,z9.base e5 e6 af3⟩
def kI (d:D)(S:Sto):Res D:=match d with
 |.int i=>if i.natAbs.log2<1920 then .ok (.str (toString i)) S else .bad
 |.str x=>if x.length≤lim then .ok (.str x) S else .bad
 |_=>.bad
set_option tactic.hygienic true in
def MF (he:PE X e (tD X fe)):PE X (.FormattedValue e (-1) none pos) (tD X (d1 kI fe)):=by
 intro pins s σ H Q I h;obtain⟨P,α,env,S,r,re,af⟩:=h;refine FormattedValue_plain (thn (x5 he I r re af) λvv s1 ⟨v,H1,P1,α1,d,S1,G1,af1⟩=>?_);have p:=G1.rep;have rv:=G1.val;have af2:=z9.base G1.same G1.pre af1;cases d with
 |int i =>
  simp only[kI] at af2
  split at af2
  ·rename_i hd
   simp only[Rep] at p;subst p;obtain⟨t,rfl⟩:=rv;exact formatField_int_small hd ⟨.str _,H1,G1.inv.tok _,⟨_,rfl⟩,xr af2 G1.rel (by simp only[Rep])⟩
  ·exact An af2
 |str x =>
  simp only[kI] at af2
  split at af2
  ·rename_i hd
   simp only[Rep] at p;subst p;obtain⟨t,rfl⟩:=rv;exact formatField_str (λt' tk=>⟨.str _,H1,G1.inv.tok _,⟨_,rfl⟩,xr af2 G1.rel (by simp only[Rep])⟩) (by rw[← xD];exact hd)
  ·exact An af2
 |_=>exact An af2
def gV (out:Ar):Ab DE→qD→Sto→Res D
 |[],_,S=>if out.length≤lim then .ok (.str out) S else .bad
 |p::ps,env,S=>(p env S).bind λd S1=>match d with
  |.str y=>if (out++y).length≤lim then gV (out++y) ps env S1 else .bad
  |_=>.bad
def PJ (X:Cx)(es:Ab Bv)(fs:Ab DE):Prop:=
 ∀ (out:Ar) (pins:Ab (Ad × Cg)) (s:Ag) (σ : _L.St) (H P:Hp) (α : Ab Ad) (env:qD) (S:Sto) (Q:VK),Inv X pins σ H s→Rel X.K H P α S→zE X.K P α σ env→z9 X P α (gV out fs env S) Q →
  Ao (As X.prog X.w) X.A (joinParts out (evalEach es X.env)) (EP X pins σ Q) X.xe s
def LI:PJ X [] []:=by
 intro out pins s σ H P α env S Q I r re af;obtain⟨hl,af⟩:=wX (X:=X) af;exact joinParts_nil ⟨.str _,H,I.tok _,⟨_,rfl⟩,xr af r (by simp only[Rep])⟩ (by rw[← xD];exact hl)
def B9 {es:Ab Bv}{fs:Ab DE}(he:PE X e (tD X fe))(hr:PJ X es fs):PJ X (e::es) (fe::fs):=by
 intro out pins s σ H P α env S Q I r re af;have af:qM X P α ((fe env S).bind λd S1=>match d with|.str y=>if (out++y).length≤lim then gV (out++y) fs env S1 else .bad|_=>.bad) (OkV X P α Q):=af
 refine joinParts_cons (thn (x5 he I r re af) λvv s1 ⟨v,H1,P1,α1,d,S1,G1,af1⟩=>?_);cases d with
 |str y =>
  have p:=G1.rep;simp only[Rep] at p;subst p;obtain⟨t,rfl⟩:=G1.val;obtain⟨hl,af1⟩:=wX (X:=X) af1;exact⟨by rw[← xD];exact hl,hr (out++y) pins s1 σ H1 P1 α1 env S1 Q G1.inv G1.rel G1.env (z9.base G1.same G1.pre af1)⟩
 |_=>exact An af1
def sD (fs:Ab DE):DE:=λenv S=>gV Jq fs env S
def KQ {v₁ v₂:Bv}{qK:Ab Bv}{fs:Ab DE}(h:PJ X (v₁::v₂::qK) fs):PE X (.JoinedStr (v₁::v₂::qK) pos) (tD X (sD fs)):=by
 intro pins s σ H Q I hq;obtain⟨P,α,env,S,r,re,af⟩:=hq;exact JoinedStr_many (h Jq pins s σ H P α env S Q I r re af)
end
end _D
namespace _D
open PySem PySem.Spec PyProof.Rows _L
variable {us:Ab Ac}{α:Ab Ad}{N:Ab Ar}{ds dsF:Ab D}{body:Ab Ej}{vs:Ab V}{Q:Ac→Ag→Prop}{C:Ad}{Qa Qd:Ag→Prop}{m:Ah}{o':Al (Ah × MO)}{xs ys:Av Ac}{h':Bm}{py:EQ}{S SF:Sto}{env envF:qD}
def zV (tp:Ap)(h:Bm)(it l:Ad)(k:Ah):Prop:=if tp then h.IsTupleIter it l k else h.IsListIter it l k
def wO (tp:Ap)(h:Bm)(l:Ad)(xs:Av Ac):Prop:=if tp then h.IsTuple l xs else h.IsList l xs
def zV.keep {tp:Ap}{h:Bm}{it l:Ad}{k:Ah}(x:zV tp h it l k)(q:∀ o,h.get? it=Aa o→h'.get? it=Aa o):zV tp h' it l k:=by
 cases tp <;> (obtain⟨o,e,r⟩:=x;exact⟨o,q o e,r⟩)
def wO.keep {tp:Ap}{h:Bm}{l:Ad}(x:wO tp h l xs)(q:∀ o,h.get? l=Aa o→h'.get? l=Aa o):wO tp h' l xs:=by
 cases tp <;> (obtain⟨o,e,r⟩:=x;exact⟨o,q o e,r⟩)
def zV.there {tp:Ap}{h:Bm}{it l:Ad}{k:Ah}(x:zV tp h it l k):∃ o,h.get? it=Aa o∧∀ v,o.data≠.cell v:=by
 cases tp <;> (obtain⟨o,e,_,d⟩:=x;exact⟨o,e,λv z=>by rw[d] at z;cases z⟩)
section
variable {prog:Bd}{w:Bw}{A:Bt}{E:Ac→Ag→Prop}{s:Ag}
def VT {it t:Ad}{i:Ah}{items:Av Ac}{x:Ac}(hit:s.heap.IsTupleIter it t i)(ht:s.heap.IsTuple t items)(hx:items[i]? = Aa x)
  (hQ:∀ h',h'.IsTupleIter it t (i+1)→Gp it s.heap h'→Q x { s with heap:=h' }) : Ao (As prog w) A (Du (.ref it)) Q E s:=by
 obtain⟨o,e,c,d⟩:=id hit;obtain⟨u,eu,_,m,du⟩:=ht;unfold Du;refine Af (Ev (name:=IC "__next__") hit.typeIs Hy (Et Hy hit.typeIs Nl ?_ (Nb _)));show Ao _ _ (field (.ref it) 0 >>= _) _ _ s;refine Af (Fi e d (x:=.ref t) rfl ?_);show Ao _ _ (if (Cf t == Dj)=true then _ else _) _ _ s;rw[Bc (show ¬ ((Cf t == Dj)=true) from Ea)]
 show Ao _ _ (field (.ref it) 1 >>= _) _ _ s;refine Af (Fi e d (x:=.int i 0) rfl ?_);show Ao _ _ (Xf (.ref t) >>= _) _ _ s;refine Af (Gh eu du ?_);simp only[Gk,hx];refine Af (Ku e d (by simp) (Am ⟨x,rfl,Am (hQ _ ⟨_,Fj _ e (Obj.isFreed_of_fields (Te d _)),(Obj.cls_mapFields ..).trans c,?_⟩ (Gm ..))⟩))
 rw[Te d];simp[Gg]
def eF {it t:Ad}{i:Ah}{items:Av Ac}{Q:Ac→Ag→Prop}(hh:A.handled=none)(hit:s.heap.IsTupleIter it t i)(ht:s.heap.IsTuple t items)(hx:items[i]? = none)
  (hE:∀ h' e,Xx it s.heap h'→(∃ o,h'.get? e=Aa o∧o.cls=.type "StopIteration")→E (.ref e) { s with heap:=h' }) : Ao (As prog w) A (Du (.ref it)) Q E s:=by
 obtain⟨o,e,c,d⟩:=id hit;obtain⟨u,eu,_,m,du⟩:=ht;unfold Du;refine Af (Ev (name:=IC "__next__") hit.typeIs Hy (Et Hy hit.typeIs Nl ?_ (Nb _)));show Ao _ _ (field (.ref it) 0 >>= _) _ _ s;refine Af (Fi e d (x:=.ref t) rfl ?_);show Ao _ _ (if (Cf t == Dj)=true then _ else _) _ _ s;rw[Bc (show ¬ ((Cf t == Dj)=true) from Ea)]
 show Ao _ _ (field (.ref it) 1 >>= _) _ _ s;refine Af (Fi e d (x:=.int i 0) rfl ?_);show Ao _ _ (Xf (.ref t) >>= _) _ _ s;refine Af (Gh eu du ?_);simp only[Gk,hx];refine Af (Hb (Af (Ku e d (by simp) ?_)))
 show Ao _ _ (newExc (.type "StopIteration") [] >>= _) _ _ _;refine Af ?_;simp only[newExc,newTuple];refine Af (Ek ?_ (by size_fits))
 refine Af (m:=Nm _ _) (Of (a:=Dj) (by first|rfl|(simp only[Nm];rfl)) (Ek ?_ (by size_fits)))
 simp only[raiseNew];refine Af (wpAny_handled ?_)
 first|rw[show A.in1.handled=none from hh]|rw[hh]
 exact Af (Am (wpAny_throw (hE _ _ (((Gm ..).extBut.push _).push _) ⟨_,Bi _ rfl,rfl⟩)))
def m5 {tp:Ap}{it l:Ad}{k:Ah}{x:Ac}(hit:zV tp s.heap it l k)(hl:wO tp s.heap l xs)(hx:xs[k]? = Aa x)
  (hQ:∀ h',zV tp h' it l (k+1)→Gp it s.heap h'→Q x { s with heap:=h' }) : Ao (As prog w) A (Du (.ref it)) Q E s:=by
 cases tp with
 |false=>exact wpAny_nextOf_list_item hit hl hx hQ
 |true=>exact VT hit hl hx hQ
def b8 {tp:Ap}{it l:Ad}{k:Ah}{Q:Ac→Ag→Prop}(hh:A.handled=none)(hit:zV tp s.heap it l k)(hl:wO tp s.heap l xs)(hx:xs[k]? = none)
  (hE:∀ h' e,Xx it s.heap h'→(∃ o,h'.get? e=Aa o∧o.cls=.type "StopIteration")→E (.ref e) { s with heap:=h' }) : Ao (As prog w) A (Du (.ref it)) Q E s:=by
 cases tp with
 |false=>exact wpAny_nextOf_list_end hh hit hl hx hE
 |true=>exact eF hh hit hl hx hE
structure ZA (z I O i j:Ad):Prop where
 Iz:I≠z
 Oz:O≠z
 iz:i≠z
 jz:j≠z
 IO:I≠O
 Ii:I≠i
 Ij:I≠j
 Oi:O≠i
 Oj:O≠j
 ij:i≠j
structure Off (z O i j a:Ad):Prop where
 z:a≠z
 O:a≠O
 i:a≠i
 j:a≠j
abbrev WX (z O i j:Ad)(h h':Bm):Prop:=∀ c o,c≠z→c≠O→c≠i→c≠j→h.get? c=Aa o→h'.get? c=Aa o
def UU {tp tq:Ap}{z I O i j a b:Ad}{k:Ah}{x y p q:Ac}(D:ZA z I O i j)(Da:Off z O i j a)(Db:Off z O i j b)
  (hz:Nn s.heap z I O .none) (hI:IK s.heap I (.ref i) (.ref j)) (hO:IK s.heap O p q) (h1:zV tp s.heap i a k) (h2:zV tq s.heap j b k) (ha:wO tp s.heap a xs) (hb:wO tq s.heap b ys) (hx:xs[k]? = Aa x) (hy:ys[k]? = Aa y)
  (hQ:∀ h',Nn h' z I O (Gg s.heap.objs.size)→IK h' O x y→zV tp h' i a (k+1)→zV tq h' j b (k+1)→IK h' s.heap.objs.size x y→h'.objs.size=s.heap.objs.size+1→WX z O i j s.heap h'→Q (.ref s.heap.objs.size) { s with heap:=h' }) :
  Ao (As prog w) A (Ih.«zip.__next__» ⟨[.ref z],[]⟩) (λfin s'=>∃ v,fin=.done (.ret v)∧Q v s') E s:=by
 show Ao _ _ (field (.ref z) 2 >>= _) _ _ _;refine Af (Fi hz rfl (x:=.bool false) rfl ?_);show Ao _ _ (field (.ref z) 3 >>= _) _ _ _;refine Af (Fi hz rfl (x:=.ref I) rfl (Af (Gh hI rfl ?_)));show Ao _ _ (Gd (.ref z) >>= _) _ _ _;refine Af ?_;unfold Gd;refine Af (Fi hz rfl (x:=.none) rfl (Am ?_));simp only[Dc];refine Af (Hb (Af (Fi hz rfl (x:=.ref O) rfl (Af (Hw hz (by simp) λg1 z1 s1=>?_)))))
 replace z1:Nn g1 z I O .ellipsis:=z1
 refine Af ?_;simp only[OW,Vt,Qb,Nk];refine Af (Af (O6 ?_));show Ao _ _ (Du (.ref i) >>= _) _ _ _;refine Af (m5 (h1.keep λo e=>s1.extBut _ _ D.iz e) (ha.keep λo e=>s1.extBut _ _ Da.z e) hx λg2 i2 s2=>Am ?_);have O2:IK g2 O p q:=s2.extBut _ _ D.Oi (s1.extBut _ _ D.Oz hO);refine Af (Gh O2 rfl (Af (Md O2 λg3 O3 s3=>Af (Vf (Am ?_)))))
 replace O3:IK g3 O x q:=O3
 refine Af (Af (O6 ?_));show Ao _ _ (Du (.ref j) >>= _) _ _ _;refine Af (m5 (h2.keep λo e=>s3.extBut _ _ D.Oj.symm (s2.extBut _ _ D.ij.symm (s1.extBut _ _ D.jz e))) (hb.keep λo e=>s3.extBut _ _ Db.O (s2.extBut _ _ Db.i (s1.extBut _ _ Db.z e))) hy λg4 j4 s4=>Am ?_);have O4:IK g4 O x q:=s4.extBut _ _ D.Oj O3;refine Af (Gh O4 rfl (Af (Md O4 λg5 O5 s5=>Af (Vf (Am (Am ?_))))))
 replace O5:IK g5 O x y:=O5
 refine Af (Gh O5 rfl (Af (wpAny_newTuple ?_)));have sz:g5.objs.size=s.heap.objs.size:=by rw[s5.1,s4.1,s3.1,s2.1,s1.1]
 have z5:Nn g5 z I O .ellipsis:=s5.extBut _ _ D.Oz.symm (s4.extBut _ _ D.jz.symm (s3.extBut _ _ D.Oz.symm (s2.extBut _ _ D.iz.symm z1)));have k5:WX z O i j s.heap g5:=λc o c1 c2 c3 c4 e=>s5.extBut _ _ c2 (s4.extBut _ _ c4 (s3.extBut _ _ c2 (s2.extBut _ _ c3 (s1.extBut _ _ c1 e))));have i5:zV tp g5 i a (k+1):=i2.keep λo e=>s5.extBut _ _ D.Oi.symm (s4.extBut _ _ D.ij (s3.extBut _ _ D.Oi.symm e));have j5:zV tq g5 j b (k+1):=j4.keep λo e=>s5.extBut _ _ D.Oj.symm e;have zl:z<g5.objs.size:=Au z5;show Ao _ _ (Jz (.ref z) (.ref g5.objs.size) >>= _) _ _ _;refine Af ?_;unfold Jz;have z6:Nn (g5.push { cls:=.type "tuple",data:=.seq #[x,y] }) z I O .ellipsis:=Aj _ z5;refine Af (Hw z6 (by simp) λg7 z7 s7=>?_)
 replace z7:Nn g7 z I O (Gg g5.objs.size):=z7
 refine Hw z7 (by simp) λg8 z8 s8=>?_
 replace z8:Nn g8 z I O (Gg g5.objs.size):=z8
 have up:∀ c o,c≠z→g5.get? c=Aa o→g8.get? c=Aa o:=λc o c1 e=>s8.extBut _ _ c1 (s7.extBut _ _ c1 (Aj _ e));have T8:IK g8 g5.objs.size x y:=s8.extBut _ _ (Gq zl) (s7.extBut _ _ (Gq zl) (Bi _ rfl));have sz8:g8.objs.size=g5.objs.size+1:=by rw[s8.1,s7.1,Dr]
 rw[sz] at z8 T8 sz8;refine Am ⟨_,rfl,?_⟩;show Q (.ref g5.objs.size) _;rw[sz];exact hQ g8 z8 (up _ _ D.Oz O5) (i5.keep λo e=>up _ o D.iz e) (j5.keep λo e=>up _ o D.jz e) T8 sz8 λc o c1 c2 c3 c4 e=>up c o c1 (k5 c o c1 c2 c3 c4 e)
end
section
variable {prog:Bd}{w:Bw}{A:Bt}{E:Ac→Ag→Prop}{s:Ag}
def UW {tp tq:Ap}{z I O i j a b:Ad}{k:Ah}{p q:Ac}{Q:Fin→Ag→Prop}(hh:A.handled=none)(D:ZA z I O i j)(Da:Off z O i j a)(Db:Off z O i j b)
  (hz:Nn s.heap z I O .none) (hI:IK s.heap I (.ref i) (.ref j)) (hO:IK s.heap O p q) (h1:zV tp s.heap i a k) (h2:zV tq s.heap j b k) (ha:wO tp s.heap a xs) (hb:wO tq s.heap b ys) (hend:xs[k]? = none∨ys[k]? = none)
  (hE:∀ h' e,WX z O i j s.heap h'→(∃ o,h'.get? e=Aa o∧o.cls=.type "StopIteration")→E (.ref e) { s with heap:=h' }) : Ao (As prog w) A (Ih.«zip.__next__» ⟨[.ref z],[]⟩) Q E s:=by
 show Ao _ _ (field (.ref z) 2 >>= _) _ _ _;refine Af (Fi hz rfl (x:=.bool false) rfl ?_);show Ao _ _ (field (.ref z) 3 >>= _) _ _ _;refine Af (Fi hz rfl (x:=.ref I) rfl (Af (Gh hI rfl ?_)));show Ao _ _ (Gd (.ref z) >>= _) _ _ _;refine Af ?_;unfold Gd;refine Af (Fi hz rfl (x:=.none) rfl (Am ?_));simp only[Dc];refine Af (Hb (Af (Fi hz rfl (x:=.ref O) rfl (Af (Hw hz (by simp) λg1 z1 s1=>?_)))))
 replace z1:Nn g1 z I O .ellipsis:=z1
 refine Af ?_;simp only[OW,Vt,Qb,Nk];refine Af (Af (O6 ?_));show Ao _ _ (Du (.ref i) >>= _) _ _ _;have it1:zV tp g1 i a k:=h1.keep λo e=>s1.extBut _ _ D.iz e;have sq1:wO tp g1 a xs:=ha.keep λo e=>s1.extBut _ _ Da.z e;cases hx:xs[k]? with
 |none =>
  refine Af (b8 hh it1 sq1 hx λg2 e x2 he=>?_);obtain⟨oe,h3,h4⟩:=he;have z2:Nn g2 z I O .ellipsis:=x2 _ _ D.iz.symm z1;have ne:e≠z:=λy=>by subst y;rw[z2] at h3;cases h3;simp at h4
  exact Hw z2 (by simp) λg3 _ s3=>hE g3 e (λc o c1 _ c3 _ y=>s3.extBut _ _ c1 (x2 _ _ c3 (s1.extBut _ _ c1 y))) ⟨oe,s3.extBut _ _ ne h3,h4⟩
 |some x =>
  have hy:ys[k]? = none:=by
   rcases hend with y|y
   ·rw[hx] at y;cases y
   ·exact y
  refine Af (m5 it1 sq1 hx λg2 i2 s2=>Am ?_);have O2:IK g2 O p q:=s2.extBut _ _ D.Oi (s1.extBut _ _ D.Oz hO);refine Af (Gh O2 rfl (Af (Md O2 λg3 O3 s3=>Af (Vf (Am ?_)))));refine Af (Af (O6 ?_));show Ao _ _ (Du (.ref j) >>= _) _ _ _;refine Af (b8 hh (h2.keep λo e=>s3.extBut _ _ D.Oj.symm (s2.extBut _ _ D.ij.symm (s1.extBut _ _ D.jz e))) (hb.keep λo e=>s3.extBut _ _ Db.O (s2.extBut _ _ Db.i (s1.extBut _ _ Db.z e))) hy λg4 e x4 he=>?_);obtain⟨oe,h3,h4⟩:=he;have z4:Nn g4 z I O .ellipsis:=x4 _ _ D.jz.symm (s3.extBut _ _ D.Oz.symm (s2.extBut _ _ D.iz.symm z1));have ne:e≠z:=λy=>by subst y;rw[z4] at h3;cases h3;simp at h4
  exact Hw z4 (by simp) λg5 _ s5=>hE g5 e (λc o c1 c2 c3 c4 y=>s5.extBut _ _ c1 (x4 _ _ c4 (s3.extBut _ _ c2 (s2.extBut _ _ c3 (s1.extBut _ _ c1 y))))) ⟨oe,s5.extBut _ _ ne h3,h4⟩
abbrev mW (tp:Ap)(l:Ad):Cg:={ cls:=.type (if tp then "tuple_iterator" else "list_iterator"),data:=.fields #[.ref l,.int 0 0] }
abbrev zh1 (tp:Ap)(h:Bm)(a:Ad):Bm:=h.push (mW tp a)
abbrev zh2 (tp tq:Ap)(h:Bm)(a b:Ad):Bm:=(zh1 tp h a).push (mW tq b)
abbrev zh3 (tp tq:Ap)(h:Bm)(a b:Ad):Bm:=(zh2 tp tq h a b).push { cls:=.type "tuple",data:=.seq #[.ref h.objs.size,.ref (zh1 tp h a).objs.size] }
abbrev zh4 (tp tq:Ap)(h:Bm)(a b:Ad):Bm:=(zh3 tp tq h a b).push { cls:=.type "tuple",data:=.seq #[.none,.none] }
abbrev zh5 (tp tq:Ap)(h:Bm)(a b:Ad):Bm:=(zh4 tp tq h a b).push { cls:=.type "zip",data:=.fields #[.none,.bool false,.bool false,.ref (zh2 tp tq h a b).objs.size,.ref (zh3 tp tq h a b).objs.size] }
set_option maxHeartbeats 4000000 in
def FM (tp:Ap)(a b:Ad)(xs ys:Av Ac) :
  Meets (Ih.«zip.__new__» ⟨[.type "zip",.ref a,.ref b],[]⟩) (λ_ R s=>wO tp s.heap a xs∧wO tp s.heap b ys∧R (.ok (.ret (.ref (zh4 tp tp s.heap a b).objs.size))) { s with heap:=zh5 tp tp s.heap a b }):=
 .of_wp λprog w A R s h=>by
  obtain⟨hp,g,d,tk,os⟩:=s;obtain⟨q1,q2,h⟩:=h;have hsub:=sub_zip;have e2:∀ ob:Cg,wO tp (hp.push ob) b ys:=λob=>q2.keep λo e=>Aj _ e;cases tp
  ·have l1:Xy (Qq ⟨hp,g,d,tk,os⟩) a xs:=q1
   have l2:Xy (Qq ⟨hp.push { cls:=.type "list_iterator",data:=.fields #[.ref a,.int 0 0] },g,d,tk,os⟩) b ys:=e2 _
   wp_walk using Gj l1,Gj l2
   exact⟨_,rfl,h⟩
  ·have l1:Xq (Qq ⟨hp,g,d,tk,os⟩) a xs:=q1
   have l2:Xq (Qq ⟨hp.push { cls:=.type "tuple_iterator",data:=.fields #[.ref a,.int 0 0] },g,d,tk,os⟩) b ys:=e2 _
   wp_walk using Gy l1,Gy l2
   exact⟨_,rfl,h⟩
def mZ {tp:Ap}{h:Bm}{it l:Ad}(e:h.get? it=Aa (mW tp l)):zV tp h it l 0:=by
 cases tp
 ·exact⟨_,e,rfl,rfl⟩
 ·exact⟨_,e,rfl,rfl⟩
def Y6 {tp:Ap}{a b:Ad}(ha:wO tp s.heap a xs)(hb:wO tp s.heap b ys)
  (h:∀ h',Nn h' (s.heap.objs.size+4) (s.heap.objs.size+2) (s.heap.objs.size+3) .none→IK h' (s.heap.objs.size+2) (.ref s.heap.objs.size) (.ref (s.heap.objs.size+1)) →
   IK h' (s.heap.objs.size+3) .none .none→zV tp h' s.heap.objs.size a 0→zV tp h' (s.heap.objs.size+1) b 0→h'.objs.size=s.heap.objs.size+5→(∀ c o,s.heap.get? c=Aa o→h'.get? c=Aa o)→Q (.ref (s.heap.objs.size+4)) { s with heap:=h' }) :
  Ao (As prog w) A (call (.type "zip") [.ref a,.ref b]) Q E s:=by
 refine callType_new F.called_zip (by decide) (F.typeCall_zip_2 _ _) (F.newCall_zip_2 _ _) (λobj=>F.args_object_init_3 obj _ _) F.entry_zip_new (FM tp a b xs ys) ⟨ha,hb,?_⟩
 have y1:(zh1 tp s.heap a).objs.size=s.heap.objs.size+1:=Dr ..;have y2:(zh2 tp tp s.heap a b).objs.size=s.heap.objs.size+2:=by rw[Dr,y1]
 have y3:(zh3 tp tp s.heap a b).objs.size=s.heap.objs.size+3:=by rw[Dr,y2]
 have y4:(zh4 tp tp s.heap a b).objs.size=s.heap.objs.size+4:=by rw[Dr,y3]
 have y5:(zh5 tp tp s.heap a b).objs.size=s.heap.objs.size+5:=by rw[Dr,y4]
 have g5:(zh5 tp tp s.heap a b).get? (zh4 tp tp s.heap a b).objs.size=Aa _:=Bi _ rfl;have g4:(zh5 tp tp s.heap a b).get? (zh3 tp tp s.heap a b).objs.size=Aa _:=Aj _ (Bi _ rfl);have g3:(zh5 tp tp s.heap a b).get? (zh2 tp tp s.heap a b).objs.size=Aa _:=Aj _ (Aj _ (Bi _ rfl));have g2:(zh5 tp tp s.heap a b).get? (zh1 tp s.heap a).objs.size=Aa (mW tp b):=Aj _ (Aj _ (Aj _ (Bi _ rfl)));have g1:(zh5 tp tp s.heap a b).get? s.heap.objs.size=Aa (mW tp a):=Aj _ (Aj _ (Aj _ (Aj _ (Bi _ rfl))));have kp:∀ c o,s.heap.get? c=Aa o→(zh5 tp tp s.heap a b).get? c=Aa o:=λc o e=>Aj _ (Aj _ (Aj _ (Aj _ (Aj _ e))));show _∧_;rw[y2,y3,y4] at g5;rw[y1,y2] at g3;rw[y3] at g4;rw[y1] at g2;rw[y4];exact⟨⟨_,g5,rfl⟩,h _ g5 g3 g4 (mZ g1) (mZ g2) y5 kp⟩
end
def Sq (tp:Ap)(K:Ak)(H:Hp)(a:Ad)(xs:Ab V):Prop:=if tp then SqT K H a xs else SqL K H a xs
section
variable {X:Cx}{pins:Ab (Ad × Cg)}{σ : _L.St}{H:Hp}{s:Ag}
def Sq.at {tp:Ap}{a:Ad}{xs:Ab V}(I:Inv X pins σ H s)(q:Sq tp X.K H a xs):∃ its,qP xs its∧wO tp s.heap a its.toArray:=by
 cases tp with
 |true =>
  obtain⟨its,rv,p,_⟩:=I.tuple q;exact⟨its,rv,p⟩
 |false =>
  obtain⟨its,rv,p,_⟩:=I.list q;exact⟨its,rv,p.isList⟩
def Sq.inj {tp:Ap}{a:Ad}{xs ys:Ab V}(I:Inv X pins σ H s)(q:Sq tp X.K H a xs)(q':Sq tp X.K H a ys):xs=ys:=by
 cases tp with
 |true=>exact I.tuple_inj q q'
 |false=>exact I.list_inj q q'
def Sq.off {tp:Ap}{a b:Ad}{xs:Ab V}(I:Inv X pins σ H s)(q:Sq tp X.K H a xs)(f:xY X pins H b):a≠b:=by
 have key:H a≠none∨∃ o,X.K.lookup a=Aa o:=by
  cases tp with
  |true =>
   rcases q with (q|⟨o,q⟩)|⟨o,_,_,q,_⟩
   ·exact .inl (by rw[q];intro z;cases z)
   ·exact .inl (by rw[q];intro z;cases z)
   ·exact .inr ⟨_,q⟩
  |false =>
   rcases q with (q|⟨o,q⟩)|⟨o,_,_,q,_⟩
   ·exact .inl (by rw[q];intro z;cases z)
   ·exact .inl (by rw[q];intro z;cases z)
   ·exact .inr ⟨_,q⟩
 rintro rfl;rcases key with k|⟨o,k⟩
 ·exact k f.1
 ·have e:=I.mod.kin a o k
  rcases f.2.2.2.1 with z|z
  ·exact I.ok.noex a o e z
  ·exact absurd (Au (I.ok.bs a o e).1) (Lg.mpr z)
def Inv.turnLay {fp:Ab Ad}{T:Ad}{xs:Ab V}{its:Ab Ac}(I:Inv X pins σ H s)(hf:∀ b∈fp,xY X pins H b)(k:∀ b o,b ∉ fp→s.heap.get? b=Aa o→h'.get? b=Aa o)(th:∀ b∈fp,∃ o,h'.get? b=Aa o)
  (hT:s.heap.objs.size≤T) (rv:qP xs its) (hx:Tu h' T its.toArray) (hz:xs.length≤sizeLine):Inv X pins σ (upd H T (.tup xs)) { s with heap:=h' }:=by
 have hn:H T=none:=I.hok.fresh hT;have ne:∀ b o,s.heap.get? b=Aa o→b≠T:=λb o e=>Cc (Ba (Au e) hT);refine I.step (g':=s.gens) (d':=s.drawn) (t':=s.toks) (ch:=fp) (λb hb=>⟨(hf b hb).2.2.2.1,(hf b hb).2.1,(hf b hb).2.2.2.2.1,(hf b hb).2.2.2.2.2⟩) (λb o _ _ hc e _=>k b o hc e) (λb o _ _ hc e _=>⟨o.slots,k b o hc e⟩)
  (λb o _ e n=>by rw[qN (ne b o e)];exact n) (λb o hc e=>⟨o,k b o hc e⟩) (λb ys e=>by rw[qN (qZ e hn)];exact e) (λb o u e=>by rw[qN (qZ e hn)];exact e)
  (λb ps e=>⟨#[],by rw[qN (qZ e hn),e];simp⟩) (λm hm=>?_) (λb u e=>?_) I.bare
 ·obtain⟨o,es,ep,ho,r⟩:=hm
  exact⟨o,es,ep,k _ o (λz=>(hf _ z).2.1 rfl) ho,r⟩
 ·by_cases hb:b=T
  ·subst hb
   rw[zB] at e;cases e;exact⟨hz,its,rv,hx⟩
  ·rw[qN hb] at e
   refine(I.hok b u e).stay (λc v hc q=>k c v (λz=>?_) q) (λc q=>by rw[qN (qZ q hn)];exact q) λc ys q=>by rw[qN (qZ q hn)];exact q
   have hcn:=(hf c z).1;rcases hc with rfl|hc
   ·rw[hcn] at e;cases e
   ·rw[hcn] at hc;cases hc
def Inv.turnL {fp:Ab Ad}(I:Inv X pins σ H s)(hf:∀ b∈fp,xY X pins H b)(k:∀ b o,b ∉ fp→s.heap.get? b=Aa o→h'.get? b=Aa o):Inv X pins σ H { s with heap:=h' }:=by
 refine I.step (g':=s.gens) (d':=s.drawn) (t':=s.toks) (ch:=fp) (λb hb=>⟨(hf b hb).2.2.2.1,(hf b hb).2.1,(hf b hb).2.2.2.2.1,(hf b hb).2.2.2.2.2⟩) (λb o _ _ hc e _=>k b o hc e) (λb o _ _ hc e _=>⟨o.slots,k b o hc e⟩)
  (λb o _ e n=>n) (λb o hc e=>⟨o,k b o hc e⟩) (λb ys e=>e) (λb o u e=>e) (λb ps e=>⟨#[],by rw[e];simp⟩) (λm hm=>?_) (λb u e=>?_) I.bare
 ·obtain⟨o,es,ep,ho,r⟩:=hm
  exact⟨o,es,ep,k _ o (λz=>(hf _ z).2.1 rfl) ho,r⟩
 ·refine(I.hok b u e).stay (λc v hc q=>k c v (λz=>?_) q) (λc q=>q) λc ys q=>q
  have hcn:=(hf c z).1;rcases hc with rfl|hc
  ·rw[hcn] at e;cases e
  ·rw[hcn] at hc;cases hc
end
def Itz (tp:Ap)(K:Ak)(a b:Ad):It:=
  ⟨λi H=>∃ xs ys x y,Sq tp K H a xs∧Sq tp K H b ys∧xs[i]? = Aa x∧ys[i]? = Aa y,
   λi H v H'=>∃ T x y,v=.ref T∧H T=none∧H'=upd H T (.tup [x,y])∧(∀ xs,Sq tp K H a xs→xs[i]? = Aa x)∧∀ ys,Sq tp K H b ys→ys[i]? = Aa y,
   λi H=>∃ xs ys,Sq tp K H a xs∧Sq tp K H b ys∧(xs.length≤i∨ys.length≤i)⟩
def o8 (tp:Ap)(z I O i j a b:Ad)(k:Ah)(h:Bm):Prop:=∃ p q,Nn h z I O .none∧IK h I (.ref i) (.ref j)∧IK h O p q∧zV tp h i a k∧zV tp h j b k
def bI {tp:Ap}{z I O i j a b:Ad}{k:Ah}{h:Bm}(st:o8 tp z I O i j a b k h):∀ c∈[z,I,O,i,j],∃ o,h.get? c=Aa o∧∀ v,o.data≠.cell v:=λc hc=>by
 obtain⟨p,q,s1,s2,s3,s4,s5⟩:=st;simp only[Bb,Cy,Gc] at hc;rcases hc with rfl|rfl|rfl|rfl|rfl
 ·exact⟨_,s1,λv y=>by cases y⟩
 ·exact⟨_,s2,λv y=>by cases y⟩
 ·exact⟨_,s3,λv y=>by cases y⟩
 ·exact s4.there
 ·exact s5.there
def JL {c z I O i j:Ad}(h:c ∉ [z,I,O,i,j]):c≠z∧c≠O∧c≠i∧c≠j:=by
 simp only[Bb,Cy,Gc,Wx] at h;exact⟨h.1,h.2.2.1,h.2.2.2.1,h.2.2.2.2⟩
def UQ {P:Bd}{w:Bw}{K:Ak}{elts:Ab Bv}{x1:Ah}{tpos:EQ}{tp:Ap}{z I O i j a b:Ad}(D:ZA z I O i j):Turn P w K (.Tuple elts x1 tpos) (Itz tp K a b) [z,I,O,i,j] z (o8 tp z I O i j a b) where
 mem:=.head _
 obj:=λk h st=>bI st
 keep:=λk h h' st kp=>by
  obtain⟨p,q,s1,s2,s3,s4,s5⟩:=st;exact⟨p,q,kp z (.head _) _ s1,kp I (.tail _ (.head _)) _ s2,kp O (.tail _ (.tail _ (.head _))) _ s3,s4.keep λo e=>kp i (.tail _ (.tail _ (.tail _ (.head _)))) o e,s5.keep λo e=>kp j (.tail _ (.tail _ (.tail _ (.tail _ (.head _))))) o e⟩
 item:=by
  intro X hP hw hK hc k pins s σ H E Iv hf st hg;subst hP hw hK;obtain⟨p,q,s1,s2,s3,s4,s5⟩:=st;obtain⟨xs,ys,x,y,qa,qb,hx,hy⟩:=hg;obtain⟨ia,ra,ha⟩:=qa.at Iv;obtain⟨ib,rb,hb⟩:=qb.at Iv;obtain⟨u,hu,ru⟩:=ra.get hx;obtain⟨u',hu',ru'⟩:=rb.get hy;have off:∀ {c:Ad} {zs:Ab V},Sq tp X.K H c zs→Off z O i j c:=λ{c zs} qc=>⟨qc.off Iv (hf z (.head _)),qc.off Iv (hf O (.tail _ (.tail _ (.head _)))),qc.off Iv (hf i (.tail _ (.tail _ (.tail _ (.head _))))),qc.off Iv (hf j (.tail _ (.tail _ (.tail _ (.tail _ (.head _))))))⟩;have hT:s.TypeIs (.ref z) "zip":=⟨_,s1,rfl⟩;unfold Mu;refine Af (IR (Ev (name:=IC "__next__") hT Mp (Et Mp hT Vg
   (UU D (off qa) (off qb) s1 s2 s3 s4 s5 ha hb (by simpa using hu) (by simpa using hu') λh' a1 a2 a3 a4 a5 a6 a7=>Am ?_) (Ui _))))
  refine⟨_,rfl,wpAny_letOwnedTupleGo_zip (s:={ s with heap:=h' }) a1 λh2 b1 b2=>?_⟩
  have up:∀ c o,c≠z→h'.get? c=Aa o→h2.get? c=Aa o:=λc o n e=>(b2.2 c n).trans e;have zl:z<s.heap.objs.size:=Au s1;have T2:IK h2 s.heap.objs.size u u':=up _ _ (Gq zl) a5;have st2:o8 tp z I O i j a b (k+1) h2:=⟨u,u',b1,up _ _ D.Iz (a7 I _ D.Iz D.IO D.Ii D.Ij s2),up _ _ D.Oz a2,a3.keep λo e=>up _ o D.iz e,a4.keep λo e=>up _ o D.jz e⟩;refine⟨.ref s.heap.objs.size,upd H s.heap.objs.size (.tup [x,y]),?_,rfl,⟨_,x,y,rfl,Iv.hok.fresh (Ax _),rfl,λzs qz=>by rw[qz.inj Iv qa];exact hx,λzs qz=>by rw[qz.inj Iv qb];exact hy⟩,st2,λc hc=>?_⟩
  ·show _L.Inv X pins σ (upd H s.heap.objs.size (.tup [x,y])) { s with heap:=h2 }
   refine Inv.turnLay (fp:=[z,I,O,i,j]) (its:=[u,u']) Iv hf (λc o hc e=>?_) (λc hc=>?_) (Ax _) (.cons ru (.cons ru' .nil)) ⟨_,T2,rfl,_,rfl⟩ (by show 2≤sizeLine;decide)
   ·have hc:=JL hc
    exact up c o hc.1 (a7 c o hc.1 hc.2.1 hc.2.2.1 hc.2.2.2 e)
   ·obtain⟨o,e,_⟩:=bI st2 c hc
    exact⟨o,e⟩
  ·have hn:=(hf c hc).1
   rw[qN ?_]
   ·exact hn
   ·rintro rfl
    obtain⟨o,e,_⟩:=bI ⟨p,q,s1,s2,s3,s4,s5⟩ _ hc;exact absurd (Au e) (Ei _)
 done:=by
  intro X hP hw hK hc k pins s σ H E Iv hf st hg;subst hP hw hK;obtain⟨p,q,s1,s2,s3,s4,s5⟩:=st;obtain⟨xs,ys,qa,qb,hend⟩:=hg;obtain⟨ia,ra,ha⟩:=qa.at Iv;obtain⟨ib,rb,hb⟩:=qb.at Iv;have off:∀ {c:Ad} {zs:Ab V},Sq tp X.K H c zs→Off z O i j c:=λ{c zs} qc=>⟨qc.off Iv (hf z (.head _)),qc.off Iv (hf O (.tail _ (.tail _ (.head _)))),qc.off Iv (hf i (.tail _ (.tail _ (.tail _ (.head _))))),qc.off Iv (hf j (.tail _ (.tail _ (.tail _ (.tail _ (.head _))))))⟩;have hT:s.TypeIs (.ref z) "zip":=⟨_,s1,rfl⟩;have l1:=ra.length;have l2:=rb.length;unfold Mu;refine Af (IR (Ev (name:=IC "__next__") hT Mp (Et Mp hT Vg
   (UW (Iv.ok.hd hc) D (off qa) (off qb) s1 s2 s3 s4 s5 ha hb ?_ λh' e kp he=>?_) (Ui _))))
  ·rcases hend with y|y
   ·exact .inl (by simp;omega)
   ·exact .inr (by simp;omega)
  ·obtain⟨o,ho,hcl⟩:=he
   refine Af (OX (T:="StopIteration") (b:=true) ⟨o,ho,hcl⟩ isSubtype_stop (Am ⟨rfl,Inv.turnL (fp:=[z,I,O,i,j]) Iv hf λc o hc e=>?_⟩));have hc:=JL hc;exact kp c o hc.1 hc.2.1 hc.2.2.1 hc.2.2.2 e
 self:=λ_ _ _ _ _ st h=>by
  obtain⟨p,q,s1,_⟩:=st;exact Vh s1 h
def uQ (xs ys:Ab D):Ab D:=List.zipWith (λx y=>D.tup [x,y]) xs ys
def QQ (ds:Ab D):Al (Ab D):=match ds with
 |[.tup xs,.tup ys]=>Aa (uQ xs ys)
 |[.lst xs,.lst ys]=>Aa (uQ xs ys)
 |_=>none
def oM (f:DA):DI:=λenv S=>(f env S).bind λds S1=>vT (QQ ds) S1
def UT {xs ys:Ab D}{i:Ah}:(uQ xs ys)[i]? = match xs[i]?,ys[i]? with|some x,Aa y=>Aa (D.tup [x,y])|_,_=>none:=by
 unfold uQ;rw[List.getElem?_zipWith];cases xs[i]? <;> cases ys[i]? <;> rfl
def mJ (xs ys:Ab D):(uQ xs ys).length=min xs.length ys.length:=by simp[uQ]
section
variable {K:Ak}
def Sq.mono {tp:Ap}{P P':Hp}(e:qI P P'){a:Ad}{xs:Ab V}(q:Sq tp K P a xs):Sq tp K P' a xs:=by
 cases tp with
 |true=>exact vB e q
 |false=>exact e.seq q
def GX {tp:Ap}{P:Hp}{a b:Ad}{xs ys:Ab D}{ws:Ab V}(qa:Sq tp K P a vs)(qb:Sq tp K P b ws)(ta:qG K P α xs vs)(tb:qG K P α ys ws):ItD K (Itz tp K a b) P α (uQ xs ys) where
 go:=λi H P1 α1 S hi r e _=>by
  rw[mJ] at hi;have h1:i<vs.length:=by rw[← ta.length];omega
  have h2:i<ws.length:=by rw[← tb.length];omega
  exact⟨vs,ws,vs[i],ws[i],qa.mono (e.trans r.sub),qb.mono (e.trans r.sub),by simp,by simp⟩
 yld:=λi H x H' P1 α1 S hi r e e2 y=>by
  obtain⟨T,u,w,rfl,hT,rfl,hu,hw⟩:=y;rw[mJ] at hi;have h1:i<xs.length:=by omega
  have h2:i<ys.length:=by omega
  obtain⟨v1,z1,p1⟩:=ta.get (Aq h1);obtain⟨v2,z2,p2⟩:=tb.get (Aq h2);have eu:=hu vs (qa.mono (e.trans r.sub));have ew:=hw ws (qb.mono (e.trans r.sub));rw[z1] at eu;cases eu;rw[z2] at ew;cases ew;obtain⟨r1,s1⟩:=r.pure (o:=.tup [u,w]) hT;refine⟨_,.tup [xs[i],ys[i]],?_,r1,s1,?_⟩
  ·rw[UT,Aq h1,Aq h2]
  ·exact iL (.of zB) (.cons (Rep.mono (e.trans s1) e2 _ _ p1) (.cons (Rep.mono (e.trans s1) e2 _ _ p2) .nil))
 stop:=λi H P1 α1 S hi r e _=>by
  rw[mJ] at hi;have l1:=ta.length;have l2:=tb.length;exact⟨vs,ws,qa.mono (e.trans r.sub),qb.mono (e.trans r.sub),by omega⟩
end
section
variable {X:Cx}{e1 e2:Bv}{elts:Ab Bv}{x1:Ah}{tpos:EQ}{f:DA}{p pos:EQ}
def WU {tp:Ap}{pins:Ab (Ad × Cg)}{σ:_L.St}{H P:Hp}{s:Ag}{a b:Ad}{xs ys:Ab D}{ws:Ab V}{R:It→Hp→Prop}(I:Inv X pins σ H s)(r:Rel X.K H P α S)(qa:Sq tp X.K P a vs)(qb:Sq tp X.K P b ws)(ta:qG X.K P α xs vs)(tb:qG X.K P α ys ws)
  (q:OkI X P α R (uQ xs ys) S):Ao (As X.prog X.w) X.A (call (.type "zip") [.ref a,.ref b]) (λv s1=>Ao (As X.prog X.w) X.A (Nz v) (PIE X pins σ (.Tuple elts x1 tpos) R) X.xe s1) X.xe s:=by
 obtain⟨ia,ra,ha⟩:=(qa.mono r.sub).at I;obtain⟨ib,rb,hb⟩:=(qb.mono r.sub).at I;refine Y6 ha hb λh' z1 z2 z3 z4 z5 z6 z7=>?_;refine Vh (s:={ s with heap:=h' }) z1 ?_
 have D:ZA (s.heap.objs.size+4) (s.heap.objs.size+2) (s.heap.objs.size+3) s.heap.objs.size (s.heap.objs.size+1):=by constructor <;> (intro z;simp at z)
 refine⟨_,[s.heap.objs.size+4,s.heap.objs.size+2,s.heap.objs.size+3,s.heap.objs.size,s.heap.objs.size+1],_,_,H,rfl,I.kept (t':=s.toks) z7,UQ (a:=a) (b:=b) D,⟨_,_,z1,z2,z3,z4,z5⟩,λc hc=>?_,q _ _ P α r (qI.refl _) (Bo _) (GX qa qb ta tb)⟩;have hl:s.heap.objs.size≤c:=by
  simp only[Bb,Cy,Gc] at hc;rcases hc with rfl|rfl|rfl|rfl|rfl <;> simp
 exact I.fpOk hl (I.hok.fresh hl)
inductive ZipV (ds:Ab D)(its:Ab D):Prop
 |tup (xs ys:Ab D) (ed:ds=[.tup xs,.tup ys]) (e:its=uQ xs ys)
 |lst (xs ys:Ab D) (ed:ds=[.lst xs,.lst ys]) (e:its=uQ xs ys)
def FL {its:Ab D}(h:QQ ds=Aa its):ZipV ds its:=by
 cases ds with
 |nil=>exact nn h
 |cons a ds =>
  cases a with
  |tup xs =>
   cases ds with
   |nil=>exact nn h
   |cons b ds =>
    cases b with
    |tup ys =>
     cases ds with
     |nil=>exact .tup xs ys rfl (Co h).symm
     |cons _ _=>exact nn h
    |_=>exact nn h
  |lst xs =>
   cases ds with
   |nil=>exact nn h
   |cons b ds =>
    cases b with
    |lst ys =>
     cases ds with
     |nil=>exact .lst xs ys rfl (Co h).symm
     |cons _ _=>exact nn h
    |_=>exact nn h
  |_=>exact nn h
def MT (hg:Gl X "zip")(hm:X.mg "zip" = none)(ha:PA X [e1,e2] (tDA X f))(hs:Br [e1,e2] X.env=(false,eval e1 X.env)::Br [e2] X.env:=by rfl)(hpl:(Gb pos (Br [e2] X.env)).any (·.1)=false:=by rfl) :
  PI X (.Tuple elts x1 tpos) (.Call (.Name "zip" p) [e1,e2] [] pos) (tDI X (oM f)):=by
 intro pins s σ H R I h;obtain⟨P,α,env,S,r,re,af⟩:=h;refine Call_ (jL I hg hm boot_zip (Hs (thn (yW ha I r re af pos) λus s1 ⟨vs,H1,P1,α1,ds,S1,I1,rv,r1,re1,rp,e1,e2,af1⟩=>?_) hs hpl));obtain⟨its,hi,q⟩:=j7 af1;cases FL hi with
 |tup xs ys ed e =>
  subst ed e;obtain⟨v,w,u,x,rfl,rfl,p1,p2,q1,q2⟩:=kE rp rv;simp only[Rep] at p1 p2;obtain⟨a,va,rfl,qa,ta⟩:=p1;obtain⟨b,vb,rfl,qb,tb⟩:=p2;cases (show u=Cf a from q1)
  cases (show x=Cf b from q2)
  exact WU (tp:=true) I1 r1 qa qb ta tb (q.base e1 e2)
 |lst xs ys ed e =>
  subst ed e;obtain⟨v,w,u,x,rfl,rfl,p1,p2,q1,q2⟩:=kE rp rv;simp only[Rep] at p1 p2;obtain⟨a,va,rfl,qa,ta⟩:=p1;obtain⟨b,vb,rfl,qb,tb⟩:=p2;cases (show u=Cf a from q1)
  cases (show x=Cf b from q2)
  exact WU (tp:=false) I1 r1 qa.l qb.l ta tb (q.base e1 e2)
end
def Src (K:Ak)(mg:Ar→Al Ac)(x:Ar)(st:Ej)(ps:Ab Ar):Prop:=∃ f fd,mg x=Aa (.ref f)∧Fun K x x st f fd∧uG K fd ps []
def Lk (K:Ak)(f:Ad)(fd:Fb):Prop:=∃ oc od osl,K.lookup f=Aa ⟨oc,od,.func fd,osl⟩
def bW {K:Ak}{x q:Ar}{st:Ej}{f:Ad}{fd:Fb}(F:Fun K x q st f fd):Lk K f fd:=by
 obtain⟨oc,od,kV,doc,pm,an,cdv,ct,osl,_,lk,_⟩:=F.ex;exact⟨oc,od,osl,lk⟩
def Lk.one {K:Ak}{f:Ad}{fd fd':Fb}(h:Lk K f fd)(h':Lk K f fd'):fd=fd':=by
 obtain⟨oc,od,osl,e⟩:=h;obtain⟨oc',od',osl',e'⟩:=h';rw[e] at e';cases e';rfl
def Def (P:Bd)(w:Bw)(K:Ak)(mg:Ar→Al Ac)(base:Bm)(cm:Ap)(k:Ah)(x:Ar)(n:Ah)(F:DF):Prop:=
 ∃ f fd ps,ps.length=n∧mg x=Aa (.ref f)∧En K (.ref f)=true∧uG K fd ps [] ∧ Lk K f fd∧FnX P w K mg base cm k f fd ps (spD K n F)
def sO (P:Bd)(w:Bw)(K:Ak)(mg:Ar→Al Ac)(base:Bm)(cm:Ap)(k:Ah)(x:Ar)(ps:Ab Ar)(F:DF):Prop:=
 ∃ f fd,mg x=Aa (.ref f)∧En K (.ref f)=true∧uG K fd ps [] ∧ Lk K f fd∧FnX P w K mg base cm k f fd ps (spD K ps.length F)
section
variable {P:Bd}{w:Bw}{K:Ak}{mg:Ar→Al Ac}{base:Bm}{cm:Ap}
def J2 {x:Ar}{f:Ad}{fd:Fb}{cdv:Ac}(hm:mg x=Aa (.ref f))(lk:Lk K f fd)(h:fd.code=cdv∧Mod K mg base):gG K x cdv:=λc T e=>by
 obtain⟨oc,od,osl,lk⟩:=lk;rw[← h.1];exact PySem.W.law_code h.2.kin h.2.glob e hm (h.2.kin _ _ lk) rfl
def MP {x:Ar}{st:Ej}{ps:Ab Ar}{k:Ah}{g:DS}(h:Src K mg x st ps)(S:FnScope N ps (qJ st))
  (hbody:∀ (f:Ad) (cdv:Ac) (A:Bt) (outer:Ab Hu) (s:Ag) (H:Hp) (E:XK),gG K x cdv→RoomC cm k (A.deeper (Ft x (qJ st) s.heap.objs.size f cdv)) →
   PSs (cxC cm P w K mg base N x (qJ st) f cdv A outer s H E) (zS st) (tDS (cxC cm P w K mg base N x (qJ st) f cdv A outer s H E) g)):Def P w K mg base cm (k+1) x ps.length (qX N.length g):=by
 obtain⟨f,fd,hm,F,hb⟩:=h;exact⟨f,fd,ps,rfl,hm,F.kp,hb,bW F,fnX F S λcdv A outer s H E hc hr=>hbody f cdv A outer s H E (J2 hm (bW F) hc) hr⟩
def KU {x:Ar}{st:Ej}{ps:Ab Ar}{k:Ah}{g:DS}(h:Src K mg x st ps)(S:FnScope N ps (qJ st))
  (hbody:∀ (f:Ad) (cdv:Ac) (A:Bt) (outer:Ab Hu) (s:Ag) (H:Hp) (E:XK),gG K x cdv→RoomC cm k (A.deeper (Ft x (qJ st) s.heap.objs.size f cdv)) →
   PSs (cxC cm P w K mg base N x (qJ st) f cdv A outer s H E) (zS st) (tDS (cxC cm P w K mg base N x (qJ st) f cdv A outer s H E) g)):sO P w K mg base cm (k+1) x ps (qX N.length g):=by
 obtain⟨f,fd,hm,F,hb⟩:=h;exact⟨f,fd,hm,F.kp,hb,bW F,fnX F S λcdv A outer s H E hc hr=>hbody f cdv A outer s H E (J2 hm (bW F) hc) hr⟩
def Def.any {x:Ar}{k n:Ah}{F:DF}(h:Def P w K mg base false k x n F):Def P w K mg base cm k x n F:=by
 obtain⟨f,fd,ps,hn,hm,kp,hb,hl,X⟩:=h;exact⟨f,fd,ps,hn,hm,kp,hb,hl,X.any⟩
end
section
variable {X:Cx}{cm:Ap}{k n:Ah}{F:DF}{x:Ar}{p pos:EQ}{e:Bv}{es:Ab Bv}{fa:DA}
def dcN (G:Def X.prog X.w X.K X.mg X.base cm k x n F)(hr:RoomC cm k X.A)(hF:Fn1 X)(hg:Gl X x)(ha:PA X (e::es) (tDA X fa))(hdb:(x == ("__debug__" : Ar))=false:=by decide)(he:Br (e::es) X.env=(false,eval e X.env)::Br es X.env:=by rfl)(hpl:(Gb pos (Br es X.env)).any (·.1)=false:=by rfl) :
  PE X (.Call (.Name x p) (e::es) [] pos) (tD X (qE n F fa)):=by
 obtain⟨f,fd,ps,hn,hm,kp,hb,hl,G⟩:=G;exact KN G hr hF hg hm kp hb ha hdb he hpl
def MC (hg:Gl X x)(hm:X.mg x=Aa (.ref C))(hk:En X.K (.ref C)=true)(hd:(x == ("__debug__" : Ar))=false:=by decide):PE X (.Name x pos) (tD X (dC (.obj C))):=
 aG hg hm (v:=.ref C) rfl (λP α => by simp only[Rep];exact⟨trivial,hk⟩) hd
end
def xI:DF:=λds S=>match ds with
 |[.dct0]=>.bad
 |_=>rO ds S
def K9 {X:Cx}:wN X (.builtin "len") xI:=M0 trivial
def pR:DE:=λ_ _=>.bad
def MB {X:Cx}{e:Bv}:PE X e (tD X pR):=λ_ _ _ _ _ _ ⟨_,_,_,_,_,_,h⟩=>An h
def J0:∃ C:Ai→Ai→Ap,C=sW:=⟨_,rfl⟩
def UZ:Ai→Ai→Ap:=OV J0
def sX:UZ=sW:=Lv J0
def z0:G2:=i2 UZ λi j=>.int (i*j)
def PU {X:Cx}:OpD X (Ex .Mult) z0:=by
 unfold z0;rw[sX];exact PR
def hu1 {cm:Ap}{k:Ah}{A:Bt}(hr:RoomC cm k A):A.units+1<Ey:=by have:=hr.units;omega
def okO (F:DF):DF:=λds S=>match F ds S with
 |.ok d S'=>.ok d S'
 |_=>.bad
def eG {F:DF}{S':Sto}{d:D}(h:F ds S=.ok d S'):okO F ds S=.ok d S':=by unfold okO;rw[h]
section
variable {X:Cx}{cm:Ap}{k n:Ah}{F:DF}{x:Ar}{p pos:EQ}{e:Bv}{es:Ab Bv}{fa:DA}{f:Ad}{fd:Fb}{ps:Ab Ar}
def BS {pins:Ab (Ad × Cg)}{σ:_L.St}{H:Hp}{s:Ag}{Q:VK}{P:Hp}(G:FnX X.prog X.w X.K X.mg X.base cm k f fd ps (spD X.K n F))(hr:RoomC cm k X.A)(hb:uG X.K fd ps [])
  (I:Inv X pins σ H s) (r:Rel X.K H P α S) (rv:qP vs us) (rp:qG X.K P α ds vs) (hn:ds.length=n) (af:z9 X P α (okO F ds S) Q):Ao (As X.prog X.w) X.A (call (.ref f) us) (EP X pins σ Q) X.xe s:=by
 have hvn:vs.length=n:=by rw[← rp.length];exact hn
 have hsp:spD X.K n F vs H Q λ_ _ _=>Fa:=by
  refine⟨hvn,P,α,ds,S,r,rp,?_⟩;unfold okO at af;cases q:F ds S with
  |ok d S'=>rw[q] at af;exact af
  |ex c x S'=>rw[q] at af;exact An af
  |bad=>rw[q] at af;exact af
 have hl:us.length=ps.length:=by rw[← rv.length];exact G.len _ _ _ _ hsp
 have hb':=hb s us I.kIn (by rw[Fm];exact hl)
 rw[Fm] at hb';refine Na (IE (G.run X.A X.stack s H ⟨us,[]⟩ us vs Q _ hr I.env0 hb' rv hsp) λr s' hq=>?_);cases r with
 |error u =>
  obtain⟨_,_,_,_,_,_,_,_,_,_,_,_,z⟩:=hq;exact An z
 |ok fl =>
  cases fl with
  |ret u=>exact I.after hq
  |next=>exact An hq
  |brk=>exact An hq
  |cont=>exact An hq
def dcO (G:Def X.prog X.w X.K X.mg X.base cm k x n F)(hr:RoomC cm k X.A)(hg:Gl X x)(ha:PA X (e::es) (tDA X fa))(hdb:(x == ("__debug__" : Ar))=false:=by decide)(he:Br (e::es) X.env=(false,eval e X.env)::Br es X.env:=by rfl)(hpl:(Gb pos (Br es X.env)).any (·.1)=false:=by rfl) :
  PE X (.Call (.Name x p) (e::es) [] pos) (tD X (qE n (okO F) fa)):=by
 obtain⟨f,fd,ps,hn0,hm,hk,hb,hl,G⟩:=G;intro pins s σ H Q I h;obtain⟨P,α,env,S,r,re,af⟩:=h;refine Gz (j6 I hg hm ?_ hdb);refine Nu (h₀:=X.base) I.ok.mod.kin hk (thn (yW ha I r re af pos) λus s1 ⟨vs,H1,P1,α1,ds,S1,I1,rv,r1,re1,rp,e1,e2,af1⟩=>⟨I1.kIn,?_⟩) he hpl;obtain⟨hn,af2⟩:=lU (env:=env) (S:=S) af1;exact BS G hr hb I1 r1 rv rp hn (z9.base e1 e2 af2)
end
structure QE (X:Cx)(e:Bv)(f:DE):Prop where
 get:PE X e (tD X f)
structure QT (X:Cx)(e:Bv)(t:DT):Prop where
 get:PT X e (tDT X t)
structure QW (X:Cx)(e:Bv)(t:DT):Prop where
 get:PWD X e t
structure QA (X:Cx)(es:Ab Bv)(f:DA):Prop where
 get:PA X es (tDA X f)
structure QO (X:Cx)(e:Al Bv)(f:DO):Prop where
 get:PO X e (tDO X f)
structure QG (X:Cx)(t:Bv)(g:DG):Prop where
 get:PG X t (tDG X g)
structure QGs (X:Cx)(ts:Ab Bv)(g:DGs):Prop where
 get:PGs X ts (cD X g)
structure QI (X:Cx)(tg it:Bv)(f:DI):Prop where
 get:PI X tg it (tDI X f)
structure QS (X:Cx)(s:Ej)(f:DS):Prop where
 get:PS X s (tDS X f)
structure QB (X:Cx)(ss:Ab Ej)(f:DS):Prop where
 get:PSs X ss (tDS X f)
structure QJ (X:Cx)(es:Ab Bv)(fs:Ab DE):Prop where
 get:PJ X es fs
structure ZOp (X:Cx)(f:Ac→Ac→Jm Ac)(g:G2):Prop where
 get:OpD X f g
structure ZUn (X:Cx)(f:Ac→Jm Ac)(g:D→Sto→Res D):Prop where
 get:UnD X f g
structure ZIx (X:Cx)(g:G2):Prop where
 get:IxD X g
structure ZCall (X:Cx)(f:Ac)(F:DF):Prop where
 get:wN X f F
structure ZMt (X:Cx)(id:Do)(g:D→Ab D→Sto→Res D):Prop where
 get:MtD X id g
structure ZSet (X:Cx)(g:G3):Prop where
 get:sQ X (sM X g)
structure ZPass (X:Cx):Prop where
 get:Mi (As X.prog X.w) X.A X.env X.xe
section
variable {X:Cx}{a b c e e1 e2 o i:Bv}{es qK:Ab Bv}{fa fb fc fe fo fi:DE}{ta tb:DT}{fA:DA}{f g:DS}{st:Ej}{sts:Ab Ej}{x:Ar}{p pos:EQ}{n k:Ah}{cm:Ap}{F:DF}{G2':G2}
def XY:QE X (.Constant .none j pos) (dC .non):=⟨MJ⟩
def JP:QE X (.Constant (.bool v) j pos) (dC (.bl v)):=⟨R6⟩
def D2:QE X (.Constant (.int v) j pos) (dC (.int v)):=⟨MG⟩
def D6:QE X (.Constant (.str v) j pos) (dC (.str v)):=⟨MM⟩
def D7 (m:Ah)(hN:X.N[m]? = Aa x)(hv:Vis X.env.scope x)(hd:(x == ("__debug__" : Ar))=false)(hcd:(x == ("__classdict__" : Ar))=false):QE X (.Name x pos) (qB m):=⟨dv m hN hv hd hcd⟩
def BF {nm:Do}(hg:Gl X x)(hm:X.mg x=none)(hv:Fy x=Aa (.type nm))(hn:x ≠ "__name__")(hd:(x == ("__debug__" : Ar))=false):QE X (.Name x pos) (dC (.ty nm)):=⟨KM hg hm hv hn hd⟩
def LZ (hg:Gl X x)(hm:X.mg x=Aa (.ref C))(hk:En X.K (.ref C)=true)(hd:(x == ("__debug__" : Ar))=false):QE X (.Name x pos) (dC (.obj C)):=⟨MC hg hm hk hd⟩
def BH {v:Ai}(hg:Gl X x)(hm:∃ t,X.mg x=Aa (.int v t))(hd:(x == ("__debug__" : Ar))=false):QE X (.Name x pos) (dC (.int v)):=⟨let ⟨_,h⟩:=hm;aG (v:=.int v) hg h ⟨_,rfl⟩ (λ_ _=>by simp only[Rep]) hd⟩
def LY:QE X e pR:=⟨MB⟩
def EH {op:UnaryOp}{h:D→Sto→Res D}(ho:ZUn X (Uu op) h)(ha:QE X a fa):QE X (.UnaryOp op a pos) (d1 h fa):=⟨RB ho.1 ha.1⟩
def D5 (ha:QE X a fa):QE X (.UnaryOp .Not a pos) (YG fa):=⟨MK ha.1⟩
def EG {op:Operator}(ho:ZOp X (Ex op) G2')(ha:QE X a fa)(hb:QE X b fb):QE X (.BinOp a op b pos) (d2 G2' fa fb):=⟨RA ho.1 ha.1 hb.1⟩
def XX {op:Ru}(ho:ZOp X (Di op) G2')(ha:QE X a fa)(hb:QE X b fb)(hm:Jp op b=false:=by first|exact kZ _|with_unfolding_all rfl):QE X (.Compare a [op] [b] pos) (d2 G2' fa fb):=⟨MD ho.1 ha.1 hb.1 hm⟩
def U6 {op op':Ru}{g':G2}(ho:ZOp X (Di op) G2')(ho':ZOp X (Di op') g')(ha:QE X a fa)(hb:QE X b fb)(hc:QE X c fc)(hm:Ue [op,op'] [b,c]=false:=by with_unfolding_all rfl):QE X (.Compare a [op,op'] [b,c] pos) (wI G2' g' fa fb fc):=⟨YJ ho.1 ho'.1 ha.1 hb.1 hc.1 hm⟩
def XZ  (h:QE X a fa):QE X (.BoolOp op [a] pos) fa:=⟨ML h.1⟩
def XU (ha:QE X a fa)(hb:QE X (.BoolOp .And (b::qK) pos) fb):QE X (.BoolOp .And (a::b::qK) pos) (n6 fa fb):=⟨MA ha.1 hb.1⟩
def EE (hc:QT X c ta)(ha:QE X a fa)(hb:QE X b fb):QE X (.IfExp c a b pos) (dIf ta fa fb):=⟨R8 hc.1 ha.1 hb.1⟩
def W1  (h:QA X es fA):QE X (.Tuple es x1 pos) (qQ fA):=⟨MN h.1⟩
def D4 (h:QA X es fA):QE X (.List es pos) (zL fA):=⟨MI h.1⟩
def BJ (h:QA X es fA):QE X (.List es pos) (vL fA):=⟨KR h.1⟩
def D0:QE X (.Dict [] [] pos) YF:=⟨ME⟩
def BG:QE X (.Dict [] [] pos) oK:=⟨KP⟩
def EF (ho:ZIx X G2')(ha:QE X a fa)(hb:QE X b fb)(hs:tV b:=by intro _ _;rfl):QE X (.Subscript a b pos) (d2 G2' fa fb):=⟨R9 ho.1 ha.1 hb.1 hs⟩
def U8 {lo hi:Al Bv}{fl fh:DO}{p2:EQ}(he:QE X e fe)(hl:QO X lo fl)(hu:QO X hi fh):QE X (.Subscript e (.Slice lo hi none p2) pos) (dSl fe fl fh):=⟨YL he.1 hl.1 hu.1⟩
def BM (he:QE X e fe):QO X (Aa e) (vN fe):=⟨G6 he.1⟩
def D1 (he:QE X e fe):QE X (.FormattedValue e (-1) none pos) (d1 kI fe):=⟨MF he.1⟩
def DC:QJ X [] []:=⟨LI⟩
def BL {fs:Ab DE}(he:QE X e fe)(hr:QJ X es fs):QJ X (e::es) (fe::fs):=⟨B9 he.1 hr.1⟩
def BI {fs:Ab DE}(h:QJ X (e1::e2::qK) fs):QE X (.JoinedStr (e1::e2::qK) pos) (sD fs):=⟨KQ h.1⟩
def XR:QA X [] qC:=⟨M8⟩
def iF (ha:QE X e fa)(hr:QA X es fA)(hs:Br (e::es) X.env=(false,eval e X.env)::Br es X.env:=by rfl):QA X (e::es) (qA fa fA):=⟨KL ha.1 hr.1 hs⟩
def qcN (G:Def X.prog X.w X.K X.mg X.base cm k x n F)(hr:RoomC cm k X.A)(hF:Fn1 X)(hg:Gl X x)(ha:QA X (e::es) fA)(hdb:(x == ("__debug__" : Ar))=false)(he:Br (e::es) X.env=(false,eval e X.env)::Br es X.env:=by rfl)(hpl:(Gb pos (Br es X.env)).any (·.1)=false:=by rfl):QE X (.Call (.Name x p) (e::es) [] pos) (qE n F fA):=⟨dcN G hr hF hg ha.1 hdb he hpl⟩
def U5 {id:Do}(hc:ZCall X (.builtin id) F)(hg:Gl X x)(hm:X.mg x=none)(hv:Fy x=Aa (.builtin id))(ha:QA X (e::es) fA)(hn:x ≠ "__name__")(hdb:(x == ("__debug__" : Ar))=false)(he:Br (e::es) X.env=(false,eval e X.env)::Br es X.env:=by rfl)(hpl:(Gb pos (Br es X.env)).any (·.1)=false:=by rfl):QE X (.Call (.Name x p) (e::es) [] pos) (qH F fA):=⟨YH hc.1 hg hm hv ha.1 hn hdb he hpl⟩
def XW {T:Do}(hc:ZCall X (.type T) F)(hg:Gl X x)(hm:X.mg x=none)(hv:Fy x=Aa (.type T))(ha:QA X (e::es) fA)(hn:x ≠ "__name__")(hdb:(x == ("__debug__" : Ar))=false)(he:Br (e::es) X.env=(false,eval e X.env)::Br es X.env:=by rfl)(hpl:(Gb pos (Br es X.env)).any (·.1)=false:=by rfl):QE X (.Call (.Name x p) (e::es) [] pos) (qH F fA):=⟨ZI hc.1 hg hm hv ha.1 hn hdb he hpl⟩
def sI {T id:Do}{name:Ar}{apos:EQ}{h:D→Ab D→Sto→Res D}(pa:PlainAttrs T)(slot:Slot T name id)(hty:typeOf (.builtin id)=pure (.type "method_descriptor"))(hT:T = "list" ∨ T = "dict" ∨ T = "int" ∨ T = "str")(hm:ZMt X id h)(ho:QE X o fo)(ha:QA X (e::es) fA)
  (hbase:attributeBase o name X.env (eval o X.env)=eval o X.env:=by rfl)
  (hfew:((Gb pos (Br (e::es) X.env)).all (λx=>!x.1)&&(backToKw pos (keywordEach [] X.env)).all (λx=>x.1.isSome)&&decide ((e::es).length+([]:Ab Xd).length+(if ([] : Ab Xd).isEmpty then 0 else 1)<30))=true:=by rfl)
  (hline:(apos.endLine == pos.line)=true:=by rfl) (hs:Br (e::es) X.env=(false,eval e X.env)::Br es X.env:=by rfl) (hplain:(Gb pos (Br es X.env)).any (·.1)=false:=by rfl):QE X (.Call (.Attribute o name apos) (e::es) [] pos) (dBm T h fo fA):=⟨R7 pa slot hty hT hm.1 ho.1 ha.1 hbase hfew hline hs hplain⟩
def JR (h:QW X e ta):QT X e ta:=⟨PWD.pt h.1⟩
def iJ (ha:QT X a ta):QW X (.BoolOp .And [a] pos) ta:=⟨GC ha.1⟩
def tI (ha:QT X a ta):QW X (.BoolOp .Or [a] pos) ta:=⟨TF ha.1⟩
def WA (ha:QT X a ta)(hb:QW X (.BoolOp .And (b::qK) pos) tb):QW X (.BoolOp .And (a::b::qK) pos) (yM ta tb):=⟨TC ha.1 hb.1⟩
def sJ (ha:QT X a ta)(hb:QW X (.BoolOp .Or (b::qK) pos) tb):QW X (.BoolOp .Or (a::b::qK) pos) (vM ta tb):=⟨RH ha.1 hb.1⟩
def DP (ha:QT X a ta):QT X (.UnaryOp .Not a pos) (xB ta):=⟨T9 ha.1⟩
def W7 {op:Ru}(ho:ZOp X (Di op) G2')(ha:QE X a fa)(hb:QE X b fb)(hm:Jp op b=false:=by first|exact kZ _|with_unfolding_all rfl):QT X (.Compare a [op] [b] pos) (dTr (d2 G2' fa fb)):=⟨T7 ho.1 ha.1 hb.1 hm⟩
def UD {op op':Ru}{g':G2}(ho:ZOp X (Di op) G2')(ho':ZOp X (Di op') g')(ha:QE X a fa)(hb:QE X b fb)(hc:QE X c fc)(hm:Ue [op,op'] [b,c]=false:=by with_unfolding_all rfl):QT X (.Compare a [op,op'] [b,c] pos) (dTr (wI G2' g' fa fb fc)):=⟨YV ho.1 ho'.1 ha.1 hb.1 hc.1 hm⟩
def W8 (ha:QE X a fa)(he:∀ whole,isTrue a X.env whole=(do let v ← whole;Sc a.pos;holding [v] (truthy v)):=by intro _;rfl):QT X a (dTr fa):=⟨TB ha.1 he⟩
def BK (hN:X.N.Nodup)(hi:X.N[m]? = Aa x)(hx:Loc X.env.scope x)(hf:X.fn x=true∨X.env.scope.names.lookup x=Aa .local):QG X (.Name x pos) (gNm m):=⟨KW hN hi hx hf⟩
def iG:QGs X [] xS:=⟨KY⟩
def eQ {h:DG}{gs:DGs}(h1:QG X e h)(h2:QGs X es gs)(hs:(Ge (e::es) X.env).map (·.2)=assign e X.env::(Ge es X.env).map (·.2):=by rfl):QGs X (e::es) (zD h gs):=⟨YM h1.1 h2.1 hs⟩
def W3 {kk:Ah}{gs:DGs}(hc:X.calm=true)(h:QGs X es gs)(hn:(Ge es X.env).length=n:=by rfl)(hst:(Ge es X.env).findIdx? (·.1)=none:=by rfl):QG X (.Tuple es kk pos) (gTp n gs):=⟨MR hc h.1 hn hst⟩
def D8 {h:G3}(ho:QE X o fo)(hi:QE X i fi)(hs:ZSet X h)
  (ha:∀ v,assign (.Subscript o i pos) X.env v=(do
   let ov ← holding [v] (eval o X.env)
   let iv ← holding [v,ov] (eval i X.env)
   Sc pos
   holding [v,ov,iv] (WF ov iv v)
   release [v,ov,iv] []):=by intro _;rfl):QG X (.Subscript o i pos) (gSb fo fi h):=⟨MQ ho.1 hi.1 hs.1 ha⟩
def DB {tg:Bv}(ha:QE X e fa):QI X tg e (xZ fa):=⟨MS ha.1⟩
def U9 {tg:Bv}(hg:Gl X "range")(hm:X.mg "range" = none)(ha:QA X (e::es) fA)(hs:Br (e::es) X.env=(false,eval e X.env)::Br es X.env:=by rfl)(hpl:(Gb pos (Br es X.env)).any (·.1)=false:=by rfl):QI X tg (.Call (.Name "range" p) (e::es) [] pos) (w6 fA):=⟨YN hg hm ha.1 hs hpl⟩
def W5 {elts:Ab Bv}{x1:Ah}{tpos:EQ}(hg:Gl X "zip")(hm:X.mg "zip" = none)(ha:QA X [e1,e2] fA)(hs:Br [e1,e2] X.env=(false,eval e1 X.env)::Br [e2] X.env:=by rfl)(hpl:(Gb pos (Br [e2] X.env)).any (·.1)=false:=by rfl):QI X (.Tuple elts x1 tpos) (.Call (.Name "zip" p) [e1,e2] [] pos) (oM fA):=⟨MT hg hm ha.1 hs hpl⟩
def XT:QB X [] zH:=⟨MX⟩
def tH (h:QS X st f):QB X [st] f:=⟨MY h.1⟩
def f9 (h1:QS X st f)(h2:QB X sts g):QB X (st::sts) (qL f g):=⟨G7 h1.1 h2.1⟩
def BN (he:QE X e fa)(hs:Kz e none pos.line X.env=pure false:=by rfl):QS X (.Expr e pos) (zR fa):=⟨G8 he.1 hs⟩
def W6 (he:QE X e fa):QS X (.Return (Aa e) pos) (zA fa):=⟨T3 he.1⟩
def JQ {as bs:Ab Ej}(hc:QT X c ta)(ha:QB X as f)(hb:QB X bs g):QS X (.If c as bs pos) (sIf ta f g):=⟨RF hc.1 ha.1 hb.1⟩
def UC (hp:ZPass X)(hc:QT X c ta)(hb:QB X body f):QS X (.While c body [] pos) (tN ta f):=⟨YU hp.1 hc.1 hb.1⟩
def DH {tg iter:Bv}{fI:DI}{h:DG}(hp:ZPass X)(hc:X.calm=true)(hi:QI X tg iter fI)(hg:QG X tg h)(hb:QB X body f)(hs:∀ x,Fh iter X.env x=pure x:=by intro _;rfl):QS X (.For tg iter body [] pos) (wR fI h f):=⟨MW hp.1 hc hi.1 hg.1 hb.1 hs⟩
def DM {pos':EQ}(hN:X.N.Nodup)(he:QE X e fa)(hi:X.N[m]? = Aa x)(hx:Loc X.env.scope x)(hs:Kz e (Aa (.Name x pos')) pos.line X.env=pure false)(hf:X.fn x=true∨X.env.scope.names.lookup x=Aa .local):QS X (.Assign [.Name x pos'] e pos) (qT fa (gNm m)):=⟨T4 hN he.1 hi hx hs hf⟩
def DD {tg:Bv}{h:DG}(he:QE X e fa)(hg:QG X tg h)(hs:Jo [tg] e pos.line X.env=pure false:=by rfl)(hw:Jn [tg] e X.env=pure none:=by rfl)(h1:(Ge [tg] X.env).map (·.2)=[assign tg X.env]:=by rfl):QS X (.Assign [tg] e pos) (qT fa h):=⟨MV he.1 hg.1 hs hw h1⟩
def DJ {l:Ah}{y:Ar}{px pt:EQ} {kt k2 pt2} (hc:X.calm=true) (hN:X.N.Nodup) (ha:QA X [a,b] fA) (hi:X.N[m]? = Aa x) (hj:X.N[l]? = Aa y) (hij:m≠l) (hx:X.env.scope.names.lookup x=Aa .local) (hy:X.env.scope.names.lookup y=Aa .local)
  (hw:Jn [.Tuple [.Name x px,.Name y py] kt pt] (.Tuple [a,b] k2 pt2) X.env=pure (Aa [x,y]):=by rfl) (hs:Jo [.Tuple [.Name x px,.Name y py] kt pt] (.Tuple [a,b] k2 pt2) pos.line X.env=pure false:=by rfl) :
  QS X (.Assign [.Tuple [.Name x px,.Name y py] kt pt] (.Tuple [a,b] k2 pt2) pos) (jR m l fA):=⟨MZ hc hN ha.1 hi hj hij hx hy hw hs⟩
def UB {Ae:Ad}{np cpos:EQ}(hc:X.calm=true)(hF:Fn1 X)(hg:Gl X x)(hm:X.mg x=Aa (.ref C))(hx:fR X.K C Ae=true)(ha:QA X (e::qK) fA)(hdb:(x == ("__debug__" : Ar))=false)(he:Br (e::qK) X.env=(false,eval e X.env)::Br qK X.env:=by rfl)(hpl:(Gb cpos (Br qK X.env)).any (·.1)=false:=by rfl) :
  QS X (.Raise (Aa (.Call (.Name x np) (e::qK) [] cpos)) none pos) (vU (.ref C) fA):=⟨YT hc hF hg hm hx ha.1 hdb he hpl⟩
def DN {nm:Ar}{C0:Ad}{b₀:Ej}{suite:Ab Ej}{np hpos:EQ}{cs:Ab Ac}(hF:Fn1 X)(hb:∀ E pn,ZPass (Cx.tryIn X E pn)→QB (Cx.tryIn X E pn) body f)(hs:∀ e,QB (Cx.suite X e) (b₀::suite) g)(hg:Gl X x)(hm:X.mg x=Aa (.ref C0))(hcs:∀ c∈cs,Iu X.K c (.ref C0)=Aa true)(hN:X.N.Nodup)(hi:X.N[m]? = Aa nm)(hlo:X.env.scope.names.lookup nm=Aa .local)(hdb:(x == ("__debug__" : Ar))=false)(hn:X.N.length=n) :
  QS X (.Try body [.ExceptHandler (Aa (.Name x np)) (Aa nm) (b₀::suite) hpos] [] [] pos) (mC n m cs f g):=⟨hn▸T6 hF (λE pn hp=>(hb E pn ⟨hp⟩).1) (λe=>(hs e).1) hg hm hcs hN hi hlo hdb⟩
def HB:ZOp X (Ex .Add) qW:=⟨NP⟩
def HL:ZOp X (Ex .Sub) zJ:=⟨NU⟩
def HG:ZOp X (Ex .Mult) z0:=⟨PU⟩
def HC:ZOp X (Ex .FloorDiv) uA:=⟨NQ⟩
def HF:ZOp X (Ex .Mod) uN:=⟨NS⟩
def HJ:ZOp X (Ex .Pow) xR:=⟨NT⟩
def AK:ZOp X (Di .Lt) gLt:=⟨E4⟩
def AJ:ZOp X (Di .LtE) gLe:=⟨E2⟩
def AH:ZOp X (Di .GtE) gGe:=⟨E0⟩
def SW:ZOp X (Di .Is) gIs:=⟨E1⟩
def FI:ZOp X (Di .IsNot) jH:=⟨VV⟩
def SV (hr:RoomC cm k X.A):ZOp X (Di .Eq) gEq:=⟨RZ hr.units⟩
def R0 (hr:RoomC cm k X.A):ZOp X (Di .NotEq) gNe:=⟨JN hr.units⟩
def HH (hr:RoomC cm k X.A):ZOp X (Di .NotEq) (kA gNe):=⟨OpD.look (JN hr.units)⟩
def HI:ZUn X (Uu .USub) yR:=⟨SQ⟩
def AI:ZIx X gIx:=⟨CT⟩
def K0:ZCall X (.builtin "isinstance") xC:=⟨Z5⟩
def SX {cl:Ab Ad}(h:ClsK X.K cl):ZCall X (.builtin "isinstance") (zX cl):=⟨K7 h⟩
def K1:ZCall X (.builtin "len") xI:=⟨K9⟩
def JZ (hc:X.calm=true):ZCall X (.builtin "all") (fU false):=⟨FY false hc⟩
def HE:ZCall X (.type "int") rN:=⟨FZ⟩
def FK:ZCall X (.type "tuple") jF:=⟨Y7⟩
def UR:ZMt X "list.append" y7:=⟨X6⟩
def FG:ZMt X "list.count" mQ:=⟨VN⟩
def FH:ZMt X "list.index" mR:=⟨VO⟩
def HK (hr:RoomC cm k X.A):ZSet X v7:=⟨DZ (hu1 hr)⟩
end
section
variable {P:Bd}{w:Bw}{K:Ak}{mg:Ar→Al Ac}{base:Bm}{cm:Ap}
def iX {qual:Ar}{scope:Eh}{f:Ad}{cd:Ac}{A:Bt}{outer:Ab Hu}{s:Ag}{H:Hp}{E:XK}:ZPass (cxC cm P w K mg base N qual scope f cd A outer s H E):=⟨YD⟩
def CJ {x:Ar}{st:Ej}{ps:Ab Ar}{k:Ah}{g:DS}(h:Src K mg x st ps)(S:FnScope N ps (qJ st))(hbd:zS st=body)
  (hbody:∀ (f:Ad) (cdv:Ac) (A:Bt) (outer:Ab Hu) (s:Ag) (H:Hp) (E:XK),gG K x cdv→RoomC cm k (A.deeper (Ft x (qJ st) s.heap.objs.size f cdv)) →
   QB (cxC cm P w K mg base N x (qJ st) f cdv A outer s H E) body g):Def P w K mg base cm (k+1) x ps.length (qX N.length g):=
 MP h S λf cdv A outer s H E hc hr=>hbd▸(hbody f cdv A outer s H E hc hr).1
def RC {x:Ar}{st:Ej}{ps:Ab Ar}{k:Ah}{g:DS}(h:Src K mg x st ps)(S:FnScope N ps (qJ st))(hbd:zS st=body)
  (hbody:∀ (f:Ad) (cdv:Ac) (A:Bt) (outer:Ab Hu) (s:Ag) (H:Hp) (E:XK),gG K x cdv→RoomC cm k (A.deeper (Ft x (qJ st) s.heap.objs.size f cdv)) →
   QB (cxC cm P w K mg base N x (qJ st) f cdv A outer s H E) body g):sO P w K mg base cm (k+1) x ps (qX N.length g):=
 KU h S λf cdv A outer s H E hc hr=>hbd▸(hbody f cdv A outer s H E hc hr).1
def KS {x:Ar}{st:Ej}{ps:Ab Ar}(h:Src K mg x st ps):Def P w K mg base cm 0 x ps.length λ_ _=>.bad:=by
 obtain⟨f,fd,hm,F,hb⟩:=h;exact⟨f,fd,ps,rfl,hm,F.kp,hb,bW F,⟨λvs H Q E z=>z.1,λA outer s H args us vs Q E _ _ _ _ z=>by obtain⟨_,_,_,_,_,_,_,z⟩:=z;exact An z⟩⟩
end
structure QTs (X:Cx)(ifs:Ab Bv)(t:DT):Prop where
 get:PTs X ifs t
section
variable {X:Cx}{elt tg iter e:Bv}{ifs es:Ab Bv}{scope:Eh}{pos p:EQ}{N':Ab Ar}{cap:Ab (Al Ah)}{fi:DI}{g:DG}{t u:DT}{fe:DE}{fa:DA}{x:Ar}{cm:Ap}{k n:Ah}{F:DF}
def iI:QTs X [] w8:=⟨GB⟩
def qcO (G:Def X.prog X.w X.K X.mg X.base cm k x n F)(hr:RoomC cm k X.A)(hg:Gl X x)(ha:QA X (e::es) fa)(hdb:(x == ("__debug__" : Ar))=false)(he:Br (e::es) X.env=(false,eval e X.env)::Br es X.env:=by rfl)(hpl:(Gb pos (Br es X.env)).any (·.1)=false:=by rfl) :
  QE X (.Call (.Name x p) (e::es) [] pos) (qE n (okO F) fa):=⟨dcO G hr hg ha.1 hdb he hpl⟩
end
def stn (o:Al (Ah × MO))(S:Sto):Prop:=match o with
 |none=>Op
 |some p=>S[p.1]? = Aa p.2
open Classical in
def QF (o:Al (Ah × MO))(S:Sto):Ap:=decide (stn o S)
def vC {o:Al (Ah × MO)}:QF o S=true↔stn o S:=by simp[QF]
structure ItD2 (K:Ak)(J:It)(P:Hp)(α : Ab Ad)(o:Al (Ah × MO))(ds:Ab D):Prop where
 go:∀ i H P1 α1 S,i<ds.length→Rel K H P1 α1 S→stn o S→qI P P1→α<+:α1→J.go i H
 yld:∀ i H x H' P1 α1 S,i<ds.length→Rel K H P1 α1 S→stn o S→qI P P1→α<+:α1→J.yld i H x H'→∃ P2 d,ds[i]? = Aa d∧Rel K H' P2 α1 S∧qI P1 P2∧Rep K P2 α1 d x
 stop:∀ i H P1 α1 S,ds.length≤i→Rel K H P1 α1 S→stn o S→qI P P1→α<+:α1→J.stop i H
def ItD.two {K:Ak}{J:It}{P:Hp}(h:ItD K J P α ds):ItD2 K J P α none ds:=
 ⟨λi H P1 α1 S a b _ c d=>h.go i H P1 α1 S a b c d,λi H x H' P1 α1 S a b _ c d e=>h.yld i H x H' P1 α1 S a b c d e,λi H P1 α1 S a b _ c d=>h.stop i H P1 α1 S a b c d⟩
abbrev DI2:=qD→Sto→Res (Al (Ah × MO) × Ab D)
inductive tDI2 (X:Cx)(f:DI2)(σ : _L.St)(H:Hp)(R:It→Hp→Prop):Prop
 |mk (P:Hp) (α : Ab Ad) (env:qD) (S:Sto) (r:Rel X.K H P α S) (re:zE X.K P α σ env) (af:qM X P α (f env S) (λp S'=>∀ J H' P' α',Rel X.K H' P' α' S'→qI P P'→α<+:α'→ItD2 X.K J P' α' p.1 p.2→R J H')):tDI2 X f σ H R
def wD (f:DI):DI2:=λenv S=>(f env S).bind λds S1=>.ok (none,ds) S1
section
variable {X:Cx}{K:Ak}{tg e:Bv}{fa:DE}{pos:EQ}
def KZ {f:DI}(h:PI X tg e (tDI X f)):PI X tg e (tDI2 X (wD f)):=PI.weak h λσ H R ⟨P,α,env,S,r,re,af⟩=>by
 refine⟨P,α,env,S,r,re,?_⟩;unfold wD at af;cases q:f env S with
 |bad=>rw[q] at af;exact af
 |ex c x S'=>rw[q] at af;exact af
 |ok ds S1 =>
  rw[q] at af;exact λJ H' P' α' r' e1 e2 it=>af J H' P' α' r' e1 e2 it.two
def GV {P:Hp}{a:Ad}{n:Ah}(hα:α[n]? = Aa a):ItD2 K (Itl K a) P α (Aa (n,.lst ds)) ds where
 go:=λi H P1 α1 S hi r st e e2=>by
  obtain⟨vs,z,t⟩:=r.at' n a _ (bZ e2 hα) st;exact⟨vs,vs[i]'(by rw[← t.length];exact hi),.of z,by simp⟩
 yld:=λi H x H' P1 α1 S hi r st e e2 y=>by
  obtain⟨rfl,y⟩:=y;obtain⟨vs,z,t⟩:=r.at' n a _ (bZ e2 hα) st;have hx:=y vs (.of z);obtain⟨v,h1,h2⟩:=t.get (Aq hi);rw[hx] at h1;cases h1;exact⟨P1,_,Aq hi,r,qI.refl _,h2⟩
 stop:=λi H P1 α1 S hi r st e e2=>by
  obtain⟨vs,z,t⟩:=r.at' n a _ (bZ e2 hα) st;exact⟨vs,.of z,by rw[← t.length];exact hi⟩
def itD (d:D)(S:Sto):Res (Al (Ah × MO) × Ab D):=match d with
 |.tup xs=>.ok (none,xs) S
 |.lst xs=>.ok (none,xs) S
 |.loc n=>match S[n]? with
  |some (.lst xs)=>.ok (Aa (n,.lst xs),xs) S
  |_=>.bad
 |_=>.bad
def dIt (f:DE):DI2:=λenv S=>(f env S).bind λd S1=>itD d S1
def RD (ha:PE X e (tD X fa)):PI X tg e (tDI2 X (dIt fa)):=by
 intro pins s σ H R I h;obtain⟨P,α,env,S,r,re,af⟩:=h;refine thn (x5 ha I r re af) λvv s1 ⟨v,H1,P1,α1,d,S1,G1,af1⟩=>?_;have seq:∀ ds,xK d=Aa ds→(∀ J H' P' α',Rel X.K H' P' α' S1→qI P P'→α<+:α'→ItD2 X.K J P' α' none ds→R J H')→Ao (As X.prog X.w) X.A (Nz vv) (PIE X pins σ tg R) X.xe s1:=λds e1 q =>
  rT G1.inv G1.rel G1.val G1.rep e1 λJ H' P' α' r' h1 h2 it=>q J H' P' α' r' (G1.same.trans h1) (G1.pre.trans h2) it.two
 cases d with
 |tup xs=>exact seq xs rfl af1
 |lst xs=>exact seq xs rfl af1
 |loc n =>
  obtain⟨xs,hS,af1⟩:=jO (X:=X) (f:=λxs=>Res.ok (Aa (n,MO.lst xs),xs) S1) af1;have rp:=G1.rep;simp only[Rep] at rp;obtain⟨a,rfl,ha⟩:=rp;cases (show vv=Cf a from G1.val)
  obtain⟨vs,z,t⟩:=G1.rel.at' n a _ ha hS;obtain⟨its,rv,p,hz⟩:=G1.inv.list (SqL.of z);refine Gj p.isList ?_;refine⟨s1.heap.objs.size,[s1.heap.objs.size],_,_,H1,rfl,G1.inv.kept (t':=s1.toks) λb o e=>Aj _ e,dS a _,⟨_,Bi _ rfl,rfl,rfl⟩,λb hb=>?_,af1 _ _ P1 α1 G1.rel G1.same G1.pre (GV ha)⟩;have e:b=s1.heap.objs.size:=by simpa using hb
  subst e;exact G1.inv.fpOk (Ax _) (G1.inv.hok.fresh (Ax _))
 |_=>exact An af1
end
def xX (elt:Bv)(gens:Ab Fc)(scope:Eh)(pos:EQ)(k:Ah)(acc:Ac)(env:Hu):Jm OO:=
 match gens[k+1]? with
 |some g'=>do
  let x ← eval g'.iter env
  Sc g'.iter.pos
  let x ← Fh g'.iter env x
  let it ← holding [x] (Nz x)
  let _ ← runOwn (.compStart (.ListComp elt gens scope pos) (k+1) it acc env) env
 |none=>do let _ ← call (.builtin "list.append") [acc,← eval elt env]
def UP (elt target iter:Bv)(ifs:Ab Bv)(gens:Ab Fc)(scope:Eh)(pos:EQ)(it acc:Ac)(env:Hu)(k:Ah)(hg:gens[k]? = Aa ⟨target,iter,ifs,0⟩)(ha:∀ g',gens[k+1]? = Aa g'→g'.is_async=0) :
  compTurn (.ListComp elt gens scope pos) k it acc env=(do
   Sc iter.pos
   match ← Mu it with
   |none=>pure (.done .next)
   |some v =>
    IM target it v
    assign target env v
    let mut ok:=true
    for c in ifs do
     if ok then ok ← isTrue c env (eval c env)
    if ok then xX elt gens scope pos k acc env
    again (.compLoop (.ListComp elt gens scope pos) k it acc env)):=by
 unfold compTurn xX;simp only[hg];cases q:gens[k+1]? with
 |none=>rfl
 |some g' =>
  have h0:=ha g' q;have e0:(g'.is_async != 0)=false:=by rw[h0];rfl
  simp only[e0,Bq,Dw,bind_assoc,pure_bind];rfl
abbrev DK:=qD→Sto→Ab D→Res (qD × Ab D)
def goL (o:Al (Ah × MO))(g:DG)(t:DT)(k:DK):Ab D→DK
 |[],env,S,acc=>if QF o S then .ok (env,acc) S else .bad
 |d::ds,env,S,acc=>if QF o S then (g d env S).bind λenv1 S1=>(t env1 S1).bind λb S2 =>
   if b then (k env1 S2 acc).bind λp S3=>goL o g t k ds p.1 S3 p.2 else goL o g t k ds env1 S2 acc
  else .bad
def zZ (fe:DE):DK:=λenv S acc=>(fe env S).bind λx S1=>if acc.length<lim then .ok (env,acc++[x]) S1 else .bad
def UX (Y:Cx)(pins:Ab (Ad × Cg))(P1:Hp)(α1:Ab Ad)(acc:Ad)(env:qD)(S:Sto)(ds:Ab D)(s:Ag):Prop:=
 ∃ σ H P α o,TurnSt Y pins P1 α1 [] acc env S ds s σ H P α o
def PK (Y:Cx)(step:Ac→Jm OO)(k:DK):Prop:=
 ∀ (pins:Ab (Ad × Cg)) (P1:Hp) (α1:Ab Ad) (acc:Ad) (env env':qD) (S S':Sto) (ds ds':Ab D) (s:Ag),(∀ H:Hp,H acc=none→xY Y pins H acc)→UX Y pins P1 α1 acc env S ds s→k env S ds=.ok (env',ds') S' →
  Ao (As Y.prog Y.w) Y.A (step (.ref acc)) (λ_ s'=>UX Y pins P1 α1 acc env' S' ds' s') (λ_ _=>Fa) s
section
variable {Y:Cx}{elt tg iter:Bv}{ifs:Ab Bv}{gens:Ab Fc}{scope:Eh}{pos:EQ}{k:Ah}{g:DG}{t:DT}{fe:DE}{it acc:Ad}{fp:Ab Ad}{J:It}{tn:Ah→Bm→Prop}{items:Ab D}{P1:Hp}{α1:Ab Ad}{pins:Ab (Ad × Cg)}
def ZR {X:Cx}{H:Hp}{b:Ad}{h:Bm}(f:xY X pins H b)(hn:b ∉ fp):xY X (pins++vQ fp h) H b:=by
 obtain⟨f0,f1,f2,f3,f4,f5⟩:=f;refine⟨f0,f1,f2,f3,f4,λp hp=>?_⟩;rcases Cp.mp hp with z|z
 ·exact f5 p (Dg _ z)
 ·rcases Cp.mp z with z|z
  ·exact f5 p (Ca _ z)
  ·rintro rfl
   exact hn (dF z).1
def Res.bind_inv {β γ:Type}{r:Res β}{f:β→Sto→Res γ}{x:γ}(h:r.bind f=.ok x S):∃ b S1,r=.ok b S1∧f b S1=.ok x S:=by
 cases r with
 |ok b S1=>exact⟨b,S1,rfl,h⟩
 |_=>cases h
inductive GoC (o:Al (Ah × MO))(g:DG)(t:DT)(k:DK)(d:D)(ds acc:Ab D)(env:qD)(S SF:Sto)(x:qD × Ab D):Prop
 |no (env1:qD) (S1 S2:Sto) (z:stn o S) (q1:g d env S=.ok env1 S1) (q2:t env1 S1=.ok false S2) (r:goL o g t k ds env1 S2 acc=.ok x SF):GoC o g t k d ds acc env S SF x
 |yes (env1:qD) (S1 S2:Sto) (env5:qD) (ds5:Ab D) (S5:Sto) (z:stn o S) (q1:g d env S=.ok env1 S1) (q2:t env1 S1=.ok true S2) (q3:k env1 S2 acc=.ok (env5,ds5) S5) (r:goL o g t k ds env5 S5 ds5=.ok x SF):GoC o g t k d ds acc env S SF x
set_option tactic.hygienic true in
def V4 {o:Al (Ah × MO)}{k:DK}{d:D}{acc:Ab D}{x:qD × Ab D}(h:goL o g t k (d::ds) env S acc=.ok x SF):GoC o g t k d ds acc env S SF x:=by
 simp only[goL] at h
 split at h
 ·rename_i z
  obtain⟨env1,S1,q1,h⟩:=Res.bind_inv h;obtain⟨b,S2,q2,h⟩:=Res.bind_inv h;cases b with
  |false=>exact .no env1 S1 S2 (vC.mp z) q1 q2 h
  |true =>
   obtain⟨⟨env5,ds5⟩,S5,q3,h⟩:=Res.bind_inv h;exact .yes env1 S1 S2 env5 ds5 S5 (vC.mp z) q1 q2 q3 h
 ·cases h
set_option tactic.hygienic true in
def GN {o:Al (Ah × MO)}{k:DK}{acc:Ab D}(h:goL o g t k [] env S acc=.ok (envF,dsF) SF):stn o S∧env=envF∧acc=dsF∧S=SF:=by
 simp only[goL] at h
 split at h
 ·rename_i z
  cases h;exact⟨vC.mp z,rfl,rfl,rfl⟩
 ·cases h
inductive LpI (Y:Cx)(pins:Ab (Ad × Cg))(P1:Hp)(α1:Ab Ad)(fp:Ab Ad)(acc:Ad)(tn:Ah→Bm→Prop)(G:Ab D→DK)(items:Ab D)(x:qD × Ab D)(SF:Sto)(n:Ah)(s:Ag):Prop
 |mk (i:Ah) (σ : _L.St) (H P:Hp) (α : Ab Ad) (o:Cg) (env:qD) (S:Sto) (ds:Ab D) (hn:n=items.length-i) (hi:i≤items.length) (st:TurnSt Y pins P1 α1 fp acc env S ds s σ H P α o) (st1:tn i s.heap) (run:G (items.drop i) env S ds=.ok x SF):LpI Y pins P1 α1 fp acc tn G items x SF n s
def F8 {M:Ji}{A:Bt}{Q:Fin→Ag→Prop}{E:Ac→Ag→Prop}{s:Ag}{it acc:Ac}{en:Hu}(hgk:gens[k]? = Aa ⟨tg,iter,ifs,0⟩)(has:∀ g',gens[k+1]? = Aa g'→g'.is_async=0)
  (ha:∀ s,Qa s→Q (.again (.compLoop (.ListComp elt gens scope pos) k it acc en)) s) (hd:∀ s,Qd s→Q (.done .next) s)
  (h:Ao M A (Mu it) (λr s1=>(r=none→Qd s1)∧∀ v,r=Aa v→Ao M A (IM tg it v) (λ_ s2=>Ao M A (assign tg en v) (λ_ s3=>Ao M A (gD ifs en) (λb s4=>(b=false→Qa s4)∧(b=true→Ao M A (xX elt gens scope pos k acc en) (λ_ s5=>Qa s5) E s4)) E s3) E s2) E s1) E s) :
  Ao M A (compTurn (.ListComp elt gens scope pos) k it acc en) Q E s:=by
 rw[UP elt tg iter ifs gens scope pos it acc en k hgk has];refine Af (Os (Af (thn h λr s1 ⟨h0,h1⟩=>?_)));cases r with
 |none=>exact Am (hd _ (h0 rfl))
 |some v =>
  refine Af (thn (h1 v rfl) λ_ s2 h2=>Af (thn h2 λ_ s3 h3=>Af (thn h3 λb s4 h4=>?_)));cases b with
  |false=>exact Am (ha _ (h4.1 rfl))
  |true=>exact Af (thn (h4.2 rfl) λ_ s5 h5=>Am (ha _ h5))
def GM (hfp:∀ H:Hp,(∀ b∈fp,H b=none)→∀ b∈fp,xY Y pins H b)(hne:acc ∉ fp)(o:Cg)(H':Hp)(hn:∀ b∈fp,H' b=none):∀ b∈fp,xY Y (pins++[(acc,o)]) H' b:=λb hb=>by
 obtain⟨f0,f1,f2,f3,f4,f5⟩:=hfp H' hn b hb;refine⟨f0,f1,f2,f3,f4,λp hp=>?_⟩;rcases Cp.mp hp with z|z
 ·exact f5 p (Dg _ z)
 ·rcases Cp.mp z with z|z
  ·exact f5 p (Ca _ z)
  ·rw[Dx.mp z]
   rintro rfl;exact hne hb
def kG {i:Ah}{h:Bm}(T:Turn Y.prog Y.w Y.K tg J fp it tn)(st2:tn (i+1) h)(pl:∀ b∈fp,∃ o,h.get? b=Aa o∧∀ v,o.data≠.cell v){s5:Ag}{σ5:_L.St}{H5:Hp}(I5:Inv Y (pins++vQ fp h) σ5 H5 s5):tn (i+1) s5.heap∧(∀ b∈fp,H5 b=none):=by
 refine⟨T.keep _ _ _ st2 λb hb o' e=>(I5.pin (b,o') (Ca _ (Ca _ (uT hb e)))).1,λb hb=>?_⟩;obtain⟨o',e,d'⟩:=pl b hb;exact(I5.pin (b,o') (Ca _ (Ca _ (uT hb e)))).2.1
def oI {kk:DK}{E:Ac→Ag→Prop}{s:Ag}{σ:_L.St}{H P:Hp}{o:Cg}{i:Ah}(hc:Y.calm=true)(hx:Y.xe=λ_ _=>Fa)
  (T:Turn Y.prog Y.w Y.K tg J fp it tn) (hit:ItD2 Y.K J P1 α1 o' items) (hg:PG Y tg (tDG Y g)) (ht:PTs Y ifs t) (he:PK Y (λacc=>xX elt gens scope pos k acc Y.env) kk) (hacc:∀ H:Hp,H acc=none→xY Y pins H acc) (hfp:∀ H:Hp,(∀ b∈fp,H b=none)→∀ b∈fp,xY Y pins H b) (hne:acc ∉ fp)
  (hi:i≤items.length) (st:TurnSt Y pins P1 α1 fp acc env S ds s σ H P α o) (st1:tn i s.heap) (run:goL o' g t kk (items.drop i) env S ds=.ok (envF,dsF) SF)
  (hA:∀ s' σ' H' P' α' o1 env1 S' ds',i<items.length→TurnSt Y pins P1 α1 fp acc env1 S' ds' s' σ' H' P' α' o1→tn (i+1) s'.heap→goL o' g t kk (items.drop (i+1)) env1 S' ds'=.ok (envF,dsF) SF→Qa s')
  (hD:∀ s' σ' H' P' α' o',TurnSt Y pins P1 α1 fp acc envF SF dsF s' σ' H' P' α' o'→Qd s') :
  Ao (As Y.prog Y.w) Y.A (Mu (.ref it)) (λr s1=>(r=none→Qd s1)∧∀ v,r=Aa v→Ao (As Y.prog Y.w) Y.A (IM tg (.ref it) v) (λ_ s2=>Ao (As Y.prog Y.w) Y.A (assign tg Y.env v) (λ_ s3=>Ao (As Y.prog Y.w) Y.A (gD ifs Y.env) (λb s4=>(b=false→Qa s4)∧(b=true→Ao (As Y.prog Y.w) Y.A (xX elt gens scope pos k (.ref acc) Y.env) (λ_ s5=>Qa s5) E s4)) E s3) E s2) E s1) E s:=by
 have I1:=_D.Inv.pin1 st.inv (hacc H st.acn) st.at' st.acc.cell;have fp1:=GM hfp hne o;by_cases hlt:i<items.length
 ·have hdr:items.drop i=items[i]::items.drop (i+1):=Gu hlt
  rw[hdr] at run;have run:=V4 run;have hst:stn o' S:=by cases run with|no _ _ _ z=>exact z|yes _ _ _ _ _ _ z=>exact z
  refine mE (T.item Y rfl rfl rfl hc i _ s σ H (λ_ _=>Fa) I1 (fp1 H st.fpn) st1 (hit.go i H P α S hlt st.rel hst st.same st.pre)) λr s1 ⟨u,hr,h1⟩=>⟨λz=>(by rw[hr] at z;cases z),λv hv=>?_⟩
  obtain rfl:v=u:=Co (hv.symm.trans hr);refine mE h1 λ_ s2 ⟨x,H2,I2,rx,y,st2,fr2⟩=>?_;obtain⟨P2,d,hd,r2,e2,rp⟩:=hit.yld i H x H2 P α S hlt st.rel hst st.same st.pre y;cases (Aq hlt).symm.trans hd;have pl:=T.obj _ _ st2;have I2':=I2.pinned (fp1 _ fr2) pl;have two:∀ env1 S1 b S2,g items[i] env S=.ok env1 S1→t env1 S1=.ok b S2→(∀ s4 σ3 H4 P4 α4 (I4:Inv Y (pins++vQ fp s2.heap) σ3 H4 s4),TurnSt Y pins P1 α1 fp acc env1 S2 ds s4 σ3 H4 P4 α4 o→tn (i+1) s4.heap→(b=false→Qa s4)∧(b=true→Ao (As Y.prog Y.w) Y.A (xX elt gens scope pos k (.ref acc) Y.env) (λ_ s5=>Qa s5) E s4))→Ao (As Y.prog Y.w) Y.A (assign tg Y.env v) (λ_ s3=>Ao (As Y.prog Y.w) Y.A (gD ifs Y.env) (λb s4=>(b=false→Qa s4)∧(b=true→Ao (As Y.prog Y.w) Y.A (xX elt gens scope pos k (.ref acc) Y.env) (λ_ s5=>Qa s5) E s4)) E s3) E s2:=by
   intro env1 S1 b S2 q1 q2 next;refine mE (hx▸A0 hg I2' r2 (st.env.mono e2 (Bo _)) rx rp q1) λ_ s3 ⟨σ3,H3,P3,α3,I3,r3,re3,e3,e3'⟩=>?_;refine mE (hx▸ED ht I3 r3 re3 q2) λb' s4 ⟨hb,H4,P4,α4,I4,r4,re4,e4,e4'⟩=>?_;have I4':Inv Y (pins++vQ fp s2.heap) σ3 H4 s4:=I4.pins_of λp hp=>I4.pin p (Ca _ ((Cp.mp hp).elim (λz=>Dg _ (Dg _ z)) λz=>Ca _ z));have a4:=I4.pin (acc,o) (Ca _ (Dg _ (Ca _ (Dx.mpr rfl))));rw[hb];exact next s4 σ3 H4 P4 α4 I4' ⟨I4'.unpinned,r4,re4,((st.same.trans e2).trans e3).trans e4,(st.pre.trans e3').trans e4',(kG T st2 pl I4').2,a4.2.1,a4.1,st.acc.mono ((e2.trans e3).trans e4) (e3'.trans e4')⟩ (kG T st2 pl I4').1
  cases run with
  |no env1 S1 S2 _ q1 q2 run=>exact two env1 S1 false S2 q1 q2 λs4 σ3 H4 P4 α4 I4 st4 tn4=>⟨λ_=>hA s4 σ3 H4 P4 α4 o env1 S2 ds hlt st4 tn4 run,λz=>(by cases z)⟩
  |yes env1 S1 S2 env5 ds5 S5 _ q1 q2 q3 run =>
   refine two env1 S1 true S2 q1 q2 λs4 σ3 H4 P4 α4 I4 st4 tn4=>⟨λz=>(by cases z),λ_=>?_⟩
   refine mE (he (pins++vQ fp s2.heap) P1 α1 acc env1 env5 S2 S5 ds ds5 s4 (λH hn=>ZR (hacc H hn) hne) ⟨σ3,H4,P4,α4,o,I4,st4.rel,st4.env,st4.same,st4.pre,λb hb=>(by cases hb),st4.acn,st4.at',st4.acc⟩ q3) λ_ s5 ⟨σ5,H5,P5,α5,o5,T5⟩=>?_
   exact hA s5 σ5 H5 P5 α5 o5 env5 S5 ds5 hlt ⟨T5.inv.unpinned,T5.rel,T5.env,T5.same,T5.pre,(kG T st2 pl T5.inv).2,T5.acn,T5.at',T5.acc⟩ (kG T st2 pl T5.inv).1 run
 ·rw[Py om] at run
  obtain⟨z,rfl,rfl,rfl⟩:=GN run;refine mE (T.done Y rfl rfl rfl hc i _ s σ H (λ_ _=>Fa) I1 (fp1 H st.fpn) st1 (hit.stop i H P α _ om st.rel z st.same st.pre)) λr s1 ⟨hr,I2⟩=>⟨λ_=>?_,λv hv=>(by rw[hr] at hv;cases hv)⟩
  have a:=_D.Inv.pinned1 I2;exact hD s1 σ H P α o ⟨I2.unpinned,st.rel,st.env,st.same,st.pre,st.fpn,a.2,a.1,st.acc⟩
def oH {kk:DK}{R:Uy→Ag→Prop}{s:Ag}{σ:_L.St}{H P:Hp}{ds0:Ab D}{o:Cg}(hc:Y.calm=true)(hx:Y.xe=λ_ _=>Fa)(hgk:gens[k]? = Aa ⟨tg,iter,ifs,0⟩)(has:∀ g',gens[k+1]? = Aa g'→g'.is_async=0)
  (T:Turn Y.prog Y.w Y.K tg J fp it tn) (hit:ItD2 Y.K J P1 α1 o' items) (hg:PG Y tg (tDG Y g)) (ht:PTs Y ifs t) (he:PK Y (λacc=>xX elt gens scope pos k acc Y.env) kk) (hacc:∀ H:Hp,H acc=none→xY Y pins H acc) (hfp:∀ H:Hp,(∀ b∈fp,H b=none)→∀ b∈fp,xY Y pins H b) (hne:acc ∉ fp)
  (st:TurnSt Y pins P1 α1 fp acc env S ds0 s σ H P α o) (st0:tn 0 s.heap) (run:goL o' g t kk items env S ds0=.ok (envF,dsF) SF)
  (hR:∀ s' σ' H' P' α' o',TurnSt Y pins P1 α1 fp acc envF SF dsF s' σ' H' P' α' o'→R (.ok .next) s') :
  Ie (As Y.prog Y.w) Y.A (.compLoop (.ListComp elt gens scope pos) k (.ref it) (.ref acc) Y.env) R s:=by
 refine codeAny_loop rfl (LpI Y pins P1 α1 fp acc tn (goL o' g t kk) items (envF,dsF) SF) (λn s hI=>?_) items.length ⟨0,σ,H,P,α,o,env,S,ds0,rfl,Hi _,st,st0,run⟩;obtain⟨i,σ,H,P,α,o,env,S,ds,hn,hi,st,st1,run⟩:=hI;subst hn;refine wpAny_noted (F8 hgk has (Qa:=λs'=>∃ m,m<items.length-i∧LpI Y pins P1 α1 fp acc tn (goL o' g t kk) items (envF,dsF) SF m s') (Qd:=R (.ok .next)) (λ_ h=>⟨rfl,h⟩) (λ_ h=>h) ?_);exact oI hc hx T hit hg ht he hacc hfp hne hi st st1 run (λs' σ' H' P' α' o1 env1 S' ds' hlt st' tn' run'=>⟨_,Nat.sub_succ_lt_self _ _ hlt,i+1,σ',H',P',α',o1,env1,S',ds',rfl,hlt,st',tn',run'⟩) hR
set_option tactic.hygienic true in
def BA (hx:Y.xe=λ_ _=>Fa)(hlast:gens[k+1]? = none)(he:PE Y elt (tD Y fe)):PK Y (λacc=>xX elt gens scope pos k acc Y.env) (zZ fe):=by
 intro pins P1 α1 acc env env' S S' ds ds' s hacc ⟨σ,H,P,α,o,st⟩ run;show Ao _ _ (xX elt gens scope pos k (.ref acc) Y.env) _ _ s;unfold xX;rw[hlast];dsimp only;unfold zZ at run;cases q3:fe env S with
 |bad=>rw[q3] at run;cases run
 |ex c z S'=>rw[q3] at run;cases run
 |ok d5 S5 =>
  rw[q3,Res.bind_ok] at run
  split at run
  ·rename_i hlen
   cases run;have fA:=hacc H st.acn;have I1:=_D.Inv.pin1 st.inv fA st.at' st.acc.cell;refine Af (mE (hx▸CZ he I1 st.rel st.env q3) λu5 s5 ⟨v5,H5,P5,α5,G5⟩=>?_);have J:=_D.Inv.pinned1 G5.inv;have J1:=G5.inv.unpinned;obtain⟨J4,J5⟩:=J;obtain⟨its,n5,vs,ho,rvs,rps,hz⟩:=st.acc;subst ho;have hlen':vs.length=ds.length:=rps.length.symm;have hl2:=rvs.length;refine Af (OQ Sy ⟨_,J4,rfl⟩ Sa (Rj _ _) (Ud acc its.toArray n5 u5 (by rw[Bj];rw[← xD];omega)) ⟨J4,?_⟩)
   have q:=Vc J4 (·.push u5)
   have fA5:=hacc H5 J5;have keep:∀ b o,b≠acc→s5.heap.get? b=Aa o→(s5.heap.update acc (El (·.push u5))).get? b=Aa o:=λb o hb e=>(Dd s5.heap _ (Fu hb)).trans e
   have I6:=J1.turned (t':=s5.toks) keep J5 fA5.2.1 fA5.2.2.2.1 fA5.2.2.2.2.1 fA5.2.2.2.2.2;refine Am ⟨σ,H5,P5,α5,_,I6,G5.rel,G5.env,st.same.trans G5.same,st.pre.trans G5.pre,λb hb=>(by simp at hb),J5,q,?_⟩
   refine⟨its++[u5],_,vs++[v5],by simp <;> rfl,rvs.append (.cons G5.val .nil),?_,by simp;omega⟩
   exact(qG.mono G5.same G5.pre _ _ rps).append (.cons G5.rep .nil)
  ·cases run
end
def mkM (m:Ap)(r:Res (qD × Ab D)):Res D:=match r with
 |.ok p S2=>if m then .ok (.loc S2.length) (S2++[.lst p.2]) else .ok (.lst p.2) S2
 |_=>.bad
def zQ (m:Ap)(cap:Ab (Al Ah))(fi:DI2)(g:DG)(t:DT)(k:DK):DE:=λenv S=>(fi env S).bind λp S1=>mkM m (goL p.1 g t k p.2 (wL cap env) S1 [])
section
variable {X:Cx}{elt tg iter:Bv}{ifs:Ab Bv}{scope:Eh}{pos:EQ}{N':Ab Ar}{cap:Ab (Al Ah)}{fi:DI2}{g:DG}{t:DT}{kk:DK}{qK:Ab Fc}{mm:Ap}
def X7 {P:Hp}{r:Res (qD × Ab D)}{Ok:D→Sto→Prop}(h:qM X P α (mkM mm r) Ok):∃ envF ds SF,r=.ok (envF,ds) SF∧(if mm then Ok (.loc SF.length) (SF++[.lst ds]) else Ok (.lst ds) SF):=by
 cases r with
 |ok p S =>
  obtain⟨envF,ds⟩:=p;refine⟨envF,ds,S,rfl,?_⟩;cases mm <;> exact h
 |ex c x S=>exact An h
 |bad=>exact An h
def YW {pins:Ab (Ad × Cg)}{σ:_L.St}{P1:Hp}{α1:Ab Ad}{acc:Ad}{s:Ag}{Q:VK}(c:bJ X pins σ P1 α1 ds SF acc C s)(ok:if mm then OkV X P1 α1 Q (.loc SF.length) (SF++[.lst ds]) else OkV X P1 α1 Q (.lst ds) SF):EP X pins σ Q (.ref acc) s:=by
 cases mm with
 |false=>exact GD c ok
 |true =>
  obtain⟨H',P',α',vs,I,r,hn,e1,e2,rp,_⟩:=c;exact⟨.ref acc,_,I,rfl,nW r hn rp λv H2 P2 α2 r2 q1 q2 q3=>ok v H2 P2 α2 r2 (e1.trans q1) (e2.trans q2) q3⟩
def ZJ {M:Ji}{A:Bt}{E:Ac→Ag→Prop}{s:Ag}{globals:Ad}{closure:Ab (Ar × Ad)}{qual:Ar}{env:Hu}{Q:Hu→Ag→Prop}
  (hQ:Q (newEnv scope s.heap.objs.size globals (Gs (s.heap.objs.size+1) scope.names closure) qual none .none (Aa env) Mz) { s with heap:=Uj (s.heap.push { cls:=.type "dict",data:=.dict #[] }) scope.names }) :
  Ao M A (Rc scope globals closure [] qual none .none (Aa env)) Q E s:=by
 simp only[Rc,Sz,Dc];refine Af (wpAny_alloc ?_);refine Af (wpAny_layCells _ (λname kind cells=>by cases hkc:kind == Lu <;> simp[hkc]) _ _ _ _ ?_)
 rw[show ({ s with heap:=s.heap.push { cls:=.type "dict",data:=.dict #[] } } : Ag).heap.objs.size=s.heap.objs.size+1 from Dr ..]
 refine Af ?_;rw[Nk];exact Am (Am hQ)
def fF {pins:Ab (Ad × Cg)}{σ:_L.St}{H2 P1:Hp}{α1:Ab Ad}{s2:Ag}{S1:Sto}{items:Ab D}{it:Ad}{fp:Ab Ad}{tn:Ah→Bm→Prop}{J:It}{E:Ac→Ag→Prop}{RR:Ac→Ad→Uy→Ag→Prop}
  (hc:X.calm=true) (S:CompSc X.env.scope X.N scope N' cap) (has:∀ g',(⟨tg,iter,ifs,0⟩::qK:Ab Fc)[0+1]? = Aa g'→g'.is_async=0)
  (hg:∀ cl C ex s₀ H₀,PG (zG X N' scope cl C ex s₀ H₀) tg (tDG (zG X N' scope cl C ex s₀ H₀) g))
  (ht:∀ cl C ex s₀ H₀,PTs (zG X N' scope cl C ex s₀ H₀) ifs t) (he:∀ cl C ex s₀ H₀,PK (zG X N' scope cl C ex s₀ H₀) (λacc=>xX elt (⟨tg,iter,ifs,0⟩::qK) scope pos 0 acc (zG X N' scope cl C ex s₀ H₀).env) kk)
  (I2:Inv X pins σ H2 s2) (r:Rel X.K H2 P1 α1 S1) (re:zE X.K P1 α1 σ env) (T:Turn X.prog X.w X.K tg J fp it tn) (st0:tn 0 s2.heap) (hf:∀ b∈fp,xY X pins H2 b) (hit:ItD2 X.K J P1 α1 o' items) (run:goL o' g t kk items (wL cap env) S1 [] = .ok (envF,ds) SF)
  (hRR:∀ acc C s',s2.heap.objs.size≤acc→(∃ m,s'.heap.Ns C m)→s2.heap.objs.size≤C→acc≠C→(∀ h',Gp C s'.heap h'→bJ X pins σ P1 α1 ds SF acc C { s' with heap:=h' }) → RR (.ref acc) C (.ok .next) s') :
  Ao (As X.prog X.w) X.A (newList []) (λacc s₃=>Ao (As X.prog X.w) X.A (Rc scope X.env.globals (yB X.env.cells scope.names []) [] X.env.qual none .none (Aa X.env)) (λcenv s₄ =>
   Ie (As X.prog X.w) X.A (.compStart (.ListComp elt (⟨tg,iter,ifs,0⟩::qK) scope pos) 0 (.ref it) acc { cenv with scope:=relabel scope X.env }) (RR acc cenv.locals) s₄) E s₃) E s2:=by
 have hlt:∀ b∈fp,b<s2.heap.objs.size:=λb hb=>by
  obtain⟨o,e,_⟩:=T.obj 0 _ st0 b hb;exact Au e
 refine Ek (ZJ ?_);dsimp only;generalize hH2:s2.heap.push { cls:=.type "list",dict:=none,data:=.seq ([] : Ab Ac).toArray } = Hh;have hsz:Hh.objs.size=s2.heap.objs.size+1:=by rw[← hH2,Dr]
 have hC:s2.heap.objs.size≤Hh.objs.size:=by rw[hsz];exact Od _
 have hne:s2.heap.objs.size≠Hh.objs.size:=by rw[hsz];exact Cc (Gf _)
 have kp:∀ b o,Hh.get? b=Aa o→(Uj (Hh.push { cls:=.type "dict",data:=.dict #[] }) scope.names).get? b=Aa o:=λb o e=>Vu _ _ b o (Aj _ e);have hns₁:(Uj (Hh.push { cls:=.type "dict",data:=.dict #[] }) scope.names).Ns Hh.objs.size (λ_=>none):=(Heap.Ns.new Hh (.type "dict")).keeps (Vu _ _);have co:=cellsFrom_ok scope.names (Hh.push { cls:=.type "dict",data:=.dict #[] }) (Hh.objs.size+1) [] ⟨λ_ _ hm=>(nomatch hm),Ky⟩ (by rw[Dr];exact Ax _)
 rw[Dr] at co;generalize hh₁:Uj (Hh.push { cls:=.type "dict",data:=.dict #[] }) scope.names=h₁ at kp hns₁ co ⊢;have keep:∀ b o,s2.heap.get? b=Aa o→h₁.get? b=Aa o:=λb o e=>kp b o (hH2▸Aj _ e);have hacc:h₁.get? s2.heap.objs.size=Aa { cls:=.type "list",data:=.seq ([] : Ab Ac).toArray }:=kp _ _ (hH2▸Bi _ rfl);have I4:∀ tk,Inv (zG X N' scope (gL X scope Hh.objs.size) Hh.objs.size fp s2 H2) [] (vW cap σ) H2 { s2 with heap:=h₁,toks:=tk }:=λtk =>
  YB (s4:={ s2 with heap:=h₁,toks:=tk }) S I2 hf hlt hC hns₁ rfl rfl keep co
 have loop:∀ tk,Ie (As X.prog X.w) X.A (.compLoop (.ListComp elt (⟨tg,iter,ifs,0⟩::qK) scope pos) 0 (.ref it) (.ref s2.heap.objs.size) (compEnvC scope (gL X scope Hh.objs.size) Hh.objs.size X.env)) (RR (.ref s2.heap.objs.size) Hh.objs.size) { s2 with heap:=h₁,toks:=tk }:=λtk=>by
  refine oH (kk:=kk) (o':=o') (Y:=zG X N' scope (gL X scope Hh.objs.size) Hh.objs.size fp s2 H2) (pins:=[]) (fp:=fp) (acc:=s2.heap.objs.size) (P1:=P1) (α1:=α1) (σ:=vW cap σ) (H:=H2) (P:=P1) (α:=α1) (o:={ cls:=.type "list",data:=.seq ([] : Ab Ac).toArray }) hc rfl rfl has T hit
   (hg _ _ _ _ _) (ht _ _ _ _ _) (he _ _ _ _ _) (λH hn=>?_) (λH hn b hb=>?_) (λhm=>Ei _ (hlt _ hm)) ⟨I4 tk,r,WH re cap,qI.refl _,Bo _,λb hb=>(hf b hb).1,I2.hok.fresh (Ax _),hacc,⟨[],0,[],rfl,.nil,.nil,Hi _⟩⟩ (T.keep _ _ _ st0 λb hb o e=>keep b o e) run λs' σ' H' P' α' o' st=>?_
  ·refine⟨hn,hne,λhm=>?_,.inr (Ax _),λx c h z=>?_,λp hp=>absurd (show p∈([]:Ab (Ad × Cg)) from hp) (by simp)⟩
   ·obtain⟨_,o,ho,_⟩:=I2.stack.mem hm
    exact Ei _ (Au ho)
   ·rcases xW S I2.ok h with⟨m,_⟩|⟨m,_⟩
    ·exact Ei _ (Td hC (z▸(co.empty x c m).2))
    ·obtain⟨v,ob,hob,_⟩:=I2.cell x c m
     rw[z] at hob;exact Ei _ (Au hob)
  ·obtain⟨_,h1,h2,h3,h4,h5⟩:=hf b hb
   refine⟨hn b hb,Cc (Ba (hlt b hb) hC),λhm=>?_,.inl hb,λx c h=>(by
    rcases xW S I2.ok h with⟨m,_⟩|⟨m,_⟩
    ·exact Fu (Cc (ID (Ba (hlt b hb) hC) (co.empty x c m).2))
    ·exact h4 x c m),λp hp=>absurd (show p∈([]:Ab (Ad × Cg)) from hp) (by simp)⟩
   rcases Bb.mp (I2.stkSub b hm) with z|z
   ·exact h1 z
   ·exact h2 z
  ·obtain⟨m,hm,_⟩:=st.inv.loc
   exact hRR _ _ s' (Ax _) ⟨m,hm⟩ hC hne λh' sb=>YA I2 hf rfl hC (Ax _) hne st sb
 exact codeAny_compStart_list (loop _) (T.self X.A 0 _ _ _ (T.keep _ _ _ st0 λb hb o e=>keep b o e) (loop _))
def YK (hc:X.calm=true)(S:CompSc X.env.scope X.N scope N' cap)(hi:PI X tg iter (tDI2 X fi))
  (hg:∀ cl C ex s₀ H₀,PG (zG X N' scope cl C ex s₀ H₀) tg (tDG (zG X N' scope cl C ex s₀ H₀) g))
  (ht:∀ cl C ex s₀ H₀,PTs (zG X N' scope cl C ex s₀ H₀) ifs t) (has:∀ g',(⟨tg,iter,ifs,0⟩::qK:Ab Fc)[0+1]? = Aa g'→g'.is_async=0) (he:∀ cl C ex s₀ H₀,PK (zG X N' scope cl C ex s₀ H₀) (λacc=>xX elt (⟨tg,iter,ifs,0⟩::qK) scope pos 0 acc (zG X N' scope cl C ex s₀ H₀).env) kk)
  (hs:∀ x,Fh iter X.env x=pure x:=by intro _;rfl):PE X (.ListComp elt (⟨tg,iter,ifs,0⟩::qK) scope pos) (tD X (zQ mm cap fi g t kk)):=by
 intro pins s σ H Q I h;obtain⟨P,α,env,S0,r,re,af⟩:=h;rw[eval_ListComp];have af':qM X P α ((fi env S0).bind λp S1=>mkM mm (goL p.1 g t kk p.2 (wL cap env) S1 [])) (OkV X P α Q):=af;refine OG (use:=none) rfl hs (aD S I.ok) S.kind S.names ?_;refine thn (hi pins s σ H (λJ H1=>∃ (P1:Hp) (α1:Ab Ad) (p:Al (Ah × MO) × Ab _D.D) (S1:Sto),Rel X.K H1 P1 α1 S1∧qI P P1∧α<+:α1∧ItD2 X.K J P1 α1 p.1 p.2∧qM X P α (mkM mm (goL p.1 g t kk p.2 (wL cap env) S1 [])) (OkV X P α Q)) I ⟨P,α,env,S0,r,re,?_⟩) λxv s1 h1=>thn h1 λitv s2 h2=>?_
 ·cases q:fi env S0 with
  |bad=>rw[q] at af';exact af'
  |ex c x S'=>rw[q] at af';exact af'
  |ok p S1=>rw[q] at af';exact λJ H1 P1 α1 r1 e1 e2 it=>⟨P1,α1,p,S1,r1,e1,e2,it,af'⟩
 obtain⟨it,fp,tn,J,H2,rfl,I2,T,st0,hf,P1,α1,p,S1,r1,e1,e2,hit,af1⟩:=h2;obtain⟨envF,ds,SF,run,ok⟩:=X7 af1;refine fF (RR:=λacc C=>compPost (As X.prog X.w) X.A X.xe none (EP X pins σ Q) acc C) hc S has hg ht he I2 r1 (re.mono e1 e2) T st0 hf hit run ?_;intro acc C s' hA ⟨m,hm⟩ hC hne fin;refine⟨m,hm,λh' sb=>YW (mm:=mm) (fin h' sb) ?_⟩;cases mm with
 |false=>exact λv H3 P3 α3 r3 q1 q2 q3=>ok v H3 P3 α3 r3 (e1.trans q1) (e2.trans q2) q3
 |true=>exact λv H3 P3 α3 r3 q1 q2 q3=>ok v H3 P3 α3 r3 (e1.trans q1) (e2.trans q2) q3
def YR {i:Ah}{y:Ar}{py spos:EQ}(hc:X.calm=true)(hN:X.N.Nodup)(S:CompSc X.env.scope X.N scope N' cap)(hi:PI X tg iter (tDI2 X fi))
  (hg:∀ cl C ex s₀ H₀,PG (zG X N' scope cl C ex s₀ H₀) tg (tDG (zG X N' scope cl C ex s₀ H₀) g))
  (ht:∀ cl C ex s₀ H₀,PTs (zG X N' scope cl C ex s₀ H₀) ifs t) (has:∀ g',(⟨tg,iter,ifs,0⟩::qK:Ab Fc)[0+1]? = Aa g'→g'.is_async=0) (he:∀ cl C ex s₀ H₀,PK (zG X N' scope cl C ex s₀ H₀) (λacc=>xX elt (⟨tg,iter,ifs,0⟩::qK) scope pos 0 acc (zG X N' scope cl C ex s₀ H₀).env) kk)
  (hy:X.N[i]? = Aa y:=by rfl) (hyl:Loc X.env.scope y:=by first|exact Wu rfl|exact Vd rfl) (hf:X.fn y=true∨X.env.scope.names.lookup y=Aa .local:=by first|exact .inl rfl|exact .inr rfl|assumption)
  (hsw:Kz (.ListComp elt (⟨tg,iter,ifs,0⟩::qK) scope pos) (Aa (.Name y py)) spos.line X.env=pure true:=by rfl)
  (hs:∀ x,Fh iter X.env x=pure x:=by intro _;rfl):PS X (.Assign [.Name y py] (.ListComp elt (⟨tg,iter,ifs,0⟩::qK) scope pos) spos) (tDS X (qT (zQ mm cap fi g t kk) (gNm i))):=by
 intro pins s σ H D I h;obtain⟨P,α,env,S0,r,re,af⟩:=h;have af0:=wU af;have af':qM X P α ((fi env S0).bind λp S1=>mkM mm (goL p.1 g t kk p.2 (wL cap env) S1 [])) (λd S=>zF X P α (.nx (env.set i (Aa d)) S) D):=af0;rw[exec_Assign_Name_used _ _ _ _ hsw];refine Af (Os (Af ?_));show Ao _ X.A (do let _ ← comprehension (.ListComp elt (⟨tg,iter,ifs,0⟩::qK) scope pos) scope X.env _ (newList []) false (eval iter X.env) (Aa (assign (.Name y py) X.env))) _ _ s
 refine Af (Fv (OG (use:=Aa (assign (.Name y py) X.env)) (Q:=λ_ s'=>SP X pins D .next s') rfl hs (aD S I.ok) S.kind S.names ?_) (λ_ s' hq=>Am (Am hq)) λ_ _ e=>e);refine thn (hi pins s σ H (λJ H1=>∃ (P1:Hp) (α1:Ab Ad) (p:Al (Ah × MO) × Ab _D.D) (S1:Sto),Rel X.K H1 P1 α1 S1∧qI P P1∧α<+:α1∧ItD2 X.K J P1 α1 p.1 p.2∧qM X P α (mkM mm (goL p.1 g t kk p.2 (wL cap env) S1 [])) (λd S=>zF X P α (.nx (env.set i (Aa d)) S) D)) I ⟨P,α,env,S0,r,re,?_⟩) λxv s1 h1=>thn h1 λitv s2 h2=>?_
 ·cases q:fi env S0 with
  |bad=>rw[q] at af';exact af'
  |ex c x S'=>rw[q] at af';exact af'
  |ok p S1=>rw[q] at af';exact λJ H1 P1 α1 r1 e1 e2 it=>⟨P1,α1,p,S1,r1,e1,e2,it,af'⟩
 obtain⟨it,fp,tn,J,H2,rfl,I2,T,st0,hfp,P1,α1,p,S1,r1,e1,e2,hit,af1⟩:=h2;obtain⟨envF,ds,SF,run,ok⟩:=X7 af1;refine fF (RR:=λacc C=>compPost (As X.prog X.w) X.A X.xe (Aa (assign (.Name y py) X.env)) (λ_ s'=>SP X pins D .next s') acc C) hc S has hg ht he I2 r1 (re.mono e1 e2) T st0 hfp hit run ?_;intro acc C s' hA ⟨m,hm⟩ hC hne fin;show Ao _ X.A (assign (.Name y py) X.env (.ref acc)) _ _ s';obtain⟨H3,P3,α3,vs,I3,r3,hn3,q1,q2,rp,hCn⟩:=fin s'.heap (O7 _ _);obtain⟨r4,e4⟩:=r3.pure (o:=.lst vs) hn3;have hCn':(upd H3 acc (.lst vs)) C=none:=by rw[qN (Fu hne)];exact hCn
 have fC:=I2.fpOk hC hCn';refine Tv (dP I3 hN hy hyl (show qO (V.ref acc) (Cf acc) from rfl) (λs5 I5 ⟨a,sb,ha⟩=>?_) hf)
 have hCa:C≠a:=by
  rcases ha with rfl|ha
  ·exact fC.2.1
  ·exact λz=>fC.2.2.2.2.1 _ _ ha z.symm
 refine⟨m,hm.sameBut sb hCa,λh' sb'=>?_⟩;have I6:Inv X pins (σ.set i (Aa (V.ref acc))) (upd H3 acc (.lst vs)) { s5 with heap:=h' }:=I5.turned (t':=s5.toks) (λb o hb e=>(sb'.2 b hb).trans e) hCn' fC.2.1 fC.2.2.2.1 fC.2.2.2.2.1 fC.2.2.2.2.2
 cases mm with
 |false =>
  refine⟨_,_,I6,ok _ _ (upd P3 acc (.lst vs)) α3 r4 ?_ ((e1.trans q1).trans e4) (e2.trans q2)⟩;exact((re.mono e1 e2).mono (q1.trans e4) q2).set i (lA (.inl (.inl zB)) (qG.mono e4 (Bo _) _ _ rp))
 |true =>
  have hpre:α3<+:α3++[acc]:=Fo _ _;have r5:=r3.new (o:=.lst vs) (m:=.lst ds) hn3 ⟨vs,zB,qG.mono (qI.refl _) hpre _ _ rp⟩;refine⟨_,_,I6,ok _ _ P3 (α3++[acc]) r5 ?_ (e1.trans q1) ((e2.trans q2).trans hpre)⟩;refine((re.mono e1 e2).mono q1 (q2.trans hpre)).set i ?_;simp only[Rep];exact⟨acc,rfl,by rw[← r3.len];simp⟩
end
section
variable {X:Cx}
def wC:Ab D→Al (Ab Ai)
 |[]=>Aa []
 |.int i::r=>(wC r).map (i::·)
 |_::_=>none
def lY (ns:Ab Ai):wC (ns.map D.int)=Aa ns:=by
 induction ns with
 |nil=>rfl
 |cons n r ih=>exact congrArg (Option.map (n::·)) ih
def uC:∀ {ds:Ab D} {ns:Ab Ai},wC ds=Aa ns→ds=ns.map D.int
 |[],ns,h=>by cases h;rfl
 |d::r,ns,h=>by
  cases d with
  |int i =>
   obtain⟨m,h1,rfl⟩:=De.mp (show (wC r).map (i::·)=Aa ns from h)
   rw[uC h1];rfl
  |_=>exact nn h
def yE {K:Ak}{P:Hp}:∀ {ns:Ab Ai} {vs:Ab V},qG K P α (ns.map D.int) vs→vs=ns.map V.int
 |[],vs,r=>by rw[r.nil_inv];rfl
 |n::ns,vs,r=>by
  obtain⟨w,ws,rfl,p,t⟩:=r.cons_inv;simp only[Rep] at p;rw[p,yE t];rfl
end
section
variable {X:Cx}
def rP:DF:=λds S=>match ds with
 |[d]=>match (xK d).bind wC with
  |some ns=>.ok (.int ns.sum) S
  |none=>.bad
 |_=>.bad
def GK {P:Hp}{Ok:D→Sto→Prop}(h:qM X P α (rP ds S) Ok):∃ d xs ns,ds=[d]∧ItV d xs∧wC xs=Aa ns∧Ok (.int ns.sum) S:=by
 obtain⟨d,rfl,h1⟩:=eK (X:=X) (β:=D) (g:=λd=>match (xK d).bind wC with|some ns=>.ok (D.int ns.sum) S|none=>.bad) h
 cases hb:(xK d).bind wC with
 |none=>rw[hb] at h1;exact An h1
 |some ns =>
  rw[hb] at h1;obtain⟨xs,hx,hns⟩:=Ec.mp hb;exact⟨d,xs,ns,rfl,itV hx,hns,h1⟩
def aQ {ns:Ab Ai}(rv:qP (ns.map V.int) us){i:Ah}{v:Ac}(h:us.toArray[i]? = Aa v):∃ t,v=.int (ns.getD i 0) t:=by
 have hu:us[i]? = Aa v:=by simpa using h
 have hl:=rv.length;rw[Bk] at hl;have hi:i<us.length:=(AT.mp hu).1;have hn:i<ns.length:=by omega
 obtain⟨u,h1,h2⟩:=rv.get (i:=i) (x:=.int ns[i]) (by rw[Dl,Aq hn];rfl)
 cases h1.symm.trans hu;obtain⟨t,rfl⟩:=h2;exact⟨t,by simp[IF,hn]⟩
def M1 (hc:X.calm=true):wN X (.builtin "sum") rP:=by
 intro pins σ H s P α S vs us ds Q I r rv rp af;obtain⟨d,xs,ns,ed,hd,hns,ok⟩:=GK af;clear af;subst ed;obtain⟨v,u,rfl,rfl,p,q⟩:=vS rp rv;clear rp rv;have fin:∀ {o:Cg} (h':Bm) (tk t':Ah),(∀ b ob,b ∉ [s.heap.objs.size]→(s.heap.push o).get? b=Aa ob→h'.get? b=Aa ob)→EP X pins σ Q (.int (preSum (λi=>ns.getD i 0) ns.length) t') { s with heap:=h',toks:=tk }:=
  λ{o} h' tk t' k=>⟨.int _,H,d8 I k,⟨t',rfl⟩,xr ok r (by simp only[Rep];rw[preSum_getD,List.take_length])⟩
 clear ok;have hh:X.A.in1.handled=none:=I.ok.hd hc;cases hd with
 |tup ed =>
  subst ed;obtain⟨a,ws,its,rfl,sq,t,rvi,ht,hl,_⟩:=jV I r p;cases (show u=Cf a from q)
  cases uC hns;cases yE t;have hlen:its.toArray.size=ns.length:=by have:=rvi.length;rw[Bk] at this;rw[Bj,this]
  have hne:a≠s.heap.objs.size:=by obtain⟨o,e,_⟩:=ht;exact Cc (Au e)
  have W:=Ve (prog:=X.prog) (w:=X.w) hh s.heap.objs.size a hne its.toArray;have hT:∀ o,(s.heap.push o).IsTuple a its.toArray:=λo=>by obtain⟨o,e,c⟩:=ht;exact⟨o,Aj _ e,c⟩
  have ht':s.heap.IsTuple a its.toArray:=ht;refine call_sum_walkG (Gy ht' ⟨s.heap.objs.size,_,_,_,_,_,λi=>ns.getD i 0,rfl,W,⟨⟨_,Bi _ rfl,rfl,rfl⟩,hT _⟩,?_,λi v h=>aQ rvi h,λh' tk t' k=>?_⟩)
  ·intro b hb
   have:b<s.heap.objs.size+1:=by
    simp only[Bb,Cy,Gc] at hb;rcases hb with rfl|rfl
    ·exact Gf _
    ·obtain⟨o,e,_⟩:=ht
     exact IX (Au e)
   rw[Dr];exact this
  ·rw[hlen]
   exact fin h' tk t' k
 |lst ed =>
  subst ed;obtain⟨a,ws,its,n,rfl,sq,t,rvi,ht,hl,_⟩:=jM I r p;cases (show u=Cf a from q)
  cases uC hns;cases yE t;have hL:s.heap.IsList a its.toArray:=⟨_,ht,rfl,n,rfl⟩;have hlen:its.toArray.size=ns.length:=by have:=rvi.length;rw[Bk] at this;rw[Bj,this]
  have hne:a≠s.heap.objs.size:=Cc (Au ht);have W:=Wj (prog:=X.prog) (w:=X.w) hh s.heap.objs.size a hne its.toArray;have hL':∀ o,(s.heap.push o).IsList a its.toArray:=λo=>⟨_,Aj _ ht,rfl,n,rfl⟩;refine call_sum_walkG (Gj hL ⟨s.heap.objs.size,_,_,_,_,_,λi=>ns.getD i 0,rfl,W,⟨⟨_,Bi _ rfl,rfl,rfl⟩,hL' _⟩,?_,λi v h=>aQ rvi h,λh' tk t' k=>?_⟩)
  ·intro b hb
   have:b<s.heap.objs.size+1:=by
    simp only[Bb,Cy,Gc] at hb;rcases hb with rfl|rfl
    ·exact Gf _
    ·exact IX (Au ht)
   rw[Dr];exact this
  ·rw[hlen]
   exact fin h' tk t' k
end
section
variable {X:Cx}
def bO:DF:=λds S=>match ds with
 |[.int a,.int b]=>.ok (.int (if b>a then b else a)) S
 |_=>.bad
def jY:DF:=λds S=>match ds with
 |[.int a,.int b]=>.ok (.int (if b<a then b else a)) S
 |_=>.bad
inductive Two (ds:Ab D):Prop
 |no (h:∀ (g:Ai→Ai→Res D),(match ds with|[.int a,.int b]=>g a b|_=>.bad)=.bad)
 |of (a b:Ai) (ed:ds=[.int a,.int b])
def SL (ds:Ab D):Two ds:=by
 cases ds with
 |nil=>exact .no λ_=>rfl
 |cons d ds =>
  cases d with
  |int a =>
   cases ds with
   |nil=>exact .no λ_=>rfl
   |cons e ds =>
    cases e with
    |int b =>
     cases ds with
     |nil=>exact .of a b rfl
     |cons _ _=>exact .no λ_=>rfl
    |_=>exact .no λ_=>rfl
  |_=>exact .no λ_=>rfl
def KA (hc:X.calm=true):wN X (.builtin "max") bO:=by
 intro pins σ H s P α S vs us ds Q I r rv rp af;cases SL ds with
 |no h=>exact(mK (X:=X) (r:=bO ds S) (h _) af).elim
 |of a b ed =>
  subst ed;obtain⟨v,w,u,x,rfl,rfl,p,p',q,q'⟩:=kE rp rv;cases xE p;cases xE p';obtain⟨t,rfl⟩:=q;obtain⟨t',rfl⟩:=q';refine max_two_ints (I.ok.hd hc) λh' tk hk=>?_;have I':Inv X pins σ H { s with heap:=h',toks:=tk }:=I.kept (t':=tk) hk
  by_cases hb:b>a
  ·rw[Bg hb]
   exact⟨.int b,H,I',⟨t',rfl⟩,xr af r (by simp only[Rep];rw[Bg hb])⟩
  ·rw[Bc hb]
   exact⟨.int a,H,I',⟨t,rfl⟩,xr af r (by simp only[Rep];rw[Bc hb])⟩
def KB (hc:X.calm=true):wN X (.builtin "min") jY:=by
 intro pins σ H s P α S vs us ds Q I r rv rp af;cases SL ds with
 |no h=>exact(mK (X:=X) (r:=jY ds S) (h _) af).elim
 |of a b ed =>
  subst ed;obtain⟨v,w,u,x,rfl,rfl,p,p',q,q'⟩:=kE rp rv;cases xE p;cases xE p';obtain⟨t,rfl⟩:=q;obtain⟨t',rfl⟩:=q';refine min_two_ints (I.ok.hd hc) λh' tk hk=>?_;have I':Inv X pins σ H { s with heap:=h',toks:=tk }:=I.kept (t':=tk) hk
  by_cases hb:b<a
  ·rw[Bg hb]
   exact⟨.int b,H,I',⟨t',rfl⟩,xr af r (by simp only[Rep];rw[Bg hb])⟩
  ·rw[Bc hb]
   exact⟨.int a,H,I',⟨t,rfl⟩,xr af r (by simp only[Rep];rw[Bc hb])⟩
end
section
variable {X:Cx}
def Y3:Fy "set" = Aa (.type "set"):=by decide +kernel
variable {e:Bv}{fa:DE}{p1 p2 pos1 pos2:EQ}
end
structure QI2 (X:Cx)(tg it:Bv)(f:DI2):Prop where
 get:PI X tg it (tDI2 X f)
structure QK (Y:Cx)(step:Ac→Jm OO)(k:DK):Prop where
 get:PK Y step k
section
variable {X Y:Cx}{tg it e o elt iter ie:Bv}{es ifs qK:Ab Bv}{fa fo fe fi:DE}{fA:DA}{fI:DI}{f2:DI2}{g:DG}{t:DT}{kk:DK}{p pos:EQ}{n k:Ah}{x:Ar}{cm:Ap}{F:DF}{f:DS}{gens grest:Ab Fc}{scope:Eh}{N':Ab Ar}{cap:Ab (Al Ah)}{mm:Ap}
def W4 (h:QI X tg it fI):QI2 X tg it (wD fI):=⟨KZ h.1⟩
def D9 (h:QE X e fa):QI2 X tg e (dIt fa):=⟨RD h.1⟩
def iH (hx:Y.xe=λ_ _=>Fa)(hlast:gens[k+1]? = none)(he:QE Y elt fe):QK Y (λacc=>xX elt gens scope pos k acc Y.env) (zZ fe):=⟨BA hx hlast he.1⟩
def U7 (hc:X.calm=true)(S:CompSc X.env.scope X.N scope N' cap)(hi:QI2 X tg iter f2)(hg:∀ cl C ex s₀ H₀,QG (zG X N' scope cl C ex s₀ H₀) tg g)(ht:∀ cl C ex s₀ H₀,QTs (zG X N' scope cl C ex s₀ H₀) ifs t)
  (has:∀ g',(⟨tg,iter,ifs,0⟩::grest:Ab Fc)[0+1]? = Aa g'→g'.is_async=0)
  (he:∀ cl C ex s₀ H₀,QK (zG X N' scope cl C ex s₀ H₀) (λacc=>xX elt (⟨tg,iter,ifs,0⟩::grest) scope pos 0 acc (zG X N' scope cl C ex s₀ H₀).env) kk) (hs:∀ x,Fh iter X.env x=pure x) :
  QE X (.ListComp elt (⟨tg,iter,ifs,0⟩::grest) scope pos) (zQ mm cap f2 g t kk):=
 ⟨YK hc S hi.1 (λcl C ex s H=>(hg cl C ex s H).1) (λcl C ex s H=>(ht cl C ex s H).1) has (λcl C ex s H=>(he cl C ex s H).1) hs⟩
def UA {y:Ar}{spos:EQ}(hc:X.calm=true)(hN:X.N.Nodup)(S:CompSc X.env.scope X.N scope N' cap)(hi:QI2 X tg iter f2)(hg:∀ cl C ex s₀ H₀,QG (zG X N' scope cl C ex s₀ H₀) tg g)(ht:∀ cl C ex s₀ H₀,QTs (zG X N' scope cl C ex s₀ H₀) ifs t)
  (has:∀ g',(⟨tg,iter,ifs,0⟩::grest:Ab Fc)[0+1]? = Aa g'→g'.is_async=0)
  (he:∀ cl C ex s₀ H₀,QK (zG X N' scope cl C ex s₀ H₀) (λacc=>xX elt (⟨tg,iter,ifs,0⟩::grest) scope pos 0 acc (zG X N' scope cl C ex s₀ H₀).env) kk) (hy:X.N[m]? = Aa y) (hyl:Loc X.env.scope y) (hf:X.fn y=true∨X.env.scope.names.lookup y=Aa .local)
  (hsw:Kz (.ListComp elt (⟨tg,iter,ifs,0⟩::grest) scope pos) (Aa (.Name y py)) spos.line X.env=pure true) (hs:∀ x,Fh iter X.env x=pure x):QS X (.Assign [.Name y py] (.ListComp elt (⟨tg,iter,ifs,0⟩::grest) scope pos) spos) (qT (zQ mm cap f2 g t kk) (gNm m)):=
 ⟨YR hc hN S hi.1 (λcl C ex s H=>(hg cl C ex s H).1) (λcl C ex s H=>(ht cl C ex s H).1) has (λcl C ex s H=>(he cl C ex s H).1) hy hyl hf hsw hs⟩
end
def kN (H:Hp):Ab (Ad × HO)→Hp
 |[]=>H
 |p::ps=>kN (upd H p.1 p.2) ps
def lK {b:Ad}:∀ {L:Ab (Ad × HO)} {H:Hp},b ∉ L.map (·.1)→kN H L b=H b
 |[],_,_=>rfl
 |p::ps,H,h=>by
  simp only[Dt,Bb,Wx] at h;show kN (upd H p.1 p.2) ps b=H b;rw[lK h.2,qN h.1]
def cH {b:Ad}{u:HO}:∀ {L:Ab (Ad × HO)} {H:Hp},kN H L b=Aa u→(b,u)∈L∨H b=Aa u
 |[],_,h=>.inr h
 |p::ps,H,h=>by
  rcases cH (L:=ps) (H:=upd H p.1 p.2) h with h|h
  ·exact .inl (Bu _ h)
  ·by_cases hb:b=p.1
   ·subst hb
    rw[zB] at h;cases h;exact .inl (Ct ..)
   ·rw[qN hb] at h
    exact .inr h
section
variable {X:Cx}{pins:Ab (Ad × Cg)}{σ : _L.St}{H:Hp}{s:Ag}
def Inv.laidL {L:Ab (Ad × HO)}{t':Ah}(I:Inv X pins σ H s)(k:∀ b u,s.heap.get? b=Aa u→h'.get? b=Aa u)(hp:∀ p∈L,s.heap.objs.size≤p.1)(new:∀ p∈L,zK X.prog X.w (kN H L) h' p.1 p.2) :
  Inv X pins σ (kN H L) { s with heap:=h',toks:=t' }:=by
 have old:∀ b u,H b=Aa u→kN H L b=Aa u:=λb u e=>by
  rw[lK (L:=L)]
  ·exact e
  ·intro hb
   obtain⟨p,hp',rfl⟩:=Dk.mp hb;rw[I.hok.fresh (hp p hp')] at e;cases e
 have low:∀ b,b<s.heap.objs.size→kN H L b=H b:=λb hb=>lK λhm=>by
  obtain⟨p,hp',rfl⟩:=Dk.mp hm;exact absurd (Ba hb (hp p hp')) (Ei _)
 refine I.un ⟨λb u q _ _ _=>k b u q,λb u q _ _ _=>⟨u.slots,k b u q⟩,λb u q n _=>by rw[low b (Au q)];exact n,λb u q _=>⟨u,k b u q⟩,λb xs q=>old b _ q,λb o xs q=>old b _ q,λb ps q=>⟨#[],by rw[old b _ q];simp⟩⟩ λb u e=>?_
 rcases cH e with hm|hb
 ·exact new (b,u) hm
 ·exact(I.hok b u hb).stay (λc v _ q=>k c v q) (λc q=>old c _ q) λc xs q=>old c _ q
end
section
variable {X:Cx}{cm:Ap}{k:Ah}
def HM (hc:X.calm=true):ZCall X (.builtin "sum") rP:=⟨M1 hc⟩
def SY (hc:X.calm=true):ZCall X (.builtin "max") bO:=⟨KA hc⟩
def SZ (hc:X.calm=true):ZCall X (.builtin "min") jY:=⟨KB hc⟩
end
end _D
namespace _S
open PySem
variable {mask:Ah}{xs:Av Ah}
def Rs (xs:Av Ah):Prop:=xs.toList.Pairwise (· < ·)
def Rs.lt (h:Rs xs){a b:Ah}{x y:Ah}(hab:a<b)(ha:xs[a]? = Aa x)(hb:xs[b]? = Aa y):x<y:=by
 obtain⟨h1,e1⟩:=Dq.mp ha;obtain⟨h2,e2⟩:=Dq.mp hb;have:=Ik.mp h a b (by simpa using h1) (by simpa using h2) hab
 rw[← e1,← e2];simpa using this
def getD_some {i x d:Ah}(h:xs[i]? = Aa x):xs.getD i d=x:=by
 obtain⟨h1,e1⟩:=Dq.mp h;simp[Fx,h1,e1]
structure Bel (xs:Av Ah)(j p:Ah):Prop where
 le:p≤xs.size
 lo:∀ i x,i<p→xs[i]? = Aa x→x<j
 hi:∀ i x,p≤i→xs[i]? = Aa x→j≤x
set_option tactic.hygienic true in
def fP (h:Rs xs)(j:Ah):∀ (fuel lo hi:Ah),hi-lo≤fuel→lo≤hi→hi≤xs.size →
  (∀ i x,i<lo→xs[i]? = Aa x→x<j)→(∀ i x,hi≤i→xs[i]? = Aa x→j≤x)→Bel xs j (Uk xs j fuel lo hi)
 |0,lo,hi,h1,h2,h3,h4,h5=>by
  have:lo=hi:=by omega
  subst this;exact⟨h3,h4,h5⟩
 |fuel+1,lo,hi,h1,h2,h3,h4,h5=>by
  unfold Uk;by_cases hlt:lo<hi
  ·rw[Bg hlt]
   have hm:(lo+hi)/2<xs.size:=by omega
   have e:xs[(lo+hi)/2]? = Aa xs[(lo+hi)/2]:=Dv hm;simp only[getD_some e]
   split
   ·rename_i hc
    refine fP h j fuel _ hi (by omega) (by omega) h3 (λi x hi' ex=>?_) h5
    by_cases q:i=(lo+hi)/2
    ·subst q;rw[e] at ex;cases ex;exact hc
    ·exact ID (h.lt (by omega) ex e) hc
   ·rename_i hc
    refine fP h j fuel lo _ (by omega) (by omega) (by omega) h4 (λi x hi' ex=>?_)
    by_cases q:i=(lo+hi)/2
    ·subst q;rw[e] at ex;cases ex;omega
    ·have:=h.lt (show (lo+hi)/2<i by omega) e ex
     omega
  ·rw[Bc hlt]
   have:lo=hi:=by omega
   subst this;exact⟨h3,h4,h5⟩
def jB (h:Rs xs)(j:Ah):Bel xs j (Ce xs j):=
 fP h j _ _ _ (by omega) (by omega) (Ax _) (λi x hi=>by omega) λi x hi ex=>by
  have:=(Dq.mp ex).1;omega
def fO (h:Rs xs){i j:Ah}(e:xs[i]? = Aa j):Ce xs j=i:=by
 have b:=jB h j;have hi:=(Dq.mp e).1;by_cases h1:Ce xs j<i
 ·have e2:xs[Ce xs j]? = Aa xs[Ce xs j]:=Dv (by omega)
  have:=h.lt h1 e2 e;have:=b.hi _ _ (Ax _) e2;omega
 ·by_cases h2:i<Ce xs j
  ·have:=b.lo _ _ h2 e
   omega
  ·omega
def oA (h:Rs xs){i j:Ah}(e:xs[i]? = Aa j):Ce xs (j+1)=i+1:=by
 have b:=jB h (j+1);have hi:=(Dq.mp e).1;have h1:i<Ce xs (j+1):=by
  apply Fd;intro q;have:=b.hi _ _ (by omega) e
  omega
 by_cases h2:i+1<Ce xs (j+1)
 ·have hz:i+1<xs.size:=by have:=b.le;omega
  have e2:xs[i+1]? = Aa xs[i+1]:=Dv hz;have:=b.lo _ _ h2 e2;have:=h.lt (Gf i) e e2;omega
 ·omega
def oB (h:Rs xs):Ce xs 0=0:=by
 have b:=jB h 0;apply Fd;intro q;have hz:0<xs.size:=by have:=b.le;omega
 have e2:xs[0]? = Aa xs[0]:=Dv hz;have:=b.lo _ _ (by omega) e2
 omega
structure Tb (t:Fe):Prop where
 rs:Rs t.place
 dm:t.dummies=#[]
def aL (j:Ah):Tq #[] j=false:=by simp[Tq]
def dM {t:Fe}(T:Tb t){i j:Ah}(e:t.place[i]? = Aa j):t.slot j=.live i:=by
 unfold Xg;simp only[fO T.rs e,e];simp
def Q8 {t:Fe}(T:Tb t)(j:Ah):(∃ i,t.slot j=.live i∧t.place[i]? = Aa j)∨(t.slot j=.empty∧j ∉ t.place.toList):=by
 by_cases h:j∈t.place.toList
 ·obtain⟨i,hi,e⟩:=Cw.mp h
  have e':t.place[i]? = Aa j:=by rw[← Bf,Aq hi,e]
  exact .inl ⟨i,dM T e',e'⟩
 ·refine .inr ⟨?_,h⟩
  unfold Xg;simp only[T.dm,aL];rw[Bc,Bc (by simp)]
  intro q;apply h;have:t.place[Ce t.place j]? = Aa j:=by simpa using q
  obtain⟨h1,e1⟩:=Dq.mp this;rw[← e1];simp
def WL (h:Rs xs){j:Ah}(hj:j ∉ xs.toList):Rs (Bx xs (Ce xs j) j):=by
 have b:=jB h j;unfold Rs;rw[OH];have key:∀ (i:Ah) (x:Ah),xs.toList[i]? = Aa x→(i<Ce xs j→x<j)∧(Ce xs j≤i→j<x):=λi x e=>by
  have e':xs[i]? = Aa x:=by rw[← Bf];exact e
  refine⟨λq=>b.lo _ _ q e',λq=>?_⟩;have h1:=b.hi _ _ q e';have:x≠j:=by
   rintro rfl;exact hj (Cb e)
  omega
 have tk:∀ x∈xs.toList.take (Ce xs j),x<j:=λx hx=>by
  obtain⟨i,hi,e⟩:=Cw.mp hx;rw[Gt] at hi;rw[O8] at e;exact(key i x (by rw[Aq (by omega),e])).1 (by omega)
 have dr:∀ x∈xs.toList.drop (Ce xs j),j<x:=λx hx=>by
  obtain⟨i,hi,e⟩:=Cw.mp hx;rw[Lo] at hi;rw[O9] at e;exact(key (Ce xs j+i) x (by rw[Aq (by omega),e])).2 (by omega)
 rw[DL,Fp];refine⟨Yf h,⟨dr,Yg h⟩,λx hx y hy=>?_⟩;rcases Bb.mp hy with rfl|hy
 ·exact tk x hx
 ·exact ID (tk x hx) (dr y hy)
def mS {α:Type}(xs:Av α){p:Ah}(hp:p≤xs.size)(x:α)(i:Ah):(Bx xs p x)[i]? = if i<p then xs[i]? else if i=p then Aa x else xs[i-1]?:=by
 rw[← Bf,OH];have hl:(xs.toList.take p).length=p:=by simp;omega
 by_cases h1:i<p
 ·rw[Bg h1,Bz (by omega),Kg h1,Bf]
 ·rw[Bc h1,Ci (by omega),hl]
  by_cases h2:i=p
  ·subst h2;simp
  ·rw[Bc h2]
   obtain⟨k,hk⟩:∃ k,i-p=k+1:=⟨i-p-1,by omega⟩
   rw[hk,Pg,Tf,Bf]
   congr 1;omega
def uI {α:Type}(xs:Av α)(p:Ah)(x:α):(Bx xs p x).size=xs.size+1:=by
 have:=(Hn xs p x).length_eq;simpa using this
def LV {t:Fe}(T:Tb t){j:Ah}(hj:j ∉ t.place.toList):Tb (t.put j).1:=by
 refine⟨WL T.rs hj,?_⟩;show (if Tq t.dummies j then _ else t.dummies)=#[]
 rw[T.dm,aL];rfl
open PySem.SetTable (Probe leap runEnd turns bits)
def adv (mask:Ah)(p:La):La:=if p.more>0 then { p with j:=p.j+1,more:=p.more-1 } else { p with j:=(leap mask p.i p.perturb).1,more:=Go mask (leap mask p.i p.perturb).1-(leap mask p.i p.perturb).1,i:=(leap mask p.i p.perturb).1,perturb:=(leap mask p.i p.perturb).2 }
def FV (t:Fe)(p:La):t.advance p=adv t.mask p:=rfl
def it (mask:Ah):Ah→La→La
 |0,p=>p
 |n+1,p=>it mask n (adv mask p)
def bS (mask:Ah):∀ (n:Ah) (p:La),it mask (n+1) p=adv mask (it mask n p)
 |0,p=>rfl
 |n+1,p=>bS mask n (adv mask p)
def mX (mask:Ah):∀ (m n:Ah) (p:La),it mask (m+n) p=it mask n (it mask m p)
 |0,n,p=>by rw[Mw];rfl
 |m+1,n,p=>by rw[Nw];exact mX mask m n (adv mask p)
def rs (mask i pert:Ah):La:={ j:=i,more:=Go mask i-i,i,perturb:=pert,dummy:=none }
def st (mask:Ah)(h:Ai):La:=rs mask (bits h % (mask+1)) (bits h)
def EY (t:Fe)(h:Ai):t.probeStart h=st t.mask h:=rfl
def pX (mask i pert:Ah):∀ k,k≤Go mask i-i→it mask k (rs mask i pert)={ j:=i+k,more:=Go mask i-i-k,i,perturb:=pert,dummy:=none }
 |0,_=>rfl
 |k+1,hk=>by
  rw[bS,pX mask i pert k (by omega)]
  unfold adv;rw[Bg (by show Go mask i-i-k>0;omega)]
  simp only[Probe.mk.injEq,and_true,true_and];omega
def aU (mask i pert:Ah):it mask (Go mask i-i+1) (rs mask i pert)=rs mask (leap mask i pert).1 (leap mask i pert).2:=by
 rw[bS,pX mask i pert _ (Ax _)];unfold adv;rw[Bc (by show ¬ (Go mask i-i-(Go mask i-i)>0);omega)]
 rfl
def DX (mask i:Ah):Go mask i-i+1≤10:=by
 unfold Go
 split <;> omega
def lp (mask:Ah):Ah→Ah × Ah→Ah × Ah
 |0,q=>q
 |n+1,q=>lp mask n (leap mask q.1 q.2)
def X3 (mask:Ah):∀ (m n:Ah) (q:Ah × Ah),lp mask (m+n) q=lp mask n (lp mask m q)
 |0,n,p=>by rw[Mw];rfl
 |m+1,n,p=>by rw[Nw];exact X3 mask m n _
def JE (mask:Ah):∀ (n i pert:Ah),∃ k,k≤10*n∧it mask k (rs mask i pert)=rs mask (lp mask n (i,pert)).1 (lp mask n (i,pert)).2
 |0,i,pert=>⟨0,by omega,rfl⟩
 |n+1,i,pert=>by
  obtain⟨k,hk,e⟩:=JE mask n (leap mask i pert).1 (leap mask i pert).2;refine⟨(Go mask i-i+1)+k,by have:=DX mask i;omega,?_⟩
  rw[mX,aU,e];rfl
def i6 (mask:Ah):∀ (n i pert:Ah),(lp mask n (i,pert)).2=pert/32 ^ n
 |0,i,pert=>by simp[lp]
 |n+1,i,pert=>by
  show (lp mask n ((leap mask i pert).1,pert/32)).2=_;rw[i6 mask n _ (pert/32),Nat.div_div_eq_div_mul,← Nat.pow_succ']
def nR (mask i pert:Ah):(leap mask i pert).1≤mask:=IY (Nc _ (Mx _))
def JH (mask:Ah):∀ (n i pert:Ah),i≤mask→(lp mask n (i,pert)).1≤mask
 |0,i,pert,h=>h
 |n+1,i,pert,h=>JH mask n _ _ (nR mask i pert)
def cY (h:Ai):bits h<2 ^ 64:=by
 unfold bits;have h1:(0:Ai)≤h % 2 ^ 64:=Ka _ (by decide)
 have h2:h % 2 ^ 64<(2 ^ 64:Ai):=IL _ (by decide)
 omega
def cyc (mask:Ah):Ah→Ah→Ah
 |0,i=>i
 |n+1,i=>cyc mask n ((i*5+1) % (mask+1))
def bM (mask:Ah):∀ (m n i:Ah),cyc mask (m+n) i=cyc mask n (cyc mask m i)
 |0,n,p=>by rw[Mw];rfl
 |m+1,n,p=>by rw[Nw];exact bM mask m n _
def X4 (mask:Ah):∀ (n i:Ah),(lp mask n (i,0)).1=cyc mask n i
 |0,i=>rfl
 |n+1,i=>by
  show (lp mask n (leap mask i 0)).1=_;have:leap mask i 0=((i*5+1) % (mask+1),0):=by simp[leap]
  rw[this,X4 mask n];rfl
def Msk (mask:Ah):Prop:=mask=7∨mask=31∨mask=127∨mask=511∨mask=2047
def orb (mask:Ah):Ah→Ah→Ah→Ah
 |0,_,acc=>acc
 |n+1,i,acc=>orb mask n ((i*5+1) % (mask+1)) (acc ||| 1 <<< i)
def Z9 (mask:Ah):Ap:=orb mask (mask+1) 0 0 == 2 ^ (mask+1)-1&&cyc mask (mask+1) 0 == 0
def ZC (h:Msk mask):Z9 mask=true:=by
 rcases h with rfl|rfl|rfl|rfl|rfl <;> decide +kernel
def iC (mask e:Ah):∀ (n i acc:Ah),(orb mask n i acc).testBit e=true→acc.testBit e=true∨∃ m,m<n∧cyc mask m i=e
 |0,i,acc,h=>.inl h
 |n+1,i,acc,h=>by
  rcases iC mask e n _ _ h with q|⟨m,hm,q⟩
  ·rw[Nat.testBit_or,Mn] at q
   rcases q with q|q
   ·exact .inl q
   ·rw[Nat.one_shiftLeft,Nat.testBit_two_pow,Cd] at q
    exact .inr ⟨0,by omega,q⟩
  ·exact .inr ⟨m+1,by omega,q⟩
def YE (h:Msk mask){i e:Ah}(hi:i≤mask)(he:e≤mask):∃ n,n≤mask∧cyc mask n i=e:=by
 have a:=ZC h;unfold Z9 at a;rw[Bn] at a;obtain⟨a1,a2⟩:=a;have a1:orb mask (mask+1) 0 0=2 ^ (mask+1)-1:=by simpa using a1
 have g:∀ e,e≤mask→∃ n,n≤mask∧cyc mask n 0=e:=λe he=>by
  have q:(orb mask (mask+1) 0 0).testBit e=true:=by rw[a1,Nat.testBit_two_pow_sub_one];simp;omega
  rcases iC mask e _ _ _ q with q|⟨n,hn,q⟩
  ·simp at q
  ·exact⟨n,by omega,q⟩
 have a3:cyc mask (mask+1) 0=0:=by simpa using a2
 obtain⟨m,hm,em⟩:=g i hi;obtain⟨n,hn,en⟩:=g e he;by_cases q:m≤n
 ·refine⟨n-m,by omega,?_⟩
  rw[← em,← bM,show m+(n-m)=n by omega]
  exact en
 ·refine⟨n+(mask+1)-m,by omega,?_⟩
  rw[← em,← bM,show m+(n+(mask+1)-m)=(mask+1)+n by omega,bM,a3]
  exact en
def eD (h:Msk mask){i pert e:Ah}(hi:i≤mask)(hp:pert<2 ^ 64)(he:e≤mask):∃ n,n≤mask+13∧(lp mask n (i,pert)).1=e:=by
 have h0:(lp mask 13 (i,pert)).2=0:=by
  rw[i6];apply Nat.div_eq_of_lt;exact ID hp (by decide)
 obtain⟨n,hn,q⟩:=YE h (JH mask 13 i pert hi) he;refine⟨13+n,by omega,?_⟩
 rw[X3];have:lp mask 13 (i,pert)=((lp mask 13 (i,pert)).1,0):=by rw[← h0]
 rw[this,X4];exact q
def rS (h:Msk mask)(hs:Ai){e:Ah}(he:e≤mask):∃ n,n<10*turns mask∧(it mask n (st mask hs)).j=e:=by
 obtain⟨n,hn,q⟩:=eD h (i:=bits hs % (mask+1)) (IY (Nc _ (Mx _))) (cY hs) he;obtain⟨k,hk,e1⟩:=JE mask n (bits hs % (mask+1)) (bits hs);refine⟨k,by unfold turns;omega,?_⟩
 show (it mask k (rs mask _ _)).j=e;rw[e1];exact q
def fY (mask:Ah):∀ (n:Ah) (p:La),(it mask n p).dummy=p.dummy
 |0,p=>rfl
 |n+1,p=>by
  show (it mask n (adv mask p)).dummy=_;rw[fY mask n];unfold adv
  split <;> rfl
def Way (t:Fe)(p:La)(n:Ah):Prop:=∀ m,m<n→(it t.mask m p).j∈t.place.toList
inductive Meets (t:Fe)(hashAt:Ah→Ai)(h:Ai)(p:La)(fuel:Ah):Al SetTable.Met→Prop
 |emp (n:Ah) (hn:n<fuel) (w:Way t p n) (e:(it t.mask n p).j ∉ t.place.toList) (q:∀ m i,m<n→t.place[i]? = Aa (it t.mask m p).j→hashAt i≠h):Meets t hashAt h p fuel (Aa (.empty (it t.mask n p).j none))
 |cand (n i:Ah) (hn:n<fuel) (w:Way t p n) (e:t.place[i]? = Aa (it t.mask n p).j) (hh:hashAt i=h) (q:∀ m i,m<n→t.place[i]? = Aa (it t.mask m p).j→hashAt i≠h):Meets t hashAt h p fuel (Aa (.candidate (it t.mask n p).j i (it t.mask (n+1) p)))
def WK (h:Rs xs){a b x:Ah}(ha:xs[a]? = Aa x)(hb:xs[b]? = Aa x):a=b:=by rw[← fO h ha,fO h hb]
set_option tactic.hygienic true in
def gS {t:Fe}(T:Tb t)(hashAt:Ah→Ai)(h:Ai):∀ (fuel:Ah) (p:La),p.dummy=none→(∃ n,n<fuel∧(it t.mask n p).j ∉ t.place.toList)→Meets t hashAt h p fuel (IZ t hashAt h fuel p)
 |0,p,_,⟨n,hn,_⟩=>by omega
 |fuel+1,p,hd,⟨n,hn,hne⟩=>by
  unfold IZ;rcases Q8 T p.j with⟨i,e,ei⟩|⟨e,q⟩
  ·rw[e]
   simp only
   split
   ·rename_i hh
    exact Meets.cand 0 i (by omega) (λm hm=>by omega) ei (by simpa using hh) λm i hm=>by omega
   ·rename_i hh
    have hh':hashAt i≠h:=by simpa using hh
    have hn0:n≠0:=by
     rintro rfl;exact hne (Cb (by rw[Bf];exact ei))
    obtain⟨n',rfl⟩:∃ n',n=n'+1:=⟨n-1,by omega⟩
    have ih:=gS T hashAt h fuel (adv t.mask p) (by rw[← hd];exact fY t.mask 1 p) ⟨n',by omega,hne⟩
    rw[FV];have mem0:p.j∈t.place.toList:=Cb (by rw[Bf];exact ei)
    have up:∀ {k:Ah},Way t (adv t.mask p) k→Way t p (k+1):=λ{k} w m hm=>by
     cases m with
     |zero=>exact mem0
     |succ m=>exact w m (by omega)
    have upq:∀ {k:Ah},(∀ m i,m<k→t.place[i]? = Aa (it t.mask m (adv t.mask p)).j→hashAt i≠h)→∀ m i,m<k+1→t.place[i]? = Aa (it t.mask m p).j→hashAt i≠h:=λ{k} q m i' hm e'=>by
     cases m with
     |zero=>rw[WK T.rs e' ei];exact hh'
     |succ m=>exact q m i' (by omega) e'
    generalize hg:IZ t hashAt h fuel (adv t.mask p)=r at ih;cases ih with
    |emp k hk w e1 q1=>exact Meets.emp (p:=p) (k+1) (by omega) (up w) e1 (upq q1)
    |cand k i' hk w e1 hh1 q1=>exact Meets.cand (p:=p) (k+1) i' (by omega) (up w) e1 hh1 (upq q1)
  ·rw[e]
   simp only[hd];exact Meets.emp (p:=p) 0 (by omega) (λm hm=>by omega) q λm i hm=>by omega
end _S
namespace _S
open PySem
open PySem.SetTable (Probe leap runEnd turns bits)
variable {us:Ab Ah}{mask:Ah}{owner:Av (Al Ah)}
structure Own (mask:Ah)(owner:Av (Al Ah))(us:Ab Ah):Prop where
 size:owner.size=mask+1
 nd:us.Nodup
 le:∀ u∈us,u≤mask
 at':∀ j k,j≤mask→(owner.getD j (Aa 0)=Aa k↔us[k]? = Aa j)
def lD {i:Ah}(hi:i≤mask):Go mask i≤mask:=by
 unfold Go
 split <;> omega
def lE (mask i:Ah):i≤Go mask i:=by
 unfold Go
 split <;> omega
def Own.none (O:Own mask owner us){j:Ah}(hj:j≤mask):(owner.getD j (Aa 0)).isNone=true↔j ∉ us:=by
 constructor
 ·intro h hm
  obtain⟨k,hk,e⟩:=Cw.mp hm;have:=(O.at' j k hj).mpr (by rw[Aq hk,e])
  rw[this] at h;cases h
 ·intro h
  cases q:owner.getD j (Aa 0) with
  |none=>rfl
  |some k=>exact absurd (Cb ((O.at' j k hj).mp q)) h
def lX (O:Own mask owner us):∀ (fuel i pert:Ah),i≤mask→(∃ L,L<fuel∧(lp mask L (i,pert)).1 ∉ us) →
  ∃ n,Ho mask owner fuel i pert=Aa (it mask n (rs mask i pert)).j∧(it mask n (rs mask i pert)).j≤mask∧(it mask n (rs mask i pert)).j ∉ us∧∀ m,m<n→(it mask m (rs mask i pert)).j∈us
 |0,i,pert,hi,⟨L,hL,_⟩=>by omega
 |fuel+1,i,pert,hi,⟨L,hL,hne⟩=>by
  unfold Ho;have hmx:=lD hi;have hmn:=lE mask i;cases hf:(By (Go mask i+1-i)).find? λk=>(owner.getD (i+k) (Aa 0)).isNone with
  |some k =>
   obtain⟨h1,h2,h3⟩:=List.find?_range_eq_some.mp hf;have hk:k<Go mask i+1-i:=Dy.mp h2;have ej:(it mask k (rs mask i pert)).j=i+k:=by rw[pX mask i pert k (by omega)]
   refine⟨k,?_,?_,?_,λm hm=>?_⟩
   ·rw[ej]
   ·rw[ej];omega
   ·rw[ej];exact(O.none (by omega)).mp h1
   ·rw[pX mask i pert m (by omega)]
    have:=h3 m hm;apply Fd;intro q;rw[(O.none (show i+m≤mask by omega)).mpr q] at this
    cases this
  |none =>
   have hall:∀ k,k<Go mask i+1-i→i+k∈us:=λk hk=>by
    have:=List.find?_eq_none.mp hf k (Dy.mpr hk);apply Fd;intro q;exact this ((O.none (show i+k≤mask by omega)).mpr q)
   have hL0:L≠0:=by
    rintro rfl;exact hne (hall 0 (by omega))
   obtain⟨L',rfl⟩:∃ L',L=L'+1:=⟨L-1,by omega⟩
   obtain⟨n,q1,q2,q3,q4⟩:=lX O fuel (leap mask i pert).1 (leap mask i pert).2 (nR mask i pert) ⟨L',by omega,hne⟩
   have e:∀ m,it mask (Go mask i-i+1+m) (rs mask i pert)=it mask m (rs mask (leap mask i pert).1 (leap mask i pert).2):=λm=>by rw[mX,aU]
   refine⟨Go mask i-i+1+n,?_,?_,?_,λm hm=>?_⟩
   ·rw[e];exact q1
   ·rw[e];exact q2
   ·rw[e];exact q3
   ·by_cases hlt:m<Go mask i-i+1
    ·rw[pX mask i pert m (by omega)]
     exact hall m (by omega)
    ·obtain⟨m',rfl⟩:∃ m',m=Go mask i-i+1+m':=⟨m-(Go mask i-i+1),by omega⟩
     rw[e];exact q4 m' (by omega)
def gap (h:us.length≤mask):∃ e,e≤mask∧e ∉ us:=by
 apply Fd;intro q;have:By (mask+1) ⊆ us:=λe he=>by
  apply Fd;intro r;exact q ⟨e,by have:=Dy.mp he;omega,r⟩
 have:=List.Nodup.length_le_of_subset Vi this;rw[Lb] at this;omega
def B3 (mask:Ah):Own mask (Array.replicate (mask+1) none) []:=by
 refine⟨by simp,List.nodup_nil,λu hu=>by simp at hu,λj k hj=>?_⟩
 have:j<mask+1:=by omega
 simp[Fx,this]
def VZ (O:Own mask owner us){j:Ah}(hj:j≤mask)(hn:j ∉ us):Own mask (owner.setIfInBounds j (Aa us.length)) (us++[j]):=by
 refine⟨by simp[O.size],?_,λu hu=>?_,λi k hi=>?_⟩
 ·rw[Oy]
  refine⟨O.nd,by simp,λa ha b hb=>?_⟩
  simp at hb;rintro rfl;subst hb;exact hn ha
 ·rcases Cp.mp hu with h|h
  ·exact O.le u h
  ·simp at h;omega
 ·have hsz:=O.size
  have hi':i<owner.size:=by omega
  have hk:∀ {k},us[k]? = Aa i→k<us.length:=λq=>(AT.mp q).1;by_cases hij:j=i
  ·subst hij
   have e1:(owner.setIfInBounds j (Aa us.length)).getD j (Aa 0)=Aa us.length:=by simp[Fx,hi']
   rw[e1];constructor
   ·intro q;cases q;simp
   ·intro q
    by_cases h1:k<us.length
    ·rw[Bz h1] at q
     exact absurd (Cb q) hn
    ·rw[Ci (by omega)] at q
     have:k-us.length=0:=by
      cases hz:k-us.length with
      |zero=>rfl
      |succ z=>rw[hz] at q;simp at q
     congr 1;omega
  ·have e1:(owner.setIfInBounds j (Aa us.length)).getD i (Aa 0)=owner.getD i (Aa 0):=by
    simp[Fx,hi',Array.getElem_setIfInBounds,hij]
   rw[e1,O.at' i k hi];constructor
   ·intro q;rw[Bz (hk q)];exact q
   ·intro q
    by_cases h1:k<us.length
    ·rw[Bz h1] at q;exact q
    ·rw[Ci (by omega)] at q
     cases hz:k-us.length with
     |zero=>rw[hz] at q;simp at q;exact absurd q hij
     |succ z=>rw[hz] at q;simp at q
def o2 (mask:Ah)(us:Ab Ah)(hs:Ab Ai):Prop:=∀ (k:Ah) (h:Ai),hs[k]? = Aa h→∃ n,us[k]? = Aa (it mask n (st mask h)).j∧∀ m,m<n→(it mask m (st mask h)).j∈us
def lW (hM:Msk mask):∀ (hs done:Ab Ai) (owner:Av (Al Ah)) (us:Ab Ah),Own mask owner us→us.length=done.length→done.length+hs.length≤mask→o2 mask us done →
  ∃ owner' us',hs.foldl (λacc h=>do
   let (owner,k) ← acc
   let j ← Ho mask owner (turns mask) (bits h % (mask+1)) (bits h)
   pure (owner.setIfInBounds j (Aa k),k+1)) (Aa (owner,us.length))=Aa (owner',us'.length)∧Own mask owner' us'∧us'.length=done.length+hs.length∧o2 mask us' (done++hs)
 |[],done,owner,us,O,hl,_,hL=>⟨owner,us,rfl,O,by simpa using hl,by simpa using hL⟩
 |h::hs,done,owner,us,O,hl,hlen,hL=>by
  rw[Dh] at hlen;obtain⟨e,he,hne⟩:=gap (mask:=mask) (us:=us) (by omega)
  obtain⟨L,hLn,hLe⟩:=eD hM (i:=bits h % (mask+1)) (IY (Nc _ (Mx _))) (cY h) he;obtain⟨n,q1,q2,q3,q4⟩:=lX O (turns mask) (bits h % (mask+1)) (bits h) (IY (Nc _ (Mx _))) ⟨L,by unfold turns;omega,by rw[hLe];exact hne⟩
  have O':=VZ O q2 q3;have hL':o2 mask (us++[(it mask n (rs mask (bits h % (mask+1)) (bits h))).j]) (done++[h]):=λk h' e'=>by
   by_cases hk:k<done.length
   ·rw[Bz hk] at e'
    obtain⟨n',w1,w2⟩:=hL k h' e';exact⟨n',by rw[Bz (by omega)];exact w1,λm hm=>Dg _ (w2 m hm)⟩
   ·rw[Ci (by omega)] at e'
    cases hz:k-done.length with
    |succ z=>rw[hz] at e';simp at e'
    |zero =>
     rw[hz] at e';simp at e';subst e';refine⟨n,?_,λm hm=>Dg _ (q4 m hm)⟩;rw[Ci (by omega),hl,hz]
     rfl
  obtain⟨owner',us',r1,r2,r3,r4⟩:=lW hM hs (done++[h]) _ _ O' (by simp[hl]) (by simp;omega) hL'
  refine⟨owner',us',?_,r2,by simpa [Xh,Nat.add_comm 1] using r3,by simpa using r4⟩
  rw[Vv];rw[Df] at r1;have e0:(do
   let (owner,k) ← Aa (owner,us.length)
   let j ← Ho mask owner (turns mask) (bits h % (mask+1)) (bits h)
   pure (owner.setIfInBounds j (Aa k),k+1))=Aa (owner.setIfInBounds (it mask n (rs mask (bits h % (mask+1)) (bits h))).j (Aa us.length),us.length+1):=by
   show (Ho mask owner (turns mask) (bits h % (mask+1)) (bits h)).bind _=_;rw[q1];rfl
  rw[e0];exact r1
def dU (hM:Msk mask)(hs:Av Ai)(hlen:hs.size≤mask):∃ owner us,Ul mask hs=Aa owner∧Own mask owner us∧us.length=hs.size∧o2 mask us hs.toList:=by
 obtain⟨owner',us',r1,r2,r3,r4⟩:=lW hM hs.toList [] _ [] (B3 mask) rfl (by simpa using hlen) (λk h e=>by simp at e)
 refine⟨owner',us',?_,r2,by simpa using r3,by simpa using r4⟩
 unfold Ul;rw[← Array.foldl_toList];have:(([]:Ab Ah).length)=0:=rfl;rw[this] at r1
 erw [r1]
 rfl
structure Laid (mask:Ah)(hs:Av Ai)(t:Fe)(qV:Av Ah):Prop where
 msk:t.mask=mask
 tb:Tb t
 size:t.place.size=hs.size
 le:∀ x∈t.place.toList,x≤mask
 perm:qV.toList.Perm (By hs.size)
 way:∀ (i k:Ah) (h:Ai),qV[i]? = Aa k→hs[k]? = Aa h→∃ n,t.place[i]? = Aa (it mask n (st mask h)).j∧Way t (st mask h) n
def ZZ (hM:Msk mask)(hs:Av Ai)(hlen:hs.size≤mask)(finger moves:Ah)(led plain:Ap) :
  ∃ t qV,Sf mask finger moves led plain hs=Aa (t,qV)∧t.led=led∧t.plain=plain∧Laid mask hs t qV:=by
 obtain⟨owner,us,e,O,hl,hL⟩:=dU hM hs hlen;have hg:∀ j,j≤mask→owner.getD j none=owner.getD j (Aa 0):=λj hj=>by
  have:j<owner.size:=by rw[O.size];omega
  simp[Fx,this]
 generalize hlv:((By (mask+1)).filterMap λj=>(owner.getD j none).map (j,·))=live
 have mem:∀ (j k:Ah),(j,k)∈live↔us[k]? = Aa j:=λj k=>by
  rw[← hlv,Hv];constructor
  ·rintro⟨j',hj',q⟩
   have hj'':j'≤mask:=by have:=Dy.mp hj';omega
   rw[hg j' hj''] at q;cases hz:owner.getD j' (Aa 0) with
   |none=>rw[hz] at q;cases q
   |some k' =>
    rw[hz] at q;simp at q;obtain⟨rfl,rfl⟩:=q;exact(O.at' _ _ hj'').mp hz
  ·intro q
   have hj:j≤mask:=O.le j (Cb q);refine⟨j,Dy.mpr (by omega),?_⟩
   rw[hg j hj,(O.at' j k hj).mpr q];rfl
 have hfst:live.map (·.1)=(By (mask+1)).filter λj=>(owner.getD j none).isSome:=by
  rw[← hlv,List.map_filterMap];generalize owner.getD=f
  induction By (mask+1) with
  |nil=>rfl
  |cons a l ih =>
   rw[Hl,List.filter_cons];cases hz:f a none with
   |none=>simpa using ih
   |some k=>simpa using ih
 have hR:(live.map (·.1)).Pairwise (· < ·):=by
  rw[hfst];exact Ya _ List.pairwise_lt_range
 have ndl:(live.map (·.2)).Nodup:=by
  unfold Wk;rw[Hf];have h1:=Hf.mp hR;refine OI (λ{a b} ha hb hab=>?_) h1;intro q;have ea:=(mem a.1 a.2).mp ha;have eb:=(mem b.1 b.2).mp hb;rw[← q,ea] at eb;simp at eb;omega
 have pm:(live.map (·.2)).Perm (By hs.size):=by
  rw[List.perm_ext_iff_of_nodup ndl Vi];intro k;rw[Dk,Dy,← hl];constructor
  ·rintro⟨⟨j,k'⟩,h1,rfl⟩
   exact(AT.mp ((mem j k').mp h1)).1
  ·intro hk
   exact⟨(us[k],k),(mem _ _).mpr (Aq hk),rfl⟩
 have hmem:∀ j,j∈live.map (·.1)↔j∈us:=λj=>by
  rw[Dk];constructor
  ·rintro⟨⟨j',k⟩,h1,rfl⟩
   exact Cb ((mem _ _).mp h1)
  ·intro h1
   obtain⟨k,hk,e⟩:=Cw.mp h1;exact⟨(j,k),(mem _ _).mpr (by rw[Aq hk,e]),rfl⟩
 refine⟨{ mask,place:=(live.map (·.1)).toArray,dummies:=#[],finger,led,moves,plain },(live.map (·.2)).toArray,?_,rfl,rfl,rfl,⟨?_,rfl⟩,?_,λx hx=>?_,?_,λi k h e1 e2=>?_⟩
 ·unfold Sf
  rw[e,← hlv];rfl
 ·exact hR
 ·have:=pm.length_eq
  simp at this ⊢;exact this
 ·exact O.le x ((hmem x).mp hx)
 ·exact pm
 ·have e1':(live.map (·.2))[i]? = Aa k:=by simpa using e1
  rw[Dl] at e1';cases hz:live[i]? with
  |none=>rw[hz] at e1';cases e1'
  |some jk =>
   rw[hz] at e1';simp at e1';have hin:=Cb hz;have hu:=(mem jk.1 jk.2).mp hin;obtain⟨n,w1,w2⟩:=hL k h (by rw[Bf];exact e2)
   rw[← e1'] at w1;rw[hu] at w1;refine⟨n,?_,λm hm=>?_⟩
   ·rw[← w1]
    simp[hz]
   ·have:=(hmem _).mpr (w2 m hm)
    simpa using this
def BY {t:Fe}{hs:Av Ai}{w:Ah}:SetTable.relaid t hs w=Sf (Em w-1) t.finger (t.movedTo (Em w-1)) t.led t.plain hs:=rfl
end _S
namespace _S
open PySem
open PySem.SetTable (Probe leap runEnd turns bits)
structure Set0 {K:Type}(is:K→Ac→Prop)(hash:K→Ai)(es:Av (Ai × Ac))(seen:Ab K):Prop where
 good:∀ e∈es.toList,∃ k,e.1=hash k∧is k e.2
 nd:es.toList.Pairwise λa b=>∀ k,is k a.2→¬ is k b.2
 mem:∀ k,k∈seen↔∃ e∈es.toList,is k e.2
section
variable {K:Type}{is:K→Ac→Prop}{hash:K→Ai}{es es':Av (Ai × Ac)}{seen seen':Ab K}
def Set0.perm (Z:Set0 is hash es seen)(p:es'.toList.Perm es.toList):Set0 is hash es' seen:=
 ⟨λe he=>Z.good e (p.mem_iff.mp he),(p.pairwise_iff λ{x y} h k hy hx=>h k hx hy).mpr Z.nd,λk=>(Z.mem k).trans ⟨λ⟨e,he,q⟩=>⟨e,p.mem_iff.mpr he,q⟩,λ⟨e,he,q⟩=>⟨e,p.mem_iff.mp he,q⟩⟩⟩
def Set0.nil:Set0 is hash #[] []:=⟨λe he=>by simp at he,by simp,λk=>by simp⟩
def Set0.push (Z:Set0 is hash es seen)(inj:∀ {k k':K} {v:Ac},is k v→is k' v→k=k'){k:K}{x:Ac}(hk:is k x)(hn:k ∉ seen)(p:es'.toList.Perm (es.toList++[(hash k,x)])):Set0 is hash es' (k::seen):=by
 refine Set0.perm (es:=es.push (hash k,x)) ⟨λe he=>?_,?_,λk'=>?_⟩ (by simpa using p)
 ·rw[Ef] at he
  rcases Cp.mp he with he|he
  ·exact Z.good e he
  ·simp at he;subst he;exact⟨k,rfl,hk⟩
 ·rw[Ef,DL]
  refine⟨Z.nd,by simp,λa ha b hb k' h1 h2=>?_⟩
  simp at hb;subst hb;have:=inj hk h2;subst this;exact hn ((Z.mem k).mpr ⟨a,ha,h1⟩)
 ·rw[Bb,Z.mem,Ef]
  constructor
  ·rintro (rfl|⟨e,he,q⟩)
   ·exact⟨(hash k',x),by simp,hk⟩
   ·exact⟨e,Dg _ he,q⟩
  ·rintro⟨e,he,q⟩
   rcases Cp.mp he with he|he
   ·exact .inr ⟨e,he,q⟩
   ·simp at he;subst he;exact .inl (inj q hk)
def Set0.again (Z:Set0 is hash es seen){k:K}(hk:k∈seen):Set0 is hash es (k::seen):=
 ⟨Z.good,Z.nd,λk'=>by rw[Bb,Z.mem];exact⟨λh=>h.elim (λe=>by subst e;exact(Z.mem _).mp hk) id,.inr⟩⟩
end
section
open Classical in
def fZ {K:Type}{is:K→Ac→Prop}:∀ (L:Ab (Ai × Ac)) (U:Ab K),L.Pairwise (λa b=>∀ k,is k a.2→¬ is k b.2)→(∀ e∈L,∃ k∈U,is k e.2)→L.length≤U.length
 |[],U,_,_=>Hi _
 |e::L,U,nd,h=>by
  rw[Fp] at nd;obtain⟨k0,hk0,q0⟩:=h e (by simp)
  have ih:=fZ L (U.erase k0) nd.2 λe' he'=>by
   obtain⟨k,hk,q⟩:=h e' (by simp[he'])
   have:k≠k0:=λz=>nd.1 e' he' k0 q0 (z▸q);exact⟨k,(Rl this).mpr hk,q⟩
  rw[OJ hk0] at ih;have:0<U.length:=Qf hk0;rw[Dh];omega
open Classical in
def Set0.few {K:Type}{is:K→Ac→Prop}{hash:K→Ai}{es:Av (Ai × Ac)}{seen U:Ab K}{k:K}(Z:Set0 is hash es seen)(hU:∀ k'∈seen,k'∈U)(hk:k∈U)(hn:k ∉ seen):es.size<U.length:=by
 have:=fZ es.toList (U.erase k) Z.nd λe he=>by
  obtain⟨k',_,q⟩:=Z.good e he;have hs:=(Z.mem k').mpr ⟨e,he,q⟩;have hne:k'≠k:=λz=>hn (z▸hs);exact⟨k',(Rl hne).mpr (hU k' hs),q⟩
 rw[OJ hk,Bh] at this;have:0<U.length:=Qf hk;omega
end
structure TabT (t:Fe)(es:Av (Ai × Ac)):Prop where
 tb:Tb t
 msk:Msk t.mask
 size:t.place.size=es.size
 le:∀ x∈t.place.toList,x≤t.mask
 few:es.size*5<t.mask*3
 way:∀ (i:Ah) (e:Ai × Ac),es[i]? = Aa e→∃ n,t.place[i]? = Aa (it t.mask n (st t.mask e.1)).j∧Way t (st t.mask e.1) n
 plain:t.plain=true
def TabT.fits {t:Fe}{es:Av (Ai × Ac)}(T:TabT t es):t.fits es.size=true:=by
 have h1:=T.size;have h2:=T.few;have h3:t.fill=es.size:=by unfold Ju;rw[T.tb.dm,h1];rfl
 unfold Sg;rw[h3,h1];rcases T.msk with h|h|h|h|h <;> rw[h] at h2 ⊢ <;> simp <;> omega
def TabT.gap {t:Fe}{es:Av (Ai × Ac)}(T:TabT t es):∃ e,e≤t.mask∧e ∉ t.place.toList:=by
 apply _S.gap;rw[Bh,T.size];have h2:=T.few;rcases T.msk with h|h|h|h|h <;> rw[h] at h2 ⊢ <;> omega
def TabT.odd {t:Fe}{es:Av (Ai × Ac)}(T:TabT t es):t.gaveWay=false:=by
 unfold SetTable.gaveWay;rcases T.msk with h|h|h|h|h <;> rw[h] <;> rfl
def TabT.put {t:Fe}{es:Av (Ai × Ac)}(T:TabT t es){h:Ai}{x:Ac}{n:Ah}(w:Way t (st t.mask h) n)(hn:(it t.mask n (st t.mask h)).j ∉ t.place.toList)(hle:(it t.mask n (st t.mask h)).j≤t.mask) :
  let es':=Bx es (t.put (it t.mask n (st t.mask h)).j).2 (h,x)
  Tb (t.put (it t.mask n (st t.mask h)).j).1∧(t.put (it t.mask n (st t.mask h)).j).1.place.size=es'.size∧(∀ y∈(t.put (it t.mask n (st t.mask h)).j).1.place.toList,y≤t.mask) ∧
  (∀ (i:Ah) (e:Ai × Ac),es'[i]? = Aa e→∃ m,(t.put (it t.mask n (st t.mask h)).j).1.place[i]? = Aa (it t.mask m (st t.mask e.1)).j∧Way (t.put (it t.mask n (st t.mask h)).j).1 (st t.mask e.1) m):=by
 generalize hj:(it t.mask n (st t.mask h)).j=j at *;have pm:∀ y,y∈(t.put j).1.place.toList↔y=j∨y∈t.place.toList:=λy=>by
  show y∈(Bx t.place (Ce t.place j) j).toList↔_;rw[(Hn _ _ _).mem_iff];simp[or_comm]
 have hb:Ce t.place j≤t.place.size:=(jB T.tb.rs j).le;have wm:∀ {p:La} {m:Ah},Way t p m→Way (t.put j).1 p m:=λ{p m} w q hq=>(pm _).mpr (.inr (w q hq));refine⟨LV T.tb hn,?_,λy hy=>?_,λi e he=>?_⟩
 ·show (Bx t.place _ j).size=(Bx es _ (h,x)).size
  rw[uI,uI,T.size]
 ·rcases (pm y).mp hy with rfl|hy
  ·exact hle
  ·exact T.le y hy
 ·have he':(if i<Ce t.place j then es[i]? else if i=Ce t.place j then Aa (h,x) else es[i-1]?)=Aa e:=by
   rw[← mS es (by rw[← T.size];exact hb)]
   exact he
  have pl:(t.put j).1.place[i]? = if i<Ce t.place j then t.place[i]? else if i=Ce t.place j then Aa j else t.place[i-1]?:=mS t.place hb j i
  rw[pl];by_cases h1:i<Ce t.place j
  ·rw[Bg h1] at he' ⊢
   obtain⟨m,q1,q2⟩:=T.way i e he';exact⟨m,q1,wm q2⟩
  ·rw[Bc h1] at he' ⊢
   by_cases h2:i=Ce t.place j
   ·rw[Bg h2] at he' ⊢
    cases he';exact⟨n,by rw[hj],wm w⟩
   ·rw[Bc h2] at he' ⊢
    obtain⟨m,q1,q2⟩:=T.way _ e he';exact⟨m,q1,wm q2⟩
def JD {mask:Ah}(p:La)(hp:p.j+p.more≤mask):∀ n,(it mask n p).j+(it mask n p).more≤mask
 |0=>hp
 |n+1=>by
  rw[bS];have ih:=JD p hp n;unfold adv
  split
  ·show (it mask n p).j+1+((it mask n p).more-1)≤mask
   omega
  ·show (leap mask _ _).1+(Go mask (leap mask _ _).1-(leap mask _ _).1)≤mask
   have h1:=lD (nR mask (it mask n p).i (it mask n p).perturb);have h2:=lE mask (leap mask (it mask n p).i (it mask n p).perturb).1;omega
def JW (mask:Ah)(h:Ai)(n:Ah):(it mask n (st mask h)).j≤mask:=by
 have h0:bits h % (mask+1)≤mask:=IY (Nc _ (Mx _));have:=JD (mask:=mask) (st mask h) (by
  show bits h % (mask+1)+(Go mask (bits h % (mask+1))-bits h % (mask+1))≤mask;have h1:=lD h0;have h2:=lE mask (bits h % (mask+1));omega) n
 omega
def fL {t:Fe}{es:Av (Ai × Ac)}(hM:Msk t.mask)(hp:t.plain=true)(h1:t.place.size=es.size)(h2:es.size≤1001)(hf:t.tooFull=true)(hd:t.dummies=#[])(h3:(es.size-1)*5<t.mask*3)(h4:0<es.size) :
  Em (Gi es.size)≤2048∧∃ t' qV,t.relaid (es.map (·.1)) (Gi es.size)=Aa (t',qV)∧t'.led=t.led∧(qV.filterMap (es[·]?)).toList.Perm es.toList∧TabT t' (qV.filterMap (es[·]?))∧qV.toList.Perm (By es.size):=by
 have hfill:t.fill=es.size:=by unfold Ju;rw[hd,h1];rfl
 have hful:t.mask*3≤es.size*5:=by
  unfold OY at hf;rw[hfill] at hf;simpa using hf
 have hcase:(es.size=5∧Em (Gi es.size)=32)∨(es.size=19∧Em (Gi es.size)=128)∨(es.size=77∧Em (Gi es.size)=512)∨(es.size=307∧Em (Gi es.size)=2048):=by
  rcases hM with h|h|h|h|h <;> rw[h] at hful h3
  ·have:es.size=5:=by omega
   exact .inl ⟨this,by rw[this];decide⟩
  ·have:es.size=19:=by omega
   exact .inr (.inl ⟨this,by rw[this];decide⟩)
  ·have:es.size=77:=by omega
   exact .inr (.inr (.inl ⟨this,by rw[this];decide⟩))
  ·have:es.size=307:=by omega
   exact .inr (.inr (.inr ⟨this,by rw[this];decide⟩))
  ·omega
 have hM':Msk (Em (Gi es.size)-1):=by
  rcases hcase with⟨_,h⟩|⟨_,h⟩|⟨_,h⟩|⟨_,h⟩ <;> rw[h]
  ·exact .inr (.inl rfl)
  ·exact .inr (.inr (.inl rfl))
  ·exact .inr (.inr (.inr (.inl rfl)))
  ·exact .inr (.inr (.inr (.inr rfl)))
 have hle:(es.map (·.1)).size≤Em (Gi es.size)-1:=by
  rw[Re];rcases hcase with⟨h5,h⟩|⟨h5,h⟩|⟨h5,h⟩|⟨h5,h⟩ <;> rw[h,h5] <;> omega
 obtain⟨t',qV,e,l1,l2,L⟩:=ZZ hM' (es.map (·.1)) hle t.finger (t.movedTo (Em (Gi es.size)-1)) t.led t.plain
 have hosz:qV.size=es.size:=by
  have:=L.perm.length_eq;simpa using this
 have hord:∀ i k,qV[i]? = Aa k→k<es.size:=λi k q=>by
  have:k∈By (es.map (·.1)).size:=L.perm.mem_iff.mp (Cb (by rw[Bf];exact q))
  simpa using this
 have hfm:(qV.filterMap (es[·]?)).toList=qV.toList.map λk=>es.toList.getD k (0,.none):=by
  rw[Array.toList_filterMap];have:∀ l:Ab Ah,(∀ k∈l,k<es.size)→l.filterMap (es[·]?)=l.map λk=>es.toList.getD k (0,.none):=by
   intro l
   induction l with
   |nil=>intro _;rfl
   |cons a l ih =>
    intro hl;have ha:=hl a (by simp)
    rw[Hl,Dt,ih λk hk=>hl k (by simp[hk])]
    rw[Dv ha];simp[ha]
  refine this _ λk hk=>?_;obtain⟨i,hi,q⟩:=Cw.mp hk;exact hord i k (by rw[← Bf,Aq hi,q])
 have hperm:(qV.filterMap (es[·]?)).toList.Perm es.toList:=by
  rw[hfm];have p1:=L.perm.map λk=>es.toList.getD k (0,Dj);refine p1.trans ?_;have e2:(By (es.map (·.1)).size).map (λk=>es.toList.getD k (0,Dj))=es.toList:=by
   apply OZ
   ·simp
   ·intro i a1 a2
    have a3:i<es.size:=by simpa using a2
    simp[a3]
  rw[e2]
 have hsz:(qV.filterMap (es[·]?)).size=es.size:=by rw[← Bh,hperm.length_eq,Bh]
 have hentry:∀ i,(qV.filterMap (es[·]?))[i]? = (qV[i]?).map λk=>es.toList.getD k (0,.none):=λi=>by
  rw[← Bf,hfm,Dl,Bf]
 refine⟨by rcases hcase with⟨_,h⟩|⟨_,h⟩|⟨_,h⟩|⟨_,h⟩ <;> rw[h] <;> decide,t',qV,by rw[BY];exact e,l1,hperm,⟨L.tb,by rw[L.msk];exact hM',by rw[L.size,hsz,Re],by rw[L.msk];exact L.le,?_,λi en q=>?_,by rw[l2];exact hp⟩,by have:=L.perm;rwa [Re] at this⟩
 ·rw[hsz,L.msk]
  rcases hcase with⟨h5,h⟩|⟨h5,h⟩|⟨h5,h⟩|⟨h5,h⟩ <;> rw[h,h5] <;> omega
 ·rw[hentry] at q
  cases hz:qV[i]? with
  |none=>rw[hz] at q;cases q
  |some k =>
   rw[hz] at q;simp only[Vw,Option.some.injEq] at q;have hk:=hord i k hz;have:(es.map (·.1))[k]? = Aa en.1:=by
    rw[Array.getElem?_map,Dv hk];rw[← q];simp[hk]
   rw[L.msk];exact L.way i k en.1 hz this
end _S
namespace _S
open PySem
open PySem.SetTable (Probe leap runEnd turns bits)
variable {Q:Ap→Ag→Prop}
def Sup (h0 h:Bm):Prop:=∀ b o,h0.get? b=Aa o→h.get? b=Aa o
def isT (prog:Bd)(w:Bw)(h0:Bm)(ks:Ab Ai)(v:Ac):Prop:=∃ a,v=.ref a∧Nd (Be prog w) h0 ks a
section
variable {prog:Bd}{w:Bw}{h0:Bm}
def isT.inj {x y:Ab Ai}{v:Ac}(hx:isT prog w h0 x v)(hy:isT prog w h0 y v):x=y:=by
 obtain⟨a,rfl,h1⟩:=hx;obtain⟨b,e,h2⟩:=hy;cases e;exact h1.inj h2
def uL {h:Bm}{ks:Ab Ai}{a:Ad}(hS:Sup h0 h)(hx:Nd (Be prog w) h0 ks a):Nd (Be prog w) h ks a:=by
 obtain⟨o,items,n,ho,r⟩:=hx;exact⟨o,items,n,hS _ _ ho,r⟩
variable {A:Bt}{E:Ac→Ag→Prop}{s:Ag}
def RP {k:Ab Ai}{v:Ac}{Q:Ai→Ag→Prop}(hu:A.units<Ey)(hS:Sup h0 s.heap)(hx:isT prog w h0 k v)(h:Q (Bs (Be prog w) k) { s with toks:=s.toks+(k.length+1) }) : Ao (As prog w) A (pyHash v) Q E s:=by
 obtain⟨a,rfl,hx⟩:=hx;exact wpAny_pyHash_tuple hu (uL hS hx) h
def eqT {k k':Ab Ai}{v v':Ac}(hu:A.units<Ey)(hS:Sup h0 s.heap)(hx:isT prog w h0 k v)(hy:isT prog w h0 k' v')(h:Q (decide (k=k')) s):Ao (As prog w) A (eqBool v v') Q E s:=by
 obtain⟨a,rfl,hx⟩:=hx;obtain⟨b,rfl,hy⟩:=hy;exact wpAny_eqBool_tuple hu (uL hS hx) (uL hS hy) h
def mY:∀ {ks:Ab Ai} {vs:Ab Ac},ItemsAre (Be prog w) ks vs→∀ v∈vs,∃ i t,v=.int i t:=by
 intro ks vs h
 induction h with
 |nil=>intro v hv;simp at hv
 |@cons k v' ks vs h1 _ ih =>
  intro v hv;rcases Bb.mp hv with rfl|hv
  ·cases v <;> first|exact⟨_,_,rfl⟩|exact absurd h1 (by rintro⟨⟩)
  ·exact ih v hv
def HZ {k:Ab Ai}{v:Ac}(hS:Sup h0 s.heap)(hx:isT prog w h0 k v)(h:Q true s):Ao (As prog w) A (Og 8 v) Q E s:=by
 obtain⟨a,rfl,hx⟩:=hx;have hx:=uL hS hx;have hT:=hx.typeIs;obtain⟨o,items,n,ho,_,hd,hi⟩:=hx;unfold Og;refine Af (Px hT F.slot_tuple_hash.lookup ?_);show Ao _ _ (Xf (.ref a) >>= _) Q E s;refine Af (Gh ho hd ?_);refine Af ?_;show Ao _ _ (forIn items _ _) _ _ s;rw[← Tg];refine Pa _ (λqK r s'=>r.1=none∧s'=s∧∀ v∈qK,∃ i t,v=.int i t) _ ?_ ?_ _ _ ⟨rfl,rfl,mY hi⟩
 ·rintro v qK r s' ⟨hr,rfl,hall⟩
  obtain⟨i,t,rfl⟩:=hall v Ct;show Ao _ _ (Og 7 (.int i t) >>= _) _ _ _;rw[show Og 7 (.int i t)=pure true from rfl]
  refine Af (Am ?_);simp only[IS,Bq,Dw];exact Am ⟨rfl,rfl,λu hu'=>hall u (Bu _ hu')⟩
 ·rintro⟨r1,r2⟩ s' ⟨hr,rfl,_⟩
  simp only at hr;subst hr;exact Am h
def Z7 {k:Ab Ai}{v:Ac}(hS:Sup h0 s.heap)(hx:isT prog w h0 k v)(h:Q false s):Ao (As prog w) A (Lc 8 v) Q E s:=by
 obtain⟨a,rfl,hx⟩:=hx;have hx:=uL hS hx;have hT:=hx.typeIs;obtain⟨o,items,n,ho,_,hd,hi⟩:=hx;unfold Lc;refine Af (Kq hT ?_);dsimp only;refine Af (Am ?_);simp only[IS,Bq,Dw];refine Af (Gh ho hd ?_);refine Af ?_;show Ao _ _ (forIn items _ _) _ _ s;rw[← Tg];refine Pa _ (λqK r s'=>r.1=none∧s'=s∧∀ v∈qK,∃ i t,v=.int i t) _ ?_ ?_ _ _ ⟨rfl,rfl,mY hi⟩
 ·rintro v qK r s' ⟨hr,rfl,hall⟩
  obtain⟨i,t,rfl⟩:=hall v Ct;show Ao _ _ (Lc 7 (.int i t) >>= _) _ _ _;rw[show Lc 7 (.int i t)=pure false from rfl]
  refine Af (Am ?_);simp only[Bq,Dw];exact Am ⟨rfl,rfl,λu hu'=>hall u (Bu _ hu')⟩
 ·rintro⟨r1,r2⟩ s' ⟨hr,rfl,_⟩
  simp only at hr;subst hr;exact Am h
def W9 {k:Ab Ai}{v:Ac}(hS:Sup h0 s.heap)(hx:isT prog w h0 k v)(h:Q true s):Ao (As prog w) A (eqIsQuiet 8 v) Q E s:=by
 obtain⟨a,rfl,hx⟩:=hx;exact wpAny_eqIsQuiet_tuple (uL hS hx) h
def oT {α:Type}{c:Prop}[Kw c]{M:Ji}{t u:Jm α}{Q:α→Ag→Prop}(h1:c→Ao M A t Q E s)(h2:¬ c→Ao M A u Q E s):Ao M A (if c then t else u) Q E s:=by
 by_cases h:c
 ·rw[Bg h];exact h1 h
 ·rw[Bc h];exact h2 h
def ET {k:Ab Ai}{x:Ac}{ys:Ab Ac}(hS:Sup h0 s.heap)(hx:isT prog w h0 k x)(hy:∀ y∈ys,∃ k',isT prog w h0 k' y)(h:Q false s):Ao (As prog w) A (Um x ys) Q E s:=by
 unfold Um;refine Af ?_;refine Pa _ (λqK r s'=>r.1=none∧s'=s∧∀ v∈qK,∃ k',isT prog w h0 k' v) _ ?_ ?_ _ _ ⟨rfl,rfl,hy⟩
 ·rintro v qK r s' ⟨hr,rfl,hall⟩
  obtain⟨k',hv⟩:=hall v Ct;have hrest:∀ u∈qK,∃ k',isT prog w h0 k' u:=λu hu'=>hall u (Bu _ hu');dsimp only;refine oT (λ_=>Am ⟨rfl,rfl,hrest⟩) λ_=>?_
  ·refine Af (W9 hS hx ?_)
   simp only[IS,Bq,Dw];refine Af (W9 hS hv ?_);simp only[IS,Bq,Dw];refine Af (Z7 hS hx ?_);simp only[Bq,Dw];refine Af (Z7 hS hv ?_);simp only[Bq,Dw];exact Am ⟨rfl,rfl,hrest⟩
 ·rintro⟨r1,r2⟩ s' ⟨hr,rfl,_⟩
  simp only at hr;subst hr;exact Am h
def ER {k:Ab Ai}{v:Ac}(hx:isT prog w h0 k v)(h:Q true s):Ao (As prog w) A (isSame v v) Q E s:=by
 obtain⟨a,rfl,hx⟩:=hx;unfold isSame;simp only[Ff,Dc];exact Am h
def J9 {k:Ab Ai}{x:Ac}{S:Ad}{o:Cg}{es:Av (Ai × Ac)}{ep:Ah}{t:Fe}{seen:Ab (Ab Ai)}(hu:A.units<Ey)(hS:Sup h0 s.heap)(ho:s.heap.get? S=Aa o)(hd:o.data=.set es ep t)
  (T:TabT t es) (Z:Set0 (isT prog w h0) (Bs (Be prog w)) es seen) (hx:isT prog w h0 k x) (N:Ah) (hNw:Way t (st t.mask (Bs (Be prog w) k)) N)
  (hNe:(it t.mask N (st t.mask (Bs (Be prog w) k))).j ∉ t.place.toList) (hNf:N<10*turns t.mask) {Q:SetFound→Ag→Prop}
  (h1:k∈seen→Q (.there none) s) (h2:k ∉ seen→Q (.free (it t.mask N (st t.mask (Bs (Be prog w) k))).j false) s) :
  ∀ (fuel n:Ah) (stand:Al La),stand.getD (t.probeStart (Bs (Be prog w) k))=it t.mask n (st t.mask (Bs (Be prog w) k))→n≤N→N-n<fuel →
   (∀ (m i:Ah) (e:Ai × Ac),m<n→t.place[i]? = Aa (it t.mask m (st t.mask (Bs (Be prog w) k))).j→es[i]? = Aa e→¬ isT prog w h0 k e.2) →
   Ao (As prog w) A (OA S x (Bs (Be prog w) k) true fuel stand) Q E s
 |0,n,stand,_,_,hf,_=>by omega
 |fuel+1,n,stand,hst,hn,hf,hq=>by
  unfold OA;refine Af (Fk ho hd T.fits ?_);dsimp only;rw[T.odd];simp only[Bq,Dw];rw[hst];generalize hg:t.probe _ (Bs (Be prog w) k) (it t.mask n (st t.mask (Bs (Be prog w) k)))=r;obtain⟨H,hH,hg⟩:∃ H:Ah→Ai,(∀ i,H i=(es[i]?.map (·.1)).getD 0)∧t.probe H (Bs (Be prog w) k) (it t.mask n (st t.mask (Bs (Be prog w) k)))=r:=⟨_,λi=>rfl,hg⟩
  have itn:∀ m,it t.mask m (it t.mask n (st t.mask (Bs (Be prog w) k)))=it t.mask (n+m) (st t.mask (Bs (Be prog w) k)):=λm=>(mX _ _ _ _).symm;have gm:Meets t H (Bs (Be prog w) k) (it t.mask n (st t.mask (Bs (Be prog w) k))) (10*turns t.mask) r:=by
   rw[← hg];refine gS T.tb H _ _ _ (by rw[fY];rfl) ⟨N-n,by omega,?_⟩
   rw[itn,show n+(N-n)=N by omega]
   exact hNe
  have miss:∀ j:Ah,(∀ m i:Ah,m<j→t.place[i]? = Aa (it t.mask m (it t.mask n (st t.mask (Bs (Be prog w) k)))).j→H i≠Bs (Be prog w) k) →
    ∀ (m i:Ah) (e:Ai × Ac),m<n+j→t.place[i]? = Aa (it t.mask m (st t.mask (Bs (Be prog w) k))).j→es[i]? = Aa e→¬ isT prog w h0 k e.2:=λj qj m i e hm ei ee hk=>by
   by_cases hmn:m<n
   ·exact hq m i e hmn ei ee hk
   ·refine qj (m-n) i (by omega) (by rw[itn,show n+(m-n)=m by omega];exact ei) ?_
    rw[hH,ee];obtain⟨k',e1,e2⟩:=Z.good e (Cb (by rw[Bf];exact ee))
    rw[isT.inj hk e2];simpa using e1
  cases gm with
  |emp j hj w' e' q =>
   rw[itn] at e';have hjN:n+j=N:=by
    rcases OB (n+j) N with h|h|h
    ·exact absurd (hNw _ h) e'
    ·exact h
    ·have:=w' (N-n) (by omega)
     rw[itn,show n+(N-n)=N by omega] at this
     exact absurd this hNe
   dsimp only;rw[itn,hjN];refine Am (h2 λhk=>?_);obtain⟨e,he,hke⟩:=(Z.mem k).mp hk;obtain⟨i,hi,ei⟩:=Cw.mp he;have ei':es[i]? = Aa e:=by rw[← Bf,Aq hi,ei]
   obtain⟨m,w1,w2⟩:=T.way i e ei';obtain⟨k',g1,g2⟩:=Z.good e he;have:=isT.inj hke g2;subst this;rw[g1] at w1 w2;have hmN:m<N:=by
    apply Fd;intro hc;by_cases hmN:m=N
    ·subst hmN
     exact hNe (Cb (by rw[Bf];exact w1))
    ·exact hNe (w2 N (by omega))
   exact miss j q m i e (by omega) w1 ei' hke
  |cand j i hj w' e' hh q =>
   rw[itn] at e';have hi:i<es.size:=by
    rw[← T.size];exact(Dq.mp e').1
   have ei:es[i]? = Aa es[i]:=Dv hi;have hjN:n+j<N:=by
    rcases OB (n+j) N with h|h|h
    ·exact h
    ·rw[h] at e'
     exact absurd (Cb (by rw[Bf];exact e')) hNe
    ·have:=w' (N-n) (by omega)
     rw[itn,show n+(N-n)=N by omega] at this
     exact absurd this hNe
   obtain⟨k',g1,g2⟩:=Z.good es[i] (by simp)
   dsimp only;have main:Ao (As prog w) A (do
     let Aa (_,y):=es[i]?|unsupported "internal:set-entry"
     let equal ← holding [y] (eqBool y x)
     let (es',_,t') ← Sr S
     if true&&equal then return .there none
     let Aa same:=t'.sameMemory t.moves t.mask|unsupported "set.changed-during-lookup:is-the-new-block-at-the-old-address"
     let still ← match (if same then t'.slot (it t.mask j (it t.mask n (st t.mask (Bs (Be prog w) k)))).j else .empty) with
      |.live i'=>match es'[i']? with
       |some (_,y')=>do pure (if ← isSame y' y then Aa i' else none)
       |none=>pure none
      |_=>pure none
     match still with
     |none=>rule "set.search.anew";OA S x (Bs (Be prog w) k) true fuel none
     |some i'=>if equal then return .there (Aa i') else OA S x (Bs (Be prog w) k) true fuel (Aa (it t.mask (j+1) (it t.mask n (st t.mask (Bs (Be prog w) k)))))) Q E s:=by
    rw[ei];dsimp only;refine Af (Ed (eqT hu hS g2 hx ?_));refine Af (Fk ho hd T.fits ?_);by_cases hkk:k'=k
    ·subst hkk
     simp only[IB,Bool.and_self,Dc];exact Am (h1 ((Z.mem k').mpr ⟨es[i],by simp,g2⟩))
    ·simp only[hkk,IG,Nj,Bq,Dw]
     have hm:t.sameMemory t.moves t.mask=Aa true:=by simp[SetTable.sameMemory]
     rw[hm];dsimp only;rw[itn,dM T.tb e'];simp only[Dc,ei];refine Af (ER g2 ?_);simp only[Dc];refine Af (Am ?_);dsimp only;refine J9 hu hS ho hd T Z hx N hNw hNe hNf h1 h2 fuel (n+j+1) _ ?_ (by omega) (by omega) λm i' e hm ei' ee hk=>?_
     ·rw[Ls,itn]
      rfl
     ·by_cases hmj:m<n+j
      ·exact miss j q m i' e hmj ei' ee hk
      ·have:m=n+j:=by omega
       subst this;have:=WK T.tb.rs ei' e';subst this;rw[ei] at ee;cases ee;exact hkk (isT.inj g2 hk)
   refine oT (λ_=>?_) λ_=>?_
   ·refine Af (ET hS hx (λy hy=>?_) ?_)
    ·obtain⟨e,he,rfl⟩:=Dk.mp hy
     have:e∈es.toList:=by
      have:=(Mb.mp he);exact Mb.mpr (Array.mem_filter.mp this).1
     obtain⟨k2,_,g⟩:=Z.good e this;exact⟨k2,g⟩
    ·simp only[Bq,Dw]
     exact main
   ·exact main
end
end _S
namespace _S
open PySem
open PySem.SetTable (Probe leap runEnd turns bits)
@[reducible] def setO (es:Av (Ai × Ac))(ep:Ah)(t:Fe):Cg:={ cls:=.type "set",dict:=none,data:=.set es ep t }
def f7 {h:Bm}{S:Ad}{es es':Av (Ai × Ac)}{ep:Ah}{t t':Fe}(ho:h.get? S=Aa (setO es ep t)):(h.update S (Wl es' t')).get? S=Aa (setO es' (ep+1) t'):=Fj _ ho rfl
structure SetK {K:Type}(is:K→Ac→Prop)(hash:K→Ai)(S:Ad)(led:Ap)(V:Ab Ac)(seen:Ab K)(h:Bm):Prop where
 ex:∃ es ep t,h.get? S=Aa (setO es ep t)∧Set0 is hash es seen∧TabT t es∧t.led=led∧∀ e∈es.toList,e.2∈V
section
variable {prog:Bd}{w:Bw}{h0:Bm}{A:Bt}{E:Ac→Ag→Prop}{s:Ag}{S:Ad}{led:Ap}{V:Ab Ac}
def UG (a:Ad)(wanted:Ah):setRelay a wanted=(do
  let (es,_,t) ← Sr a
  if Em wanted>sizeLine then unsupported "set:memory"
  let (es,t) ← (do
   let Aa (t,qV):=t.relaid (es.map (·.1)) wanted|unsupported "internal:set-table-without-room"
   let es':=qV.filterMap (es[·]?)
   if es'.size != es.size then unsupported "internal:set-table-lost-an-element"
   pure (es',t))
  storeSet a es t):=rfl
def HW {seen:Ab (Ab Ai)}{k:Ab Ai}{x:Ac}{Q:Ap→Ag→Prop}(hu:A.units<Ey)(hS:Sup h0 s.heap)(Z:SetK (isT prog w h0) (Bs (Be prog w)) S led V seen s.heap)(hx:isT prog w h0 k x)(hV:x∈V){U:Ab (Ab Ai)}(hU:U.length≤1000)(hU1:∀ k'∈seen,k'∈U)(hU2:k∈U)
  (h:∀ (b:Ap) (h':Bm) (tk:Ah),s.toks≤tk→Gp S s.heap h'→SetK (isT prog w h0) (Bs (Be prog w)) S led V (k::seen) h'→Q b { s with heap:=h',toks:=tk }) : Ao (As prog w) A (Vj S x) Q E s:=by
 obtain⟨es,ep,t,ho,Z,T,hl,hm⟩:=Z;unfold Vj;refine Ed (Af (RP hu hS hx ?_));unfold setAddHashed setAddHashedIn;refine Ed (Af (Fk (s:={ s with toks:=s.toks+(k.length+1) }) ho rfl T.fits ?_))
 dsimp only;have hsc:byScan x es=false:=by
  obtain⟨a,rfl,_⟩:=hx;rfl
 rw[hsc];simp only[Bq,Dw];obtain⟨e,he,hne⟩:=T.gap;have first:∃ N,Way t (st t.mask (Bs (Be prog w) k)) N∧(it t.mask N (st t.mask (Bs (Be prog w) k))).j ∉ t.place.toList∧N<10*turns t.mask:=by
  obtain⟨N,hN,eN⟩:=rS T.msk (Bs (Be prog w) k) he;have gm:=gS T.tb (λ_=>Bs (Be prog w) k+1) (Bs (Be prog w) k) (10*turns t.mask) (st t.mask (Bs (Be prog w) k)) rfl ⟨N,hN,by rw[eN];exact hne⟩
  generalize IZ t _ _ _ _=r at gm;cases gm with
  |emp j hj w' e' q=>exact⟨j,w',e',hj⟩
  |cand j i hj w' e' hh q=>exact absurd hh (by omega)
 obtain⟨N,hNw,hNe,hNf⟩:=first
 have hNt:N<100000:=by
  have:turns t.mask≤2200:=by
   unfold turns;rcases T.msk with h|h|h|h|h <;> rw[h] <;> omega
  omega
 refine Af (J9 (s:={ s with toks:=s.toks+(k.length+1) }) hu hS ho rfl T Z hx N hNw hNe hNf (λhk=>?_) (λhk=>?_) 100000 0 none rfl (by omega) (by omega) λm i e hm=>by omega)
 ·exact Am (h _ s.heap _ (by omega) (O7 _ _) ⟨es,ep,t,ho,Z.again hk,T,hl,hm⟩)
 ·have hle:es.size<1000:=Ba (Z.few hU1 hU2 hk) hU
  dsimp only;refine Af (Fk (s:={ s with toks:=s.toks+(k.length+1) }) ho rfl T.fits ?_)
  obtain⟨p1,p2,p3,p4⟩:=T.put (h:=Bs (Be prog w) k) (x:=x) hNw hNe (JW _ _ _);generalize hj:(it t.mask N (st t.mask (Bs (Be prog w) k))).j=j at *;have m1:(t.put j).1.mask=t.mask:=rfl;have m2:(t.put j).1.plain=true:=T.plain;have m3:(t.put j).1.led=led:=hl;generalize hp:t.put j=tp at *;obtain⟨t1,p⟩:=tp;dsimp only at p1 p2 p3 p4 m1 m2 m3 ⊢;rw[m2];simp only[Dc];refine Af (HZ (s:={ s with toks:=s.toks+(k.length+1) }) hS hx ?_)
  simp only[Dc,Rf,Sh];have hsz:(Bx es p (Bs (Be prog w) k,x)).size=es.size+1:=uI _ _ _;have hline:es.size+1≤sizeLine:=by rw[Ep];omega
  refine Af (Ld (s:={ s with toks:=s.toks+(k.length+1) }) ho rfl ?_ (by rw[hsz];exact hline))
  have Z1:Set0 (isT prog w h0) (Bs (Be prog w)) (Bx es p (Bs (Be prog w) k,x)) (k::seen):=by
   refine Z.push (λa b=>isT.inj a b) hx hk ?_;have:=Hn es p (Bs (Be prog w) k,x);rw[Ef] at this;exact this
  have hm1:∀ e∈(Bx es p (Bs (Be prog w) k,x)).toList,e.2∈V:=λe he=>by
   have:=(Hn es p (Bs (Be prog w) k,x)).mem_iff.mp he;rw[Ef] at this;rcases Cp.mp this with h1|h1
   ·exact hm e h1
   ·simp at h1;subst h1;exact hV
  have ho1:=f7 (es':=Bx es p (Bs (Be prog w) k,x)) (t':=t1) ho;have sb1:=Gm s.heap S (Wl (Bx es p (Bs (Be prog w) k,x)) t1);have hfit:t1.fits (Bx es p (Bs (Be prog w) k,x)).size=true:=by
   have h3:t1.fill=es.size+1:=by unfold Ju;rw[p1.dm,p2,hsz];rfl
   have h2:=T.few;unfold Sg;rw[h3,p2,hsz,m1];rcases T.msk with h|h|h|h|h <;> rw[h] at h2 ⊢ <;> simp <;> omega
  refine oT (λhf=>?_) λhf=>?_
  ·have hM1:Msk t1.mask:=by rw[m1];exact T.msk
   have h3:((Bx es p (Bs (Be prog w) k,x)).size-1)*5<t1.mask*3:=by rw[hsz,m1];exact T.few
   obtain⟨q1,t2,qV,q2,q3,q4,q5,_⟩:=fL hM1 m2 p2 (by rw[hsz];omega) (by simpa using hf) p1.dm h3 (by rw[hsz];omega)
   rw[hsz] at q1 q2;rw[UG];refine Af ?_;refine Af (Fk (s:={ s with heap:=_,toks:=s.toks+(k.length+1) }) ho1 rfl hfit ?_)
   dsimp only;rw[Bc (by rw[Ep];omega)]
   refine Af ?_;rw[q2];dsimp only;have hs2:(qV.filterMap λx_1=>(Bx es p (Bs (Be prog w) k,x))[x_1]?).size=es.size+1:=by rw[← Bh,q4.length_eq,Bh,hsz]
   rw[Bc (by rw[hs2,hsz];simp)]
   refine Am ?_;refine Ld (s:={ s with heap:=_,toks:=s.toks+(k.length+1) }) ho1 rfl ?_ (by rw[hs2];exact hline)
   refine Am (h _ _ _ (Iy _ _) (sb1.trans (Gm _ S _)) ⟨_,_,t2,f7 ho1,Z1.perm q4,q5,by rw[q3];exact m3,λe he=>hm1 e (q4.mem_iff.mp he)⟩)
  ·refine Am (h _ _ _ (Iy _ _) sb1 ⟨_,_,t1,ho1,Z1,⟨p1,by rw[m1];exact T.msk,p2,by rw[m1];exact p3,?_,by rw[m1];exact p4,m2⟩,m3,hm1⟩)
   have h3:t1.fill=es.size+1:=by unfold Ju;rw[p1.dm,p2,hsz];rfl
   unfold OY at hf;rw[h3] at hf;rw[hsz];simpa using hf
end
end _S
namespace _S
open PySem
open PySem.SetTable (Probe leap runEnd turns bits)
variable {seen:Ab Ai}
def isI (prog:Bd)(w:Bw)(k:Ai)(v:Ac):Prop:=(Be prog w).is k v=true
section
variable {prog:Bd}{w:Bw}{A:Bt}{E:Ac→Ag→Prop}{s:Ag}{S:Ad}{led:Ap}{V:Ab Ac}
set_option tactic.hygienic true in
def y8 {k:Ai}{v:Ac}(h:isI prog w k v):∃ t,v=.int k t:=by
 cases v <;> first|(exact absurd h (by rintro⟨⟩)) | skip
 rename_i i t;refine⟨t,?_⟩;have:i=k:=(Be prog w).inj (.int i t) i k (Si _ _ _ _) h;rw[this]
def rH {es:Av (Ai × Ac)}(Z:Set0 (isI prog w) (Be prog w).hash es seen):ElemsOf (Be prog w) es.toList:=λe he=>by
 obtain⟨k,h1,h2⟩:=Z.good e he;refine⟨⟨k,h2,h1⟩,?_⟩;obtain⟨t,q⟩:=y8 h2;rw[q];rfl
def HV {k:Ai}{x:Ac}{Q:Ap→Ag→Prop}(Z:SetK (isI prog w) (Be prog w).hash S led V seen s.heap)(hx:isI prog w k x)(hV:x∈V){U:Ab Ai}(hU:U.length≤1000)(hU1:∀ k'∈seen,k'∈U)(hU2:k∈U)
  (h:∀ (b:Ap) (h':Bm) (tk:Ah),s.toks≤tk→Gp S s.heap h'→SetK (isI prog w) (Be prog w).hash S led V (k::seen) h'→Q b { s with heap:=h',toks:=tk }) : Ao (As prog w) A (Vj S x) Q E s:=by
 obtain⟨es,ep,t,ho,Z,T,hl,hm⟩:=Z;have hsc:x.scannable=true:=by
  obtain⟨tk,q⟩:=y8 hx;rw[q];rfl
 have hf:=T.fits;have hb:es.size<scanBound:=by
  have h1:=T.few;have:scanBound=4096:=rfl;rcases T.msk with h|h|h|h|h <;> rw[h] at h1 <;> omega
 unfold Vj;refine Ed (Af ((Be prog w).pyHash (k:=k) hx ?_));unfold setAddHashed setAddHashedIn;refine Ed (Af (Fk (s:={ s with toks:=s.toks+1 }) ho rfl hf ?_))
 dsimp only;rw[byScan_of hsc hb (rH Z)];simp only[Dc];unfold setAddByScan;refine Af (Af (Hb (Af (wpAny_setScan_of (s:={ s with toks:=s.toks+1 }) hx ho rfl hf (rH Z) ?_))))
 cases hr:es.toList.findIdx? (λe=>(Be prog w).is k e.2) with
 |some j =>
  dsimp only;obtain⟨hj,hpj,_⟩:=List.findIdx?_eq_some_iff_getElem.mp hr;have hk:k∈seen:=(Z.mem k).mpr ⟨es.toList[j],OU hj,hpj⟩;exact Am (Am (h _ s.heap _ (Iy _ _) (O7 _ _) ⟨es,ep,t,ho,Z.again hk,T,hl,hm⟩))
 |none =>
  dsimp only;have hk:k ∉ seen:=λhk=>by
   obtain⟨e,he,q⟩:=(Z.mem k).mp hk;have:=List.findIdx?_eq_none_iff.mp hr e he;rw[show (Be prog w).is k e.2=true from q] at this
   cases this
  have hle:es.size<1000:=Ba (Z.few hU1 hU2 hk) hU;obtain⟨e,he,hne⟩:=T.gap;have first:∃ N,Way t (st t.mask ((Be prog w).hash k)) N∧(it t.mask N (st t.mask ((Be prog w).hash k))).j ∉ t.place.toList∧t.freeSlot ((Be prog w).hash k)=Aa ((it t.mask N (st t.mask ((Be prog w).hash k))).j,false):=by
   obtain⟨N,hN,eN⟩:=rS T.msk ((Be prog w).hash k) he;have gm:=gS T.tb (λ_=>(Be prog w).hash k+1) ((Be prog w).hash k) (10*turns t.mask) (st t.mask ((Be prog w).hash k)) rfl ⟨N,hN,by rw[eN];exact hne⟩
   unfold SetTable.freeSlot SetTable.probe;rw[EY];generalize IZ t _ _ _ _=r at gm;cases gm with
   |emp j hj w' e' q=>exact⟨j,w',e',rfl⟩
   |cand j i hj w' e' hh q=>exact absurd hh (by omega)
  obtain⟨N,hNw,hNe,hfs⟩:=first
  obtain⟨p1,p2,p3,p4⟩:=T.put (h:=(Be prog w).hash k) (x:=x) hNw hNe (JW _ _ _);generalize hj:(it t.mask N (st t.mask ((Be prog w).hash k))).j=j at *;have m1:(t.put j).1.mask=t.mask:=rfl;have m2:(t.put j).1.plain=true:=T.plain;have m3:(t.put j).1.led=led:=hl;generalize hp:t.put j=tp at *;obtain⟨t1,p⟩:=tp;dsimp only at p1 p2 p3 p4 m1 m2 m3 ⊢;have hsz:(Bx es p ((Be prog w).hash k,x)).size=es.size+1:=uI _ _ _;have hfit:t1.fits (Bx es p ((Be prog w).hash k,x)).size=true:=by
   have h3:t1.fill=es.size+1:=by unfold Ju;rw[p1.dm,p2,hsz];rfl
   have h2:=T.few;unfold Sg;rw[h3,p2,hsz,m1];rcases T.msk with h|h|h|h|h <;> rw[h] at h2 ⊢ <;> simp <;> omega
  have lay:layNew t es ((Be prog w).hash k) x=(Bx es p ((Be prog w).hash k,x),t1,false,false):=by
   unfold layNew;rw[hfs];dsimp only;rw[hp];dsimp only;unfold SetTable.orStandIn;rw[hfit];rfl
  rw[lay];dsimp only;refine Af (Am (a:=()) ?_);have hbv:Og 8 x=pure true:=by
   rw[hashByValue_scannable 8 hsc];obtain⟨tk,q⟩:=y8 hx;subst q;rfl
  rw[hbv,ite_self];refine Af (Am ?_);simp only[Dc];have hline:es.size+1≤sizeLine:=by rw[Ep];omega
  refine Af (Ld (s:={ s with toks:=s.toks+1 }) ho rfl ?_ (by rw[hsz];exact hline))
  have pm:(Bx es p ((Be prog w).hash k,x)).toList.Perm (es.toList++[((Be prog w).hash k,x)]):=by
   have:=Hn es p ((Be prog w).hash k,x);rw[Ef] at this;exact this
  have Z1:Set0 (isI prog w) (Be prog w).hash (Bx es p ((Be prog w).hash k,x)) (k::seen):=Z.push (λa b=>(Be prog w).inj _ _ _ a b) hx hk pm;have hm1:∀ e∈(Bx es p ((Be prog w).hash k,x)).toList,e.2∈V:=λe he=>by
   rcases Cp.mp (pm.mem_iff.mp he) with h1|h1
   ·exact hm e h1
   ·simp at h1;subst h1;exact hV
  have ho1:=f7 (es':=Bx es p ((Be prog w).hash k,x)) (t':=t1) ho;have sb1:=Gm s.heap S (Wl (Bx es p ((Be prog w).hash k,x)) t1);refine oT (λhf=>?_) λhf=>?_
  ·have hM1:Msk t1.mask:=by rw[m1];exact T.msk
   have h3:((Bx es p ((Be prog w).hash k,x)).size-1)*5<t1.mask*3:=by rw[hsz,m1];exact T.few
   obtain⟨q1,t2,qV,q2,q3,q4,q5,q6⟩:=fL hM1 m2 p2 (by rw[hsz];omega) (by simpa using hf) p1.dm h3 (by rw[hsz];omega)
   have hs2:(qV.filterMap λx_1=>(Bx es p ((Be prog w).hash k,x))[x_1]?).size=es.size+1:=by rw[← Bh,q4.length_eq,Bh,hsz]
   have rl:relayAll t1 (Bx es p ((Be prog w).hash k,x)) (Gi (Bx es p ((Be prog w).hash k,x)).size)=(qV.filterMap λx_1=>(Bx es p ((Be prog w).hash k,x))[x_1]?,t2,false):=by
    unfold relayAll;rw[q2];dsimp only;have c1:coversAll qV (Bx es p ((Be prog w).hash k,x)).size=true:=by
     unfold coversAll;exact List.isPerm_iff.mpr q6
    rw[c1,q5.fits];rfl
   rw[rl];dsimp only;refine Af (Am (a:=()) ?_);refine Af (Ld (s:={ s with heap:=_,toks:=s.toks+1 }) ho1 rfl ?_ (by rw[hs2];exact hline))
   exact Am (Am (h _ _ _ (Iy _ _) (sb1.trans (Gm _ S _)) ⟨_,_,t2,f7 ho1,Z1.perm q4,q5,by rw[q3];exact m3,λe he=>hm1 e (q4.mem_iff.mp he)⟩))
  ·refine Am (Am (h _ _ _ (Iy _ _) sb1 ⟨_,_,t1,ho1,Z1,⟨p1,by rw[m1];exact T.msk,p2,by rw[m1];exact p3,?_,by rw[m1];exact p4,m2⟩,m3,hm1⟩))
   have h3:t1.fill=es.size+1:=by unfold Ju;rw[p1.dm,p2,hsz];rfl
   unfold OY at hf;rw[h3] at hf;rw[hsz];simpa using hf
end
end _S
namespace _S
open PySem
variable {Q:Ac→Ag→Prop}{i:Ah}
structure AddS (prog:Bd)(w:Bw){K:Type}(is:K→Ac→Prop)(hash:K→Ai)(h0:Bm):Prop where
 add:∀ {A:Bt} {E:Ac→Ag→Prop} {s:Ag} {S:Ad} {led:Ap} {V:Ab Ac} {seen U:Ab K} {k:K} {x:Ac} {Q:Ap→Ag→Prop},A.units<Ey→Sup h0 s.heap→SetK is hash S led V seen s.heap→is k x→x∈V→U.length≤1000→(∀ k'∈seen,k'∈U)→k∈U →
  (∀ (b:Ap) (h':Bm) (tk:Ah),s.toks≤tk→Gp S s.heap h'→SetK is hash S led V (k::seen) h'→Q b { s with heap:=h',toks:=tk }) → Ao (As prog w) A (Vj S x) Q E s
def FS {prog:Bd}{w:Bw}(h0:Bm):AddS prog w (isT prog w h0) (Bs (Be prog w)) h0:=⟨λhu hS Z hx hV h1 h2 h3 h=>HW hu hS Z hx hV h1 h2 h3 h⟩
def FR {prog:Bd}{w:Bw}(h0:Bm):AddS prog w (isI prog w) (Be prog w).hash h0:=⟨λ_ _ Z hx hV h1 h2 h3 h=>HV Z hx hV h1 h2 h3 h⟩
def yO {K:Type}(key:Ah→K):Ah→Ab K
 |0=>[]
 |i+1=>key i::yO key i
def kB {K:Type}{key:Ah→K}{k:K}:∀ {n:Ah},k∈yO key n↔∃ i,i<n∧key i=k
 |0=>by simp[yO]
 |n+1=>by
  rw[yO,Bb,kB];constructor
  ·rintro (rfl|⟨i,h,e⟩)
   ·exact⟨n,by omega,rfl⟩
   ·exact⟨i,by omega,e⟩
  ·rintro⟨i,h,e⟩
   by_cases hi:i=n
   ·subst hi;exact .inl e.symm
   ·exact .inr ⟨i,by omega,e⟩
section
variable {prog:Bd}{w:Bw}{A:Bt}{R:Uy→Ag→Prop}{I:Ad}{fp wr:Ab Ad}{G:Av Vq→Av Vq→Prop}{n:Ah}{P:Ah→Ac→Prop}{St:Ah→Ag→Prop}
variable {K:Type}{is:K→Ac→Prop}{hash:K→Ai}{h0:Bm}{led:Ap}{V:Ab Ac}{U:Ab K}
def SetK.sup {S:Ad}{seen:Ab K}{h h':Bm}(Z:SetK is hash S led V seen h)(e:∀ o,h.get? S=Aa o→h'.get? S=Aa o):SetK is hash S led V seen h':=by
 obtain⟨es,ep,t,ho,r⟩:=Z;exact⟨es,ep,t,e _ ho,r⟩
def iR (a:AddS prog w is hash h0)(W:WalksS prog w A.in1 I fp wr G n P St)(S:Ad)(hSf:S ∉ fp)(hu:A.in1.units<Ey)(key:Ah→K)(hkey:∀ i v,P i v→is (key i) v∧v∈V)(hU:U.length≤1000)(hUk:∀ i,i<n→key i∈U)
  (hS0:h0.get? S=none) (hw0:∀ b∈wr,h0.get? b=none):∀ (k i:Ah) (s:Ag),n-i=k→i≤n→St i s→Sup h0 s.heap→SetK is hash S led V (yO key i) s.heap →
   (∀ s',Moved (S::wr) G s s'→SetK is hash S led V (yO key n) s'.heap→R (.ok (.ret .none)) s')→Ie (As prog w) A (.builtin "set.update.loop" ⟨[.ref S,.ref I],[]⟩) R s:=by
 have hSw:S ∉ wr:=λh=>hSf (W.sub _ h);have hsub:∀ b∈wr,b∈S::wr:=λb hb=>Bu _ hb;intro k
 induction k with
 |zero =>
  intro i s hk hi hst hS Z hR;have hin:i=n:=by omega
  subst hin;refine He Kb ?_;rw[Im Hq _];show Ao _ A.in1 (Mu (.ref I) >>= _) _ _ s;refine Af (W.done s _ _ hst λs' hm=>?_);exact Am (hR s' (hm.mono hsub) (Z.sup λo e=>hm.heap S _ hSw e))
 |succ k ih =>
  intro i s hk hi hst hS Z hR;have hlt:i<n:=by omega
  refine He Kb ?_;rw[Im Hq _];show Ao _ A.in1 (Mu (.ref I) >>= _) _ _ s;refine Af (W.item i s _ _ hlt hst λv s' hP hst' hm=>?_);obtain⟨q1,q2⟩:=hkey i v hP;have hS':Sup h0 s'.heap:=λb o e=>hm.heap b o (λhb=>by rw[hw0 b hb] at e;cases e) (hS b o e)
  show Ao _ A.in1 (holding [v] (Vj S v) >>= _) _ _ s';refine Af (Ed (a.add hu hS' (Z.sup λo e=>hm.heap S _ hSw e) q1 q2 hU (λk' hk'=>?_) (hUk i hlt) λb h' tk htk hsb Z'=>?_))
  ·obtain⟨j,hj,e⟩:=kB.mp hk'
   exact e▸hUk j (by omega)
  ·refine Am ⟨OC Hq _,ih (i+1) _ (by omega) hlt (W.frame _ s' _ _ hst' htk λb hb o e=>?_) (λb o e=>?_) Z' λs'' hm'' Z''=>?_⟩
   ·rw[hsb.2 b (λh:b=S=>hSf (by rw[← h];exact hb))];exact e
   ·rw[hsb.2 b (λh:b=S=>by rw[h,hS0] at e;cases e)];exact hS' b o e
   ·refine hR s'' (Moved.trans W.gtrans ((hm.mono hsub).then_heap htk λb o hb e=>?_) hm'') Z''
    rw[hsb.2 b (λh:b=S=>hb (by rw[h];exact Ct))];exact e
end
section
variable {prog:Bd}{w:Bw}{A:Bt}{E:Ac→Ag→Prop}{s:Ag}
def wY (w:Bw):Ap:=!w.params.followText "set-order"
@[reducible] def set0 (w:Bw):Cg:=setO #[] 0 (.fresh 0 0 (wY w))
def fJ (a:Ac){Q₁:Ac→Ag→Prop}(h:Q₁ (.ref s.heap.objs.size) { s with heap:=s.heap.push (set0 w) }) : Ie (As prog w) A (.call (.builtin "set.__new__") ⟨[.type "set",a],[]⟩) (wants Q₁ E) s:=by
 refine Qg ?_;show Ao _ A.in1 (do OS "set.__new__" ⟨[.type "set",a],[]⟩;again (.builtin "set.__new__" ⟨[.type "set",a],[]⟩)) _ _ s
 refine Af (Of (PySem.F.newCall_set_1 a) (Am ⟨OC Qr _,He PySem.F.entry_set_new ?_⟩));rw[Im Qr _];unfold Ih.«set.__new__» Wy;have hsub:=PySem.sub_set_self;obtain⟨hp,g,d,tk,os⟩:=s;dsimp only
 wp_walk
 refine Jl (Am ?_);dsimp only;simp only[newObj];exact Af (wpAny_alloc (Am (Am h)))
def dQ (w:Bw):TabT (.fresh 0 0 (wY w)) #[]:=⟨⟨by unfold Rs;exact Ky,rfl⟩,.inl rfl,rfl,λx hx=>(by cases hx),(show 0*5<7*3 by decide),λi e h=>(by simp at h),rfl⟩
variable {K:Type}{is:K→Ac→Prop}{hash:K→Ai}{U:Ab K}
def Y5 (a:AddS prog w is hash s.heap){l:Ad}{items:Av Ac}{Q:Ac→Ag→Prop}(hh:A.handled=none)(hu:A.units+8<Ey)(hl:s.heap.IsList l items)(key:Ah→K)(hkey:∀ i v,items[i]? = Aa v→is (key i) v)(hU:U.length≤1000)(hUk:∀ i,i<items.size→key i∈U)
  (h:∀ (h':Bm) (tk:Ah),SetK is hash s.heap.objs.size (wY w) items.toList (yO key items.size) h'→(∀ b o,s.heap.get? b=Aa o→h'.get? b=Aa o)→Q (.ref s.heap.objs.size) { s with heap:=h',toks:=tk }) :
  Ao (As prog w) A (call (.type "set") [.ref l]) Q E s:=by
 obtain⟨c,tl,hmro⟩:=Dm.mro;have hmade:=Dm.made;have hsub:=Dm.sub;refine Na (Qg ?_);show Ao _ _ (callAny (.type "set") _) _ _ _;refine Am ⟨Nv _ (by decide +kernel),He Ph ?_⟩
 rw[Th (Qs "set" [.ref l] []) rfl];have h1:=Dm.notType;have h2:=Dm.canCreate;have hct:=Qh (.ref l)
 repeat (any_goals (first|assumption|wp_step))
 refine IE (fJ (.ref l) (E:=E) (Q₁:=λobj s₁=>obj=.ref s.heap.objs.size∧s₁={ s with heap:=s.heap.push (set0 w) }) ⟨rfl,rfl⟩) λr s₁ hr=>?_
 cases r with
 |error e=>exact hr
 |ok fl =>
  cases fl with
  |ret obj =>
   obtain⟨rfl,rfl⟩:=hr;have hS:(s.heap.push (set0 w)).get? s.heap.objs.size=Aa (set0 w):=Bi _ rfl;have hT:OD { s with heap:=s.heap.push (set0 w) } (.ref s.heap.objs.size) "set":=⟨_,hS,rfl⟩
   have hli:=Dm.init.lookup;have hbi:=Dm.init.bind (.ref s.heap.objs.size)
   repeat (any_goals (first|assumption|wp_step))
   refine IE (Jj (R:=wants (λr s₂=>r=.none∧∃ h' tk,s₂={ s with heap:=h',toks:=tk } ∧ SetK is hash s.heap.objs.size (wY w) items.toList (yO key items.size) h'∧∀ b o,s.heap.get? b=Aa o→h'.get? b=Aa o) E) Dm.init.plain Qi (Vk hT ?_)) λr₂ s₂ hr₂=>?_
   ·obtain⟨ol,hol,hcl,nl,hdl⟩:=hl
    obtain⟨ocls,odict,odata,oslots⟩:=ol;simp only at hcl hdl;subst hcl;subst hdl;have hol':(s.heap.push (set0 w)).get? l=Aa { cls:=.type "list",dict:=odict,data:=.seq items nl,slots:=oslots }:=Aj _ hol;have hsls:=PySem.F.sub_list_set;have hslf:=PySem.F.sub_list_frozenset;have hne:(Ha "list" == Ha "dict")=false:=by decide
    have hl1:(s.heap.push (set0 w)).IsList l items:=⟨_,hol',rfl,nl,rfl⟩;unfold Ih.«set.__init__» noKeywords Ng;generalize hPI:Nz=PI
    wp_walk
    subst hPI;refine Gj hl1 ?_;refine Af (Rg ?_);have hlS:l<s.heap.objs.size:=Au hol;have hneI:l≠(s.heap.push (set0 w)).objs.size:=by
     rw[Dr];exact Cc (IX hlS)
    have nS:s.heap.get? s.heap.objs.size=none:=Il (Ax _);have nI:s.heap.get? (s.heap.push (set0 w)).objs.size=none:=Il (by rw[Dr];exact Od _)
    refine iR (led:=wY w) (V:=items.toList) a ((Wj (A:=A.in1.in1.in1) (by simp[hh]) _ l hneI items).toS) s.heap.objs.size ?_ (by show A.units+3<Ey;omega) key (λi v hv=>⟨hkey i v hv,?_⟩) hU hUk nS (λb hb=>?_) (items.size-0) 0 _ (by omega) (Hi _)
     ⟨⟨_,Bi _ rfl,rfl,rfl⟩,hl1.push _⟩ (λb o e=>Aj _ (Aj _ e)) ?_ λs' hm hS'=>?_
    ·rw[Dr];simp only[Bb,Dx,Cy,Gc,Wx]
     exact⟨Cc (Gf _),Gq hlS⟩
    ·exact Cb (by rw[Bf];exact hv)
    ·rw[Dx.mp hb];exact nI
    ·exact⟨#[],0,_,Aj _ hS,Set0.nil,dQ w,rfl,λe he=>by simp at he⟩
    ·obtain⟨h',g',d',tk',os'⟩:=s'
     have eg:g'=s.gens:=hm.gens;have ed:d'=s.drawn:=hm.drawn;have eo:os'=s.os:=hm.os;subst eg;subst ed;subst eo;refine Am (Am ⟨rfl,h',tk',rfl,hS',λb o e=>?_⟩);refine hm.heap b o (λhb=>?_) (Aj _ (Aj _ e));rcases Bb.mp hb with rfl|hb
     ·rw[nS] at e;cases e
     ·rw[Dx.mp hb,nI] at e;cases e
   ·cases r₂ with
    |error e=>exact hr₂
    |ok fl₂ =>
     cases fl₂ with
     |ret r =>
      obtain⟨rfl,h',tk,rfl,hS',hk'⟩:=hr₂
      repeat (any_goals (first|assumption|wp_step))
      exact h _ _ hS' hk'
     |_=>exact hr₂.elim
  |_=>exact hr.elim
def Z4 (a:AddS prog w is hash s.heap){l:Ad}{items:Av Ac}{Q:Ac→Ag→Prop}(hh:A.handled=none)(hu:A.units+8<Ey)(hl:s.heap.IsTuple l items)(key:Ah→K)(hkey:∀ i v,items[i]? = Aa v→is (key i) v)(hU:U.length≤1000)(hUk:∀ i,i<items.size→key i∈U)
  (h:∀ (h':Bm) (tk:Ah),SetK is hash s.heap.objs.size (wY w) items.toList (yO key items.size) h'→(∀ b o,s.heap.get? b=Aa o→h'.get? b=Aa o)→Q (.ref s.heap.objs.size) { s with heap:=h',toks:=tk }) :
  Ao (As prog w) A (call (.type "set") [.ref l]) Q E s:=by
 obtain⟨c,tl,hmro⟩:=Dm.mro;have hmade:=Dm.made;have hsub:=Dm.sub;refine Na (Qg ?_);show Ao _ _ (callAny (.type "set") _) _ _ _;refine Am ⟨Nv _ (by decide +kernel),He Ph ?_⟩
 rw[Th (Qs "set" [.ref l] []) rfl];have h1:=Dm.notType;have h2:=Dm.canCreate;have hct:=Qh (.ref l)
 repeat (any_goals (first|assumption|wp_step))
 refine IE (fJ (.ref l) (E:=E) (Q₁:=λobj s₁=>obj=.ref s.heap.objs.size∧s₁={ s with heap:=s.heap.push (set0 w) }) ⟨rfl,rfl⟩) λr s₁ hr=>?_
 cases r with
 |error e=>exact hr
 |ok fl =>
  cases fl with
  |ret obj =>
   obtain⟨rfl,rfl⟩:=hr;have hS:(s.heap.push (set0 w)).get? s.heap.objs.size=Aa (set0 w):=Bi _ rfl;have hT:OD { s with heap:=s.heap.push (set0 w) } (.ref s.heap.objs.size) "set":=⟨_,hS,rfl⟩
   have hli:=Dm.init.lookup;have hbi:=Dm.init.bind (.ref s.heap.objs.size)
   repeat (any_goals (first|assumption|wp_step))
   refine IE (Jj (R:=wants (λr s₂=>r=.none∧∃ h' tk,s₂={ s with heap:=h',toks:=tk } ∧ SetK is hash s.heap.objs.size (wY w) items.toList (yO key items.size) h'∧∀ b o,s.heap.get? b=Aa o→h'.get? b=Aa o) E) Dm.init.plain Qi (Vk hT ?_)) λr₂ s₂ hr₂=>?_
   ·obtain⟨ol,hol,hcl,nl,hdl⟩:=hl
    obtain⟨ocls,odict,odata,oslots⟩:=ol;simp only at hcl hdl;subst hcl;subst hdl;have hol':(s.heap.push (set0 w)).get? l=Aa { cls:=.type "tuple",dict:=odict,data:=.seq items nl,slots:=oslots }:=Aj _ hol;have hsls:=PySem.F.sub_tuple_set;have hslf:=PySem.F.sub_tuple_frozenset;have hne:(Ha "tuple" == Ha "dict")=false:=by decide
    have hl1:(s.heap.push (set0 w)).IsTuple l items:=⟨_,hol',rfl,nl,rfl⟩;unfold Ih.«set.__init__» noKeywords Ng;generalize hPI:Nz=PI
    wp_walk
    subst hPI;refine Gy hl1 ?_;refine Af (Rg ?_);have hlS:l<s.heap.objs.size:=Au hol;have hneI:l≠(s.heap.push (set0 w)).objs.size:=by
     rw[Dr];exact Cc (IX hlS)
    have nS:s.heap.get? s.heap.objs.size=none:=Il (Ax _);have nI:s.heap.get? (s.heap.push (set0 w)).objs.size=none:=Il (by rw[Dr];exact Od _)
    refine iR (led:=wY w) (V:=items.toList) a ((Ve (A:=A.in1.in1.in1) (by simp[hh]) _ l hneI items).toS) s.heap.objs.size ?_ (by show A.units+3<Ey;omega) key (λi v hv=>⟨hkey i v hv,?_⟩) hU hUk nS (λb hb=>?_) (items.size-0) 0 _ (by omega) (Hi _)
     ⟨⟨_,Bi _ rfl,rfl,rfl⟩,hl1.push _⟩ (λb o e=>Aj _ (Aj _ e)) ?_ λs' hm hS'=>?_
    ·rw[Dr];simp only[Bb,Dx,Cy,Gc,Wx]
     exact⟨Cc (Gf _),Gq hlS⟩
    ·exact Cb (by rw[Bf];exact hv)
    ·rw[Dx.mp hb];exact nI
    ·exact⟨#[],0,_,Aj _ hS,Set0.nil,dQ w,rfl,λe he=>by simp at he⟩
    ·obtain⟨h',g',d',tk',os'⟩:=s'
     have eg:g'=s.gens:=hm.gens;have ed:d'=s.drawn:=hm.drawn;have eo:os'=s.os:=hm.os;subst eg;subst ed;subst eo;refine Am (Am ⟨rfl,h',tk',rfl,hS',λb o e=>?_⟩);refine hm.heap b o (λhb=>?_) (Aj _ (Aj _ e));rcases Bb.mp hb with rfl|hb
     ·rw[nS] at e;cases e
     ·rw[Dx.mp hb,nI] at e;cases e
   ·cases r₂ with
    |error e=>exact hr₂
    |ok fl₂ =>
     cases fl₂ with
     |ret r =>
      obtain⟨rfl,h',tk,rfl,hS',hk'⟩:=hr₂
      repeat (any_goals (first|assumption|wp_step))
      exact h _ _ hS' hk'
     |_=>exact hr₂.elim
  |_=>exact hr.elim
def oE (a:AddS prog w is hash s.heap){l:Ad}{items:Av Ac}{Q:Ac→Ag→Prop}(hh:A.handled=none)(hu:A.units+8<Ey)(hl:s.heap.IsList l items∨s.heap.IsTuple l items)(key:Ah→K)(hkey:∀ i v,items[i]? = Aa v→is (key i) v)(hU:U.length≤1000)(hUk:∀ i,i<items.size→key i∈U)
  (h:∀ (h':Bm) (tk:Ah),SetK is hash s.heap.objs.size (wY w) items.toList (yO key items.size) h'→(∀ b o,s.heap.get? b=Aa o→h'.get? b=Aa o)→Q (.ref s.heap.objs.size) { s with heap:=h',toks:=tk }) :
  Ao (As prog w) A (call (.type "set") [.ref l]) Q E s:=by
 rcases hl with hl|hl
 ·exact Y5 a hh hu hl key hkey hU hUk h
 ·exact Z4 a hh hu hl key hkey hU hUk h
end
def vO {α:Type}:∀ {l:Ab α} {i:Ah} (h:i<l.length),(l[i]::l.eraseIdx i).Perm l
 |a::l,0,h=>by simp
 |a::l,i+1,h=>by
  rw[Pi,Qj];exact(Wr _ _ _).trans ((vO (l:=l) (i:=i) (by simpa using h)).cons a)
def dG {α:Type}(next:Ah→Ah):∀ (fuel k:Ah) (left:Ab α) (out:Av α),left.length=fuel→(Tr next fuel k left out).toList.Perm (out.toList++left)
 |0,k,left,out,h=>by
  have:left=[]:=Mq h;subst this;unfold Tr;simp
 |fuel+1,k,left,out,h=>by
  unfold Tr;have hlt:next k % left.length<left.length:=Nc _ (by omega)
  rw[Aq hlt];dsimp only;refine(dG next fuel (k+1) _ _ (by rw[Rm,Bg hlt];omega)).trans ?_
  rw[Ef,Cj];refine Gv _ ?_;exact vO hlt
def l7 {α:Type}(next:Ah→Ah)(xs:Av α) : (Mr next xs).toList.Perm xs.toList:=by
 have:=dG next xs.size 0 xs.toList #[] (by simp)
 simpa [Mr] using this
def vG:Slot "set_iterator" "__next__" "set_iterator.__next__":=
 .of (owner:="set_iterator") (n:="__next__") (by rw[Vx,Qt];kernel_rfl) (by decide +kernel) (by decide +kernel) (by decide +kernel) (.inl (by decide +kernel)) (by rw[Rh];kernel_rfl)
def mO:entryFor table "set_iterator.__next__" = Aa Ih.«set_iterator.__next__»:=entryFor_of_fast (by kernel_rfl)
def lL (a:Ac):argsOk "set_iterator.__next__" ⟨[a],[]⟩:=by unfold argsOk;kernel_rfl
def dN:Slot "set_iterator" "__iter__" "set_iterator.__iter__":=
 .of (owner:="set_iterator") (n:="__iter__") (by rw[Vx,Qt];kernel_rfl) (by decide +kernel) (by decide +kernel) (by decide +kernel) (.inl (by decide +kernel)) (by rw[Rh];kernel_rfl)
def oO:entryFor table "set_iterator.__iter__" = Aa Ih.«dict_keyiterator.__iter__»:=entryFor_alias (id':="dict_keyiterator.__iter__") (by kernel_rfl) rfl (by decide +kernel) (by kernel_rfl)
def QX (a:Ac):argsOk "set_iterator.__iter__" ⟨[a],[]⟩:=by unfold argsOk;kernel_rfl
def oN:entryFor table "set.__iter__" = Aa Ih.«frozenset.__iter__»:=entryFor_alias (id':="frozenset.__iter__") (by kernel_rfl) rfl (by decide +kernel) (by kernel_rfl)
def PP (a:Ad)(slot given epochThen:Ah):setNext a slot given epochThen=(do
  let (es,epoch,t) ← Sr a
  if ← Wm then
   if epoch != epochThen then unsupported "set_iterator.__next__:elements-changed"
   return ((← setWalk a)[given]?).map λe=>(e.2,slot)
  if !t.plain&&es.size>1 then unsupported "set_iterator.__next__:the-table-is-plain-no-more"
  (do if !t.led&&!es.isEmpty then unsupported "set:maker-not-led")
  return match es[Ce t.place slot]?,t.place[Ce t.place slot]? with
   |some (_,x),Aa j=>Aa (x,j+1)
   |_,_=>none):=rfl
def FA (a:Ad):setWalk a=(do
  let (es,epoch,t) ← Sr a
  if ← Wm then return Mr ((← ask).params.setOrder a epoch) es
  if !t.plain&&es.size>1 then return (← drawOrder es.size es.toList).toArray
  (do if !t.led&&es.size>1 then unsupported "set:maker-not-led")
  return es):=rfl
def YQ (a:Ad):setDrawn a=(do
  let (es,_,t) ← Sr a
  let byText ← Wm
  return !byText&&(!t.plain&&es.size>1)):=rfl
structure Still (w:Bw)(S:Ad)(es:Av (Ai × Ac))(ep:Ah)(t:Fe):Prop where
 tab:TabT t es
 led:t.led=wY w
def qV (w:Bw)(S:Ad)(ep:Ah)(es:Av (Ai × Ac)):Av (Ai × Ac):=if w.params.followText "set-order" = true then Mr (w.params.setOrder S ep) es else es
def tF (w:Bw)(S:Ad)(ep:Ah)(es:Av (Ai × Ac)):(qV w S ep es).toList.Perm es.toList:=by
 unfold qV
 split
 ·exact l7 _ _
 ·exact Kv _
def uU (w:Bw)(S:Ad)(ep:Ah)(es:Av (Ai × Ac)):(qV w S ep es).size=es.size:=by
 rw[← Bh,(tF w S ep es).length_eq,Bh]
def itO (slot i:Ah)(S:Ad)(n ep:Ah):Cg:={ cls:=.type "set_iterator",data:=.fields #[.int slot 0,.int i 0,.ref S,.int n 0,.int ep 0] }
def At (w:Bw)(I S:Ad)(es:Av (Ai × Ac))(ep:Ah)(t:Fe)(i:Ah)(h:Bm):Prop:=
 ∃ slot,h.get? I=Aa (itO slot i S es.size ep)∧h.get? S=Aa (setO es ep t)∧(w.params.followText "set-order" = true∨Ce t.place slot=i)
section
variable {prog:Bd}{w:Bw}{A:Bt}{E:Ac→Ag→Prop}{s:Ag}{S I:Ad}{es:Av (Ai × Ac)}{ep:Ah}{t:Fe}
def Q7 {slot:Ah}{Q:Al (Ac × Ah)→Ag→Prop}(Z:Still w S es ep t)(ho:s.heap.get? S=Aa (setO es ep t))(hs:w.params.followText "set-order" = true∨Ce t.place slot=i)
  (h1:∀ e slot',(qV w S ep es)[i]? = Aa e→(w.params.followText "set-order" = true∨Ce t.place slot'=i+1)→Q (Aa (e.2,slot')) s) (h2:(qV w S ep es)[i]? = none→Q none s):Ao (As prog w) A (setNext S slot i ep) Q E s:=by
 rw[PP];refine Af (Fk ho rfl Z.tab.fits ?_);dsimp only;refine Af (Af (Jl (Am ?_)));cases hf:w.params.followText "set-order" with
 |true =>
  show Ao _ _ (if (w.params.followText "set-order")=true then _ else _) _ _ _
  rw[Bg hf];have hb:(ep != ep)=false:=by simp
  rw[hb];simp only[Bq,Dw];refine Af ?_;rw[FA];refine Af (Fk ho rfl Z.tab.fits ?_);dsimp only;refine Af (Af (Jl (Am ?_)));show Ao _ _ (if (w.params.followText "set-order")=true then _ else _) _ _ _
  rw[Bg hf];refine Af (Jl (Am (Am ?_)));show Q (((Mr (w.params.setOrder S ep) es)[i]?).map λe=>(e.2,slot)) s;have ho':qV w S ep es=Mr (w.params.setOrder S ep) es:=by unfold qV;rw[Bg hf]
  rw[ho'] at h1 h2;cases hx:(Mr (w.params.setOrder S ep) es)[i]? with
  |none=>exact h2 hx
  |some e=>exact h1 e slot hx (.inl hf)
 |false =>
  show Ao _ _ (if (w.params.followText "set-order")=true then _ else _) _ _ _
  rw[Bc (by rw[hf];decide),Z.tab.plain,Z.led]
  unfold wY;rw[hf];simp only[IS,Jc,Bq,Dw,Rf];have hb:Ce t.place slot=i:=by
   rcases hs with h|h
   ·rw[hf] at h;cases h
   ·exact h
  rw[hb];have ho':qV w S ep es=es:=by unfold qV;rw[Bc (by rw[hf];decide)]
  rw[ho'] at h1 h2;refine Am ?_;cases hx:es[i]? with
  |none=>exact h2 hx
  |some e =>
   have hi:i<t.place.size:=by rw[Z.tab.size];exact(Dq.mp hx).1
   have hp:t.place[i]? = Aa t.place[i]:=Dv hi;rw[hp];exact h1 e _ hx (.inr (oA Z.tab.tb.rs hp))
def At.type (h:At w I S es ep t i s.heap):s.TypeIs (.ref I) "set_iterator":=by
 obtain⟨slot,h,_⟩:=h;exact⟨_,h,rfl⟩
def dE (Z:Still w S es ep t)(hI:At w I S es ep t i s.heap)
  (h1:∀ e slot' slot,(qV w S ep es)[i]? = Aa e→s.heap.get? I=Aa (itO slot i S es.size ep)→s.heap.get? S=Aa (setO es ep t)→(w.params.followText "set-order" = true∨Ce t.place slot'=i+1) →
   Q e.2 { s with heap:=(s.heap.update I (Sj (·.setIfInBounds 0 (Gg slot')))).update I (Sj (·.setIfInBounds 1 (Gg ((i:Ai)+1)))) })
  (h2:(qV w S ep es)[i]? = none→Ao (As prog w) A (do setField (.ref I) 2 .none;raiseNew (← newExc (.type "StopIteration") [])) (λ(fin:Yj) s'=>∃ r,fin=.done (.ret r)∧Q r s') E s) :
  Ao (As prog w) A (Ih.«set_iterator.__next__» ⟨[.ref I],[]⟩) (λfin s'=>∃ r,fin=.done (.ret r)∧Q r s') E s:=by
 obtain⟨slot,hg,hS,hb⟩:=hI;show Ao _ _ (fieldsOf (.ref I) >>= _) _ _ s;refine Af (wpAny_fieldsOf hg rfl ?_);show Ao _ _ (setEntries S >>= _) _ _ s;refine Af (Sk hS rfl Z.tab.fits ?_);have hne:(((es.size:Ah):Ai) != ((es.size:Ah):Ai))=false:=by simp
 rw[hne];simp only[Bq,Dw];show Ao _ _ (setNext S (slot:Ai).toNat (i:Ai).toNat (ep:Ai).toNat >>= _) _ _ s;rw[Gk,Gk,Gk];refine Af (Q7 Z hS hb (λe slot' he hb'=>?_) λhe=>?_)
 ·dsimp only
  refine Af (Ku hg rfl (by show 0<5;decide) ?_)
  have hg2:=Fj (Sj (·.setIfInBounds 0 (Gg slot'))) hg rfl
  refine Af (Ku hg2 rfl (by show 1<5;decide) ?_)
  exact Am ⟨_,rfl,h1 e slot' slot he hg hS hb'⟩
 ·exact h2 he
def F9 (hh:A.handled=none)(hne:S≠I)(Z:Still w S es ep t):Walks prog w A I [I,S] [I] es.size (λi v=>∃ e,(qV w S ep es)[i]? = Aa e∧e.2=v) (λi h=>At w I S es ep t i h) where
 sub:=λb hb=>by simp at hb;simp[hb]
 frame:=λi h h' ⟨slot,h1,h2,h3⟩ hk=>⟨slot,hk I (by simp) _ h1,hk S (by simp) _ h2,h3⟩
 item:=λi s Q E hi st hQ=>by
  unfold Mu;refine Af (IR (Ev (name:=IC "__next__") st.type vG (Et vG st.type mO (dE Z st (λe slot' slot he hg hS hb=>?_) λhe=>?_) (lL _))))
  ·refine Am (hQ e.2 _ s.toks ⟨e,he,rfl⟩ ⟨slot',?_,?_,hb⟩ λb o hb e=>?_)
   ·exact Fj _ (Fj _ hg rfl) rfl
   ·rw[Dd _ _ hne.symm,Dd _ _ hne.symm];exact hS
   ·have hb:I≠b:=λz=>hb (by simp[z])
    rw[Dd _ _ hb,Dd _ _ hb];exact e
  ·have:=Array.getElem?_eq_none_iff.mp he
   rw[uU] at this;omega
 done:=λs Q E st hQ=>by
  unfold Mu;refine Af (IR (Ev (name:=IC "__next__") st.type vG (Et vG st.type mO (dE Z st (λe slot' slot he hg hS hb=>?_) λhe=>?_) (lL _))))
  ·have:=(Dq.mp he).1
   rw[uU] at this;omega
  ·obtain⟨slot,hg,hS,hb⟩:=st
   refine Af (Ku hg rfl (by show 2<5;decide) ?_)
   refine Af ?_;simp only[newExc,newTuple];refine Af (Ek ?_ (by size_fits))
   refine Af (m:=Nm _ _) (Of (a:=Dj) (by first|rfl|(simp only[Nm];rfl)) ?_)
   refine Ek ?_ (by size_fits)
   simp only[raiseNew];refine Af (wpAny_handled ?_);rw[show A.in1.handled=none from hh]
   refine Af (Am (wpAny_throw ?_));refine Af (OX (T:="StopIteration") (b:=true) ⟨_,Bi _ rfl,rfl⟩ isSubtype_stop ?_);refine Am (hQ _ s.toks λb o hb e=>?_);exact(((Gm ..).extBut.push _).push _) b o (λz=>hb (by simp[z])) e
 self:=λi s Q E st hQ=>by
  refine Uo st.type dN (Et dN st.type oO ?_ (QX _));show Ao _ _ (ret (.ref I)) _ _ s;exact Am ⟨_,rfl,"set_iterator",_,st.type,vG.lookup,hQ⟩
def VB (Z:Still w S es ep t)(ho:s.heap.get? S=Aa (setO es ep t))(h:Q (.ref s.heap.objs.size) { s with heap:=s.heap.push (itO 0 0 S es.size ep) }) : Ao (As prog w) A (Nz (.ref S)) Q E s:=by
 have hT:s.TypeIs (.ref S) "set":=⟨_,ho,rfl⟩;refine Uo hT Qu (Et Qu hT oN ?_ (PySem.F.args_set_iter_1 _));show Ao _ _ (OK S >>= _) _ _ s;unfold OK;refine Af (Af (Sk ho rfl Z.tab.fits (Am ?_)));refine Af ?_;rw[YQ];refine Af (Fk ho rfl Z.tab.fits ?_);dsimp only;refine Af (Af (Jl (Am (Am ?_))));rw[Z.tab.plain];simp only[IS,Jc,Nj,Bq,Dw];refine Af (Am ?_);unfold setEpoch;refine Af (Af (Fk ho rfl Z.tab.fits (Am ?_)));refine Af (Ek (Am ⟨_,rfl,"set_iterator",_,⟨_,Bi _ rfl,rfl⟩,vG.lookup,h⟩))
def K3 (Z:Still w S es ep t)(ho:s.heap.get? S=Aa (setO es ep t)):At w s.heap.objs.size S es ep t 0 (s.heap.push (itO 0 0 S es.size ep)):=
 ⟨0,Bi _ rfl,Aj _ ho,.inr (oB Z.tab.tb.rs)⟩
end
end _S
namespace _S
open PySem PySem.W PyProof.Rows
variable {vs:Ab Ac}{n lo:Ah}{arr m:Av Bp}
structure Ord {K:Type}(lt:K→K→Ap):Prop where
 irr:∀ a,lt a a=false
 tr:∀ {a b c},lt a b=true→lt b c=true→lt a c=true
 tri:∀ {a b},lt a b=false→a=b∨lt b a=true
def ltI (a b:Ai):Ap:=decide (a<b)
def CW:Ord ltI:=⟨λa=>by simp[ltI],λ{a b c} h1 h2=>by simp only[ltI,Cd] at *;omega,λ{a b} h=>by simp only[ltI,Cd,Hk] at *;omega⟩
def i3:∀ a:Ab Ai,_H.lexLt a a=false
 |[]=>rfl
 |x::xs=>by rw[_H.lexLt_cons,Bg rfl];exact i3 xs
def X1:∀ {a b c:Ab Ai},_H.lexLt a b=true→_H.lexLt b c=true→_H.lexLt a c=true
 |_,[],[],_,h=>by cases h
 |_,_::_,[],_,h=>by cases h
 |[],_,_::_,_,_=>rfl
 |_::_,[],_::_,h,_=>by cases h
 |x::xs,y::ys,z::zs,h1,h2=>by
  rw[_H.lexLt_cons] at h1 h2 ⊢;by_cases e1:x=y
  ·subst e1
   rw[Bg rfl] at h1;by_cases e2:x=z
   ·rw[Bg e2] at h2 ⊢;exact X1 h1 h2
   ·rw[Bc e2] at h2 ⊢;exact h2
  ·rw[Bc e1] at h1
   have h1:=Cq h1;by_cases e2:y=z
   ·subst e2;rw[Bc e1];exact Cs h1
   ·rw[Bc e2] at h2
    have h2:=Cq h2;rw[Bc (by omega)]
    exact Cs (by omega)
def i4:∀ {a b:Ab Ai},_H.lexLt a b=false→a=b∨_H.lexLt b a=true
 |[],[],_=>.inl rfl
 |[],_::_,h=>by cases h
 |_::_,[],_=>.inr rfl
 |x::xs,y::ys,h=>by
  rw[_H.lexLt_cons] at h ⊢;by_cases e:x=y
  ·subst e
   rw[Bg rfl] at h ⊢;rcases i4 h with h|h
   ·exact .inl (by rw[h])
   ·exact .inr h
  ·rw[Bc e] at h
   have h:=of_decide_eq_false h;rw[Bc (Fu e)];exact .inr (Cs (by omega))
def m7:Ord _H.lexLt:=⟨i3,X1,i4⟩
def lS {α:Type}{p q:α→Ap}:∀ {l:Ab α},(∀ x∈l,p x=true→q x=true)→(∃ x∈l,q x=true∧p x=false)→l.countP p<l.countP q
 |[],_,⟨x,h,_⟩=>by simp at h
 |a::l,h,⟨x,hx,h1,h2⟩=>by
  have le:l.countP p≤l.countP q:=Qv λy hy=>h y (by simp[hy])
  rw[Vl,Vl];rcases Bb.mp hx with rfl|hx
  ·rw[Bc (by rw[h2];decide),Bg h1];omega
  ·have ih:=lS (l:=l) (λy hy=>h y (by simp[hy])) ⟨x,hx,h1,h2⟩
   have:=h a (by simp)
   cases hp:p a with
   |false=>rw[Bc (by decide)];split <;> omega
   |true=>rw[Bg rfl,Bg (this hp)];omega
section
variable {K:Type}{lt':K→K→Ap}
def pC (lt':K→K→Ap)(ks:Ab K)(x:K):Ai:=(ks.countP (λk=>lt' k x):Ah)
def eX (O:Ord lt'){ks:Ab K}{x y:K}(hx:x∈ks):lt' x y=decide (pC lt' ks x<pC lt' ks y):=by
 unfold pC;cases h:lt' x y with
 |true =>
  refine(Cs ?_).symm;have:=lS (l:=ks) (p:=λk=>lt' k x) (q:=λk=>lt' k y) (λz _ hz=>O.tr hz h) ⟨x,hx,h,O.irr x⟩;omega
 |false =>
  refine(Cn ?_).symm;have:ks.countP (λk=>lt' k y)≤ks.countP (λk=>lt' k x):=by
   rcases O.tri h with e|h'
   ·rw[e];exact Ax _
   ·exact Qv λz _ hz=>O.tr hz h'
  omega
def sS (lt':K→K→Ap)(ks:Ab K)(d:K)(i j:Ah):Ap:=lt' (ks.getD i d) (ks.getD j d)
def Nf (lt':K→K→Ap)(l:Ab K):Prop:=l.Pairwise λa b=>lt' b a=false
def i9 (O:Ord lt'):∀ {a b:Ab K},Nf lt' a→Nf lt' b→a.Perm b→a=b
 |[],b,_,_,p=>(List.nil_perm.mp p).symm
 |x::a,b,ha,hb,p=>by
  cases b with
  |nil=>exact absurd p.symm (by simp)
  |cons y b =>
   unfold Nf at ha hb;rw[Fp] at ha hb;have e:x=y:=by
    rcases Bb.mp (p.mem_iff.mp (.head _)) with e|e
    ·exact e
    ·rcases Bb.mp (p.mem_iff.mpr (.head _)) with e'|e'
     ·exact e'.symm
     ·have h1:=ha.1 y e'
      have h2:=hb.1 x e;rcases O.tri h1 with e|h
      ·exact e.symm
      ·rw[h2] at h;cases h
   subst e;rw[i9 O ha.2 hb.2 (List.Perm.cons_inv p)]
def XA (O:Ord lt'){l:Ab K}(h:Nf lt' l)(nd:l.Nodup):l.Pairwise λa b=>lt' a b=true:=by
 refine Yh (λ{a b} h1 h2=>?_) h nd;exact(O.tri h1).elim (λe=>absurd e.symm h2) id
def uE (lt':K→K→Ap)(l:Ab K):Ab K:=l.mergeSort λa b=>!lt' b a
def bD (l:Ab K):(uE lt' l).Perm l:=List.mergeSort_perm _ _
def iV (O:Ord lt')(l:Ab K):Nf lt' (uE lt' l):=by
 have:=List.pairwise_mergeSort (le:=λa b=>!lt' b a) (λa b c h1 h2=>?_) (λa b=>?_) l
 ·exact this.imp λh=>by simpa using h
 ·have h1:lt' b a=false:=by simpa using h1
  have h2:lt' c b=false:=by simpa using h2
  cases h3:lt' c a with
  |false=>rfl
  |true =>
   rcases O.tri h1 with e|h
   ·rw[← e] at h3;rw[h3] at h2;cases h2
   ·have:=O.tr h3 h;rw[h2] at this;cases this
 ·cases h:lt' b a with
  |false=>rfl
  |true =>
   cases h':lt' a b with
   |false=>rfl
   |true=>have:=O.tr h h';rw[O.irr] at this;cases this
def jJ (lt':K→K→Ap)(x:K):Ab K→Ab K
 |[]=>[x]
 |y::l=>if lt' x y then x::y::l else if lt' y x then y::jJ lt' x l else y::l
def srt (lt':K→K→Ap):Ab K→Ab K
 |[]=>[]
 |x::xs=>jJ lt' x (srt lt' xs)
set_option tactic.hygienic true in
def fX (O:Ord lt')(x y:K):∀ l:Ab K,y∈jJ lt' x l↔y=x∨y∈l
 |[]=>by simp[jJ]
 |z::l=>by
  unfold jJ
  split
  ·simp
  ·rename_i h1
   split
   ·rw[Bb,fX O x y l,Bb]
    exact⟨λh=>by rcases h with h|h|h <;> simp[h],λh=>by rcases h with h|h|h <;> simp[h]⟩
   ·rename_i h2
    have:x=z:=(O.tri (by simpa using h1)).elim id λh=>absurd h h2
    subst this;simp
set_option tactic.hygienic true in
def aP (O:Ord lt')(x:K):∀ l:Ab K,l.Pairwise (λa b=>lt' a b=true)→(jJ lt' x l).Pairwise (λa b=>lt' a b=true)
 |[],_=>by simp[jJ]
 |z::l,h=>by
  rw[Fp] at h;unfold jJ
  split
  ·rename_i h1
   refine Fp.mpr ⟨λy hy=>?_,Fp.mpr h⟩;rcases Bb.mp hy with rfl|hy
   ·exact h1
   ·exact O.tr h1 (h.1 y hy)
  ·split
   ·rename_i h2
    refine Fp.mpr ⟨λy hy=>?_,aP O x l h.2⟩;rcases (fX O x y l).mp hy with rfl|hy
    ·exact h2
    ·exact h.1 y hy
   ·exact Fp.mpr h
def uF (O:Ord lt')(y:K):∀ l:Ab K,y∈srt lt' l↔y∈l
 |[]=>by simp[srt]
 |x::l=>by rw[srt,fX O,uF O y l,Bb]
def bF (O:Ord lt'):∀ l:Ab K,(srt lt' l).Pairwise (λa b=>lt' a b=true)
 |[]=>by simp[srt]
 |x::l=>aP O x _ (bF O l)
def lJ (O:Ord lt'):∀ {a b:Ab K},a.Pairwise (λa b=>lt' a b=true)→b.Pairwise (λa b=>lt' a b=true)→(∀ x,x∈a↔x∈b)→a=b
 |[],[],_,_,_=>rfl
 |[],y::b,_,_,h=>by have:=(h y).mpr (by simp);simp at this
 |x::a,[],_,_,h=>by have:=(h x).mp (by simp);simp at this
 |x::a,y::b,ha,hb,h=>by
  rw[Fp] at ha hb;have asym:∀ {u v},lt' u v=true→lt' v u=true→Fa:=λp q=>by have:=O.tr p q;rw[O.irr] at this;cases this
  have e:x=y:=by
   rcases Bb.mp ((h x).mp (by simp)) with e|e
   ·exact e
   ·rcases Bb.mp ((h y).mpr (by simp)) with e'|e'
    ·exact e'.symm
    ·exact(asym (hb.1 x e) (ha.1 y e')).elim
  subst e;have ne:∀ {z:K} {l:Ab K},(∀ y∈l,lt' x y=true)→z∈l→z≠x:=λh hz e=>by subst e;have:=h _ hz;rw[O.irr] at this;cases this
  rw[lJ O ha.2 hb.2 λz=>⟨λhz=>?_,λhz=>?_⟩]
  ·exact(Bb.mp ((h z).mp (by simp[hz]))).elim (λe=>absurd e (ne ha.1 hz)) id
  ·exact(Bb.mp ((h z).mpr (by simp[hz]))).elim (λe=>absurd e (ne hb.1 hz)) id
def NL (O:Ord lt'){l xs:Ab K}(h:Nf lt' l)(nd:l.Nodup)(m:∀ x,x∈l↔x∈xs):l=srt lt' xs:=
 lJ O (XA O h nd) (bF O xs) λx=>by rw[m,uF O]
end
def PH:Wg (.type "set") "__len__" = pure (Aa (.builtin "set.__len__")):=PySem.F.slot_set_len.lookup
section
variable {prog:Bd}{w:Bw}{A:Bt}{E:Ac→Ag→Prop}{s:Ag}{S:Ad}{es:Av (Ai × Ac)}{ep:Ah}{t:Fe}
def V7 {r:Ad}(hT:s.TypeIs (.ref r) "set"){Q:Ap→Ag→Prop}(h:Q false s):Ao (As prog w) A (No (.ref r)) Q E s:=by
 unfold No;refine Af (Px hT PH ?_);generalize hid:("set.__len__" : Do)=id0
 wp_delta
 rw[show splitId id0=Aa ("set","__len__") from by subst hid;decide +kernel]
 subst hid;refine Af (OX (T:="set") (b:=true) hT (by rw[Rh];kernel_rfl) ?_)
 refine Qk (λhab=>absurd hab (by decide)) (λ_=>?_)
 refine Qk (λ_=>?_) (λhab=>absurd (by decide +kernel) hab)
 exact Af (Kq hT (Am h))
def cK {Q:Ab Ac→Ag→Prop}(hh:A.handled=none)(Z:Still w S es ep t)(ho:s.heap.get? S=Aa (setO es ep t))(hn:es.size≤1000)
  (h:∀ h' tk,(∀ b o,s.heap.get? b=Aa o→h'.get? b=Aa o)→s.heap.objs.size<h'.objs.size→Q ((qV w S ep es).toList.map (·.2)) { s with heap:=h',toks:=tk }) : Ao (As prog w) A (collect (.ref S)) Q E s:=by
 have hS:S<s.heap.objs.size:=Au ho;unfold collect;refine Af (Rg (He PySem.F.entry_proto_collect ?_));rw[Im PySem.F.plain_proto_collect _];show Ao _ A.in1 (newList [] >>= λl=>again (.builtin "list.__iadd__" ⟨[l,.ref S],[]⟩)) _ _ s;refine Af (Ek (Am ⟨OC Pj _,He PySem.F.entry_list_iadd ?_⟩));rw[Im Pj _];have hD:(s.heap.push { cls:=.type "list",data:=.seq ([] : Ab Ac).toArray }).get? s.heap.objs.size=Aa { cls:=.type "list",data:=.seq #[] }:=Bi _ rfl;have ho1:(s.heap.push { cls:=.type "list",data:=.seq ([] : Ab Ac).toArray }).get? S=Aa (setO es ep t):=Aj _ ho;show Ao _ A.in1 (Np (.ref s.heap.objs.size) (.ref S) (.ref s.heap.objs.size)) _ _ _;unfold Np;have hT1:OD { s with heap:=s.heap.push { cls:=.type "list",data:=.seq ([] : Ab Ac).toArray } } (.ref S) "set":=⟨_,ho1,rfl⟩
 refine Af (Kq hT1 ?_);have h1:OL (.ref s.heap.objs.size) (.ref S)=false:=by simp[OL];exact Gq hS
 rw[Bc (by rw[h1];decide)]
 refine Af (VB (s:={ s with heap:=s.heap.push { cls:=.type "list",data:=.seq ([] : Ab Ac).toArray } }) Z ho1 ?_)
 have hD2:=Aj (itO 0 0 S es.size ep) hD;have hT2:OD { s with heap:=(s.heap.push { cls:=.type "list",data:=.seq ([] : Ab Ac).toArray }).push (itO 0 0 S es.size ep) } (.ref S) "set":=⟨_,Aj _ ho1,rfl⟩
 refine Af (Ed (V7 hT2 ?_));refine Qk (λ_=>?_) (λhab=>absurd (by decide) hab)
 refine Af (Hb (Af ?_));show Ao _ _ (updateSeq s.heap.objs.size (·.push .none) >>= λ_=>updateSeq s.heap.objs.size (·.pop)) _ _ _
 refine Af (Vy hD2 rfl ?_);have hD3:=Fj (El (·.push Dj)) hD2 rfl
 refine Vy (hz:=by seq_fits) hD3 rfl ?_
 have hD4:=Fj (El (·.pop)) hD3 rfl
 have sz:(s.heap.push { cls:=.type "list",data:=.seq ([] : Ab Ac).toArray }).objs.size=s.heap.objs.size+1:=Dr ..;have oth:∀ {b:Ad} {o:Cg},b≠s.heap.objs.size→((s.heap.push { cls:=.type "list",data:=.seq ([] : Ab Ac).toArray }).push (itO 0 0 S es.size ep)).get? b=Aa o →
   ((((s.heap.push { cls:=.type "list",data:=.seq ([] : Ab Ac).toArray }).push (itO 0 0 S es.size ep)).update s.heap.objs.size (El (·.push Dj))).update s.heap.objs.size (El (·.pop))).get? b=Aa o:=
  λhb e=>(Dd _ _ (Fu hb)).trans ((Dd _ _ (Fu hb)).trans e)
 have at0:=K3 (w:=w) (s:={ s with heap:=s.heap.push { cls:=.type "list",data:=.seq ([] : Ab Ac).toArray } }) Z ho1
 refine Am ⟨OC PySem.F.plain_extend_loop _,?_⟩;refine codeAny_extend_loopS ((F9 (prog:=prog) (A:=A.in1) (I:=(s.heap.push { cls:=.type "list",data:=.seq ([] : Ab Ac).toArray }).objs.size) hh (by rw[sz];exact Cc (IX hS)) Z).toS) (by rw[Ep];omega) s.heap.objs.size ?_ _ es.size 0 _ #[] _ rfl (Hi _) ?_ hD4 (ItemsOf.nil _) λs' acc c hm hS' hacc=>?_
 ·rw[sz]
  simp only[Bb,Cy,Gc,Wx];exact⟨Cc (Gf _),Gq hS⟩
 ·obtain⟨slot,a1,a2,a3⟩:=at0
  exact⟨slot,oth (by rw[sz];exact Gq (Gf _)) a1,oth (Cc hS) a2,a3⟩
 ·show Ao _ A (load s.heap.objs.size >>= _) _ _ s'
  refine Af (wpAny_load hS' ?_);obtain⟨h',g',d',tk',os'⟩:=s';have eg:g'=s.gens:=hm.gens;have ed:d'=s.drawn:=hm.drawn;have eo:os'=s.os:=hm.os;subst eg;subst ed;subst eo;have e:acc.toList=(qV w S ep es).toList.map (·.2):=by
   refine Uq λi=>?_;rw[Bf,Dl,Bf];by_cases hi:i<es.size
   ·have hi':i<acc.size:=by rw[hacc.1];exact hi
    obtain⟨e,he,q⟩:=hacc.2 i acc[i] (Dv hi');rw[Dv hi',he,Vw,q]
   ·rw[Ql (by rw[hacc.1];omega),Ql (by rw[uU];omega)]
    rfl
  refine Am ?_;show Q acc.toList _;rw[e];refine h h' tk' (λb o q=>?_) (Au hS');have hb:b<s.heap.objs.size:=Au q;refine hm.heap b o (λhx=>?_) (oth (Cc hb) (Aj _ (Aj _ q)));simp only[Bb,Cy,Gc] at hx;rcases hx with hx|hx
  ·exact absurd hb (by rw[hx];exact Ei _)
  ·exact absurd hb (by rw[hx,sz];exact Lg.mpr (Od _))
end
def nG:Ap→Bp→Av Bp→Ah→Ah→Ah→Ss Fl Jm (Al Ah):=sortPriv% PySem.Builtin.gallop
def VR:Av Bp→Av Bp→Ss Fl Jm (Av Bp):=sortPriv% PySem.Builtin.mergeLo
def VQ:Av Bp→Av Bp→Ss Fl Jm (Av Bp):=sortPriv% PySem.Builtin.mergeHi
def nv:Bp:=(Dj,Dj)
section
variable {M:Ji}{A:Bt}{E:Ac→Ag→Prop}{s:Ag}{κ : Kc}{U:Bp→Prop}{r:Bp→Ai}
structure Cm (M:Ji)(A:Bt)(s:Ag)(κ : Kc)(U:Bp→Prop)(r:Bp→Ai):Prop where
 lt:∀ {x y:Bp},U x→U y→∀ {E:Ac→Ag→Prop} {Q:Al Ap→Fl→Prop} {st:Fl},kindOf st=κ→Q (Aa (decide (r x<r y))) st→wpS M A E s (lt' x y) Q st
def zI {i:Ah}{Q:Bp→Fl→Prop}{st:Fl}(h:i<arr.size)(q:Q (arr.getD i nv) st):wpS M A E s (elem' arr i) Q st:=by
 rw[elem'_eq,getElem?_pos arr i h];have e:arr.getD i nv=arr[i]:=by simp[Fx,h]
 rw[e] at q;exact Bl q
def QP (C:Cm M A s κ U r){left:Ap}{key:Bp}{arr:Av Bp}{i:Ah}{Q:Al Ap→Fl→Prop}{st:Fl}(hk:kindOf st=κ)(hi:i<arr.size)(hU:U (arr.getD i nv))(hkU:U key)
  (q:Q (Aa (if left then decide (r (arr.getD i nv)<r key) else !decide (r key<r (arr.getD i nv)))) st) :
  wpS M A E s (do let x ← elem' arr i;if left then lt' x key else (do let a ← lt' key x;pure (a.map (λb=>!b)))) Q st:=by
 refine Aw (zI hi ?_);cases left with
 |true=>exact C.lt hU hkU hk q
 |false=>exact Aw (C.lt hkU hU hk (Bl q))
def tQ (C:Cm M A s κ U r){left:Ap}{key:Bp}{arr:Av Bp}{base n hint cut:Ah}{Q:Al Ah→Fl→Prop}{st:Fl}(hk:kindOf st=κ)(hh:hint<n)(hb:base+n≤arr.size)(hU:∀ i,i<n→U (arr.getD (base+i) nv))(hkU:U key)(hc:cut≤n)
  (hB:∀ i,i<n→(if left then decide (r (arr.getD (base+i) nv)<r key) else !decide (r key<r (arr.getD (base+i) nv)))=decide (i<cut)) (h:Q (Aa cut) st):wpS M A E s (nG left key arr base n hint) Q st:=by
 have B:∀ {i:Ah} {E:Ac→Ag→Prop} {Q:Al Ap→Fl→Prop},i<n→Q (Aa (decide (i<cut))) st→wpS M A E s (do let x ← elem' arr (base+i);if left then lt' x key else (do let a ← lt' key x;pure (a.map (λb=>!b)))) Q st:=by
  intro i E Q hi q;exact QP C hk (by omega) (hU i hi) hkU (by rw[hB i hi];exact q)
 have bin:∀ {lo hi:Ah} {f:Ah→Al (Al Ah) × Ah × Ah→Ss Fl Jm (ForInStep (Al (Al Ah) × Ah × Ah))},lo≤cut→cut≤hi→hi≤n →
   (∀ x a b,f x (none,a,b)=if a≥b then pure (.done (none,a,b)) else ((do let x ← elem' arr (base+(a+(b-a)/2));if left then lt' x key else (do let a ← lt' key x;pure (a.map (λb=>!b)))) >>= λo=>match o with
    |some more=>if more then pure (.yield (none,a+(b-a)/2+1,b)) else pure (.yield (none,a,a+(b-a)/2))
    |_=>pure (.done (Aa none,a,b))))→wpS M A E s (forIn [0:n] (none,lo,hi) f) (λc st'=>st'=st∧∃ a,c=(none,a,cut)) st:=by
  intro lo hi f h1 h2 h3 hf;refine Ew (I:=λx c st'=>st'=st∧∃ a b,c=(none,a,b)∧a≤cut∧cut≤b∧b≤n∧b-a≤n-x) ?_ ?_ ⟨rfl,lo,hi,rfl,h1,h2,h3,by omega⟩
  ·rintro x c st' _ hx ⟨rfl,a,b,rfl,q1,q2,q3,q4⟩
   rw[hf];by_cases g:a≥b
   ·rw[Bg g];exact Bl ⟨rfl,a,by rw[show b=cut by omega]⟩
   ·rw[Bc g]
    refine Aw (B (by omega) ?_)
    by_cases z:a+(b-a)/2<cut
    ·simp only[z,IB,Dc]
     exact Bl ⟨rfl,_,_,rfl,by omega,q2,q3,by omega⟩
    ·simp only[z,IG,Bq,Dw]
     exact Bl ⟨rfl,_,_,rfl,q1,by omega,by omega,by omega⟩
  ·rintro c st' ⟨rfl,a,b,rfl,q1,q2,q3,q4⟩
   exact⟨rfl,a,by rw[show b=cut by omega]⟩
 refine Aw (B hh ?_);dsimp only;by_cases hr:hint<cut
 ·simp only[hr,IB,Dc]
  refine Aw (Gn (Ew (I:=λx c st'=>st'=st∧∃ a b,c=(none,a,b)∧hint+a<cut∧a<b∧x<b)
   (Q:=λc st'=>st'=st∧∃ a b,c=(none,a,b)∧hint+a<cut∧cut≤hint+min b (n-hint)) ?_ ?_ ⟨rfl,0,1,rfl,hr,by omega,by omega⟩) ?_)
  ·rintro x c st' _ hx ⟨rfl,a,b,rfl,q1,q2,q3⟩
   dsimp only;by_cases g:b≥n-hint
   ·rw[Bg g];exact Bl ⟨rfl,a,b,rfl,q1,by omega⟩
   ·rw[Bc g]
    refine Aw (B (by omega) ?_)
    by_cases z:hint+b<cut
    ·simp only[z,IB,IS,Bq,Dw]
     exact Bl ⟨rfl,_,_,rfl,z,by omega,by omega⟩
    ·simp only[z,IG,Rf,Dc]
     exact Bl ⟨rfl,a,b,rfl,q1,by omega⟩
  ·rintro c st' ⟨rfl,a,b,rfl,q1,q2,q3⟩
   exact⟨rfl,a,b,rfl,q1,by omega⟩
  ·rintro c st' ⟨rfl,a,b,rfl,q1,q2⟩
   dsimp only;refine Aw (Gn (bin (lo:=hint+a+1) (hi:=hint+min b (n-hint)) (by omega) q2 (by omega) λ_ _ _=>rfl) ?_)
   rintro c st' ⟨rfl,a',rfl⟩;exact Bl h
 ·simp only[hr,IG,Bq,Dw]
  refine Aw (Gn (Ew (I:=λx c st'=>st'=st∧∃ a b,c=(none,a,b)∧cut+a≤hint∧a<b∧x<b)
   (Q:=λc st'=>st'=st∧∃ a b,c=(none,a,b)∧cut+a≤hint∧hint+1≤cut+min b (hint+1)) ?_ ?_ ⟨rfl,0,1,rfl,by omega,by omega,by omega⟩) ?_)
  ·rintro x c st' _ hx ⟨rfl,a,b,rfl,q1,q2,q3⟩
   dsimp only;by_cases g:b≥hint+1
   ·rw[Bg g];exact Bl ⟨rfl,a,b,rfl,q1,by omega⟩
   ·rw[Bc g]
    refine Aw (B (by omega) ?_)
    by_cases z:hint-b<cut
    ·simp only[z,IB,Dc]
     exact Bl ⟨rfl,a,b,rfl,q1,by omega⟩
    ·simp only[z,IG,Bq,Dw]
     exact Bl ⟨rfl,_,_,rfl,by omega,by omega,by omega⟩
  ·rintro c st' ⟨rfl,a,b,rfl,q1,q2,q3⟩
   exact⟨rfl,a,b,rfl,q1,by omega⟩
  ·rintro c st' ⟨rfl,a,b,rfl,q1,q2⟩
   dsimp only;refine Aw (Gn (bin (lo:=hint+1-min b (hint+1)) (hi:=hint-a) (by omega) (by omega) (by omega) λ_ _ _=>rfl) ?_)
   rintro c st' ⟨rfl,a',rfl⟩;exact Bl h
end
def Le (r:Bp→Ai)(x y:Bp):Prop:=r x≤r y
structure Mg (r:Bp→Ai)(o A B T:Ab Bp):Prop where
 p1:(o++A).Pairwise (Le r)
 p2:(o++B).Pairwise (Le r)
 pm:(o++A++B).Perm T
structure Mh (r:Bp→Ai)(A B o T:Ab Bp):Prop where
 p1:(A++o).Pairwise (Le r)
 p2:(B++o).Pairwise (Le r)
 pm:(A++B++o).Perm T
section
variable {r:Bp→Ai}{o A B A1 A2 B1 B2 T:Ab Bp}
def Mg.b (h:Mg r o A (B1++B2) T)(l:∀ x∈B1,∀ y∈A,Le r x y):Mg r (o++B1) A B2 T:=by
 obtain⟨p1,p2,pm⟩:=h;refine⟨?_,by rw[Cj];exact p2,?_⟩
 ·rw[Cj]
  rw[DL] at p1 p2 ⊢;refine⟨p1.1,?_,λx hx y hy=>?_⟩
  ·rw[DL]
   exact⟨(DL.mp p2.2.1).1,p1.2.1,l⟩
  ·rcases Cp.mp hy with hy|hy
   ·exact p2.2.2 x hx y (Dg _ hy)
   ·exact p1.2.2 x hx y hy
 ·refine Ms ?_ pm
  simp only[Cj];refine Gv _ ?_;simp only[← Cj];exact IT _ Ja
def Mg.a (h:Mg r o (A1++A2) B T)(l:∀ x∈A1,∀ y∈B,Le r x y):Mg r (o++A1) A2 B T:=by
 obtain⟨p1,p2,pm⟩:=h;refine⟨by rw[Cj];exact p1,?_,by simpa only [Cj] using pm⟩
 rw[Cj];rw[DL] at p1 p2 ⊢;refine⟨p2.1,?_,λx hx y hy=>?_⟩
 ·rw[DL]
  exact⟨(DL.mp p1.2.1).1,p2.2.1,l⟩
 ·rcases Cp.mp hy with hy|hy
  ·exact p1.2.2 x hx y (Dg _ hy)
  ·exact p2.2.2 x hx y hy
def Mh.a (h:Mh r (A1++A2) B o T)(l:∀ x∈B,∀ y∈A2,Le r x y):Mh r A1 B (A2++o) T:=by
 obtain⟨p1,p2,pm⟩:=h;refine⟨by rw[← Cj];exact p1,?_,?_⟩
 ·rw[Cj] at p1
  rw[DL] at p1 p2 ⊢;refine⟨p2.1,p1.2.1,λx hx y hy=>?_⟩;rcases Cp.mp hy with hy|hy
  ·exact l x hx y hy
  ·exact p2.2.2 x hx y hy
 ·refine Ms ?_ pm
  simp only[Cj];refine Gv _ ?_;simp only[← Cj];exact IT _ Ja
def Mh.b (h:Mh r A (B1++B2) o T)(l:∀ x∈A,∀ y∈B2,Le r x y):Mh r A B1 (B2++o) T:=by
 obtain⟨p1,p2,pm⟩:=h;refine⟨?_,by rw[← Cj];exact p2,by simpa only [Cj] using pm⟩
 rw[Cj] at p2;rw[DL] at p1 p2 ⊢;refine⟨p1.1,p2.2.1,λx hx y hy=>?_⟩;rcases Cp.mp hy with hy|hy
 ·exact l x hx y hy
 ·exact p1.2.2 x hx y hy
end
structure Mo (r:Bp→Ai)(T:Ab Bp)(m:Av Bp):Prop where
 pm:m.toList.Perm T
 up:m.toList.Pairwise (Le r)
abbrev vV (st:Fl)(g:Ah):Fl:=Cz (kindOf st) (arrOf st) (pendingOf st) g (failedOf st)
def n9 {a:Av Bp}{i:Ah}(h:i<a.size):a.toList.drop i=a.getD i nv::a.toList.drop (i+1):=by
 rw[Gu (by simpa using h)]
 congr 1
 simp[Fx,h]
def zT {a:Av Bp}{i:Ah}(h:i<a.size):a.getD i nv∈a.toList:=by
 have e:a.getD i nv=a[i]:=by simp[Fx,h]
 rw[e];exact Array.getElem_mem_toList h
def yL {r:Bp→Ai}{a:Av Bp}(s:a.toList.Pairwise (Le r)){i j:Ah}(h:i≤j)(hj:j<a.size):r (a.getD i nv)≤r (a.getD j nv):=by
 rcases Jg i j with l|l
 ·have e:=Ik.mp s i j (by simpa using ID l hj) (by simpa using hj) l
  have hi:i<a.size:=ID l hj;simpa [Fx,hi,hj,Le] using e
 ·rw[Nat.le_antisymm h l];exact Lw _
def gZ {a:Av Bp}{i:Ah}{x:Bp}(h:x∈a.toList.drop i):∃ j,i≤j∧j<a.size∧x=a.getD j nv:=by
 obtain⟨k,hk,e⟩:=Cw.mp h;rw[O9] at e;have hk':k<a.size-i:=by simpa using hk
 refine⟨i+k,by omega,by omega,?_⟩
 have:i+k<a.size:=by omega
 simp[Fx,this,← e]
def p8 {a:Av Bp}{x:Bp}(h:x∈a.toList.take n):∃ j,j<n∧j<a.size∧x=a.getD j nv:=by
 obtain⟨k,hk,e⟩:=Cw.mp h;rw[O8] at e;have hk':k<n∧k<a.size:=by rw[Gt,Bh] at hk;omega
 refine⟨k,hk'.1,hk'.2,?_⟩;simp[Fx,hk'.2,← e]
def fT {a:Av Bp}{i k:Ah}:(a.extract i (i+k)).toList++a.toList.drop (i+k)=a.toList.drop i:=by
 rw[Io,Gw,IH,← List.drop_drop];exact Lx _ _
def bN {a:Av Bp}{i:Ah}:(a.extract i a.size).toList=a.toList.drop i:=by
 rw[Io,Gw];exact Lj (by simp)
def nU {a:Av Bp}{i k:Ah}{x:Bp}(h:x∈(a.extract i (i+k)).toList):∃ j,i≤j∧j<i+k∧j<a.size∧x=a.getD j nv:=by
 rw[Io,Gw,IH] at h;obtain⟨m,hm,e⟩:=Cw.mp h;rw[O8,O9] at e;have hm':m<k∧i+m<a.size:=by rw[Gt,Lo,Bh] at hm;omega
 refine⟨i+m,by omega,by omega,hm'.2,?_⟩
 simp[Fx,hm'.2,← e]
def GL (r:Bp→Ai)(a b o:Av Bp)(i j:Ah):Prop:=Mg r o.toList (a.toList.drop i) (b.toList.drop j) (a.toList++b.toList)
section
variable {r:Bp→Ai}{a b o:Av Bp}{i j k:Ah}
def GL.pb (sa:a.toList.Pairwise (Le r))(h:GL r a b o i j)(hj:j<b.size)(l:i<a.size→r (b.getD j nv)≤r (a.getD i nv)):GL r a b (o.push (b.getD j nv)) i (j+1):=by
 have h':Mg r o.toList (a.toList.drop i) ([b.getD j nv]++b.toList.drop (j+1)) (a.toList++b.toList):=by rw[Qw,← n9 hj];exact h
 have:=h'.b λx hx y hy=>by
  cases Dx.mp hx;obtain⟨m,h1,h2,rfl⟩:=gZ hy;exact Fg (l (by omega)) (yL sa h1 h2)
 unfold GL;rw[Ef];exact this
def GL.pa (sb:b.toList.Pairwise (Le r))(h:GL r a b o i j)(hi:i<a.size)(l:j<b.size→r (a.getD i nv)≤r (b.getD j nv)):GL r a b (o.push (a.getD i nv)) (i+1) j:=by
 have h':Mg r o.toList ([a.getD i nv]++a.toList.drop (i+1)) (b.toList.drop j) (a.toList++b.toList):=by rw[Qw,← n9 hi];exact h
 have:=h'.a λx hx y hy=>by
  cases Dx.mp hx;obtain⟨m,h1,h2,rfl⟩:=gZ hy;exact Fg (l (by omega)) (yL sb h1 h2)
 unfold GL;rw[Ef];exact this
def GL.ea (sb:b.toList.Pairwise (Le r))(h:GL r a b o i j)(hj:j<b.size)(l:∀ m,m<k→r (a.getD (i+m) nv)≤r (b.getD j nv)):GL r a b (o++a.extract i (i+k)) (i+k) j:=by
 have h':Mg r o.toList ((a.extract i (i+k)).toList++a.toList.drop (i+k)) (b.toList.drop j) (a.toList++b.toList):=by rw[fT];exact h
 have:=h'.a λx hx y hy=>by
  obtain⟨m,h1,h2,h3,rfl⟩:=nU hx;obtain⟨m',h4,h5,rfl⟩:=gZ hy;have:=l (m-i) (by omega)
  rw[show i+(m-i)=m by omega] at this
  exact Fg this (yL sb h4 h5)
 unfold GL;rw[Dn];exact this
def GL.eb (sa:a.toList.Pairwise (Le r))(h:GL r a b o i j)(hi:i<a.size)(l:∀ m,m<k→r (b.getD (j+m) nv)≤r (a.getD i nv)):GL r a b (o++b.extract j (j+k)) i (j+k):=by
 have h':Mg r o.toList (a.toList.drop i) ((b.extract j (j+k)).toList++b.toList.drop (j+k)) (a.toList++b.toList):=by rw[fT];exact h
 have:=h'.b λx hx y hy=>by
  obtain⟨m,h1,h2,h3,rfl⟩:=nU hx;obtain⟨m',h4,h5,rfl⟩:=gZ hy;have:=l (m-j) (by omega)
  rw[show j+(m-j)=m by omega] at this
  exact Fg this (yL sa h4 h5)
 unfold GL;rw[Dn];exact this
def GL.fin (h:GL r a b o i j)(e:i=a.size∨j=b.size):Mo r (a.toList++b.toList) (o++a.extract i a.size++b.extract j b.size):=by
 refine⟨?_,?_⟩ <;> rw[Dn,Dn,bN,bN]
 ·exact h.pm
 ·rcases e with rfl|rfl
  ·rw[Ll (by simp),Fm];exact h.p2
  ·rw[Ll (l:=b.toList) (by simp),Fm];exact h.p1
def GL.last (h:GL r a b o i j)(e:i+1=a.size)(l:∀ x∈b.toList,Le r x (a.getD (a.size-1) nv)):Mo r (a.toList++b.toList) (o++b.extract j b.size++a.extract i a.size):=by
 have hi:i<a.size:=by omega
 have hd:a.toList.drop i=[a.getD i nv]:=by rw[n9 hi,Ll (by simp;omega)]
 refine⟨?_,?_⟩ <;> rw[Dn,Dn,bN,bN]
 ·refine Ms ?_ h.pm
  rw[Cj,Cj];exact Gv _ Ja
 ·have p1:=h.p1
  rw[hd] at p1 ⊢;rw[DL] at p1 ⊢;refine⟨h.p2,Pk _ _,λx hx y hy=>?_⟩;rcases Cp.mp hx with hx|hx
  ·exact p1.2.2 x hx y hy
  ·cases Dx.mp hy
   have:=l x (List.mem_of_mem_drop hx);rw[show a.size-1=i by omega] at this
   exact this
end
def rD {p:Ah→Ap}:∀ (n:Ah),(∀ i j,i≤j→j<n→p j=true→p i=true)→∃ c,c≤n∧∀ i,i<n→p i=decide (i<c)
 |0,_=>⟨0,Ax _,λi h=>by omega⟩
 |n+1,h=>by
  obtain⟨c,hc,e⟩:=rD n λi j a b=>h i j a (by omega)
  by_cases q:p n=true
  ·refine⟨n+1,Ax _,λi hi=>?_⟩
   rw[h i n (by omega) (by omega) q]
   simp[hi]
  ·refine⟨c,by omega,λi hi=>?_⟩
   rcases Jg i n with l|l
   ·exact e i l
   ·have:i=n:=by omega
    subst this;have:¬ i<c:=by omega
    simp[this,q]
section
variable {M:Ji}{A:Bt}{E:Ac→Ag→Prop}{s:Ag}{κ : Kc}{U:Bp→Prop}{r:Bp→Ai}
def qR {σ α:Type}{c:Prop}[Kw c]{x y:Ss σ Jm α}{Q:α→σ→Prop}{st:σ}(h1:c→wpS M A E s x Q st)(h2:¬ c→wpS M A E s y Q st):wpS M A E s (if c then x else y) Q st:=by
 by_cases h:c
 ·rw[Bg h];exact h1 h
 ·rw[Bc h];exact h2 h
def V2 (C:Cm M A s κ U r){key:Bp}{arr:Av Bp}{base n hint:Ah}{Q:Al Ah→Fl→Prop}{st:Fl}(hk:kindOf st=κ)(hh:hint<n)(hb:base+n≤arr.size)(hU:∀ i,i<n→U (arr.getD (base+i) nv))(hkU:U key)
  (sa:∀ i j,i≤j→j<n→r (arr.getD (base+i) nv)≤r (arr.getD (base+j) nv)) (h:∀ c,c≤n→(∀ i,i<c→r (arr.getD (base+i) nv)≤r key)→(∀ i,c≤i→i<n→r key<r (arr.getD (base+i) nv))→Q (Aa c) st):wpS M A E s (nG false key arr base n hint) Q st:=by
 obtain⟨c,hc,e⟩:=rD (p:=λi=>!decide (r key<r (arr.getD (base+i) nv))) n λi j a b q=>by
  have:=sa i j a b;simp only[IV,Hk] at q ⊢;omega
 refine tQ C hk hh hb hU hkU hc (λi hi=>by simpa using e i hi) (h c hc (λi hi=>?_) λi hi hn=>?_)
 ·have:=e i (by omega)
  simp only[hi,IB,IV,Hk] at this;omega
 ·have:=e i hn
  simp only[show ¬ i<c by omega,IG,Bool.not_eq_false',Cd] at this
  exact this
def V3 (C:Cm M A s κ U r){key:Bp}{arr:Av Bp}{base n hint:Ah}{Q:Al Ah→Fl→Prop}{st:Fl}(hk:kindOf st=κ)(hh:hint<n)(hb:base+n≤arr.size)(hU:∀ i,i<n→U (arr.getD (base+i) nv))(hkU:U key)
  (sa:∀ i j,i≤j→j<n→r (arr.getD (base+i) nv)≤r (arr.getD (base+j) nv)) (h:∀ c,c≤n→(∀ i,i<c→r (arr.getD (base+i) nv)<r key)→(∀ i,c≤i→i<n→r key≤r (arr.getD (base+i) nv))→Q (Aa c) st):wpS M A E s (nG true key arr base n hint) Q st:=by
 obtain⟨c,hc,e⟩:=rD (p:=λi=>decide (r (arr.getD (base+i) nv)<r key)) n λi j a b q=>by
  have:=sa i j a b;simp only[Cd] at q ⊢;omega
 refine tQ C hk hh hb hU hkU hc (λi hi=>by simpa using e i hi) (h c hc (λi hi=>?_) λi hi hn=>?_)
 ·have:=e i (by omega)
  simp only[hi,IB,Cd] at this;exact this
 ·have:=e i hn
  simp only[show ¬ i<c by omega,IG,Hk] at this
  omega
end
section
variable {prog:Bd}{w:Bw}{A:Bt}{E:Ac→Ag→Prop}{s:Ag}{κ : Kc}{U:Bp→Prop}{r:Bp→Ai}
def cW (C:Cm (As prog w) A s κ U r){a b:Av Bp}{Q:Av Bp→Fl→Prop}{st:Fl}(hk:kindOf st=κ)(ua:∀ x∈a.toList,U x)(ub:∀ x∈b.toList,U x)(sa:a.toList.Pairwise (Le r))(sb:b.toList.Pairwise (Le r))
  (h:∀ m g,Mo r (a.toList++b.toList) m→Q m (vV st g)) (ha:0<a.size) (hb:0<b.size) (h0:r (b.getD 0 nv)≤r (a.getD 0 nv)) (h1:∀ x∈b.toList,Le r x (a.getD (a.size-1) nv)):wpS (As prog w) A E s (VR a b) Q st:=by
 have G0:GL r a b #[] 0 0:=⟨by simpa using sa,by simpa using sb,by simp⟩
 have G1:=G0.pb sa hb λ_=>h0;refine Aw (Oo (Hb ⟨rfl,?_⟩));refine Aw (zI hb ?_);dsimp only;refine qR (λe=>Bl (h _ (Qm st) (G1.fin (.inr (by simpa using e))))) λe1=>?_
 refine qR (λe=>Bl (h _ (Qm st) (G1.last (by simpa using e) h1))) λe2=>?_
 have e1:1<b.size:=by
  have:¬ 1=b.size:=by simpa using e1
  omega
 have e2:0+1<a.size:=by
  have:¬ 0+1=a.size:=by simpa using e2
  omega
 refine Aw (Ks ?_);refine Aw (Gn (Ew (I:=λx c st'=>(∃ g,st'=vV st g)∧∃ o i j g,c=(none,o,i,j,g)∧GL r a b o i j∧i+1<a.size∧j<b.size∧x<i+j)
  (Q:=λc st'=>(∃ g,st'=vV st g)∧∃ m,c.1=Aa m∧Mo r (a.toList++b.toList) m) ?_ ?_ ⟨⟨Qm st,rfl⟩,_,0,1,_,rfl,G1,e2,e1,by omega⟩) ?_)
 ·rintro x c st' _ hx ⟨⟨g,rfl⟩,o,i,j,mg,rfl,G,hi,hj,hp⟩
  dsimp only;refine Aw (Gn (Ew (I:=λy c st'=>(∃ g,st'=vV st g)∧∃ o i' j' p q,c=(none,o,i',j',p,q)∧GL r a b o i' j'∧i'+1<a.size∧j'<b.size∧i+j+y≤i'+j')
   (Q:=λc st'=>(∃ g,st'=vV st g)∧((∃ m,c.1=Aa m∧Mo r (a.toList++b.toList) m)∨∃ o i' j' p q,c=(none,o,i',j',p,q)∧GL r a b o i' j'∧i'+1<a.size∧j'<b.size∧x+1<i'+j')) ?_ ?_ ⟨⟨g,rfl⟩,o,i,j,0,0,rfl,G,hi,hj,by omega⟩) ?_)
  ·rintro y c st' _ hy ⟨⟨g,rfl⟩,o,i',j',p,q,rfl,G,hi,hj,hq⟩
   dsimp only;refine Aw (zI hj (Aw (zI (i:=i') (by omega) (Aw (C.lt (ub _ (zT hj)) (ua _ (zT (i:=i') (by omega))) hk ?_)))))
   dsimp only;refine qR (λl=>?_) λl=>?_
   ·have l:r (b.getD j' nv)<r (a.getD i' nv):=by simpa using l
    have G2:=G.pb sa hj λ_=>Gr l;refine Aw (zI hj ?_);refine qR (λe=>?_) λe=>?_
    ·exact Bl ⟨⟨g,rfl⟩,.inl ⟨_,rfl,G2.fin (.inr (by simpa using e))⟩⟩
    ·have e:¬ j'+1=b.size:=by simpa using e
     refine qR (λ_=>?_) λ_=>?_
     ·exact Bl ⟨⟨g,rfl⟩,.inr ⟨_,_,_,_,_,rfl,G2,hi,by omega,by omega⟩⟩
     ·exact Bl ⟨⟨g,rfl⟩,_,_,_,_,_,rfl,G2,hi,by omega,by omega⟩
   ·have l:¬ r (b.getD j' nv)<r (a.getD i' nv):=by simpa using l
    have G2:=G.pa sb (by omega) λ_=>Wn.mp l
    refine Aw (zI (i:=i') (by omega) ?_)
    refine qR (λe=>?_) λe=>?_
    ·exact Bl ⟨⟨g,rfl⟩,.inl ⟨_,rfl,G2.last (by simpa using e) h1⟩⟩
    ·have e:¬ i'+1+1=a.size:=by simpa using e
     refine qR (λ_=>?_) λ_=>?_
     ·exact Bl ⟨⟨g,rfl⟩,.inr ⟨_,_,_,_,_,rfl,G2,by omega,hj,by omega⟩⟩
     ·exact Bl ⟨⟨g,rfl⟩,_,_,_,_,_,rfl,G2,by omega,hj,by omega⟩
  ·rintro c st' ⟨z,o,i',j',p,q,rfl,G,hi,hj,hq⟩
   exact⟨z,.inr ⟨_,_,_,_,_,rfl,G,hi,hj,by omega⟩⟩
  ·rintro c st' ⟨⟨g,rfl⟩,⟨m,hc,hm⟩|⟨o,i',j',p,q,rfl,G,hi,hj,hq⟩⟩
   ·obtain⟨c0,c1⟩:=c
    cases hc;exact Bl ⟨⟨g,rfl⟩,m,rfl,hm⟩
   dsimp only;refine Aw (Oo (Hb ⟨rfl,?_⟩));refine Aw (Gn (Ew (I:=λy c st'=>(∃ g,st'=vV st g)∧∃ o i' j' p q t,c=(none,o,i',j',p,q,t)∧GL r a b o i' j'∧i'+1<a.size∧j'<b.size∧x+1<i'+j')
    (Q:=λc st'=>(∃ g,st'=vV st g)∧((∃ m,c.1=Aa m∧Mo r (a.toList++b.toList) m)∨∃ o i' j' p q t,c=(none,o,i',j',p,q,t)∧GL r a b o i' j'∧i'+1<a.size∧j'<b.size∧x+1<i'+j')) ?_ ?_ ⟨⟨g,rfl⟩,o,i',j',_,_,_,rfl,G,hi,hj,hq⟩) ?_)
   ·rintro y c st' _ hy ⟨⟨g,rfl⟩,o,i,j,p,q,t,rfl,G,hi,hj,hq⟩
    dsimp only;refine qR (λ_=>?_) λ_=>?_
    all_goals
     refine Aw (Hz ?_);refine Aw (zI hj ?_);refine Aw (V2 C hk (by omega) (by omega) (λi hi=>ua _ (zT (by omega))) (ub _ (zT hj)) (λi j a b=>yL sa (by omega) (by omega)) λk k1 k2 k3=>?_)
     dsimp only;apply qR
     case' h1 =>
      intro kp;have G2:=G.ea sb hj k2;refine qR (λe=>Bl ⟨⟨_,rfl⟩,.inl ⟨_,rfl,G2.last (by simpa using e) h1⟩⟩) λe3=>?_
      refine qR (λe=>Bl ⟨⟨_,rfl⟩,.inl ⟨_,rfl,G2.fin (.inl (by simpa using e))⟩⟩) λe4=>?_
      have e3:¬ i+k+1=a.size:=by simpa using e3
      have e4:¬ i+k=a.size:=by simpa using e4
      have hl:i+k+1<a.size:=by omega
      have hc:=k3 k (Ax _) (by omega)
      have hq:x+1<i+k+j:=by omega
     case' h2 =>
      intro kp;have G2:=G;have hl:=hi;have hc:r (b.getD j nv)<r (a.getD i nv):=k3 0 (by omega) (by omega)
     all_goals
      refine Aw (zI hj ?_);have G3:=G2.pb sa hj λ_=>Gr hc;refine qR (λe=>Bl ⟨⟨_,rfl⟩,.inl ⟨_,rfl,G3.fin (.inr (by simpa using e))⟩⟩) λe5=>?_
      have e5:¬ j+1=b.size:=by simpa using e5
      refine Aw (zI (Jb hl) ?_);refine Aw (V3 C hk (by omega) (by omega) (λi hi=>ub _ (zT (by omega))) (ua _ (zT (Jb hl))) (λi j a b=>yL sb (by omega) (by omega)) λm m1 m2 m3=>?_)
      dsimp only;apply qR
      case' h1 =>
       intro mp;have G4:=G3.eb sa (Jb hl) λi hi=>Gr (m2 i hi);refine qR (λe=>Bl ⟨⟨_,rfl⟩,.inl ⟨_,rfl,G4.fin (.inr (by simpa using e))⟩⟩) λe6=>?_
       have e6:¬ j+1+m=b.size:=by simpa using e6
       have hj4:j+1+m<b.size:=by omega
       have hc4:=m3 m (Ax _) (by omega)
      case' h2 =>
       intro mp;have G4:=G3;have hj4:j+1<b.size:=by omega
       have hc4:=m3 0 (by omega) (by omega)
      all_goals
       refine Aw (zI (Jb hl) ?_);have G5:=G4.pa sb (Jb hl) λ_=>hc4;refine qR (λe=>Bl ⟨⟨_,rfl⟩,.inl ⟨_,rfl,G5.last (by simpa using e) h1⟩⟩) λe7=>?_
       simp only[Lh] at e7;exact qR (λ_=>Bl ⟨⟨_,rfl⟩,.inr ⟨_,_,_,_,_,_,rfl,G5,by omega,by omega,by omega⟩⟩) λ_=>Bl ⟨⟨_,rfl⟩,_,_,_,_,_,_,rfl,G5,by omega,by omega,by omega⟩
   ·rintro c st' ⟨z,o,i',j',p,q,t,rfl,G,hi,hj,hq⟩
    exact⟨z,.inr ⟨_,_,_,_,_,_,rfl,G,hi,hj,by omega⟩⟩
   ·rintro c st' ⟨⟨g,rfl⟩,⟨m,hc,hm⟩|⟨o,i',j',p,q,t,rfl,G,hi,hj,hq⟩⟩
    ·obtain⟨c0,c1⟩:=c
     cases hc;exact Bl ⟨⟨g,rfl⟩,m,rfl,hm⟩
    dsimp only;refine Aw (Hz ?_);exact Bl ⟨⟨_,rfl⟩,_,_,_,_,rfl,G,hi,hj,by omega⟩
 ·rintro c st' ⟨z,o,i',j',p,rfl,G,hi,hj,hq⟩
  exfalso
  omega
 ·rintro c st' ⟨⟨g,rfl⟩,m,hc,hm⟩
  obtain⟨c0,c1⟩:=c;cases hc;exact Bl (h m g hm)
end
def lH {a:Av Bp}(h:0<n)(hn:n≤a.size):a.toList.take n=a.toList.take (n-1)++[a.getD (n-1) nv]:=by
 obtain⟨m,rfl⟩:∃ m,n=m+1:=⟨n-1,by omega⟩
 rw[Kl,List.take_add_one];have hm:m<a.size:=by omega
 simp[Fx,hm]
def rM {a:Av Bp}{i:Ah}(h:i≤n):a.toList.take i++(a.extract i n).toList=a.toList.take n:=by
 rw[Io,Gw]
 conv=>rhs;rw[show n=i+(n-i) by omega,List.take_add]
def gQ {a:Av Bp}:(a.extract 0 n).toList=a.toList.take n:=by
 rw[Io,Gw];simp
def p7 {a:Av Bp}{i:Ah}{x:Bp}(hn:i≤n)(h:x∈(a.extract i n).toList):∃ j,i≤j∧j<n∧j<a.size∧x=a.getD j nv:=by
 obtain⟨k,rfl⟩:∃ k,n=i+k:=⟨n-i,by omega⟩
 exact nU h
def GH (r:Bp→Ai)(a b o:Av Bp)(i j:Ah):Prop:=Mh r (a.toList.take i) (b.toList.take j) o.toList.reverse (a.toList++b.toList)
section
variable {r:Bp→Ai}{a b o:Av Bp}{i j k:Ah}
def GH.pa (sb:b.toList.Pairwise (Le r))(h:GH r a b o i j)(h1:0<i)(h2:i≤a.size)(hj:j≤b.size)(l:0<j→r (b.getD (j-1) nv)≤r (a.getD (i-1) nv)):GH r a b (o.push (a.getD (i-1) nv)) (i-1) j:=by
 have h':Mh r (a.toList.take (i-1)++[a.getD (i-1) nv]) (b.toList.take j) o.toList.reverse (a.toList++b.toList):=by rw[← lH h1 h2];exact h
 have:=h'.a λx hx y hy=>by
  cases Dx.mp hy;obtain⟨m,q1,q2,rfl⟩:=p8 hx;exact Fg (yL sb (by omega) (by omega)) (l (by omega))
 unfold GH;rw[Ef,Jv];exact this
def GH.pb (sa:a.toList.Pairwise (Le r))(h:GH r a b o i j)(h1:0<j)(h2:j≤b.size)(hi:i≤a.size)(l:0<i→r (a.getD (i-1) nv)≤r (b.getD (j-1) nv)):GH r a b (o.push (b.getD (j-1) nv)) i (j-1):=by
 have h':Mh r (a.toList.take i) (b.toList.take (j-1)++[b.getD (j-1) nv]) o.toList.reverse (a.toList++b.toList):=by rw[← lH h1 h2];exact h
 have:=h'.b λx hx y hy=>by
  cases Dx.mp hy;obtain⟨m,q1,q2,rfl⟩:=p8 hx;exact Fg (yL sa (by omega) (by omega)) (l (by omega))
 unfold GH;rw[Ef,Jv];exact this
def GH.ea (sb:b.toList.Pairwise (Le r))(h:GH r a b o i j)(hk:k≤i)(hj:j≤b.size)(l:0<j→∀ m,k≤m→m<i→m<a.size→r (b.getD (j-1) nv)≤r (a.getD m nv)):GH r a b (o++(a.extract k i).reverse) k j:=by
 have h':Mh r (a.toList.take k++(a.extract k i).toList) (b.toList.take j) o.toList.reverse (a.toList++b.toList):=by rw[rM hk];exact h
 have:=h'.a λx hx y hy=>by
  obtain⟨m,q1,q2,rfl⟩:=p8 hx;obtain⟨m',q3,q4,q5,rfl⟩:=p7 hk hy;exact Fg (yL sb (by omega) (by omega)) (l (by omega) m' q3 q4 q5)
 unfold GH;rw[Dn,Jk,Jv,Ro];exact this
def GH.eb (sa:a.toList.Pairwise (Le r))(h:GH r a b o i j)(hk:k≤j)(hi:i≤a.size)(l:0<i→∀ m,k≤m→m<j→m<b.size→r (a.getD (i-1) nv)≤r (b.getD m nv)):GH r a b (o++(b.extract k j).reverse) i k:=by
 have h':Mh r (a.toList.take i) (b.toList.take k++(b.extract k j).toList) o.toList.reverse (a.toList++b.toList):=by rw[rM hk];exact h
 have:=h'.b λx hx y hy=>by
  obtain⟨m,q1,q2,rfl⟩:=p8 hx;obtain⟨m',q3,q4,q5,rfl⟩:=p7 hk hy;exact Fg (yL sa (by omega) (by omega)) (l (by omega) m' q3 q4 q5)
 unfold GH;rw[Dn,Jk,Jv,Ro];exact this
def GH.fin (h:GH r a b o i j)(e:i=0∨j=0):Mo r (a.toList++b.toList) (a.extract 0 i++b.extract 0 j++o.reverse):=by
 refine⟨?_,?_⟩ <;> rw[Dn,Dn,gQ,gQ,Jk]
 ·exact h.pm
 ·rcases e with rfl|rfl
  ·rw[Ws,Ib];exact h.p2
  ·rw[Ws,Fm];exact h.p1
def GH.first (h:GH r a b o i j)(e:j=1)(hb:0<b.size)(l:∀ x∈a.toList,Le r (b.getD 0 nv) x):Mo r (a.toList++b.toList) (b.extract 0 j++a.extract 0 i++o.reverse):=by
 subst e;have hd:b.toList.take 1=[b.getD 0 nv]:=by rw[lH (by omega) (by omega)];rfl
 refine⟨?_,?_⟩ <;> rw[Dn,Dn,gQ,gQ,Jk]
 ·refine Ms ?_ h.pm
  exact IT _ Ja
 ·have p2:=h.p2
  rw[hd] at p2 ⊢;rw[Cj];rw[DL] at p2 ⊢;refine⟨p2.1,h.p1,λx hx y hy=>?_⟩;rcases Cp.mp hy with hy|hy
  ·cases Dx.mp hx
   exact l y (List.mem_of_mem_take hy)
  ·exact p2.2.2 x hx y hy
end
section
variable {prog:Bd}{w:Bw}{A:Bt}{E:Ac→Ag→Prop}{s:Ag}{κ : Kc}{U:Bp→Prop}{r:Bp→Ai}
def cV (C:Cm (As prog w) A s κ U r){a b:Av Bp}{Q:Av Bp→Fl→Prop}{st:Fl}(hk:kindOf st=κ)(ua:∀ x∈a.toList,U x)(ub:∀ x∈b.toList,U x)(sa:a.toList.Pairwise (Le r))(sb:b.toList.Pairwise (Le r))
  (h:∀ m g,Mo r (a.toList++b.toList) m→Q m (vV st g)) (ha:0<a.size) (hb:0<b.size) (h0:∀ x∈a.toList,Le r (b.getD 0 nv) x) (h1:r (b.getD (b.size-1) nv)≤r (a.getD (a.size-1) nv)):wpS (As prog w) A E s (VQ a b) Q st:=by
 have G0:GH r a b #[] a.size b.size:=by
  unfold GH;rw[Lj (by simp),Lj (by simp)]
  exact⟨by simpa using sa,by simpa using sb,by simp⟩
 have G1:=G0.pa sb ha (Ax _) (Ax _) λ_=>h1;refine Aw (Oo (Hb ⟨rfl,?_⟩));refine Aw (zI (i:=a.size-1) (by omega) ?_)
 dsimp only;refine qR (λe=>Bl (h _ (Qm st) (G1.fin (.inl (by simpa using e))))) λe1=>?_
 refine qR (λe=>Bl (h _ (Qm st) (G1.first (by simpa using e) hb h0))) λe2=>?_
 have e1:¬ a.size-1=0:=by simpa using e1
 have e2:¬ b.size=1:=by simpa using e2
 refine Aw (Ks ?_);refine Aw (Gn (Ew (I:=λx c st'=>(∃ g,st'=vV st g)∧∃ o i j g,c=(none,i,j,o,g)∧GH r a b o i j∧0<i∧i≤a.size∧1<j∧j≤b.size∧x+i+j<a.size+b.size)
  (Q:=λc st'=>(∃ g,st'=vV st g)∧∃ m,c.1=Aa m∧Mo r (a.toList++b.toList) m) ?_ ?_ ⟨⟨Qm st,rfl⟩,_,a.size-1,b.size,_,rfl,G1,by omega,by omega,by omega,by omega,by omega⟩) ?_)
 ·rintro x c st' _ hx ⟨⟨g,rfl⟩,o,i,j,mg,rfl,G,hi,hi2,hj,hj2,hp⟩
  dsimp only;refine Aw (Gn (Ew (I:=λy c st'=>(∃ g,st'=vV st g)∧∃ o i' j' p q,c=(none,i',j',o,p,q)∧GH r a b o i' j'∧0<i'∧i'≤a.size∧1<j'∧j'≤b.size∧i'+j'+y≤i+j)
   (Q:=λc st'=>(∃ g,st'=vV st g)∧((∃ m,c.1=Aa m∧Mo r (a.toList++b.toList) m)∨∃ o i' j' p q,c=(none,i',j',o,p,q)∧GH r a b o i' j'∧0<i'∧i'≤a.size∧1<j'∧j'≤b.size∧x+1+i'+j'<a.size+b.size)) ?_ ?_ ⟨⟨g,rfl⟩,o,i,j,0,0,rfl,G,hi,hi2,hj,hj2,by omega⟩) ?_)
  ·rintro y c st' _ hy ⟨⟨g,rfl⟩,o,i',j',p,q,rfl,G,hi,hi2,hj,hj2,hq⟩
   dsimp only;refine Aw (zI (i:=j'-1) (by omega) (Aw (zI (i:=i'-1) (by omega) (Aw (C.lt (ub _ (zT (i:=j'-1) (by omega))) (ua _ (zT (i:=i'-1) (by omega))) hk ?_)))))
   dsimp only;refine qR (λl=>?_) λl=>?_
   ·have l:r (b.getD (j'-1) nv)<r (a.getD (i'-1) nv):=by simpa using l
    have G2:=G.pa sb hi hi2 hj2 λ_=>Gr l;refine Aw (zI (i:=i'-1) (by omega) ?_)
    refine qR (λe=>Bl ⟨⟨g,rfl⟩,.inl ⟨_,rfl,G2.fin (.inl (by simpa using e))⟩⟩) λe=>?_
    have e:¬ i'-1=0:=by simpa using e
    exact qR (λ_=>Bl ⟨⟨g,rfl⟩,.inr ⟨_,_,_,_,_,rfl,G2,by omega,by omega,hj,hj2,by omega⟩⟩) λ_=>Bl ⟨⟨g,rfl⟩,_,_,_,_,_,rfl,G2,by omega,by omega,hj,hj2,by omega⟩
   ·have l:¬ r (b.getD (j'-1) nv)<r (a.getD (i'-1) nv):=by simpa using l
    have G2:=G.pb sa (by omega) hj2 hi2 λ_=>Wn.mp l
    refine Aw (zI (i:=j'-1) (by omega) ?_)
    refine qR (λe=>Bl ⟨⟨g,rfl⟩,.inl ⟨_,rfl,G2.first (by simpa using e) hb h0⟩⟩) λe=>?_
    have e:¬ j'-1=1:=by simpa using e
    exact qR (λ_=>Bl ⟨⟨g,rfl⟩,.inr ⟨_,_,_,_,_,rfl,G2,hi,hi2,by omega,by omega,by omega⟩⟩) λ_=>Bl ⟨⟨g,rfl⟩,_,_,_,_,_,rfl,G2,hi,hi2,by omega,by omega,by omega⟩
  ·rintro c st' ⟨z,o,i',j',p,q,rfl,G,hi,hi2,hj,hj2,hq⟩
   exact⟨z,.inr ⟨_,_,_,_,_,rfl,G,hi,hi2,hj,hj2,by omega⟩⟩
  ·rintro c st' ⟨⟨g,rfl⟩,⟨m,hc,hm⟩|⟨o,i',j',p,q,rfl,G,hi,hi2,hj,hj2,hq⟩⟩
   ·obtain⟨c0,c1⟩:=c
    cases hc;exact Bl ⟨⟨g,rfl⟩,m,rfl,hm⟩
   dsimp only;refine Aw (Oo (Hb ⟨rfl,?_⟩));refine Aw (Gn (Ew (I:=λy c st'=>(∃ g,st'=vV st g)∧∃ o i' j' p q t,c=(none,i',j',o,p,q,t)∧GH r a b o i' j'∧0<i'∧i'≤a.size∧1<j'∧j'≤b.size∧x+1+i'+j'<a.size+b.size)
    (Q:=λc st'=>(∃ g,st'=vV st g)∧((∃ m,c.1=Aa m∧Mo r (a.toList++b.toList) m)∨∃ o i' j' p q t,c=(none,i',j',o,p,q,t)∧GH r a b o i' j'∧0<i'∧i'≤a.size∧1<j'∧j'≤b.size∧x+1+i'+j'<a.size+b.size)) ?_ ?_ ⟨⟨g,rfl⟩,o,i',j',_,_,_,rfl,G,hi,hi2,hj,hj2,hq⟩) ?_)
   ·rintro y c st' _ hy ⟨⟨g,rfl⟩,o,i,j,p,q,t,rfl,G,hi,hi2,hj,hj2,hq⟩
    dsimp only;refine qR (λ_=>?_) λ_=>?_
    all_goals
     refine Aw (Hz ?_);refine Aw (zI (i:=j-1) (by omega) ?_)
     refine Aw (V2 C hk (by omega) (by omega) (λi hi=>ua _ (zT (by omega))) (ub _ (zT (i:=j-1) (by omega))) (λi j a b=>yL sa (by omega) (by omega)) λk k1 k2 k3=>?_)
     simp only[Mw] at k2 k3;dsimp only;apply qR
     case' h1 =>
      intro kp;have G2:=G.ea sb k1 hj2 λ_ m q1 q2 _=>Gr (k3 m q1 q2);refine qR (λe=>Bl ⟨⟨_,rfl⟩,.inl ⟨_,rfl,G2.fin (.inl (by simpa using e))⟩⟩) λe3=>?_
      have e3:¬ k=0:=by simpa using e3
      have hl:0<k:=by omega
      have hl2:k≤a.size:=by omega
      have hc:=k2 (k-1) (by omega)
      have hq:x+1+k+j<a.size+b.size:=by omega
     case' h2 =>
      intro kp;have G2:=G;have hl:=hi;have hl2:=hi2;have hc:=k2 (i-1) (by omega)
     all_goals
      refine Aw (zI (i:=j-1) (by omega) ?_)
      have G3:=G2.pb sa (by omega) hj2 hl2 λ_=>hc
      refine qR (λe=>Bl ⟨⟨_,rfl⟩,.inl ⟨_,rfl,G3.first (by simpa using e) hb h0⟩⟩) λe5=>?_
      have e5:¬ j-1=1:=by simpa using e5
      refine Aw (zI (Ba (Wo hl Vm) hl2) ?_);refine Aw (V3 C hk (by omega) (by omega) (λi hi=>ub _ (zT (by omega))) (ua _ (zT (Ba (Wo hl Vm) hl2))) (λi j a b=>yL sb (by omega) (by omega)) λm m1 m2 m3=>?_)
      simp only[Mw] at m2 m3;dsimp only;apply qR
      case' h1 =>
       intro mp;have G4:=G3.eb sa m1 hl2 λ_ m q1 q2 _=>m3 m q1 q2;refine qR (λe=>Bl ⟨⟨_,rfl⟩,.inl ⟨_,rfl,G4.first (by simpa using e) hb h0⟩⟩) λe6=>?_
       refine qR (λe=>Bl ⟨⟨_,rfl⟩,.inl ⟨_,rfl,G4.fin (.inr (by simpa using e))⟩⟩) λe7=>?_
       have e6:¬ m=1:=by simpa using e6
       have e7:¬ m=0:=by simpa using e7
       have hj4:1<m:=by omega
       have hj5:m≤b.size:=by omega
       have hc4:=Gr (m2 (m-1) (by omega))
      case' h2 =>
       intro mp;have G4:=G3;have hj4:1<j-1:=by omega
       have hj5:j-1≤b.size:=by omega
       have hc4:=Gr (m2 (j-1-1) (by omega))
      all_goals
       refine Aw (zI (Ba (Wo hl Vm) hl2) ?_);have G5:=G4.pa sb hl hl2 hj5 λ_=>hc4;refine qR (λe=>Bl ⟨⟨_,rfl⟩,.inl ⟨_,rfl,G5.fin (.inl (by simpa using e))⟩⟩) λe7=>?_
       simp only[Lh] at e7;exact qR (λ_=>Bl ⟨⟨_,rfl⟩,.inr ⟨_,_,_,_,_,_,rfl,G5,by omega,by omega,by omega,by omega,by omega⟩⟩) λ_=>Bl ⟨⟨_,rfl⟩,_,_,_,_,_,_,rfl,G5,by omega,by omega,by omega,by omega,by omega⟩
   ·rintro c st' ⟨z,o,i',j',p,q,t,rfl,G,hi,hi2,hj,hj2,hq⟩
    exact⟨z,.inr ⟨_,_,_,_,_,_,rfl,G,hi,hi2,hj,hj2,by omega⟩⟩
   ·rintro c st' ⟨⟨g,rfl⟩,⟨m,hc,hm⟩|⟨o,i',j',p,q,t,rfl,G,hi,hi2,hj,hj2,hq⟩⟩
    ·obtain⟨c0,c1⟩:=c
     cases hc;exact Bl ⟨⟨g,rfl⟩,m,rfl,hm⟩
    dsimp only;refine Aw (Hz ?_);exact Bl ⟨⟨_,rfl⟩,_,_,_,_,rfl,G,hi,hi2,hj,hj2,by omega⟩
 ·rintro c st' ⟨z,o,i',j',p,rfl,G,hi,hi2,hj,hj2,hq⟩
  exfalso
  omega
 ·rintro c st' ⟨⟨g,rfl⟩,m,hc,hm⟩
  obtain⟨c0,c1⟩:=c;cases hc;exact Bl (h m g hm)
end
def QN:∀ (l:Ab Bp) (arr:Av Bp) (o d:Ah),o+d+l.length≤arr.size→∀ k,((l.zipIdx d).foldl (λa p=>a.setIfInBounds (o+p.2) p.1) arr)[k]? = if o+d≤k∧k<o+d+l.length then l[k-(o+d)]? else arr[k]?
 |[],arr,o,d,h,k=>by
  rw[Bc (by simp only[Ia];omega)];rfl
 |x::l,arr,o,d,h,k=>by
  rw[Dh] at h;rw[OW,Vv,QN l _ o (d+1) (by rw[Array.size_setIfInBounds];omega) k,Dh]
  by_cases h1:k=o+d
  ·subst h1
   rw[Bc (by omega),Bg (by omega),Ts,Array.getElem?_setIfInBounds_self_of_lt (by omega)]
   rfl
  ·by_cases h2:o+(d+1)≤k∧k<o+(d+1)+l.length
   ·rw[Bg h2,Bg (by omega),show k-(o+d)=(k-(o+(d+1)))+1 by omega,Pg]
   ·rw[Bc h2,Bc (by omega),Array.getElem?_setIfInBounds_ne (by omega)]
def wb (arr:Av Bp)(o:Ah)(m:Av Bp):Av Bp:=m.toList.zipIdx.foldl (λa p=>a.setIfInBounds (o+p.2) p.1) arr
def FC {o:Ah}(h:o+m.size≤arr.size)(k:Ah):(wb arr o m).getD k nv=if o≤k∧k<o+m.size then m.getD (k-o) nv else arr.getD k nv:=by
 have e:=QN m.toList arr o 0 (by simpa using h) k
 simp only[Tt,Bh,Bf] at e;rw[Eo,Eo,Eo];unfold wb;rw[e]
 split <;> rfl
def FD {o:Ah}(h:o+m.size≤arr.size):(wb arr o m).toList=arr.toList.take o++(m.toList++arr.toList.drop (o+m.size)):=by
 apply Uq;intro k;have e:=QN m.toList arr o 0 (by simpa using h) k
 simp only[Tt,Bh,Bf] at e;unfold wb;rw[Bf,e];have lt:(arr.toList.take o).length=o:=by rw[Gt,Bh];omega
 by_cases h1:k<o
 ·rw[Bc (by omega),Bz (by omega),Kg h1,Bf]
 ·rw[Ci (by omega),lt]
  by_cases h2:k<o+m.size
  ·rw[Bg (by omega),Bz (by rw[Bh];omega),Bf]
  ·rw[Bc (by omega),Ci (by rw[Bh];omega),Tf,Bh,Bf]
   congr 1
   omega
def FE {o:Ah}(h:o+n≤arr.size)(p:m.toList.Perm (arr.extract o (o+n)).toList):(wb arr o m).toList.Perm arr.toList:=by
 have hm:m.size=n:=by
  have:=p.length_eq;rw[Bh,Bh,Hx] at this;omega
 rw[FD (by omega),hm]
 have e:arr.toList=arr.toList.take o++((arr.extract o (o+n)).toList++arr.toList.drop (o+n)):=by rw[fT,Lx]
 conv=>rhs;rw[e]
 exact Gv _ (IT _ p)
def Seg (r:Bp→Ai)(a:Av Bp)(lo n:Ah):Prop:=∀ i j,lo≤i→i≤j→j<lo+n→r (a.getD i nv)≤r (a.getD j nv)
def iP {r:Bp→Ai}{a:Av Bp}(h:Seg r a lo n){i k:Ah}(h1:lo≤i)(h2:i+k≤lo+n)(h3:i+k≤a.size):(a.extract i (i+k)).toList.Pairwise (Le r):=by
 rw[Ik];intro x y hx hy l;have hx':x<k:=by rw[Bh,Hx] at hx;omega
 have hy':y<k:=by rw[Bh,Hx] at hy;omega
 have e:=h (i+x) (i+y) (by omega) (by omega) (by omega)
 have q1:i+x<a.size:=by omega
 have q2:i+y<a.size:=by omega
 simpa [Fx,q1,q2,Le] using e
def rL {a:Av Bp}{i k m:Ah}(h:m<k)(h3:i+k≤a.size):(a.extract i (i+k)).getD m nv=a.getD (i+m) nv:=by
 have q1:i+m<a.size:=by omega
 have q2:m<(a.extract i (i+k)).size:=by rw[Hx];omega
 have q3:m<min (i+k) a.size-i:=by omega
 simp[Fx,q1,q3]
def YZ {a:Av Bp}{i j k:Ah}(h1:i≤j)(h2:j≤k):(a.extract i j).toList++(a.extract j k).toList=(a.extract i k).toList:=by
 rw[← Dn,Array.extract_append_extract]
 congr 2 <;> omega
section
variable {prog:Bd}{w:Bw}{A:Bt}{E:Ac→Ag→Prop}{s:Ag}{κ : Kc}{U:Bp→Prop}{r:Bp→Ai}
def FF {M:Ji}{σ:Type}{Q:PUnit→σ→Prop}{st st':σ}(h:Q ⟨⟩ st'):wpS M A E s (set st':Ss σ Jm PUnit) Q st:=by
 unfold wpS;rw[StateT.run_set];exact Am ⟨rfl,h⟩
def cU (C:Cm (As prog w) A s κ U r){i sa na pw nb pz:Ah}{Q:Ap→Fl→Prop}{arr:Av Bp}{pd:Av (Ah × Ah × Ah)}{g:Ah}(ua:∀ x∈arr.toList,U x)(e1:pd[i]? = Aa (sa,na,pw))(e2:pd[i+1]? = Aa (sa+na,nb,pz))(p1:0<na)(p2:0<nb)(hz:sa+na+nb≤arr.size)
  (s1:Seg r arr sa na) (s2:Seg r arr (sa+na) nb)
  (h:∀ arr' g,arr'.toList.Perm arr.toList→(∀ k,k<sa∨sa+na+nb≤k→arr'.getD k nv=arr.getD k nv)→Seg r arr' sa (na+nb)→Q true (Cz κ arr' ((pd.setIfInBounds i (sa,na+nb,pw)).eraseIdxIfInBounds (i+1)) g none)) :
  wpS (As prog w) A E s (mergeAt' i) Q (Cz κ arr pd g none):=by
 refine Aw (Ks ?_);dsimp only;rw[e1,e2];dsimp only;refine Aw (FF ?_);refine Aw (zI (i:=sa+na) (by omega) ?_)
 refine Aw (V2 C rfl (by omega) (by omega) (λi hi=>ua _ (zT (by omega))) (ua _ (zT (by omega))) (λi j a b=>s1 _ _ (by omega) (by omega) (by omega)) λk k1 k2 k3=>?_)
 dsimp only;refine qR (λe=>Bl (h arr g (Kv _) (λ_ _=>rfl) λi j a b c=>?_)) λe=>?_
 ·have e:na-k=0:=by simpa using e
  by_cases q1:j<sa+na
  ·exact s1 i j a b q1
  ·by_cases q2:sa+na≤i
   ·exact s2 i j q2 b (by omega)
   ·have:=k2 (i-sa) (by omega)
    rw[show sa+(i-sa)=i by omega] at this
    exact Fg this (s2 _ _ (Ax _) (by omega) (by omega))
 have e:¬ na-k=0:=by simpa using e
 refine Aw (zI (i:=sa+k+(na-k)-1) (by omega) ?_)
 refine Aw (V3 C rfl (by omega) (by omega) (λi hi=>ua _ (zT (by omega))) (ua _ (zT (by omega))) (λi j a b=>s2 _ _ (by omega) (by omega) (by omega)) λm m1 m2 m3=>?_)
 dsimp only;rw[show sa+k+(na-k)-1=sa+na-1 by omega] at m2 m3
 have hk3:=k3 k (Ax _) (by omega)
 refine qR (λe=>?_) λe'=>?_
 ·exfalso
  have e:m=0:=by simpa using e
  subst e;have q1:=m3 0 (Ax _) p2;have q2:=s1 (sa+k) (sa+na-1) (by omega) (by omega) (by omega)
  rw[Tt] at q1;omega
 have e':¬ m=0:=by simpa using e'
 have ex:arr.extract (sa+k) (sa+na)=arr.extract (sa+k) (sa+k+(na-k)):=by rw[show sa+k+(na-k)=sa+na by omega]
 have zx:(arr.extract (sa+k) (sa+na)).size=na-k:=by rw[Hx];omega
 have zy:(arr.extract (sa+na) (sa+na+m)).size=m:=by rw[Hx];omega
 have gx:∀ i,i<na-k→(arr.extract (sa+k) (sa+na)).getD i nv=arr.getD (sa+k+i) nv:=λi hi=>by rw[ex];exact rL hi (by omega)
 have gy:∀ i,i<m→(arr.extract (sa+na) (sa+na+m)).getD i nv=arr.getD (sa+na+i) nv:=λi hi=>rL hi (by omega)
 have px:(arr.extract (sa+k) (sa+na)).toList.Pairwise (Le r):=by rw[ex];exact iP s1 (by omega) (by omega) (by omega)
 have py:(arr.extract (sa+na) (sa+na+m)).toList.Pairwise (Le r):=iP s2 (by omega) (by omega) (by omega)
 have mx:∀ x∈(arr.extract (sa+k) (sa+na)).toList,∃ j,sa+k≤j∧j<sa+na∧x=arr.getD j nv:=λx hx=>by
  obtain⟨j,q1,q2,q3,q4⟩:=p7 (by omega) hx
  exact⟨j,q1,q2,q4⟩
 have my:∀ x∈(arr.extract (sa+na) (sa+na+m)).toList,∃ j,sa+na≤j∧j<sa+na+m∧x=arr.getD j nv:=λx hx=>by
  obtain⟨j,q1,q2,q3,q4⟩:=p7 (by omega) hx
  exact⟨j,q1,q2,q4⟩
 have lox:∀ x∈(arr.extract (sa+k) (sa+na)).toList,r (arr.getD (sa+na) nv)≤r x∧r x≤r (arr.getD (sa+na-1) nv):=λx hx=>by
  obtain⟨j,q1,q2,rfl⟩:=mx x hx;have:=s1 (sa+k) j (by omega) q1 q2
  exact⟨by omega,s1 j _ (by omega) (by omega) (by omega)⟩
 have loy:∀ x∈(arr.extract (sa+na) (sa+na+m)).toList,r (arr.getD (sa+na) nv)≤r x∧r x≤r (arr.getD (sa+na-1) nv):=λx hx=>by
  obtain⟨j,q1,q2,rfl⟩:=my x hx;have:=m2 (j-(sa+na)) (by omega)
  rw[show sa+na+(j-(sa+na))=j by omega] at this
  exact⟨s2 _ _ (Ax _) q1 (by omega),by omega⟩
 have fin:∀ mg g',Mo r ((arr.extract (sa+k) (sa+na)).toList++(arr.extract (sa+na) (sa+na+m)).toList) mg→Q true (Cz κ (wb arr (sa+k) mg) ((pd.setIfInBounds i (sa,na+nb,pw)).eraseIdxIfInBounds (i+1)) g' none):=by
  intro mg g' M;have ej:(arr.extract (sa+k) (sa+na)).toList++(arr.extract (sa+na) (sa+na+m)).toList=(arr.extract (sa+k) (sa+k+(na-k+m))).toList:=by
   rw[YZ (by omega) (by omega),show sa+k+(na-k+m)=sa+na+m by omega]
  have hm:mg.size=na-k+m:=by
   have:=M.pm.length_eq;rw[Df,Bh,Bh,Bh,zx,zy] at this;exact this
  have gd:=λj=>FC (arr:=arr) (m:=mg) (o:=sa+k) (by omega) j
  refine h _ g' (FE (n:=na-k+m) (by omega) (ej▸M.pm)) (λj hj=>?_) λi j a b c=>?_
  ·rw[gd,Bc (by omega)]
  ·have bd:∀ j,sa+k≤j→j<sa+na+m→r (arr.getD (sa+na) nv)≤r (mg.getD (j-(sa+k)) nv)∧r (mg.getD (j-(sa+k)) nv)≤r (arr.getD (sa+na-1) nv):=λj h1 h2=>by
    have:=M.pm.mem_iff.mp (zT (a:=mg) (i:=j-(sa+k)) (by omega))
    rcases Cp.mp this with q|q
    ·exact lox _ q
    ·exact loy _ q
   rw[gd,gd,hm];by_cases i1:i<sa+k
   ·rw[Bc (by omega)]
    have u:=k2 (i-sa) (by omega)
    rw[show sa+(i-sa)=i by omega] at u
    by_cases j1:j<sa+k
    ·rw[Bc (by omega)];exact s1 i j a b (by omega)
    ·by_cases j2:j<sa+na+m
     ·rw[Bg (by omega)];exact Fg u (bd j (by omega) j2).1
     ·rw[Bc (by omega)];exact Fg u (s2 _ _ (Ax _) (by omega) (by omega))
   ·by_cases i2:i<sa+na+m
    ·rw[Bg (by omega)]
     by_cases j2:j<sa+na+m
     ·rw[Bg (by omega)];exact yL M.up (by omega) (by omega)
     ·rw[Bc (by omega)]
      have v:=m3 (j-(sa+na)) (by omega) (by omega)
      rw[show sa+na+(j-(sa+na))=j by omega] at v
      exact Fg (bd i (by omega) i2).2 v
    ·rw[Bc (by omega),Bc (by omega)]
     exact s2 i j (by omega) b (by omega)
 have ux:∀ x∈(arr.extract (sa+k) (sa+na)).toList,U x:=λx hx=>by obtain⟨j,q1,q2,rfl⟩:=mx x hx;exact ua _ (zT (by omega))
 have uy:∀ x∈(arr.extract (sa+na) (sa+na+m)).toList,U x:=λx hx=>by obtain⟨j,q1,q2,rfl⟩:=my x hx;exact ua _ (zT (by omega))
 have y0:(arr.extract (sa+na) (sa+na+m)).getD 0 nv=arr.getD (sa+na) nv:=gy 0 (by omega)
 have xl:(arr.extract (sa+k) (sa+na)).getD ((arr.extract (sa+k) (sa+na)).size-1) nv=arr.getD (sa+na-1) nv:=by rw[zx,gx _ (by omega)];congr 1;omega
 refine qR (λ_=>?_) λ_=>?_
 ·refine Aw (cW C rfl ux uy px py (λmg g' M=>?_) (by rw[zx];omega) (by rw[zy];omega) ?_ λx hx=>?_)
  ·refine Aw (Hz (Aw (Ks (Bl ?_))))
   exact fin mg g' M
  ·rw[y0];exact(lox _ (zT (by rw[zx];omega))).1
  ·rw[xl];exact(loy x hx).2
 ·refine Aw (cV C rfl ux uy px py (λmg g' M=>?_) (by rw[zx];omega) (by rw[zy];omega) (λx hx=>?_) ?_)
  ·refine Aw (Hz (Aw (Ks (Bl ?_))))
   exact fin mg g' M
  ·rw[y0];exact(lox x hx).1
  ·rw[xl];exact(loy _ (zT (by rw[zy];omega))).2
end
def mir (a:Av Bp)(i j:Ah):Av Bp:=mirror a i j ((j-i)/2)
def yH {a:Av Bp}{i j:Ah}(hj:j≤a.size)(k:Ah):(mir a i j).getD k nv=if i≤k∧k<j then a.getD (i+j-1-k) nv else a.getD k nv:=by
 rw[Eo,Eo,Eo];unfold mir;rw[getElem?_mirror_all hj]
 split <;> rfl
structure Cr (a b:Av Bp)(lo n:Ah):Prop where
 pm:b.toList.Perm a.toList
 out:∀ k,k<lo∨lo+n≤k→b.getD k nv=a.getD k nv
def Cr.z {a b:Av Bp}(h:Cr a b lo n):b.size=a.size:=by
 have:=h.pm.length_eq;simpa using this
def Cr.rfl' {a:Av Bp}:Cr a a lo n:=⟨Kv _,λ_ _=>rfl⟩
def Cr.mir {a b:Av Bp}{i j:Ah}(h:Cr a b lo n)(h1:lo≤i)(h2:j≤lo+n)(h3:j≤a.size):Cr a (mir b i j) lo n:=
 ⟨(Oh.mp (mirror_perm _ _ _ _)).trans h.pm,λk hk=>by rw[yH (by rw[h.z];exact h3),Bc (by omega)];exact h.out k hk⟩
def Dsg (r:Bp→Ai)(a:Av Bp)(lo n:Ah):Prop:=∀ i j,lo≤i→i≤j→j<lo+n→r (a.getD j nv)≤r (a.getD i nv)
def UI {r:Bp→Ai}{a:Av Bp}(h:Seg r a lo n)(h1:1≤n)(l:r (a.getD (lo+n-1) nv)≤r (a.getD (lo+n) nv)):Seg r a lo (n+1):=λi j h2 h3 h4=>by
 by_cases q:j<lo+n
 ·exact h i j h2 h3 q
 ·have:j=lo+n:=by omega
  subst this;by_cases q2:i=lo+n
  ·subst q2;exact Lw _
  ·exact Fg (h i (lo+n-1) h2 (by omega) (by omega)) l
def jD {r:Bp→Ai}{a:Av Bp}(h:Dsg r a lo n)(h1:1≤n)(l:r (a.getD (lo+n) nv)≤r (a.getD (lo+n-1) nv)):Dsg r a lo (n+1):=λi j h2 h3 h4=>by
 by_cases q:j<lo+n
 ·exact h i j h2 h3 q
 ·have:j=lo+n:=by omega
  subst this;by_cases q2:i=lo+n
  ·subst q2;exact Lw _
  ·exact Fg l (h i (lo+n-1) h2 (by omega) (by omega))
def iQ {r:Bp→Ai}{a:Av Bp}:Seg r a lo 1:=λi j h2 h3 h4=>by
 have:i=j:=by omega
 subst this;exact Lw _
def GA {r:Bp→Ai}{a:Av Bp}:Dsg r a lo 1:=λi j h2 h3 h4=>by
 have:i=j:=by omega
 subst this;exact Lw _
def WW (r:Bp→Ai)(a:Av Bp)(lo n q:Ah):Prop:=q+1≤n∧∀ k,lo+n-(q+1)≤k→k<lo+n→r (a.getD k nv)=r (a.getD (lo+n-1) nv)
set_option tactic.hygienic true in
def gP {r:Bp→Ai}{a:Av Bp}{q:Ah}(hn:lo+n≤a.size)(h:WW r a lo n q)(k:Ah):r ((mir a (lo+n-(q+1)) (lo+n)).getD k nv)=r (a.getD k nv):=by
 rw[yH hn];have:=h.1
 split
 ·rename_i c
  rw[h.2 k (by omega) c.2,h.2 _ (by omega) (by omega)]
 ·rfl
def G9 {r:Bp→Ai}{a:Av Bp}(hn:lo+n≤a.size)(h:Dsg r a lo n):Seg r (mir a lo (lo+n)) lo n:=λi j h2 h3 h4=>by
 rw[yH hn,yH hn,Bg (by omega),Bg (by omega)]
 exact h _ _ (by omega) (by omega) (by omega)
section
variable {prog:Bd}{w:Bw}{A:Bt}{E:Ac→Ag→Prop}{s:Ag}{κ : Kc}{U:Bp→Prop}{r:Bp→Ai}
def gE (C:Cm (As prog w) A s κ U r){i j:Ah}{arr:Av Bp}{pd:Av (Ah × Ah × Ah)}{g:Ah}{Q:Al Ap→Fl→Prop}(ua:∀ x∈arr.toList,U x)(hi:i<arr.size)(hj:j<arr.size)
  (q:Q (Aa (decide (r (arr.getD i nv)<r (arr.getD j nv)))) (Cz κ arr pd g none)):wpS (As prog w) A E s (ltAt' i j) Q (Cz κ arr pd g none):=by
 refine Aw (Ks ?_);exact Aw (zI hi (Aw (zI hj (C.lt (ua _ (zT hi)) (ua _ (zT hj)) rfl q))))
def fE {i j:Ah}{pd:Av (Ah × Ah × Ah)}{g:Ah}{Q:PUnit→Fl→Prop}(q:Q ⟨⟩ (Cz κ (mir arr i j) pd g none)):wpS (As prog w) A E s (reverseSlice' i j) Q (Cz κ arr pd g none):=Hz q
def dY (C:Cm (As prog w) A s κ U r){lo N:Ah}{arr:Av Bp}{pd:Av (Ah × Ah × Ah)}{g:Ah}{Q:Al Ah→Fl→Prop}(ua:∀ x∈arr.toList,U x)(h1:1≤N)(hz:lo+N≤arr.size)
  (h:∀ n b,1≤n→n≤N→Cr arr b lo N→Seg r b lo n→Q (Aa n) (Cz κ b pd g none)):wpS (As prog w) A E s (countRun' lo N) Q (Cz κ arr pd g none):=by
 have uc:∀ {b:Av Bp},Cr arr b lo N→∀ x∈b.toList,U x:=λh x hx=>ua x (h.pm.mem_iff.mp hx);have asc:∀ {b:Av Bp} {n:Ah} {f:Ah→Al (Al Ah) × Ah→Ss Fl Jm (ForInStep (Al (Al Ah) × Ah))},Cr arr b lo N→1≤n→n≤N→Seg r b lo n →
   (∀ x m,f x (none,m)=(ltAt' (lo+m) (lo+m-1) >>= λo=>match o with
    |some z=>if z then pure (.done (none,m)) else pure (.yield (none,m+1))
    |_=>pure (.done (Aa none,m))))→wpS (As prog w) A E s (forIn [n:N] (none,n) f) (λc st'=>st'=Cz κ b pd g none∧∃ m,c=(none,m)∧n≤m∧m≤N∧Seg r b lo m∧(m=N∨r (b.getD (lo+m) nv)<r (b.getD (lo+m-1) nv))) (Cz κ b pd g none):=by
  intro b n f cr hn hN sg hf;have zb:=cr.z;refine Ew (I:=λx c st'=>st'=Cz κ b pd g none∧c=(none,x)∧n≤x∧Seg r b lo x) ?_ ?_ ⟨rfl,rfl,Ax _,sg⟩
  ·rintro x c st' hx1 hx ⟨rfl,rfl,hx3,sg⟩
   rw[hf];refine Aw (gE C (uc cr) (by omega) (by omega) ?_)
   by_cases l:r (b.getD (lo+x) nv)<r (b.getD (lo+x-1) nv)
   ·simp only[l,IB,Dc]
    exact Bl ⟨rfl,x,rfl,hx1,by omega,sg,.inr l⟩
   ·simp only[l,IG,Bq,Dw]
    exact Bl ⟨rfl,rfl,by omega,UI sg (by omega) (by omega)⟩
  ·rintro c st' ⟨rfl,rfl,hx3,sg⟩
   rw[show max n N=N by omega] at sg ⊢
   exact⟨rfl,N,rfl,hN,Ax _,sg,.inl rfl⟩
 refine Aw (Gn (asc Cr.rfl' (Ax 1) h1 iQ λ_ _=>rfl) ?_);rintro c st' ⟨rfl,n,rfl,n1,n2,sg,nd⟩;dsimp only;refine qR (λe=>Bl (h n arr n1 n2 Cr.rfl' sg)) λe=>?_;have e:¬ n=N:=by simpa using e
 have nd:r (arr.getD (lo+n) nv)<r (arr.getD (lo+n-1) nv):=by omega
 apply qR
 case' h1 =>
  intro np;refine Aw (gE C ua (by omega) (by omega) ?_)
  dsimp only;refine qR (λe=>Bl (h n arr n1 n2 Cr.rfl' sg)) λl=>?_;have l:¬ r (arr.getD lo nv)<r (arr.getD (lo+n-1) nv):=by simpa using l
  refine Aw (fE ?_);have cr:Cr arr (mir arr lo (lo+n)) lo N:=Cr.rfl'.mir (Ax _) (by omega) (by omega)
  have ds:Dsg r (mir arr lo (lo+n)) lo (n+1):=by
   refine jD (λi j a b c=>?_) n1 ?_
   ·rw[yH (by omega),yH (by omega),Bg (by omega),Bg (by omega)]
    exact sg _ _ (by omega) (by omega) (by omega)
   ·rw[yH (by omega),yH (by omega),Bc (by omega),Bg (by omega),show lo+(lo+n)-1-(lo+n-1)=lo by omega]
    omega
 case' h2 =>
  intro np;have cr:Cr arr arr lo N:=Cr.rfl';have ds:Dsg r arr lo (n+1):=by
   have:n=1:=by omega
   subst this;exact jD GA (Ax _) (Gr nd)
 all_goals
  refine Aw (Oo (Hb ⟨rfl,?_⟩));refine Aw (Gn (Ew (I:=λx c st'=>∃ b q,st'=Cz κ b pd g none∧c=(none,x,q)∧Cr arr b lo N∧Dsg r b lo x∧WW r b lo x q)
   (Q:=λc st'=>∃ b m q,st'=Cz κ b pd g none∧c=(none,m,q)∧1≤m∧m≤N∧Cr arr b lo N∧Dsg r b lo m∧WW r b lo m q) ?_ ?_ ⟨_,0,rfl,rfl,cr,ds,by omega,λk a b=>by rw[show k=lo+(n+1)-1 by omega]⟩) ?_)
  ·rintro x c st' hx1 hx ⟨b,q,rfl,rfl,cr,ds,eq⟩
   dsimp only;have zb:=cr.z;refine Aw (gE C (uc cr) (by omega) (by omega) ?_)
   dsimp only;refine qR (λl=>?_) λl=>?_
   ·have l:r (b.getD (lo+x) nv)<r (b.getD (lo+x-1) nv):=by simpa using l
    refine qR (λqp=>Aw (fE (Bl ⟨_,0,rfl,rfl,cr.mir (by have:=eq.1;omega) (by omega) (by omega),λi j a c d=>?_,by omega,λk a b=>by rw[show k=lo+(x+1)-1 by omega]⟩))) λqp=>Bl ⟨_,0,rfl,rfl,cr,jD ds (by omega) (Gr l),by omega,λk a b=>by rw[show k=lo+(x+1)-1 by omega]⟩
    rw[gP (by omega) eq,gP (by omega) eq]
    exact jD ds (by omega) (Gr l) i j a c d
   ·have l:¬ r (b.getD (lo+x) nv)<r (b.getD (lo+x-1) nv):=by simpa using l
    refine Aw (gE C (uc cr) (by omega) (by omega) ?_)
    dsimp only;refine qR (λl2=>Bl ⟨b,x,q,rfl,rfl,by omega,by omega,cr,ds,eq⟩) λl2=>?_
    have l2:¬ r (b.getD (lo+x-1) nv)<r (b.getD (lo+x) nv):=by simpa using l2
    have ee:r (b.getD (lo+x) nv)=r (b.getD (lo+x-1) nv):=by omega
    refine Bl ⟨b,q+1,rfl,rfl,cr,jD ds (by omega) (by omega),by have:=eq.1;omega,λk a c=>?_⟩
    rw[show lo+(x+1)-1=lo+x by omega]
    by_cases kx:k=lo+x
    ·rw[kx]
    ·rw[ee];exact eq.2 k (by omega) (by omega)
  ·rintro c st' ⟨b,q,rfl,rfl,cr,ds,eq⟩
   rw[show max (n+1) N=N by omega] at ds eq ⊢
   exact⟨b,N,q,rfl,rfl,h1,Ax _,cr,ds,eq⟩
  ·rintro c st' ⟨b,m,q,rfl,rfl,m1,m2,cr,ds,eq⟩
   dsimp only;have zb:=cr.z;apply qR
   case' h1 =>
    intro qp;refine Aw (fE ?_);have cr2:=cr.mir (i:=lo+m-(q+1)) (j:=lo+m) (by have:=eq.1;omega) (by omega) (by omega)
    have ds2:Dsg r (mir b (lo+m-(q+1)) (lo+m)) lo m:=λi j a c d=>by
     rw[gP (by omega) eq,gP (by omega) eq]
     exact ds i j a c d
   case' h2 =>
    intro qp;have cr2:=cr;have ds2:=ds
   all_goals
    have z2:=cr2.z;refine Aw (fE ?_);refine Aw (Gn (asc (cr2.mir (Ax _) (by omega) (by omega)) m1 m2 (G9 (by omega) ds2) λ_ _=>rfl) ?_)
    rintro c st' ⟨rfl,n',rfl,q1,q2,q3,_⟩;exact Bl (h n' _ (by omega) q2 (cr2.mir (Ax _) (by omega) (by omega)) q3)
end
def sV {a:Av Bp}{src d:Ah}(hs:src<a.size)(hd:d≤src)(k:Ah):(bubble a src d).getD k nv=if k=src-d then a.getD src nv else if src-d<k∧k≤src then a.getD (k-1) nv else a.getD k nv:=by
 simp only[Eo];rw[getElem?_bubble hs d hd]
 repeat' split
 all_goals rfl
section
variable {prog:Bd}{w:Bw}{A:Bt}{E:Ac→Ag→Prop}{s:Ag}{κ : Kc}{U:Bp→Prop}{r:Bp→Ai}
def cJ (C:Cm (As prog w) A s κ U r){lo n ok:Ah}{arr:Av Bp}{pd:Av (Ah × Ah × Ah)}{g:Ah}{Q:Ap→Fl→Prop}(ua:∀ x∈arr.toList,U x)(h1:ok≤n)(hz:lo+n≤arr.size)(sg:Seg r arr lo ok)
  (h:∀ b,Cr arr b lo n→Seg r b lo n→Q true (Cz κ b pd g none)):wpS (As prog w) A E s (binarySort' lo n ok) Q (Cz κ arr pd g none):=by
 have uc:∀ {b:Av Bp},Cr arr b lo n→∀ x∈b.toList,U x:=λh x hx=>ua x (h.pm.mem_iff.mp hx);have sg1:Seg r arr lo (max ok 1):=by
  by_cases q:ok=0
  ·rw[q];exact iQ
  ·rw[show max ok 1=ok by omega];exact sg
 refine Aw (Gn (Ew (I:=λk c st'=>c=(none,())∧∃ b,st'=Cz κ b pd g none∧Cr arr b lo n∧Seg r b lo (min k (max ok (max n 1))))
  (Q:=λc st'=>c=(none,())∧∃ b,st'=Cz κ b pd g none∧Cr arr b lo n∧Seg r b lo n) ?_ ?_ ⟨rfl,arr,rfl,Cr.rfl',?_⟩) ?_)
 ·rintro k c st' hk hkn ⟨rfl,b,rfl,cr,sg⟩
  have zb:=cr.z;rw[show min k (max ok (max n 1))=k by omega] at sg
  dsimp only;refine Aw (Gn (Ew (I:=λx c st'=>st'=Cz κ b pd g none∧∃ l u,c=(none,l,u)∧l≤u∧u≤k∧u-l≤k-x∧(∀ i,i<l→r (b.getD (lo+i) nv)≤r (b.getD (lo+k) nv))∧∀ i,u≤i→i<k→r (b.getD (lo+k) nv)<r (b.getD (lo+i) nv))
   (Q:=λc st'=>st'=Cz κ b pd g none∧∃ l u,c=(none,l,u)∧l≤k∧(∀ i,i<l→r (b.getD (lo+i) nv)≤r (b.getD (lo+k) nv))∧∀ i,l≤i→i<k→r (b.getD (lo+k) nv)<r (b.getD (lo+i) nv)) ?_ ?_
   ⟨rfl,0,k,rfl,by omega,by omega,by omega,λi hi=>by omega,λi a b=>by omega⟩) ?_)
  ·rintro x c st' _ hx ⟨rfl,l,u,rfl,q1,q2,q3,q4,q5⟩
   dsimp only;refine qR (λe=>Bl ⟨rfl,l,u,rfl,by omega,q4,λi a b=>q5 i (by omega) b⟩) λe=>?_
   refine Aw (gE C (uc cr) (by omega) (by omega) ?_)
   dsimp only;refine qR (λz=>?_) λz=>?_
   ·have z:r (b.getD (lo+k) nv)<r (b.getD (lo+(l+u)/2) nv):=by simpa using z
    exact Bl ⟨rfl,_,_,rfl,by omega,by omega,by omega,q4,λi a c=>Int.lt_of_lt_of_le z (sg _ _ (by omega) (by omega) (by omega))⟩
   ·have z:¬ r (b.getD (lo+k) nv)<r (b.getD (lo+(l+u)/2) nv):=by simpa using z
    exact Bl ⟨rfl,_,_,rfl,by omega,by omega,by omega,λi a=>Fg (sg _ _ (by omega) (by omega) (by omega)) (Wn.mp z),q5⟩
  ·rintro c st' ⟨rfl,l,u,rfl,q1,q2,q3,q4,q5⟩
   exact⟨rfl,l,u,rfl,by omega,q4,λi a b=>q5 i (by omega) b⟩
  ·rintro c st' ⟨rfl,l,u,rfl,q1,q4,q5⟩
   dsimp only;refine Aw (Hz (Bl ⟨rfl,_,rfl,⟨(Oh.mp (bubble_perm _ _ _)).trans cr.pm,λj hj=>?_⟩,?_⟩))
   ·show (bubble b (lo+k) (lo+k-(lo+l))).getD j nv=_
    rw[sV (by omega) (by omega),Bc (by omega),Bc (by omega)]
    exact cr.out j hj
   ·rw[show min (k+1) (max ok (max n 1))=k+1 by omega]
    have e:∀ j,(bubble b (lo+k) (lo+k-(lo+l))).getD j nv=if j=lo+l then b.getD (lo+k) nv else if lo+l<j∧j≤lo+k then b.getD (j-1) nv else b.getD j nv:=λj=>by
     rw[sV (by omega) (by omega),show lo+k-(lo+k-(lo+l))=lo+l by omega]
    intro i j a c d;show r ((bubble b (lo+k) (lo+k-(lo+l))).getD i nv)≤r ((bubble b (lo+k) (lo+k-(lo+l))).getD j nv);rw[e,e];by_cases i1:i<lo+l
    ·rw[Bc (by omega),Bc (by omega)]
     have u1:=q4 (i-lo) (by omega)
     rw[show lo+(i-lo)=i by omega] at u1
     by_cases j1:j<lo+l
     ·rw[Bc (by omega),Bc (by omega)];exact sg i j a c (by omega)
     ·by_cases j2:j=lo+l
      ·rw[Bg j2];exact u1
      ·rw[Bc j2,Bg (by omega)];exact sg _ _ a (by omega) (by omega)
    ·by_cases i2:i=lo+l
     ·rw[Bg i2]
      by_cases j2:j=lo+l
      ·rw[Bg j2];exact Lw _
      ·rw[Bc j2,Bg (by omega)]
       have:=q5 (j-1-lo) (by omega) (by omega)
       rw[show lo+(j-1-lo)=j-1 by omega] at this
       exact Gr this
     ·rw[Bc i2,Bg (by omega),Bc (by omega),Bg (by omega)]
      exact sg _ _ (by omega) (by omega) (by omega)
 ·rintro c st' ⟨rfl,b,rfl,cr,sg⟩
  refine⟨rfl,b,rfl,cr,?_⟩;intro i j a c d;exact sg i j a c (by omega)
 ·rw[show min (max ok 1) (max ok (max n 1))=max ok 1 by omega];exact sg1
 ·rintro c st' ⟨rfl,b,rfl,cr,sg⟩
  exact Bl (h b cr sg)
end
def Rn (r:Bp→Ai)(a:Av Bp):Ab (Ah × Ah × Ah)→Ah→Ah→Prop
 |[],x,y=>x=y
 |(s,n,_)::t,x,y=>s=x∧0<n∧Seg r a s n∧Rn r a t (x+n) y
section
variable {r:Bp→Ai}{a b:Av Bp}
def Rn.app:∀ {L1 L2:Ab (Ah × Ah × Ah)} {x y:Ah},Rn r a (L1++L2) x y↔∃ m,Rn r a L1 x m∧Rn r a L2 m y
 |[],L2,x,y=>⟨λh=>⟨x,rfl,h⟩,λ⟨m,h1,h2⟩=>by cases h1;exact h2⟩
 |(s,n,p)::t,L2,x,y=>by
  show s=x∧0<n∧Seg r a s n∧Rn r a (t++L2) (x+n) y↔∃ m,(s=x∧0<n∧Seg r a s n∧Rn r a t (x+n) m)∧Rn r a L2 m y;rw[Rn.app];exact⟨λ⟨h1,h2,h3,m,h4,h5⟩=>⟨m,⟨h1,h2,h3,h4⟩,h5⟩,λ⟨m,⟨h1,h2,h3,h4⟩,h5⟩=>⟨h1,h2,h3,m,h4,h5⟩⟩
def Rn.le:∀ {L:Ab (Ah × Ah × Ah)} {x y:Ah},Rn r a L x y→x+L.length≤y
 |[],x,y,h=>by cases h;simp
 |(s,n,p)::t,x,y,h=>by have:=Rn.le h.2.2.2;have:=h.2.1;simp only[Dh];omega
def Rn.congr:∀ {L:Ab (Ah × Ah × Ah)} {x y:Ah},Rn r a L x y→(∀ k,x≤k→k<y→b.getD k nv=a.getD k nv)→Rn r b L x y
 |[],x,y,h,_=>h
 |(s,n,p)::t,x,y,h,e=>by
  obtain⟨rfl,h2,h3,h4⟩:=h;have l:=Rn.le h4;refine⟨rfl,h2,λi j a c d=>?_,Rn.congr h4 λk h1 h2=>e k (by omega) h2⟩
  rw[e i (by omega) (by omega),e j (by omega) (by omega)]
  exact h3 i j a c d
def Rn.mod {f:Ah × Ah × Ah→Ah × Ah × Ah}(hf:∀ u v p,∃ p',f (u,v,p)=(u,v,p')):∀ {L:Ab (Ah × Ah × Ah)} {i x y:Ah},Rn r a L x y→Rn r a (L.modify i f) x y
 |[],i,x,y,h=>by simpa using h
 |(s,n,p)::t,0,x,y,h=>by
  obtain⟨p',e⟩:=hf s n p;rw[List.modify_zero_cons,e];exact h
 |(s,n,p)::t,i+1,x,y,h=>by
  rw[List.modify_succ_cons];exact⟨h.1,h.2.1,h.2.2.1,Rn.mod hf h.2.2.2⟩
end
def SM {α:Type}{l:Ab α}{i:Ah}(h:i+1<l.length):∃ L1 x y L2,l=L1++x::y::L2∧L1.length=i:=by
 refine⟨l.take i,l[i],l[i+1],l.drop (i+2),?_,by rw[Gt];omega⟩
 rw[← Gu h,← Gu (by omega),Lx]
section
variable {prog:Bd}{w:Bw}{A:Bt}{E:Ac→Ag→Prop}{s:Ag}{κ : Kc}{U:Bp→Prop}{r:Bp→Ai}
def t8 (C:Cm (As prog w) A s κ U r){i e:Ah}{Q:Ap→Fl→Prop}{arr:Av Bp}{pd:Av (Ah × Ah × Ah)}{g:Ah}(ua:∀ x∈arr.toList,U x)(hi:i+1<pd.size)(R:Rn r arr pd.toList 0 e)(he:e≤arr.size)
  (h:∀ b pd' g,b.toList.Perm arr.toList→(∀ k,e≤k→b.getD k nv=arr.getD k nv)→Rn r b pd'.toList 0 e→pd'.size+1=pd.size→Q true (Cz κ b pd' g none)):wpS (As prog w) A E s (mergeAt' i) Q (Cz κ arr pd g none):=by
 obtain⟨L1,⟨sa,na,pa⟩,⟨sb,nb,pb⟩,L2,el,hl⟩:=SM (l:=pd.toList) (i:=i) (by simpa using hi)
 rw[el] at R;obtain⟨m,R1,rfl,p1,s1,rfl,p2,s2,R2⟩:=Rn.app.mp R;have l2:=Rn.le R2;have e1:pd[i]? = Aa (sa,na,pa):=by
  rw[← Bf,el,← hl,Ci (Ax _),Ts];rfl
 have e2:pd[i+1]? = Aa (sa+na,nb,pb):=by
  rw[← Bf,el,← hl,Ci (by omega),IH];rfl
 refine cU C ua e1 e2 p1 p2 (by omega) s1 s2 λb g pm out sg=>?_
 have ep:((pd.setIfInBounds i (sa,na+nb,pa)).eraseIdxIfInBounds (i+1)).toList=L1++(sa,na+nb,pa)::L2:=by
  rw[Array.toList_eraseIdxIfInBounds,Array.toList_setIfInBounds,el,← hl,List.set_append_right _ _ (Ax _),Ts,Ay,List.eraseIdx_append_of_length_le (by omega),IH]
  rfl
 refine h b _ g pm (λk hk=>out k (by omega)) ?_ ?_
 ·rw[ep]
  refine Rn.app.mpr ⟨sa,R1.congr λk _ hk=>out k (by omega),rfl,by omega,sg,?_⟩
  rw[← Xh];exact R2.congr λk hk _=>out k (by omega)
 ·have:=congrArg Uz ep
  have q:=congrArg Uz el;simp only[Bh,Df,Dh] at this q;omega
def dZ (C:Cm (As prog w) A s κ U r){Q:OO→Fl→Prop}{arr:Av Bp}{g:Ah}(ua:∀ x∈arr.toList,U x)(h2:0<arr.size)
  (h:∀ b pd g,b.toList.Perm arr.toList→b.toList.Pairwise (Le r)→Q () (Cz κ b pd g none)):wpS (As prog w) A E s sortRuns' Q (Cz κ arr #[] g none):=by
 have uc:∀ {b:Av Bp},b.toList.Perm arr.toList→∀ x∈b.toList,U x:=λh x hx=>ua x (h.mem_iff.mp hx);have zc:∀ {b:Av Bp},b.toList.Perm arr.toList→b.size=arr.size:=λh=>by simpa using h.length_eq
 refine Aw (Ks ?_);dsimp only;refine Aw (Gn (Ew (I:=λx c st'=>∃ b pd g lo,st'=Cz κ b pd g none∧c=(none,lo)∧b.toList.Perm arr.toList∧lo≤arr.size∧min x arr.size≤lo∧Rn r b pd.toList 0 lo)
  (Q:=λc st'=>∃ b pd g,st'=Cz κ b pd g none∧c=(none,arr.size)∧b.toList.Perm arr.toList∧Rn r b pd.toList 0 arr.size) ?_ ?_ ⟨arr,#[],g,0,rfl,rfl,Kv _,by omega,by omega,rfl⟩) ?_)
 ·rintro x c st' _ hx ⟨b,pd,g,lo,rfl,rfl,pm,lo1,lo2,R⟩
  have zb:=zc pm;dsimp only;refine qR (λe=>Bl ⟨b,pd,g,rfl,by rw[show lo=arr.size by omega],pm,by rw[show arr.size=lo by omega];exact R⟩) λe=>?_
  refine Aw (dY C (uc pm) (by omega) (by omega) λn b2 n1 n2 cr sg=>?_)
  have R2:Rn r b2 pd.toList 0 lo:=R.congr λk _ hk=>cr.out k (.inl hk);have pm2:=cr.pm.trans pm;have z2:=zc pm2;dsimp only;apply qR
  case' h1 =>
   intro lt;refine Aw (Oo (Hb ⟨rfl,?_⟩));refine Aw (cJ C (uc pm2) (by omega) (by omega) sg λb3 cr3 sg3=>?_)
   have R3:Rn r b3 pd.toList 0 lo:=R2.congr λk _ hk=>cr3.out k (.inl hk);have pm3:=cr3.pm.trans pm2;refine qR (λe=>by simp at e) λ_=>?_
   have n3:lo+min (arr.size-lo) ((sortPriv% PySem.Builtin.minRun) arr.size arr.size 0)≤arr.size:=by omega
   have n4:0<min (arr.size-lo) ((sortPriv% PySem.Builtin.minRun) arr.size arr.size 0):=by omega
  case' h2 =>
   intro lt;have R3:=R2;have pm3:=pm2;have sg3:=sg;have n3:lo+n≤arr.size:=by omega
   have n4:0<n:=n1
  all_goals
   refine Aw (Ks ?_);dsimp only;rcases hb:pd.back? with _|⟨s1,l1,p1⟩
   ·dsimp only
    refine Aw (Hz (Bl ⟨_,_,_,_,rfl,rfl,pm3,n3,by omega,?_⟩))
    show Rn r _ (pd.push _).toList 0 _;rw[Ef];exact Rn.app.mpr ⟨lo,R3,rfl,n4,sg3,rfl⟩
   ·dsimp only
    refine Aw (Gn (Ew (I:=λ_ c st'=>c=(none,())∧∃ b pd g,st'=Cz κ b pd g none∧b.toList.Perm arr.toList∧Rn r b pd.toList 0 lo∧Seg r b lo _)
     (Q:=λc st'=>c=(none,())∧∃ b pd g,st'=Cz κ b pd g none∧b.toList.Perm arr.toList∧Rn r b pd.toList 0 lo∧Seg r b lo _) ?_ (λ_ _ z=>z) ⟨rfl,_,pd,g,rfl,pm3,R3,sg3⟩) ?_)
    ·rintro y c st' _ hy ⟨rfl,b,pd,g,rfl,pm,R,sg⟩
     have zb:=zc pm;refine Aw (Ks ?_);dsimp only;by_cases hp:pd.size>1
     ·rw[Bg hp]
      rcases hq:pd[pd.size-2]? with _|⟨u,v,old⟩
      ·exact Bl ⟨rfl,b,pd,g,rfl,pm,R,sg⟩
      ·dsimp only
       refine qR (λ_=>Bl ⟨rfl,b,pd,g,rfl,pm,R,sg⟩) λ_=>?_;refine Aw (t8 C (uc pm) (by omega) R (by omega) λb' pd' g' p' out R' _=>?_)
       refine qR (λe=>by simp at e) λ_=>Bl ⟨rfl,b',pd',g',rfl,p'.trans pm,R',λi j a c d=>?_⟩
       rw[out i a,out j (by omega)]
       exact sg i j a c d
     ·rw[Bc hp]
      exact Bl ⟨rfl,b,pd,g,rfl,pm,R,sg⟩
    ·rintro c st' ⟨rfl,b,pd,g,rfl,pm,R,sg⟩
     dsimp only;refine Aw (Hz (Aw (Hz (Bl ⟨_,_,_,_,rfl,rfl,pm,n3,by omega,?_⟩))))
     show Rn r b ((pd.modify (pd.size-1) _).push _).toList 0 _;rw[Ef,Array.toList_modify];exact Rn.app.mpr ⟨lo,Rn.mod (λ_ _ _=>⟨_,rfl⟩) R,rfl,n4,sg,rfl⟩
 ·rintro c st' ⟨b,pd,g,lo,rfl,rfl,pm,lo1,lo2,R⟩
  have:lo=arr.size:=by omega
  subst this;exact⟨b,pd,g,rfl,rfl,pm,R⟩
 ·rintro c st' ⟨b,pd,g,rfl,rfl,pm,R⟩
  dsimp only;have hl:=R.le;rw[Bh] at hl;refine Aw (Gn (Ew (I:=λx c st'=>c=(none,())∧∃ b pd g,st'=Cz κ b pd g none∧b.toList.Perm arr.toList∧Rn r b pd.toList 0 arr.size∧(pd.size≤1∨pd.size+x≤arr.size))
   (Q:=λc st'=>c=(none,())∧∃ b pd g,st'=Cz κ b pd g none∧b.toList.Perm arr.toList∧Rn r b pd.toList 0 arr.size∧pd.size≤1) ?_ ?_ ⟨rfl,b,pd,g,rfl,pm,R,by omega⟩) ?_)
  ·rintro x c st' _ hx ⟨rfl,b,pd,g,rfl,pm,R,hs⟩
   have zb:=zc pm;refine Aw (Ks ?_);dsimp only;refine qR (λe=>Bl ⟨rfl,b,pd,g,rfl,pm,R,e⟩) λe=>?_;refine Aw (t8 C (uc pm) ?_ R (by omega) λb' pd' g' p' out R' z'=>?_)
   ·have e:¬ pd.size≤1:=e
    have q:∀ (c:Prop) [Kw c],(if c then pd.size-2-1 else pd.size-2)+1<pd.size:=λc _=>by split <;> omega
    exact q _
   exact qR (λe=>by simp at e) λ_=>Bl ⟨rfl,b',pd',g',rfl,p'.trans pm,R',by omega⟩
  ·rintro c st' ⟨rfl,b,pd,g,rfl,pm,R,hs⟩
   exact⟨rfl,b,pd,g,rfl,pm,R,by omega⟩
  ·rintro c st' ⟨rfl,b,pd,g,rfl,pm,R,hs⟩
   have zb:=zc pm;refine Bl (h b pd g pm ?_);have hs:pd.toList.length≤1:=by simpa using hs
   revert R hs
   cases pd.toList with
   |nil=>intro R;have:0=arr.size:=R;omega
   |cons q t =>
    obtain⟨s0,n0,p0⟩:=q;intro R hs;have:t=[]:=by cases t with|nil=>rfl|cons _ _=>simp at hs
    subst this;obtain⟨rfl,_,sg,e⟩:=R;have e:n0=arr.size:=by have:0+n0=arr.size:=e;omega
    subst e;rw[Ik];intro i j hi hj l;have hi':i<b.size:=by simpa using hi
    have hj':j<b.size:=by simpa using hj
    have:=sg i j (by omega) (by omega) (by omega)
    simpa [Fx,hi',hj',Le] using this
end
structure Cmps (prog:Bd)(w:Bw)(h0:Bm)(vs:Ab Ac)(f:Ah→Ah→Ap):Prop where
 ex:∃ κ,∀ (A:Bt),A.units+8<Ey→∀ (s:Ag),Sup h0 s.heap→(∀ (Q:Kc→Ag→Prop) (E:Ac→Ag→Prop),Q κ s→Ao (As prog w) A (keyKind' vs.toArray) Q E s)∧∀ i j (C:Ap→Ag→Prop),i<vs.length→j<vs.length→C (f i j) s→kas_ask prog w A κ vs i j C s
open Classical in
def kV {K:Type}(is:K→Ac→Prop)(d:K)(v:Ac):K:=if h:∃ k,is k v then choose h else d
open Classical in
def bT {K:Type}{is:K→Ac→Prop}{d:K}{v:Ac}(h:∃ k,is k v):is (kV is d v) v:=by
 unfold kV;rw[dif_pos h];exact choose_spec h
section
variable {prog:Bd}{w:Bw}{A:Bt}{E:Ac→Ag→Prop}{s:Ag}
def JI {K:Type}{is:K→Ac→Prop}{lt':K→K→Ap}{d:K}(O:Ord lt')(inj:∀ {k k':K} {v:Ac},is k v→is k' v→k=k'){a:Ad}{vs:Ab Ac}{ks:Ab K}{n:Ah}{h0:Bm}{P:Yj→Ag→Prop}(hlen:vs.length=ks.length)(hks:∀ i v,vs[i]? = Aa v→is (ks.getD i d) v)(ho:s.heap.get? a=Aa (Eg "list" vs.toArray n))(hu:A.units+8<Ey)(hz:vs.length≤100000)(c:2≤vs.length→Cmps prog w h0 vs (sS lt' ks d))(hS:Sup h0 s.heap)(ha:h0.get? a=none)
  (h:∀ ps:Ab (K × Ac),ps.Perm (ks.zip vs)→Nf lt' (ps.map (·.1))→P (.done (.ret .none)) { s with heap:=sortedHeap s.heap a vs (ps.map (·.2)).toArray }) : Ao (As prog w) A (Ih.«list.sort» ⟨[.ref a],[]⟩) P E s:=by
 rw[list_sort_plain];have hb:a<s.heap.objs.size:=Au ho;have hsz:vs.toArray.size=vs.length:=by simp
 refine Af (listItems_at ho rfl (Af (listUpdate_at ho rfl ?_ (by rw[hsz,Ep];omega) (Hi _))))
 obtain⟨e1,ho1⟩:∃ e1,(s.heap.update a (El λ_=>#[])).get? a=Aa (Eg "list" #[] e1):=⟨_,Ke ho (λ_=>#[])⟩;refine Af (seqEpoch_at ho1 rfl (Af (wpAny_newTuple (Af (Sl (Ed ?_) (Hi _))) (by show vs.length≤_;rw[Ep];omega))))
 have ho6:(((s.heap.update a (El λ_=>#[])).push (Eg "tuple" vs.toArray 0)).push (Eg "list" #[] 0)).get? a=Aa (Eg "list" #[] e1):=
  Aj _ (Aj _ ho1)
 have S6:Sup h0 (((s.heap.update a (El λ_=>#[])).push (Eg "tuple" vs.toArray 0)).push (Eg "list" #[] 0)):=λb o e =>
  Aj _ (Aj _ ((Dd _ _ (λz:a=b=>by rw[← z,ha] at e;cases e)).trans (hS b o e)))
 show Ao (As prog w) A _ P E { s with heap:=((s.heap.update a (El λ_=>#[])).push (Eg "tuple" vs.toArray 0)).push (Eg "list" #[] 0) }
 dsimp only;have fin:∀ (st':Fl) (ps:Ab (K × Ac)),(arrOf st').map (·.2)=(ps.map (·.2)).toArray→failedOf st'=none→ps.Perm (ks.zip vs)→Nf lt' (ps.map (·.1))→Ao (As prog w) A (do
   let touched:=(← seqEpoch a) != e1
   Xr (.ref a) λ_=>(arrOf st').map (·.2)
   if let Aa e:=failedOf st' then rule "list.sort.comparison-raised";throw e
   if touched then rule "list.sort.modified";raiseError "ValueError" "list modified during sort"
   ret .none) P E { s with heap:=((s.heap.update a (El λ_=>#[])).push (Eg "tuple" vs.toArray 0)).push (Eg "list" #[] 0) }:=by
  intro st' ps h1 h2 h3 h4;have hl:(ps.map (·.2)).length=vs.length:=by rw[Bk,h3.length_eq,Vz,hlen,Tp]
  refine Af (seqEpoch_at ho6 rfl ?_);rw[h1];refine Af (listUpdate_at ho6 rfl ?_ (Hi _) (by show (ps.map (·.2)).toArray.size≤_;rw[Bj,hl,Ep];omega))
  rw[h2];simp only[bne_self_eq_false,Bq,Dw];exact Am (h ps h3 h4)
 by_cases h2:vs.toArray.size<2
 ·rw[Bg h2,Bg h2]
  refine Af (Am ?_);rw[StateT.run_pure];refine Af (Am ?_);refine fin (Cz general' (vs.toArray.zip vs.toArray) #[] 7 none) (ks.zip vs) ?_ rfl (Kv _) ?_
  ·show (vs.toArray.zip vs.toArray).map (·.2)=_
   apply Vn.mp;simp[List.map_snd_zip,hlen]
  ·rw[Pb (by omega)]
   match ks,hlen with
   |[],_=>exact Ky
   |[_],_=>exact Pk _ _
   |_::_::_,e=>simp at e h2;omega
 ·rw[Bc h2,Bc h2]
  have h2':2≤vs.length:=by omega
  obtain⟨κ,C⟩:=c h2';obtain⟨k1,k2⟩:=C A hu { s with heap:=((s.heap.update a (El λ_=>#[])).push (Eg "tuple" vs.toArray 0)).push (Eg "list" #[] 0) } S6
  have kv:∀ i,i<vs.length→kV is d (vs.getD i Dj)=ks.getD i d:=λi hi=>by
   have q:=hks i (vs.getD i Dj) (by rw[Ol,Aq hi];rfl)
   exact inj (bT ⟨_,q⟩) q
  have km:∀ i,i<vs.length→ks.getD i d∈ks:=λi hi=>by
   have:i<ks.length:=by omega
   simp[IF,this]
  have cm:Cm (As prog w) A { s with heap:=((s.heap.update a (El λ_=>#[])).push (Eg "tuple" vs.toArray 0)).push (Eg "list" #[] 0) } κ (λx=>∃ i,i<vs.length∧x=(vs.getD i Dj,vs.getD i Dj)) (λx=>pC lt' ks (kV is d x.1)):=by
   refine⟨?_⟩;rintro x y ⟨i,hi,rfl⟩ ⟨j,hj,rfl⟩ E Q st hk q;rw[lt'_eq];refine Aw (Ks ?_);rw[hk];rw[kv i hi,kv j hj,← eX O (km i hi)] at q;refine Aw (Oo (IR (Fv (k2 i j (λb s'=>s'=_∧b=sS lt' ks d i j) hi hj ⟨rfl,rfl⟩) ?_ λ_ _ e=>e.elim)));rintro b s' ⟨rfl,rfl⟩;exact⟨rfl,Bl q⟩
  have pl:(vs.toArray.zip vs.toArray).toList=(By vs.length).map λi=>(vs.getD i Dj,vs.getD i Dj):=by
   apply OZ
   ·simp
   ·intro i h1 h2
    have:i<vs.length:=by simpa using h2
    simp[this]
  refine Af (k1 _ _ ?_);refine Af (Fv (dZ (E:=E) (Q:=λ_ st'=>∃ b pd g,st'=Cz κ b pd g none∧b.toList.Perm (vs.toArray.zip vs.toArray).toList∧b.toList.Pairwise (Le λx=>pC lt' ks (kV is d x.1))) cm (arr:=vs.toArray.zip vs.toArray) (g:=7) ?_ ?_ λb pd g p q=>⟨b,pd,g,rfl,p,q⟩) ?_ λ_ _ e=>e)
  ·intro x hx
   rw[pl] at hx;obtain⟨i,hi,rfl⟩:=Dk.mp hx;exact⟨i,Dy.mp hi,rfl⟩
  ·simp;omega
  ·rintro⟨⟨⟩,st'⟩ s' ⟨rfl,b,pd,g,rfl,pm,up⟩
   refine fin _ (b.toList.map λx=>(kV is d x.1,x.2)) ?_ rfl ?_ ?_
   ·show b.map (·.2)=_
    apply Vn.mp;simp
   ·refine(pm.map _).trans ?_
    rw[pl,II];have:ks.zip vs=(By vs.length).map λi=>(ks.getD i d,vs.getD i Dj):=by
     apply OZ
     ·simp[hlen]
     ·intro i h1 h2
      have h3:i<vs.length:=by simpa using h2
      have h4:i<ks.length:=by omega
      simp[h3,h4]
    rw[this];refine List.Perm.of_eq (Nh λi hi=>?_);show (kV is d (vs.getD i Dj),_)=_;rw[kv i (Dy.mp hi)]
   ·unfold Nf
    rw[II,Hf];refine up.imp_of_mem λ{x y} hx hy h=>?_;have hx:=pm.mem_iff.mp hx;have hy:=pm.mem_iff.mp hy;rw[pl] at hx hy;obtain⟨i,hi,rfl⟩:=Dk.mp hx;obtain⟨j,hj,rfl⟩:=Dk.mp hy;have h:pC lt' ks (kV is d (vs.getD i Dj))≤pC lt' ks (kV is d (vs.getD j Dj)):=h;show lt' (kV is d (vs.getD j Dj)) (kV is d (vs.getD i Dj))=false;have hj:=Dy.mp hj;rw[eX O (ks:=ks) (by rw[kv j hj];exact km j hj)]
    exact Cn (by omega)
end
section
variable {prog:Bd}{w:Bw}{h0:Bm}
def PL {A:Bt}{s:Ag}{b:Ap}{Q:Ap→Ag→Prop}:∀ {xs ys:Ab Ai} {us vs:Ab Ac} {i:Ah} {N M:Ah},ItemsAre (Be prog w) xs us→ItemsAre (Be prog w) ys vs→N+ys.length=M+xs.length→Q (_H.lexLt xs ys) s→KatLex prog w A b (decide (N<M)) Q (us.zip vs) i s:=by
 intro xs ys us vs i N M hx
 induction hx generalizing ys vs i with
 |nil =>
  intro hy hl h;cases hy with
  |nil =>
   have:decide (N<M)=false:=Cn (by simp at hl;omega)
   rw[this];exact h
  |@cons k v ys vs q r =>
   have:decide (N<M)=true:=Cs (by simp at hl;omega)
   rw[this];exact h
 |@cons x u xs us qx rx ih =>
  intro hy hl h;cases hy with
  |nil =>
   have:decide (N<M)=false:=Cn (by simp at hl;omega)
   rw[this];exact h
  |@cons y v ys vs qy ry =>
   obtain⟨t,rfl⟩:=y8 (prog:=prog) (w:=w) qx;obtain⟨t',rfl⟩:=y8 (prog:=prog) (w:=w) qy;rw[List.zip_cons_cons];refine kat_cons (Us ?_);rw[_H.lexLt_cons] at h;refine kat_go (λe=>kat_yes ?_) λe=>kat_no ?_
   ·rw[Bg (by simpa using e)] at h
    exact ih ry (by simp at hl;omega) h
   ·rw[Bc (by simpa using e)] at h
    cases b&&i == 0 with
    |true=>exact oneLt_int h
    |false=>exact kat_one _ _ (Yd h)
def iW {h:Bm}:∀ {vs:Ab Ac} {ks:Ab (Ab Ai)},vs.length=ks.length→(∀ i v,vs[i]? = Aa v→isT prog w h (ks.getD i []) v)→(∀ k∈ks,k≠[])→∃ fs,KatTups h vs fs∧fs.length=vs.length∧∀ f∈fs,∃ n t,f=Me n t
 |[],[],_,_,_=>⟨[],trivial,rfl,λf hf=>by simp at hf⟩
 |v::vs,k::ks,hl,hv,hne=>by
  obtain⟨fs,a1,a2,a3⟩:=iW (vs:=vs) (ks:=ks) (by simpa using hl) (λi u hu=>by simpa using hv (i+1) u (by simpa using hu)) λk hk=>hne k (by simp[hk])
  obtain⟨a,rfl,o,items,n,ho,hc,hd,hi⟩:=hv 0 v rfl;have hk:k≠[]:=hne k (by simp)
  have hi':ItemsAre (Be prog w) k items.toList:=hi;cases hz:items.toList with
  |nil=>rw[hz] at hi';cases hi';exact absurd rfl hk
  |cons f qK =>
   rw[hz] at hi';cases hi' with
   |cons q _ =>
    obtain⟨t,rfl⟩:=y8 (prog:=prog) (w:=w) q;refine⟨_::fs,KatTups.cons ho hc hd (by rw[← Bf,hz];rfl) a1,by simp[a2],λf hf=>?_⟩
    rcases Bb.mp hf with rfl|hf
    ·exact⟨_,_,rfl⟩
    ·exact a3 f hf
def M6 {ks:Ab (Ab Ai)}(hl:vs.length=ks.length)(hv:∀ i v,vs[i]? = Aa v→isT prog w h0 (ks.getD i []) v)(hne:∀ k∈ks,k≠[])(h2:2≤vs.length):Cmps prog w h0 vs (sS _H.lexLt ks []):=by
 refine⟨tuples' (Ha "int" != Ha "tuple"),λA hu s hS=>⟨λQ E h=>?_,λi j C hi hj h=>?_⟩⟩
 ·obtain⟨fs,a1,a2,a3⟩:=iW (h:=s.heap) hl (λi v hv'=>by obtain⟨a,e,q⟩:=hv i v hv';exact⟨a,e,uL hS q⟩) hne
  refine kat_kind a1 (by omega) (λv hv'=>?_) (by decide) h
  obtain⟨n,t,rfl⟩:=a3 v hv';exact Looks.of_pure rfl
 ·have g:∀ k (hk:k<vs.length),∃ a,vs.getD k Dj=.ref a∧Nd (Be prog w) s.heap (ks.getD k []) a:=λk hk=>by
   obtain⟨a,e,q⟩:=hv k vs[k] (Aq hk);exact⟨a,by rw[← e];simp[IF,hk],uL hS q⟩
  obtain⟨a,ea,oa,ia,na,ha,_,da,qa⟩:=g i hi;obtain⟨b,eb,ob,ib,nb,hb,_,db,qb⟩:=g j hj;unfold kas_ask;rw[ea,eb];refine kat_lt ha da hb db (PL qa qb ?_ h);have la:=qa.length;have lb:=qb.length;simp only[Bh] at la lb;omega
def M5 {ks:Ab Ai}(hl:vs.length=ks.length)(hv:∀ i v,vs[i]? = Aa v→isI prog w (ks.getD i 0) v)(h2:2≤vs.length):Cmps prog w h0 vs (sS ltI ks 0):=by
 have hi:∀ v∈vs,∃ n t,v=Me n t:=λv hm=>by
  obtain⟨i,hi,e⟩:=Cw.mp hm;obtain⟨t,q⟩:=y8 (hv i v (by rw[Aq hi,e]))
  exact⟨_,t,q⟩
 refine⟨oneType',λA hu s hS=>⟨λQ E h=>?_,λi j C hi hj h=>?_⟩⟩
 ·obtain⟨v₁,v₂,qK,rfl⟩:∃ v₁ v₂ qK,vs=v₁::v₂::qK:=by
   match vs,h2 with
   |v₁::v₂::qK,_=>exact⟨v₁,v₂,qK,rfl⟩
  rw[keyKind_ints (intsAre_map _ hi)];exact Am h
 ·have g:∀ k (hk:k<vs.length),∃ t,vs.getD k Dj=.int (ks.getD k 0) t:=λk hk=>by
   obtain⟨t,q⟩:=y8 (hv k vs[k] (Aq hk));exact⟨t,by rw[← q];simp[IF,hk]⟩
  obtain⟨t,et⟩:=g i hi;obtain⟨u,eu⟩:=g j hj;unfold kas_ask;rw[et,eu];exact kat_lt_int h
end
section
variable {K:Type}{lt':K→K→Ap}
def WT {α:Type}{ks:Ab K}{vs:Ab α}{d:K}(hl:vs.length=ks.length){p:K × α}(h:p∈ks.zip vs):∃ i,vs[i]? = Aa p.2∧ks.getD i d=p.1:=by
 obtain⟨i,hi,e⟩:=Cw.mp h;have h1:i<ks.length:=by rw[Vz] at hi;omega
 have h2:i<vs.length:=by omega
 rw[List.getElem_zip] at e;subst e;exact⟨i,Aq h2,by simp[h1]⟩
end
structure Kind (prog:Bd)(w:Bw){K:Type}(is:K→Ac→Prop)(hash:K→Ai)(lt':K→K→Ap)(d:K)(Fit:K→Prop)(h0:Bm):Prop where
 ord:Ord lt'
 inj:∀ {k k':K} {v:Ac},is k v→is k' v→k=k'
 cmps:∀ {vs:Ab Ac} {ks:Ab K},vs.length=ks.length→(∀ i v,vs[i]? = Aa v→is (ks.getD i d) v)→(∀ k∈ks,Fit k)→2≤vs.length→Cmps prog w h0 vs (sS lt' ks d)
def JG (prog:Bd)(w:Bw)(h0:Bm):Kind prog w (isT prog w h0) (Bs (Be prog w)) _H.lexLt [] (·≠[]) h0:=⟨m7,isT.inj,λh1 h2 h3 h4=>M6 h1 h2 h3 h4⟩
def JF (prog:Bd)(w:Bw)(h0:Bm):Kind prog w (isI prog w) (Be prog w).hash ltI 0 (λ_=>Op) h0:=⟨CW,λa b=>(Be prog w).inj _ _ _ a b,λh1 h2 _ h4=>M5 h1 h2 h4⟩
section
variable {prog:Bd}{w:Bw}{A:Bt}{E:Ac→Ag→Prop}{s:Ag}{K:Type}{is:K→Ac→Prop}{hash:K→Ai}{lt':K→K→Ap}{d:K}{Fit:K→Prop}{h0:Bm}{S:Ad}{V:Ab Ac}{seen:Ab K}
open Classical in
def kOf (is:K→Ac→Prop)(d:K)(e:Ai × Ac):K:=if h:∃ k,is k e.2 then choose h else d
open Classical in
def N1 {e:Ai × Ac}(h:∃ k,is k e.2):is (kOf is d e) e.2:=by
 unfold kOf;rw[dif_pos h];exact choose_spec h
def QD {Q:Ac→Ag→Prop}(kd:Kind prog w is hash lt' d Fit h0)(hh:A.handled=none)(hu:A.units+16<Ey)(hS:Sup h0 s.heap)(Z:SetK is hash S (wY w) V seen s.heap)(hf:∀ k∈seen,Fit k){U:Ab K}(hU:U.length≤1000)(hU1:∀ k∈seen,k∈U)
  (h:∀ h' tk D c (ps:Ab (K × Ac)),(∀ b o,s.heap.get? b=Aa o→h'.get? b=Aa o)→s.heap.objs.size≤D→h'.get? D=Aa (Eg "list" (ps.map (·.2)).toArray c)→ps.map (·.1)=srt lt' seen→(∀ p∈ps,is p.1 p.2∧p.2∈V)→ps.length≤1000→Q (.ref D) { s with heap:=h',toks:=tk }) :
  Ao (As prog w) A (call (.builtin "sorted") [.ref S]) Q E s:=by
 obtain⟨es,ep,t,ho,Z0,T,hl,hV⟩:=Z;have st:Still w S es ep t:=⟨T,hl⟩;have hn:es.size≤1000:=by
  have:=fZ es.toList U Z0.nd λe he=>by
   obtain⟨k',_,q⟩:=Z0.good e he;exact⟨k',hU1 k' ((Z0.mem k').mpr ⟨e,he,q⟩),q⟩
  rw[Bh] at this;omega
 have op:=tF w S ep es;have osz:=uU w S ep es;have good:∀ e∈(qV w S ep es).toList,is (kOf is d e) e.2∧e.2∈V:=λe he=>by
  have he':=op.mem_iff.mp he;obtain⟨k,_,q⟩:=Z0.good e he';exact⟨N1 ⟨k,q⟩,hV e he'⟩
 have nd0:(qV w S ep es).toList.Pairwise λa b=>∀ k,is k a.2→¬ is k b.2:=(op.pairwise_iff λ{x y} h k hy hx=>h k hx hy).mpr Z0.nd;generalize hoe:(qV w S ep es).toList=oe at *;have hoel:oe.length≤1000:=by rw[op.length_eq,Bh];exact hn
 have hks:∀ i v,(oe.map (·.2))[i]? = Aa v→is ((oe.map (kOf is d)).getD i d) v∧v∈V:=λi v hv=>by
  rw[Dl] at hv;cases hi:oe[i]? with
  |none=>rw[hi] at hv;cases hv
  |some e =>
   rw[hi] at hv;cases hv;have g:=good e (Cb hi);have:(oe.map (kOf is d)).getD i d=kOf is d e:=by rw[Ol,Dl,hi];rfl
   rw[this];exact g
 have nd:(oe.map (kOf is d)).Nodup:=by
  unfold Wk;rw[Hf];refine OI (λ{a b} ha hb h e=>?_) nd0;exact h _ (good a ha).1 (e▸(good b hb).1)
 have mem:∀ x,x∈oe.map (kOf is d)↔x∈seen:=λx=>by
  rw[Z0.mem,Dk];constructor
  ·rintro⟨e,he,rfl⟩
   exact⟨e,op.mem_iff.mp he,(good e he).1⟩
  ·rintro⟨e,he,q⟩
   exact⟨e,op.mem_iff.mpr he,kd.inj (good e (op.mem_iff.mpr he)).1 q⟩
 have hlen:(oe.map (·.2)).length=(oe.map (kOf is d)).length:=by simp
 refine OE kind_sorted plain_sorted entry_sorted (args_sorted1 _) ?_;unfold Ih.«sorted»;refine Af (m:=checkCount "sorted" 1 1 _) (Am ?_);refine Af (cK hh st ho (by omega) λh1 tk1 kp1 hlt=>?_)
 rw[hoe];refine Af (Sl ?_ (by rw[Ep,Bk];omega))
 have hD:(h1.push (Eg "list" (oe.map (·.2)).toArray 0)).get? h1.objs.size=Aa (Eg "list" (oe.map (·.2)).toArray 0):=Bi _ rfl
 have n0:h0.get? h1.objs.size=none:=by
  cases q:h0.get? h1.objs.size with
  |none=>rfl
  |some o=>exact absurd (Au (hS _ _ q)) (Lg.mpr (Fz hlt))
 show Ao _ _ _ _ _ { s with heap:=h1.push (Eg "list" (oe.map (·.2)).toArray 0),toks:=tk1 }
 refine Af (Ed (Et slot_list_sort ⟨_,hD,rfl⟩ Wa (JI (h0:=h0) (is:=is) kd.ord kd.inj (d:=d) (vs:=oe.map (·.2)) hlen (λi v hv=>(hks i v hv).1) hD (by show A.units+2+8<Ey;omega) (by rw[Bk];omega) (λh2=>kd.cmps hlen (λi v hv=>(hks i v hv).1) (λk hk=>hf k ((mem k).mp hk)) h2) (λb o e=>Aj _ (kp1 b o (hS b o e))) n0 λps pm nf=>⟨_,rfl,?_⟩) (args_list_sort _)))
 refine Am ⟨_,rfl,?_⟩;have hz:(h1.push (Eg "list" (oe.map (·.2)).toArray 0)).objs.size=h1.objs.size+1:=size_push' ..
 have old:∀ b o,b≠h1.objs.size→(h1.push (Eg "list" (oe.map (·.2)).toArray 0)).get? b=Aa o→((((h1.push (Eg "list" (oe.map (·.2)).toArray 0)).update h1.objs.size (El λ_=>#[])).push (Eg "tuple" (oe.map (·.2)).toArray 0)).push (Eg "list" #[] 0)).get? b=Aa o:=λb o hb e =>
  Aj _ (Aj _ ((Dd _ _ (Fu hb)).trans e))
 obtain⟨e1,he1⟩:∃ e1,((h1.push (Eg "list" (oe.map (·.2)).toArray 0)).update h1.objs.size (El λ_=>#[])).get? h1.objs.size=Aa (Eg "list" #[] e1):=⟨_,Ke hD (λ_=>#[])⟩
 have he6:=Ke (Aj (Eg "list" #[] 0) (Aj (Eg "tuple" (oe.map (·.2)).toArray 0) he1)) (λ_=>(ps.map (·.2)).toArray)
 have pk:(ps.map (·.1)).Perm (oe.map (kOf is d)):=by
  have:=pm.map (·.1)
  rwa [Pb (by omega)] at this
 refine h _ tk1 h1.objs.size _ ps (λb o e=>?_) (Fz hlt) he6 (NL kd.ord nf (pk.nodup_iff.mpr nd) λx=>by rw[pk.mem_iff,mem]) (λp hp=>?_) (by have:=pk.length_eq;rw[Bk,Bk] at this;omega)
 ·have hb:b≠h1.objs.size:=λz=>by
   subst z;exact absurd (Au e) (Lg.mpr (Fz hlt))
  exact(Dd _ _ (Fu hb)).trans (old b o hb (Aj _ (kp1 b o e)))
 ·obtain⟨i,e1,e2⟩:=WT (d:=d) hlen (pm.mem_iff.mp hp)
  exact e2▸hks i _ e1
end
end _S
namespace _D
open PySem PySem.Spec PyProof.Rows _L
def uW:Ab D→Al (Ab (Ab Ai))
 |[]=>Aa []
 |.tup ys::r=>(wC ys).bind λk=>(uW r).map (k::·)
 |_::_=>none
def tpD (k:Ab Ai):D:=.tup (k.map D.int)
def mG:∀ {ds:Ab D} {ks:Ab (Ab Ai)},uW ds=Aa ks→ds=ks.map tpD
 |[],ks,h=>by cases h;rfl
 |d::r,ks,h=>by
  cases d with
  |tup ys =>
   obtain⟨k,h1,h2⟩:=Ec.mp (show (wC ys).bind (λk=>(uW r).map (k::·))=Aa ks from h)
   obtain⟨m,h3,rfl⟩:=De.mp h2;rw[mG h3,uC h1];rfl
  |_=>cases h
def dR (ks:Ab (Ab Ai)):uW (ks.map tpD)=Aa ks:=by
 induction ks with
 |nil=>rfl
 |cons k ks ih =>
  show (wC (k.map D.int)).bind (λk=>(uW (ks.map tpD)).map (k::·))=_
  rw[lY,ih];rfl
def jT (xs:Ab D):Al (Ab D):=match wC xs with
 |some ns=>if (_S.srt _S.ltI ns).length≤1000 then Aa ((_S.srt _S.ltI ns).map D.int) else none
 |none=>match uW xs with
  |some ks=>if ((_S.srt _H.lexLt ks).length≤1000&&ks.all λk=>!k.isEmpty) then Aa ((_S.srt _H.lexLt ks).map tpD) else none
  |none=>none
def hJ:D→Al (Ab D)
 |.lst xs=>Aa xs
 |.tup xs=>Aa xs
 |_=>none
def UO {K:Type}{lt':K→K→Ap}(O:_S.Ord lt')(ks:Ab K)(d:K):_S.srt lt' (_S.yO (λi=>ks.getD i d) ks.length)=_S.srt lt' ks:=
 _S.lJ O (_S.bF O _) (_S.bF O _) λx=>by
  rw[_S.uF O,_S.uF O,_S.kB];constructor
  ·rintro⟨i,hi,rfl⟩
   simp[IF,hi]
  ·intro hx
   obtain⟨i,hi,e⟩:=Cw.mp hx;exact⟨i,hi,by simp[IF,hi,e]⟩
section
variable {X:Cx}{e:Bv}{fa:DE}{p1 p2 pos1 pos2:EQ}
def Z3:Fy "sorted" = Aa (.builtin "sorted"):=by decide +kernel
def nM {prog:Bd}{w:Bw}:∀ {k:Ab Ai} {us:Ab Ac},qP (k.map V.int) us→ItemsAre (Be prog w) k us
 |[],us,h=>by cases h;exact .nil
 |i::k,us,h=>by
  cases h with
  |cons q t =>
   obtain⟨tk,rfl⟩:=q;exact .cons (Si _ _ _ _) (nM t)
def hW {pins:Ab (Ad × Cg)}{σ : _L.St}{H P:Hp}{α : Ab Ad}{S:Sto}{s:Ag}{d:D}{xs:Ab D}{v:V}{vv:Ac}(I:Inv X pins σ H s)(r:Rel X.K H P α S)(p:Rep X.K P α d v)(q:qO v vv)(h:hJ d=Aa xs) :
  ∃ a vs its,vv=.ref a∧qG X.K P α xs vs∧qP vs its∧(s.heap.IsList a its.toArray∨s.heap.IsTuple a its.toArray)∧xs.length=its.length:=by
 cases d with
 |lst ys =>
  cases h;obtain⟨a,vs,its,n,rfl,_,t,rv,e,l,_⟩:=jM I r p;exact⟨a,vs,its,q,t,rv,.inl ⟨_,e,rfl,n,rfl⟩,l⟩
 |tup ys =>
  cases h;obtain⟨a,vs,its,rfl,_,t,rv,⟨o,e,hc,n,hd⟩,l,_⟩:=jV I r p;exact⟨a,vs,its,q,t,rv,.inr ⟨o,e,hc,n,hd⟩,l⟩
 |_=>cases h
end
end _D
section
namespace _D
open PySem PySem.Spec PyProof.Rows _L
mutual
def pyD:D→Al PyData
 |.non=>Aa .none
 |.bl b=>Aa (.bool b)
 |.int i=>Aa (.int i)
 |.str x=>Aa (.str x)
 |.tup xs=>(eP xs).map .tuple
 |.lst xs=>(eP xs).map .list
 |.dct0=>Aa (.dict [])
 |_=>none
def eP:Ab D→Al (Ab PyData)
 |[]=>Aa []
 |d::ds=>(pyD d).bind λx=>(eP ds).map (x::·)
end
end _D
end
namespace _S
open PySem PySem.W PyProof.Rows
section
variable {prog:Bd}{w:Bw}{A:Bt}{E:Ac→Ag→Prop}{s:Ag}{K:Type}{is:K→Ac→Prop}{hash:K→Ai}{lt':K→K→Ap}{d:K}{Fit:K→Prop}{h0:Bm}
def QC {Q:Ac→Ag→Prop}(kd:Kind prog w is hash lt' d Fit h0)(hu:A.units+16<Ey)(hS:Sup h0 s.heap){l:Ad}{vs:Ab Ac}(hl:s.heap.IsList l vs.toArray∨s.heap.IsTuple l vs.toArray)(ks:Ab K)(hlen:vs.length=ks.length)(hks:∀ i v,vs[i]? = Aa v→is (ks.getD i d) v)(hf:∀ k∈ks,Fit k)(hoel:vs.length≤100000)
  (h:∀ (h1 h':Bm) (tk:Ah) (D:Ad) (c:Ah) (ps:Ab (K × Ac)),(∀ b o,s.heap.get? b=Aa o→h1.get? b=Aa o)→(∀ b o,h1.get? b=Aa o→h'.get? b=Aa o)→h1.objs.size≤D→h'.get? D=Aa (Eg "list" (ps.map (·.2)).toArray c)→ps.map (·.1)=uE lt' ks→(∀ p∈ps,is p.1 p.2∧p.2∈vs)→ps.length=ks.length→Q (.ref D) { s with heap:=h',toks:=tk }) :
  Ao (As prog w) A (call (.builtin "sorted") [.ref l]) Q E s:=by
 refine OE kind_sorted plain_sorted entry_sorted (args_sorted1 _) ?_;unfold Ih.«sorted»;refine Af (m:=checkCount "sorted" 1 1 _) (Am ?_);have hcol:∀ {R:Ab Ac→Ag→Prop},(∀ h1:Bm,(∀ b o,s.heap.get? b=Aa o→h1.get? b=Aa o)→R vs { s with heap:=h1 }) → Ao (As prog w) A.in1 (collect (.ref l)) R E s:=λ{R} hR=>by
  have e:vs.toArray.toList=vs:=by simp
  rcases hl with⟨o,ho,hc,n,hd⟩|⟨o,ho,hc,n,hd⟩
  ·exact Ur l (.inl rfl) ho hc hd (λh' hk=>by rw[e];exact hR h' hk) (by rw[Bj,Ep];omega)
  ·exact Ur l (.inr rfl) ho hc hd (λh' hk=>by rw[e];exact hR h' hk) (by rw[Bj,Ep];omega)
 refine Af (hcol λh1 kp1=>?_);refine Af (Sl ?_ (by rw[Ep];omega))
 have hD:(h1.push (Eg "list" vs.toArray 0)).get? h1.objs.size=Aa (Eg "list" vs.toArray 0):=Bi _ rfl;have n0:h0.get? h1.objs.size=none:=by
  cases q:h0.get? h1.objs.size with
  |none=>rfl
  |some o=>exact absurd (Au (kp1 _ _ (hS _ _ q))) (Ei _)
 show Ao _ _ _ _ _ { s with heap:=h1.push (Eg "list" vs.toArray 0),toks:=s.toks }
 refine Af (Ed (Et slot_list_sort ⟨_,hD,rfl⟩ Wa (JI (h0:=h0) (is:=is) kd.ord kd.inj (d:=d) (vs:=vs) hlen hks hD (by show A.units+2+8<Ey;omega) hoel (λh2=>kd.cmps hlen hks hf h2) (λb o e=>Aj _ (kp1 b o (hS b o e))) n0 λps pm nf=>⟨_,rfl,?_⟩) (args_list_sort _)))
 refine Am ⟨_,rfl,?_⟩;have hz:(h1.push (Eg "list" vs.toArray 0)).objs.size=h1.objs.size+1:=size_push' ..;have old:∀ b o,b≠h1.objs.size→(h1.push (Eg "list" vs.toArray 0)).get? b=Aa o→((((h1.push (Eg "list" vs.toArray 0)).update h1.objs.size (El λ_=>#[])).push (Eg "tuple" vs.toArray 0)).push (Eg "list" #[] 0)).get? b=Aa o:=λb o hb e =>
  Aj _ (Aj _ ((Dd _ _ (Fu hb)).trans e))
 obtain⟨e1,he1⟩:∃ e1,((h1.push (Eg "list" vs.toArray 0)).update h1.objs.size (El λ_=>#[])).get? h1.objs.size=Aa (Eg "list" #[] e1):=⟨_,Ke hD (λ_=>#[])⟩;have he6:=Ke (Aj (Eg "list" #[] 0) (Aj (Eg "tuple" vs.toArray 0) he1)) (λ_=>(ps.map (·.2)).toArray)
 have pk:(ps.map (·.1)).Perm ks:=by
  have:=pm.map (·.1)
  rwa [Pb (by omega)] at this
 refine h h1 _ s.toks h1.objs.size _ ps kp1 (λb o e=>?_) (Ax _) he6 (i9 kd.ord nf (iV kd.ord ks) (pk.trans (bD ks).symm)) (λp hp=>?_) (by have:=pk.length_eq;rwa [Bk] at this)
 ·have hb:b≠h1.objs.size:=λz=>by
   subst z;exact absurd (Au e) (Ei _)
  exact(Dd _ _ (Fu hb)).trans (old b o hb (Aj _ e))
 ·obtain⟨i,e1,e2⟩:=WT (d:=d) hlen (pm.mem_iff.mp hp)
  exact⟨e2▸hks i _ e1,Cb e1⟩
end
end _S
namespace _D
open PySem PySem.Spec PyProof.Rows _L
def uV (xs:Ab D):Al (Ab D):=match wC xs with
 |some ns=>if ns.length≤100000 then Aa ((_S.uE _S.ltI ns).map D.int) else none
 |none=>match uW xs with
  |some ks=>if (decide (ks.length≤100000)&&ks.all λk=>!k.isEmpty) then Aa ((_S.uE _H.lexLt ks).map tpD) else none
  |none=>none
def UN (R:Ab D→Sto→Res D):DF:=λds S=>match ds with
 |[d]=>match (hJ d).bind uV with
  |some ys=>R ys S
  |none=>.bad
 |_=>.bad
def u7:DF:=UN λys S=>.ok (.lst ys) S
section
variable {X:Cx}{pins:Ab (Ad × Cg)}{σ : _L.St}{H P:Hp}{α : Ab Ad}{S:Sto}{s:Ag}
inductive NewR (X:Cx)(pins:Ab (Ad × Cg))(σ : _L.St)(H P:Hp)(α : Ab Ad)(ys:Ab D)(u:Ac)(s':Ag):Prop
 |mk (D:Ad) (vs:Ab V) (e:u=.ref D) (hn:H D=none) (I:Inv X pins σ (upd H D (.lst vs)) s') (rp:qG X.K P α ys vs):NewR X pins σ H P α ys u s'
def dO {K:Type}{is:K→Ac→Prop}{hash:K→Ai}{lt':K→K→Ap}{d:K}{Fit:K→Prop}(kd:_S.Kind X.prog X.w is hash lt' d Fit s.heap)(hu:X.A.units+64<Ey)(I:Inv X pins σ H s)(r:Rel X.K H P α S){a:Ad}{its:Ab Ac}
  (ha:s.heap.IsList a its.toArray∨s.heap.IsTuple a its.toArray) (ks:Ab K) (hl:ks.length=its.length) (hk:∀ i v,its[i]? = Aa v→is (ks.getD i d) v) (hn:ks.length≤100000) (hf:∀ k∈ks,Fit k) (enc:K→D)
  (back:∀ k v,is k v→v∈its→∃ vv,qO vv v∧Rep X.K P α (enc k) vv) {E:Ac→Ag→Prop} :
  Ao (As X.prog X.w) X.A (call (.builtin "sorted") [.ref a]) (NewR X pins σ H P α ((_S.uE lt' ks).map enc)) E s:=by
 refine _S.QC kd om (λ_ _ e=>e) ha ks hl.symm hk hf om λh1 h2 tk2 D c ps kp1 kp2 hD hob hps hp hpl=>?_;have I1:Inv X pins σ H { s with heap:=h1,toks:=s.toks }:=I.kept kp1
 have vv:∀ (ps:Ab (K × Ac)),(∀ p∈ps,is p.1 p.2∧p.2∈its)→∃ vs,qP vs (ps.map (·.2))∧qG X.K P α ((ps.map (·.1)).map enc) vs:=by
  intro ps
  induction ps with
  |nil=>exact λ_=>⟨[],.nil,.nil⟩
  |cons p ps ih =>
   intro h;obtain⟨vs,a1,a2⟩:=ih λq hq=>h q (by simp[hq])
   obtain⟨v,b1,b2⟩:=back p.1 p.2 (h p (by simp)).1 (h p (by simp)).2
   exact⟨v::vs,.cons b1 a1,.cons b2 a2⟩
 obtain⟨vs,a1,a2⟩:=vv ps hp;rw[hps] at a2;have nd:([(D,HO.lst vs)].map (·.1)).Nodup:=by simp
 have I2:Inv X pins σ (kN H [(D,HO.lst vs)]) { s with heap:=h2,toks:=tk2 }:=Inv.laidL (s:={ s with heap:=h1,toks:=s.toks }) (L:=[(D,HO.lst vs)]) (t':=tk2) I1 kp2 (λp hpm=>by
  have:p=(D,HO.lst vs):=by simpa using hpm
  subst this;exact hD) λp hpm=>by
  have:p=(D,HO.lst vs):=by simpa using hpm
  subst this;refine⟨?_,ps.map (·.2),c,a1,hob⟩
  have:=a1.length;rw[Bk] at this;rw[this,Ep];omega
 exact⟨D,vs,rfl,I1.hok.fresh hD,I2,a2⟩
set_option tactic.hygienic true in
def Q9 {E:Ac→Ag→Prop}(hu:X.A.units+64<Ey)(I:Inv X pins σ H s)(r:Rel X.K H P α S){a:Ad}{xs ys:Ab D}{vs:Ab V}{its:Ab Ac}(t1:qG X.K P α xs vs)(rv1:qP vs its)(e1:s.heap.IsList a its.toArray∨s.heap.IsTuple a its.toArray)(l1:xs.length=its.length)(hs:uV xs=Aa ys) :
  Ao (As X.prog X.w) X.A (call (.builtin "sorted") [.ref a]) (NewR X pins σ H P α ys) E s:=by
 unfold uV at hs;cases hi:wC xs with
 |some ns =>
  rw[hi] at hs;dsimp only at hs
  split at hs
  ·rename_i hlt
   cases hs;have:=uC hi;subst this;have:=yE t1;subst this;refine dO (d:=0) (_S.JF X.prog X.w s.heap) hu I r e1 ns (by simpa using l1) (λi u hu'=>?_) hlt (λ_ _=>trivial) D.int λk u hk _=>?_
   ·have hi:Ou its ns:=by simpa using mT rv1
    obtain⟨t,rfl⟩:=Nq hi i u hu';exact Si _ _ _ _
   ·obtain⟨t,rfl⟩:=_S.y8 hk
    exact⟨.int k,⟨t,rfl⟩,by simp only[Rep]⟩
  ·cases hs
 |none =>
  rw[hi] at hs;dsimp only at hs;cases ht:uW xs with
  |none=>rw[ht] at hs;cases hs
  |some ks =>
   rw[ht] at hs;dsimp only at hs
   split at hs
   ·rename_i hlt
    cases hs;rw[Bn,Cd] at hlt;have:=mG ht;subst this;have at':∀ (i:Ah) (u:Ac),its[i]? = Aa u→∃ b,u=.ref b∧Nd (Be X.prog X.w) s.heap (ks.getD i []) b∧∃ vv,qO vv u∧Rep X.K P α (tpD (ks.getD i [])) vv:=λi u hu'=>by
     have hii:i<its.length:=(AT.mp hu').1;have hik:i<ks.length:=by rw[Bk] at l1;omega
     obtain⟨v,p,q,_⟩:=uD t1 rv1 (j:=i) (by rw[Bj];exact hii)
     have hd:(ks.map tpD).getD i D.non=tpD (ks.getD i []):=by simp[IF,hik]
     rw[hd] at p;have hu2:its.toArray[i]'(by rw[Bj];exact hii)=u:=by
      rw[Aq hii] at hu';simpa using hu'
     rw[hu2] at q;obtain⟨b,ws,us,rfl,sq,t,rv,⟨o,ho,hcl,m,hd⟩,_,_⟩:=jV I r (show Rep X.K P α (.tup ((ks.getD i []).map D.int)) v from p)
     cases (show u=Cf b from q)
     have:=yE t;subst this;exact⟨b,rfl,⟨o,us.toArray,m,ho,hcl,hd,by simpa using nM rv⟩,.ref b,rfl,p⟩
    refine dO (d:=[]) (_S.JG X.prog X.w s.heap) hu I r e1 ks (by simpa using l1) (λi u hu'=>?_) hlt.1 (λk hk=>?_) tpD λk u hk hm'=>?_
    ·obtain⟨b,rfl,q,_⟩:=at' i u hu'
     exact⟨b,rfl,q⟩
    ·have:=Cu.mp hlt.2 k hk
     intro z;subst z;cases this
    ·obtain⟨i,hi',rfl⟩:=Cw.mp hm'
     obtain⟨b,eb,q,w,rw',pw⟩:=at' i _ (Aq hi');have:k=ks.getD i []:=_S.isT.inj hk ⟨b,eb,q⟩;rw[this];exact⟨w,rw',pw⟩
   ·cases hs
def EW (hu:X.A.units+64<Ey){vs:Ab V}{us:Ab Ac}{ds:Ab D}{Q:VK}{R:Ab D→Sto→Res D}(I:Inv X pins σ H s)(r:Rel X.K H P α S)(rv:qP vs us)(rp:qG X.K P α ds vs)(af:z9 X P α (UN R ds S) Q)
  (k:∀ ys D vs',H D=none→qG X.K P α ys vs'→z9 X P α (R ys S) Q→Q (.ref D) (upd H D (.lst vs'))):Ao (As X.prog X.w) X.A (call (.builtin "sorted") us) (EP X pins σ Q) X.xe s:=by
 match ds,af,rp with
 |[],af,_=>exact An af
 |_::_::_,af,_=>exact An af
 |[d],af,rp =>
  simp only[UN] at af;cases hq:(hJ d).bind uV with
  |none=>rw[hq] at af;exact An af
  |some ys =>
   rw[hq] at af;obtain⟨xs,hd,hs⟩:=Ec.mp hq;obtain⟨v,u,rfl,rfl,p,q⟩:=vS rp rv;obtain⟨a,vs,its,rfl,t1,rv1,e1,l1⟩:=hW I r p q hd;refine thn (Q9 hu I r t1 rv1 e1 l1 hs) λu' s3 ⟨D,vs',e,hn,I',rp'⟩=>?_;subst e;exact⟨.ref D,_,I',rfl,k ys D vs' hn rp' af⟩
def Z6 (hu:X.A.units+64<Ey):wN X (.builtin "sorted") u7:=by
 intro pins σ H s P α S vs us ds Q I r rv rp af;exact EW hu I r rv rp af λys D vs' hn rp' af'=>vA r hn rp' af'
end
section
variable {X:Cx}{cm:Ap}{k:Ah}
def US (hr:RoomC cm k X.A):ZCall X (.builtin "sorted") u7:=⟨Z6 hr.units⟩
end
end _D
namespace _L
open PySem PySem.Spec PyProof.Rows
variable {loose:Ab Ar}{mg mb:Ar→Al Ac}
def HQ (H:Hp):Prop:=∀ b,H b=none∨(∃ o xs,H b=Aa (.frz o (.lst xs)))∨H b=Aa (.tbl #[])
def Tb0 (K:Ak)(H:Hp):Prop:=∀ x∈wV,∀ c T,Dp K x=Aa (c,T)→H T=Aa (.tbl #[])
structure Tabs (K:Ak)(h:Bm):Prop where
 at':∀ x∈wV,∀ c T,Dp K x=Aa (c,T)→Qz h c T∧h.get? T=Aa (Jf #[]) ∧ K.lookup T=none
 inj:∀ x∈wV,∀ y∈wV,∀ c d T,Dp K x=Aa (c,T)→Dp K y=Aa (d,T)→x=y
def VI {P:Bd}{w:Bw}{K:Ak}{CX:CXT}{k:Ah}{fa a:Ad}{fd:Fb}{x:Ar}{sp:Sp}{s₁:Ag}{vs:Ab Ac}{ns:Ab Ai}
  (KX:K.In s₁.heap) (hns:s₁.heap.Ns Ch mg) (hb:s₁.heap.Ns Mz mb) (hbb:∀ x:Ar,x ≠ "__name__" → mb x=Fy x) (hlim:s₁.heap.NoLimit) (hg:s₁.gens=#[]) (hbm:FN mg s₁.heap) (tbs:Tabs K s₁.heap)
  (ha:s₁.heap.get? a=Aa { cls:=.type "list",data:=.seq vs.toArray }) (hi:Ou vs ns) (hl:ns.length≤sizeLine) (hr:Room k Ox)
  (F:∀ base:Bm,K.In base→base.Ns Ch mg→FnOk P w K mg base CX k fa fd [x] sp) (hbind:∀ (s:Ag) (u:Ac),Ln s fd ⟨[u],[]⟩ [(x,u)])
  (hsp:∀ H:Hp,Tb0 K H→SqX K H a (ns.map V.int)→sp [.ref a] H (λv _=>v=.bl true) λ_ _ _=>Fa)
  (hCX:∀ H e s',CX [] H s₁ (λ_ _ _=>Fa) e s'→Fa) :
  Ie (As P w) Ox (.call (.ref fa) ⟨[.ref a],[]⟩) (λr s'=>r=.ok (.ret (.bool true))∧OldK s₁.heap s'.heap∧s'.os=s₁.os∧Lm s'.gens) s₁:=by
 have rv:=WR hi;have lenV:=hi.length
 let isT:Ad→Prop:=λb=>∃ x∈wV,∃ c,Dp K x=Aa (c,b)
 have tab:∀ b,isT b→s₁.heap.get? b=Aa (Jf #[]) ∧ K.lookup b=none:=λb ⟨x,hx,c,h⟩=>(tbs.at' x hx c b h).2;have core:∀ H:Hp,HQ H→Tb0 K H→SqX K H a (ns.map V.int)→HOk P w H s₁.heap→(∀ b,H b≠none→b=a∨isT b)→(H a≠none→K.lookup a=none) →
   Ie (As P w) Ox (.call (.ref fa) ⟨[.ref a],[]⟩) (λr s'=>r=.ok (.ret (.bool true))∧OldK s₁.heap s'.heap∧s'.os=s₁.os∧Lm s'.gens) s₁:=by
  intro H hO hT hS hok hA hK;have base_of:∀ {b:Ad} {o:Cg},s₁.heap.get? b=Aa o→H b=none→(gT s₁.heap H).get? b=Aa o:=λe n=>V6 e n;have noA:∀ {b:Ad} {o:Cg},s₁.heap.get? b=Aa o→o.cls≠.none→(o.cls≠.type "list" ∨ ∃ es ep,o.data=.dict es ep)→H b=none:=λ{b o} e c1 c2=>by
   cases q:H b with
   |none=>rfl
   |some u =>
    rcases hA b (by rw[q];simp) with e'|e'
    ·subst e'
     rw[ha] at e;cases e;rcases c2 with z|⟨es,ep,d⟩
     ·exact absurd rfl z
     ·cases d
    ·rw[(tab b e').1] at e;cases e
     exact absurd rfl c1
  have noD:∀ {b:Ad} {o:Cg} {es:Av DictEntry} {ep:Ah},s₁.heap.get? b=Aa o→o.data=.dict es ep→H b=none:=λ{b o es ep} e d=>by
   cases q:H b with
   |none=>rfl
   |some u =>
    rcases hA b (by rw[q];simp) with e'|e'
    ·subst e'
     rw[ha] at e;cases e;cases d
    ·rw[(tab b e').1] at e;cases e;cases d
  have nsK:∀ {b:Ad} {m:Ar→Al Ac},s₁.heap.Ns b m→(gT s₁.heap H).Ns b m:=λ{b m} ⟨o,es,ep,e,d,r⟩=>⟨o,es,ep,base_of e (noD e d),d,r⟩;have hKb:K.In (gT s₁.heap H):=λb o e=>base_of (KX b o e) (by
   cases q:H b with
   |none=>rfl
   |some u =>
    rcases hA b (by rw[q];simp) with e'|e'
    ·subst e'
     rw[hK (by rw[q];simp)] at e;cases e
    ·rw[(tab b e').2] at e;cases e)
  have hM:Mod K mg (gT s₁.heap H):=by
   refine⟨hKb,nsK hns,⟨mb,nsK hb,hbb⟩,let ⟨mc,h1,h2⟩:=hlim;⟨mc,nsK h1,h2⟩,?_,λx hx c T h=>?_,tbs.inj⟩
   ·obtain⟨bm,o,b1,b2,b3,b4,b5⟩:=hbm
    exact⟨bm,o,b1,b2,base_of b3 (noA b3 (by rw[b4];nofun) (.inl (by rw[b4];decide))),b4,b5⟩
   ·obtain⟨o,vs,file,tf,flags,tg,inF,text,tt,e1,e2,r⟩:=(tbs.at' x hx c T h).1
    exact⟨o,vs,file,tf,flags,tg,inF,text,tt,base_of e1 (noA e1 (by rw[e2];nofun) (.inl (by rw[e2];decide))),e2,r⟩
  have e0:Env0 P w K mg (gT s₁.heap H) Ox [] s₁ H:=⟨rfl,hM,λb o e=>PV e,Nat.le_of_eq (ZT _ _),trivial,λb hb=>absurd (show b∈([]:Ab Ad) from hb) (by simp),hok,.of_eq hg⟩
  refine IE ((F _ hKb (nsK hns)).run Ox [] s₁ H ⟨[.ref a],[]⟩ [.ref a] [.ref a] _ _ hr e0 (hbind s₁ (.ref a)) (.cons rfl .nil) (hsp H hT hS)) λr s' h=>?_;cases r with
  |error e=>exact(hCX H e s' h).elim
  |ok fl =>
   cases fl with
   |next=>exact An h
   |brk=>exact An h
   |cont=>exact An h
   |ret u =>
    obtain⟨v,H',os,bare,un,hok',r',q⟩:=h;have q':v=.bl true:=q;subst q';obtain rfl:u=Fn true:=r';refine⟨rfl,⟨λb o e=>?_,λb o e=>un.there b o e (by simp)⟩,os,bare⟩
    cases q:H b with
    |none=>exact .inl (un.keep b o e q (by intro z;exact absurd (show b∈([]:Ab Ad) from z) (by simp)) (by simp))
    |some u =>
     rcases hO b with z|⟨ob,xs,z⟩|z
     ·rw[q] at z;cases z
     ·have z2:=un.frzs b ob _ z
      obtain⟨e1,_⟩:=hok b _ z;obtain⟨e2,_⟩:=hok' b _ z2;rw[e] at e1;cases e1;exact .inl e2
     ·obtain⟨more,z2⟩:=un.tbls b _ z
      have e1:s₁.heap.get? b=Aa (Jf #[]):=hok b _ z;have e2:s'.heap.get? b=Aa (Jf (#[] ++ more)):=hok' b _ z2;rw[e] at e1;cases e1;rcases hA b (by rw[q];simp) with e'|⟨x,hx,c,h⟩
      ·subst e';rw[ha] at e;cases e
      ·exact .inr (.inl ⟨((tbs.at' x hx c b h).1.tab e).isCodeTable,rfl,#[],more,rfl,e2⟩)
 have nT:¬ isT a:=λh=>by
  have z:=(tab a h).1;rw[ha] at z;cases z
 have tT:∀ x∈wV,∀ c T,Dp K x=Aa (c,T)→isT T:=λx hx c T h=>⟨x,hx,c,h⟩;have dec:∀ b,Kw (isT b):=λb=>Classical.propDecidable _;cases hk:K.lookup a with
 |some o =>
  have e:=KX a o hk;rw[ha] at e;cases e;refine core (λb=>if isT b then Aa (.tbl #[]) else none) (λb=>?_) (λx hx c T h=>Bg (tT x hx c T h)) (.inr ⟨vs,_,hk,by rw[Bk];exact hl,rv⟩) (λb u z=>?_) (λb z=>?_) λz=>absurd (Bc nT) z
  ·by_cases h:isT b
   ·exact .inr (.inr (Bg h))
   ·exact .inl (Bc h)
  ·by_cases h:isT b
   ·have z':=(Bg h).symm.trans z
    cases z';exact(tab b h).1
   ·have z':=(Bc h).symm.trans z
    cases z'
  ·by_cases h:isT b
   ·exact .inr h
   ·exact absurd (Bc h) z
 |none =>
  refine core (λb=>if b=a then Aa (.frz { cls:=.type "list",data:=.seq vs.toArray } (.lst (ns.map V.int))) else if isT b then Aa (.tbl #[]) else none) (λb=>?_) (λx hx c T h=>?_) (.inl (.inr ⟨{ cls:=.type "list",data:=.seq vs.toArray },Bg rfl⟩)) (λb u z=>?_) (λb z=>?_) λ_=>hk
  ·by_cases hb:b=a
   ·exact .inr (.inl ⟨_,_,Bg hb⟩)
   ·by_cases h:isT b
    ·exact .inr (.inr ((Bc hb).trans (Bg h)))
    ·exact .inl ((Bc hb).trans (Bc h))
  ·have h':=tT x hx c T h
   exact(Bc (λ(z:T=a)=>nT (z▸h'))).trans (Bg h')
  ·by_cases hb:b=a
   ·have z':=(Bg hb).symm.trans z
    cases z';subst hb;exact⟨ha,by rw[Bk];exact hl,vs,_,rv,ha⟩
   ·by_cases h:isT b
    ·have z':=((Bc hb).trans (Bg h)).symm.trans z
     cases z';exact(tab b h).1
    ·have z':=((Bc hb).trans (Bc h)).symm.trans z
     cases z'
  ·by_cases hb:b=a
   ·exact .inl hb
   ·by_cases h:isT b
    ·exact .inr h
    ·exact absurd ((Bc hb).trans (Bc h)) z
def oF (q:Bd)(K:Ak):Ap:=wV.all λx=>match Dp K x with
 |none=>true
 |some (_,T)=>((recsOf q).find? λe=>e.name == x).isSome&&((K.lookup T).isNone&&wV.all λy=>match Dp K y with
  |none=>true
  |some (_,U)=>x == y||!decide (T=U))
def F6 {q:Bd}{mean:ExcName→Al Ac}{h:Bm}{K:Ak}(T:Top q loose mean mg mb h)(X:K.In h)(c:oF q K=true):Tabs K h:=by
 unfold oF at c;have g:∀ x∈wV,∀ d U,Dp K x=Aa (d,U)→((recsOf q).find? λe=>e.name == x).isSome=true∧(K.lookup U).isNone=true∧(wV.all λy=>match Dp K y with
  |none=>true
  |some (_,V)=>x == y||!decide (U=V))=true:=λx hx d U e=>by
  have z:=Cu.mp c x hx;rw[e] at z;simpa only [Bn] using z
 refine⟨λx hx d U e=>?_,λx hx y hy d d' U e1 e2=>?_⟩
 ·obtain⟨z1,z2,_⟩:=g x hx d U e
  obtain⟨r,hr⟩:=Iq.mp z1;obtain⟨k1,k2⟩:=PySem.W.tab_of T X hr e;exact⟨k1,k2,by simpa using z2⟩
 ·have z:=Cu.mp (g x hx d U e1).2.2 y hy
  rw[e2] at z;simpa using z
def FB {l:Wb}{n k:Ah}{q:Bd}{loose:Ab Ar}{XP:(Ar→Al Ac)→Bm→Prop}{YP:Bw→Bm→Prop}{d:DefRec}{K:Params→Ak}{CX:Bw→CXT}{sp:Bw→Sp}{x:Ar}
  (hn:l.most=Aa n) (hn2:n≤sizeLine) (hdf:d.params.defaults=[]) (hr:Room k Ox) (ht:∀ p,oF q (K p)=true)
  (hY:∀ (w:Bw) (h:Bm),YP w h→(K w.params).In h)
  (F:∀ (w:Bw) (mg:Ar→Al Ac) (fa:Ad) (h:Bm),(K w.params).In h→h.Ns Ch mg→mg d.name=Aa (.ref fa) →
   ∃ fd:Fb,(∀ (s:Ag) (u:Ac),Ln s fd ⟨[u],[]⟩ [(x,u)]) ∧
    ∀ base:Bm,(K w.params).In base→base.Ns Ch mg→FnOk l.prog w (K w.params) mg base (CX w) k fa fd [x] (sp w))
  (hsp:∀ (w:Bw) (H:Hp) (a:Ad) (ns:Ab Ai),ns.length≤n→Tb0 (K w.params) H→SqX (K w.params) H a (ns.map V.int)→sp w [.ref a] H (λv _=>v=.bl true) λ_ _ _=>Fa)
  (hCX:∀ (w:Bw) (H:Hp) (s:Ag) (e:Ac) (s':Ag),CX w [] H s (λ_ _ _=>Fa) e s'→Fa) :
  Xi q loose XP YP l.row.toRowW d [] (λf vs=>Wi f vs):=by
 refine _A.attach_call hn hdf λw s₀ s₁ mg mb fa o pm cd doc a vs ns G Y ho hd hcd hmg hobj hints hlen hg=>?_;have KX:=hY w _ Y;obtain⟨fd,hb,hF⟩:=F w mg fa _ KX G.T.g hmg;exact VI KX G.T.g G.T.b G.T.builtins G.T.nolimit hg (let ⟨bm,ob,b1,b2,b3,b4,b5,b6⟩:=G.T.bmain;⟨bm,ob,b1,b2,b3,b4,b5,b6⟩) (F6 G.T KX (ht _)) hobj hints (Eb hlen hn2) hr hF hb (λH hT hS=>hsp w H a ns hlen hT hS) λH e s'=>hCX w H s₁ e s'
end _L
namespace _D
open PySem PySem.Spec PyProof.Rows _L
variable {K:Ak}{mg:Ar→Al Ac}
def SE {h:Bm}(X:K.In h)(G:h.Ns Ch mg){x:Ar}{st:Ej}{ps:Ab Ar}{f:Ad}{oc:Ac}{od an:Al Ad}{osl:Av (Al Ac)}{kV doc pm cdv ct:Ac}
  (a:Ds K Ch x=Aa (Aa (.ref f)))
  (l:K.lookup f=Aa ⟨oc,od,.func (Ga x x (yN st) (zS st) (qJ st) .none kV doc pm an cdv ct),osl⟩) (c:Je K cdv x=true) (k:En K (.ref f)=true)
  (hb:∀ (kV doc pm:Ac) (an:Al Ad) (cdv ct:Ac) (us:Ab Ac),us.length=ps.length→Pu (Ga x x (yN st) (zS st) (qJ st) .none kV doc pm an cdv ct) ⟨us,[]⟩=pure (ps.zip us)):Src K mg x st ps:=
 have F:=TM (st:=st) l c k
 ⟨f,_,Sm X G a,F,F.binds hb⟩
def r9 (K:Ak)(C:Ad):Ap:=
 decide (Kt K (.ref C) "__getattribute__" = Aa (Aa (.builtin "BaseException.__getattribute__")))&&decide (Kt K (.ref C) "__getattr__" = Aa none)
 && decide (Kt K (.ref C) "__class__" = Aa (Aa (.builtin "object.__class__")))&&decide (Rv K C (.type "object")=Aa true)&&decide (Rv K C (.type "BaseException")=Aa true)
 && (PySem.W.clsIn K C).isSome&&decide (Jd K (.ref C) (.type "ValueError")=Aa true)
def Y9 (K:Ak):Ap:=
 decide (T0 K (.builtin "object.__class__") "__get__" = Aa (Aa (.builtin "getset_descriptor.__get__")))&&decide (Vr K (.builtin "object.__class__")=Aa true)
def M2 (K:Ak)(cl:Ab Ad):Ap:=cl.all λC=>cl.all λB=>decide (Jd K (.ref C) (.ref B)=Aa (C == B))
def M4 {cl:Ab Ad}(h1:cl.all (r9 K)=true)(h2:Y9 K=true)(h3:M2 K cl=true):ClsK K cl:=by
 have g:=h2;unfold Y9 at g;simp only[Bn,Cd] at g;have k1:∀ C∈cl,r9 K C=true:=Cu.mp h1;refine⟨λC hC=>?_,λC hC B hB=>?_,λC hC=>?_⟩
 ·have e:=k1 C hC
  unfold r9 at e;simp only[Bn,Cd] at e;obtain⟨⟨⟨⟨⟨⟨e1,e2⟩,e3⟩,e4⟩,e5⟩,e6⟩,e7⟩:=e;exact⟨e1,e2,e3,g.1,g.2,e4,e5,e6⟩
 ·have e:=Cu.mp (Cu.mp h3 C hC) B hB
  exact Cq e
 ·have e:=k1 C hC
  unfold r9 at e;simp only[Bn,Cd] at e;exact e.2
def CD (K:Ak)(cs:Ab Ac)(A:Ad):Ap:=cs.all λv=>decide (Iu K v (.ref A)=Aa true)
def CB (K:Ak)(cs:Ab Ad)(A:Ad):Ap:=cs.all λC=>fR K C A
def CC (K:Ak)(cs:Ab Ad):Ap:=cs.all λC=>En K (.ref C)
def sL (K:Ak):Sp:=λvs H Q E=>Tb0 K H∧∃ a ns,vs=[.ref a]∧SqX K H a (List.map V.int ns)∧ns.length≤63∧∀ H',Q (.bl true) H'
def eY {P:Hp}{α:Ab Ad}:∀ ns:Ab Ai,qG K P α (ns.map D.int) (ns.map V.int)
 |[]=>.nil
 |n::ns=>.cons (by simp only[Rep]) (eY ns)
def noT (H:Hp):Hp:=λb=>match H b with
 |some (.tbl _)=>none
 |u=>u
def PF {P:Bd}{w:Bw}{fa:Ad}{st:Ej}{k:Ah}{x:Ar}(hs:Src K mg "law" st [x])(hfa:mg "law" = Aa (.ref fa))
  (hbd:∀ (kV doc pm:Ac) (an:Al Ad) (cdv ct:Ac) (s:Ag) (v:Ac),Ln s (Ga "law" "law" (yN st) (zS st) (qJ st) .none kV doc pm an cdv ct) ⟨[v],[]⟩ [(x,v)])
  (hall:∀ base:Bm,∃ F,sO P w K mg base true k "law" [x] F∧∀ ns:Ab Ai,ns.length≤63→∃ S,F [.lst (ns.map D.int)] [] = .ok (.bl true) S) :
  ∃ fd:Fb,(∀ (s:Ag) (v:Ac),Ln s fd ⟨[v],[]⟩ [(x,v)])∧∀ base:Bm,K.In base→base.Ns Ch mg→FnOk P w K mg base (CXd P w) k fa fd [x] (sL K):=by
 obtain⟨f,fd,hm,F,hb⟩:=hs;cases hfa.symm.trans hm;refine⟨fd,?_,λbase _ _=>?_⟩
 ·obtain⟨oc,od,kV,doc,pm,an,cdv,ct,osl,rfl,_,_⟩:=F.ex
  exact hbd kV doc pm an cdv ct
 ·obtain⟨G,⟨f',fd',hm',_,hb',hl,X⟩,hG⟩:=hall base
  cases hm.symm.trans hm';cases hl.one (bW F);refine(X.imp λvs H Q E h=>?_).ok;obtain⟨tb,a,ns,rfl,hS,hl,k⟩:=h;obtain⟨S,e⟩:=hG ns hl;have keep:∀ (b:Ad) (u:HO),H b=Aa u→(∀ ps,u≠.tbl ps)→noT H b=Aa u:=λb u q h=>by
   unfold noT;rw[q];cases u with
   |tbl ps=>exact absurd rfl (h ps)
   |_=>rfl
  have hS':SqX K (noT H) a (List.map V.int ns):=by
   rcases hS with (h|⟨o,h⟩)|h
   ·exact .inl (.inl (keep _ _ h λ_ z=>by cases z))
   ·exact .inl (.inr ⟨o,keep _ _ h λ_ z=>by cases z⟩)
   ·exact .inr h
  have sub:qI (noT H) H:=λb u q=>by
   unfold noT at q;cases z:H b with
   |none=>rw[z] at q;cases q
   |some v =>
    rw[z] at q;cases v with
    |tbl ps=>cases q
    |_=>exact q
  refine⟨rfl,noT H,[],[.lst (ns.map D.int)],[],⟨λx hx c T h=>⟨#[],tb x hx c T h,by unfold noT;rw[tb x hx c T h],by simp,trivial,λpos cv z=>by cases z⟩,sub,rfl,.nil,by simp,by simp,by simp⟩,.cons (lA hS' (eY ns)) .nil,?_⟩
  rw[e];intro v H' P' α' _ _ _ rv;simp only[Rep] at rv;subst rv;exact k H'
def HA {l:Wb}{q:Bd}{loose:Ab Ar}{XP:(Ar→Al Ac)→Bm→Prop}{YP:Bw→Bm→Prop}{d:DefRec}{K:Params→Ak}{k:Ah}{x:Ar}(hn:l.most=Aa 63)(hdf:d.params.defaults=[])(hr:Room k Ox)(ht:∀ p,oF q (K p)=true)
  (hY:∀ (w:Bw) (h:Bm),YP w h→(K w.params).In h)
  (F:∀ (w:Bw) (mg:Ar→Al Ac) (fa:Ad) (h:Bm),(K w.params).In h→h.Ns Ch mg→mg d.name=Aa (.ref fa) →
   ∃ fd:Fb,(∀ (s:Ag) (u:Ac),Ln s fd ⟨[u],[]⟩ [(x,u)])∧∀ base:Bm,(K w.params).In base→base.Ns Ch mg→FnOk l.prog w (K w.params) mg base (CXd l.prog w) k fa fd [x] (sL (K w.params))) :
  Xi q loose XP YP l.row.toRowW d [] (λf vs=>Wi f vs):=
 _L.FB (n:=63) (k:=k) (x:=x) (CX:=λw=>CXd l.prog w) (sp:=λw=>sL (K w.params)) hn (by decide) hdf hr ht hY F (λ_ _ a ns hl hT hS=>⟨hT,a,ns,rfl,hS,hl,λ_=>rfl⟩) λw H s e s' h=>by
  obtain⟨_,_,_,_,_,_,_,_,_,_,_,_,z⟩:=h;exact z
end _D
namespace _D
open PySem
variable {us:Ab Ac}
def us0 (h:us.length=0):us=[]:=Mq h
def usS {n:Ah}(h:us.length=n+1):∃ a vs,us=a::vs∧vs.length=n:=by
 cases us with
 |nil=>exact absurd h (by simp)
 |cons a vs=>exact⟨a,vs,rfl,by simpa using h⟩
def us1 (h:us.length=1):∃ a,us=[a]:=by
 obtain⟨a,vs,rfl,h'⟩:=usS h;exact⟨a,by rw[us0 h']⟩
def us2 (h:us.length=2):∃ a b,us=[a,b]:=by
 obtain⟨a,vs,rfl,h'⟩:=usS h;obtain⟨b,rfl⟩:=us1 h';exact⟨a,b,rfl⟩
def us3 (h:us.length=3):∃ a b c,us=[a,b,c]:=by
 obtain⟨a,vs,rfl,h'⟩:=usS h;obtain⟨b,c,rfl⟩:=us2 h';exact⟨a,b,c,rfl⟩
end _D
namespace _D
open PySem PySem.Spec PyProof.Rows _L
variable {us:Ab Ac}{caps:Ab D}{E Q:Ac→Ag→Prop}{c':Ad}{j:Ah}{oc:Cg}{sc:Eh}{H':Hp}{env:qD}
def JU (F:DF):∃ G:DF,G=F:=⟨F,rfl⟩
def sh (F:DF):DF:=OV (JU F)
def xP (F:DF):sh F=F:=Lv (JU F)
def isV:Al Gx→Ap
 |some .local => true
 |some .cell=>true
 |some .free=>true
 |_=>false
def isL:Al Gx→Ap
 |some .local => true
 |some .cell=>true
 |_=>false
def isG:Al Gx→Ap
 |some .globalImplicit=>true
 |_=>false
def okN (x:Ar):Ap:=!(x == ("__debug__" : Ar))&&(!(x == ("__classdict__" : Ar))&&!decide (x = "__name__"))
def okG (X:Cx)(x:Ar):Ap:=isG (X.env.kindOf x)&&okN x
def okB (v:Ac)(x:Ar):Ap:=decide (Fy x=Aa v)
def kJ (sc:Eh):Ab Ar:=sc.names.filterMap λy=>if isL (Aa y.2) then Aa y.1 else none
def v8 (sc:Eh):Ab Ar:=(sc.names.filterMap λy=>if isL (Aa y.2)&&!(y.1 == (".0" : Ar)) then Aa y.1 else none)++sc.names.filterMap λy=>if y.2 == .free then Aa y.1 else none
def Ck (b:Ap):Prop:=b=true
def ck {b:Ap}(h:b=true:=by kernel_rfl):Ck b:=h
structure DfS (F:DF)(P:Bd)(w:Bw)(K:Ak)(mg:Ar→Al Ac)(base:Bm)(cm:Ap)(k:Ah)(x:Ar)(n:Ah):Prop where
 get:Def P w K mg base cm k x n F
def okT (X:Cx)(m:Ah)(x:Ar):Ap:=decide (X.N[m]? = Aa x)&&(isL (X.env.scope.names.lookup x)&&(decide X.N.Nodup&&(X.fn x||decide (X.env.scope.names.lookup x=Aa .local))))
def okP (X:Cx)(m:Ah)(x:Ar):Ap:=decide (X.N[m]? = Aa x)&&decide (X.env.scope.names.lookup x=Aa .local)
def sC (scX:Eh)(NX:Ab Ar)(scope:Eh)(cap:Ab (Al Ah)):Ap:=
 decide (scope.kind=.function)&&(decide (∀ y∈scope.names,y.2=.local → scope.names.lookup y.1=Aa .local)&&(decide (∀ y∈scope.names,y.2=.cell→scope.names.lookup y.1=Aa .cell)&&(decide (∀ y∈scope.names,y.2=.free→scX.names.lookup y.1=Aa .cell∨scX.names.lookup y.1=Aa .free)
 && (decide (∀ y∈scope.names,y.2=.free→scope.names.lookup y.1=Aa .free)&&(decide (cap.length=(v8 scope).length)&&(((cap.zip (v8 scope)).all λp=>match p.1 with|none=>true|some i=>NX[i]? == Aa p.2&&scope.names.lookup p.2 == Aa .free)&&decide (v8 scope).Nodup))))))
def fnB (N P:Ab Ar)(sc:Eh):Ap:=
 decide (sc.kind=.function)&&(decide (sc.isCoroutine=false)&&(decide (sc.isGenerator=false)&&(decide N.Nodup&&(decide (N.take P.length=P)&&(decide (∀ x∈P,sc.names.lookup x=Aa .local ∨ sc.names.lookup x=Aa .cell)&&decide (∀ y∈sc.names,y.2≠.free))))))
def rB {scX:Eh}{NX:Ab Ar}{scope:Eh}{cap:Ab (Al Ah)}(h:sC scX NX scope cap=true):CompSc scX NX scope (v8 scope) cap:=by
 simp only[sC,Bn,Cd] at h;obtain⟨a,b,c,d,e,f,g,k⟩:=h;exact⟨a,b,c,d,e,f,g,k⟩
def rQ {N P:Ab Ar}(h:fnB N P sc=true):FnScope N P sc:=by
 simp only[fnB,Bn,Cd] at h;obtain⟨a,b,c,d,e,f,g⟩:=h;exact⟨a,b,c,d,e,f,g⟩
section
variable {X:Cx}{a b c e o elt tg iter:Bv}{ifs qK:Ab Bv}{f g:DS}{fa:DE}{f2:DI2}{dg:DG}{t:DT}{kk:DK}{gens grest:Ab Fc}{scope:Eh}{cap:Ab (Al Ah)}{mm:Ap}{l q:Ah}{y z:Ar}{G2':G2}{es:Ab Bv}{fA:DA}{x:Ar}{p pos:EQ}{cm:Ap}{k n m:Ah}{F:DF}
def aR (h:isV (sc.names.lookup x)=true):Vis sc x:=by
 unfold Vis
 revert h
 cases sc.names.lookup x with
 |none=>intro h;cases h
 |some y=>cases y <;> intro h <;> first|cases h;done|exact .inl rfl|exact .inr (.inl rfl)|exact .inr (.inr rfl)
def GS (h:isL (sc.names.lookup x)=true):_L.Loc sc x:=by
 unfold _L.Loc
 revert h
 cases sc.names.lookup x with
 |none=>intro h;cases h
 |some y=>cases y <;> intro h <;> first|cases h;done|exact .inl rfl|exact .inr rfl
def g9 (h:okN x=true):(x == ("__debug__" : Ar))=false∧(x == ("__classdict__" : Ar))=false∧x ≠ "__name__":=by
 unfold okN at h;rw[Bn,Bn] at h;exact⟨by simpa using h.1,by simpa using h.2.1,by simpa using h.2.2⟩
def wZ (h:okG X x=true):Gl X x∧(x == ("__debug__" : Ar))=false∧x ≠ "__name__":=by
 have h:=(Bn _ _).mp h;refine⟨?_,(g9 h.2).1,(g9 h.2).2.2⟩;have z:=h.1;unfold Gl
 revert z
 cases X.env.kindOf x with
 |none=>intro z;cases z
 |some y=>cases y <;> intro z <;> first|cases z;done|rfl
def eI (h:okT X m x=true):X.N[m]? = Aa x∧_L.Loc X.env.scope x∧X.N.Nodup∧(X.fn x=true∨X.env.scope.names.lookup x=Aa .local):=by
 simp only[okT,Bn,Cd,Mn] at h;exact⟨h.1,GS h.2.1,h.2.2⟩
def gA (h:okP X m x=true):X.N[m]? = Aa x∧X.env.scope.names.lookup x=Aa .local:=by
 simp only[okP,Bn,Cd] at h;exact h
def JA (h:Ck (okG X x)):Gl X x:=(wZ h).1
def aV (h:Ck (decide (X.N[m]? = Aa x)&&(isV (X.env.scope.names.lookup x)&&okN x))):QE X (.Name x pos) (qB m):=by
 unfold Ck at h;simp only[Bn,Cd] at h;exact D7 m h.1 (aR h.2.1) (g9 h.2.2).1 (g9 h.2.2).2.1
def aBt {nm:Do}(h:Ck (okG X x))(hm:X.mg x=none)(hb:Ck (okB (.type nm) x)):QE X (.Name x pos) (dC (.ty nm)):=
 have h:=wZ h
 BF h.1 hm (Cq hb) h.2.2 h.2.1
def aCl {C:Ad}(h:Ck (okG X x))(hm:X.mg x=Aa (.ref C)∧En X.K (.ref C)=true):QE X (.Name x pos) (dC (.obj C)):=
 have h:=wZ h
 LZ h.1 hm.1 hm.2 h.2.1
def aGi {v:Ai}(h:Ck (okG X x))(hm:∃ t,X.mg x=Aa (.int v t)):QE X (.Name x pos) (dC (.int v)):=
 have h:=wZ h
 BH h.1 hm h.2.1
abbrev St1 (X:Cx)(e:Bv)(es:Ab Bv)(pos:EQ):Prop:=Br (e::es) X.env=(false,eval e X.env)::Br es X.env∧(Gb pos (Br es X.env)).any (·.1)=false
def aN (G:DfS F X.prog X.w X.K X.mg X.base cm k x n)(hr:RoomC cm k X.A)(hF:Fn1 X)(h:Ck (okG X x))(ha:QA X (e::es) fA)(s:St1 X e es pos):QE X (.Call (.Name x p) (e::es) [] pos) (qE n F fA):=
 have h:=wZ h
 qcN G.1 hr hF h.1 ha h.2.1 s.1 s.2
def aO (G:DfS F X.prog X.w X.K X.mg X.base cm k x n)(hr:RoomC cm k X.A)(h:Ck (okG X x))(ha:QA X (e::es) fA)(s:St1 X e es pos):QE X (.Call (.Name x p) (e::es) [] pos) (qE n (okO F) fA):=
 have h:=wZ h
 qcO G.1 hr h.1 ha h.2.1 s.1 s.2
def aB {id:Do}(hc:ZCall X (.builtin id) F)(h:Ck (okG X x))(hm:X.mg x=none)(hb:Ck (okB (.builtin id) x))(ha:QA X (e::es) fA)(s:St1 X e es pos):QE X (.Call (.Name x p) (e::es) [] pos) (qH F fA):=
 have h:=wZ h
 U5 hc h.1 hm (Cq hb) ha h.2.2 h.2.1 s.1 s.2
def aT {T:Do}(hc:ZCall X (.type T) F)(h:Ck (okG X x))(hm:X.mg x=none)(hb:Ck (okB (.type T) x))(ha:QA X (e::es) fA)(s:St1 X e es pos):QE X (.Call (.Name x p) (e::es) [] pos) (qH F fA):=
 have h:=wZ h
 XW hc h.1 hm (Cq hb) ha h.2.2 h.2.1 s.1 s.2
def aC (S:Ck (sC X.env.scope X.N scope cap))(hc:X.calm=true)(hi:QI2 X tg iter f2)(hg:∀ cl C ex s₀ H₀,QG (zG X (v8 scope) scope cl C ex s₀ H₀) tg dg)(ht:∀ cl C ex s₀ H₀,QTs (zG X (v8 scope) scope cl C ex s₀ H₀) ifs t)
  (has:∀ g',(⟨tg,iter,ifs,0⟩::grest:Ab Fc)[0+1]? = Aa g'→g'.is_async=0)
  (he:∀ cl C ex s₀ H₀,QK (zG X (v8 scope) scope cl C ex s₀ H₀) (λacc=>xX elt (⟨tg,iter,ifs,0⟩::grest) scope pos 0 acc (zG X (v8 scope) scope cl C ex s₀ H₀).env) kk) (hs:∀ x,Fh iter X.env x=pure x) :
  QE X (.ListComp elt (⟨tg,iter,ifs,0⟩::grest) scope pos) (zQ mm cap f2 dg t kk):=U7 hc (rB S) hi hg ht has he hs
def aCs {py spos:EQ}(hsw:Kz (.ListComp elt (⟨tg,iter,ifs,0⟩::grest) scope pos) (Aa (.Name y py)) spos.line X.env=pure true)(S:Ck (sC X.env.scope X.N scope cap))(hN:Ck (okT X m y))(hc:X.calm=true)(hi:QI2 X tg iter f2)(hg:∀ cl C ex s₀ H₀,QG (zG X (v8 scope) scope cl C ex s₀ H₀) tg dg)(ht:∀ cl C ex s₀ H₀,QTs (zG X (v8 scope) scope cl C ex s₀ H₀) ifs t)
  (has:∀ g',(⟨tg,iter,ifs,0⟩::grest:Ab Fc)[0+1]? = Aa g'→g'.is_async=0)
  (he:∀ cl C ex s₀ H₀,QK (zG X (v8 scope) scope cl C ex s₀ H₀) (λacc=>xX elt (⟨tg,iter,ifs,0⟩::grest) scope pos 0 acc (zG X (v8 scope) scope cl C ex s₀ H₀).env) kk) (hs:∀ x,Fh iter X.env x=pure x) :
  QS X (.Assign [.Name y py] (.ListComp elt (⟨tg,iter,ifs,0⟩::grest) scope pos) spos) (qT (zQ mm cap f2 dg t kk) (gNm m)):=
 have h:=eI hN
 UA hc h.2.2.1 (rB S) hi hg ht has he h.1 h.2.1 h.2.2.2 hsw hs
def aNm (h:Ck (okT X m x)):QG X (.Name x pos) (gNm m):=
 have h:=eI h
 BK h.2.2.1 h.1 h.2.1 h.2.2.2
def aSt {pos':EQ}(hs:Kz e (Aa (.Name x pos')) pos.line X.env=pure false)(he:QE X e fa)(h:Ck (okT X m x)):QS X (.Assign [.Name x pos'] e pos) (qT fa (gNm m)):=
 have h:=eI h
 DM h.2.2.1 he h.1 h.2.1 hs h.2.2.2
def aP2 {px py pt:EQ} {kt k2 pt2} (h:Ck (decide X.N.Nodup&&(okP X m x&&(okP X l y&&!decide (m=l))))) (hc:X.calm=true) (ha:QA X [a,b] fA)
  (hw:Jn [.Tuple [.Name x px,.Name y py] kt pt] (.Tuple [a,b] k2 pt2) X.env=pure (Aa [x,y])) (hs:Jo [.Tuple [.Name x px,.Name y py] kt pt] (.Tuple [a,b] k2 pt2) pos.line X.env=pure false) :
  QS X (.Assign [.Tuple [.Name x px,.Name y py] kt pt] (.Tuple [a,b] k2 pt2) pos) (jR m l fA):=by
 unfold Ck at h;simp only[Bn,Cd,IV,Hk] at h;exact DJ hc h.1 ha (gA h.2.1).1 (gA h.2.2.1).1 h.2.2.2 (gA h.2.1).2 (gA h.2.2.1).2 hw hs
def aRs {C:Ad}{np cpos:EQ}(h:Ck (okG X x))(hc:X.calm=true)(hF:Fn1 X)(hm:∃ Ae,X.mg x=Aa (.ref C)∧fR X.K C Ae=true)(ha:QA X (e::qK) fA)(s:St1 X e qK cpos) :
  QS X (.Raise (Aa (.Call (.Name x np) (e::qK) [] cpos)) none pos) (vU (.ref C) fA):=
 have h:=wZ h
 let ⟨_,hm,hx⟩:=hm
 UB hc hF h.1 hm hx ha h.2.1 s.1 s.2
def aTr {nm:Ar}{body:Ab Ej}{b₀:Ej}{suite:Ab Ej}{np hpos:EQ}{cs:Ab Ac}(h:Ck (okG X x&&(okP X m nm&&(decide X.N.Nodup&&decide (X.N.length=n)))))(hF:Fn1 X)(hm:∃ C0,X.mg x=Aa (.ref C0)∧∀ c∈cs,Iu X.K c (.ref C0)=Aa true)(hb:∀ E pn,ZPass (Cx.tryIn X E pn)→QB (Cx.tryIn X E pn) body f)(hs:∀ e,QB (Cx.suite X e) (b₀::suite) g) :
  QS X (.Try body [.ExceptHandler (Aa (.Name x np)) (Aa nm) (b₀::suite) hpos] [] [] pos) (mC n m cs f g):=by
 unfold Ck at h;simp only[Bn,Cd] at h;obtain⟨C0,hm,hcs⟩:=hm;exact DN hF hb hs (wZ h.1).1 hm hcs h.2.2.1 (gA h.2.1).1 (gA h.2.1).2 (wZ h.1).2.1 h.2.2.2
end
structure TxS (K:Ak)(mg:Ar→Al Ac)(tp:Ah→Ej)(tab:Ab (Ar × Ah × Ab Ar))(bl:Ab Ar)(clt plt:Ab (Ar × Ad))(cs:Ab Ac)(exl:Ab Ad)(cst:Ab (Ar × Ai)):Prop where
 src:∀ (j:Ah) {x:Ar} {i:Ah} {ps:Ab Ar},tab[j]? = Aa (x,i,ps)→Src K mg x (tp i) ps
 nb:∀ {x:Ar},Ck (bl.contains x)→mg x=none
 cl:∀ {x:Ar} {C:Ad},clt.lookup x=Aa C→mg x=Aa (.ref C)∧En K (.ref C)=true
 rz:∀ {x:Ar} {C:Ad},plt.lookup x=Aa C→∃ Ae,mg x=Aa (.ref C)∧fR K C Ae=true
 ct:∃ C0,mg "FarError" = Aa (.ref C0)∧∀ c∈cs,Iu K c (.ref C0)=Aa true
 cls:ClsK K exl
 gi:∀ {x:Ar} {v:Ai},cst.lookup x=Aa v→∃ t,mg x=Aa (.int v t)
section
variable {K:Ak}{mg:Ar→Al Ac}{cm:Ap}{tp:Ah→Ej}{tab:Ab (Ar × Ah × Ab Ar)}{bl:Ab Ar}{clt plt:Ab (Ar × Ad)}{cs:Ab Ac}{exl:Ab Ad}{cst:Ab (Ar × Ai)}{x:Ar}{i m:Ah}{ps:Ab Ar}{F:DF}{g:DS}
def dq (P:Bd)(w:Bw)(base:Bm)(k j:Ah)(T:TxS K mg tp tab bl clt plt cs exl cst)(hj:tab[j]? = Aa (x,i,ps))(h:Ck (fnB (kJ (qJ (tp i))) ps (qJ (tp i))&&decide ((kJ (qJ (tp i))).length=m)))(hF:F=qX m g)
  (hb:∀ (f:Ad) (cdv:Ac) (A:Bt) (outer:Ab Hu) (s:Ag) (H:Hp) (E:XK),gG K x cdv→RoomC cm k (A.deeper (Ft x (qJ (tp i)) s.heap.objs.size f cdv)) →
   QB (cxC cm P w K mg base (kJ (qJ (tp i))) x (qJ (tp i)) f cdv A outer s H E) (zS (tp i)) g):DfS F P w K mg base cm (k+1) x ps.length:=by
 unfold Ck at h;simp only[Bn,Cd] at h;obtain⟨h,rfl⟩:=h;exact⟨hF▸CJ (T.src j hj) (rQ h) rfl hb⟩
def dqP {P:Bd}{w:Bw}{base:Bm}(k j:Ah)(T:TxS K mg tp tab bl clt plt cs exl cst)(hj:tab[j]? = Aa (x,i,ps))(h:Ck (fnB (kJ (qJ (tp i))) ps (qJ (tp i))&&decide ((kJ (qJ (tp i))).length=m)))
  (hb:∀ (f:Ad) (cdv:Ac) (A:Bt) (outer:Ab Hu) (s:Ag) (H:Hp) (E:XK),gG K x cdv→RoomC cm k (A.deeper (Ft x (qJ (tp i)) s.heap.objs.size f cdv)) →
   QB (cxC cm P w K mg base (kJ (qJ (tp i))) x (qJ (tp i)) f cdv A outer s H E) (zS (tp i)) g):sO P w K mg base cm (k+1) x ps (qX m g):=by
 unfold Ck at h;simp only[Bn,Cd] at h;obtain⟨h,rfl⟩:=h;exact RC (T.src j hj) (rQ h) rfl hb
end
def hv {a b:Prop}(f:a→b)(h:a):b:=f h
inductive SrcF (K:Ak)(x:Ar)(st:Ej)(ps:Ab Ar):Prop
 |mk {f:Ad} {oc:Ac} {od an:Al Ad} {osl:Av (Al Ac)} {kV doc pm cdv ct:Ac} (a:Ds K Ch x=Aa (Aa (.ref f)))
  (l:K.lookup f=Aa ⟨oc,od,.func (Ga x x (yN st) (zS st) (qJ st) .none kV doc pm an cdv ct),osl⟩) (c:Je K cdv x=true) (k:En K (.ref f)=true):SrcF K x st ps
def o3 (K:Ak)(tp:Ah→Ej):Ab (Ar × Ah × Ab Ar)→Prop
 |[]=>Op
 |(x,i,ps)::t=>SrcF K x (tp i) ps∧o3 K tp t
def BdF (tp:Ah→Ej):Ab (Ar × Ah × Ab Ar)→Prop
 |[]=>Op
 |(x,i,ps)::t=>(∀ (kV doc pm:Ac) (an:Al Ad) (cdv ct:Ac) (us:Ab Ac),us.length=ps.length→Pu (Ga x x (yN (tp i)) (zS (tp i)) (qJ (tp i)) .none kV doc pm an cdv ct) ⟨us,[]⟩=pure (ps.zip us))∧BdF tp t
def iY (K:Ak):Ab (Ar × Ad)→Prop
 |[]=>Op
 |(x,C)::t=>Ds K Ch x=Aa (Aa (.ref C))∧iY K t
def iZ (K:Ak):Ab (Ar × Ai)→Prop
 |[]=>Op
 |(x,v)::t=>(∃ k,Ds K Ch x=Aa (Aa (.int v k)))∧iZ K t
def CP:Al (Al Ac)→Ap
 |some none=>true
 |_=>false
section
variable {K:Ak}{h:Bm}{mg:Ar→Al Ac}{tp:Ah→Ej}
def iT (X:K.In h)(G:h.Ns Ch mg):∀ (tab:Ab (Ar × Ah × Ab Ar)),o3 K tp tab→BdF tp tab→∀ (j:Ah) {x:Ar} {i:Ah} {ps:Ab Ar},tab[j]? = Aa (x,i,ps)→Src K mg x (tp i) ps
 |[],_,_,_,_,_,_,e=>by cases e
 |(x,i,ps)::t,H,B,0,_,_,_,e=>by
  cases e;obtain⟨a,l,c,k⟩:=H.1;exact SE X G a l c k B.1
 |(x,i,ps)::t,H,B,j+1,_,_,_,e=>iT X G t H.2 B.2 j e
def yG {β:Type}{p:Ar→β→Prop}{x:Ar}{C:β}:∀ {l:Ab (Ar × β)},(∀ y∈l,p y.1 y.2)→l.lookup x=Aa C→p x C
 |[],_,e=>by cases e
 |(y,b)::t,H,e=>by
  rw[Ix] at e;cases q:x == y with
  |true =>
   rw[q] at e;cases e;rw[eq_of_beq q];exact H (y,_) (.head _)
  |false =>
   rw[q] at e;exact yG (λz hz=>H z (.tail _ hz)) e
def bL (X:K.In h)(G:h.Ns Ch mg):∀ {l:Ab (Ar × Ad)},iY K l→∀ y∈l,mg y.1=Aa (.ref y.2)
 |(x,C)::t,H,y,hy=>by
  rcases Bb.mp hy with rfl|hy
  ·exact Sm X G H.1
  ·exact bL X G H.2 y hy
def aE (X:K.In h)(G:h.Ns Ch mg):∀ {l:Ab (Ar × Ai)},iZ K l→∀ y∈l,∃ k,mg y.1=Aa (.int y.2 k)
 |(x,C)::t,H,y,hy=>by
  rcases Bb.mp hy with rfl|hy
  ·obtain⟨k,e⟩:=H.1
   exact⟨k,Sm X G e⟩
  ·exact aE X G H.2 y hy
def H8 {tab:Ab (Ar × Ah × Ab Ar)}{bl:Ab Ar}{clt plt:Ab (Ar × Ad)}{cs:Ab Ac}{exl:Ab Ad}{cst:Ab (Ar × Ai)}{far:Ad}(B:BdF tp tab)(hp:∀ y∈plt,y∈clt)(hf:clt.lookup ("FarError" : Ar)=Aa far)(X:K.In h)(G:h.Ns Ch mg)
  (s:o3 K tp tab) (z:(bl.all λx=>CP (Ds K Ch x))=true) (q:iY K clt) (g:iZ K cst) (e1:exl.all (r9 K)=true) (e2:Y9 K=true) (e3:M2 K exl=true) (e4:CD K cs far=true) (e5:CB K (plt.map (·.2)) far=true) (e6:CC K (clt.map (·.2))=true):TxS K mg tp tab bl clt plt cs exl cst where
 src:=iT X G tab s B
 nb:=λ{x} hx=>by
  have e:=Cu.mp z x (by simpa using Eu.mp hx)
  refine PySem.W.mg_none_of X G ?_
  revert e
  cases Ds K Ch x with
  |none=>intro e;cases e
  |some y=>cases y with
   |none=>intro _;rfl
   |some y=>intro e;cases e
 cl:=λh=>⟨yG (p:=λx C=>mg x=Aa (.ref C)) (bL X G q) h,yG (p:=λ_ C=>En K (.ref C)=true) (λy hy=>Cu.mp e6 y.2 (Sn hy)) h⟩
 rz:=λh=>⟨far,yG (p:=λx C=>mg x=Aa (.ref C)) (λy hy=>bL X G q y (hp y hy)) h,yG (p:=λ_ C=>fR K C far=true) (λy hy=>Cu.mp e5 y.2 (Sn hy)) h⟩
 ct:=⟨far,yG (p:=λx C=>mg x=Aa (.ref C)) (bL X G q) hf,λv hv=>Cq (Cu.mp e4 v hv)⟩
 cls:=M4 e1 e2 e3
 gi:=λh=>yG (p:=λx v=>∃ k,mg x=Aa (.int v k)) (aE X G g) h
end
structure LamT where
 qual:Ar
 params:Mk
 body:Bv
 scope:Eh
def wJ (sc:Eh):Ab Ar:=sc.names.filterMap λy=>if y.2 == .free then Aa y.1 else none
inductive CloAt (h:Bm)(H:Hp)(fs:Ab Ad)(L:LamT)(a:Ad)(cv:Ab V):Prop
 |mk (cl:Ab (Ar × Ad)) (pm ctv:Ac) (c:Ad) (oc:Cg) (ws:Av Ac) (t:Su) (o:h.get? a=Aa (Kf "<lambda>" L.qual L.params L.body L.scope cl pm c ctv)) (hc:H c=Aa (.frz oc (.frz oc (.own 0)))) (hd:oc.data=.fields ws) (ht:ws[1]? = Aa (.str L.qual t))
  (inj:∀ x y d,cl.lookup x=Aa d→cl.lookup y=Aa d→x=y) (cel:∀ x d,cl.lookup x=Aa d→H d=none∧∃ v,h.IsCell d v) (has:∀ x,L.scope.names.lookup x=Aa .free→∃ d,cl.lookup x=Aa d)
  (len:cv.length=(wJ L.scope).length) (val:∀ (j:Ah) x v,(wJ L.scope)[j]? = Aa x→cv[j]? = Aa v→∃ d u,cl.lookup x=Aa d∧qO v u∧h.IsCell d (Aa u)) (hn:H a=none) (hf:a ∉ fs):CloAt h H fs L a cv
def CloAt.at {X:Cx}{pins:Ab (Ad × Cg)}{σ:_L.St}{H:Hp}{s:Ag}{L:LamT}{a:Ad}{cv:Ab V}(C:CloAt X.s₀.heap X.H₀ X.fs L a cv)(F:Fn1 X)(I:Inv X pins σ H s):CloAt s.heap H (frs X.stack) L a cv:=by
 obtain⟨cl,pm,ctv,c,oc,ws,t,o,hc,hd,ht,inj,cel,has,len,val,hn,hf⟩:=C;have nx:∀ b,b ∉ X.ex:=λb=>by rw[F.1];simp
 have nf:∀ b o,X.s₀.heap.get? b=Aa o→b ∉ X.fs→b ∉ frs X.stack:=λb o e n z=>(F.mem.mp z).elim (Cc (Ba (Au e) I.ok.above)) n;have kc:∀ d v,X.H₀ d=none→X.s₀.heap.IsCell d v→s.heap.IsCell d v:=λd v h1 ⟨o,e,q⟩=>let ⟨_,z⟩:=I.base.any e h1 (nx d);⟨_,z,q⟩
 refine⟨cl,pm,ctv,c,oc,ws,t,I.base.keep a _ o hn hf (nx a),I.base.frzs _ _ _ hc,hd,ht,inj,λx d e=>?_,has,len,λj x v e1 e2=>?_,I.base.free a _ o hn (nx a),nf a _ o hf⟩
 ·obtain⟨h1,v,h3⟩:=cel x d e
  obtain⟨ob,e3,q⟩:=id h3;exact⟨I.base.free d ob e3 h1 (nx d),v,kc d v h1 h3⟩
 ·obtain⟨d,u,q1,q2,q3⟩:=val j x v e1 e2
  exact⟨d,u,q1,q2,kc d _ (cel x d q1).1 q3⟩
def VE (cm:Ap)(P:Bd)(w:Bw)(K:Ak)(mg:Ar→Al Ac)(base:Bm)(N:Ab Ar)(L:LamT)(cl:Ab (Ar × Ad))(f:Ad)(cd:Ac)(A:Bt)(outer:Ab Hu)(s:Ag)(H:Hp)(E:XK):Cx where
 prog:=P
 w:=w
 K:=K
 mg:=mg
 base:=base
 A:=A.deeper (Jh L.qual L.scope s.heap.objs.size f cd cl)
 N:=N
 s₀:=s
 H₀:=H
 env:=Jh L.qual L.scope s.heap.objs.size f cd cl
 outer:=outer
 stack:=Jh L.qual L.scope s.heap.objs.size f cd cl::outer
 ex:=[]
 calm:=cm
 fn:=λ_=>false
 pn:=[]
 xe:=xeL P w A (Jh L.qual L.scope s.heap.objs.size f cd cl) outer H s E
structure LamSc (L:LamT)(ps:Ab Ar):Prop where
 kind:L.scope.kind=.function
 co:L.scope.isCoroutine=false
 gen:L.scope.isGenerator=false
 nocell:∀ y∈L.scope.names,y.2≠.cell
 par:∀ x∈ps,L.scope.names.lookup x=Aa .local
 one:ps.length≤1
 fr:∀ x∈wJ L.scope,L.scope.names.lookup x=Aa .free
def tU (P:Bd)(w:Bw)(K:Ak)(mg:Ar→Al Ac)(base:Bm)(cm:Ap)(k:Ah)(L:LamT)(n:Ah)(G:Ab D→DF):Prop:=
 ∀ (A:Bt) (outer:Ab Hu) (s:Ag) (H:Hp) (us:Ab Ac) (ws cv:Ab V) (a:Ad) (P':Hp) (α : Ab Ad) (S:Sto) (caps ds:Ab D) (Q:VK) (E:XK),RoomC cm k A→Env0 P w K mg base A outer s H→CloAt s.heap H (frs outer) L a cv→Rel K H P' α S →
  qG K P' α caps cv→qG K P' α ds ws→qP ws us→ds.length=n→spR K P' α (G caps ds S) Q E→Ie (As P w) A (.call (.ref a) ⟨us,[]⟩) (CR (CXd P w) outer P w H s Q E) s
section
variable {P:Bd}{w:Bw}{K:Ak}{mg:Ar→Al Ac}{base:Bm}{cm:Ap}{L:LamT}{ps:Ab Ar}
def GQ {cl:Ab (Ar × Ad)}{f:Ad}{cd:Ac}{A:Bt}{outer:Ab Hu}{s:Ag}{H:Hp}{E:XK}{ws cv:Ab V}{h':Bm}{tk:Ah}(S:LamSc L ps)(hd:cm=true→A.handled=none)(e0:Env0 P w K mg base A outer s H)
  (inj:∀ x y d,cl.lookup x=Aa d→cl.lookup y=Aa d→x=y) (cel:∀ x d,cl.lookup x=Aa d→H d=none∧∃ v,s.heap.IsCell d v) (has:∀ x,L.scope.names.lookup x=Aa .free→∃ d,cl.lookup x=Aa d)
  (len:cv.length=(wJ L.scope).length) (val:∀ (j:Ah) x v,(wJ L.scope)[j]? = Aa x→cv[j]? = Aa v→∃ d u,cl.lookup x=Aa d∧qO v u∧s.heap.IsCell d (Aa u)) (hl:ws.length=ps.length) (r:qP ws us)
  (hns:h'.Ns s.heap.objs.size λy=>(ps.zip us).reverse.lookup y) (hk:∀ b o,s.heap.get? b=Aa o→h'.get? b=Aa o) :
  Inv (VE cm P w K mg base (ps++wJ L.scope) L cl f cd A outer s H E) [] ((ws++cv).map Aa) H { s with heap:=h',toks:=tk }:=by
 have kc:∀ d v,s.heap.IsCell d v→h'.IsCell d v:=λd v ⟨o,e,q⟩=>⟨o,hk d o e,q⟩;have no:∀ b:Ad,b ∉ ([]:Ab Ad):=λb=>by simp
 refine⟨⟨e0.mod,S.kind,rfl,rfl,Ax _,inj,λy hy=>?_,(λy c z=>nomatch z),hd,Mc e0.frames,.inr ⟨rfl,rfl⟩,λb z=>absurd z (no b),e0.bs,e0.bsz,λb _ _=>no b,λb z=>absurd z (no b),e0.funs,e0.frf⟩,
  rfl,e0.bare,Un.kept hk,⟨_,hns,λi y v h1 h2 h3=>?_⟩,λy c h=>?_,e0.hok.fresh (Ax _),λy c h=>(cel y c h).1,λp hp=>absurd (show p∈([]:Ab (Ad × Cg)) from hp) (by simp),e0.hok.kept hk,?_⟩
 ·rcases hy with hy|hy
  ·exact absurd rfl (S.nocell _ (Er hy))
  ·exact has y hy
 ·have h1:(ps++wJ L.scope)[i]? = Aa y:=h1
  rw[Dl] at h2;obtain⟨v',h2,e⟩:=De.mp h2;cases e;by_cases hi:i<ps.length
  ·rw[Bz hi] at h1
   rw[Bz (by rw[hl];exact hi)] at h2
   obtain⟨u,hu,rv⟩:=r.get h2;refine⟨u,rv,.inl ⟨S.par y (Cb h1),?_⟩⟩;have one:=S.one;cases ps with
   |nil=>cases h1
   |cons p t =>
    cases t with
    |cons _ _=>simp at one
    |nil =>
     have i0:i=0:=by simpa using hi
     subst i0;cases us with
     |nil=>cases hu
     |cons u' us =>
      cases h1;cases hu;simp
  ·rw[Ci (OR hi)] at h1
   rw[Ci (by rw[hl];exact OR hi),hl] at h2
   obtain⟨d,u,q1,q2,q3⟩:=val _ y v h1 h2;exact⟨u,q2,.inr ⟨.inr (S.fr y (Cb h1)),d,q1,kc d _ q3⟩⟩
 ·obtain⟨_,v,q⟩:=cel y c h
  exact⟨v,kc c v q⟩
 ·show _=(ps++wJ L.scope).length
  simp[hl,len]
def NA {k:Ah}{fe:DE}(S:LamSc L ps)(hb:∀ (cl:Ab (Ar × Ad)) (pm cdv ctv:Ac) (us:Ab Ac),us.length=ps.length→Pu (Wt "<lambda>" L.qual L.params L.body L.scope cl pm cdv ctv) ⟨us,[]⟩=pure (ps.zip us))
  (hbody:∀ (cl:Ab (Ar × Ad)) (f:Ad) (cd:Ac) (A:Bt) (outer:Ab Hu) (s:Ag) (H:Hp) (E:XK),RoomC cm k (A.deeper (Jh L.qual L.scope s.heap.objs.size f cd cl)) →
   QE (VE cm P w K mg base (ps++wJ L.scope) L cl f cd A outer s H E) L.body fe):tU P w K mg base cm (k+1) L ps.length λcaps ds S=>fe ((ds++caps).map Aa) S:=by
 intro A outer s H us ws cv a P' α St caps ds Q E hr e0 C r rc rd rv hn af;obtain⟨cl,pm,ctv,c,oc,vs,t,o,hc,hd,ht,inj,cel,has,len,val,hna,hf⟩:=C;have af:spR K P' α (fe ((ds++caps).map Aa) St) Q E:=af;have lim:s.heap.NoLimit:=e0.mod.nolimit.keeps λb o e=>(e0.bs b o e).1;have hul:us.length=ps.length:=by rw[← rv.length,← rd.length];exact hn
 have hloc:∀ y∈ps.zip us,L.scope.names.lookup y.1=Aa .local:=λy hy=>S.par _ (Jx hy).1;refine PySem.W.kla_callFunE hr.depth o rfl S.co S.gen rfl ⟨c,oc,vs,t,rfl,(e0.hok c _ hc).1,hd,ht⟩ ?_;rw[hb cl pm (.ref c) ctv us hul];refine Am (wpAny_newFunctionEnv S.nocell hloc (λh₁ hns hsb=>?_) S.kind);have hk₁:∀ b o,s.heap.get? b=Aa o→h₁.get? b=Aa o:=λb o e=>hsb.extBut b o (Cc (Au e)) (Aj _ e);refine⟨lim.keeps hk₁,?_⟩;show Ie _ _ (.expr L.body (Jh L.qual L.scope s.heap.objs.size a (.ref c) cl)) _ _;have I:=GQ (cm:=cm) (f:=a) (cd:=.ref c) (E:=E) (tk:=s.toks+(ps.zip us).length) S hr.hd e0 inj cel has len val (by rw[← rd.length];exact hn) rv hns hk₁
 have re:zE K P' α ((ws++cv).map Aa) ((ds++caps).map Aa):=by
  have z:=rd.append rc;refine⟨by simp[z.length,rd.length,rc.length],λi d e=>?_⟩
  rw[Dl] at e;obtain⟨d',e1,e2⟩:=De.mp e;cases e2;obtain⟨v,h1,h2⟩:=z.get e1;exact⟨v,by rw[Dl,h1];rfl,h2⟩
 refine PySem.W.kla_codeExpr (Fv ((hbody cl a (.ref c) A outer s H E (hr.deeper _)).1 [] _ _ H Q I ⟨P',α,_,St,r,re,?_⟩) (λu s' q=>?_) λ_ _ y=>y)
 ·cases z:fe ((ds++caps).map Aa) St with
  |ok d S'=>rw[z] at af;exact af
  |ex e x S'=>rw[z] at af;exact λu s' q=>rE (A:=A) rfl q λH' P1 α1 r1 e1 e2=>af H' P1 α1 r1 e1 e2
  |bad=>rw[z] at af;exact An af
 ·obtain⟨v,H',I',rv',q⟩:=q
  exact⟨v,H',I'.os,I'.bare,I'.base,I'.hok,rv',q⟩
end
open Classical in
def gN (i:Ah)(fa:DA)(a:Ad)(cv:Ab V)(n:Ah)(G:Ab D→DF):DE:=λenv S=>match env[i]? with
 |some (Aa (.clo b vs caps))=>if b=a∧vs=cv then (fa env S).bind λds S1=>if ds.length=n then G caps ds S1 else .bad else .bad
 |_=>.bad
section
variable {X:Cx}{cm:Ap}{k n i:Ah}{x:Ar}{p pos:EQ}{e:Bv}{es:Ab Bv}{fa:DA}{L:LamT}{G:Ab D→DF}{a:Ad}{cv:Ab V}
set_option tactic.hygienic true in
def KC {S:Sto}{P:Hp}{α:Ab Ad}{Ok:D→Sto→Prop}(h:qM X P α (gN i fa a cv n G env S) Ok):∃ caps,env[i]? = Aa (Aa (.clo a cv caps))∧qM X P α ((fa env S).bind λds S1=>if ds.length=n then G caps ds S1 else .bad) Ok:=by
 unfold gN at h
 split at h
 ·rename_i b vs caps e
  obtain⟨⟨rfl,rfl⟩,h1⟩:=wX h;exact⟨caps,e,h1⟩
 ·exact An h
def CK {h:Bm}{H:Hp}{fs:Ab Ad}(C:CloAt h H fs L a cv):PySem.W.FnAt a h:=by
 obtain⟨cl,pm,ctv,c,oc,ws,t,o,_⟩:=C;exact⟨_,_,_,_,o⟩
def KD {pins:Ab (Ad × Cg)}{σ:_L.St}{H P:Hp}{α:Ab Ad}{s:Ag}{Q:VK}{ws:Ab V}{ds:Ab D}{S:Sto}(LX:tU X.prog X.w X.K X.mg X.base cm k L n G)(hr:RoomC cm k X.A)(F:Fn1 X)(C:CloAt X.s₀.heap X.H₀ X.fs L a cv)
  (I:Inv X pins σ H s) (r:Rel X.K H P α S) (rc:qG X.K P α caps cv) (rp:qG X.K P α ds ws) (rv:qP ws us) (af:z9 X P α (if ds.length=n then G caps ds S else .bad) Q):Ao (As X.prog X.w) X.A (call (.ref a) us) (EP X pins σ Q) X.xe s:=by
 obtain⟨hn,af⟩:=wX af;exact fQ (λ_=>F) I af (LX X.A X.stack s H us ws cv a P α S caps ds Q _ hr I.env0 (C.at F I) r rc rp rv hn (cA af))
def NC {pins:Ab (Ad × Cg)}{σ:_L.St}{H P:Hp}{α:Ab Ad}{s:Ag}(hN:X.N[i]? = Aa x)(hv:Vis X.env.scope x)(hd:(x == ("__debug__" : Ar))=false)(hcd:(x == ("__classdict__" : Ar))=false)
  (I:Inv X pins σ H s) (re:zE X.K P α σ env) (he:env[i]? = Aa (Aa (.clo a cv caps))) (h:∀ s1,Inv X pins σ H s1→qG X.K P α caps cv→Q (.ref a) s1):Ao (As X.prog X.w) X.A (eval (.Name x p) X.env) Q X.xe s:=by
 obtain⟨v,e1,rp⟩:=re.2 i _ he;simp only[Rep] at rp;obtain⟨rfl,rc⟩:=rp;refine thn (XM hN hv hd hcd pins s σ H (λv H'=>v=.ref a∧H'=H) I ⟨_,e1,rfl,rfl⟩) λu s1 ⟨v,H1,I1,rv,z1,z2⟩=>?_;subst z1;subst z2;cases (show u=Cf a from rv)
 exact h s1 I1 rc
def KO (LX:tU X.prog X.w X.K X.mg X.base cm k L n G)(hr:RoomC cm k X.A)(F:Fn1 X)(C:CloAt X.s₀.heap X.H₀ X.fs L a cv)(hN:X.N[i]? = Aa x)(hv:Vis X.env.scope x)(hd:(x == ("__debug__" : Ar))=false)(hcd:(x == ("__classdict__" : Ar))=false) :
  PE X (.Call (.Name x p) [] [] pos) (tD X (gN i qC a cv n G)):=by
 intro pins s σ H Q I h;obtain⟨P,α,env,S,r,re,af⟩:=h;obtain⟨caps,e1,af⟩:=KC af;refine Gz (NC hN hv hd hcd I re e1 λs1 I1 rc=>?_);exact PySem.W.callWith_F0 (CK (C.at F I1)) (KD (us:=[]) LX hr F C I1 r rc .nil .nil af)
end
def cT {i:Ah}{c:Ac}(l:Ab Ac)(h:Js l):Js (l++[Gg i,Gg j,c]):=by
 fun_induction Js l with
 |case1=>simp[Js,Gg]
 |case2 _ _ _ _ _ qK ih=>simp only[Pc,Js];exact ih h
 |case3=>exact An h
set_option tactic.hygienic true in
def QU {pos:EQ}{i:Ah}{c v:Ac}(l:Ab Ac)(h:Js l)(e:Ml pos (l++[Gg i,Gg j,c])=Aa v):Ml pos l=Aa v∨v=c:=by
 fun_induction Js l with
 |case1 =>
  simp only[Ib,Ml,Gg] at e
  split at e
  ·exact .inr (Co e).symm
  ·cases e
 |case2 _ _ _ _ _ qK ih =>
  simp only[Pc,Ml] at e ⊢
  split at e
  ·rename_i hc;rw[Bg hc];exact .inl e
  ·rename_i hc;rw[Bc hc];exact ih h e
 |case3=>exact An h
def MOk.at {K:Ak}{H P:Hp}{α:Ab Ad}{a:Ad}(e:H' a=H a):∀ {o:MO},MOk K H P α a o→MOk K H' P α a o
 |.dead,_=>trivial
 |.lst _,⟨vs,q,r⟩=>⟨vs,e.trans q,r⟩
 |.dct _,⟨vs,q,r⟩=>⟨vs,e.trans q,r⟩
 |.ins _ _,⟨dx,vs,q,r⟩=>⟨dx,vs,e.trans q,r⟩
section
variable {X:Cx}{pins:Ab (Ad × Cg)}{σ : _L.St}{H P:Hp}{α : Ab Ad}{s:Ag}{S:Sto}{y:Ar}{c T:Ad}
def Rel.grown {ps:Av Ac}{ws:Av Ac}{t:Su}{i:Ah}(r:Rel X.K H P α S)(m:Mod X.K X.mg X.base)(hy:y∈wV)(ht:Dp X.K y=Aa (c,T))(e:H T=Aa (.tbl ps))(pn:P T=none)(an:T ∉ α)(ok:Js ps.toList)
  (cd:∀ pos cv,Ml pos ps.toList=Aa cv→∃ c oc vs t,cv=.ref c∧H c=Aa (.frz oc (.frz oc (.own 0)))∧oc.data=.fields vs∧vs[1]? = Aa (.str (y ++ ".<locals>." ++ "<lambda>") t)) (hn:H c'=none) (hd:oc.data=.fields ws) (hs:ws[1]? = Aa (.str (y ++ ".<locals>." ++ "<lambda>") t)) :
  Rel X.K (upd (upd H T (.tbl (ps++#[Gg i,Gg j,.ref c']))) c' (.frz oc (.frz oc (.own 0)))) P α S:=by
 have ne:T≠c':=qZ e hn;have go:∀ b u,b≠T→H b=Aa u→upd (upd H T (.tbl (ps++#[Gg i,Gg j,.ref c']))) c' (.frz oc (.frz oc (.own 0))) b=Aa u:=λb u h q=>by rw[qN (qZ q hn),qN h];exact q
 have nT:∀ b∈α,b≠T:=λb h z=>an (z▸h);have nc:∀ (k:Ah) b,α[k]? = Aa b→b≠c':=λk b h z=>r.own k b h (z▸hn);have at':∀ (k:Ah) b,α[k]? = Aa b→upd (upd H T (.tbl (ps++#[Gg i,Gg j,.ref c']))) c' (.frz oc (.frz oc (.own 0))) b=H b:=λk b h=>by rw[qN (nc k b h),qN (nT b (Cb h))]
 refine⟨λx hx d U hU=>?_,λb u q=>go b u (λz=>by rw[z,pn] at q;cases q) (r.sub b u q),r.len,r.nd,r.sep,λk b o h1 h2=>MOk.at (at' k b h1) (r.at' k b o h1 h2),λk b h=>by rw[at' k b h];exact r.own k b h⟩
 by_cases hT:U=T
 ·subst hT
  cases m.inj x hx y hy d c U hU ht;refine⟨_,by rw[qN ne];exact zB,pn,an,?_,λpos cv q=>?_⟩
  ·rw[Dn];exact cT _ ok
  ·rw[Dn] at q
   rcases QU _ ok q with q|q
   ·obtain⟨d,od,vs,t,a1,a2,a3⟩:=cd pos cv q
    exact⟨d,od,vs,t,a1,go d _ (λz=>by rw[z,e] at a2;cases a2) a2,a3⟩
   ·exact⟨c',oc,ws,t,q,zB,hd,hs⟩
 ·obtain⟨qs,e1,p1,a1,ok1,cd1⟩:=r.tb x hx d U hU
  exact⟨qs,go U _ hT e1,p1,a1,ok1,λpos cv q=>let ⟨d,od,vs,t,b1,b2,b3⟩:=cd1 pos cv q;⟨d,od,vs,t,b1,go d _ (λz=>by rw[z,e] at b2;cases b2) b2,b3⟩⟩
def Inv.pinned {a:Ad}{o:Cg}{h':Bm}{tk:Ah}(I:Inv X pins σ H' { s with heap:=h'.push o,toks:=tk })(ha:a=h'.objs.size)(hs:s.heap.objs.size≤h'.objs.size)(I0:Inv X pins σ H s)(hn:H' a=none)(hd:∀ v,o.data≠.cell v)(hfr:o.isFreed=false:=by rfl):Inv X ((a,o)::pins) σ H' { s with heap:=h'.push o,toks:=tk }:=by
 refine I.pins_of λp hp=>?_;rcases Bb.mp hp with rfl|hp
 ·subst ha
  exact⟨Bi _ hfr,hn,Gq (Ba I0.lt hs),I0.nofs hs,hd⟩
 ·exact I.pin p (Ca _ hp)
def VH {M:Ji}{params:Mk}{body:Bv}{scope:Eh}{lpos:EQ}{cl:Ab (Ar × Ad)}(I:Inv X pins σ H s)(r:Rel X.K H P α S)(hy:y∈wV)(ht:Dp X.K y=Aa (c,T))(hc:X.env.code=.ref c)(hq:X.env.qual=y ++ ".<locals>.")
  (hdef:Wp params X.env=([],[])) (hcl:OT scope X.env=pure cl)
  (h:∀ (a:Ad) (H':Hp) (s':Ag) (pm ctv:Ac) (c':Ad) (oc:Cg) (ws:Av Ac) (t:Su),Inv X ((a,Kf "<lambda>" (y ++ ".<locals>." ++ "<lambda>") params body scope cl pm c' ctv)::pins) σ H' s'→Rel X.K H' P α S →
   H' c'=Aa (.frz oc (.frz oc (.own 0)))→oc.data=.fields ws→ws[1]? = Aa (.str (y ++ ".<locals>." ++ "<lambda>") t)→Q (.ref a) s'):Ao M X.A (eval (.Lambda params body scope lpos) X.env) Q E s:=by
 obtain⟨ps,e,pn,an,ok,cd⟩:=r.tb y hy c T ht;have hP:s.heap.get? T=Aa (Jf ps):=I.hok T _ e;have hC:Qz s.heap c T:=(I.mod.code y hy c T ht).keeps I.bk;have hg:s.heap.Ns Ch X.mg:=I.mod.glob.keeps I.bk;have hgP:Ch≠T:=λz=>by
  obtain⟨o,es,ep,e1,d1,_⟩:=hg;rw[z,hP] at e1;cases e1;cases d1
 have hb:s.heap.BuiltinsAt X.mg T:=by
  obtain⟨bm,o,b1,b2,b3,b4,b5,b6⟩:=I.mod.bm;have b3':=I.bk _ _ b3;refine⟨bm,o,b1,b2,λz=>?_,λz=>?_,b3',b4,b5,b6⟩
  ·obtain⟨o',es,ep,e1,d1,_⟩:=hg
   rw[← z,b3'] at e1;cases e1;rw[b6] at d1;cases d1
  ·rw[z,hP] at b3';cases b3';cases b4
 refine PySem.W.kla_eval hdef ?_;rw[hq];cases hf:Ml lpos ps.toList with
 |none =>
  refine PySem.W.kla_makeFunction (mg:=X.mg) hcl I.ok.glob hg hc hC hP ok hf hgP hb λc' ctv h' tk hx hge hlt hrec htb=>?_;obtain⟨c2,oc,ws,t,z,hoc,hd,hs⟩:=hrec;cases z;have hn:H c'=none:=I.hok.fresh hge;have ne:T≠c':=qZ e hn;have hsz:s.heap.objs.size≤h'.objs.size:=Eb hge (Fz hlt)
  let o:=Kf "<lambda>" (y ++ ".<locals>." ++ "<lambda>") params body scope cl ((X.mg "__name__").getD .none) c' ctv
  have kp:∀ b u,b≠T→s.heap.get? b=Aa u→(h'.push o).get? b=Aa u:=λb u hb q=>Aj _ (hx b u hb q);have eT:(h'.push o).get? T=Aa (Jf (ps++#[Gg lpos.line,Gg lpos.col,.ref c'])):=Aj _ htb
  let H2:=upd (upd H T (.tbl (ps++#[Gg lpos.line,Gg lpos.col,.ref c']))) c' (.frz oc (.frz oc (.own 0)))
  have go:∀ b u,b≠T→H b=Aa u→H2 b=Aa u:=λb u h q=>by show upd _ _ _ b=_;rw[qN (qZ q hn),qN h];exact q
  have go0:∀ b,b≠T→b≠c'→H b=none→H2 b=none:=λb h h' q=>by show upd _ _ _ b=_;rw[qN h',qN h];exact q
  have nT:∀ b,H b=none→b≠T:=λb q z=>by rw[z,e] at q;cases q
  have eH:H2 T=Aa (.tbl (ps++#[Gg lpos.line,Gg lpos.col,.ref c'])):=by show upd _ _ _ T=_;rw[qN ne];exact zB
  have un:Un X.fs [] H H2 s.heap (h'.push o):=by
   refine⟨λb u q n _ _=>kp b u (nT b n) q,λb u q n _ _=>⟨u.slots,kp b u (nT b n) q⟩,λb u q n _=>go0 b (nT b n) (Cc (Ba (Au q) hge)) n,λb u q _=>?_,λb xs q=>go b _ (λz=>by rw[z,e] at q;cases q) q,λb u xs q=>go b _ (λz=>by rw[z,e] at q;cases q) q,λb qs q=>?_⟩
   ·by_cases hb:b=T
    ·rw[hb];exact⟨_,eT⟩
    ·exact⟨u,kp b u hb q⟩
   ·by_cases hb:b=T
    ·rw[hb,e] at q;cases q
     exact⟨_,by rw[hb];exact eH⟩
    ·exact⟨#[],by rw[go b _ hb q];simp⟩
  have hok:HOk X.prog X.w H2 (h'.push o):=λb u q=>by
   by_cases hb:b=c'
   ·have q':Aa (HO.frz oc (.frz oc (.own 0)))=Aa u:=by rw[← q,hb];exact zB.symm
    cases q';have z:(h'.push o).get? b=Aa oc:=by rw[hb];exact Aj _ hoc
    exact⟨z,z,_,z⟩
   ·by_cases hb2:b=T
    ·rw[hb2,eH] at q;cases q
     rw[hb2];exact eT
    ·have q':H b=Aa u:=by have q2:upd _ _ _ b=Aa u:=q;rw[qN hb,qN hb2] at q2;exact q2
     refine(I.hok b u q').stay (λd v hd q=>kp d v ?_ q) (λd q=>go d _ (λz=>by rw[z,e] at q;cases q) q) λd xs q=>go d _ (λz=>by rw[z,e] at q;cases q) q
     rcases hd with z|z
     ·rw[z];exact hb2
     ·intro w;rw[w,e] at z;cases z
  have I2:=I.un (t':=tk) un hok;refine h h'.objs.size H2 _ _ ctv c' oc ws t (Inv.pinned I2 rfl hsz I (go0 _ (λz=>?_) (Gq hlt) (I.hok.fresh hsz)) λv z=>by cases z) (r.grown I.mod hy ht e pn an ok cd hn hd hs) zB hd hs
  rw[← z] at e;exact absurd (Ba (I.hok.lt e) hsz) (Ei _)
 |some cv =>
  obtain⟨c',oc,ws,t,rfl,a2,a3,a4⟩:=cd lpos cv hf;refine PySem.W.kla_makeFunctionHit (mg:=X.mg) hcl I.ok.glob hg hc hC hP ok hf hb λctv h' tk hk hsz=>?_;have I2:=I.kept (t':=tk) (h':=h'.push (Kf "<lambda>" (y ++ ".<locals>." ++ "<lambda>") params body scope cl ((X.mg "__name__").getD .none) c' ctv)) λb u q=>Aj _ (hk b u q);exact h h'.objs.size H _ _ ctv c' oc ws t (Inv.pinned I2 rfl hsz I (I.hok.fresh hsz) λv z=>by cases z) r a2 a3 a4
end
def gK:Ab Ah→qD→Al (Ab D)
 |[],_=>Aa []
 |i::r,env=>match env[i]? with
  |some (Aa d)=>(gK r env).map (d::·)
  |_=>none
set_option tactic.hygienic true in
def cZ {K:Ak}{P:Hp}{α:Ab Ad}{σ:_L.St}(re:zE K P α σ env):∀ (cap:Ab Ah) (caps:Ab D),gK cap env=Aa caps→∃ cv,qG K P α caps cv∧cv.length=cap.length∧∀ (j i:Ah) v,cap[j]? = Aa i→cv[j]? = Aa v→σ[i]? = Aa (Aa v)
 |[],caps,h=>by cases h;exact⟨[],.nil,rfl,λj i v e=>by simp at e⟩
 |i::r,caps,h=>by
  unfold gK at h
  split at h
  ·rename_i d e
   obtain⟨ds,h1,rfl⟩:=De.mp h;obtain⟨cv,a1,a2,a3⟩:=cZ re r ds h1;obtain⟨v,b1,b2⟩:=re.2 i d e;refine⟨v::cv,.cons b2 a1,by simp[a2],λj k w e1 e2=>?_⟩
   cases j with
   |zero=>cases e1;cases e2;exact b1
   |succ j=>exact a3 j k w (by simpa using e1) (by simpa using e2)
  ·cases h
open Classical in
def uni (f:Ad→Ab V→Res D):Res D:=if ∀ a cv,f a cv=f 0 [] then f 0 [] else .bad
def SU {f:Ad→Ab V→Res D}{R:Res D}(h:∀ a cv,f a cv=R):uni f=R:=by
 unfold uni;rw[Bg λa cv=>(h a cv).trans (h 0 []).symm];exact h 0 []
set_option tactic.hygienic true in
def SS {f:Ad→Ab V→Res D}(h:uni f≠.bad)(a:Ad)(cv:Ab V):f a cv=uni f:=by
 unfold uni at h ⊢
 split at h
 ·rename_i z;rw[Bg z];exact z a cv
 ·exact absurd rfl h
def exO (nx:Ap)(R:Res D):Res D:=match nx,R with
 |true,.ex _ _ _=>.bad
 |_,R=>R
def wW (nx:Ap)(cap:Ab Ah)(n N:Ah)(fa:DA)(g:Ad→Ab V→DS):DE:=λenv S=>match gK cap env with
 |none=>.bad
 |some caps=>(fa env S).bind λds S1=>if ds.length+1=n then exO nx (uni λa cv=>qX N (g a cv) (.clo a cv caps::ds) S1) else .bad
def FO (P:Bd)(w:Bw)(K:Ak)(mg:Ar→Al Ac)(base:Bm)(cm:Ap)(k kl m:Ah)(x:Ar)(n N:Ah)(g:(Ab D→DF)→Ad→Ab V→DS):Prop:=
 ∃ f fd st Ns ps,ps.length=n∧Ns.length=N∧mg x=Aa (.ref f)∧Fun K x x st f fd∧uG K fd ps [] ∧ FnScope Ns ps (qJ st)∧∀ (L:LamT) (G:Ab D→DF) (a:Ad) (cv:Ab V),tU P w K mg base cm kl L m G →
  ∀ (cdv:Ac) (A:Bt) (outer:Ab Hu) (s:Ag) (H:Hp) (E:XK),CloAt s.heap H (frs outer) L a cv→RoomC cm k (A.deeper (Ft x (qJ st) s.heap.objs.size f cdv))→QB (cxC cm P w K mg base Ns x (qJ st) f cdv A outer s H E) (zS st) (g G a cv)
def pZ (scX:Eh)(NX:Ab Ar)(sc:Eh)(cap:Ab Ah):Ap:=decide ((wJ sc).length=cap.length)&&(cap.zip (wJ sc)).all λp=>NX[p.1]? == Aa p.2&&(scX.names.lookup p.2 == Aa .cell||scX.names.lookup p.2 == Aa .free)
section
variable {X:Cx}{pins:Ab (Ad × Cg)}{σ : _L.St}{H P:Hp}{α : Ab Ad}{s:Ag}{S:Sto}{y x:Ar}{c T:Ad}{params:Mk}{body:Bv}{scope:Eh}{lpos p pos:EQ}{es:Ab Bv}{fa:DA}{nx cm:Ap}{k kl m n N:Ah}{cap:Ab Ah}{G:Ab D→DF}{g:(Ab D→DF)→Ad→Ab V→DS}
def TH {R:Res D}{Ok:D→Sto→Prop}(h:qM X P α (exO nx R) Ok):R≠.bad∧qM X P α R Ok∧((∃ c x S',R=.ex c x S')→nx=false):=by
 cases R with
 |ok d S'=>exact⟨nofun,by cases nx <;> exact h,λ⟨_,_,_,z⟩=>nomatch z⟩
 |bad=>cases nx <;> exact An h
 |ex c x S' =>
  cases nx with
  |true=>exact An h
  |false=>exact⟨nofun,h,λ_=>rfl⟩
def Rel.know {K:Ak}(r:Rel K H P α S)(h:H c'=Aa (.frz oc (.frz oc (.own 0)))):Rel K H (upd P c' (.frz oc (.frz oc (.own 0)))) α S∧qI P (upd P c' (.frz oc (.frz oc (.own 0)))):=by
 have sP:qI P (upd P c' (.frz oc (.frz oc (.own 0)))):=λb u q=>by
  by_cases hb:b=c'
  ·have z:=r.sub b u q
   rw[hb,h] at z;cases z;rw[hb];exact zB
  ·rw[qN hb];exact q
 refine⟨⟨λx hx d T hT=>let ⟨ps,e,pn,an,ok,cd⟩:=r.tb x hx d T hT;⟨ps,e,(qN λ(z:T=c')=>by rw[z,h] at e;cases e).trans pn,an,ok,cd⟩,λb u q=>?_,r.len,r.nd,λi a o h1 h2 h3=>?_,λi a o h1 h2=>(r.at' i a o h1 h2).mono sP (Bo _),r.own⟩,sP⟩
 ·by_cases hb:b=c'
  ·rw[hb,zB] at q;cases q;rw[hb];exact h
  ·rw[qN hb] at q;exact r.sub b u q
 ·have hb:a≠c':=by
   rintro rfl;have z:=r.at' i a o h1 h2;cases o with
   |dead=>exact h3 rfl
   |lst ds=>obtain⟨vs,z,_⟩:=z;rw[h] at z;cases z
   |dct kvs=>obtain⟨vs,z,_⟩:=z;rw[h] at z;cases z
   |ins C fs=>obtain⟨dx,vs,z,_⟩:=z;rw[h] at z;cases z
  rw[qN hb];exact r.sep i a o h1 h2 h3
def dD {z:Ar × Gx}(h:z∈sc.names)(hk:z.2=.free):z.1∈wJ sc:=Hv.mpr ⟨z,h,by rw[hk];rfl⟩
set_option tactic.hygienic true in
def VW {z:Ar}(h:z∈wJ sc):(z,Fw)∈sc.names:=by
 obtain⟨⟨n,k⟩,h1,h2⟩:=Hv.mp h
 split at h2
 ·rename_i e
  have:k=Fw:=by simpa using e
  cases h2;subst this;exact h1
 ·cases h2
def nQ (hB:pZ X.env.scope X.N scope cap=true){j:Ah}{z:Ar}(h:(wJ scope)[j]? = Aa z):∃ i,cap[j]? = Aa i∧X.N[i]? = Aa z∧(X.env.scope.names.lookup z=Aa .cell∨X.env.scope.names.lookup z=Aa .free):=by
 simp only[pZ,Bn,Cd] at hB;obtain⟨hl,ha⟩:=hB;have hj:j<cap.length:=by rw[← hl];exact(AT.mp h).1
 have e:=Aq hj;have hz:(cap[j],z)∈cap.zip (wJ scope):=IW.mpr ⟨j,by rw[O1];exact⟨e,h⟩⟩
 have q:=Cu.mp ha _ hz;simp only[Bn,Mn,Lh] at q;exact⟨_,e,q.1,q.2⟩
def VG (hB:pZ X.env.scope X.N scope cap=true)(ok:X.Ok):OT scope X.env=pure (yB X.env.cells scope.names []):=pM λz hz hk=>by
 obtain⟨j,hj⟩:=IW.mp (dD hz hk);obtain⟨i,_,_,q⟩:=nQ hB hj;exact ok.has z.1 q
def jK (hB:pZ X.env.scope X.N scope cap=true)(ok:X.Ok){z:Ar}{d:Ad}(h:(yB X.env.cells scope.names []).lookup z=Aa d):X.env.cells.lookup z=Aa d:=by
 rcases kH _ _ h with h|⟨hm,hc⟩
 ·cases h
 ·obtain⟨j,hj⟩:=IW.mp (dD hm rfl)
  obtain⟨i,_,_,q⟩:=nQ hB hj;obtain⟨d',e⟩:=ok.has z q;rw[e,Ls] at hc;rw[e,hc]
def M3 {a:Ad}{ws:Av Ac}{t:Su}{pm ctv:Ac}{cv:Ab V}{s':Ag}(hB:pZ X.env.scope X.N scope cap=true)(I:Inv X ((a,Kf "<lambda>" (y ++ ".<locals>." ++ "<lambda>") params body scope (yB X.env.cells scope.names []) pm c' ctv)::pins) σ H' s')
  (hc:H' c'=Aa (.frz oc (.frz oc (.own 0)))) (hd:oc.data=.fields ws) (hs:ws[1]? = Aa (.str (y ++ ".<locals>." ++ "<lambda>") t)) (hl:cv.length=cap.length) (hv:∀ (j i:Ah) v,cap[j]? = Aa i→cv[j]? = Aa v→σ[i]? = Aa (Aa v)) :
  CloAt s'.heap H' (frs X.stack) ⟨y ++ ".<locals>." ++ "<lambda>",params,body,scope⟩ a cv:=by
 obtain⟨e1,n1,n2,n3,_⟩:=I.pin _ (Ca _ (.head _));refine⟨_,pm,ctv,c',oc,ws,t,e1,hc,hd,hs,λz z' d h1 h2=>I.ok.inj z z' d (jK hB I.ok h1) (jK hB I.ok h2),λz d h=>⟨I.freeC z d (jK hB I.ok h),I.cell z d (jK hB I.ok h)⟩,λz hz=>jX _ _ (.inl (Er hz)),?_,λj z v h1 h2=>?_,n1,λz=>?_⟩
 ·simp only[pZ,Bn,Cd] at hB
  rw[hl,← hB.1]
 ·obtain⟨i,q1,q2,q3⟩:=nQ hB h1
  obtain⟨m,hm,hlk⟩:=I.loc;obtain⟨u,ru,lk⟩:=hlk i z v q2 (hv j i v q1 h2) (q3.elim (λk=>.inr (.inl k)) λk=>.inr (.inr k));rcases lk with⟨kl,_⟩|⟨_,d,hcl,hcell⟩
  ·have kl':X.env.scope.names.lookup z=Aa .local:=kl
   rcases q3 with k|k <;> (rw[kl'] at k;cases k)
  ·obtain⟨d',hd'⟩:=jX (cells:=X.env.cells) scope.names [] (.inl (VW (Cb h1)))
   have:=jK hB I.ok hd';rw[hcl] at this;cases this;exact⟨d,u,hd',ru,hcell⟩
 ·rcases Bb.mp (I.stkSub a z) with z|z
  ·exact n2 z
  ·exact n3 z
def YI (D:FO X.prog X.w X.K X.mg X.base cm k kl m x n N g)(LX:tU X.prog X.w X.K X.mg X.base cm kl ⟨y ++ ".<locals>." ++ "<lambda>",params,body,scope⟩ m G)(hr:RoomC cm (k+1) X.A)(hF:nx=false→Fn1 X)(hg:Gl X x)(hdb:(x == ("__debug__" : Ar))=false)
  (hy:y∈wV) (ht:Dp X.K y=Aa (c,T)) (hc:X.env.code=.ref c) (hq:X.env.qual=y ++ ".<locals>.") (hdef:Wp params X.env=([],[])) (hB:pZ X.env.scope X.N scope cap=true) (ha:PA X es (tDA X fa))
  (he:Br (.Lambda params body scope lpos::es) X.env=(false,eval (.Lambda params body scope lpos) X.env)::Br es X.env) (hpl:(Gb pos (Br es X.env)).any (·.1)=false) :
  PE X (.Call (.Name x p) (.Lambda params body scope lpos::es) [] pos) (tD X (wW nx cap n N fa (g G))):=by
 intro pins s σ H Q I h;obtain⟨P,α,env,S,r,re,af⟩:=h;obtain⟨f,fd,st,Ns,ps,hn,hN,hm,F,hb,hS,hbody⟩:=D;subst hn;subst hN;have af:qM X P α (match gK cap env with
  |none=>.bad
  |some caps=>(fa env S).bind λds S1=>if ds.length+1=ps.length then exO nx (uni λa cv=>qX Ns.length (g G a cv) (.clo a cv caps::ds) S1) else .bad) (OkV X P α Q):=af
 cases hcap:gK cap env with
 |none=>rw[hcap] at af;exact An af
 |some caps =>
  rw[hcap] at af;obtain⟨cv,rc,hcl,hv⟩:=cZ re cap caps hcap;refine Gz (j6 I hg hm ?_ hdb);refine Nu (h₀:=X.base) I.ok.mod.kin F.kp ?_ he hpl;rw[he];show Ao _ _ (spliced ((false,eval (.Lambda params body scope lpos) X.env)::Gb pos (Br es X.env))) _ _ s;refine Kk (VH I r hy ht hc hq hdef (VG hB I.ok) λa H1 s1 pm ctv c' oc ws t I1 r1 hc' hd hs=>?_);obtain⟨rk,sk⟩:=Rel.know r1 hc';refine thn (yW ha I1 rk (re.mono sk (Bo _)) (z9.base sk (Bo _) af) pos) λus s2 ⟨vs,H2,P2,α2,ds,S2,I2,rv,r2,re2,rp,q1,q2,af2⟩=>⟨I2.kIn,?_⟩;obtain⟨hl,af3⟩:=wX af2;obtain⟨nb,af4,nf⟩:=TH af3;have e1:=SS nb a cv;rw[← e1] at af4 nf;have C:=M3 hB I2 (r2.sub _ _ (q1 _ _ zB)) hd hs hcl hv;have I3:Inv X pins σ H2 s2:=I2.pins_of λp hp=>I2.pin p (Ca _ (Bu _ hp));obtain⟨oc',od,kV,doc,pm',an,cdv,ct,osl,rfl,lk,hcd⟩:=F.ex;have hz:(Cf a::us).length=ps.length:=by rw[← hl,rp.length,rv.length];rfl
  have hb':=hb s2 (.ref a::us) I2.kIn (by rw[Fm];exact hz)
  rw[Fm] at hb';have rc2:=qG.mono (sk.trans q1) q2 _ _ rc;have af5:=z9.base q1 q2 af4;have rv2:qP (V.ref a::vs) (Cf a::us):=.cons rfl rv;exact fQ (λz=>hF (nf z)) I3 af5 (ZQ lk hcd hS (by rw[← hz];exact rv2.length) hr I3.env0 hb' rv2 (sU (hbody _ G a cv LX cdv X.A X.stack s2 H2 _ C (hr.deeper _)).1 r2 (.cons (by simp only[Rep];exact⟨trivial,rc2⟩) rp) (cA af5)))
end
section
variable {X:Cx}{pins:Ab (Ad × Cg)}{σ : _L.St}{H P:Hp}{α : Ab Ad}{s:Ag}{S:Sto}
def gR:DF:=λds S=>match ds with
 |[d,.tup [.ty b,.ty c]]=>if wM b=true∧wM c=true then match tyD d S with
   |some a=>.ok (.bl (zO a b||zO a c)) S
   |none=>.bad
  else .bad
 |_=>.bad
inductive KitAt (X:Cx)(u:Ac)(t:Ac)(h:Bm):Prop
 |mk (Hh:Bm→Prop) (Z:PySem.W.KitX X.K u t Hh) (p:Hh h) (ne:u≠.builtin "__main__.__loader__#opaque"):KitAt X u t h
def N8 {v:V}{u:Ac}{d:D}{a:Do}(I:Inv X pins σ H s)(r:Rel X.K H P α S)(q:qO v u)(p:Rep X.K P α d v)(ha:tyD d S=Aa a):KitAt X u (.type a) s.heap:=by
 cases JY r p ha with
 |tup p' ws e sq ea =>
  subst e ea;cases (show u=Cf p' from q)
  obtain⟨its,rv',⟨o,h1,h2,_⟩,_⟩:=I.tuple sq;exact⟨_,Kj,⟨o,h1,h2⟩,λz=>nomatch z⟩
 |lst p' ws e sq ea =>
  subst e ea;cases (show u=Cf p' from q)
  obtain⟨its,rv',⟨o,_,h1,h2,_⟩,_⟩:=I.list sq;exact⟨_,Ic,⟨o,h1,h2⟩,λz=>nomatch z⟩
 |of ty =>
  cases ty with
  |non=>cases (show u=Dj from q);exact⟨_,TD,Hc,λz=>nomatch z⟩
  |bl y=>cases (show u=Fn y from q);exact⟨_,TW,Hc,λz=>nomatch z⟩
  |int i=>obtain⟨t,q⟩:=(show ∃ t,u=Me i t from q);cases q;exact⟨_,Uw,Hc,λz=>nomatch z⟩
  |str y=>obtain⟨t,q⟩:=(show ∃ t,u=Qn y t from q);cases q;exact⟨_,Ux,Hc,λz=>nomatch z⟩
  |flt y=>cases d <;> first|(exact nn ha)|(simp only[Rep] at p;cases p;done)|(simp only[Rep] at p;obtain⟨_,p⟩:=p;cases p.1;done)|(simp only[Rep] at p;obtain⟨_,_,p⟩:=p;cases p.1;done)
  |@lst b xs ea =>
   cases (show u=Cf b from q)
   obtain⟨_,_,n,_,h1⟩:=(show zK X.prog X.w H s.heap b (.lst xs) from I.hok b _ ea)
   exact⟨_,Ic,⟨_,h1,rfl⟩,λz=>nomatch z⟩
  |@frz b ob xs ea =>
   cases (show u=Cf b from q)
   obtain⟨_,_,_,n,_,h1⟩:=(show zK X.prog X.w H s.heap b (.frz ob (.lst xs)) from I.hok b _ ea)
   exact⟨_,Ic,⟨_,h1,rfl⟩,λz=>nomatch z⟩
  |@tup b xs ea =>
   cases (show u=Cf b from q)
   obtain⟨_,_,_,p⟩:=(show zK X.prog X.w H s.heap b (.tup xs) from I.hok b _ ea)
   obtain⟨o,h1,h2,_⟩:=p;exact⟨_,Kj,⟨o,h1,h2⟩,λz=>nomatch z⟩
  |@dK b kvs ea =>
   cases (show u=Cf b from q)
   obtain⟨_,_,vs,_,p⟩:=(show zK X.prog X.w H s.heap b (.dK kvs) from I.hok b _ ea)
   obtain⟨o,es,ep,h1,h2,_⟩:=p;exact⟨_,Kx,⟨o,h1,h2.1⟩,λz=>nomatch z⟩
  |@dT b kvs ea =>
   cases (show u=Cf b from q)
   obtain⟨_,_,xs,_,o,es,ep,h1,h2,_⟩:=(show zK X.prog X.w H s.heap b (.dT kvs) from I.hok b _ ea)
   exact⟨_,Kx,⟨o,h1,h2.1⟩,λz=>nomatch z⟩
set_option tactic.hygienic true in
def V9 {ds:Ab D}{Ok:D→Sto→Prop}(h:qM X P α (gR ds S) Ok):∃ d b c a,ds=[d,.tup [.ty b,.ty c]]∧wM b=true∧wM c=true∧tyD d S=Aa a∧Ok (.bl (zO a b||zO a c)) S:=by
 unfold gR at h
 split at h
 ·rename_i d b c
  obtain⟨⟨h1,h2⟩,h⟩:=wX h
  split at h
  ·rename_i a ha
   exact⟨d,b,c,a,rfl,h1,h2,ha,h⟩
  ·exact An h
 ·exact An h
def K8:wN X (.builtin "isinstance") gR:=by
 intro pins σ H s P α S vs us ds Q I r rv rp af;obtain⟨d,b,c,a,rfl,hb,hc,ha,ok⟩:=V9 af;obtain⟨v,w,u,x,rfl,rfl,p,p',q,q'⟩:=kE rp rv;simp only[Rep] at p';obtain⟨tp,ws,rfl,sq,t⟩:=p';obtain⟨w1,ws1,rfl,z1,t⟩:=t.cons_inv;obtain⟨w2,ws2,rfl,z2,t⟩:=t.cons_inv;cases t.nil_inv;simp only[Rep] at z1 z2;subst z1 z2;cases (show x=Cf tp from q')
 obtain⟨its,rvi,⟨o,h1,h2,n,h3⟩,_⟩:=I.tuple (wH r.sub sq);obtain⟨i1,i2,rfl,y1,y2⟩:=sN rvi;cases (show i1=Ha b from y1)
 cases (show i2=Ha c from y2)
 obtain⟨Hh,Z,hp,ne⟩:=N8 I r q p ha;obtain⟨oc,od,odt,osl⟩:=o;cases h2;cases h3;have k1:=nO (K:=X.K) (cF ha) hb;have k2:=nO (K:=X.K) (cF ha) hc;refine PySem.W.kia_tup (its:=[.type b,.type c]) (b:=zO a b||zO a c) Z I.kIn hp h1 ?_ ne λtk=>⟨.bl _,H,I.tok tk,rfl,xr ok r (by simp only[Rep])⟩
 cases z:zO a b with
 |true=>rw[z] at k1;simp only[Ri,k1];rfl
 |false =>
  rw[z] at k1;cases z':zO a c with
  |true=>rw[z'] at k2;simp only[Ri,k1,k2];rfl
  |false=>rw[z'] at k2;simp only[Ri,k1,k2];rfl
end
def okV (X:Cx)(i:Ah)(x:Ar):Ap:=decide (X.N[i]? = Aa x)&&(isV (X.env.scope.names.lookup x)&&okN x)
def gX (fe:DE):Ab D→DF:=λcaps ds S=>fe ((ds++caps).map Aa) S
def VF (sc:Eh)(ps:Ab Ar):Ap:=decide (sc.kind=.function)&&(decide (sc.isCoroutine=false)&&(decide (sc.isGenerator=false)&&(decide (∀ y∈sc.names,y.2≠.cell)&&(decide (∀ x∈ps,sc.names.lookup x=Aa .local)&&decide (∀ x∈wJ sc,sc.names.lookup x=Aa .free)))))
structure LmX (G:Ab D→DF)(P:Bd)(w:Bw)(K:Ak)(mg:Ar→Al Ac)(base:Bm)(cm:Ap)(k:Ah)(L:LamT)(n:Ah):Prop where
 get:tU P w K mg base cm k L n G
structure DfL (g:(Ab D→DF)→Ad→Ab V→DS)(P:Bd)(w:Bw)(K:Ak)(mg:Ar→Al Ac)(base:Bm)(cm:Ap)(k kl m:Ah)(x:Ar)(n N:Ah):Prop where
 get:FO P w K mg base cm k kl m x n N g
structure ClA (X:Cx)(L:LamT)(a:Ad)(cv:Ab V):Prop where
 get:CloAt X.s₀.heap X.H₀ X.fs L a cv
structure LmK (X:Cx)(y:Ar):Prop where
 get:y∈wV∧gG X.K y X.env.code∧X.env.qual=y ++ ".<locals>." ∧ ∃ c T,Dp X.K y=Aa (c,T)
section
variable {X:Cx}{cm nx:Ap}{k kl m n N i:Ah}{x y:Ar}{p pos lpos:EQ}{e:Bv}{es:Ab Bv}{fA:DA}{fe:DE}{L:LamT}{G:Ab D→DF}{a:Ad}{cv:Ab V}{g:(Ab D→DF)→Ad→Ab V→DS}{Fs:FnL}{cap:Ab Ah}{params:Mk}{body:Bv}{scope:Eh}
def NV (h:Ck (okV X i x)):X.N[i]? = Aa x∧Vis X.env.scope x∧(x == ("__debug__" : Ar))=false∧(x == ("__classdict__" : Ar))=false:=by
 unfold Ck okV at h;simp only[Bn,Cd] at h;exact⟨h.1,aR h.2.1,(g9 h.2.2).1,(g9 h.2.2).2.1⟩
def aK0 (LX:LmX G X.prog X.w X.K X.mg X.base cm k L n)(C:ClA X L a cv)(hr:RoomC cm k X.A)(F:Fn1 X)(h:Ck (okV X i x)):QE X (.Call (.Name x p) [] [] pos) (gN i qC a cv n G):=
 have h:=NV h
 ⟨KO LX.1 hr F C.1 h.1 h.2.1 h.2.2.1 h.2.2.2⟩
def CV {ps:Ab Ar}{q:Ar}(h:Ck (VF scope ps))(one:ps.length≤1):LamSc ⟨q,params,body,scope⟩ ps:=by
 unfold Ck at h;simp only[VF,Bn,Cd] at h;obtain⟨a,b,c,d,e,f⟩:=h;exact⟨a,b,c,d,e,one,f⟩
def HS (D:DfL g X.prog X.w X.K X.mg X.base cm k (kl+1) 0 x n N)(M:LmK X y)(hr:RoomC cm (k+1) X.A)(hF:nx=false→Fn1 X)(h:Ck (okG X x&&pZ X.env.scope X.N scope cap))(hs:Ck (VF scope []))(hdef:Wp params X.env=([],[]))
  (hb:∀ (q:Ar) (b:Bv) (cl:Ab (Ar × Ad)) (pm cdv ctv:Ac),Pu (Wt "<lambda>" q params b scope cl pm cdv ctv) ⟨[],[]⟩ = pure [])
  (hbody:∀ (cl:Ab (Ar × Ad)) (f:Ad) (cd:Ac) (A:Bt) (outer:Ab Hu) (s:Ag) (H:Hp) (E:XK),RoomC cm kl (A.deeper (Jh (y ++ ".<locals>." ++ "<lambda>") scope s.heap.objs.size f cd cl)) →
   QE (VE cm X.prog X.w X.K X.mg X.base ([] ++ wJ scope) ⟨y ++ ".<locals>." ++ "<lambda>",params,body,scope⟩ cl f cd A outer s H E) body fe)
  (ha:QA X es fA) (s:St1 X (.Lambda params body scope lpos) es pos):QE X (.Call (.Name x p) (.Lambda params body scope lpos::es) [] pos) (wW nx cap n N fA (g (gX fe))):=by
 unfold Ck at h;rw[Bn] at h;obtain⟨m1,m2,m3,c,T,m4⟩:=M.1;have hg:=wZ h.1;exact⟨YI D.1 (NA (ps:=[]) (CV hs (by decide)) (λcl pm cdv ctv us hl=>by cases us with|nil=>exact hb _ _ _ _ _ _|cons _ _=>cases hl) hbody) hr hF hg.1 hg.2.1 m1 m4 (m2 c T m4) m3 hdef h.2 ha.1 s.1 s.2⟩
def ClA.tr {pn:Ab (Ad × Cg)}(h:ClA X L a cv):ClA (Cx.tryIn X E pn) L a cv:=⟨h.1⟩
def lmK {ls:Ab Ar}(h:(ls.all λy=>(Dp X.K y).isSome)=true)(hc:gG X.K y X.env.code)(hy:Ck (ls.contains y&&wV.contains y))(hq:X.env.qual=y ++ ".<locals>."):LmK X y:=by
 unfold Ck at hy;rw[Bn] at hy;obtain⟨⟨c,T⟩,e⟩:=Iq.mp (Cu.mp h y (by simpa using hy.1))
 exact⟨by simpa using hy.2,hc,hq,c,T,e⟩
def WS:ZCall X (.builtin "isinstance") gR:=⟨K8⟩
end
section
variable {P:Bd}{w:Bw}{K:Ak}{mg:Ar→Al Ac}{base:Bm}{cm:Ap}{tp:Ah→Ej}{tab:Ab (Ar × Ah × Ab Ar)}{bl:Ab Ar}{clt plt:Ab (Ar × Ad)}{cs:Ab Ac}{exl:Ab Ad}{cst:Ab (Ar × Ai)}{x:Ar}{i:Ah}{ps:Ab Ar}{N:Ah}
def dqL {g:(Ab D→DF)→Ad→Ab V→DS}(P:Bd)(w:Bw)(base:Bm)(k kl m j:Ah)(T:TxS K mg tp tab bl clt plt cs exl cst)(hj:tab[j]? = Aa (x,i,ps))(h:Ck (fnB (kJ (qJ (tp i))) ps (qJ (tp i))&&decide ((kJ (qJ (tp i))).length=N)))
  (hb:∀ (L:LamT) (G:Ab D→DF) (a:Ad) (cv:Ab V),LmX G P w K mg base cm kl L m→∀ (f:Ad) (cdv:Ac) (A:Bt) (outer:Ab Hu) (s:Ag) (H:Hp) (E:XK),ClA (cxC cm P w K mg base (kJ (qJ (tp i))) x (qJ (tp i)) f cdv A outer s H E) L a cv→RoomC cm k (A.deeper (Ft x (qJ (tp i)) s.heap.objs.size f cdv)) →
   QB (cxC cm P w K mg base (kJ (qJ (tp i))) x (qJ (tp i)) f cdv A outer s H E) (zS (tp i)) (g G a cv)):DfL g P w K mg base cm k kl m x ps.length N:=by
 unfold Ck at h;simp only[Bn,Cd] at h;obtain⟨h,rfl⟩:=h;obtain⟨f,fd,hm,F,hbd⟩:=T.src j hj;exact⟨f,fd,tp i,_,ps,rfl,rfl,hm,F,hbd,rQ h,λL G a cv LX cdv A outer s H E C hr=>hb L G a cv ⟨LX⟩ f cdv A outer s H E ⟨C⟩ hr⟩
end
section
variable {X:Cx}{pins:Ab (Ad × Cg)}{σ : _L.St}{H P:Hp}{α : Ab Ad}{s:Ag}{S:Sto}
def AL:D→Ab D→Sto→Res D:=λa ds S=>match a,ds with
 |.loc i,[.lst ys]=>t9 S i λxs=>if xs.length+ys.length≤lim then .ok .non (S.set i (.lst (xs++ys))) else .bad
 |_,_=>.bad
def jI:D→Ab D→Sto→Res D:=λa ds S=>match a,ds with
 |.loc i,[.int k]=>t9 S i λxs=>if 0≤k∧k<1000000 then (match xs[k.toNat]? with|some d=>.ok d (S.set i (.lst (xs.eraseIdx k.toNat)))|none=>.bad) else .bad
 |_,_=>.bad
def tL {K:Ak}:∀ {ds:Ab D} {vs:Ab V} (k:Ah),qG K P α ds vs→qG K P α (ds.eraseIdx k) (vs.eraseIdx k)
 |[],vs,k,r=>by rw[r.nil_inv];exact .nil
 |d::ds,vs,0,r=>by
  obtain⟨w,ws,rfl,_,r2⟩:=r.cons_inv;exact r2
 |d::ds,vs,k+1,r=>by
  obtain⟨w,ws,rfl,r1,r2⟩:=r.cons_inv;exact .cons r1 (tL k r2)
set_option tactic.hygienic true in
def VP:MtD X "list.pop" jI:=by
 intro pins σ H s P α S v vv vs us a ds Q I r rv p rvs rps af;unfold jI at af
 split at af
 ·rename_i i k
  obtain⟨xs,hS,af⟩:=jO af;obtain⟨hk,af⟩:=wX af;have af2:∃ d,xs[k.toNat]? = Aa d∧OkV X P α Q d (S.set i (.lst (xs.eraseIdx k.toNat))):=by
   cases hx:xs[k.toNat]? with
   |none=>rw[hx] at af;exact An af
   |some d=>rw[hx] at af;exact⟨d,rfl,af⟩
  obtain⟨d,hd,ok⟩:=af2;obtain⟨w,u,rfl,rfl,p',q'⟩:=vS rps rvs;cases xE p';simp only[Rep] at p;obtain⟨l,rfl,q⟩:=p;obtain⟨ws,z,t⟩:=r.at' i l _ q hS;obtain⟨y,hy,ry⟩:=t.get hd;have hlt:=(AT.mp hy).1;refine VS pins s σ H (.ref l) [.int k] vv [u] Q I rv (.cons q' .nil) ⟨l,ws,k,k.toNat,y,rfl,rfl,z,by omega,by omega,?_,hy,?_⟩
  ·unfold Ub
   show (if (0≤(if k<0 then k+(ws.length:Ai) else k)&&(if k<0 then k+(ws.length:Ai) else k)<(ws.length:Ai))=true then Aa (if k<0 then k+(ws.length:Ai) else k).toNat else none)=_
   rw[Bc (show ¬ k<0 by omega),Bg (by simp;omega)]
  ·exact ok _ _ _ _ (r.put (m':=.lst (xs.eraseIdx k.toNat)) q hS (by intro z;cases z) ⟨ws.eraseIdx k.toNat,zB,tL _ t⟩) (qI.refl _) (Bo _) ry
 ·exact An af
def FJ:ZMt X "list.pop" jI:=⟨VP⟩
end
def mM (d:D)(S:Sto):Al (Ab (Key × D)):=match d with
 |.loc n=>match S[n]? with
  |some (.dct kvs)=>Aa kvs
  |_=>none
 |_=>none
def fV:G2:=λa b S=>match mM a S,gW b with
 |some kvs,Aa k=>match yT kvs k with
  |some d=>.ok d S
  |none=>.bad
 |_,_=>.bad
section
variable {X:Cx}{pins:Ab (Ad × Cg)}{σ : _L.St}{H P:Hp}{α : Ab Ad}{S:Sto}{s:Ag}
set_option tactic.hygienic true in
def ZG (r:Rel X.K H P α S){d:D}{kvs:Ab (Key × D)}{v:V}(h:mM d S=Aa kvs)(p:Rep X.K P α d v):∃ a ws,v=.ref a∧H a=Aa (.dK ws)∧KVs X.K P α kvs ws:=by
 unfold mM at h
 split at h
 ·split at h
  ·rename_i hS
   cases h;simp only[Rep] at p;obtain⟨b,rfl,q⟩:=p;obtain⟨ws,z,t⟩:=r.at' _ b _ q hS;exact⟨b,ws,rfl,z,t⟩
  ·cases h
 ·cases h
set_option tactic.hygienic true in
def MH {o i:Bv}{fo fi:DE}{pos:EQ}(hu:X.A.units+1<Ey)(ho:PE X o (tD X fo))(hi:PE X i (tD X fi))(hs:WY i:=by intro _ _;rfl):PE X (.Subscript o i pos) (tD X (d2 fV fo fi)):=by
 intro pins s σ H Q I h;obtain⟨P,α,env,S,r,re,af⟩:=h;refine F4 PySem.F.slot_dict_getitem.lookup hs (thn (x5 ho I r re af) λvv s1 ⟨v,H1,P1,α1,a,S1,G1,af1⟩=>?_);refine thn (x5 hi G1.inv G1.rel G1.env (P:=P1) (α:=α1) (Ok:=OkV X P1 α1 Q) (g:=λy S2=>fV a y S2) (z9.base G1.same G1.pre af1)) λuu s2 ⟨u,H2,P2,α2,b,S2,G2,af2⟩=>?_;have pa:=Rep.mono G2.same G2.pre _ _ G1.rep;have pb:=G2.rep;have I2:=G2.inv;have r2:=G2.rel;have af3:=z9.base G2.same G2.pre af2;unfold fV at af3
 split at af3
 ·rename_i kvs k hd hk
  split at af3
  ·rename_i d hv
   obtain⟨p,ws,rfl,z,t⟩:=ZG r2 hd pa;have ei:=rY hk pb;subst ei;cases (show vv=Cf p from G1.val)
   obtain⟨w,h1,h2⟩:=(nP t).1 d hv;have g:gH H2 p (kV k) (Aa w):=.inl ⟨_,k,.inl z,rfl,h1.symm⟩;exact⟨cN I2 g,ZD hu I2 g G2.val λw' s3 I3 rw'=>⟨w,H2,I3,rw',xr af3 r2 h2⟩⟩
  ·exact An af3
 ·exact An af3
end
def nF:G2:=λa b S=>match mM b S,gW a with
 |some kvs,Aa k=>.ok (.bl (yT kvs k).isSome) S
 |_,_=>.bad
section
variable {X:Cx}
set_option tactic.hygienic true in
def NR (hu:X.A.units+1<Ey):OpD X (Di .In) nF:=by
 intro pins σ H s P α S v u vv uu a b Q I r rv ru pa pb af;unfold nF at af
 split at af
 ·rename_i kvs k hd hk
  obtain⟨p,ws,rfl,z,t⟩:=ZG r hd pb;have ei:=rY hk pa;subst ei;cases (show uu=Cf p from ru)
  obtain⟨k1,k2⟩:=nP (k:=k) t;have g:gH H p (kV k) (yU ws k):=.inl ⟨_,k,.inl z,rfl,rfl⟩;refine CH hu I g rv λs' I'=>⟨.bl _,H,I',rfl,?_⟩;cases hv:yT kvs k with
  |none=>rw[hv] at af;rw[k2 hv];exact xr af r (by simp only[Rep];rfl)
  |some d =>
   obtain⟨w',e1,e2⟩:=k1 d hv;rw[hv] at af;rw[e1];exact xr af r (by simp only[Rep];rfl)
 ·exact An af
end
section
variable {X:Cx}{cm:Ap}{k:Ah}{o i:Bv}{fo fi:DE}{pos:EQ}
def D3 (hr:RoomC cm k X.A)(ho:QE X o fo)(hi:QE X i fi)(hs:WY i:=by intro _ _;rfl):QE X (.Subscript o i pos) (d2 fV fo fi):=⟨MH (hu1 hr) ho.1 hi.1 hs⟩
end
section
variable {X:Cx}{cm:Ap}{k:Ah}{e ei ek:Bv}{fe fi fk:DE}{p2 pos:EQ}
def HD (hr:RoomC cm k X.A):ZOp X (Di .In) nF:=⟨NR (hu1 hr)⟩
end
def lF:D→Sto→Al (Ab D)
 |.lst xs,_=>Aa xs
 |.tup xs,_=>Aa xs
 |.loc n,S=>match S[n]? with
  |some (.lst xs)=>Aa xs
  |_=>none
 |_,_=>none
def vE (mu:Ap)(f:DE):DE:=λenv S=>(f env S).bind λd S1=>match (lF d S1).bind jT with
 |some ys=>if mu then .ok (.loc S1.length) (S1++[.lst ys]) else .ok (.lst ys) S1
 |none=>.bad
section
variable {X:Cx}{pins:Ab (Ad × Cg)}{σ : _L.St}{H P:Hp}{α : Ab Ad}{S:Sto}{s:Ag}
def fM {K:Type}{is:K→Ac→Prop}{hash:K→Ai}{lt':K→K→Ap}{d:K}{Fit:K→Prop}(kd:_S.Kind X.prog X.w is hash lt' d Fit s.heap)(ad:_S.AddS X.prog X.w is hash s.heap)(hc:X.calm=true)(hu:X.A.units+64<Ey)(I:Inv X pins σ H s)(r:Rel X.K H P α S){a:Ad}{its:Ab Ac}
  (ha:s.heap.IsList a its.toArray∨s.heap.IsTuple a its.toArray) (ks:Ab K) (hl:ks.length=its.length) (hk:∀ i v,its[i]? = Aa v→is (ks.getD i d) v) (hn:(_S.srt lt' ks).length≤1000) (hf:∀ k∈ks,Fit k) (enc:K→D)
  (back:∀ k v,is k v→v∈its→∃ vv,qO vv v∧Rep X.K P α (enc k) vv) {E:Ac→Ag→Prop} :
  Ao (As X.prog X.w) X.A (call (.type "set") [.ref a]) (λu s1=>Ao (As X.prog X.w) X.A (call (.builtin "sorted") [u]) (NewR X pins σ H P α ((_S.srt lt' ks).map enc)) E s1) E s:=by
 have hsz:its.toArray.size=ks.length:=by rw[Bj,hl]
 have mem:∀ k,k∈_S.srt lt' ks↔k∈ks:=λk=>_S.uF kd.ord k ks;have inn:∀ i,i<ks.length→ks.getD i d∈ks:=λi hi=>by simp[IF,hi]
 refine _S.oE (U:=_S.srt lt' ks) ad (I.ok.hd hc) om ha (λi=>ks.getD i d) (λi v hv=>hk i v (by simpa using hv)) om (λi hi=>(mem _).mpr (inn i (by rw[← hsz];exact hi))) λh1 tk1 Z kp=>?_
 have seen:∀ k∈_S.yO (λi=>ks.getD i d) its.toArray.size,k∈ks:=λk hk'=>by
  obtain⟨i,hi,rfl⟩:=_S.kB.mp hk';exact inn i (by rw[← hsz];exact hi)
 have I1:Inv X pins σ H { s with heap:=h1,toks:=tk1 }:=I.kept kp
 refine _S.QD (s:={ s with heap:=h1,toks:=tk1 }) kd (I.ok.hd hc) om kp Z (λk hk'=>hf k (seen k hk')) (U:=_S.srt lt' ks) om (λk hk'=>(mem k).mpr (seen k hk')) λh2 tk2 D c ps kp2 hD hob hps hp hpl=>?_
 rw[hsz,UO kd.ord] at hps;have vv:∀ (ps:Ab (K × Ac)),(∀ p∈ps,is p.1 p.2∧p.2∈its)→∃ vs,qP vs (ps.map (·.2))∧qG X.K P α ((ps.map (·.1)).map enc) vs:=by
  intro ps
  induction ps with
  |nil=>exact λ_=>⟨[],.nil,.nil⟩
  |cons p ps ih =>
   intro h;obtain⟨vs,a1,a2⟩:=ih λq hq=>h q (by simp[hq])
   obtain⟨v,b1,b2⟩:=back p.1 p.2 (h p (by simp)).1 (h p (by simp)).2
   exact⟨v::vs,.cons b1 a1,.cons b2 a2⟩
 obtain⟨vs,a1,a2⟩:=vv ps λp hpm=>by simpa using hp p hpm
 rw[hps] at a2;have nd:([(D,HO.lst vs)].map (·.1)).Nodup:=by simp
 have I2:Inv X pins σ (kN H [(D,HO.lst vs)]) { s with heap:=h2,toks:=tk2 }:=Inv.laidL (s:={ s with heap:=h1,toks:=tk1 }) (L:=[(D,HO.lst vs)]) (t':=tk2) I1 kp2 (λp hpm=>by
  have:p=(D,HO.lst vs):=by simpa using hpm
  subst this;exact hD) λp hpm=>by
  have:p=(D,HO.lst vs):=by simpa using hpm
  subst this;refine⟨?_,ps.map (·.2),c,a1,hob⟩
  have:=a1.length;rw[Bk] at this;rw[this,Ep];omega
 exact⟨D,vs,rfl,I1.hok.fresh hD,I2,a2⟩
set_option tactic.hygienic true in
def BW {d:D}{xs:Ab D}{v:V}{vv:Ac}(I:Inv X pins σ H s)(r:Rel X.K H P α S)(p:Rep X.K P α d v)(q:qO v vv)(h:lF d S=Aa xs) :
  ∃ a vs its,vv=.ref a∧qG X.K P α xs vs∧qP vs its∧(s.heap.IsList a its.toArray∨s.heap.IsTuple a its.toArray)∧xs.length=its.length:=by
 cases d with
 |lst ys=>exact hW I r p q h
 |tup ys=>exact hW I r p q h
 |loc n =>
  have hS:S[n]? = Aa (.lst xs):=by
   have h:(match S[n]? with|some (.lst xs)=>Aa xs|_=>none)=Aa xs:=h
   split at h
   ·rename_i e;cases h;exact e
   ·cases h
  simp only[Rep] at p;obtain⟨a,rfl,ha⟩:=p;cases (show vv=Cf a from q)
  obtain⟨vs,z,t⟩:=r.at' n a _ ha hS;obtain⟨its,rv,p,hz⟩:=I.list (SqL.of z);exact⟨a,vs,its,rfl,t,rv,.inl p.isList,by rw[t.length,rv.length]⟩
 |_=>cases h
end
section
variable {X:Cx}{e:Bv}{fa:DE}{p1 p2 pos1 pos2:EQ}{mu:Ap}
set_option tactic.hygienic true in
def cM (hc:X.calm=true)(hu:X.A.units+64<Ey)(hg:Gl X "sorted")(hm:X.mg "sorted" = none)(hg2:Gl X "set")(hm2:X.mg "set" = none)(ha:PE X e (tD X fa))(he:Br [e] X.env=(false,eval e X.env)::Br [] X.env:=by rfl) :
  PE X (.Call (.Name "sorted" p1) [.Call (.Name "set" p2) [e] [] pos2] [] pos1) (tD X (vE mu fa)):=by
 intro pins s σ H Q I h;obtain⟨P,α,env,S,r,re,af⟩:=h;refine Gz (jL I hg hm Z3 ?_);refine Ly ?_ rfl rfl;refine Kk ?_;refine Call_ (jL I hg2 hm2 Y3 (Hs ?_ he rfl));rw[he];refine Kk (thn (x5 ha I r re af) λvv s1 ⟨v,H1,P1,α1,d,S1,G1,af1⟩=>Ot ?_);cases hq:(lF d S1).bind jT with
 |none=>simp only[hq] at af1;exact An af1
 |some ys =>
   simp only[hq] at af1;obtain⟨xs,hd,hs⟩:=Ec.mp hq;obtain⟨a,vs,its,rfl,t1,rv1,e1,l1⟩:=BW G1.inv G1.rel G1.rep G1.val hd;have main:Ao (As X.prog X.w) X.A (call (.type "set") [.ref a]) (λu s1=>Ao (As X.prog X.w) X.A (call (.builtin "sorted") [u]) (NewR X pins σ H1 P1 α1 ys) X.xe s1) X.xe s1:=by
    unfold jT at hs;cases hi:wC xs with
    |some ns =>
     rw[hi] at hs;dsimp only at hs
     split at hs
     ·rename_i hlt
      cases hs;have:=uC hi;subst this;have:=yE t1;subst this;refine fM (d:=0) (_S.JF X.prog X.w s1.heap) (_S.FR s1.heap) hc hu G1.inv G1.rel e1 ns (by simpa using l1) (λi u hu'=>?_) hlt (λ_ _=>trivial) D.int λk u hk _=>?_
      ·have hi:Ou its ns:=by simpa using mT rv1
       obtain⟨t,rfl⟩:=Nq hi i u hu';exact Si _ _ _ _
      ·obtain⟨t,rfl⟩:=_S.y8 hk
       exact⟨.int k,⟨t,rfl⟩,by simp only[Rep]⟩
     ·cases hs
    |none =>
     rw[hi] at hs;dsimp only at hs;cases ht:uW xs with
     |none=>rw[ht] at hs;cases hs
     |some ks =>
      rw[ht] at hs;dsimp only at hs
      split at hs
      ·rename_i hlt
       cases hs;have hlt':=Ez.mp hlt;have:=mG ht;subst this;have at':∀ (i:Ah) (u:Ac),its[i]? = Aa u→∃ b,u=.ref b∧Nd (Be X.prog X.w) s1.heap (ks.getD i []) b∧∃ vv,qO vv u∧Rep X.K P1 α1 (tpD (ks.getD i [])) vv:=λi u hu'=>by
        have hii:i<its.length:=(AT.mp hu').1;have hik:i<ks.length:=by rw[Bk] at l1;omega
        obtain⟨v,p,q,_⟩:=uD t1 rv1 (j:=i) (by rw[Bj];exact hii)
        have hd:(ks.map tpD).getD i D.non=tpD (ks.getD i []):=by simp[IF,hik]
        rw[hd] at p;have hu2:its.toArray[i]'(by rw[Bj];exact hii)=u:=by
         rw[Aq hii] at hu';simpa using hu'
        rw[hu2] at q;obtain⟨b,ws,us,rfl,sq,t,rv,⟨o,ho,hcl,m,hd⟩,_,_⟩:=jV G1.inv G1.rel (show Rep X.K P1 α1 (.tup ((ks.getD i []).map D.int)) v from p)
        cases (show u=Cf b from q)
        have:=yE t;subst this;exact⟨b,rfl,⟨o,us.toArray,m,ho,hcl,hd,by simpa using nM rv⟩,.ref b,rfl,p⟩
       refine fM (d:=[]) (_S.JG X.prog X.w s1.heap) (_S.FS s1.heap) hc hu G1.inv G1.rel e1 ks (by simpa using l1) (λi u hu'=>?_) (Cq hlt'.1) (λk hk=>?_) tpD λk u hk hm'=>?_
       ·obtain⟨b,rfl,q,_⟩:=at' i u hu'
        exact⟨b,rfl,q⟩
       ·have:=Cu.mp hlt'.2 k hk
        intro z;subst z;cases this
       ·obtain⟨i,hi',rfl⟩:=Cw.mp hm'
        obtain⟨b,eb,q,w,rw',pw⟩:=at' i _ (Aq hi');have:k=ks.getD i []:=_S.isT.inj hk ⟨b,eb,q⟩;rw[this];exact⟨w,rw',pw⟩
      ·cases hs
   refine thn main λu s2 h2=>Ot (thn h2 λu' s3 ⟨D,vs',e,hn,I',rp'⟩=>?_);subst e;cases mu with
   |true=>exact⟨.ref D,_,I',rfl,nW G1.rel hn rp' λv' H' P' α' r' e1 e2 rp=>af1 v' H' P' α' r' (G1.same.trans e1) (G1.pre.trans e2) rp⟩
   |false=>exact⟨.ref D,_,I',rfl,vA G1.rel hn rp' λv' H' P' α' r' e1 e2 rp=>af1 v' H' P' α' r' (G1.same.trans e1) (G1.pre.trans e2) rp⟩
end
section
variable {X:Cx}{cm:Ap}{k:Ah}{e:Bv}{fa:DE}{p1 p2 pos1 pos2:EQ}{mu:Ap}
def cQ (hc:X.calm=true)(hr:RoomC cm k X.A)(hg:Gl X "sorted")(hm:X.mg "sorted" = none)(hg2:Gl X "set")(hm2:X.mg "set" = none)(ha:QE X e fa)(he:Br [e] X.env=(false,eval e X.env)::Br [] X.env:=by rfl) :
  QE X (.Call (.Name "sorted" p1) [.Call (.Name "set" p2) [e] [] pos2] [] pos1) (vE mu fa):=⟨cM hc hr.units hg hm hg2 hm2 ha.1 he⟩
end
end _D
namespace _D
open PySem
variable {ds as:Ab D}{i:Ah}{f f1 f2:DE}{F:DF}{S1 S' S2:Sto}{env:qD}{Q:qD→Sto→Prop}
def Nx (o:Out)(Q:qD→Sto→Prop):Prop:=∃ env S,o=.nx env S∧Q env S
def Rt (o:Out)(Q:D→Sto→Prop):Prop:=∃ d S,o=.rt d S∧Q d S
def Ok {β:Type}(r:Res β)(Q:β→Sto→Prop):Prop:=∃ d S,r=.ok d S∧Q d S
def xJ {o:Out}{S:Sto}(h:o=.nx env S)(q:Q env S):Nx o Q:=⟨env,S,h,q⟩
def JT {o:Out}{Q:D→Sto→Prop}{d:D}{S:Sto}(h:o=.rt d S)(q:Q d S):Rt o Q:=⟨d,S,h,q⟩
def qS {β:Type}{r:Res β}{Q:β→Sto→Prop}{d:β}{S:Sto}(h:r=.ok d S)(q:Q d S):Ok r Q:=⟨d,S,h,q⟩
def zU {f g:DS}{S:Sto}(h:Nx (f env S) λenv1 S1=>Nx (g env1 S1) Q):Nx (qL f g env S) Q:=by
 obtain⟨env1,S1,e,env2,S2,e2,q⟩:=h;exact⟨env2,S2,by unfold qL;rw[e];exact e2,q⟩
def qU {f g:DS}{S:Sto}{Q:D→Sto→Prop}(h:Nx (f env S) λenv1 S1=>Rt (g env1 S1) Q):Rt (qL f g env S) Q:=by
 obtain⟨env1,S1,e,env2,S2,e2,q⟩:=h;exact⟨env2,S2,by unfold qL;rw[e];exact e2,q⟩
def xO {t:DT}{f g:DS}{S:Sto}{b:Ap}(h:t env S=.ok b S1)(k:Nx ((if b then f else g) env S1) Q):Nx (sIf t f g env S) Q:=by
 obtain⟨env2,S2,e2,q⟩:=k;refine⟨env2,S2,?_,q⟩;unfold sIf;rw[h];cases b <;> exact e2
def qY {S:Sto}(h:Ok (f env S) λd S1=>Q (env.set i (Aa d)) S1):Nx (qT f (gNm i) env S) Q:=by
 obtain⟨d,S1,e,q⟩:=h;exact⟨_,S1,by unfold qT gNm;rw[e];rfl,q⟩
def bY {S:Sto}(h:Ok (f env S) λ_ S1=>Q env S1):Nx (zR f env S) Q:=by
 obtain⟨d,S1,e,q⟩:=h;exact⟨_,S1,by unfold zR;rw[e];rfl,q⟩
def w9 {S:Sto}{Q:D→Sto→Prop}(h:Ok (f env S) Q):Rt (zA f env S) Q:=by
 obtain⟨d,S1,e,q⟩:=h;exact⟨_,S1,by unfold zA;rw[e];rfl,q⟩
def yY {fi:DI}{g:DG}{f:DS}{S:Sto}(h:fi env S=.ok ds S1)(k:Nx (x8 g f ds env S1) Q):Nx (wR fi g f env S) Q:=by
 obtain⟨env2,S2,e2,q⟩:=k;exact⟨env2,S2,by unfold wR;rw[h];exact e2,q⟩
def wQ {g:DG}{f:DS}(I:Ab D→qD→Sto→Prop)(turn:∀ d ds env S,I (d::ds) env S→∃ env1 S1,g d env S=.ok env1 S1∧Nx (f env1 S1) (I ds))(last:∀ env S,I [] env S→Q env S) :
  ∀ {ds:Ab D} {env:qD} {S:Sto},I ds env S→Nx (x8 g f ds env S) Q
 |[],env,S,h=>⟨env,S,rfl,last env S h⟩
 |d::ds,env,S,h=>by
  obtain⟨env1,S1,e1,env2,S2,e2,h2⟩:=turn d ds env S h;obtain⟨env3,S3,e3,q⟩:=wQ I turn last (ds:=ds) h2;refine⟨env3,S3,?_,q⟩;unfold x8;simp only[e1,Res.toS,e2];exact e3
def VU {t:DT}{f:DS}(I:Ah→qD→Sto→Prop)(turn:∀ n env S,I n env S→∃ b S1,t env S=.ok b S1∧(if b then Nx (f env S1) (λenv2 S2=>∃ m,m<n∧I m env2 S2) else Q env S1)) :
  ∀ {n:Ah} {env:qD} {S:Sto},n<big→I n env S→Nx (tN t f env S) Q:=by
 have key:∀ N n env S,n<N→I n env S→Nx (vX t f N env S) Q:=by
  intro N
  induction N with
  |zero=>intro n env S h;omega
  |succ N ih =>
   intro n env S h hI;obtain⟨b,S1,e1,k⟩:=turn n env S hI;cases b with
   |false =>
    refine⟨env,S1,?_,by simpa using k⟩
    unfold vX;rw[e1];rfl
   |true =>
    simp only[Dc] at k;obtain⟨env2,S2,e2,m,hm,hI2⟩:=k;obtain⟨env3,S3,e3,q⟩:=ih m env2 S2 om hI2;refine⟨env3,S3,?_,q⟩;unfold vX;rw[e1];simp only[Res.toS,Dc,e2];exact e3
 exact λ{n env S} h hI=>key big n env S h hI
def nH {o:Al (Ah × MO)}{g:DG}{t:DT}{k:DK}(out:D→Ab D)(C:qD→Sto→Prop)(hC:∀ env S,C env S→stn o S) :
  ∀ (items:Ab D) (env:qD) (S:Sto) (acc:Ab D),C env S→acc.length+(items.flatMap out).length≤lim →
  (∀ d∈items,∀ env S acc,C env S→acc.length+(out d).length≤lim→∃ env1 S1 b S2,g d env S=.ok env1 S1∧t env1 S1=.ok b S2∧((b=false∧out d=[]∧C env1 S2)∨(b=true∧∃ env3 S3,k env1 S2 acc=.ok (env3,acc++out d) S3∧C env3 S3))) →
  ∃ env' S',goL o g t k items env S acc=.ok (env',acc++items.flatMap out) S'∧C env' S'
 |[],env,S,acc,h,hl,_=>⟨env,S,by simp[goL,vC.mpr (hC _ _ h)],h⟩
 |d::ds,env,S,acc,h,hl,step=>by
  rw[Hg,Df] at hl;obtain⟨env1,S1,b,S2,e1,e2,r⟩:=step d (Ct ..) env S acc h om;have hst:=vC.mpr (hC _ _ h);rcases r with⟨rfl,h0,h2⟩|⟨rfl,env3,S3,e3,h3⟩
  ·obtain⟨env',S',e,q⟩:=nH out C hC ds env1 S2 acc h2 om λd hd=>step d (Bu _ hd)
   refine⟨env',S',?_,q⟩;simp only[goL,hst,Dc,e1,e2,Res.bind,Bq,Dw,Hg,h0,Ib];exact e
  ·obtain⟨env',S',e,q⟩:=nH out C hC ds env3 S3 (acc++out d) h3 (by rw[Df];omega) λd hd=>step d (Bu _ hd)
   refine⟨env',S',?_,q⟩;simp only[goL,hst,Dc,e1,e2,Res.bind,e3,Hg];rw[e,Cj]
def rX {fe:DE}{S:Sto}{acc:Ab D}{x:D}(h:fe env S=.ok x S1)(hl:acc.length<lim):zZ fe env S acc=.ok (env,acc++[x]) S1:=by
 unfold zZ;rw[h];simp[Res.bind,hl]
def lT {cap:Ab (Al Ah)}{fi:DI2}{g:DG}{t:DT}{k:DK}{env':qD}{S:Sto}{o:Al (Ah × MO)}{items:Ab D}(h:fi env S=.ok (o,items) S1)(e:goL o g t k items (wL cap env) S1 [] = .ok (env',ds) S'):zQ false cap fi g t k env S=.ok (.lst ds) S':=by
 unfold zQ;rw[h];simp only[Res.bind,e,mkM];rfl
def BV {n:Ah}{S:Sto}{d:D}(hs:v3 n ds=env)(h:f env S=.ok d S'):qX n (zA f) ds S=.ok d S':=by
 subst hs;unfold qX zA;rw[h];rfl
def jQ {n:Ah}{g:DS}{S:Sto}{d:D}(hs:v3 n ds=env)(h:g env S=.rt d S'):qX n g ds S=.ok d S':=by
 subst hs;unfold qX;rw[h];rfl
def aJ {S:Sto}{m:MO}(h:S[i]? = Aa m)(e:S<+:S'):S'[i]? = Aa m:=by
 obtain⟨r,rfl⟩:=e;rw[Bz (AT.mp h).1];exact h
def bP {α β:Type}(sel:α→Ap)(val:α→β)(l:Ab α) : (l.flatMap λd=>if sel d then [val d] else []) = (l.filter sel).map val:=by
 induction l with
 |nil=>rfl
 |cons d l ih =>
  rw[Hg,ih];cases h:sel d <;> simp[h]
section
variable {cap:Ab (Al Ah)}{fi:DI2}{g:DG}{t:DT}{fe:DE}{env:qD}{S S0:Sto}{o:Al (Ah × MO)}{items:Ab D}
def CN (hst:stn o S)(sel:D→Ap)(val:D→D)(C:qD→Prop)(h0:C env)(hl:items.length≤lim)
  (step:∀ d∈items,∀ env,C env→∃ env1,g d env S=.ok env1 S∧C env1∧t env1 S=.ok (sel d) S∧(sel d=true→fe env1 S=.ok (val d) S)) :
  ∃ env',goL o g t (zZ fe) items env S [] = .ok (env',(items.filter sel).map val) S:=by
 have lf:(items.flatMap λd=>if sel d then [val d] else []).length≤lim:=by
  rw[bP,Bk];exact Eb (Qx _ _) hl
 obtain⟨env',S',e,_,q⟩:=nH (o:=o) (g:=g) (t:=t) (k:=zZ fe) (λd=>if sel d then [val d] else []) (λenv S'=>C env∧S'=S) (λ_ _ h=>h.2▸hst) items env S [] ⟨h0,rfl⟩ (by simpa using lf) (λd hd env S' acc hC hl=>by
  obtain⟨hc,rfl⟩:=hC;obtain⟨env1,e1,c1,e2,k⟩:=step d hd env hc;refine⟨env1,S',sel d,S',e1,e2,?_⟩;cases hs:sel d with
  |false=>exact .inl ⟨rfl,by simp,c1,rfl⟩
  |true =>
   refine .inr ⟨rfl,env1,S',?_,c1,rfl⟩;simp only[Dc];exact rX (k hs) (by simp only[hs,Dc,Lp] at hl;omega))
 subst q;refine⟨env',?_⟩;rw[e,Ib,bP]
def M7 (h:fi env S=.ok (o,items) S)(hst:stn o S)(sel:D→Ap)(val:D→D)(C:qD→Prop)(h0:C (wL cap env))(hl:items.length≤lim)
  (step:∀ d∈items,∀ env,C env→∃ env1,g d env S=.ok env1 S∧C env1∧t env1 S=.ok (sel d) S∧(sel d=true→fe env1 S=.ok (val d) S)) :
  zQ false cap fi g t (zZ fe) env S=.ok (.lst ((items.filter sel).map val)) S:=by
 obtain⟨env',e⟩:=CN hst sel val C h0 hl step;exact lT h e
end
def goT {α:Type}{enc:α→D}{o:Al (Ah × MO)}{g:DG}{t:DT}{k:DK}(out:α→Ab D)(C:qD→Sto→Prop)(hC:∀ env S,C env S→stn o S) :
  ∀ (xs:Ab α) (env:qD) (S:Sto) (acc:Ab D),C env S→acc.length+(xs.flatMap out).length≤lim →
  (∀ x∈xs,∀ env S acc,C env S→acc.length+(out x).length≤lim→∃ env1 S1 b S2,g (enc x) env S=.ok env1 S1∧t env1 S1=.ok b S2∧((b=false∧out x=[]∧C env1 S2)∨(b=true∧∃ env3 S3,k env1 S2 acc=.ok (env3,acc++out x) S3∧C env3 S3))) →
  ∃ env' S',goL o g t k (xs.map enc) env S acc=.ok (env',acc++xs.flatMap out) S'∧C env' S'
 |[],env,S,acc,h,hl,_=>⟨env,S,by simp[goL,vC.mpr (hC _ _ h)],h⟩
 |x::xs,env,S,acc,h,hl,step=>by
  rw[Hg,Df] at hl;obtain⟨env1,S1,b,S2,e1,e2,r⟩:=step x (Ct ..) env S acc h om;have hst:=vC.mpr (hC _ _ h);rcases r with⟨rfl,h0,h2⟩|⟨rfl,env3,S3,e3,h3⟩
  ·obtain⟨env',S',e,q⟩:=goT out C hC xs env1 S2 acc h2 om λd hd=>step d (Bu _ hd)
   refine⟨env',S',?_,q⟩;simp only[Dt,goL,hst,Dc,e1,e2,Res.bind,Bq,Dw,Hg,h0,Ib];exact e
  ·obtain⟨env',S',e,q⟩:=goT out C hC xs env3 S3 (acc++out x) h3 (by rw[Df];omega) λd hd=>step d (Bu _ hd)
   refine⟨env',S',?_,q⟩;simp only[Dt,goL,hst,Dc,e1,e2,Res.bind,e3,Hg];rw[e,Cj]
section
variable {α β:Type}{enc:α→D}{enc2:β→D}{cap:Ab (Al Ah)}{fi:DI2}{g:DG}{t:DT}{fe:DE}{env:qD}{S S0:Sto}{o:Al (Ah × MO)}{xs:Ab α}
def RO (hst:stn o S)(sel:α→Ap)(val:α→D)(C:qD→Prop)(h0:C env)(hl:xs.length≤lim)
  (step:∀ x∈xs,∀ env,C env→∃ env1,g (enc x) env S=.ok env1 S∧C env1∧t env1 S=.ok (sel x) S∧(sel x=true→fe env1 S=.ok (val x) S)) :
  ∃ env',goL o g t (zZ fe) (xs.map enc) env S [] = .ok (env',(xs.filter sel).map val) S:=by
 have lf:(xs.flatMap λd=>if sel d then [val d] else []).length≤lim:=by
  rw[bP,Bk];exact Eb (Qx _ _) hl
 obtain⟨env',S',e,_,q⟩:=goT (enc:=enc) (o:=o) (g:=g) (t:=t) (k:=zZ fe) (λd=>if sel d then [val d] else []) (λenv S'=>C env∧S'=S) (λ_ _ h=>h.2▸hst) xs env S [] ⟨h0,rfl⟩ (by simpa using lf) (λd hd env S' acc hC hl=>by
  obtain⟨hc,rfl⟩:=hC;obtain⟨env1,e1,c1,e2,k⟩:=step d hd env hc;refine⟨env1,S',sel d,S',e1,e2,?_⟩;cases hs:sel d with
  |false=>exact .inl ⟨rfl,by simp,c1,rfl⟩
  |true =>
   refine .inr ⟨rfl,env1,S',?_,c1,rfl⟩;simp only[Dc];exact rX (k hs) (by simp only[hs,Dc,Lp] at hl;omega))
 subst q;refine⟨env',?_⟩;rw[e,Ib,bP]
def kX (h:fi env S=.ok (o,xs.map enc) S)(hst:stn o S)(sel:α→Ap)(val:α→D)(C:qD→Prop)(h0:C (wL cap env))(hl:xs.length≤lim)
  (step:∀ x∈xs,∀ env,C env→∃ env1,g (enc x) env S=.ok env1 S∧C env1∧t env1 S=.ok (sel x) S∧(sel x=true→fe env1 S=.ok (val x) S)) :
  zQ false cap fi g t (zZ fe) env S=.ok (.lst ((xs.filter sel).map val)) S:=by
 obtain⟨env',e⟩:=RO hst sel val C h0 hl step;exact lT h e
end
def qF {o:G2}{g:DE}{S:Sto}{a b:D}(h1:f env S=.ok a S1)(h2:g env S1=.ok b S2):d2 o f g env S=o a b S2:=by
 unfold d2;rw[h1];simp only[Res.bind];rw[h2]
def yA {S:Sto}{a:D}(h1:f1 env S=.ok a S1):qE 1 F (qA f1 (qC)) env S=F [a] S1:=by
 simp only[qE,qA,qC,h1,Res.bind,Dh,Ia,Dc]
def xH {S:Sto}{a b:D}(h1:f1 env S=.ok a S1)(h2:f2 env S1=.ok b S2):qE 2 F (qA f1 (qA f2 (qC))) env S=F [a,b] S2:=by
 simp only[qE,qA,qC,h1,h2,Res.bind,Dh,Ia,Dc]
def gJ {f3:DE}{S S3:Sto}{a b c:D}(h1:f1 env S=.ok a S1)(h2:f2 env S1=.ok b S2)(h3:f3 env S2=.ok c S3):qE 3 F (qA f1 (qA f2 (qA f3 (qC)))) env S=F [a,b,c] S3:=by
 simp only[qE,qA,qC,h1,h2,h3,Res.bind,Dh,Ia,Dc]
def vK {S:Sto}{a:D}(h1:f1 env S=.ok a S1):qH F (qA f1 (qC)) env S=F [a] S1:=by
 simp only[qH,qA,qC,h1,Res.bind]
def kU {S:Sto}{a b:D}(h1:f1 env S=.ok a S1)(h2:f2 env S1=.ok b S2):qH F (qA f1 (qA f2 (qC))) env S=F [a,b] S2:=by
 simp only[qH,qA,qC,h1,h2,Res.bind]
def zP {S:Sto}{b:Ap}(h:f env S=.ok (.bl b) S1):dTr f env S=.ok b S1:=by
 unfold dTr;rw[h];rfl
def uK {f:DT}{S:Sto}{b:Ap}(h:f env S=.ok b S1):xB f env S=.ok (!b) S1:=by
 unfold xB;rw[h];rfl
def sH {f g:DT}{S:Sto}{a b:Ap}(h:f env S=.ok a S1)(k:a=false→g env S1=.ok b S2)(e:a=true→S1=S2):vM f g env S=.ok (a||b) S2:=by
 unfold vM;rw[h];cases a with
 |true=>cases e rfl;rfl
 |false=>exact k rfl
def kY {S:Sto}{a:D}(h1:f1 env S=.ok a S1):qA f1 (qC) env S=.ok [a] S1:=by
 simp only[qA,qC,h1,Res.bind]
def xU {S:Sto}{a b:D}(h1:f1 env S=.ok a S1)(h2:f2 env S1=.ok b S2):qA f1 (qA f2 (qC)) env S=.ok [a,b] S2:=by
 simp only[qA,qC,h1,h2,Res.bind]
def zC {g:DA}{S:Sto}{a:D}(h:f env S=.ok a S1)(k:g env S1=.ok as S2):qA f g env S=.ok (a::as) S2:=by
 simp only[qA,h,k,Res.bind]
def zW {g:DA}{S:Sto}(k:g env S=.ok as S1)(h:as.length≤lim):zL g env S=.ok (.lst as) S1:=by
 simp only[zL,k,Res.bind,h,Dc]
def yJ {g:DA}{S:Sto}(k:g env S=.ok as S1)(h:as.length≤lim):qQ g env S=.ok (.tup as) S1:=by
 simp only[qQ,k,Res.bind,h,Dc]
def wB {d:D}{S:Sto}(h:env[i]? = Aa (Aa d)):qB i env S=.ok d S:=by simp only[qB,h]
def vF {α:Type}(l:Ab α) : l.filter (λ_=>true)=l:=by simp
def Z2 {α:Type}(p:α→Ap)(l:Ab α) : xQ (l.map λx=>D.bl (p x))=Aa (l.map p):=by
 induction l with
 |nil=>rfl
 |cons x l ih =>
  show (xQ (l.map λx=>D.bl (p x))).map (p x::·)=_
  rw[ih];rfl
def QR {α:Type}{S:Sto}{l:Ab α}{p:α→Ap}(h:f env S=.ok (.lst (l.map λx=>D.bl (p x))) S1):qH (fU false) (qA f (qC)) env S=.ok (.bl (l.all p)) S1:=by
 rw[vK h];show (match (xK (.lst (l.map λx=>D.bl (p x)))).bind xQ with|some bs=>Res.ok (D.bl (bs.all id)) S1|none=>.bad)=_
 rw[show (xK (.lst (l.map λx=>D.bl (p x)))).bind xQ=Aa (l.map p) from Z2 p l]
 simp only[Kr];rfl
def g6 {j:Ah}{S:Sto}{a b:D}(h1:f1 env S=.ok a S1)(h2:f2 env S1=.ok b S2)(q:Q ((env.set i (Aa a)).set j (Aa b)) S2):Nx (jR i j (qA f1 (qA f2 (qC))) env S) Q:=by
 unfold jR;rw[xU h1 h2];exact xJ rfl q
def iB {g:DG}{env1:qD}{S:Sto}{d:D}(h1:f env S=.ok d S1)(h2:g d env S1=.ok env1 S2)(q:Q env1 S2):Nx (qT f g env S) Q:=by
 unfold qT;rw[h1];simp only[Res.toS];rw[h2];exact xJ rfl q
def WM {t:DT}{f g:DS}{S:Sto}{b:Ap}{Q:D→Sto→Prop}(h:t env S=.ok b S1)(k:Rt ((if b then f else g) env S1) Q):Rt (sIf t f g env S) Q:=by
 unfold sIf;rw[h];cases b <;> exact k
end _D
namespace _K
open PySem _D
def AU (b:Ap)(S:Sto):wG (.bl b) S=Aa b:=rfl
def AQ (i:Ai)(S:Sto):wG (.int i) S=Aa (i != 0):=rfl
def bH (i:Ai)(S:Sto):tyD (.int i) S=Aa "int":=rfl
def AY (b:Ap)(S:Sto):tyD (.bl b) S=Aa "bool":=rfl
def AV (S:Sto):tyD .non S=Aa "NoneType":=rfl
def AW (x:Ar)(S:Sto):tyD (.str x) S=Aa "str":=rfl
def cG (x:Ab D)(S:Sto):tyD (.tup x) S=Aa "tuple":=rfl
def cE (x:Ab D)(S:Sto):tyD (.lst x) S=Aa "list":=rfl
def AN (x:Ab D):xK (.tup x)=Aa x:=rfl
def AM (x:Ab D):xK (.lst x)=Aa x:=rfl
def B0 (d:D)(S:Sto):nY (.rt d S)=.ok d S:=rfl
def AO (e:qD)(S:Sto):nY (.nx e S)=.ok .non S:=rfl
def PZ (c:Ac)(x:D)(e:qD)(S:Sto):nY (.ex c x e S)=.ex c x S:=rfl
def CY (i j:Ah)(env:qD)(S:Sto)(x y:D):eM i j env S [x,y]=.nx ((env.set i (Aa x)).set j (Aa y)) S:=rfl
def AS (C:Ai→Ai→Ap)(f:Ai→Ai→D)(i j:Ai)(S:Sto):i2 C f (.int i) (.int j) S=if C i j=true then .ok (f i j) S else .bad:=rfl
def GJ (b:Ap)(S:Sto):rN [.bl b] S=.ok (.int (b01 b)) S:=rfl
def uB {xs:Ab D}{k:Ai}{d:D}(h:_L.atI xs k=Aa d)(S:Sto):gIx (.lst xs) (.int k) S=.ok d S:=by
 show _D.vT (_L.atI xs k) S=_;rw[h];rfl
end _K
open PySem _D _K
namespace _K
open PySem PySem.Spec PyProof.Rows _L _D
def top (i:Ah):Ej:=Lz.main.body.getD i (.Pass ⟨0,0,0,0⟩)
structure Cl where
 (FarError NoPoint NoLot NoNumber NoCircle NoMarks NoFars NoText NoLine NoDeed Alike TooMany:Ad)
def xF (c:Cl):Ab Ad:=[c.NoPoint,c.NoLot,c.NoNumber,c.NoCircle,c.NoMarks,c.NoFars,c.NoText,c.NoLine,c.NoDeed,c.Alike,c.TooMany]
def kW (c:Cl):Ab Ac:=[.ref c.NoPoint,.ref c.NoLot,.ref c.NoNumber,.ref c.NoCircle,.ref c.NoMarks,.ref c.NoFars,.ref c.NoText,.ref c.NoLine,.ref c.NoDeed]
abbrev clt (c:Cl):Ab (Ar × Ad):=[("FarError",c.FarError),("NoPoint",c.NoPoint),("NoLot",c.NoLot),("NoNumber",c.NoNumber),("NoCircle",c.NoCircle),("NoMarks",c.NoMarks),("NoFars",c.NoFars),("NoText",c.NoText),("NoLine",c.NoLine),("NoDeed",c.NoDeed),("Alike",c.Alike),("TooMany",c.TooMany)]
abbrev plt (c:Cl):Ab (Ar × Ad):=[("NoPoint",c.NoPoint),("NoLot",c.NoLot),("NoNumber",c.NoNumber),("NoCircle",c.NoCircle),("NoMarks",c.NoMarks),("NoFars",c.NoFars),("NoText",c.NoText),("NoLine",c.NoLine),("NoDeed",c.NoDeed)]
abbrev cst:Ab (Ar × Ai):=[("LEAST_NUMBER",-1000),("MOST_NUMBER",1000)]
abbrev bl:Ab Ar:=["ValueError","all","bool","int","isinstance","len","list","max","min","range","set","sorted","str","sum","tuple","zip"]
abbrev tab:Ab (Ar × Ah × Ab Ar):=[("is_whole",14,["thing"]),("is_within",15,["thing","least","most"]),("need_within",16,["thing","least","most"]),("is_point",20,["thing"]),("need_point",21,["thing"]),("many_squares",23,["w","h"]),("square_at",24,["one","other"]),("_law_kinds",26,["_law_e"]),("_law_refused",27,["_law_call"]),("_law_same",28,["_law_found","_law_due"]),("_law_cell",29,["_law_script","_law_k"]),("_law_pen",30,["_law_cell_here"]),("_law_draw",31,["_law_pen_here","_law_many"]),("_law_no_number",32,["_law_pen_here","_law_low","_law_high"]),("_law_circle",33,["_law_number"]),("_law_rich",34,["_law_pen_here","_law_most"]),("_law_lot",35,["_law_pen_here","_law_most"]),("_law_no_point",36,["_law_pen_here"]),("_law_point",37,["_law_pen_here"]),("_law_counted",38,["_law_w","_law_h"]),("_law_summed",39,["_law_w","_law_h"]),("_law_squared",40,["_law_one","_law_other"]),("law",41,["_law_script"])]
abbrev Txt (K:Ak)(mg:Ar→Al Ac)(c:Cl):Prop:=TxS K mg top tab bl (clt c) (plt c) (kW c) (xF c) cst
abbrev N9:Ab Ar:=["law"]
@[reducible] def b_is_whole:DS:=zA (n6 (qH xC (qA (qB 0) (qA (dC (.ty "int")) (qC)))) (YG (qH xC (qA (qB 0) (qA (dC (.ty "bool")) (qC))))))
@[irreducible] def S_is_whole:DF:=sh (qX 1 b_is_whole)
def uM:S_is_whole=qX 1 b_is_whole:=by delta S_is_whole;exact xP _
@[reducible] def b_is_within:DS:=zA (n6 (qE 1 S_is_whole (qA (qB 0) (qC))) (wI gLe gLe (qB 1) (qB 0) (qB 2)))
@[irreducible] def S_is_within:DF:=sh (qX 3 b_is_within)
def u0:S_is_within=qX 3 b_is_within:=by delta S_is_within;exact xP _
@[reducible] def b_need_within (c:Cl):DS:=sIf (xB (dTr (qE 3 S_is_within (qA (qB 0) (qA (qB 1) (qA (qB 2) (qC))))))) (vU (.ref c.NoNumber) (qA (sD [dC (.str "a whole number from "),d1 kI (qB 1),dC (.str " to "),d1 kI (qB 2),dC (.str " is needed")]) (qC))) (zH)
@[irreducible] def S_need_within (c:Cl):DF:=sh (qX 3 (b_need_within c))
def v9 (c:Cl):S_need_within c=qX 3 (b_need_within c):=by delta S_need_within;exact xP _
@[reducible] def b_is_point:DS:=qL (sIf (vM (xB (dTr (qH xC (qA (qB 0) (qA (dC (.ty "tuple")) (qC)))))) (dTr (d2 gNe (qH xI (qA (qB 0) (qC))) (dC (.int 2))))) (zA (dC (.bl false))) (zH)) (zA (qH (fU false) (qA (zQ false [none] (dIt (qB 0)) (gNm 0) (w8) (zZ (qE 3 (okO S_is_within) (qA (qB 0) (qA (dC (.int (-1000))) (qA (dC (.int (1000))) (qC))))))) (qC))))
@[irreducible] def S_is_point:DF:=sh (qX 1 b_is_point)
def pJ:S_is_point=qX 1 b_is_point:=by delta S_is_point;exact xP _
@[reducible] def b_need_point (c:Cl):DS:=sIf (xB (dTr (qE 1 S_is_point (qA (qB 0) (qC))))) (vU (.ref c.NoPoint) (qA (dC (.str "a point is needed")) (qC))) (zH)
@[irreducible] def S_need_point (c:Cl):DF:=sh (qX 1 (b_need_point c))
def vI (c:Cl):S_need_point c=qX 1 (b_need_point c):=by delta S_need_point;exact xP _
@[reducible] def b_many_squares (c:Cl):DS:=qL (zR (qE 3 (S_need_within c) (qA (qB 0) (qA (dC (.int 1)) (qA (d2 xR (dC (.int 10)) (dC (.int 6))) (qC)))))) (qL (zR (qE 3 (S_need_within c) (qA (qB 1) (qA (dC (.int 1)) (qA (d2 xR (dC (.int 10)) (dC (.int 6))) (qC)))))) (qL (qT (d2 zJ (qH jY (qA (qB 0) (qA (qB 1) (qC)))) (dC (.int 1))) (gNm 2)) (qL (qT (d2 uA (d2 z0 (qB 2) (d2 qW (qB 2) (dC (.int 1)))) (dC (.int 2))) (gNm 3)) (qL (qT (d2 uA (d2 z0 (d2 z0 (qB 2) (d2 qW (qB 2) (dC (.int 1)))) (d2 qW (d2 z0 (dC (.int 2)) (qB 2)) (dC (.int 1)))) (dC (.int 6))) (gNm 4)) (qL (qT (d2 z0 (qB 3) (qB 3)) (gNm 5)) (zA (d2 qW (d2 zJ (d2 z0 (d2 z0 (qB 0) (qB 1)) (qB 3)) (d2 z0 (d2 qW (qB 0) (qB 1)) (qB 4))) (qB 5))))))))
@[irreducible] def S_many_squares (c:Cl):DF:=sh (qX 6 (b_many_squares c))
def yQ (c:Cl):S_many_squares c=qX 6 (b_many_squares c):=by delta S_many_squares;exact xP _
@[reducible] def b_square_at (c:Cl):DS:=qL (zR (qE 1 (S_need_point c) (qA (qB 0) (qC)))) (qL (zR (qE 1 (S_need_point c) (qA (qB 1) (qC)))) (qL (sIf (dTr (d2 gEq (qB 0) (qB 1))) (vU (.ref c.NoPoint) (qA (dC (.str "two unlike points are needed")) (qC))) (zH)) (qL (qT (d2 zJ (d2 gIx (qB 1) (dC (.int 0))) (d2 gIx (qB 0) (dC (.int 0)))) (gNm 2)) (qL (qT (d2 zJ (d2 gIx (qB 1) (dC (.int 1))) (d2 gIx (qB 0) (dC (.int 1)))) (gNm 3)) (qL (qT (zL (qA (qB 0) (qA (qB 1) (qA (qQ (qA (d2 zJ (d2 gIx (qB 0) (dC (.int 0))) (qB 3)) (qA (d2 qW (d2 gIx (qB 0) (dC (.int 1))) (qB 2)) (qC)))) (qA (qQ (qA (d2 zJ (d2 gIx (qB 1) (dC (.int 0))) (qB 3)) (qA (d2 qW (d2 gIx (qB 1) (dC (.int 1))) (qB 2)) (qC)))) (qC)))))) (gNm 4)) (qL (wR (xZ (qB 4)) (gNm 5) (zR (qE 1 (S_need_point c) (qA (qB 5) (qC))))) (zA (qH jF (qA (qH u7 (qA (qB 4) (qC))) (qC))))))))))
@[irreducible] def S_square_at (c:Cl):DF:=sh (qX 6 (b_square_at c))
def yK (c:Cl):S_square_at c=qX 6 (b_square_at c):=by delta S_square_at;exact xP _
@[reducible] def b__law_kinds (c:Cl):DS:=qL (qT (zL (qA (qH (zX (xF c)) (qA (qB 0) (qA (dC (.obj c.NoPoint)) (qC)))) (qA (qH (zX (xF c)) (qA (qB 0) (qA (dC (.obj c.NoLot)) (qC)))) (qA (qH (zX (xF c)) (qA (qB 0) (qA (dC (.obj c.NoNumber)) (qC)))) (qC))))) (gNm 1)) (qL (qT (d2 qW (qB 1) (zL (qA (qH (zX (xF c)) (qA (qB 0) (qA (dC (.obj c.NoCircle)) (qC)))) (qA (qH (zX (xF c)) (qA (qB 0) (qA (dC (.obj c.NoMarks)) (qC)))) (qA (qH (zX (xF c)) (qA (qB 0) (qA (dC (.obj c.NoFars)) (qC)))) (qC)))))) (gNm 1)) (qL (qT (d2 qW (qB 1) (zL (qA (qH (zX (xF c)) (qA (qB 0) (qA (dC (.obj c.NoText)) (qC)))) (qA (qH (zX (xF c)) (qA (qB 0) (qA (dC (.obj c.NoLine)) (qC)))) (qA (qH (zX (xF c)) (qA (qB 0) (qA (dC (.obj c.NoDeed)) (qC)))) (qC)))))) (gNm 1)) (qL (qT (d2 qW (qB 1) (zL (qA (qH (zX (xF c)) (qA (qB 0) (qA (dC (.obj c.Alike)) (qC)))) (qA (qH (zX (xF c)) (qA (qB 0) (qA (dC (.obj c.TooMany)) (qC)))) (qC))))) (gNm 1)) (qL (sIf (vM (xB (dTr (qH (zX (xF c)) (qA (qB 0) (qA (dC (.ty "ValueError")) (qC)))))) (dTr (d2 gNe (dBm "list" mQ (qB 1) (qA (dC (.bl true)) (qC))) (dC (.int 1))))) (zA (dC (.str "other"))) (zH)) (qL (sIf (dTr (qH (zX (xF c)) (qA (qB 0) (qA (dC (.obj c.Alike)) (qC))))) (zA (qQ (qA (dC (.str "alike")) (qA (pR) (qA (pR) (qA (pR) (qA (pR) (qC)))))))) (zH)) (qL (sIf (dTr (qH (zX (xF c)) (qA (qB 0) (qA (dC (.obj c.TooMany)) (qC))))) (zA (qQ (qA (dC (.str "many")) (qA (pR) (qA (pR) (qC)))))) (zH)) (qL (qT (zL (qA (dC (.str "point")) (qA (dC (.str "lot")) (qA (dC (.str "number")) (qA (dC (.str "circle")) (qA (dC (.str "marks")) (qA (dC (.str "fars")) (qA (dC (.str "text")) (qA (dC (.str "line")) (qA (dC (.str "deed")) (qC))))))))))) (gNm 2)) (zA (d2 gIx (qB 2) (dBm "list" mR (qB 1) (qA (dC (.bl true)) (qC))))))))))))
@[irreducible] def S__law_kinds (c:Cl):DF:=sh (qX 3 (b__law_kinds c))
def vH (c:Cl):S__law_kinds c=qX 3 (b__law_kinds c):=by delta S__law_kinds;exact xP _
@[reducible] def b__law_refused (c:Cl)(G:Ab D→DF)(a:Ad)(cv:Ab V):DS:=qL (mC 2 1 (kW c) (zR (gN 0 (qC) a cv 0 G)) (zA (qE 1 (S__law_kinds c) (qA (qB 1) (qC))))) (zA (dC (.str "told")))
@[reducible] def b__law_same (S__law_same:DF):DS:=qL (sIf (dTr (d2 gIs (qB 1) (dC .non))) (zA (d2 gIs (qB 0) (dC .non))) (zH)) (qL (sIf (dTr (qH gR (qA (qB 1) (qA (qQ (qA (dC (.ty "list")) (qA (dC (.ty "tuple")) (qC)))) (qC))))) (qL (sIf (dTr (d2 gNe (qH xC (qA (qB 1) (qA (dC (.ty "list")) (qC)))) (qH xC (qA (qB 0) (qA (dC (.ty "list")) (qC)))))) (zA (dC (.bl false))) (zH)) (qL (sIf (vM (dTr (d2 gNe (qH xC (qA (qB 1) (qA (dC (.ty "tuple")) (qC)))) (qH xC (qA (qB 0) (qA (dC (.ty "tuple")) (qC)))))) (dTr (d2 gNe (qH xI (qA (qB 0) (qC))) (qH xI (qA (qB 1) (qC)))))) (zA (dC (.bl false))) (zH)) (zA (qH (fU false) (qA (zQ false [none,none] (wD (oM (qA (qB 0) (qA (qB 1) (qC))))) (gTp 2 (zD (gNm 0) (zD (gNm 1) (xS)))) (w8) (zZ (qE 2 (okO S__law_same) (qA (qB 0) (qA (qB 1) (qC)))))) (qC)))))) (zH)) (qL (sIf (dTr (qH xC (qA (qB 1) (qA (dC (.ty "str")) (qC))))) (zA (n6 (qH xC (qA (qB 0) (qA (dC (.ty "str")) (qC)))) (d2 gEq (qB 0) (qB 1)))) (zH)) (qL (sIf (dTr (d2 gNe (qH xC (qA (qB 0) (qA (dC (.ty "bool")) (qC)))) (qH xC (qA (qB 1) (qA (dC (.ty "bool")) (qC)))))) (zA (dC (.bl false))) (zH)) (zA (n6 (qH xC (qA (qB 0) (qA (dC (.ty "int")) (qC)))) (d2 gEq (qB 0) (qB 1)))))))
def tO:Ah→DF
 |0=>λ_ _=>.bad
 |n+1=>qX 2 (b__law_same (tO n))
@[irreducible] def S__law_same:DF:=sh (tO 4)
def kS:S__law_same=tO 4:=by delta S__law_same;exact xP _
@[reducible] def b__law_cell:DS:=qL (sIf (dTr (d2 gLt (qB 1) (qH xI (qA (qB 0) (qC))))) (zA (d2 gIx (qB 0) (qB 1))) (zH)) (zA (dC (.int 0)))
@[irreducible] def S__law_cell:DF:=sh (qX 2 b__law_cell)
def kO:S__law_cell=qX 2 b__law_cell:=by delta S__law_cell;exact xP _
@[reducible] def b__law_pen:DS:=zA (vL (qA (qB 0) (qA (qH rN (qA (d2 gGe (qB 0) (d2 xR (dC (.int 10)) (dC (.int 18)))) (qC))) (qC))))
@[irreducible] def S__law_pen:DF:=sh (qX 1 b__law_pen)
def pI:S__law_pen=qX 1 b__law_pen:=by delta S__law_pen;exact xP _
@[reducible] def b__law_draw:DS:=qL (sIf (dTr (d2 gEq (d2 gIx (qB 0) (dC (.int 1))) (dC (.int 1)))) (qL (qT (d2 uN (d2 gIx (qB 0) (dC (.int 0))) (qB 1)) (gNm 2)) (qL (qT (d2 uA (d2 gIx (qB 0) (dC (.int 0))) (qB 1)) (gSb (qB 0) (dC (.int 0)) v7)) (zA (qB 2)))) (zH)) (qL (qT (d2 uN (d2 qW (d2 z0 (d2 uN (d2 gIx (qB 0) (dC (.int 0))) (dC (.int 2147483629))) (dC (.int 48271))) (dC (.int 11))) (dC (.int 2147483629))) (gSb (qB 0) (dC (.int 0)) v7)) (zA (d2 uN (d2 uA (d2 uN (d2 qW (d2 z0 (d2 gIx (qB 0) (dC (.int 0))) (d2 gIx (qB 0) (dC (.int 0)))) (d2 z0 (dC (.int 40692)) (d2 gIx (qB 0) (dC (.int 0))))) (dC (.int 2147483647))) (dC (.int 8))) (qB 1))))
@[irreducible] def S__law_draw:DF:=sh (qX 3 b__law_draw)
def kQ:S__law_draw=qX 3 b__law_draw:=by delta S__law_draw;exact xP _
@[reducible] def b__law_no_number:DS:=qL (qT (zL (qA (d2 zJ (qB 1) (dC (.int 1))) (qA (d2 qW (qB 2) (dC (.int 1))) (qA (d2 zJ (d2 zJ (dC (.int 0)) (qB 2)) (dC (.int 1))) (qA (d2 qW (d2 qW (qB 2) (dC (.int 1))) (qE 2 S__law_draw (qA (qB 0) (qA (d2 xR (dC (.int 10)) (dC (.int 9))) (qC))))) (qA (dC (.bl true)) (qC))))))) (gNm 3)) (qL (qT (d2 qW (qB 3) (zL (qA (dC (.bl false)) (qC)))) (gNm 3)) (zA (d2 gIx (d2 qW (qB 3) (zL (qA (dC .non) (qA (dC (.str "1")) (qA (qQ (qA (dC (.int 1)) (qC))) (qA (zL (qA (dC (.int 1)) (qC))) (qA (oK) (qA (d2 xR (dC (.int 10)) (dC (.int 29))) (qC))))))))) (qE 2 S__law_draw (qA (qB 0) (qA (dC (.int 12)) (qC)))))))
@[irreducible] def S__law_no_number:DF:=sh (qX 4 b__law_no_number)
def vY:S__law_no_number=qX 4 b__law_no_number:=by delta S__law_no_number;exact xP _
@[reducible] def b__law_circle:DS:=qL (jR 1 2 (qA (YF) (qA (zL (qC)) (qC)))) (qL (wR (w6 (qA (dC (.int 1001)) (qC))) (gNm 3) (qT (qB 3) (gSb (qB 1) (d2 z0 (qB 3) (qB 3)) v7))) (qL (wR (w6 (qA (dC (.int 1001)) (qC))) (gNm 4) (sIf (dTr (d2 nF (d2 zJ (qB 0) (d2 z0 (qB 4) (qB 4))) (qB 1))) (qL (qT (d2 fV (qB 1) (d2 zJ (qB 0) (d2 z0 (qB 4) (qB 4)))) (gNm 5)) (qL (qT (d2 qW (qB 2) (zL (qA (qQ (qA (qB 4) (qA (qB 5) (qC)))) (qA (qQ (qA (d2 zJ (dC (.int 0)) (qB 4)) (qA (qB 5) (qC)))) (qA (qQ (qA (qB 4) (qA (d2 zJ (dC (.int 0)) (qB 5)) (qC)))) (qC)))))) (gNm 2)) (qT (d2 qW (qB 2) (zL (qA (qQ (qA (d2 zJ (dC (.int 0)) (qB 4)) (qA (d2 zJ (dC (.int 0)) (qB 5)) (qC)))) (qC)))) (gNm 2)))) (zH))) (zA (vE false (qB 2)))))
@[irreducible] def S__law_circle:DF:=sh (qX 6 b__law_circle)
def j9:S__law_circle=qX 6 b__law_circle:=by delta S__law_circle;exact xP _
@[reducible] def b__law_rich:DS:=qL (qT (dC (.int 1)) (gNm 2)) (qL (wR (w6 (qA (d2 qW (dC (.int 1)) (qE 2 S__law_draw (qA (qB 0) (qA (dC (.int 6)) (qC))))) (qC))) (gNm 3) (qL (qT (d2 gIx (zL (qA (dC (.int 2)) (qA (dC (.int 5)) (qA (dC (.int 13)) (qA (dC (.int 17)) (qA (dC (.int 4)) (qA (dC (.int 9)) (qA (dC (.int 5)) (qA (dC (.int 29)) (qC)))))))))) (qE 2 S__law_draw (qA (qB 0) (qA (dC (.int 8)) (qC))))) (gNm 4)) (sIf (dTr (d2 gLe (d2 z0 (qB 2) (qB 4)) (qB 1))) (qT (d2 z0 (qB 2) (qB 4)) (gNm 2)) (zH)))) (zA (qB 2)))
@[irreducible] def S__law_rich:DF:=sh (qX 5 b__law_rich)
def kR:S__law_rich=qX 5 b__law_rich:=by delta S__law_rich;exact xP _
@[reducible] def b__law_lot:DS:=qL (jR 2 3 (qA (qE 2 S__law_draw (qA (qB 0) (qA (dC (.int 6)) (qC)))) (qA (d2 qW (dC (.int 1)) (qE 2 S__law_draw (qA (qB 0) (qA (qB 1) (qC))))) (qC)))) (qL (qT (qQ (qA (d2 zJ (qE 2 S__law_draw (qA (qB 0) (qA (dC (.int 21)) (qC)))) (dC (.int 10))) (qA (d2 zJ (qE 2 S__law_draw (qA (qB 0) (qA (dC (.int 21)) (qC)))) (dC (.int 10))) (qC)))) (gTp 2 (zD (gNm 4) (zD (gNm 5) (xS))))) (qL (qT (d2 gIx (zL (qA (dC (.int 3)) (qA (dC (.int 6)) (qA (dC (.int 900)) (qC))))) (qE 2 S__law_draw (qA (qB 0) (qA (dC (.int 3)) (qC))))) (gNm 6)) (qL (sIf (dTr (d2 gLt (qB 2) (dC (.int 2)))) (qT (qE 1 S__law_circle (qA (qE 2 S__law_rich (qA (qB 0) (qA (dC (.int 5000)) (qC)))) (qC))) (gNm 7)) (sIf (dTr (d2 gEq (qB 2) (dC (.int 2)))) (qT (zQ false [none] (wD (w6 (qA (dC (.int 25)) (qC)))) (gNm 0) (w8) (zZ (qQ (qA (d2 uA (qB 0) (dC (.int 5))) (qA (d2 uN (qB 0) (dC (.int 5))) (qC)))))) (gNm 7)) (sIf (dTr (d2 gEq (qB 2) (dC (.int 3)))) (qL (qT (zQ false [none] (wD (w6 (qA (dC (.int 20)) (qC)))) (gNm 0) (w8) (zZ (qQ (qA (d2 z0 (dC (.int 2)) (qB 0)) (qA (d2 z0 (dC (.int 3)) (qB 0)) (qC)))))) (gNm 7)) (qT (d2 qW (qB 7) (zQ false [none] (wD (w6 (qA (dC (.int 5)) (qC)))) (gNm 0) (w8) (zZ (qQ (qA (qB 0) (qA (dC (.int 0)) (qC))))))) (gNm 7))) (sIf (dTr (d2 gEq (qB 2) (dC (.int 4)))) (qT (zL (qA (qQ (qA (dC (.int 0)) (qA (dC (.int 0)) (qC)))) (qA (qQ (qA (dC (.int 0)) (qA (dC (.int 4)) (qC)))) (qA (qQ (qA (dC (.int 4)) (qA (dC (.int 0)) (qC)))) (qA (qQ (qA (dC (.int 4)) (qA (dC (.int 4)) (qC)))) (qA (qQ (qA (dC (.int 2)) (qA (dC (.int 2)) (qC)))) (qA (qQ (qA (d1 yR (dC (.int 1))) (qA (dC (.int 2)) (qC)))) (qA (qQ (qA (dC (.int 2)) (qA (d1 yR (dC (.int 1))) (qC)))) (qA (qQ (qA (dC (.int 5)) (qA (dC (.int 2)) (qC)))) (qA (qQ (qA (dC (.int 2)) (qA (dC (.int 5)) (qC)))) (qA (qQ (qA (dC (.int 1)) (qA (dC (.int 1)) (qC)))) (qA (qQ (qA (dC (.int 6)) (qA (dC (.int 6)) (qC)))) (qC))))))))))))) (gNm 7)) (qL (qT (vL (qC)) (gNm 7)) (wR (w6 (qA (qB 1) (qC))) (gNm 8) (qL (qT (d2 zJ (qE 2 S__law_draw (qA (qB 0) (qA (d2 qW (d2 z0 (dC (.int 2)) (qB 6)) (dC (.int 1))) (qC)))) (qB 6)) (gNm 9)) (zR (dBm "list" y7 (qB 7) (qA (qQ (qA (qB 9) (qA (d2 zJ (qE 2 S__law_draw (qA (qB 0) (qA (qB 6) (qC)))) (dC (.int 2))) (qC)))) (qC))))))))))) (qL (qT (vE true (qB 7)) (gNm 7)) (qL (qT (vL (qC)) (gNm 10)) (qL (tN (yM (dTr (d2 (kA gNe) (qB 7) (vL (qC)))) (dTr (d2 gLt (qH xI (qA (qB 10) (qC))) (qB 3)))) (zR (dBm "list" y7 (qB 10) (qA (dBm "list" jI (qB 7) (qA (qE 2 S__law_draw (qA (qB 0) (qA (qH xI (qA (qB 7) (qC))) (qC)))) (qC))) (qC))))) (zA (qH jF (qA (qH u7 (qA (zQ false [none,Aa 4,Aa 5] (dIt (qB 10)) (gNm 0) (w8) (zZ (qQ (qA (d2 qW (d2 gIx (qB 0) (dC (.int 0))) (qB 1)) (qA (d2 qW (d2 gIx (qB 0) (dC (.int 1))) (qB 2)) (qC)))))) (qC))) (qC))))))))))
@[irreducible] def S__law_lot:DF:=sh (qX 11 b__law_lot)
def pH:S__law_lot=qX 11 b__law_lot:=by delta S__law_lot;exact xP _
@[reducible] def b__law_no_point:DS:=qL (qT (zL (qA (qQ (qA (dC (.int 0)) (qC))) (qA (qQ (qA (dC (.int 0)) (qA (dC (.int 0)) (qA (dC (.int 0)) (qC))))) (qA (zL (qA (dC (.int 0)) (qA (dC (.int 0)) (qC)))) (qA (dC .non) (qA (qQ (qA (dC (.bl true)) (qA (dC (.int 0)) (qC)))) (qA (qQ (qA (dC (.int 0)) (qA (dC .non) (qC)))) (qA (qQ (qA (dC (.int 1001)) (qA (dC (.int 0)) (qC)))) (qA (qQ (qA (dC (.int 0)) (qA (d1 yR (dC (.int 1001))) (qC)))) (qA (dC (.str "0,0")) (qA (dC (.int 7)) (qA (qQ (qC)) (qA (qQ (qA (qQ (qA (dC (.int 0)) (qA (dC (.int 0)) (qC)))) (qC))) (qC)))))))))))))) (gNm 1)) (zA (d2 gIx (qB 1) (qE 2 S__law_draw (qA (qB 0) (qA (dC (.int 12)) (qC))))))
@[irreducible] def S__law_no_point:DF:=sh (qX 2 b__law_no_point)
def uJ:S__law_no_point=qX 2 b__law_no_point:=by delta S__law_no_point;exact xP _
@[reducible] def b__law_point:DS:=qL (qT (d2 gIx (zL (qA (dC (.int 2)) (qA (dC (.int 12)) (qA (dC (.int 1000)) (qC))))) (qE 2 S__law_draw (qA (qB 0) (qA (dC (.int 3)) (qC))))) (gNm 1)) (zA (qQ (qA (d2 zJ (qE 2 S__law_draw (qA (qB 0) (qA (d2 qW (d2 z0 (dC (.int 2)) (qB 1)) (dC (.int 1))) (qC)))) (qB 1)) (qA (d2 zJ (qE 2 S__law_draw (qA (qB 0) (qA (d2 qW (d2 z0 (dC (.int 2)) (qB 1)) (dC (.int 1))) (qC)))) (qB 1)) (qC)))))
@[irreducible] def S__law_point:DF:=sh (qX 2 b__law_point)
def jW:S__law_point=qX 2 b__law_point:=by delta S__law_point;exact xP _
@[reducible] def b__law_counted:DS:=qL (qT (dC (.int 0)) (gNm 2)) (qL (wR (w6 (qA (dC (.int 1)) (qA (d2 qW (qB 0) (qB 1)) (qC)))) (gNm 3) (wR (w6 (qA (d2 qW (qB 0) (qB 1)) (qC))) (gNm 4) (qT (d2 qW (qB 2) (d2 z0 (qH bO (qA (dC (.int 0)) (qA (d2 zJ (d2 zJ (qB 0) (qB 3)) (qB 4)) (qC)))) (qH bO (qA (dC (.int 0)) (qA (d2 zJ (d2 zJ (qB 1) (qB 3)) (qB 4)) (qC)))))) (gNm 2)))) (zA (qB 2)))
@[irreducible] def S__law_counted:DF:=sh (qX 5 b__law_counted)
def uR:S__law_counted=qX 5 b__law_counted:=by delta S__law_counted;exact xP _
@[reducible] def b__law_summed:DS:=zA (qH rP (qA (zQ false [none,Aa 1,Aa 0] (wD (w6 (qA (dC (.int 1)) (qA (qH jY (qA (qB 0) (qA (qB 1) (qC)))) (qC))))) (gNm 0) (w8) (zZ (d2 z0 (d2 z0 (qB 0) (d2 zJ (qB 2) (qB 0))) (d2 zJ (qB 1) (qB 0))))) (qC)))
@[irreducible] def S__law_summed:DF:=sh (qX 2 b__law_summed)
def jA:S__law_summed=qX 2 b__law_summed:=by delta S__law_summed;exact xP _
@[reducible] def b__law_squared:DS:=qL (jR 2 3 (qA (d2 zJ (d2 gIx (qB 1) (dC (.int 0))) (d2 gIx (qB 0) (dC (.int 0)))) (qA (d2 zJ (d2 gIx (qB 1) (dC (.int 1))) (d2 gIx (qB 0) (dC (.int 1)))) (qC)))) (qL (qT (zL (qA (qB 0) (qA (qB 1) (qA (qQ (qA (d2 zJ (d2 gIx (qB 0) (dC (.int 0))) (qB 3)) (qA (d2 qW (d2 gIx (qB 0) (dC (.int 1))) (qB 2)) (qC)))) (qC))))) (gNm 4)) (qL (qT (d2 qW (qB 4) (zL (qA (qQ (qA (d2 zJ (d2 gIx (qB 1) (dC (.int 0))) (qB 3)) (qA (d2 qW (d2 gIx (qB 1) (dC (.int 1))) (qB 2)) (qC)))) (qC)))) (gNm 4)) (qL (wR (xZ (qB 4)) (gTp 2 (zD (gNm 5) (zD (gNm 6) (xS)))) (sIf (vM (xB (dTr (wI gLe gLe (d1 yR (dC (.int 1000))) (qB 5) (dC (.int 1000))))) (xB (dTr (wI gLe gLe (d1 yR (dC (.int 1000))) (qB 6) (dC (.int 1000)))))) (zA (dC .non)) (zH))) (zA (dIf (dTr (d2 gEq (qB 0) (qB 1))) (dC .non) (qH jF (qA (qH u7 (qA (qB 4) (qC))) (qC))))))))
@[irreducible] def S__law_squared:DF:=sh (qX 7 b__law_squared)
def uS:S__law_squared=qX 7 b__law_squared:=by delta S__law_squared;exact xP _
@[reducible] def b_law (c:Cl):DS:=qL (sIf (vM (dTr (d2 gNe (zQ false [none] (dIt (qQ (qA (dC (.int 1)) (qA (dC (.int 2)) (qA (dC (.int 3)) (qA (dC (.int 4)) (qC))))))) (gNm 0) (w8) (zZ (qE 2 (okO (S_many_squares c)) (qA (qB 0) (qA (qB 0) (qC)))))) (zL (qA (dC (.int 0)) (qA (dC (.int 1)) (qA (dC (.int 6)) (qA (dC (.int 20)) (qC)))))))) (dTr (d2 gNe (qE 2 (S_many_squares c) (qA (dC (.int 2)) (qA (dC (.int 9)) (qC)))) (dC (.int 8))))) (zA (dC (.bl false))) (zH)) (qL (sIf (dTr (d2 gNe (qE 2 (S_many_squares c) (qA (d2 xR (dC (.int 10)) (dC (.int 6))) (qA (dC (.int 3)) (qC)))) (dC (.int 3999994)))) (zA (dC (.bl false))) (zH)) (qL (wR (xZ (d2 qW (zL (qA (qE 2 S__law_cell (qA (qB 0) (qA (dC (.int 0)) (qC)))) (qC))) (dSl (qB 0) (vN (dC (.int 1))) (vN (dC (.int 6)))))) (gNm 1) (qL (qT (qE 1 S__law_pen (qA (qB 1) (qC))) (gNm 2)) (qL (jR 3 4 (qA (d2 qW (dC (.int 1)) (qE 2 S__law_draw (qA (qB 2) (qA (dC (.int 6)) (qC))))) (qA (d2 qW (dC (.int 1)) (qE 2 S__law_draw (qA (qB 2) (qA (dC (.int 6)) (qC))))) (qC)))) (qL (jR 5 6 (qA (d2 qW (dC (.int 1)) (qE 2 S__law_draw (qA (qB 2) (qA (dC (.int 3000)) (qC))))) (qA (d2 qW (dC (.int 1)) (qE 2 S__law_draw (qA (qB 2) (qA (d2 xR (dC (.int 10)) (dC (.int 6))) (qC))))) (qC)))) (qL (qT (d2 gIx (zL (qA (d2 xR (dC (.int 10)) (dC (.int 6))) (qA (d2 qW (dC (.int 1)) (qE 2 S__law_draw (qA (qB 2) (qA (d2 xR (dC (.int 10)) (dC (.int 6))) (qC))))) (qC)))) (qE 2 S__law_draw (qA (qB 2) (qA (dC (.int 2)) (qC))))) (gNm 7)) (qL (qT (zL (qA (qE 2 S__law_counted (qA (qB 3) (qA (qB 4) (qC)))) (qA (qE 2 S__law_summed (qA (qB 5) (qA (qB 6) (qC)))) (qC)))) (gNm 8)) (qL (qT (d2 qW (qB 8) (zL (qA (d2 uA (d2 z0 (d2 z0 (qB 7) (qB 7)) (d2 zJ (d2 z0 (qB 7) (qB 7)) (dC (.int 1)))) (dC (.int 12))) (qC)))) (gNm 8)) (qL (qT (zL (qA (qE 2 (S_many_squares c) (qA (qB 3) (qA (qB 4) (qC)))) (qA (qE 2 (S_many_squares c) (qA (qB 5) (qA (qB 6) (qC)))) (qA (qE 2 (S_many_squares c) (qA (qB 7) (qA (qB 7) (qC)))) (qC))))) (gNm 9)) (qL (sIf (xB (dTr (qE 2 S__law_same (qA (qB 9) (qA (qB 8) (qC)))))) (zA (dC (.bl false))) (zH)) (qL (qT (qE 2 S__law_lot (qA (qB 2) (qA (dC (.int 5)) (qC)))) (gNm 10)) (qL (qT (qQ (qA (qE 1 S__law_point (qA (qB 2) (qC))) (qA (qE 1 S__law_point (qA (qB 2) (qC))) (qC)))) (gTp 2 (zD (gNm 16) (zD (gNm 11) (xS))))) (qL (qT (zL (qA (qQ (qA (d2 gIx (qB 10) (dC (.int 0))) (qA (d2 gIx (qB 10) (d1 yR (dC (.int 1)))) (qC)))) (qA (qQ (qA (d2 gIx (qB 10) (d1 yR (dC (.int 1)))) (qA (d2 gIx (qB 10) (dC (.int 0))) (qC)))) (qA (qQ (qA (qB 16) (qA (d2 gIx (qB 10) (dC (.int 0))) (qC)))) (qA (qQ (qA (qB 16) (qA (qB 11) (qC)))) (qC)))))) (gNm 12)) (qL (wR (xZ (qB 12)) (gTp 2 (zD (gNm 17) (zD (gNm 18) (xS)))) (qL (qT (qE 2 S__law_squared (qA (qB 17) (qA (qB 18) (qC)))) (gNm 8)) (qL (sIf (yM (dTr (d2 gIs (qB 8) (dC .non))) (dTr (d2 gNe (wW false [17,18] 1 2 (qC) (b__law_refused c (gX (qE 2 (S_square_at c) (qA (qB 0) (qA (qB 1) (qC))))))) (dC (.str "point"))))) (zA (dC (.bl false))) (zH)) (sIf (yM (dTr (d2 jH (qB 8) (dC .non))) (xB (dTr (qE 2 S__law_same (qA (qE 2 (S_square_at c) (qA (qB 17) (qA (qB 18) (qC)))) (qA (qB 8) (qC))))))) (zA (dC (.bl false))) (zH))))) (qL (jR 13 14 (qA (qE 1 S__law_no_point (qA (qB 2) (qC))) (qA (qE 3 S__law_no_number (qA (qB 2) (qA (dC (.int 1)) (qA (d2 xR (dC (.int 10)) (dC (.int 6))) (qC))))) (qC)))) (qL (qT (d2 gIx (qB 10) (dC (.int 0))) (gNm 15)) (qL (qT (zL (qA (qQ (qA (qB 13) (qA (qB 15) (qC)))) (qA (qQ (qA (qB 15) (qA (qB 13) (qC)))) (qA (qQ (qA (qB 13) (qA (qB 13) (qC)))) (qA (qQ (qA (qB 15) (qA (qB 15) (qC)))) (qC)))))) (gNm 12)) (qL (wR (xZ (qB 12)) (gTp 2 (zD (gNm 17) (zD (gNm 18) (xS)))) (sIf (dTr (d2 gNe (wW false [17,18] 1 2 (qC) (b__law_refused c (gX (qE 2 (S_square_at c) (qA (qB 0) (qA (qB 1) (qC))))))) (dC (.str "point")))) (zA (dC (.bl false))) (zH))) (wR (xZ (zL (qA (qQ (qA (qB 14) (qA (dC (.int 1)) (qC)))) (qA (qQ (qA (dC (.int 1)) (qA (qB 14) (qC)))) (qA (qQ (qA (qB 14) (qA (qB 14) (qC)))) (qA (qQ (qA (dC (.int 0)) (qA (dC (.int 5)) (qC)))) (qA (qQ (qA (dC (.int 5)) (qA (d2 qW (d2 xR (dC (.int 10)) (dC (.int 6))) (dC (.int 1))) (qC)))) (qC)))))))) (gTp 2 (zD (gNm 16) (zD (gNm 19) (xS)))) (sIf (dTr (d2 gNe (wW false [16,19] 1 2 (qC) (b__law_refused c (gX (qE 2 (S_many_squares c) (qA (qB 0) (qA (qB 1) (qC))))))) (dC (.str "number")))) (zA (dC (.bl false))) (zH)))))))))))))))))))) (zA (dC (.bl true)))))
end _K
namespace _K
open PySem _D
variable {kvs:Ab (_L.Key × D)}{cl:Ab Ad}{xs ds caps:Ab D}{C:Ad}{j i p M:Ah}{g:DS}{Q:D→Sto→Prop}{S S1 S' S2:Sto}{env:qD}
def bQ (i j:Ai)(S:Sto):gEq (.int i) (.int j) S=.ok (.bl (decide (i=j))) S:=by kernel_rfl!
def bR (i j:Ai)(S:Sto):gNe (.int i) (.int j) S=.ok (.bl (decide (i≠j))) S:=by
 have h:gNe (.int i) (.int j) S=.ok (.bl (!decide (i=j))) S:=by kernel_rfl!
 rw[h,← decide_not]
def zN (i j:Ai)(S:Sto)(h : -(2 ^ 64)<i∧i<2 ^ 64):z0 (.int i) (.int j) S=.ok (.int (i*j)) S:=by
 unfold z0 i2;rw[sX];unfold sW;simp only[h,and_self,IB,Xn,Dc]
def zM (i j:Ai)(S:Sto):qW (.int i) (.int j) S=.ok (.int (i+j)) S:=rfl
def yD {ys:Ab D}(h:xs.length+ys.length≤lim)(S:Sto):qW (.lst xs) (.lst ys) S=.ok (.lst (xs++ys)) S:=Bg h
def QM (h:S[j]? = Aa (.lst xs)):tyD (.loc j) S=Aa "list":=by
 show (match S[j]? with|some (.lst _)=>Aa "list" | some (.dct _)=>Aa "dict" | _=>none)=_
 rw[h]
def QV (h:S[j]? = Aa (.lst xs))(hl:xs.length<lim)(d:D):y7 (.loc j) [d] S=.ok .non (S.set j (.lst (xs++[d]))):=by
 show (match S[j]? with|some (.lst xs)=>(if xs.length<lim then Res.ok D.non (S.set j (.lst (xs++[d]))) else .bad)|_=>.bad)=_
 rw[h];exact Bg hl
def pW (a b:Ap)(S:Sto):gNe (.bl a) (.bl b) S=.ok (.bl (a != b)) S:=by
 cases a <;> cases b <;> rfl
def yF (d:D)(b a:Do)(S:Sto)(ho:wM b=true)(h:tyD d S=Aa a):xC [d,.ty b] S=.ok (.bl (zO a b)) S:=by
 unfold xC;simp[ho,h]
def eA (xs:Ab D)(S:Sto):xI [.lst xs] S=.ok (.int xs.length) S:=rfl
def VL (xs:Ab D)(S:Sto):xI [.tup xs] S=.ok (.int xs.length) S:=rfl
def TX (i:Ai)(S:Sto):gIs (.int i) .non S=.ok (.bl false) S:=rfl
def x9:wM "int" = true∧wM "bool" = true∧wM "tuple" = true∧wM "list" = true∧wM "str" = true:=kd
def fD:zO "int" "tuple" = false∧zO "int" "list" = false∧zO "int" "str" = false∧zO "int" "bool" = false∧zO "int" "int" = true∧zO "tuple" "tuple" = true∧zO "tuple" "list" = false∧zO "list" "tuple" = false∧zO "list" "list" = true:=kd
def uY (i j:Ai)(S:Sto)(h:0<j):uN (.int i) (.int j) S=.ok (.int (i % j)) S:=by
 unfold uN i2;simp[h]
def uX (i j:Ai)(S:Sto)(h:0<j∧j<1073741824):uA (.int i) (.int j) S=.ok (.int (i/j)) S:=by
 unfold uA i2 FX;simp[h]
def yC (d:D):Prop:=∀ S,tyD d S=Aa "NoneType" ∨ tyD d S=Aa "bool" ∨ tyD d S=Aa "str" ∨ tyD d S=Aa "tuple" ∨ tyD d S=Aa "list" ∨ tyD d S=Aa "dict"
def l9 (i:Ai)(S:Sto):S_is_whole [.int i] S=.ok (.bl true) S:=by
 rw[uM]
 kernel_rfl!
def dW (d:D)(S:Sto)(h:yC d):S_is_whole [d] S=.ok (.bl false) S:=by
 rw[uM];unfold b_is_whole;rcases h S with h|h|h|h|h|h <;> simp[qX,v3,B0,AO,PZ,qL,sIf,zA,zH,zR,qT,gNm,gSb,gTp,zD,xS,jR,CY,IA,dC,qB,d1,d2,qA,qC,qH,qE,dTr,xB,vM,yM,w8,n6,YG,wI,qQ,zL,vL,dBm,dSl,vN,AR,xZ,w6,Res.bind,Res.toS,_D.kL,_D.vT,AU,AQ,bH,AY,AV,AW,cG,cE,AN,AM,AS,gLt,gLe,gGt,gGe,_D.zJ,AX,yF _ _ _ _ x9.1 h,yF _ _ _ _ x9.2.1 h,zO]
def mB (i a b:Ai)(S:Sto):S_is_within [.int i,.int a,.int b] S=.ok (.bl (decide (a≤i∧i≤b))) S:=by
 rw[u0];unfold b_is_within;simp[qX,v3,B0,AO,PZ,qL,sIf,zA,zH,zR,qT,gNm,gSb,gTp,zD,xS,jR,CY,IA,dC,qB,d1,d2,qA,qC,qH,qE,dTr,xB,vM,yM,w8,n6,YG,wI,qQ,zL,vL,dBm,dSl,vN,AR,xZ,w6,Res.bind,Res.toS,_D.kL,_D.vT,AU,AQ,bH,AY,AV,AW,cG,cE,AN,AM,AS,gLt,gLe,gGt,gGe,_D.zJ,AX,l9];by_cases h:a≤i <;> simp[h,B0]
def fK (d:D)(a b:Ai)(S:Sto)(h:yC d):S_is_within [d,.int a,.int b] S=.ok (.bl false) S:=by
 rw[u0];unfold b_is_within;simp[qX,v3,B0,AO,PZ,qL,sIf,zA,zH,zR,qT,gNm,gSb,gTp,zD,xS,jR,CY,IA,dC,qB,d1,d2,qA,qC,qH,qE,dTr,xB,vM,yM,w8,n6,YG,wI,qQ,zL,vL,dBm,dSl,vN,AR,xZ,w6,Res.bind,Res.toS,_D.kL,_D.vT,AU,AQ,bH,AY,AV,AW,cG,cE,AN,AM,AS,gLt,gLe,gGt,gGe,_D.zJ,AX,dW d S h]
def gI (a b:Ai)(d:D):Prop:=∀ S:Sto,S_is_within [d,.int a,.int b] S=.ok (.bl false) S
def jN {a b i:Ai}(h:i<a∨b<i):gI a b (.int i):=λS=>by
 rw[mB];have:¬ (a≤i∧i≤b):=by omega
 simp[this]
def p9 {a b:Ai}{d:D}(h:yC d):gI a b d:=λS=>fK _ _ _ S h
def XD:yC .non:=λ_=>.inl rfl
def Q0 (b:Ap):yC (.bl b):=λ_=>.inr (.inl rfl)
def XE (x:Ar):yC (.str x):=λ_=>.inr (.inr (.inl rfl))
def XF (x:Ab D):yC (.tup x):=λ_=>.inr (.inr (.inr (.inl rfl)))
def XC (x:Ab D):yC (.lst x):=λ_=>.inr (.inr (.inr (.inr (.inl rfl))))
def XB:yC .dct0:=λ_=>.inr (.inr (.inr (.inr (.inr rfl))))
def eU (i a b:Ai)(S:Sto)(c:Cl)(h:a≤i∧i≤b):S_need_within c [.int i,.int a,.int b] S=.ok .non S:=by
 rw[v9];unfold b_need_within;simp[qX,v3,B0,AO,PZ,qL,sIf,zA,zH,zR,qT,gNm,gSb,gTp,zD,xS,jR,CY,IA,dC,qB,d1,d2,qA,qC,qH,qE,dTr,xB,vM,yM,w8,n6,YG,wI,qQ,zL,vL,dBm,dSl,vN,AR,xZ,w6,Res.bind,Res.toS,_D.kL,_D.vT,AU,AQ,bH,AY,AV,AW,cG,cE,AN,AM,AS,gLt,gLe,gGt,gGe,_D.zJ,AX,mB,h]
def ZP (a:Ai)(S:Sto)(h:a.natAbs.log2<1920):kI (.int a) S=.ok (.str (toString a)) S:=by
 unfold kI;simp only[h,Dc]
def NG (a b:Ai):Ab Ar:=[Jq++("a whole number from " : Ar),Jq++("a whole number from " : Ar)++((toString a:Do):Ar),Jq++("a whole number from " : Ar)++((toString a:Do):Ar)++(" to " : Ar),Jq++("a whole number from " : Ar)++((toString a:Do):Ar)++(" to " : Ar)++((toString b:Do):Ar),Jq++("a whole number from " : Ar)++((toString a:Do):Ar)++(" to " : Ar)++((toString b:Do):Ar)++(" is needed" : Ar)]
def oZ (a b:Ai):Ap:=decide (a.natAbs.log2<1920)&&decide (b.natAbs.log2<1920)&&(NG a b).all λm=>decide (m.length≤lim)
def pY {out y:Ar}{p:DE}{ps:Ab DE}(h:p env S=.ok (.str y) S1)(hl:(out++y).length≤lim):gV out (p::ps) env S=gV (out++y) ps env S1:=by
 show ((p env S).bind λd S1=>match d with|.str y=>if (out++y).length≤lim then gV (out++y) ps env S1 else .bad|_=>.bad)=_
 rw[h];exact Bg hl
def dH (d:D)(a b:Ai)(S:Sto)(c:Cl)(hm:oZ a b=true)(h:gI a b d):S_need_within c [d,.int a,.int b] S=.ex (.ref c.NoNumber) .non S:=by
 rw[v9];unfold b_need_within;simp only[oZ,NG,Jt,List.all_nil,Bn,Se,Cd] at hm;obtain⟨⟨la,lb⟩,j1,j2,j3,j4,j5⟩:=hm;have hj:sD [dC (.str "a whole number from "),d1 kI (qB 1),dC (.str " to "),d1 kI (qB 2),dC (.str " is needed")] [Aa d,Aa (.int a),Aa (.int b)] S=.ok (.str (Jq++("a whole number from " : Ar)++((toString a:Do):Ar)++(" to " : Ar)++((toString b:Do):Ar)++(" is needed" : Ar))) S:=
  (pY rfl j1).trans ((pY (ZP a S la) j2).trans ((pY rfl j3).trans ((pY (ZP b S lb) j4).trans ((pY rfl j5).trans (Bg j5)))))
 have l1:∀ x:D,[x].length≤lim:=λx=>by show 1≤lim;decide
 simp[qX,v3,B0,AO,PZ,qL,sIf,zA,zH,zR,qT,gNm,gSb,gTp,zD,xS,jR,CY,IA,dC,qB,d1,d2,qA,qC,qH,qE,dTr,xB,vM,yM,w8,n6,YG,wI,qQ,zL,vL,dBm,dSl,vN,AR,xZ,w6,Res.bind,Res.toS,_D.kL,_D.vT,AU,AQ,bH,AY,AV,AW,cG,cE,AN,AM,AS,gLt,gLe,gGt,gGe,_D.zJ,AX,h S,vU];simp only[hj,l1,Dc,PZ]
def xG (S:Sto)(p:Ah):Prop:=∃ v f:Ai,S[p]? = Aa (.lst [.int v,.int f])
def rW (p:Ah)(k:Ai)(xs:Ab D)(d:D)(S:Sto)(h:S[p]? = Aa (.lst xs))(hk:_L.atI xs k=Aa d):gIx (.loc p) (.int k) S=.ok d S:=by
 show (match S[p]? with|some (.lst xs)=>_D.vT (_L.atI xs k) S|_=>.bad)=_
 rw[h];show _D.vT (_L.atI xs k) S=_;rw[hk];rfl
def JO (v f:Ai):_L.atI [D.int v,D.int f] 0=Aa (.int v):=rfl
def EA (v f:Ai):_L.atI [D.int v,D.int f] 1=Aa (.int f):=rfl
def iE (p:Ah)(v f w:Ai)(S:Sto)(h:S[p]? = Aa (.lst [.int v,.int f])):v7 (.loc p) (.int 0) (.int w) S=.ok () (S.set p (.lst [.int w,.int f])):=by
 simp[v7,fW,h,_L.ixN]
def eR (S:Sto)(p:Ah)(m:Ai)(h:xG S p)(hm:0<m∧m<1073741824):∃ r v f:Ai,S__law_draw [.loc p,.int m] S=.ok (.int r) (S.set p (.lst [.int v,.int f]))∧0≤r∧r<m:=by
 obtain⟨v,f,hp⟩:=h;have hpl:=(AT.mp hp).1;have g0:=rW p 0 _ _ S hp (JO v f);have g1:=rW p 1 _ _ S hp (EA v f);rw[kQ];unfold b__law_draw;by_cases hf:f=1
 ·refine⟨v % m,v/m,f,?_,Ka _ om,IL _ hm.1⟩
  subst hf;simp[qX,v3,B0,AO,PZ,qL,sIf,zA,zH,zR,qT,gNm,gSb,gTp,zD,xS,jR,CY,IA,dC,qB,d1,d2,qA,qC,qH,qE,dTr,xB,vM,yM,w8,n6,YG,wI,qQ,zL,vL,dBm,dSl,vN,AR,xZ,w6,Res.bind,Res.toS,_D.kL,_D.vT,AU,AQ,bH,AY,AV,AW,cG,cE,AN,AM,AS,gLt,gLe,gGt,gGe,_D.zJ,AX,g0,g1,bQ,uY v m S hm.1,uX v m S hm,iE p v 1 (v/m) S hp]
 ·obtain⟨w,hw⟩:∃ w:Ai,w=(v % 2147483629*48271+11) % 2147483629:=⟨_,rfl⟩
  have hw1:0≤w∧w<2147483629:=by rw[hw];exact⟨Ka _ om,IL _ om⟩
  have hv1:0≤v % 2147483629∧v % 2147483629<2147483629:=⟨Ka _ om,IL _ om⟩;have hp':(S.set p (MO.lst [.int w,.int f]))[p]? = Aa (.lst [.int w,.int f]):=by simp[hpl]
  have k0:=rW p 0 _ _ (S.set p (MO.lst [.int w,.int f])) hp' (JO w f);have m1:=zN (v % 2147483629) 48271 S ⟨by omega,by omega⟩
  have m2:=zN w w (S.set p (MO.lst [.int w,.int f])) ⟨by omega,by omega⟩
  have m3:=zN 40692 w (S.set p (MO.lst [.int w,.int f])) ⟨by omega,by omega⟩
  have d1:=uY v 2147483629 S om;have d2':=uY (v % 2147483629*48271+11) 2147483629 S om;rw[← hw] at d2';have d3:=uY (w*w+40692*w) 2147483647 (S.set p (MO.lst [.int w,.int f])) om;have d4:=uX ((w*w+40692*w) % 2147483647) 8 (S.set p (MO.lst [.int w,.int f])) om;have d5:=uY ((w*w+40692*w) % 2147483647/8) m (S.set p (MO.lst [.int w,.int f])) hm.1;refine⟨(w*w+40692*w) % 2147483647/8 % m,w,f,?_,Ka _ om,IL _ hm.1⟩;simp[qX,v3,B0,AO,PZ,qL,sIf,zA,zH,zR,qT,gNm,gSb,gTp,zD,xS,jR,CY,IA,dC,qB,d1,d2,qA,qC,qH,qE,dTr,xB,vM,yM,w8,n6,YG,wI,qQ,zL,vL,dBm,dSl,vN,AR,xZ,w6,Res.bind,Res.toS,_D.kL,_D.vT,AU,AQ,bH,AY,AV,AW,cG,cE,AN,AM,AS,gLt,gLe,gGt,gGe,_D.zJ,AX,g0,g1,bQ,hf,d1,m1,zM,d2',iE p v f w S hp,k0,m2,m3,d3,d4,d5]
def m8 (h:xG S p)(v f:Ai):xG (S.set p (.lst [.int v,.int f])) p:=by
 obtain⟨v0,f0,hp⟩:=h;have hpl:=(AT.mp hp).1;exact⟨v,f,by simp[hpl]⟩
def B6 (h:xG S p)(e:S<+:S'):xG S' p:=by
 obtain⟨v0,f0,hp⟩:=h;obtain⟨r,rfl⟩:=e;exact⟨v0,f0,by rw[Bz (AT.mp hp).1];exact hp⟩
def LP (S:Sto):xR (.int 10) (.int 18) S=.ok (.int 1000000000000000000) S:=rfl
def LQ (S:Sto):xR (.int 10) (.int 29) S=.ok (.int 100000000000000000000000000000) S:=rfl
def EK (x:Ai)(S:Sto):∃ f:Ai,S__law_pen [.int x] S=.ok (.loc S.length) (S++[.lst [.int x,.int f]]):=by
 refine⟨b01 (decide (1000000000000000000≤x)),?_⟩;have l2:2≤lim:=by decide
 rw[pI];unfold b__law_pen;simp[qX,v3,B0,AO,PZ,qL,sIf,zA,zH,zR,qT,gNm,gSb,gTp,zD,xS,jR,CY,IA,dC,qB,d1,d2,qA,qC,qH,qE,dTr,xB,vM,yM,w8,n6,YG,wI,qQ,zL,vL,dBm,dSl,vN,AR,xZ,w6,Res.bind,Res.toS,_D.kL,_D.vT,AU,AQ,bH,AY,AV,AW,cG,cE,AN,AM,AS,gLt,gLe,gGt,gGe,_D.zJ,AX,LP,GJ,l2]
def DR (ns:Ab Ai)(S:Sto):∃ x:Ai,S__law_cell [.lst (ns.map D.int),.int 0] S=.ok (.int x) S:=by
 rw[kO];unfold b__law_cell;cases ns with
 |nil=>exact⟨0,by simp[qX,v3,B0,AO,PZ,qL,sIf,zA,zH,zR,qT,gNm,gSb,gTp,zD,xS,jR,CY,IA,dC,qB,d1,d2,qA,qC,qH,qE,dTr,xB,vM,yM,w8,n6,YG,wI,qQ,zL,vL,dBm,dSl,vN,AR,xZ,w6,Res.bind,Res.toS,_D.kL,_D.vT,AU,AQ,bH,AY,AV,AW,cG,cE,AN,AM,AS,gLt,gLe,gGt,gGe,_D.zJ,AX,eA]⟩
 |cons n ns =>
  refine⟨n,?_⟩;have h:(0:Ai)<(ns.length:Ai)+1:=by omega
  have a:_L.atI (D.int n::ns.map D.int) 0=Aa (.int n):=by simp[_L.atI,_L.ixN,h]
  simp[qX,v3,B0,AO,PZ,qL,sIf,zA,zH,zR,qT,gNm,gSb,gTp,zD,xS,jR,CY,IA,dC,qB,d1,d2,qA,qC,qH,qE,dTr,xB,vM,yM,w8,n6,YG,wI,qQ,zL,vL,dBm,dSl,vN,AR,xZ,w6,Res.bind,Res.toS,_D.kL,_D.vT,AU,AQ,bH,AY,AV,AW,cG,cE,AN,AM,AS,gLt,gLe,gGt,gGe,_D.zJ,AX,eA,uB a,h]
def kT (xs:Ab D)(r:Ai)(h:0≤r∧r<xs.length):∃ d,_L.atI xs r=Aa d∧d∈xs:=by
 have e:_L.ixN xs.length r=Aa r.toNat:=by simp[_L.ixN,h]
 have hl:r.toNat<xs.length:=by omega
 exact⟨xs[r.toNat],by simp[_L.atI,e,hl],OU hl⟩
def KH (ns:Ab Ai)(lo hi:Al Ai):∃ ms:Ab Ai,jC (ns.map D.int) lo hi=ms.map D.int∧ms.length≤ns.length:=by
 unfold jC;rw[← List.map_drop,← List.map_take];exact⟨_,rfl,by simp;omega⟩
def DW {t:DT}{f:DS}{b:Ap}(h:t env S=.ok b S1)(k:Rt ((if b then f else g) env S1) Q):Rt (sIf t f g env S) Q:=by
 obtain⟨d,S2,e2,q⟩:=k;refine⟨d,S2,?_,q⟩;unfold sIf;rw[h];cases b <;> exact e2
def fB {f:DS}(h:Rt (f env S) Q):Rt (qL f g env S) Q:=by
 obtain⟨d,S2,e2,q⟩:=h;exact⟨d,S2,by unfold qL;rw[e2],q⟩
def yZ {n:Ah}{d:D}(hs:v3 n ds=env)(h:Rt (g env S) λd' S1=>d'=d∧S1=S'):qX n g ds S=.ok d S':=by
 obtain⟨d',S1,e,rfl,rfl⟩:=h;exact jQ hs e
def tX (a b r:Ai):Ab D:=[.int (a-1),.int (b+1),.int (0-b-1),.int (b+1+r),.bl true,.bl false,.non,.str "1",.tup [.int 1],.lst [.int 1],.dct0,.int 100000000000000000000000000000]
def K4 (a b r:Ai)(ha:0≤a∧a≤b∧b<10000000000000000000000000000)(hr:0≤r):∀ d∈tX a b r,gI a b d:=by
 intro d hd;simp only[tX,Bb,Cy,Gc] at hd;rcases hd with rfl|rfl|rfl|rfl|rfl|rfl|rfl|rfl|rfl|rfl|rfl|rfl
 ·exact jN om
 ·exact jN om
 ·exact jN om
 ·exact jN om
 ·exact p9 (Q0 _)
 ·exact p9 (Q0 _)
 ·exact p9 XD
 ·exact p9 (XE _)
 ·exact p9 (XF _)
 ·exact p9 (XC _)
 ·exact p9 XB
 ·exact jN om
def EC (S:Sto):xR (.int 10) (.int 9) S=.ok (.int 1000000000) S:=rfl
def Q4 (S:Sto):xR (.int 10) (.int 6) S=.ok (.int 1000000) S:=rfl
def cR (S:Sto)(p:Ah)(a b:Ai)(h:xG S p)(ha:0≤a∧a≤b∧b<10000000000000000000000000000):∃ (d:D) (v f:Ai),S__law_no_number [.loc p,.int a,.int b] S=.ok d (S.set p (.lst [.int v,.int f]))∧gI a b d:=by
 obtain⟨r,v,f,e,h0,h1⟩:=eR S p 1000000000 h om;obtain⟨r2,v2,f2,e2,h2,h3⟩:=eR (S.set p (.lst [.int v,.int f])) p 12 (m8 h v f) om;rw[List.set_set] at e2;obtain⟨d,hd,hm⟩:=kT (tX a b r) r2 ⟨h2,h3⟩;refine⟨d,v2,f2,?_,K4 a b r ha h0 d hm⟩;unfold tX at hd;have l1:1≤lim:=by decide
 have l5:5≤lim:=by decide
 have l6:6≤lim:=by decide
 have l12:12≤lim:=by decide
 have k1 (S:Sto):qW (.lst [.int (a-1),.int (b+1),.int (0-b-1),.int (b+1+r),.bl true]) (.lst [.bl false]) S=.ok (.lst [.int (a-1),.int (b+1),.int (0-b-1),.int (b+1+r),.bl true,.bl false]) S:=yD (by show 6≤lim;exact l6) S
 have k2 (S:Sto):qW (.lst [.int (a-1),.int (b+1),.int (0-b-1),.int (b+1+r),.bl true,.bl false]) (.lst [.non,.str "1",.tup [.int 1],.lst [.int 1],.dct0,.int 100000000000000000000000000000]) S=.ok (.lst (tX a b r)) S:=yD (by show 12≤lim;exact l12) S
 have k3 (S:Sto):gIx (.lst (tX a b r)) (.int r2) S=.ok d S:=uB hd S;rw[vY];refine yZ (env:=[Aa (.loc p),Aa (.int a),Aa (.int b),none]) rfl ?_;refine qU (qY (qS (zW (zC rfl (zC rfl (zC rfl (zC ((qF rfl ((xH rfl ((qF rfl rfl).trans (EC S))).trans e)).trans (zM (b+1) r _)) (zC rfl rfl))))) l5) ?_));refine qU (qY (qS ((qF rfl (zW (as:=[.bl false]) (zC rfl rfl) l1)).trans (k1 _)) ?_));exact w9 (qS ((qF ((qF rfl (zW (as:=[.non,.str "1",.tup [.int 1],.lst [.int 1],.dct0,.int 100000000000000000000000000000]) (zC rfl (zC rfl (zC (yJ (as:=[.int 1]) (zC rfl rfl) l1) (zC (zW (as:=[.int 1]) (zC rfl rfl) l1) (zC rfl (zC ((qF rfl rfl).trans (LQ _)) rfl)))))) l6)).trans (k2 _)) ((xH rfl rfl).trans e2)).trans (k3 _)) ⟨rfl,rfl⟩)
def V8 {B:Ad}(hC:C∈cl)(hB:B∈cl)(S:Sto):zX cl [.exn (.ref C),.obj B] S=.ok (.bl (C == B)) S:=by
 show (if (cl.contains C&&cl.contains B)=true then Res.ok (D.bl (C == B)) S else .bad)=_
 rw[Eu.mpr hC,Eu.mpr hB];rfl
def GU (hC:C∈cl)(S:Sto):zX cl [.exn (.ref C),.ty "ValueError"] S=.ok (.bl true) S:=by
 show (if (cl.contains C&&(("ValueError" : Do) == "ValueError"))=true then Res.ok (D.bl true) S else .bad)=_
 rw[Eu.mpr hC];rfl
def xA (nd:cl.Nodup){i j:Ah}{a b:Ad}(ha:cl[i]? = Aa a)(hb:cl[j]? = Aa b)(h:i≠j):(a == b)=false:=by
 rw[My];rintro rfl;obtain⟨h1,e1⟩:=AT.mp ha;obtain⟨h2,e2⟩:=AT.mp hb;exact h ((ON nd).mp (e1.trans e2.symm))
def zY {B:Ad}{b:Ap}(h0:env[0]? = Aa (Aa (.exn (.ref C))))(hC:C∈cl)(hB:B∈cl)(e:(C == B)=b):qH (zX cl) (qA (qB 0) (qA (dC (.obj B)) (qC))) env S=.ok (.bl b) S:=by
 unfold qH qA qB;rw[h0];exact(V8 hC hB S).trans (e▸rfl)
def JC (h0:env[0]? = Aa (Aa (.exn (.ref C))))(hC:C∈cl):qH (zX cl) (qA (qB 0) (qA (dC (.ty "ValueError")) (qC))) env S=.ok (.bl true) S:=by
 unfold qH qA qB;rw[h0];exact GU hC S
def wF {f:DE}{g:DA}{a:D}{as:Ab D}(h:f env S=.ok a S)(k:g env S=.ok as S):qA f g env S=.ok (a::as) S:=by
 unfold qA;rw[h,Res.bind_ok,k];rfl
def pT {g:DA}{as:Ab D}(k:g env S=.ok as S)(h:as.length≤lim):zL g env S=.ok (.lst as) S:=by
 unfold zL;rw[k,Res.bind_ok,Bg h]
def nN {o:G2}{f g:DE}{a b:D}(h1:f env S=.ok a S)(h2:g env S=.ok b S):d2 o f g env S=o a b S:=by
 unfold d2;rw[h1,Res.bind_ok,h2];rfl
def lI {f:DE}{b:Ap}(h:f env S=.ok (.bl b) S):dTr f env S=.ok b S:=by
 unfold dTr;rw[h];rfl
def JM {f:DT}{b:Ap}(h:f env S=.ok b S):xB f env S=.ok (!b) S:=by
 unfold xB;rw[h];rfl
def Q2 {f g:DT}(h:f env S=.ok false S)(k:g env S=.ok false S):vM f g env S=.ok false S:=by
 unfold vM;rw[h];exact k
def m9 (c:Cl)(nd:(xF c).Nodup)(S:Sto):S__law_kinds c [.exn (.ref c.NoNumber)] S=.ok (.str "number") S:=by
 have mN:c.NoNumber∈xF c:=.tail _ (.tail _ (.head _));rw[vH];refine yZ (env:=[Aa (.exn (.ref c.NoNumber)),none,none]) rfl ?_;refine qU (qY (qS (pT (wF (zY (env:=[Aa (.exn (.ref c.NoNumber)),none,none]) rfl mN (.head _) (xA (i:=2) (j:=0) nd rfl rfl (by decide))) (wF (zY (env:=[Aa (.exn (.ref c.NoNumber)),none,none]) rfl mN (.tail _ (.head _)) (xA (i:=2) (j:=1) nd rfl rfl (by decide))) (wF (zY (env:=[Aa (.exn (.ref c.NoNumber)),none,none]) rfl mN (.tail _ (.tail _ (.head _))) (Ff _)) rfl))) (by decide)) ?_))
 refine qU (qY (qS ((nN (a:=.lst [.bl false,.bl false,.bl true]) rfl (pT (wF (zY (env:=[Aa (.exn (.ref c.NoNumber)),Aa (.lst [.bl false,.bl false,.bl true]),none]) rfl mN (.tail _ (.tail _ (.tail _ (.head _)))) (xA (i:=2) (j:=3) nd rfl rfl (by decide))) (wF (zY (env:=[Aa (.exn (.ref c.NoNumber)),Aa (.lst [.bl false,.bl false,.bl true]),none]) rfl mN (.tail _ (.tail _ (.tail _ (.tail _ (.head _))))) (xA (i:=2) (j:=4) nd rfl rfl (by decide))) (wF (zY (env:=[Aa (.exn (.ref c.NoNumber)),Aa (.lst [.bl false,.bl false,.bl true]),none]) rfl mN (.tail _ (.tail _ (.tail _ (.tail _ (.tail _ (.head _)))))) (xA (i:=2) (j:=5) nd rfl rfl (by decide))) rfl))) (by decide))).trans (c:=.ok (.lst [.bl false,.bl false,.bl true,.bl false,.bl false,.bl false]) S) (by kernel_rfl!)) ?_))
 refine qU (qY (qS ((nN (a:=.lst [.bl false,.bl false,.bl true,.bl false,.bl false,.bl false]) rfl (pT (wF (zY (env:=[Aa (.exn (.ref c.NoNumber)),Aa (.lst [.bl false,.bl false,.bl true,.bl false,.bl false,.bl false]),none]) rfl mN (.tail _ (.tail _ (.tail _ (.tail _ (.tail _ (.tail _ (.head _))))))) (xA (i:=2) (j:=6) nd rfl rfl (by decide))) (wF (zY (env:=[Aa (.exn (.ref c.NoNumber)),Aa (.lst [.bl false,.bl false,.bl true,.bl false,.bl false,.bl false]),none]) rfl mN (.tail _ (.tail _ (.tail _ (.tail _ (.tail _ (.tail _ (.tail _ (.head _)))))))) (xA (i:=2) (j:=7) nd rfl rfl (by decide))) (wF (zY (env:=[Aa (.exn (.ref c.NoNumber)),Aa (.lst [.bl false,.bl false,.bl true,.bl false,.bl false,.bl false]),none]) rfl mN (.tail _ (.tail _ (.tail _ (.tail _ (.tail _ (.tail _ (.tail _ (.tail _ (.head _))))))))) (xA (i:=2) (j:=8) nd rfl rfl (by decide))) rfl))) (by decide))).trans (c:=.ok (.lst [.bl false,.bl false,.bl true,.bl false,.bl false,.bl false,.bl false,.bl false,.bl false]) S) (by kernel_rfl!)) ?_))
 refine qU (qY (qS ((nN (a:=.lst [.bl false,.bl false,.bl true,.bl false,.bl false,.bl false,.bl false,.bl false,.bl false]) rfl (pT (wF (zY (env:=[Aa (.exn (.ref c.NoNumber)),Aa (.lst [.bl false,.bl false,.bl true,.bl false,.bl false,.bl false,.bl false,.bl false,.bl false]),none]) rfl mN (.tail _ (.tail _ (.tail _ (.tail _ (.tail _ (.tail _ (.tail _ (.tail _ (.tail _ (.head _)))))))))) (xA (i:=2) (j:=9) nd rfl rfl (by decide))) (wF (zY (env:=[Aa (.exn (.ref c.NoNumber)),Aa (.lst [.bl false,.bl false,.bl true,.bl false,.bl false,.bl false,.bl false,.bl false,.bl false]),none]) rfl mN (.tail _ (.tail _ (.tail _ (.tail _ (.tail _ (.tail _ (.tail _ (.tail _ (.tail _ (.tail _ (.head _))))))))))) (xA (i:=2) (j:=10) nd rfl rfl (by decide))) rfl)) (by decide))).trans (c:=.ok (.lst [.bl false,.bl false,.bl true,.bl false,.bl false,.bl false,.bl false,.bl false,.bl false,.bl false,.bl false]) S) (by kernel_rfl!)) ?_))
 refine qU (xO (b:=false) (S1:=S) (Q2 (JM (lI (JC (env:=[Aa (.exn (.ref c.NoNumber)),Aa (.lst [.bl false,.bl false,.bl true,.bl false,.bl false,.bl false,.bl false,.bl false,.bl false,.bl false,.bl false]),none]) rfl mN))) (by kernel_rfl!)) (xJ (env:=[Aa (.exn (.ref c.NoNumber)),Aa (.lst [.bl false,.bl false,.bl true,.bl false,.bl false,.bl false,.bl false,.bl false,.bl false,.bl false,.bl false]),none]) (S:=S) rfl ?_))
 refine qU (xO (lI (zY (env:=[Aa (.exn (.ref c.NoNumber)),Aa (.lst [.bl false,.bl false,.bl true,.bl false,.bl false,.bl false,.bl false,.bl false,.bl false,.bl false,.bl false]),none]) rfl mN (.tail _ (.tail _ (.tail _ (.tail _ (.tail _ (.tail _ (.tail _ (.tail _ (.tail _ (.head _)))))))))) (xA (i:=2) (j:=9) nd rfl rfl (by decide)))) (xJ (env:=[Aa (.exn (.ref c.NoNumber)),Aa (.lst [.bl false,.bl false,.bl true,.bl false,.bl false,.bl false,.bl false,.bl false,.bl false,.bl false,.bl false]),none]) (S:=S) rfl ?_))
 refine qU (xO (lI (zY (env:=[Aa (.exn (.ref c.NoNumber)),Aa (.lst [.bl false,.bl false,.bl true,.bl false,.bl false,.bl false,.bl false,.bl false,.bl false,.bl false,.bl false]),none]) rfl mN (.tail _ (.tail _ (.tail _ (.tail _ (.tail _ (.tail _ (.tail _ (.tail _ (.tail _ (.tail _ (.head _))))))))))) (xA (i:=2) (j:=10) nd rfl rfl (by decide)))) (xJ (env:=[Aa (.exn (.ref c.NoNumber)),Aa (.lst [.bl false,.bl false,.bl true,.bl false,.bl false,.bl false,.bl false,.bl false,.bl false,.bl false,.bl false]),none]) (S:=S) rfl ?_))
 exact JT (d:=.str "number") (S:=S) (by kernel_rfl!) ⟨rfl,rfl⟩
def nK (d:D)(b c a:Do)(S:Sto)(h1:wM b=true)(h2:wM c=true)(h:tyD d S=Aa a):gR [d,.tup [.ty b,.ty c]] S=.ok (.bl (zO a b||zO a c)) S:=by
 show (if wM b=true∧wM c=true then (match tyD d S with|some a=>Res.ok (D.bl (zO a b||zO a c)) S|none=>.bad) else .bad)=_
 rw[Bg ⟨h1,h2⟩,h]
def okD:Ah→D→Prop
 |n+1,.tup xs=>xs.length≤lim∧∀ x∈xs,okD n x
 |n+1,.lst xs=>xs.length≤lim∧∀ x∈xs,okD n x
 |_,.int _=>Op
 |_,_=>Fa
def UV (ws:Ab D):uQ ws ws=ws.map λx=>D.tup [x,x]:=by
 induction ws with
 |nil=>rfl
 |cons w ws ih=>exact congrArg (D.tup [w,w]::·) ih
def eZ (F:DF)(d:D)(ws:Ab D)(S:Sto)(hw:ws.length≤lim)(h1:gIs d .non S=.ok (.bl false) S)(h2:dTr (qH gR (qA (qB 1) (qA (qQ (qA (dC (.ty "list")) (qA (dC (.ty "tuple")) (qC)))) (qC)))) [Aa d,Aa d] S=.ok true S)
  (h3:dTr (d2 gNe (qH xC (qA (qB 1) (qA (dC (.ty "list")) (qC)))) (qH xC (qA (qB 0) (qA (dC (.ty "list")) (qC))))) [Aa d,Aa d] S=.ok false S)
  (h3':dTr (d2 gNe (qH xC (qA (qB 1) (qA (dC (.ty "tuple")) (qC)))) (qH xC (qA (qB 0) (qA (dC (.ty "tuple")) (qC))))) [Aa d,Aa d] S=.ok false S)
  (h4:xI [d] S=.ok (.int ws.length) S) (h5:QQ [d,d]=Aa (uQ ws ws)) (ih:∀ x∈ws,F [x,x] S=.ok (.bl true) S):qX 2 (b__law_same F) [d,d] S=.ok (.bl true) S:=by
 have h1':dTr (d2 gIs (qB 1) (dC .non)) [Aa d,Aa d] S=.ok false S:=zP ((qF (a:=d) rfl rfl).trans h1);have h4':dTr (d2 gNe (qH xI (qA (qB 0) (qC))) (qH xI (qA (qB 1) (qC)))) [Aa d,Aa d] S=.ok false S:=by
  refine(zP ((qF ((vK (a:=d) rfl).trans h4) ((vK (a:=d) rfl).trans h4)).trans (bR _ _ S))).trans ?_;rw[Cn (λh=>h rfl)]
 have h5':wD (oM (qA (qB 0) (qA (qB 1) (qC)))) [Aa d,Aa d] S=.ok (none,ws.map λx=>D.tup [x,x]) S:=by
  unfold wD;show (Res.bind (_D.vT (QQ [d,d]) S) _)=_;rw[h5,UV];rfl
 have hc:=kX (cap:=[none,none]) (g:=gTp 2 (zD (gNm 0) (zD (gNm 1) (xS)))) (t:=w8) (fe:=qE 2 (okO F) (qA (qB 0) (qA (qB 1) (qC)))) h5' trivial (λ_=>true) (λ_=>D.bl true) (λenv=>∃ a b,env=[a,b]) ⟨none,none,rfl⟩ hw
  (λx hx env ⟨a,b,e⟩=>by
   subst e;exact⟨[Aa x,Aa x],rfl,⟨_,_,rfl⟩,rfl,λ_=>(xH (a:=x) (b:=x) rfl rfl).trans (eG (ih x hx))⟩)
 rw[vF] at hc;have ha:=QR (p:=λ_=>true) hc;rw[show (ws.all λ_=>true)=true from by simp] at ha
 exact yZ rfl (qU (xO h1' (xJ rfl (fB (DW h2 (qU (xO h3 (xJ rfl (qU (xO (Q2 h3' h4') (xJ rfl (w9 (qS ha ⟨rfl,rfl⟩)))))))))))))
def h9 (F:DF)(i:Ai)(S:Sto):qX 2 (b__law_same F) [.int i,.int i] S=.ok (.bl true) S:=by
 have l2:2≤lim:=by decide
 simp[qX,v3,B0,AO,PZ,qL,sIf,zA,zH,zR,qT,gNm,gSb,gTp,zD,xS,jR,CY,IA,dC,qB,d1,d2,qA,qC,qH,qE,dTr,xB,vM,yM,w8,n6,YG,wI,qQ,zL,vL,dBm,dSl,vN,AR,xZ,w6,Res.bind,Res.toS,_D.kL,_D.vT,AU,AQ,bH,AY,AV,AW,cG,cE,AN,AM,AS,gLt,gLe,gGt,gGe,_D.zJ,AX,TX,nK _ _ _ _ S x9.2.2.2.1 x9.2.2.1 (bH i S),yF _ _ _ S x9.1 (bH i S),yF _ _ _ S x9.2.1 (bH i S),yF _ _ _ S x9.2.2.2.2 (bH i S),fD,pW,bQ,l2]
def hX (F:DF)(d:D)(ws:Ab D)(S:Sto)(hw:ws.length≤lim)(hd:d=.tup ws∨d=.lst ws)(ih:∀ x∈ws,F [x,x] S=.ok (.bl true) S):qX 2 (b__law_same F) [d,d] S=.ok (.bl true) S:=by
 have l2:2≤lim:=by decide
 rcases hd with rfl|rfl
 ·refine eZ F (.tup ws) ws S hw rfl ?_ ?_ ?_ rfl rfl ih
  ·simp[qX,v3,B0,AO,PZ,qL,sIf,zA,zH,zR,qT,gNm,gSb,gTp,zD,xS,jR,CY,IA,dC,qB,d1,d2,qA,qC,qH,qE,dTr,xB,vM,yM,w8,n6,YG,wI,qQ,zL,vL,dBm,dSl,vN,AR,xZ,w6,Res.bind,Res.toS,_D.kL,_D.vT,AU,AQ,bH,AY,AV,AW,cG,cE,AN,AM,AS,gLt,gLe,gGt,gGe,_D.zJ,AX,nK _ _ _ _ S x9.2.2.2.1 x9.2.2.1 (cG ws S),fD,l2]
  ·simp[qX,v3,B0,AO,PZ,qL,sIf,zA,zH,zR,qT,gNm,gSb,gTp,zD,xS,jR,CY,IA,dC,qB,d1,d2,qA,qC,qH,qE,dTr,xB,vM,yM,w8,n6,YG,wI,qQ,zL,vL,dBm,dSl,vN,AR,xZ,w6,Res.bind,Res.toS,_D.kL,_D.vT,AU,AQ,bH,AY,AV,AW,cG,cE,AN,AM,AS,gLt,gLe,gGt,gGe,_D.zJ,AX,yF _ _ _ S x9.2.2.2.1 (cG ws S),pW]
  ·simp[qX,v3,B0,AO,PZ,qL,sIf,zA,zH,zR,qT,gNm,gSb,gTp,zD,xS,jR,CY,IA,dC,qB,d1,d2,qA,qC,qH,qE,dTr,xB,vM,yM,w8,n6,YG,wI,qQ,zL,vL,dBm,dSl,vN,AR,xZ,w6,Res.bind,Res.toS,_D.kL,_D.vT,AU,AQ,bH,AY,AV,AW,cG,cE,AN,AM,AS,gLt,gLe,gGt,gGe,_D.zJ,AX,yF _ _ _ S x9.2.2.1 (cG ws S),pW]
 ·refine eZ F (.lst ws) ws S hw rfl ?_ ?_ ?_ rfl rfl ih
  ·simp[qX,v3,B0,AO,PZ,qL,sIf,zA,zH,zR,qT,gNm,gSb,gTp,zD,xS,jR,CY,IA,dC,qB,d1,d2,qA,qC,qH,qE,dTr,xB,vM,yM,w8,n6,YG,wI,qQ,zL,vL,dBm,dSl,vN,AR,xZ,w6,Res.bind,Res.toS,_D.kL,_D.vT,AU,AQ,bH,AY,AV,AW,cG,cE,AN,AM,AS,gLt,gLe,gGt,gGe,_D.zJ,AX,nK _ _ _ _ S x9.2.2.2.1 x9.2.2.1 (cE ws S),fD,l2]
  ·simp[qX,v3,B0,AO,PZ,qL,sIf,zA,zH,zR,qT,gNm,gSb,gTp,zD,xS,jR,CY,IA,dC,qB,d1,d2,qA,qC,qH,qE,dTr,xB,vM,yM,w8,n6,YG,wI,qQ,zL,vL,dBm,dSl,vN,AR,xZ,w6,Res.bind,Res.toS,_D.kL,_D.vT,AU,AQ,bH,AY,AV,AW,cG,cE,AN,AM,AS,gLt,gLe,gGt,gGe,_D.zJ,AX,yF _ _ _ S x9.2.2.2.1 (cE ws S),pW]
  ·simp[qX,v3,B0,AO,PZ,qL,sIf,zA,zH,zR,qT,gNm,gSb,gTp,zD,xS,jR,CY,IA,dC,qB,d1,d2,qA,qC,qH,qE,dTr,xB,vM,yM,w8,n6,YG,wI,qQ,zL,vL,dBm,dSl,vN,AR,xZ,w6,Res.bind,Res.toS,_D.kL,_D.vT,AU,AQ,bH,AY,AV,AW,cG,cE,AN,AM,AS,gLt,gLe,gGt,gGe,_D.zJ,AX,yF _ _ _ S x9.2.2.1 (cE ws S),pW]
def WN:∀ (n:Ah) (d:D) (S:Sto),okD n d→tO (n+1) [d,d] S=.ok (.bl true) S:=by
 intro n
 induction n with
 |zero =>
  intro d S h;cases d with
  |int i=>exact h9 _ i S
  |_=>exact An h
 |succ n ih =>
  intro d S h;cases d with
  |tup ws=>exact hX _ _ ws S h.1 (.inl rfl) λx hx=>ih x S (h.2 x hx)
  |lst ws=>exact hX _ _ ws S h.1 (.inr rfl) λx hx=>ih x S (h.2 x hx)
  |int i=>exact h9 _ i S
  |_=>exact An h
def BP (S:Sto):∀ (n m:Ah) (d:D),okD n d→n≤m→uP m S d=Aa d:=by
 have mp:∀ (f:D→Al D) (xs:Ab D),(∀ x∈xs,f x=Aa x)→mapO f xs=Aa xs:=by
  intro f xs
  induction xs with
  |nil=>exact λ_=>rfl
  |cons x xs ih =>
   intro h;have h1:=h x (Ct ..);have h2:=ih λy hy=>h y (Bu _ hy);simp[mapO,h1,h2]
 intro n
 induction n with
 |zero =>
  intro m d h _;cases d <;> cases m <;> first|rfl|exact An h
 |succ n ih =>
  intro m d h hm;obtain⟨m,rfl⟩:∃ k,m=k+1:=⟨m-1,by omega⟩
  cases d with
  |tup ws =>
   show (mapO (uP m S) ws).map D.tup=_;rw[mp _ ws λx hx=>ih m x (h.2 x hx) om];rfl
  |lst ws =>
   show (mapO (uP m S) ws).map D.lst=_;rw[mp _ ws λx hx=>ih m x (h.2 x hx) om];rfl
  |int i=>rfl
  |_=>exact An h
def iM (S:Sto)(j n:Ah)(xs:Ab D)(h:S[j]? = Aa (.lst xs))(hx:okD n (.lst xs))(hn:n≤20):uP 20 S (.loc j)=Aa (.lst xs):=by
 have:=BP S n 20 (.lst xs) hx hn;show (match S[j]? with|some (.lst xs)=>(mapO (uP 19 S) xs).map D.lst|_=>none)=_
 rw[h];exact this
def WE {d:D}(S:Sto)(h:okD 3 d):S__law_same [d,d] S=.ok (.bl true) S:=by
 rw[kS];exact WN 3 d S h
abbrev Pt:=Ai × Ai
variable {ps:Ab Pt}
def ptD (p:Pt):D:=.tup [.int p.1,.int p.2]
def yS (l:Ab Pt):D:=.tup (l.map ptD)
def kP (p:Pt):Ab Ai:=[p.1,p.2]
def pK (k:Ab Ai):Pt:=(k.getD 0 0,k.getD 1 0)
def eE (ps:Ab Pt):ps.map ptD=(ps.map kP).map tpD:=by
 rw[II];rfl
def ltP (p q:Pt):Ap:=_H.lexLt [p.1,p.2] [q.1,q.2]
abbrev Up (l:Ab Pt):Prop:=l.Pairwise λp q=>ltP p q=true
def xM (ps:Ab Pt):Ab Pt:=(_S.srt _H.lexLt (ps.map kP)).map pK
def bK {ks:Ab (Ab Ai)}(h:∀ k∈ks,k∈ps.map kP):ks.map tpD=(ks.map pK).map ptD∧(ks.map pK).map kP=ks:=by
 have e:∀ k∈ks,kP (pK k)=k:=λk hk=>by
  obtain⟨p,_,rfl⟩:=Dk.mp (h k hk);rfl
 have e2:(ks.map pK).map kP=ks:=by
  rw[II]
  conv=>rhs;rw[← Xz ks]
  exact Nh e
 exact⟨by rw[eE,e2],e2⟩
def N2 {p q:Pt}(h:kP p=kP q):p=q:=by
 injection h with h1 h2
 injection h2 with h2 _
 exact Xs h1 h2
def cC (ps:Ab Pt):∀ k∈_S.srt _H.lexLt (ps.map kP),k∈ps.map kP:=λk hk=>(_S.uF _S.m7 k _).mp hk
def pF (ps:Ab Pt)(p:Pt):p∈xM ps↔p∈ps:=by
 unfold xM;constructor
 ·intro h
  obtain⟨k,hk,rfl⟩:=Dk.mp h;obtain⟨q,hq,rfl⟩:=Dk.mp (cC ps k hk);exact hq
 ·intro h
  exact Dk.mpr ⟨kP p,(_S.uF _S.m7 _ _).mpr (Dk.mpr ⟨p,h,rfl⟩),rfl⟩
def F2 (ps:Ab Pt):Up (xM ps):=by
 have h:=_S.bF _S.m7 (ps.map kP);rw[← (bK (cC ps)).2,Hf] at h;exact h
def rR {K:Type}(lt':K→K→Ap)(x:K):∀ l:Ab K,(_S.jJ lt' x l).length≤l.length+1
 |[]=>by simp[_S.jJ]
 |y::l=>by
  have:=rR lt' x l;unfold _S.jJ
  split
  ·simp
  ·split <;> simp <;> omega
def lG {K:Type}(lt':K→K→Ap):∀ l:Ab K,(_S.srt lt' l).length≤l.length
 |[]=>by simp[_S.srt]
 |x::l=>by
  have h1:=rR lt' x (_S.srt lt' l);have h2:=lG lt' l;rw[_S.srt,Dh];omega
def cB (ps:Ab Pt):(xM ps).length≤ps.length:=by
 unfold xM;rw[Bk];exact Eb (lG _ _) (by simp)
def cS (ps:Ab Pt)(hl:ps.length≤1000):jT (ps.map ptD)=Aa ((xM ps).map ptD):=by
 unfold jT xM;rw[← (bK (cC ps)).1];cases ps with
 |nil=>rfl
 |cons p ps =>
  have h0:wC ((p::ps).map ptD)=none:=rfl;rw[h0,eE,dR];have h2:(((p::ps).map kP).all λk=>!k.isEmpty)=true:=by
   rw[Kr,Cu];intro q _;rfl
  have h1:(_S.srt _H.lexLt ((p::ps).map kP)).length≤1000:=Eb (lG _ _) (by rw[Bk];exact hl)
  exact Bg (by rw[h2,Cs h1];rfl)
def JV (mu:Ap){f:DE}{env:qD}{S S1:Sto}{d:D}{ps:Ab Pt}(h:f env S=.ok d S1)(hd:lF d S1=Aa (ps.map ptD))(hl:ps.length≤1000):vE mu f env S=if mu then .ok (.loc S1.length) (S1++[.lst ((xM ps).map ptD)]) else .ok (.lst ((xM ps).map ptD)) S1:=by
 unfold vE;rw[h,Res.bind_ok,hd,Option.bind_some,cS ps hl]
structure Kp (p:Ah)(S S':Sto):Prop where
 pen:xG S' p
 len:S.length≤S'.length
 same:∀ m,m<S.length→m≠p→S'[m]? = S[m]?
def Kp.refl (h:xG S p):Kp p S S:=⟨h,Ax _,λ_ _ _=>rfl⟩
def Kp.trans (a:Kp p S S1)(b:Kp p S1 S2):Kp p S S2:=⟨b.pen,Eb a.len b.len,λm hm hp=>(b.same m (Ba hm a.len) hp).trans (a.same m hm hp)⟩
def XN (h:xG S p):p<S.length:=by
 obtain⟨v,f,e⟩:=h;exact(AT.mp e).1
def Kp.pre (h:xG S p)(e:S<+:S'):Kp p S S':=⟨B6 h e,e.length_le,λm hm _=>(List.prefix_iff_getElem?.mp e m hm).trans (Aq hm).symm⟩
def Kp.set (h:Kp p S S')(hj:S.length≤j)(m:MO)(hp:p≠j):Kp p S (S'.set j m):=by
 obtain⟨v,f,e⟩:=h.pen;exact⟨⟨v,f,by rw[Dz (Fu hp)];exact e⟩,by rw[Vs];exact h.len,λi hi hn=>by rw[Dz om];exact h.same i hi hn⟩
def xV (S:Sto)(p:Ah)(m:Ai)(f1 f2:DE)(env:qD)(h1:f1 env S=.ok (.loc p) S)(h2:f2 env S=.ok (.int m) S)(h:xG S p)(hm:0<m∧m<1073741824):∃ (r:Ai) (S1:Sto),qE 2 S__law_draw (qA f1 (qA f2 (qC))) env S=.ok (.int r) S1∧Kp p S S1∧S1.length=S.length∧0≤r∧r<m:=by
 obtain⟨r,v,f,e,a,b⟩:=eR S p m h hm;exact⟨r,_,(xH h1 h2).trans e,⟨m8 h v f,by simp,λi hi hn=>Dz (Fu hn)⟩,by simp,a,b⟩
def Two (n:Ai):Prop:=∃ a b:Ai,n=a*a+b*b
def Two.mul {m n:Ai}(h:Two m)(k:Two n):Two (m*n):=by
 obtain⟨a,b,rfl⟩:=h;obtain⟨c,d,rfl⟩:=k;exact⟨a*c-b*d,a*d+b*c,by grind⟩
def tM:Ab Ai:=[2,5,13,17,4,9,5,29]
def UH:∀ n∈tM,Two n∧1≤n∧n≤29:=by
 intro n h;simp only[tM,Bb,Cy,Gc] at h;rcases h with rfl|rfl|rfl|rfl|rfl|rfl|rfl|rfl
 ·exact⟨⟨1,1,rfl⟩,by omega,by omega⟩
 ·exact⟨⟨1,2,rfl⟩,by omega,by omega⟩
 ·exact⟨⟨2,3,rfl⟩,by omega,by omega⟩
 ·exact⟨⟨1,4,rfl⟩,by omega,by omega⟩
 ·exact⟨⟨0,2,rfl⟩,by omega,by omega⟩
 ·exact⟨⟨0,3,rfl⟩,by omega,by omega⟩
 ·exact⟨⟨1,2,rfl⟩,by omega,by omega⟩
 ·exact⟨⟨2,5,rfl⟩,by omega,by omega⟩
def BQ (env:qD)(S:Sto)(p:Ah)(h0:env[0]? = Aa (Aa (.loc p)))(h:xG S p):∃ (n:Ai) (S1:Sto),d2 gIx (zL (qA (dC (.int 2)) (qA (dC (.int 5)) (qA (dC (.int 13)) (qA (dC (.int 17)) (qA (dC (.int 4)) (qA (dC (.int 9)) (qA (dC (.int 5)) (qA (dC (.int 29)) (qC)))))))))) (qE 2 S__law_draw (qA (qB 0) (qA (dC (.int 8)) (qC)))) env S=.ok (.int n) S1∧Kp p S S1∧S1.length=S.length∧n∈tM:=by
 obtain⟨r,S1,e,k,l,r0,r1⟩:=xV S p 8 (qB 0) (dC (.int 8)) env (wB h0) rfl h om;obtain⟨d,hd,hm⟩:=kT (tM.map D.int) r ⟨r0,by show r<8;exact r1⟩
 obtain⟨n,hn,rfl⟩:=Dk.mp hm;have l8:8≤lim:=by decide
 exact⟨n,S1,(qF (zW (as:=tM.map D.int) (zC rfl (zC rfl (zC rfl (zC rfl (zC rfl (zC rfl (zC rfl (zC rfl rfl)))))))) l8) e).trans (uB hd S1),k,l,hn⟩
def EN (n:Ah)(h:n≤1000000):pD [.int (n:Ai)]=Aa ((By n).map λ(i:Ah)=>D.int (i:Ai)):=by
 unfold pD;have : -(2 ^ 62)≤(n:Ai)∧(n:Ai)<2 ^ 62:=⟨by omega,by omega⟩
 refine(Bg this).trans ?_;unfold yI;rw[Gk]
 congr 2
 funext i
 rw[Int.zero_add]
def j0 (f:DE)(n:Ah)(env:qD)(S S1:Sto)(h:n≤1000000)(e:f env S=.ok (.int (n:Ai)) S1):w6 (qA f qC) env S=.ok ((By n).map λ(i:Ah)=>D.int (i:Ai)) S1:=by
 unfold w6;rw[kY e,Res.bind_ok,EN n h];rfl
def DV (p:Ah)(M:Ai)(hM:1≤M∧M≤100000)(S:Sto)(h:xG S p):∃ (n:Ai) (S':Sto),S__law_rich [.loc p,.int M] S=.ok (.int n) S'∧Kp p S S'∧Two n∧1≤n∧n≤M:=by
 have key:Rt (b__law_rich [Aa (.loc p),Aa (.int M),none,none,none] S) λd S'=>∃ n,d=.int n∧Kp p S S'∧Two n∧1≤n∧n≤M:=by
  unfold b__law_rich;refine qU (qY (qS (d:=.int 1) (S:=S) rfl ?_));simp only[Az,Ay];obtain⟨r,S1,e,k,l,r0,r1⟩:=xV S p 6 (qB 0) (dC (.int 6)) [Aa (.loc p),Aa (.int M),Aa (.int 1),none,none] rfl rfl h om;obtain⟨r,rfl⟩:=IJ r0;have hr:d2 qW (dC (.int 1)) (qE 2 S__law_draw (qA (qB 0) (qA (dC (.int 6)) (qC)))) [Aa (.loc p),Aa (.int M),Aa (.int 1),none,none] S=.ok (.int ((1+r:Ah):Ai)) S1:=by
   refine((qF (a:=.int 1) rfl e).trans (zM 1 _ S1)).trans ?_;rw[show (1:Ai)+(r:Ai)=((1+r:Ah):Ai) by omega]
  refine qU (yY (j0 _ (1+r) _ _ S1 om hr) ?_);generalize (By (1+r)).map (λ(i:Ah)=>D.int (i:Ai))=ds0;refine wQ (λds env S'=>∃ (n:Ai) (e3 e4:Al D),env=[Aa (.loc p),Aa (.int M),Aa (.int n),e3,e4]∧Kp p S S'∧Two n∧1≤n∧n≤M) ?_ ?_ ⟨1,none,none,rfl,k,⟨0,1,rfl⟩,by omega,by omega⟩
  ·rintro d ds env S' ⟨n,e3,e4,rfl,K,t,n0,n1⟩
   refine⟨[Aa (.loc p),Aa (.int M),Aa (.int n),Aa d,e4],S',rfl,?_⟩;obtain⟨by_,S2,eb,kb,_,hb⟩:=BQ [Aa (.loc p),Aa (.int M),Aa (.int n),Aa d,e4] S' p rfl K.pen;obtain⟨tb,b0,b1⟩:=UH by_ hb;refine zU (qY (qS eb ?_));simp only[Az,Ay];have hm:=(qF (o:=z0) (f:=qB 2) (g:=qB 4) (env:=[Aa (.loc p),Aa (.int M),Aa (.int n),Aa d,Aa (.int by_)]) (S:=S2) (a:=.int n) (b:=.int by_) rfl rfl).trans (zN n by_ S2 ⟨by omega,by omega⟩)
   have hle:d2 gLe (d2 z0 (qB 2) (qB 4)) (qB 1) [Aa (.loc p),Aa (.int M),Aa (.int n),Aa d,Aa (.int by_)] S2=.ok (.bl (decide (n*by_≤M))) S2:=(qF (b:=.int M) hm rfl).trans rfl;refine xO (zP hle) ?_;by_cases z:n*by_≤M
   ·rw[Cs z]
    refine qY (qS hm ⟨n*by_,_,_,rfl,K.trans kb,t.mul tb,?_,z⟩);have:=Ht n0 b0 om om;omega
   ·rw[Cn z]
    exact xJ rfl ⟨n,_,_,rfl,K.trans kb,t,n0,n1⟩
  ·rintro env S' ⟨n,e3,e4,rfl,K,t,n0,n1⟩
   exact w9 (qS rfl ⟨n,rfl,K,t,n0,n1⟩)
 obtain⟨d,S',e,n,rfl,q⟩:=key;exact⟨n,S',by rw[kR];exact jQ rfl e,q⟩
def SA (h:S[j]? = Aa (.dct kvs))(hl:kvs.length<lim)(n:Ai)(d:D):v7 (.loc j) (.int n) d S=.ok () (S.set j (.dct (kK kvs (.inl n) d))):=by
 show (match S[j]? with|some (.dct kvs)=>(match gW (.int n) with|some k=>(if kvs.length<lim then Res.ok () (S.set j (.dct (kK kvs k d))) else .bad)|none=>.bad)|_=>fW (.loc j) (.int n) d S)=_
 rw[h];exact Bg hl
def ES {f o i:DE}{h:G3}{S3 S4:Sto}{d a b:D}(h1:f env S=.ok d S1)(h2:o env S1=.ok a S2)(h3:i env S2=.ok b S3)(h4:h a b d S3=.ok () S4):qT f (gSb o i h) env S=.nx env S4:=by
 simp only[qT,gSb,h1,h2,h3,h4,Res.toS,Res.bind]
def ZH {n:Ah}(h:S[n]? = Aa (.dct kvs)):mM (.loc n) S=Aa kvs:=by
 show (match S[n]? with|some (.dct kvs)=>Aa kvs|_=>none)=_
 rw[h]
def TQ {n:Ah}(h:S[n]? = Aa (.dct kvs))(f:Ai):nF (.int f) (.loc n) S=.ok (.bl (yT kvs (.inl f)).isSome) S:=by
 unfold nF;rw[ZH h];rfl
def TZ {n:Ah}(h:S[n]? = Aa (.dct kvs))(f:Ai){d:D}(hd:yT kvs (.inl f)=Aa d):fV (.loc n) (.int f) S=.ok d S:=by
 unfold fV;rw[ZH h];show (match yT kvs (.inl f) with|some d=>Res.ok d S|none=>.bad)=_
 rw[hd]
def sqs (n:Ah):Ab (_L.Key × D):=(By n).map λ(i:Ah)=>(.inl ((i:Ai)*(i:Ai)),.int (i:Ai))
def SC {a b:Ah}(h:(a:Ai)*(a:Ai)=(b:Ai)*(b:Ai)):a=b:=by
 have h':a*a=b*b:=by exact_mod_cast h
 rcases OB a b with z|z|z
 ·exact absurd h' (Cc (Om z (Fz z) om))
 ·exact z
 ·exact absurd h'.symm (Cc (Om z (Fz z) om))
def F1 (n:Ah):kK (sqs n) (.inl ((n:Ai)*(n:Ai))) (.int (n:Ai))=sqs (n+1):=by
 unfold kK;rw[Bc]
 ·unfold sqs
  rw[Wc,IU];rfl
 ·intro h
  obtain⟨kv,hk,e⟩:=List.any_eq_true.mp h;obtain⟨i,hi,rfl⟩:=Dk.mp hk;have e:=Cq e;injection e with e
  have:=SC e;have:=Dy.mp hi;omega
def UM {n:Ah}{f:Ai}{d:D}(h:yT (sqs n) (.inl f)=Aa d):∃ i:Ah,i<n∧d=.int (i:Ai)∧f=(i:Ai)*(i:Ai):=by
 unfold yT at h;obtain⟨kv,h1,rfl⟩:=De.mp h;have h2:=List.find?_some h1;obtain⟨i,hi,rfl⟩:=Dk.mp (List.mem_of_find?_eq_some h1);have h2:=Cq h2;injection h2 with h2
 exact⟨i,Dy.mp hi,rfl,h2.symm⟩
def F0 {n:Ah}(hi:i<n):(yT (sqs n) (.inl ((i:Ai)*(i:Ai)))).isSome=true:=by
 unfold yT;rw[Ow,List.find?_isSome];exact⟨_,Dk.mpr ⟨i,Dy.mpr hi,rfl⟩,by simp⟩
def On (n:Ai)(q:Pt):Prop:=q.1*q.1+q.2*q.2=n
structure CI (n:Ai)(a i:Ah)(fnd:Ab Pt):Prop where
 on:∀ q∈fnd,On n q
 len:fnd.length≤4*i
 top:71≤i→fnd.length≤284
 ne:a<i→fnd≠[]
def NK (x:Ai):(0-x)*(0-x)=x*x:=by
 rw[Int.zero_sub,Int.neg_mul_neg]
def pV (x y:Ai):Ab Pt:=[(x,y),(0-x,y),(x,0-y)]
def UE (n:Ai)(hn:1≤n∧n≤5000)(ht:Two n)(S:Sto):∃ (ps:Ab Pt) (S':Sto),S__law_circle [.int n] S=.ok (.lst (ps.map ptD)) S'∧S<+:S'∧ps≠[]∧(∀ q∈ps,On n q)∧ps.length≤284:=by
 obtain⟨a0,b0,hab⟩:=ht;obtain⟨a,b,hab,ha,hb⟩:∃ a b:Ah,n=(a:Ai)*a+(b:Ai)*b∧a≤70∧b≤70:=by
  have ea:(a0.natAbs:Ai)*a0.natAbs=a0*a0:=Ip a0;have eb:(b0.natAbs:Ai)*b0.natAbs=b0*b0:=Ip b0;have h0:(0:Ai)≤(a0.natAbs:Ai)*a0.natAbs:=Hd om om;have h1:(0:Ai)≤(b0.natAbs:Ai)*b0.natAbs:=Hd om om;have sm:∀ c:Ah,(c:Ai)*c≤5000→c≤70:=λc hc=>by
   rcases Jg 70 c with z|z
   ·have:=Ht (show (71:Ai)≤c by omega) (show (71:Ai)≤c by omega) om om
    omega
   ·exact z
  refine⟨a0.natAbs,b0.natAbs,by omega,sm _ om,sm _ om⟩
 have key:Rt (b__law_circle [Aa (.int n),none,none,none,none,none] S) λd S'=>∃ fnd:Ab Pt,d=.lst ((xM fnd).map ptD)∧S<+:S'∧CI n a 1001 fnd:=by
  unfold b__law_circle;have l0:0≤lim:=by decide
  have l1:1≤lim:=by decide
  have l2:2≤lim:=by decide
  have l3:3≤lim:=by decide
  refine qU (g6 (a:=.loc S.length) (S1:=S++[.dct []]) (S2:=S++[.dct []]) rfl (zW (as:=[]) rfl l0) ?_);simp only[Az,Ay];refine qU (yY (j0 (dC (.int 1001)) 1001 _ _ _ om rfl) ?_);refine wQ (λds env S'=>∃ (i:Ah) (e3:Al D),i+ds.length=1001∧ds=(XV i (1001-i)).map (λ(i:Ah)=>D.int (i:Ai))∧env=[Aa (.int n),Aa (.loc S.length),Aa (.lst []),e3,none,none]∧S'=S++[.dct (sqs i)]) ?_ ?_ ⟨0,none,by simp,by rw[Rp],rfl,rfl⟩
  ·rintro d ds env S' ⟨i,e3,hl,hds,rfl,rfl⟩
   have hi:i<1001:=by simp at hl;omega
   rw[show 1001-i=(1001-(i+1))+1 by omega,Vo,Dt] at hds
   injection hds with h1 h2
   subst h1;refine⟨[Aa (.int n),Aa (.loc S.length),Aa (.lst []),Aa (.int (i:Ai)),none,none],_,rfl,?_⟩;have hS:(S++[MO.dct (sqs i)])[S.length]? = Aa (.dct (sqs i)):=by simp
   refine xJ (ES (d:=.int (i:Ai)) (a:=.loc S.length) (b:=.int ((i:Ai)*i)) rfl rfl ((qF (a:=.int (i:Ai)) (b:=.int (i:Ai)) rfl rfl).trans (zN (i:Ai) i _ ⟨by omega,by omega⟩)) (SA hS (by unfold sqs;rw[Bk,Lb];unfold lim;omega) _ _)) ?_
   refine⟨i+1,_,by simp at hl;omega,h2,rfl,?_⟩
   rw[F1];simp
  ·rintro env S' ⟨i,e3,hl,hds,rfl,rfl⟩
   have hi:i=1001:=by simpa using hl
   subst hi;have hS:(S++[MO.dct (sqs 1001)])[S.length]? = Aa (.dct (sqs 1001)):=by simp
   generalize hT:S++[MO.dct (sqs 1001)]=T at hS;have hpre:S<+:T:=hT▸Fo _ _;refine qU (yY (j0 (dC (.int 1001)) 1001 _ _ _ om rfl) ?_);refine wQ (λds env S'=>∃ (i:Ah) (fnd:Ab Pt) (e4 e5:Al D),i+ds.length=1001∧ds=(XV i (1001-i)).map (λ(i:Ah)=>D.int (i:Ai))∧env=[Aa (.int n),Aa (.loc S.length),Aa (.lst (fnd.map ptD)),e3,e4,e5]∧S'=T∧CI n a i fnd) ?_ ?_ ⟨0,[],none,none,by simp,by rw[Rp],rfl,rfl,λq hq=>(by cases hq),by simp,λz=>by omega,λz=>by omega⟩
   ·rintro d ds env S' ⟨i,fnd,e4,e5,hl,hds,rfl,rfl,C⟩
    have hi:i<1001:=by simp at hl;omega
    rw[show 1001-i=(1001-(i+1))+1 by omega,Vo,Dt] at hds
    injection hds with h1 h2
    subst h1;refine⟨[Aa (.int n),Aa (.loc S.length),Aa (.lst (fnd.map ptD)),e3,Aa (.int (i:Ai)),e5],S',rfl,?_⟩;have hsub:d2 zJ (qB 0) (d2 z0 (qB 4) (qB 4)) [Aa (.int n),Aa (.loc S.length),Aa (.lst (fnd.map ptD)),e3,Aa (.int (i:Ai)),e5] S'=.ok (.int (n-(i:Ai)*i)) S':=(qF (a:=.int n) rfl ((qF (a:=.int (i:Ai)) (b:=.int (i:Ai)) rfl rfl).trans (zN (i:Ai) i _ ⟨by omega,by omega⟩))).trans rfl
    refine xO (zP ((qF hsub (b:=.loc S.length) rfl).trans (TQ hS _))) ?_;cases hv:yT (sqs 1001) (.inl (n-(i:Ai)*i)) with
    |none =>
     refine xJ rfl ⟨i+1,fnd,_,_,by simp at hl;omega,h2,rfl,rfl,C.on,by have:=C.len;omega,λz=>?_,λz=>?_⟩
     ·have:=C.len
      rcases Jg i 71 with y|y
      ·omega
      ·exact C.top y
     ·rcases Jg a i with y|y
      ·exact C.ne y
      ·have:a=i:=by omega
       subst this;have h3:=F0 (n:=1001) (i:=b) om;rw[show n-(a:Ai)*a=(b:Ai)*b by omega] at hv
       rw[hv] at h3;cases h3
    |some dy =>
     obtain⟨y,hy,rfl,e⟩:=UM hv;have hi70:i≤70:=by
      rcases Jg 70 i with z|z
      ·have h4:=Ht (show (71:Ai)≤i by omega) (show (71:Ai)≤i by omega) om om
       have h5:(0:Ai)≤(y:Ai)*y:=Hd om om;omega
      ·exact z
     have hon:(i:Ai)*i+(y:Ai)*y=n:=by omega
     refine zU (qY (qS ((qF (a:=.loc S.length) rfl hsub).trans (TZ hS _ hv)) ?_));simp only[Az,Ay];have hz:∀ z w:Ai,∀ T:Sto,qQ (qA (dC (.int z)) (qA (dC (.int w)) (qC))) [] T=.ok (ptD (z,w)) T:=λz w T=>yJ (as:=[.int z,.int w]) rfl l2;have hlen:=C.len;refine zU (qY (qS (d:=.lst ((fnd++pV (i:Ai) y).map ptD)) ((qF (a:=.lst (fnd.map ptD)) rfl (zW (as:=(pV (i:Ai) y).map ptD) (zC (yJ (as:=[.int (i:Ai),.int (y:Ai)]) (xU rfl rfl) l2) (zC (yJ (as:=[.int (0-(i:Ai)),.int (y:Ai)]) (xU rfl rfl) l2) (zC (yJ (as:=[.int (i:Ai),.int (0-(y:Ai))]) (xU rfl rfl) l2) rfl))) l3)).trans (by rw[IU];exact yD (by rw[Bk];show fnd.length+3≤lim;unfold lim;omega) S')) ?_))
     simp only[Az,Ay];refine qY (qS (d:=.lst ((fnd++pV (i:Ai) y++[(0-(i:Ai),0-(y:Ai))]).map ptD)) ((qF (a:=.lst ((fnd++pV (i:Ai) y).map ptD)) rfl (zW (as:=[(0-(i:Ai),0-(y:Ai))].map ptD) (zC (yJ (as:=[.int (0-(i:Ai)),.int (0-(y:Ai))]) (xU rfl rfl) l2) rfl) l1)).trans (by rw[IU (l₁:=fnd++pV (i:Ai) y)];exact yD (by rw[Bk,Df];show fnd.length+3+1≤lim;unfold lim;omega) S')) ?_)
     refine⟨i+1,_,_,_,by simp at hl;omega,h2,rfl,rfl,λq hq=>?_,?_,λz=>?_,λz=>by simp⟩
     ·rw[Cj] at hq
      rcases Cp.mp hq with hq|hq
      ·exact C.on q hq
      ·simp only[pV,Pc,Ib,Bb,Cy,Gc] at hq
       unfold On;rcases hq with rfl|rfl|rfl|rfl <;> simp only[NK] <;> exact hon
     ·simp only[Df,pV,Dh,Ia];omega
     ·simp only[Df,pV,Dh,Ia];omega
   ·rintro env S' ⟨i,fnd,e4,e5,hl,hds,rfl,rfl,C⟩
    have hi:i=1001:=by simpa using hl
    subst hi;exact w9 (qS (JV false (f:=qB 2) (d:=.lst (fnd.map ptD)) rfl rfl (by have:=C.top om;omega)) ⟨fnd,rfl,hpre,C⟩)
 obtain⟨d,S',e,fnd,rfl,hp,C⟩:=key;refine⟨xM fnd,S',by rw[j9];exact jQ rfl e,hp,λz=>?_,λq hq=>C.on q ((pF fnd q).mp hq),Eb (cB fnd) (C.top om)⟩
 cases hf:fnd with
 |nil=>exact C.ne om hf
 |cons q qs =>
  have:q∈xM fnd:=(pF fnd q).mpr (by rw[hf];simp)
  rw[z] at this;cases this
def InB (B:Ai)(q:Pt):Prop:=-B≤q.1∧q.1≤B ∧ -B≤q.2∧q.2≤B
def NY {n:Ai}(hn:n≤5000){q:Pt}(h:On n q):InB 990 q:=by
 unfold On at h;have s1:0≤q.1*q.1:=by rw[← Ip q.1];exact Hd om om
 have s2:0≤q.2*q.2:=by rw[← Ip q.2];exact Hd om om
 have sm:∀ x:Ai,x*x≤5000 → -990≤x∧x≤990:=λx hx=>by
  rw[← Ip x] at hx;rcases Jg 70 x.natAbs with z|z
  ·have:=Ht (show (71:Ai)≤(x.natAbs:Ai) by omega) (show (71:Ai)≤(x.natAbs:Ai) by omega) om om
   omega
  ·omega
 have h1:=sm q.1 om;have h2:=sm q.2 om;exact⟨h1.1,h1.2,h2.1,h2.2⟩
def TY (f:DE)(n:Ah)(env:qD)(S:Sto)(h:n≤1000000)(e:f env S=.ok (.int (n:Ai)) S):wD (w6 (qA f qC)) env S=.ok (none,(By n).map λ(i:Ah)=>D.int (i:Ai)) S:=by
 unfold wD;rw[j0 f n env S S h e,Res.bind_ok]
def iD (i:Ah):D:=.int (i:Ai)
def fS (n:Ah)(hn:n≤1000)(fe:DE)(g:Ah→Pt)(env:qD)(S:Sto)(h:∀ i,i<n→fe [Aa (iD i)] S=.ok (ptD (g i)) S):zQ false [none] (wD (w6 (qA (dC (.int (n:Ai))) (qC)))) (gNm 0) (w8) (zZ fe) env S=.ok (.lst (((By n).map g).map ptD)) S:=by
 have hc:=kX (enc:=iD) (cap:=[none]) (g:=gNm 0) (t:=w8) (fe:=fe) (TY (dC (.int (n:Ai))) n env S om rfl) trivial (λ_=>true) (λi=>ptD (g i)) (λenv=>∃ a,env=[a]) ⟨none,rfl⟩ (by rw[Lb];unfold lim;omega)
  (λi hi env ⟨a,e⟩=>by
   subst e;exact⟨[Aa (iD i)],rfl,⟨_,rfl⟩,rfl,λ_=>h i (Dy.mp hi)⟩)
 rw[vF] at hc;rw[II];exact hc
def tp {f g:DE}{x y:Ai}(h1:f env S=.ok (.int x) S1)(h2:g env S1=.ok (.int y) S2):qQ (qA f (qA g (qC))) env S=.ok (ptD (x,y)) S2:=yJ (as:=[.int x,.int y]) (xU h1 h2) (by show 2≤lim;decide)
def gY:Ab Pt:=(By 20).map λ(i:Ah)=>(2*(i:Ai),3*(i:Ai))
def bV:Ab Pt:=(By 5).map λ(i:Ah)=>((i:Ai),0)
def oC:Ab Pt:=(By 25).map λ(i:Ah)=>((i:Ai)/5,(i:Ai) % 5)
def oJ:Ab Pt:=[(0,0),(0,4),(4,0),(4,4),(2,2),(-1,2),(2,-1),(5,2),(2,5),(1,1),(6,6)]
instance (B:Ai)(q:Pt):Kw (InB B q):=by unfold InB;exact inferInstance
def Y2:∀ q∈oC,InB 990 q:=kd
def PM:∀ q∈gY++bV,InB 990 q:=kd
def YC:∀ q∈oJ,InB 990 q:=kd
def oD {ty:Do}{g:D→Ab D→Sto→Res D}{fo:DE}{fa:DA}{o:D}(h1:fo env S=.ok o S1)(ht:tyD o S1=Aa ty)(h2:fa env S1=.ok ds S2):dBm ty g fo fa env S=g o ds S2:=by
 unfold dBm;rw[h1,Res.bind_ok,ht,Bg (by simp),h2,Res.bind_ok]
def BX {a:Ah}(h:S[a]? = Aa (.lst xs)):lF (.loc a) S=Aa xs:=by
 show (match S[a]? with|some (.lst xs)=>Aa xs|_=>none)=_
 rw[h]
@[reducible] def smB:DS:=sIf (dTr (d2 gLt (qB 2) (dC (.int 2)))) (qT (qE 1 S__law_circle (qA (qE 2 S__law_rich (qA (qB 0) (qA (dC (.int 5000)) (qC)))) (qC))) (gNm 7)) (sIf (dTr (d2 gEq (qB 2) (dC (.int 2)))) (qT (zQ false [none] (wD (w6 (qA (dC (.int 25)) (qC)))) (gNm 0) (w8) (zZ (qQ (qA (d2 uA (qB 0) (dC (.int 5))) (qA (d2 uN (qB 0) (dC (.int 5))) (qC)))))) (gNm 7)) (sIf (dTr (d2 gEq (qB 2) (dC (.int 3)))) (qL (qT (zQ false [none] (wD (w6 (qA (dC (.int 20)) (qC)))) (gNm 0) (w8) (zZ (qQ (qA (d2 z0 (dC (.int 2)) (qB 0)) (qA (d2 z0 (dC (.int 3)) (qB 0)) (qC)))))) (gNm 7)) (qT (d2 qW (qB 7) (zQ false [none] (wD (w6 (qA (dC (.int 5)) (qC)))) (gNm 0) (w8) (zZ (qQ (qA (qB 0) (qA (dC (.int 0)) (qC))))))) (gNm 7))) (sIf (dTr (d2 gEq (qB 2) (dC (.int 4)))) (qT (zL (qA (qQ (qA (dC (.int 0)) (qA (dC (.int 0)) (qC)))) (qA (qQ (qA (dC (.int 0)) (qA (dC (.int 4)) (qC)))) (qA (qQ (qA (dC (.int 4)) (qA (dC (.int 0)) (qC)))) (qA (qQ (qA (dC (.int 4)) (qA (dC (.int 4)) (qC)))) (qA (qQ (qA (dC (.int 2)) (qA (dC (.int 2)) (qC)))) (qA (qQ (qA (d1 yR (dC (.int 1))) (qA (dC (.int 2)) (qC)))) (qA (qQ (qA (dC (.int 2)) (qA (d1 yR (dC (.int 1))) (qC)))) (qA (qQ (qA (dC (.int 5)) (qA (dC (.int 2)) (qC)))) (qA (qQ (qA (dC (.int 2)) (qA (dC (.int 5)) (qC)))) (qA (qQ (qA (dC (.int 1)) (qA (dC (.int 1)) (qC)))) (qA (qQ (qA (dC (.int 6)) (qA (dC (.int 6)) (qC)))) (qC))))))))))))) (gNm 7)) (qL (qT (vL (qC)) (gNm 7)) (wR (w6 (qA (qB 1) (qC))) (gNm 8) (qL (qT (d2 zJ (qE 2 S__law_draw (qA (qB 0) (qA (d2 qW (d2 z0 (dC (.int 2)) (qB 6)) (dC (.int 1))) (qC)))) (qB 6)) (gNm 9)) (zR (dBm "list" y7 (qB 7) (qA (qQ (qA (qB 9) (qA (d2 zJ (qE 2 S__law_draw (qA (qB 0) (qA (qB 6) (qC)))) (dC (.int 2))) (qC)))) (qC))))))))))
structure SmOk (p:Ah)(S:Sto)(d:D)(S':Sto)(ps:Ab Pt):Prop where
 seq:lF d S'=Aa (ps.map ptD)
 ne:ps≠[]
 len:ps.length≤1000
 box:∀ q∈ps,InB 990 q
 kp:Kp p S S'
abbrev e11 (p M:Ah)(way many x y wide:Ai)(e7 e8 e9 e10:Al D):qD:=[Aa (.loc p),Aa (.int (M:Ai)),Aa (.int way),Aa (.int many),Aa (.int x),Aa (.int y),Aa (.int wide),e7,e8,e9,e10]
def BZ (p M:Ah)(way many x y wide:Ai)(S:Sto)(h:xG S p)(hM:1≤M∧M≤40)(hw:3≤wide∧wide≤900){Q:qD→Sto→Prop}(q:∀ d e8 e9 S' ps,SmOk p S d S' ps→Q (e11 p M way many x y wide (Aa d) e8 e9 none) S'):Nx (smB (e11 p M way many x y wide none none none none) S) Q:=by
 have eqi:∀ k:Ai,d2 gEq (qB 2) (dC (.int k)) (e11 p M way many x y wide none none none none) S=.ok (.bl (decide (way=k))) S:=λk=>(qF (a:=.int way) (b:=.int k) rfl rfl).trans (bQ way k S);have l5:11≤lim:=by decide
 refine xO (zP (b:=decide (way<2)) rfl) ?_;by_cases w2:way<2
 ·rw[Cs w2]
  obtain⟨n,S1,e1,k1,t1,n0,n1⟩:=DV p 5000 om S h;obtain⟨ps,S2,e2,k2,ne,on,len⟩:=UE n ⟨n0,n1⟩ t1 S1;refine qY (qS ((yA ((xH (a:=.loc p) (b:=.int 5000) rfl rfl).trans e1)).trans e2) ?_);exact q _ none none _ ps ⟨rfl,ne,by omega,λz hz=>NY n1 (on z hz),k1.trans (Kp.pre k1.pen k2)⟩
 rw[Cn w2];refine xO (zP (eqi 2)) ?_;by_cases w3:way=2
 ·rw[Cs w3]
  have hc:=fS 25 om (qQ (qA (d2 uA (qB 0) (dC (.int 5))) (qA (d2 uN (qB 0) (dC (.int 5))) (qC)))) (λ(i:Ah)=>((i:Ai)/5,(i:Ai) % 5)) (e11 p M way many x y wide none none none none) S (λi _=>tp ((qF (a:=iD i) (b:=.int 5) rfl rfl).trans (uX (i:Ai) 5 S om)) ((qF (a:=iD i) (b:=.int 5) rfl rfl).trans (uY (i:Ai) 5 S om)));exact qY (qS hc (q _ none none _ oC ⟨rfl,by decide,by decide,Y2,Kp.refl h⟩))
 rw[Cn w3];refine xO (zP (eqi 3)) ?_;by_cases w4:way=3
 ·rw[Cs w4]
  have hc:=fS 20 om (qQ (qA (d2 z0 (dC (.int 2)) (qB 0)) (qA (d2 z0 (dC (.int 3)) (qB 0)) (qC)))) (λ(i:Ah)=>(2*(i:Ai),3*(i:Ai))) (e11 p M way many x y wide none none none none) S (λi _=>tp ((qF (a:=.int 2) (b:=iD i) rfl rfl).trans (zN 2 (i:Ai) S om)) ((qF (a:=.int 3) (b:=iD i) rfl rfl).trans (zN 3 (i:Ai) S om)));rw[show (By 20).map (λ(i:Ah)=>(2*(i:Ai),3*(i:Ai)))=gY from rfl] at hc
  refine zU (qY (qS hc ?_));clear hc;have hc:=fS 5 om (qQ (qA (qB 0) (qA (dC (.int 0)) (qC)))) (λ(i:Ah)=>((i:Ai),0)) (e11 p M way many x y wide (Aa (.lst (gY.map ptD))) none none none) S (λi _=>tp (x:=(i:Ai)) (y:=0) rfl rfl);rw[show (By 5).map (λ(i:Ah)=>((i:Ai),(0:Ai)))=bV from rfl] at hc
  have hg:qW (.lst (gY.map ptD)) (.lst (bV.map ptD)) S=.ok (.lst ((gY++bV).map ptD)) S:=by
   rw[IU];exact yD (by rw[Bk,Bk];decide) S
  refine qY (qS (d:=.lst ((gY++bV).map ptD)) ((qF (wB rfl) hc).trans hg) ?_);exact q _ none none _ (gY++bV) ⟨rfl,by decide,by decide,PM,Kp.refl h⟩
 rw[Cn w4];refine xO (zP (eqi 4)) ?_;by_cases w5:way=4
 ·rw[Cs w5]
  exact qY (qS (d:=.lst (oJ.map ptD)) (S:=S) (by kernel_rfl!) (q _ none none _ oJ ⟨rfl,by decide,by decide,YC,Kp.refl h⟩))
 rw[Cn w5,Bc Ea];have hm0:vL (qC) (e11 p M way many x y wide none none none none) S=.ok (.loc S.length) (S++[.lst []]):=rfl;refine zU (qY (qS hm0 ?_));simp only[Az,Ay];refine yY (j0 (qB 1) M _ _ _ om rfl) ?_;refine wQ (λds env S'=>∃ (i:Ah) (ps:Ab Pt) (e8 e9:Al D),i+ds.length=M∧ps.length=i∧(∀ q∈ps,InB 990 q)∧env=e11 p M way many x y wide (Aa (.loc S.length)) e8 e9 none∧Kp p S S'∧S'[S.length]? = Aa (.lst (ps.map ptD))) ?_ ?_ ⟨0,[],none,none,by simp,rfl,λq hq=>(by cases hq),rfl,Kp.pre h (Fo _ _),by simp⟩
 ·rintro d ds env S' ⟨i,ps,e8,e9,hl,hi,hin,rfl,K,hS⟩
  refine⟨e11 p M way many x y wide (Aa (.loc S.length)) (Aa d) e9 none,S',rfl,?_⟩;have hpl:=XN h;have hm2:d2 qW (d2 z0 (dC (.int 2)) (qB 6)) (dC (.int 1)) (e11 p M way many x y wide (Aa (.loc S.length)) (Aa d) e9 none) S'=.ok (.int (2*wide+1)) S':=(qF ((qF (a:=.int 2) (b:=.int wide) rfl rfl).trans (zN 2 wide S' om)) (b:=.int 1) rfl).trans (zM _ _ _);obtain⟨r1,S1,c1,k1,l1,r10,r11⟩:=xV S' p (2*wide+1) (qB 0) (d2 qW (d2 z0 (dC (.int 2)) (qB 6)) (dC (.int 1))) (e11 p M way many x y wide (Aa (.loc S.length)) (Aa d) e9 none) rfl hm2 K.pen om;refine zU (qY (qS (d:=.int (r1-wide)) ((qF c1 (b:=.int wide) rfl).trans rfl) ?_));simp only[Az,Ay];obtain⟨r2,S2,c2,k2,l2,r20,r21⟩:=xV S1 p wide (qB 0) (qB 6) (e11 p M way many x y wide (Aa (.loc S.length)) (Aa d) (Aa (.int (r1-wide))) none) rfl rfl k1.pen om;have hS1:S1[S.length]? = Aa (.lst (ps.map ptD)):=by
   rw[k1.same S.length (AT.mp hS).1 om];exact hS
  have hS2:S2[S.length]? = Aa (.lst (ps.map ptD)):=by
   rw[k2.same S.length (AT.mp hS1).1 om];exact hS1
  have hs2:=(AT.mp hS2).1;refine bY (qS ((oD (o:=.loc S.length) rfl (QM hS1) (kY (tp (x:=r1-wide) (y:=r2-2) rfl ((qF c2 (b:=.int 2) rfl).trans rfl)))).trans (QV hS2 (by rw[Bk];unfold lim;simp at hl;omega) _)) ?_)
  refine⟨i+1,ps++[(r1-wide,r2-2)],_,_,by simp at hl;omega,by simp[hi],λz hz=>?_,rfl,((K.trans k1).trans k2).set (Ax _) _ om,by simp[hs2]⟩
  rcases Cp.mp hz with hz|hz
  ·exact hin z hz
  ·have:z=(r1-wide,r2-2):=by simpa using hz
   subst this;refine⟨?_,?_,?_,?_⟩ <;> dsimp only <;> omega
 ·rintro env S' ⟨i,ps,e8,e9,hl,hi,hin,rfl,K,hS⟩
  have hi':i=M:=by simpa using hl
  refine q _ e8 e9 S' ps ⟨BX hS,λz=>?_,by omega,hin,K⟩
  subst z;simp at hi;omega
def kM (ps:Ab Pt):Ab Pt:=(_S.uE _H.lexLt (ps.map kP)).map pK
def iU (ps:Ab Pt):∀ k∈_S.uE _H.lexLt (ps.map kP),k∈ps.map kP:=λk hk=>(_S.bD _).mem_iff.mp hk
def SG (ps:Ab Pt):(kM ps).map kP=_S.uE _H.lexLt (ps.map kP):=(bK (iU ps)).2
def bE (ps:Ab Pt):(kM ps).Perm ps:=by
 have h:=(_S.bD (lt':=_H.lexLt) (ps.map kP)).map pK;rw[II] at h;have e:ps.map (pK∘kP)=ps:=by
  conv=>rhs;rw[← Xz ps]
  exact Nh λq _=>rfl
 rw[e] at h;exact h
def F3 (nd:ps.Nodup):Up (kM ps):=by
 have h:=_S.iV _S.m7 (ps.map kP);unfold _S.Nf at h;rw[← SG,Hf] at h;have nd':(kM ps).Nodup:=(bE ps).nodup_iff.mpr nd;refine(List.pairwise_and_iff.mpr ⟨h,nd'⟩).imp λ{a b} ⟨h1,h2⟩=>?_;rcases _S.m7.tri h1 with z|z
 ·exact absurd (N2 z).symm h2
 ·exact z
def UL (ps:Ab Pt)(hl:ps.length≤100000):uV (ps.map ptD)=Aa ((kM ps).map ptD):=by
 unfold kM;rw[← (bK (iU ps)).1];unfold uV;cases ps with
 |nil =>
  have e1:_S.uE _S.ltI [] = []:=Ti;have e2:_S.uE _H.lexLt [] = []:=Ti;show (if ([] : Ab Ai).length≤100000 then Aa ((_S.uE _S.ltI []).map D.int) else none)=_
  rw[e1];show Aa [] = Aa ((_S.uE _H.lexLt []).map tpD);rw[e2];rfl
 |cons p ps =>
  have h0:wC ((p::ps).map ptD)=none:=rfl;rw[h0,eE,dR];have h2:(((p::ps).map kP).all λk=>!k.isEmpty)=true:=by
   rw[Kr,Cu];intro q _;rfl
  exact Bg (by rw[h2,Cs (by rw[Bk];exact hl)];rfl)
def pE {f:DE}(h:f env S=.ok (.lst (ps.map ptD)) S1)(hl:ps.length≤100000):qH u7 (qA f (qC)) env S=.ok (.lst ((kM ps).map ptD)) S1:=by
 refine(vK h).trans ?_;show (match (hJ (.lst (ps.map ptD))).bind uV with|some ys=>Res.ok (D.lst ys) S1|none=>.bad)=_
 rw[show (hJ (.lst (ps.map ptD))).bind uV=uV (ps.map ptD) from rfl,UL ps hl]
def mF {f:DE}(h:f env S=.ok (.lst xs) S1):qH jF (qA f (qC)) env S=.ok (.tup xs) S1:=(vK h).trans rfl
def aZ {a:Ah}(h:S[a]? = Aa (.lst xs)):xI [.loc a] S=.ok (.int (xs.length:Ai)) S:=by
 show (match eB (.loc a) S with|some n=>Res.ok (D.int n) S|none=>.bad)=_
 have:eB (.loc a) S=Aa xs.length:=by
  unfold eB;simp only[h]
 rw[this]
def vO {α:Type}:∀ (l:Ab α) (i:Ah) (h:i<l.length),(l[i]::l.eraseIdx i).Perm l
 |[],i,h=>by simp at h
 |x::l,0,h=>by simp
 |x::l,i+1,h=>by
  have:=vO l i (by simpa using h)
  simp only[Qj,Pi];exact(Wr x _ _).trans (this.cons x)
def LO {a:Ah}(h:S[a]? = Aa (.lst xs)){k:Ah}(hk:k<xs.length)(hb:k<1000000):jI (.loc a) [.int (k:Ai)] S=.ok xs[k] (S.set a (.lst (xs.eraseIdx k))):=by
 unfold jI t9;simp only[h];rw[Bg ⟨by omega,by omega⟩,Gk,Aq hk]
def dB {α β:Type}(f:α→β):∀ (l:Ab α) (i:Ah),(l.map f).eraseIdx i=(l.eraseIdx i).map f
 |[],i=>by simp
 |x::l,0=>by simp
 |x::l,i+1=>by simp[dB f l i]
def LJ (ps:Ab Pt):pl yX (.lst (ps.map ptD))=true:=by
 show ((ps.map ptD).all (pl 29))=true;rw[Kr];exact Cu.mpr λp _=>rfl
def XI (h:ps.length≤1000):okD 2 (.lst (ps.map ptD)):=⟨by rw[Bk];unfold lim;omega,λx hx=>by
 obtain⟨p,_,rfl⟩:=Dk.mp hx;refine⟨by show 2≤lim;decide,λy hy=>?_⟩
 simp at hy;rcases hy with rfl|rfl <;> trivial⟩
def NJ (S:Sto)(a b:Ah)(ps:Ab Pt)(hl:ps.length≤1000)(ha:S[a]? = Aa (.lst (ps.map ptD)))(hb:S[b]? = Aa (.lst [])) : kA gNe (.loc a) (.loc b) S=.ok (.bl (!ps.isEmpty)) S:=by
 have h1:=iM S a 2 _ ha (XI hl) om;have h2:=iM S b 2 _ hb (XI (ps:=[]) (by simp)) om
 unfold kA rG;rw[h1,h2];show oV (gNe (.lst (ps.map ptD)) (.lst []) (gO S)) S=_;unfold gNe;rw[LJ,show pl yX (.lst []) = true from rfl]
 cases ps <;> rfl
structure WI (p a b many:Ah)(all:Ab Pt)(S S':Sto)(done qK:Ab Pt):Prop where
 ra:S'[a]? = Aa (.lst (qK.map ptD))
 rb:S'[b]? = Aa (.lst (done.map ptD))
 perm:(done++qK).Perm all
 le:done.length≤many
 kp:Kp p S S'
structure Lot (M:Ah)(l:Ab Pt):Prop where
 ne:l≠[]
 len:l.length≤M
 up:Up l
 box:∀ q∈l,InB 1000 q
def H9 {l:Ab Pt}(h:Up l):l.Nodup:=h.imp λ{a b} h e=>by
 subst e;rw[show ltP a a=false from _S.m7.irr _] at h
 cases h
def UK (b:Ah)(x y:Ai)(done:Ab Pt)(hl:done.length≤1000)(env:qD)(S:Sto)(h10:env[10]? = Aa (Aa (.loc b)))(h4:env[4]? = Aa (Aa (.int x)))(h5:env[5]? = Aa (Aa (.int y)))(hb:S[b]? = Aa (.lst (done.map ptD))) :
  zQ false [none,Aa 4,Aa 5] (dIt (qB 10)) (gNm 0) (w8) (zZ (qQ (qA (d2 qW (d2 gIx (qB 0) (dC (.int 0))) (qB 1)) (qA (d2 qW (d2 gIx (qB 0) (dC (.int 1))) (qB 2)) (qC))))) env S=.ok (.lst ((done.map λq=>(q.1+x,q.2+y)).map ptD)) S:=by
 have hit:dIt (qB 10) env S=.ok (Aa (b,.lst (done.map ptD)),done.map ptD) S:=by
  unfold dIt;rw[wB h10,Res.bind_ok];show (match S[b]? with|some (.lst xs)=>Res.ok (Aa (b,MO.lst xs),xs) S|_=>.bad)=_
  rw[hb]
 have hs:wL [none,Aa 4,Aa 5] env=[none,Aa (.int x),Aa (.int y)]:=by simp[wL,h4,h5]
 have hc:=kX (enc:=ptD) (cap:=[none,Aa 4,Aa 5]) (g:=gNm 0) (t:=w8) (fe:=qQ (qA (d2 qW (d2 gIx (qB 0) (dC (.int 0))) (qB 1)) (qA (d2 qW (d2 gIx (qB 0) (dC (.int 1))) (qB 2)) (qC)))) hit hb (λ_=>true) (λq=>ptD (q.1+x,q.2+y)) (λenv=>∃ a,env=[a,Aa (.int x),Aa (.int y)]) ⟨none,hs⟩ (by unfold lim;omega)
  (λq hq env ⟨a,e⟩=>by
   subst e;refine⟨[Aa (ptD q),Aa (.int x),Aa (.int y)],rfl,⟨_,rfl⟩,rfl,λ_=>?_⟩;exact tp ((qF ((qF (a:=ptD q) (b:=.int 0) rfl rfl).trans (show gIx (ptD q) (.int 0) S=.ok (.int q.1) S from rfl)) (b:=.int x) rfl).trans (zM _ _ _)) ((qF ((qF (a:=ptD q) (b:=.int 1) rfl rfl).trans (show gIx (ptD q) (.int 1) S=.ok (.int q.2) S from rfl)) (b:=.int y) rfl).trans (zM _ _ _)))
 rw[vF] at hc;rw[II];exact hc
def F7 {a b many:Ah}{all:Ab Pt}{done qK:Ab Pt}{way x y wide:Ai}{e8 e9:Al D}(hp:p<a∧a<b)(hSa:S.length≤a)(hal:all.length≤1000)(W:WI p a b many all S S' done qK)(hr:qK≠[])(hd:done.length<many)(hb0:S'.length≥b+1) :
  Nx (zR (dBm "list" y7 (qB 10) (qA (dBm "list" jI (qB 7) (qA (qE 2 S__law_draw (qA (qB 0) (qA (qH xI (qA (qB 7) (qC))) (qC)))) (qC))) (qC))) (e11 p M way (many:Ai) x y wide (Aa (.loc a)) e8 e9 (Aa (.loc b))) S') λenv2 S2=>env2=e11 p M way (many:Ai) x y wide (Aa (.loc a)) e8 e9 (Aa (.loc b))∧∃ done2 rest2,rest2.length<qK.length∧WI p a b many all S S2 done2 rest2:=by
 have hall:=W.perm.length_eq;rw[Df] at hall;have hlen:0<qK.length:=List.length_pos_iff.mpr hr;have hln:qH xI (qA (qB 7) (qC)) (e11 p M way (many:Ai) x y wide (Aa (.loc a)) e8 e9 (Aa (.loc b))) S'=.ok (.int (qK.length:Ai)) S':=by
  refine(vK (a:=.loc a) rfl).trans ((aZ W.ra).trans ?_);rw[Bk]
 obtain⟨r,S1,c1,k1,l1,r0,r1⟩:=xV S' p (qK.length:Ai) (qB 0) (qH xI (qA (qB 7) (qC))) (e11 p M way (many:Ai) x y wide (Aa (.loc a)) e8 e9 (Aa (.loc b))) rfl hln W.kp.pen om;obtain⟨r,rfl⟩:=IJ r0;have hr1:r<qK.length:=by omega
 have ra1:S1[a]? = Aa (.lst (qK.map ptD)):=by rw[k1.same a om om];exact W.ra
 have rb1:S1[b]? = Aa (.lst (done.map ptD)):=by rw[k1.same b om om];exact W.rb
 have hk:r<(qK.map ptD).length:=by simpa using hr1
 have hpop:=LO ra1 hk om;have e1:(qK.map ptD)[r]=ptD qK[r]:=by simp
 rw[e1,dB] at hpop;have rb2:(S1.set a (.lst ((qK.eraseIdx r).map ptD)))[b]? = Aa (.lst (done.map ptD)):=by rw[Dz om];exact rb1
 have happ:=QV rb2 (by rw[Bk];unfold lim;omega) (ptD qK[r])
 refine bY (qS ((oD (o:=.loc b) rfl (QM W.rb) (kY ((oD (o:=.loc a) rfl (QM W.ra) (kY c1)).trans hpop))).trans happ) ?_);have la:a<S1.length:=(AT.mp ra1).1;have lb:b<S1.length:=(AT.mp rb1).1;refine⟨rfl,done++[qK[r]],qK.eraseIdx r,?_,⟨?_,?_,?_,by simp;omega,((W.kp.trans k1).set hSa _ om).set om _ om⟩⟩
 ·rw[Rm,Bg hr1]
  omega
 ·rw[Dz om]
  simp[la]
 ·rw[IU]
  simp[lb]
 ·rw[Cj]
  exact(Gv done (vO qK r hr1)).trans W.perm
def EJ (p M:Ah)(hM:1≤M∧M≤40)(S:Sto)(h:xG S p):∃ (l:Ab Pt) (S':Sto),S__law_lot [.loc p,.int (M:Ai)] S=.ok (yS l) S'∧Kp p S S'∧Lot M l:=by
 have hpl:=XN h;have key:Rt (b__law_lot [Aa (.loc p),Aa (.int (M:Ai)),none,none,none,none,none,none,none,none,none] S) λd S'=>∃ l,d=yS l∧Kp p S S'∧Lot M l:=by
  unfold b__law_lot;obtain⟨way,S1,c1,k1,_,w0,w1⟩:=xV S p 6 (qB 0) (dC (.int 6)) [Aa (.loc p),Aa (.int (M:Ai)),none,none,none,none,none,none,none,none,none] rfl rfl h om;obtain⟨m,S2,c2,k2,_,m0,m1⟩:=xV S1 p (M:Ai) (qB 0) (qB 1) [Aa (.loc p),Aa (.int (M:Ai)),none,none,none,none,none,none,none,none,none] rfl rfl k1.pen om;obtain⟨m,rfl⟩:=IJ m0;refine qU (g6 c1 ((qF (a:=.int 1) rfl c2).trans (zM 1 _ _)) ?_);simp only[Az,Ay];rw[show (1:Ai)+(m:Ai)=((1+m:Ah):Ai) by omega]
  generalize hmany:1+m=many;have hmM:1≤many∧many≤M:=by omega
  clear c1 c2;obtain⟨x,S3,c3,k3,_,x0,x1⟩:=xV S2 p 21 (qB 0) (dC (.int 21)) [Aa (.loc p),Aa (.int (M:Ai)),Aa (.int way),Aa (.int (many:Ai)),none,none,none,none,none,none,none] rfl rfl k2.pen om;obtain⟨y,S4,c4,k4,_,y0,y1⟩:=xV S3 p 21 (qB 0) (dC (.int 21)) [Aa (.loc p),Aa (.int (M:Ai)),Aa (.int way),Aa (.int (many:Ai)),none,none,none,none,none,none,none] rfl rfl k3.pen om;refine qU (iB (env1:=[Aa (.loc p),Aa (.int (M:Ai)),Aa (.int way),Aa (.int (many:Ai)),Aa (.int (x-10)),Aa (.int (y-10)),none,none,none,none,none]) (S2:=S4) (yJ (as:=[.int (x-10),.int (y-10)]) (xU ((qF c3 (b:=.int 10) rfl).trans rfl) ((qF c4 (b:=.int 10) rfl).trans rfl)) (by show 2≤lim;decide)) rfl ?_)
  clear c3 c4;obtain⟨r,S5,c5,k5,_,r0,r1⟩:=xV S4 p 3 (qB 0) (dC (.int 3)) [Aa (.loc p),Aa (.int (M:Ai)),Aa (.int way),Aa (.int (many:Ai)),Aa (.int (x-10)),Aa (.int (y-10)),none,none,none,none,none] rfl rfl k4.pen om;obtain⟨d,hd,hm⟩:=kT ([3,6,900].map D.int) r ⟨r0,by show r<3;exact r1⟩
  obtain⟨wide,hwide,rfl⟩:=Dk.mp hm;have hw:3≤wide∧wide≤900:=by
   simp only[Bb,Cy,Gc] at hwide;omega
  refine qU (qY (qS ((qF (zW (as:=[3,6,900].map D.int) (zC rfl (zC rfl (zC rfl rfl))) (by show 3≤lim;decide)) c5).trans (uB hd S5)) ?_))
  simp only[Az,Ay];clear c5 hd hm;have K5:Kp p S S5:=(((k1.trans k2).trans k3).trans k4).trans k5;refine qU (BZ p M way (many:Ai) (x-10) (y-10) wide S5 K5.pen hM hw λd e8 e9 S6 ps sm=>?_);have K6:=K5.trans sm.kp;have hss:=JV true (f:=qB 7) (env:=e11 p M way (many:Ai) (x-10) (y-10) wide (Aa d) e8 e9 none) (S:=S6) (d:=d) rfl sm.seq sm.len;rw[Bg rfl] at hss;refine qU (qY (qS hss ?_));simp only[Az,Ay];have hm0:vL (qC) (e11 p M way (many:Ai) (x-10) (y-10) wide (Aa (.loc S6.length)) e8 e9 none) (S6++[.lst ((xM ps).map ptD)])=.ok (.loc (S6++[MO.lst ((xM ps).map ptD)]).length) (S6++[.lst ((xM ps).map ptD)]++[.lst []]):=rfl;refine qU (qY (qS hm0 ?_));simp only[Az,Ay];rw[show (S6++[MO.lst ((xM ps).map ptD)]).length=S6.length+1 by simp]
  have hal:(xM ps).length≤1000:=Eb (cB ps) sm.len;have hane:xM ps≠[]:=λz=>by
   cases hps:ps with
   |nil=>exact sm.ne hps
   |cons q qs =>
    have:q∈xM ps:=(pF ps q).mpr (by rw[hps];simp)
    rw[z] at this;cases this
  have hpp:p<S6.length:=Ba hpl K6.len;have hK7:Kp p S (S6++[.lst ((xM ps).map ptD)]++[.lst []]):=K6.trans (Kp.pre K6.pen ((Fo _ _).trans (Fo _ _)));have W0:WI p S6.length (S6.length+1) many (xM ps) S (S6++[.lst ((xM ps).map ptD)]++[.lst []]) [] (xM ps):=⟨by simp,by simp,by simp,by simp,hK7⟩
  refine qU (VU (λn env S'=>env=e11 p M way (many:Ai) (x-10) (y-10) wide (Aa (.loc S6.length)) e8 e9 (Aa (.loc (S6.length+1)))∧∃ done qK,qK.length=n∧WI p S6.length (S6.length+1) many (xM ps) S S' done qK) (λn env S' hI=>?_) (n:=(xM ps).length) (by rw[FW];omega) ⟨rfl,[],xM ps,rfl,W0⟩)
  obtain⟨rfl,done,qK,rfl,W⟩:=hI;have hall:=W.perm.length_eq;rw[Df] at hall;have la:S6.length+1<S'.length:=(AT.mp W.rb).1;have hm1:vL (qC) (e11 p M way (many:Ai) (x-10) (y-10) wide (Aa (.loc S6.length)) e8 e9 (Aa (.loc (S6.length+1)))) S'=.ok (.loc S'.length) (S'++[.lst []]):=rfl;have hpre:S'<+:S'++[MO.lst []]:=Fo _ _;have W':WI p S6.length (S6.length+1) many (xM ps) S (S'++[MO.lst []]) done qK:=⟨aJ W.ra hpre,aJ W.rb hpre,W.perm,W.le,W.kp.trans (Kp.pre W.kp.pen hpre)⟩;have t1:=zP ((qF (o:=kA gNe) (f:=qB 7) (a:=.loc S6.length) rfl hm1).trans (NJ (S'++[MO.lst []]) S6.length S'.length qK om W'.ra (by simp)))
  have t2:dTr (d2 gLt (qH xI (qA (qB 10) (qC))) (qB 3)) (e11 p M way (many:Ai) (x-10) (y-10) wide (Aa (.loc S6.length)) e8 e9 (Aa (.loc (S6.length+1)))) (S'++[MO.lst []]) = .ok (decide ((done.length:Ai)<(many:Ai))) (S'++[MO.lst []]):=by
   refine zP ((qF ((vK (a:=.loc (S6.length+1)) rfl).trans (aZ W'.rb)) (b:=.int (many:Ai)) rfl).trans ?_);rw[Bk];rfl
  have tt:yM (dTr (d2 (kA gNe) (qB 7) (vL (qC)))) (dTr (d2 gLt (qH xI (qA (qB 10) (qC))) (qB 3))) (e11 p M way (many:Ai) (x-10) (y-10) wide (Aa (.loc S6.length)) e8 e9 (Aa (.loc (S6.length+1)))) S'=.ok (!qK.isEmpty&&decide ((done.length:Ai)<(many:Ai))) (S'++[MO.lst []]):=by
   unfold yM;rw[t1];cases qK.isEmpty with
   |true=>rfl
   |false=>exact t2
  refine⟨_,_,tt,?_⟩;by_cases hc:qK≠[]∧done.length<many
  ·have e:(!qK.isEmpty&&decide ((done.length:Ai)<(many:Ai)))=true:=by
    rw[Cs om,Se,IV];cases qK with
    |nil=>exact absurd rfl hc.1
    |cons _ _=>rfl
   rw[e,Bg rfl];obtain⟨env2,S2',q1,rfl,done2,rest2,hlt,W2⟩:=F7 (M:=M) (way:=way) (x:=x-10) (y:=y-10) (wide:=wide) (e8:=e8) (e9:=e9) ⟨hpp,by omega⟩ K6.len hal W' hc.1 hc.2 (by simp;omega)
   exact⟨_,S2',q1,rest2.length,hlt,rfl,done2,rest2,rfl,W2⟩
  ·have e:(!qK.isEmpty&&decide ((done.length:Ai)<(many:Ai)))=false:=by
    cases qK with
    |nil=>rfl
    |cons z zs =>
     have:¬ done.length<many:=λy=>hc ⟨by simp,y⟩
     rw[Cn om,Nj]
   rw[e,Bc Ea];have hdl:done.length≤1000:=by omega
   have hsub:∀ q∈done,q∈ps:=λq hq=>(pF ps q).mp (W.perm.mem_iff.mp (Dg _ hq));have hnd:done.Nodup:=(Oy.mp (W.perm.nodup_iff.mpr (H9 (F2 ps)))).1;have hdne:done≠[]:=λz=>by
    subst z;by_cases hr:qK=[]
    ·subst hr
     simp at hall;exact hane (Hj.mp hall.symm)
    ·exact hc ⟨hr,by simp;omega⟩
   have hsh:=UK (S6.length+1) (x-10) (y-10) done hdl (e11 p M way (many:Ai) (x-10) (y-10) wide (Aa (.loc S6.length)) e8 e9 (Aa (.loc (S6.length+1)))) (S'++[MO.lst []]) rfl rfl rfl W'.rb;refine w9 (qS (mF (pE hsh (by rw[Bk];omega))) ⟨kM (done.map λq=>(q.1+(x-10),q.2+(y-10))),rfl,W'.kp,?_⟩)
   have hperm:=bE (done.map λq=>(q.1+(x-10),q.2+(y-10)));refine⟨λz=>?_,?_,F3 ?_,λq hq=>?_⟩
   ·have:=hperm.length_eq
    rw[z,Bk] at this;exact hdne (Hj.mp this.symm)
   ·rw[hperm.length_eq,Bk]
    have:=W.le;omega
   ·unfold Wk
    rw[Hf];refine hnd.imp λ{a b} hne e=>hne ?_;have e1:=congrArg Prod.fst e;have e2:=congrArg Prod.snd e;dsimp only at e1 e2;exact Xs om om
   ·obtain⟨q0,h0,rfl⟩:=Dk.mp (hperm.mem_iff.mp hq)
    obtain⟨b1,b2,b3,b4⟩:=sm.box q0 (hsub q0 h0);refine⟨?_,?_,?_,?_⟩ <;> dsimp only <;> omega
 obtain⟨d,S',e,l,rfl,q⟩:=key;exact⟨l,S',by rw[pH];exact jQ rfl e,q⟩
def Pn (d:D):Prop:=∃ p,pyD d=Aa p
def LK {d:D}(h:Pn d):(∃ i,d=.int i)∨yC d:=by
 obtain⟨p,h⟩:=h;cases d with
 |int i=>exact .inl ⟨i,rfl⟩
 |non=>exact .inr XD
 |bl b=>exact .inr (Q0 b)
 |str x=>exact .inr (XE x)
 |tup x=>exact .inr (XF x)
 |lst x=>exact .inr (XC x)
 |dct0=>exact .inr XB
 |_=>simp[pyD] at h
def pns:∀ {ps:Ab PyData},eP xs=Aa ps→∀ x∈xs,Pn x:=by
 induction xs with
 |nil=>intro ps _ x hx;cases hx
 |cons d ds ih =>
  intro ps h x hx;simp only[eP] at h;obtain⟨p,h1,h2⟩:=Ec.mp h;obtain⟨ps',h3,_⟩:=De.mp h2;rcases Bb.mp hx with rfl|hx
  ·exact⟨p,h1⟩
  ·exact ih h3 x hx
def LN (h:Pn (.tup xs)):∀ x∈xs,Pn x:=by
 obtain⟨p,h⟩:=h;simp only[pyD] at h;obtain⟨ps,h1,_⟩:=De.mp h;exact pns h1
def EB {d:D}(h:Pn d):(∃ xs,d=.tup xs)∨∀ S,xB (dTr (qH xC (qA (qB 0) (qA (dC (.ty "tuple")) (qC))))) [Aa d] S=.ok true S:=by
 have one:∀ (a:Do),(∀ S,tyD d S=Aa a)→zO a "tuple" = false→∀ S,xB (dTr (qH xC (qA (qB 0) (qA (dC (.ty "tuple")) (qC))))) [Aa d] S=.ok true S:=λa h1 h2 S=>by
  have:=uK (zP ((kU (f1:=qB 0) (f2:=dC (.ty "tuple")) (env:=[Aa d]) (S:=S) rfl rfl).trans (yF d "tuple" a S x9.2.2.1 (h1 S))));rw[h2] at this;exact this
 obtain⟨p,h⟩:=h;cases d with
 |tup xs=>exact .inl ⟨xs,rfl⟩
 |int i=>exact .inr (one "int" (λ_=>rfl) (kd))
 |non=>exact .inr (one "NoneType" (λ_=>rfl) (kd))
 |bl b=>exact .inr (one "bool" (λ_=>rfl) (kd))
 |str x=>exact .inr (one "str" (λ_=>rfl) (kd))
 |lst x=>exact .inr (one "list" (λ_=>rfl) (kd))
 |dct0=>exact .inr (one "dict" (λ_=>rfl) (kd))
 |_=>simp[pyD] at h
def aS (xs:Ab D)(S:Sto):xB (dTr (qH xC (qA (qB 0) (qA (dC (.ty "tuple")) (qC))))) [Aa (.tup xs)] S=.ok false S:=by
 have:=uK (zP ((kU (f1:=qB 0) (f2:=dC (.ty "tuple")) (env:=[Aa (.tup xs)]) (S:=S) rfl rfl).trans (yF (.tup xs) "tuple" "tuple" S x9.2.2.1 rfl)));rw[fD.2.2.2.2.2.1] at this;exact this
def isI:D→Ap
 |.int i=>decide (-1000≤i∧i≤1000)
 |_=>false
def uO:D→Ap
 |.tup [a,b]=>isI a&&isI b
 |_=>false
def TR {d:D}(h:yC d):isI d=false:=by
 cases d with
 |int i =>
  rcases h [] with h|h|h|h|h|h <;> (rw[bH] at h;exact absurd (Co h) (by decide))
 |_=>rfl
def A8 (x:D)(S:Sto)(h:Pn x):S_is_within [x,.int (-1000),.int 1000] S=.ok (.bl (isI x)) S:=by
 rcases LK h with⟨i,rfl⟩|h
 ·exact mB i _ _ S
 ·rw[TR h];exact fK x _ _ S h
def XO (fe:DE)(S:Sto)(hfe:∀ x,Pn x→fe [Aa x] S=.ok (.bl (isI x)) S)(d:D)(h:Pn d) :
  Rt (qL (sIf (vM (xB (dTr (qH xC (qA (qB 0) (qA (dC (.ty "tuple")) (qC)))))) (dTr (d2 gNe (qH xI (qA (qB 0) (qC))) (dC (.int 2))))) (zA (dC (.bl false))) (zH)) (zA (qH (fU false) (qA (zQ false [none] (dIt (qB 0)) (gNm 0) (w8) (zZ fe)) (qC)))) [Aa d] S) λd' S1=>d'=.bl (uO d)∧S1=S:=by
 rcases EB h with⟨xs,rfl⟩|hn
 ·have hl:dTr (d2 gNe (qH xI (qA (qB 0) (qC))) (dC (.int 2))) [Aa (.tup xs)] S=.ok (decide ((xs.length:Ai)≠2)) S:=zP ((qF ((vK (f1:=qB 0) rfl).trans (VL xs S)) rfl).trans (bR _ _ _))
  have ht:=sH (aS xs S) (λ_=>hl) (by intro z;cases z)
  rw[Xa] at ht;by_cases h2:xs.length=2
  ·rw[Cn om] at ht
   refine qU (xO ht (xJ (S:=S) rfl (w9 (qS ?_ (d:=.bl (uO (.tup xs))) (S:=S) ⟨rfl,rfl⟩))));have hc:=M7 (cap:=[none]) (g:=gNm 0) (t:=w8) (fe:=fe) (fi:=dIt (qB 0)) (env:=[Aa (.tup xs)]) (S:=S) (o:=none) (items:=xs) rfl trivial (λ_=>true) (λx=>.bl (isI x)) (λenv=>∃ a,env=[a]) ⟨none,rfl⟩ (by rw[h2];decide)
    (λx hx env ⟨a,q⟩=>by subst q;exact⟨[Aa x],rfl,⟨_,rfl⟩,rfl,λ_=>hfe x (LN h x hx)⟩)
   rw[vF] at hc;rw[QR (p:=isI) hc]
   match xs,h2 with
   |[a,b],_=>simp[uO]
  ·rw[Cs om] at ht
   refine fB (WM ht (w9 (qS (d:=.bl false) (S:=S) rfl ⟨?_,rfl⟩)))
   match xs,h2 with
   |[],_=>rfl
   |[a],_=>rfl
   |[a,b],h=>exact absurd rfl h
   |a::b::c::r,_=>rfl
 ·have ht:=sH (b:=false) (g:=dTr (d2 gNe (qH xI (qA (qB 0) (qC))) (dC (.int 2)))) (hn S) (by intro z;cases z) (λ_=>rfl)
  refine fB (WM ht (w9 (qS (d:=.bl false) (S:=S) rfl ⟨?_,rfl⟩)))
  congr 1
  unfold uO
  split
  ·have:=hn S
   rw[aS] at this;cases this
  ·rfl
def tJ (d:D)(S:Sto)(h:Pn d):S_is_point [d] S=.ok (.bl (uO d)) S:=by
 rw[pJ];exact yZ (env:=[Aa d]) rfl (XO _ S (λx hx=>(gJ (f1:=qB 0) rfl rfl rfl).trans (eG (A8 x S hx))) d h)
def tG (q:Pt):Pn (ptD q):=⟨.tuple [.int q.1,.int q.2],rfl⟩
def uZ (q:Pt):uO (ptD q)=decide (InB 1000 q):=by
 show (decide (-1000≤q.1∧q.1≤1000)&&decide (-1000≤q.2∧q.2≤1000))=_;rw[← Bool.decide_and];exact decide_eq_decide.mpr ⟨λh=>⟨h.1.1,h.1.2,h.2.1,h.2.2⟩,λh=>⟨⟨h.1,h.2.1⟩,h.2.2.1,h.2.2.2⟩⟩
def bX (c:Cl){d:D}(S:Sto)(h:Pn d)(k:uO d=true):S_need_point c [d] S=.ok .non S:=by
 rw[vI];have e:=uK (zP ((yA (F:=S_is_point) (f1:=qB 0) (env:=[Aa d]) (S:=S) rfl).trans (tJ d S h)));rw[k] at e;unfold b_need_point qX;show nY (sIf _ _ _ [Aa d] S)=_;unfold sIf;rw[e];rfl
def nX (c:Cl){d:D}(S:Sto)(h:Pn d)(k:uO d=false):S_need_point c [d] S=.ex (.ref c.NoPoint) .non S:=by
 rw[vI];have e:=uK (zP ((yA (F:=S_is_point) (f1:=qB 0) (env:=[Aa d]) (S:=S) rfl).trans (tJ d S h)));rw[k] at e;unfold b_need_point qX;show nY (sIf _ _ _ [Aa d] S)=_;unfold sIf;rw[e]
 kernel_rfl!
def tY:Ab D:=[.tup [.int 0],.tup [.int 0,.int 0,.int 0],.lst [.int 0,.int 0],.non,.tup [.bl true,.int 0],.tup [.int 0,.non],.tup [.int 1001,.int 0],.tup [.int 0,.int (-1001)],.str "0,0",.int 7,.tup [],.tup [.tup [.int 0,.int 0]]]
def Y1:∀ d∈tY,Pn d∧uO d=false:=by
 intro d hd;simp only[tY,Bb,Cy,Gc] at hd;rcases hd with rfl|rfl|rfl|rfl|rfl|rfl|rfl|rfl|rfl|rfl|rfl|rfl <;> exact⟨⟨_,rfl⟩,by decide⟩
def Q5 (p:Ah)(S:Sto)(h:xG S p):∃ (d:D) (S':Sto),S__law_no_point [.loc p] S=.ok d S'∧Kp p S S'∧Pn d∧uO d=false:=by
 obtain⟨r,S1,c1,k1,_,r0,r1⟩:=xV S p 12 (qB 0) (dC (.int 12)) [Aa (.loc p),Aa (.lst tY)] rfl rfl h om;obtain⟨d,hd,hm⟩:=kT tY r ⟨r0,r1⟩;refine⟨d,S1,?_,k1,Y1 d hm⟩;rw[uJ];refine yZ (env:=[Aa (.loc p),none]) rfl ?_;refine qU (qY (qS (d:=.lst tY) (S:=S) (by kernel_rfl!) ?_))
 simp only[Az,Ay];exact w9 (qS ((qF (a:=.lst tY) rfl c1).trans (uB hd S1)) ⟨rfl,rfl⟩)
def eS (p:Ah)(S:Sto)(h:xG S p):∃ (q:Pt) (S':Sto),S__law_point [.loc p] S=.ok (ptD q) S'∧Kp p S S'∧InB 1000 q:=by
 obtain⟨r,S1,c1,k1,_,r0,r1⟩:=xV S p 3 (qB 0) (dC (.int 3)) [Aa (.loc p),none] rfl rfl h om;obtain⟨d,hd,hm⟩:=kT ([2,12,1000].map D.int) r ⟨r0,by show r<3;exact r1⟩
 obtain⟨wide,hwide,rfl⟩:=Dk.mp hm;have hw:2≤wide∧wide≤1000:=by
  simp only[Bb,Cy,Gc] at hwide;omega
 have hm2:∀ S:Sto,d2 qW (d2 z0 (dC (.int 2)) (qB 1)) (dC (.int 1)) [Aa (.loc p),Aa (.int wide)] S=.ok (.int (2*wide+1)) S:=λS=>(qF ((qF (a:=.int 2) (b:=.int wide) rfl rfl).trans (zN 2 wide S om)) (b:=.int 1) rfl).trans (zM _ _ _);obtain⟨x,S2,c2,k2,_,x0,x1⟩:=xV S1 p (2*wide+1) (qB 0) (d2 qW (d2 z0 (dC (.int 2)) (qB 1)) (dC (.int 1))) [Aa (.loc p),Aa (.int wide)] rfl (hm2 S1) k1.pen om;obtain⟨y,S3,c3,k3,_,y0,y1⟩:=xV S2 p (2*wide+1) (qB 0) (d2 qW (d2 z0 (dC (.int 2)) (qB 1)) (dC (.int 1))) [Aa (.loc p),Aa (.int wide)] rfl (hm2 S2) k2.pen om;refine⟨(x-wide,y-wide),S3,?_,(k1.trans k2).trans k3,?_⟩
 ·rw[jW]
  refine yZ (env:=[Aa (.loc p),none]) rfl ?_;refine qU (qY (qS ((qF (zW (as:=[2,12,1000].map D.int) (zC rfl (zC rfl (zC rfl rfl))) (by show 3≤lim;decide)) c1).trans (uB hd S1)) ?_))
  simp only[Az,Ay];exact w9 (qS (tp ((qF c2 (b:=.int wide) rfl).trans rfl) ((qF c3 (b:=.int wide) rfl).trans rfl)) ⟨rfl,rfl⟩)
 ·refine⟨?_,?_,?_,?_⟩ <;> dsimp only <;> omega
def T1:Ah→Ai
 |0=>0
 |n+1=>T1 n+((n:Ai)+1)
def T2:Ah→Ai
 |0=>0
 |n+1=>T2 n+((n:Ai)+1)*((n:Ai)+1)
def sA:∀ n:Ah,2*T1 n=(n:Ai)*((n:Ai)+1)
 |0=>rfl
 |n+1=>by
  have ih:=sA n;rw[T1,Mt,Wd];generalize (n:Ai)=m at *
  grind
def o4:∀ n:Ah,6*T2 n=(n:Ai)*((n:Ai)+1)*(2*(n:Ai)+1)
 |0=>rfl
 |n+1=>by
  have ih:=o4 n;rw[T2,Mt,Wd];generalize (n:Ai)=m at *
  grind
def ms (w h:Ai)(L:Ah):Ai:=w*h*T1 L-(w+h)*T2 L+T1 L*T1 L
def PN (w h:Ai)(L:Ah):ms w h (L+1)=ms w h L+((L:Ai)+1)*(w-((L:Ai)+1))*(h-((L:Ai)+1)):=by
 have e:=sA L;unfold ms;rw[T1,T2];generalize (L:Ai)=k at *
 grind
def NH (w h:Ai):∀ L:Ah,((By L).map λ(i:Ah)=>(1+(i:Ai))*(w-(1+(i:Ai)))*(h-(1+(i:Ai)))).sum=ms w h L
 |0=>by
  unfold ms T1 T2;simp
 |L+1=>by
  rw[Wc,IU,List.sum_append,NH w h L,PN];simp[Int.add_comm 1]
def mn (w h:Ah):Ah:=if h<w then h else w
def i8 (w h:Ah)(S:Sto):jY [.int (w:Ai),.int (h:Ai)] S=.ok (.int (mn w h:Ai)) S:=by
 show Res.ok (D.int (if (h:Ai)<(w:Ai) then (h:Ai) else (w:Ai))) S=_
 unfold mn
 congr 2
 split <;> split <;> omega
def bA (c:Cl)(w h:Ah)(S:Sto)(hw:1≤w∧w≤1000000)(hh:1≤h∧h≤1000000):S_many_squares c [.int (w:Ai),.int (h:Ai)] S=.ok (.int (ms w h (mn w h-1))) S:=by
 obtain⟨L,hL⟩:∃ L,mn w h=L+1:=⟨mn w h-1,by unfold mn;split <;> omega⟩
 have hLb:L≤1000000:=by unfold mn at hL;split at hL <;> omega
 have p6:∀ (env:qD) (S:Sto),d2 xR (dC (.int 10)) (dC (.int 6)) env S=.ok (.int 1000000) S:=λenv S=>(qF rfl rfl).trans (Q4 S);rw[yQ,hL,Kl];have t1:=sA L;have t2:=o4 L;have q1:(L:Ai)*((L:Ai)+1)/2=T1 L:=by rw[← t1];exact Ki _ om
 have q2:(L:Ai)*((L:Ai)+1)*(2*(L:Ai)+1)/6=T2 L:=by rw[← t2];exact Ki _ om
 have b1:0≤(L:Ai)*((L:Ai)+1):=Hd om om;have b2:(L:Ai)*((L:Ai)+1)≤1000000*1000001:=Ht om om om om;have bw:(w:Ai)*(h:Ai)≤1000000*1000000:=Ht om om om om;have bw0:0≤(w:Ai)*(h:Ai):=Hd om om;refine yZ (env:=[Aa (.int (w:Ai)),Aa (.int (h:Ai)),none,none,none,none]) rfl ?_;refine qU (bY (qS ((gJ (a:=.int (w:Ai)) (b:=.int 1) rfl rfl (p6 _ _)).trans (eU (w:Ai) 1 1000000 S c ⟨by omega,by omega⟩)) ?_))
 refine qU (bY (qS ((gJ (a:=.int (h:Ai)) (b:=.int 1) rfl rfl (p6 _ _)).trans (eU (h:Ai) 1 1000000 S c ⟨by omega,by omega⟩)) ?_))
 refine qU (qY (qS (d:=.int (L:Ai)) ((qF ((kU (a:=.int (w:Ai)) (b:=.int (h:Ai)) rfl rfl).trans (i8 w h S)) (b:=.int 1) rfl).trans (show Res.ok (D.int ((mn w h:Ai)-1)) S=.ok (.int (L:Ai)) S by rw[hL];congr 2;omega)) ?_))
 simp only[Az,Ay];have hpl:∀ e3 e4 e5:Al D,d2 z0 (qB 2) (d2 qW (qB 2) (dC (.int 1))) [Aa (.int (w:Ai)),Aa (.int (h:Ai)),Aa (.int (L:Ai)),e3,e4,e5] S=.ok (.int ((L:Ai)*((L:Ai)+1))) S:=λe3 e4 e5=>(qF (a:=.int (L:Ai)) rfl ((qF (a:=.int (L:Ai)) (b:=.int 1) rfl rfl).trans (zM _ _ _))).trans (zN _ _ S ⟨by omega,by omega⟩)
 refine qU (qY (qS (d:=.int (T1 L)) ((qF (hpl _ _ _) (b:=.int 2) rfl).trans ((uX _ 2 S om).trans (by rw[q1]))) ?_))
 simp only[Az,Ay];have h21:d2 qW (d2 z0 (dC (.int 2)) (qB 2)) (dC (.int 1)) [Aa (.int (w:Ai)),Aa (.int (h:Ai)),Aa (.int (L:Ai)),Aa (.int (T1 L)),none,none] S=.ok (.int (2*(L:Ai)+1)) S:=(qF ((qF (a:=.int 2) (b:=.int (L:Ai)) rfl rfl).trans (zN 2 _ S om)) (b:=.int 1) rfl).trans (zM _ _ _);refine qU (qY (qS (d:=.int (T2 L)) ((qF ((qF (hpl _ _ _) h21).trans (zN _ _ S ⟨by omega,by omega⟩)) (b:=.int 6) rfl).trans ((uX _ 6 S om).trans (by rw[q2]))) ?_))
 simp only[Az,Ay];refine qU (qY (qS (d:=.int (T1 L*T1 L)) ((qF (a:=.int (T1 L)) (b:=.int (T1 L)) rfl rfl).trans (zN _ _ S ⟨by omega,by omega⟩)) ?_))
 simp only[Az,Ay];refine w9 (qS (d:=.int (ms w h L)) ((qF ((qF ((qF ((qF (a:=.int (w:Ai)) (b:=.int (h:Ai)) rfl rfl).trans (zN _ _ S ⟨by omega,by omega⟩)) (b:=.int (T1 L)) rfl).trans (zN _ _ S ⟨by omega,by omega⟩)) ((qF ((qF (a:=.int (w:Ai)) (b:=.int (h:Ai)) rfl rfl).trans (zM _ _ _)) (b:=.int (T2 L)) rfl).trans (zN _ _ S ⟨by omega,by omega⟩))).trans rfl) (b:=.int (T1 L*T1 L)) rfl).trans (zM _ _ _)) ⟨rfl,rfl⟩)
def EO (n:Ah)(h:n≤1000000):pD [.int 1,.int ((n:Ai)+1)]=Aa ((By n).map λ(i:Ah)=>D.int (1+(i:Ai))):=by
 unfold pD;dsimp only;rw[Bg ⟨by decide,by decide,by omega,by omega⟩,Int.add_sub_cancel,Gk]
 rfl
def aW (f g:DE)(n:Ah)(env:qD)(S:Sto)(h:n≤1000000)(e1:f env S=.ok (.int 1) S)(e2:g env S=.ok (.int ((n:Ai)+1)) S):w6 (qA f (qA g qC)) env S=.ok ((By n).map λ(i:Ah)=>D.int (1+(i:Ai))) S:=by
 unfold w6;rw[xU e1 e2,Res.bind_ok,EO n h];rfl
def UF (w h:Ah)(S:Sto)(hw:1≤w∧w≤3000)(hh:1≤h∧h≤1000000):S__law_summed [.int (w:Ai),.int (h:Ai)] S=.ok (.int (ms w h (mn w h-1))) S:=by
 obtain⟨L,hL⟩:∃ L,mn w h=L+1:=⟨mn w h-1,by unfold mn;split <;> omega⟩
 have hLb:L+1≤w∧L+1≤h:=by unfold mn at hL;split at hL <;> omega
 rw[jA,hL,Kl];have hm:qH jY (qA (qB 0) (qA (qB 1) (qC))) [Aa (.int (w:Ai)),Aa (.int (h:Ai))] S=.ok (.int ((L:Ai)+1)) S:=by
  refine((kU (a:=.int (w:Ai)) (b:=.int (h:Ai)) rfl rfl).trans (i8 w h S)).trans ?_;rw[hL];rfl
 have hit:wD (w6 (qA (dC (.int 1)) (qA (qH jY (qA (qB 0) (qA (qB 1) (qC)))) (qC)))) [Aa (.int (w:Ai)),Aa (.int (h:Ai))] S=.ok (none,(By L).map λ(i:Ah)=>D.int (1+(i:Ai))) S:=by
  unfold wD;rw[aW _ _ L _ S om rfl hm,Res.bind_ok]
 have hc:=kX (enc:=λ(i:Ah)=>D.int (1+(i:Ai))) (cap:=[none,Aa 1,Aa 0]) (g:=gNm 0) (t:=w8) (fe:=d2 z0 (d2 z0 (qB 0) (d2 zJ (qB 2) (qB 0))) (d2 zJ (qB 1) (qB 0))) hit trivial (λ_=>true) (λ(i:Ah)=>D.int ((1+(i:Ai))*(w-(1+(i:Ai)))*(h-(1+(i:Ai))))) (λenv=>∃ a,env=[a,Aa (.int (h:Ai)),Aa (.int (w:Ai))]) ⟨none,rfl⟩ (by rw[Lb];unfold lim;omega)
  (λi hi env ⟨a,e⟩=>by
   subst e;have hi:=Dy.mp hi;refine⟨[Aa (.int (1+(i:Ai))),Aa (.int (h:Ai)),Aa (.int (w:Ai))],rfl,⟨_,rfl⟩,rfl,λ_=>?_⟩;have b1:0≤(1+(i:Ai))*(w-(1+(i:Ai))):=Hd om om;have b2:(1+(i:Ai))*(w-(1+(i:Ai)))≤3000*3000:=Ht om om om om;exact(qF ((qF (a:=.int (1+(i:Ai))) (b:=.int ((w:Ai)-(1+(i:Ai)))) rfl rfl).trans (zN _ _ S ⟨by omega,by omega⟩)) (b:=.int ((h:Ai)-(1+(i:Ai)))) rfl).trans (zN _ _ S ⟨by omega,by omega⟩))
 rw[vF] at hc;have hs:rP [.lst ((By L).map λ(i:Ah)=>D.int ((1+(i:Ai))*(w-(1+(i:Ai)))*(h-(1+(i:Ai)))))] S=.ok (.int (ms w h L)) S:=by
  rw[← NH w h L];have e:((By L).map λ(i:Ah)=>D.int ((1+(i:Ai))*(w-(1+(i:Ai)))*(h-(1+(i:Ai)))))=((By L).map λ(i:Ah)=>(1+(i:Ai))*(w-(1+(i:Ai)))*(h-(1+(i:Ai)))).map D.int:=by rw[II];rfl
  rw[e];show (match wC (((By L).map λ(i:Ah)=>(1+(i:Ai))*(w-(1+(i:Ai)))*(h-(1+(i:Ai)))).map D.int) with|some ns=>Res.ok (D.int ns.sum) S|none=>.bad)=_
  rw[lY]
 exact BV rfl ((vK hc).trans hs)
def J3 (w h a b:Ai):Ai:=(if 0<w-a-b then w-a-b else 0)*(if 0<h-a-b then h-a-b else 0)
def oG (w h a:Ai)(bs:Ab Ah)(s:Ai):Ai:=bs.foldl (λs (b:Ah)=>s+J3 w h a (b:Ai)) s
def rA (w h:Ai)(bs:Ab Ah)(as:Ab Ah)(s:Ai):Ai:=as.foldl (λs (a:Ah)=>oG w h (1+(a:Ai)) bs s) s
def KE:∀ w,w<6→∀ h,h<6→rA ((w+1:Ah):Ai) ((h+1:Ah):Ai) (By (w+1+(h+1))) (By (w+1+h)) 0=ms ((w+1:Ah):Ai) ((h+1:Ah):Ai) (mn (w+1) (h+1)-1):=kd
def i7 (x:Ai)(S:Sto):bO [.int 0,.int x] S=.ok (.int (if 0<x then x else 0)) S:=rfl
def WB (w h:Ah)(S:Sto)(hw:1≤w∧w≤6)(hh:1≤h∧h≤6):S__law_counted [.int (w:Ai),.int (h:Ai)] S=.ok (.int (ms w h (mn w h-1))) S:=by
 have hall:=KE (w-1) om (h-1) om;rw[show w-1+1=w by omega,show h-1+1=h by omega] at hall
 rw[← hall,uR];refine yZ (env:=[Aa (.int (w:Ai)),Aa (.int (h:Ai)),none,none,none]) rfl ?_;refine qU (qY (qS (d:=.int 0) (S:=S) rfl ?_));simp only[Az,Ay];have hs:∀ e2 e3 e4:Al D,d2 qW (qB 0) (qB 1) [Aa (.int (w:Ai)),Aa (.int (h:Ai)),e2,e3,e4] S=.ok (.int ((w+h:Ah):Ai)) S:=λe2 e3 e4=>((qF (a:=.int (w:Ai)) (b:=.int (h:Ai)) rfl rfl).trans (zM _ _ _)).trans (by rw[Mt])
 refine qU (yY (aW _ _ (w+(h-1)) _ S om rfl ((hs _ _ _).trans (by rw[show ((w+h:Ah):Ai)=((w+(h-1):Ah):Ai)+1 by omega]))) ?_)
 refine wQ (λds env S'=>∃ (as:Ab Ah) (s:Ai) (e3 e4:Al D),ds=(as.map λ(i:Ah)=>D.int (1+(i:Ai)))∧(∀ a∈as,a<12)∧env=[Aa (.int (w:Ai)),Aa (.int (h:Ai)),Aa (.int s),e3,e4]∧S'=S∧rA w h (By (w+h)) as s=rA w h (By (w+h)) (By (w+(h-1))) 0) ?_ ?_ ⟨By (w+(h-1)),0,none,none,rfl,λa ha=>by have:=Dy.mp ha;omega,rfl,rfl,rfl⟩
 ·rintro d ds env S' ⟨as,s,e3,e4,hds,hb,rfl,rfl,hc⟩
  cases as with
  |nil=>cases hds
  |cons a as =>
   injection hds with h1 h2
   subst h1 h2;have ha:=hb a (Ct ..);refine⟨[Aa (.int (w:Ai)),Aa (.int (h:Ai)),Aa (.int s),Aa (.int (1+(a:Ai))),e4],S',rfl,?_⟩;refine yY (j0 _ (w+h) _ _ S' om (hs _ _ _)) ?_;refine wQ (λds env S''=>∃ (bs:Ab Ah) (t:Ai) (e4:Al D),ds=(bs.map λ(i:Ah)=>D.int (i:Ai))∧(∀ b∈bs,b<13)∧env=[Aa (.int (w:Ai)),Aa (.int (h:Ai)),Aa (.int t),Aa (.int (1+(a:Ai))),e4]∧S''=S'∧oG w h (1+(a:Ai)) bs t=oG w h (1+(a:Ai)) (By (w+h)) s) ?_ ?_ ⟨By (w+h),s,e4,rfl,λa ha=>by have:=Dy.mp ha;omega,rfl,rfl,rfl⟩
   ·rintro d ds env S'' ⟨bs,t,e4,hds,hb,rfl,rfl,hc⟩
    cases bs with
    |nil=>cases hds
    |cons b bs =>
     injection hds with h1 h2
     subst h1 h2;have hb':=hb b (Ct ..);refine⟨[Aa (.int (w:Ai)),Aa (.int (h:Ai)),Aa (.int t),Aa (.int (1+(a:Ai))),Aa (.int (b:Ai))],S'',rfl,?_⟩;refine qY (qS (d:=.int (t+J3 w h (1+(a:Ai)) b)) ((qF (a:=.int t) rfl ((qF ((kU (a:=.int 0) (b:=.int ((w:Ai)-(1+(a:Ai))-(b:Ai))) rfl rfl).trans (i7 _ _)) ((kU (a:=.int 0) (b:=.int ((h:Ai)-(1+(a:Ai))-(b:Ai))) rfl rfl).trans (i7 _ _))).trans (zN _ _ _ ?_))).trans (zM _ _ _)) ?_)
     ·split <;> omega
     ·exact⟨bs,_,_,rfl,λb hb0=>hb b (Bu _ hb0),rfl,rfl,hc⟩
   ·rintro env S'' ⟨bs,t,e4,hds,_,rfl,rfl,hc'⟩
    cases bs with
    |cons _ _=>cases hds
    |nil =>
     refine⟨as,t,_,_,rfl,λb hb0=>hb b (Bu _ hb0),rfl,rfl,?_⟩;rw[← hc];show rA w h (By (w+h)) as t=rA w h (By (w+h)) as (oG w h (1+(a:Ai)) (By (w+h)) s);rw[← hc'];rfl
 ·rintro env S' ⟨as,s,e3,e4,hds,_,rfl,rfl,hc⟩
  cases as with
  |cons _ _=>cases hds
  |nil=>exact w9 (qS (d:=.int s) rfl ⟨by rw[← hc];rfl,rfl⟩)
def RX (g:Ah)(hg:1≤g):ms g g (mn g g-1)=(g:Ai)*(g:Ai)*((g:Ai)*(g:Ai)-1)/12:=by
 have hm:mn g g=g:=by unfold mn;simp
 obtain⟨L,rfl⟩:∃ L,g=L+1:=⟨g-1,by omega⟩
 rw[hm,Kl];have t1:=sA L;have t2:=o4 L;unfold ms;have e0:((L+1:Ah):Ai)=(L:Ai)+1:=by omega
 rw[e0];have key:∀ m u v:Ai,2*u=m*(m+1)→6*v=m*(m+1)*(2*m+1)→12*((m+1)*(m+1)*u-((m+1)+(m+1))*v+u*u)=(m+1)*(m+1)*((m+1)*(m+1)-1):=λm u v h1 h2=>by grind
 rw[← key _ _ _ t1 t2];exact(Ki _ om).symm
def tK (c:Cl)(nd:(xF c).Nodup)(S:Sto):S__law_kinds c [.exn (.ref c.NoPoint)] S=.ok (.str "point") S:=by
 have mN:c.NoPoint∈xF c:=.head _;rw[vH];refine yZ (env:=[Aa (.exn (.ref c.NoPoint)),none,none]) rfl ?_;refine qU (qY (qS (pT (wF (zY (env:=[Aa (.exn (.ref c.NoPoint)),none,none]) rfl mN (.head _) (Ff _)) (wF (zY (env:=[Aa (.exn (.ref c.NoPoint)),none,none]) rfl mN (.tail _ (.head _)) (xA (i:=0) (j:=1) nd rfl rfl (by decide))) (wF (zY (env:=[Aa (.exn (.ref c.NoPoint)),none,none]) rfl mN (.tail _ (.tail _ (.head _))) (xA (i:=0) (j:=2) nd rfl rfl (by decide))) rfl))) (by decide)) ?_))
 refine qU (qY (qS ((nN (a:=.lst [.bl true,.bl false,.bl false]) rfl (pT (wF (zY (env:=[Aa (.exn (.ref c.NoPoint)),Aa (.lst [.bl true,.bl false,.bl false]),none]) rfl mN (.tail _ (.tail _ (.tail _ (.head _)))) (xA (i:=0) (j:=3) nd rfl rfl (by decide))) (wF (zY (env:=[Aa (.exn (.ref c.NoPoint)),Aa (.lst [.bl true,.bl false,.bl false]),none]) rfl mN (.tail _ (.tail _ (.tail _ (.tail _ (.head _))))) (xA (i:=0) (j:=4) nd rfl rfl (by decide))) (wF (zY (env:=[Aa (.exn (.ref c.NoPoint)),Aa (.lst [.bl true,.bl false,.bl false]),none]) rfl mN (.tail _ (.tail _ (.tail _ (.tail _ (.tail _ (.head _)))))) (xA (i:=0) (j:=5) nd rfl rfl (by decide))) rfl))) (by decide))).trans (c:=.ok (.lst [.bl true,.bl false,.bl false,.bl false,.bl false,.bl false]) S) (by kernel_rfl!)) ?_))
 refine qU (qY (qS ((nN (a:=.lst [.bl true,.bl false,.bl false,.bl false,.bl false,.bl false]) rfl (pT (wF (zY (env:=[Aa (.exn (.ref c.NoPoint)),Aa (.lst [.bl true,.bl false,.bl false,.bl false,.bl false,.bl false]),none]) rfl mN (.tail _ (.tail _ (.tail _ (.tail _ (.tail _ (.tail _ (.head _))))))) (xA (i:=0) (j:=6) nd rfl rfl (by decide))) (wF (zY (env:=[Aa (.exn (.ref c.NoPoint)),Aa (.lst [.bl true,.bl false,.bl false,.bl false,.bl false,.bl false]),none]) rfl mN (.tail _ (.tail _ (.tail _ (.tail _ (.tail _ (.tail _ (.tail _ (.head _)))))))) (xA (i:=0) (j:=7) nd rfl rfl (by decide))) (wF (zY (env:=[Aa (.exn (.ref c.NoPoint)),Aa (.lst [.bl true,.bl false,.bl false,.bl false,.bl false,.bl false]),none]) rfl mN (.tail _ (.tail _ (.tail _ (.tail _ (.tail _ (.tail _ (.tail _ (.tail _ (.head _))))))))) (xA (i:=0) (j:=8) nd rfl rfl (by decide))) rfl))) (by decide))).trans (c:=.ok (.lst [.bl true,.bl false,.bl false,.bl false,.bl false,.bl false,.bl false,.bl false,.bl false]) S) (by kernel_rfl!)) ?_))
 refine qU (qY (qS ((nN (a:=.lst [.bl true,.bl false,.bl false,.bl false,.bl false,.bl false,.bl false,.bl false,.bl false]) rfl (pT (wF (zY (env:=[Aa (.exn (.ref c.NoPoint)),Aa (.lst [.bl true,.bl false,.bl false,.bl false,.bl false,.bl false,.bl false,.bl false,.bl false]),none]) rfl mN (.tail _ (.tail _ (.tail _ (.tail _ (.tail _ (.tail _ (.tail _ (.tail _ (.tail _ (.head _)))))))))) (xA (i:=0) (j:=9) nd rfl rfl (by decide))) (wF (zY (env:=[Aa (.exn (.ref c.NoPoint)),Aa (.lst [.bl true,.bl false,.bl false,.bl false,.bl false,.bl false,.bl false,.bl false,.bl false]),none]) rfl mN (.tail _ (.tail _ (.tail _ (.tail _ (.tail _ (.tail _ (.tail _ (.tail _ (.tail _ (.tail _ (.head _))))))))))) (xA (i:=0) (j:=10) nd rfl rfl (by decide))) rfl)) (by decide))).trans (c:=.ok (.lst [.bl true,.bl false,.bl false,.bl false,.bl false,.bl false,.bl false,.bl false,.bl false,.bl false,.bl false]) S) (by kernel_rfl!)) ?_))
 refine qU (xO (b:=false) (S1:=S) (Q2 (JM (lI (JC (env:=[Aa (.exn (.ref c.NoPoint)),Aa (.lst [.bl true,.bl false,.bl false,.bl false,.bl false,.bl false,.bl false,.bl false,.bl false,.bl false,.bl false]),none]) rfl mN))) (by kernel_rfl!)) (xJ (env:=[Aa (.exn (.ref c.NoPoint)),Aa (.lst [.bl true,.bl false,.bl false,.bl false,.bl false,.bl false,.bl false,.bl false,.bl false,.bl false,.bl false]),none]) (S:=S) rfl ?_))
 refine qU (xO (lI (zY (env:=[Aa (.exn (.ref c.NoPoint)),Aa (.lst [.bl true,.bl false,.bl false,.bl false,.bl false,.bl false,.bl false,.bl false,.bl false,.bl false,.bl false]),none]) rfl mN (.tail _ (.tail _ (.tail _ (.tail _ (.tail _ (.tail _ (.tail _ (.tail _ (.tail _ (.head _)))))))))) (xA (i:=0) (j:=9) nd rfl rfl (by decide)))) (xJ (env:=[Aa (.exn (.ref c.NoPoint)),Aa (.lst [.bl true,.bl false,.bl false,.bl false,.bl false,.bl false,.bl false,.bl false,.bl false,.bl false,.bl false]),none]) (S:=S) rfl ?_))
 refine qU (xO (lI (zY (env:=[Aa (.exn (.ref c.NoPoint)),Aa (.lst [.bl true,.bl false,.bl false,.bl false,.bl false,.bl false,.bl false,.bl false,.bl false,.bl false,.bl false]),none]) rfl mN (.tail _ (.tail _ (.tail _ (.tail _ (.tail _ (.tail _ (.tail _ (.tail _ (.tail _ (.tail _ (.head _))))))))))) (xA (i:=0) (j:=10) nd rfl rfl (by decide)))) (xJ (env:=[Aa (.exn (.ref c.NoPoint)),Aa (.lst [.bl true,.bl false,.bl false,.bl false,.bl false,.bl false,.bl false,.bl false,.bl false,.bl false,.bl false]),none]) (S:=S) rfl ?_))
 exact JT (d:=.str "point") (S:=S) (by kernel_rfl!) ⟨rfl,rfl⟩
def CF {a:Ad}{cv:Ab _L.V}{G:Ab D→DF}(h:env[i]? = Aa (Aa (.clo a cv caps))):gN i (qC) a cv 0 G env S=G caps [] S:=by
 unfold gN;rw[h];show (if a=a∧cv=cv then _ else _)=_
 rw[Bg ⟨rfl,rfl⟩];rfl
def sY {nx:Ap}{cap:Ab Ah}{N:Ah}{g:Ad→Ab _L.V→DS}{R:Res D}(h:gK cap env=Aa caps)(e:∀ a cv,qX N (g a cv) [.clo a cv caps] S=R)(hR:exO nx R=R) :
  wW nx cap 1 N (qC) g env S=R:=by
 unfold wW;rw[h];show (if 0+1=1 then exO nx (uni λa cv=>qX N (g a cv) [.clo a cv caps] S) else .bad)=_
 rw[Bg rfl,SU e,hR]
def WC (c:Cl){C:Ad}{wd:Ar}(hC:(kW c).contains (.ref C)=true)(hk:∀ S,S__law_kinds c [.exn (.ref C)] S=.ok (.str wd) S)(G:Ab D→DF)(caps:Ab D)(S:Sto)(x:D)(h:G caps [] S=.ex (.ref C) x S)(a:Ad)(cv:Ab _L.V):qX 2 (b__law_refused c G a cv) [.clo a cv caps] S=.ok (.str wd) S:=by
 have e:gN 0 (qC) a cv 0 G [Aa (.clo a cv caps),none] S=.ex (.ref C) x S:=(CF rfl).trans h;refine jQ (env:=[Aa (.clo a cv caps),none]) rfl ?_;unfold b__law_refused;have k:mC 2 1 (kW c) (zR (gN 0 (qC) a cv 0 G)) (zA (qE 1 (S__law_kinds c) (qA (qB 1) (qC)))) [Aa (.clo a cv caps),none] S=.rt (.str wd) S:=by
  unfold mC zR;rw[e];simp only[Res.toS,hC,Dc];have z:qE 1 (S__law_kinds c) (qA (qB 1) (qC)) ((Hr 2 none).set 1 (Aa (.exn (.ref C)))) S=.ok (.str wd) S:=(yA rfl).trans (hk S);simp only[zA,z,Res.toS]
 unfold qL;rw[k]
def DU (c:Cl)(nd:(xF c).Nodup)(G:Ab D→DF)(caps:Ab D)(S:Sto)(x:D)(h:G caps [] S=.ex (.ref c.NoNumber) x S)(a:Ad)(cv:Ab _L.V):qX 2 (b__law_refused c G a cv) [.clo a cv caps] S=.ok (.str "number") S:=WC c (by rw[Eu];simp[kW]) (m9 c nd) G caps S x h a cv
def WD (c:Cl)(nd:(xF c).Nodup)(G:Ab D→DF)(caps:Ab D)(S:Sto)(x:D)(h:G caps [] S=.ex (.ref c.NoPoint) x S)(a:Ad)(cv:Ab _L.V):qX 2 (b__law_refused c G a cv) [.clo a cv caps] S=.ok (.str "point") S:=WC c (by rw[Eu];simp[kW]) (tK c nd) G caps S x h a cv
def NI (S:Sto):gNe (.str "number") (.str "number") S=.ok (.bl false) S:=by kernel_rfl!
def JK (S:Sto):gNe (.str "point") (.str "point") S=.ok (.bl false) S:=by kernel_rfl!
def mP {f:DE}{v:Ac}{x:D}(h:f env S=.ex v x S'):qL (zR f) g env S=.ex v x env S':=by
 simp only[qL,zR,h,Res.toS]
def gB {f:DE}{x:D}(h:f env S=.ok x S'):qL (zR f) g env S=g env S':=by
 simp only[qL,zR,h,Res.toS]
def bB {n:Ah}{v:Ac}{x:D}{env':qD}(hs:v3 n ds=env)(h:g env S=.ex v x env' S'):qX n g ds S=.ex v x S':=by
 subst hs;unfold qX;rw[h];rfl
def bC {f:DS}{env1:qD}(h:f env S=.nx env1 S1):qL f g env S=g env1 S1:=by
 unfold qL;rw[h]
def sR {f:DE}{d:D}(h:f env S=.ok d S1):qT f (gNm i) env S=.nx (env.set i (Aa d)) S1:=by
 simp only[qT,h,Res.toS,gNm]
def JJ:oZ 1 1000000=true:=kd
inductive No2 (a b:D):Prop
 |one (h:gI 1 1000000 a)
 |two (w:Ai) (ea:a=.int w) (hw:1≤w∧w≤1000000) (h:gI 1 1000000 b)
def PQ (c:Cl)(a b:D)(S:Sto)(h:No2 a b):S_many_squares c [a,b] S=.ex (.ref c.NoNumber) .non S:=by
 have p6:∀ (env:qD) (S:Sto),d2 xR (dC (.int 10)) (dC (.int 6)) env S=.ok (.int 1000000) S:=λenv S=>(qF rfl rfl).trans (Q4 S);rw[yQ];refine bB (env:=[Aa a,Aa b,none,none,none,none]) (env':=[Aa a,Aa b,none,none,none,none]) rfl ?_;unfold b_many_squares;cases h with
 |one h=>exact mP ((gJ (a:=a) (b:=.int 1) rfl rfl (p6 _ _)).trans (dH a 1 1000000 S c JJ h))
 |two w ea hw h =>
  subst ea;rw[gB ((gJ (a:=.int w) (b:=.int 1) rfl rfl (p6 _ _)).trans (eU w 1 1000000 S c hw))];exact mP ((gJ (a:=b) (b:=.int 1) rfl rfl (p6 _ _)).trans (dH b 1 1000000 S c JJ h))
def crn (p q:Pt):Ab Pt:=[p,q,(p.1-(q.2-p.2),p.2+(q.1-p.1)),(q.1-(q.2-p.2),q.2+(q.1-p.1))]
def sqr (p q:Pt):Al (Ab Pt):=if p=q then none else if (crn p q).all (λz=>decide (InB 1000 z)) then Aa (kM (crn p q)) else none
def sqD (p q:Pt):D:=match sqr p q with
 |some l=>yS l
 |none=>.non
def J8 (p q:Pt)(S:Sto):gEq (ptD p) (ptD q) S=.ok (.bl (decide (p=q))) S:=by
 have h:gEq (ptD p) (ptD q) S=.ok (.bl (p.1 == q.1&&(p.2 == q.2&&true))) S:=by kernel_rfl!
 rw[h]
 congr 2
 rw[Bool.eq_iff_iff];simp[Prod.ext_iff]
def ix0 (p:Pt)(S:Sto):gIx (ptD p) (.int 0) S=.ok (.int p.1) S:=rfl
def ix1 (p:Pt)(S:Sto):gIx (ptD p) (.int 1) S=.ok (.int p.2) S:=rfl
def dA (c:Cl)(S:Sto)(a b x y z:Al D):∀ (qs:Ab Pt) (e:Al D),(qs.all (λz=>decide (InB 1000 z))=true→∃ e',x8 (gNm 5) (zR (qE 1 (S_need_point c) (qA (qB 5) (qC)))) (qs.map ptD) [a,b,x,y,z,e] S=.nx [a,b,x,y,z,e'] S)∧(qs.all (λz=>decide (InB 1000 z))=false→∃ e',x8 (gNm 5) (zR (qE 1 (S_need_point c) (qA (qB 5) (qC)))) (qs.map ptD) [a,b,x,y,z,e] S=.ex (.ref c.NoPoint) .non [a,b,x,y,z,e'] S)
 |[],e=>⟨λ_=>⟨e,rfl⟩,λh=>by cases h⟩
 |q::qs,e=>by
  rw[Jt];have ih:=dA c S a b x y z qs (Aa (ptD q));have call:qE 1 (S_need_point c) (qA (qB 5) (qC)) [a,b,x,y,z,Aa (ptD q)] S=S_need_point c [ptD q] S:=yA rfl;by_cases hq:InB 1000 q
  ·have hn:=call.trans (bX c S (tG q) (by rw[uZ];exact Cs hq))
   have st:∀ R,x8 (gNm 5) (zR (qE 1 (S_need_point c) (qA (qB 5) (qC)))) (qs.map ptD) [a,b,x,y,z,Aa (ptD q)] S=R→x8 (gNm 5) (zR (qE 1 (S_need_point c) (qA (qB 5) (qC)))) ((q::qs).map ptD) [a,b,x,y,z,e] S=R:=λR h=>by
    rw[Dt,x8];simp only[gNm,Res.toS,Az,Ay,zR,hn];exact h
   rw[Cs hq,Sh];exact⟨λh=>by obtain⟨e',q'⟩:=ih.1 h;exact⟨e',st _ q'⟩,λh=>by obtain⟨e',q'⟩:=ih.2 h;exact⟨e',st _ q'⟩⟩
  ·have hn:=call.trans (nX c S (tG q) (by rw[uZ];exact Cn hq))
   rw[Cn hq,Jc];refine⟨(λh=>by cases h),λ_=>⟨Aa (ptD q),?_⟩⟩
   rw[Dt,x8];simp only[gNm,Res.toS,Az,Ay,zR,hn]
def CG {p q:Pt}{e4 e5:Al D}:qQ (qA (d2 zJ (d2 gIx (qB 0) (dC (.int 0))) (qB 3)) (qA (d2 qW (d2 gIx (qB 0) (dC (.int 1))) (qB 2)) (qC))) (Aa (ptD p)::Aa (ptD q)::Aa (.int (q.1-p.1))::Aa (.int (q.2-p.2))::e4::e5::[]) S=.ok (ptD (p.1-(q.2-p.2),p.2+(q.1-p.1))) S:=tp ((qF ((qF (a:=ptD p) (b:=.int 0) rfl rfl).trans (ix0 p S)) (b:=.int (q.2-p.2)) rfl).trans rfl) ((qF ((qF (a:=ptD p) (b:=.int 1) rfl rfl).trans (ix1 p S)) (b:=.int (q.1-p.1)) rfl).trans (zM _ _ _))
def eV (c:Cl)(p q:Pt)(S:Sto)(hp:InB 1000 p)(hq:InB 1000 q):S_square_at c [ptD p,ptD q] S=match sqr p q with|some l=>.ok (yS l) S|none=>.ex (.ref c.NoPoint) .non S:=by
 rw[yK];have n1:∀ e2 e3 e4 e5:Al D,qE 1 (S_need_point c) (qA (qB 0) (qC)) [Aa (ptD p),Aa (ptD q),e2,e3,e4,e5] S=.ok .non S:=λe2 e3 e4 e5=>(yA (a:=ptD p) rfl).trans (bX c S (tG p) (by rw[uZ];exact Cs hp))
 have n2:∀ e2 e3 e4 e5:Al D,qE 1 (S_need_point c) (qA (qB 1) (qC)) [Aa (ptD p),Aa (ptD q),e2,e3,e4,e5] S=.ok .non S:=λe2 e3 e4 e5=>(yA (a:=ptD q) rfl).trans (bX c S (tG q) (by rw[uZ];exact Cs hq))
 have t:=zP ((qF (o:=gEq) (f:=qB 0) (g:=qB 1) (env:=[Aa (ptD p),Aa (ptD q),none,none,none,none]) (S:=S) (a:=ptD p) (b:=ptD q) rfl rfl).trans (J8 p q S));unfold sqr;by_cases hpq:p=q
 ·rw[Bg hpq]
  rw[Cs hpq] at t;refine bB (env:=[Aa (ptD p),Aa (ptD q),none,none,none,none]) (env':=[Aa (ptD p),Aa (ptD q),none,none,none,none]) rfl ?_;unfold b_square_at;rw[gB (n1 _ _ _ _),gB (n2 _ _ _ _)];have e:sIf (dTr (d2 gEq (qB 0) (qB 1))) (vU (.ref c.NoPoint) (qA (dC (.str "two unlike points are needed")) (qC))) (zH) [Aa (ptD p),Aa (ptD q),none,none,none,none] S=.ex (.ref c.NoPoint) .non [Aa (ptD p),Aa (ptD q),none,none,none,none] S:=by
   unfold sIf;rw[t]
   kernel_rfl!
  unfold qL;rw[e]
 ·rw[Bc hpq]
  rw[Cn hpq] at t;have e0:sIf (dTr (d2 gEq (qB 0) (qB 1))) (vU (.ref c.NoPoint) (qA (dC (.str "two unlike points are needed")) (qC))) (zH) [Aa (ptD p),Aa (ptD q),none,none,none,none] S=.nx [Aa (ptD p),Aa (ptD q),none,none,none,none] S:=by
   unfold sIf;rw[t];rfl
  have e1:d2 zJ (d2 gIx (qB 1) (dC (.int 0))) (d2 gIx (qB 0) (dC (.int 0))) [Aa (ptD p),Aa (ptD q),none,none,none,none] S=.ok (.int (q.1-p.1)) S:=rfl;have e2:d2 zJ (d2 gIx (qB 1) (dC (.int 1))) (d2 gIx (qB 0) (dC (.int 1))) [Aa (ptD p),Aa (ptD q),Aa (.int (q.1-p.1)),none,none,none] S=.ok (.int (q.2-p.2)) S:=rfl;have l4:4≤lim:=by decide
  have e3:zL (qA (qB 0) (qA (qB 1) (qA (qQ (qA (d2 zJ (d2 gIx (qB 0) (dC (.int 0))) (qB 3)) (qA (d2 qW (d2 gIx (qB 0) (dC (.int 1))) (qB 2)) (qC)))) (qA (qQ (qA (d2 zJ (d2 gIx (qB 1) (dC (.int 0))) (qB 3)) (qA (d2 qW (d2 gIx (qB 1) (dC (.int 1))) (qB 2)) (qC)))) (qC))))) [Aa (ptD p),Aa (ptD q),Aa (.int (q.1-p.1)),Aa (.int (q.2-p.2)),none,none] S=.ok (.lst ((crn p q).map ptD)) S:=zW (as:=(crn p q).map ptD) (zC rfl (zC rfl (zC CG (zC (tp ((qF ((qF (a:=ptD q) (b:=.int 0) rfl rfl).trans (ix0 q S)) (b:=.int (q.2-p.2)) rfl).trans rfl) ((qF ((qF (a:=ptD q) (b:=.int 1) rfl rfl).trans (ix1 q S)) (b:=.int (q.1-p.1)) rfl).trans (zM _ _ _))) rfl)))) l4;have chain:∀ R,qL (wR (xZ (qB 4)) (gNm 5) (zR (qE 1 (S_need_point c) (qA (qB 5) (qC))))) (zA (qH jF (qA (qH u7 (qA (qB 4) (qC))) (qC)))) [Aa (ptD p),Aa (ptD q),Aa (.int (q.1-p.1)),Aa (.int (q.2-p.2)),Aa (.lst ((crn p q).map ptD)),none] S=R→b_square_at c [Aa (ptD p),Aa (ptD q),none,none,none,none] S=R:=λR h=>by
   unfold b_square_at;rw[gB (n1 _ _ _ _),gB (n2 _ _ _ _),bC e0,bC (sR e1)];simp only[Az,Ay];rw[bC (sR e2)];simp only[Az,Ay];rw[bC (sR e3)];simp only[Az,Ay];exact h
  have lp:=dA c S (Aa (ptD p)) (Aa (ptD q)) (Aa (.int (q.1-p.1))) (Aa (.int (q.2-p.2))) (Aa (.lst ((crn p q).map ptD))) (crn p q) none;have hf:∀ R,x8 (gNm 5) (zR (qE 1 (S_need_point c) (qA (qB 5) (qC)))) ((crn p q).map ptD) [Aa (ptD p),Aa (ptD q),Aa (.int (q.1-p.1)),Aa (.int (q.2-p.2)),Aa (.lst ((crn p q).map ptD)),none] S=R→wR (xZ (qB 4)) (gNm 5) (zR (qE 1 (S_need_point c) (qA (qB 5) (qC)))) [Aa (ptD p),Aa (ptD q),Aa (.int (q.1-p.1)),Aa (.int (q.2-p.2)),Aa (.lst ((crn p q).map ptD)),none] S=R:=λR h=>h;cases ha:(crn p q).all (λz=>decide (InB 1000 z)) with
  |true =>
   obtain⟨e',q'⟩:=lp.1 ha;rw[Bg rfl];refine jQ rfl (chain _ ?_);rw[bC (hf _ q')];have:=mF (pE (f:=qB 4) (env:=[Aa (ptD p),Aa (ptD q),Aa (.int (q.1-p.1)),Aa (.int (q.2-p.2)),Aa (.lst ((crn p q).map ptD)),e']) (S:=S) (ps:=crn p q) rfl (by show 4≤100000;omega))
   simp only[zA,this,Res.toS];rfl
  |false =>
   obtain⟨e',q'⟩:=lp.2 ha;rw[Bc Ea];refine bB (env':=[Aa (ptD p),Aa (ptD q),Aa (.int (q.1-p.1)),Aa (.int (q.2-p.2)),Aa (.lst ((crn p q).map ptD)),e']) rfl (chain _ ?_);unfold qL;rw[hf _ q']
def r8 (j:Ah)(i:Ai)(env:qD)(S:Sto)(h:env[j]? = Aa (Aa (.int i))):wI gLe gLe (d1 yR (dC (.int 1000))) (qB j) (dC (.int 1000)) env S=.ok (.bl (decide (-1000≤i∧i≤1000))) S:=by
 have e:d1 yR (dC (.int 1000)) env S=.ok (.int (-1000)) S:=rfl;unfold wI;rw[e,Res.bind_ok,wB h];simp[qX,v3,B0,AO,PZ,qL,sIf,zA,zH,zR,qT,gNm,gSb,gTp,zD,xS,jR,CY,IA,dC,qB,d1,d2,qA,qC,qH,qE,dTr,xB,vM,yM,w8,n6,YG,wI,qQ,zL,vL,dBm,dSl,vN,AR,xZ,w6,Res.bind,Res.toS,_D.kL,_D.vT,AU,AQ,bH,AY,AV,AW,cG,cE,AN,AM,AS,gLt,gLe,gGt,gGe,_D.zJ,AX,Res.bind];by_cases h:(-1000:Ai)≤i <;> simp[h]
abbrev b9:DS:=sIf (vM (xB (dTr (wI gLe gLe (d1 yR (dC (.int 1000))) (qB 5) (dC (.int 1000))))) (xB (dTr (wI gLe gLe (d1 yR (dC (.int 1000))) (qB 6) (dC (.int 1000)))))) (zA (dC .non)) (zH)
def L8 (q:Pt)(a b x y z:Al D)(S:Sto):b9 [a,b,x,y,z,Aa (.int q.1),Aa (.int q.2)] S=if decide (InB 1000 q) then .nx [a,b,x,y,z,Aa (.int q.1),Aa (.int q.2)] S else .rt .non S:=by
 have t1:=uK (zP (r8 5 q.1 [a,b,x,y,z,Aa (.int q.1),Aa (.int q.2)] S rfl));have t2:=uK (zP (r8 6 q.2 [a,b,x,y,z,Aa (.int q.1),Aa (.int q.2)] S rfl));have t:=sH (a:=!decide (-1000≤q.1∧q.1≤1000)) (b:=if (!decide (-1000≤q.1∧q.1≤1000))=true then false else !decide (-1000≤q.2∧q.2≤1000)) t1 (λe=>by rw[e,Bc Ea];exact t2) (λ_=>rfl)
 have e:((!decide (-1000≤q.1∧q.1≤1000))||(if (!decide (-1000≤q.1∧q.1≤1000))=true then false else !decide (-1000≤q.2∧q.2≤1000)))=!decide (InB 1000 q):=by
  rw[← uZ];show _=!(decide (-1000≤q.1∧q.1≤1000)&&decide (-1000≤q.2∧q.2≤1000));cases decide (-1000≤q.1∧q.1≤1000) <;> simp
 rw[e] at t;unfold b9 sIf;rw[t];cases decide (InB 1000 q) <;> rfl
def eC (S:Sto)(a b x y z:Al D):∀ (qs:Ab Pt) (e f:Al D),(qs.all (λz=>decide (InB 1000 z))=true→∃ e' f',x8 (gTp 2 (zD (gNm 5) (zD (gNm 6) (xS)))) b9 (qs.map ptD) [a,b,x,y,z,e,f] S=.nx [a,b,x,y,z,e',f'] S)∧(qs.all (λz=>decide (InB 1000 z))=false→x8 (gTp 2 (zD (gNm 5) (zD (gNm 6) (xS)))) b9 (qs.map ptD) [a,b,x,y,z,e,f] S=.rt .non S)
 |[],e,f=>⟨λ_=>⟨e,f,rfl⟩,λh=>by cases h⟩
 |q::qs,e,f=>by
  rw[Jt];have ih:=eC S a b x y z qs (Aa (.int q.1)) (Aa (.int q.2));have hg:gTp 2 (zD (gNm 5) (zD (gNm 6) (xS))) (ptD q) [a,b,x,y,z,e,f] S=.ok [a,b,x,y,z,Aa (.int q.1),Aa (.int q.2)] S:=rfl;have ho:=L8 q a b x y z S;by_cases hq:InB 1000 q
  ·rw[Cs hq,Bg rfl] at ho
   have st:∀ R,x8 (gTp 2 (zD (gNm 5) (zD (gNm 6) (xS)))) b9 (qs.map ptD) [a,b,x,y,z,Aa (.int q.1),Aa (.int q.2)] S=R→x8 (gTp 2 (zD (gNm 5) (zD (gNm 6) (xS)))) b9 ((q::qs).map ptD) [a,b,x,y,z,e,f] S=R:=λR h=>by
    rw[Dt,x8,hg];simp only[Res.toS];rw[ho];exact h
   rw[Cs hq,Sh];exact⟨λh=>(by obtain⟨e',f',q'⟩:=ih.1 h;exact⟨e',f',st _ q'⟩),λh=>st _ (ih.2 h)⟩
  ·rw[Cn hq,Bc Ea] at ho
   rw[Cn hq,Jc];refine⟨(λh=>by cases h),λ_=>?_⟩
   rw[Dt,x8,hg];simp only[Res.toS];rw[ho]
def WG (p q:Pt)(S:Sto):S__law_squared [ptD p,ptD q] S=.ok (sqD p q) S:=by
 rw[uS];have l4:4≤lim:=by decide
 have l3:3≤lim:=by decide
 have l1:1≤lim:=by decide
 have key:Rt (b__law_squared [Aa (ptD p),Aa (ptD q),none,none,none,none,none] S) λd' S1=>d'=sqD p q∧S1=S:=by
  unfold b__law_squared;refine qU (g6 (a:=.int (q.1-p.1)) (b:=.int (q.2-p.2)) (S1:=S) (S2:=S) rfl rfl ?_);simp only[Az,Ay];refine qU (qY (qS (d:=.lst ([p,q,(p.1-(q.2-p.2),p.2+(q.1-p.1))].map ptD)) (zW (as:=[p,q,(p.1-(q.2-p.2),p.2+(q.1-p.1))].map ptD) (zC rfl (zC rfl (zC (tp ((qF ((qF (a:=ptD p) (b:=.int 0) rfl rfl).trans (ix0 p S)) (b:=.int (q.2-p.2)) rfl).trans rfl) ((qF ((qF (a:=ptD p) (b:=.int 1) rfl rfl).trans (ix1 p S)) (b:=.int (q.1-p.1)) rfl).trans (zM _ _ _))) rfl))) l3) ?_));simp only[Az,Ay];refine qU (qY (qS (d:=.lst ((crn p q).map ptD)) ((qF (a:=.lst ([p,q,(p.1-(q.2-p.2),p.2+(q.1-p.1))].map ptD)) rfl (zW (as:=[(q.1-(q.2-p.2),q.2+(q.1-p.1))].map ptD) (zC (tp ((qF ((qF (a:=ptD q) (b:=.int 0) rfl rfl).trans (ix0 q S)) (b:=.int (q.2-p.2)) rfl).trans rfl) ((qF ((qF (a:=ptD q) (b:=.int 1) rfl rfl).trans (ix1 q S)) (b:=.int (q.1-p.1)) rfl).trans (zM _ _ _))) rfl) l1)).trans (yD (by show 3+1≤lim;exact l4) S)) ?_))
  simp only[Az,Ay];have lp:=eC S (Aa (ptD p)) (Aa (ptD q)) (Aa (.int (q.1-p.1))) (Aa (.int (q.2-p.2))) (Aa (.lst ((crn p q).map ptD))) (crn p q) none none;have hf:∀ R,x8 (gTp 2 (zD (gNm 5) (zD (gNm 6) (xS)))) b9 ((crn p q).map ptD) [Aa (ptD p),Aa (ptD q),Aa (.int (q.1-p.1)),Aa (.int (q.2-p.2)),Aa (.lst ((crn p q).map ptD)),none,none] S=R→wR (xZ (qB 4)) (gTp 2 (zD (gNm 5) (zD (gNm 6) (xS)))) b9 [Aa (ptD p),Aa (ptD q),Aa (.int (q.1-p.1)),Aa (.int (q.2-p.2)),Aa (.lst ((crn p q).map ptD)),none,none] S=R:=λR h=>h;unfold sqD sqr;cases ha:(crn p q).all (λz=>decide (InB 1000 z)) with
  |true =>
   obtain⟨e',f',q'⟩:=lp.1 ha;refine qU (xJ (hf _ q') ?_);have t:=zP ((qF (o:=gEq) (f:=qB 0) (g:=qB 1) (env:=[Aa (ptD p),Aa (ptD q),Aa (.int (q.1-p.1)),Aa (.int (q.2-p.2)),Aa (.lst ((crn p q).map ptD)),e',f']) (S:=S) (a:=ptD p) (b:=ptD q) rfl rfl).trans (J8 p q S));have ts:=mF (pE (f:=qB 4) (env:=[Aa (ptD p),Aa (ptD q),Aa (.int (q.1-p.1)),Aa (.int (q.2-p.2)),Aa (.lst ((crn p q).map ptD)),e',f']) (S:=S) (ps:=crn p q) rfl (by show 4≤100000;omega))
   by_cases hpq:p=q
   ·rw[Bg hpq]
    rw[Cs hpq] at t;refine w9 (qS (d:=.non) (S:=S) ?_ ⟨rfl,rfl⟩);unfold dIf;rw[t];rfl
   ·rw[Bc hpq,Bg rfl]
    rw[Cn hpq] at t;refine w9 (qS (d:=yS (kM (crn p q))) (S:=S) ?_ ⟨rfl,rfl⟩);unfold dIf;rw[t,Res.bind_ok,Bc Ea,ts];rfl
  |false =>
   have q':=lp.2 ha;refine fB ⟨.non,S,hf _ q',?_,rfl⟩;by_cases hpq:p=q
   ·rw[Bg hpq]
   ·rw[Bc hpq,Bc Ea]
 exact yZ rfl key
def SD {p q:Pt}{l:Ab Pt}(h:sqr p q=Aa l):okD 3 (yS l):=by
 unfold sqr at h
 split at h
 ·cases h
 ·split at h
  ·cases h
   refine⟨?_,λx hx=>?_⟩
   ·rw[Bk,(bE _).length_eq]
    show 4≤lim
    decide
   ·obtain⟨z,_,rfl⟩:=Dk.mp hx
    refine⟨by show 2≤lim;decide,λy hy=>?_⟩
    simp at hy;rcases hy with rfl|rfl <;> trivial
  ·cases h
def XG (c:Cl)(a b:D)(S:Sto)(ha:Pn a∧uO a=false):S_square_at c [a,b] S=.ex (.ref c.NoPoint) .non S:=by
 rw[yK];refine bB (env:=[Aa a,Aa b,none,none,none,none]) (env':=[Aa a,Aa b,none,none,none,none]) rfl ?_;exact mP ((yA (a:=a) rfl).trans (nX c S ha.1 ha.2))
def NM (c:Cl)(p:Pt)(b:D)(S:Sto)(hp:InB 1000 p)(hb:Pn b∧uO b=false):S_square_at c [ptD p,b] S=.ex (.ref c.NoPoint) .non S:=by
 rw[yK];refine bB (env:=[Aa (ptD p),Aa b,none,none,none,none]) (env':=[Aa (ptD p),Aa b,none,none,none,none]) rfl ?_;unfold b_square_at;rw[gB ((yA (a:=ptD p) rfl).trans (bX c S (tG p) (by rw[uZ];exact Cs hp)))]
 exact mP ((yA (a:=b) rfl).trans (nX c S hb.1 hb.2))
def NN (c:Cl)(p:Pt)(S:Sto)(hp:InB 1000 p):S_square_at c [ptD p,ptD p] S=.ex (.ref c.NoPoint) .non S:=by
 rw[eV c p p S hp hp];unfold sqr;rw[Bg rfl]
def AG (c:Cl)(nd:(xF c).Nodup)(p q:Pt)(S:Sto)(hp:InB 1000 p)(hq:InB 1000 q)(env:qD)(h17:env[17]? = Aa (Aa (ptD p)))(h18:env[18]? = Aa (Aa (ptD q)))(h8:env[8]? = Aa (Aa (sqD p q))) :
  qL (sIf (yM (dTr (d2 gIs (qB 8) (dC .non))) (dTr (d2 gNe (wW false [17,18] 1 2 (qC) (b__law_refused c (gX (qE 2 (S_square_at c) (qA (qB 0) (qA (qB 1) (qC))))))) (dC (.str "point"))))) (zA (dC (.bl false))) (zH)) (sIf (yM (dTr (d2 jH (qB 8) (dC .non))) (xB (dTr (qE 2 S__law_same (qA (qE 2 (S_square_at c) (qA (qB 17) (qA (qB 18) (qC)))) (qA (qB 8) (qC))))))) (zA (dC (.bl false))) (zH)) env S=.nx env S:=by
 have hs:=eV c p q S hp hq;have hcap:gK [17,18] env=Aa [ptD p,ptD q]:=by
  simp[gK,h17,h18]
 unfold sqD at h8;cases h:sqr p q with
 |none =>
  rw[h] at h8 hs;have t1:dTr (d2 gIs (qB 8) (dC .non)) env S=.ok true S:=zP ((qF (wB h8) (b:=.non) rfl).trans rfl);have t2:dTr (d2 gNe (wW false [17,18] 1 2 (qC) (b__law_refused c (gX (qE 2 (S_square_at c) (qA (qB 0) (qA (qB 1) (qC))))))) (dC (.str "point"))) env S=.ok false S:=zP ((qF (sY hcap (WD c nd _ [ptD p,ptD q] S .non ((xH (F:=S_square_at c) (f1:=qB 0) (f2:=qB 1) (env:=[Aa (ptD p),Aa (ptD q)]) (S:=S) rfl rfl).trans hs)) rfl) rfl).trans (JK S));have t3:dTr (d2 jH (qB 8) (dC .non)) env S=.ok false S:=zP ((qF (wB h8) (b:=.non) rfl).trans rfl);simp only[qL,sIf,yM,t1,t2,t3,Res.bind,Res.toS,Dc,zH,Bq,Dw]
 |some l =>
  rw[h] at h8 hs;have t1:dTr (d2 gIs (qB 8) (dC .non)) env S=.ok false S:=zP ((qF (wB h8) (b:=.non) rfl).trans rfl);have t3:dTr (d2 jH (qB 8) (dC .non)) env S=.ok true S:=zP ((qF (wB h8) (b:=.non) rfl).trans rfl);have t4:xB (dTr (qE 2 S__law_same (qA (qE 2 (S_square_at c) (qA (qB 17) (qA (qB 18) (qC)))) (qA (qB 8) (qC))))) env S=.ok false S:=uK (zP ((xH ((xH (wB h17) (wB h18)).trans hs) (wB h8)).trans (WE S (SD h))));simp only[qL,sIf,yM,t1,t3,t4,Res.bind,Res.toS,Dc,zH,Bq,Dw]
def p6 (env:qD)(S:Sto):d2 xR (dC (.int 10)) (dC (.int 6)) env S=.ok (.int 1000000) S:=(qF rfl rfl).trans (Q4 S)
def Y8 (ns:Ab Ai)(hl:ns.length≤63)(env:qD)(S:Sto)(h0:env[0]? = Aa (Aa (.lst (ns.map D.int)))):∃ ms:Ab Ai,xZ (d2 qW (zL (qA (qE 2 S__law_cell (qA (qB 0) (qA (dC (.int 0)) (qC)))) (qC))) (dSl (qB 0) (vN (dC (.int 1))) (vN (dC (.int 6))))) env S=.ok (ms.map D.int) S:=by
 obtain⟨x,hx⟩:=DR ns S;obtain⟨ms,hm,hml⟩:=KH ns (Aa 1) (Aa 6);refine⟨x::ms,?_⟩;have l1:1≤lim:=by decide
 have hs:dSl (qB 0) (vN (dC (.int 1))) (vN (dC (.int 6))) env S=.ok (.lst (ms.map D.int)) S:=by
  simp only[dSl,wB h0,Res.bind,vN,dC];show Res.ok (D.lst (jC (ns.map D.int) (Aa 1) (Aa 6))) S=_;rw[hm]
 have hc:zL (qA (qE 2 S__law_cell (qA (qB 0) (qA (dC (.int 0)) (qC)))) (qC)) env S=.ok (.lst [.int x]) S:=zW (kY ((xH (wB h0) rfl).trans hx)) l1;unfold xZ;rw[qF hc hs,yD (by rw[Bk];show 1+ms.length≤lim;unfold lim;omega)]
 rfl
def X5 (c:Cl)(w h:Ah)(v:Ai)(S:Sto)(hw:1≤w∧w≤1000000)(hh:1≤h∧h≤1000000)(e:ms w h (mn w h-1)=v):S_many_squares c [.int (w:Ai),.int (h:Ai)] S=.ok (.int v) S:=by rw[bA c w h S hw hh,e]
def oP (n:Ah):Ai:=ms n n (mn n n-1)
def V0 (c:Cl)(env:qD)(S:Sto):vM (dTr (d2 gNe (zQ false [none] (dIt (qQ (qA (dC (.int 1)) (qA (dC (.int 2)) (qA (dC (.int 3)) (qA (dC (.int 4)) (qC))))))) (gNm 0) (w8) (zZ (qE 2 (okO (S_many_squares c)) (qA (qB 0) (qA (qB 0) (qC)))))) (zL (qA (dC (.int 0)) (qA (dC (.int 1)) (qA (dC (.int 6)) (qA (dC (.int 20)) (qC)))))))) (dTr (d2 gNe (qE 2 (S_many_squares c) (qA (dC (.int 2)) (qA (dC (.int 9)) (qC)))) (dC (.int 8)))) env S=.ok false S:=by
 have l4:4≤lim:=by decide
 have hit:dIt (qQ (qA (dC (.int 1)) (qA (dC (.int 2)) (qA (dC (.int 3)) (qA (dC (.int 4)) (qC)))))) env S=.ok (none,[1,2,3,4].map iD) S:=by
  unfold dIt;rw[yJ (as:=[.int 1,.int 2,.int 3,.int 4]) rfl l4];rfl
 have hc:=kX (enc:=iD) (xs:=[1,2,3,4]) (cap:=[none]) (g:=gNm 0) (t:=w8) (fe:=qE 2 (okO (S_many_squares c)) (qA (qB 0) (qA (qB 0) (qC)))) hit trivial (λ_=>true) (λn=>D.int (oP n)) (λenv=>∃ a,env=[a]) ⟨none,rfl⟩ (by show 4≤lim;exact l4)
  (λn hn env ⟨a,e⟩=>by
   subst e;have hn':1≤n∧n≤4:=by
    simp only[Bb,Cy,Gc] at hn;omega
   exact⟨[Aa (iD n)],rfl,⟨_,rfl⟩,rfl,λ_=>(xH (a:=iD n) (b:=iD n) rfl rfl).trans (eG (bA c n n S om om))⟩)
 rw[vF] at hc;have e4:[1,2,3,4].map (λn=>D.int (oP n))=[0,1,6,20].map D.int:=by
  have f:[1,2,3,4].map oP=[0,1,6,20]:=kd;rw[← f];rfl
 rw[e4] at hc;have g1:gNe (.lst ([0,1,6,20].map D.int)) (.lst ([0,1,6,20].map D.int)) S=.ok (.bl false) S:=by kernel_rfl!
 have m2:=X5 c 2 9 8 S om om (kd);exact sH (a:=false) (b:=false) (zP ((qF hc (zW (as:=[0,1,6,20].map D.int) rfl l4)).trans g1)) (λ_=>zP ((qF ((xH (a:=.int 2) (b:=.int 9) rfl rfl).trans m2) (b:=.int 8) rfl).trans ((bR 8 8 S).trans rfl))) (λz=>by cases z)
def WQ (c:Cl)(env:qD)(S:Sto):dTr (d2 gNe (qE 2 (S_many_squares c) (qA (d2 xR (dC (.int 10)) (dC (.int 6))) (qA (dC (.int 3)) (qC)))) (dC (.int 3999994))) env S=.ok false S:=by
 have m2:=X5 c 1000000 3 3999994 S om om (kd);exact zP ((qF ((xH (a:=.int 1000000) (b:=.int 3) (p6 env S) rfl).trans m2) (b:=.int 3999994) rfl).trans ((bR 3999994 3999994 S).trans rfl))
def pU (S:Sto)(p:Ah)(b m:Ah)(g:DE)(env:qD)(h1:env[2]? = Aa (Aa (.loc p)))(hg:g env S=.ok (.int (m:Ai)) S)(h:xG S p)(hm:0<m∧m<1073741824):∃ (r:Ah) (S1:Sto),d2 qW (dC (.int (b:Ai))) (qE 2 S__law_draw (qA (qB 2) (qA g (qC)))) env S=.ok (.int ((b+r:Ah):Ai)) S1∧xG S1 p∧r<m:=by
 obtain⟨r,S1,e,k,_,a,b'⟩:=xV S p m (qB 2) g env (wB h1) hg h om;obtain⟨r,rfl⟩:=IJ a;exact⟨r,_,((qF (a:=.int (b:Ai)) rfl e).trans (zM _ _ _)).trans (by rw[Mt]),k.pen,by omega⟩
def V5 (S:Sto)(p:Ah)(env:qD)(h2:env[2]? = Aa (Aa (.loc p)))(h:xG S p):∃ (g:Ah) (S1:Sto),d2 gIx (zL (qA (d2 xR (dC (.int 10)) (dC (.int 6))) (qA (d2 qW (dC (.int 1)) (qE 2 S__law_draw (qA (qB 2) (qA (d2 xR (dC (.int 10)) (dC (.int 6))) (qC))))) (qC)))) (qE 2 S__law_draw (qA (qB 2) (qA (dC (.int 2)) (qC)))) env S=.ok (.int (g:Ai)) S1∧xG S1 p∧1≤g∧g≤1000000:=by
 obtain⟨r,S1,c1,p1,r1⟩:=pU S p 1 1000000 (d2 xR (dC (.int 10)) (dC (.int 6))) env h2 (p6 env S) h om;obtain⟨k,S2,c2,k2,_,k0,k1⟩:=xV S1 p 2 (qB 2) (dC (.int 2)) env (wB h2) rfl p1 om;obtain⟨d,hd,hm⟩:=kT ([1000000,1+r].map iD) k ⟨k0,by show k<2;exact k1⟩
 obtain⟨g,hg,rfl⟩:=Dk.mp hm;refine⟨g,S2,(qF (zW (as:=[1000000,1+r].map iD) (xU (p6 env S) c1) (by show 2≤lim;decide)) c2).trans (uB hd S2),k2.pen,?_⟩
 simp only[Bb,Cy,Gc] at hg;omega
def RM (q:Pt)(l:Ab Pt)(S:Sto):gIx (yS (q::l)) (.int 0) S=.ok (ptD q) S:=by
 have e:_L.atI ((q::l).map ptD) 0=Aa (ptD q):=by
  have hn:_L.ixN ((q::l).map ptD).length 0=Aa 0:=by
   unfold _L.ixN;simp
  unfold _L.atI;rw[hn];rfl
 show _D.vT (_L.atI ((q::l).map ptD) 0) S=_;rw[e];rfl
def rV {l:Ab Pt}(h:Lot M l)(S:Sto):∃ q,gIx (yS l) (.int 0) S=.ok (ptD q) S∧InB 1000 q:=by
 cases l with
 |nil=>exact absurd rfl h.ne
 |cons q l=>exact⟨q,(RM q l S),h.box q (by simp)⟩
def GY {l:Ab Pt}(h:Lot M l)(S:Sto):∃ q,gIx (yS l) (.int (-1)) S=.ok (ptD q) S∧InB 1000 q:=by
 have hn:=h.ne;have hb:=h.box;rcases List.eq_nil_or_concat l with rfl|⟨l',q,rfl⟩
 ·exact absurd rfl hn
 ·rw[List.concat_eq_append] at *
  refine⟨q,?_,hb q (by simp)⟩
  have e:_L.atI ((l'++[q]).map ptD) (-1)=Aa (ptD q):=by
   have hn:_L.ixN ((l'++[q]).map ptD).length (-1)=Aa l'.length:=by
    unfold _L.ixN;simp;omega
   unfold _L.atI;rw[hn];simp
  show _D.vT (_L.atI ((l'++[q]).map ptD) (-1)) S=_;rw[e];rfl
def prD (x:D × D):D:=.tup [x.1,x.2]
def t2 {f1 f2:DE}{a b:D}(h1:f1 env S=.ok a S)(h2:f2 env S=.ok b S):qQ (qA f1 (qA f2 (qC))) env S=.ok (prD (a,b)) S:=yJ (xU h1 h2) (by show 2≤lim;decide)
def GP (a b c:Ai):okD 3 (.lst [.int a,.int b,.int c]):=⟨by show 3≤lim;decide,λx hx=>by
 simp at hx;rcases hx with rfl|rfl|rfl <;> trivial⟩
def RU (c:Cl)(nd:(xF c).Nodup)(S:Sto){a0 a1 a2 a3 a4 a5 a6 a7 a8 a9 a10 a11 a12 a13 a14 a15 a16 a17 a18 a19:Al D}(XS:Ab (Pt × Pt))(hal:∀ x∈XS,InB 1000 x.1∧InB 1000 x.2){Q:qD→Sto→Prop}(q:∀ e8 e17 e18,Q [a0,a1,a2,a3,a4,a5,a6,a7,e8,a9,a10,a11,a12,a13,a14,a15,a16,e17,e18,a19] S):Nx (x8 (gTp 2 (zD (gNm 17) (zD (gNm 18) (xS)))) (qL (qT (qE 2 S__law_squared (qA (qB 17) (qA (qB 18) (qC)))) (gNm 8)) (qL (sIf (yM (dTr (d2 gIs (qB 8) (dC .non))) (dTr (d2 gNe (wW false [17,18] 1 2 (qC) (b__law_refused c (gX (qE 2 (S_square_at c) (qA (qB 0) (qA (qB 1) (qC))))))) (dC (.str "point"))))) (zA (dC (.bl false))) (zH)) (sIf (yM (dTr (d2 jH (qB 8) (dC .non))) (xB (dTr (qE 2 S__law_same (qA (qE 2 (S_square_at c) (qA (qB 17) (qA (qB 18) (qC)))) (qA (qB 8) (qC))))))) (zA (dC (.bl false))) (zH)))) (XS.map λx=>prD (ptD x.1,ptD x.2)) [a0,a1,a2,a3,a4,a5,a6,a7,a8,a9,a10,a11,a12,a13,a14,a15,a16,a17,a18,a19] S) Q:=by
 refine wQ (λds env S'=>S'=S∧∃ (xs:Ab (Pt × Pt)) (e8 e17 e18:Al D),ds=(xs.map λx=>prD (ptD x.1,ptD x.2))∧(∀ x∈xs,InB 1000 x.1∧InB 1000 x.2)∧env=[a0,a1,a2,a3,a4,a5,a6,a7,e8,a9,a10,a11,a12,a13,a14,a15,a16,e17,e18,a19]) ?_ ?_ ⟨rfl,XS,_,_,_,rfl,hal,rfl⟩
 ·rintro d ds env S ⟨rfl,xs,e8,e17,e18,hds,hx,rfl⟩
  cases xs with
  |nil=>cases hds
  |cons x xs =>
   injection hds with h1 h2
   subst h1 h2;obtain⟨b1,b2⟩:=hx x (Ct ..);refine⟨[a0,a1,a2,a3,a4,a5,a6,a7,e8,a9,a10,a11,a12,a13,a14,a15,a16,Aa (ptD x.1),Aa (ptD x.2),a19],S,rfl,?_⟩;refine zU (qY (qS ((xH (a:=ptD x.1) (b:=ptD x.2) rfl rfl).trans (WG x.1 x.2 S)) ?_));simp only[Az,Ay];exact xJ (AG c nd x.1 x.2 S b1 b2 _ rfl rfl rfl) ⟨rfl,xs,_,_,_,rfl,λz hz=>hx z (Bu _ hz),rfl⟩
 ·rintro env S ⟨rfl,xs,e8,e17,e18,hds,hx,rfl⟩
  exact q _ _ _
def RV (c:Cl)(nd:(xF c).Nodup)(S:Sto){a0 a1 a2 a3 a4 a5 a6 a7 a8 a9 a10 a11 a12 a13 a14 a15 a16 a17 a18 a19:Al D}(YS:Ab (D × D))(hno:∀ x∈YS,∀ S,S_square_at c [x.1,x.2] S=.ex (.ref c.NoPoint) .non S){Q:qD→Sto→Prop}(q:∀ e17 e18,Q [a0,a1,a2,a3,a4,a5,a6,a7,a8,a9,a10,a11,a12,a13,a14,a15,a16,e17,e18,a19] S):Nx (x8 (gTp 2 (zD (gNm 17) (zD (gNm 18) (xS)))) (sIf (dTr (d2 gNe (wW false [17,18] 1 2 (qC) (b__law_refused c (gX (qE 2 (S_square_at c) (qA (qB 0) (qA (qB 1) (qC))))))) (dC (.str "point")))) (zA (dC (.bl false))) (zH)) (YS.map prD) [a0,a1,a2,a3,a4,a5,a6,a7,a8,a9,a10,a11,a12,a13,a14,a15,a16,a17,a18,a19] S) Q:=by
 refine wQ (λds env S'=>S'=S∧∃ (xs:Ab (D × D)) (e17 e18:Al D),ds=xs.map prD∧(∀ x∈xs,∀ S,S_square_at c [x.1,x.2] S=.ex (.ref c.NoPoint) .non S)∧env=[a0,a1,a2,a3,a4,a5,a6,a7,a8,a9,a10,a11,a12,a13,a14,a15,a16,e17,e18,a19]) ?_ ?_ ⟨rfl,YS,_,_,rfl,hno,rfl⟩
 ·rintro d ds env S ⟨rfl,xs,e17,e18,hds,hx,rfl⟩
  cases xs with
  |nil=>cases hds
  |cons x xs =>
   injection hds with h1 h2
   subst h1 h2;refine⟨[a0,a1,a2,a3,a4,a5,a6,a7,a8,a9,a10,a11,a12,a13,a14,a15,a16,Aa x.1,Aa x.2,a19],S,rfl,?_⟩;exact xO (zP ((qF (sY (caps:=[x.1,x.2]) rfl (WD c nd _ [x.1,x.2] S .non ((xH (F:=S_square_at c) (f1:=qB 0) (f2:=qB 1) (env:=[Aa x.1,Aa x.2]) (S:=S) rfl rfl).trans (hx x (Ct ..) S))) rfl) rfl).trans (JK S))) (xJ rfl ⟨rfl,xs,_,_,rfl,λz hz=>hx z (Bu _ hz),rfl⟩)
 ·rintro env S ⟨rfl,xs,e17,e18,hds,hx,rfl⟩
  exact q _ _
def RW (c:Cl)(nd:(xF c).Nodup)(S:Sto){a0 a1 a2 a3 a4 a5 a6 a7 a8 a9 a10 a11 a12 a13 a14 a15 a16 a17 a18 a19:Al D}(ZS:Ab (D × D))(hno:∀ x∈ZS,No2 x.1 x.2){Q:qD→Sto→Prop}(q:∀ e16 e19 S,Q [a0,a1,a2,a3,a4,a5,a6,a7,a8,a9,a10,a11,a12,a13,a14,a15,e16,a17,a18,e19] S):Nx (x8 (gTp 2 (zD (gNm 16) (zD (gNm 19) (xS)))) (sIf (dTr (d2 gNe (wW false [16,19] 1 2 (qC) (b__law_refused c (gX (qE 2 (S_many_squares c) (qA (qB 0) (qA (qB 1) (qC))))))) (dC (.str "number")))) (zA (dC (.bl false))) (zH)) (ZS.map prD) [a0,a1,a2,a3,a4,a5,a6,a7,a8,a9,a10,a11,a12,a13,a14,a15,a16,a17,a18,a19] S) Q:=by
 refine wQ (λds env S'=>∃ (xs:Ab (D × D)) (e16 e19:Al D),ds=xs.map prD∧(∀ x∈xs,No2 x.1 x.2)∧env=[a0,a1,a2,a3,a4,a5,a6,a7,a8,a9,a10,a11,a12,a13,a14,a15,e16,a17,a18,e19]) ?_ ?_ ⟨ZS,_,_,rfl,hno,rfl⟩
 ·rintro d ds env S ⟨xs,e16,e19,hds,hx,rfl⟩
  cases xs with
  |nil=>cases hds
  |cons x xs =>
   injection hds with h1 h2
   subst h1 h2;refine⟨[a0,a1,a2,a3,a4,a5,a6,a7,a8,a9,a10,a11,a12,a13,a14,a15,Aa x.1,a17,a18,Aa x.2],S,rfl,?_⟩;exact xO (zP ((qF (sY (caps:=[x.1,x.2]) rfl (DU c nd _ [x.1,x.2] S .non ((xH (F:=S_many_squares c) (f1:=qB 0) (f2:=qB 1) (env:=[Aa x.1,Aa x.2]) (S:=S) rfl rfl).trans (PQ c x.1 x.2 S (hx x (Ct ..))))) rfl) rfl).trans (NI S))) (xJ rfl ⟨xs,_,_,rfl,λz hz=>hx z (Bu _ hz),rfl⟩)
 ·rintro env S ⟨xs,e16,e19,hds,hx,rfl⟩
  exact q _ _ _
def IvA (ns:Ab Ai)(ds:Ab D)(env:qD)(_:Sto):Prop:=∃ (ms:Ab Ai) (e1 e2 e3 e4 e5 e6 e7 e8 e9 e10 e11 e12 e13 e14 e15 e16 e17 e18 e19:Al D),ds=ms.map D.int∧env=[Aa (.lst (ns.map D.int)),e1,e2,e3,e4,e5,e6,e7,e8,e9,e10,e11,e12,e13,e14,e15,e16,e17,e18,e19]
def VJ (c:Cl)(nd:(xF c).Nodup)(ns:Ab Ai)(hl:ns.length≤63):∃ S,qX 20 (b_law c) [.lst (ns.map D.int)] [] = .ok (.bl true) S:=by
 have key:Rt (b_law c [Aa (.lst (ns.map D.int)),none,none,none,none,none,none,none,none,none,none,none,none,none,none,none,none,none,none,none] []) λd _=>d=.bl true:=by
  refine qU (xO (V0 c _ _) (xJ rfl ?_));refine qU (xO (WQ c _ _) (xJ rfl ?_));obtain⟨ms,hms⟩:=Y8 ns hl [Aa (.lst (ns.map D.int)),none,none,none,none,none,none,none,none,none,none,none,none,none,none,none,none,none,none,none] [] rfl;refine qU (yY hms ?_);refine wQ (IvA ns) ?_ ?_ ⟨ms,none,none,none,none,none,none,none,none,none,none,none,none,none,none,none,none,none,none,none,rfl,rfl⟩
  ·rintro d ds env S ⟨ms,e1,e2,e3,e4,e5,e6,e7,e8,e9,e10,e11,e12,e13,e14,e15,e16,e17,e18,e19,hds,rfl⟩
   cases ms with
   |nil=>cases hds
   |cons y ms =>
    injection hds with h1 h2
    subst h1 h2;refine⟨[Aa (.lst (ns.map D.int)),Aa (.int y),e2,e3,e4,e5,e6,e7,e8,e9,e10,e11,e12,e13,e14,e15,e16,e17,e18,e19],S,rfl,?_⟩;obtain⟨f,hpen⟩:=EK y S;refine zU (qY (qS ((yA (a:=.int y) rfl).trans hpen) ?_));have p0:xG (S++[.lst [.int y,.int f]]) S.length:=⟨y,f,by simp⟩
    generalize S++[.lst [.int y,.int f]]=S0 at p0;generalize S.length=p at p0;clear hpen hms;simp only[Az,Ay];obtain⟨r1,S1,c1,p1,u1⟩:=pU S0 p 1 6 (dC (.int 6)) [Aa (.lst (ns.map D.int)),Aa (.int y),Aa (.loc p),e3,e4,e5,e6,e7,e8,e9,e10,e11,e12,e13,e14,e15,e16,e17,e18,e19] rfl rfl p0 om;obtain⟨r2,S2,c2,p2,u2⟩:=pU S1 p 1 6 (dC (.int 6)) [Aa (.lst (ns.map D.int)),Aa (.int y),Aa (.loc p),e3,e4,e5,e6,e7,e8,e9,e10,e11,e12,e13,e14,e15,e16,e17,e18,e19] rfl rfl p1 om;refine zU (g6 c1 c2 ?_);clear c1 c2 p0 p1;have hw:1≤1+r1∧1+r1≤6:=by omega
    have hh:1≤1+r2∧1+r2≤6:=by omega
    generalize 1+r1=w at hw;generalize 1+r2=h at hh;simp only[Az,Ay];obtain⟨r3,S3,c1,p3,u3⟩:=pU S2 p 1 3000 (dC (.int 3000)) [Aa (.lst (ns.map D.int)),Aa (.int y),Aa (.loc p),Aa (.int (w:Ai)),Aa (.int (h:Ai)),e5,e6,e7,e8,e9,e10,e11,e12,e13,e14,e15,e16,e17,e18,e19] rfl rfl p2 om;obtain⟨r4,S4,c2,p4,u4⟩:=pU S3 p 1 1000000 (d2 xR (dC (.int 10)) (dC (.int 6))) [Aa (.lst (ns.map D.int)),Aa (.int y),Aa (.loc p),Aa (.int (w:Ai)),Aa (.int (h:Ai)),e5,e6,e7,e8,e9,e10,e11,e12,e13,e14,e15,e16,e17,e18,e19] rfl (p6 _ _) p3 om;refine zU (g6 c1 c2 ?_);clear c1 c2 p2 p3;have hwi:1≤1+r3∧1+r3≤3000:=by omega
    have hhi:1≤1+r4∧1+r4≤1000000:=by omega
    generalize 1+r3=wi at hwi;generalize 1+r4=hi at hhi;simp only[Az,Ay];obtain⟨g,S5,c5,p5,hg⟩:=V5 S4 p [Aa (.lst (ns.map D.int)),Aa (.int y),Aa (.loc p),Aa (.int (w:Ai)),Aa (.int (h:Ai)),Aa (.int (wi:Ai)),Aa (.int (hi:Ai)),e7,e8,e9,e10,e11,e12,e13,e14,e15,e16,e17,e18,e19] rfl p4;refine zU (qY (qS c5 ?_));clear c5 p4;simp only[Az,Ay];have l1:1≤lim:=by decide
    have l2:2≤lim:=by decide
    have l3:3≤lim:=by decide
    have l4:4≤lim:=by decide
    have l5:5≤lim:=by decide
    refine zU (qY (qS (d:=.lst [.int (_K.ms w h (mn w h-1)),.int (_K.ms wi hi (mn wi hi-1))]) (zW (as:=[.int (_K.ms w h (mn w h-1)),.int (_K.ms wi hi (mn wi hi-1))]) (xU ((xH (a:=.int (w:Ai)) (b:=.int (h:Ai)) rfl rfl).trans (WB w h S5 hw hh)) ((xH (a:=.int (wi:Ai)) (b:=.int (hi:Ai)) rfl rfl).trans (UF wi hi S5 hwi hhi))) l2) ?_));simp only[Az,Ay];have hgg:d2 z0 (qB 7) (qB 7) [Aa (.lst (ns.map D.int)),Aa (.int y),Aa (.loc p),Aa (.int (w:Ai)),Aa (.int (h:Ai)),Aa (.int (wi:Ai)),Aa (.int (hi:Ai)),Aa (.int (g:Ai)),Aa (.lst [.int (_K.ms w h (mn w h-1)),.int (_K.ms wi hi (mn wi hi-1))]),e9,e10,e11,e12,e13,e14,e15,e16,e17,e18,e19] S5=.ok (.int ((g:Ai)*g)) S5:=(qF (a:=.int (g:Ai)) (b:=.int (g:Ai)) rfl rfl).trans (zN _ _ S5 ⟨by omega,by omega⟩)
    have g0:0≤(g:Ai)*g:=Hd om om;have g1:(g:Ai)*g≤1000000*1000000:=Ht om om om om;have hgd:d2 uA (d2 z0 (d2 z0 (qB 7) (qB 7)) (d2 zJ (d2 z0 (qB 7) (qB 7)) (dC (.int 1)))) (dC (.int 12)) [Aa (.lst (ns.map D.int)),Aa (.int y),Aa (.loc p),Aa (.int (w:Ai)),Aa (.int (h:Ai)),Aa (.int (wi:Ai)),Aa (.int (hi:Ai)),Aa (.int (g:Ai)),Aa (.lst [.int (_K.ms w h (mn w h-1)),.int (_K.ms wi hi (mn wi hi-1))]),e9,e10,e11,e12,e13,e14,e15,e16,e17,e18,e19] S5=.ok (.int (_K.ms g g (mn g g-1))) S5:=by
     rw[RX g hg.1];exact(qF ((qF hgg ((qF hgg (b:=.int 1) rfl).trans rfl)).trans (zN _ _ S5 ⟨by omega,by omega⟩)) (b:=.int 12) rfl).trans (uX _ 12 S5 om)
    refine zU (qY (qS (d:=.lst [.int (_K.ms w h (mn w h-1)),.int (_K.ms wi hi (mn wi hi-1)),.int (_K.ms g g (mn g g-1))]) ((qF (a:=.lst [.int (_K.ms w h (mn w h-1)),.int (_K.ms wi hi (mn wi hi-1))]) rfl (zW (as:=[.int (_K.ms g g (mn g g-1))]) (kY hgd) l1)).trans (yD (by show 2+1≤lim;exact l3) S5)) ?_))
    clear hgg hgd;simp only[Az,Ay];refine zU (qY (qS (d:=.lst [.int (_K.ms w h (mn w h-1)),.int (_K.ms wi hi (mn wi hi-1)),.int (_K.ms g g (mn g g-1))]) (zW (as:=[.int (_K.ms w h (mn w h-1)),.int (_K.ms wi hi (mn wi hi-1)),.int (_K.ms g g (mn g g-1))]) (zC ((xH (a:=.int (w:Ai)) (b:=.int (h:Ai)) rfl rfl).trans (bA c w h S5 om om)) (xU ((xH (a:=.int (wi:Ai)) (b:=.int (hi:Ai)) rfl rfl).trans (bA c wi hi S5 om hhi)) ((xH (a:=.int (g:Ai)) (b:=.int (g:Ai)) rfl rfl).trans (bA c g g S5 hg hg)))) l3) ?_));simp only[Az,Ay];refine zU (xO (uK (zP ((xH (a:=.lst [.int (_K.ms w h (mn w h-1)),.int (_K.ms wi hi (mn wi hi-1)),.int (_K.ms g g (mn g g-1))]) (b:=.lst [.int (_K.ms w h (mn w h-1)),.int (_K.ms wi hi (mn wi hi-1)),.int (_K.ms g g (mn g g-1))]) rfl rfl).trans (WE S5 (GP _ _ _))))) (xJ rfl ?_));generalize D.lst [.int (_K.ms w h (mn w h-1)),.int (_K.ms wi hi (mn wi hi-1)),.int (_K.ms g g (mn g g-1))]=LL;obtain⟨l,S6,c6,k6,lo⟩:=EJ p 5 om S5 p5;refine zU (qY (qS ((xH (a:=.loc p) (b:=.int 5) rfl rfl).trans c6) ?_));clear c6;simp only[Az,Ay];obtain⟨qa,S7,c7,k7,ha⟩:=eS p S6 k6.pen;obtain⟨qb,S8,c8,k8,hb⟩:=eS p S7 k7.pen;refine zU (iB (env1:=[Aa (.lst (ns.map D.int)),Aa (.int y),Aa (.loc p),Aa (.int (w:Ai)),Aa (.int (h:Ai)),Aa (.int (wi:Ai)),Aa (.int (hi:Ai)),Aa (.int (g:Ai)),Aa LL,Aa LL,Aa (yS l),Aa (ptD qb),e12,e13,e14,e15,Aa (ptD qa),e17,e18,e19]) (S2:=S8) (yJ (as:=[ptD qa,ptD qb]) (xU ((yA (a:=.loc p) rfl).trans c7) ((yA (a:=.loc p) rfl).trans c8)) l2) rfl ?_);clear c7 c8;obtain⟨qf,hf,hfb⟩:=rV lo S8;obtain⟨ql,hq,hlb⟩:=GY lo S8;have i0:d2 gIx (qB 10) (dC (.int 0)) [Aa (.lst (ns.map D.int)),Aa (.int y),Aa (.loc p),Aa (.int (w:Ai)),Aa (.int (h:Ai)),Aa (.int (wi:Ai)),Aa (.int (hi:Ai)),Aa (.int (g:Ai)),Aa LL,Aa LL,Aa (yS l),Aa (ptD qb),e12,e13,e14,e15,Aa (ptD qa),e17,e18,e19] S8=.ok (ptD qf) S8:=(qF (a:=yS l) (b:=.int 0) rfl rfl).trans hf;have i1:d2 gIx (qB 10) (d1 yR (dC (.int 1))) [Aa (.lst (ns.map D.int)),Aa (.int y),Aa (.loc p),Aa (.int (w:Ai)),Aa (.int (h:Ai)),Aa (.int (wi:Ai)),Aa (.int (hi:Ai)),Aa (.int (g:Ai)),Aa LL,Aa LL,Aa (yS l),Aa (ptD qb),e12,e13,e14,e15,Aa (ptD qa),e17,e18,e19] S8=.ok (ptD ql) S8:=(qF (a:=yS l) (b:=.int (-1)) rfl rfl).trans hq;refine zU (qY (qS (d:=.lst ([(qf,ql),(ql,qf),(qa,qf),(qa,qb)].map λx=>prD (ptD x.1,ptD x.2))) (zW (as:=[(qf,ql),(ql,qf),(qa,qf),(qa,qb)].map λx=>prD (ptD x.1,ptD x.2)) (zC (t2 i0 i1) (zC (t2 i1 i0) (xU (t2 (a:=ptD qa) rfl i0) (t2 (a:=ptD qa) (b:=ptD qb) rfl rfl)))) l4) ?_));clear i0 i1 hq;simp only[Az,Ay];refine zU (yY (ds:=[(qf,ql),(ql,qf),(qa,qf),(qa,qb)].map λx=>prD (ptD x.1,ptD x.2)) (S1:=S8) rfl ?_);have hal:∀ x∈[(qf,ql),(ql,qf),(qa,qf),(qa,qb)],InB 1000 x.1∧InB 1000 x.2:=by
     intro x hx;simp only[Bb,Cy,Gc] at hx;rcases hx with rfl|rfl|rfl|rfl
     ·exact⟨hfb,hlb⟩
     ·exact⟨hlb,hfb⟩
     ·exact⟨ha,hfb⟩
     ·exact⟨ha,hb⟩
    generalize [(qf,ql),(ql,qf),(qa,qf),(qa,qb)]=XS at hal;generalize D.lst (XS.map λx=>prD (ptD x.1,ptD x.2))=TT;refine RU c nd S8 XS hal λe8 e17 e18=>?_;obtain⟨bad,S9,c9,k9,hbad⟩:=Q5 p S8 k8.pen;obtain⟨odd,v,f',c10,nn⟩:=cR S9 p 1 1000000 k9.pen om;have p10:=m8 k9.pen v f';generalize S9.set p (.lst [.int v,.int f'])=S10 at c10 p10;refine zU (g6 ((yA (a:=.loc p) rfl).trans c9) ((gJ (a:=.loc p) (b:=.int 1) rfl rfl (p6 _ _)).trans c10) ?_);clear c9 c10;simp only[Az,Ay];obtain⟨qz,hz,hzb⟩:=rV lo S10;refine zU (qY (qS ((qF (a:=yS l) (b:=.int 0) rfl rfl).trans hz) ?_));simp only[Az,Ay];refine zU (qY (qS (d:=.lst ([(bad,ptD qz),(ptD qz,bad),(bad,bad),(ptD qz,ptD qz)].map prD)) (zW (as:=[(bad,ptD qz),(ptD qz,bad),(bad,bad),(ptD qz,ptD qz)].map prD) (zC (t2 (a:=bad) (b:=ptD qz) rfl rfl) (zC (t2 (a:=ptD qz) (b:=bad) rfl rfl) (xU (t2 (a:=bad) (b:=bad) rfl rfl) (t2 (a:=ptD qz) (b:=ptD qz) rfl rfl)))) l4) ?_));simp only[Az,Ay];refine zU (yY (ds:=[(bad,ptD qz),(ptD qz,bad),(bad,bad),(ptD qz,ptD qz)].map prD) (S1:=S10) rfl ?_);have hno:∀ x∈[(bad,ptD qz),(ptD qz,bad),(bad,bad),(ptD qz,ptD qz)],∀ S,S_square_at c [x.1,x.2] S=.ex (.ref c.NoPoint) .non S:=by
     intro x hx S;simp only[Bb,Cy,Gc] at hx;rcases hx with rfl|rfl|rfl|rfl
     ·exact XG c _ _ S hbad
     ·exact NM c _ _ S hzb hbad
     ·exact XG c _ _ S hbad
     ·exact NN c _ S hzb
    generalize [(bad,ptD qz),(ptD qz,bad),(bad,bad),(ptD qz,ptD qz)]=YS at hno;generalize D.lst (YS.map prD)=T2;refine RV c nd S10 YS hno λe17 e18=>?_;have hit:xZ (zL (qA (qQ (qA (qB 14) (qA (dC (.int 1)) (qC)))) (qA (qQ (qA (dC (.int 1)) (qA (qB 14) (qC)))) (qA (qQ (qA (qB 14) (qA (qB 14) (qC)))) (qA (qQ (qA (dC (.int 0)) (qA (dC (.int 5)) (qC)))) (qA (qQ (qA (dC (.int 5)) (qA (d2 qW (d2 xR (dC (.int 10)) (dC (.int 6))) (dC (.int 1))) (qC)))) (qC))))))) [Aa (.lst (ns.map D.int)),Aa (.int y),Aa (.loc p),Aa (.int (w:Ai)),Aa (.int (h:Ai)),Aa (.int (wi:Ai)),Aa (.int (hi:Ai)),Aa (.int (g:Ai)),e8,Aa LL,Aa (yS l),Aa (ptD qb),Aa T2,Aa bad,Aa odd,Aa (ptD qz),Aa (ptD qa),e17,e18,e19] S10=.ok ([(odd,.int 1),(.int 1,odd),(odd,odd),(.int 0,.int 5),(.int 5,.int 1000001)].map prD) S10:=by
     unfold xZ;rw[zW (as:=[(odd,.int 1),(.int 1,odd),(odd,odd),(.int 0,.int 5),(.int 5,.int 1000001)].map prD) (zC (t2 (a:=odd) (b:=.int 1) rfl rfl) (zC (t2 (a:=.int 1) (b:=odd) rfl rfl) (zC (t2 (a:=odd) (b:=odd) rfl rfl) (xU (t2 (a:=.int 0) (b:=.int 5) rfl rfl) (t2 (a:=.int 5) (b:=.int 1000001) rfl ((qF (p6 _ _) (b:=.int 1) rfl).trans (zM 1000000 1 S10))))))) l5];rfl
    refine yY hit ?_;clear hit;have hno2:∀ x∈[(odd,D.int 1),(.int 1,odd),(odd,odd),(.int 0,.int 5),(.int 5,.int 1000001)],No2 x.1 x.2:=by
     intro x hx;simp only[Bb,Cy,Gc] at hx;rcases hx with rfl|rfl|rfl|rfl|rfl
     ·exact .one nn
     ·exact .two 1 rfl om nn
     ·exact .one nn
     ·exact .one (jN om)
     ·exact .two 5 rfl om (jN om)
    generalize [(odd,D.int 1),(.int 1,odd),(odd,odd),(.int 0,.int 5),(.int 5,.int 1000001)]=ZS at hno2;exact RW c nd S10 ZS hno2 λe16 e19 S=>⟨ms,_,_,_,_,_,_,_,_,_,_,_,_,_,_,_,_,_,_,_,rfl,rfl⟩
  ·rintro env S ⟨ms,e1,e2,e3,e4,e5,e6,e7,e8,e9,e10,e11,e12,e13,e14,e15,e16,e17,e18,e19,_,rfl⟩
   exact w9 (qS (d:=.bl true) (S:=S) rfl rfl)
 obtain⟨d,S',e,rfl⟩:=key;exact⟨S',jQ rfl e⟩
end _K
namespace _K
open PySem PySem.Spec PyProof.Rows _L _D
variable {mg:Ar→Al Ac}
def vP {P:Bd}{w:Bw}{K:Ak}{base:Bm}{c:Cl}(T:Txt K mg c){k:Ah}{F:DF}(d:DfS F P w K mg base true k "_law_same" 2):DfS (qX 2 (b__law_same F)) P w K mg base true (k+1) "_law_same" 2:=by
 refine dq P w base k 9 T rfl ck rfl ?_
 intros
 repeat' first
  |with_reducible exact ck
  |((with_reducible show QE _ _ _);with_reducible first|apply aV|apply JP|apply XY|apply aBt|apply aO|(apply aB;first|apply K1|apply K0|apply JZ|apply WS)|apply aC|apply W1|apply XX|apply XZ|apply XU)
  |((with_reducible show _=_);first|exact T.nb ck|exact kZ _|exact rfl|with_unfolding_all rfl)
  |((with_reducible show ZOp _ _ _);with_reducible first|apply SV|apply R0|apply SW)
  |((with_reducible show RoomC _ _ _);first|assumption|exact RoomC.mono (by assumption)|exact RoomC.mono (RoomC.any (by assumption))|exact RoomC.mark (by assumption) _|exact RoomC.mono (RoomC.mark (by assumption) _))
  |((with_reducible show St1 _ _ _ _);exact⟨rfl,rfl⟩)
  |((with_reducible show DfS _ _ _ _ _ _ _ _ _ _);assumption)
  |with_reducible first|apply XT|apply tH|apply f9|apply iF|apply XR|apply W7|(apply JR;first|apply tI|apply sJ)|apply W8|apply tI|apply sJ|apply aNm|apply W3|apply eQ|apply iG|apply W5|apply W4|apply iI|apply iH|apply W6|apply JQ|apply JA
  |((with_reducible apply aSt);case hs=>exact rfl)
  |((with_reducible show ClA _ _ _ _);first|assumption|exact ClA.tr (by assumption))
  |((with_reducible show LmX _ _ _ _ _ _ _ _ _ _);assumption)
  |((with_reducible show DfL _ _ _ _ _ _ _ _ _ _ _ _ _);assumption)
  |((with_reducible show ZF _ _ _ _);first|apply aFn|apply aFn0)
  |exact λ_=>⟨rfl,rfl,rfl⟩
  |(intro h;cases h;done)
  |((with_reducible show ZPass _);first|assumption|exact iX)
  |exact⟨rfl,rfl⟩
  |exact⟨rfl,rfl,rfl⟩
  |apply tH
  |apply f9
  |(intros;rfl)
  |(intro _ h;cases h <;> rfl)
  |decide
  |intro _
def PD {P:Bd}{w:Bw}{K:Ak}{base:Bm}{c:Cl}(T:Txt K mg c)(nd:(xF c).Nodup)(hT:(N9.all λy=>(Dp K y).isSome)=true):∃ F,sO P w K mg base true 8 "law" ["_law_script"] F∧∀ ns:Ab Ai,ns.length≤63→∃ S,F [.lst (ns.map D.int)] [] = .ok (.bl true) S:=by
 refine hv (λ_=>?_) (dq (cm:=true) P w base 0 0 T rfl ck (uM) ?_);refine hv (λ_=>?_) (dq (cm:=true) P w base 1 1 T rfl ck (u0) ?_);refine hv (λ_=>?_) (dq (cm:=true) P w base 2 2 T rfl ck (v9 c) ?_);refine hv (λ_=>?_) (dq (cm:=true) P w base 2 3 T rfl ck (pJ) ?_);refine hv (λ_=>?_) (dq (cm:=true) P w base 3 4 T rfl ck (vI c) ?_);refine hv (λ_=>?_) (dq (cm:=true) P w base 3 5 T rfl ck (yQ c) ?_);refine hv (λ_=>?_) (dq (cm:=true) P w base 4 6 T rfl ck (yK c) ?_);refine hv (λ_=>?_) (dq (cm:=false) P w base 0 7 T rfl ck (vH c) ?_);refine hv (λ_=>?_) (dqL (cm:=true) (g:=b__law_refused c) (N:=2) P w base 6 6 0 8 T rfl ck ?_);have s0:DfS (tO 0) P w K mg base true 0 "_law_same" 2:=⟨KS (T.src 9 rfl)⟩;have d__law_same:DfS S__law_same P w K mg base true 4 "_law_same" 2:=kS▸vP T (vP T (vP T (vP T s0)));refine hv (λ_=>?_) (dq (cm:=true) P w base 0 10 T rfl ck (kO) ?_);refine hv (λ_=>?_) (dq (cm:=true) P w base 0 11 T rfl ck (pI) ?_);refine hv (λ_=>?_) (dq (cm:=true) P w base 0 12 T rfl ck (kQ) ?_);refine hv (λ_=>?_) (dq (cm:=true) P w base 1 13 T rfl ck (vY) ?_);refine hv (λ_=>?_) (dq (cm:=true) P w base 0 14 T rfl ck (j9) ?_);refine hv (λ_=>?_) (dq (cm:=true) P w base 1 15 T rfl ck (kR) ?_);refine hv (λ_=>?_) (dq (cm:=true) P w base 2 16 T rfl ck (pH) ?_);refine hv (λ_=>?_) (dq (cm:=true) P w base 1 17 T rfl ck (uJ) ?_);refine hv (λ_=>?_) (dq (cm:=true) P w base 1 18 T rfl ck (jW) ?_);refine hv (λ_=>?_) (dq (cm:=true) P w base 0 19 T rfl ck (uR) ?_);refine hv (λ_=>?_) (dq (cm:=true) P w base 0 20 T rfl ck (jA) ?_);refine hv (λ_=>?_) (dq (cm:=true) P w base 0 21 T rfl ck (uS) ?_);refine⟨_,dqP 7 22 T rfl ck ?_,VJ c nd⟩
 all_goals
  intros
  repeat' first
   |with_reducible exact ck
   |((with_reducible show QE _ _ _);with_reducible first|apply aV|apply D2|apply JP|apply D6|apply XY|apply aBt|apply aGi|apply aCl|apply aO|apply aN|(apply aB;first|apply K1|apply K0|apply JZ|apply HM|apply SY|apply SZ|apply US|apply WS|apply SX)|(apply aT;first|apply FK|apply HE)|apply aC|apply W1|apply D4|apply BJ|apply D3|apply EF|apply U8|apply EG|apply XX|apply U6|apply D5|apply EH|apply XZ|apply XU|apply EE|apply BI|apply D1|apply BG|apply D0|apply cQ|(apply sI;(case slot=>apply PySem.F.slot_list_append);(case' hm=>first|apply UR))|(apply sI;(case slot=>apply Pe);(case' hm=>first|apply FG))|(apply sI;(case slot=>apply Pf);(case' hm=>first|apply FH))|(apply sI;(case slot=>apply PySem.F.slot_list_pop);(case' hm=>first|apply FJ))|apply LY)
   |((with_reducible show _=_);first|exact T.nb ck|with_reducible apply Pl|with_reducible apply OM|with_reducible apply Pm|with_reducible apply Po|with_reducible apply Qy|exact kZ _|exact rfl|with_unfolding_all rfl)
   |((with_reducible show ZOp _ _ _);with_reducible first|apply HB|apply HL|apply HG|apply HC|apply HF|apply HJ|apply AK|apply AJ|apply AH|apply HH|apply SV|apply R0|apply SW|apply FI|apply HD)
   |((with_reducible show RoomC _ _ _);first|assumption|exact RoomC.mono (by assumption)|exact RoomC.mono (RoomC.any (by assumption))|exact RoomC.mark (by assumption) _|exact RoomC.mono (RoomC.mark (by assumption) _))
   |((with_reducible show St1 _ _ _ _);exact⟨rfl,rfl⟩)
   |((with_reducible show DfS _ _ _ _ _ _ _ _ _ _);assumption)
   |with_reducible first|apply XT|apply tH|apply f9|apply iF|apply XR|apply aK0|apply BM|apply BL|apply DC|apply DP|apply W7|apply UD|(apply JR;first|apply iJ|apply tI|apply WA|apply sJ)|apply W8|apply iJ|apply tI|apply WA|apply sJ|apply aNm|apply W3|apply D8|apply eQ|apply iG|apply DB|apply U9|apply W5|apply W4|apply D9|apply iI|apply iH|apply W6|apply JQ|apply BN|apply DH|apply UC|apply aP2|apply aRs|apply aTr|apply HI|apply AI|apply HK|apply JA|apply Pl|apply OM|apply Pm|apply Po|apply Qy
   |((with_reducible apply aCs);case hsw=>exact rfl)
   |((with_reducible apply aSt);case hs=>exact rfl)
   |with_reducible apply DD
   |exact T.cls
   |exact T.cl (by kernel_rfl)
   |exact T.rz (by kernel_rfl)
   |exact T.ct
   |exact T.gi (by kernel_rfl)
   |((with_reducible apply HS);(case D=>assumption))
   |((with_reducible show ClA _ _ _ _);first|assumption|exact ClA.tr (by assumption))
   |((with_reducible show LmX _ _ _ _ _ _ _ _ _ _);assumption)
   |((with_reducible show DfL _ _ _ _ _ _ _ _ _ _ _ _ _);assumption)
   |((with_reducible show LmK _ _);refine lmK hT (by assumption) ?_ rfl)
   |((with_reducible show ZF _ _ _ _);first|apply aFn|apply aFn0)
   |exact λ_=>⟨rfl,rfl,rfl⟩
   |(intro h;cases h;done)
   |((with_reducible show ZPass _);first|assumption|exact iX)
   |exact⟨rfl,rfl⟩
   |exact⟨rfl,rfl,rfl⟩
   |apply tH
   |apply f9
   |decide
   |(intros;rfl)
   |(intro _ h;cases h <;> rfl)
   |intro _
end _K
namespace _K
open PySem PySem.Spec PyProof.Rows _L _D
variable {K:Ak}
def bdf:BdF top tab:=by
 repeat (refine⟨?_,?_⟩;(intro _ _ _ _ _ _ us h;first|(obtain⟨_,rfl⟩:=us1 h;rfl)|(obtain⟨_,_,rfl⟩:=us2 h;rfl)|(obtain⟨_,_,_,rfl⟩:=us3 h;rfl)))
 exact trivial
def R4 {C0 C1 C2 C3 C4 C5 C6 C7 C8 C9 C10 C11:Ad}(q0:Ds K Ch "FarError" = Aa (Aa (.ref C0)))(q1:Ds K Ch "NoPoint" = Aa (Aa (.ref C1)))(q2:Ds K Ch "NoLot" = Aa (Aa (.ref C2)))(q3:Ds K Ch "NoNumber" = Aa (Aa (.ref C3)))(q4:Ds K Ch "NoCircle" = Aa (Aa (.ref C4)))(q5:Ds K Ch "NoMarks" = Aa (Aa (.ref C5)))(q6:Ds K Ch "NoFars" = Aa (Aa (.ref C6)))(q7:Ds K Ch "NoText" = Aa (Aa (.ref C7)))(q8:Ds K Ch "NoLine" = Aa (Aa (.ref C8)))(q9:Ds K Ch "NoDeed" = Aa (Aa (.ref C9)))(q10:Ds K Ch "Alike" = Aa (Aa (.ref C10)))(q11:Ds K Ch "TooMany" = Aa (Aa (.ref C11))):iY K (clt ⟨C0,C1,C2,C3,C4,C5,C6,C7,C8,C9,C10,C11⟩):=⟨q0,q1,q2,q3,q4,q5,q6,q7,q8,q9,q10,q11,trivial⟩
def R5 {k0 k1:Su}(g0:Ds K Ch "LEAST_NUMBER" = Aa (Aa (.int (-1000) k0)))(g1:Ds K Ch "MOST_NUMBER" = Aa (Aa (.int (1000) k1))):iZ K cst:=⟨⟨_,g0⟩,⟨_,g1⟩,trivial⟩
def NB {P:Bd}{w:Bw}{mg:Ar→Al Ac}{c:Cl}{fa:Ad}(T:Txt K mg c)(nd:(xF c).Nodup)(hT:(N9.all λy=>(Dp K y).isSome)=true)(hfa:mg "law" = Aa (.ref fa)) :
  ∃ fd:Fb,(∀ (s:Ag) (v:Ac),Ln s fd ⟨[v],[]⟩ [("_law_script",v)])∧∀ base:Bm,K.In base→base.Ns Ch mg→FnOk P w K mg base (CXd P w) 8 fa fd ["_law_script"] (sL K):=
 PF (T.src 22 rfl) hfa (λkV doc pm an cdv ct s v=>.of_eq rfl) λbase=>PD T nd hT
end _K
theorem PySem.W.Fast.tw9436496724825675461 : True := trivial
theorem PySem.W.Fast.tw9791008011521523604 : True := trivial
theorem PySem.W.Fast.tw9684230541016599040 : True := trivial
theorem PySem.W.Fast.tw17451438313676844763 : True := trivial
theorem PySem.W.Fast.tw2327492409397054688 : True := trivial
theorem PySem.W.Fast.tw11811928333325073317 : True := trivial
theorem PySem.W.Fast.tw16277247433375224328 : True := trivial
theorem PySem.W.Fast.tw1075792532497728825 : True := trivial
theorem PySem.W.Fast.tw15868465933443986639 : True := trivial
theorem PySem.W.Fast.tw10198908980886199231 : True := trivial
theorem PySem.W.Fast.tw7384272121754800974 : True := trivial
theorem PySem.W.Fast.tw8148867532149685202 : True := trivial
theorem PySem.W.Fast.tw1311257168216694993 : True := trivial
theorem PySem.W.Fast.tw16832813320141300285 : True := trivial
theorem PySem.W.Fast.tw8216055151528093883 : True := trivial
theorem PySem.W.Fast.tw6260798530193491901 : True := trivial
theorem PySem.W.Fast.tw8497474463568122837 : True := trivial
theorem PySem.W.Fast.tw1616519104053211579 : True := trivial
theorem PySem.W.Fast.tw1683062977452407920 : True := trivial
theorem PySem.W.Fast.tw9495733488179422153 : True := trivial
theorem PySem.W.Fast.tw2388078172914347086 : True := trivial
theorem PySem.W.Fast.tw2398187254303570179 : True := trivial
theorem PySem.W.Fast.tw4021727609764392601 : True := trivial
theorem PySem.W.Fast.tw18286163003232395361 : True := trivial
theorem PySem.W.Fast.tw13910357495386677055 : True := trivial
theorem PySem.W.Fast.tw2685260158856393599 : True := trivial
theorem PySem.W.Fast.tw6317510373380501187 : True := trivial
theorem PySem.W.Fast.tw13503549735889960546 : True := trivial
theorem PySem.W.Fast.tw9651549738752667895 : True := trivial
theorem PySem.W.Fast.tw2082990208813019762 : True := trivial
theorem PySem.W.Fast.tw12199572593136131156 : True := trivial
theorem PySem.W.Fast.tw265633259575691813 : True := trivial
theorem PySem.W.Fast.tw2770429679468148756 : True := trivial
theorem PySem.W.Fast.tw8254755830716586942 : True := trivial
theorem PySem.W.Fast.tw8553798030154286001 : True := trivial
theorem PySem.W.Fast.tw17309998455754477651 : True := trivial
theorem PySem.W.Fast.tw14536371911399461872 : True := trivial
theorem PySem.W.Fast.tw6708273856008737512 : True := trivial
theorem PySem.W.Fast.tw7408909436497091408 : True := trivial
theorem PySem.W.Fast.tw12413754574454063383 : True := trivial
theorem PySem.W.Fast.tw7114624159589714772 : True := trivial
theorem PySem.W.Fast.tw14540916953932491299 : True := trivial
theorem PySem.W.Fast.tw16723304473145641833 : True := trivial
theorem PySem.W.Fast.tw13203085369638320485 : True := trivial
theorem PySem.W.Fast.tw11182870041219210663 : True := trivial
theorem PySem.W.Fast.tw2209141155120721176 : True := trivial
theorem PySem.W.Fast.tw1408626997205046554 : True := trivial
theorem PySem.W.Fast.tw9726898375388796921 : True := trivial
theorem PySem.W.Fast.tw17176682613277286289 : True := trivial
theorem PySem.W.Fast.tw17729091500598326682 : True := trivial
theorem PySem.W.Fast.tw4528642011763644 : True := trivial
theorem PySem.W.Fast.tw7108416089583925001 : True := trivial
theorem PySem.W.Fast.tw17210641120353355012 : True := trivial
theorem PySem.W.Fast.tw5740146449213605264 : True := trivial
theorem PySem.W.Fast.tw1041802445027514367 : True := trivial
theorem PySem.W.Fast.tw16280073838880066217 : True := trivial
theorem PySem.W.Fast.tw2646000237479955732 : True := trivial
theorem PySem.W.Fast.tw5208809054487887583 : True := trivial
theorem PySem.W.Fast.tw5916381357676830728 : True := trivial
theorem PySem.W.Fast.tw11468360065896996720 : True := trivial
theorem PySem.W.Fast.tw10400820325961591674 : True := trivial
theorem PySem.W.Fast.tw4276742883327661428 : True := trivial
theorem PySem.W.Fast.tw15551956831984909669 : True := trivial
theorem PySem.W.Fast.tw7864254083768637240 : True := trivial
theorem PySem.W.Fast.tw9104619152495568303 : True := trivial
theorem PySem.W.Fast.tw11683434678682508640 : True := trivial
theorem PySem.W.Fast.tw3089975902772229283 : True := trivial
theorem PySem.W.Fast.tw9273112929976904322 : True := trivial
theorem PySem.W.Fast.tw6048461544679399872 : True := trivial
theorem PySem.W.Fast.tw6232375197872299977 : True := trivial
theorem PySem.W.Fast.tw7432254336957938694 : True := trivial
theorem PySem.W.Fast.tw11489884288228373721 : True := trivial
theorem PySem.W.Fast.tw10423384858346391628 : True := trivial
theorem PySem.W.Fast.tw13544948266722259833 : True := trivial
theorem PySem.W.Fast.tw8774972266072901220 : True := trivial
theorem PySem.W.Fast.tw10043365272665377499 : True := trivial
theorem PySem.W.Fast.tw17466422320337576128 : True := trivial
theorem PySem.W.Fast.tw13807348758698266935 : True := trivial
theorem PySem.W.Fast.tw2124394071481005971 : True := trivial
theorem PySem.W.Fast.tw15099263989734944184 : True := trivial
theorem PySem.W.Fast.tw4325805319330108445 : True := trivial
theorem PySem.W.Fast.tw15392448278295727872 : True := trivial
theorem PySem.W.Fast.tw199241129357233066 : True := trivial
theorem PySem.W.Fast.tw16314204237000986189 : True := trivial
theorem PySem.W.Fast.tw7802622348209252216 : True := trivial
theorem PySem.W.Fast.tw14196537942864776443 : True := trivial
theorem PySem.W.Fast.tw3705031754206424875 : True := trivial
theorem PySem.W.Fast.tw365458657409850879 : True := trivial
theorem PySem.W.Fast.tw16199152741820573033 : True := trivial
theorem PySem.W.Fast.tw2081471839147109370 : True := trivial
theorem PySem.W.Fast.tw10029535068309717796 : True := trivial
theorem PySem.W.Fast.tw11322495404119461640 : True := trivial
theorem PySem.W.Fast.tw6904326938972055781 : True := trivial
theorem PySem.W.Fast.tw12716290946936125510 : True := trivial
theorem PySem.W.Fast.tw6134160417296017871 : True := trivial
theorem PySem.W.Fast.tw10805920300586444405 : True := trivial
theorem PySem.W.Fast.tw16963844150700471938 : True := trivial
theorem PySem.W.Fast.tw9959265174140381259 : True := trivial
theorem PySem.W.Fast.tw11190752192743079860 : True := trivial
theorem PySem.W.Fast.tw6764505861120174871 : True := trivial
theorem PySem.W.Fast.tw5139872839189834875 : True := trivial
theorem PySem.W.Fast.tw3090275874904478214 : True := trivial
theorem PySem.W.Fast.tw9725937741350838809 : True := trivial
theorem PySem.W.Fast.tw7668039848987572063 : True := trivial
theorem PySem.W.Fast.tw14216933337836224602 : True := trivial
theorem PySem.W.Fast.tw10037447738991210141 : True := trivial
theorem PySem.W.Fast.tw15898820559650175180 : True := trivial
theorem PySem.W.Fast.tw17871473160551075832 : True := trivial
theorem PySem.W.Fast.tw5179898832658228980 : True := trivial
theorem PySem.W.Fast.tw10522558781655581536 : True := trivial
theorem PySem.W.Fast.tw9482064770457907124 : True := trivial
theorem PySem.W.Fast.tw7509820754678170376 : True := trivial
theorem PySem.W.Fast.tw17420935889541689035 : True := trivial
theorem PySem.W.Fast.tw4534918211194106407 : True := trivial
theorem PySem.W.Fast.tw5255139693552059358 : True := trivial
theorem PySem.W.Fast.tw15810877029773245723 : True := trivial
theorem PySem.W.Fast.tw13451335712705330212 : True := trivial
theorem PySem.W.Fast.tw6240657562717224511 : True := trivial
theorem PySem.W.Fast.tw6992239435324976502 : True := trivial
theorem PySem.W.Fast.tw8230376678228617853 : True := trivial
theorem PySem.W.Fast.tw17959253321540644791 : True := trivial
theorem PySem.W.Fast.tw1546130973982895640 : True := trivial
theorem PySem.W.Fast.tw10680619419173821812 : True := trivial
theorem PySem.W.Fast.tw16657230006085999540 : True := trivial
theorem PySem.W.Fast.tw6174716617471275255 : True := trivial
theorem PySem.W.Fast.tw11179133241152784246 : True := trivial
theorem PySem.W.Fast.tw316313276587102169 : True := trivial
theorem PySem.W.Fast.tw11010622256878458605 : True := trivial
theorem PySem.W.Fast.tw9916344996267947691 : True := trivial
theorem PySem.W.Fast.tw2751075854598774404 : True := trivial
theorem PySem.W.Fast.tw17647109048380326244 : True := trivial
theorem PySem.W.Fast.tw10092348923005246908 : True := trivial
theorem PySem.W.Fast.tw9401511160656090559 : True := trivial
theorem PySem.W.Fast.tw13175758749292324019 : True := trivial
theorem PySem.W.Fast.tw14081893313274373360 : True := trivial
theorem PySem.W.Fast.tw10154878683950871518 : True := trivial
theorem PySem.W.Fast.tw8122170836143446916 : True := trivial
theorem PySem.W.Fast.tw12462567154924676034 : True := trivial
theorem PySem.W.Fast.tw10298415254128813108 : True := trivial
theorem PySem.W.Fast.tw1396425723978218774 : True := trivial
theorem PySem.W.Fast.tw8226184468645246606 : True := trivial
theorem PySem.W.Fast.tw3778872543020973837 : True := trivial
theorem PySem.W.Fast.tw3057233459210083633 : True := trivial
theorem PySem.W.Fast.tw17359409901887593412 : True := trivial
theorem PySem.W.Fast.tw10536797232606576955 : True := trivial
theorem PySem.W.Fast.tw16781398757527003236 : True := trivial
theorem PySem.W.Fast.tw318706663007220178 : True := trivial
theorem PySem.W.Fast.tw15437067222104138350 : True := trivial
theorem PySem.W.Fast.tw13537142804528710383 : True := trivial
theorem PySem.W.Fast.tw10195222764593637665 : True := trivial
theorem PySem.W.Fast.tw16492429506089770087 : True := trivial
theorem PySem.W.Fast.tw1929065988287085846 : True := trivial
theorem PySem.W.Fast.tw7758176520848882235 : True := trivial
theorem PySem.W.Fast.tw5636783582115041694 : True := trivial
theorem PySem.W.Fast.tw3974500153526893427 : True := trivial
theorem PySem.W.Fast.tw17060448788343541591 : True := trivial
theorem PySem.W.Fast.tw18026166234199827022 : True := trivial
theorem PySem.W.Fast.tw4573872530901084734 : True := trivial
theorem PySem.W.Fast.tw209682063544075132 : True := trivial
theorem PySem.W.Fast.tw8039392361060044261 : True := trivial
theorem PySem.W.Fast.tw11293776062858409710 : True := trivial
theorem PySem.W.Fast.tw8208336572000503525 : True := trivial
theorem PySem.W.Fast.tw16053824205071825936 : True := trivial
theorem PySem.W.Fast.tw3397715910473436908 : True := trivial
theorem PySem.W.Fast.tw11792413787299657690 : True := trivial
theorem PySem.W.Fast.tw3606725498764931878 : True := trivial
theorem PySem.W.Fast.tw8348777541252000673 : True := trivial
theorem PySem.W.Fast.tw6086905190749458473 : True := trivial
theorem PySem.W.Fast.tw17089378754229185648 : True := trivial
theorem PySem.W.Fast.tw13621392886912371839 : True := trivial
theorem PySem.W.Fast.tw6956667171564433891 : True := trivial
theorem PySem.W.Fast.tw15196050724020916423 : True := trivial
theorem PySem.W.Fast.tw12820951810145157931 : True := trivial
theorem PySem.W.Fast.tw1400891303244491827 : True := trivial
theorem PySem.W.Fast.tw4266619364482384659 : True := trivial
theorem PySem.W.Fast.tw6566561508439439481 : True := trivial
theorem PySem.W.Fast.tw8426282457086075950 : True := trivial
theorem PySem.W.Fast.tw5742296363191165354 : True := trivial
theorem PySem.W.Fast.tw3665556507323156535 : True := trivial
theorem PySem.W.Fast.tw15489801851162484990 : True := trivial
theorem PySem.W.Fast.tw11004096276334179910 : True := trivial
theorem PySem.W.Fast.tw9626774959111079518 : True := trivial
theorem PySem.W.Fast.tw4182369378898051609 : True := trivial
theorem PySem.W.Fast.tw12629435366812762017 : True := trivial
theorem PySem.W.Fast.tw3503640513292709526 : True := trivial
theorem PySem.W.Fast.tw6942300648363906348 : True := trivial
theorem PySem.W.Fast.tw3211075516067642502 : True := trivial
theorem PySem.W.Fast.tw1434784683604216184 : True := trivial
theorem PySem.W.Fast.tw15979592309420410771 : True := trivial
theorem PySem.W.Fast.tw8938320731178493561 : True := trivial
theorem PySem.W.Fast.tw195280394005133308 : True := trivial
theorem PySem.W.Fast.tw10053985981916907457 : True := trivial
theorem PySem.W.Fast.tw3482055292521314277 : True := trivial
theorem PySem.W.Fast.tw13403208972862338927 : True := trivial
theorem PySem.W.Fast.tw9124988439275380191 : True := trivial
theorem PySem.W.Fast.tw8334453644531383366 : True := trivial
theorem PySem.W.Fast.tw446421125524466170 : True := trivial
theorem PySem.W.Fast.tw2482938345130509220 : True := trivial
theorem PySem.W.Fast.tw6491077867548289199 : True := trivial
theorem PySem.W.Fast.tw4016491043102223203 : True := trivial
theorem PySem.W.Fast.tw7653431236012803098 : True := trivial
theorem PySem.W.Fast.tw1817185263413682612 : True := trivial
theorem PySem.W.Fast.tw4359526999471678530 : True := trivial
theorem PySem.W.Fast.tw16324380232919666359 : True := trivial
theorem PySem.W.Fast.tw12149901460016665980 : True := trivial
theorem PySem.W.Fast.tw7414026907853137155 : True := trivial
theorem PySem.W.Fast.tw13310982974332480808 : True := trivial
theorem PySem.W.Fast.tw3028577976398199944 : True := trivial
theorem PySem.W.Fast.tw10877374220319892184 : True := trivial
theorem PySem.W.Fast.tw2617400514614157767 : True := trivial
theorem PySem.W.Fast.tw10981094616444832684 : True := trivial
theorem PySem.W.Fast.tw2020434544781678370 : True := trivial
theorem PySem.W.Fast.tw3023443418192978137 : True := trivial
theorem PySem.W.Fast.tw17624628180480318860 : True := trivial
theorem PySem.W.Fast.tw3234807391190530757 : True := trivial
theorem PySem.W.Fast.tw327896105664738649 : True := trivial
theorem PySem.W.Fast.tw8393115836579295848 : True := trivial
theorem PySem.W.Fast.tw6542785230004863379 : True := trivial
theorem PySem.W.Fast.tw13366643798114419214 : True := trivial
theorem PySem.W.Fast.tw17978164831386338942 : True := trivial
theorem PySem.W.Fast.tw13536049422385346261 : True := trivial
theorem PySem.W.Fast.tw14664341001945327196 : True := trivial
theorem PySem.W.Fast.tw8153876060051127497 : True := trivial
theorem PySem.W.Fast.tw8978094898367706859 : True := trivial
theorem PySem.W.Fast.tw5726528264150687122 : True := trivial
theorem PySem.W.Fast.tw3024135962867566597 : True := trivial
theorem PySem.W.Fast.tw12169353199097107173 : True := trivial
theorem PySem.W.Fast.tw6543494047309092410 : True := trivial
theorem PySem.W.Fast.tw5236091055762318065 : True := trivial
theorem PySem.W.Fast.tw14118408898013715912 : True := trivial
theorem PySem.W.Fast.tw16549350830228267822 : True := trivial
theorem PySem.W.Fast.tw16642024198360726955 : True := trivial
theorem PySem.W.Fast.tw5448277155559744959 : True := trivial
theorem PySem.W.Fast.tw10572038293834519615 : True := trivial
theorem PySem.W.Fast.tw4025865885472855293 : True := trivial
theorem PySem.W.Fast.tw4447320471242722021 : True := trivial
theorem PySem.W.Fast.tw3182480931912911332 : True := trivial
theorem PySem.W.Fast.tw11045349409171899589 : True := trivial
theorem PySem.W.Fast.tw18409828757648223385 : True := trivial
theorem PySem.W.Fast.tw12099176007234401798 : True := trivial
theorem PySem.W.Fast.tw16487776596359866728 : True := trivial
theorem PySem.W.Fast.tw1864432450232897535 : True := trivial
theorem PySem.W.Fast.tw12006823774669845498 : True := trivial
theorem PySem.W.Fast.tw2148358093565296970 : True := trivial
theorem PySem.W.Fast.tw12649939059414450887 : True := trivial
theorem PySem.W.Fast.tw17810083080017496762 : True := trivial
theorem PySem.W.Fast.tw3381496111553693666 : True := trivial
theorem PySem.W.Fast.tw9895282596180468572 : True := trivial
theorem PySem.W.Fast.tw16888704339426626519 : True := trivial
theorem PySem.W.Fast.tw739527115209439730 : True := trivial
theorem PySem.W.Fast.tw10316096256094462417 : True := trivial
theorem PySem.W.Fast.tw10493048982041216394 : True := trivial
theorem PySem.W.Fast.tw6449624100264869242 : True := trivial
theorem PySem.W.Fast.tw3559690397714636711 : True := trivial
theorem PySem.W.Fast.tw471041813107901721 : True := trivial
theorem PySem.W.Fast.tw9629248510237546282 : True := trivial
theorem PySem.W.Fast.tw10917436585024189740 : True := trivial
theorem PySem.W.Fast.tw17677462502385543283 : True := trivial
theorem PySem.W.Fast.tw16669194715008529430 : True := trivial
theorem PySem.W.Fast.tw9856483929460889698 : True := trivial
theorem PySem.W.Fast.tw3271701520228183360 : True := trivial
theorem PySem.W.Fast.tw18354080970071330788 : True := trivial
theorem PySem.W.Fast.tw5190808211088606642 : True := trivial
theorem PySem.W.Fast.tw14452876435333131687 : True := trivial
theorem PySem.W.Fast.tw3703407956271361216 : True := trivial
theorem PySem.W.Fast.tw9272364543349950736 : True := trivial
theorem PySem.W.Fast.tw11733021969931159740 : True := trivial
theorem PySem.W.Fast.tw12288592774200187979 : True := trivial
theorem PySem.W.Fast.tw8760152630823950553 : True := trivial
theorem PySem.W.Fast.tw8050884824290285903 : True := trivial
theorem PySem.W.Fast.tw1749085478839563793 : True := trivial
theorem PySem.W.Fast.tw16570268756310827704 : True := trivial
theorem PySem.W.Fast.tw11765004176572024447 : True := trivial
theorem PySem.W.Fast.tw708085859212468233 : True := trivial
theorem PySem.W.Fast.tw17208075676550470655 : True := trivial
theorem PySem.W.Fast.tw4525866925005177163 : True := trivial
theorem PySem.W.Fast.tw17155453467165059486 : True := trivial
theorem PySem.W.Fast.tw571041988727762336 : True := trivial
theorem PySem.W.Fast.tw2887868952378540944 : True := trivial
theorem PySem.W.Fast.tw13061602587236758448 : True := trivial
theorem PySem.W.Fast.tw16926413902311075846 : True := trivial
theorem PySem.W.Fast.tw10938053678029742175 : True := trivial
theorem PySem.W.Fast.tw13381487497328236401 : True := trivial
theorem PySem.W.Fast.tw345063903579567143 : True := trivial
theorem PySem.W.Fast.tw17965296009860592816 : True := trivial
theorem PySem.W.Fast.tw11866355880192107676 : True := trivial
theorem PySem.W.Fast.tw1076574244177554506 : True := trivial
theorem PySem.W.Fast.tw8999628490148544747 : True := trivial
theorem PySem.W.Fast.tw13108156767806666020 : True := trivial
theorem PySem.W.Fast.tw16884521518123123633 : True := trivial
theorem PySem.W.Fast.tw4631030587801313249 : True := trivial
theorem PySem.W.Fast.tw17063847995167618887 : True := trivial
theorem PySem.W.Fast.tw9221231297254765810 : True := trivial
theorem PySem.W.Fast.tw10003968303982155965 : True := trivial
theorem PySem.W.Fast.tw5557716287949210095 : True := trivial
theorem PySem.W.Fast.tw18073482448250677026 : True := trivial
theorem PySem.W.Fast.tw18333031173679427103 : True := trivial
theorem PySem.W.Fast.tw3924202982138037043 : True := trivial
theorem PySem.W.Fast.tw11305747609776965402 : True := trivial
theorem PySem.W.Fast.tw9496513441508462961 : True := trivial
theorem PySem.W.Fast.tw12814217806090203152 : True := trivial
theorem PySem.W.Fast.tw3454508533273596001 : True := trivial
theorem PySem.W.Fast.tw10081845305088407985 : True := trivial
theorem PySem.W.Fast.tw14677699098916850145 : True := trivial
theorem PySem.W.Fast.tw2688270799038733570 : True := trivial
theorem PySem.W.Fast.tw5213682807641267695 : True := trivial
theorem PySem.W.Fast.tw58853954546404309 : True := trivial
theorem PySem.W.Fast.tw1199079974457567182 : True := trivial
theorem PySem.W.Fast.tw13511393094770027355 : True := trivial
theorem PySem.W.Fast.tw16570939137896694351 : True := trivial
theorem PySem.W.Fast.tw7881853883858269016 : True := trivial
theorem PySem.W.Fast.tw4216044615924100842 : True := trivial
theorem PySem.W.Fast.tw151608749175446141 : True := trivial
theorem PySem.W.Fast.tw12545760066136190681 : True := trivial
theorem PySem.W.Fast.tw17476393346170722833 : True := trivial
theorem PySem.W.Fast.tw5679744021255306501 : True := trivial
theorem PySem.W.Fast.tw2577147908877292237 : True := trivial
theorem PySem.W.Fast.tw715938497388983998 : True := trivial
theorem PySem.W.Fast.tw16013003898117121228 : True := trivial
theorem PySem.W.Fast.tw1639200380044807551 : True := trivial
theorem PySem.W.Fast.tw3000573580474488850 : True := trivial
theorem PySem.W.Fast.tw12327414697126244031 : True := trivial
theorem PySem.W.Fast.tw11180433634841504344 : True := trivial
theorem PySem.W.Fast.tw13619920776763223441 : True := trivial
theorem PySem.W.Fast.tw9907647631245525145 : True := trivial
theorem PySem.W.Fast.tw7564537704877451450 : True := trivial
theorem PySem.W.Fast.tw8589903587195814171 : True := trivial
theorem PySem.W.Fast.tw580887037322412673 : True := trivial
theorem PySem.W.Fast.tw11727040803776324927 : True := trivial
theorem PySem.W.Fast.tw10673156742137249960 : True := trivial
theorem PySem.W.Fast.tw10112264211602091445 : True := trivial
theorem PySem.W.Fast.tw15855980330225973100 : True := trivial
theorem PySem.W.Fast.tw565963416716190938 : True := trivial
theorem PySem.W.Fast.tw15211535169346117066 : True := trivial
theorem PySem.W.Fast.tw14749354713706363366 : True := trivial
theorem PySem.W.Fast.tw5420797077013458447 : True := trivial
theorem PySem.W.Fast.tw8367234959591129637 : True := trivial
open PySem PySem.W PyProof.Rows
set_option maxRecDepth 100000 in
set_option maxHeartbeats 0 in
theorem PySem.Challenge.cw_fewdistances_k82_squares_told_and_counte_holds : PySem.Challenge.rw_fewdistances_k82_squares_told_and_counte.Holds := by
 w_on;o_law;k_head;(case hw=>w_witness2)
 k_fill
 refine _D.HA (l:=Ma) (k:=8) (x:="_law_script") rfl rfl ⟨rfl,by decide,by decide,rfl⟩ (λ_=>by kernel_rfl) (λw h Y=>PySem.W.km_in_of Y) ?F
 case F =>
  intro w mg fa h KX G hmg
  refine' _K.NB (_D.H8 _K.bdf ?hp rfl KX G ?s ?z (_K.R4 ?q0 ?q1 ?q2 ?q3 ?q4 ?q5 ?q6 ?q7 ?q8 ?q9 ?q10 ?q11) (_K.R5 ?gi0 ?gi1) ?e1 ?e2 ?e3 ?e4 ?e5 ?e6) ?nd ?hT hmg
  (case s=>(repeat (refine' ⟨_D.SrcF.mk ?a ?l ?c ?k,?_⟩;(case a=>k_is);(case l=>k_is);(case c=>k_is);(case k=>k_is)));exact trivial)
  (case z=>rfl)
  (case q0=>k_is)
  (case q1=>k_is)
  (case q2=>k_is)
  (case q3=>k_is)
  (case q4=>k_is)
  (case q5=>k_is)
  (case q6=>k_is)
  (case q7=>k_is)
  (case q8=>k_is)
  (case q9=>k_is)
  (case q10=>k_is)
  (case q11=>k_is)
  (case gi0=>k_is)
  (case gi1=>k_is)
  (case hp=>intro y hy;revert hy;simp;grind)
  (case e1=>rfl)
  (case e2=>rfl)
  (case e3=>rfl)
  (case e4=>rfl)
  (case e5=>rfl)
  (case e6=>rfl)
  (case nd=>decide)
  (case hT=>rfl)
