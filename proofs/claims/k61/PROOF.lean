import PyProof.Rows.All
import Wide.All
import OpenK.AllK
import Wide.FinOn
import Lean
import PyProof.EqAt
import PyProof.EqKinds
import PyProof.TupleCall
import KE.KLam
import KE.KTryMore
import KE.KIsAll
import PyProof.NeKinds
import PyProof.Rows.CountFlat
import PyProof.Rows.FStr
import PyProof.ZipIter
import PyProof.EnumMake
import PyProof.EnumStmt
import KE.KDictLaws
import PyProof.DictWalks
import PyProof.Rows.SetFrom
import PyProof.SumWalkG
import PyProof.Rows.SumGenD
import PyProof.SeqI2
import KE.KItemsList
import PyProof.SetKind
import PyProof.TupleKey
import KE.KSortTup
import PyProof.ReprRoads
import PyProof.ReprBulk
import PyProof.TupleOfSeq
import PyProof.WalkInts
import PyProof.SeqI3
import PyProof.Rows.RuleDivmod
import KE.KPairComp
import KE.KMinKey
import PyProof.Rows.CallKwBuiltin
import PySem.Challenge.RW_fewdistances_k61_middles_of_circles
set_option Elab.async false
set_option linter.all false
set_option maxRecDepth 100000
set_option maxHeartbeats 0
set_option tactic.hygienic false
set_option bootstrap.genMatcherCode false
set_option genSizeOf false
set_option compiler.extract_closed false
open Array renaming getElem?_toList→AJ,length_toList→Bb,getElem?_eq_some_iff→Bi,getElem?_eq_getElem→Br,toList_push→Eb,getD→Er,mem_toList_iff→Hu,getD_eq_getD_getElem?→Ib,getElem?_eq_none→Ky,size_map→Lx,toList_append→Nd,forIn_toList→Nv,toList→Ro
open Array.Perm renaming refl→Fw
open Bool renaming and_eq_true→A3,false_eq_true→AC,and_eq_true_iff→CG,noConfusion→Ed,false_ne_true→El,not_true→Fl,or_eq_true→HC,false_and→HT,and_false→Lv,not_eq_true'→O1,not_false→Qo,true_or→Rq
open Classical renaming byContradiction→CJ,choose_spec→EK,choose→Ho
open False renaming elim→An
open ForInStep renaming yield→HB
open Int renaming toNat_natCast→Dz,mul_ediv_cancel_left→E2,emod_lt_of_pos→EC,gcd→EH,le_refl→EO,mul_fdiv_cancel→Fn,emod_nonneg→Fu,not_lt→HQ,natAbs_natCast→Im,le_trans→Jx,le_of_lt→Jy,mul_eq_zero→Lb,natAbs_mul→Mb,natAbs_of_nonneg→Mi,sub_zero→NE,mul_comm→Ol,mul_neg→Pj,le_antisymm→Pw,mul_nonneg→Qs,natAbs_neg→Qt,add_zero→Ry
open List renaming getElem?_eq_getElem→Aq,mem_cons→Aw,getElem?_eq_some_iff→Ay,size_toArray→A0,mem_of_getElem?→A4,length_map→A6,prefix_refl→A8,mem_append_right→AI,mem_cons_of_mem→AM,getElem?_append_left→AO,all_eq_true→AQ,range→AR,mem_cons_self→Ba,getElem?_append_right→Be,getElem?_map→Bh,mem_append_left→Bk,mem_iff_getElem→Bl,length_cons→Bo,not_mem_nil→Bq,mem_append→Bs,length_append→Bt,getElem?_set_ne→Bw,getElem?_set_self→Ca,mem_map→Cc,map_cons→Co,mem_range→Cq,contains_iff_mem→Cz,prefix_append→CS,mem_singleton→CT,pairwise_cons→CU,append_nil→Dx,pairwise_map→Ea,filterMap_cons→Ec,replicate→Ei,mem_filterMap→Em,append_assoc→Ex,lookup_cons→E6,length_eq_zero_iff→EA,find?_cons→EF,any_cons→EG,mem_iff_getElem?→EI,getD→EJ,length_range→EN,map_map→EU,length_take→EZ,getElem_mem→Fa,any_eq_true→Fc,drop_eq_getElem_cons→Fi,of_mem_zip→Fp,nil_append→Fz,map_append→Ga,getElem?_replicate→Gf,all_map→Gj,flatMap_cons→Gx,range_succ_eq_map→Hb,length_drop→Hj,getElem?_eq_none→Hk,lookup→Hl,countP_mono_left→Hq,cons_append→Hr,nodup_cons→H0,eq_nil_of_length_eq_zero→HE,toArray→HI,forIn_nil→HV,nodup_append→IK,getElem?_zip_eq_some→IM,pairwise_iff_getElem→IP,getElem?_take_of_lt→IW,length_erase_of_mem→Jb,getElem_inj→Jf,map_fst_zip→Jp,length_set→Kk,length_nil→Kl,drop_eq_nil_of_le→Kn,forIn_cons→Kq,find?_cons_of_neg→Kr,length_pos_of_mem→Kt,length_singleton→Lg,pairwise_append→Me,mem_erase_of_ne→Mf,length_eraseIdx→Mg,range_eq_range'→Mh,all_cons→Mu,mem_map_of_mem→Nc,map_congr_left→Ng,length_pos_iff→Nh,lookup_append→Nt,mergeSort_nil→Nx,map_nil→Nz,zipIdx_cons→OU,nodup_range→OY,ext_getElem→OZ,countP_cons→Pd,map_id→Pe,range'_succ→Pg,getElem_map→Pi,mem_filter→Pk,zipIdx_nil→Pp,length_zip→Px,range_succ→Qb,Nodup→Qi,range'→RH
open List.Pairwise renaming nil→Gq,imp_of_mem→Ja,filter→RI,take→RP,drop→RQ,imp₂→RS
open List.Perm renaming append_left→Ll,refl→L2,swap→Qp
open Nat renaming lt_of_lt_of_le→Ax,le_refl→A2,ne_of_lt→AL,le_of_ble_eq_true→AX,le_trans→Bm,lt_irrefl→Cj,le_of_lt→CP,ne_of_gt→Dq,zero_le→Ds,lt_succ_self→Ee,le_add_right→E7,le_of_lt_succ→EL,lt_trans→ET,lt_of_le_of_lt→Ge,succ_pos→Gk,not_lt→Ha,mod_lt→Hc,add_right_comm→Il,le_succ→Ix,mul_lt_mul_of_lt_of_le→IC,lt_trichotomy→IR,lt_succ_of_lt→IU,le_of_not_lt→Ji,min_eq_left→Kz,le_mul_of_pos_left→La,ble_eq_true_of_le→Lo,eq_of_beq_eq_true→Lp,gcd→Ni,min_self→Od,zero_add→Of,min_eq_right→Ph,mul_le_mul→Qr,lt_or_ge→Rw,gcd_comm→Rx,ble→RN
open Ne renaming symm→CZ
open Option renaming some→Ab,map_eq_some_iff→AZ,bind_eq_some_iff→Cf,isSome_iff_exists→E0,getD_some→Hm,isSome_map→II,bind_some→Jq,isSome_some→Nq,getD_none→OQ,map_some→Pr,none→RE
open Option.some renaming inj→AW
open Or renaming inr→OS,inl→Qu
open Prod renaming ext→Rz
open PyProof.Rows renaming seqObj→By,slot_tuple_getitem→Cw,envOfC→CY,callWith_type1→Ej,get?_update_seq→Fx,AllBare→Hd,callWith_builtin1→Ht,assignInOrder_cons→Ie,IntsAre→IG,subscriptTail→IH,subscriptTail_builtinR→Kj,isBoolOf→Ks,entry_tuple_getitem→Mp,args_tuple_getitem→No,IsTup→Om,assignInOrder_nil→Oo,entry_list_sort→Py,Subscript_→Qg,lt_int→RM
open PyProof.Rows.F renaming plain_set_update_loop→Eh,entry_set_update_loop→Fv
open PyProof.Rows.IntsAre renaming int_at→Ic
open PyProof.Rows.IsTup renaming new→Op
open PySem renaming Value→Ac,Addr→Ad,wpAny_bind→Af,Shared→Ag,wpAny_pure→Al,wpAny→Ao,Str→Ar,model→As,intKind→Av,Program→A1,Heap→A5,starEach→A9,tupleKeyHash→AA,Expr→AF,Around→AG,World→AH,mainGlobals→AT,Obj→AU,wpAny_holding→Bc,compareOp→Bj,Scope→Ch,binaryOp→Ci,Stmt→Cm,wpAny_newObj_type→Cn,assignEach→Cs,sizeLine_eq→Ct,mem_of_lookup→Cu,wpAny_call_entry→Cy,Pos→CA,wpAny_callSpecial?_slot→CB,cLine→CD,FuncData→CH,Comprehension→CI,SetTable→CK,foldedSetIterable→CL,wpAny_field→CM,wpAny_setState_of→CO,bootBuiltins→Dd,backTo→Df,wpAny_mono→Dh,rawInt→Dj,wpAny_seqItems→Dk,wpAny_pyIter_list→Dm,cellsFrom→Dr,NameKind→Dt,wpAny_Call_Name_kw→Du,codeAny_builtin→Dy,Env→Ek,wpAny_pyIter_tuple→En,wpAny_setField_rec→Eo,wpAny_passesOwn→Es,codeAny→Eu,Builtin→Ew,sysModules→E5,codeAny_mono→E9,IsPair→EB,letOwnedTupleGo→ED,codeAny_call_builtin→EW,wpAny_askSetting→Fb,swappedStores→Fd,swapsWithSole→Fe,behindInMarks→Ff,TriplesOk→Fh,wpAny_attempt→Fj,wpAny_execs_nil→Fo,sliceBounds→Fq,getItem→Gh,wpAny_typeOf→Gi,wpAny_setField→Gn,swapsWith→Gr,ofAClassStatement→Gv,wpAny_storeSet_of→Gw,wpAny_rule→Gy,Model→He,wpAny_standAt→Hf,pyNext→Hg,BindsTo→Hi,Sem→Hs,wpAny_updateSeq_pair→Hw,PassesOwn→Hz,Arguments→H8,wpAny_specialOf→H9,codeAmong→HA,pickOrder→HF,builtinsNs→HK,wpAny_call→HL,IsTupleKey→HN,recursionLimit→HU,firstArgMember→HX,IsZip→HY,tupleKind_room_in1→Ig,pyIter→Ip,wpAny_newFunctionEnv_cells→Iq,IsPart→Ir,wpAny_of_eq→IA,hashByValue→IB,callerA→IJ,wpAny_onRaise→IN,setSearchFrom→IQ,plainId_quiet→IS,wpAny_comprehension_free→IY,noFill_tuple_add→Jg,call_meets→Jh,checkBuiltinCall→Jj,closureFor→Jl,wpAny_isInstance→Jm,wpAny_forIn_list→Jo,wpAny_pyNext_list_item→Kh,bindArgs→Ki,valueAt→Km,codeAny_of_tree→Ku,wpAny_ite_split→Kx,tupleKind→Ld,wpAny_pyNext_list_end→Le,codeAny_call_function→Lf,weight_type_call_type→Lj,builtinLookup_eq_fast→Lm,newFunctionEnv→Lw,wpAny_runValue→Ly,isSubtype_type→Lz,assignInOrder→Mk,bindL→Mm,bindC→Mn,seq_tuple_add→Mo,atKey→Mr,standAt→Ms,intKind_is→Mx,wpAny_setEntries_of→Mz,wpAny_newList→Na,bindName→Nj,setState→Nk,Tok→Nl,concat_meets→Ny,wpAny_assign_Name→On,wpAny_truthy_bool→Oq,wpAny_sequenceKey→Ov,seqIndex?→Ow,slot_list_getitem→Ox,list_append→Oy,ClassData→O0,noteFrame→O6,setFlight→O7,pushCells→O9,searchCouldBeSeen→OC,wpAny_pyIter_slot→OD,wpAny_collect_seq→OG,wpAny_eqBool_int→OH,wpAny_execs_cons→OI,unpackItems→OJ,unaryOp→OK,Result→OO,seqIndex_of→OP,wpAny_letGo→OV,wpAny_pyIter_zip→OX,setAdd→Pb,check_set_init_1→Pc,GenState→Pl,CmpOp→Pm,pushCells_keeps→Pq,typeLookup_type→Ps,wpAny_updateSeq→Pu,wpAny_Name→Qc,typeLookup→Qf,call→Qh,setsByText→Qk,defaultsOf→Qm,setItem→Ra,Keyword→Rf,seqItems?→Rh,Within→Rn,Fin→RU
open PySem.Around renaming under_plainId→Ez,frames_deeper→Hv,under_plain→Nw
open PySem.Builtin.Frozenset renaming updateFrom→HP,sizeOf→Jc,newClass→Qy
open PySem.Builtin.Getset_descriptor renaming descrCheckInstance→Kc,descrNameAndClass→Ko,descrGetter→Mt,descrGet→Oc
open PySem.Builtin.List renaming listLengthHint→HZ,listExtendWith→Ia,listSameRef→Jd,listUpdate→Rv
open PySem.Builtin.ObjectAttr renaming bindTo→IL,dataDescriptor?→Ob,getOf→Rm,find→Rr
open PySem.Builtin.Range renaming rangeSize→Rp
open PySem.Builtin.Slice renaming slicePlaces→Ev,sliceAdjust→Fg,sliceApplied→Iu,slicePartIndex→Qe,sliceFields→Rb
open PySem.Builtin.SmallTypes renaming nextOf→Bp,ownedTupleIsFree→Dg,ownedTupleHandOut→Ft
open PySem.Builtin.Tuple renaming tupleExact→E1,tupleItemsOf→Iw,tupleIsExact→Qw
open PySem.Calls renaming spliced_cons→Gd,Name_function_global→Io,spliced_nil→IF,call_function_entry→IV,evalArgs_plain→Md
open PySem.Challenge renaming pw_fewdistances_k61_middles_of_circles→HR,rw_fewdistances_k61_middles_of_circles→HS
open PySem.Code renaming quiet_builtin→Ik
open PySem.F renaming called_set→Bf,slot_tuple_iterator_next→Ep,args_tuple_add_2→Gb,entry_tuple_add→Gg,slot_tuple_add→Gz,slot_zip_next→HD,args_tuple_iterator_next_1→HM,entry_tuple_iterator_next→HW,excBase_ValueError→Iy,type_list_append→Je,attr_ValueError→Jr,slot_list_count→Js,slot_list_index→Jt,entry_type_call→Ju,plain_list_iadd→Jw,plainAttrs_list→Jz,type_list_count→Ka,type_list_index→Kb,typeCall_set_1→Kv,entry_set_init→Kw,plain_set_new→Li,slot_set_iter→Ln,type_list_pop→Lq,args_list_append_2→Mc,entry_list_append→Mq,slot_list_append→Np,args_zip_next_1→O8,entry_zip_next→OW
open PySem.Heap renaming get?_push_of_some→Ah,lt_size→Au,get?_push_size→Az,get?_update_other→AY,size_push→Bx,get?_update_self→CN,SameBut→Di,get?_none_of_le→Ey,FlyingW→HH,MadeExcOf→Lu,ExtBut→OT,IsTuple→Ru,IsList→RG,HeldW→RK
open PySem.Heap.IsSliceOf renaming new→RO
open PySem.Heap.SameBut renaming update→Do,refl→Gs
open PySem.IsL renaming update→OR
open PySem.MeetsSeq renaming list_index→Rg,EqGives→RB
open PySem.NameKind renaming free→Dc,cell→Hn
open PySem.Obj renaming mapSeq→Ce,mapFields→My,data_mapFields→Nu,putSet→Qj
open PySem.SeqAt.EqAt renaming bool_bool→Qv,same→Re,of_refs→Rt
open PySem.SetTable renaming insertAt→AE,below→AN,sizeAbove→Cp,grown→Dl,runEnd→Dp,insertAt_perm→Ef,fill→Fk,Probe→Gu,toList_insertAt→IZ,tooFull→Jn,laid→Mv,fits→Mw,has→Oe,layClean→OB,slot→Ri
open PySem.SetTable.below renaming go→OA
open PySem.SetTable.layClean renaming free→Eg
open PySem.SetTable.probe renaming go→EM
open PySem.Shared renaming TypeIs→IT,heap→Lh
open PySem.Str renaming ofString→E8
open PySem.Value renaming ref→AS,none→CF,bool→CQ,type→Dv,int→Hx,str→Lc,isStrOf→Qz,builtin→Rc,isInt→RC,float→RD
open PySem.W renaming Frag→Ai,tabIn→Bg,nsIn→Bn,kia_one→Cb,keepIn→Cr,fnOf→De,kitx_list→Et,exmOne→E4,cellsFrom_some→EE,kitOne→EQ,codeIn→ER,tabObj→ES,envX→EV,kas_rev→Fm,kla_obj→Fy,kitx_tuple→Gc,findIn→Gm,kitx_dict→Gp,hideAll→Hy,kas_sort→HG,callWith_K→Ih,methodObj→ID,nsMap_none_of_in→IX,instObj→Kg,CodeHd→Lr,lookIn→Ls,kitAny→Ma,hideAll_get→Mj,mroIn→Ml,mg_of→Nb,of_hideAll→Nm,codeRec_of→Nn,isNs_of_in→Nr,looks_findIn→Oa,kas_descPart→Oh,specialIn→Os,kitx_none→Ot,kitx_bool→Ou,kas_count→OE,kas_place→OF,plainGet→OL,kitx_int→OM,kitx_str→ON,takesIn→Po,kas_desc→Pv,OpenLaw→Pz,KasT→Ql,nsOkIn→Qn,kla_fn→Qq,kas_asc→Rj,kas_tail3→Rk,WalkO→Rl
open PySem.W.Looks renaming ld→RV
open PySem.W.WData renaming int→RT
open PySem.W.WShape renaming has→RJ
open PySem.Walks renaming tuple→RF,list→RL
open PySem.pickOrder renaming go→Og
open Sum renaming inl→Ke,inr→Kf
open True renaming intro→Dw
open _root_ renaming List→Aa,Nat→Aj,Option→Ak,Int→Am,Bool→Ap,if_pos→A7,Array→AB,if_neg→AD,of_decide_eq_true→AK,decide_eq_true_eq→AV,if_false→Bu,if_true→Bv,String→Bz,decide_eq_true→Cd,decide_eq_false→Cg,False→CC,of_decide_eq_false→CV,beq_self_eq_true→CW,or_false→DL,True→EY,Decidable→Go,beq_eq_false_iff_ne→HJ,Unit→IE,beq_iff_eq→Jk,decide_eq_false_iff_not→Jv,decide_true→Pa,decide_eq_decide→Pf,not_or→Qx
noncomputable section
theorem om {p:Prop}(h:p:=by omega):p:=h
theorem kd {p:Prop}[Go p](h:p:=by decide +kernel):p:=h
section
namespace _L
open PySem PySem.Spec PyProof.Rows
abbrev Key:=Sum Am Ar
def gG:Key→Ac→Ap
 |.inl k,v=>RC k v
 |.inr x,v=>Qz x v
def LQ (w:AH):Key→Am
 |.inl k=>hashInt k
 |.inr x=>hashStr w x
theorem zO:∀ {k:Key} {v:Ac},gG k v=true→(∃ i t,k=Ke i∧v=Hx i t)∨(∃ x t,k=Kf x∧v=Lc x t)
 |.inl i,v,h=>by
  obtain⟨t,e⟩:=Value.isInt_shape (k:=i) (v:=v) h;exact .inl ⟨i,t,rfl,e⟩
 |.inr x,v,h=>by
  obtain⟨t,e⟩:=Value.isStrOf_shape (x:=x) (v:=v) h;exact .inr ⟨x,t,rfl,e⟩
theorem aM (i:Am)(t:Nl):gG (.inl i) (.int i t)=true:=by simp[gG,RC]
theorem aP (x:Ar)(t:Nl):gG (.inr x) (.str x t)=true:=by simp[gG,Qz]
theorem GO (a b:Am):decide ((Ke a:Key)=Ke b)=(a == b):=by
 by_cases e:a=b
 ·subst e;simp
 ·have h:¬ (Ke a:Key)=Ke b:=fun q=>e (Sum.inl.inj q)
  rw[Cg h];exact(HJ.mpr e).symm
theorem GR (a b:Ar):decide ((Kf a:Key)=Kf b)=decide (a=b):=by
 by_cases e:a=b
 ·subst e;simp
 ·have h:¬ (Kf a:Key)=Kf b:=fun q=>e (Sum.inr.inj q)
  rw[Cg h,Cg e]
theorem GP (a:Am)(b:Ar):decide ((Ke a:Key)=Kf b)=false:=Cg (fun q=>nomatch q)
theorem GQ (a:Ar)(b:Am):decide ((Kf a:Key)=Ke b)=false:=Cg (fun q=>nomatch q)
def zR (prog:A1)(w:AH):PySem.KeyKind prog w Key where
 is:=gG
 hash:=LQ w
 inj:=fun v a b ha hb=>by
  rcases zO ha with⟨i,t,rfl,rfl⟩|⟨x,t,rfl,rfl⟩
  ·rcases zO hb with⟨j,u,rfl,e⟩|⟨y,u,rfl,e⟩
   ·injection e with e1 _;rw[e1]
   ·exact nomatch e
  ·rcases zO hb with⟨j,u,rfl,e⟩|⟨y,u,rfl,e⟩
   ·exact nomatch e
   ·injection e with e1 _;rw[e1]
 byValue:=fun k v h=>by
  rcases zO h with⟨i,t,rfl,rfl⟩|⟨x,t,rfl,rfl⟩ <;> rfl
 pyHash:=fun hv h=>by
  rcases zO hv with⟨i,t,rfl,rfl⟩|⟨x,t,rfl,rfl⟩
  ·exact wpAny_pyHash_int h
  ·exact wpAny_pyHash_str h
 eqBool:=fun hu hv h=>by
  rcases zO hu with⟨i,t,rfl,rfl⟩|⟨x,t,rfl,rfl⟩
  ·rcases zO hv with⟨j,u,rfl,rfl⟩|⟨y,u,rfl,rfl⟩
   ·rw[GO] at h;exact OH h
   ·rw[GP] at h;exact SeqAt.EqAt.int_str i t y u _ _ _ _ h
  ·rcases zO hv with⟨j,u,rfl,rfl⟩|⟨y,u,rfl,rfl⟩
   ·rw[GQ] at h;exact SeqAt.EqAt.str_int x t j u _ _ _ _ h
   ·rw[GR] at h;exact wpAny_eqBool_str h
 «strs»:=fun k x t v h=>by
  rcases zO h with⟨i,u,rfl,e⟩|⟨y,u,rfl,e⟩
  ·exact nomatch e
  ·injection e with e1 _
   subst e1;cases v <;> rfl
theorem dJ (prog:A1)(w:AH)(i:Am)(t:Nl):(zR prog w).is (.inl i) (.int i t)=true:=aM i t
theorem dM (prog:A1)(w:AH)(x:Ar)(t:Nl):(zR prog w).is (.inr x) (.str x t)=true:=aP x t
end _L
namespace _L
open PySem PySem.Spec PyProof.Rows
variable {us:Aa Ac}{b:Ad}
inductive V where
 |non|bl (b:Ap)|int (i:Am)|str (x:Ar)|byt (b:AB UInt8)|flt (b:UInt64)|ref (a:Ad)|ty (n:Bz)
 deriving DecidableEq
def qJ:V→Ac→Prop
 |.non,u=>u=CF
 |.bl b,u=>u=CQ b
 |.int i,u=>∃ t,u=Hx i t
 |.str x,u=>∃ t,u=Lc x t
 |.byt b,u=>∃ t,u=Value.bytes b t
 |.flt b,u=>∃ t,u=RD b t
 |.ref a,u=>u=AS a
 |.ty n,u=>u=Dv n
abbrev qK:Aa V→Aa Ac→Prop:=Paired qJ
theorem qK.length {xs:Aa V}(r:qK xs us):xs.length=us.length:=Paired.length r
theorem qK.get:∀ {xs:Aa V} {us:Aa Ac} {i:Aj} {x:V},qK xs us→xs[i]? = Ab x→∃ u,us[i]? = Ab u∧qJ x u
 |_,_,_,_,.nil,e=>by simp at e
 |_,_,0,_,.cons r _,e=>by simp at e;subst e;exact⟨_,rfl,r⟩
 |_,_,i+1,x,.cons _ t,e=>by
  obtain⟨u,h1,h2⟩:=qK.get (i:=i) (x:=x) t (by simpa using e)
  exact⟨u,by simpa using h1,h2⟩
theorem qK.set {x:V}{u:Ac}(r:qJ x u):∀ {xs:Aa V} {us:Aa Ac} (i:Aj),qK xs us→qK (xs.set i x) (us.set i u)
 |_,_,_,.nil=>.nil
 |_,_,0,.cons _ t=>.cons r t
 |_,_,i+1,.cons q t=>.cons q (qK.set r i t)
theorem qK.append {xs ys:Aa V}{ws:Aa Ac}(h:qK xs us)(s:qK ys ws):qK (xs++ys) (us++ws):=by
 induction h with
 |nil=>exact s
 |cons r t ih=>exact .cons r ih
theorem qK.take:∀ {xs:Aa V} {us:Aa Ac} (n:Aj),qK xs us→qK (xs.take n) (us.take n)
 |_,_,0,_=>.nil
 |_,_,_+1,.nil=>.nil
 |_,_,n+1,.cons r t=>.cons r (qK.take n t)
theorem qK.drop:∀ {xs:Aa V} {us:Aa Ac} (n:Aj),qK xs us→qK (xs.drop n) (us.drop n)
 |_,_,0,r=>r
 |_,_,_+1,.nil=>.nil
 |_,_,n+1,.cons _ t=>qK.drop n t
def yG:Ak V→Ak Ac→Prop
 |some v,Ab u=>qJ v u
 |none,none=>EY
 |_,_=>CC
def KV {κ:Type}:Aa (κ × V)→Aa (κ × Ac)→Prop:=Paired fun (p:κ × V) (q:κ × Ac)=>p.1=q.1∧qJ p.2 q.2
def kV:Key→V
 |.inl i=>.int i
 |.inr x=>.str x
inductive HO where
  |lst (xs:Aa V)
  |tup (xs:Aa V)
  |dK (kvs:Aa (Key × V))|dT (kvs:Aa (Aa Key × V))
  |set (S:Am→Ap) (n:Aj)
  |ins (C dx:Ad) (fs:Aa (Ar × V))
  |own (x:Ad)
  |xd (fs:Aa (Ar × V))
  |met (f x:Ad)
  |rng (lo hi:Am)
  |frz (o:AU) (u:HO)
  |tbl (ps:AB Ac)
  |ext (φ : A5→Prop)
variable {u:HO}
abbrev Hp:=Ad→Ak HO
def upd (H:Hp)(a:Ad)(o:HO):Hp:=fun b=>if b=a then Ab o else H b
theorem qT {H:Hp}{a:Ad}{o:HO}:upd H a o a=Ab o:=by unfold upd;rw[A7 rfl]
theorem qH {H:Hp}{a:Ad}{o:HO}(h:b≠a):upd H a o b=H b:=by unfold upd;rw[AD h]
theorem MQ {H:Hp}{a:Ad}{o:HO}(h:H a=Ab o)(h':H b=Ab u)(d:o≠u):a≠b:=by
 intro e;subst e;rw[h] at h';exact d (AW h')
theorem qP {H:Hp}{a:Ad}{o:HO}(h:H a=Ab o)(h':H b=none):a≠b:=by
 intro e;subst e;rw[h] at h';cases h'
section
variable (P:A1)(w:AH)
def zA (H:Hp)(h:A5)(a:Ad):HO→Prop
 |.lst xs=>xs.length≤sizeLine∧∃ (its:Aa Ac) (n:Aj),qK xs its∧h.get? a=Ab { cls:=.type "list",data:=.seq its.toArray n }
 |.tup xs=>xs.length≤sizeLine∧∃ its:Aa Ac,qK xs its∧Om h a its.toArray
 |.dK kvs=>kvs.length≤sizeLine∧(a == E5)=false∧∃ vs,KV kvs vs∧h.DictOf (zR P w) a vs
 |.dT kvs=>kvs.length≤sizeLine∧(a == E5)=false∧∃ xs:Aa (Aa Key × Ad × Ac),
   Paired (fun (p:Aa Key × V) (q:Aa Key × Ad × Ac)=>p.1=q.1∧H q.2.1=Ab (.tup (p.1.map kV))∧qJ p.2 q.2.2) kvs xs ∧
   ∃ o es ep,h.get? a=Ab o∧o.ExactDict∧o.data=.dict es ep∧es.toList=xs.map (entryOfKey (Ld (zR P w)))∧(xs.map (·.1)).Nodup
 |.set S n=>h.SetOf (Av P w) a S n
 |.ins C dx fs=>H dx=Ab (.own a)∧fs.length≤1000∧dx≠a∧h.get? a=Ab (Kg C dx) ∧
   ∃ mA,h.Ns1 dx mA∧(∀ f,yG (fs.lookup f) (mA f))∧Rn mA (fs.map (·.1))
 |.own _=>∃ o,h.get? a=Ab o
 |.xd fs=>∃ mA,h.Ns1 a mA∧∀ f,yG (fs.lookup f) (mA f)
 |.rng lo hi=>∃ t u v,h.get? a=Ab { cls:=.type "range",data:=.fields #[.int lo t,.int hi u,.int 1 v] }
 |.frz o u=>h.get? a=Ab o∧zA H h a u
 |.tbl ps=>h.get? a=Ab { cls:=.none,data:=.fields ps }
 |.met f x=>h.get? a=Ab (ID (.ref f) (.ref x))
 |.ext φ => φ h∧(∃ o,h.get? a=Ab o)∧∀ h1 h2:A5,φ h1→(∀ o,h1.get? a=Ab o→h2.get? a=Ab o)→φ h2
def HOk (H:Hp)(h:A5):Prop:=∀ a o,H a=Ab o→zA P w H h a o
end
section
variable {P:A1}{w:AH}{H H':Hp}{h h':A5}{a:Ad}{o:HO}
theorem zA.lt (x:zA P w H h a o):a<h.objs.size:=by
 cases o with
 |lst xs=>obtain⟨_,_,_,_,e⟩:=x;exact Au e
 |tup xs=>obtain⟨_,_,_,p⟩:=x;exact p.lt
 |dK kvs=>obtain⟨_,_,_,_,o,_,_,e,_⟩:=x;exact Au e
 |dT kvs=>obtain⟨_,_,_,_,o,_,_,e,_⟩:=x;exact Au e
 |set S n=>obtain⟨o,_,_,_,e,_⟩:=x;exact Au e
 |ins C dx fs=>obtain⟨_,_,_,e,_⟩:=x;exact Au e
 |own y=>obtain⟨_,e⟩:=x;exact Au e
 |xd fs=>obtain⟨_,⟨_,_,_,e,_⟩,_⟩:=x;exact Au e
 |rng lo hi=>obtain⟨_,_,_,e⟩:=x;exact Au e
 |frz ob u=>obtain⟨e,_⟩:=x;exact Au e
 |tbl ps=>exact Au (show h.get? a=Ab _ from x)
 |met f y=>exact Au (show h.get? a=Ab _ from x)
 |ext φ => obtain⟨_,⟨_,e⟩,_⟩:=x;exact Au e
theorem Paired.mapP {α β:Type}{F G:α→β→Prop}{l₁:Aa α}{l₂:Aa β}(h:Paired F l₁ l₂)(f:∀ a b,F a b→G a b):Paired G l₁ l₂:=by
 induction h with
 |nil=>exact .nil
 |cons r t ih=>exact .cons (f _ _ r) ih
theorem zA.stay (x:zA P w H h a o)(k:∀ b u,(b=a∨H b=Ab (.own a))→h.get? b=Ab u→h'.get? b=Ab u)
  (ho:∀ b,H b=Ab (.own a)→H' b=Ab (.own a)) (ht:∀ b xs,H b=Ab (.tup xs)→H' b=Ab (.tup xs)):zA P w H' h' a o:=by
 induction o with
 |lst xs=>obtain⟨z,its,n,r,e⟩:=x;exact⟨z,its,n,r,k _ _ (.inl rfl) e⟩
 |tup xs=>obtain⟨z,its,r,ob,e,c⟩:=x;exact⟨z,its,r,ob,k _ _ (.inl rfl) e,c⟩
 |dK kvs=>obtain⟨z,y,vs,r,ob,es,ep,e,c⟩:=x;exact⟨z,y,vs,r,ob,es,ep,k _ _ (.inl rfl) e,c⟩
 |dT kvs =>
  obtain⟨z,y,xs,r,ob,es,ep,e,c⟩:=x;exact⟨z,y,xs,Paired.mapP r fun p q z=>⟨z.1,ht _ _ z.2.1,z.2.2⟩,ob,es,ep,k _ _ (.inl rfl) e,c⟩
 |set S n=>obtain⟨ob,es,ep,t,e,c⟩:=x;exact⟨ob,es,ep,t,k _ _ (.inl rfl) e,c⟩
 |ins C dx fs =>
  obtain⟨d,z,ne,e,mA,⟨od,es,ep,e2,c⟩,r⟩:=x;exact⟨ho _ d,z,ne,k _ _ (.inl rfl) e,mA,⟨od,es,ep,k _ _ (.inr d) e2,c⟩,r⟩
 |own y=>obtain⟨ob,e⟩:=x;exact⟨ob,k _ _ (.inl rfl) e⟩
 |xd fs=>obtain⟨mA,⟨od,es,ep,e,c⟩,r⟩:=x;exact⟨mA,⟨od,es,ep,k _ _ (.inl rfl) e,c⟩,r⟩
 |rng lo hi=>obtain⟨t,u,v,e⟩:=x;exact⟨t,u,v,k _ _ (.inl rfl) e⟩
 |frz ob u ih=>obtain⟨e,q⟩:=x;exact⟨k _ _ (.inl rfl) e,ih q⟩
 |tbl ps =>
  have e:h.get? a=Ab { cls:=.none,data:=.fields ps }:=x;show h'.get? a=Ab { cls:=.none,data:=.fields ps };exact k a _ (.inl rfl) e
 |met f y =>
  have e:h.get? a=Ab (ID (.ref f) (.ref y)):=x;show h'.get? a=Ab (ID (.ref f) (.ref y));exact k a _ (.inl rfl) e
 |ext φ => obtain⟨p,⟨o,e⟩,st⟩:=x;exact⟨st _ _ p fun o q=>k _ _ (.inl rfl) q,⟨o,k _ _ (.inl rfl) e⟩,st⟩
theorem HOk.lt (x:HOk P w H h)(e:H a=Ab o):a<h.objs.size:=(x a o e).lt
theorem HOk.fresh (x:HOk P w H h)(e:h.objs.size≤a):H a=none:=by
 cases q:H a with
 |none=>rfl
 |some u=>exact absurd (Ax (x.lt q) e) (Cj _)
theorem HOk.kept (x:HOk P w H h)(k:∀ b u,h.get? b=Ab u→h'.get? b=Ab u):HOk P w H h':=fun a o e =>
 (x a o e).stay (fun b u _ q=>k b u q) (fun _ q=>q) fun _ _ q=>q
theorem HOk.laid (x:HOk P w H h)(k:∀ b u,h.get? b=Ab u→h'.get? b=Ab u)(hp:h.objs.size≤a)(new:zA P w (upd H a o) h' a o):HOk P w (upd H a o) h':=fun b u e=>by
 have hn:=x.fresh hp;by_cases hb:b=a
 ·subst hb;rw[qT] at e;cases e;exact new
 ·rw[qH hb] at e
  exact(x b u e).stay (fun c v _ q=>k c v q) (fun c q=>by rw[qH (qP q hn)];exact q) fun c xs q=>by rw[qH (qP q hn)];exact q
end
def Rd (H:Hp)(a:Ad)(u:HO):Prop:=H a=Ab u∨∃ o,H a=Ab (.frz o u)
theorem Rd.of {H:Hp}{a:Ad}(h:H a=Ab u):Rd H a u:=.inl h
theorem Rd.ok {P:A1}{w:AH}{H:Hp}{h:A5}{a:Ad}(r:Rd H a u)(x:HOk P w H h):zA P w H h a u:=by
 rcases r with r|⟨o,r⟩
 ·exact x a u r
 ·obtain⟨_,q⟩:=x a _ r
  exact q
def Mut:Ak HO→Prop
 |some (.lst _)=>EY
 |some (.dK _)=>EY
 |some (.dT _)=>EY
 |some (.set _ _)=>EY
 |some (.ins _ _ _)=>EY
 |some (.ext _)=>EY
 |_=>CC
section
variable {P:A1}{w:AH}{H:Hp}{h h':A5}{x e:Ad}{o':HO}
theorem HOk.write (ok:HOk P w H h)(mu:Mut (H x))(he:e=x∨H e=Ab (.own x))(k:∀ b u,b≠e→h.get? b=Ab u→h'.get? b=Ab u)(heo:∃ u,h'.get? e=Ab u)
  (new:zA P w (upd H x o') h' x o'):HOk P w (upd H x o') h':=fun b u q=>by
 have nown:∀ c y,H c=Ab (.own y)→c≠x:=fun c y r z=>by subst z;rw[r] at mu;exact mu
 have ntup:∀ c xs,H c=Ab (.tup xs)→c≠x:=fun c xs r z=>by subst z;rw[r] at mu;exact mu
 by_cases hb:b=x
 ·subst hb;rw[qT] at q;cases q;exact new
 ·rw[qH hb] at q
  by_cases hbe:b=e
  ·have q':H b=Ab (.own x):=by
    rcases he with z|z
    ·exact absurd (hbe.trans z) hb
    ·rw[hbe];exact z
   rw[q] at q';cases q';obtain⟨v,hv⟩:=heo;exact⟨v,by rw[hbe];exact hv⟩
  ·refine(ok b u q).stay (fun c v hc r=>k c v ?_ r) (fun c r=>by rw[qH (nown c b r)];exact r) fun c xs r=>by rw[qH (ntup c xs r)];exact r
   rcases hc with rfl|hc
   ·exact hbe
   ·rintro rfl
    rcases he with z|z
    ·exact nown c b hc z
    ·rw[hc] at z;cases z;exact hb rfl
end
structure Un (fs ex:Aa Ad)(H H':Hp)(h h':A5):Prop where
 keep:∀ b o,h.get? b=Ab o→H b=none→b ∉ fs→b ∉ ex→h'.get? b=Ab o
 slot:∀ b o,h.get? b=Ab o→H b=none→b∈fs→b ∉ ex→∃ sl,h'.get? b=Ab { o with slots:=sl }
 free:∀ b o,h.get? b=Ab o→H b=none→b ∉ ex→H' b=none
 there:∀ b o,h.get? b=Ab o→b ∉ ex→∃ o',h'.get? b=Ab o'
 tups:∀ b xs,H b=Ab (.tup xs)→H' b=Ab (.tup xs)
 frzs:∀ b o u,H b=Ab (.frz o u)→H' b=Ab (.frz o u)
 tbls:∀ b ps,H b=Ab (.tbl ps)→∃ more,H' b=Ab (.tbl (ps++more))
section
variable {fs fs' ex ex':Aa Ad}{H H1 H2:Hp}{h h1 h2 h':A5}{a x e:Ad}{o:HO}
theorem Un.any (u:Un fs ex H H1 h h1){b:Ad}{ob:AU}(q:h.get? b=Ab ob)(n:H b=none)(hx:b ∉ ex):∃ sl,h1.get? b=Ab { ob with slots:=sl }:=by
 by_cases hb:b∈fs
 ·exact u.slot b ob q n hb hx
 ·exact⟨ob.slots,u.keep b ob q n hb hx⟩
theorem Un.kept (k:∀ b u,h.get? b=Ab u→h'.get? b=Ab u):Un fs ex H H h h':=
 ⟨fun b ob q _ _ _=>k b ob q,fun b ob q _ _ _=>⟨ob.slots,k b ob q⟩,fun _ _ _ n _=>n,fun b ob q _=>⟨ob,k b ob q⟩,fun _ _ q=>q,fun _ _ _ q=>q,fun _ ps q=>⟨#[],by rw[q];simp⟩⟩
theorem Un.refl:Un fs ex H H h h:=Un.kept fun _ _ q=>q
theorem Un.laid (k:∀ b u,h.get? b=Ab u→h'.get? b=Ab u)(hp:h.objs.size≤a)(hn:H a=none):Un fs ex H (upd H a o) h h' where
 keep:=fun b u q _ _ _=>k b u q
 slot:=fun b u q _ _ _=>⟨u.slots,k b u q⟩
 free:=fun b u q n _=>by rw[qH (AL (Ax (Au q) hp))];exact n
 there:=fun b u q _=>⟨u,k b u q⟩
 tups:=fun b xs q=>by rw[qH (qP q hn)];exact q
 frzs:=fun b u xs q=>by rw[qH (qP q hn)];exact q
 tbls:=fun b ps q=>⟨#[],by rw[qH (qP q hn),q];simp⟩
theorem Un.write (mu:Mut (H x))(he:e=x∨H e=Ab (.own x))(k:∀ b u,b≠e→h.get? b=Ab u→h'.get? b=Ab u)(heo:∃ u,h'.get? e=Ab u):Un fs ex H (upd H x o) h h':=by
 have hx:∀ b,H b=none→b≠x:=fun b n z=>by subst z;rw[n] at mu;exact mu
 have hb:∀ b,H b=none→b≠e:=fun b n z=>by
  subst z;rcases he with r|r
  ·exact hx b n r
  ·rw[n] at r;cases r
 have hm:∀ b u,H b=Ab u→¬ Mut (Ab u)→b≠x:=fun b u q nm z=>by subst z;rw[q] at mu;exact nm mu
 refine⟨fun b u q n _ _=>k b u (hb b n) q,fun b u q n _ _=>⟨u.slots,k b u (hb b n) q⟩,fun b u q n _=>by rw[qH (hx b n)];exact n,fun b u q _=>?_,
  fun b xs q=>by rw[qH (hm b _ q fun z=>z)];exact q,fun b u xs q=>by rw[qH (hm b _ q fun z=>z)];exact q,fun b ps q=>⟨#[],by rw[qH (hm b _ q fun z=>z),q];simp⟩⟩
 by_cases hbe:b=e
 ·subst hbe;exact heo
 ·exact⟨u,k b u hbe q⟩
end
def trk (h:A5)(H:Hp):Aa Ad:=(AR h.objs.size).filter fun a=>(H a).isSome
def jG (h:A5)(H:Hp):A5:=Hy h (trk h H)
theorem aF (h:A5)(H:Hp):(jG h H).objs.size=h.objs.size:=PySem.W.hideAll_size _ _
theorem QP {h:A5}{H:Hp}{o:AU}(e:h.get? b=Ab o)(n:H b=none):(jG h H).get? b=Ab o:=
 Mj _ e fun hm=>by
  have q:(H b).isSome=true:=(Pk.mp hm).2;rw[n] at q;simp at q
theorem VV {h:A5}{H:Hp}{o:AU}(e:(jG h H).get? b=Ab o):h.get? b=Ab o∧H b=none:=by
 have e':h.get? b=Ab o:=Nm (trk h H) e;refine⟨e',?_⟩;cases q:H b with
 |none=>rfl
 |some x =>
  have hm:b∈trk h H:=Pk.mpr ⟨Cq.mpr (Au e'),by simp[q]⟩
  have z:(jG h H).get? b=none:=PySem.W.hideAll_none (trk h H) hm;rw[z] at e;cases e
end _L
namespace _L
open PySem PySem.Spec PyProof.Rows
variable {g':AB Pl}{E:Ac→Ag→Prop}{t':Aj}{d':Drawn}{M:He}{Q:IE→Ag→Prop}
def xI:Aa Ar:=["law","_law_right","by_hull","pair_bound"]
def JB (mg:Ar→Ak Ac)(h:A5):Prop:=∃ bm o,mg "__builtins__" = Ab (.ref bm)∧bm≠HK∧h.get? bm=Ab o∧o.cls=.type "module" ∧ o.dict=Ab HK∧o.data=.plain
structure Mod (K:Ai)(mg:Ar→Ak Ac)(base:A5):Prop where
 kin:K.In base
 glob:base.Ns AT mg
 blt:∃ mb,base.Ns HK mb∧∀ x:Ar,x ≠ "__name__" → mb x=Dd x
 nolimit:base.NoLimit
 bm:JB mg base
 code:∀ x∈xI,∀ c T,Bg K x=Ab (c,T)→Lr base c T
 inj:∀ x∈xI,∀ y∈xI,∀ c d T,Bg K x=Ab (c,T)→Bg K y=Ab (d,T)→x=y
structure Cx where
 prog:A1
 w:AH
 K:Ai
 mg:Ar→Ak Ac
 base:A5
 A:AG
 N:Aa Ar
 s₀:Ag
 H₀:Hp
 env:Ek
 outer:Aa Ek
 stack:Aa Ek
 ex:Aa Ad
 fn:Ar→Ap
 calm:Ap
 pn:Aa (Ad × AU)
 xe:Ac→Ag→Prop
def frs (l:Aa Ek):Aa Ad:=l.filterMap (·.frame)
abbrev Cx.fs (X:Cx):Aa Ad:=frs X.outer
def Vis (sc:Ch)(x:Ar):Prop:=sc.names.lookup x=Ab .local ∨ sc.names.lookup x=Ab .cell∨sc.names.lookup x=Ab .free
def Loc (sc:Ch)(x:Ar):Prop:=sc.names.lookup x=Ab .local ∨ sc.names.lookup x=Ab .cell
def JE (env:Ek)(h:A5)(m:Ar→Ak Ac)(x:Ar)(u:Ac):Prop:=
 (env.kindOf x=Ab .local ∧ m x=Ab u)∨((env.kindOf x=Ab .cell∨env.kindOf x=Ab .free)∧∃ c,env.cells.lookup x=Ab c∧h.IsCell c (Ab u))
structure Cx.Ok (X:Cx):Prop where
 mod:Mod X.K X.mg X.base
 kind:X.env.scope.kind=.function
 glob:X.env.globals=AT
 blt:X.env.builtins=HK
 above:X.s₀.heap.objs.size≤X.env.locals
 inj:∀ x y c,X.env.cells.lookup x=Ab c→X.env.cells.lookup y=Ab c→x=y
 has:∀ x,(X.env.kindOf x=Ab .cell∨X.env.kindOf x=Ab .free)→∃ c,X.env.cells.lookup x=Ab c
 cab:∀ x c,X.fn x=true→X.env.cells.lookup x=Ab c→X.s₀.heap.objs.size≤c
 hd:X.calm=true→X.A.handled=none
 frames:X.A.frames=Ab X.stack
 stk:X.stack=X.outer∨(X.stack=X.env::X.outer∧X.env.frame=Ab X.env.locals)
 exf:∀ b∈X.ex,b≠X.env.locals∧∀ x c,X.env.cells.lookup x=Ab c→c≠b
 bs:∀ b o,X.base.get? b=Ab o→X.s₀.heap.get? b=Ab o∧X.H₀ b=none
 bsz:X.base.objs.size≤X.s₀.heap.objs.size
 noex:∀ b o,X.base.get? b=Ab o→b ∉ X.ex
 exfs:∀ b∈X.ex,b ∉ X.fs
 funs:X.s₀.heap.FunFrames X.base X.outer
 frf:∀ b∈X.fs,X.H₀ b=none
structure Inv (X:Cx)(pins:Aa (Ad × AU))(σ : Aa (Ak V))(H:Hp)(s:Ag):Prop where
 ok:X.Ok
 os:s.os=X.s₀.os
 bare:Hd s.gens
 base:Un X.fs X.ex X.H₀ H X.s₀.heap s.heap
 loc:∃ m,s.heap.Ns X.env.locals m∧∀ (i:Aj) (x:Ar) (v:V),X.N[i]? = Ab x→σ[i]? = Ab (Ab v)→Vis X.env.scope x→∃ u,qJ v u∧JE X.env s.heap m x u
 cell:∀ x c,X.env.cells.lookup x=Ab c→∃ v,s.heap.IsCell c v
 free:H X.env.locals=none
 freeC:∀ x c,X.env.cells.lookup x=Ab c→H c=none
 pin:∀ p∈X.pn++pins,s.heap.get? p.1=Ab p.2∧H p.1=none∧p.1≠X.env.locals∧p.1 ∉ X.fs∧∀ v,p.2.data≠.cell v
 hok:HOk X.prog X.w H s.heap
 len:σ.length=X.N.length
section
variable {X:Cx}{pins:Aa (Ad × AU)}{σ : Aa (Ak V)}{H H':Hp}{s:Ag}{h':A5}
theorem Cx.Ok.nofr (ok:X.Ok){b:Ad}{o:AU}(e:X.base.get? b=Ab o):b ∉ X.fs:=fun hb=>by
 have:=(ok.funs.mem hb).1;rw[e] at this;cases this
theorem Inv.bs (I:Inv X pins σ H s):∀ b o,X.base.get? b=Ab o→s.heap.get? b=Ab o∧H b=none:=fun b o e =>
 ⟨I.base.keep b o (I.ok.bs b o e).1 (I.ok.bs b o e).2 (I.ok.nofr e) (I.ok.noex b o e),I.base.free b o (I.ok.bs b o e).1 (I.ok.bs b o e).2 (I.ok.noex b o e)⟩
theorem Inv.bk (I:Inv X pins σ H s):∀ b o,X.base.get? b=Ab o→s.heap.get? b=Ab o:=fun b o e=>(I.bs b o e).1
theorem Inv.mod (I:Inv X pins σ H s):Mod X.K X.mg X.base:=I.ok.mod
theorem Inv.kIn (I:Inv X pins σ H s):X.K.In s.heap:=I.ok.mod.kin.keeps I.bk
theorem Inv.nolimit (I:Inv X pins σ H s):s.heap.NoLimit:=I.ok.mod.nolimit.keeps I.bk
theorem Inv.lt (I:Inv X pins σ H s):X.env.locals<s.heap.objs.size:=let ⟨_,hn,_⟩:=I.loc;hn.lt
theorem Inv.sz (I:Inv X pins σ H s):X.s₀.heap.objs.size≤s.heap.objs.size:=Bm I.ok.above (CP I.lt)
theorem Inv.nofs (I:Inv X pins σ H s){a:Ad}(h:s.heap.objs.size≤a):a ∉ X.fs:=fun hb=>by
 obtain⟨_,o,ho,_⟩:=I.ok.funs.mem hb;exact absurd (Ax (Au ho) (Bm I.sz h)) (Cj _)
theorem Inv.cne (I:Inv X pins σ H s):∀ x c,X.env.cells.lookup x=Ab c→c≠X.env.locals:=fun x c e z=>by
 obtain⟨v,o,ho,hd⟩:=I.cell x c e;obtain⟨m,⟨o',es,ep,ho',hd',_⟩,_⟩:=I.loc;rw[z,ho'] at ho;cases ho;rw[hd'] at hd;cases hd
theorem Inv.funs (I:Inv X pins σ H s):s.heap.FunFrames X.base X.outer:=by
 have all:∀ (l:Aa Ek),(∀ b∈frs l,b∈X.fs)→X.s₀.heap.FunFrames X.base l→s.heap.FunFrames X.base l:=by
  intro l
  induction l with
  |nil=>intro _ _;trivial
  |cons env r ih =>
   intro hs hl;obtain⟨hk,⟨L,o,hf,hn,ho,hd⟩,hr⟩:=hl;have hL:L∈X.fs:=hs L (by unfold frs;rw[Ec,hf];exact Ba)
   obtain⟨sl,e⟩:=I.base.slot L o ho (I.ok.frf L hL) hL fun z=>I.ok.exfs L z hL;exact⟨hk,⟨L,_,hf,hn,e,hd⟩,ih (fun b hb=>hs b (by unfold frs;rw[Ec,hf];exact AM _ hb)) hr⟩
 exact all X.outer (fun _ hb=>hb) I.ok.funs
theorem Inv.stack (I:Inv X pins σ H s):s.heap.FunFrames X.base X.stack:=by
 rcases I.ok.stk with e|⟨e,hf⟩
 ·rw[e];exact I.funs
 ·rw[e]
  obtain⟨m,hn,_⟩:=I.loc;refine .cons (by rw[I.ok.kind];decide) hf hn ?_ I.funs
  exact Ey (Bm I.ok.bsz I.ok.above)
theorem Inv.stkSub (I:Inv X pins σ H s):∀ b∈frs X.stack,b∈X.env.locals::X.fs:=fun b hb=>by
 rcases I.ok.stk with e|⟨e,hf⟩
 ·rw[e] at hb;exact AM _ hb
 ·rw[e] at hb
  unfold frs at hb;rw[Ec,hf] at hb;exact hb
theorem Inv.stkFree (I:Inv X pins σ H s):∀ b∈frs X.stack,H b=none:=fun b hb=>by
 rcases Aw.mp (I.stkSub b hb) with e|hb
 ·rw[e];exact I.free
 ·obtain⟨_,o,ho,_⟩:=I.ok.funs.mem hb
  exact I.base.free b o ho (I.ok.frf b hb) fun z=>I.ok.exfs b z hb
theorem Inv.step {g':AB Pl}{t':Aj}{d':Drawn}{ch:Aa Ad}(I:Inv X pins σ H s)
  (hch:∀ b∈ch,(b∈X.ex∨X.s₀.heap.objs.size≤b)∧b≠X.env.locals∧(∀ x c,X.env.cells.lookup x=Ab c→c≠b)∧∀ p∈X.pn++pins,p.1≠b)
  (keep:∀ b o,b≠X.env.locals→b ∉ X.fs→b ∉ ch→s.heap.get? b=Ab o→H b=none→h'.get? b=Ab o)
  (slot:∀ b o,b≠X.env.locals→b∈X.fs→b ∉ ch→s.heap.get? b=Ab o→H b=none→∃ sl,h'.get? b=Ab { o with slots:=sl }) (free:∀ b o,b ∉ ch→s.heap.get? b=Ab o→H b=none→H' b=none)
  (there:∀ b o,b ∉ ch→s.heap.get? b=Ab o→∃ o',h'.get? b=Ab o')
  (tups:∀ b xs,H b=Ab (.tup xs)→H' b=Ab (.tup xs)) (frzs:∀ b o u,H b=Ab (.frz o u)→H' b=Ab (.frz o u)) (tbls:∀ b ps,H b=Ab (.tbl ps)→∃ more,H' b=Ab (.tbl (ps++more)))
  (ns:∀ m,s.heap.Ns X.env.locals m→h'.Ns X.env.locals m) (hok:HOk X.prog X.w H' h') (hg:Hd g') :
  Inv X pins σ H' { s with heap:=h',gens:=g',drawn:=d',toks:=t' }:=by
 have neL:∀ b o,X.s₀.heap.get? b=Ab o→b≠X.env.locals:=fun b o e=>AL (Ax (Au e) I.ok.above);have neC:∀ b o,X.s₀.heap.get? b=Ab o→b ∉ X.ex→b ∉ ch:=fun b o e hx hb=>by
  rcases (hch b hb).1 with z|z
  ·exact hx z
  ·exact absurd (Ax (Au e) z) (Cj _)
 have cellK:∀ x c,X.env.cells.lookup x=Ab c→∀ v,s.heap.IsCell c v→h'.IsCell c v:=fun x c e v ⟨o,ho,hd⟩=>by
  have nch:c ∉ ch:=fun z=>(hch c z).2.2.1 x c e rfl;by_cases hc:c∈X.fs
  ·obtain⟨sl,q⟩:=slot c o (I.cne x c e) hc nch ho (I.freeC x c e)
   exact⟨_,q,hd⟩
  ·exact⟨o,keep c o (I.cne x c e) hc nch ho (I.freeC x c e),hd⟩
 refine⟨I.ok,I.os,hg,⟨fun b o e n hb hx=>?_,fun b o e n hb hx=>?_,fun b o e n hx=>?_,fun b o e hx=>?_,fun b xs e=>tups b xs (I.base.tups b xs e),fun b o xs e=>frzs b o xs (I.base.frzs b o xs e),fun b ps e=>?_⟩,?_,fun x c e=>?_,?_,fun x c e=>?_,fun p hp=>?_,hok,I.len⟩
 ·exact keep b o (neL b o e) hb (neC b o e hx) (I.base.keep b o e n hb hx) (I.base.free b o e n hx)
 ·obtain⟨sl,e1⟩:=I.base.slot b o e n hb hx
  obtain⟨sl',e2⟩:=slot b _ (neL b o e) hb (neC b o e hx) e1 (I.base.free b o e n hx);exact⟨sl',e2⟩
 ·obtain⟨o',e1⟩:=I.base.there b o e hx
  exact free b o' (neC b o e hx) e1 (I.base.free b o e n hx)
 ·obtain⟨o',e1⟩:=I.base.there b o e hx
  exact there b o' (neC b o e hx) e1
 ·obtain⟨m1,e1⟩:=I.base.tbls b ps e
  obtain⟨m2,e2⟩:=tbls b _ e1;exact⟨m1++m2,by rw[e2,Array.append_assoc]⟩
 ·obtain⟨m,hn,hl⟩:=I.loc
  refine⟨m,ns m hn,fun i x v e1 e2 e3=>?_⟩;obtain⟨u,r,l⟩:=hl i x v e1 e2 e3;refine⟨u,r,?_⟩;rcases l with l|⟨k,c,e,z⟩
  ·exact .inl l
  ·exact .inr ⟨k,c,e,cellK x c e _ z⟩
 ·obtain⟨v,z⟩:=I.cell x c e
  exact⟨v,cellK x c e v z⟩
 ·obtain⟨m,⟨o,_,_,ho,_⟩,_⟩:=I.loc
  exact free _ o (fun z=>(hch _ z).2.1 rfl) ho I.free
 ·obtain⟨v,o,ho,hd⟩:=I.cell x c e
  exact free c o (fun z=>(hch c z).2.2.1 x c e rfl) ho (I.freeC x c e)
 ·obtain⟨e,n,ne,nf,d⟩:=I.pin p hp
  have nch:p.1 ∉ ch:=fun z=>(hch p.1 z).2.2.2 p hp rfl;exact⟨keep p.1 p.2 ne nf nch e n,free p.1 p.2 nch e n,ne,nf,d⟩
theorem Inv.un {t':Aj}(I:Inv X pins σ H s)(u:Un X.fs [] H H' s.heap h')(hok:HOk X.prog X.w H' h'):Inv X pins σ H' { s with heap:=h',toks:=t' }:=by
 obtain⟨m,⟨o,es,ep,ho,r⟩,_⟩:=id I.loc;obtain⟨sl,hL⟩:=u.any ho I.free (by simp)
 exact I.step (g':=s.gens) (d':=s.drawn) (ch:=[]) (fun _ z=>nomatch z) (fun b o _ hb _ e n=>u.keep b o e n hb (by simp)) (fun b o _ hb _ e n=>u.slot b o e n hb (by simp)) (fun b o _ e n=>u.free b o e n (by simp)) (fun b o _ e=>u.there b o e (by simp)) u.tups u.frzs u.tbls (fun m' hm=>by
  obtain⟨o',es',ep',ho',r'⟩:=hm;rw[ho] at ho';cases ho';exact⟨_,es',ep',hL,r'⟩) hok I.bare
theorem Inv.call {t':Aj}{d':Drawn}{ch:Aa Ad}(I:Inv X pins σ H s)(u:Un (frs X.stack) ch H H' s.heap h')(hok:HOk X.prog X.w H' h')(hg:Hd g')
  (hch:∀ b∈ch,(b∈X.ex∨X.s₀.heap.objs.size≤b)∧b≠X.env.locals∧(∀ x c,X.env.cells.lookup x=Ab c→c≠b)∧∀ p∈X.pn++pins,p.1≠b) :
  Inv X pins σ H' { s with heap:=h',gens:=g',drawn:=d',toks:=t' }:=by
 obtain⟨m,⟨o,es,ep,ho,r⟩,_⟩:=id I.loc;obtain⟨sl,hL⟩:=u.any ho I.free fun z=>(hch _ z).2.1 rfl;exact I.step (ch:=ch) hch (fun b o hL hb hc e n=>u.keep b o e n (fun z=>(Aw.mp (I.stkSub b z)).elim hL hb) hc) (fun b o _ _ hc e n=>u.any e n hc) (fun b o hc e n=>u.free b o e n hc) (fun b o hc e=>u.there b o e hc) u.tups u.frzs u.tbls (fun m' hm=>by
  obtain⟨o',es',ep',ho',r'⟩:=hm;rw[ho] at ho';cases ho';exact⟨_,es',ep',hL,r'⟩) hok hg
theorem Inv.turned {t':Aj}{it:Ad}(I:Inv X pins σ H s)(k:∀ b o,b≠it→s.heap.get? b=Ab o→h'.get? b=Ab o)(hn:H it=none)(hL:it≠X.env.locals)
  (h1:it∈X.ex∨X.s₀.heap.objs.size≤it) (h2:∀ x c,X.env.cells.lookup x=Ab c→c≠it) (h3:∀ p∈X.pn++pins,p.1≠it):Inv X pins σ H { s with heap:=h',toks:=t' }:=by
 have nit:∀ b u,H b=Ab u→b≠it:=fun b u e z=>by rw[z,hn] at e;cases e
 refine I.step (g':=s.gens) (d':=s.drawn) (ch:=[it]) (fun b hb=>?_) (fun b o _ _ hc e _=>k b o (fun z=>hc (by simp[z])) e) (fun b o _ _ hc e _=>⟨o.slots,k b o (fun z=>hc (by simp[z])) e⟩) (fun _ _ _ _ n=>n)
  (fun b o hc e=>⟨o,k b o (fun z=>hc (by simp[z])) e⟩) (fun _ _ e=>e) (fun _ _ _ e=>e) (fun b ps e=>⟨#[],by rw[e];simp⟩) (fun m hm=>?_) (fun b u e=>?_) I.bare
 ·have e:b=it:=by simpa using hb
  subst e;exact⟨h1,hL,h2,h3⟩
 ·obtain⟨o,es,ep,ho,r⟩:=hm
  exact⟨o,es,ep,k _ o (CZ hL) ho,r⟩
 ·refine(I.hok b u e).stay (fun c v hc q=>k c v ?_ q) (fun _ q=>q) fun _ _ q=>q
  rcases hc with z|z
  ·rw[z];exact nit b u e
  ·exact nit c _ z
theorem Inv.tok (I:Inv X pins σ H s)(t:Aj):Inv X pins σ H { s with toks:=t }:=I.un (h':=s.heap) (t':=t) Un.refl I.hok
theorem Inv.kept {t':Aj}(I:Inv X pins σ H s)(k:∀ b u,s.heap.get? b=Ab u→h'.get? b=Ab u):Inv X pins σ H { s with heap:=h',toks:=t' }:=I.un (Un.kept k) (I.hok.kept k)
theorem Inv.laid {a:Ad}{o:HO}{t':Aj}(I:Inv X pins σ H s)(k:∀ b u,s.heap.get? b=Ab u→h'.get? b=Ab u)(hp:s.heap.objs.size≤a)(new:zA X.prog X.w (upd H a o) h' a o) :
  Inv X pins σ (upd H a o) { s with heap:=h',toks:=t' }:=I.un (Un.laid k hp (I.hok.fresh hp)) (I.hok.laid k hp new)
theorem Inv.write {x e:Ad}{o:HO}{t':Aj}(I:Inv X pins σ H s)(mu:Mut (H x))(he:e=x∨H e=Ab (.own x))(k:∀ b u,b≠e→s.heap.get? b=Ab u→h'.get? b=Ab u)(heo:∃ u,h'.get? e=Ab u)
  (new:zA X.prog X.w (upd H x o) h' x o):Inv X pins σ (upd H x o) { s with heap:=h',toks:=t' }:=I.un (Un.write mu he k heo) (I.hok.write mu he k heo new)
theorem Inv.pins_of {pins':Aa (Ad × AU)}(I:Inv X pins σ H s)(h:∀ p∈pins',s.heap.get? p.1=Ab p.2∧H p.1=none∧p.1≠X.env.locals∧p.1 ∉ X.fs∧∀ v,p.2.data≠.cell v):Inv X pins' σ H s:=
 ⟨I.ok,I.os,I.bare,I.base,I.loc,I.cell,I.free,I.freeC,fun p hp=>(Bs.mp hp).elim (fun z=>I.pin p (Bk _ z)) (h p),I.hok,I.len⟩
theorem pL {N:Aa Ar}(hN:N.Nodup){i j:Aj}{x:Ar}(a:N[i]? = Ab x)(b:N[j]? = Ab x):i=j:=by
 obtain⟨h1,e1⟩:=Ay.mp a;obtain⟨h2,e2⟩:=Ay.mp b;exact(Jf hN).mp (e1.trans e2.symm)
theorem tK {A:AG}{i:Aj}{x:Ar}{v:V}{u:Ac}(I:Inv X pins σ H s)(hN:X.N.Nodup)(hi:X.N[i]? = Ab x)(hx:Loc X.env.scope x)(r:qJ v u)
  (h:∀ s',Inv X pins (σ.set i (Ab v)) H s'→(∃ a,Di a s.heap s'.heap∧(a=X.env.locals∨X.env.cells.lookup x=Ab a))→Q () s') (hf:X.fn x=true∨X.env.scope.names.lookup x=Ab .local:=by first|exact .inl rfl|exact .inr rfl|assumption):Ao M A (storeName X.env x u) Q E s:=by
 obtain⟨m,hn,hl⟩:=id I.loc;have hcls:(X.env.scope.kind == .class||(X.env.scope.kind == .module&&X.env.locals != X.env.globals))=false:=by rw[I.ok.kind];rfl
 have hiσ:i<σ.length:=by rw[I.len];exact(Ay.mp hi).1
 have cne:=I.cne;have tracked:∀ {a:Ad} {h':A5},(∃ o,s.heap.get? a=Ab o∧H a=none)→Di a s.heap h'→HOk X.prog X.w H h':=fun {a h'} ha hs b ob e=>by
  obtain⟨_,_,hfree⟩:=ha;refine(I.hok b ob e).stay (fun c w' hc q=>(hs.2 c ?_).trans q) (fun _ q=>q) fun _ _ q=>q;rintro rfl;rcases hc with rfl|hc
  ·rw[hfree] at e;cases e
  ·rw[hfree] at hc;cases hc
 rcases hx with hk|hk
 ·refine wpAny_storeName_local hk hn (fun h' hn' hs=>?_) hcls
  obtain⟨oL,_,_,hoL,_⟩:=id hn;refine h _ ⟨I.ok,I.os,I.bare,⟨fun b o e n hb hx=>?_,fun b o e n hb hx=>?_,I.base.free,fun b o e hx=>?_,I.base.tups,I.base.frzs,I.base.tbls⟩,⟨_,hn',fun j y v' e1 e2 e3=>?_⟩,fun y c e=>?_,I.free,I.freeC,fun p hp=>?_,tracked ⟨oL,hoL,I.free⟩ hs,by simpa using I.len⟩ ⟨_,hs,.inl rfl⟩
  ·exact(hs.2 b (AL (Ax (Au e) I.ok.above))).trans (I.base.keep b o e n hb hx)
  ·obtain⟨sl,e1⟩:=I.base.slot b o e n hb hx
   exact⟨sl,(hs.2 b (AL (Ax (Au e) I.ok.above))).trans e1⟩
  ·obtain⟨o',e1⟩:=I.base.there b o e hx
   exact⟨o',(hs.2 b (AL (Ax (Au e) I.ok.above))).trans e1⟩
  ·by_cases hj:j=i
   ·subst hj
    rw[hi] at e1;cases e1;rw[Ca hiσ] at e2;cases e2;exact⟨u,r,.inl ⟨hk,by simp⟩⟩
   ·rw[Bw (CZ hj)] at e2
    obtain⟨u',r',q⟩:=hl j y v' e1 e2 e3;refine⟨u',r',?_⟩;rcases q with⟨k,e⟩|⟨k,c,e,z⟩
    ·refine .inl ⟨k,?_⟩
     have:y≠x:=fun e=>hj (pL hN e1 (e▸hi));simp[this,e]
    ·exact .inr ⟨k,c,e,z.sameBut hs (cne y c e)⟩
  ·obtain⟨w',z⟩:=I.cell y c e
   exact⟨w',z.sameBut hs (cne y c e)⟩
  ·obtain⟨e,n,ne,nf,d⟩:=I.pin p hp
   exact⟨(hs.2 p.1 ne).trans e,n,ne,nf,d⟩
 ·have hfn:X.fn x=true:=by
   rcases hf with z|z
   ·exact z
   ·rw[z] at hk;cases hk
  obtain⟨c,hc⟩:=I.ok.has x (.inl hk);obtain⟨w',z⟩:=I.cell x c hc;refine wpAny_storeName_cell I.ok.kind hk hc z (fun h' hc' hs=>?_);obtain⟨oc,hoc,hocd⟩:=id z;refine h { s with heap:=h' } ⟨I.ok,I.os,I.bare,⟨fun b o e n hb hx=>?_,fun b o e n hb hx=>?_,I.base.free,fun b o e hx=>?_,I.base.tups,I.base.frzs,I.base.tbls⟩,⟨m,hn.sameBut hs (CZ (cne x c hc)),fun j y v' e1 e2 e3=>?_⟩,fun y c' e=>?_,I.free,I.freeC,fun p hp=>?_,tracked ⟨oc,hoc,I.freeC x c hc⟩ hs,by simpa using I.len⟩ ⟨c,hs,.inr hc⟩
  ·exact(hs.2 b (AL (Ax (Au e) (I.ok.cab x c hfn hc)))).trans (I.base.keep b o e n hb hx)
  ·obtain⟨sl,e1⟩:=I.base.slot b o e n hb hx
   exact⟨sl,(hs.2 b (AL (Ax (Au e) (I.ok.cab x c hfn hc)))).trans e1⟩
  ·obtain⟨o',e1⟩:=I.base.there b o e hx
   exact⟨o',(hs.2 b (AL (Ax (Au e) (I.ok.cab x c hfn hc)))).trans e1⟩
  ·by_cases hj:j=i
   ·subst hj
    rw[hi] at e1;cases e1;rw[Ca hiσ] at e2;cases e2;exact⟨u,r,.inr ⟨.inl hk,c,hc,hc'⟩⟩
   ·rw[Bw (CZ hj)] at e2
    obtain⟨u',r',q⟩:=hl j y v' e1 e2 e3;refine⟨u',r',?_⟩;rcases q with q|⟨k,c',e,z'⟩
    ·exact .inl q
    ·refine .inr ⟨k,c',e,z'.sameBut hs ?_⟩
     rintro rfl;exact hj (pL hN e1 (I.ok.inj _ _ _ e hc▸hi))
  ·by_cases hcc:c'=c
   ·subst hcc;exact⟨_,hc'⟩
   ·obtain⟨w2,z2⟩:=I.cell y c' e
    exact⟨w2,z2.sameBut hs hcc⟩
  ·obtain⟨e,n,ne,nf,d⟩:=I.pin p hp
   refine⟨(hs.2 p.1 ?_).trans e,n,ne,nf,d⟩;intro q;rw[q,hoc] at e;have q':oc=p.2:=AW e;exact d w' (by rw[← q'];exact hocd)
theorem u0 {A:AG}{i:Aj}{x:Ar}{v:V}{u:Ac}(I:Inv X pins σ H s)(hN:X.N.Nodup)(hi:X.N[i]? = Ab x)(hx:Loc X.env.scope x)(r:qJ v u)
  (h:∀ s',Inv X pins (σ.set i (Ab v)) H s'→Q () s') (hf:X.fn x=true∨X.env.scope.names.lookup x=Ab .local:=by first|exact .inl rfl|exact .inr rfl|assumption):Ao M A (storeName X.env x u) Q E s:=
 tK I hN hi hx r (fun s' I' _=>h s' I') hf
theorem Inv.call' {s':Ag}{ch:Aa Ad}(I:Inv X pins σ H s)(ho:s'.os=s.os)(u:Un (frs X.stack) ch H H' s.heap s'.heap)(hok:HOk X.prog X.w H' s'.heap)(hg:Hd s'.gens)
  (hch:∀ b∈ch,(b∈X.ex∨X.s₀.heap.objs.size≤b)∧b≠X.env.locals∧(∀ x c,X.env.cells.lookup x=Ab c→c≠b)∧∀ p∈X.pn++pins,p.1≠b):Inv X pins σ H' s':=by
 obtain⟨h',g',d',t',o'⟩:=s';have e:o'=s.os:=ho;subst e;exact I.call (g':=g') (t':=t') (d':=d') u hok hg hch
end
abbrev XK:=Ac→Ak Ad→Hp→Prop
abbrev St:=Aa (Ak V)
abbrev VK:=V→Hp→Prop
abbrev TE:=St→Hp→VK→Prop
abbrev TT:=St→Hp→(Ap→Hp→Prop)→Prop
abbrev TA:=St→Hp→(Aa V→Hp→Prop)→Prop
structure Ends where
 nx:St→Hp→Prop
 rt:VK
 bk:St→Hp→Prop:=fun _ _=>CC
 ct:St→Hp→Prop:=fun _ _=>CC
abbrev TS:=Ends→St→Hp→Prop
inductive EP (X:Cx)(pins:Aa (Ad × AU))(σ : St)(Q:VK)(u:Ac)(s':Ag):Prop
 |mk (v:V) (H':Hp) (I:Inv X pins σ H' s') (r:qJ v u) (q:Q v H'):EP X pins σ Q u s'
inductive TP (X:Cx)(pins:Aa (Ad × AU))(σ : St)(Q:Ap→Hp→Prop)(b:Ap)(s':Ag):Prop
 |mk (H':Hp) (I:Inv X pins σ H' s') (q:Q b H'):TP X pins σ Q b s'
inductive AP (X:Cx)(pins:Aa (Ad × AU))(σ : St)(Q:Aa V→Hp→Prop)(us:Aa Ac)(s':Ag):Prop
 |mk (vs:Aa V) (H':Hp) (I:Inv X pins σ H' s') (r:qK vs us) (q:Q vs H'):AP X pins σ Q us s'
def SP (X:Cx)(pins:Aa (Ad × AU))(D:Ends)(f:Flow)(s':Ag):Prop:=
 match f with
 |.next=>∃ σ' H',Inv X pins σ' H' s'∧D.nx σ' H'
 |.brk=>∃ σ' H',Inv X pins σ' H' s'∧D.bk σ' H'
 |.cont=>∃ σ' H',Inv X pins σ' H' s'∧D.ct σ' H'
 |.ret u=>∃ v σ' H',Inv X pins σ' H' s'∧qJ v u∧D.rt v H'
def PE (X:Cx)(e:AF)(t:TE):Prop:=
 ∀ (pins:Aa (Ad × AU)) (s:Ag) (σ : St) (H:Hp) (Q:VK),Inv X pins σ H s→t σ H Q→Ao (As X.prog X.w) X.A (eval e X.env) (EP X pins σ Q) X.xe s
def PT (X:Cx)(e:AF)(t:TT):Prop:=
 ∀ (pins:Aa (Ad × AU)) (s:Ag) (σ : St) (H:Hp) (Q:Ap→Hp→Prop),Inv X pins σ H s→t σ H Q→Ao (As X.prog X.w) X.A (isTrue e X.env (eval e X.env)) (TP X pins σ Q) X.xe s
def PW (X:Cx)(e:AF)(t:TT):Prop:=
 ∀ (whole:Hs Ac) (pins:Aa (Ad × AU)) (s:Ag) (σ : St) (H:Hp) (Q:Ap→Hp→Prop),Inv X pins σ H s→t σ H Q→Ao (As X.prog X.w) X.A (isTrue e X.env whole) (TP X pins σ Q) X.xe s
def PA (X:Cx)(es:Aa AF)(t:TA):Prop:=
 ∀ (pos:CA) (pins:Aa (Ad × AU)) (s:Ag) (σ : St) (H:Hp) (Q:Aa V→Hp→Prop),Inv X pins σ H s→t σ H Q→Ao (As X.prog X.w) X.A (spliced (Df pos (A9 es X.env))) (AP X pins σ Q) X.xe s
def PS (X:Cx)(st:Cm)(t:TS):Prop:=
 ∀ (pins:Aa (Ad × AU)) (s:Ag) (σ : St) (H:Hp) (D:Ends),Inv X pins σ H s→t D σ H→Ao (As X.prog X.w) X.A (exec st X.env) (SP X pins D) X.xe s
def PSs (X:Cx)(st:Aa Cm)(t:TS):Prop:=
 ∀ (pins:Aa (Ad × AU)) (s:Ag) (σ : St) (H:Hp) (D:Ends),Inv X pins σ H s→t D σ H→Ao (As X.prog X.w) X.A (execs st X.env) (SP X pins D) X.xe s
theorem thn {α:Type}{t:Hs α}{Q Q':α→Ag→Prop}{A:AG}{s:Ag}(h:Ao M A t Q E s)(hQ:∀ a s,Q a s→Q' a s):Ao M A t Q' E s:=Dh h hQ fun _ _ x=>x
end _L
namespace _L
open PySem PySem.Spec PyProof.Rows
variable {pins:Aa (Ad × AU)}{u:Ac}{E Q:Ac→Ag→Prop}
section
variable {X:Cx}
theorem bin {a b:AF}{ta tb:TE}(ha:PE X a ta)(hb:PE X b tb){pins:Aa (Ad × AU)}{s:Ag}{σ : St}{H:Hp}{R:V→V→Hp→Prop}(I:Inv X pins σ H s)(h:ta σ H fun x H1=>tb σ H1 fun y H2=>R x y H2)
  {α:Type} {Q:α→Ag→Prop} {f:Ac→Ac→Hs α}
  (hf:∀ v u s2 x y H2,Inv X pins σ H2 s2→qJ x v→qJ y u→R x y H2→Ao (As X.prog X.w) X.A (f v u) Q X.xe s2) :
  Ao (As X.prog X.w) X.A (eval a X.env) (fun v s₁=>Ao (As X.prog X.w) X.A (eval b X.env) (fun u s₂=>Ao (As X.prog X.w) X.A (f v u) Q X.xe s₂) X.xe s₁) X.xe s:=by
 refine thn (ha pins s σ H _ I h) fun v s1 ⟨x,H1,I1,r1,q1⟩=>?_;refine thn (hb pins s1 σ H1 _ I1 q1) fun u s2 ⟨y,H2,I2,r2,q2⟩=>?_;exact hf v u s2 x y H2 I2 r1 r2 q2
def FF (i:Aj):TE:=fun σ H Q=>∃ v,σ[i]? = Ab (Ab v)∧Q v H
def tC (v:V):TE:=fun _ H Q=>Q v H
theorem iG {i:Aj}{x:Ar}{pos:CA}(hN:X.N[i]? = Ab x)(hv:Vis X.env.scope x)(hd:(x == ("__debug__" : Ar))=false:=by decide)(hcd:(x == ("__classdict__" : Ar))=false:=by decide):PE X (.Name x pos) (FF i):=by
 intro pins s σ H Q I h;obtain⟨v,e,h⟩:=h;obtain⟨m,hn,hl⟩:=I.loc;obtain⟨u,r,l⟩:=hl i x v hN e hv;have fin:EP X pins σ Q u s:=⟨v,H,I,r,h⟩;rcases l with⟨hk,hm⟩|⟨hk,c,hc,hcell⟩
 ·exact Qc (wpAny_loadName_local I.ok.kind hk hn hm fin) hd
 ·rcases hk with hk|hk
  ·exact Qc (wpAny_loadName_cell I.ok.kind hk hc hcell fin) hd
  ·exact Qc (wpAny_loadName_free I.ok.kind hk hc hcell fin hcd) hd
theorem B9:PE X (.Constant (.int i) j pos) (tC (.int i)):=fun _ _ _ H _ I h=>wpAny_Constant_int ⟨.int i,H,I.tok _,⟨_,rfl⟩,h⟩
theorem TK:PE X (.Constant (.bool b) j pos) (tC (.bl b)):=fun _ _ _ H _ I h=>Constant_bool ⟨.bl b,H,I,rfl,h⟩
theorem BA:PE X (.Constant .none j pos) (tC .non):=fun _ _ _ H _ I h=>Constant_none ⟨.non,H,I,rfl,h⟩
theorem BC:PE X (.Constant (.str x) j pos) (tC (.str x)):=fun _ _ _ H _ I h=>Calls.Constant_str ⟨.str x,H,I.tok _,⟨_,rfl⟩,h⟩
def Gl (X:Cx)(x:Ar):Prop:=X.env.kindOf x=Ab .globalImplicit
theorem vH {s:Ag}{σ:St}{H:Hp}{x:Ar}{pos:CA}(I:Inv X pins σ H s)(hg:Gl X x)(hm:X.mg x=Ab u)(h:Q u s)
  (hd:(x == ("__debug__" : Ar))=false:=by decide):Ao (As X.prog X.w) X.A (eval (.Name x pos) X.env) Q E s:=
 Io I.ok.kind hg (Calls.loadGlobal_global (by rw[I.ok.glob];exact I.mod.glob.keeps I.bk) hm h) hd
theorem vR {s:Ag}{σ:St}{H:Hp}{x:Ar}{pos:CA}(I:Inv X pins σ H s)(hg:Gl X x)(hm:X.mg x=none)(hv:Dd x=Ab u)(h:Q u s)
  (hn:x ≠ "__name__":=by decide) (hd:(x == ("__debug__" : Ar))=false:=by decide):Ao (As X.prog X.w) X.A (eval (.Name x pos) X.env) Q E s:=by
 obtain⟨mb,h1,h2⟩:=I.mod.blt;exact Io I.ok.kind hg (Calls.loadGlobal_builtin (by rw[I.ok.glob];exact I.mod.glob.keeps I.bk) hm (by rw[I.ok.blt];exact h1.keeps I.bk) ((h2 x hn).trans hv) h) hd
theorem VZ {x:Ar}{v:V}{pos:CA}(hg:Gl X x)(hm:X.mg x=Ab u)(r:qJ v u)(hd:(x == ("__debug__" : Ar))=false:=by decide):PE X (.Name x pos) (tC v):=
 fun _ _ _ H _ I h=>vH I hg hm ⟨v,H,I,r,h⟩ hd
theorem VY {x:Ar}{v:V}{pos:CA}(hg:Gl X x)(hm:X.mg x=none)(hv:Dd x=Ab u)(r:qJ v u)(hn:x ≠ "__name__":=by decide)(hd:(x == ("__debug__" : Ar))=false:=by decide):PE X (.Name x pos) (tC v):=
 fun _ _ _ H _ I h=>vR I hg hm hv ⟨v,H,I,r,h⟩ hn hd
variable {a b:AF}{ta tb:TE}{pos:CA}
variable {tA tB':TT}{rest:Aa AF}
theorem U7 (ha:PT X a tA):PW X (.BoolOp .And [a] pos) tA:=by
 intro wh pins s σ H Q I h;refine isTrue_and (thn (ha pins s σ H Q I h) fun c s1 e=>?_);cases c with
 |true=>exact isTrue_and_nil e
 |false=>exact e
theorem BL (ha:PT X a tA):PW X (.BoolOp .Or [a] pos) tA:=by
 intro wh pins s σ H Q I h;refine isTrue_or (thn (ha pins s σ H Q I h) fun c s1 e=>?_);cases c with
 |false=>exact isTrue_or_nil e
 |true=>exact e
theorem BB {t:TE}(h:PE X a t):PE X (.BoolOp op [a] pos) t:=fun pins s σ H Q I hw=>BoolOp_one (h pins s σ H Q I hw)
end
end _L
namespace _L
open PySem PySem.Spec PyProof.Rows
variable {P:A1}{tg:AF}{w:AH}{es:Aa AF}{K:Ai}
def SqL (K:Ai)(H:Hp)(a:Ad)(xs:Aa V):Prop:=
 Rd H a (.lst xs) ∨
  ∃ (o:AU) (its:AB Ac) (n:Aj),K.lookup a=Ab o∧o.cls=.type "list" ∧ o.dict=none∧o.data=.seq its n∧its.size≤sizeLine∧qK xs its.toList
def SqT (K:Ai)(H:Hp)(a:Ad)(xs:Aa V):Prop:=
 Rd H a (.tup xs) ∨
  ∃ (o:AU) (its:AB Ac) (n:Aj),K.lookup a=Ab o∧o.cls=.type "tuple" ∧ o.data=.seq its n∧its.size≤sizeLine∧qK xs its.toList
def oN:Ac→Ak V
 |.none=>Ab .non
 |.bool b=>Ab (.bl b)
 |.int i _=>Ab (.int i)
 |.str x _=>Ab (.str x)
 |.bytes b _=>Ab (.byt b)
 |.float b _=>Ab (.flt b)
 |.ref a=>Ab (.ref a)
 |.type n=>Ab (.ty n)
 |_=>none
theorem qJ.abs {x:V}{u:Ac}(r:qJ x u):oN u=Ab x:=by
 cases x with
 |non=>cases r;rfl
 |bl _=>cases r;rfl
 |int _=>obtain⟨t,rfl⟩:=r;rfl
 |str _=>obtain⟨t,rfl⟩:=r;rfl
 |byt _=>obtain⟨t,rfl⟩:=r;rfl
 |flt _=>obtain⟨t,rfl⟩:=r;rfl
 |ref _=>cases r;rfl
 |ty _=>cases r;rfl
theorem qJ.inj {x y:V}{u:Ac}(r:qJ x u)(q:qJ y u):x=y:=AW (r.abs.symm.trans q.abs)
theorem qK.inj {xs ys:Aa V}{us:Aa Ac}(h:qK xs us)(k:qK ys us):xs=ys:=by
 induction h generalizing ys with
 |nil=>cases k;rfl
 |cons r t ih =>
  cases k with
  |cons r' t'=>rw[r.inj r',ih t']
section
variable {X:Cx}{pins:Aa (Ad × AU)}{σ : St}{H:Hp}{s:Ag}{a:Ad}{xs ys:Aa V}
theorem SqL.of (h:H a=Ab (.lst xs)):SqL K H a xs:=.inl (.inl h)
theorem SqT.of (h:H a=Ab (.tup xs)):SqT K H a xs:=.inl (.inl h)
theorem Inv.list (I:Inv X pins σ H s)(h:SqL X.K H a xs):∃ its:Aa Ac,qK xs its∧PlainL s.heap a its.toArray∧xs.length≤sizeLine:=by
 rcases h with h|⟨o,its,n,hk,hc,hd,hs,hz,r⟩
 ·obtain⟨z,its,n,r,e⟩:=h.ok I.hok
  exact⟨its,r,⟨_,n,e,rfl,rfl,rfl⟩,z⟩
 ·refine⟨its.toList,r,⟨o,n,I.kIn a o hk,hc,hd,by simpa using hs⟩,?_⟩
  have e:=r.length;simp only[Bb] at e;omega
theorem Inv.tuple (I:Inv X pins σ H s)(h:SqT X.K H a xs):∃ its:Aa Ac,qK xs its∧Om s.heap a its.toArray∧xs.length≤sizeLine:=by
 rcases h with h|⟨o,its,n,hk,hc,hs,hz,r⟩
 ·obtain⟨z,its,r,p⟩:=h.ok I.hok
  exact⟨its,r,p,z⟩
 ·refine⟨its.toList,r,⟨o,I.kIn a o hk,hc,n,by simpa using hs⟩,?_⟩
  have e:=r.length;simp only[Bb] at e;omega
theorem Inv.list_inj (I:Inv X pins σ H s)(h:SqL X.K H a xs)(h':SqL X.K H a ys):xs=ys:=by
 obtain⟨its,r,⟨o,n,e,_,_,d⟩,_⟩:=I.list h;obtain⟨its',r',⟨o',n',e',_,_,d'⟩,_⟩:=I.list h';rw[e] at e';cases e';rw[d] at d';injection d' with d1 _
 have:its=its':=by simpa using congrArg Ro d1
 subst this;exact r.inj r'
theorem Inv.tuple_inj (I:Inv X pins σ H s)(h:SqT X.K H a xs)(h':SqT X.K H a ys):xs=ys:=by
 obtain⟨its,r,⟨o,e,_,n,d⟩,_⟩:=I.tuple h;obtain⟨its',r',⟨o',e',_,n',d'⟩,_⟩:=I.tuple h';rw[e] at e';cases e';rw[d] at d';injection d' with d1 _
 have:its=its':=by simpa using congrArg Ro d1
 subst this;exact r.inj r'
end
abbrev Cx.wish (X:Cx)(E:Ac→Ag→Prop):Cx:={ X with xe:=E }
abbrev Cx.nox (X:Cx):Cx:=X.wish fun _ _=>CC
theorem Cx.Ok.wish {X:Cx}(ok:X.Ok)(E:Ac→Ag→Prop):(X.wish E).Ok:=
 ⟨ok.mod,ok.kind,ok.glob,ok.blt,ok.above,ok.inj,ok.has,ok.cab,ok.hd,ok.frames,ok.stk,ok.exf,ok.bs,ok.bsz,ok.noex,ok.exfs,ok.funs,ok.frf⟩
theorem Cx.Ok.unwish {X:Cx}{E:Ac→Ag→Prop}(ok:(X.wish E).Ok):X.Ok:=
 ⟨ok.mod,ok.kind,ok.glob,ok.blt,ok.above,ok.inj,ok.has,ok.cab,ok.hd,ok.frames,ok.stk,ok.exf,ok.bs,ok.bsz,ok.noex,ok.exfs,ok.funs,ok.frf⟩
section
variable {X:Cx}{pins:Aa (Ad × AU)}{σ : St}{H:Hp}{s:Ag}{E:Ac→Ag→Prop}
theorem Inv.wish (I:Inv X pins σ H s)(E:Ac→Ag→Prop):Inv (X.wish E) pins σ H s:=⟨I.ok.wish E,I.os,I.bare,I.base,I.loc,I.cell,I.free,I.freeC,I.pin,I.hok,I.len⟩
theorem Inv.unwish (I:Inv (X.wish E) pins σ H s):Inv X pins σ H s:=⟨I.ok.unwish,I.os,I.bare,I.base,I.loc,I.cell,I.free,I.freeC,I.pin,I.hok,I.len⟩
theorem SP.unwish {D:Ends}{f:Flow}{s':Ag}(h:SP (X.wish E) pins D f s'):SP X pins D f s':=by
 cases f with
 |next=>obtain⟨σ',H',I,q⟩:=h;exact⟨σ',H',I.unwish,q⟩
 |brk=>obtain⟨σ',H',I,q⟩:=h;exact⟨σ',H',I.unwish,q⟩
 |cont=>obtain⟨σ',H',I,q⟩:=h;exact⟨σ',H',I.unwish,q⟩
 |ret u=>obtain⟨v,σ',H',I,r,q⟩:=h;exact⟨v,σ',H',I.unwish,r,q⟩
theorem PE.nox {e:AF}{t:TE}(h:PE X.nox e t):PE X e t:=fun pins s σ H Q I hw =>
 Dh (h pins s σ H Q (I.wish _) hw) (fun _ _ ⟨v,H',I',r,q⟩=>⟨v,H',I'.unwish,r,q⟩) fun _ _ z=>An z
theorem PT.nox {e:AF}{t:TT}(h:PT X.nox e t):PT X e t:=fun pins s σ H Q I hw =>
 Dh (h pins s σ H Q (I.wish _) hw) (fun _ _ ⟨H',I',q⟩=>⟨H',I'.unwish,q⟩) fun _ _ z=>An z
theorem PSs.nox {st:Aa Cm}{t:TS}(h:PSs X.nox st t):PSs X st t:=fun pins s σ H D I hw =>
 Dh (h pins s σ H D (I.wish _) hw) (fun _ _ q=>q.unwish) fun _ _ z=>An z
end
section
variable {X:Cx}{st:Cm}{rest:Aa Cm}{t u:TS}{e:AF}{te:TE}{pos:CA}
def N8:TS:=fun D σ H=>D.nx σ H
def DC (t u:TS):TS:=fun D σ H=>t { D with nx:=u D } σ H
theorem U5:PSs X [] N8:=fun _ _ σ H _ I h=>Fo ⟨σ,H,I,h⟩
theorem ZW (h1:PS X st t)(h2:PSs X rest u):PSs X (st::rest) (DC t u):=by
 intro pins s σ H D I h;refine OI (thn (h1 pins s σ H { D with nx:=u D } I h) fun f s1 q=>?_)
 cases f with
 |next =>
  obtain⟨σ',H',I',q⟩:=q;exact h2 pins s1 σ' H' D I' q
 |ret v=>exact q
 |brk=>exact q
 |cont=>exact q
theorem U6 (h1:PS X st t):PSs X [st] t:=by
 intro pins s σ H D I h;refine OI (thn (h1 pins s σ H D I h) fun f s1 q=>?_);cases f with
 |next=>exact Fo q
 |ret v=>exact q
 |brk=>exact q
 |cont=>exact q
theorem Inv.quiet {pins:Aa (Ad × AU)}{σ:St}{H:Hp}{s:Ag}(I:Inv X pins σ H s):interactive X.env=false:=by simp[interactive,I.ok.kind]
end
abbrev TG:=V→St→Hp→(St→Hp→Prop)→Prop
abbrev TGs:=Aa V→St→Hp→(St→Hp→Prop)→Prop
def PG (X:Cx)(target:AF)(t:TG):Prop:=
 ∀ (pins:Aa (Ad × AU)) (s:Ag) (σ : St) (H:Hp) (v:V) (u:Ac) (Q:St→Hp→Prop),Inv X pins σ H s→qJ v u→t v σ H Q →
  Ao (As X.prog X.w) X.A (assign target X.env u) (fun _ s'=>∃ σ' H',Inv X pins σ' H' s'∧Q σ' H') X.xe s
def PGs (X:Cx)(ts:Aa AF)(t:TGs):Prop:=
 ∀ (pins:Aa (Ad × AU)) (s:Ag) (σ : St) (H:Hp) (vs:Aa V) (us:Aa Ac) (Q:St→Hp→Prop),Inv X pins σ H s→qK vs us→t vs σ H Q →
  Ao (As X.prog X.w) X.A (Mk ((Cs ts X.env).map (·.2)) us) (fun _ s'=>∃ σ' H',Inv X pins σ' H' s'∧Q σ' H') X.xe s
abbrev JF:=V→V→V→Hp→(Hp→Prop)→Prop
def nM (X:Cx)(t:JF):Prop:=
 ∀ (pins:Aa (Ad × AU)) (s:Ag) (σ : St) (H:Hp) (o i v:V) (ov iv u:Ac) (Q:Hp→Prop),Inv X pins σ H s→qJ o ov→qJ i iv→qJ v u→t o i v H Q →
  Ao (As X.prog X.w) X.A (Ra ov iv u) (fun _ s'=>∃ H',Inv X pins σ H' s'∧Q H') X.xe s
section
variable {X:Cx}{pos:CA}
def MD (i:Aj):TG:=fun v σ H Q=>Q (σ.set i (Ab v)) H
theorem U1 {i:Aj}{x:Ar}(hN:X.N.Nodup)(hi:X.N[i]? = Ab x)(hx:Loc X.env.scope x)(hf:X.fn x=true∨X.env.scope.names.lookup x=Ab .local:=by first|exact .inl rfl|exact .inr rfl|assumption):PG X (.Name x pos) (MD i):=by
 intro pins s σ H v u Q I r h;exact On (u0 I hN hi hx r (fun s' I'=>⟨_,H,I',h⟩) hf)
def LH:TGs:=fun vs σ H Q=>vs=[]∧Q σ H
def MC (t:TG)(u:TGs):TGs:=fun vs σ H Q=>∃ v r,vs=v::r∧t v σ H fun σ' H'=>u r σ' H' Q
theorem U2:PGs X [] LH:=by
 intro pins s σ H vs us Q I r h;obtain⟨e,h⟩:=h;subst e;cases r;exact Oo ⟨σ,H,I,h⟩
theorem ZT {e:AF}{t:TG}{u:TGs}(h1:PG X e t)(h2:PGs X es u)
  (hs:(Cs (e::es) X.env).map (·.2)=assign e X.env::(Cs es X.env).map (·.2):=by rfl):PGs X (e::es) (MC t u):=by
 intro pins s σ H vs us Q I r h;obtain⟨v,vr,e1,h⟩:=h;subst e1;cases r with
 |cons r rr =>
  rw[hs];refine Ie (thn (h1 pins s σ H _ _ _ I r h) fun _ s1 ⟨σ1,H1,I1,q1⟩=>?_);exact h2 pins s1 σ1 H1 _ _ Q I1 rr q1
def LI (K:Ai)(n:Aj)(t:TGs):TG:=fun v σ H Q=>∃ a xs,v=.ref a∧SqT K H a xs∧xs.length=n∧t xs σ H Q
theorem BE {k:Aj}{t:TGs}{n:Aj}(hc:X.calm=true)(h:PGs X es t)
  (hn:(Cs es X.env).length=n:=by rfl) (hst:(Cs es X.env).findIdx? (·.1)=none:=by rfl):PG X (.Tuple es k pos) (LI X.K n t):=by
 intro pins s σ H v u Q I r hw;obtain⟨a,xs,e1,hq,hl,hw⟩:=hw;subst e1;cases r;obtain⟨its,rv,ht,hz⟩:=I.tuple hq;refine assign_Tuple_tuple (I.ok.hd hc) ht (by simp[hn,← hl,rv.length]) hst fun h' hx=>?_
 have I1:Inv X pins σ H { s with heap:=h' }:=I.kept (t':=s.toks) fun b o e=>hx b o (AL (Au e)) e
 exact h pins _ σ H xs _ Q I1 (by simpa using rv) hw
def DB (i j:Aj)(ta:TA):TS:=fun D σ H=>ta σ H fun vs H1=>∃ v w,vs=[v,w]∧D.nx ((σ.set i (Ab v)).set j (Ab w)) H1
theorem BI {i j:Aj}{x y:Ar}{a b:AF}{ta:TA}{px py pt:CA} {kt k2 pt2} (hc:X.calm=true) (hN:X.N.Nodup) (hi:X.N[i]? = Ab x) (hj:X.N[j]? = Ab y) (hij:i≠j)
  (hx:X.env.scope.names.lookup x=Ab .local) (hy:X.env.scope.names.lookup y=Ab .local) (ha:PA X [a,b] ta)
  (hw:Fd [.Tuple [.Name x px,.Name y py] kt pt] (.Tuple [a,b] k2 pt2) X.env=pure (Ab [x,y]))
  (hs:Fe [.Tuple [.Name x px,.Name y py] kt pt] (.Tuple [a,b] k2 pt2) pos.line X.env=pure false:=by rfl) :
  PS X (.Assign [.Tuple [.Name x px,.Name y py] kt pt] (.Tuple [a,b] k2 pt2) pos) (DB i j ta):=by
 intro pins s σ H D I h;rw[exec_Assign_arm];refine Af (Hf ?_);rw[hs];refine Af (Al ?_);rw[AD (by decide)]
 refine Af (Tuple_ (thn (ha _ pins s σ H _ I h) fun us s1 ⟨vs,H1,I1,r1,q1⟩=>?_));obtain⟨v,w,e1,q1⟩:=q1;subst e1;obtain⟨u1,u2,rfl,rv,rw'⟩:∃ u1 u2,us=[u1,u2]∧qJ v u1∧qJ w u2:=by
  cases r1 with
  |cons p q =>
   cases q with
   |cons p' q' =>
    cases q';exact⟨_,_,rfl,p,p'⟩
 refine Cn ?_ (by show 2≤sizeLine;decide)
 have I2:Inv X pins σ H1 { s1 with heap:=s1.heap.push { cls:=.type "tuple",data:=.seq [u1,u2].toArray } }:=I1.kept (t':=s1.toks) fun b o e=>Ah _ e
 rw[hw];refine Af (Al ?_);show Ao (As X.prog X.w) X.A (do rule "assign.swapped-stores";let items ← OJ (.ref s1.heap.objs.size) 2 none;Mk [fun v=>Nj X.env y v,fun v=>Nj X.env x v] items.reverse;pure Flow.next) _ _ _
 refine Af (Gy (Af (unpackItems_tuple (items:=#[u1,u2]) (I.ok.hd hc) (Op s1.heap _) fun h' hx'=>?_)));have I3:=I2.kept (h':=h') (t':=s1.toks) fun b o e=>hx' b o (AL (Au e)) e;show Ao _ _ (Mk [fun v=>Nj X.env y v,fun v=>Nj X.env x v] [u2,u1] >>= fun _=>pure Flow.next) _ _ _;refine Af (Ie (wpAny_bindName (u0 I3 hN hj (.inl hy) rw' (fun s2 I4=>?_) (.inr hy))));refine Ie (wpAny_bindName (u0 I4 hN hi (.inl hx) rv (fun s3 I5=>Oo (Al ?_)) (.inr hx)));rw[List.set_comm _ _ (CZ hij)] at I5;exact⟨_,H1,I5,q1⟩
end
section
variable {X:Cx}{pos:CA}
def FG (c:TT)(tb:TS):TS:=fun D σ H=>∃ W:Aj→St→Hp→Prop,(∃ m,W m σ H)∧∀ m σ H,W m σ H →
 c σ H fun b H1=>if b=true then ∃ N:St→Hp→Prop,(∀ σ' H',N σ' H'→∃ m',m'<m∧W m' σ' H')∧tb { D with nx:=N,ct:=N,bk:=D.nx } σ H1 else D.nx σ H1
theorem ZV {c:AF}{body:Aa Cm}{tc:TT}{tb:TS}(hp:Hz (As X.prog X.w) X.A X.env X.xe)(hc:PT X c tc)(hb:PSs X body tb):PS X (.While c body [] pos) (FG tc tb):=by
 intro pins s σ H D I h;obtain⟨W,⟨m0,w0⟩,turn⟩:=h;refine wpAny_While (codeAny_whileLoop (fun n s'=>∃ σ' H',Inv X pins σ' H' s'∧W n σ' H') ?_ m0 ⟨σ,H,I,w0⟩);rintro n s1 ⟨σ1,H1,I1,w1⟩;refine Es hp (thn (hc pins s1 σ1 H1 _ I1 (turn n σ1 H1 w1)) fun b s2 ⟨H2,I2,q2⟩=>?_);cases b with
 |true =>
  obtain⟨N,hN,q2⟩:=q2;rw[A7 rfl];refine Es hp (thn (hb pins s2 σ1 H2 _ I2 q2) fun f s3 q3=>?_);cases f with
  |next =>
   obtain⟨σ3,H3,I3,n3⟩:=q3;obtain⟨m',hm,w3⟩:=hN σ3 H3 n3;exact⟨m',hm,σ3,H3,I3,w3⟩
  |cont =>
   obtain⟨σ3,H3,I3,n3⟩:=q3;obtain⟨m',hm,w3⟩:=hN σ3 H3 n3;exact⟨m',hm,σ3,H3,I3,w3⟩
  |brk=>exact q3
  |ret v=>exact q3
 |false =>
  rw[AD El];exact Fo ⟨σ1,H2,I2,q2⟩
end
structure It where
 go:Aj→Hp→Prop
 yld:Aj→Hp→V→Hp→Prop
 stop:Aj→Hp→Prop
def zY (X:Cx)(pins:Aa (Ad × AU))(H:Hp)(b:Ad):Prop:=
 H b=none∧b≠X.env.locals∧b ∉ X.fs∧(b∈X.ex∨X.s₀.heap.objs.size≤b)∧(∀ x c,X.env.cells.lookup x=Ab c→c≠b)∧∀ p∈X.pn++pins,p.1≠b
theorem Inv.fpOk {X:Cx}{pins:Aa (Ad × AU)}{σ:St}{H H':Hp}{s:Ag}{b:Ad}(I:Inv X pins σ H s)(hb:s.heap.objs.size≤b)(hn:H' b=none):zY X pins H' b:=by
 refine⟨hn,Dq (Ax I.lt hb),I.nofs hb,.inr (Bm I.sz hb),fun x c e z=>?_,fun p hp z=>?_⟩
 ·obtain⟨v,q⟩:=I.cell x c e
  exact absurd (Ax q.lt (by rw[z];exact hb)) (Cj _)
 ·exact absurd (Ax (Au (I.pin p hp).1) (by rw[z];exact hb)) (Cj _)
structure Turn (P:A1)(w:AH)(K:Ai)(tg:AF)(J:It)(fp:Aa Ad)(it:Ad)(tn:Aj→A5→Prop):Prop where
 mem:it∈fp
 obj:∀ i h,tn i h→∀ b∈fp,∃ o,h.get? b=Ab o∧∀ v,o.data≠.cell v
 keep:∀ i h h',tn i h→(∀ b∈fp,∀ o,h.get? b=Ab o→h'.get? b=Ab o)→tn i h'
 item:∀ (X:Cx),X.prog=P→X.w=w→X.K=K→X.calm=true→∀ (i:Aj) (pins:Aa (Ad × AU)) (s:Ag) (σ : St) (H:Hp) (E:Ac→Ag→Prop),Inv X pins σ H s→(∀ b∈fp,zY X pins H b)→tn i s.heap→J.go i H →
  Ao (As P w) X.A (Hg (.ref it)) (fun r s1=>∃ u,r=Ab u ∧
   Ao (As P w) X.A (ED tg (.ref it) u) (fun _ s2=>∃ x H',Inv X pins σ H' s2∧qJ x u∧J.yld i H x H'∧tn (i+1) s2.heap∧∀ b∈fp,H' b=none) E s1) E s
 done:∀ (X:Cx),X.prog=P→X.w=w→X.K=K→X.calm=true→∀ (i:Aj) (pins:Aa (Ad × AU)) (s:Ag) (σ : St) (H:Hp) (E:Ac→Ag→Prop),Inv X pins σ H s→(∀ b∈fp,zY X pins H b)→tn i s.heap→J.stop i H →
  Ao (As P w) X.A (Hg (.ref it)) (fun r s1=>r=none∧Inv X pins σ H s1) E s
 self:∀ (A:AG) (i:Aj) (s:Ag) (Q:Ac→Ag→Prop) (E:Ac→Ag→Prop),tn i s.heap→Q (.ref it) s→Ao (As P w) A (Ip (.ref it)) Q E s
abbrev TI:=St→Hp→(It→Hp→Prop)→Prop
inductive PIE (X:Cx)(pins:Aa (Ad × AU))(σ : St)(tg:AF)(R:It→Hp→Prop)(itv:Ac)(s2:Ag):Prop
 |mk (it:Ad) (fp:Aa Ad) (tn:Aj→A5→Prop) (J:It) (H':Hp) (e:itv=.ref it) (I:Inv X pins σ H' s2) (t:Turn X.prog X.w X.K tg J fp it tn) (z:tn 0 s2.heap) (f:∀ b∈fp,zY X pins H' b) (q:R J H'):PIE X pins σ tg R itv s2
def PI (X:Cx)(tg iter:AF)(wi:TI):Prop:=
 ∀ (pins:Aa (Ad × AU)) (s:Ag) (σ : St) (H:Hp) (R:It→Hp→Prop),Inv X pins σ H s→wi σ H R →
  Ao (As X.prog X.w) X.A (eval iter X.env) (fun v s1=>Ao (As X.prog X.w) X.A (Ip v) (PIE X pins σ tg R) X.xe s1) X.xe s
theorem eI {M:He}{A:AG}{E:Ac→Ag→Prop}{s:Ag}{it:Ad}{u:Ac}{o:AU}{n:Bz}{vs:AB Ac}{Q:IE→Ag→Prop}(ho:s.heap.get? it=Ab o)(hc:o.cls=.type n)(hd:o.data=.fields vs)
    (hn:["enumerate","zip","dict_itemiterator","dict_reverseitemiterator","odict_iterator","itertools.zip_longest","itertools.pairwise"].contains n=false) (hQ:Q () s):Ao M A (ED tg (.ref it) u) Q E s:=by
  unfold ED;cases tg <;> first
    |exact Al hQ
    |(cases u <;> first
        |exact Al hQ
        | (refine Af (wpAny_load ho ?_)
           rw[hc,hd];show Ao M A (if (["enumerate","zip","dict_itemiterator","dict_reverseitemiterator","odict_iterator","itertools.zip_longest","itertools.pairwise"].contains n&&vs[0]? == Ab (Dj _))=true then _ else _) Q E s
           rw[AD (by intro h;rw[hn,HT] at h;cases h)]
           exact Al hQ))
def Itl (K:Ai)(a:Ad):It:=
 ⟨fun i H=>∃ xs x,SqL K H a xs∧xs[i]? = Ab x,fun i H x H'=>H'=H∧∀ xs,SqL K H a xs→xs[i]? = Ab x,fun i H=>∃ xs,SqL K H a xs∧xs.length≤i⟩
def Itt (K:Ai)(a:Ad):It:=
 ⟨fun i H=>∃ xs x,SqT K H a xs∧xs[i]? = Ab x,fun i H x H'=>H'=H∧∀ xs,SqT K H a xs→xs[i]? = Ab x,fun i H=>∃ xs,SqT K H a xs∧xs.length≤i⟩
def Itr (lo:Am)(n:Aj):It:=⟨fun i _=>i<n,fun i H x H'=>H'=H∧x=.int (lo+i),fun i _=>n≤i⟩
theorem tO (a it:Ad):Turn P w K tg (Itl K a) [it] it (fun i h=>h.IsListIter it a i) where
 mem:=by simp
 obj:=fun i h st b hb=>by
  have e:b=it:=by simpa using hb
  subst e;obtain⟨o,e,c,d⟩:=st;exact⟨o,e,fun v z=>by rw[d] at z;cases z⟩
 keep:=fun i h h' st k=>st.at fun o e=>k it (by simp) o e
 item:=by
  intro X hP hw hK hc i pins s σ H E I hf st hg;subst hP hw hK;obtain⟨xs,x,hq,hx⟩:=hg;obtain⟨its,rv,p,hz⟩:=I.list hq;obtain⟨u,hu,ru⟩:=rv.get hx;obtain⟨f0,f1,f2,f3,f4,f5⟩:=hf it (by simp)
  refine Kh st p.isList (x:=u) (by simpa using hu) fun h' st' sb=>?_
  have I1:Inv X pins σ H { s with heap:=h' }:=I.turned (t':=s.toks) (fun b o hb e=>(sb.2 b hb).trans e) f0 f1 f3 f4 f5
  obtain⟨o,e,c,d⟩:=id st';exact⟨u,rfl,eI (s:={ s with heap:=h' }) e c d (by decide) ⟨x,H,I1,ru,⟨rfl,fun ys hy=>by rw[I.list_inj hy hq];exact hx⟩,st',fun b hb=>(hf b hb).1⟩⟩
 done:=by
  intro X hP hw hK hc i pins s σ H E I hf st hg;subst hP hw hK;obtain⟨xs,hq,hx⟩:=hg;obtain⟨its,rv,p,hz⟩:=I.list hq;obtain⟨f0,f1,f2,f3,f4,f5⟩:=hf it (by simp)
  have hl:=rv.length;exact Le (I.ok.hd hc) st p.isList (by simp;omega) fun h' eb=>⟨rfl,I.turned (t':=s.toks) (fun b o hb e=>eb b o hb e) f0 f1 f3 f4 f5⟩
 self:=fun _ _ _ _ _ st h=>wpAny_pyIter_listiter st h
theorem cB (a it:Ad):Turn P w K tg (Itt K a) [it] it (fun i h=>h.IsTupleIter it a i) where
 mem:=by simp
 obj:=fun i h st b hb=>by
  have e:b=it:=by simpa using hb
  subst e;obtain⟨o,e,c,d⟩:=st;exact⟨o,e,fun v z=>by rw[d] at z;cases z⟩
 keep:=fun i h h' st k=>st.at fun o e=>k it (by simp) o e
 item:=by
  intro X hP hw hK hc i pins s σ H E I hf st hg;subst hP hw hK;obtain⟨xs,x,hq,hx⟩:=hg;obtain⟨its,rv,p,hz⟩:=I.tuple hq;obtain⟨u,hu,ru⟩:=rv.get hx;obtain⟨f0,f1,f2,f3,f4,f5⟩:=hf it (by simp)
  refine wpAny_pyNext_tuple_item st (show s.heap.IsTuple a its.toArray from p) (x:=u) (by simpa using hu) fun h' st' sb=>?_
  have I1:Inv X pins σ H { s with heap:=h' }:=I.turned (t':=s.toks) (fun b o hb e=>(sb.2 b hb).trans e) f0 f1 f3 f4 f5
  obtain⟨o,e,c,d⟩:=id st';exact⟨u,rfl,eI (s:={ s with heap:=h' }) e c d (by decide) ⟨x,H,I1,ru,⟨rfl,fun ys hy=>by rw[I.tuple_inj hy hq];exact hx⟩,st',fun b hb=>(hf b hb).1⟩⟩
 done:=by
  intro X hP hw hK hc i pins s σ H E I hf st hg;subst hP hw hK;obtain⟨xs,hq,hx⟩:=hg;obtain⟨its,rv,p,hz⟩:=I.tuple hq;obtain⟨f0,f1,f2,f3,f4,f5⟩:=hf it (by simp)
  have hl:=rv.length;exact wpAny_pyNext_tuple_end (I.ok.hd hc) st (show s.heap.IsTuple a its.toArray from p) (by simp;omega) fun h' eb=>⟨rfl,I.turned (t':=s.toks) (fun b o hb e=>eb b o hb e) f0 f1 f3 f4 f5⟩
 self:=fun _ _ _ _ _ st h=>wpAny_pyIter_tupleiter st h
theorem cA (it:Ad)(lo:Am)(n:Aj):Turn P w K tg (Itr lo n) [it] it (fun i h=>IsRangeIter h it (lo+(i:Aj)*1) ((n:Am)-(i:Aj)) 1) where
 mem:=by simp
 obj:=fun i h st b hb=>by
  have e:b=it:=by simpa using hb
  subst e;exact⟨_,st,fun v z=>by
   have z':Data.fields _=Data.cell v:=z;cases z'⟩
 keep:=fun i h h' st k=>k it (by simp) _ st
 item:=by
  intro X hP hw hK hc i pins s σ H E I hf st hg;subst hP hw hK;obtain⟨f0,f1,f2,f3,f4,f5⟩:=hf it (by simp)
  have W:=Walks.range (prog:=X.prog) (w:=X.w) (I.ok.hd hc) it lo 1 n;refine W.item i s _ _ hg st fun v h' tk hv st' kk=>?_;obtain⟨t,rfl⟩:=hv;have I1:Inv X pins σ H { s with heap:=h',toks:=tk }:=I.turned (fun b o hb e=>kk b o (by simpa using hb) e) f0 f1 f3 f4 f5
  refine⟨_,rfl,eI (s:={ s with heap:=h',toks:=tk }) (n:="range_iterator") st' rfl rfl (by decide) ⟨.int (lo+i),H,I1,⟨t,?_⟩,⟨rfl,rfl⟩,st',fun b hb=>(hf b hb).1⟩⟩
  rw[Int.mul_one]
 done:=by
  intro X hP hw hK hc i pins s σ H E I hf st hg;subst hP hw hK;obtain⟨f0,f1,f2,f3,f4,f5⟩:=hf it (by simp)
  exact wpAny_pyNext_range_end (I.ok.hd hc) st (by have:n≤i:=hg;omega) fun h' eb=>⟨rfl,I.turned (t':=s.toks) (fun b o hb e=>eb b o hb e) f0 f1 f3 f4 f5⟩
 self:=fun _ _ _ _ _ st h=>wpAny_pyIter_rangeiter st h
end _L
namespace _L
open PySem PySem.Spec PyProof.Rows
variable {pins:Aa (Ad × AU)}{fp:Aa Ad}{s:Ag}{H:Hp}{σ:St}
section
variable {X:Cx}{tg:AF}
theorem lV {R:It→Hp→Prop}{E:Ac→Ag→Prop}{lo hi:Am}{t u v:Nl}{tk:Aj}(I:Inv X pins σ H s)(h1 : -(2 ^ 62)≤lo)(h2:lo<2 ^ 62)(h3 : -(2 ^ 62)≤hi)(h4:hi<2 ^ 62)
  (q:R (Itr lo (hi-lo).toNat) H):Ao (As X.prog X.w) X.A (Ip (.ref s.heap.objs.size)) (PIE X pins σ tg R) E { s with heap:=s.heap.push { cls:=.type "range",data:=.fields #[.int lo t,.int hi u,.int 1 v] },toks:=tk }:=by
 refine wpAny_pyIter_range (IsRange.new ..) (small_one h1 h2 h3 h4) ?_;have I1:Inv X pins σ H { s with heap:=s.heap.push { cls:=.type "range",data:=.fields #[.int lo t,.int hi u,.int 1 v] },toks:=tk }:=I.kept fun b o e=>Ah _ e
 refine⟨(s.heap.push { cls:=.type "range",data:=.fields #[.int lo t,.int hi u,.int 1 v] }).objs.size,[(s.heap.push { cls:=.type "range",data:=.fields #[.int lo t,.int hi u,.int 1 v] }).objs.size],_,_,H,rfl,
  I1.kept (t':=tk) fun b o e=>Ah _ e,cA _ lo (hi-lo).toNat,?_,fun b hb=>?_,q⟩
 ·have e1:lo+((0:Aj):Am)*1=lo:=by simp
  have e2:(((hi-lo).toNat:Aj):Am)-((0:Aj):Am)=Rp lo hi 1:=by rw[rangeSize_one];split <;> omega
  show IsRangeIter _ _ (lo+((0:Aj):Am)*1) ((((hi-lo).toNat:Aj):Am)-((0:Aj):Am)) 1;rw[e1,e2];exact Az _ rfl
 ·have e:b=(s.heap.push { cls:=.type "range",data:=.fields #[.int lo t,.int hi u,.int 1 v] }).objs.size:=by simpa using hb
  subst e;exact I1.fpOk (A2 _) (I1.hok.fresh (A2 _))
def D7 (wi:TI)(g:TG)(tb:TS):TS:=fun D σ H=>wi σ H fun J H1=>∃ W:Aj→Aj→St→Hp→Prop,(∃ m,W 0 m σ H1)∧∀ i m σ H,W i m σ H →
 (J.stop i H∧D.nx σ H)∨(J.go i H∧∃ N:St→Hp→Prop,(∀ σ' H',N σ' H'→∃ m',m'<m∧W (i+1) m' σ' H')∧∀ x H',J.yld i H x H'→g x σ H' fun σ2 H2=>tb { D with nx:=N,ct:=N,bk:=D.nx } σ2 H2)
def yB (fp:Aa Ad)(h:A5):Aa (Ad × AU):=fp.filterMap fun b=>(h.get? b).map fun o=>(b,o)
theorem vE {h:A5}{b:Ad}{o:AU}(hb:b∈fp)(e:h.get? b=Ab o):(b,o)∈yB fp h:=Em.mpr ⟨b,hb,by rw[e];rfl⟩
theorem t8 {h:A5}{p:Ad × AU}(hp:p∈yB fp h):p.1∈fp∧h.get? p.1=Ab p.2:=by
 obtain⟨b,hb,e⟩:=Em.mp hp;cases q:h.get? b with
 |none=>rw[q] at e;cases e
 |some o =>
  rw[q] at e;have e':(b,o)=p:=AW e;subst e';exact⟨hb,q⟩
theorem Inv.pinned (I:Inv X pins σ H s)(hf:∀ b∈fp,zY X pins H b)(ho:∀ b∈fp,∃ o,s.heap.get? b=Ab o∧∀ v,o.data≠.cell v):Inv X (pins++yB fp s.heap) σ H s:=
 I.pins_of fun p hp=>(Bs.mp hp).elim (fun z=>I.pin p (AI _ z)) fun z=>by
  obtain⟨hb,e⟩:=t8 z;obtain⟨f0,f1,f2,_⟩:=hf p.1 hb;obtain⟨o,e',d⟩:=ho p.1 hb;rw[e] at e';cases e';exact⟨e,f0,f1,f2,d⟩
theorem Inv.unpinned {pl:Aa (Ad × AU)}(I:Inv X (pins++pl) σ H s):Inv X pins σ H s:=I.pins_of fun p hp=>I.pin p (AI _ (Bk _ hp))
inductive ForI (X:Cx)(pins:Aa (Ad × AU))(fp:Aa Ad)(tn:Aj→A5→Prop)(W:Aj→Aj→St→Hp→Prop)(n:Aj)(s':Ag):Prop
 |mk (i:Aj) (σ' : St) (H':Hp) (I:Inv X pins σ' H' s') (t:tn i s'.heap) (f:∀ b∈fp,H' b=none) (w:W i n σ' H'):ForI X pins fp tn W n s'
theorem BH {iter:AF}{body:Aa Cm}{wi:TI}{g:TG}{tb:TS}{pos:CA}(hp:Hz (As X.prog X.w) X.A X.env X.xe)(hc:X.calm=true)(hi:PI X tg iter wi)(hg:PG X tg g)(hb:PSs X body tb)
  (hs:∀ x,CL iter X.env x=pure x:=by intro _;rfl):PS X (.For tg iter body [] pos) (D7 wi g tb):=by
 intro pins s σ H D I h;refine wpAny_For (thn (hi pins s σ H _ I h) fun v s1 h1=>thn h1 fun itv s2 h2=>?_) hs;obtain⟨it,fp,tn,J,H2,e,I2,T,st2,f2,W,⟨m0,w0⟩,turn⟩:=h2;subst e;have stat:∀ {H':Hp},(∀ b∈fp,H' b=none)→∀ b∈fp,zY X pins H' b:=fun hn b hb=>⟨hn b hb,(f2 b hb).2⟩;refine codeAny_forLoop_any (ForI X pins fp tn W) ?_ m0 ⟨0,σ,H2,I2,st2,fun b hb=>(f2 b hb).1,w0⟩;rintro n s3 ⟨i,σ3,H3,I3,st3,fr3,w3⟩;rcases turn i n σ3 H3 w3 with⟨stop,qn⟩|⟨go,N,hN,step⟩
 ·refine Es hp (thn (T.done X rfl rfl rfl hc i pins s3 σ3 H3 X.xe I3 (stat fr3) st3 stop) fun r s4 ⟨hr,I4⟩=>?_)
  subst hr;exact Fo ⟨σ3,H3,I4,qn⟩
 ·refine Es hp (thn (T.item X rfl rfl rfl hc i pins s3 σ3 H3 X.xe I3 (stat fr3) st3 go) fun r s4 ⟨u,hr,h4⟩=>?_)
  subst hr;refine Es hp (thn h4 fun _ s5 ⟨x,H5,I5,r5,y5,st5,fr5⟩=>?_);have I5':=I5.pinned (stat fr5) (T.obj _ _ st5);refine Es hp (thn (hg _ s5 σ3 H5 x u _ I5' r5 (step x H5 y5)) fun _ s6 ⟨σ6,H6,I6,q6⟩=>?_);refine Es hp (thn (hb _ s6 σ6 H6 _ I6 q6) fun f s7 q7=>?_);have again:∀ {σ7:St} {H7:Hp},Inv X (pins++yB fp s5.heap) σ7 H7 s7→N σ7 H7→∃ m,m<n∧ForI X pins fp tn W m s7:=fun {σ7 H7} I7 n7=>by
   obtain⟨m',hm,w7⟩:=hN σ7 H7 n7;refine⟨m',hm,i+1,σ7,H7,I7.unpinned,T.keep _ _ _ st5 fun b hb o e=>(I7.pin (b,o) (AI _ (AI _ (vE hb e)))).1,fun b hb=>?_,w7⟩;obtain⟨o,e,d⟩:=T.obj _ _ st5 b hb;exact(I7.pin (b,o) (AI _ (AI _ (vE hb e)))).2.1
  cases f with
  |next=>obtain⟨σ7,H7,I7,n7⟩:=q7;exact again I7 n7
  |cont=>obtain⟨σ7,H7,I7,n7⟩:=q7;exact again I7 n7
  |brk=>obtain⟨σ7,H7,I7,q7⟩:=q7;exact⟨σ7,H7,I7.unpinned,q7⟩
  |ret v=>obtain⟨x7,σ7,H7,I7,r7,q7⟩:=q7;exact⟨x7,σ7,H7,I7.unpinned,r7,q7⟩
end
end _L
namespace _L
open PySem PySem.Spec PyProof.Rows
variable {us:Aa Ac}{f:Ac→Ac→Hs Ac}{g:Am→Am→Am}
abbrev R2:=V→V→Hp→VK→Prop
def OpR (X:Cx)(f:Ac→Ac→Hs Ac)(r:R2):Prop:=
 ∀ (pins:Aa (Ad × AU)) (s:Ag) (σ : St) (H:Hp) (x y:V) (v u:Ac) (Q:VK),Inv X pins σ H s→qJ x v→qJ y u→r x y H Q →
  Ao (As X.prog X.w) X.A (f v u) (EP X pins σ Q) X.xe s
def UnR (X:Cx)(f:Ac→Hs Ac)(r:V→Hp→VK→Prop):Prop:=
 ∀ (pins:Aa (Ad × AU)) (s:Ag) (σ : St) (H:Hp) (x:V) (v:Ac) (Q:VK),Inv X pins σ H s→qJ x v→r x H Q →
  Ao (As X.prog X.w) X.A (f v) (EP X pins σ Q) X.xe s
def j3 (X:Cx)(f:Ac)(r:Aa V→Hp→VK→Prop):Prop:=
 ∀ (pins:Aa (Ad × AU)) (s:Ag) (σ : St) (H:Hp) (xs:Aa V) (us:Aa Ac) (Q:VK),Inv X pins σ H s→qK xs us→r xs H Q →
  Ao (As X.prog X.w) X.A (call f us) (EP X pins σ Q) X.xe s
def NW (X:Cx)(r:V→Hp→(Ap→Hp→Prop)→Prop):Prop:=
 ∀ (pins:Aa (Ad × AU)) (s:Ag) (σ : St) (H:Hp) (x:V) (v:Ac) (Q:Ap→Hp→Prop),Inv X pins σ H s→qJ x v→r x H Q →
  Ao (As X.prog X.w) X.A (truthy v) (TP X pins σ Q) X.xe s
def tOp (r:R2)(ta tb:TE):TE:=fun σ H Q=>ta σ H fun x H1=>tb σ H1 fun y H2=>r x y H2 Q
def rI (C:Am→Am→Prop)(g:Am→Am→V):R2:=fun x y H Q=>∃ i j,x=.int i∧y=.int j∧C i j∧Q (g i j) H
def rI0 (g:Am→Am→V):R2:=fun x y H Q=>∃ i j,x=.int i∧y=.int j∧Q (g i j) H
def rU (g:Am→V):V→Hp→VK→Prop:=fun x H Q=>∃ i,x=.int i∧Q (g i) H
section
variable {X:Cx}{a b c:AF}{ta tb tc:TE}{pos:CA}
theorem L4 (ha:PE X a ta)(hb:PE X b tb){pins:Aa (Ad × AU)}{s:Ag}{σ : St}{H:Hp}{R:V→V→Hp→Prop}(I:Inv X pins σ H s)
  (h:ta σ H fun x H1=>tb σ H1 fun y H2=>R x y H2) {Q:Ac→Ag→Prop} {f:Ac→Ac→Hs Ac}
  (hf:∀ v u s2 x y H2,Inv X pins σ H2 s2→qJ x v→qJ y u→R x y H2→Ao (As X.prog X.w) X.A (f v u) Q X.xe s2) :
  Ao (As X.prog X.w) X.A (eval a X.env) (fun v s₁=>Ao (As X.prog X.w) X.A (eval b X.env) (fun u s₂=>Ao (As X.prog X.w) X.A (f v u) Q X.xe s₂) X.xe s₁) X.xe s:=by
 refine thn (ha pins s σ H _ I h) fun v s1 ⟨x,H1,I1,r1,q1⟩=>?_;refine thn (hb pins s1 σ H1 _ I1 q1) fun u s2 ⟨y,H2,I2,r2,q2⟩=>?_;exact hf v u s2 x y H2 I2 r1 r2 q2
theorem opI {f:Ac→Ac→Hs Ac}{C:Am→Am→Prop}
  (rule:∀ (i j:Am) (t u:Nl) (s:Ag) (Q:Ac→Ag→Prop) (E:Ac→Ag→Prop),C i j→Q (.int (g i j) s.toks) { s with toks:=s.toks+1 } → Ao (As X.prog X.w) X.A (f (.int i t) (.int j u)) Q E s) :
  OpR X f (rI C fun i j=>.int (g i j)):=by
 intro pins s σ H x y v u Q I rx ry h;obtain⟨i,j,rfl,rfl,hc,q⟩:=h;obtain⟨t,rfl⟩:=rx;obtain⟨t',rfl⟩:=ry;exact rule i j t t' s _ _ hc ⟨.int (g i j),H,I.tok _,⟨_,rfl⟩,q⟩
theorem B0 {f:Ac→Ac→Hs Ac}
  (rule:∀ (i j:Am) (t u:Nl) (s:Ag) (Q:Ac→Ag→Prop) (E:Ac→Ag→Prop),Q (.int (g i j) s.toks) { s with toks:=s.toks+1 } → Ao (As X.prog X.w) X.A (f (.int i t) (.int j u)) Q E s) :
  OpR X f (rI0 fun i j=>.int (g i j)):=by
 intro pins s σ H x y v u Q I rx ry h;obtain⟨i,j,rfl,rfl,q⟩:=h;obtain⟨t,rfl⟩:=rx;obtain⟨t',rfl⟩:=ry;exact rule i j t t' s _ _ ⟨.int (g i j),H,I.tok _,⟨_,rfl⟩,q⟩
theorem hJ {g:Am→Am→Ap}
  (rule:∀ (i j:Am) (t u:Nl) (s:Ag) (Q:Ac→Ag→Prop) (E:Ac→Ag→Prop),Q (.bool (g i j)) s→Ao (As X.prog X.w) X.A (f (.int i t) (.int j u)) Q E s) :
  OpR X f (rI0 fun i j=>.bl (g i j)):=by
 intro pins s σ H x y v u Q I rx ry h;obtain⟨i,j,rfl,rfl,q⟩:=h;obtain⟨t,rfl⟩:=rx;obtain⟨t',rfl⟩:=ry;exact rule i j t t' s _ _ ⟨.bl (g i j),H,I,rfl,q⟩
def NT (i j:Am):Prop:=0<j∧j<1073741824
def NU (i j:Am):Prop:=0≤j∧j≤1000000∧i.natAbs<2 ^ 64
def oJ (i j:Am):Prop:=(-(2 ^ 64)<i∧i<2 ^ 64)∨(-(2 ^ 64)<j∧j<2 ^ 64)
theorem oJ.ok {i j:Am}(h:oJ i j):IntMulOk i j:=by
 rcases h with⟨h1,h2⟩|⟨h1,h2⟩
 ·exact .of_left (intBits_le_64 h1 h2)
 ·exact .of_right (intBits_le_64 h1 h2)
theorem B2:OpR X (Ci .Add) (rI0 fun i j=>.int (i+j)):=B0 fun _ _ _ _ _ _ _ q=>add_int q
theorem B7:OpR X (Ci .Sub) (rI0 fun i j=>.int (i-j)):=B0 fun _ _ _ _ _ _ _ q=>sub_int q
theorem B5:OpR X (Ci .Mult) (rI oJ fun i j=>.int (i*j)):=opI fun _ _ _ _ _ _ _ hc q=>mul_int q hc.ok
theorem VW:OpR X (Ci .FloorDiv) (rI NT fun i j=>.int (i/j)):=opI fun i j _ _ _ _ _ hc q=>by
 have h1:(0:Am)<j:=hc.1;have h2:j<1073741824:=hc.2;exact floordiv_int om (by rw[Int.fdiv_eq_ediv_of_nonneg i om];exact q) (.inl (PyProof.noPylong_small om))
theorem B4:OpR X (Ci .Mod) (rI (fun _ j=>0<j) fun i j=>.int (i % j)):=opI fun i j _ _ _ _ _ hc q=>by
 have h1:(0:Am)<j:=hc;exact mod_int' om (by rw[Int.fmod_eq_emod_of_nonneg i om];exact q)
theorem B6:OpR X (Ci .Pow) (rI NU fun i j=>.int (i ^ j.toNat)):=opI fun _ _ _ _ _ _ _ hc q=>pow_int_small hc.1 hc.2.1 hc.2.2 q
theorem unI {f:Ac→Hs Ac}{g:Am→Am}
  (rule:∀ (i:Am) (t:Nl) (s:Ag) (Q:Ac→Ag→Prop) (E:Ac→Ag→Prop),Q (.int (g i) s.toks) { s with toks:=s.toks+1 } → Ao (As X.prog X.w) X.A (f (.int i t)) Q E s) :
  UnR X f (rU fun i=>.int (g i)):=by
 intro pins s σ H x v Q I rx h;obtain⟨i,rfl,q⟩:=h;obtain⟨t,rfl⟩:=rx;exact rule i t s _ _ ⟨.int (g i),H,I.tok _,⟨_,rfl⟩,q⟩
theorem FL:UnR X (OK .USub) (rU fun i=>.int (-i)):=unI fun _ _ _ _ _ q=>neg_int q
end
section
variable {X:Cx}{a b c:AF}{ta tb tc:TE}{pos:CA}
theorem G7 {pins:Aa (Ad × AU)}{σ:St}{H:Hp}{s:Ag}{Q:VK}{k k':Ap}(I:Inv X pins σ H s)(q:Q (.bl k) H)(e:k=k'):EP X pins σ Q (.bool k') s:=by
 subst e;exact⟨.bl k,H,I,rfl,q⟩
theorem TJ:OpR X (Bj .Lt) (rI0 fun i j=>.bl (decide (i<j))):=hJ fun _ _ _ _ _ _ _ q=>lt_int q
theorem TH:OpR X (Bj .LtE) (rI0 fun i j=>.bl (decide (i≤j))):=hJ fun _ _ _ _ _ _ _ q=>le_int q
theorem TF:OpR X (Bj .Gt) (rI0 fun i j=>.bl (decide (j<i))):=hJ fun _ _ _ _ _ _ _ q=>gt_int q
theorem TC:OpR X (Bj .GtE) (rI0 fun i j=>.bl (decide (j≤i))):=hJ fun _ _ _ _ _ _ _ q=>ge_int q
theorem B3:OpR X (Bj .Is) (fun x y H Q=>y=.non∧Q (.bl (decide (x=.non))) H):=by
 intro pins s σ H x y v u Q I rx ry h;obtain⟨rfl,q⟩:=h;cases ry;refine is_none_gen (G7 I q ?_);cases x <;> first
  |(cases rx;rfl)
  |(obtain⟨t,rfl⟩:=rx;rfl)
theorem OpR.or {r r':R2}(h:OpR X f r)(h':OpR X f r'):OpR X f (fun x y H Q=>r x y H Q∨r' x y H Q):=by
 intro pins s σ H x y v u Q I rx ry q;rcases q with q|q
 ·exact h pins s σ H x y v u Q I rx ry q
 ·exact h' pins s σ H x y v u Q I rx ry q
theorem uW (b:AF){op:Pm}(h:op≠.In:=by decide)(h2:op≠.NotIn:=by decide):Ff op b=false:=by
 have e1:(op == CmpOp.In)=false:=by cases op <;> first|rfl|exact absurd rfl h
 have e2:(op == CmpOp.NotIn)=false:=by cases op <;> first|rfl|exact absurd rfl h2
 cases b <;> simp[Ff,e1,e2]
def rP (K:Ai)(x:V)(H:Hp)(k:Ap):Prop:=
 match x with
 |.non=>k=false
 |.bl b=>k=b
 |.int i=>k=(i != 0)
 |.str y=>y.length≤sizeLine∧k=((y.length:Am) != 0)
 |.byt y=>y.size≤sizeLine∧k=((y.size:Am) != 0)
 |.ref p=>(∃ xs,SqL K H p xs∧k=!xs.isEmpty)∨(∃ xs,SqT K H p xs∧k=!xs.isEmpty)∨∃ kvs,H p=Ab (.dK kvs)∧k=!kvs.isEmpty
 |_=>CC
theorem eK {κ:Type}{kvs:Aa (κ × V)}{vs:Aa (κ × Ac)}(r:KV kvs vs):(!vs.isEmpty)=!kvs.isEmpty:=by
 cases r <;> rfl
theorem bC {xs:Aa V}{its:Aa Ac}(r:qK xs its):(!its.toArray.isEmpty)=!xs.isEmpty:=by
 cases r <;> simp
theorem kQ:(sizeLine:Aj)<2 ^ 63:=by rw[Ct];decide
theorem bT:NW X (fun x H Q=>∃ k,rP X.K x H k∧Q k H):=by
 intro pins s σ H x v Q I rx h;obtain⟨k,e,q⟩:=h;have hl:=kQ;have hs:sizeLine=16777216:=Ct;cases x with
 |non =>
  cases rx;have e':k=false:=e;subst e';exact truthy_none ⟨H,I,q⟩
 |bl b =>
  cases rx;have e':k=b:=e;subst e';exact Oq ⟨H,I,q⟩
 |int i =>
  obtain⟨t,rfl⟩:=rx;have e':k=(i != 0):=e;subst e';exact PySem.P.truthy_int ⟨H,I,q⟩
 |str y =>
  obtain⟨t,rfl⟩:=rx;obtain⟨hy,e'⟩:y.length≤sizeLine∧k=((y.length:Am) != 0):=e;subst e';exact PySem.P.truthy_str om ⟨H,I.tok _,q⟩
 |byt y =>
  obtain⟨t,rfl⟩:=rx;obtain⟨hy,e'⟩:y.size≤sizeLine∧k=((y.size:Am) != 0):=e;subst e';exact PySem.W.truthy_bytes om ⟨H,I.tok _,q⟩
 |ref p =>
  cases rx;have e':(∃ xs,SqL X.K H p xs∧k=!xs.isEmpty)∨(∃ xs,SqT X.K H p xs∧k=!xs.isEmpty)∨∃ kvs,H p=Ab (.dK kvs)∧k=!kvs.isEmpty:=e;rcases e' with⟨xs,hx,e'⟩|⟨xs,hx,e'⟩|⟨kvs,hx,e'⟩
  ·subst e'
   obtain⟨its,r,pl,hz⟩:=I.list hx;have hlen:=r.length;exact wpAny_truthy_list pl.isList (by simp only[A0];omega) ⟨H,I.tok _,by rw[bC r];exact q⟩
  ·subst e'
   obtain⟨its,r,pl,hz⟩:=I.tuple hx;have hlen:=r.length;exact truthy_tuple pl (by simp only[A0];omega) ⟨H,I.tok _,by rw[bC r];exact q⟩
  ·subst e'
   obtain⟨hz,hS,vs,r,m⟩:kvs.length≤sizeLine∧(p == E5)=false∧∃ vs,KV kvs vs∧s.heap.DictOf (zR X.prog X.w) p vs:=I.hok p _ hx;have hlen:kvs.length=vs.length:=Paired.length r;exact wpAny_truthy_dict hS m om ⟨H,I.tok _,by rw[eK r];exact q⟩
 |_=>exact(show CC from e).elim
theorem hW:OpR X (Ci .Add) (fun x y H Q=>∃ i j,x=.str i∧y=.str j∧i.length+j.length≤sizeLine∧Q (.str (i++j)) H):=by
 intro pins s σ H x y v u Q I rx ry h;obtain⟨i,j,rfl,rfl,hz,q⟩:=h;obtain⟨t,rfl⟩:=rx;obtain⟨t',rfl⟩:=ry;exact add_str (fun t' tk=>⟨.str (i++j),H,I.tok _,⟨_,rfl⟩,q⟩) hz
theorem jR {x:V}(r:qK [x] us):∃ u,us=[u]∧qJ x u:=by
 cases r with
 |cons r1 r2=>cases r2;exact⟨_,rfl,r1⟩
theorem nJ {x y:V}(r:qK [x,y] us):∃ u w',us=[u,w']∧qJ x u∧qJ y w':=by
 cases r with
 |cons r1 r2 =>
  cases r2 with
  |cons r3 r4=>cases r4;exact⟨_,_,rfl,r1,r3⟩
theorem mJ:j3 X (.type "int") (fun xs H Q=>(∃ i,xs=[.int i]∧Q (.int i) H)∨∃ k,xs=[.bl k]∧Q (.int (if k then 1 else 0)) H):=by
 intro pins s σ H xs us Q I r h;rcases h with⟨i,rfl,q⟩|⟨k,rfl,q⟩
 ·obtain⟨u,rfl,t,rfl⟩:=jR r
  exact call_int_int ⟨.int i,H,I,⟨_,rfl⟩,q⟩
 ·obtain⟨u,rfl,r1⟩:=jR r
  cases r1;exact call_int_bool ⟨.int (if k then 1 else 0),H,I.tok _,⟨_,rfl⟩,q⟩
def JD (K:Ai)(x:V)(H:Hp)(n:Aj):Prop:=
 match x with
 |.str y=>y.length≤sizeLine∧n=y.length
 |.byt y=>y.size≤sizeLine∧n=y.size
 |.ref p=>(∃ xs,SqL K H p xs∧n=xs.length)∨∃ xs,SqT K H p xs∧n=xs.length
 |_=>CC
theorem oR:j3 X (.builtin "len") (fun xs H Q=>∃ x n,xs=[x]∧JD X.K x H n∧Q (.int n) H):=by
 intro pins s σ H xs us Q I r h;obtain⟨x,n,rfl,e,q⟩:=h;obtain⟨u,rfl,rx⟩:=jR r;have hl:=kQ;have hs:sizeLine=16777216:=Ct;cases x with
 |str y =>
  obtain⟨t,rfl⟩:=rx;obtain⟨hy,e'⟩:y.length≤sizeLine∧n=y.length:=e;subst e';exact len_str om ⟨.int _,H,I.tok _,⟨_,rfl⟩,q⟩
 |byt y =>
  obtain⟨t,rfl⟩:=rx;obtain⟨hy,e'⟩:y.size≤sizeLine∧n=y.size:=e;subst e';exact PySem.W.len_bytes om ⟨.int _,H,I.tok _,⟨_,rfl⟩,q⟩
 |ref p =>
  cases rx;have e':(∃ xs,SqL X.K H p xs∧n=xs.length)∨∃ xs,SqT X.K H p xs∧n=xs.length:=e;rcases e' with⟨xs,hx,e'⟩|⟨xs,hx,e'⟩
  ·subst e'
   obtain⟨its,r',pl,hz⟩:=I.list hx;have hlen:=r'.length;exact Calls.call_len_list pl.isList (by simp only[A0];omega) ⟨.int xs.length,H,I.tok _,⟨_,by simp only[A0];rw[hlen]⟩,q⟩
  ·subst e'
   obtain⟨its,r',pl,hz⟩:=I.tuple hx;have hlen:=r'.length;exact len_tuple pl (by simp only[A0];omega) ⟨.int xs.length,H,I.tok _,⟨_,by simp only[A0];rw[hlen]⟩,q⟩
 |_=>exact(show CC from e).elim
end
end _L
namespace _L
open PySem PySem.Spec PyProof.Rows
variable {mA:Ar→Ak Ac}
structure ObjM (h:A5)(x dx C:Ad)(mA:Ar→Ak Ac):Prop where
 obj:h.get? x=Ab (Kg C dx)
 ns:h.Ns1 dx mA
 ne:dx≠x
set_option tactic.hygienic true in
theorem aU {h:A5}{dx:Ad}(n:h.Ns1 dx mA):∃ od,h.get? dx=Ab od∧∀ name,Ls name od=Ab (mA name):=by
 obtain⟨o,es,ep,ho,hd,hk,_,hm⟩:=n;refine⟨o,ho,fun name=>?_⟩;have e:=hm name;unfold nsFind findBy at e;rw[← Array.find?_toList] at e;unfold Ls;rw[hd];dsimp only
 split
 ·rename_i y q
  rw[q] at e;exact congrArg Ab e
 ·rename_i q
  rw[q] at e;have a:es.toList.any (·.refKey)=false:=by
   rw[List.any_eq_false];intro y hy;obtain⟨z,t,hkey⟩:=hk y (Hu.mp hy);simp[DictEntry.refKey,hkey]
  have a':¬ es.toList.any (·.refKey)=true:=by rw[a];exact El
  rw[AD a'];exact congrArg Ab e
theorem ObjM.look {h:A5}{x dx C:Ad}(I:ObjM h x dx C mA):∃ od,PySem.W.InstAt h x (Kg C dx) C (Ab od)∧∀ name,Ls name od=Ab (mA name):=
 let ⟨od,ho,hl⟩:=aU I.ns
 ⟨od,⟨I.obj,rfl,rfl,ho⟩,hl⟩
theorem yG.some_of {v:V}{o:Ak Ac}(r:yG (Ab v) o):∃ u,o=Ab u∧qJ v u:=by
 cases o with
 |none=>exact(show CC from r).elim
 |some u=>exact⟨u,rfl,r⟩
section
variable {P:A1}{w:AH}{H H':Hp}{h h':A5}{a C dx:Ad}{fs fs':Aa (Ar × V)}
theorem V0 (hok:HOk P w H h)(e:H a=Ab (.ins C dx fs)):∃ mA,ObjM h a dx C mA∧(∀ f,yG (fs.lookup f) (mA f))∧Rn mA (fs.map (·.1))∧fs.length≤1000∧H dx=Ab (.own a):=by
 obtain⟨d,z,ne,ob,mA,n,r,q⟩:=(show zA P w H h a (.ins C dx fs) from hok a _ e)
 exact⟨mA,⟨ob,n,ne⟩,r,q,z,d⟩
end
structure Cls (K:Ai)(C:Ad):Prop where
 pg:OL K C Str.empty=true
 hd:PySem.W.hasDictIn K C=true
 po:PySem.W.plainOver K C=true
 sa:Gm K (.ref C) "__setattr__" = Ab (Ab (.builtin "object.__setattr__"))
theorem Cls.get {K:Ai}{C:Ad}(c:Cls K C)(f:Ar):OL K C f=true:=c.pg
section
variable {X:Cx}{pins:Aa (Ad × AU)}{σ : St}{H:Hp}{s:Ag}{A:AG}{E:Ac→Ag→Prop}{Q:Ac→Ag→Prop}{c:Ac}{b:Ap}
inductive TyOf (K:Ai)(H:Hp):V→Ac→Prop where
 |non:TyOf K H .non (.type "NoneType")
 |bl (x:Ap):TyOf K H (.bl x) (.type "bool")
 |int (i:Am):TyOf K H (.int i) (.type "int")
 |str (x:Ar):TyOf K H (.str x) (.type "str")
 |flt (x:UInt64):TyOf K H (.flt x) (.type "float")
 |lst {a:Ad} {xs:Aa V} (e:H a=Ab (.lst xs)):TyOf K H (.ref a) (.type "list")
 |frz {a:Ad} {o:AU} {xs:Aa V} (e:H a=Ab (.frz o (.lst xs))):TyOf K H (.ref a) (.type "list")
 |tup {a:Ad} {xs:Aa V} (e:H a=Ab (.tup xs)):TyOf K H (.ref a) (.type "tuple")
 |dK {a:Ad} {kvs:Aa (Key × V)} (e:H a=Ab (.dK kvs)):TyOf K H (.ref a) (.type "dict")
 |dT {a:Ad} {kvs:Aa (Aa Key × V)} (e:H a=Ab (.dT kvs)):TyOf K H (.ref a) (.type "dict")
 |ins {a C dx:Ad} {fs:Aa (Ar × V)} (e:H a=Ab (.ins C dx fs)) (cl:Cls K C) (ha:Gm K (.ref C) "__class__" = Ab (Ab (.builtin "object.__class__")))
   (hn:Os K (.builtin "object.__class__") "__get__" = Ab (Ab (.builtin "getset_descriptor.__get__"))) (htk:Po K (.builtin "object.__class__")=Ab true)
   (hm:Ml K C (.type "object")=Ab true):TyOf K H (.ref a) (.ref C)
theorem aK {x:V}{u t:Ac}(I:Inv X pins σ H s)(rx:qJ x u)(ty:TyOf X.K H x t)(e:EQ X.K t c=Ab b)(h:∀ tk,Q (.bool b) { s with toks:=tk }) :
  Ao (As X.prog X.w) A (call (.builtin "isinstance") [u,c]) Q E s:=by
 cases ty with
 |non=>cases (show u=CF from rx);exact Cb Ot I.kIn Dw e (fun z=>nomatch z) h
 |bl y=>cases (show u=CQ y from rx);exact Cb Ou I.kIn Dw e (fun z=>nomatch z) h
 |int i=>obtain⟨t,q⟩:=(show ∃ t,u=Hx i t from rx);cases q;exact Cb OM I.kIn Dw e (fun z=>nomatch z) h
 |str y=>obtain⟨t,q⟩:=(show ∃ t,u=Lc y t from rx);cases q;exact Cb ON I.kIn Dw e (fun z=>nomatch z) h
 |flt y=>obtain⟨t,q⟩:=(show ∃ t,u=RD y t from rx);cases q;exact Cb PySem.W.kitx_float I.kIn Dw e (fun z=>nomatch z) h
 |@lst a xs ea =>
  cases (show u=AS a from rx)
  obtain⟨_,_,n,_,h1⟩:=(show zA X.prog X.w H s.heap a (.lst xs) from I.hok a _ ea)
  exact Cb Et I.kIn ⟨_,h1,rfl⟩ e (fun z=>nomatch z) h
 |@frz a ob xs ea =>
  cases (show u=AS a from rx)
  obtain⟨_,_,_,n,_,h1⟩:=(show zA X.prog X.w H s.heap a (.frz ob (.lst xs)) from I.hok a _ ea)
  exact Cb Et I.kIn ⟨_,h1,rfl⟩ e (fun z=>nomatch z) h
 |@tup a xs ea =>
  cases (show u=AS a from rx)
  obtain⟨_,_,_,p⟩:=(show zA X.prog X.w H s.heap a (.tup xs) from I.hok a _ ea)
  obtain⟨o,h1,h2,_⟩:=p;exact Cb Gc I.kIn ⟨o,h1,h2⟩ e (fun z=>nomatch z) h
 |@dK a kvs ea =>
  cases (show u=AS a from rx)
  obtain⟨_,_,vs,_,p⟩:=(show zA X.prog X.w H s.heap a (.dK kvs) from I.hok a _ ea)
  obtain⟨o,es,ep,h1,h2,_⟩:=p;exact Cb Gp I.kIn ⟨o,h1,h2.1⟩ e (fun z=>nomatch z) h
 |@dT a kvs ea =>
  cases (show u=AS a from rx)
  obtain⟨_,_,xs,_,o,es,ep,h1,h2,_⟩:=(show zA X.prog X.w H s.heap a (.dT kvs) from I.hok a _ ea)
  exact Cb Gp I.kIn ⟨o,h1,h2.1⟩ e (fun z=>nomatch z) h
 |@ins a C dx fs ea cl ha hn htk hm =>
  cases (show u=AS a from rx)
  obtain⟨mA,O,_⟩:=V0 I.hok ea;obtain⟨od,J,_⟩:=O.look;exact Cb (PySem.W.kitx_own (cl.get _) cl.hd ha hn htk hm) I.kIn J e (fun z=>nomatch z) h
end
end _L
namespace _L
open PySem PySem.Spec PyProof.Rows
variable {A:AG}{ps:Aa Ar}{K:Ai}{mg:Ar→Ak Ac}{kindOf:Ar→Ak Dt}{scope:Ch}
structure Room (k:Aj)(A:AG):Prop where
 hd:A.handled=none
 dp:A.depth+3*k+5<HU
 un:A.units+16*k+200<CD
 gd:A.guards=Ab []
theorem Room.deeper {k:Aj}(r:Room (k+1) A)(env:Ek):Room k (A.deeper env):=
 ⟨r.hd,by have:=r.dp;show A.depth+1+3*k+5<_;omega,by have:=r.un;show A.units+3+16*k+200<_;omega,r.gd⟩
theorem Room.depth {k:Aj}(r:Room k A):A.depth<HU:=by have:=r.dp;omega
theorem Room.units {k:Aj}(r:Room k A):A.units+64<CD:=by have:=r.un;omega
def D9:TA:=fun _ H Q=>Q [] H
section
variable {X:Cx}{e:AF}{es:Aa AF}{te:TE}{t:TA}{pos:CA}
theorem B8:PA X [] D9:=fun _ _ _ _ H Q I h=>IF ⟨[],H,I,.nil,h⟩
def DD (t:TA):TE:=fun σ H Q=>t σ H fun xs H1=>xs.length≤sizeLine∧∀ p,H1 p=none→Q (.ref p) (upd H1 p (.tup xs))
def D8 (t:TA):TE:=fun σ H Q=>t σ H fun xs H1=>xs.length≤sizeLine∧∀ p,H1 p=none→Q (.ref p) (upd H1 p (.lst xs))
theorem BD  (h:PA X es t):PE X (.Tuple es x1 pos) (DD t):=by
 intro pins s σ H Q I hq;refine wpAny_Tuple_spliced (thn (h pos pins s σ H _ I hq) fun us s1 ⟨xs,H1,I1,r,z,q⟩=>⟨by rw[← r.length];exact z,?_⟩)
 have hf:H1 s1.heap.objs.size=none:=I1.hok.fresh (A2 _);refine⟨.ref s1.heap.objs.size,upd H1 s1.heap.objs.size (.tup xs),I1.laid (t':=s1.toks) (fun b u e=>Ah _ e) (A2 _) ?_,rfl,q _ hf⟩;exact⟨z,us,r,⟨_,Az _ rfl,rfl,_,rfl⟩⟩
theorem iF (h:PA X es t):PE X (.List es pos) (D8 t):=by
 intro pins s σ H Q I hq;refine wpAny_List_spliced (thn (h pos pins s σ H _ I hq) fun us s1 ⟨xs,H1,I1,r,z,q⟩=>⟨by rw[← r.length];exact z,?_⟩)
 have hf:H1 s1.heap.objs.size=none:=I1.hok.fresh (A2 _);refine⟨.ref s1.heap.objs.size,upd H1 s1.heap.objs.size (.lst xs),I1.laid (t':=s1.toks) (fun b u e=>Ah _ e) (A2 _) ?_,rfl,q _ hf⟩;exact⟨z,us,0,r,Az _ rfl⟩
end
abbrev Sp:=Aa V→Hp→VK→XK→Prop
abbrev CXT:=Aa Ek→Hp→Ag→XK→Ac→Ag→Prop
structure Env0 (P:A1)(w:AH)(K:Ai)(mg:Ar→Ak Ac)(base:A5)(A:AG)(outer:Aa Ek)(s:Ag)(H:Hp):Prop where
 frames:A.frames=Ab outer
 mod:Mod K mg base
 bs:∀ b o,base.get? b=Ab o→s.heap.get? b=Ab o∧H b=none
 bsz:base.objs.size≤s.heap.objs.size
 funs:s.heap.FunFrames base outer
 frf:∀ b∈frs outer,H b=none
 hok:HOk P w H s.heap
 bare:Hd s.gens
def CE (outer:Aa Ek)(P:A1)(w:AH)(H:Hp)(s:Ag)(Q:VK)(u:Ac)(s':Ag):Prop:=
 ∃ v H',s'.os=s.os∧Hd s'.gens∧Un (frs outer) [] H H' s.heap s'.heap∧HOk P w H' s'.heap∧qJ v u∧Q v H'
def CR (CX:CXT)(outer:Aa Ek)(P:A1)(w:AH)(H:Hp)(s:Ag)(Q:VK)(E:XK)(r:OO)(s':Ag):Prop:=
 match r with
 |.ok (.ret u)=>CE outer P w H s Q u s'
 |.ok _=>CC
 |.error e=>CX outer H s E e s'
structure FnOk (P:A1)(w:AH)(K:Ai)(mg:Ar→Ak Ac)(base:A5)(CX:CXT)(k:Aj)(f:Ad)(fd:CH)(ps:Aa Ar)(sp:Sp):Prop where
 len:∀ vs H Q E,sp vs H Q E→vs.length=ps.length
 run:∀ (A:AG) (outer:Aa Ek) (s:Ag) (H:Hp) (args:Args) (us:Aa Ac) (vs:Aa V) (Q:VK) (E:XK),Room k A→Env0 P w K mg base A outer s H→Hi s fd args (ps.zip us)→qK vs us→sp vs H Q E →
  Eu (As P w) A (.call (.ref f) args) (CR CX outer P w H s Q E) s
section
variable {X:Cx}{pins:Aa (Ad × AU)}{σ : St}{H:Hp}{s s':Ag}
theorem Inv.env0 (I:Inv X pins σ H s):Env0 X.prog X.w X.K X.mg X.base X.A X.stack s H:=
 ⟨I.ok.frames,I.ok.mod,I.bs,Bm I.ok.bsz I.sz,I.stack,I.stkFree,I.hok,I.bare⟩
theorem Inv.after {Q:VK}{u:Ac}(I:Inv X pins σ H s)(h:CE X.stack X.prog X.w H s Q u s'):EP X pins σ Q u s':=by
 obtain⟨v,H',os,bare,un,hok,r,q⟩:=h;obtain⟨hh,g,d,t,os'⟩:=s';obtain rfl:os'=s.os:=os;exact⟨v,H',I.call (h':=hh) (g':=g) (d':=d) (t':=t) (ch:=[]) un hok bare (fun b z=>absurd z (by simp)),r,q⟩
end
def yP (K:Ai)(fd:CH)(ps:Aa Ar)(ds:Aa Ac):Prop:=
 ∀ (s:Ag) (us:Aa Ac),K.In s.heap→(us++ds).length=ps.length→Hi s fd ⟨us,[]⟩ (ps.zip (us++ds))
theorem yP.all {fd:CH}(h:∀ us:Aa Ac,us.length=ps.length→Ki fd ⟨us,[]⟩=pure (ps.zip us)):yP K fd ps []:=fun s us _ hl=>by
 rw[Dx] at hl ⊢;exact .of_eq (h us hl)
structure FnScope (N P:Aa Ar)(sc:Ch):Prop where
 kind:sc.kind=.function
 co:sc.isCoroutine=false
 gen:sc.isGenerator=false
 nd:N.Nodup
 pre:N.take P.length=P
 par:∀ x∈P,sc.names.lookup x=Ab .local ∨ sc.names.lookup x=Ab .cell
 nofree:∀ y∈sc.names,y.2≠.free
theorem mH {x:Ar}:∀ {binds:Aa (Ar × Ac)} {m:Ar→Ak Ac},(∀ v,(x,v) ∉ binds)→Mm kindOf binds m x=m x
 |[],_,_=>rfl
 |(n,v)::r,m,h=>by
  unfold Mm;rw[mH fun w hw=>h w (AM _ hw)]
  split
  ·have:x≠n:=by rintro rfl;exact h v Ba
   simp[this]
  ·rfl
theorem mF {x:Ar}:∀ {binds:Aa (Ar × Ac)} {m:Ar→Ak Ac},(∀ v,(x,v) ∉ binds)→Mn kindOf binds m x=m x
 |[],_,_=>rfl
 |(n,v)::r,m,h=>by
  unfold Mn;rw[mF fun w hw=>h w (AM _ hw)]
  split
  ·rfl
  ·have:x≠n:=by rintro rfl;exact h v Ba
   simp[this]
theorem mG {x:Ar}{v:Ac}:∀ {P:Aa Ar} {vs:Aa Ac} {i:Aj} {m:Ar→Ak Ac},P.Nodup→P[i]? = Ab x→vs[i]? = Ab v→kindOf x=Ab .local →
  Mm kindOf (P.zip vs) m x=Ab v
 |[],_,_,_,_,h,_,_=>by simp at h
 |_::_,[],_,_,_,_,h,_=>by simp at h
 |p::P,w::vs,0,m,nd,h1,h2,hk=>by
  simp at h1 h2;subst h1;subst h2;show Mm kindOf ((p,w)::P.zip vs) m p=_;unfold Mm;rw[mH fun v hv=>(H0.mp nd).1 (Fp hv).1,A7 hk];simp
 |p::P,w::vs,i+1,m,nd,h1,h2,hk=>by
  show Mm kindOf ((p,w)::P.zip vs) m x=_;unfold Mm;exact mG (i:=i) (H0.mp nd).2 (by simpa using h1) (by simpa using h2) hk
theorem mE {x:Ar}{v:Ac}:∀ {P:Aa Ar} {vs:Aa Ac} {i:Aj} {m:Ar→Ak Ac},P.Nodup→P[i]? = Ab x→vs[i]? = Ab v→kindOf x≠Ab .local →
  Mn kindOf (P.zip vs) m x=Ab v
 |[],_,_,_,_,h,_,_=>by simp at h
 |_::_,[],_,_,_,_,h,_=>by simp at h
 |p::P,w::vs,0,m,nd,h1,h2,hk=>by
  simp at h1 h2;subst h1;subst h2;show Mn kindOf ((p,w)::P.zip vs) m p=_;unfold Mn;rw[mF fun v hv=>(H0.mp nd).1 (Fp hv).1,AD hk];simp
 |p::P,w::vs,i+1,m,nd,h1,h2,hk=>by
  show Mn kindOf ((p,w)::P.zip vs) m x=_;unfold Mn;exact mE (i:=i) (H0.mp nd).2 (by simpa using h1) (by simpa using h2) hk
def xB (N:Aa Ar)(vs:Aa V):St:=vs.map Ab++Ei (N.length-vs.length) none
def f9 (CX:CXT)(P:A1)(w:AH)(K:Ai)(mg:Ar→Ak Ac)(base:A5)(N:Aa Ar)(qual:Ar)(scope:Ch)(f:Ad)(cd:Ac)(A:AG)(outer:Aa Ek)(s:Ag)(H:Hp)(E:XK):Cx where
 prog:=P
 w:=w
 K:=K
 mg:=mg
 base:=base
 A:=A.deeper (CY qual scope s.heap.objs.size f cd)
 N:=N
 s₀:=s
 H₀:=H
 env:=CY qual scope s.heap.objs.size f cd
 outer:=outer
 stack:=CY qual scope s.heap.objs.size f cd::outer
 ex:=[]
 calm:=true
 fn:=fun _=>true
 pn:=[]
 xe:=fun e s'=>Ao (As P w) (A.deeper (CY qual scope s.heap.objs.size f cd)) (leaving (CY qual scope s.heap.objs.size f cd) e) (fun _ s''=>CX outer H s E e s'') (fun e' s''=>CX outer H s E e' s'') s'
theorem nU {sc:Ch}{n:Aj}{x:Ar}(h:sc.names.lookup x=Ab .cell):∃ c,(Dr n sc.names []).lookup x=Ab c:=by
 have q:=EE sc.names n [] (.inl h);exact E0.mp q
theorem mT {CX:CXT}{P:A1}{w:AH}{base:A5}{N:Aa Ar}{qual:Ar}{f:Ad}{cd:Ac}{outer:Aa Ek}{s s1:Ag}{H:Hp}{E:XK}{us:Aa Ac}{vs:Aa V}
  (S:FnScope N ps scope) (hd:A.handled=none) (e0:Env0 P w K mg base A outer s H) (hl:vs.length=ps.length) (r:qK vs us)
  (x:InCallC s s.heap.objs.size (Mm (CY qual scope s.heap.objs.size f cd).kindOf (ps.zip us) fun _=>none) (Dr (s.heap.objs.size+1) scope.names []) (Mn (CY qual scope s.heap.objs.size f cd).kindOf (ps.zip us) fun _=>none) s1) :
  Inv (f9 CX P w K mg base N qual scope f cd A outer s H E) [] (xB N vs) H s1:=by
 have hpl:ps.length≤N.length:=by have:=congrArg List.length S.pre;rw[EZ] at this;omega
 obtain⟨h1,tk,rfl,hk⟩:=x.done;have noA:∀ b:Ad,b ∉ (f9 CX P w K mg base N qual scope f cd A outer s H E).ex:=fun b z=>absurd (show b∈([]:Aa Ad) from z) (by simp)
 refine⟨⟨e0.mod,S.kind,rfl,rfl,A2 _,fun y z c h1 h2=>?_,fun y hy=>?_,fun y c _ h=>?_,fun _=>hd,Hv e0.frames,.inr ⟨rfl,rfl⟩,fun b z=>absurd z (noA b),e0.bs,e0.bsz,fun b _ _=>noA b,fun b z=>absurd z (noA b),e0.funs,e0.frf⟩,
  rfl,e0.bare,Un.kept hk,⟨_,x.toInCall.ns,fun i y v h1 h2 h3=>?_⟩,fun y c h=>⟨_,x.cell y c h⟩,e0.hok.fresh (A2 _),fun y c h=>?_,fun p hp=>absurd (show p∈([]:Aa (Ad × AU)) from hp) (by simp),e0.hok.kept hk,?_⟩
 ·exact name_of_addr x.apart (Cu h1) (Cu h2)
 ·have hy:scope.names.lookup y=Ab .cell∨scope.names.lookup y=Ab .free:=hy
  rcases hy with hy|hy
  ·exact nU hy
  ·exact absurd rfl (S.nofree _ (Cu hy))
 ·exact CP (x.above y c (Cu h))
 ·have hi:i<vs.length:=by
   unfold xB at h2;by_cases hi:i<vs.length
   ·exact hi
   ·rw[Be (by simpa using hi)] at h2
    rw[Gf] at h2
    split at h2 <;> cases h2
  have ha:vs[i]? = Ab v:=by
   unfold xB at h2;rw[AO (by simpa using hi),Bh] at h2
   cases e:vs[i]? with
   |none=>rw[e] at h2;cases h2
   |some a=>rw[e] at h2;cases h2;rfl
  obtain⟨u,hu,rv⟩:=r.get ha;have hp:ps[i]? = Ab y:=by
   rw[← S.pre,IW om];exact h1
  have ndP:ps.Nodup:=by rw[← S.pre];exact S.nd.sublist (List.take_sublist _ _)
  refine⟨u,rv,?_⟩;rcases S.par y (A4 hp) with k|k
  ·exact .inl ⟨k,mG ndP hp hu k⟩
  ·obtain⟨c,e⟩:=nU (n:=s.heap.objs.size+1) k
   refine .inr ⟨.inl k,c,e,?_⟩;have q:=x.cell y c e;rw[mE ndP hp hu (by show scope.names.lookup y≠_;rw[k];decide)] at q
   exact q
 ·exact e0.hok.fresh (CP (x.above y c (Cu h)))
 ·unfold xB
  show _=N.length;rw[Bt,A6,List.length_replicate];omega
theorem MB {CX:CXT}{P:A1}{w:AH}{base:A5}{k:Aj}{f:Ad}{name qual:Ar}{params:H8}{body:Aa Cm}{dV kV doc pm cdv ct oc:Ac}{an od:Ak Ad}
  {osl:AB (Ak Ac)} {N ps:Aa Ar} {sp:Sp} (lk:K.lookup f=Ab ⟨oc,od,.func (De name qual params body scope dV kV doc pm an cdv ct),osl⟩) (hcd:ER K cdv qual=true) (S:FnScope N ps scope)
  (len:∀ vs H Q E,sp vs H Q E→vs.length=ps.length)
  (hbody:∀ (A:AG) (outer:Aa Ek) (s:Ag) (H:Hp) (vs:Aa V) (Q:VK) (E:XK),Room k (A.deeper (CY qual scope s.heap.objs.size f cdv))→sp vs H Q E →
   ∃ t,PSs (f9 CX P w K mg base N qual scope f cdv A outer s H E) body t∧t { nx:=fun _ H'=>Q .non H',rt:=Q } (xB N vs) H) :
  FnOk P w K mg base CX (k+1) f (De name qual params body scope dV kV doc pm an cdv ct) ps sp:=by
 refine⟨len,fun A outer s H args us vs Q E hr e0 hb r hsp=>?_⟩;have hl:=len _ _ _ _ hsp;have KX:K.In s.heap:=e0.mod.kin.keeps fun b o e=>(e0.bs b o e).1;have lim:s.heap.NoLimit:=e0.mod.nolimit.keeps fun b o e=>(e0.bs b o e).1;have hkind:∀ y∈ps.zip us,scope.names.lookup y.1=Ab .local ∨ (scope.names.lookup y.1=Ab .cell∧((Dr (s.heap.objs.size+1) scope.names []).lookup y.1).isSome=true):=fun ⟨n,v⟩ hy=>by
  rcases S.par n (Fp hy).1 with q|q
  ·exact .inl q
  ·exact .inr ⟨q,EE _ _ _ (.inl q)⟩
 refine Lf hr.depth (KX _ _ lk) rfl S.co S.gen rfl (Nn KX hcd) (hb _ _ _ _ ?_);refine Iq S.kind hkind fun env he s1 x=>?_;subst he;refine⟨lim.keeps x.toInCall.keep,codeAny_func ?_⟩;obtain⟨t,ht,hq⟩:=hbody A outer s H vs Q E (hr.deeper _) hsp;have I:Inv (f9 CX P w K mg base N qual scope f cdv A outer s H E) [] (xB N vs) H s1:=mT S hr.hd e0 hl r x;refine Dh (ht [] s1 (xB N vs) H _ I hq) (fun fl s' hs=>?_) fun e s' hs=>hs;have fin:∀ {σ' : St} {H':Hp} {v:V} {u:Ac},Inv (f9 CX P w K mg base N qual scope f cdv A outer s H E) [] σ' H' s'→qJ v u→Q v H'→CE outer P w H s Q u s':=
  fun {σ' H' v u} J rv q=>⟨v,H',J.os,J.bare,J.base,J.hok,rv,q⟩
 cases fl with
 |ret u =>
  obtain⟨v,σ',H',J,rv,q⟩:=hs;exact fin J rv q
 |next =>
  obtain⟨σ',H',J,q⟩:=hs;exact fin (v:=V.non) (u:=CF) J rfl q
 |brk =>
  obtain⟨_,_,_,q⟩:=hs;exact An q
 |cont =>
  obtain⟨_,_,_,q⟩:=hs;exact An q
end _L
namespace _H
open PySem PyProof.Rows
variable {Q:Ac→Ag→Prop}{lo hi:Ak Am}
def lexLt:Aa Am→Aa Am→Ap
 |[],[]=>false
 |[],_::_=>true
 |_::_,[]=>false
 |x::xs,y::ys=>if x=y then lexLt xs ys else decide (x<y)
theorem lexLt_cons (x y:Am)(xs ys:Aa Am):lexLt (x::xs) (y::ys)=if x=y then lexLt xs ys else decide (x<y):=rfl
section
variable {prog:A1}{w:AH}{A:AG}{E:Ac→Ag→Prop}{s:Ag}
theorem cat_tup {t b:Ad}{vs ws:Aa Ac}(ht:Om s.heap t vs.toArray)(hb:Om s.heap b ws.toArray)(hv:vs≠[])
  (h1:ws=[]→Q (.ref t) s) (h2:ws≠[]→Q (.ref s.heap.objs.size) { s with heap:=s.heap.push { cls:=.type "tuple",data:=.seq (vs++ws).toArray } })
  (hsz:vs.length+ws.length≤sizeLine):Ao (As prog w) A (Ci .Add (.ref t) (.ref b)) Q E s:=by
 obtain⟨⟨cls,dd,data,sl⟩,ho,hc,n,hd⟩:=id ht;obtain⟨⟨cls2,dd2,data2,sl2⟩,ho2,hc2,n2,hd2⟩:=id hb;simp only at hc hd hc2 hd2;subst hc hd hc2 hd2;have e:vs.toArray++ws.toArray=(vs++ws).toArray:=by simp
 by_cases hw:ws=[]
 ·exact Ny ⟨_,ho,rfl⟩ ⟨_,ho2,rfl⟩ Jg Mo Gz Gg (Gb _ _)
   (tuple_addW1 t b vs.toArray ws.toArray n n2 dd dd2 sl sl2 (by simpa using hv) (by simp[hw])) ⟨ho,ho2,h1 hw⟩
 ·refine Ny ⟨_,ho,rfl⟩ ⟨_,ho2,rfl⟩ Jg Mo Gz Gg (Gb _ _)
   (tuple_addW2 t b vs.toArray ws.toArray n n2 dd dd2 sl sl2 (by simpa using hv) (by simpa using hw) (by rw[A0,A0];exact hsz)) ⟨ho,ho2,?_⟩
  rw[e];exact h2 hw
def sIx (n d:Aj):Ak Am→Aj
 |none=>d
 |some v=>if v<0 then (v+(n:Am)).toNat else min v.toNat n
theorem F8 (n d:Aj)(hd:d≤n)(o:Ak Am):sIx n d o≤n:=by
 cases o with
 |none=>exact hd
 |some v =>
  show (if v<0 then (v+(n:Am)).toNat else min v.toNat n)≤n
  by_cases hv:v<0
  ·rw[A7 hv];omega
  ·rw[AD hv];exact Nat.min_le_right _ _
theorem dS (v:Am)(n d:Aj):(if v<0 then max (v+(n:Am)) 0 else min v (n:Am))=((sIx n d (Ab v):Aj):Am):=by
 show (if v<0 then max (v+(n:Am)) 0 else min v (n:Am))=(((if v<0 then (v+(n:Am)).toNat else min v.toNat n):Aj):Am)
 by_cases hv:v<0
 ·simp only[A7 hv];omega
 ·simp only[AD hv];omega
theorem rR (lo hi:Ak Am)(n:Aj):Fg lo hi 1 (n:Am)=(((sIx n 0 lo:Aj):Am),((sIx n n hi:Aj):Am)):=by
 have h1:¬ ((1:Am)<0):=by omega
 unfold Fg;simp only[h1,Bu];refine Rz ?_ ?_
 ·cases lo with
  |none=>rfl
  |some v=>exact dS v n 0
 ·cases hi with
  |none=>rfl
  |some v=>exact dS v n n
theorem hX (i j:Aj):Ev (i:Am) (j:Am) 1=j-i:=by
 unfold Ev;have h1:(1:Am)>0:=by omega
 simp only[h1,Bv,Int.ediv_one]
 split <;> omega
theorem bS {v:Ac}{o:Ak Am}{Q:Ak Am→Ag→Prop}(p:Ir v o)(h:Q o s):Ao (As prog w) A (Qe v) Q E s:=by
 cases p with
 |none=>exact slicePart_none h
 |int i t=>exact slicePart_int h
theorem vY {sl:Ad}{vl vu:Ac}{n:Aj}{Q:Am × Am × Aj→Ag→Prop}(hs:s.heap.IsSliceOf sl vl vu .none)(pl:Ir vl lo)(pu:Ir vu hi)
  (h:Q (((sIx n 0 lo:Aj):Am),1,sIx n n hi-sIx n 0 lo) s):Ao (As prog w) A (Iu (.ref sl) (pure (n:Am))) Q E s:=by
 obtain⟨os,hos,hcs,hds⟩:=id hs;unfold Iu Rb;refine Af (Af (CM hos hds (x:=vl) rfl (Af (CM hos hds (x:=vu) rfl (Af (CM hos hds (x:=.none) rfl (Al ?_)))))));refine Af (slicePart_none ?_);show Ao _ _ (if ((1:Am) == 0)=true then _ else _) _ _ s
 rw[AD (by decide)]
 refine Af (bS pl (Af (bS pu (Af (Al ?_)))));show Ao _ _ (match Fg lo hi 1 (n:Am) with|(lo,hi)=>pure (lo,(1:Am),Ev lo hi 1)) _ _ s
 rw[rR lo hi n];show Ao _ _ (pure (((sIx n 0 lo:Aj):Am),(1:Am),Ev ((sIx n 0 lo:Aj):Am) ((sIx n n hi:Aj):Am) 1)) _ _ s;rw[hX];exact Al h
theorem ZU (xs:AB Ac)(i k:Aj):((AR k).filterMap fun (m:Aj)=>xs[((i:Am)+(m:Am)*1).toNat]?).toArray=((xs.toList.drop i).take k).toArray:=by
 have e:(fun (m:Aj)=>xs[((i:Am)+(m:Am)*1).toNat]?)=fun m=>xs[i+m]?:=by
  funext m
  have:((i:Am)+(m:Am)*1).toNat=i+m:=by omega
  rw[this]
 rw[e];have:=pick_run xs i k;rw[List.filterMap_map] at this;have e2:((fun x=>xs[x]?)∘fun x=>i+x)=fun m=>xs[i+m]?:=rfl;rw[e2] at this;rw[this]
theorem getItem_tuple_cut {t sl:Ad}{items:AB Ac}{vl vu:Ac}(ht:Om s.heap t items)(hs:s.heap.IsSliceOf sl vl vu .none)(pl:Ir vl lo)(pu:Ir vu hi)
  (hw:¬ (sIx items.size 0 lo=0∧sIx items.size items.size hi=items.size))
  (h:Q (.ref s.heap.objs.size) { s with heap:=s.heap.push { cls:=.type "tuple",data:=.seq ((items.toList.drop (sIx items.size 0 lo)).take (sIx items.size items.size hi-sIx items.size 0 lo)).toArray } })
  (hsz:items.size≤sizeLine):Ao (As prog w) A (Gh (.ref t) (.ref sl)) Q E s:=by
 have htake:sizeOk (.seq ((items.toList.drop (sIx items.size 0 lo)).take (sIx items.size items.size hi-sIx items.size 0 lo)).toArray):=by
  show ((items.toList.drop (sIx items.size 0 lo)).take (sIx items.size items.size hi-sIx items.size 0 lo)).toArray.size≤sizeLine;rw[A0,EZ,Hj,Bb];omega
 have hj:sIx items.size items.size hi≤items.size:=F8 _ _ (A2 _) hi;obtain⟨os,hos,hcs,hds⟩:=id hs;have hTs:s.TypeIs (.ref sl) "slice":=⟨os,hos,hcs⟩;unfold Gh
 try with_reducible refine Bc ?_
 first|refine Af (Al ?_)|skip
 refine Af (Ov ht.typeIs (by decide) ?_)
 refine Af (CB (name:=E8 "__getitem__") ht.typeIs Cw
  (Cy Cw ht.typeIs Mp ?_ (No _ _)))
 show Ao _ _ (Iw (.ref t) >>= _) _ _ s;refine Af (tupleItemsOf_ ht ?_);refine Af (Gi hTs ?_);rw[A7 (by decide)]
 refine Af (vY hs pl pu ?_);have hno:¬ ((((sIx items.size 0 lo:Aj):Am) == 0&&(1:Am) == 1&&(sIx items.size items.size hi-sIx items.size 0 lo) == items.size)=true):=by
  intro q;rw[A3,A3] at q;have q1:((sIx items.size 0 lo:Aj):Am)=0:=eq_of_beq q.1.1;have q2:sIx items.size items.size hi-sIx items.size 0 lo=items.size:=eq_of_beq q.2;exact hw ⟨by omega,by omega⟩
 show Ao _ _ (if (((sIx items.size 0 lo:Aj):Am) == 0&&(1:Am) == 1&&(sIx items.size items.size hi-sIx items.size 0 lo) == items.size)=true then _ else _) _ _ s
 rw[AD hno,ZU]
 first
  |exact Af (m:=E1 _) (Cn (Al ⟨_,rfl,Al h⟩) htake)
  |exact Af (m:=E1 _) (Cn (Af (Al (Al ⟨_,rfl,Al h⟩))) htake)
  |exact Af (Af (m:=E1 _) (Cn (Al (Al ⟨_,rfl,Al h⟩)) htake))
  |exact Af (Af (m:=E1 _) (Cn (Al ⟨_,rfl,Al h⟩) htake))
end
end _H
namespace _L
open PySem PySem.Spec PyProof.Rows
abbrev TO:=St→Hp→(Ak Am→Hp→Prop)→Prop
def PO (X:Cx)(e:Ak AF)(t:TO):Prop:=
 ∀ (pins:Aa (Ad × AU)) (s:Ag) (σ : St) (H:Hp) (Q:Ak Am→Hp→Prop),Inv X pins σ H s→t σ H Q →
  Ao (As X.prog X.w) X.A (evalPart e X.env) (fun u s'=>∃ o H',Inv X pins σ H' s'∧Ir u o∧Q o H') X.xe s
def N9 (t:TE):TO:=fun σ H Q=>t σ H fun x H1=>∃ i,x=.int i∧Q (Ab i) H1
theorem bA {ns:Aa Am}:∀ {us:Aa Ac},qK (ns.map V.int) us→IG us ns:=by
 induction ns with
 |nil=>intro us r;rw[Nz] at r;cases r;exact .nil
 |cons n ns ih =>
  intro us r;rw[Co] at r;cases r with
  |cons r1 r2 =>
   obtain⟨t,e⟩:=r1;subst e;exact .cons n t (ih r2)
section
variable {X:Cx}{e:AF}{te:TE}{lo hi:Ak AF}{tl th:TO}{pos p2:CA}
theorem U4 (h:PE X e te):PO X (Ab e) (N9 te):=by
 intro pins s σ H Q I hw;rw[evalPart_some];refine thn (h pins s σ H _ I hw) fun u s1 ⟨x,H1,I1,r1,q1⟩=>?_;obtain⟨i,rfl,q⟩:=q1;obtain⟨t,rfl⟩:=r1;exact⟨Ab i,H1,I1,.int i t,q⟩
def SlR (X:Cx)(r:V→Ak Am→Ak Am→Hp→VK→Prop):Prop:=
 ∀ (pins:Aa (Ad × AU)) (s:Ag) (σ : St) (H:Hp) (x:V) (v vl vu:Ac) (lo hi:Ak Am) (sl:Ad) (Q:VK),Inv X pins σ H s→qJ x v→s.heap.IsSliceOf sl vl vu .none→Ir vl lo→Ir vu hi→r x lo hi H Q →
  ∃ T id,Qf (.type T) "__getitem__" = pure (Ab (.builtin id))∧s.TypeIs v T∧Ao (As X.prog X.w) X.A (Gh v (.ref sl)) (EP X pins σ Q) X.xe s
theorem SlR.or {r r':V→Ak Am→Ak Am→Hp→VK→Prop}(h:SlR X r)(h':SlR X r'):SlR X (fun x lo hi H Q=>r x lo hi H Q∨r' x lo hi H Q):=by
 intro pins s σ H x v vl vu lo hi sl Q I rx hs pl pu q;rcases q with q|q
 ·exact h pins s σ H x v vl vu lo hi sl Q I rx hs pl pu q
 ·exact h' pins s σ H x v vl vu lo hi sl Q I rx hs pl pu q
def tSl (r:V→Ak Am→Ak Am→Hp→VK→Prop)(te:TE)(tl th:TO):TE:=fun σ H Q=>te σ H fun x H1=>tl σ H1 fun l H2=>th σ H2 fun u H3=>r x l u H3 Q
theorem ZS {r:V→Ak Am→Ak Am→Hp→VK→Prop}(hr:SlR X r)(he:PE X e te)(hl:PO X lo tl)(hu:PO X hi th):PE X (.Subscript e (.Slice lo hi none p2) pos) (tSl r te tl th):=by
 intro pins s σ H Q I h;refine Qg (thn (he pins s σ H _ I h) fun v s1 ⟨x,H1,I1,r1,q1⟩=>?_);refine wpAny_Slice (thn (hl pins s1 σ H1 _ I1 q1) fun vl s2 ⟨l,H2,I2,pl,q2⟩=>thn (hu pins s2 σ H2 _ I2 q2) fun vu s3 ⟨u,H3,I3,pu,q3⟩=>?_);rw[evalPart_none];refine Al ?_;have I4:Inv X pins σ H3 { s3 with heap:=s3.heap.push { cls:=.type "slice",data:=.fields #[vl,vu,.none] } }:=I3.kept (t':=s3.toks) fun b ob q=>Ah _ q
 obtain⟨T,id,hT,ht,hg⟩:=hr pins { s3 with heap:=s3.heap.push { cls:=.type "slice",data:=.fields #[vl,vu,.none] } } σ H3 x v vl vu l u s3.heap.objs.size Q I4 r1 (RO ..) pl pu q3
 show Ao (As X.prog X.w) X.A (IH e (.Slice lo hi none p2) v (.ref s3.heap.objs.size)) (EP X pins σ Q) X.xe { s3 with heap:=s3.heap.push { cls:=.type "slice",data:=.fields #[vl,vu,.none] } }
 exact tail_any (ops:=[.ref s3.heap.objs.size,v]) ht hT hg (by with_unfolding_all rfl)
def kE (xs:Aa V)(lo hi:Ak Am):Aa V:=(xs.drop (_H.sIx xs.length 0 lo)).take (_H.sIx xs.length xs.length hi-_H.sIx xs.length 0 lo)
theorem gR (xs:Aa V)(lo hi:Ak Am):(kE xs lo hi).length≤xs.length:=by
 unfold kE;rw[EZ,Hj];omega
def D5 (K:Ai):V→Ak Am→Ak Am→Hp→VK→Prop:=fun x lo hi H Q=>∃ a xs,x=.ref a∧SqT K H a xs ∧
 ¬ (_H.sIx xs.length 0 lo=0∧_H.sIx xs.length xs.length hi=xs.length)∧∀ p,H p=none→Q (.ref p) (upd H p (.tup (kE xs lo hi)))
theorem FA:SlR X (D5 X.K):=by
 intro pins s σ H x v vl vu lo hi sl Q I rx hs pl pu h;obtain⟨a,xs,rfl,hx,hw,q⟩:=h;cases rx;obtain⟨its,r,ht,hz⟩:=I.tuple hx;have hlen:its.toArray.size=xs.length:=by rw[A0];exact r.length.symm
 refine⟨"tuple",_,Cw.lookup,ht.typeIs,?_⟩;refine _H.getItem_tuple_cut ht hs pl pu (by rw[hlen];exact hw) ?_ (by rw[hlen];exact hz)
 rw[hlen];refine⟨.ref s.heap.objs.size,_,I.laid (t':=s.toks) (o:=.tup (kE xs lo hi)) (fun b ob q=>Ah _ q) (A2 _) ?_,rfl,q _ (I.hok.fresh (A2 _))⟩;exact⟨Bm (gR xs lo hi) hz,_,(r.drop (_H.sIx xs.length 0 lo)).take (_H.sIx xs.length xs.length hi-_H.sIx xs.length 0 lo),Op _ _⟩
end
end _L
namespace _L
open PySem PySem.Spec PyProof.Rows
variable {pins:Aa (Ad × AU)}{s:Ag}{H:Hp}{σ:St}
def ixN (n:Aj)(i:Am):Ak Aj:=if 0≤i then (if i<n then Ab i.toNat else none) else if -(n:Am)≤i then Ab (i+n).toNat else none
def atI {α:Type}(xs:Aa α)(i:Am):Ak α:=(ixN xs.length i).bind fun j=>xs[j]?
theorem sL {n:Aj}{i:Am}{j:Aj}(h:ixN n i=Ab j):Ow i n=Ab j∧j<n ∧ -(n:Am)≤i∧i<n:=by
 unfold ixN at h;by_cases h0:0≤i
 ·rw[A7 h0] at h
  by_cases h1:i<n
  ·rw[A7 h1] at h
   have e:i.toNat=j:=AW h;exact⟨by rw[OP h0 h1,e],by omega,by omega,h1⟩
  ·rw[AD h1] at h;cases h
 ·rw[AD h0] at h
  by_cases h1 : -(n:Am)≤i
  ·rw[A7 h1] at h
   have e:(i+n).toNat=j:=AW h;exact⟨by rw[seqIndex_neg om h1,e],by omega,h1,by omega⟩
  ·rw[AD h1] at h;cases h
theorem dP {α:Type}{xs:Aa α}{i:Am}{v:α}(h:atI xs i=Ab v):∃ j,Ow i xs.length=Ab j∧xs[j]? = Ab v∧j<xs.length ∧ -(xs.length:Am)≤i∧i<xs.length:=by
 unfold atI at h;cases e:ixN xs.length i with
 |none=>rw[e] at h;cases h
 |some j =>
  rw[e] at h;obtain⟨h1,h2,h3,h4⟩:=sL e;exact⟨j,h1,h,h2,h3,h4⟩
def bY (b:AF):Prop:=∀ o i,subscripted b false o i=operate [o,i] (Gh o i)
def IxR (X:Cx)(r:R2):Prop:=
 ∀ (value slice:AF) (pins:Aa (Ad × AU)) (s:Ag) (σ : St) (H:Hp) (x y:V) (v u:Ac) (Q:VK),Inv X pins σ H s→qJ x v→qJ y u→r x y H Q →
  subscripted slice false v u=operate [v,u] (Gh v u)→Ao (As X.prog X.w) X.A (IH value slice v u) (EP X pins σ Q) X.xe s
def MtR (X:Cx)(id:Bz)(r:V→Aa V→Hp→VK→Prop):Prop:=
 ∀ (pins:Aa (Ad × AU)) (s:Ag) (σ : St) (H:Hp) (x:V) (xs:Aa V) (v:Ac) (us:Aa Ac) (Q:VK),Inv X pins σ H s→qJ x v→qK xs us→r x xs H Q →
  Ao (As X.prog X.w) X.A (call (.builtin id) (v::us)) (EP X pins σ Q) X.xe s
section
variable {X:Cx}{a b:AF}{ta tb:TE}{pos:CA}
theorem IxR.or {r r':R2}(h:IxR X r)(h':IxR X r'):IxR X (fun x y H Q=>r x y H Q∨r' x y H Q):=by
 intro value slice pins s σ H x y v u Q I rx ry q hs;rcases q with q|q
 ·exact h value slice pins s σ H x y v u Q I rx ry q hs
 ·exact h' value slice pins s σ H x y v u Q I rx ry q hs
theorem MtR.or {id:Bz}{r r':V→Aa V→Hp→VK→Prop}(h:MtR X id r)(h':MtR X id r'):MtR X id (fun x xs H Q=>r x xs H Q∨r' x xs H Q):=by
 intro pins s σ H x xs v us Q I rx rs q;rcases q with q|q
 ·exact h pins s σ H x xs v us Q I rx rs q
 ·exact h' pins s σ H x xs v us Q I rx rs q
theorem TL {r:R2}(hr:IxR X r)(ha:PE X a ta)(hb:PE X b tb)(hs:bY b):PE X (.Subscript a b pos) (tOp r ta tb):=by
 intro pins s σ H Q I h;exact Qg (L4 ha hb I h fun v u s2 x y H2 I2 rx ry q=>hr a b pins s2 σ H2 x y v u Q I2 rx ry q (hs _ _))
def D1 (K:Ai):R2:=fun x y H Q=>∃ p xs i v,x=.ref p∧y=.int i∧SqL K H p xs∧atI xs i=Ab v∧Q v H
def D2 (K:Ai):R2:=fun x y H Q=>∃ p xs i v,x=.ref p∧y=.int i∧SqT K H p xs∧atI xs i=Ab v∧Q v H
theorem sM:IxR X (D1 X.K):=by
 intro value slice pins s σ H x y v u Q I rx ry h hs;obtain⟨p,xs,i,z,rfl,rfl,hq,he,q⟩:=h;cases rx;obtain⟨t,rfl⟩:=ry;obtain⟨its,r,pl,hz⟩:=I.list hq;obtain⟨j,h1,h2,h3,h4,h5⟩:=dP he;obtain⟨w,ew,rw'⟩:=r.get h2;have hl:=r.length;have hn:=kQ;have fin:EP X pins σ Q w s:=⟨z,H,I,rw',q⟩;by_cases h0:0≤i
 ·have hj:i.toNat=j:=by
   rw[OP h0 h5] at h1;exact AW h1
  exact item_listR pl.isList h0 om (by rw[hj];simpa using ew) fin hs
 ·have hj:(i+(its.toArray.size:Am)).toNat=j:=by
   rw[seqIndex_neg om h4] at h1;rw[A0,← hl];exact AW h1
  exact Kj (x:=w) pl.isList.typeIs Ox.lookup
   (wpAny_getItem_list_neg (Q:=fun r s'=>r=w∧EP X pins σ Q r s') pl.isList om (by rw[A0] <;> omega) om (by rw[hj];simpa using ew) ⟨rfl,fin⟩) hs
theorem GL:IxR X (D2 X.K):=by
 intro value slice pins s σ H x y v u Q I rx ry h hs;obtain⟨p,xs,i,z,rfl,rfl,hq,he,q⟩:=h;cases rx;obtain⟨t,rfl⟩:=ry;obtain⟨its,r,pl,hz⟩:=I.tuple hq;obtain⟨j,h1,h2,h3,h4,h5⟩:=dP he;obtain⟨w,ew,rw'⟩:=r.get h2;have hl:=r.length;have hn:=kQ;have fin:EP X pins σ Q w s:=⟨z,H,I,rw',q⟩;exact Kj (x:=w) pl.typeIs slot_tuple_getitem.lookup
  (getItem_tuple (j:=j) (Q:=fun r s'=>r=w∧EP X pins σ Q r s') pl om om (by rw[A0,← hl];exact h1) (by simpa using ew) ⟨rfl,fin⟩) hs
theorem eS (its:Aa Ac)(n j:Aj)(u:Ac):Ce (·.setIfInBounds j u) { cls:=.type "list",data:=.seq its.toArray n } = { cls:=.type "list",data:=.seq (its.set j u).toArray n }:=by
 simp[Ce]
theorem Inv.lst {p:Ad}{xs:Aa V}(I:Inv X pins σ H s)(h:H p=Ab (.lst xs)) :
  ∃ (its:Aa Ac) (n:Aj),qK xs its∧s.heap.get? p=Ab { cls:=.type "list",data:=.seq its.toArray n } ∧ xs.length≤sizeLine:=by
 obtain⟨z,its,n,r,e⟩:=I.hok p _ h;exact⟨its,n,r,e,z⟩
theorem Inv.lstUpd {p:Ad}{xs ys:Aa V}{its its':Aa Ac}{n n':Aj}{f:AU→AU}(I:Inv X pins σ H s)(h:H p=Ab (.lst xs))
  (ho:s.heap.get? p=Ab { cls:=.type "list",data:=.seq its.toArray n }) (hf:f { cls:=.type "list",data:=.seq its.toArray n } = { cls:=.type "list",data:=.seq its'.toArray n' }) (r:qK ys its') (hz:ys.length≤sizeLine) (t:Aj) :
  Inv X pins σ (upd H p (.lst ys)) { s with heap:=s.heap.update p f,toks:=t }:=by
 have e:(s.heap.update p f).get? p=Ab { cls:=.type "list",data:=.seq its'.toArray n' }:=by
  rw[CN f ho (by rw[hf] <;> rfl),hf]
 refine I.write (x:=p) (e:=p) (by rw[h];trivial) (.inl rfl) (fun b u hb q=>(AY _ _ (CZ hb)).trans q) ⟨_,e⟩ ?_
 exact⟨hz,its',n',r,e⟩
def TV:V→V→V→Hp→(Hp→Prop)→Prop:=fun o i v H Q=>∃ p xs k j,o=.ref p∧i=.int k∧H p=Ab (.lst xs)∧ixN xs.length k=Ab j∧Q (upd H p (.lst (xs.set j v)))
theorem XE:nM X TV:=by
 intro pins s σ H o i v ov iv u Q I ro ri rv h;obtain⟨p,xs,k,j,rfl,rfl,hp,hj,q⟩:=h;cases ro;obtain⟨t,rfl⟩:=ri;obtain⟨its,n,r,ho,hz⟩:=I.lst hp;obtain⟨h1,h2,h3,h4⟩:=sL hj;have hl:=r.length;have hn:=kQ;have I':Inv X pins σ (upd H p (.lst (xs.set j v))) { s with heap:=s.heap.update p (Ce (·.setIfInBounds j u)) }:=
  I.lstUpd hp ho (eS its n j u) (r.set rv j) (by rw[Kk];exact hz) s.toks
 by_cases h0:0≤k
 ·have hk:k.toNat=j:=by
   rw[OP h0 h4] at h1;exact AW h1
  exact PySem.W.ki_setAt ho h0 om (by rw[A0,← hl];exact h4) (by rw[hk];exact⟨_,I',q⟩)
 ·have hk:(k+(its.toArray.size:Am)).toNat=j:=by
   rw[seqIndex_neg om h3] at h1;rw[A0,← hl];exact AW h1
  exact PySem.W.ki_setBack ho om (by rw[A0,← hl];exact h3) om (by rw[hk];exact⟨_,I',q⟩)
theorem d6 (lo hi:Ak Am)(n:Aj):(Fq lo hi none n).1=((_H.sIx n 0 lo:Aj):Am)∧(Fq lo hi none n).2.1=((_H.sIx n n hi:Aj):Am)∧(Fq lo hi none n).2.2=1:=by
 refine⟨?_,?_,rfl⟩
 ·cases lo with
  |none=>simp[Fq,_H.sIx]
  |some i =>
   simp only[Fq,_H.sIx,OQ,show (1:Am)>0 by decide,Bv]
   by_cases h:i<0
   ·simp only[h,Bv] <;> omega
   ·simp only[h,Bu] <;> omega
 ·cases hi with
  |none=>simp[Fq,_H.sIx]
  |some i =>
   simp only[Fq,_H.sIx,OQ,show (1:Am)>0 by decide,Bv]
   by_cases h:i<0
   ·simp only[h,Bv] <;> omega
   ·simp only[h,Bu] <;> omega
theorem tR (its:Aa Ac)(lo hi:Ak Am):slicePick its.toArray lo hi none=((its.drop (_H.sIx its.length 0 lo)).take (_H.sIx its.length its.length hi-_H.sIx its.length 0 lo)).toArray:=by
 obtain⟨h1,h2,h3⟩:=d6 lo hi its.toArray.size;unfold slicePick;rw[h1,h2,h3];simp only[sliceRange_one,pick_run,A0] <;> rfl
def D4 (K:Ai):V→Ak Am→Ak Am→Hp→VK→Prop:=fun x lo hi H Q=>∃ a xs,x=.ref a∧SqL K H a xs∧∀ p,H p=none→Q (.ref p) (upd H p (.lst (kE xs lo hi)))
theorem rC:SlR X (D4 X.K):=by
 intro pins s σ H x v vl vu lo hi sl Q I rx hs pl pu h;obtain⟨a,xs,rfl,hx,q⟩:=h;cases rx;obtain⟨its,r,ht,hz⟩:=I.list hx;have hlen:=r.length;refine⟨"list",_,Ox.lookup,ht.isList.typeIs,?_⟩;refine wpAny_getItem_list_slice ht.isList hs pl pu .none (by simp) ?_ (by rw[A0] <;> omega)
 rw[tR,← hlen];refine⟨.ref s.heap.objs.size,_,I.laid (t':=s.toks) (o:=.lst (kE xs lo hi)) (fun b ob q=>Ah _ q) (A2 _) ?_,rfl,q _ (I.hok.fresh (A2 _))⟩;exact⟨Bm (gR xs lo hi) hz,_,0,(r.drop (_H.sIx xs.length 0 lo)).take (_H.sIx xs.length xs.length hi-_H.sIx xs.length 0 lo),Az _ rfl⟩
theorem j3.or {f:Ac}{r r':Aa V→Hp→VK→Prop}(h:j3 X f r)(h':j3 X f r'):j3 X f (fun xs H Q=>r xs H Q∨r' xs H Q):=by
 intro pins s σ H xs us Q I rs q;rcases q with q|q
 ·exact h pins s σ H xs us Q I rs q
 ·exact h' pins s σ H xs us Q I rs q
theorem jY:j3 X (.type "tuple") (fun xs H Q=>∃ p ys,xs=[.ref p]∧((SqL X.K H p ys∧∀ l,H l=none→Q (.ref l) (upd H l (.tup ys)))∨(SqT X.K H p ys∧Q (.ref p) H))):=by
 intro pins s σ H xs us Q I r h;obtain⟨p,ys,rfl,h⟩:=h;obtain⟨u,rfl,rx⟩:=jR r;cases rx;rcases h with⟨hq,q⟩|⟨hq,q⟩
 ·obtain⟨its,r',pl,hz⟩:=I.list hq
  have hlen:=r'.length;refine call_tuple_list pl.isList (fun h' kp=>?_) (by simp only[A0] <;> omega)
  have I1:Inv X pins σ H { s with heap:=h' }:=I.kept (t':=s.toks) kp
  have I2:Inv X pins σ (upd H h'.objs.size (.tup ys)) { s with heap:=h'.push { cls:=.type "tuple",data:=.seq its.toArray } }:=
   I1.laid (t':=s.toks) (fun b o e=>Ah _ e) (A2 _) (show zA X.prog X.w _ _ _ (.tup ys) from⟨hz,its,r',Op _ _⟩)
  exact⟨.ref h'.objs.size,_,I2,rfl,q _ (I1.hok.fresh (A2 _))⟩
 ·obtain⟨its,r',pl,hz⟩:=I.tuple hq
  exact call_tuple_same pl ⟨.ref p,H,I,rfl,q⟩
def tyV (K:Ai)(T:Bz)(x:V)(H:Hp):Prop:=match x with
 |.str _=>T = "str"
 |.int _=>T = "int"
 |.ref p=>(T = "list" ∧ ∃ xs,SqL K H p xs)∨(T = "tuple" ∧ ∃ o,K.lookup p=Ab o∧o.cls=.type "tuple" ∧ o.dict=none) ∨
   (T = "dict" ∧ ((∃ kvs,H p=Ab (.dK kvs))∨∃ kvs,H p=Ab (.dT kvs)))∨(T = "set" ∧ ∃ S n,H p=Ab (.set S n))
 |_=>CC
theorem FI {T:Bz}{x:V}{v:Ac}(I:Inv X pins σ H s)(r:qJ x v)(ty:tyV X.K T x H) :
  s.TypeIs v T∧∀ a,v=.ref a→∃ ob,s.heap.get? a=Ab ob∧ob.dict=none:=by
 cases x with
 |str z =>
  obtain⟨t,rfl⟩:=r;cases (show T = "str" from ty)
  exact⟨typeIs_str s z t,fun _ e=>nomatch e⟩
 |int i =>
  obtain⟨t,rfl⟩:=r;cases (show T = "int" from ty)
  exact⟨typeIs_int s i t,fun _ e=>nomatch e⟩
 |ref p =>
  cases r;rcases ty with⟨rfl,xs,hq⟩|⟨rfl,o,hk,hc,hd⟩|⟨rfl,hk⟩|⟨rfl,S,n,hk⟩
  ·obtain⟨its,_,pl,_⟩:=I.list hq
   refine⟨pl.isList.typeIs,fun a e=>?_⟩;cases e;obtain⟨o,n,e,c,hd,_⟩:=pl;exact⟨o,e,hd⟩
  ·refine⟨⟨o,I.kIn p o hk,hc⟩,fun a e=>?_⟩
   cases e;exact⟨o,I.kIn _ o hk,hd⟩
  ·have z:∃ o,s.heap.get? p=Ab o∧o.ExactDict:=by
    rcases hk with⟨kvs,hk⟩|⟨kvs,hk⟩
    ·obtain⟨_,_,_,_,o,_,_,e,ex,_⟩:=I.hok p _ hk
     exact⟨o,e,ex⟩
    ·obtain⟨_,_,_,_,o,_,_,e,ex,_⟩:=I.hok p _ hk
     exact⟨o,e,ex⟩
   obtain⟨o,e,ex⟩:=z;refine⟨⟨o,e,ex.1⟩,fun a e2=>?_⟩;cases e2;exact⟨o,e,ex.2.1⟩
  ·obtain⟨o,_,_,_,e,ex,_⟩:=I.hok p _ hk
   refine⟨⟨o,e,ex.1⟩,fun a e2=>?_⟩;cases e2;exact⟨o,e,ex.2.1⟩
 |_=>exact An ty
variable {o e:AF}{es:Aa AF}{to:TE}{t:TA}{name:Ar}{apos cpos:CA}{T id:Bz}{r:V→Aa V→Hp→VK→Prop}
/- xs.append(e),list.index on a module's tuple .. are MtR facts of 06m -/
end
end _L
namespace _L
open PySem PySem.Spec PyProof.Rows
variable {us:Aa Ac}
def MtM (X:Cx)(id:Bz)(r:V→Aa V→Hp→VK→Prop):Prop:=
 ∀ (pins:Aa (Ad × AU)) (s:Ag) (σ : St) (H:Hp) (x:V) (xs:Aa V) (v:Ac) (us:Aa Ac) (Q:VK),Inv X pins σ H s→qJ x v→qK xs us→r x xs H Q →
  Ao (As X.prog X.w) X.A (call (.builtin id) (v::us)) (EP X pins σ Q) X.xe s
theorem qK.one {x:V}(h:qK [x] us):∃ u,us=[u]∧qJ x u:=jR h
theorem qK.two {x y:V}(h:qK [x,y] us):∃ u v,us=[u,v]∧qJ x u∧qJ y v:=nJ h
theorem qK.eraseIdx:∀ {xs:Aa V} {us:Aa Ac} (i:Aj),qK xs us→qK (xs.eraseIdx i) (us.eraseIdx i)
 |_,_,_,.nil=>.nil
 |_,_,0,.cons _ t=>t
 |_,_,i+1,.cons r t=>.cons r (qK.eraseIdx i t)
theorem mX {α:Type}:∀ (l:Aa α) (i:Aj),(l.eraseIdx i).length≤l.length
 |[],_=>A2 _
 |_::_,0=>Ix _
 |_::r,i+1=>Nat.succ_le_succ (mX r i)
section
variable {X:Cx}{pins:Aa (Ad × AU)}{σ : St}{H:Hp}{s:Ag}{l b:Ad}{xs ys zs:Aa V}
theorem Inv.lset {its its':Aa Ac}{n:Aj}{f:AB Ac→AB Ac}{t':Aj}(I:Inv X pins σ H s)(hH:H l=Ab (.lst xs))
  (e:s.heap.get? l=Ab { cls:=.type "list",data:=.seq its.toArray n }) (hf:f its.toArray=its'.toArray) (hv:qK ys its') (hz:ys.length≤sizeLine) :
  Inv X pins σ (upd H l (.lst ys)) { s with heap:=s.heap.update l (Ce f),toks:=t' }:=by
 have q:=OR e f;rw[hf] at q;refine I.write (x:=l) (e:=l) (by rw[hH];exact trivial) (.inl rfl) (fun b' u hb hu=>(AY s.heap (Ce f) (CZ hb)).trans hu) ⟨_,q⟩ ?_
 exact⟨hz,its',_,hv,q⟩
theorem Inv.lstM (I:Inv X pins σ H s)(hH:H l=Ab (.lst xs)):xs.length≤sizeLine∧∃ (its:Aa Ac) (n:Aj),qK xs its∧xs.length=its.length∧s.heap.get? l=Ab { cls:=.type "list",data:=.seq its.toArray n }:=by
 obtain⟨z,its,n,r,e⟩:=I.hok l _ hH;exact⟨z,its,n,r,r.length,e⟩
end
section
variable {X:Cx}
def UF:V→Aa V→Hp→VK→Prop:=fun x vs H Q=>∃ l xs y,x=.ref l∧vs=[y]∧H l=Ab (.lst xs)∧xs.length<sizeLine∧Q .non (upd H l (.lst (xs++[y])))
theorem i6:MtM X "list.append" UF:=by
 intro pins s σ H x vs v us Q I rx rv h;obtain⟨l,xs,y,rfl,rfl,hH,hz,q⟩:=h;cases rx;obtain⟨u,rfl,ru⟩:=rv.one;obtain⟨z,its,n,r,hl,e⟩:=I.lstM hH;refine Jh Np ⟨_,e,rfl⟩ Mq (Mc _ _) (Oy l its.toArray n u (by rw[A0];omega)) ⟨e,?_⟩
 refine⟨.non,_,I.lset (its':=its++[u]) hH e (by simp) (r.append (.cons ru .nil)) ?_,rfl,q⟩
 rw[Bt,Lg];omega
def F5:V→Aa V→Hp→VK→Prop:=fun x vs H Q=>∃ l xs i k y,x=.ref l∧vs=[.int i]∧H l=Ab (.lst xs) ∧ -(2 ^ 63)≤i∧i<2 ^ 63∧Ow i xs.length=Ab k∧xs[k]? = Ab y∧Q y (upd H l (.lst (xs.eraseIdx k)))
theorem ZH:MtM X "list.pop" F5:=by
 intro pins s σ H x vs v us Q I rx rv h;obtain⟨l,xs,i,k,y,rfl,rfl,hH,h1,h2,hk,hy,q⟩:=h;cases rx;obtain⟨u,rfl,ru⟩:=rv.one;obtain⟨t,rfl⟩:=ru;obtain⟨z,its,n,r,hl,e⟩:=I.lstM hH;obtain⟨w,hw,rw'⟩:=r.get hy;refine Jh F.slot_list_pop ⟨_,e,rfl⟩ F.entry_list_pop (F.args_list_pop_2 _ _)
  (MeetsSeq.list_pop_at l its.toArray n i t k w (fitsIndex_both h1 h2) (by rw[A0,← hl];exact hk) (by rw[← AJ];exact hw) (by rw[A0];omega)) ⟨e,?_⟩
 refine⟨y,_,I.lset (its':=its.eraseIdx k) hH e ?_ (r.eraseIdx k) ?_,rw',q⟩
 ·show its.toArray.eraseIdxIfInBounds k=(its.eraseIdx k).toArray
  rw[List.eraseIdxIfInBounds_toArray]
 ·have:=mX xs k
  omega
end
end _L
namespace _L
open PySem PySem.Spec PyProof.Rows
variable {xs:Aa (Aa Key × Ad × Ac)}{kvs:Aa (Aa Key × V)}{Q:Ac→Ag→Prop}{H':Hp}
section
variable {κ : Type}[DecidableEq κ]
def wB (kvs:Aa (κ × V))(k:κ):Ak V:=(kvs.find? fun kv=>decide (kv.1=k)).map (·.2)
def yC (kvs:Aa (κ × V))(k:κ)(v:V):Aa (κ × V):=
 if (kvs.any fun kv=>decide (kv.1=k))=true then kvs.map (fun kv=>if kv.1=k then (kv.1,v) else kv) else kvs++[(k,v)]
theorem pU {p:κ × V}{r:Aa (κ × V)}{k:κ}(e:p.1=k):wB (p::r) k=Ab p.2:=by simp[wB,EF,e]
theorem pT {p:κ × V}{r:Aa (κ × V)}{k:κ}(e:¬ p.1=k):wB (p::r) k=wB r k:=by simp[wB,EF,e]
theorem dD (k:κ):∀ kvs:Aa (κ × V),(kvs.any fun kv=>decide (kv.1=k))=(wB kvs k).isSome
 |[]=>rfl
 |p::r=>by
  rw[EG];by_cases e:p.1=k
  ·simp only[pU e,Cd e,Rq,Nq]
  ·rw[pT e,Cg e,Bool.false_or];exact dD k r
theorem gS (kvs:Aa (κ × V))(k:κ)(v:V):(yC kvs k v).length≤kvs.length+1:=by
 unfold yC
 split
 ·rw[A6];omega
 ·rw[Bt,Bo,Kl];omega
theorem yG.isSome_eq {o:Ak V}{u:Ak Ac}(r:yG o u):o.isSome=u.isSome:=by
 cases o with
 |none=>cases u with
  |none=>rfl
  |some _=>exact(show CC from r).elim
 |some _=>cases u with
  |none=>exact(show CC from r).elim
  |some _=>rfl
theorem yG.getD {o:Ak V}{u:Ak Ac}{d:V}{d':Ac}(r:yG o u)(rd:qJ d d'):qJ (o.getD d) (u.getD d'):=by
 cases o with
 |none=>cases u with
  |none=>exact rd
  |some _=>exact(show CC from r).elim
 |some _=>cases u with
  |none=>exact(show CC from r).elim
  |some _=>exact r
theorem KV.val {kvs:Aa (κ × V)}{vs:Aa (κ × Ac)}(r:KV kvs vs)(k:κ):yG (wB kvs k) (Km vs k):=by
 unfold KV at r
 induction r with
 |nil=>exact Dw
 |@cons p q ps qs h t ih =>
  obtain⟨h1,h2⟩:=h;by_cases e:p.1=k
  ·have e':q.1=k:=h1.symm.trans e
   have b:Km (q::qs) k=Ab q.2:=by simp[Km,EF,e']
   rw[pU e,b];exact h2
  ·have e':¬ q.1=k:=fun z=>e (h1.trans z)
   have b:Km (q::qs) k=Km qs k:=by simp[Km,EF,e']
   rw[pT e,b];exact ih
theorem KV.any {kvs:Aa (κ × V)}{vs:Aa (κ × Ac)}(r:KV kvs vs)(k:κ):(kvs.any fun kv=>decide (kv.1=k))=vs.any fun kv=>decide (kv.1=k):=by
 unfold KV at r
 induction r with
 |nil=>rfl
 |cons h t ih=>rw[EG,EG,ih,h.1]
theorem KV.repl {kvs:Aa (κ × V)}{vs:Aa (κ × Ac)}(r:KV kvs vs)(k:κ){y:V}{u:Ac}(ry:qJ y u) :
  KV (kvs.map fun kv=>if kv.1=k then (kv.1,y) else kv) (vs.map fun kv=>if kv.1=k then (kv.1,u) else kv):=by
 unfold KV at r ⊢
 induction r with
 |nil=>exact .nil
 |@cons p q ps qs h t ih =>
  rw[Co,Co];refine .cons ?_ ih;obtain⟨h1,h2⟩:=h;by_cases e:p.1=k
  ·rw[A7 e,A7 (h1.symm.trans e)];exact⟨h1,ry⟩
  ·rw[AD e,AD (fun z=>e (h1.trans z))];exact⟨h1,h2⟩
theorem KV.put {kvs:Aa (κ × V)}{vs:Aa (κ × Ac)}(r:KV kvs vs)(k:κ){y:V}{u:Ac}(ry:qJ y u):KV (yC kvs k y) (stored vs k u):=by
 unfold yC stored;rw[r.any k];by_cases e:(vs.any fun kv=>decide (kv.1=k))=true
 ·rw[A7 e,A7 e];exact r.repl k ry
 ·rw[AD e,AD e];exact Paired.snoc r ⟨rfl,ry⟩
theorem KV.length {kvs:Aa (κ × V)}{vs:Aa (κ × Ac)}(r:KV kvs vs):kvs.length=vs.length:=Paired.length r
end
theorem tZ {P:A1}{w:AH}{k:Key}{u:Ac}(r:qJ (kV k) u):(zR P w).is k u=true:=by
 cases k with
 |inl i=>obtain⟨t,e⟩:=(show ∃ t,u=Hx i t from r);subst e;exact dJ P w i t
 |inr x=>obtain⟨t,e⟩:=(show ∃ t,u=Lc x t from r);subst e;exact dM P w x t
theorem mV {P:A1}{w:AH}:∀ {ks:Aa Key} {us:Aa Ac},qK (ks.map kV) us→ItemsAre (zR P w) ks us
 |[],_,r=>by rw[Nz] at r;cases r;exact .nil
 |k::ks,_,r=>by
  rw[Co] at r;cases r with
  |cons h t=>exact .cons (tZ h) (mV t)
abbrev KT (H:Hp):Aa (Aa Key × V)→Aa (Aa Key × Ad × Ac)→Prop:=Paired fun p q=>p.1=q.1∧H q.2.1=Ab (.tup (p.1.map kV))∧qJ p.2 q.2.2
theorem KT.val {H:Hp}(r:KT H kvs xs)(k:Aa Key):yG (wB kvs k) ((Mr xs k).map (·.2)):=by
 induction r with
 |nil=>exact Dw
 |@cons p q ps qs h t ih =>
  obtain⟨h1,_,h2⟩:=h;by_cases e:p.1=k
  ·have e':q.1=k:=h1.symm.trans e
   have b:Mr (q::qs) k=Ab q.2:=by simp[Mr,EF,e']
   rw[pU e,b];exact h2
  ·have e':¬ q.1=k:=fun z=>e (h1.trans z)
   have b:Mr (q::qs) k=Mr qs k:=by simp[Mr,EF,e']
   rw[pT e,b];exact ih
theorem KT.repl {H:Hp}(r:KT H kvs xs)(k:Aa Key){y:V}{u:Ac}(ry:qJ y u) :
  KT H (kvs.map fun kv=>if kv.1=k then (kv.1,y) else kv) (xs.map (putAt k u)):=by
 induction r with
 |nil=>exact .nil
 |@cons p q ps qs h t ih =>
  rw[Co,Co];refine .cons ?_ ih;obtain⟨h1,h2,h3⟩:=h;unfold putAt;by_cases e:p.1=k
  ·rw[A7 e,A7 (h1.symm.trans e)];exact⟨h1,h2,ry⟩
  ·rw[AD e,AD (fun z=>e (h1.trans z))];exact⟨h1,h2,h3⟩
theorem KT.put {H:Hp}(r:KT H kvs xs)(k:Aa Key){b:Ad}{y:V}{u:Ac}(hb:H b=Ab (.tup (k.map kV)))(ry:qJ y u) :
  KT H (yC kvs k y) (storedH xs k b u):=by
 have e:(kvs.any fun kv=>decide (kv.1=k))=(Mr xs k).isSome:=by
  rw[dD,(r.val k).isSome_eq,II]
 unfold yC storedH;rw[e];by_cases q:(Mr xs k).isSome=true
 ·rw[A7 q,A7 q];exact r.repl k ry
 ·rw[AD q,AD q];exact Paired.snoc r ⟨rfl,hb,ry⟩
theorem KT.keeps {H:Hp}(r:KT H kvs xs)(ht:∀ b ys,H b=Ab (.tup ys)→H' b=Ab (.tup ys)):KT H' kvs xs:=
 Paired.mapP r fun _ _ z=>⟨z.1,ht _ _ z.2.1,z.2.2⟩
section
variable {P:A1}{w:AH}{H:Hp}{h:A5}{a:Ad}
theorem WT {u:HO}(ok:HOk P w H h)(e:Rd H a u):zA P w H h a u:=e.ok ok
theorem tX {kvs:Aa (Key × V)}(ok:HOk P w H h)(e:Rd H a (.dK kvs)):kvs.length≤sizeLine∧(a == E5)=false∧∃ vs,KV kvs vs∧h.DictOf (zR P w) a vs:=
 show zA P w H h a (.dK kvs) from WT ok e
theorem M5 {kvs:Aa (Key × V)}(ok:HOk P w H h)(e:H a=Ab (.dK kvs)):kvs.length≤sizeLine∧(a == E5)=false∧∃ vs,KV kvs vs∧h.DictOf (zR P w) a vs:=tX ok (.inl e)
theorem bH {ks:Aa Key}(ok:HOk P w H h)(e:H a=Ab (.tup (ks.map kV))):(Ld (zR P w)).is h ks a:=by
 obtain⟨_,its,r,o,h1,h2,n,h3⟩:=(show zA P w H h a (.tup (ks.map kV)) from ok a _ e)
 exact⟨o,its.toArray,n,h1,h2,h3,by simpa using mV r⟩
theorem tY (ok:HOk P w H h)(e:Rd H a (.dT kvs)):kvs.length≤sizeLine∧(a == E5)=false ∧
  ∃ xs,KT H kvs xs∧h.DictOfH (Ld (zR P w)) a xs:=by
 obtain⟨z,y,xs,r,o,es,ep,h1,h2,h3,h4,h5⟩:=(show zA P w H h a (.dT kvs) from WT ok e)
 refine⟨z,y,xs,r,o,es,ep,h1,h2,h3,h4,fun x hx=>?_,h5⟩;have all:∀ {l:Aa (Aa Key × V)} {m:Aa (Aa Key × Ad × Ac)},KT H l m→∀ x∈m,(Ld (zR P w)).is h x.1 x.2.1:=by
  intro l m q
  induction q with
  |nil=>intro x hx;exact nomatch hx
  |@cons p q ps qs hq t ih =>
   intro x hx;rcases Aw.mp hx with e|hx
   ·subst e
    exact bH ok (by rw[← hq.1];exact hq.2.1)
   ·exact ih x hx
 exact all r x hx
theorem M7 (ok:HOk P w H h)(e:H a=Ab (.dT kvs)):kvs.length≤sizeLine∧(a == E5)=false ∧
  ∃ xs,KT H kvs xs∧h.DictOfH (Ld (zR P w)) a xs:=tY ok (.inl e)
end
def j7 (H:Hp)(a:Ad)(y:V)(r:Ak V):Prop:=
 (∃ kvs k,Rd H a (.dK kvs)∧y=kV k∧r=wB kvs k)∨∃ kvs k b,Rd H a (.dT kvs)∧y=.ref b∧H b=Ab (.tup (k.map kV))∧r=wB kvs k
def bW (H:Hp)(a:Ad)(y v:V)(H':Hp):Prop:=
 (∃ kvs k,H a=Ab (.dK kvs)∧y=kV k∧kvs.length<sizeLine∧H'=upd H a (.dK (yC kvs k v))) ∨
 ∃ kvs k b,H a=Ab (.dT kvs)∧y=.ref b∧H b=Ab (.tup (k.map kV))∧kvs.length<sizeLine∧H'=upd H a (.dT (yC kvs k v))
theorem j7.k {H:Hp}{a:Ad}{kvs:Aa (Key × V)}{k:Key}(e:H a=Ab (.dK kvs)):j7 H a (kV k) (wB kvs k):=.inl ⟨kvs,k,.inl e,rfl,rfl⟩
theorem j7.t {H:Hp}{a b:Ad}{k:Aa Key}(e:H a=Ab (.dT kvs))(eb:H b=Ab (.tup (k.map kV))):j7 H a (.ref b) (wB kvs k):=.inr ⟨kvs,k,b,.inl e,rfl,eb,rfl⟩
theorem bW.k {H:Hp}{a:Ad}{kvs:Aa (Key × V)}{k:Key}{v:V}(e:H a=Ab (.dK kvs))(hl:kvs.length<sizeLine):bW H a (kV k) v (upd H a (.dK (yC kvs k v))):=.inl ⟨kvs,k,e,rfl,hl,rfl⟩
theorem bW.t {H:Hp}{a b:Ad}{k:Aa Key}{v:V}(e:H a=Ab (.dT kvs))(eb:H b=Ab (.tup (k.map kV)))(hl:kvs.length<sizeLine) :
  bW H a (.ref b) v (upd H a (.dT (yC kvs k v))):=.inr ⟨kvs,k,b,e,rfl,eb,hl,rfl⟩
section
variable {X:Cx}{pins:Aa (Ad × AU)}{σ : St}{H:Hp}{s:Ag}{a:Ad}{y v:V}{u r:Ac}{o:Ak V}{A:AG}{E:Ac→Ag→Prop}
theorem Inv.big (I:Inv X pins σ H s):E5<s.heap.objs.size:=by
 have h:AT<s.heap.objs.size:=(I.mod.glob.keeps I.bk).lt;exact ET (by decide) h
theorem cT (hu:A.units+1<CD)(I:Inv X pins σ H s)(g:j7 H a y (Ab v))(ry:qJ y u)(h:∀ w' s',Inv X pins σ H s'→qJ v w'→Q w' s') :
  Ao (As X.prog X.w) A (Gh (.ref a) u) Q E s:=by
 rcases g with⟨kvs,k,e,ey,l⟩|⟨kvs,k,b,e,ey,eb,l⟩
 ·subst ey
  obtain⟨z,hd,vs,rel,dd⟩:=tX I.hok e;obtain⟨w',hw,rw'⟩:=yG.some_of (v:=v) (o:=Km vs k) (by rw[l];exact rel.val k)
  exact wpAny_getItem_of (tZ ry) dd.mapOf hw (h w' _ (I.tok _) rw')
 ·subst ey
  cases (show u=AS b from ry)
  obtain⟨z,hd,xs,rel,dd⟩:=tY I.hok e;obtain⟨w',hw,rw'⟩:=yG.some_of (v:=v) (o:=(Mr xs k).map (·.2)) (by rw[l];exact rel.val k)
  obtain⟨p,hp,hp2⟩:=AZ.mp hw;refine wpAny_getItem_heap (Ig hu) (bH I.hok eb) dd hp ?_;rw[hp2];exact h w' _ (I.tok _) rw'
theorem LB (hu:A.units+1<CD)(I:Inv X pins σ H s)(g:j7 H a y o)(ry:qJ y u)(h:∀ s',Inv X pins σ H s'→Q (.bool o.isSome) s') :
  Ao (As X.prog X.w) A (Bj .In u (.ref a)) Q E s:=by
 rcases g with⟨kvs,k,e,ey,l⟩|⟨kvs,k,b,e,ey,eb,l⟩
 ·subst ey
  obtain⟨z,hd,vs,rel,dd⟩:=tX I.hok e;refine wpAny_in_of (tZ ry) hd dd.mapOf ?_;rw[← (rel.val k).isSome_eq,← l];exact h _ (I.tok _)
 ·subst ey
  cases (show u=AS b from ry)
  obtain⟨z,hd,xs,rel,dd⟩:=tY I.hok e;refine wpAny_in_heap (Ig hu) (bH I.hok eb) hd dd ?_;have q:=(rel.val k).isSome_eq;rw[II] at q;rw[← q,← l];exact h _ (I.tok _)
theorem dX {h':A5}{t':Aj}{ob:HO}(I:Inv X pins σ H s)(mu:Mut (H a))(hs:Di a s.heap h')(he:∃ q,h'.get? a=Ab q)(new:zA X.prog X.w (upd H a ob) h' a ob) :
  Inv X pins σ (upd H a ob) { s with heap:=h',toks:=t' }:=
 I.write (x:=a) (e:=a) mu (.inl rfl) (fun b q hb z=>(hs.2 b hb).trans z) he new
theorem KJ {P:A1}{w:AH}{h':A5}{kvs:Aa (Key × V)}{vs:Aa (Key × Ac)}(z:kvs.length≤sizeLine)(hd:(a == E5)=false)(rel:KV kvs vs)(dd:h'.DictOf (zR P w) a vs) :
  zA P w H' h' a (.dK kvs):=⟨z,hd,vs,rel,dd⟩
theorem cU {Q:IE→Ag→Prop}(hu:A.units+1<CD)(I:Inv X pins σ H s)(g:bW H a y v H')(ry:qJ y u)(rv:qJ v r)(h:∀ s',Inv X pins σ H' s'→Q () s') :
  Ao (As X.prog X.w) A (Ra (.ref a) u r) Q E s:=by
 rcases g with⟨kvs,k,e,ey,l,eH⟩|⟨kvs,k,b,e,ey,eb,l,eH⟩
 ·subst ey eH
  obtain⟨z,hd,vs,rel,dd⟩:=M5 I.hok e;have hz:vs.length≤sizeLine:=by rw[← rel.length];exact z
  have hl:(yC kvs k v).length≤sizeLine:=by have:=gS kvs k v;omega
  refine wpAny_setItem_pairs (hsz:=hz) (tZ ry) dd fun h' dd' hs=>h _ ?_;have he:∃ q,h'.get? a=Ab q:=let ⟨q,_,_,hq,_⟩:=dd';⟨q,hq⟩
  exact dX I (by rw[e];exact Dw) hs he (KJ hl hd (rel.put k rv) dd')
 ·subst ey eH
  cases (show u=AS b from ry)
  obtain⟨z,hd,xs,rel,dd⟩:=M7 I.hok e;have hz:xs.length≤sizeLine:=by rw[← Paired.length rel];exact z
  have hl:(yC kvs k v).length≤sizeLine:=by have:=gS kvs k v;omega
  refine wpAny_setItem_heap (hsz:=hz) (Ig hu) (bH I.hok eb) dd fun h' dd' hs=>h _ ?_;obtain⟨q,es,ep,hq,h2,h3,h4,_,h5⟩:=dd';refine dX I (by rw[e];exact Dw) hs ⟨q,hq⟩ ⟨hl,hd,_,(rel.put k eb rv).keeps fun c ys ec=>?_,q,es,ep,hq,h2,h3,h4,h5⟩
  rw[qH (MQ ec e (fun z=>nomatch z))];exact ec
end
def oM (i:AF):Prop:=∀ ov iv,subscripted i false ov iv=operate [ov,iv] (Gh ov iv)
theorem UT {prog:A1}{w:AH}{A:AG}{E:Ac→Ag→Prop}{s:Ag}{env:Ek}{value slice:AF}{pos:CA}{T id:Bz}
  (hl:Qf (.type T) "__getitem__" = pure (Ab (.builtin id))) (hs:oM slice)
  (h:Ao (As prog w) A (eval value env) (fun o s₁=>Ao (As prog w) A (eval slice env) (fun i s₂=>s₂.TypeIs o T∧Ao (As prog w) A (Gh o i) Q E s₂) E s₁) E s) :
  Ao (As prog w) A (eval (.Subscript value slice pos) env) Q E s:=by
 refine Qg (Dh h (fun o s₁ h₁=>Dh h₁ (fun i s₂ h₂=>?_) fun _ _ x=>x) fun _ _ x=>x);obtain⟨hT,h₂⟩:=h₂;unfold IH;refine Af ?_;rw[getitemInPython_of_ne hT.not_modules];refine Af (H9 hT hl ?_);have fin:Ao (As prog w) A (subscripted slice false o i) (fun r s₃=>Ao (As prog w) A (letTemporaryGo value o r >>= fun _=>pure r) Q E s₃) E s₂:=by
  rw[hs o i];exact wpAny_operating (Dh h₂ (fun r s₃ h₃=>Af (wpAny_letTemporaryGo (Al h₃))) fun _ _ x=>x)
 first
  |exact Al (Af fin)
  |exact Af (Al (Af fin))
  |exact Af fin
theorem dI {X:Cx}{pins:Aa (Ad × AU)}{σ:St}{H:Hp}{s:Ag}{a:Ad}{y:V}{o:Ak V}(I:Inv X pins σ H s)(g:j7 H a y o):s.TypeIs (.ref a) "dict":=by
 rcases g with⟨kvs,k,e,_,_⟩|⟨kvs,k,b,e,_,_,_⟩
 ·obtain⟨_,_,vs,_,dd⟩:=tX I.hok e
  exact dd.typeIs
 ·obtain⟨_,_,xs,_,dd⟩:=tY I.hok e
  exact dd.typeIs
theorem Q7 {P:A1}{w:AH}{H:Hp}(h:A5)(hb:E5<h.objs.size):zA P w H (h.push { cls:=.type "dict",data:=.dict #[] }) h.objs.size (.dK []):=
 ⟨Ds _,HJ.mpr (CZ (AL hb)),[],.nil,Heap.DictOf.new h⟩
def FE:TE:=fun _ H Q=>∀ p,H p=none→Q (.ref p) (upd H p (.dK []))
section
variable {X:Cx}{pos:CA}
theorem ZR:PE X (.Dict [] [] pos) FE:=fun pins s σ H Q I h =>
 wpAny_Dict_empty ⟨.ref s.heap.objs.size,_,I.laid (a:=s.heap.objs.size) (o:=.dK []) (t':=s.toks) (fun _ _ q=>Ah _ q) (A2 _) (Q7 s.heap I.big),rfl,h _ (I.hok.fresh (A2 _))⟩
end
end _L
namespace _A
open PySem PySem.W PySem.Calls PyProof.Rows
theorem bB {P:Params}{h:A5}:∀ (ns:Aa Am) (vs:Aa Ac),WellAll P h vs (ns.map RT)→IG vs ns:=by
 intro ns
 induction ns with
 |nil =>
  intro vs w;rw[Nz] at w;cases w;exact .nil
 |cons n ns ih =>
  intro vs w;rw[Co] at w;cases w with
  |cons a b =>
   cases a;exact .cons _ _ (ih _ b)
theorem oB {l:OpenLaw}{n:Aj}(hn:l.most=Ab n){P:Params}{h:A5}{args:Aa WData}{vals:Aa Ac}
  (hpre:l.row.toRowW.claim.pre args=true) (hwl:WellAll P h vals args) :
  ∃ a vs ns,vals=[AS a]∧args=[WData.list (ns.map RT)]∧h.get? a=Ab { cls:=.type "list",data:=.seq vs.toArray } ∧ IG vs ns∧ns.length≤n:=by
 have hsh:WShape.hasAll [] args [.list .int]=true:=(pre_splitW hpre).1;have hc:l.pre.holds [] { args:=args } = true:=(pre_splitW hpre).2;obtain⟨d,r,rfl,h1,h2⟩:=hasAllW_cons hsh;obtain rfl:=hasAllW_nil h2;obtain⟨xs,rfl,h3⟩:=hasW_list h1;obtain⟨ns,rfl⟩:=items_int h3;have hlen:ns.length≤n:=by
  unfold OpenLaw.pre at hc;have h4:(WTm.not (.lt (.lit (.int (n:Am))) (.len (.arg 0)))).holds [] { args:=[.list (ns.map .int)] } = true:=by
   have h4:=(holds_andW hc).1;rw[hn] at h4;exact h4
  have h5:=condW_of h4 (w_not (w_lt w_lit (w_len_list (w_arg rfl))));rw[A6] at h5;refine Ji fun q=>?_;have q':(n:Am)<((ns.length:Aj):Am):=by omega
  first
   |(rw[Cd q'] at h5;exact absurd h5 (by decide))
   |(simp at h5;omega)
 cases hwl with
 |cons w1 w2 =>
  cases w2;cases w1 with
  |list ho hall=>exact⟨_,_,ns,rfl,rfl,ho,bB ns _ hall,hlen⟩
theorem iI (l:OpenLaw)(args:Aa WData):l.row.toRowW.claim.post args (.bool true) args=true:=
 postW_of (r:=l.row.toRowW) (X:=(true == true))
  (show RJ [] (.bool true) .bool=true by first|rfl|decide|simp[RJ,WShape.arms,WShape.armsAll])
  (show (WTm.eq .res (.lit (.bool true))).value [] { args:=args,res:=Ab (.bool true),after:=args } = Ab (.bool (true == true)) from w_eq_bool (w_res rfl) w_lit) rfl
theorem attach_call {l:OpenLaw}{n:Aj}{q:A1}{loose:Aa Ar}{XP:(Ar→Ak Ac)→A5→Prop}{YP:AH→A5→Prop}{d:DefRec}
  (hn:l.most=Ab n) (hdf:d.params.defaults=[])
  (call:∀ (w:AH) (s₀ s₁:Ag) (mg mb:Ar→Ak Ac) (fa:Ad) (o:AU) (pm cd doc:Ac) (a:Ad) (vs:Aa Ac) (ns:Aa Am),
   Ground q loose [] XP w s₀ mg mb s₁.heap→YP w s₁.heap →
   s₁.heap.get? fa=Ab o→o.data=.func (docDef d.name d.params d.body d.scope pm cd doc)→s₁.heap.CodeRec cd d.name→mg d.name=Ab (.ref fa) →
   s₁.heap.get? a=Ab { cls:=.type "list",data:=.seq vs.toArray } → IG vs ns→ns.length≤n→s₁.gens=#[] →
   Eu (As l.prog w) IJ (.call (.ref fa) ⟨[.ref a],[]⟩) (fun r s'=>r=.ok (.ret (.bool true))∧OldK s₁.heap s'.heap∧s'.os=s₁.os∧Hd s'.gens) s₁) :
  WalkO q loose XP YP l.row.toRowW d [] (fun f vs=>Qh f vs):=by
 intro w s₀ s₁ mg mb G Y fa o pm cd doc dV kV ho hd hcd hD hmg hg args vals as hpre hlay hrd hwl hlo;obtain rfl:dV=.none:=Dflts.none hD hdf;obtain rfl:kV=.none:=Dflts.noKw hD;obtain⟨a,vs,ns,rfl,rfl,hobj,hints,hlen⟩:=oB hn hpre hwl;refine enter_call (E9 (call w s₀ s₁ mg mb fa o pm cd doc a vs ns G Y ho (fd_plain hd) hcd hmg hobj hints hlen hg) fun r s' hq=>?_);obtain⟨rfl,h2,h3,h4⟩:=hq;exact⟨.inl ⟨.bool true,.bool true,[],rfl,fun _=>rfl,.bool true,iI l _,fun _=>⟨Gq,fun _ hm=>(nomatch hm)⟩⟩,h2,h3,h4⟩
end _A
namespace _L
open PySem PySem.Spec PyProof.Rows
theorem oD {vs:Aa Ac}{ns:Aa Am}(h:IG vs ns):qK (ns.map V.int) vs:=by
 induction h with
 |nil=>exact .nil
 |cons n t h ih=>exact .cons ⟨t,rfl⟩ ih
def SqX (K:Ai)(H:Hp)(a:Ad)(xs:Aa V):Prop:=
 Rd H a (.lst xs)∨∃ (its:Aa Ac) (n:Aj),K.lookup a=Ab { cls:=.type "list",data:=.seq its.toArray n } ∧ xs.length≤sizeLine∧qK xs its
theorem SqX.l {K:Ai}{H:Hp}{a:Ad}{xs:Aa V}(h:SqX K H a xs):SqL K H a xs:=by
 rcases h with h|⟨its,n,e,l,v⟩
 ·exact .inl h
 ·exact .inr ⟨_,its.toArray,n,e,rfl,rfl,rfl,by rw[A0,← v.length];exact l,by simpa using v⟩
end _L
namespace _L
open PySem PySem.Spec PyProof.Rows
variable {ps:Aa Ar}{f:Ad}{x qual:Ar}{H:Hp}
def xX (s:Cm):H8:=match s with
 |.FunctionDef _ a _ _ _ _ _ _ _ _=>a
 |_=>{ posonlyargs:=[],args:=[],vararg:=none,kwonlyargs:=[],kw_defaults:=[],kwarg:=none,defaults:=[] }
def zD (s:Cm):Aa Cm:=match s with
 |.FunctionDef _ _ b _ _ _ _ _ _ _=>b
 |_=>[]
def qG (s:Cm):Ch:=match s with
 |.FunctionDef _ _ _ _ _ _ sc _ _ _=>sc
 |_=>{ kind:=.function,names:=[],isGenerator:=false,isCoroutine:=false }
abbrev CX0:CXT:=fun _ _ _ _ _ _=>CC
structure Fun (K:Ai)(x qual:Ar)(st:Cm)(f:Ad)(fd:CH):Prop where
 ex:∃ (oc:Ac) (od:Ak Ad) (kV doc pm:Ac) (an:Ak Ad) (cdv ct:Ac) (osl:AB (Ak Ac)),
  fd=De x qual (xX st) (zD st) (qG st) .none kV doc pm an cdv ct∧K.lookup f=Ab ⟨oc,od,.func fd,osl⟩∧ER K cdv qual=true
 kp:Cr K (.ref f)=true
section
variable {P:A1}{w:AH}{K:Ai}{mg:Ar→Ak Ac}{base:A5}
theorem Fun.ok {st:Cm}{fd:CH}{N:Aa Ar}{k:Aj}{sp:Sp}(F:Fun K x qual st f fd)(S:FnScope N ps (qG st))(len:∀ vs H Q E,sp vs H Q E→vs.length=ps.length)
  (hbody:∀ (cdv:Ac) (A:AG) (outer:Aa Ek) (s:Ag) (H:Hp) (vs:Aa V) (Q:VK) (E:XK),Room k (A.deeper (CY qual (qG st) s.heap.objs.size f cdv))→sp vs H Q E →
   ∃ t,PSs (f9 CX0 P w K mg base N qual (qG st) f cdv A outer s H E).nox (zD st) t∧t { nx:=fun _ H'=>Q .non H',rt:=Q } (xB N vs) H):FnOk P w K mg base CX0 (k+1) f fd ps sp:=by
 obtain⟨oc,od,kV,doc,pm,an,cdv,ct,osl,rfl,lk,hcd⟩:=F.ex;refine MB lk hcd S len fun A outer s H vs Q E hr hsp=>?_;obtain⟨t,h,q⟩:=hbody cdv A outer s H vs Q E hr hsp;exact⟨t,h.nox,q⟩
theorem Fun.binds {st:Cm}{fd:CH}(F:Fun K x qual st f fd)
  (h:∀ (kV doc pm:Ac) (an:Ak Ad) (cdv ct:Ac) (us:Aa Ac),us.length=ps.length→Ki (De x qual (xX st) (zD st) (qG st) .none kV doc pm an cdv ct) ⟨us,[]⟩=pure (ps.zip us)):yP K fd ps []:=by
 obtain⟨oc,od,kV,doc,pm,an,cdv,ct,osl,rfl,lk,hcd⟩:=F.ex;exact .all (h kV doc pm an cdv ct)
theorem GB {st:Cm}{oc:Ac}{od an:Ak Ad}{osl:AB (Ak Ac)}{kV doc pm cdv ct:Ac}(l:K.lookup f=Ab ⟨oc,od,.func (De x qual (xX st) (zD st) (qG st) .none kV doc pm an cdv ct),osl⟩)
  (c:ER K cdv qual=true) (k:Cr K (.ref f)=true):Fun K x qual st f (De x qual (xX st) (zD st) (qG st) .none kV doc pm an cdv ct):=⟨⟨oc,od,kV,doc,pm,an,cdv,ct,osl,rfl,l,c⟩,k⟩
end
def qF (H H':Hp):Prop:=∀ b o,H b=Ab o→H' b=Ab o
theorem qF.refl (H:Hp):qF H H:=fun _ _ h=>h
theorem qF.trans {H1 H2:Hp}(a:qF H H1)(b:qF H1 H2):qF H H2:=fun c o h=>b c o (a c o h)
theorem qF.free {H':Hp}(e:qF H H'){l:Ad}(h:H' l=RE):H l=RE:=by
 cases q:H l with
 |none=>rfl
 |some o =>
  rw[e l o q] at h;cases h
theorem qF.seq {K:Ai}{H':Hp}{a:Ad}{xs:Aa V}(e:qF H H')(h:SqL K H a xs):SqL K H' a xs:=by
 rcases h with (h|⟨o,h⟩)|h
 ·exact .inl (.inl (e _ _ h))
 ·exact .inl (.inr ⟨o,e _ _ h⟩)
 ·exact .inr h
end _L
end
section
namespace _D
open PySem PySem.Spec PyProof.Rows _L
inductive D where
 |non|bl (b:Ap)|int (i:Am)|str (x:Ar)|ty (n:Bz)|obj (a:Ad)|tup (xs:Aa D)|lst (xs:Aa D)|dct0|loc (i:Aj)|exn (c:Ac)|fd (ks:Aa Key) (ds:Aa D)|clo (a:Ad) (vs:Aa V) (ds:Aa D)
def l8 (a:Ad)(c:Ac):HO:=.ext fun h=>∃ ob,h.get? a=Ab ob∧ob.cls=c
inductive MO where
 |dead|lst (xs:Aa D)|dct (kvs:Aa (Key × D))|ins (C:Ad) (fs:Aa (Ar × D))
abbrev Sto:=Aa MO
inductive Res (β : Type) where
 |ok (d:β) (S:Sto)|ex (c:Ac) (x:D) (S:Sto)|bad
@[inline] def Res.bind {β γ:Type}(r:Res β)(f:β→Sto→Res γ) : Res γ:=
 match r with
 |.ok d S=>f d S
 |.ex c x S=>.ex c x S
 |.bad=>.bad
theorem Res.bind_ok {β γ:Type}(d:β)(S:Sto)(f:β→Sto→Res γ) : (Res.ok d S).bind f=f d S:=rfl
section
variable (K:Ai)(P:Hp)(α : Aa Ad)
mutual
def Rep:D→V→Prop
 |.non,v=>v=.non
 |.bl b,v=>v=.bl b
 |.int i,v=>v=.int i
 |.str x,v=>v=.str x
 |.ty n,v=>v=.ty n
 |.obj a,v=>v=.ref a∧Cr K (.ref a)=true
 |.tup ds,v=>∃ a vs,v=.ref a∧SqT K P a vs∧qD ds vs
 |.lst ds,v=>∃ a vs,v=.ref a∧SqX K P a vs∧qD ds vs
 |.dct0,v=>∃ a,v=.ref a∧P a=Ab (.dK [])
 |.loc i,v=>∃ a,v=.ref a∧α[i]? = Ab a
 |.exn c,v=>∃ a,v=.ref a∧P a=Ab (l8 a c)
 |.fd ks ds,v=>∃ a o vs,v=.ref a∧P a=Ab (.frz o (.dK (ks.zip vs)))∧ks.length=vs.length∧qD ds vs
 |.clo a vs ds,v=>v=.ref a∧qD ds vs
def qD:Aa D→Aa V→Prop
 |[],vs=>vs=[]
 |d::ds,vs=>∃ w ws,vs=w::ws∧Rep d w∧qD ds ws
end
end
section
variable {K:Ai}{P P':Hp}{α α':Aa Ad}
theorem wO (e:qF P P'){a:Ad}{xs:Aa V}(h:SqT K P a xs):SqT K P' a xs:=by
 rcases h with (h|⟨o,h⟩)|h
 ·exact .inl (.inl (e _ _ h))
 ·exact .inl (.inr ⟨o,e _ _ h⟩)
 ·exact .inr h
theorem sY (e:qF P P'){a:Ad}{u:HO}(h:Rd P a u):Rd P' a u:=by
 rcases h with h|⟨o,h⟩
 ·exact .inl (e _ _ h)
 ·exact .inr ⟨o,e _ _ h⟩
theorem x6 (e:qF P P'){a:Ad}{xs:Aa V}(h:SqX K P a xs):SqX K P' a xs:=by
 rcases h with h|h
 ·exact .inl (sY e h)
 ·exact .inr h
theorem gL {i:Aj}{a:Ad}(h:α<+:α')(e:α[i]? = Ab a):α'[i]? = Ab a:=by
 obtain⟨r,rfl⟩:=h;rw[AO (Ay.mp e).1];exact e
mutual
theorem Rep.mono (e:qF P P')(h:α<+:α'):∀ (d:D) (v:V),Rep K P α d v→Rep K P' α' d v
 |.non,_,r=>by simpa only [Rep] using r
 |.bl _,_,r=>by simpa only [Rep] using r
 |.int _,_,r=>by simpa only [Rep] using r
 |.str _,_,r=>by simpa only [Rep] using r
 |.ty _,_,r=>by simpa only [Rep] using r
 |.obj _,_,r=>by simpa only [Rep] using r
 |.tup ds,v,r=>by
  simp only[Rep] at r ⊢;obtain⟨a,vs,rfl,q,t⟩:=r;exact⟨a,vs,rfl,wO e q,qD.mono e h ds vs t⟩
 |.lst ds,v,r=>by
  simp only[Rep] at r ⊢;obtain⟨a,vs,rfl,q,t⟩:=r;exact⟨a,vs,rfl,x6 e q,qD.mono e h ds vs t⟩
 |.dct0,v,r=>by
  simp only[Rep] at r ⊢;obtain⟨a,rfl,q⟩:=r;exact⟨a,rfl,e _ _ q⟩
 |.loc i,v,r=>by
  simp only[Rep] at r ⊢;obtain⟨a,rfl,q⟩:=r;exact⟨a,rfl,gL h q⟩
 |.exn c,v,r=>by
  simp only[Rep] at r ⊢;obtain⟨a,rfl,q⟩:=r;exact⟨a,rfl,e _ _ q⟩
 |.fd ks ds,v,r=>by
  simp only[Rep] at r ⊢;obtain⟨a,o,vs,rfl,q,hl,t⟩:=r;exact⟨a,o,vs,rfl,e _ _ q,hl,qD.mono e h ds vs t⟩
 |.clo a vs ds,v,r=>by
  simp only[Rep] at r ⊢;exact⟨r.1,qD.mono e h ds vs r.2⟩
theorem qD.mono (e:qF P P')(h:α<+:α'):∀ (ds:Aa D) (vs:Aa V),qD K P α ds vs→qD K P' α' ds vs
 |[],vs,r=>by simpa only [qD] using r
 |d::ds,vs,r=>by
  simp only[qD] at r ⊢;obtain⟨w,ws,rfl,r1,r2⟩:=r;exact⟨w,ws,rfl,Rep.mono e h d w r1,qD.mono e h ds ws r2⟩
end
theorem qD.nil:qD K P α [] []:=by simp only[qD]
theorem qD.cons {d:D}{v:V}{ds:Aa D}{vs:Aa V}(r:Rep K P α d v)(t:qD K P α ds vs):qD K P α (d::ds) (v::vs):=by
 simp only[qD];exact⟨v,vs,rfl,r,t⟩
theorem qD.nil_inv {vs:Aa V}(r:qD K P α [] vs):vs=[]:=by simpa only [qD] using r
theorem qD.cons_inv {d:D}{ds:Aa D}{vs:Aa V}(r:qD K P α (d::ds) vs):∃ w ws,vs=w::ws∧Rep K P α d w∧qD K P α ds ws:=by simpa only [qD] using r
theorem qD.length:∀ {ds:Aa D} {vs:Aa V},qD K P α ds vs→ds.length=vs.length
 |[],vs,r=>by rw[r.nil_inv];rfl
 |d::ds,vs,r=>by
  obtain⟨w,ws,rfl,_,t⟩:=r.cons_inv;rw[Bo,Bo,t.length]
theorem qD.append:∀ {ds es:Aa D} {vs ws:Aa V},qD K P α ds vs→qD K P α es ws→qD K P α (ds++es) (vs++ws)
 |[],es,vs,ws,r,t=>by rw[r.nil_inv];exact t
 |d::ds,es,vs,ws,r,t=>by
  obtain⟨w,us,rfl,r1,r2⟩:=r.cons_inv;exact .cons r1 (r2.append t)
theorem qD.get:∀ {ds:Aa D} {vs:Aa V} {i:Aj} {d:D},qD K P α ds vs→ds[i]? = Ab d→∃ v,vs[i]? = Ab v∧Rep K P α d v
 |[],_,_,_,_,e=>by simp at e
 |d::ds,vs,i,d',r,e=>by
  obtain⟨w,ws,rfl,r1,r2⟩:=r.cons_inv;cases i with
  |zero=>simp at e;subst e;exact⟨w,rfl,r1⟩
  |succ i =>
   obtain⟨v,h1,h2⟩:=r2.get (i:=i) (d:=d') (by simpa using e)
   exact⟨v,by simpa using h1,h2⟩
theorem qD.drop:∀ {ds:Aa D} {vs:Aa V} (n:Aj),qD K P α ds vs→qD K P α (ds.drop n) (vs.drop n)
 |ds,vs,0,r=>by simpa using r
 |[],vs,n+1,r=>by rw[r.nil_inv];exact .nil
 |d::ds,vs,n+1,r=>by
  obtain⟨w,ws,rfl,_,r2⟩:=r.cons_inv;simpa using r2.drop n
theorem qD.take:∀ {ds:Aa D} {vs:Aa V} (n:Aj),qD K P α ds vs→qD K P α (ds.take n) (vs.take n)
 |ds,vs,0,r=>by simpa using qD.nil
 |[],vs,n+1,r=>by rw[r.nil_inv];exact .nil
 |d::ds,vs,n+1,r=>by
  obtain⟨w,ws,rfl,r1,r2⟩:=r.cons_inv;simpa using qD.cons r1 (r2.take n)
theorem qD.set {d:D}{v:V}(q:Rep K P α d v):∀ {ds:Aa D} {vs:Aa V} (n:Aj),qD K P α ds vs→qD K P α (ds.set n d) (vs.set n v)
 |[],vs,n,r=>by rw[r.nil_inv];exact .nil
 |e::ds,vs,0,r=>by
  obtain⟨w,ws,rfl,r1,r2⟩:=r.cons_inv;exact .cons q r2
 |e::ds,vs,n+1,r=>by
  obtain⟨w,ws,rfl,r1,r2⟩:=r.cons_inv;exact .cons r1 (r2.set q n)
end
abbrev qE:=Aa (Ak D)
def qZ (K:Ai)(P:Hp)(α : Aa Ad)(σ : _L.St)(env:qE):Prop:=env.length=σ.length∧∀ (i:Aj) (d:D),env[i]? = Ab (Ab d)→∃ v,σ[i]? = Ab (Ab v)∧Rep K P α d v
def KVs (K:Ai)(P:Hp)(α : Aa Ad){κ : Type}:Aa (κ × D)→Aa (κ × V)→Prop:=Paired fun (p:κ × D) (q:κ × V)=>p.1=q.1∧Rep K P α p.2 q.2
def MOk (K:Ai)(H P:Hp)(α : Aa Ad)(a:Ad):MO→Prop
 |.dead=>EY
 |.lst ds=>∃ vs,H a=Ab (.lst vs)∧qD K P α ds vs
 |.dct kvs=>∃ vs,H a=Ab (.dK vs)∧KVs K P α kvs vs
 |.ins C fs=>∃ dx vs,H a=Ab (.ins C dx vs)∧KVs K P α fs vs
inductive TbAt (x:Ar)(H P:Hp)(α : Aa Ad)(T:Ad):Prop
 |mk (ps:AB Ac) (e:H T=Ab (.tbl ps)) (pn:P T=none) (an:T ∉ α) (ok:Fh ps.toList) (cd:∀ pos cv,HA pos ps.toList=Ab cv→∃ c oc vs t,cv=.ref c∧H c=Ab (.frz oc (.frz oc (.own 0)))∧oc.data=.fields vs∧vs[1]? = Ab (.str (x ++ ".<locals>." ++ "<lambda>") t)):TbAt x H P α T
def rO (K:Ai)(H P:Hp)(α : Aa Ad):Prop:=∀ x∈xI,∀ c T,Bg K x=Ab (c,T)→TbAt x H P α T
def GI (u:HO):Prop:=(∃ ps,u=.tbl ps)∨∃ o,u=.frz o (.frz o (.own 0))
theorem rO.keep {K:Ai}{H H' P P':Hp}{α α':Aa Ad}(r:rO K H P α)(e:∀ b u,H b=Ab u→GI u→H' b=Ab u)(hp:∀ b u,H b=Ab u→GI u→P b=none→b ∉ α→P' b=none∧b ∉ α'):rO K H' P' α':=fun x hx c T h =>
 let ⟨ps,e1,pn,an,ok,cd⟩:=r x hx c T h
 let z:=hp _ _ e1 (.inl ⟨_,rfl⟩) pn an
 ⟨ps,e _ _ e1 (.inl ⟨_,rfl⟩),z.1,z.2,ok,fun pos cv q=>let ⟨c,oc,vs,t,a,b,d⟩:=cd pos cv q;⟨c,oc,vs,t,a,e _ _ b (.inr ⟨_,rfl⟩),d⟩⟩
structure Rel (K:Ai)(H P:Hp)(α : Aa Ad)(S:Sto):Prop where
 tb:rO K H P α
 sub:qF P H
 len:α.length=S.length
 nd:α.Nodup
 sep:∀ (i:Aj) (a:Ad) (o:MO),α[i]? = Ab a→S[i]? = Ab o→o≠.dead→P a=none
 at':∀ (i:Aj) (a:Ad) (o:MO),α[i]? = Ab a→S[i]? = Ab o→MOk K H P α a o
 own:∀ (i:Aj) (a:Ad),α[i]? = Ab a→H a≠none
section
variable {K:Ai}{H P P':Hp}{α α':Aa Ad}{S:Sto}
theorem qZ.mono {σ : _L.St}{env:qE}(e:qF P P')(h:α<+:α')(r:qZ K P α σ env):qZ K P' α' σ env:=
 ⟨r.1,fun i d q=>let ⟨v,h1,h2⟩:=r.2 i d q;⟨v,h1,Rep.mono e h d v h2⟩⟩
theorem KVs.mono {κ : Type}(e:qF P P')(h:α<+:α'){kvs:Aa (κ × D)}{vs:Aa (κ × V)}(r:KVs K P α kvs vs):KVs K P' α' kvs vs:=by
 refine Paired.mapP r fun p q z=>⟨z.1,Rep.mono e h _ _ z.2⟩
theorem MOk.mono {a:Ad}(e:qF P P')(h:α<+:α'):∀ {o:MO},MOk K H P α a o→MOk K H P' α' a o
 |.dead,_=>trivial
 |.lst _,⟨vs,q,r⟩=>⟨vs,q,qD.mono e h _ _ r⟩
 |.dct _,⟨vs,q,r⟩=>⟨vs,q,r.mono e h⟩
 |.ins _ _,⟨dx,vs,q,r⟩=>⟨dx,vs,q,r.mono e h⟩
theorem Rel.grow {H':Hp}(r:Rel K H P α S)(e:qF H H'):Rel K H' P α S where
 tb:=r.tb.keep (fun b u q _=>e _ _ q) fun _ _ _ _ p n=>⟨p,n⟩
 sub:=r.sub.trans e
 len:=r.len
 nd:=r.nd
 sep:=r.sep
 at':=fun i a o q1 q2=>by
  have m:=r.at' i a o q1 q2;cases o with
  |dead=>trivial
  |lst ds=>obtain⟨vs,q,t⟩:=m;exact⟨vs,e _ _ q,t⟩
  |dct kvs=>obtain⟨vs,q,t⟩:=m;exact⟨vs,e _ _ q,t⟩
  |ins C fs=>obtain⟨dx,vs,q,t⟩:=m;exact⟨dx,vs,e _ _ q,t⟩
 own:=fun i a q=>by
  have m:=r.own i a q;cases z:H a with
  |none=>exact absurd z m
  |some o=>rw[e _ _ z];intro w;cases w
theorem pO {H:Hp}{a:Ad}{o:HO}(h:H a=none):qF H (upd H a o):=fun b u e=>by rw[qH (qP e h)];exact e
theorem Rel.pure {a:Ad}{o:HO}(r:Rel K H P α S)(h:H a=none):Rel K (upd H a o) (upd P a o) α S∧qF P (upd P a o):=by
 have hP:P a=none:=by
  cases z:P a with
  |none=>rfl
  |some u=>rw[r.sub _ _ z] at h;cases h
 have sP:qF P (upd P a o):=pO hP;have r1:=r.grow (pO (o:=o) h);refine⟨⟨r.tb.keep (fun b u q _=>(qH (qP q h)).trans q) fun b u q _ p n=>⟨(qH (qP q h)).trans p,n⟩,fun b u e=>?_,r.len,r.nd,fun i b u q1 q2 q3=>?_,fun i b u q1 q2=>(r1.at' i b u q1 q2).mono sP (A8 _),r1.own⟩,sP⟩
 ·by_cases hb:b=a
  ·subst hb;rw[qT] at e ⊢;exact e
  ·rw[qH hb] at e ⊢;exact r.sub _ _ e
 ·have hb:b≠a:=by rintro rfl;exact r.own i b q1 h
  rw[qH hb];exact r.sep i b u q1 q2 q3
theorem Rel.new {a:Ad}{o:HO}{m:MO}(r:Rel K H P α S)(h:H a=none)(hm:MOk K (upd H a o) P (α ++ [a]) a m):Rel K (upd H a o) P (α ++ [a]) (S++[m]):=by
 have hP:P a=none:=by
  cases z:P a with
  |none=>rfl
  |some u=>rw[r.sub _ _ z] at h;cases h
 have r1:=r.grow (pO (o:=o) h);have hp:α<+:α++[a]:=CS _ _;have split:∀ (i:Aj) (b:Ad),(α++[a])[i]? = Ab b→(i<α.length∧α[i]? = Ab b)∨(i=α.length∧b=a):=fun i b q=>by
  by_cases hi:i<α.length
  ·rw[AO hi] at q;exact .inl ⟨hi,q⟩
  ·rw[Be om] at q
   cases hk:i-α.length with
   |zero=>rw[hk] at q;simp at q;exact .inr ⟨by omega,q.symm⟩
   |succ k=>rw[hk] at q;simp at q
 refine⟨r.tb.keep (fun b u q _=>(qH (qP q h)).trans q) fun b u q _ p n=>⟨p,fun z=>(Bs.mp z).elim n fun w=>qP q h (by simpa using w)⟩,r1.sub,by simp[r.len],?_,fun i b u q1 q2 q3=>?_,fun i b u q1 q2=>?_,fun i b q=>?_⟩
 ·rw[IK]
  refine⟨r.nd,by simp,fun b hb c hc e=>?_⟩
  simp at hc;subst hc;subst e;obtain⟨i,hi,e⟩:=Bl.mp hb;exact r.own i b (by rw[Aq hi,e]) h
 ·rcases split i b q1 with⟨hi,z⟩|⟨hi,rfl⟩
  ·rw[AO (by rw[← r.len];exact hi)] at q2
   exact r.sep i b u z q2 q3
  ·exact hP
 ·rcases split i b q1 with⟨hi,z⟩|⟨hi,rfl⟩
  ·rw[AO (by rw[← r.len];exact hi)] at q2
   exact(r1.at' i b u z q2).mono (qF.refl _) hp
  ·rw[hi,r.len,Be (A2 _)] at q2
   simp at q2;subst q2;exact hm
 ·rcases split i b q with⟨_,z⟩|⟨_,rfl⟩
  ·exact r1.own i b z
  ·rw[qT];intro z;cases z
theorem i9 {N:Aa Ad}(hN:N.Nodup){i j:Aj}{x:Ad}(a:N[i]? = Ab x)(b:N[j]? = Ab x):i=j:=by
 obtain⟨h1,e1⟩:=Ay.mp a;obtain⟨h2,e2⟩:=Ay.mp b;exact(Jf hN).mp (e1.trans e2.symm)
theorem Rel.put {a:Ad}{i:Aj}{o:HO}{m m':MO}(r:Rel K H P α S)(ha:α[i]? = Ab a)(hs:S[i]? = Ab m)(hd:m≠.dead)(hm:MOk K (upd H a o) P α a m'):Rel K (upd H a o) P α (S.set i m'):=by
 have hP:=r.sep i a m ha hs hd;have hi:i<S.length:=(Ay.mp hs).1;refine⟨r.tb.keep (fun b u q hu=>?_) fun _ _ _ _ p n=>⟨p,n⟩,fun b u e=>?_,by simp[r.len],r.nd,fun j b u q1 q2 q3=>?_,fun j b u q1 q2=>?_,fun j b q=>?_⟩
 ·refine(qH ?_).trans q
  rintro rfl;have z:=r.at' i _ m ha hs;cases m with
  |dead=>exact hd rfl
  |lst ds=>obtain⟨vs,z,_⟩:=z;rw[q] at z;rcases hu with⟨_,rfl⟩|⟨_,rfl⟩ <;> cases z
  |dct kvs=>obtain⟨vs,z,_⟩:=z;rw[q] at z;rcases hu with⟨_,rfl⟩|⟨_,rfl⟩ <;> cases z
  |ins C fs=>obtain⟨dx,vs,z,_⟩:=z;rw[q] at z;rcases hu with⟨_,rfl⟩|⟨_,rfl⟩ <;> cases z
 ·have hb:b≠a:=by rintro rfl;rw[hP] at e;cases e
  rw[qH hb];exact r.sub _ _ e
 ·by_cases hj:j=i
  ·subst hj;rw[ha] at q1;cases q1;exact hP
  ·rw[Bw (CZ hj)] at q2;exact r.sep j b u q1 q2 q3
 ·by_cases hj:j=i
  ·subst hj;rw[ha] at q1;cases q1
   rw[Ca hi] at q2;cases q2;exact hm
  ·rw[Bw (CZ hj)] at q2
   have hb:b≠a:=by rintro rfl;exact hj (i9 r.nd q1 ha)
   have z:=r.at' j b u q1 q2;cases u with
   |dead=>trivial
   |lst ds=>obtain⟨vs,q,t⟩:=z;exact⟨vs,by rw[qH hb];exact q,t⟩
   |dct kvs=>obtain⟨vs,q,t⟩:=z;exact⟨vs,by rw[qH hb];exact q,t⟩
   |ins C fs=>obtain⟨dx,vs,q,t⟩:=z;exact⟨dx,vs,by rw[qH hb];exact q,t⟩
 ·by_cases hb:b=a
  ·subst hb;rw[qT];intro z;cases z
  ·rw[qH hb];exact r.own j b q
end
theorem nn {β : Type}{a:β}{p:Prop}(h:(none:Ak β) = Ab a):p:=by cases h
theorem jJ {β : Type}{c:Prop}[Go c]{a b:β}(h:(if c then Ab a else none)=Ab b):c∧a=b:=by
 by_cases z:c
 ·rw[A7 z] at h;exact⟨z,AW h⟩
 ·rw[AD z] at h;exact nn h
end _D
end
namespace _D
open PySem PySem.Spec PyProof.Rows _L
variable {sl:AB (Ak Ac)}{more:Aa (Ad × AU)}{us args cs:Aa Ac}{body:Aa Cm}{vs:Aa V}{u vv:Ac}{p C:Ad}{od:Ak Ad}{np:CA}{M:He}{R:It→Hp→Prop}{sp:Sp}{S S1:Sto}{Q:VK}
abbrev DE:=qE→Sto→Res D
abbrev DT:=qE→Sto→Res Ap
abbrev DA:=qE→Sto→Res (Aa D)
inductive Out where
 |nx (env:qE) (S:Sto)|rt (d:D) (S:Sto)|bk (env:qE) (S:Sto)|ct (env:qE) (S:Sto)|ex (c:Ac) (x:D) (env:qE) (S:Sto)|bad
abbrev DS:=qE→Sto→Out
def Old (X:Cx)(pins:Aa (Ad × AU))(H:Hp)(b:Ad):Prop:=
 (∃ o,X.s₀.heap.get? b=Ab o)∨H b≠none∨(∃ p∈X.pn++pins,p.1=b)∨∃ x,X.env.cells.lookup x=Ab b
def Cv (X:Cx)(pins:Aa (Ad × AU))(H:Hp)(B h:A5):Prop:=∀ b o,h.get? b=Ab o→Old X pins H b→b ∉ frs X.stack→B.get? b=Ab o
inductive FlyX (X:Cx)(pins:Aa (Ad × AU))(H:Hp)(c:Ac)(e:Ad)(h:A5):Prop where
 |new (g:A5) (args:Aa Ac):Lu g h e c args→g.FunFrames X.base X.stack→(∀ b o,h.get? b=Ab o→Old X pins H b→g.get? b=Ab o)→FlyX X pins H c e h
 |fly (B:A5) (a0:Ac):HH B X.stack e c a0 h→Cv X pins H B h→FlyX X pins H c e h
inductive XOk (X:Cx)(P:Hp)(α : Aa Ad)(c:Ac)(x:D)(S:Sto)(u:Ac)(s:Ag):Prop
 |mk (e:Ad) (pins:Aa (Ad × AU)) (σ : _L.St) (H:Hp) (P':Hp) (α' : Aa Ad) (e1:u=.ref e) (I:Inv X pins σ H s) (r:Rel X.K H P' α' S) (q1:qF P P') (q2:α<+:α') (q3:X.ex=[]∧X.stack=X.env::X.outer∧X.env.frame=Ab X.env.locals) (q4:FlyX X pins H c e s.heap):XOk X P α c x S u s
theorem XOk.base {X:Cx}{P P1:Hp}{α α1:Aa Ad}{c:Ac}{x:D}{s:Ag}(e:qF P P1)(h:α<+:α1)(k:XOk X P1 α1 c x S u s):XOk X P α c x S u s:=by
 obtain⟨a,pins,σ,H,P',α',e1,I,r,q1,q2,q3,q4⟩:=k;exact⟨a,pins,σ,H,P',α',e1,I,r,e.trans q1,h.trans q2,q3,q4⟩
section
variable (X:Cx)
def qI {β:Type}(P:Hp)(α : Aa Ad)(r:Res β)(Ok:β→Sto→Prop):Prop:=
 match r with
 |.ok d S'=>Ok d S'
 |.ex c x S'=>∀ u s',XOk X P α c x S' u s'→X.xe u s'
 |.bad=>CC
def OkV (P:Hp)(α : Aa Ad)(Q:VK)(d:D)(S':Sto):Prop:=∀ v H' P' α',Rel X.K H' P' α' S'→qF P P'→α<+:α'→Rep X.K P' α' d v→Q v H'
def OkT (P:Hp)(α : Aa Ad)(Q:Ap→Hp→Prop)(b:Ap)(S':Sto):Prop:=∀ H' P' α',Rel X.K H' P' α' S'→qF P P'→α<+:α'→Q b H'
def OkA (P:Hp)(α : Aa Ad)(Q:Aa V→Hp→Prop)(ds:Aa D)(S':Sto):Prop:=∀ vs H' P' α',Rel X.K H' P' α' S'→qF P P'→α<+:α'→qD X.K P' α' ds vs→Q vs H'
abbrev qS (P:Hp)(α : Aa Ad)(r:Res D)(Q:VK):Prop:=qI X P α r (OkV X P α Q)
abbrev uM (P:Hp)(α : Aa Ad)(r:Res Ap)(Q:Ap→Hp→Prop):Prop:=qI X P α r (OkT X P α Q)
abbrev kA (P:Hp)(α : Aa Ad)(r:Res (Aa D))(Q:Aa V→Hp→Prop):Prop:=qI X P α r (OkA X P α Q)
def qX (P:Hp)(α : Aa Ad)(r:Out)(D:Ends):Prop:=
 match r with
 |.nx env' S'=>∀ σ' H' P' α',Rel X.K H' P' α' S'→qZ X.K P' α' σ' env'→qF P P'→α<+:α'→D.nx σ' H'
 |.bk env' S'=>∀ σ' H' P' α',Rel X.K H' P' α' S'→qZ X.K P' α' σ' env'→qF P P'→α<+:α'→D.bk σ' H'
 |.ct env' S'=>∀ σ' H' P' α',Rel X.K H' P' α' S'→qZ X.K P' α' σ' env'→qF P P'→α<+:α'→D.ct σ' H'
 |.rt d S'=>∀ v H' P' α',Rel X.K H' P' α' S'→qF P P'→α<+:α'→Rep X.K P' α' d v→D.rt v H'
 |.ex c x _ S'=>∀ u s',XOk X P α c x S' u s'→X.xe u s'
 |.bad=>CC
inductive tD (f:DE)(σ : _L.St)(H:Hp)(Q:VK):Prop
 |mk (P:Hp) (α : Aa Ad) (env:qE) (S:Sto) (r:Rel X.K H P α S) (re:qZ X.K P α σ env) (af:qS X P α (f env S) Q):tD f σ H Q
inductive tDT (f:DT)(σ : _L.St)(H:Hp)(Q:Ap→Hp→Prop):Prop
 |mk (P:Hp) (α : Aa Ad) (env:qE) (S:Sto) (r:Rel X.K H P α S) (re:qZ X.K P α σ env) (af:uM X P α (f env S) Q):tDT f σ H Q
inductive tDA (f:DA)(σ : _L.St)(H:Hp)(Q:Aa V→Hp→Prop):Prop
 |mk (P:Hp) (α : Aa Ad) (env:qE) (S:Sto) (r:Rel X.K H P α S) (re:qZ X.K P α σ env) (af:kA X P α (f env S) Q):tDA f σ H Q
inductive tDS (f:DS)(D:Ends)(σ : _L.St)(H:Hp):Prop
 |mk (P:Hp) (α : Aa Ad) (env:qE) (S:Sto) (r:Rel X.K H P α S) (re:qZ X.K P α σ env) (af:qX X P α (f env S) D):tDS f D σ H
end
section
variable {X:Cx}{P P1:Hp}{α α1:Aa Ad}
theorem qS.base {r:Res D}(e:qF P P1)(h:α<+:α1)(k:qS X P α r Q):qS X P1 α1 r Q:=by
 cases r with
 |ok d S=>exact fun v H' P' α' r q1 q2 q3=>k v H' P' α' r (e.trans q1) (h.trans q2) q3
 |ex c x S=>exact fun u s' q=>k u s' (q.base e h)
 |bad=>exact k
theorem uM.base {r:Res Ap}{Q:Ap→Hp→Prop}(e:qF P P1)(h:α<+:α1)(k:uM X P α r Q):uM X P1 α1 r Q:=by
 cases r with
 |ok d S=>exact fun H' P' α' r q1 q2=>k H' P' α' r (e.trans q1) (h.trans q2)
 |ex c x S=>exact fun u s' q=>k u s' (q.base e h)
 |bad=>exact k
theorem kA.base {r:Res (Aa D)}{Q:Aa V→Hp→Prop}(e:qF P P1)(h:α<+:α1)(k:kA X P α r Q):kA X P1 α1 r Q:=by
 cases r with
 |ok d S=>exact fun v H' P' α' r q1 q2 q3=>k v H' P' α' r (e.trans q1) (h.trans q2) q3
 |ex c x S=>exact fun u s' q=>k u s' (q.base e h)
 |bad=>exact k
theorem qX.base {r:Out}{D:Ends}(e:qF P P1)(h:α<+:α1)(k:qX X P α r D):qX X P1 α1 r D:=by
 cases r with
 |nx env S=>exact fun v H' P' α' r q0 q1 q2=>k v H' P' α' r q0 (e.trans q1) (h.trans q2)
 |bk env S=>exact fun v H' P' α' r q0 q1 q2=>k v H' P' α' r q0 (e.trans q1) (h.trans q2)
 |ct env S=>exact fun v H' P' α' r q0 q1 q2=>k v H' P' α' r q0 (e.trans q1) (h.trans q2)
 |rt d S=>exact fun v H' P' α' r q1 q2 q3=>k v H' P' α' r (e.trans q1) (h.trans q2) q3
 |ex c x env S=>exact fun u s' q=>k u s' (q.base e h)
 |bad=>exact k
theorem xr {v:V}{H:Hp}{d:D}(k:OkV X P α Q d S)(r:Rel X.K H P α S)(q:Rep X.K P α d v):Q v H:=k v H P α r (qF.refl _) (A8 _) q
end
section
variable {X:Cx}{a b e:AF}{pos:CA}
theorem peW {t t':TE}(h:PE X e t)(w:∀ σ H Q,t' σ H Q→t σ H Q):PE X e t':=fun pins s σ H Q I q=>h pins s σ H Q I (w σ H Q q)
theorem psW {st:Cm}{t t':TS}(h:PS X st t)(w:∀ D σ H,t' D σ H→t D σ H):PS X st t':=fun pins s σ H D I q=>h pins s σ H D I (w D σ H q)
theorem BJ {st:Aa Cm}{t t':TS}(h:PSs X st t)(w:∀ D σ H,t' D σ H→t D σ H):PSs X st t':=fun pins s σ H D I q=>h pins s σ H D I (w D σ H q)
theorem paW {es:Aa AF}{t t':TA}(h:PA X es t)(w:∀ σ H Q,t' σ H Q→t σ H Q):PA X es t':=fun pos pins s σ H Q I q=>h pos pins s σ H Q I (w σ H Q q)
structure Got (X:Cx)(pins:Aa (Ad × AU))(σ : _L.St)(env:qE)(P:Hp)(α : Aa Ad)(u:Ac)(s1:Ag)(v:V)(H1 P1:Hp)(α1:Aa Ad)(d:D)(S1:Sto):Prop where
 inv:Inv X pins σ H1 s1
 val:qJ v u
 rel:Rel X.K H1 P1 α1 S1
 env:qZ X.K P1 α1 σ env
 rep:Rep X.K P1 α1 d v
 same:qF P P1
 pre:α<+:α1
inductive GotG (X:Cx)(pins:Aa (Ad × AU))(σ : _L.St)(env:qE)(P:Hp)(α : Aa Ad)(u:Ac)(s1:Ag){γ : Type}(g:D→Sto→Res γ)(Ok:γ→Sto→Prop):Prop
 |mk (v:V) (H1 P1:Hp) (α1:Aa Ad) (d:D) (S1:Sto) (G:Got X pins σ env P α u s1 v H1 P1 α1 d S1) (q:qI X P α (g d S1) Ok):GotG X pins σ env P α u s1 g Ok
inductive GotAG (X:Cx)(pins:Aa (Ad × AU))(σ : _L.St)(env:qE)(P:Hp)(α : Aa Ad)(us:Aa Ac)(s1:Ag){γ : Type}(g:Aa D→Sto→Res γ)(Ok:γ→Sto→Prop):Prop
 |mk (vs:Aa V) (H1 P1:Hp) (α1:Aa Ad) (ds:Aa D) (S1:Sto) (I:Inv X pins σ H1 s1) (rv:qK vs us) (r:Rel X.K H1 P1 α1 S1) (re:qZ X.K P1 α1 σ env) (rp:qD X.K P1 α1 ds vs) (e1:qF P P1) (e2:α<+:α1) (q:qI X P α (g ds S1) Ok):GotAG X pins σ env P α us s1 g Ok
inductive GotT (X:Cx)(pins:Aa (Ad × AU))(σ : _L.St)(env:qE)(P:Hp)(α : Aa Ad)(b:Ap)(s1:Ag){γ : Type}(g:Ap→Sto→Res γ)(Ok:γ→Sto→Prop):Prop
 |mk (H1 P1:Hp) (α1:Aa Ad) (S1:Sto) (I:Inv X pins σ H1 s1) (r:Rel X.K H1 P1 α1 S1) (re:qZ X.K P1 α1 σ env) (e1:qF P P1) (e2:α<+:α1) (q:qI X P α (g b S1) Ok):GotT X pins σ env P α b s1 g Ok
theorem zQ {γ:Type}{f:DE}{g:D→Sto→Res γ}{Ok:γ→Sto→Prop}{pins:Aa (Ad × AU)}{s:Ag}{σ:_L.St}{H P:Hp}{α:Aa Ad}{env:qE}(he:PE X e (tD X f))(I:Inv X pins σ H s)(r:Rel X.K H P α S)
  (re:qZ X.K P α σ env) (af:qI X P α ((f env S).bind g) Ok) :
  Ao (As X.prog X.w) X.A (eval e X.env) (fun u s1=>GotG X pins σ env P α u s1 g Ok) X.xe s:=by
 refine thn (he pins s σ H (fun v H1=>∃ P1 α1 d S1,Rel X.K H1 P1 α1 S1∧qZ X.K P1 α1 σ env∧Rep X.K P1 α1 d v∧qF P P1∧α<+:α1∧qI X P α (g d S1) Ok) I ⟨P,α,env,S,r,re,?_⟩) fun u s1 ⟨v,H1,I1,rv,P1,α1,d,S1,q1,q2,q3,q4,q5,q6⟩=>⟨v,H1,P1,α1,d,S1,⟨I1,rv,q1,q2,q3,q4,q5⟩,q6⟩;cases q:f env S with
 |bad=>rw[q] at af;exact af
 |ex c x S'=>rw[q] at af;exact af
 |ok d S' =>
  rw[q] at af;exact fun v H' P' α' r' e1 e2 rp=>⟨P',α',d,S',r',re.mono e1 e2,rp,e1,e2,af⟩
theorem wC {γ:Type}{es:Aa AF}{f:DA}{g:Aa D→Sto→Res γ}{Ok:γ→Sto→Prop}{pins:Aa (Ad × AU)}{s:Ag}{σ:_L.St}{H P:Hp}{α:Aa Ad}{env:qE}(he:PA X es (tDA X f))(I:Inv X pins σ H s)(r:Rel X.K H P α S)
  (re:qZ X.K P α σ env) (af:qI X P α ((f env S).bind g) Ok) (pos:CA) :
  Ao (As X.prog X.w) X.A (spliced (Df pos (A9 es X.env))) (fun us s1=>GotAG X pins σ env P α us s1 g Ok) X.xe s:=by
 refine thn (he pos pins s σ H (fun vs H1=>∃ P1 α1 ds S1,Rel X.K H1 P1 α1 S1∧qZ X.K P1 α1 σ env∧qD X.K P1 α1 ds vs∧qF P P1∧α<+:α1∧qI X P α (g ds S1) Ok) I ⟨P,α,env,S,r,re,?_⟩) fun u s1 ⟨v,H1,I1,rv,P1,α1,d,S1,q1,q2,q3,q4,q5,q6⟩=>⟨v,H1,P1,α1,d,S1,I1,rv,q1,q2,q3,q4,q5,q6⟩;cases q:f env S with
 |bad=>rw[q] at af;exact af
 |ex c x S'=>rw[q] at af;exact af
 |ok d S' =>
  rw[q] at af;exact fun v H' P' α' r' e1 e2 rp=>⟨P',α',d,S',r',re.mono e1 e2,rp,e1,e2,af⟩
theorem pX {γ:Type}{f:DT}{g:Ap→Sto→Res γ}{Ok:γ→Sto→Prop}{pins:Aa (Ad × AU)}{s:Ag}{σ:_L.St}{H P:Hp}{α:Aa Ad}{env:qE}{m:Hs Ap}
  (he:∀ (Q:Ap→Hp→Prop),tDT X f σ H Q→Ao (As X.prog X.w) X.A m (TP X pins σ Q) X.xe s) (r:Rel X.K H P α S) (re:qZ X.K P α σ env) (af:qI X P α ((f env S).bind g) Ok) :
  Ao (As X.prog X.w) X.A m (fun b s1=>GotT X pins σ env P α b s1 g Ok) X.xe s:=by
 refine thn (he (fun b H1=>∃ P1 α1 S1,Rel X.K H1 P1 α1 S1∧qZ X.K P1 α1 σ env∧qF P P1∧α<+:α1∧qI X P α (g b S1) Ok) ⟨P,α,env,S,r,re,?_⟩) fun b s1 ⟨H1,I1,P1,α1,S1,q1,q2,q4,q5,q6⟩=>⟨H1,P1,α1,S1,I1,q1,q2,q4,q5,q6⟩;cases q:f env S with
 |bad=>rw[q] at af;exact af
 |ex c x S'=>rw[q] at af;exact af
 |ok d S' =>
  rw[q] at af;exact fun H' P' α' r' e1 e2=>⟨P',α',S',r',re.mono e1 e2,e1,e2,af⟩
def dC (d:D):DE:=fun _ S=>.ok d S
def qB (i:Aj):DE:=fun env S=>match env[i]? with
 |some (Ab d)=>.ok d S
 |_=>.bad
theorem K3:PE X (.Constant (.int i) j pos) (tD X (dC (.int i))):=peW B9 fun σ H Q ⟨P,α,env,S,r,re,af⟩=>xr af r (by simp only[Rep])
theorem FY:PE X (.Constant (.bool i) j pos) (tD X (dC (.bl i))):=peW TK fun σ H Q ⟨P,α,env,S,r,re,af⟩=>xr af r (by simp only[Rep])
theorem KA:PE X (.Constant (.str i) j pos) (tD X (dC (.str i))):=peW BC fun σ H Q ⟨P,α,env,S,r,re,af⟩=>xr af r (by simp only[Rep])
theorem K7:PE X (.Constant .none j pos) (tD X (dC .non)):=peW BA fun σ H Q ⟨P,α,env,S,r,re,af⟩=>xr af r (by simp only[Rep])
set_option tactic.hygienic true in
theorem UU {i:Aj}{σ:_L.St}{H:Hp}(h:tD X (qB i) σ H Q):FF i σ H Q:=by
 obtain⟨P,α,env,S,r,re,af⟩:=h;unfold qB at af
 split at af
 ·rename_i d q
  obtain⟨v,h1,h2⟩:=re.2 i d q;exact⟨v,h1,xr af r h2⟩
 ·exact An af
theorem dv (i:Aj){x:Ar}(hN:X.N[i]? = Ab x:=by rfl)(hv:Vis X.env.scope x:=by first|exact Qu rfl|exact OS (Qu rfl)|exact OS (OS rfl))(hd:(x == ("__debug__" : Ar))=false:=by decide)
  (hcd:(x == ("__classdict__" : Ar))=false:=by decide):PE X (.Name x pos) (tD X (qB i)):=peW (iG hN hv hd hcd) fun σ H Q h=>UU h
theorem dY {x:Ar}{d:D}{v:V}(hg:Gl X x)(hm:X.mg x=Ab u)(r:qJ v u)(q:∀ P α,Rep X.K P α d v)(hd:(x == ("__debug__" : Ar))=false:=by decide):PE X (.Name x pos) (tD X (dC d)):=
 peW (VZ hg hm r hd) fun σ H Q ⟨P,α,env,S,r,re,af⟩=>xr af r (q _ _)
theorem YD {x:Ar}{n:Bz}(hg:Gl X x)(hm:X.mg x=none)(hv:Dd x=Ab (.type n))(hn:x ≠ "__name__":=by decide)(hd:(x == ("__debug__" : Ar))=false:=by decide):PE X (.Name x pos) (tD X (dC (.ty n))):=
 peW (VY (v:=.ty n) hg hm hv rfl hn hd) fun σ H Q ⟨P,α,env,S,r,re,af⟩=>xr af r (by simp only[Rep])
abbrev G2:=D→D→Sto→Res D
def OpD (X:Cx)(f:Ac→Ac→Hs Ac)(g:G2):Prop:=
 ∀ (pins:Aa (Ad × AU)) (σ : _L.St) (H:Hp) (s:Ag) (P:Hp) (α : Aa Ad) (S:Sto) (v u:V) (vv uu:Ac) (a b:D) (Q:VK),Inv X pins σ H s→Rel X.K H P α S→qJ v vv→qJ u uu→Rep X.K P α a v→Rep X.K P α b u→qS X P α (g a b S) Q →
  Ao (As X.prog X.w) X.A (f vv uu) (EP X pins σ Q) X.xe s
theorem OpD.of {f:Ac→Ac→Hs Ac}{r:R2}{g:G2}(h:OpR X f r)(w:∀ H P α S v u a b Q,Rel X.K H P α S→Rep X.K P α a v→Rep X.K P α b u→qS X P α (g a b S) Q→r v u H Q):OpD X f g:=
 fun pins σ H s P α S v u vv uu a b Q I rl r1 r2 p1 p2 af=>h pins s σ H v u vv uu Q I r1 r2 (w H P α S v u a b Q rl p1 p2 af)
def UnD (X:Cx)(f:Ac→Hs Ac)(g:D→Sto→Res D):Prop:=
 ∀ (pins:Aa (Ad × AU)) (σ : _L.St) (H:Hp) (s:Ag) (P:Hp) (α : Aa Ad) (S:Sto) (v:V) (vv:Ac) (a:D) (Q:VK),Inv X pins σ H s→Rel X.K H P α S→qJ v vv→Rep X.K P α a v→qS X P α (g a S) Q →
  Ao (As X.prog X.w) X.A (f vv) (EP X pins σ Q) X.xe s
def IxD (X:Cx)(g:G2):Prop:=
 ∀ (value slice:AF) (pins:Aa (Ad × AU)) (σ : _L.St) (H:Hp) (s:Ag) (P:Hp) (α : Aa Ad) (S:Sto) (v u:V) (vv uu:Ac) (a b:D) (Q:VK),Inv X pins σ H s→Rel X.K H P α S→qJ v vv→qJ u uu→Rep X.K P α a v→Rep X.K P α b u→qS X P α (g a b S) Q →
  subscripted slice false vv uu=operate [vv,uu] (Gh vv uu)→Ao (As X.prog X.w) X.A (IH value slice vv uu) (EP X pins σ Q) X.xe s
def xR (X:Cx)(f:Ac)(g:Aa D→Sto→Res D):Prop:=
 ∀ (pins:Aa (Ad × AU)) (σ : _L.St) (H:Hp) (s:Ag) (P:Hp) (α : Aa Ad) (S:Sto) (vs:Aa V) (us:Aa Ac) (ds:Aa D) (Q:VK),Inv X pins σ H s→Rel X.K H P α S→qK vs us→qD X.K P α ds vs→qS X P α (g ds S) Q →
  Ao (As X.prog X.w) X.A (call f us) (EP X pins σ Q) X.xe s
def d2 (g:G2)(fa fb:DE):DE:=fun env S=>(fa env S).bind fun x S1=>(fb env S1).bind fun y S2=>g x y S2
def d1 (g:D→Sto→Res D)(fa:DE):DE:=fun env S=>(fa env S).bind g
variable {fa fb:DE}
theorem nZ {g:G2}{f:Ac→Ac→Hs Ac}{pins:Aa (Ad × AU)}{s:Ag}{σ:_L.St}{H:Hp}(ho:OpD X f g)(ha:PE X a (tD X fa))(hb:PE X b (tD X fb))(I:Inv X pins σ H s)(h:tD X (d2 g fa fb) σ H Q) :
  Ao (As X.prog X.w) X.A (eval a X.env) (fun v s₁=>Ao (As X.prog X.w) X.A (eval b X.env) (fun u s₂=>Ao (As X.prog X.w) X.A (f v u) (EP X pins σ Q) X.xe s₂) X.xe s₁) X.xe s:=by
 obtain⟨P,α,env,S,r,re,af⟩:=h;refine thn (zQ ha I r re af) fun vv s1 ⟨v,H1,P1,α1,d,S1,G1,af1⟩=>?_;refine thn (zQ hb G1.inv G1.rel G1.env (P:=P1) (α:=α1) (Ok:=OkV X P1 α1 Q) (g:=fun y S2=>g d y S2) ?_) fun uu s2 ⟨u,H2,P2,α2,d',S2,G2,af2⟩=>?_
 ·exact qS.base G1.same G1.pre af1
 ·exact ho pins σ H2 s2 P2 α2 S2 v u vv uu d d' Q G2.inv G2.rel G1.val G2.val (Rep.mono G2.same G2.pre _ _ G1.rep) G2.rep (qS.base G2.same G2.pre af2)
theorem M1 {op:Operator}{g:G2}(ho:OpD X (Ci op) g)(ha:PE X a (tD X fa))(hb:PE X b (tD X fb)):PE X (.BinOp a op b pos) (tD X (d2 g fa fb)):=
 fun pins s σ H Q I h=>wpAny_BinOp (nZ ho ha hb I h)
theorem K1 {op:Pm}{g:G2}(ho:OpD X (Bj op) g)(ha:PE X a (tD X fa))(hb:PE X b (tD X fb))(hm:Ff op b=false:=by first|exact uW _|with_unfolding_all rfl):PE X (.Compare a [op] [b] pos) (tD X (d2 g fa fb)):=
 fun pins s σ H Q I h=>wpAny_Compare1 (nZ ho ha hb I h) hm
theorem M2 {op:UnaryOp}{g:D→Sto→Res D}(ho:UnD X (OK op) g)(ha:PE X a (tD X fa)):PE X (.UnaryOp op a pos) (tD X (d1 g fa)):=by
 intro pins s σ H Q I h;obtain⟨P,α,env,S,r,re,af⟩:=h;exact UnaryOp_ (thn (zQ ha I r re af) fun vv s1 ⟨v,H1,P1,α1,d,S1,G1,af1⟩=>ho pins σ H1 s1 P1 α1 S1 v vv d Q G1.inv G1.rel G1.val G1.rep (qS.base G1.same G1.pre af1))
theorem M0 {g:G2}(ho:IxD X g)(ha:PE X a (tD X fa))(hb:PE X b (tD X fb))(hs:bY b:=by intro _ _;rfl):PE X (.Subscript a b pos) (tD X (d2 g fa fb)):=by
 intro pins s σ H Q I h;obtain⟨P,α,env,S,r,re,af⟩:=h;have IxR':IxR X (fun x y H Q=>∃ P α S a b,Rel X.K H P α S∧Rep X.K P α a x∧Rep X.K P α b y∧qS X P α (g a b S) Q):=fun value slice pins s σ H x y v u Q I rx ry ⟨P,α,S,a,b,r,p1,p2,af⟩ hsl =>
  ho value slice pins σ H s P α S x y v u a b Q I r rx ry p1 p2 af hsl
 refine peW (TL IxR' ha hb hs) (t':=tD X (d2 g fa fb)) (fun σ H Q h=>?_) pins s σ H Q I ⟨P,α,env,S,r,re,af⟩;obtain⟨P,α,env,S,r,re,af⟩:=h;refine⟨P,α,env,S,r,re,?_⟩;unfold d2 at af;cases q:fa env S with
 |bad=>rw[q] at af;exact af
 |ex c x S'=>rw[q] at af;exact af
 |ok d S1 =>
  rw[q] at af;intro v H1 P1 α1 r1 e1 e2 rp;refine⟨P1,α1,env,S1,r1,re.mono e1 e2,?_⟩;have af':qS X P α ((fb env S1).bind fun y S2=>g d y S2) Q:=af;cases q2:fb env S1 with
  |bad=>rw[q2] at af';exact af'
  |ex c x S'=>rw[q2] at af';exact fun u s' z=>af' u s' (z.base e1 e2)
  |ok d' S2 =>
   rw[q2] at af';intro u H2 P2 α2 r2 e3 e4 rp2;exact⟨P2,α2,S2,d,d',r2,Rep.mono e3 e4 _ _ rp,rp2,qS.base (e1.trans e3) (e2.trans e4) af'⟩
def qC:DA:=fun _ S=>.ok [] S
def qA (f:DE)(g:DA):DA:=fun env S=>(f env S).bind fun x S1=>(g env S1).bind fun xs S2=>.ok (x::xs) S2
theorem JV:PA X [] (tDA X qC):=paW B8 fun σ H Q ⟨P,α,env,S,r,re,af⟩=>af [] H P α r (qF.refl _) (A8 _) .nil
theorem YC {es:Aa AF}{g:DA}(ha:PE X e (tD X fa))(hr:PA X es (tDA X g))(hs:A9 (e::es) X.env=(false,eval e X.env)::A9 es X.env:=by rfl):PA X (e::es) (tDA X (qA fa g)):=by
 intro pos pins s σ H Q I h;obtain⟨P,α,env,S,r,re,af⟩:=h;rw[hs];show Ao _ _ (spliced ((false,eval e X.env)::Df pos (A9 es X.env))) _ _ s;refine Gd (thn (zQ ha I r re af) fun u s1 ⟨x,H1,P1,α1,d,S1,G1,af1⟩=>?_);refine thn (wC hr G1.inv G1.rel G1.env (P:=P1) (α:=α1) (Ok:=OkA X P1 α1 Q) (kA.base G1.same G1.pre af1) pos) fun us s2 ⟨xs,H2,P2,α2,ds,S2,I2,rv,r2,re2,rp2,e1,e2,af2⟩=>?_;exact⟨x::xs,H2,I2,.cons G1.val rv,af2 _ _ _ _ r2 e1 e2 (.cons (Rep.mono e1 e2 _ _ G1.rep) rp2)⟩
def lim:Aj:=16777216
theorem zT:lim=sizeLine:=Ct.symm
def qW (f:DA):DE:=fun env S=>(f env S).bind fun xs S1=>if xs.length≤lim then .ok (.tup xs) S1 else .bad
def zZ (f:DA):DE:=fun env S=>(f env S).bind fun xs S1=>if xs.length≤lim then .ok (.lst xs) S1 else .bad
def jC (f:DA):DE:=fun env S=>(f env S).bind fun xs S1=>if xs.length≤lim then .ok (.loc S1.length) (S1++[.lst xs]) else .bad
theorem sZ {K:Ai}{P:Hp}{α:Aa Ad}{a:Ad}{ds:Aa D}(h:SqT K P a vs)(r:qD K P α ds vs):Rep K P α (.tup ds) (.ref a):=by simp only[Rep];exact⟨a,vs,rfl,h,r⟩
theorem fY {K:Ai}{P:Hp}{α:Aa Ad}{a:Ad}{ds:Aa D}(h:SqX K P a vs)(r:qD K P α ds vs):Rep K P α (.lst ds) (.ref a):=by simp only[Rep];exact⟨a,vs,rfl,h,r⟩
theorem jN {H P:Hp}{α:Aa Ad}{ds:Aa D}(r:Rel X.K H P α S)(hp:H p=none)(rp:qD X.K P α ds vs)(af:OkV X P α Q (.tup ds) S):Q (.ref p) (upd H p (.tup vs)):=by
 obtain⟨r1,e1⟩:=r.pure (o:=.tup vs) hp;exact af _ _ _ α r1 e1 (A8 _) (sZ (.of qT) (qD.mono e1 (A8 _) _ _ rp))
theorem wM {H P:Hp}{α:Aa Ad}{ds:Aa D}(r:Rel X.K H P α S)(hp:H p=none)(rp:qD X.K P α ds vs)(af:OkV X P α Q (.lst ds) S):Q (.ref p) (upd H p (.lst vs)):=by
 obtain⟨r1,e1⟩:=r.pure (o:=.lst vs) hp;exact af _ _ _ α r1 e1 (A8 _) (fY (.inl (.inl qT)) (qD.mono e1 (A8 _) _ _ rp))
theorem fU {H P:Hp}{α:Aa Ad}{ds:Aa D}(r:Rel X.K H P α S)(hp:H p=none)(rp:qD X.K P α ds vs)(af:OkV X P α Q (.loc S.length) (S++[.lst ds])):Q (.ref p) (upd H p (.lst vs)):=by
 have hpre:α<+:α++[p]:=CS _ _;have r1:=r.new (o:=.lst vs) (m:=.lst ds) hp ⟨vs,qT,qD.mono (qF.refl _) hpre _ _ rp⟩;refine af _ _ _ _ r1 (qF.refl _) hpre ?_;simp only[Rep];exact⟨p,rfl,by rw[← r.len];simp⟩
theorem fD {f:DA}{σ:_L.St}{H:Hp}{G:Aa D→Sto→Res D}{mk:Aa V→HO}(h:tD X (fun env S=>(f env S).bind fun xs S1=>if xs.length≤lim then G xs S1 else .bad) σ H Q)
  (k:∀ H1 P1 α1 S1 ds vs p,Rel X.K H1 P1 α1 S1→H1 p=none→qD X.K P1 α1 ds vs→qS X P1 α1 (G ds S1) Q→Q (.ref p) (upd H1 p (mk vs))) :
  tDA X f σ H fun vs H1=>vs.length≤sizeLine∧∀ p,H1 p=none→Q (.ref p) (upd H1 p (mk vs)):=by
 obtain⟨P,α,env,S,r,re,af⟩:=h;refine⟨P,α,env,S,r,re,?_⟩;have af':qS X P α ((f env S).bind fun xs S1=>if xs.length≤lim then G xs S1 else .bad) Q:=af
 cases q:f env S with
 |bad=>rw[q] at af';exact af'
 |ex c x S'=>rw[q] at af';exact af'
 |ok ds S1 =>
  rw[q] at af';intro vs H1 P1 α1 r1 e1 e2 rp;have af2:qS X P α (if ds.length≤lim then G ds S1 else .bad) Q:=af'
  by_cases hl:ds.length≤lim
  ·rw[A7 hl] at af2
   exact⟨by rw[← rp.length,← zT];exact hl,fun p hp=>k H1 P1 α1 S1 ds vs p r1 hp rp (qS.base e1 e2 af2)⟩
  ·rw[AD hl] at af2;exact An af2
theorem KB {es:Aa AF}{f:DA} {x1} (h:PA X es (tDA X f)):PE X (.Tuple es x1 pos) (tD X (qW f)):=
 peW (BD h) fun σ H Q q=>fD (G:=fun xs S1=>.ok (.tup xs) S1) (mk:=.tup) q fun H1 P1 α1 S1 ds vs p r hp rp af=>jN r hp rp af
theorem K6 {es:Aa AF}{f:DA}(h:PA X es (tDA X f)):PE X (.List es pos) (tD X (zZ f)):=
 peW (iF h) fun σ H Q q=>fD (G:=fun xs S1=>.ok (.lst xs) S1) (mk:=.lst) q fun H1 P1 α1 S1 ds vs p r hp rp af=>wM r hp rp af
theorem YG {es:Aa AF}{f:DA}(h:PA X es (tDA X f)):PE X (.List es pos) (tD X (jC f)):=
 peW (iF h) fun σ H Q q=>fD (G:=fun xs S1=>.ok (.loc S1.length) (S1++[MO.lst xs])) (mk:=.lst) q fun H1 P1 α1 S1 ds vs p r hp rp af=>fU r hp rp af
end
section
variable {X:Cx}{a b c e:AF}{pos:CA}{fa fb fc:DE}{ta tb:DT}
def vA:D→Sto→Ak Ap
 |.non,_=>Ab false
 |.bl b,_=>Ab b
 |.int i,_=>Ab (i != 0)
 |.str x,_=>if x.length≤lim then Ab ((x.length:Am) != 0) else none
 |.tup xs,_=>Ab (!xs.isEmpty)
 |.lst xs,_=>Ab (!xs.isEmpty)
 |.dct0,_=>Ab false
 |.loc i,S=>match S[i]? with
  |some (.lst xs)=>Ab (!xs.isEmpty)
  |some (.dct kvs)=>Ab (!kvs.isEmpty)
  |_=>none
 |_,_=>none
theorem qD.isEmpty {K:Ai}{P:Hp}{α:Aa Ad}{ds:Aa D}(r:qD K P α ds vs):(!ds.isEmpty)=!vs.isEmpty:=by
 cases ds with
 |nil=>rw[r.nil_inv];rfl
 |cons d ds=>obtain⟨w,ws,rfl,_,_⟩:=r.cons_inv;rfl
theorem x8 {K:Ai}{H P:Hp}(e:qF P H){a:Ad}{xs:Aa V}(h:SqT K P a xs):SqT K H a xs:=wO e h
theorem j1 {H P:Hp}{α:Aa Ad}{v:V}{d:D}{k:Ap}(r:Rel X.K H P α S)(p:Rep X.K P α d v)(h:vA d S=Ab k):rP X.K v H k:=by
 cases d with
 |non=>simp only[Rep] at p;subst p;cases h;rfl
 |bl b=>simp only[Rep] at p;subst p;cases h;rfl
 |int i=>simp only[Rep] at p;subst p;cases h;rfl
 |str x =>
  simp only[Rep] at p;subst p;obtain⟨hl,rfl⟩:=jJ h;exact⟨by rw[← zT];exact hl,rfl⟩
 |tup xs =>
  simp only[Rep] at p;obtain⟨a,vs,rfl,q,t⟩:=p;cases h;exact .inr (.inl ⟨vs,x8 r.sub q,t.isEmpty⟩)
 |lst xs =>
  simp only[Rep] at p;obtain⟨a,vs,rfl,q,t⟩:=p;cases h;exact .inl ⟨vs,(x6 r.sub q).l,t.isEmpty⟩
 |dct0 =>
  simp only[Rep] at p;obtain⟨a,rfl,q⟩:=p;cases h;exact .inr (.inr ⟨[],r.sub _ _ q,rfl⟩)
 |loc i =>
  simp only[Rep] at p;obtain⟨a,rfl,q⟩:=p;have h:(match S[i]? with|some (.lst xs)=>Ab (!xs.isEmpty)|some (.dct kvs)=>Ab (!kvs.isEmpty)|_=>none)=Ab k:=h
  cases hs:S[i]? with
  |none=>rw[hs] at h;exact nn h
  |some m =>
   rw[hs] at h;cases m with
   |lst xs =>
    cases h;obtain⟨vs,z,t⟩:=r.at' i a _ q hs;exact .inl ⟨vs,.of z,t.isEmpty⟩
   |dct kvs =>
    cases h;obtain⟨vs,z,t⟩:=r.at' i a _ q hs;refine .inr (.inr ⟨vs,z,?_⟩);cases t <;> rfl
   |_=>exact nn h
 |ty n=>exact nn h
 |obj a=>exact nn h
 |exn c=>exact nn h
 |fd ks ds=>exact nn h
 |clo a vs ds=>exact nn h
theorem NA {pins:Aa (Ad × AU)}{s:Ag}{σ:_L.St}{H P:Hp}{α:Aa Ad}{v:V}{d:D}{k:Ap}{Q:Ap→Hp→Prop}(I:Inv X pins σ H s)(r:Rel X.K H P α S)(rv:qJ v vv)(p:Rep X.K P α d v)(h:vA d S=Ab k)(q:Q k H) :
  Ao (As X.prog X.w) X.A (truthy vv) (TP X pins σ Q) X.xe s:=bT pins s σ H v vv Q I rv ⟨k,j1 r p h,q⟩
def X7 (o:Ak Ap)(S:Sto):Res Ap:=match o with
 |some b=>.ok b S
 |none=>.bad
def dTr (f:DE):DT:=fun env S=>(f env S).bind fun d S1=>X7 (vA d S1) S1
theorem r0 {o:Ak Ap}{P:Hp}{α:Aa Ad}{Ok:Ap→Sto→Prop}(h:qI X P α (X7 o S) Ok):∃ b,o=Ab b∧Ok b S:=by
 cases o with
 |none=>exact An h
 |some b=>exact⟨b,rfl,h⟩
theorem KY (ha:PE X a (tD X fa))(he:∀ whole,isTrue a X.env whole=(do let v ← whole;Ms a.pos;holding [v] (truthy v)):=by intro _;rfl):PT X a (tDT X (dTr fa)):=by
 intro pins s σ H Q I h;obtain⟨P,α,env,S,r,re,af⟩:=h;refine isTrue_plain (thn (zQ ha I r re af) fun vv s1 ⟨v,H1,P1,α1,d,S1,G1,af1⟩=>?_) (he _);obtain⟨k,e1,q⟩:=r0 af1;exact NA G1.inv G1.rel G1.val G1.rep e1 (q H1 P1 α1 G1.rel G1.same G1.pre)
theorem KU {op:Pm}{g:G2}(ho:OpD X (Bj op) g)(ha:PE X a (tD X fa))(hb:PE X b (tD X fb))(hm:Ff op b=false:=by first|exact uW _|with_unfolding_all rfl):PT X (.Compare a [op] [b] pos) (tDT X (dTr (d2 g fa fb))):=by
 intro pins s σ H Q I h;obtain⟨P,α,env,S,r,re,af⟩:=h;refine wpAny_isTrue_Compare1 ?_ hm;have key:tD X (d2 g fa fb) σ H (fun v H1=>∃ k,rP X.K v H1 k∧Q k H1):=by
  refine⟨P,α,env,S,r,re,?_⟩;have af':qI X P α ((d2 g fa fb env S).bind fun d S1=>X7 (vA d S1) S1) (OkT X P α Q):=af;cases q:d2 g fa fb env S with
  |bad=>rw[q] at af';exact af'
  |ex c x S'=>rw[q] at af';exact af'
  |ok d S1 =>
   rw[q] at af';obtain⟨k,e1,qk⟩:=r0 (X:=X) af';exact fun v H1 P1 α1 r1 e3 e4 rp=>⟨k,j1 r1 rp e1,qk H1 P1 α1 r1 e3 e4⟩
 exact thn (nZ ho ha hb I key) fun v s1 h1=>thn h1 fun u s2 h2=>thn h2 fun x s3 ⟨y,H3,I3,r3,k,tk,qk⟩=>bT pins s3 σ H3 y x Q I3 r3 ⟨k,tk,qk⟩
def kG (g g':G2)(fa fb fc:DE):DE:=fun env S=>(fa env S).bind fun x S1=>(fb env S1).bind fun y S2=>(g x y S2).bind fun z S3 =>
 match vA z S3 with
 |some true=>(fc env S3).bind fun w S4=>g' y w S4
 |some false=>.ok z S3
 |none=>.bad
inductive GotO (X:Cx)(pins:Aa (Ad × AU))(σ : _L.St)(P:Hp)(α : Aa Ad)(w:Ac)(s1:Ag){γ : Type}(k:D→Sto→Res γ)(Ok:γ→Sto→Prop):Prop
 |mk (y:V) (H1 P1:Hp) (α1:Aa Ad) (d:D) (S1:Sto) (I:Inv X pins σ H1 s1) (rv:qJ y w) (r:Rel X.K H1 P1 α1 S1) (rp:Rep X.K P1 α1 d y) (e1:qF P P1) (e2:α<+:α1) (q:qI X P α (k d S1) Ok):GotO X pins σ P α w s1 k Ok
theorem B1 {γ:Type}{f:Ac→Ac→Hs Ac}{g:G2}{k:D→Sto→Res γ}{Ok:γ→Sto→Prop}{pins:Aa (Ad × AU)}{σ:_L.St}{H:Hp}{s:Ag}{P:Hp}{α:Aa Ad}{v u:V}{uu:Ac}{a b:D}(ho:OpD X f g)(I:Inv X pins σ H s)(r:Rel X.K H P α S)
  (rv:qJ v vv) (ru:qJ u uu) (pa:Rep X.K P α a v) (pb:Rep X.K P α b u) (af:qI X P α ((g a b S).bind k) Ok) :
  Ao (As X.prog X.w) X.A (f vv uu) (fun w s1=>GotO X pins σ P α w s1 k Ok) X.xe s:=by
 refine thn (ho pins σ H s P α S v u vv uu a b (fun y H1=>∃ P1 α1 d S1,Rel X.K H1 P1 α1 S1∧Rep X.K P1 α1 d y∧qF P P1∧α<+:α1∧qI X P α (k d S1) Ok) I r rv ru pa pb ?_) fun w s1 ⟨y,H1,I1,r1,P1,α1,d,S1,q1,q2,q3,q4,q5⟩=>⟨y,H1,P1,α1,d,S1,I1,r1,q1,q2,q3,q4,q5⟩;cases q:g a b S with
 |bad=>rw[q] at af;exact af
 |ex c x S'=>rw[q] at af;exact af
 |ok d S' =>
  rw[q] at af;exact fun v H' P' α' r' e1 e2 rp=>⟨P',α',d,S',r',rp,e1,e2,af⟩
theorem qI.base' {β:Type}{P P1:Hp}{α α1:Aa Ad}{r:Res β}{Ok Ok1:β→Sto→Prop}(e:qF P P1)(h:α<+:α1)(ho:∀ d S,Ok d S→Ok1 d S)(k:qI X P α r Ok):qI X P1 α1 r Ok1:=by
 cases r with
 |ok d S=>exact ho d S k
 |ex c x S=>exact fun u s' q=>k u s' (q.base e h)
 |bad=>exact k
theorem Q2 {op op':Pm}{g g':G2}(ho:OpD X (Bj op) g)(ho':OpD X (Bj op') g')(ha:PE X a (tD X fa))(hb:PE X b (tD X fb))(hc:PE X c (tD X fc))
  (hm:lastMarks [op,op'] [b,c]=false:=by with_unfolding_all rfl):PE X (.Compare a [op,op'] [b,c] pos) (tD X (kG g g' fa fb fc)):=by
 intro pins s σ H Q I h;obtain⟨P,α,env,S,r,re,af⟩:=h;refine Compare_chain (thn (zQ ha I r re af) fun vv s1 ⟨v,H1,P1,α1,d,S1,G1,af1⟩=>chain_link (thn (zQ hb G1.inv G1.rel G1.env (qS.base G1.same G1.pre af1)) fun uu s2 ⟨u,H2,P2,α2,d',S2,G2,af2⟩ =>
  thn (B1 ho G2.inv G2.rel G1.val G2.val (Rep.mono G2.same G2.pre _ _ G1.rep) G2.rep (qS.base G2.same G2.pre af2)) fun w s3 ⟨y,H3,P3,α3,z,S3,I3,r3,rl3,rp3,e3,e4,af3⟩=>?_)) hm
 cases ht:vA z S3 with
 |none=>simp only[ht] at af3;exact An af3
 |some k =>
  simp only[ht] at af3;have tv:=j1 rl3 rp3 ht;refine thn (bT pins s3 σ H3 y w (fun k' H'=>k'=k∧H'=H3) I3 r3 ⟨k,tv,rfl,rfl⟩) fun k' s4 ⟨H4,I4,hk,hH⟩=>?_;subst hk;subst hH;cases k' with
  |false=>exact ite_ff ⟨y,H4,I4,r3,af3 y H4 P3 α3 rl3 e3 e4 rp3⟩
  |true =>
   refine ite_tt (chain_last (thn (zQ hc I4 rl3 (G2.env.mono e3 e4) (qS.base e3 e4 af3)) fun ww s5 ⟨w',H5,P5,α5,d5,S5,G5,af5⟩=>?_));exact ho' pins σ H5 s5 P5 α5 S5 u w' uu ww d' d5 Q G5.inv G5.rel G2.val G5.val (Rep.mono (e3.trans G5.same) (e4.trans G5.pre) _ _ G2.rep) G5.rep (qS.base G5.same G5.pre af5)
def wJ (t:DT):DT:=fun env S=>(t env S).bind fun b S1=>.ok (!b) S1
def tW (t u:DT):DT:=fun env S=>(t env S).bind fun b S1=>if b then u env S1 else .ok false S1
def fB (t u:DT):DT:=fun env S=>(t env S).bind fun b S1=>if b then .ok true S1 else u env S1
theorem KW (ha:PT X a (tDT X ta)):PT X (.UnaryOp .Not a pos) (tDT X (wJ ta)):=by
 intro pins s σ H Q I h;obtain⟨P,α,env,S,r,re,af⟩:=h;refine isTrue_not (thn (pX (fun Q' q=>ha pins s σ H Q' I q) r re af) fun b s1 ⟨H1,P1,α1,S1,I1,r1,re1,e1,e2,af1⟩=>⟨H1,I1,af1 H1 P1 α1 r1 e1 e2⟩)
def PWD (X:Cx)(e:AF)(t:DT):Prop:=PW X e (tDT X t)
theorem PWD.pt {t:DT}(h:PWD X e t):PT X e (tDT X t):=h _
theorem YS (ha:PT X a (tDT X ta)):PWD X (.BoolOp .And [a] pos) ta:=U7 ha
theorem G0 (ha:PT X a (tDT X ta)):PWD X (.BoolOp .Or [a] pos) ta:=BL ha
theorem KZ {rest:Aa AF}(ha:PT X a (tDT X ta))(hb:PWD X (.BoolOp .And (b::rest) pos) tb):PWD X (.BoolOp .And (a::b::rest) pos) (tW ta tb):=by
 intro wh pins s σ H Q I h;obtain⟨P,α,env,S,r,re,af⟩:=h;refine isTrue_and (thn (pX (fun Q' q=>ha pins s σ H Q' I q) r re af) fun k s1 ⟨H1,P1,α1,S1,I1,r1,re1,e1,e2,af1⟩=>?_);cases k with
 |true=>exact hb wh pins s1 σ H1 Q I1 ⟨P1,α1,env,S1,r1,re1,uM.base e1 e2 af1⟩
 |false=>exact⟨H1,I1,af1 H1 P1 α1 r1 e1 e2⟩
theorem M8 {rest:Aa AF}(ha:PT X a (tDT X ta))(hb:PWD X (.BoolOp .Or (b::rest) pos) tb):PWD X (.BoolOp .Or (a::b::rest) pos) (fB ta tb):=by
 intro wh pins s σ H Q I h;obtain⟨P,α,env,S,r,re,af⟩:=h;refine isTrue_or (thn (pX (fun Q' q=>ha pins s σ H Q' I q) r re af) fun k s1 ⟨H1,P1,α1,S1,I1,r1,re1,e1,e2,af1⟩=>?_);cases k with
 |true=>exact⟨H1,I1,af1 H1 P1 α1 r1 e1 e2⟩
 |false=>exact hb wh pins s1 σ H1 Q I1 ⟨P1,α1,env,S1,r1,re1,uM.base e1 e2 af1⟩
def jA (f g:DE):DE:=fun env S=>(f env S).bind fun x S1=>match vA x S1 with
 |some true=>g env S1
 |some false=>.ok x S1
 |none=>.bad
def eC (f:DE):DE:=fun env S=>(f env S).bind fun x S1=>match vA x S1 with
 |some b=>.ok (.bl (!b)) S1
 |none=>.bad
theorem K9  (h:PE X a (tD X fa)):PE X (.BoolOp op [a] pos) (tD X fa):=BB h
theorem FH {pins:Aa (Ad × AU)}{s:Ag}{σ:_L.St}{H:Hp}{v:V}{k:Ap}{R:Ap→Ag→Prop}(I:Inv X pins σ H s)(rv:qJ v vv)(t:rP X.K v H k)(h:∀ s',Inv X pins σ H s'→R k s') :
  Ao (As X.prog X.w) X.A (truthy vv) R X.xe s:=thn (bT pins s σ H v vv (fun k' H'=>k'=k∧H'=H) I rv ⟨k,t,rfl,rfl⟩) fun k' s4 ⟨H4,I4,hk,hH⟩=>by subst hk;subst hH;exact h s4 I4
theorem JY {rest:Aa AF}(ha:PE X a (tD X fa))(hb:PE X (.BoolOp .And (b::rest) pos) (tD X fb)):PE X (.BoolOp .And (a::b::rest) pos) (tD X (jA fa fb)):=by
 intro pins s σ H Q I h;obtain⟨P,α,env,S,r,re,af⟩:=h;refine BoolOp_and (thn (zQ ha I r re af) fun vv s1 ⟨v,H1,P1,α1,d,S1,G1,af1⟩=>?_);cases ht:vA d S1 with
 |none=>simp only[ht] at af1;exact An af1
 |some k =>
  simp only[ht] at af1;refine FH G1.inv G1.val (j1 G1.rel G1.rep ht) fun s2 I2=>?_;cases k with
  |true=>exact hb pins s2 σ H1 Q I2 ⟨P1,α1,env,S1,G1.rel,G1.env,qS.base G1.same G1.pre af1⟩
  |false=>exact⟨v,H1,I2,G1.val,af1 v H1 P1 α1 G1.rel G1.same G1.pre G1.rep⟩
theorem K8 (ha:PE X a (tD X fa)):PE X (.UnaryOp .Not a pos) (tD X (eC fa)):=by
 intro pins s σ H Q I h;obtain⟨P,α,env,S,r,re,af⟩:=h;refine UnaryOp_ (thn (zQ ha I r re af) fun vv s1 ⟨v,H1,P1,α1,d,S1,G1,af1⟩=>?_);cases ht:vA d S1 with
 |none=>simp only[ht] at af1;exact An af1
 |some k =>
  simp only[ht] at af1;exact not_of (FH G1.inv G1.val (j1 G1.rel G1.rep ht) fun s2 I2=>⟨.bl (!k),H1,I2,rfl,af1 (.bl (!k)) H1 P1 α1 G1.rel G1.same G1.pre (by simp only[Rep])⟩)
end
@[inline] def Res.toS {β:Type}(env:qE)(r:Res β)(k:β→Sto→Out):Out:=
 match r with
 |.ok d S=>k d S
 |.ex c x S=>.ex c x env S
 |.bad=>.bad
section
variable {X:Cx}{a b c e:AF}{pos:CA}{fa fb fc:DE}{ta tb:DT}{f g:DS}{st:Cm}{rest:Aa Cm}
def zB:DS:=fun env S=>.nx env S
def qM (f g:DS):DS:=fun env S=>match f env S with
 |.nx env1 S1=>g env1 S1
 |o=>o
theorem KN:PSs X [] (tDS X zB):=BJ U5 fun D σ H ⟨P,α,env,S,r,re,af⟩=>af σ H P α r re (qF.refl _) (A8 _)
theorem YO (h1:PS X st (tDS X f))(h2:PSs X rest (tDS X g)):PSs X (st::rest) (tDS X (qM f g)):=BJ (ZW h1 h2) fun D σ H ⟨P,α,env,S,r,re,af⟩=>by
 refine⟨P,α,env,S,r,re,?_⟩;unfold qM at af;cases q:f env S with
 |nx env1 S1 =>
  rw[q] at af;exact fun σ' H' P' α' r' re' e1 e2=>⟨P',α',env1,S1,r',re',qX.base e1 e2 af⟩
 |rt d S1=>rw[q] at af;exact af
 |bk env1 S1=>rw[q] at af;exact af
 |ct env1 S1=>rw[q] at af;exact af
 |ex c x env1 S1=>rw[q] at af;exact af
 |bad=>rw[q] at af;exact af
theorem KO (h1:PS X st (tDS X f)):PSs X [st] (tDS X f):=U6 h1
theorem xF {β:Type}{P:Hp}{α:Aa Ad}{env:qE}{r:Res β}{k:β→Sto→Out}{D:Ends}(h:qX X P α (r.toS env k) D):qI X P α r fun d S=>qX X P α (k d S) D:=by
 cases r with
 |ok d S=>exact h
 |ex c x S=>exact h
 |bad=>exact h
inductive GotS (X:Cx)(pins:Aa (Ad × AU))(σ : _L.St)(env:qE)(P:Hp)(α : Aa Ad)(u:Ac)(s1:Ag)(k:D→Sto→Out)(E:Ends):Prop
 |mk (v:V) (H1 P1:Hp) (α1:Aa Ad) (d:D) (S1:Sto) (G:Got X pins σ env P α u s1 v H1 P1 α1 d S1) (q:qX X P1 α1 (k d S1) E):GotS X pins σ env P α u s1 k E
theorem pW {k:D→Sto→Out}{pins:Aa (Ad × AU)}{s:Ag}{σ:_L.St}{H P:Hp}{α:Aa Ad}{env:qE}{D:Ends}(he:PE X e (tD X fa))(I:Inv X pins σ H s)(r:Rel X.K H P α S)
  (re:qZ X.K P α σ env) (af:qX X P α ((fa env S).toS env k) D) :
  Ao (As X.prog X.w) X.A (eval e X.env) (fun u s1=>GotS X pins σ env P α u s1 k D) X.xe s:=by
 have af1:qI X P α ((fa env S).bind fun d S=>.ok d S) fun d S=>qX X P α (k d S) D:=by
  have:=xF af;cases q:fa env S <;> rw[q] at this <;> exact this
 exact thn (zQ he I r re af1) fun u s1 ⟨v,H1,P1,α1,d,S1,G,q⟩=>⟨v,H1,P1,α1,d,S1,G,qX.base G.same G.pre q⟩
def w6 (f:DE):DS:=fun env S=>(f env S).toS env fun _ S1=>.nx env S1
theorem YQ (he:PE X e (tD X fa))(hs:Gr e none pos.line X.env=pure false:=by rfl):PS X (.Expr e pos) (tDS X (w6 fa)):=by
 intro pins s σ H D I h;obtain⟨P,α,env,S,r,re,af⟩:=h;exact wpAny_Expr_any (thn (pW he I r re af) fun v s1 ⟨x,H1,P1,α1,d,S1,G,q⟩=>⟨σ,H1,G.inv,q σ H1 P1 α1 G.rel G.env (qF.refl _) (A8 _)⟩) I.quiet hs
def z9 (f:DE):DS:=fun env S=>(f env S).toS env fun d S1=>.rt d S1
theorem KQ (he:PE X e (tD X fa)):PS X (.Return (Ab e) pos) (tDS X (z9 fa)):=by
 intro pins s σ H D I h;obtain⟨P,α,env,S,r,re,af⟩:=h;exact wpAny_Return_some (thn (pW he I r re af) fun v s1 ⟨x,H1,P1,α1,d,S1,G,q⟩=>⟨x,σ,H1,G.inv,G.val,q x H1 P1 α1 G.rel (qF.refl _) (A8 _) G.rep⟩)
def sIf (t:DT)(f g:DS):DS:=fun env S=>(t env S).toS env fun b S1=>if b then f env S1 else g env S1
theorem M6 {as bs:Aa Cm}(hc:PT X c (tDT X ta))(ha:PSs X as (tDS X f))(hb:PSs X bs (tDS X g)):PS X (.If c as bs pos) (tDS X (sIf ta f g)):=by
 intro pins s σ H D I h;obtain⟨P,α,env,S,r,re,af⟩:=h;have af1:qI X P α ((ta env S).bind fun d S=>.ok d S) fun b S=>qX X P α (if b then f env S else g env S) D:=by
  have:=xF af;cases q:ta env S <;> rw[q] at this <;> exact this
 refine wpAny_If (thn (pX (fun Q' q=>hc pins s σ H Q' I q) r re af1) fun k s1 ⟨H1,P1,α1,S1,I1,r1,re1,e1,e2,af2⟩=>?_);cases k with
 |true=>exact ha pins s1 σ H1 D I1 ⟨P1,α1,env,S1,r1,re1,qX.base e1 e2 af2⟩
 |false=>exact hb pins s1 σ H1 D I1 ⟨P1,α1,env,S1,r1,re1,qX.base e1 e2 af2⟩
abbrev DG:=D→qE→Sto→Res qE
abbrev DGs:=Aa D→qE→Sto→Res qE
def OkE (X:Cx)(P:Hp)(α : Aa Ad)(Q:_L.St→Hp→Prop)(env':qE)(S':Sto):Prop:=∀ σ' H' P' α',Rel X.K H' P' α' S'→qZ X.K P' α' σ' env'→qF P P'→α<+:α'→Q σ' H'
def tDG (X:Cx)(g:DG):TG:=fun v σ H Q=>∃ P α env S d,Rel X.K H P α S∧qZ X.K P α σ env∧Rep X.K P α d v∧qI X P α (g d env S) (OkE X P α Q)
def m8 (X:Cx)(g:DGs):TGs:=fun vs σ H Q=>∃ P α env S ds,Rel X.K H P α S∧qZ X.K P α σ env∧qD X.K P α ds vs∧qI X P α (g ds env S) (OkE X P α Q)
theorem qZ.set {K:Ai}{P:Hp}{α:Aa Ad}{σ:_L.St}{env:qE}{d:D}{v:V}(re:qZ K P α σ env)(i:Aj)(rp:Rep K P α d v):qZ K P α (σ.set i (Ab v)) (env.set i (Ab d)):=by
 refine⟨by simp[re.1],fun j d' e=>?_⟩
 by_cases hj:i=j
 ·subst hj
  by_cases hi:i<env.length
  ·rw[Ca hi] at e
   cases e;exact⟨v,by rw[Ca (by rw[← re.1];exact hi)],rp⟩
  ·rw[Hk (by simp;omega)] at e;cases e
 ·rw[Bw hj] at e ⊢
  exact re.2 j d' e
def gNm (i:Aj):DG:=fun d env S=>.ok (env.set i (Ab d)) S
theorem YJ {i:Aj}{x:Ar}(hN:X.N.Nodup)(hi:X.N[i]? = Ab x:=by rfl)(hx:Loc X.env.scope x:=by first|exact Qu rfl|exact OS rfl)(hf:X.fn x=true∨X.env.scope.names.lookup x=Ab .local:=by first|exact .inl rfl|exact .inr rfl|assumption):PG X (.Name x pos) (tDG X (gNm i)):=by
 intro pins s σ H v u Q I rv h;obtain⟨P,α,env,S,d,r,re,rp,af⟩:=h;exact U1 hN hi hx hf pins s σ H v u Q I rv (af _ H P α r (re.set i rp) (qF.refl _) (A8 _))
def vD:DGs:=fun ds env S=>match ds with
 |[]=>.ok env S
 |_=>.bad
def zK (g:DG)(gs:DGs):DGs:=fun ds env S=>match ds with
 |d::r=>(g d env S).bind fun env1 S1=>gs r env1 S1
 |[]=>.bad
theorem YL:PGs X [] (m8 X vD):=by
 intro pins s σ H vs us Q I rv h;obtain⟨P,α,env,S,ds,r,re,rp,af⟩:=h;cases ds with
 |nil=>exact U2 pins s σ H vs us Q I rv ⟨rp.nil_inv,af σ H P α r re (qF.refl _) (A8 _)⟩
 |cons d ds=>exact An af
theorem Q5 {es:Aa AF}{g:DG}{gs:DGs}(h1:PG X e (tDG X g))(h2:PGs X es (m8 X gs))(hs:(Cs (e::es) X.env).map (·.2)=assign e X.env::(Cs es X.env).map (·.2):=by rfl):PGs X (e::es) (m8 X (zK g gs)):=by
 intro pins s σ H vs us Q I rv h;obtain⟨P,α,env,S,ds,r,re,rp,af⟩:=h;cases ds with
 |nil=>exact An af
 |cons d ds =>
  obtain⟨w,ws,rfl,p1,p2⟩:=rp.cons_inv;refine ZT h1 h2 hs pins s σ H _ us Q I rv ⟨w,ws,rfl,P,α,env,S,d,r,re,p1,?_⟩;have af':qI X P α ((g d env S).bind fun env1 S1=>gs ds env1 S1) (OkE X P α Q):=af;cases q:g d env S with
  |bad=>rw[q] at af';exact af'
  |ex c x S'=>rw[q] at af';exact af'
  |ok env1 S1 =>
   rw[q] at af';intro σ' H' P' α' r' re' e1 e2;refine⟨P',α',env1,S1,ds,r',re',qD.mono e1 e2 _ _ p2,qI.base' e1 e2 (fun env' S' ok σ2 H2 P2 α2 r2 re2 e3 e4=>ok σ2 H2 P2 α2 r2 re2 (e1.trans e3) (e2.trans e4)) af'⟩
def gTp (n:Aj)(gs:DGs):DG:=fun d env S=>match d with
 |.tup xs=>if xs.length=n then gs xs env S else .bad
 |_=>.bad
set_option tactic.hygienic true in
theorem KE {es:Aa AF}{k:Aj}{gs:DGs}{n:Aj}(hc:X.calm=true)(h:PGs X es (m8 X gs))(hn:(Cs es X.env).length=n:=by rfl)(hst:(Cs es X.env).findIdx? (·.1)=none:=by rfl):PG X (.Tuple es k pos) (tDG X (gTp n gs)):=by
 intro pins s σ H v u Q I rv hw;obtain⟨P,α,env,S,d,r,re,rp,af⟩:=hw;cases d with
 |tup xs =>
  simp only[Rep] at rp;obtain⟨a,vs,rfl,q,t⟩:=rp;simp only[gTp] at af
  split at af
  ·rename_i hl
   exact BE hc h hn hst pins s σ H _ u Q I rv ⟨a,vs,rfl,x8 r.sub q,by rw[← t.length];exact hl,P,α,env,S,xs,r,re,t,af⟩
  ·exact An af
 |_=>exact An af
abbrev G3:=D→D→D→Sto→Res IE
def OkU (X:Cx)(P:Hp)(α : Aa Ad)(Q:Hp→Prop)(_:IE)(S':Sto):Prop:=∀ H' P' α',Rel X.K H' P' α' S'→qF P P'→α<+:α'→Q H'
def nH (X:Cx)(g:G3):JF:=fun o i v H Q=>∃ P α S a b d,Rel X.K H P α S∧Rep X.K P α a o∧Rep X.K P α b i∧Rep X.K P α d v∧qI X P α (g a b d S) (OkU X P α Q)
def gSb (fo fi:DE)(g:G3):DG:=fun d env S=>(fo env S).bind fun o S1=>(fi env S1).bind fun i S2=>(g o i d S2).bind fun _ S3=>.ok env S3
theorem KD {o i:AF}{fo fi:DE}{g:G3}(ho:PE X o (tD X fo))(hi:PE X i (tD X fi))(hs:nM X (nH X g))
  (ha:∀ v,assign (.Subscript o i pos) X.env v=(do
   let ov ← holding [v] (eval o X.env)
   let iv ← holding [v,ov] (eval i X.env)
   Ms pos
   holding [v,ov,iv] (Ra ov iv v)
   release [v,ov,iv] []):=by intro _;rfl):PG X (.Subscript o i pos) (tDG X (gSb fo fi g)):=by
 intro pins s σ H v u Q I rv h;obtain⟨P,α,env,S,d,r,re,rp,af⟩:=h;rw[ha];refine Af (Bc (thn (zQ ho I r re af) fun ov s1 ⟨x,H1,P1,α1,d1,S1,G1,af1⟩=>?_));refine Af (Bc (thn (zQ hi G1.inv G1.rel G1.env (P:=P1) (α:=α1) (Ok:=OkE X P1 α1 Q) (qI.base' G1.same G1.pre (fun env' S' ok σ2 H2 P2 α2 r2 re2 e3 e4=>ok σ2 H2 P2 α2 r2 re2 (G1.same.trans e3) (G1.pre.trans e4)) af1)) fun iv s2 ⟨y,H2,P2,α2,d2,S2,G2,af2⟩=>?_));refine Af (Hf (Af (Bc (thn (hs pins s2 σ H2 x y v ov iv u (fun H3=>Q σ H3) G2.inv G1.val G2.val rv ⟨P2,α2,S2,d1,d2,d,G2.rel,Rep.mono G2.same G2.pre _ _ G1.rep,G2.rep,Rep.mono (G1.same.trans G2.same) (G1.pre.trans G2.pre) _ _ rp,?_⟩) fun _ s3 ⟨H3,I3,q3⟩=>?_))))
 ·cases q:g d1 d2 d S2 with
  |bad=>rw[q] at af2;exact af2
  |ex c x S'=>rw[q] at af2;exact fun u s' z=>af2 u s' (z.base G2.same G2.pre)
  |ok w S3 =>
   rw[q] at af2;exact fun H' P' α' r' e1 e2=>af2 σ H' P' α' r' (G2.env.mono e1 e2) (G2.same.trans e1) (G2.pre.trans e2)
 ·exact wpAny_release ⟨σ,H3,I3,q3⟩
def qU (f:DE)(g:DG):DS:=fun env S=>(f env S).toS env fun d S1=>(g d env S1).toS env fun env' S2=>.nx env' S2
theorem cI {g:DG}{d:D}{env:qE}{P:Hp}{α:Aa Ad}{D':Ends}(h:qX X P α ((g d env S).toS env fun env' S2=>.nx env' S2) D'):qI X P α (g d env S) (OkE X P α D'.nx):=by
 cases q:g d env S with
 |bad=>rw[q] at h;exact h
 |ex c x S'=>rw[q] at h;exact h
 |ok env1 S1=>rw[q] at h;exact h
theorem KL {tg:AF}{g:DG}(he:PE X e (tD X fa))(hg:PG X tg (tDG X g))(hs:Fe [tg] e pos.line X.env=pure false:=by rfl)(hw:Fd [tg] e X.env=pure none:=by rfl)
  (h1:(Cs [tg] X.env).map (·.2)=[assign tg X.env]:=by rfl):PS X (.Assign [tg] e pos) (tDS X (qU fa g)):=by
 intro pins s σ H D I h;obtain⟨P,α,env,S,r,re,af⟩:=h;refine wpAny_Assign_stores (thn (pW he I r re af) fun v s1 ⟨x,H1,P1,α1,d,S1,G,q⟩=>?_) hs hw;rw[h1];exact thn (hg pins s1 σ H1 x v _ G.inv G.val ⟨P1,α1,env,S1,d,G.rel,G.env,G.rep,cI q⟩) fun _ s2 q=>q
theorem KR {i:Aj}{x:Ar}{pos':CA}(hN:X.N.Nodup)(he:PE X e (tD X fa))(hi:X.N[i]? = Ab x:=by rfl)(hx:Loc X.env.scope x:=by first|exact Qu rfl|exact OS rfl)(hs:Gr e (Ab (.Name x pos')) pos.line X.env=pure false:=by rfl)
  (hf:X.fn x=true∨X.env.scope.names.lookup x=Ab .local:=by first|exact .inl rfl|exact .inr rfl|assumption):PS X (.Assign [.Name x pos'] e pos) (tDS X (qU fa (gNm i))):=by
 intro pins s σ H D I h;obtain⟨P,α,env,S,r,re,af⟩:=h;refine wpAny_Assign_Name (thn (pW he I r re af) fun v s1 ⟨y,H1,P1,α1,d,S1,G,q⟩=>?_) hs;exact u0 G.inv hN hi hx G.val (fun s2 I2=>⟨_,H1,I2,q _ H1 P1 α1 G.rel (G.env.set i G.rep) (qF.refl _) (A8 _)⟩) hf
def iE (i j:Aj)(env:qE)(S1:Sto):Aa D→Out
 |[x,y]=>.nx ((env.set i (Ab x)).set j (Ab y)) S1
 |_=>.bad
def v9 (i j:Aj)(f:DA):DS:=fun env S=>(f env S).toS env fun ds S1=>iE i j env S1 ds
theorem KP {i j:Aj}{x y:Ar}{f:DA}{px py pt:CA} {kt k2 pt2} (hc:X.calm=true) (hN:X.N.Nodup) (ha:PA X [a,b] (tDA X f)) (hi:X.N[i]? = Ab x:=by rfl) (hj:X.N[j]? = Ab y:=by rfl) (hij:i≠j:=by decide)
  (hx:X.env.scope.names.lookup x=Ab .local:=by rfl) (hy:X.env.scope.names.lookup y=Ab .local:=by rfl)
  (hw:Fd [.Tuple [.Name x px,.Name y py] kt pt] (.Tuple [a,b] k2 pt2) X.env=pure (Ab [x,y]):=by rfl)
  (hs:Fe [.Tuple [.Name x px,.Name y py] kt pt] (.Tuple [a,b] k2 pt2) pos.line X.env=pure false:=by rfl) :
  PS X (.Assign [.Tuple [.Name x px,.Name y py] kt pt] (.Tuple [a,b] k2 pt2) pos) (tDS X (v9 i j f)):=psW (BI hc hN hi hj hij hx hy ha hw hs) fun D σ H ⟨P,α,env,S,r,re,af⟩=>by
 refine⟨P,α,env,S,r,re,?_⟩;have af1:=xF af;cases q:f env S with
 |bad=>rw[q] at af1;exact af1
 |ex c x S'=>rw[q] at af1;exact af1
 |ok ds S1 =>
  rw[q] at af1;intro vs H' P' α' r' e1 e2 rp;have af2:qX X P α (iE i j env S1 ds) D:=af1;cases ds with
  |nil=>exact An af2
  |cons d ds=>cases ds with
   |nil=>exact An af2
   |cons d' ds=>cases ds with
    |cons _ _=>exact An af2
    |nil =>
     obtain⟨w,ws,rfl,p1,t⟩:=rp.cons_inv;obtain⟨w',ws',rfl,p2,t⟩:=t.cons_inv;rw[t.nil_inv];exact⟨w,w',rfl,af2 _ _ P' α' r' (((re.mono e1 e2).set i p1).set j p2) e1 e2⟩
end
structure ItD (K:Ai)(J:It)(P:Hp)(α : Aa Ad)(ds:Aa D):Prop where
 go:∀ i H P1 α1 S,i<ds.length→Rel K H P1 α1 S→qF P P1→α<+:α1→J.go i H
 yld:∀ i H x H' P1 α1 S,i<ds.length→Rel K H P1 α1 S→qF P P1→α<+:α1→J.yld i H x H'→∃ P2 d,ds[i]? = Ab d∧Rel K H' P2 α1 S∧qF P1 P2∧Rep K P2 α1 d x
 stop:∀ i H P1 α1 S,ds.length≤i→Rel K H P1 α1 S→qF P P1→α<+:α1→J.stop i H
abbrev DI:=qE→Sto→Res (Aa D)
def OkI (X:Cx)(P:Hp)(α : Aa Ad)(R:It→Hp→Prop)(ds:Aa D)(S':Sto):Prop:=∀ J H' P' α',Rel X.K H' P' α' S'→qF P P'→α<+:α'→ItD X.K J P' α' ds→R J H'
inductive tDI (X:Cx)(f:DI)(σ : _L.St)(H:Hp)(R:It→Hp→Prop):Prop
 |mk (P:Hp) (α : Aa Ad) (env:qE) (S:Sto) (r:Rel X.K H P α S) (re:qZ X.K P α σ env) (af:qI X P α (f env S) (OkI X P α R)):tDI X f σ H R
def v8 {β:Type}(o:Ak β)(S:Sto):Res β:=match o with
 |some b=>.ok b S
 |none=>.bad
theorem vI {X:Cx}{β:Type}{o:Ak β}{P:Hp}{α:Aa Ad}{Ok:β→Sto→Prop}(h:qI X P α (v8 o S) Ok):∃ b,o=Ab b∧Ok b S:=by
 cases o with
 |none=>exact An h
 |some b=>exact⟨b,rfl,h⟩
theorem wF {X:Cx}{β:Type}{c:Prop}[Go c]{r:Res β}{P:Hp}{α : Aa Ad}{Ok:β→Sto→Prop}(h:qI X P α (if c then r else .bad) Ok):c∧qI X P α r Ok:=by
 by_cases z:c
 ·rw[A7 z] at h;exact⟨z,h⟩
 ·rw[AD z] at h;exact An h
theorem iD {X:Cx}{β:Type}{ds:Aa D}{g:D→Res β}{P:Hp}{α:Aa Ad}{Ok:β→Sto→Prop}(h:qI X P α (match ds with|[d]=>g d|_=>.bad) Ok):∃ d,ds=[d]∧qI X P α (g d) Ok:=by
 cases ds with
 |nil=>exact An h
 |cons d ds =>
  cases ds with
  |nil=>exact⟨d,rfl,h⟩
  |cons _ _=>exact An h
theorem fT {β:Type}{i:Aj}{f:Aa D→Ak β}{g:Aa (Key × D)→Ak β}{b:β}(h:(match S[i]? with|some (.lst xs)=>f xs|some (.dct kvs)=>g kvs|_=>none)=Ab b):(∃ xs,S[i]? = Ab (.lst xs)∧f xs=Ab b)∨∃ kvs,S[i]? = Ab (.dct kvs)∧g kvs=Ab b:=by
 cases e:S[i]? with
 |none=>rw[e] at h;exact nn h
 |some m =>
  rw[e] at h;cases m with
  |lst xs=>exact .inl ⟨xs,rfl,h⟩
  |dct kvs=>exact .inr ⟨kvs,rfl,h⟩
  |_=>exact nn h
theorem GZ {β:Type}{i:Aj}{f:Aa D→Ak β}{b:β}(h:(match S[i]? with|some (.lst xs)=>f xs|_=>none)=Ab b):∃ xs,S[i]? = Ab (.lst xs)∧f xs=Ab b:=by
 cases e:S[i]? with
 |none=>rw[e] at h;exact nn h
 |some m =>
  rw[e] at h;cases m with
  |lst xs=>exact⟨xs,rfl,h⟩
  |_=>exact nn h
inductive ItV (d:D)(xs:Aa D):Prop
 |tup (e:d=.tup xs)
 |lst (e:d=.lst xs)
def gK {β:Type}(S:Sto)(n:Aj)(f:Aa D→Res β) : Res β:=match S[n]? with
 |some (.lst xs)=>f xs
 |_=>.bad
theorem vU {X:Cx}{β:Type}{n:Aj}{f:Aa D→Res β}{P:Hp}{α:Aa Ad}{Ok:β→Sto→Prop}(h:qI X P α (gK S n f) Ok):∃ xs,S[n]? = Ab (.lst xs)∧qI X P α (f xs) Ok:=by
 unfold gK at h;cases e:S[n]? with
 |none=>rw[e] at h;exact An h
 |some m =>
  rw[e] at h;cases m with
  |lst xs=>exact⟨xs,rfl,h⟩
  |_=>exact An h
def xA:D→Ak (Aa D)
 |.tup xs=>Ab xs
 |.lst xs=>Ab xs
 |_=>none
theorem itV {d:D}{xs:Aa D}(h:xA d=Ab xs):ItV d xs:=by
 cases d with
 |tup ys=>exact .tup (congrArg D.tup (AW h))
 |lst ys=>exact .lst (congrArg D.lst (AW h))
 |_=>exact nn h
def yW (f:DE):DI:=fun env S=>(f env S).bind fun d S1=>v8 (xA d) S1
section
variable {X:Cx}{K:Ai}{tg e:AF}{fa:DE}{pos:CA}
theorem QU {P:Hp}{α:Aa Ad}{a:Ad}{ds:Aa D}(q:SqL K P a vs)(t:qD K P α ds vs):ItD K (Itl K a) P α ds where
 go:=fun i H P1 α1 S hi r e _=>⟨vs,vs[i]'(by rw[← t.length];exact hi),(e.trans r.sub).seq q,by simp⟩
 yld:=fun i H x H' P1 α1 S hi r e e2 y=>by
  obtain⟨rfl,y⟩:=y;have hx:=y vs ((e.trans r.sub).seq q);obtain⟨v,h1,h2⟩:=t.get (Aq hi);rw[hx] at h1;cases h1;exact⟨P1,_,Aq hi,r,qF.refl _,Rep.mono e e2 _ _ h2⟩
 stop:=fun i H P1 α1 S hi r e _=>⟨vs,(e.trans r.sub).seq q,by rw[← t.length];exact hi⟩
theorem V7 {P:Hp}{α:Aa Ad}{a:Ad}{ds:Aa D}(q:SqT K P a vs)(t:qD K P α ds vs):ItD K (Itt K a) P α ds where
 go:=fun i H P1 α1 S hi r e _=>⟨vs,vs[i]'(by rw[← t.length];exact hi),wO (e.trans r.sub) q,by simp⟩
 yld:=fun i H x H' P1 α1 S hi r e e2 y=>by
  obtain⟨rfl,y⟩:=y;have hx:=y vs (wO (e.trans r.sub) q);obtain⟨v,h1,h2⟩:=t.get (Aq hi);rw[hx] at h1;cases h1;exact⟨P1,_,Aq hi,r,qF.refl _,Rep.mono e e2 _ _ h2⟩
 stop:=fun i H P1 α1 S hi r e _=>⟨vs,wO (e.trans r.sub) q,by rw[← t.length];exact hi⟩
theorem lG {pins:Aa (Ad × AU)}{σ:_L.St}{H P:Hp}{α:Aa Ad}{s:Ag}{v:V}{d:D}{ds:Aa D}(I:Inv X pins σ H s)(r:Rel X.K H P α S)(rv:qJ v vv)(rp:Rep X.K P α d v)(hd:xA d=Ab ds)
  (q:OkI X P α R ds S):Ao (As X.prog X.w) X.A (Ip vv) (PIE X pins σ tg R) X.xe s:=by
 cases d with
 |tup xs =>
  cases hd;simp only[Rep] at rp;obtain⟨a,vs,rfl,sq,t⟩:=rp;cases rv;obtain⟨its,rv,p,hz⟩:=I.tuple (x8 r.sub sq);refine En (show s.heap.IsTuple a its.toArray from p) ?_
  refine⟨s.heap.objs.size,[s.heap.objs.size],_,_,H,rfl,I.kept (t':=s.toks) fun b o e=>Ah _ e,cB a _,⟨_,Az _ rfl,rfl,rfl⟩,fun b hb=>?_,q _ _ P α r (qF.refl _) (A8 _) (V7 sq t)⟩;have e:b=s.heap.objs.size:=by simpa using hb
  subst e;exact I.fpOk (A2 _) (I.hok.fresh (A2 _))
 |lst xs =>
  cases hd;simp only[Rep] at rp;obtain⟨a,vs,rfl,sq,t⟩:=rp;cases rv;obtain⟨its,rv,p,hz⟩:=I.list ((x6 r.sub sq).l);refine Dm p.isList ?_;refine⟨s.heap.objs.size,[s.heap.objs.size],_,_,H,rfl,I.kept (t':=s.toks) fun b o e=>Ah _ e,tO a _,⟨_,Az _ rfl,rfl,rfl⟩,fun b hb=>?_,q _ _ P α r (qF.refl _) (A8 _) (QU sq.l t)⟩;have e:b=s.heap.objs.size:=by simpa using hb
  subst e;exact I.fpOk (A2 _) (I.hok.fresh (A2 _))
 |_=>cases hd
theorem OkI.base {P P1:Hp}{α α1:Aa Ad}{ds:Aa D}(e:qF P P1)(h:α<+:α1)(k:OkI X P α R ds S):OkI X P1 α1 R ds S:=fun J H' P' α' r q1 q2 q3=>k J H' P' α' r (e.trans q1) (h.trans q2) q3
theorem KG (ha:PE X e (tD X fa)):PI X tg e (tDI X (yW fa)):=by
 intro pins s σ H R I h;obtain⟨P,α,env,S,r,re,af⟩:=h;refine thn (zQ ha I r re af) fun vv s1 ⟨v,H1,P1,α1,d,S1,G1,af1⟩=>?_;obtain⟨ds,e1,q⟩:=vI af1;exact lG G1.inv G1.rel G1.val G1.rep e1 (q.base G1.same G1.pre)
def xV (lo:Am)(n:Aj):Aa D:=(AR n).map fun (i:Aj)=>D.int (lo+(i:Am))
theorem jO (lo:Am)(n:Aj):(xV lo n).length=n:=by simp[xV]
theorem mU {P:Hp}{α:Aa Ad}{lo:Am}{n:Aj}:ItD K (Itr lo n) P α (xV lo n) where
 go:=fun i H P1 α1 S hi r e _=>by rw[jO] at hi;exact hi
 yld:=fun i H x H' P1 α1 S hi r e e2 y=>by
  obtain⟨rfl,rfl⟩:=y;rw[jO] at hi;exact⟨P1,.int (lo+i),by simp[xV,hi],r,qF.refl _,by simp only[Rep]⟩
 stop:=fun i H P1 α1 S hi r e _=>by rw[jO] at hi;exact hi
def kX (ds:Aa D):Ak (Aa D):=match ds with
 |[.int j]=>if -(2 ^ 62)≤j∧j<2 ^ 62 then Ab (xV 0 j.toNat) else none
 |[.int i,.int j]=>if -(2 ^ 62)≤i∧i<2 ^ 62 ∧ -(2 ^ 62)≤j∧j<2 ^ 62 then Ab (xV i (j-i).toNat) else none
 |_=>none
def y7 (f:DA):DI:=fun env S=>(f env S).bind fun ds S1=>v8 (kX ds) S1
def asI:D→Ak Am
 |.int i=>Ab i
 |_=>none
theorem gX {d:D}{i:Am}(h:asI d=Ab i):d=.int i:=by
 cases d with
 |int k=>exact congrArg D.int (AW h)
 |_=>exact nn h
inductive RngV:Aa D→Aa D→Prop
 |one (j:Am) (h : -(2 ^ 62)≤j∧j<2 ^ 62):RngV [.int j] (xV 0 j.toNat)
 |two (i j:Am) (h : -(2 ^ 62)≤i∧i<2 ^ 62 ∧ -(2 ^ 62)≤j∧j<2 ^ 62):RngV [.int i,.int j] (xV i (j-i).toNat)
theorem TX (d:D):kX [d]=(asI d).bind fun j=>if -(2 ^ 62)≤j∧j<2 ^ 62 then Ab (xV 0 j.toNat) else none:=by cases d <;> rfl
theorem TY (d d':D):kX [d,d']=(asI d).bind fun i=>(asI d').bind fun j=>if -(2 ^ 62)≤i∧i<2 ^ 62 ∧ -(2 ^ 62)≤j∧j<2 ^ 62 then Ab (xV i (j-i).toNat) else none:=by
 cases d with
 |int i=>cases d' <;> rfl
 |_=>rfl
theorem UJ {ds its:Aa D}(h:kX ds=Ab its):RngV ds its:=by
 cases ds with
 |nil=>exact nn h
 |cons d ds =>
  cases ds with
  |nil =>
   obtain⟨j,e,h⟩:=Cf.mp ((TX d).symm.trans h);obtain⟨c,rfl⟩:=jJ h;rw[gX e];exact .one j c
  |cons d' ds =>
   cases ds with
   |nil =>
    obtain⟨i,e,h⟩:=Cf.mp ((TY d d').symm.trans h);obtain⟨j,e',h⟩:=Cf.mp h;obtain⟨c,rfl⟩:=jJ h;rw[gX e,gX e'];exact .two i j c
   |cons _ _ =>
    have h0:∀ d'' t,kX (d::d'::d''::t)=none:=fun d'' t=>by cases d <;> first|rfl|(cases d' <;> rfl)
    exact nn ((h0 _ _).symm.trans h)
theorem fZ {P:Hp}{α:Aa Ad}{i:Am}{ds:Aa D}(r:qD K P α (.int i::ds) vs):∃ ws,vs=.int i::ws∧qD K P α ds ws:=by
 obtain⟨w,ws,rfl,p,t⟩:=r.cons_inv;exact⟨ws,congrArg (· :: ws) (by simpa only [Rep] using p),t⟩
theorem PI.weak {iter:AF}{t t':TI}(h:PI X tg iter t)(w:∀ σ H R,t' σ H R→t σ H R):PI X tg iter t':=fun pins s σ H R I q=>h pins s σ H R I (w σ H R q)
end
section
variable {X:Cx}{tg a b:AF}{f:DA}{p pos:CA}
theorem Q6 {e:AF}{es:Aa AF}(hg:Gl X "range")(hm:X.mg "range" = none)(ha:PA X (e::es) (tDA X f))(hs:A9 (e::es) X.env=(false,eval e X.env)::A9 es X.env:=by rfl)(hpl:(Df pos (A9 es X.env)).any (·.1)=false:=by rfl) :
  PI X tg (.Call (.Name "range" p) (e::es) [] pos) (tDI X (y7 f)):=by
 intro pins s σ H R I h;obtain⟨P,α,env,S,r,re,af⟩:=h;refine Call_ (vR I hg hm boot_range (Ej (thn (wC ha I r re af pos) fun us s1 ⟨vs,H1,P1,α1,ds,S1,I1,rv,r1,re1,rp,e1,e2,af1⟩=>?_) hs hpl));obtain⟨its,hi,q⟩:=vI af1;cases UJ hi with
 |one j c =>
  obtain⟨ws,rfl,t1⟩:=fZ rp;cases t1.nil_inv;obtain⟨u,rfl,t,rfl⟩:=jR rv;refine call_range_1 (lV I1 om om c.1 c.2 ?_);have z:=q (Itr 0 j.toNat) H1 P1 α1 r1 e1 e2 mU;rw[NE];exact z
 |two i j c =>
  obtain⟨ws,rfl,t1⟩:=fZ rp;obtain⟨ws2,rfl,t2⟩:=fZ t1;cases t2.nil_inv;obtain⟨u,u',rfl,⟨t,rfl⟩,t',rfl⟩:=nJ rv;exact call_range_2 (lV I1 c.1 c.2.1 c.2.2.1 c.2.2.2 (q (Itr i (j-i).toNat) H1 P1 α1 r1 e1 e2 mU))
def uD (g:DG)(f:DS):Aa D→qE→Sto→Out
 |[],env,S=>.nx env S
 |d::ds,env,S=>(g d env S).toS env fun env1 S1=>match f env1 S1 with
  |.nx env2 S2=>uD g f ds env2 S2
  |.ct env2 S2=>uD g f ds env2 S2
  |.bk env2 S2=>.nx env2 S2
  |o=>o
def vW (fi:DI)(g:DG)(f:DS):DS:=fun env S=>(fi env S).toS env fun ds S1=>uD g f ds env S1
inductive LoopW (X:Cx)(P1:Hp)(α1:Aa Ad)(g:DG)(f:DS)(ds:Aa D)(D:Ends)(i m:Aj)(σ : _L.St)(H:Hp):Prop
 |mk (hi:i≤ds.length) (hm:m=ds.length-i) (P2:Hp) (α2:Aa Ad) (env2:qE) (S2:Sto) (r:Rel X.K H P2 α2 S2) (re:qZ X.K P2 α2 σ env2) (e1:qF P1 P2) (e2:α1<+:α2) (af:qX X P2 α2 (uD g f (ds.drop i) env2 S2) D):LoopW X P1 α1 g f ds D i m σ H
theorem KM {iter:AF}{fi:DI}{g:DG}{f:DS}(hp:Hz (As X.prog X.w) X.A X.env X.xe)(hc:X.calm=true)(hi:PI X tg iter (tDI X fi))(hg:PG X tg (tDG X g))(hb:PSs X body (tDS X f))
  (hs:∀ x,CL iter X.env x=pure x:=by intro _;rfl):PS X (.For tg iter body [] pos) (tDS X (vW fi g f)):=psW (BH hp hc hi hg hb hs) fun D σ H ⟨P,α,env,S,r,re,af⟩=>by
 refine⟨P,α,env,S,r,re,?_⟩;have af1:=xF af;cases q:fi env S with
 |bad=>rw[q] at af1;exact af1
 |ex c x S'=>rw[q] at af1;exact af1
 |ok ds S1 =>
  rw[q] at af1;have af2:qX X P α (uD g f ds env S1) D:=af1;intro J H1 P1 α1 r1 e1 e2 it;refine⟨LoopW X P1 α1 g f ds D,
   ⟨ds.length,Ds _,rfl,P1,α1,env,S1,r1,re.mono e1 e2,qF.refl _,A8 _,qX.base e1 e2 af2⟩,?_⟩
  rintro i m σ2 H2 ⟨hi,rfl,P2,α2,env2,S2,r2,re2,e3,e4,af3⟩;by_cases hlt:i<ds.length
  ·refine .inr ⟨it.go i H2 P2 α2 S2 hlt r2 e3 e4,LoopW X P1 α1 g f ds D (i+1) (ds.length-(i+1)),fun σ' H' w=>⟨_,?_,w⟩,fun x H3 y=>?_⟩
   ·omega
   ·obtain⟨P3,d,hd,r3,e5,rp⟩:=it.yld i H2 x H3 P2 α2 S2 hlt r2 e3 e4 y
    have hdr:ds.drop i=d::ds.drop (i+1):=by
     rw[Fi hlt];rw[Aq hlt] at hd;rw[AW hd]
    rw[hdr] at af3;have af4:=xF (qX.base e5 (A8 _) af3);refine⟨P3,α2,env2,S2,d,r3,re2.mono e5 (A8 _),rp,?_⟩;cases q2:g d env2 S2 with
    |bad=>rw[q2] at af4;exact af4
    |ex c x S'=>rw[q2] at af4;exact af4
    |ok env3 S3 =>
     rw[q2] at af4;intro σ4 H4 P4 α4 r4 re4 e6 e7;refine⟨P4,α4,env3,S3,r4,re4,?_⟩;have af5:=qX.base e6 e7 af4;cases q3:f env3 S3 with
     |bad=>simp only[q3] at af5;exact af5
     |ex c x env4 S4=>simp only[q3] at af5;exact af5
     |rt d4 S4=>simp only[q3] at af5;exact af5
     |bk env4 S4=>simp only[q3] at af5;exact af5
     |nx env4 S4 =>
      simp only[q3] at af5;exact fun σ5 H5 P5 α5 r5 re5 e8 e9=>⟨hlt,rfl,P5,α5,env4,S4,r5,re5,((e3.trans e5).trans e6).trans e8,(e4.trans e7).trans e9,qX.base e8 e9 af5⟩
     |ct env4 S4 =>
      simp only[q3] at af5;exact fun σ5 H5 P5 α5 r5 re5 e8 e9=>⟨hlt,rfl,P5,α5,env4,S4,r5,re5,((e3.trans e5).trans e6).trans e8,(e4.trans e7).trans e9,qX.base e8 e9 af5⟩
  ·have hdr:ds.drop i=[]:=Kn om
   rw[hdr] at af3;exact .inl ⟨it.stop i H2 P2 α2 S2 om r2 e3 e4,af3 σ2 H2 P2 α2 r2 re2 (qF.refl _) (A8 _)⟩
end
abbrev DF:=Aa D→Sto→Res D
section
variable {X:Cx}{x:Ar}{p pos:CA}{e:AF}{es:Aa AF}{F:DF}{fa:DA}
def qL (F:DF)(fa:DA):DE:=fun env S=>(fa env S).bind fun ds S1=>F ds S1
theorem mI {pins:Aa (Ad × AU)}{s1:Ag}{σ:_L.St}{H1 P P1:Hp}{α α1:Aa Ad}{ds:Aa D}(hc:xR X u F)(I1:Inv X pins σ H1 s1)(r1:Rel X.K H1 P1 α1 S1)(rv:qK vs us)
  (rp:qD X.K P1 α1 ds vs) (e1:qF P P1) (e2:α<+:α1) (af:qI X P α (F ds S1) (OkV X P α Q)):Ao (As X.prog X.w) X.A (call u us) (EP X pins σ Q) X.xe s1:=hc pins σ H1 s1 P1 α1 S1 vs us ds Q I1 r1 rv rp (qS.base e1 e2 af)
theorem Q0 {id:Bz}(hc:xR X (.builtin id) F)(hg:Gl X x)(hm:X.mg x=none)(hv:Dd x=Ab (.builtin id))(ha:PA X (e::es) (tDA X fa))(hn:x ≠ "__name__":=by decide)(hdb:(x == ("__debug__" : Ar))=false:=by decide)
  (he:A9 (e::es) X.env=(false,eval e X.env)::A9 es X.env:=by rfl) (hpl:(Df pos (A9 es X.env)).any (·.1)=false:=by rfl):PE X (.Call (.Name x p) (e::es) [] pos) (tD X (qL F fa)):=by
 intro pins s σ H Q I h;obtain⟨P,α,env,S,r,re,af⟩:=h;refine Du (vR I hg hm hv ?_ hn hdb);exact Ht (thn (wC ha I r re af pos) fun us s1 ⟨vs,H1,P1,α1,ds,S1,I1,rv,r1,re1,rp,e1,e2,af1⟩=>mI hc I1 r1 rv rp e1 e2 af1) he hpl
theorem cX {T:Bz}(hc:xR X (.type T) F)(hg:Gl X x)(hm:X.mg x=none)(hv:Dd x=Ab (.type T))(ha:PA X (e::es) (tDA X fa))(hn:x ≠ "__name__":=by decide)(hdb:(x == ("__debug__" : Ar))=false:=by decide)
  (he:A9 (e::es) X.env=(false,eval e X.env)::A9 es X.env:=by rfl) (hpl:(Df pos (A9 es X.env)).any (·.1)=false:=by rfl):PE X (.Call (.Name x p) (e::es) [] pos) (tD X (qL F fa)):=by
 intro pins s σ H Q I h;obtain⟨P,α,env,S,r,re,af⟩:=h;refine Du (vR I hg hm hv ?_ hn hdb);exact Ej (thn (wC ha I r re af pos) fun us s1 ⟨vs,H1,P1,α1,ds,S1,I1,rv,r1,re1,rp,e1,e2,af1⟩=>mI hc I1 r1 rv rp e1 e2 af1) he hpl
end
theorem zA.there {P:A1}{w:AH}{H:Hp}{h:A5}{a:Ad}{o:HO}(x:zA P w H h a o):∃ ob,h.get? a=Ab ob:=by
 cases o with
 |lst xs=>obtain⟨_,_,_,_,e⟩:=x;exact⟨_,e⟩
 |tup xs=>obtain⟨_,_,_,ob,e,_⟩:=x;exact⟨_,e⟩
 |dK kvs=>obtain⟨_,_,_,_,o,_,_,e,_⟩:=x;exact⟨_,e⟩
 |dT kvs=>obtain⟨_,_,_,_,o,_,_,e,_⟩:=x;exact⟨_,e⟩
 |set S n=>obtain⟨o,_,_,_,e,_⟩:=x;exact⟨_,e⟩
 |ins C dx fs=>obtain⟨_,_,_,e,_⟩:=x;exact⟨_,e⟩
 |own y=>obtain⟨_,e⟩:=x;exact⟨_,e⟩
 |xd fs=>obtain⟨_,⟨_,_,_,e,_⟩,_⟩:=x;exact⟨_,e⟩
 |rng lo hi=>obtain⟨_,_,_,e⟩:=x;exact⟨_,e⟩
 |frz ob u=>obtain⟨e,_⟩:=x;exact⟨_,e⟩
 |tbl ps=>exact⟨_,show h.get? a=Ab _ from x⟩
 |met f y=>exact⟨_,show h.get? a=Ab _ from x⟩
 |ext φ => obtain⟨_,e,_⟩:=x;exact e
section
variable {X:Cx}{pins:Aa (Ad × AU)}{σ : _L.St}{H:Hp}{s:Ag}{B h':A5}
abbrev Fn1 (X:Cx):Prop:=X.ex=[]∧X.stack=X.env::X.outer∧X.env.frame=Ab X.env.locals
theorem Fn1.mem (F:Fn1 X){b:Ad}:b∈frs X.stack↔b=X.env.locals∨b∈X.fs:=by
 rw[F.2.1];unfold frs;rw[Ec,F.2.2];exact Aw
theorem Old.there (I:Inv X pins σ H s)(F:Fn1 X){b:Ad}(o:Old X pins H b):∃ ob,s.heap.get? b=Ab ob:=by
 rcases o with⟨o,e⟩|e|⟨p,hp,rfl⟩|⟨x,e⟩
 ·exact I.base.there b o e (by rw[F.1];simp)
 ·cases q:H b with
  |none=>exact absurd q e
  |some u=>exact zA.there (I.hok b u q)
 ·exact⟨_,(I.pin p hp).1⟩
 ·obtain⟨v,ob,ho,_⟩:=I.cell x b e
  exact⟨ob,ho⟩
theorem Inv.fly (I:Inv X pins σ H s)(F:Fn1 X)(cv:Cv X pins H B s.heap)(st:B.StaysIn h')(up:s.heap.UpToSlots h'):Inv X pins σ H { s with heap:=h' } ∧ Cv X pins H B h':=by
 have kp:∀ b o,s.heap.get? b=Ab o→Old X pins H b→b ∉ frs X.stack→h'.get? b=Ab o:=fun b o e q n=>st b o (cv b o e q n);have neL:∀ b o,X.s₀.heap.get? b=Ab o→b≠X.env.locals:=fun b o e=>AL (Ax (Au e) I.ok.above);have nofr:∀ b o,X.s₀.heap.get? b=Ab o→b ∉ X.fs→b ∉ frs X.stack:=fun b o e n z=>(F.mem.mp z).elim (neL b o e) n;have nx:∀ b,b ∉ X.ex:=fun b=>by rw[F.1];simp
 have frU:∀ b,b∈frs X.stack→∀ o,s.heap.get? b=Ab o→∃ sl,h'.get? b=Ab { o with slots:=sl }:=fun b hb o e=>by
  obtain⟨_,o',e',nf⟩:=I.stack.mem hb;rw[e] at e';cases e';exact up b o e nf
 have cellK:∀ x c,X.env.cells.lookup x=Ab c→∀ v,s.heap.IsCell c v→h'.IsCell c v:=fun x c e v ⟨o,ho,hd⟩=>by
  obtain⟨sl,q⟩:=up c o ho fun vs z=>by rw[hd] at z;cases z
  exact⟨_,q,hd⟩
 refine⟨⟨I.ok,I.os,I.bare,⟨fun b o e n hb hx=>?_,fun b o e n hb hx=>?_,I.base.free,fun b o e hx=>?_,I.base.tups,I.base.frzs,I.base.tbls⟩,?_,fun x c e=>?_,I.free,I.freeC,fun p hp=>?_,fun a o e=>?_,I.len⟩,fun b o e q n=>?_⟩
 ·exact kp b o (I.base.keep b o e n hb hx) (.inl ⟨o,e⟩) (nofr b o e hb)
 ·obtain⟨sl,e1⟩:=I.base.slot b o e n hb hx
  obtain⟨sl',e2⟩:=frU b (F.mem.mpr (.inr hb)) _ e1;exact⟨sl',e2⟩
 ·obtain⟨o',e1⟩:=I.base.there b o e hx
  by_cases hb:b∈frs X.stack
  ·obtain⟨sl,e2⟩:=frU b hb _ e1
   exact⟨_,e2⟩
  ·exact⟨o',kp b o' e1 (.inl ⟨o,e⟩) hb⟩
 ·obtain⟨m,hn,hl⟩:=I.loc
  refine⟨m,up.ns hn,fun i x v e1 e2 e3=>?_⟩;obtain⟨u,r,l⟩:=hl i x v e1 e2 e3;refine⟨u,r,?_⟩;rcases l with l|⟨k,c,e,z⟩
  ·exact .inl l
  ·exact .inr ⟨k,c,e,cellK x c e _ z⟩
 ·obtain⟨v,z⟩:=I.cell x c e
  exact⟨v,cellK x c e v z⟩
 ·obtain⟨e,n,ne,nf,d⟩:=I.pin p hp
  exact⟨kp p.1 p.2 e (.inr (.inr (.inl ⟨p,hp,rfl⟩))) fun z=>(F.mem.mp z).elim ne nf,n,ne,nf,d⟩
 ·refine(I.hok a o e).stay (fun b u hb q=>?_) (fun _ q=>q) fun _ _ q=>q
  have hn:H b≠none:=by
   rcases hb with rfl|hb
   ·rw[e];intro z;cases z
   ·rw[hb];intro z;cases z
  exact kp b u q (.inr (.inl hn)) fun z=>hn (I.stkFree b z)
 ·obtain⟨o1,e1⟩:=Old.there I F q
  have e2:=cv b o1 e1 q n;have e3:=st b o1 e2;rw[e] at e3;cases e3;exact e2
theorem i7 {c:Ac}{e:Ad}{g:A5}(I:Inv X pins σ H s)(hm:Lu g s.heap e c args)(hf:g.FunFrames X.base X.stack)(hk:∀ b o,s.heap.get? b=Ab o→Old X pins H b→g.get? b=Ab o) :
  (Hy g (frs X.stack)).StaysIn g∧g.FunFrames (Hy g (frs X.stack)) X.stack∧Cv X pins H (Hy g (frs X.stack)) s.heap:=
 ⟨fun b o q=>Nm _ q,PySem.W.funFrames_hide hf fun env he a ha=>Em.mpr ⟨env,he,ha⟩,fun b o e q n=>Mj _ (hk b o e q) n⟩
theorem aR {M:He}{A:AG}{E:Ac→Ag→Prop}{c:Ac}{e:Ad}{Q:IE→Ag→Prop}(I:Inv X pins σ H s)(F:Fn1 X)(hA:A.frames=Ab X.stack)(f:FlyX X pins H c e s.heap)
  (hQ:∀ h' B a0,HH B X.outer e c a0 h'→Inv X pins σ H { s with heap:=h' } → Cv X pins H B h'→Q () { s with heap:=h' }) : Ao M A (leaving X.env (.ref e)) Q E s:=by
 cases f with
 |new g args hm hf hk =>
  obtain⟨k1,k2,k3⟩:=i7 I hm hf hk;rw[F.2.1] at hA;refine wpAny_leaves_madeW hA F.2.2 k1 (by rw[← F.2.1];exact k2) hm fun h' t x1 x2 x3 x4=>?_
  obtain⟨I1,cv1⟩:=Inv.fly I F k3 x1.1 x4;exact hQ h' _ _ x1 I1 cv1
 |fly B a0 fl cv =>
  rw[F.2.1] at hA;refine wpAny_leaves_onW hA F.2.2 (by rw[← F.2.1];exact fl) fun h' x1 x2=>?_
  obtain⟨I1,cv1⟩:=Inv.fly I F cv x1.1 x2;exact hQ h' _ _ x1 I1 cv1
end
def CXd (P:A1)(w:AH):CXT:=fun outer H s E u s' =>
 ∃ e c H' B a0,u=.ref e∧s'.os=s.os∧Hd s'.gens∧Un (frs outer) [] H H' s.heap s'.heap∧HOk P w H' s'.heap∧HH B outer e c a0 s'.heap ∧
  (∀ b o,s'.heap.get? b=Ab o→((∃ o,s.heap.get? b=Ab o)∨H' b≠none)→b ∉ frs outer→B.get? b=Ab o)∧E c none H'
section
variable {X:Cx}{pins:Aa (Ad × AU)}{σ : _L.St}{H:Hp}{s s':Ag}
theorem G8 {E:XK}(I:Inv X pins σ H s)(F:Fn1 X)(h:CXd X.prog X.w X.stack H s E u s'):∃ e c H',u=.ref e∧Inv X pins σ H' s'∧FlyX X pins H' c e s'.heap∧E c none H':=by
 obtain⟨e,c,H',B,a0,rfl,os,bare,un,hok,fl,cov,q⟩:=h;have I':Inv X pins σ H' s':=Inv.call' I os un hok bare (ch:=[]) fun b z=>absurd z (by simp)
 refine⟨e,c,H',rfl,I',.fly B a0 fl fun b o eb old n=>cov b o eb ?_ n,q⟩;rcases old with⟨o,z⟩|z|⟨p,hp,rfl⟩|⟨x,z⟩
 ·exact .inl (I.base.there b o z (by rw[F.1];simp))
 ·exact .inr z
 ·exact .inl ⟨_,(I.pin p hp).1⟩
 ·obtain⟨v,ob,ho,_⟩:=I.cell x b z
  exact .inl ⟨ob,ho⟩
end
structure RoomC (cm:Ap)(k:Aj)(A:AG):Prop where
 hd:cm=true→A.handled=none
 dp:A.depth+3*k+5<HU
 un:A.units+16*k+200<CD
 gd:A.guards=Ab []
theorem RoomC.mono {cm:Ap}{j k:Aj}{A:AG}(r:RoomC cm k A)(h:j≤k:=by decide):RoomC cm j A:=⟨r.hd,by have:=r.dp;omega,by have:=r.un;omega,r.gd⟩
theorem RoomC.deeper {cm:Ap}{k:Aj}{A:AG}(r:RoomC cm (k+1) A)(env:Ek):RoomC cm k (A.deeper env):=
 ⟨r.hd,by have:=r.dp;show A.depth+1+3*k+5<_;omega,by have:=r.un;show A.units+3+16*k+200<_;omega,r.gd⟩
theorem RoomC.depth {cm:Ap}{k:Aj}{A:AG}(r:RoomC cm k A):A.depth<HU:=by have:=r.dp;omega
theorem RoomC.units {cm:Ap}{k:Aj}{A:AG}(r:RoomC cm k A):A.units+64<CD:=by have:=r.un;omega
theorem RoomC.of {k:Aj}{A:AG}(r:Room k A):RoomC true k A:=⟨fun _=>r.hd,r.dp,r.un,r.gd⟩
theorem RoomC.any {cm:Ap}{k:Aj}{A:AG}(r:RoomC cm k A):RoomC false k A:=⟨(fun z=>nomatch z),r.dp,r.un,r.gd⟩
theorem RoomC.mark {cm:Ap}{k:Aj}{A:AG}(r:RoomC cm k A)(h:Ak Ac):RoomC false k (A.mark h):=⟨(fun z=>nomatch z),r.dp,r.un,r.gd⟩
abbrev Cx.re (X:Cx)(A:AG)(cm:Ap)(E:Ac→Ag→Prop):Cx:={ X with A:=A,calm:=cm,xe:=E }
theorem Inv.re {X:Cx}{pins:Aa (Ad × AU)}{σ:_L.St}{H:Hp}{s:Ag}(I:Inv X pins σ H s)(A:AG)(cm:Ap)(E:Ac→Ag→Prop)(hf:A.frames=Ab X.stack)(hh:cm=true→A.handled=none):Inv (Cx.re X A cm E) pins σ H s:=
 ⟨⟨I.ok.mod,I.ok.kind,I.ok.glob,I.ok.blt,I.ok.above,I.ok.inj,I.ok.has,I.ok.cab,hh,hf,I.ok.stk,I.ok.exf,I.ok.bs,I.ok.bsz,I.ok.noex,I.ok.exfs,I.ok.funs,I.ok.frf⟩,I.os,I.bare,I.base,I.loc,I.cell,I.free,I.freeC,I.pin,I.hok,I.len⟩
theorem Inv.unre {X:Cx}{pins:Aa (Ad × AU)}{σ:_L.St}{H:Hp}{s:Ag}{A:AG}{cm:Ap}{E:Ac→Ag→Prop}(I:Inv (Cx.re X A cm E) pins σ H s)(hf:X.A.frames=Ab X.stack)(hh:X.calm=true→X.A.handled=none):Inv X pins σ H s:=
 ⟨⟨I.ok.mod,I.ok.kind,I.ok.glob,I.ok.blt,I.ok.above,I.ok.inj,I.ok.has,I.ok.cab,hh,hf,I.ok.stk,I.ok.exf,I.ok.bs,I.ok.bsz,I.ok.noex,I.ok.exfs,I.ok.funs,I.ok.frf⟩,I.os,I.bare,I.base,I.loc,I.cell,I.free,I.freeC,I.pin,I.hok,I.len⟩
structure FnX (P:A1)(w:AH)(K:Ai)(mg:Ar→Ak Ac)(base:A5)(cm:Ap)(k:Aj)(f:Ad)(fd:CH)(ps:Aa Ar)(sp:Sp):Prop where
 len:∀ vs H Q E,sp vs H Q E→vs.length=ps.length
 run:∀ (A:AG) (outer:Aa Ek) (s:Ag) (H:Hp) (args:Args) (us:Aa Ac) (vs:Aa V) (Q:VK) (E:XK),RoomC cm k A→Env0 P w K mg base A outer s H→Hi s fd args (ps.zip us)→qK vs us→sp vs H Q E →
  Eu (As P w) A (.call (.ref f) args) (CR (CXd P w) outer P w H s Q E) s
theorem FnX.ok {P:A1}{w:AH}{K:Ai}{mg:Ar→Ak Ac}{base:A5}{k:Aj}{f:Ad}{fd:CH}{ps:Aa Ar}(F:FnX P w K mg base true k f fd ps sp):FnOk P w K mg base (CXd P w) k f fd ps sp:=
 ⟨F.len,fun A outer s H args us vs Q E hr=>F.run A outer s H args us vs Q E (.of hr)⟩
theorem FnX.any {P:A1}{w:AH}{K:Ai}{mg:Ar→Ak Ac}{base:A5}{cm:Ap}{k:Aj}{f:Ad}{fd:CH}{ps:Aa Ar}(F:FnX P w K mg base false k f fd ps sp):FnX P w K mg base cm k f fd ps sp:=
 ⟨F.len,fun A outer s H args us vs Q E hr=>F.run A outer s H args us vs Q E hr.any⟩
theorem FnX.imp {P:A1}{w:AH}{K:Ai}{mg:Ar→Ak Ac}{base:A5}{cm:Ap}{k:Aj}{f:Ad}{fd:CH}{ps:Aa Ar}{sp':Sp}(F:FnX P w K mg base cm k f fd ps sp)
  (h:∀ vs H Q E,sp' vs H Q E→sp vs H Q E):FnX P w K mg base cm k f fd ps sp':=
 ⟨fun vs H Q E q=>F.len vs H Q E (h _ _ _ _ q),fun A outer s H args us vs Q E hr he hb hv hs=>F.run A outer s H args us vs Q E hr he hb hv (h _ _ _ _ hs)⟩
def cxC (cm:Ap)(P:A1)(w:AH)(K:Ai)(mg:Ar→Ak Ac)(base:A5)(N:Aa Ar)(qual:Ar)(scope:Ch)(f:Ad)(cd:Ac)(A:AG)(outer:Aa Ek)(s:Ag)(H:Hp)(E:XK):Cx where
 prog:=P
 w:=w
 K:=K
 mg:=mg
 base:=base
 A:=A.deeper (CY qual scope s.heap.objs.size f cd)
 N:=N
 s₀:=s
 H₀:=H
 env:=CY qual scope s.heap.objs.size f cd
 outer:=outer
 stack:=CY qual scope s.heap.objs.size f cd::outer
 ex:=[]
 calm:=cm
 fn:=fun _=>true
 pn:=[]
 xe:=fun e s'=>Ao (As P w) (A.deeper (CY qual scope s.heap.objs.size f cd)) (leaving (CY qual scope s.heap.objs.size f cd) e) (fun _ s''=>CXd P w outer H s E e s'') (fun e' s''=>CXd P w outer H s E e' s'') s'
section
variable {P:A1}{w:AH}{K:Ai}{mg:Ar→Ak Ac}{base:A5}{cm:Ap}{N:Aa Ar}{qual:Ar}{scope:Ch}{f:Ad}{cd:Ac}{A:AG}{outer:Aa Ek}{s:Ag}{H:Hp}{E:XK}
theorem oY:Hz (As P w) (A.deeper (CY qual scope s.heap.objs.size f cd)) (CY qual scope s.heap.objs.size f cd) (cxC cm P w K mg base N qual scope f cd A outer s H E).xe:=PassesOwn.leaving (Q₁:=fun e s''=>CXd P w outer H s E e s'')
abbrev xeL (P:A1)(w:AH)(A:AG)(env:Ek)(outer:Aa Ek)(H:Hp)(s:Ag)(E:XK):Ac→Ag→Prop:=fun e s'=>Ao (As P w) (A.deeper env) (leaving env e) (fun _ s''=>CXd P w outer H s E e s'') (fun e' s''=>CXd P w outer H s E e' s'') s'
theorem nY {X:Cx}{P0:Hp}{α:Aa Ad}{c:Ac}{x:D}{s':Ag}(hA:X.A=A.deeper X.env)(k:XOk X P0 α c x S u s')
  (q:∀ H' P' α',Rel X.K H' P' α' S→qF P0 P'→α<+:α'→E c none H'):xeL X.prog X.w A X.env X.outer X.H₀ X.s₀ E u s':=by
 obtain⟨e,pins,σ,H1,P1,α1,rfl,I,r,e1,e2,F,fl⟩:=k;unfold xeL;rw[← hA];refine aR I F I.ok.frames fl fun h' B a0 x1 I1 cv=>?_;refine⟨e,c,H1,B,a0,rfl,I1.os,I1.bare,by have z:=I1.base;rw[F.1] at z;exact z,I1.hok,x1,fun b o eb hb n=>cv b o eb ?_ fun z=>?_,q H1 P1 α1 r e1 e2⟩
 ·rcases hb with z|z
  ·exact .inl z
  ·exact .inr (.inl z)
 ·rcases (Fn1.mem F).mp z with z|z
  ·subst z
   rcases hb with⟨o',e'⟩|z
   ·exact absurd (Au e') (Ha.mpr I1.ok.above)
   ·exact z I1.free
  ·exact n z
theorem eJ {ps:Aa Ar}{s1:Ag}(S:FnScope N ps scope)(hd:cm=true→A.handled=none)(e0:Env0 P w K mg base A outer s H)(hl:vs.length=ps.length)(r:qK vs us)
  (x:InCallC s s.heap.objs.size (Mm (CY qual scope s.heap.objs.size f cd).kindOf (ps.zip us) fun _=>none) (Dr (s.heap.objs.size+1) scope.names []) (Mn (CY qual scope s.heap.objs.size f cd).kindOf (ps.zip us) fun _=>none) s1) :
  Inv (cxC cm P w K mg base N qual scope f cd A outer s H E) [] (_L.xB N vs) H s1:=by
 have I:=mT (CX:=CXd P w) (E:=E) (A:={ A with handled:=none }) S rfl ⟨e0.frames,e0.mod,e0.bs,e0.bsz,e0.funs,e0.frf,e0.hok,e0.bare⟩ hl r x
 have J:=Inv.re I (A.deeper (CY qual scope s.heap.objs.size f cd)) cm (cxC cm P w K mg base N qual scope f cd A outer s H E).xe (Hv e0.frames) hd;exact J
end
theorem aD {P:A1}{w:AH}{K:Ai}{mg:Ar→Ak Ac}{base:A5}{cm:Ap}{k:Aj}{f:Ad}{qual:Ar}{params:H8}{scope:Ch}{oc:Ac}{an:Ak Ad}{osl:AB (Ak Ac)}{x:Ar}{kV doc pm cdv ct:Ac}{N ps:Aa Ar}
  {A:AG} {outer:Aa Ek} {s:Ag} {H:Hp} {args:Args} {us:Aa Ac} {vs:Aa V} {Q:VK} {E:XK} (lk:K.lookup f=Ab ⟨oc,od,.func (De x qual params body scope .none kV doc pm an cdv ct),osl⟩) (hcd:ER K cdv qual=true) (S:FnScope N ps scope) (hl:vs.length=ps.length) (hr:RoomC cm (k+1) A)
  (e0:Env0 P w K mg base A outer s H) (hb:Hi s (De x qual params body scope .none kV doc pm an cdv ct) args (ps.zip us)) (r:qK vs us)
  (hbody:∃ t,PSs (cxC cm P w K mg base N qual scope f cdv A outer s H E) body t∧t { nx:=fun _ H'=>Q .non H',rt:=Q } (_L.xB N vs) H) :
  Eu (As P w) A (.call (.ref f) args) (CR (CXd P w) outer P w H s Q E) s:=by
 have KX:K.In s.heap:=e0.mod.kin.keeps fun b o e=>(e0.bs b o e).1;have lim:s.heap.NoLimit:=e0.mod.nolimit.keeps fun b o e=>(e0.bs b o e).1;have hkind:∀ y∈ps.zip us,scope.names.lookup y.1=Ab .local ∨ (scope.names.lookup y.1=Ab .cell∧((Dr (s.heap.objs.size+1) scope.names []).lookup y.1).isSome=true):=fun ⟨n,v⟩ hy=>by
  rcases S.par n (Fp hy).1 with q|q
  ·exact .inl q
  ·exact .inr ⟨q,EE _ _ _ (.inl q)⟩
 refine Lf hr.depth (KX _ _ lk) rfl S.co S.gen rfl (Nn KX hcd) (hb _ _ _ _ ?_);refine Iq S.kind hkind fun env he s1 x=>?_;subst he;refine⟨lim.keeps x.toInCall.keep,codeAny_func ?_⟩;obtain⟨t,ht,hq⟩:=hbody;have I:Inv (cxC cm P w K mg base N qual scope f cdv A outer s H E) [] (_L.xB N vs) H s1:=eJ S hr.hd e0 hl r x;refine Dh (ht [] s1 (_L.xB N vs) H _ I hq) (fun fl s' hs=>?_) fun e s' hs=>hs;have fin:∀ {σ' : _L.St} {H':Hp} {v:V} {u:Ac},Inv (cxC cm P w K mg base N qual scope f cdv A outer s H E) [] σ' H' s'→qJ v u→Q v H'→CE outer P w H s Q u s':=
  fun {σ' H' v u} J rv q=>⟨v,H',J.os,J.bare,J.base,J.hok,rv,q⟩
 cases fl with
 |ret u =>
  obtain⟨v,σ',H',J,rv,q⟩:=hs;exact fin J rv q
 |next =>
  obtain⟨σ',H',J,q⟩:=hs;exact fin (v:=V.non) (u:=CF) J rfl q
 |brk =>
  obtain⟨_,_,_,q⟩:=hs;exact An q
 |cont =>
  obtain⟨_,_,_,q⟩:=hs;exact An q
def j6 (K:Ai)(x:Ar)(cdv:Ac):Prop:=∀ c T,Bg K x=Ab (c,T)→cdv=.ref c
theorem G9 {P:A1}{w:AH}{K:Ai}{mg:Ar→Ak Ac}{base:A5}{cm:Ap}{k:Aj}{f:Ad}{x qual:Ar}{st:Cm}{fd:CH}{N ps:Aa Ar}(F:Fun K x qual st f fd)(S:FnScope N ps (qG st))
  (len:∀ vs H Q E,sp vs H Q E→vs.length=ps.length)
  (hbody:∀ (cdv:Ac) (A:AG) (outer:Aa Ek) (s:Ag) (H:Hp) (vs:Aa V) (Q:VK) (E:XK),fd.code=cdv∧Mod K mg base→RoomC cm k (A.deeper (CY qual (qG st) s.heap.objs.size f cdv))→sp vs H Q E →
   ∃ t,PSs (cxC cm P w K mg base N qual (qG st) f cdv A outer s H E) (zD st) t∧t { nx:=fun _ H'=>Q .non H',rt:=Q } (_L.xB N vs) H) :
  FnX P w K mg base cm (k+1) f fd ps sp:=by
 obtain⟨oc,od,kV,doc,pm,an,cdv,ct,osl,rfl,lk,hcd⟩:=F.ex;exact⟨len,fun A outer s H args us vs Q E hr e0 hb r hsp=>aD lk hcd S (len _ _ _ _ hsp) hr e0 hb r (hbody cdv A outer s H vs Q E ⟨rfl,e0.mod⟩ (hr.deeper _) hsp)⟩
def wG (n:Aj)(ds:Aa D):qE:=ds.map Ab++Ei (n-ds.length) none
def LY:Out→Res D
 |.rt d S=>.ok d S
 |.nx _ S=>.ok .non S
 |.ex c x _ S=>.ex c x S
 |_=>.bad
def qR (n:Aj)(g:DS):DF:=fun ds S=>LY (g (wG n ds) S)
def spR (K:Ai)(P:Hp)(α : Aa Ad)(R:Res D)(Q:VK)(E:XK):Prop:=match R with
 |.ok d S'=>∀ v H' P' α',Rel K H' P' α' S'→qF P P'→α<+:α'→Rep K P' α' d v→Q v H'
 |.ex c _ S'=>∀ H' P' α',Rel K H' P' α' S'→qF P P'→α<+:α'→E c none H'
 |.bad=>CC
def spD (K:Ai)(n:Aj)(F:DF):Sp:=fun vs H Q E=>vs.length=n∧∃ P α ds S,Rel K H P α S∧qD K P α ds vs∧spR K P α (F ds S) Q E
theorem hZ {K:Ai}{P:Hp}{α:Aa Ad}{N:Aa Ar}{ds:Aa D}(r:qD K P α ds vs):qZ K P α (_L.xB N vs) (wG N.length ds):=by
 refine⟨by simp[wG,_L.xB,r.length],fun i d e=>?_⟩
 unfold wG at e;unfold _L.xB;by_cases hi:i<ds.length
 ·rw[AO (by simpa using hi),Bh] at e
  rw[AO (by rw[A6,← r.length];exact hi),Bh]
  cases q:ds[i]? with
  |none=>rw[q] at e;cases e
  |some d' =>
   rw[q] at e;cases e;obtain⟨v,h1,h2⟩:=r.get q;exact⟨v,by rw[h1];rfl,h2⟩
 ·rw[Be (by simpa using hi),Gf] at e
  split at e <;> cases e
section
variable {P:A1}{w:AH}{K:Ai}{mg:Ar→Ak Ac}{base:A5}{cm:Ap}
theorem nQ {qual:Ar}{scope:Ch}{f:Ad}{cdv:Ac}{A:AG}{outer:Aa Ek}{s:Ag}{H P':Hp}{E:XK}{N:Aa Ar}{g:DS}{α:Aa Ad}{ds:Aa D}{S':Sto}(hb:PSs (cxC cm P w K mg base N qual scope f cdv A outer s H E) body (tDS (cxC cm P w K mg base N qual scope f cdv A outer s H E) g))
  (r:Rel K H P' α S') (rp:qD K P' α ds vs) (af:spR K P' α (qR N.length g ds S') Q E):∃ t,PSs (cxC cm P w K mg base N qual scope f cdv A outer s H E) body t∧t { nx:=fun _ H'=>Q .non H',rt:=Q } (_L.xB N vs) H:=by
 refine⟨_,hb,P',α,wG N.length ds,S',r,hZ rp,?_⟩;unfold qR at af;cases q:g (wG N.length ds) S' with
 |rt d S1=>rw[q] at af;exact fun v H' P1 α1 r1 e1 e2 p1=>af v H' P1 α1 r1 e1 e2 p1
 |nx env S1=>rw[q] at af;exact fun σ' H' P1 α1 r1 re1 e1 e2=>af .non H' P1 α1 r1 e1 e2 (by simp only[Rep])
 |bk env S1=>rw[q] at af;exact An af
 |ct env S1=>rw[q] at af;exact An af
 |ex c x env S1=>rw[q] at af;exact fun u s' z=>nY (A:=A) rfl z fun H' P1 α1 r1 e1 e2=>af H' P1 α1 r1 e1 e2
 |bad=>rw[q] at af;exact An af
theorem fnX {x qual:Ar}{st:Cm}{f:Ad}{fd:CH}{N ps:Aa Ar}{k:Aj}{g:DS}(F:Fun K x qual st f fd)(S:FnScope N ps (qG st))
  (hbody:∀ (cdv:Ac) (A:AG) (outer:Aa Ek) (s:Ag) (H:Hp) (E:XK),fd.code=cdv∧Mod K mg base→RoomC cm k (A.deeper (CY qual (qG st) s.heap.objs.size f cdv)) →
   PSs (cxC cm P w K mg base N qual (qG st) f cdv A outer s H E) (zD st) (tDS (cxC cm P w K mg base N qual (qG st) f cdv A outer s H E) g)) :
  FnX P w K mg base cm (k+1) f fd ps (spD K ps.length (qR N.length g)):=by
 refine G9 F S (fun vs H Q E h=>h.1) fun cdv A outer s H vs Q E hc hr h=>?_;obtain⟨hl,P',α,ds,S',r,rp,af⟩:=h;exact nQ (hbody cdv A outer s H E hc hr) r rp af
end
section
variable {X:Cx}{cm:Ap}{k:Aj}{f:Ad}{fd:CH}{ps:Aa Ar}{F:DF}{x:Ar}{p pos:CA}{e:AF}{es:Aa AF}{fa:DA}{n:Aj}
def qN (n:Aj)(F:DF)(fa:DA):DE:=fun env S=>(fa env S).bind fun ds S1=>if ds.length=n then F ds S1 else .bad
def EX (X:Cx)(P:Hp)(α : Aa Ad)(R:Res D):XK:=fun c _ H'=>match R with
 |.ex c' _ S'=>c=c'∧∃ P' α',Rel X.K H' P' α' S'∧qF P P'∧α<+:α'
 |_=>CC
theorem d7 {P:Hp}{α:Aa Ad}{R:Res D}(af:qS X P α R Q):spR X.K P α R Q (EX X P α R):=by
 cases R with
 |ok d S'=>exact af
 |ex c x S'=>exact fun H' P' α' r' e1 e2=>⟨rfl,P',α',r',e1,e2⟩
 |bad=>exact af
theorem p7 {pins:Aa (Ad × AU)}{σ:_L.St}{H:Hp}{s:Ag}{P:Hp}{α:Aa Ad}{R:Res D}(hF:(∃ c x S',R=.ex c x S')→Fn1 X)(I:Inv X pins σ H s)(af:qS X P α R Q)
  (h:Eu (As X.prog X.w) X.A (.call u ⟨us,[]⟩) (CR (CXd X.prog X.w) X.stack X.prog X.w H s Q (EX X P α R)) s):Ao (As X.prog X.w) X.A (call u us) (EP X pins σ Q) X.xe s:=by
 refine HL (E9 h fun r s' hq=>?_);cases r with
 |error u =>
  have hq:CXd X.prog X.w X.stack H s (EX X P α R) u s':=hq;cases R with
  |ok d S'=>obtain⟨_,_,_,_,_,_,_,_,_,_,_,_,q⟩:=hq;exact An q
  |bad=>exact An af
  |ex c' x' S' =>
   have hG:=hF ⟨_,_,_,rfl⟩;obtain⟨a,c,H',rfl,I',fl,rfl,P',α',r',e1,e2⟩:=G8 I hG hq;exact af _ _ ⟨a,pins,σ,H',P',α',rfl,I',r',e1,e2,hG,fl⟩
 |ok fl =>
  cases fl with
  |ret u=>exact I.after hq
  |next=>exact An hq
  |brk=>exact An hq
  |cont=>exact An hq
theorem UL {pins:Aa (Ad × AU)}{σ:_L.St}{H:Hp}{s:Ag}{P:Hp}{α:Aa Ad}{ds:Aa D}(G:FnX X.prog X.w X.K X.mg X.base cm k f fd ps (spD X.K n F))(hr:RoomC cm k X.A)(hb:yP X.K fd ps [])(hF:Fn1 X)
  (I:Inv X pins σ H s) (r:Rel X.K H P α S) (rv:qK vs us) (rp:qD X.K P α ds vs) (hn:ds.length=n) (af:qS X P α (F ds S) Q):Ao (As X.prog X.w) X.A (call (.ref f) us) (EP X pins σ Q) X.xe s:=by
 have hsp:spD X.K n F vs H Q (EX X P α (F ds S)):=⟨by rw[← rp.length];exact hn,P,α,ds,S,r,rp,d7 af⟩
 have hl:us.length=ps.length:=by rw[← rv.length];exact G.len _ _ _ _ hsp
 have hb':=hb s us I.kIn (by rw[Dx];exact hl)
 rw[Dx] at hb';exact p7 (fun _=>hF) I af (G.run X.A X.stack s H ⟨us,[]⟩ us vs Q _ hr I.env0 hb' rv hsp)
theorem mM {env:qE}{S:Sto}{P:Hp}{α:Aa Ad}{ds:Aa D}{Ok:D→Sto→Prop}(h:qI X P α (if ds.length=n then F ds S1 else .bad) Ok):ds.length=n∧qI X P α (F ds S1) Ok:=by
 by_cases hn:ds.length=n
 ·rw[A7 hn] at h;exact⟨hn,h⟩
 ·rw[AD hn] at h;exact An h
theorem YE (G:FnX X.prog X.w X.K X.mg X.base cm k f fd ps (spD X.K n F))(hr:RoomC cm k X.A)(hF:Fn1 X)(hg:Gl X x)(hm:X.mg x=Ab (.ref f))(hk:Cr X.K (.ref f)=true)(hb:yP X.K fd ps [])
  (ha:PA X (e::es) (tDA X fa)) (hdb:(x == ("__debug__" : Ar))=false:=by decide) (he:A9 (e::es) X.env=(false,eval e X.env)::A9 es X.env:=by rfl) (hpl:(Df pos (A9 es X.env)).any (·.1)=false:=by rfl) :
  PE X (.Call (.Name x p) (e::es) [] pos) (tD X (qN n F fa)):=by
 intro pins s σ H Q I h;obtain⟨P,α,env,S,r,re,af⟩:=h;refine Du (vH I hg hm ?_ hdb);refine Ih (h₀:=X.base) I.ok.mod.kin hk (thn (wC ha I r re af pos) fun us s1 ⟨vs,H1,P1,α1,ds,S1,I1,rv,r1,re1,rp,e1,e2,af1⟩=>⟨I1.kIn,?_⟩) he hpl;obtain⟨hn,af2⟩:=mM (env:=env) (S:=S) af1;exact UL G hr hb hF I1 r1 rv rp hn (qS.base e1 e2 af2)
end
abbrev nP:Aa Ac:=[.type "ValueError",.type "Exception",.type "BaseException",.type "object"]
def MH:Ac→Ap
 |.str _ _=>true
 |_=>false
def uZ (K:Ai)(N:Ad):Ap:=(match Hl N K with
 |some o=>match o.data with
  |.dict es _=>es.toList.all fun e=>MH e.key
  |_=>false
 |none=>false)&&decide (Bn K N "__init__" = Ab none)
theorem w5 {K:Ai}{N:Ad}(h:uZ K N=true):Qn K N=true∧Bn K N "__init__" = Ab none:=by
 unfold uZ at h;rw[A3,AV] at h;refine⟨?_,h.2⟩;have h1:=h.1;unfold Qn;cases e:Hl N K with
 |none=>rw[e] at h1;cases h1
 |some o =>
  rw[e] at h1;obtain⟨oc,od,dt,sl⟩:=o;cases dt with
  |dict es ep =>
   simp only at h1 ⊢;rw[Array.all_toList] at h1;refine Eq.trans (congrArg (fun f=>Array.all es f) (funext fun e=>?_)) h1;cases e.key <;> rfl
  |_=>cases h1
def nD (K:Ai)(C:Ad)(f:Ac→O0→AB (Ak Ac)→Ap):Ap:=match Hl C K with
 |some o=>(match o.data with|.cls cd=>f o.cls cd o.slots|_=>false)
 |none=>false
theorem lR {K:Ai}{f:Ac→O0→AB (Ak Ac)→Ap}(h:nD K C f=true):∃ oc od cd sl,Hl C K=Ab ⟨oc,od,.cls cd,sl⟩∧f oc cd sl=true:=by
 unfold nD at h;cases e:Hl C K with
 |none=>rw[e] at h;exact Ed h
 |some o =>
  rw[e] at h;obtain⟨oc,od,dt,sl⟩:=o;cases dt with
  |cls cd=>exact⟨oc,od,cd,sl,rfl,h⟩
  |_=>exact Ed h
def p9 (K:Ai)(C A:Ad):Ap:=nD K C fun oc cd sl=>nD K A fun _ ca _=>decide (oc=.type "type")&&(decide (cd.mro=.ref C::.ref A::nP)&&(!cd.hasDel&&(uZ K cd.ns&&(uZ K ca.ns&&(decide (sl.toList.length=6)&&decide (sl.toList[4]? = Ab (Ab (.builtin "ValueError.__new__"))))))))
inductive ExcO (h:A5)(C:Ad):Prop
 |mk (nm q:Ar) (N:Ad) (bs bm:Aa Ac) (hdct:Ap) (sn:Aa Ar) (sub:Aa Ac) (ab:Ap) (col:Ak Ap) (dd:Ak Ad) (k0 k1 k2 k3 k5:Ak Ac) (mN:Ar→Ak Ac) (hC:h.get? C=Ab (excClassObj nm q C N bs bm hdct sn sub ab col dd k0 k1 k2 k3 k5 "ValueError.__new__")) (hN:h.Ns N mN) (hni:mN "__init__" = none) (T:OwnTail h nP bm):ExcO h C
theorem fW {β:Type}{l:Aa β}{n:Aj}(h:l.length=n+1):∃ a t,l=a::t∧t.length=n:=by
 cases l with
 |nil=>exact Nat.noConfusion h
 |cons a t=>exact⟨a,t,rfl,Nat.succ.inj h⟩
theorem six {β:Type}{l:Aa β}(h:l.length=6):∃ a b c d e f,l=[a,b,c,d,e,f]:=by
 obtain⟨a,t,e1,h⟩:=fW h;obtain⟨b,t2,e2,h⟩:=fW h;obtain⟨c,t3,e3,h⟩:=fW h;obtain⟨d,t4,e4,h⟩:=fW h;obtain⟨e,t5,e5,h⟩:=fW h;obtain⟨f,t6,e6,h⟩:=fW h;exact⟨a,b,c,d,e,f,by rw[e1,e2,e3,e4,e5,e6,EA.mp h]⟩
theorem PL {cd:O0}{tl:Aa Ac}{k0 k1 k2 k3 k4 k5:Ak Ac}{n:Bz}(hm:cd.mro=.ref C::tl)(hd:cd.hasDel=false)(hs:sl.toList=[k0,k1,k2,k3,k4,k5])(hn:sl.toList[4]? = Ab (Ab (.builtin n))) :
  (⟨.type "type",od,.cls cd,sl⟩:AU)=excClassObj cd.name cd.qualname C cd.ns cd.bases tl cd.hasDict cd.slotNames cd.subclasses cd.abstract cd.collection od k0 k1 k2 k3 k5 n:=by
 rw[hs] at hn;cases hn;cases cd;cases sl;cases hm;cases hd;cases hs;rfl
theorem YU {K:Ai}{h:A5}{A:Ad}{cd:O0}(KI:K.In h)(e:Hl C K=Ab ⟨.type "type",od,.cls cd,sl⟩)(h2:cd.mro=.ref C::.ref A::nP)(h3:cd.hasDel=false)(h4:uZ K cd.ns=true)(h6:sl.toList.length=6)(h7:sl.toList[4]? = Ab (Ab (.builtin "ValueError.__new__")))(T:OwnTail h nP (.ref A::nP)):ExcO h C:=by
 obtain⟨k0,k1,k2,k3,x,k5,es⟩:=six h6;exact⟨_,_,_,_,_,_,_,_,_,_,_,k0,k1,k2,k3,k5,_,(KI _ _ e).trans (congrArg Ab (PL h2 h3 es h7)),.of_isNs (Nr KI (w5 h4).1),IX KI (w5 h4).1 (w5 h4).2,T⟩
theorem YV {K:Ai}{h:A5}{A:Ad}(KI:K.In h)(z:p9 K C A=true):ExcO h C:=by
 obtain⟨oc,od,cd,sl,e,z⟩:=lR z;obtain⟨qc,qd,ca,ql,e2,z⟩:=lR z;have a1:=CG.mp z;have a2:=CG.mp a1.2;have a3:=CG.mp a2.2;have a4:=CG.mp a3.2;have a5:=CG.mp a4.2;have a6:=CG.mp a5.2;rw[AK a1.1] at e;exact YU KI e (AK a2.1) (O1 _▸a3.1) a4.1 (AK a6.1) (AK a6.2) (.own (KI _ _ e2) (.of_isNs (Nr KI (w5 a5.1).1)) (IX KI (w5 a5.1).1 (w5 a5.1).2) .base)
section
variable {X:Cx}{pos:CA}{fa:DA}
def yZ (c:Ac)(fa:DA):DS:=fun env S=>(fa env S).toS env fun ds S1=>if ds.length≤lim then .ex c .non env S1 else .bad
inductive GotAS (X:Cx)(pins:Aa (Ad × AU))(σ : _L.St)(env:qE)(P:Hp)(α : Aa Ad)(us:Aa Ac)(s1:Ag)(k:Aa D→Sto→Out)(E:Ends):Prop
 |mk (vs:Aa V) (H1 P1:Hp) (α1:Aa Ad) (ds:Aa D) (S1:Sto) (I:Inv X pins σ H1 s1) (rv:qK vs us) (r:Rel X.K H1 P1 α1 S1) (re:qZ X.K P1 α1 σ env) (rp:qD X.K P1 α1 ds vs) (e1:qF P P1) (e2:α<+:α1) (q:qX X P1 α1 (k ds S1) E):GotAS X pins σ env P α us s1 k E
theorem YB {es:Aa AF}{k:Aa D→Sto→Out}{pins:Aa (Ad × AU)}{s:Ag}{σ:_L.St}{H P:Hp}{α:Aa Ad}{env:qE}{D:Ends}(he:PA X es (tDA X fa))(I:Inv X pins σ H s)(r:Rel X.K H P α S)
  (re:qZ X.K P α σ env) (af:qX X P α ((fa env S).toS env k) D) (pos:CA) :
  Ao (As X.prog X.w) X.A (spliced (Df pos (A9 es X.env))) (fun us s1=>GotAS X pins σ env P α us s1 k D) X.xe s:=by
 have af1:qI X P α ((fa env S).bind fun d S=>.ok d S) fun d S=>qX X P α (k d S) D:=by
  have:=xF af;cases q:fa env S <;> rw[q] at this <;> exact this
 exact thn (wC he I r re af1 pos) fun u s1 ⟨vs,H1,P1,α1,ds,S1,I1,rv,r1,re1,rp,e1,e2,q⟩=>⟨vs,H1,P1,α1,ds,S1,I1,rv,r1,re1,rp,e1,e2,qX.base e1 e2 q⟩
theorem QC {x:Ar}{Ae:Ad}{e₀:AF}{rest:Aa AF}{np cpos:CA}(hc:X.calm=true)(hF:Fn1 X)(hg:Gl X x)(hm:X.mg x=Ab (.ref C))(hx:p9 X.K C Ae=true)(ha:PA X (e₀::rest) (tDA X fa))
  (hdb:(x == ("__debug__" : Ar))=false:=by decide) (he:A9 (e₀::rest) X.env=(false,eval e₀ X.env)::A9 rest X.env:=by rfl) (hpl:(Df cpos (A9 rest X.env)).any (·.1)=false:=by rfl) :
  PS X (.Raise (Ab (.Call (.Name x np) (e₀::rest) [] cpos)) none pos) (tDS X (yZ (.ref C) fa)):=by
 intro pins s σ H D I h;obtain⟨P,α,env,S,r,re,af⟩:=h;obtain⟨nm,qn,N,bs,tl,hdct,sn,sub,ab,col,dd,k0,k1,k2,k3,k5,mN,hC,hN,hni,T⟩:=YV I.mod.kin hx;refine wpAny_Raise_call_subT (C:=C) (nm:=nm) (q:=qn) (N:=N) (bs:=bs) (bm:=tl) (hdct:=hdct) (sn:=sn) (sub:=sub) (ab:=ab) (col:=col) (dd:=dd) (k0:=k0) (k1:=k1) (k2:=k2) (k3:=k3) (k5:=k5)
  Iy (mN:=mN) (T.hasType Iy.hasBase) (I.ok.hd hc) (by rw[he];show (false||(Df cpos (A9 rest X.env)).any (·.1))=false;rw[hpl];rfl) hni (vH I hg hm ⟨rfl,?_⟩ hdb)
 have run:=YB ha I r re af cpos;rw[he] at run ⊢;refine Md (thn run fun us s2 ⟨vs,H1,P1,α1,ds,S1,I1,rv,r1,re1,rp,e1,e2,q⟩=>?_);have hl:us.length=ds.length:=by rw[rp.length,rv.length]
 by_cases hz:ds.length≤lim
 ·rw[A7 hz] at q
  refine⟨rfl,by rw[hl,← zT];exact hz,I1.bk _ _ hC,hN.keeps I1.bk,T.keeps I1.bk,fun h' e hm=>q _ _ ⟨e,pins,σ,H1,P1,α1,rfl,I1.kept (t':=s2.toks) hm.keeps,r1,qF.refl _,A8 _,hF,.new s2.heap us hm I1.stack fun b o eb old=>?_⟩⟩
  obtain⟨o1,q1⟩:=Old.there I1 hF old;have q2:=hm.keeps b o1 q1;rw[eb] at q2;cases q2;exact q1
 ·rw[AD hz] at q;exact An q
end
section
variable {X:Cx}{pins:Aa (Ad × AU)}{σ : _L.St}{H:Hp}{s:Ag}
theorem eR {M:He}{A:AG}{E:Ac→Ag→Prop}{base h:A5}{env:Ek}{outer:Aa Ek}{L e:Ad}{cls:Ac}{Q:IE→Ag→Prop}
  (hfr:A.frames=Ab (env::outer)) (hf:env.frame=Ab L) (hkb:base.StaysIn h) (hl:h.FunFrames base (env::outer)) (hx:Lu h s.heap e cls args)
  (hQ:∀ h' a0,RK base (env::outer) e cls a0 L h'→s.heap.UpToSlots h'→Q () { s with heap:=h' }) : Ao M A (O6 (.ref e) env) Q E s:=by
 obtain⟨t,he,htn,ht⟩:=hx.there;have fresh:∀ b,h.get? b=none→base.get? b=none:=fun b hb=>by
  cases hq:base.get? b with
  |none=>rfl
  |some o'=>have z:=hkb b o' hq;rw[hb] at z;cases z
 unfold O6;simp only[hf];refine Af (CM he rfl (x:=.none) rfl ?_);rw[AD (by decide)]
 refine wpAny_entryW hfr (hl.of_keeps fun b o hb _=>⟨o,hx.keeps b o hb,rfl⟩) hf he (fun b o hb=>hx.keeps b o (hkb b o hb)) (fresh e hx.new) rfl (by simp) (a0:=.ref t) rfl fun h' hN=>?_
 obtain⟨n1,n2,n3,n4⟩:=hN;exact hQ h' (.ref t) ⟨n1,fresh e hx.new,n2,n3⟩ n4
theorem Z8 {M:He}{A:AG}{E:Ac→Ag→Prop}{c:Ac}{e:Ad}{Q:IE→Ag→Prop}(I:Inv X pins σ H s)(F:Fn1 X)(hA:A.frames=Ab X.stack)(f:FlyX X pins H c e s.heap)
  (hQ:∀ h' B a0,HH B X.stack e c a0 h'→Inv X pins σ H { s with heap:=h' } → Cv X pins H B h'→Q () { s with heap:=h' }) :
  Ao M A (O6 (.ref e) X.env) (fun _ s₂=>Ao M A (O7 (.ref e) none) Q E s₂) E s:=by
 have land:∀ (B:A5) (a0:Ac) (h1:A5),Cv X pins H B s.heap→RK B X.stack e c a0 X.env.locals h1→s.heap.UpToSlots h1→Ao M A (O7 (.ref e) none) Q E { s with heap:=h1 }:=fun B a0 h1 cv hh up=>by
  refine wpAny_landsW (s:={ s with heap:=h1 }) hh fun h2 f2 u2=>?_
  obtain⟨I2,cv2⟩:=Inv.fly I F cv f2.1 (up.trans u2);exact hQ h2 B a0 f2 I2 cv2
 cases f with
 |new g args hm hf hk =>
  obtain⟨k1,k2,k3⟩:=i7 I hm hf hk;rw[F.2.1] at hA;exact eR hA F.2.2 k1 (by rw[← F.2.1];exact k2) hm fun h' a0 x1 x2=>land _ a0 h' k3 (F.2.1▸x1) x2
 |fly B a0 fl cv =>
  rw[F.2.1] at hA;exact wpAny_looks_onW hA F.2.2 (by rw[← F.2.1];exact fl) fun h' x1 x2=>land B a0 h' cv (by rw[F.2.1];exact x1) x2
theorem sC {B:A5}{c a0:Ac}{e:Ad}(I:Inv X pins σ H s)(F:Fn1 X)(fl:HH B X.stack e c a0 s.heap)(cv:Cv X pins H B s.heap):¬ Old X pins H e∧e ∉ frs X.stack∧∃ ob,s.heap.get? e=Ab ob∧ob.cls=c:=by
 obtain⟨oe,vs,he,hc,hd,_⟩:=fl.first
 have nf:e ∉ frs X.stack:=fun z=>by
  obtain⟨_,o,ho,hn⟩:=I.stack.mem z;rw[he] at ho;cases ho;exact hn vs hd
 refine⟨fun z=>?_,nf,oe,he,hc⟩;have q:=cv e oe he z nf;rw[fl.2.1] at q;cases q
theorem Inv.track {e:Ad}{c:Ac}{ob:AU}(I:Inv X pins σ H s)(F:Fn1 X)(no:¬ Old X pins H e)(nf:e ∉ frs X.stack)(he:s.heap.get? e=Ab ob)(hc:ob.cls=c):Inv X pins σ (upd H e (l8 e c)) s:=by
 have hn:H e=none:=by
  cases q:H e with
  |none=>rfl
  |some u=>exact absurd (.inr (.inl (by rw[q];intro z;cases z))) no
 have nL:e≠X.env.locals:=fun z=>nf (F.mem.mpr (.inl z));have n0:∀ b o,X.s₀.heap.get? b=Ab o→b≠e:=fun b o q z=>no (.inl ⟨o,z▸q⟩);refine⟨I.ok,I.os,I.bare,⟨I.base.keep,I.base.slot,fun b o q n hx=>?_,I.base.there,fun b xs q=>?_,fun b o xs q=>?_,fun b ps q=>?_⟩,I.loc,I.cell,?_,fun x k q=>?_,fun p hp=>?_,fun b u q=>?_,I.len⟩
 ·rw[qH (n0 b o q)];exact I.base.free b o q n hx
 ·have z:=I.base.tups b xs q
  rw[qH (qP z hn)];exact z
 ·have z:=I.base.frzs b o xs q
  rw[qH (qP z hn)];exact z
 ·obtain⟨m,z⟩:=I.base.tbls b ps q
  exact⟨m,by rw[qH (qP z hn)];exact z⟩
 ·rw[qH (CZ nL)];exact I.free
 ·have z:k≠e:=fun z=>no (.inr (.inr (.inr ⟨x,z▸q⟩)))
  rw[qH z];exact I.freeC x k q
 ·obtain⟨a1,a2,a3,a4,a5⟩:=I.pin p hp
  have z:p.1≠e:=fun z=>no (.inr (.inr (.inl ⟨p,hp,z⟩)));exact⟨a1,by rw[qH z];exact a2,a3,a4,a5⟩
 ·by_cases hb:b=e
  ·subst hb
   rw[qT] at q;cases q;refine⟨⟨ob,he,hc⟩,⟨ob,he⟩,fun h1 h2 ⟨o,q1,q2⟩ k=>⟨o,k o q1,q2⟩⟩
  ·rw[qH hb] at q
   exact(I.hok b u q).stay (fun _ _ _ z=>z) (fun k z=>by rw[qH (qP z hn)];exact z) fun k xs z=>by rw[qH (qP z hn)];exact z
theorem Inv.gone {i t':Aj}{n:Ar}{h':A5}(I:Inv X pins σ H s)(hN:X.N.Nodup)(hi:X.N[i]? = Ab n){m:Ar→Ak Ac}{v:Ak Ac}(hl:∀ (j:Aj) (y:Ar) (w:V),X.N[j]? = Ab y→σ[j]? = Ab (Ab w)→Vis X.env.scope y→∃ u,qJ w u∧JE X.env s.heap m y u)(hv:h'.Ns X.env.locals fun y=>if y=n then v else m y)(sb:Di X.env.locals s.heap h') :
  Inv X pins (σ.set i none) H { s with heap:=h',toks:=t' }:=by
 have neL:∀ b o,X.s₀.heap.get? b=Ab o→b≠X.env.locals:=fun b o e=>AL (Ax (Au e) I.ok.above);have kp:∀ b o,b≠X.env.locals→s.heap.get? b=Ab o→h'.get? b=Ab o:=fun b o n e=>(sb.2 b n).trans e;refine⟨I.ok,I.os,I.bare,⟨fun b o e n hb hx=>kp b o (neL b o e) (I.base.keep b o e n hb hx),fun b o e n hb hx=>?_,I.base.free,fun b o e hx=>?_,I.base.tups,I.base.frzs,I.base.tbls⟩,⟨_,hv,fun j y w e1 e2 e3=>?_⟩,fun x c e=>?_,I.free,I.freeC,fun p hp=>?_,fun b u q=>?_,by simpa using I.len⟩
 ·obtain⟨sl,q⟩:=I.base.slot b o e n hb hx
  exact⟨sl,kp b _ (neL b o e) q⟩
 ·obtain⟨o',q⟩:=I.base.there b o e hx
  exact⟨o',kp b o' (neL b o e) q⟩
 ·have hj:i≠j:=fun z=>by
   subst z;by_cases hs:i<σ.length
   ·rw[Ca hs] at e2;cases e2
   ·rw[Hk (by simp;omega)] at e2;cases e2
  rw[Bw hj] at e2;obtain⟨u,r,l⟩:=hl j y w e1 e2 e3;refine⟨u,r,?_⟩;rcases l with⟨k,z⟩|⟨k,c,z,zc⟩
  ·refine .inl ⟨k,?_⟩
   have:y≠n:=fun z=>hj (pL hN hi (z▸e1));simp[this,z]
  ·exact .inr ⟨k,c,z,zc.sameBut sb (I.cne y c z)⟩
 ·obtain⟨w,z⟩:=I.cell x c e
  exact⟨w,z.sameBut sb (I.cne x c e)⟩
 ·obtain⟨e,n,ne,nf,d⟩:=I.pin p hp
  exact⟨kp p.1 p.2 ne e,n,ne,nf,d⟩
 ·refine(I.hok b u q).stay (fun c w hc z=>kp c w ?_ z) (fun _ z=>z) fun _ _ z=>z
  rintro rfl;rcases hc with rfl|hc
  ·rw[I.free] at q;cases q
  ·rw[I.free] at hc;cases hc
theorem sD {A:AG}{E:Ac→Ag→Prop}{i:Aj}{n:Ar}{pos:CA}{Q:IE→Ag→Prop}(I:Inv X pins σ H s)(hN:X.N.Nodup)(hi:X.N[i]? = Ab n)(hlo:X.env.scope.names.lookup n=Ab .local)
  (h:∀ s',Inv X pins (σ.set i none) H s'→Q () s'):Ao M A (do Nj X.env n .none;unbindBehindTheSuite X.env n pos) Q E s:=by
 obtain⟨m,hm,hl⟩:=id I.loc;exact wpAny_nameGoes_keeps hlo hm (by rw[I.ok.kind];rfl) fun h' v hv sb=>h _ (Inv.gone I hN hi hl hv sb)
end
abbrev Cx.tryIn (X:Cx)(E:Ac→Ag→Prop)(pn:Aa (Ad × AU)):Cx:={ X with xe:=E,pn:=pn }
abbrev Cx.suite (X:Cx)(e:Ad):Cx:=Cx.re X (X.A.mark (Ab (.ref e))) false fun _ _=>CC
def pN (N i:Aj)(cs:Aa Ac)(f g:DS):DS:=fun env S=>match f env S with
 |.ex c x env1 S1=>if cs.contains c then (match g ((Ei N none).set i (Ab (.exn c))) S1 with
   |.rt d S2=>.rt d S2
   |.nx env2 S2=>.nx (env2.set i none) S2
   |_=>.bad) else .bad
 |o=>o
section
variable {X:Cx}{pins:Aa (Ad × AU)}{σ : _L.St}{H:Hp}{s:Ag}
theorem Inv.inTry (I:Inv X pins σ H s)(E:Ac→Ag→Prop):Inv (Cx.tryIn X E (X.pn++pins)) [] σ H s:=
 ⟨⟨I.ok.mod,I.ok.kind,I.ok.glob,I.ok.blt,I.ok.above,I.ok.inj,I.ok.has,I.ok.cab,I.ok.hd,I.ok.frames,I.ok.stk,I.ok.exf,I.ok.bs,I.ok.bsz,I.ok.noex,I.ok.exfs,I.ok.funs,I.ok.frf⟩,I.os,I.bare,I.base,I.loc,I.cell,I.free,I.freeC,fun p hp=>I.pin p (by simpa using hp),I.hok,I.len⟩
theorem Inv.outTry {E:Ac→Ag→Prop}(I:Inv (Cx.tryIn X E (X.pn++pins)) more σ H s):Inv X pins σ H s:=
 ⟨⟨I.ok.mod,I.ok.kind,I.ok.glob,I.ok.blt,I.ok.above,I.ok.inj,I.ok.has,I.ok.cab,I.ok.hd,I.ok.frames,I.ok.stk,I.ok.exf,I.ok.bs,I.ok.bsz,I.ok.noex,I.ok.exfs,I.ok.funs,I.ok.frf⟩,I.os,I.bare,I.base,I.loc,I.cell,I.free,I.freeC,fun p hp=>I.pin p (Bk _ hp),I.hok,I.len⟩
theorem SP.outTry {E:Ac→Ag→Prop}{D:Ends}{f:Flow}{s':Ag}(h:SP (Cx.tryIn X E (X.pn++pins)) [] D f s'):SP X pins D f s':=by
 cases f with
 |next=>obtain⟨σ',H',I,q⟩:=h;exact⟨σ',H',Inv.outTry I,q⟩
 |brk=>obtain⟨σ',H',I,q⟩:=h;exact⟨σ',H',Inv.outTry I,q⟩
 |cont=>obtain⟨σ',H',I,q⟩:=h;exact⟨σ',H',Inv.outTry I,q⟩
 |ret u=>obtain⟨v,σ',H',I,r,q⟩:=h;exact⟨v,σ',H',Inv.outTry I,r,q⟩
theorem FlyX.outTry {E:Ac→Ag→Prop}{c:Ac}{e:Ad}{h:A5}(f:FlyX (Cx.tryIn X E (X.pn++pins)) more H c e h):FlyX X pins H c e h:=by
 have old:∀ b,Old X pins H b→Old (Cx.tryIn X E (X.pn++pins)) more H b:=fun b o=>by
  rcases o with o|o|⟨p,hp,z⟩|o
  ·exact .inl o
  ·exact .inr (.inl o)
  ·exact .inr (.inr (.inl ⟨p,Bk _ hp,z⟩))
  ·exact .inr (.inr (.inr o))
 cases f with
 |new g args hm hf hk=>exact .new g args hm hf fun b o e q=>hk b o e (old b q)
 |fly B a0 fl cv=>exact .fly B a0 fl fun b o e q n=>cv b o e (old b q) n
theorem o4 {K:Ai}{P:Hp}{α:Aa Ad}{n:Aj}(h:σ.length=n):qZ K P α σ (Ei n none):=by
 refine⟨by simp[h],fun i d e=>?_⟩
 rw[Gf] at e
 split at e <;> cases e
theorem qZ.unset {K:Ai}{P:Hp}{α:Aa Ad}{env:qE}(re:qZ K P α σ env)(i:Aj):qZ K P α (σ.set i none) (env.set i none):=by
 refine⟨by simp[re.1],fun j d e=>?_⟩
 by_cases hj:i=j
 ·subst hj
  by_cases hi:i<env.length
  ·rw[Ca hi] at e;cases e
  ·rw[Hk (by simp;omega)] at e;cases e
 ·rw[Bw hj] at e ⊢
  exact re.2 j d e
end
section
variable {X:Cx}{pos:CA}{f g:DS}
theorem GD {pins:Aa (Ad × AU)}{D:Ends}{c:Ac}{e C0:Ad}{s':Ag}{σ:_L.St}{H P:Hp}{α:Aa Ad}{x n:Ar}{i:Aj}{b₀:Cm}{suite:Aa Cm}{hpos:CA}
  (F:Fn1 X) (hg:Gl X x) (hm:X.mg x=Ab (.ref C0)) (hcs:∀ c∈cs,E4 X.K c (.ref C0)=Ab true) (hN:X.N.Nodup) (hi:X.N[i]? = Ab n) (hlo:X.env.scope.names.lookup n=Ab .local)
  (hs:∀ e,PSs (Cx.suite X e) (b₀::suite) (tDS (Cx.suite X e) g)) (hc:cs.contains c=true) (I:Inv X pins σ H s') (r:Rel X.K H P α S1) (fl:FlyX X pins H c e s'.heap)
  (af:qX X P α (match g ((Ei X.N.length none).set i (Ab (.exn c))) S1 with|.rt d S2=>.rt d S2|.nx env2 S2=>.nx (env2.set i none) S2|_=>.bad) D) (hdb:(x == ("__debug__" : Ar))=false) :
  Ao (As X.prog X.w) X.A (O6 (.ref e) X.env) (fun _ s₂=>Ao (As X.prog X.w) X.A (O7 (.ref e) none) (fun _ s₃ =>
   Ao (As X.prog X.w) X.A (handleBy (.ref e) X.env [.ExceptHandler (Ab (.Name x np)) (Ab n) (b₀::suite) hpos]) (SP X pins D) X.xe s₃) X.xe s₂) X.xe s':=by
 have hcs':E4 X.K c (.ref C0)=Ab true:=hcs c (by simpa using hc)
 have Z:∀ {σ : _L.St} {H:Hp} {s:Ag},Inv X pins σ H s→Inv (Cx.suite X e) pins σ H s:=fun I=>Inv.re I _ false _ I.ok.frames fun z=>nomatch z;refine Z8 I F I.ok.frames fl fun h5 B a0 f5 I5 cv5=>?_;refine wpAny_handleBy_cons (codeAny_handlers_test (A:=X.A.mark (Ab (.ref e))) (vH (X:=Cx.suite X e) (Z I5) hg hm ?_ hdb)) (by intro q;cases q)
 obtain⟨no5,nf5,ob5,he5,hc5⟩:=sC I5 F f5 cv5;refine(PySem.W.exm_one I5.kIn (by subst hc5;exact(RV he5).andThen .now) hcs').at ?_
 refine codeAny_handlers_suite_as ?_;refine lands_againW (s:={ s' with heap:=h5 }) f5 fun h6 f6 u6=>?_
 obtain⟨I6,cv6⟩:=Inv.fly I5 F cv5 f6.1 u6;obtain⟨no6,nf6,ob6,he6,hc6⟩:=sC I6 F f6 cv6;have J6:Inv X pins σ (upd H e (l8 e c)) { s' with heap:=h6 }:=Inv.track I6 F no6 nf6 he6 hc6
 have hn:H e=none:=by
  cases q:H e with
  |none=>rfl
  |some u=>exact absurd (.inr (.inl (by rw[q];intro z;cases z))) no6
 obtain⟨r1,sP⟩:=r.pure (o:=l8 e c) hn;refine u0 (X:=Cx.suite X e) (v:=.ref e) (Z J6) hN hi (.inl hlo) rfl (fun s7 I7=>?_) (.inr hlo);have re7:qZ X.K (upd P e (l8 e c)) α (σ.set i (Ab (.ref e))) ((Ei X.N.length none).set i (Ab (.exn c))):=(o4 I.len).set i (by simp only[Rep];exact⟨e,rfl,qT⟩)
 refine Dh (hs e pins s7 _ _ { nx:=fun σ' H'=>D.nx (σ'.set i none) H',rt:=D.rt } I7 ⟨_,α,_,S1,r1,re7,?_⟩) (fun fl s8 q=>?_) fun _ _ z=>An z
 ·cases q:g ((Ei X.N.length none).set i (Ab (.exn c))) S1 with
  |rt d S2=>rw[q] at af;exact fun v H' P' α' r' e1 e2 rp=>af v H' P' α' r' (sP.trans e1) e2 rp
  |nx env2 S2=>rw[q] at af;exact fun σ' H' P' α' r' re' e1 e2=>af _ H' P' α' r' (qZ.unset re' i) (sP.trans e1) e2
  |bk env2 S2=>rw[q] at af;exact An af
  |ct env2 S2=>rw[q] at af;exact An af
  |ex c' x' env2 S2=>rw[q] at af;exact An af
  |bad=>rw[q] at af;exact An af
 ·cases fl with
  |next =>
   obtain⟨σ',H',I8,q⟩:=q;exact sD (Inv.unre I8 I.ok.frames I.ok.hd) hN hi hlo fun s9 I9=>⟨_,H',I9,q⟩
  |brk =>
   obtain⟨_,_,_,q⟩:=q;exact An q
  |cont =>
   obtain⟨_,_,_,q⟩:=q;exact An q
  |ret u =>
   obtain⟨v,σ',H',I8,rv,q⟩:=q;exact sD (Inv.unre I8 I.ok.frames I.ok.hd) hN hi hlo fun s9 I9=>⟨v,_,H',I9,rv,q⟩
set_option tactic.hygienic true in
theorem KS {x n:Ar}{C0:Ad}{i:Aj}{b₀:Cm}{suite:Aa Cm}{np hpos:CA}(F:Fn1 X)(hb:∀ E pn,Hz (As X.prog X.w) X.A X.env E→PSs (Cx.tryIn X E pn) body (tDS (Cx.tryIn X E pn) f))
  (hs:∀ e,PSs (Cx.suite X e) (b₀::suite) (tDS (Cx.suite X e) g)) (hg:Gl X x) (hm:X.mg x=Ab (.ref C0)) (hcs:∀ c∈cs,E4 X.K c (.ref C0)=Ab true) (hN:X.N.Nodup) (hi:X.N[i]? = Ab n:=by rfl) (hlo:X.env.scope.names.lookup n=Ab .local:=by rfl)
  (hdb:(x == ("__debug__" : Ar))=false:=by decide):PS X (.Try body [.ExceptHandler (Ab (.Name x np)) (Ab n) (b₀::suite) hpos] [] [] pos) (tDS X (pN X.N.length i cs f g)):=by
 intro pins s σ H D I h;obtain⟨P,α,env,S,r,re,af⟩:=h;refine wpAny_Try_except ?_;refine Dh (hb _ (X.pn++pins) (PassesOwn.looking (K:=fun e s₂=>Ao (As X.prog X.w) X.A (O7 e none) (fun _ s₃=>Ao (As X.prog X.w) X.A (handleBy e X.env [.ExceptHandler (Ab (.Name x np)) (Ab n) (b₀::suite) hpos]) (SP X pins D) X.xe s₃) X.xe s₂) (E₁:=X.xe))
  [] s σ H D (Inv.inTry I _) ⟨P,α,env,S,r,re,?_⟩) (fun fl s1 q=>?_) fun _ _ z=>z
 ·unfold pN at af
  cases q:f env S with
  |rt d S2=>rw[q] at af;exact af
  |nx env2 S2=>rw[q] at af;exact af
  |bk env2 S2=>rw[q] at af;exact af
  |ct env2 S2=>rw[q] at af;exact af
  |bad=>rw[q] at af;exact af
  |ex c x' env2 S2 =>
   rw[q] at af;dsimp only at af;intro u s' k;obtain⟨e,pins',σ',H',P',α',rfl,I',r',e1,e2,F',fl⟩:=k
   split at af
   ·rename_i hc
    exact GD F hg hm hcs hN hi hlo hs hc (Inv.outTry I') r' (FlyX.outTry fl) (qX.base e1 e2 af) hdb
   ·exact An af
 ·have q':=SP.outTry q
  cases fl with
  |next=>exact Fo q'
  |brk=>exact q'
  |cont=>exact q'
  |ret u=>exact q'
end
end _D
namespace _D
open PySem PySem.Spec PyProof.Rows _L PySem.W
variable {R:OO→Ag→Prop}
structure ExnK (K:Ai)(C:Ad):Prop where
 ga:findIn K (.ref C) "__getattribute__" = Ab (Ab (.builtin "BaseException.__getattribute__"))
 hk:findIn K (.ref C) "__getattr__" = Ab none
 cl:findIn K (.ref C) "__class__" = Ab (Ab (.builtin "object.__class__"))
 sp:specialIn K (.builtin "object.__class__") "__get__" = Ab (Ab (.builtin "getset_descriptor.__get__"))
 tk:takesIn K (.builtin "object.__class__")=Ab true
 mo:mroIn K C (.type "object")=Ab true
 mb:mroIn K C (.type "BaseException")=Ab true
 isC:(clsIn K C).isSome=true
section
variable {prog:A1}{w:AH}{A:AG}{E:Ac→Ag→Prop}{s:Ag}{K:Ai}{x C:Ad}
abbrev yQ (x C:Ad)(h:A5):Prop:=∃ ob,h.get? x=Ab ob∧ob.cls=.ref C
theorem yQ.type {M:He}{h:A5}(I:yQ x C h):Looks M h (typeOf (.ref x)) (.ref C):=by
 obtain⟨ob,e,c⟩:=I;rw[← c];exact(Looks.ld e).andThen .now
theorem QJ {M:He}{h:A5}(X:K.In h)(Z:ExnK K C):Looks M h (Rr (.ref x) (.ref C) "__class__") (.bind (.builtin "getset_descriptor.__get__") (.builtin "object.__class__")):=by
 have l1:=Oa (M:=M) X Z.cl;have l2:Looks M h (Rm (Ab (.builtin "object.__class__"))) (Ab (.builtin "getset_descriptor.__get__")):=looks_specialIn X Z.sp;have l3:=looks_takesIn (M:=M) X Z.tk;have l4:Looks M h (Ob (Ab (.builtin "object.__class__")) (Ab (.builtin "getset_descriptor.__get__"))) (Ab (.builtin "getset_descriptor.__get__",.builtin "object.__class__")):=l3.andThen .now;exact l1.andThen (l2.andThen (l4.andThen (Looks.tag .now)))
theorem YW {tp:Ac}(X:K.In s.heap)(Z:ExnK K C)(I:yQ x C s.heap)(h:R (.ok (.ret (.ref C))) s) :
  Eu (As prog w) A (.call (.builtin "getset_descriptor.__get__") ⟨[.builtin "object.__class__",.ref x,tp],[]⟩) R s:=by
 have LT:=yQ.type (M:=As prog w) I;have LM:=looks_mroIn (M:=As prog w) X Z.mo;cases s;refine EW KF.slot_gs.plain KF.entry_gs (KF.slot_gs.check _ _ _ _ _ _ _ _ KF.type_class (KF.args_gs _ _ _) ?_);unfold Ew.«getset_descriptor.__get__» Oc;rw[dga_obj];refine Af (Al ?_);unfold Mt Kc Ko isInstance;simp only[KF.owner_class]
 repeat lk
 refine⟨Ik _ (by decide +kernel),Dy KF.entry_class ?_⟩
 unfold Ew.«object.__class__» shownTypeOf
 repeat lk
 exact h
theorem G6 {tk:Nl}(X:K.In s.heap)(Z:ExnK K C)(I:yQ x C s.heap)(h:R (.ok (.ret (.ref C))) s) :
  Eu (As prog w) A (.call (.builtin "BaseException.__getattribute__") ⟨[.ref x,.str "__class__" tk],[]⟩) R s:=by
 have LT:=yQ.type (M:=As prog w) I;have LM:=looks_mroIn (M:=As prog w) X Z.mb;have LF:=QJ (M:=As prog w) (x:=x) X Z;have hk:builtinKind "BaseException.__getattribute__" = Ab .slot:=by decide +kernel
 have hsp:splitId "BaseException.__getattribute__" = Ab ("BaseException","__getattribute__"):=by decide +kernel
 have chk:∀ (A:AG) (Q:IE→Ag→Prop) (E:Ac→Ag→Prop),Q () s→Ao (As prog w) A (Jj "BaseException.__getattribute__" ⟨[.ref x,.str "__class__" tk],[]⟩) Q E s:=by
  intro A Q E hq;have ha:=PySem.F.args_bexc_ga (.ref x) (.str "__class__" tk);simp only[Jj,hk,hsp];unfold isInstance;refine Af (Af (LT.here (LM.here ?_)))
  repeat (any_goals (first|assumption|wp_step))
 refine EW Jr.ga.plain PySem.F.entry_bexc_ga (chk _ _ _ ?_);cases s;unfold Ew.«object.__getattribute__»;refine Af (IA (show slotArgs "__getattribute__" 1 ⟨[.ref x,.str "__class__" tk],[]⟩=pure (.ref x,[.str "__class__" tk]) from by kernel_rfl) ?_)
 refine Af (Al (Af (LT.at (Af (LF.at ?_)))));show Ao _ _ (IL _ _ _ _) _ _ _;unfold IL;dsimp only;exact Af (Bc (HL (YW X Z I (Al h))))
theorem aA {Q:Ak Ac→Ag→Prop}(X:K.In s.heap)(Z:ExnK K C)(I:yQ x C s.heap)(h:Q (Ab (.ref C)) { s with toks:=s.toks+1 }) : Ao (As prog w) A (getAttr? (.ref x) "__class__") Q E s:=by
 have LT:=yQ.type (M:=As prog w) I;have L1:=Oa (M:=As prog w) X Z.ga;have lk2:=Oa (M:=As prog w) X Z.hk;unfold getAttr? getAttrBy? getAttrBy;cases s;refine Af (wpAny_mkText (Af (Fj (Bc (Af (LT.at (Af (L1.at ?_))))))));dsimp only;have hx2:(Rc "BaseException.__getattribute__" == Rc "object.__getattribute__")=false:=by decide +kernel
 rw[hx2,Lv,AD El];unfold getAttrByItsOwn hookBefore;rw[A7 (show onTheHeap (.ref C)=true from rfl)]
 refine Af (lk2.at (Af (Fj (Bc ?_))));unfold callGetattribute;rw[HT,AD El];unfold boundAndCalled;refine Af (IA (Jr.ga.bind (.ref x)) ?_);refine HL (G6 X Z I ?_);show Ao _ _ (handedOut (.ref C)) _ _ _;exact Al (Al h)
set_option tactic.hygienic true in
theorem lJ (Z:ExnK K C):KitX K (.ref x) (.ref C) (yQ x C) where
 ty:=fun _ _ _ I=>I.type
 it:=fun M h X _=>by
  have z:=Z.isC;unfold clsIn at z
  split at z
  ·rename_i ho
   intro A' Q' E' s' k q;unfold isType loadHead;exact Af (wpAny_loadPart (k _ _ (X _ _ ho)) (Al q))
  ·cases z
 ne:=fun h tp dd its n sl X htp=>by
  have z:=Z.isC;unfold clsIn at z
  split at z
  ·rename_i ho
   cases hq:(AS C == AS tp) with
   |false=>rfl
   |true =>
    obtain rfl:C=tp:=Value.ref.inj (Jk.mp hq);have y:=(X _ _ ho).symm.trans htp;cases y
  ·cases z
 ca:=fun X I k=>aA X Z I k
end
end _D
namespace _D
open PySem PySem.Spec PyProof.Rows _L
variable {o:AU}{cells:Aa (Ar × Ad)}{α α1:Aa Ad}{ds:Aa D}{a C:Ad}{s:Ag}{K:Ai}{H P P1:Hp}{S S1:Sto}
theorem pQ {α:Type}{t:Hs α}{Q Q':α→Ag→Prop}{M:He}{A:AG}{E:Ac→Ag→Prop}(h:Ao M A t Q (fun _ _=>CC) s)(hQ:∀ a s,Q a s→Q' a s):Ao M A t Q' E s:=Dh h hQ fun _ _ x=>x.elim
def j0 (ifs:Aa AF)(env:Ek):Hs Ap:=forIn ifs true fun c r=>if r=true then do let ok ← PySem.isTrue c env (eval c env);pure (HB ok) else pure (HB r)
def PTs (X:Cx)(ifs:Aa AF)(t:DT):Prop:=
 ∀ (pins:Aa (Ad × AU)) (s:Ag) (σ : _L.St) (H:Hp) (Q:Ap→Hp→Prop),Inv X pins σ H s→tDT X t σ H Q→Ao (As X.prog X.w) X.A (j0 ifs X.env) (TP X pins σ Q) X.xe s
def yH:DT:=fun _ S=>.ok true S
section
variable {X:Cx}
theorem YR:PTs X [] yH:=fun pins s σ H Q I ⟨P,α,env,S,r,re,af⟩=>by
 unfold j0;rw[HV];exact Al ⟨H,I,af H P α r (qF.refl _) (A8 _)⟩
theorem LZ {e:AF}{f:DE}{pins:Aa (Ad × AU)}{σ:_L.St}{env:qE}{d:D}(he:PE X e (tD X f))(I:Inv X pins σ H s)(r:Rel X.K H P α S)(re:qZ X.K P α σ env)(q:f env S=.ok d S1) :
  Ao (As X.prog X.w) X.A (eval e X.env) (fun u s1=>∃ v H1 P1 α1,Got X pins σ env P α u s1 v H1 P1 α1 d S1) X.xe s:=by
 refine thn (zQ (g:=fun d S=>Res.ok d S) (Ok:=fun d' S'=>d'=d∧S'=S1) he I r re (by rw[q];exact⟨rfl,rfl⟩)) fun u s1 ⟨v,H1,P1,α1,d',S',G,h1,h2⟩=>?_
 have e1:d'=d:=h1;have e2:S'=S1:=h2;subst e1;subst e2;exact⟨v,H1,P1,α1,G⟩
theorem TN {ifs:Aa AF}{t:DT}{pins:Aa (Ad × AU)}{σ:_L.St}{env:qE}{b:Ap}(he:PTs X ifs t)(I:Inv X pins σ H s)(r:Rel X.K H P α S)(re:qZ X.K P α σ env)(q:t env S=.ok b S1) :
  Ao (As X.prog X.w) X.A (j0 ifs X.env) (fun b' s1=>b'=b∧∃ H1 P1 α1,Inv X pins σ H1 s1∧Rel X.K H1 P1 α1 S1∧qZ X.K P1 α1 σ env∧qF P P1∧α<+:α1) X.xe s:=by
 refine thn (he pins s σ H (fun b' H1=>b'=b∧∃ P1 α1,Rel X.K H1 P1 α1 S1∧qZ X.K P1 α1 σ env∧qF P P1∧α<+:α1) I ⟨P,α,env,S,r,re,?_⟩) fun b' s1 ⟨H1,I1,e,P1,α1,q1,q2,q3,q4⟩=>⟨e,H1,P1,α1,I1,q1,q2,q3,q4⟩;rw[q];exact fun H' P' α' r' e1 e2=>⟨rfl,P',α',r',re.mono e1 e2,e1,e2⟩
theorem D0 {tg:AF}{g:DG}{pins:Aa (Ad × AU)}{σ:_L.St}{env env1:qE}{d:D}{v:V}{u:Ac}(hg:PG X tg (tDG X g))(I:Inv X pins σ H s)(r:Rel X.K H P α S)(re:qZ X.K P α σ env)(rv:qJ v u)
  (rp:Rep X.K P α d v) (q:g d env S=.ok env1 S1) :
  Ao (As X.prog X.w) X.A (assign tg X.env u) (fun _ s1=>∃ σ1 H1 P1 α1,Inv X pins σ1 H1 s1∧Rel X.K H1 P1 α1 S1∧qZ X.K P1 α1 σ1 env1∧qF P P1∧α<+:α1) X.xe s:=by
 refine thn (hg pins s σ H v u (fun σ1 H1=>∃ P1 α1,Rel X.K H1 P1 α1 S1∧qZ X.K P1 α1 σ1 env1∧qF P P1∧α<+:α1) I rv ⟨P,α,env,S,d,r,re,rp,?_⟩) fun _ s1 ⟨σ1,H1,I1,P1,α1,q1,q2,q3,q4⟩=>⟨σ1,H1,P1,α1,I1,q1,q2,q3,q4⟩;rw[q];exact fun σ' H' P' α' r' re' e1 e2=>⟨P',α',r',re',e1,e2⟩
def bV (K:Ai)(P:Hp)(α : Aa Ad)(ds:Aa D)(o:AU):Prop:=∃ (its:Aa Ac) (n:Aj) (vs:Aa V),o={ cls:=.type "list",data:=.seq its.toArray n } ∧ qK vs its∧qD K P α ds vs∧ds.length≤lim
theorem bV.mono (e:qF P P1)(h:α<+:α1)(a:bV K P α ds o):bV K P1 α1 ds o:=by
 obtain⟨its,n,vs,q1,q2,q3,q4⟩:=a;exact⟨its,n,vs,q1,q2,qD.mono e h _ _ q3,q4⟩
theorem bV.cell (a:bV K P α ds o):∀ v,o.data≠.cell v:=by
 obtain⟨its,n,vs,rfl,_⟩:=a;intro v z;cases z
theorem Inv.pin1 {pins:Aa (Ad × AU)}{σ:_L.St}(I:Inv X pins σ H s)(f:zY X pins H a)(e:s.heap.get? a=Ab o)(d:∀ v,o.data≠.cell v):Inv X (pins++[(a,o)]) σ H s:=
 I.pins_of fun p hp=>(Bs.mp hp).elim (fun z=>I.pin p (AI _ z)) fun z=>by
  have e':p=(a,o):=by simpa using z
  subst e';exact⟨e,f.1,f.2.1,f.2.2.1,d⟩
theorem Inv.pinned1 {pins:Aa (Ad × AU)}{σ:_L.St}(I:Inv X (pins++[(a,o)]) σ H s):s.heap.get? a=Ab o∧H a=none:=by
 have:=I.pin (a,o) (AI _ (AI _ (by simp)))
 exact⟨this.1,this.2.1⟩
end
structure TurnSt (Y:Cx)(pins:Aa (Ad × AU))(P1:Hp)(α1:Aa Ad)(fp:Aa Ad)(acc:Ad)(env:qE)(S:Sto)(ds:Aa D)(s:Ag)(σ : _L.St)(H P:Hp)(α : Aa Ad)(o:AU):Prop where
 inv:Inv Y pins σ H s
 rel:Rel Y.K H P α S
 env:qZ Y.K P α σ env
 same:qF P1 P
 pre:α1<+:α
 fpn:∀ b∈fp,H b=none
 acn:H acc=none
 at':s.heap.get? acc=Ab o
 acc:bV Y.K P α ds o
def xS (cells:Aa (Ar × Ad)):Aa (Ar × Dt)→Aa (Ar × Ad)→Aa (Ar × Ad)
 |[],cs=>cs
 |(n,k)::r,cs=>xS cells r (if k == .free then (n,(cells.lookup n).getD 0)::cs else cs)
theorem jZ {env:Ek}{scope:Ch}(h:∀ y∈scope.names,y.2=.free→∃ c,env.cells.lookup y.1=Ab c):Jl scope env=pure (xS env.cells scope.names []):=by
 have go:∀ (l:Aa (Ar × Dt)) (cs:Aa (Ar × Ad)),(∀ y∈l,y.2=.free→∃ c,env.cells.lookup y.1=Ab c) →
   (forIn l cs fun x cs=>match x with|(name,kind)=>if (kind == Dc)=true then do let a ← cellOf env name;pure (HB ((name,a)::cs)) else pure (HB cs):Hs (Aa (Ar × Ad)))=pure (xS env.cells l cs):=by
  intro l
  induction l with
  |nil=>intro cs _;rfl
  |cons y r ih =>
   intro cs hl;obtain⟨n,k⟩:=y;rw[Kq];by_cases hk:k=.free
   ·subst hk
    obtain⟨c,hc⟩:=hl (n,.free) Ba rfl;have hc':env.cells.lookup n=Ab c:=hc;have e:cellOf env n=pure c:=by unfold cellOf;rw[hc']
    simp only[CW,Bv,e,pure_bind];rw[ih _ fun z hz=>hl z (AM _ hz)];simp only[xS,CW,Bv,hc',Hm]
   ·have hb:(k == Dc)=false:=by simpa using hk
    simp only[hb,AC,Bu,pure_bind];rw[ih _ fun z hz=>hl z (AM _ hz)];simp only[xS,hb,AC,Bu]
 unfold Jl;have:=go scope.names [] h;simp only[bind_pure];exact this
theorem uI {x:Ar}{c:Ad}:∀ (l:Aa (Ar × Dt)) (cs:Aa (Ar × Ad)),(xS cells l cs).lookup x=Ab c→cs.lookup x=Ab c∨((x,Dc)∈l∧c=(cells.lookup x).getD 0)
 |[],cs,h=>.inl h
 |(n,k)::r,cs,h=>by
  rcases uI r _ h with h|⟨h1,h2⟩
  ·by_cases hk:k=.free
   ·subst hk
    simp only[CW,Bv,E6] at h;cases hb:x == n with
    |true =>
     rw[hb] at h;have e:x=n:=by simpa using hb
     subst e;exact .inr ⟨Ba,(AW h).symm⟩
    |false=>rw[hb] at h;exact .inl h
   ·have hb:(k == Dc)=false:=by simpa using hk
    simp only[hb,AC,Bu] at h;exact .inl h
  ·exact .inr ⟨AM _ h1,h2⟩
theorem uA {x:Ar}:∀ (l:Aa (Ar × Dt)) (cs:Aa (Ar × Ad)),((x,Dc)∈l∨∃ c,cs.lookup x=Ab c)→∃ c,(xS cells l cs).lookup x=Ab c
 |[],cs,h=>by
  rcases h with h|h
  ·cases h
  ·exact h
 |(n,k)::r,cs,h=>by
  refine uA r _ ?_;rcases h with h|⟨c,h⟩
  ·rcases Aw.mp h with e|h
   ·cases e
    exact .inr ⟨(cells.lookup x).getD 0,by simp only[CW,Bv,E6]⟩
   ·exact .inl h
  ·by_cases hk:k=.free
   ·subst hk
    simp only[CW,Bv,E6];cases hb:x == n with
    |true=>exact .inr ⟨_,rfl⟩
    |false=>exact .inr ⟨c,h⟩
   ·have hb:(k == Dc)=false:=by simpa using hk
    simp only[hb,AC,Bu];exact .inr ⟨c,h⟩
structure CompSc (scX:Ch)(NX:Aa Ar)(scope:Ch)(N':Aa Ar)(cap:Aa (Ak Aj)):Prop where
 kind:scope.kind=.function
 names:∀ y∈scope.names,y.2=.local → scope.names.lookup y.1=Ab .local
 cel:∀ y∈scope.names,y.2=.cell→scope.names.lookup y.1=Ab .cell
 free:∀ y∈scope.names,y.2=.free→scX.names.lookup y.1=Ab .cell∨scX.names.lookup y.1=Ab .free
 fr2:∀ y∈scope.names,y.2=.free→scope.names.lookup y.1=Ab .free
 len:cap.length=N'.length
 caps:((cap.zip N').all fun p=>match p.1 with|none=>true|some i=>NX[i]? == Ab p.2&&scope.names.lookup p.2 == Ab .free)=true
 nd:N'.Nodup
def yF (cap:Aa (Ak Aj))(σ : _L.St):_L.St:=cap.map fun o=>match o with
 |none=>none
 |some i=>(σ[i]?).join
def xC (cap:Aa (Ak Aj))(env:qE):qE:=cap.map fun o=>match o with
 |none=>none
 |some i=>(env[i]?).join
theorem iZ {σ:_L.St}{env:qE}(re:qZ K P α σ env)(cap:Aa (Ak Aj)):qZ K P α (yF cap σ) (xC cap env):=by
 refine⟨by simp[yF,xC],fun j d e=>?_⟩
 unfold xC at e;unfold yF;rw[Bh] at e ⊢;cases q:cap[j]? with
 |none=>rw[q] at e;cases e
 |some o =>
  rw[q] at e;cases o with
  |none=>cases e
  |some i =>
   have e':(env[i]?).join=Ab d:=by simpa using e
   cases z:env[i]? with
   |none=>rw[z] at e';cases e'
   |some w =>
    rw[z] at e';have e'':w=Ab d:=e';subst e'';obtain⟨v,h1,h2⟩:=re.2 i d z;exact⟨v,by simp[h1],h2⟩
def qY (X:Cx)(N':Aa Ar)(scope:Ch)(cl:Aa (Ar × Ad))(C:Ad)(ex:Aa Ad)(s₀:Ag)(H₀:Hp):Cx:=
 { X with N:=N',s₀:=s₀,H₀:=H₀,env:=compEnvC scope cl C X.env,outer:=X.stack,stack:=X.stack,ex:=ex,fn:=fun x=>decide (scope.names.lookup x=Ab .cell),pn:=[],xe:=fun _ _=>CC }
theorem vV {scope:Ch}{env:Ek}:∀ {names:Aa (Ar × Dt)} {x:Ar} {k:Dt},
  (names.map fun (n,k)=>if (k == Dc&&env.scope.kind == .function&&env.kindOf n == Ab .cell) then (n,Hn) else (n,k)).lookup x=Ab k →
  names.lookup x=Ab k∨(k=.cell∧names.lookup x=Ab .free)
 |[],_,_,h=>by simp at h
 |(n,k0)::r,x,k,h=>by
  rw[Co,E6] at h;rw[E6];dsimp only at h;cases hb:(k0 == Dc&&env.scope.kind == .function&&env.kindOf n == Ab .cell) with
  |true =>
   rw[hb] at h;simp only[Bv] at h;cases hx:x == n with
   |true =>
    rw[hx] at h;have e:Hn=k:=AW h;have hk:k0=.free:=by
     have:=(A3 _ _).mp hb;have:=(A3 _ _).mp this.1;simpa using this.1
    subst hk;exact .inr ⟨e.symm,rfl⟩
   |false=>rw[hx] at h;exact vV (scope:=scope) h
  |false =>
   rw[hb] at h;simp only[AC,Bu] at h;cases hx:x == n with
   |true=>rw[hx] at h;exact .inl h
   |false=>rw[hx] at h;exact vV (scope:=scope) h
section
variable {X:Cx}{scope:Ch}{N':Aa Ar}{cap:Aa (Ak Aj)}{pins:Aa (Ad × AU)}{σ : _L.St}{H2:Hp}{s2:Ag}{fp:Aa Ad}
theorem j9 (S:CompSc X.env.scope X.N scope N' cap){x:Ar}{k:Dt}(h:(relabel scope X.env).names.lookup x=Ab k):scope.names.lookup x=Ab k∨(k=.cell∧scope.names.lookup x=Ab .free):=vV (scope:=scope) h
theorem cQ (S:CompSc X.env.scope X.N scope N' cap)(ok:X.Ok){x:Ar}{c:Ad}(h:(xS X.env.cells scope.names []).lookup x=Ab c):X.env.cells.lookup x=Ab c∧(x,Dc)∈scope.names:=by
 rcases uI _ _ h with h|⟨hm,hc⟩
 ·cases h
 ·have:=S.free _ hm rfl
  obtain⟨c',hc'⟩:=ok.has x this;rw[hc',Hm] at hc;rw[hc',hc];exact⟨rfl,hm⟩
def ZP (scope:Ch)(C:Ad):Aa (Ar × Ad):=Dr (C+1) scope.names []
def j8 (X:Cx)(scope:Ch)(C:Ad):Aa (Ar × Ad):=Dr (C+1) scope.names (xS X.env.cells scope.names [])
theorem wR:∀ (names:Aa (Ar × Dt)) (lo:Aj) (acc:Aa (Ar × Ad)),Dr lo names acc=Dr lo names [] ++ acc
 |[],_,_=>rfl
 |(n,k)::r,lo,acc=>by
  unfold Dr
  split
  ·rw[wR r _ ((n,lo)::acc),wR r _ [(n,lo)],Ex];rfl
  ·exact wR r lo acc
set_option tactic.hygienic true in
theorem kD:∀ (names:Aa (Ar × Dt)) (lo:Aj) {n:Ar} {c:Ad},(n,c)∈Dr lo names [] → (n,Hn)∈names
 |[],_,_,_,h=>by cases h
 |(n0,k)::r,lo,n,c,h=>by
  unfold Dr at h
  split at h
  ·rename_i hk
   rw[wR] at h;rcases Bs.mp h with h|h
   ·exact AM _ (kD r _ h)
   ·have e:(n,c)=(n0,lo):=by simpa using h
    cases e;have:k=Hn:=by simpa using hk
    rw[this];exact Ba
  ·exact AM _ (kD r _ h)
theorem zU (S:CompSc X.env.scope X.N scope N' cap)(ok:X.Ok){C:Ad}{x:Ar}{c:Ad}(h:(j8 X scope C).lookup x=Ab c):((x,c)∈ZP scope C∧scope.names.lookup x=Ab .cell)∨(X.env.cells.lookup x=Ab c∧(x,Dc)∈scope.names):=by
 unfold j8 at h;rw[wR,Nt] at h;cases q:(Dr (C+1) scope.names []).lookup x with
 |some c' =>
  rw[q] at h;cases h;have m:=Cu q;exact .inl ⟨m,S.cel _ (kD _ _ m) rfl⟩
 |none =>
  rw[q] at h;exact .inr (cQ S ok h)
theorem nX (S:CompSc X.env.scope X.N scope N' cap)(ok:X.Ok){C:Ad}{x:Ar}(h:scope.names.lookup x=Ab .cell∨scope.names.lookup x=Ab .free):∃ c,(j8 X scope C).lookup x=Ab c:=by
 unfold j8;rw[wR,Nt];rcases h with h|h
 ·have:=EE scope.names (C+1) [] (x:=x) (.inl h)
  obtain⟨c,hc⟩:=E0.mp this;exact⟨c,by rw[hc];rfl⟩
 ·obtain⟨c',hc'⟩:=uA (cells:=X.env.cells) scope.names [] (.inl (Cu h))
  rw[hc'];cases (Dr (C+1) scope.names []).lookup x with
  |none=>exact⟨c',rfl⟩
  |some c=>exact⟨c,rfl⟩
theorem YA (S:CompSc X.env.scope X.N scope N' cap)(I2:Inv X pins σ H2 s2)(hf:∀ b∈fp,zY X pins H2 b)(hlt:∀ b∈fp,b<s2.heap.objs.size)(hC:s2.heap.objs.size≤C){h1:A5}(co:CellsOk h1 (C+1) (ZP scope C)) :
  (qY X N' scope (j8 X scope C) C fp s2 H2).Ok where
 mod:=I2.ok.mod
 kind:=S.kind
 glob:=I2.ok.glob
 blt:=I2.ok.blt
 above:=hC
 inj:=fun x y c h1 h2=>by
  rcases zU S I2.ok h1 with⟨m1,_⟩|⟨m1,_⟩ <;> rcases zU S I2.ok h2 with⟨m2,_⟩|⟨m2,_⟩
  ·exact PySem.name_of_addr co.apart m1 m2
  ·obtain⟨v,ob,hob,_⟩:=I2.cell y c m2
   exact absurd (Ax (Au hob) hC) (Ha.mpr (CP (co.empty x c m1).2))
  ·obtain⟨v,ob,hob,_⟩:=I2.cell x c m1
   exact absurd (Ax (Au hob) hC) (Ha.mpr (CP (co.empty y c m2).2))
  ·exact I2.ok.inj x y c m1 m2
 has:=fun x hx=>by
  have hx':(relabel scope X.env).names.lookup x=Ab .cell∨(relabel scope X.env).names.lookup x=Ab .free:=hx;refine nX S I2.ok ?_;rcases hx' with h|h
  ·rcases j9 S h with h|⟨_,h⟩
   ·exact .inl h
   ·exact .inr h
  ·rcases j9 S h with h|⟨z,_⟩
   ·exact .inr h
   ·cases z
 cab:=fun x c h h2=>by
  have hx:scope.names.lookup x=Ab .cell:=AK h;rcases zU S I2.ok h2 with⟨m,_⟩|⟨_,m⟩
  ·exact Bm hC (CP (co.empty x c m).2)
  ·have:=S.fr2 _ m rfl
   have this':scope.names.lookup x=Ab .free:=this;rw[hx] at this';cases this'
 hd:=I2.ok.hd
 frames:=I2.ok.frames
 stk:=.inl rfl
 exf:=fun b hb=>⟨AL (Ax (hlt b hb) hC),fun x c h=>by
  rcases zU S I2.ok h with⟨m,_⟩|⟨m,_⟩
  ·exact CZ (AL (ET (Ax (hlt b hb) hC) (co.empty x c m).2))
  ·exact(hf b hb).2.2.2.2.1 x c m⟩
 bs:=I2.bs
 bsz:=Bm I2.ok.bsz I2.sz
 noex:=fun b o e hb=>by
  obtain⟨_,_,_,h,_⟩:=hf b hb;rcases h with h|h
  ·exact I2.ok.noex b o e h
  ·exact absurd (Ax (Au e) (Bm I2.ok.bsz h)) (Cj _)
 exfs:=fun b hb hb2=>by
  obtain⟨_,h1,h2,_⟩:=hf b hb;rcases Aw.mp (I2.stkSub b hb2) with z|z
  ·exact h1 z
  ·exact h2 z
 funs:=I2.stack
 frf:=I2.stkFree
theorem oX {s4:Ag}{m:Ar→Ak Ac}(S:CompSc X.env.scope X.N scope N' cap)(I2:Inv X pins σ H2 s2)(hf:∀ b∈fp,zY X pins H2 b)(hlt:∀ b∈fp,b<s2.heap.objs.size)(hC:s2.heap.objs.size≤C)
  (hn:s4.heap.Ns C m) (os:s4.os=s2.os) (gens:s4.gens=s2.gens) (keep:∀ b o,s2.heap.get? b=Ab o→s4.heap.get? b=Ab o) (co:CellsOk s4.heap (C+1) (ZP scope C)) :
  Inv (qY X N' scope (j8 X scope C) C fp s2 H2) [] (yF cap σ) H2 s4 where
 ok:=YA S I2 hf hlt hC co
 os:=os
 bare:=gens▸I2.bare
 base:=Un.kept keep
 loc:=by
  refine⟨m,hn,fun j x v h1 h2 h3=>?_⟩;have h1':N'[j]? = Ab x:=h1;unfold yF at h2;rw[Bh] at h2;cases q:cap[j]? with
  |none=>rw[q] at h2;cases h2
  |some o =>
   rw[q] at h2;cases o with
   |none=>cases h2
   |some i =>
    have e':(σ[i]?).join=Ab v:=by simpa using h2
    have hσ:σ[i]? = Ab (Ab v):=by
     cases z:σ[i]? with
     |none=>rw[z] at e';cases e'
     |some w=>rw[z] at e';have:w=Ab v:=e';rw[this]
    have hz:(Ab i,x)∈cap.zip N':=by
     refine EI.mpr ⟨j,?_⟩;rw[IM];exact⟨q,h1'⟩
    have hc:=AQ.mp S.caps _ hz;simp only[A3,Jk] at hc;obtain⟨hN,hfr⟩:=hc;have hk:=S.free _ (Cu hfr) rfl;obtain⟨mo,hmo,hl⟩:=I2.loc;have vis:Vis X.env.scope x:=by
     rcases hk with k|k
     ·exact .inr (.inl k)
     ·exact .inr (.inr k)
    obtain⟨u,ru,lk⟩:=hl i x v hN hσ vis;refine⟨u,ru,?_⟩;rcases lk with⟨kl,_⟩|⟨_,c,hcl,hcell⟩
    ·have kl':X.env.scope.names.lookup x=Ab .local:=kl
     rcases hk with k|k
     ·have k':X.env.scope.names.lookup x=Ab .cell:=k
      rw[kl'] at k';cases k'
     ·have k':X.env.scope.names.lookup x=Ab .free:=k
      rw[kl'] at k';cases k'
    ·obtain⟨c',hc'⟩:=nX S I2.ok (C:=C) (.inr hfr)
     have e2:X.env.cells.lookup x=Ab c':=by
      rcases zU S I2.ok hc' with⟨_,z⟩|⟨z,_⟩
      ·rw[hfr] at z;cases z
      ·exact z
     rw[hcl] at e2;cases e2;refine .inr ⟨?_,c,hc',?_⟩
     ·have h3':Vis (relabel scope X.env) x:=h3
      rcases h3' with h|h|h
      ·rcases j9 S h with h|⟨z,_⟩
       ·rw[hfr] at h;cases h
       ·cases z
      ·exact .inl h
      ·exact .inr h
     ·obtain⟨ob,hob,hd⟩:=hcell
      exact⟨ob,keep c ob hob,hd⟩
 cell:=fun x c h=>by
  rcases zU S I2.ok h with⟨m,_⟩|⟨m,_⟩
  ·exact⟨none,(co.empty x c m).1⟩
  ·obtain⟨v,ob,hob,hd⟩:=I2.cell x c m
   exact⟨v,ob,keep c ob hob,hd⟩
 free:=I2.hok.fresh hC
 freeC:=fun x c h=>by
  rcases zU S I2.ok h with⟨m,_⟩|⟨m,_⟩
  ·exact I2.hok.fresh (Bm hC (CP (co.empty x c m).2))
  ·exact I2.freeC x c m
 pin:=fun p hp=>absurd (show p∈([]:Aa (Ad × AU)) from hp) (by simp)
 hok:=I2.hok.kept keep
 len:=by
  show (yF cap σ).length=N'.length;simp[yF,S.len]
end
theorem aH {P:A1}{w:AH}{h:A5}{o:HO}(x:HOk P w H h)(hn:H a=none)(new:zA P w (upd H a o) h a o):HOk P w (upd H a o) h:=fun b u e=>by
 by_cases hb:b=a
 ·subst hb;rw[qT] at e;cases e;exact new
 ·rw[qH hb] at e
  exact(x b u e).stay (fun c v _ q=>q) (fun c q=>by rw[qH (qP q hn)];exact q) fun c xs q=>by rw[qH (qP q hn)];exact q
theorem aG {P:A1}{w:AH}{h h':A5}(x:HOk P w H h)(hn:H C=none)(k:∀ b o,b≠C→h.get? b=Ab o→h'.get? b=Ab o):HOk P w H h':=fun b u e =>
 (x b u e).stay (fun c v hc q=>k c v (by
  rintro rfl;rcases hc with z|z
  ·subst z;rw[hn] at e;cases e
  ·rw[hn] at z;cases z) q) (fun _ q=>q) fun _ _ q=>q
section
variable {X:Cx}{elt tg iter:AF}{ifs:Aa AF}{scope:Ch}{pos:CA}{N':Aa Ar}{cap:Aa (Ak Aj)}{fi:DI}{g:DG}{t:DT}{fe:DE}
def gA (X:Cx)(pins:Aa (Ad × AU))(σ : _L.St)(P1:Hp)(α1:Aa Ad)(ds:Aa D)(SF:Sto)(acc C:Ad)(s:Ag):Prop:=
 ∃ (H' P':Hp) (α' : Aa Ad) (vs:Aa V),Inv X pins σ (upd H' acc (.lst vs)) s∧Rel X.K H' P' α' SF∧H' acc=none∧qF P1 P'∧α1<+:α'∧qD X.K P' α' ds vs∧H' C=none
theorem oW {Y:Cx}{pins:Aa (Ad × AU)}{σ σ':_L.St}{H2:Hp}{s2 s':Ag}{fp:Aa Ad}{acc:Ad}{H' P':Hp}{α':Aa Ad}{envF:qE}{SF:Sto}{cl:Aa (Ar × Ad)}(I2:Inv X pins σ H2 s2)
  (hf:∀ b∈fp,zY X pins H2 b) (hY:Y=qY X N' scope cl C fp s2 H2) (hC:s2.heap.objs.size≤C) (hA:s2.heap.objs.size≤acc) (hne:acc≠C) (st:TurnSt Y [] P1 α1 fp acc envF SF ds s' σ' H' P' α' o)
  {h':A5} (sb:Di C s'.heap h'):gA X pins σ P1 α1 ds SF acc C { s' with heap:=h' }:=by
 subst hY;obtain⟨its,n,vs,rfl,rv,rp,hz⟩:=st.acc;have kC:∀ b o,b≠C→s'.heap.get? b=Ab o→h'.get? b=Ab o:=fun b o hb e=>(sb.2 b hb).trans e;have nC:∀ b o,s2.heap.get? b=Ab o→b≠C:=fun b o e=>AL (Ax (Au e) hC);have nA:∀ b o,s2.heap.get? b=Ab o→b≠acc:=fun b o e=>AL (Ax (Au e) hA);have base:Un (frs X.stack) fp H2 H' s2.heap s'.heap:=st.inv.base;have nt:∀ b u,H' b=Ab u→b≠acc:=fun b u e=>qP e st.acn;have un:Un (frs X.stack) fp H2 (upd H' acc (.lst vs)) s2.heap h':=by
  refine⟨fun b ob q hn hb hx=>kC b ob (nC b ob q) (base.keep b ob q hn hb hx),fun b ob q hn hb hx=>?_,fun b ob q hn hx=>?_,fun b ob q hx=>?_,fun b xs q=>?_,fun b ob u q=>?_,fun b ps q=>?_⟩
  ·obtain⟨sl,e⟩:=base.slot b ob q hn hb hx
   exact⟨sl,kC b _ (nC b ob q) e⟩
  ·rw[qH (nA b ob q)];exact base.free b ob q hn hx
  ·obtain⟨o',e⟩:=base.there b ob q hx
   exact⟨o',kC b o' (nC b ob q) e⟩
  ·have:=base.tups b xs q;rw[qH (nt _ _ this)];exact this
  ·have:=base.frzs b ob u q;rw[qH (nt _ _ this)];exact this
  ·obtain⟨more,e⟩:=base.tbls b ps q
   exact⟨more,by rw[qH (nt _ _ e)];exact e⟩
 have hok':HOk X.prog X.w H' h':=aG st.inv.hok st.inv.free kC;have hat:h'.get? acc=Ab { cls:=.type "list",data:=.seq its.toArray n }:=kC acc _ hne st.at';have hok:HOk X.prog X.w (upd H' acc (.lst vs)) h':=aH hok' st.acn ⟨by rw[← rp.length,← zT];exact hz,its,n,rv,hat⟩
 refine⟨H',P',α',vs,?_,st.rel,st.acn,st.same,st.pre,rp,st.inv.free⟩;exact I2.call' (s':={ s' with heap:=h' }) (ch:=fp) (st.inv.os) un hok st.inv.bare fun b hb=>by
  obtain⟨_,h1,h2,h3,h4,h5⟩:=hf b hb;exact⟨h3,h1,h4,h5⟩
theorem dU (S:CompSc X.env.scope X.N scope N' cap)(ok:X.Ok):Jl scope X.env=pure (xS X.env.cells scope.names []):=jZ fun y hy hk=>ok.has y.1 (S.free y hy hk)
theorem YT {pins:Aa (Ad × AU)}{σ:_L.St}{SF:Sto}{acc:Ad}{Q:VK}(c:gA X pins σ P1 α1 ds SF acc C s)(ok:OkV X P1 α1 Q (.lst ds) SF):EP X pins σ Q (.ref acc) s:=by
 obtain⟨H',P',α',vs,I,r,hn,e1,e2,rp,_⟩:=c;exact⟨.ref acc,_,I,rfl,wM r hn rp fun v H2 P2 α2 r2 q1 q2 q3=>ok v H2 P2 α2 r2 (e1.trans q1) (e2.trans q2) q3⟩
end
end _D
section
namespace _D
open PySem PySem.Spec PyProof.Rows _L PySem.SeqAt
def b01 (b:Ap):Am:=if b then 1 else 0
mutual
def eqD:D→D→Ap
 |.non,.non=>true
 |.bl a,.bl b=>a == b
 |.bl a,.int b=>b01 a == b
 |.int a,.bl b=>a == b01 b
 |.int a,.int b=>a == b
 |.str a,.str b=>a == b
 |.tup xs,.tup ys=>xQ xs ys
 |.lst xs,.lst ys=>xQ xs ys
 |_,_=>false
def xQ:Aa D→Aa D→Ap
 |[],[]=>true
 |x::xs,y::ys=>eqD x y&&xQ xs ys
 |_,_=>false
end
def pl:Aj→D→Ap
 |_,.non=>true
 |_,.bl _=>true
 |_,.int _=>true
 |_,.str _=>true
 |n+1,.tup xs=>xs.all (pl n)
 |n+1,.lst xs=>xs.all (pl n)
 |_,_=>false
theorem a8 (x y:D)(xs ys:Aa D):xQ (x::xs) (y::ys)=(eqD x y&&xQ xs ys):=rfl
theorem vN:∀ (xs ys:Aa D),xQ xs ys=((AR (min xs.length ys.length)).all (fun j=>eqD (xs.getD j .non) (ys.getD j .non))&&xs.length == ys.length)
 |[],[]=>rfl
 |[],y::ys=>rfl
 |x::xs,[]=>rfl
 |x::xs,y::ys=>by
  have ih:=vN xs ys;rw[a8,ih,Bo,Bo,Nat.succ_min_succ,Hb,Mu,Gj,Bool.and_assoc];have e:(xs.length+1 == ys.length+1)=(xs.length == ys.length):=by simp
  rw[e];rfl
theorem QH {xs ys:Aa D}(h:xs.length≠ys.length):xQ xs ys=false:=by
 rw[vN];simp[h]
theorem fG (xs ys:Aa D):eqD (.tup xs) (.tup ys)=xQ xs ys:=rfl
theorem fF (xs ys:Aa D):eqD (.lst xs) (.lst ys)=xQ xs ys:=rfl
section
variable {X:Cx}{pins:Aa (Ad × AU)}{σ : _L.St}{H P:Hp}{α : Aa Ad}{S:Sto}{s:Ag}
inductive Kd (X:Cx)(P:Hp)(α : Aa Ad)(s:Ag):D→Ac→Prop where
 |non:Kd X P α s .non .none
 |bl (b:Ap):Kd X P α s (.bl b) (.bool b)
 |int (i:Am) (t:Nl):Kd X P α s (.int i) (.int i t)
 |str (x:Ar) (t:Nl):Kd X P α s (.str x) (.str x t)
 |tup (a:Ad) (xs:Aa D) (its:Aa Ac) (vs:Aa V) (rp:qD X.K P α xs vs) (rv:qK vs its) (h:s.heap.IsTuple a its.toArray) (q:SqT X.K P a vs):Kd X P α s (.tup xs) (.ref a)
 |lst (a:Ad) (xs:Aa D) (its:Aa Ac) (vs:Aa V) (rp:qD X.K P α xs vs) (rv:qK vs its) (h:s.heap.IsList a its.toArray) (q:SqX X.K P a vs):Kd X P α s (.lst xs) (.ref a)
theorem uC (I:Inv X pins σ H s)(r:Rel X.K H P α S){n:Aj}{d:D}{v:V}{u:Ac}(h:pl n d=true)(p:Rep X.K P α d v)(rv:qJ v u):Kd X P α s d u:=by
 cases d with
 |non=>simp only[Rep] at p;subst p;cases rv;exact .non
 |bl b=>simp only[Rep] at p;subst p;cases rv;exact .bl b
 |int i=>simp only[Rep] at p;subst p;obtain⟨t,rfl⟩:=rv;exact .int i t
 |str x=>simp only[Rep] at p;subst p;obtain⟨t,rfl⟩:=rv;exact .str x t
 |tup xs =>
  simp only[Rep] at p;obtain⟨a,vs,rfl,q,t⟩:=p;cases rv;obtain⟨its,r1,p1,_⟩:=I.tuple (x8 r.sub q);exact .tup a xs its vs t r1 p1 q
 |lst xs =>
  simp only[Rep] at p;obtain⟨a,vs,rfl,q,t⟩:=p;cases rv;obtain⟨its,r1,p1,_⟩:=I.list ((x6 r.sub q).l);exact .lst a xs its vs t r1 p1.isList q
 |_=>cases n <;> exact Ed h
theorem yK {ds:Aa D}{vs:Aa V}{its:Aa Ac}(rp:qD X.K P α ds vs)(rv:qK vs its){j:Aj}(h:j<its.toArray.size):∃ v,Rep X.K P α (ds.getD j .non) v∧qJ v its.toArray[j]∧ds.getD j .non∈ds:=by
 have l1:=rp.length;have l2:=rv.length;have hj:j<its.length:=by simpa using h
 have hd:j<ds.length:=by omega
 obtain⟨v,e1,p⟩:=rp.get (Aq hd);obtain⟨u,e2,q⟩:=rv.get e1;have e3:its.toArray[j]=u:=by
  have:its[j]? = Ab its[j]:=Aq hj;rw[this] at e2;simpa using AW e2
 have e4:ds.getD j .non=ds[j]:=by simp[EJ,hd]
 rw[e3,e4];exact⟨v,p,q,Fa hd⟩
theorem uF {n:Aj}{ds:Aa D}(h:ds.all (pl n)=true){d:D}(hd:d∈ds):pl n d=true:=AQ.mp h d hd
theorem V5 {h:A5}{a:Ad}{xs ys:AB Ac}(h1:h.IsTuple a xs)(h2:h.IsTuple a ys):xs=ys:=by
 obtain⟨o,e,_,n,d⟩:=h1;obtain⟨o',e',_,n',d'⟩:=h2;cases e.symm.trans e';cases d.symm.trans d';rfl
theorem V2 {h:A5}{a:Ad}{xs ys:AB Ac}(h1:h.IsList a xs)(h2:h.IsList a ys):xs=ys:=by
 obtain⟨o,e,_,n,d⟩:=h1;obtain⟨o',e',_,n',d'⟩:=h2;cases e.symm.trans e';cases d.symm.trans d';rfl
theorem GH {h:A5}{a:Ad}{xs ys:AB Ac}(h1:h.IsTuple a xs)(h2:h.IsList a ys):CC:=by
 obtain⟨o,e,c,_⟩:=h1;obtain⟨o',e',c',_⟩:=h2;cases e.symm.trans e';exact absurd (c.symm.trans c') (by decide)
inductive Seqs (X:Cx)(P:Hp)(α : Aa Ad)(xs ys:Aa D)(its its2:Aa Ac):Prop
 |mk (vs ws:Aa V) (rp:qD X.K P α xs vs) (rv:qK vs its) (rp2:qD X.K P α ys ws) (rv2:qK ws its2):Seqs X P α xs ys its its2
theorem Seqs.len1 {xs ys:Aa D}{its its2:Aa Ac}(q:Seqs X P α xs ys its its2):xs.length=its.length:=by
 obtain⟨vs,ws,rp,rv,_,_⟩:=q;exact rp.length.trans rv.length
theorem Seqs.len2 {xs ys:Aa D}{its its2:Aa Ac}(q:Seqs X P α xs ys its its2):ys.length=its2.length:=by
 obtain⟨vs,ws,_,_,rp,rv⟩:=q;exact rp.length.trans rv.length
inductive SameR (X:Cx)(P:Hp)(α : Aa Ad):D→D→Prop
 |eq {d d':D} (h:eqD d d'=true):SameR X P α d d'
 |tt (xs ys:Aa D) (its:Aa Ac) (q:Seqs X P α xs ys its its):SameR X P α (.tup xs) (.tup ys)
 |ll (xs ys:Aa D) (its:Aa Ac) (q:Seqs X P α xs ys its its):SameR X P α (.lst xs) (.lst ys)
theorem rA {d d':D}{u:Ac}(k1:Kd X P α s d u)(k2:Kd X P α s d' u):SameR X P α d d':=by
 cases k1 with
 |non=>cases k2;exact .eq rfl
 |bl b=>cases k2;exact .eq (CW _)
 |int i t=>cases k2;exact .eq (CW _)
 |str x t=>cases k2;exact .eq (CW _)
 |tup a xs its vs rp rv h q =>
  cases k2 with
  |tup _ ys its2 ws rp2 rv2 h2 q2 =>
   cases V5 h h2;exact .tt xs ys its ⟨vs,ws,rp,rv,rp2,rv2⟩
  |lst _ ys its2 ws rp2 rv2 h2 q2=>exact(GH h h2).elim
 |lst a xs its vs rp rv h q =>
  cases k2 with
  |lst _ ys its2 ws rp2 rv2 h2 q2 =>
   cases V2 h h2;exact .ll xs ys its ⟨vs,ws,rp,rv,rp2,rv2⟩
  |tup _ ys its2 ws rp2 rv2 h2 q2=>exact(GH h2 h).elim
theorem mP (I:Inv X pins σ H s)(r:Rel X.K H P α S){m:Aj}(ih:∀ (d d':D) (u:Ac),pl m d=true→pl m d'=true→Kd X P α s d u→Kd X P α s d' u→eqD d d'=true){xs ys:Aa D}{its:Aa Ac}(h1:xs.all (pl m)=true)(h2:ys.all (pl m)=true)(q:Seqs X P α xs ys its its):xQ xs ys=true:=by
 obtain⟨vs,ws,rp,rv,rp2,rv2⟩:=q;have l1:=rp.length.trans rv.length;have l2:=rp2.length.trans rv2.length;rw[vN,l1,l2,Od,A3];refine⟨AQ.mpr fun j hj=>?_,BEq.rfl⟩;have hj:j<its.toArray.size:=Cq.mp hj;obtain⟨w1,y1,z1,m1⟩:=yK rp rv hj;obtain⟨w2,y2,z2,m2⟩:=yK rp2 rv2 hj;exact ih _ _ _ (uF h1 m1) (uF h2 m2) (uC I r (uF h1 m1) y1 z1) (uC I r (uF h2 m2) y2 z2)
theorem dZ (I:Inv X pins σ H s)(r:Rel X.K H P α S):∀ (n:Aj) (d d':D) (u:Ac),pl n d=true→pl n d'=true→Kd X P α s d u→Kd X P α s d' u→eqD d d'=true:=by
 intro n
 induction n with
 |zero =>
  intro d d' u h1 h2 k1 k2;cases rA k1 k2 with
  |eq h=>exact h
  |tt=>exact Ed h1
  |ll=>exact Ed h1
 |succ m ih =>
  intro d d' u h1 h2 k1 k2;cases rA k1 k2 with
  |eq h=>exact h
  |tt xs ys its q=>exact(fG xs ys).trans (mP I r ih h1 h2 q)
  |ll xs ys its q=>exact(fF xs ys).trans (mP I r ih h1 h2 q)
structure E3 (A:AG)(s:Ag)(u u':Ac)(b:Ap):Prop where
 eq:EqAt A s u u' b
 rc:RcAt A s u u' b
 ne:RcNeAt A s u u' (!b)
inductive EqR (X:Cx)(P:Hp)(α : Aa Ad)(A:AG)(s:Ag):D→D→Ac→Ac→Prop
 |of {d d':D} {u u':Ac} (b:Ap) (e:eqD d d'=b) (h:E3 A s u u' b):EqR X P α A s d d' u u'
 |tt (a b:Ad) (xs ys:Aa D) (its its2:Aa Ac) (ha:s.heap.IsTuple a its.toArray) (hb:s.heap.IsTuple b its2.toArray) (q:Seqs X P α xs ys its its2):EqR X P α A s (.tup xs) (.tup ys) (.ref a) (.ref b)
 |ll (a b:Ad) (xs ys:Aa D) (its its2:Aa Ac) (ha:s.heap.IsList a its.toArray) (hb:s.heap.IsList b its2.toArray) (q:Seqs X P α xs ys its its2):EqR X P α A s (.lst xs) (.lst ys) (.ref a) (.ref b)
theorem W4 {A:AG}{d d':D}{u u':Ac}(hu:A.units<CD)(k1:Kd X P α s d u)(k2:Kd X P α s d' u'):EqR X P α A s d d' u u':=by
 cases k1 with
 |non  =>
  cases k2 with
  |non  => exact .of _ rfl ⟨Re _,RcAt.none_none,RcNeAt.none_none⟩
  |bl b=>exact .of _ rfl ⟨EqAt.none_bool b,RcAt.none_bool b,RcNeAt.none_bool b⟩
  |int b tb=>exact .of _ rfl ⟨EqAt.none_int b tb,RcAt.none_int b tb,RcNeAt.none_int b tb⟩
  |str b tb=>exact .of _ rfl ⟨EqAt.none_str b tb,RcAt.none_str b tb,RcNeAt.none_str b tb⟩
  |tup b ys its2 ws rp2 rv2 hb qb=>exact .of _ rfl ⟨EqAt.none_tuple hb hu,RcAt.none_tuple hb hu,RcNeAt.none_tuple hb hu⟩
  |lst b ys its2 ws rp2 rv2 hb qb=>exact .of _ rfl ⟨EqAt.none_list hb hu,RcAt.none_list hb hu,RcNeAt.none_list hb hu⟩
 |bl a =>
  cases k2 with
  |non  => exact .of _ rfl ⟨EqAt.bool_none a,RcAt.bool_none a,RcNeAt.bool_none a⟩
  |bl b=>exact .of _ rfl ⟨EqAt.bool_bool a b,RcAt.bool_bool a b,RcNeAt.bool_bool a b⟩
  |int b tb=>exact .of _ rfl ⟨EqAt.bool_int a b tb,RcAt.bool_int a b tb,RcNeAt.bool_int a b tb⟩
  |str b tb=>exact .of _ rfl ⟨EqAt.bool_str a b tb,RcAt.bool_str a b tb,RcNeAt.bool_str a b tb⟩
  |tup b ys its2 ws rp2 rv2 hb qb=>exact .of _ rfl ⟨EqAt.bool_tuple a hb hu,RcAt.bool_tuple a hb hu,RcNeAt.bool_tuple a hb hu⟩
  |lst b ys its2 ws rp2 rv2 hb qb=>exact .of _ rfl ⟨EqAt.bool_list a hb hu,RcAt.bool_list a hb hu,RcNeAt.bool_list a hb hu⟩
 |int a ta =>
  cases k2 with
  |non  => exact .of _ rfl ⟨EqAt.int_none a ta,RcAt.int_none a ta,RcNeAt.int_none a ta⟩
  |bl b=>exact .of _ rfl ⟨EqAt.int_bool a ta b,RcAt.int_bool a ta b,RcNeAt.int_bool a ta b⟩
  |int b tb=>exact .of _ rfl ⟨EqAt.int_int a ta b tb,RcAt.int_int a ta b tb,RcNeAt.int_int a ta b tb⟩
  |str b tb=>exact .of _ rfl ⟨EqAt.int_str a ta b tb,RcAt.int_str a ta b tb,RcNeAt.int_str a ta b tb⟩
  |tup b ys its2 ws rp2 rv2 hb qb=>exact .of _ rfl ⟨EqAt.int_tuple a ta hb hu,RcAt.int_tuple a ta hb hu,RcNeAt.int_tuple a ta hb hu⟩
  |lst b ys its2 ws rp2 rv2 hb qb=>exact .of _ rfl ⟨EqAt.int_list a ta hb hu,RcAt.int_list a ta hb hu,RcNeAt.int_list a ta hb hu⟩
 |str a ta =>
  cases k2 with
  |non  => exact .of _ rfl ⟨EqAt.str_none a ta,RcAt.str_none a ta,RcNeAt.str_none a ta⟩
  |bl b=>exact .of _ rfl ⟨EqAt.str_bool a ta b,RcAt.str_bool a ta b,RcNeAt.str_bool a ta b⟩
  |int b tb=>exact .of _ rfl ⟨EqAt.str_int a ta b tb,RcAt.str_int a ta b tb,RcNeAt.str_int a ta b tb⟩
  |str b tb=>exact .of _ rfl ⟨EqAt.str_str a ta b tb,RcAt.str_str a ta b tb,RcNeAt.str_str a ta b tb⟩
  |tup b ys its2 ws rp2 rv2 hb qb=>exact .of _ rfl ⟨EqAt.str_tuple a ta hb hu,RcAt.str_tuple a ta hb hu,RcNeAt.str_tuple a ta hb hu⟩
  |lst b ys its2 ws rp2 rv2 hb qb=>exact .of _ rfl ⟨EqAt.str_list a ta hb hu,RcAt.str_list a ta hb hu,RcNeAt.str_list a ta hb hu⟩
 |tup a xs its vs rp rv ha qa =>
  cases k2 with
  |non  => exact .of _ rfl ⟨EqAt.tuple_none ha hu,RcAt.tuple_none ha hu,RcNeAt.tuple_none ha hu⟩
  |bl b=>exact .of _ rfl ⟨EqAt.tuple_bool b ha hu,RcAt.tuple_bool b ha hu,RcNeAt.tuple_bool b ha hu⟩
  |int b tb=>exact .of _ rfl ⟨EqAt.tuple_int b tb ha hu,RcAt.tuple_int b tb ha hu,RcNeAt.tuple_int b tb ha hu⟩
  |str b tb=>exact .of _ rfl ⟨EqAt.tuple_str b tb ha hu,RcAt.tuple_str b tb ha hu,RcNeAt.tuple_str b tb ha hu⟩
  |tup b ys its2 ws rp2 rv2 hb qb=>exact .tt a b xs ys its its2 ha hb ⟨vs,ws,rp,rv,rp2,rv2⟩
  |lst b ys its2 ws rp2 rv2 hb qb=>exact .of _ rfl ⟨EqAt.tuple_list ha hb hu,RcAt.tuple_list ha hb hu,RcNeAt.tuple_list ha hb hu⟩
 |lst a xs its vs rp rv ha qa =>
  cases k2 with
  |non  => exact .of _ rfl ⟨EqAt.list_none ha hu,RcAt.list_none ha hu,RcNeAt.list_none ha hu⟩
  |bl b=>exact .of _ rfl ⟨EqAt.list_bool b ha hu,RcAt.list_bool b ha hu,RcNeAt.list_bool b ha hu⟩
  |int b tb=>exact .of _ rfl ⟨EqAt.list_int b tb ha hu,RcAt.list_int b tb ha hu,RcNeAt.list_int b tb ha hu⟩
  |str b tb=>exact .of _ rfl ⟨EqAt.list_str b tb ha hu,RcAt.list_str b tb ha hu,RcNeAt.list_str b tb ha hu⟩
  |tup b ys its2 ws rp2 rv2 hb qb=>exact .of _ rfl ⟨EqAt.list_tuple ha hb hu,RcAt.list_tuple ha hb hu,RcNeAt.list_tuple ha hb hu⟩
  |lst b ys its2 ws rp2 rv2 hb qb=>exact .ll a b xs ys its its2 ha hb ⟨vs,ws,rp,rv,rp2,rv2⟩
theorem E3.cast {A:AG}{u u':Ac}{b c:Ap}(e:c=b)(h:E3 A s u u' b):E3 A s u u' c:=e▸h
theorem MA {A:AG}{a b:Ad}{xs ys:Aa D}{its its2:Aa Ac}(hu:A.units<CD)(ha:s.heap.IsTuple a its.toArray)(hb:s.heap.IsTuple b its2.toArray)(l1:xs.length=its.length)(l2:ys.length=its2.length)
  (sub:∀ j (h1:j<its.toArray.size) (h2:j<its2.toArray.size),EqAt A.in1 s its.toArray[j] its2.toArray[j] (eqD (xs.getD j .non) (ys.getD j .non))) (same:a=b→xQ xs ys=true):E3 A s (.ref a) (.ref b) (xQ xs ys):=by
 have e:xQ xs ys=((AR (min its.toArray.size its2.toArray.size)).all (fun j=>eqD (xs.getD j .non) (ys.getD j .non))&&its.toArray.size == its2.toArray.size):=by rw[vN,l1,l2];rfl
 have R1:=RcAt.tuples ha hb hu sub;have R2:=RcNeAt.tuples ha hb hu sub;rw[← e] at R1 R2;refine⟨?_,R1,R2⟩;by_cases hab:a=b
 ·rw[same hab,hab]
  exact Re _
 ·exact Rt hab R1
theorem M9 {A:AG}{a b:Ad}{xs ys:Aa D}{its its2:Aa Ac}(hu:A.units<CD)(ha:s.heap.IsList a its.toArray)(hb:s.heap.IsList b its2.toArray)(l1:xs.length=its.length)(l2:ys.length=its2.length)
  (sub:∀ j (h1:j<its.toArray.size) (h2:j<its2.toArray.size),EqAt A.in1 s its.toArray[j] its2.toArray[j] (eqD (xs.getD j .non) (ys.getD j .non))) (same:a=b→xQ xs ys=true):E3 A s (.ref a) (.ref b) (xQ xs ys):=by
 have R:RcAt A s (.ref a) (.ref b) (xQ xs ys)∧RcNeAt A s (.ref a) (.ref b) (!xQ xs ys):=by
  by_cases hl:its.length=its2.length
  ·have e:xQ xs ys=(AR its.toArray.size).all (fun j=>eqD (xs.getD j .non) (ys.getD j .non)):=by rw[vN,l1,l2,← hl,Od,BEq.rfl,Bool.and_true];rfl
   rw[e];exact⟨RcAt.lists ha hb hl hu sub,RcNeAt.lists ha hb hl hu sub⟩
  ·rw[QH (by rw[l1,l2];exact hl)]
   have hn:(its.toArray.size != its2.toArray.size)=true:=bne_iff_ne.mpr hl;exact⟨RcAt.lists_lengths ha hb hn hu,RcNeAt.lists_lengths ha hb hn hu⟩
 refine⟨?_,R.1,R.2⟩;by_cases hab:a=b
 ·rw[same hab,hab]
  exact Re _
 ·exact Rt hab R.1
theorem cZ (I:Inv X pins σ H s)(r:Rel X.K H P α S):∀ (n:Aj) (A:AG) (d d':D) (u u':Ac),A.units+n<CD→pl n d=true→pl n d'=true→Kd X P α s d u→Kd X P α s d' u'→E3 A s u u' (eqD d d'):=by
 intro n
 induction n with
 |zero =>
  intro A d d' u u' hu h1 h2 k1 k2;cases W4 hu k1 k2 with
  |of b e h=>exact h.cast e
  |tt=>exact Ed h1
  |ll=>exact Ed h1
 |succ m ih =>
  intro A d d' u u' hu h1 h2 k1 k2;have hu0:A.units<CD:=Ge (E7 _ _) hu;have hu1:A.in1.units+m<CD:=by show A.units+1+m<CD;omega
  have sub:∀ {xs ys:Aa D} {its its2:Aa Ac},xs.all (pl m)=true→ys.all (pl m)=true→Seqs X P α xs ys its its2 →
    ∀ j (h1:j<its.toArray.size) (h2:j<its2.toArray.size),EqAt A.in1 s its.toArray[j] its2.toArray[j] (eqD (xs.getD j .non) (ys.getD j .non)):=fun {xs ys its its2} a1 a2 ⟨vs,ws,b1,b2,c1,c2⟩ j g1 g2=>by
   obtain⟨w1,y1,z1,m1⟩:=yK b1 b2 g1;obtain⟨w2,y2,z2,m2⟩:=yK c1 c2 g2;exact(ih A.in1 _ _ _ _ hu1 (uF a1 m1) (uF a2 m2) (uC I r (uF a1 m1) y1 z1) (uC I r (uF a2 m2) y2 z2)).eq
  cases W4 hu0 k1 k2 with
  |of b e h=>exact h.cast e
  |tt a b xs ys its its2 ha hb q=>exact(MA hu0 ha hb q.len1 q.len2 (sub h1 h2 q) fun e=>by subst e;exact(fG xs ys).symm.trans (dZ I r (m+1) _ _ _ h1 h2 k1 k2)).cast (fG xs ys)
  |ll a b xs ys its its2 ha hb q=>exact(M9 hu0 ha hb q.len1 q.len2 (sub h1 h2 q) fun e=>by subst e;exact(fF xs ys).symm.trans (dZ I r (m+1) _ _ _ h1 h2 k1 k2)).cast (fF xs ys)
def wD:Aj:=30
def gEq:G2:=fun a b S=>if pl wD a&&pl wD b then .ok (.bl (eqD a b)) S else .bad
def gNe:G2:=fun a b S=>if pl wD a&&pl wD b then .ok (.bl (!eqD a b)) S else .bad
set_option tactic.hygienic true in
theorem T1 (hu:X.A.units+64<CD):OpD X (Bj .Eq) gEq:=by
 intro pins σ H s P α S v u vv uu a b Q I r rv ru pa pb af;unfold gEq at af
 split at af
 ·rename_i h
  rw[A3] at h;exact(cZ I r wD X.A a b vv uu (by unfold wD;omega) h.1 h.2 (uC I r h.1 pa rv) (uC I r h.2 pb ru)).rc _ _ _ _ ⟨.bl _,H,I,rfl,xr af r (by simp only[Rep])⟩
 ·exact An af
set_option tactic.hygienic true in
theorem WO (hu:X.A.units+64<CD):OpD X (Bj .NotEq) gNe:=by
 intro pins σ H s P α S v u vv uu a b Q I r rv ru pa pb af;unfold gNe at af
 split at af
 ·rename_i h
  rw[A3] at h;exact(cZ I r wD X.A a b vv uu (by unfold wD;omega) h.1 h.2 (uC I r h.1 pa rv) (uC I r h.2 pb ru)).ne _ _ _ _ ⟨.bl _,H,I,rfl,xr af r (by simp only[Rep])⟩
 ·exact An af
end
end _D
end
namespace _D
open PySem PySem.Spec PyProof.Rows _L
variable {pins:Aa (Ad × AU)}{kvs:Aa (Key × D)}{its us:Aa Ac}{xs ds:Aa D}{vs:Aa V}{f:Ac→Ac→Hs Ac}{s:Ag}{a d:D}{v:V}{Q:VK}{σ:_L.St}
section
variable {X:Cx}
def i2 (C:Am→Am→Ap)(f:Am→Am→D):G2:=fun a b S=>match a,b with
 |.int i,.int j=>if C i j then .ok (f i j) S else .bad
 |_,_=>.bad
theorem W7 {C:Am→Am→Ap}{f:Am→Am→D}{b:D}{S:Sto}{P:Hp}{α:Aa Ad}{Ok:D→Sto→Prop}(h:qI X P α (i2 C f a b S) Ok):∃ i j,a=.int i∧b=.int j∧C i j=true∧Ok (f i j) S:=by
 cases a with
 |int i =>
  cases b with
  |int j =>
   obtain⟨hc,h⟩:=wF (X:=X) h;exact⟨i,j,rfl,rfl,hc,h⟩
  |_=>exact An h
 |_=>exact An h
theorem zX {P:Hp}{α:Aa Ad}{i:Am}(r:Rep X.K P α (.int i) v):v=.int i:=by simpa only [Rep] using r
theorem kW {C':Am→Am→Prop}{v:Am→Am→V}{C:Am→Am→Ap}{d:Am→Am→D}(h:OpR X f (rI C' v))(hC:∀ i j,C i j=true→C' i j)(hv:∀ P α i j,Rep X.K P α (d i j) (v i j)):OpD X f (i2 C d):=
 OpD.of h fun H P α S x y a b Q r p1 p2 af=>by
  obtain⟨i,j,rfl,rfl,hc,ok⟩:=W7 af;exact⟨i,j,zX p1,zX p2,hC i j hc,xr ok r (hv P α i j)⟩
theorem kU {v:Am→Am→V}{d:Am→Am→D}(h:OpR X f (rI0 v))(hv:∀ P α i j,Rep X.K P α (d i j) (v i j)):OpD X f (i2 (fun _ _=>true) d):=
 OpD.of h fun H P α S x y a b Q r p1 p2 af=>by
  obtain⟨i,j,rfl,rfl,_,ok⟩:=W7 af;exact⟨i,j,zX p1,zX p2,xr ok r (hv P α i j)⟩
def zL:G2:=i2 (fun _ _=>true) fun i j=>.int (i-j)
theorem PU:OpD X (Ci .Sub) zL:=kU B7 fun P α i j=>by simp only[Rep]
def f7 (i j:Am):Ap:=decide (-(2 ^ 64)<i∧i<2 ^ 64)||decide (-(2 ^ 64)<j∧j<2 ^ 64)
theorem VT:OpD X (Ci .Mult) (i2 f7 fun i j=>.int (i*j)):=kW B5 (fun i j h=>by
 unfold f7 at h;rw[HC] at h;rcases h with h|h
 ·exact .inl (AK h)
 ·exact .inr (AK h)) fun P α i j=>by simp only[Rep]
def JL (i j:Am):Ap:=decide (0<j∧j<1073741824)
def pC:G2:=i2 JL fun i j=>.int (i/j)
theorem PN:OpD X (Ci .FloorDiv) pC:=kW VW (fun i j h=>(AK h:0<j∧j<1073741824)) fun P α i j=>by simp only[Rep]
def yJ:G2:=i2 (fun _ j=>decide (0<j)) fun i j=>.int (i % j)
theorem PQ:OpD X (Ci .Mod) yJ:=kW B4 (fun i j h=>AK h) fun P α i j=>by simp only[Rep]
def L6 (i j:Am):Ap:=decide (0≤j∧j≤1000000∧i.natAbs<2 ^ 64)
def QM:G2:=i2 L6 fun i j=>.int (i ^ j.toNat)
theorem PR:OpD X (Ci .Pow) QM:=kW B6 (fun i j h=>(AK h:0≤j∧j≤1000000∧i.natAbs<2 ^ 64)) fun P α i j=>by simp only[Rep]
def gLt:G2:=i2 (fun _ _=>true) fun i j=>.bl (decide (i<j))
def gLe:G2:=i2 (fun _ _=>true) fun i j=>.bl (decide (i≤j))
def gGt:G2:=i2 (fun _ _=>true) fun i j=>.bl (decide (j<i))
def gGe:G2:=i2 (fun _ _=>true) fun i j=>.bl (decide (j≤i))
theorem TB:OpD X (Bj .Lt) gLt:=kU TJ fun P α i j=>by simp only[Rep]
theorem T9:OpD X (Bj .LtE) gLe:=kU TH fun P α i j=>by simp only[Rep]
theorem T6:OpD X (Bj .Gt) gGt:=kU TF fun P α i j=>by simp only[Rep]
theorem T4:OpD X (Bj .GtE) gGe:=kU TC fun P α i j=>by simp only[Rep]
def pE:D→Sto→Res D:=fun a S=>match a with
 |.int i=>.ok (.int (-i)) S
 |_=>.bad
theorem FK:UnD X (OK .USub) pE:=by
 intro pins σ H s P α S v vv a Q I r rv p af;cases a with
 |int i=>exact FL pins s σ H v vv Q I rv ⟨i,zX p,xr af r (by simp only[Rep])⟩
 |_=>exact An af
def gIs:G2:=fun a b S=>match b with
 |.non=>match a with
  |.non=>.ok (.bl true) S
  |_=>.ok (.bl false) S
 |_=>.bad
theorem VM {P:Hp}{α:Aa Ad}(r:Rep X.K P α d v):decide (v=.non)=(match d with|.non=>true|_=>false):=by
 cases d <;> simp only[Rep] at r
 case non=>subst r;rfl
 case bl=>subst r;rfl
 case int=>subst r;rfl
 case str=>subst r;rfl
 case ty=>subst r;rfl
 case clo=>obtain⟨rfl,_⟩:=r;rfl
 case obj=>obtain⟨rfl,_⟩:=r;rfl
 case tup=>obtain⟨a,vs,rfl,_⟩:=r;rfl
 case lst=>obtain⟨a,vs,rfl,_⟩:=r;rfl
 case dct0=>obtain⟨a,rfl,_⟩:=r;rfl
 case loc=>obtain⟨a,rfl,_⟩:=r;rfl
 case exn=>obtain⟨a,rfl,_⟩:=r;rfl
 case fd=>obtain⟨a,o,vs,rfl,_⟩:=r;rfl
theorem T7:OpD X (Bj .Is) gIs:=OpD.of B3 fun H P α S x y a b Q r p1 p2 af=>by
 cases b with
 |non =>
  simp only[Rep] at p2;refine⟨p2,?_⟩;rw[VM p1];cases a <;> exact xr af r (by simp only[Rep])
 |_=>exact An af
def zF:G2:=fun a b S=>match a,b with
 |.int i,.int j=>.ok (.int (i+j)) S
 |.str x,.str y=>if x.length+y.length≤lim then .ok (.str (x++y)) S else .bad
 |.tup xs,.tup ys=>if xs.length+ys.length≤lim then .ok (.tup (xs++ys)) S else .bad
 |.lst xs,.lst ys=>if xs.length+ys.length≤lim then .ok (.lst (xs++ys)) S else .bad
 |_,_=>.bad
theorem j2 {H P:Hp}{α:Aa Ad}{S:Sto}(I:Inv X pins σ H s)(r:Rel X.K H P α S)(p:Rep X.K P α (.tup xs) v) :
  ∃ a vs its,v=.ref a∧SqT X.K P a vs∧qD X.K P α xs vs∧qK vs its∧Om s.heap a its.toArray∧xs.length=its.length∧xs.length≤lim:=by
 simp only[Rep] at p;obtain⟨a,vs,rfl,q,t⟩:=p;obtain⟨its,rv,p1,z⟩:=I.tuple (x8 r.sub q);exact⟨a,vs,its,rfl,q,t,rv,p1,by rw[t.length,rv.length],by rw[t.length,zT];exact z⟩
theorem vS {H P:Hp}{α:Aa Ad}{S:Sto}(I:Inv X pins σ H s)(r:Rel X.K H P α S)(p:Rep X.K P α (.lst xs) v) :
  ∃ a vs its n,v=.ref a∧SqX X.K P a vs∧qD X.K P α xs vs∧qK vs its∧s.heap.get? a=Ab { cls:=.type "list",data:=.seq its.toArray n } ∧ xs.length=its.length∧xs.length≤lim:=by
 simp only[Rep] at p;obtain⟨a,vs,rfl,q,t⟩:=p;have:∃ its n,qK vs its∧s.heap.get? a=Ab { cls:=.type "list",data:=.seq its.toArray n } ∧ vs.length≤sizeLine:=by
  rcases q with q|⟨its,n,e,z,rv⟩
  ·obtain⟨z,its,n,rv,e⟩:=(sY r.sub q).ok I.hok
   exact⟨its,n,rv,e,z⟩
  ·exact⟨its,n,rv,I.kIn _ _ e,z⟩
 obtain⟨its,n,rv,e,z⟩:=this;exact⟨a,vs,its,n,rfl,q,t,rv,e,by rw[t.length,rv.length],by rw[t.length,zT];exact z⟩
theorem QY {H P:Hp}{α:Aa Ad}{S:Sto}(I:Inv X pins σ H s)(r:Rel X.K H P α S)(t:qD X.K P α xs vs)(rv:qK vs its)(hz:xs.length≤lim)
  (ok:OkV X P α Q (.tup xs) S):EP X pins σ Q (.ref s.heap.objs.size) { s with heap:=s.heap.push { cls:=.type "tuple",data:=.seq its.toArray } }:=by
 refine⟨.ref s.heap.objs.size,_,I.laid (t':=s.toks) (o:=.tup vs) (fun b ob q=>Ah _ q) (A2 _) ⟨by rw[← t.length,← zT];exact hz,its,rv,Op _ _⟩,rfl,jN r (I.hok.fresh (A2 _)) t ok⟩
theorem QX {H P:Hp}{α:Aa Ad}{S:Sto}(I:Inv X pins σ H s)(r:Rel X.K H P α S)(t:qD X.K P α xs vs)(rv:qK vs its)(hz:xs.length≤lim)
  (ok:OkV X P α Q (.lst xs) S):EP X pins σ Q (.ref s.heap.objs.size) { s with heap:=s.heap.push { cls:=.type "list",data:=.seq its.toArray } }:=by
 refine⟨.ref s.heap.objs.size,_,I.laid (t':=s.toks) (o:=.lst vs) (fun b ob q=>Ah _ q) (A2 _) ⟨by rw[← t.length,← zT];exact hz,its,0,rv,Az _ rfl⟩,rfl,wM r (I.hok.fresh (A2 _)) t ok⟩
theorem JJ {H P:Hp}{α:Aa Ad}{S:Sto}{ys:Aa D}{u:V}{vv uu:Ac}(I:Inv X pins σ H s)(r:Rel X.K H P α S)(rv:qJ v vv)(ru:qJ u uu)(pa:Rep X.K P α (.tup xs) v)(pb:Rep X.K P α (.tup ys) u)(hl:xs.length+ys.length≤lim)(af:OkV X P α Q (.tup (xs++ys)) S) :
  Ao (As X.prog X.w) X.A (Ci .Add vv uu) (EP X pins σ Q) X.xe s:=by
 obtain⟨a,vs,its,rfl,q1,t1,rv1,h1,l1,_⟩:=j2 I r pa;obtain⟨b,ws,its2,rfl,q2,t2,rv2,h2,l2,_⟩:=j2 I r pb;cases rv;cases ru;by_cases hx:its=[]
 ·obtain⟨⟨cls,dd,data,sl⟩,ho,hc,n,hd⟩:=id h1
  obtain⟨⟨cls2,dd2,data2,sl2⟩,ho2,hc2,n2,hd2⟩:=id h2;simp only at hc hd hc2 hd2;subst hc hd hc2 hd2;have hxs:xs=[]:=EA.mp (by rw[l1,hx];rfl)
  subst hxs;exact Ny ⟨_,ho,rfl⟩ ⟨_,ho2,rfl⟩ Jg Mo Gz Gg (Gb _ _) (tuple_addW0 a b its.toArray its2.toArray n n2 dd dd2 sl sl2 (by simp[hx]))
   ⟨ho,ho2,⟨.ref b,H,I,rfl,xr af r pb⟩⟩
 ·refine _H.cat_tup h1 h2 hx (fun z=>⟨.ref a,H,I,rfl,xr af r ?_⟩) (fun z=>?_) (by rw[← l1,← l2,← zT];exact hl)
  ·have hys:ys=[]:=EA.mp (by rw[l2,z];rfl)
   rw[hys,Dx];exact pa
  ·exact QY I r (t1.append t2) (rv1.append rv2) (by rw[Bt];exact hl) af
theorem JI {H P:Hp}{α:Aa Ad}{S:Sto}{ys:Aa D}{u:V}{vv uu:Ac}(I:Inv X pins σ H s)(r:Rel X.K H P α S)(rv:qJ v vv)(ru:qJ u uu)(pa:Rep X.K P α (.lst xs) v)(pb:Rep X.K P α (.lst ys) u)(hl:xs.length+ys.length≤lim)(af:OkV X P α Q (.lst (xs++ys)) S) :
  Ao (As X.prog X.w) X.A (Ci .Add vv uu) (EP X pins σ Q) X.xe s:=by
 obtain⟨a,vs,its,n,rfl,q1,t1,rv1,h1,l1,_⟩:=vS I r pa;obtain⟨b,ws,its2,n2,rfl,q2,t2,rv2,h2,l2,_⟩:=vS I r pb;cases rv;cases ru;refine PySem.P.add_list h1 h2 ?_ (by rw[A0,A0,← l1,← l2,← zT];exact hl)
 rw[List.append_toArray];exact QX I r (t1.append t2) (rv1.append rv2) (by rw[Bt];exact hl) af
inductive AddV (a b:D)(S:Sto):Prop
 |bad (e:zF a b S=.bad)
 |int (i j:Am) (ea:a=.int i) (eb:b=.int j)
 |str (x y:Ar) (ea:a=.str x) (eb:b=.str y)
 |tup (x y:Aa D) (ea:a=.tup x) (eb:b=.tup y)
 |lst (x y:Aa D) (ea:a=.lst x) (eb:b=.lst y)
theorem L3 (a b:D)(S:Sto):AddV a b S:=by
 cases a with
 |int i=>cases b with
  |int j=>exact .int i j rfl rfl
  |_=>exact .bad rfl
 |str i=>cases b with
  |str j=>exact .str i j rfl rfl
  |_=>exact .bad rfl
 |tup i=>cases b with
  |tup j=>exact .tup i j rfl rfl
  |_=>exact .bad rfl
 |lst i=>cases b with
  |lst j=>exact .lst i j rfl rfl
  |_=>exact .bad rfl
 |_=>exact .bad rfl
theorem PM:OpD X (Ci .Add) zF:=by
 intro pins σ H s P α S v u vv uu a b Q I r rv ru pa pb af;cases L3 a b S with
 |bad e=>rw[e] at af;exact An af
 |int i j ea eb =>
  subst ea eb;exact B2 pins s σ H v u vv uu Q I rv ru ⟨i,j,zX pa,zX pb,xr af r (by simp only[Rep])⟩
 |str x y ea eb =>
  subst ea eb;obtain⟨hl,af⟩:=wF (X:=X) af;simp only[Rep] at pa pb;exact hW pins s σ H v u vv uu Q I rv ru ⟨x,y,pa,pb,by rw[← zT];exact hl,xr af r (by simp only[Rep])⟩
 |tup xs ys ea eb =>
  subst ea eb;obtain⟨hl,af⟩:=wF (X:=X) af;exact JJ I r rv ru pa pb hl af
 |lst xs ys ea eb =>
  subst ea eb;obtain⟨hl,af⟩:=wF (X:=X) af;exact JI I r rv ru pa pb hl af
def gIx:G2:=fun a b S=>match b with
 |.int k=>match a with
  |.tup xs=>v8 (atI xs k) S
  |.lst xs=>v8 (atI xs k) S
  |.loc i=>match S[i]? with
   |some (.lst xs)=>v8 (atI xs k) S
   |_=>.bad
  |_=>.bad
 |_=>.bad
theorem bZ {P:Hp}{α:Aa Ad}{k:Am}(rp:qD X.K P α ds vs)(h:atI ds k=Ab d):∃ v,atI vs k=Ab v∧Rep X.K P α d v:=by
 unfold atI at h ⊢;rw[← rp.length];cases q:ixN ds.length k with
 |none=>rw[q] at h;cases h
 |some j =>
  rw[q] at h;obtain⟨v,h1,h2⟩:=rp.get (show ds[j]? = Ab d from h)
  exact⟨v,h1,h2⟩
theorem LP:IxD X gIx:=by
 intro value slice pins σ H s P α S v u vv uu a b Q I r rv ru pa pb af hs;cases b with
 |int k =>
  have hk:=zX pb;cases a with
  |tup xs =>
   obtain⟨d,e,ok⟩:=vI (X:=X) af;simp only[Rep] at pa;obtain⟨p,vs,rfl,q,t⟩:=pa;obtain⟨w,e1,rw'⟩:=bZ t e;exact GL value slice pins s σ H _ u vv uu Q I rv ru ⟨p,vs,k,w,rfl,hk,x8 r.sub q,e1,xr ok r rw'⟩ hs
  |lst xs =>
   obtain⟨d,e,ok⟩:=vI (X:=X) af;simp only[Rep] at pa;obtain⟨p,vs,rfl,q,t⟩:=pa;obtain⟨w,e1,rw'⟩:=bZ t e;exact sM value slice pins s σ H _ u vv uu Q I rv ru ⟨p,vs,k,w,rfl,hk,(x6 r.sub q).l,e1,xr ok r rw'⟩ hs
  |loc i =>
   obtain⟨xs,hS,af⟩:=vU (X:=X) (f:=fun xs=>v8 (atI xs k) S) af;obtain⟨d,e,ok⟩:=vI (X:=X) af;simp only[Rep] at pa;obtain⟨p,rfl,q⟩:=pa;obtain⟨vs,z,t⟩:=r.at' i p _ q hS;obtain⟨w,e1,rw'⟩:=bZ t e;exact sM value slice pins s σ H _ u vv uu Q I rv ru ⟨p,vs,k,w,rfl,hk,.of z,e1,xr ok r rw'⟩ hs
  |_=>exact An af
 |_=>exact An af
def pF:G3:=fun o i d S=>match o,i with
 |.loc n,.int k=>match S[n]? with
  |some (.lst xs)=>match ixN xs.length k with
   |some j=>.ok () (S.set n (.lst (xs.set j d)))
   |none=>.bad
  |_=>.bad
 |_,_=>.bad
theorem N5:nM X (nH X pF):=by
 intro pins s σ H o i v ov iv u Q I ro ri rv h;obtain⟨P,α,S,a,b,d,r,pa,pb,pd,af⟩:=h;cases a with
 |loc n =>
  cases b with
  |int k =>
   obtain⟨xs,hS,af⟩:=vU (X:=X) (f:=fun xs=>match ixN xs.length k with|some j=>.ok () (S.set n (.lst (xs.set j d)))|none=>.bad) af
   cases hj:ixN xs.length k with
   |none=>rw[hj] at af;exact An af
   |some j =>
    rw[hj] at af;simp only[Rep] at pa;obtain⟨p,rfl,q⟩:=pa;obtain⟨vs,z,t⟩:=r.at' n p _ q hS;refine XE pins s σ H _ i v ov iv u Q I ro ri rv ⟨p,vs,k,j,rfl,zX pb,z,by rw[← t.length];exact hj,?_⟩
    refine af _ P α (r.put (m':=.lst (xs.set j d)) q hS (by intro z;cases z) ⟨vs.set j v,qT,t.set pd j⟩) (qF.refl _) (A8 _)
  |_=>exact An af
 |_=>exact An af
def eO:D→Sto→Ak Aj
 |.tup xs,_=>Ab xs.length
 |.lst xs,_=>Ab xs.length
 |.str x,_=>if x.length≤lim then Ab x.length else none
 |.dct0,_=>Ab 0
 |.loc i,S=>match S[i]? with
  |some (.lst xs)=>Ab xs.length
  |_=>none
 |_,_=>none
def l9:DF:=fun ds S=>match ds with
 |[d]=>match eO d S with
  |some n=>.ok (.int n) S
  |none=>.bad
 |_=>.bad
end
section
variable {X:Cx}
theorem yD {P:Hp}{α:Aa Ad}(rp:qD X.K P α [d] vs)(rv:qK vs us):∃ v u,vs=[v]∧us=[u]∧Rep X.K P α d v∧qJ v u:=by
 obtain⟨v,ws,rfl,p,t⟩:=rp.cons_inv;have:=t.nil_inv;subst this;obtain⟨u,rfl,q⟩:=jR rv;exact⟨v,u,rfl,rfl,p,q⟩
theorem gO {P:Hp}{α:Aa Ad}{e:D}(rp:qD X.K P α [d,e] vs)(rv:qK vs us):∃ v w u x,vs=[v,w]∧us=[u,x]∧Rep X.K P α d v∧Rep X.K P α e w∧qJ v u∧qJ w x:=by
 obtain⟨v,ws,rfl,p,t⟩:=rp.cons_inv;obtain⟨w,ws,rfl,p',t⟩:=t.cons_inv;have:=t.nil_inv;subst this;obtain⟨u,x,rfl,q,q'⟩:=nJ rv;exact⟨v,w,u,x,rfl,rfl,p,p',q,q'⟩
def eM (d:D)(S:Sto):Ak Aj:=match d with
 |.dct0=>none
 |_=>eO d S
theorem GY {H P:Hp}{α:Aa Ad}{S:Sto}{n:Aj}(r:Rel X.K H P α S)(p:Rep X.K P α d v)(hn:eM d S=Ab n):JD X.K v H n:=by
 cases d with
 |str x =>
  cases (show v=.str x from p)
  obtain⟨hl,rfl⟩:=jJ hn;exact⟨by rw[← zT];exact hl,rfl⟩
 |tup xs =>
  simp only[Rep] at p;obtain⟨a,ws,rfl,sq,t⟩:=p;cases hn;exact .inr ⟨ws,x8 r.sub sq,t.length⟩
 |lst xs =>
  simp only[Rep] at p;obtain⟨a,ws,rfl,sq,t⟩:=p;cases hn;exact .inl ⟨ws,(x6 r.sub sq).l,t.length⟩
 |loc i =>
  simp only[Rep] at p;obtain⟨a,rfl,e⟩:=p;obtain⟨xs,hS,hn⟩:=GZ (f:=fun xs=>Ab xs.length) hn;cases hn;obtain⟨ws,z,t⟩:=r.at' i a _ e hS;exact .inl ⟨ws,.of z,t.length⟩
 |_=>exact nn hn
inductive LenD1 (ds:Aa D)(S:Sto)(r:Res D):Prop
 |bad (e:r=.bad)
 |of (d:D) (n:Aj) (ed:ds=[d]) (hn:eM d S=Ab n) (e:r=.ok (.int n) S)
theorem MK (ds:Aa D)(S:Sto):LenD1 ds S (match ds with|[.dct0]=>.bad|_=>l9 ds S):=by
 cases ds with
 |nil=>exact .bad rfl
 |cons d ds =>
  cases ds with
  |cons _ _=>cases d <;> exact .bad rfl
  |nil =>
   have z:(match [d] with|[D.dct0]=>Res.bad|_=>l9 [d] S)=(match eM d S with|some n=>Res.ok (D.int n) S|none=>.bad):=by cases d <;> rfl
   rw[z];cases hn:eM d S with
   |none=>exact .bad rfl
   |some n=>exact .of d n rfl hn rfl
theorem JP (hD:EY):xR X (.builtin "len") (fun ds S=>match ds with|[.dct0]=>.bad|_=>l9 ds S):=by
 intro pins σ H s P α S vs us ds Q I r rv rp af;have af1:qI X P α (match ds with|[D.dct0]=>Res.bad|_=>l9 ds S) (OkV X P α Q):=af
 clear af;cases MK ds S with
 |bad e=>rw[e] at af1;exact An af1
 |of d n ed hn e =>
  rw[e] at af1;subst ed;obtain⟨v,u,rfl,rfl,p,q⟩:=yD rp rv;exact oR pins s σ H _ _ Q I rv ⟨v,n,rfl,GY r p hn,xr af1 r (by simp only[Rep])⟩
def tyD:D→Sto→Ak Bz
 |.non,_=>Ab "NoneType"
 |.bl _,_=>Ab "bool"
 |.int _,_=>Ab "int"
 |.str _,_=>Ab "str"
 |.tup _,_=>Ab "tuple"
 |.lst _,_=>Ab "list"
 |.dct0,_=>Ab "dict"
 |.loc i,S=>match S[i]? with
  |some (.lst _)=>Ab "list"
  |some (.dct _)=>Ab "dict"
  |_=>none
 |_,_=>none
def xH (a b:Bz):Ap:=a == b||(a == "bool" && b == "int")
def vT (b:Bz):Ap:=b == "int" || b == "bool" || b == "tuple" || b == "list" || b == "str" || b == "dict"
def GS (a b:Bz):Ak Ap:=if (Dv a == Dv b)=true then Ab true else if PySem.W.kitMeta b=true then (fastBuiltinMro a).map (·.contains (.type b)) else none
def tyL:Aa Bz:=["NoneType","bool","int","str","tuple","list","dict"]
def okL:Aa Bz:=["int","bool","tuple","list","str","dict"]
theorem V9:(tyL.all fun a=>okL.all fun b=>decide (GS a b=Ab (xH a b)))=true:=by decide +kernel
theorem PY {b:Bz}(hb:vT b=true):b∈okL:=by simpa [vT,okL,or_assoc] using hb
theorem fP {K:Ai}{a b:Bz}(ha:a∈tyL)(hb:vT b=true):EQ K (.type a) (.type b)=Ab (xH a b):=
 AK (p:=GS a b=Ab (xH a b)) (AQ.mp (AQ.mp V9 a ha) b (PY hb))
def zJ:DF:=fun ds S=>match ds with
 |[d,.ty b]=>if vT b then match tyD d S with
   |some a=>.ok (.bl (xH a b)) S
   |none=>.bad
  else .bad
 |_=>.bad
inductive TyV (X:Cx)(H:Hp)(v:V)(a:Bz):Prop
 |of (t:TyOf X.K H v (.type a))
 |tup (p:Ad) (vs:Aa V) (e:v=.ref p) (q:SqT X.K H p vs) (ea:a = "tuple")
 |lst (p:Ad) (vs:Aa V) (e:v=.ref p) (q:SqL X.K H p vs) (ea:a = "list")
theorem dA {S:Sto}{a:Bz}(h:tyD d S=Ab a):a∈tyL:=by
 cases d with
 |non=>cases h;exact .head _
 |bl b=>cases h;exact .tail _ (.head _)
 |int i=>cases h;exact .tail _ (.tail _ (.head _))
 |str x=>cases h;exact .tail _ (.tail _ (.tail _ (.head _)))
 |tup xs=>cases h;exact .tail _ (.tail _ (.tail _ (.tail _ (.head _))))
 |lst xs=>cases h;exact .tail _ (.tail _ (.tail _ (.tail _ (.tail _ (.head _)))))
 |dct0=>cases h;exact .tail _ (.tail _ (.tail _ (.tail _ (.tail _ (.tail _ (.head _))))))
 |loc i =>
  rcases fT (f:=fun _=>Ab "list") (g:=fun _=>Ab "dict") h with⟨_,_,h⟩|⟨_,_,h⟩
  ·cases h;exact .tail _ (.tail _ (.tail _ (.tail _ (.tail _ (.head _)))))
  ·cases h;exact .tail _ (.tail _ (.tail _ (.tail _ (.tail _ (.tail _ (.head _))))))
 |_=>exact nn h
theorem WX {H P:Hp}{α:Aa Ad}{S:Sto}{a:Bz}(r:Rel X.K H P α S)(p:Rep X.K P α d v)(h:tyD d S=Ab a):TyV X H v a:=by
 cases d with
 |non=>cases h;cases (show v=.non from p);exact .of .non
 |bl b=>cases h;cases (show v=.bl b from p);exact .of (.bl b)
 |int i=>cases h;cases (show v=.int i from p);exact .of (.int i)
 |str x=>cases h;cases (show v=.str x from p);exact .of (.str x)
 |tup xs =>
  cases h;simp only[Rep] at p;obtain⟨a,vs,e,q,t⟩:=p;exact .tup a vs e (x8 r.sub q) rfl
 |lst xs =>
  cases h;simp only[Rep] at p;obtain⟨a,vs,e,q,t⟩:=p;exact .lst a vs e (x6 r.sub q).l rfl
 |dct0 =>
  cases h;simp only[Rep] at p;obtain⟨a,rfl,q⟩:=p;exact .of (.dK (r.sub _ _ q))
 |loc i =>
  simp only[Rep] at p;obtain⟨a,rfl,q⟩:=p;rcases fT (f:=fun _=>Ab "list") (g:=fun _=>Ab "dict") h with⟨xs,hS,h⟩|⟨kvs,hS,h⟩
  ·cases h
   obtain⟨vs,z,t⟩:=r.at' i a _ q hS;exact .of (.lst z)
  ·cases h
   obtain⟨vs,z,t⟩:=r.at' i a _ q hS;exact .of (.dK z)
 |_=>exact nn h
inductive IsiV (ds:Aa D)(S:Sto):Prop
 |bad (e:zJ ds S=.bad)
 |of (d:D) (b a:Bz) (ed:ds=[d,.ty b]) (hb:vT b=true) (ha:tyD d S=Ab a) (e:zJ ds S=.ok (.bl (xH a b)) S)
theorem LN (ds:Aa D)(S:Sto):IsiV ds S:=by
 cases ds with
 |nil=>exact .bad rfl
 |cons d ds =>
  cases ds with
  |nil=>exact .bad rfl
  |cons e ds =>
   cases ds with
   |cons _ _=>cases e <;> exact .bad rfl
   |nil =>
    cases e with
    |ty b =>
     have z:zJ [d,.ty b] S=if vT b then (match tyD d S with|some a=>.ok (.bl (xH a b)) S|none=>.bad) else .bad:=rfl
     by_cases hb:vT b=true
     ·rw[A7 hb] at z
      cases ha:tyD d S with
      |none=>rw[ha] at z;exact .bad z
      |some a=>rw[ha] at z;exact .of d b a rfl hb ha z
     ·rw[AD hb] at z
      exact .bad z
    |_=>exact .bad rfl
theorem cN:xR X (.builtin "isinstance") zJ:=by
 intro pins σ H s P α S vs us ds Q I r rv rp af;cases LN ds S with
 |bad e=>rw[e] at af;exact An af
 |of d b a ed hb ha e =>
  subst ed;rw[e] at af;obtain⟨v,w,u,x,rfl,rfl,p,p',q,q'⟩:=gO rp rv;simp only[Rep] at p';subst p';cases (show x=Dv b from q')
  have kit:=fP (K:=X.K) (dA ha) hb;have fin:∀ tk,EP X pins σ Q (.bool (xH a b)) { s with toks:=tk }:=fun tk=>⟨.bl _,H,I.tok tk,rfl,xr af r (by simp only[Rep])⟩
  cases WX r p ha with
  |of ht=>exact aK I q ht kit fin
  |tup p' ws e sq ea =>
   subst e ea;cases (show u=AS p' from q)
   obtain⟨its,rv',⟨o,h1,h2,_⟩,_⟩:=I.tuple sq;exact Cb Gc I.kIn ⟨o,h1,h2⟩ kit (fun z=>nomatch z) fin
  |lst p' ws e sq ea =>
   subst e ea;cases (show u=AS p' from q)
   obtain⟨its,rv',⟨o,_,h1,h2,_⟩,_⟩:=I.list sq;exact Cb Et I.kIn ⟨o,h1,h2⟩ kit (fun z=>nomatch z) fin
def zP:Aa D→Ak (Aa Ap)
 |[]=>Ab []
 |.bl b::r=>(zP r).map (b::·)
 |_=>none
theorem y6 {P:Hp}{α:Aa Ad}:∀ {ds:Aa D} {bs:Aa Ap} {vs:Aa V} {us:Aa Ac},zP ds=Ab bs→qD X.K P α ds vs→qK vs us→us=bs.map CQ
 |[],bs,vs,us,h,rp,rv=>by
  cases h;have:=rp.nil_inv;subst this;cases rv;rfl
 |d::ds,bs,vs,us,h,rp,rv=>by
  cases d with
  |bl b =>
   obtain⟨bs',q,rfl⟩:=AZ.mp (show (zP ds).map (b::·)=Ab bs from h)
   obtain⟨w,ws,rfl,p,t⟩:=rp.cons_inv;simp only[Rep] at p;subst p;cases rv with
   |cons q1 q2 =>
    cases (show _=CQ b from q1)
    rw[y6 q t q2];rfl
  |_=>exact nn h
def pB (any:Ap):DF:=fun ds S=>match ds with
 |[d]=>match (xA d).bind zP with
  |some bs=>.ok (.bl (if any then bs.any id else bs.all id)) S
  |none=>.bad
 |_=>.bad
theorem tB (bs:Aa Ap):((AR bs.length).all fun i=>bs.getD i false)=bs.all id:=by
 induction bs with
 |nil=>rfl
 |cons b bs ih =>
  rw[Bo,Hb,Mu,Gj,Mu,← ih];rfl
theorem tE (bs:Aa Ap):((AR bs.length).any fun i=>bs.getD i false)=bs.any id:=by
 induction bs with
 |nil=>rfl
 |cons b bs ih =>
  rw[Bo,Hb,EG,List.any_map,EG,← ih];rfl
theorem aL {H:Hp}{o:AU}{h':A5}{tk:Aj}(I:Inv X pins σ H s)(k:∀ b ob,b ∉ [s.heap.objs.size]→(s.heap.push o).get? b=Ab ob→h'.get? b=Ab ob):Inv X pins σ H { s with heap:=h',toks:=tk }:=
 I.kept fun b u e=>k b u (by simp;exact AL (Au e)) (Ah _ e)
theorem uG {bs:Aa Ap}(hi:its=bs.map CQ){A:AG}:TruthOf X.prog X.w A (fun i v=>its.toArray[i]? = Ab v) (fun i=>bs.getD i false):=fun i v s' Q' E' hv hQ=>by
 subst hi;have hv':(bs.map CQ)[i]? = Ab v:=by simpa using hv
 rw[Bh] at hv';cases e:bs[i]? with
 |none=>rw[e] at hv';exact nn hv'
 |some b =>
  rw[e] at hv';cases AW hv';have:bs.getD i false=b:=by simp[EJ,e]
  have hQ':Q' (bs.getD i false) s':=hQ;rw[this] at hQ';exact Oq hQ'
theorem YX {any:Ap}{S:Sto}{P:Hp}{α:Aa Ad}{Ok:D→Sto→Prop}(h:qI X P α (pB any ds S) Ok):∃ d xs bs,ds=[d]∧ItV d xs∧zP xs=Ab bs∧Ok (.bl (if any then bs.any id else bs.all id)) S:=by
 obtain⟨d,rfl,h1⟩:=iD (X:=X) (β:=D) (g:=fun d=>match (xA d).bind zP with|some bs=>.ok (D.bl (if any then bs.any id else bs.all id)) S|none=>.bad) h
 cases hb:(xA d).bind zP with
 |none=>rw[hb] at h1;exact An h1
 |some bs =>
  rw[hb] at h1;obtain⟨xs,hx,hbs⟩:=Cf.mp hb;exact⟨d,xs,bs,rfl,itV hx,hbs,h1⟩
theorem JN (any:Ap)(hc:X.calm=true):xR X (.builtin (if any then "any" else "all")) (pB any):=by
 intro pins σ H s P α S vs us ds Q I r rv rp af;obtain⟨d,xs,bs,ed,hd,hbs,ok⟩:=YX af;clear af;subst ed;obtain⟨v,u,rfl,rfl,p,q⟩:=yD rp rv;clear rp;have fin:∀ {o:AU} (h':A5) (tk:Aj),(∀ b ob,b ∉ [s.heap.objs.size]→(s.heap.push o).get? b=Ab ob→h'.get? b=Ab ob)→EP X pins σ Q (.bool (if any then bs.any id else bs.all id)) { s with heap:=h',toks:=tk }:=
  fun {o} h' tk k=>⟨.bl _,H,aL I k,rfl,xr ok r (by simp only[Rep])⟩
 clear rv ok;have hh:X.A.in1.handled=none:=I.ok.hd hc;cases hd with
 |tup ed =>
  subst ed;obtain⟨a,ws,its,rfl,sq,t,rvi,ht,hl,_⟩:=j2 I r p;cases (show u=AS a from q)
  have hi:=y6 hbs t rvi;have hlen:its.toArray.size=bs.length:=by rw[hi];simp
  have hne:a≠s.heap.objs.size:=by obtain⟨o,e,_⟩:=ht;exact AL (Au e)
  have W:=RF (prog:=X.prog) (w:=X.w) hh s.heap.objs.size a hne its.toArray;have hT:∀ o,(s.heap.push o).IsTuple a its.toArray:=fun o=>by obtain⟨o,e,c⟩:=ht;exact⟨o,Ah _ e,c⟩
  have ht':s.heap.IsTuple a its.toArray:=ht;cases any with
  |false =>
   refine call_all_walk (En ht' ⟨s.heap.objs.size,_,_,_,_,_,_,rfl,W,⟨⟨_,Az _ rfl,rfl,rfl⟩,hT _⟩,uG hi,fun h' tk k=>?_⟩);rw[hlen,tB];exact fin h' tk k
  |true =>
   refine call_any_walk (En ht' ⟨s.heap.objs.size,_,_,_,_,_,_,rfl,W,⟨⟨_,Az _ rfl,rfl,rfl⟩,hT _⟩,uG hi,fun h' tk k=>?_⟩);rw[hlen,tE];exact fin h' tk k
 |lst ed =>
  subst ed;obtain⟨a,ws,its,n,rfl,sq,t,rvi,ht,hl,_⟩:=vS I r p;cases (show u=AS a from q)
  have hL:s.heap.IsList a its.toArray:=⟨_,ht,rfl,n,rfl⟩;have hi:=y6 hbs t rvi;have hlen:its.toArray.size=bs.length:=by rw[hi];simp
  have hne:a≠s.heap.objs.size:=AL (Au ht);have W:=RL (prog:=X.prog) (w:=X.w) hh s.heap.objs.size a hne its.toArray;have hL':∀ o,(s.heap.push o).IsList a its.toArray:=fun o=>⟨_,Ah _ ht,rfl,n,rfl⟩;cases any with
  |false =>
   refine call_all_walk (Dm hL ⟨s.heap.objs.size,_,_,_,_,_,_,rfl,W,⟨⟨_,Az _ rfl,rfl,rfl⟩,hL' _⟩,uG hi,fun h' tk k=>?_⟩);rw[hlen,tB];exact fin h' tk k
  |true =>
   refine call_any_walk (Dm hL ⟨s.heap.objs.size,_,_,_,_,_,_,rfl,W,⟨⟨_,Az _ rfl,rfl,rfl⟩,hL' _⟩,uG hi,fun h' tk k=>?_⟩);rw[hlen,tE];exact fin h' tk k
def eG:DF:=fun ds S=>match ds with
 |[.int i]=>.ok (.int i) S
 |[.bl b]=>.ok (.int (b01 b)) S
 |_=>.bad
inductive IntV (ds:Aa D)(S:Sto):Prop
 |bad (e:eG ds S=.bad)
 |int (i:Am) (e:ds=[.int i])
 |bl (b:Ap) (e:ds=[.bl b])
theorem LJ (ds:Aa D)(S:Sto):IntV ds S:=by
 cases ds with
 |nil=>exact .bad rfl
 |cons d ds =>
  cases ds with
  |cons _ _=>cases d <;> exact .bad rfl
  |nil =>
   cases d with
   |int i=>exact .int i rfl
   |bl b=>exact .bl b rfl
   |_=>exact .bad rfl
theorem JO:xR X (.type "int") eG:=by
 intro pins σ H s P α S vs us ds Q I r rv rp af;cases LJ ds S with
 |bad e=>rw[e] at af;exact An af
 |int i e =>
  subst e;obtain⟨v,u,rfl,rfl,p,q⟩:=yD rp rv;exact mJ pins s σ H _ _ Q I rv (.inl ⟨_,by rw[zX p],xr af r (by simp only[Rep])⟩)
 |bl b e =>
  subst e;obtain⟨v,u,rfl,rfl,p,q⟩:=yD rp rv;simp only[Rep] at p;subst p;exact mJ pins s σ H _ _ Q I rv (.inr ⟨_,rfl,xr af r (by simp only[Rep];rfl)⟩)
def kI:DF:=fun ds S=>match ds with
 |[d]=>match xA d with
  |some xs=>.ok (.tup xs) S
  |none=>.bad
 |_=>.bad
theorem oU:xR X (.type "tuple") kI:=by
 intro pins σ H s P α S vs us ds Q I r rv rp af;obtain⟨d,rfl,af1⟩:=iD (X:=X) (β:=D) (g:=fun d=>match xA d with|some xs=>.ok (D.tup xs) S|none=>.bad) af
 obtain⟨xs,hx,af2⟩:∃ xs,xA d=Ab xs∧OkV X P α Q (.tup xs) S:=by
  cases hx:xA d with
  |none=>rw[hx] at af1;exact An af1
  |some xs=>rw[hx] at af1;exact⟨xs,rfl,af1⟩
 obtain⟨v,u,rfl,rfl,p,q⟩:=yD rp rv;cases itV hx with
 |tup e =>
  subst e;have p0:=p;simp only[Rep] at p;obtain⟨a,ws,rfl,sq,t⟩:=p;exact jY pins s σ H _ _ Q I rv ⟨a,ws,rfl,.inr ⟨x8 r.sub sq,xr af2 r p0⟩⟩
 |lst e =>
  subst e;simp only[Rep] at p;obtain⟨a,ws,rfl,sq,t⟩:=p;exact jY pins s σ H _ _ Q I rv ⟨a,ws,rfl,.inl ⟨(x6 r.sub sq).l,fun l hl=>jN r hl t af2⟩⟩
end
section
variable {X:Cx}
structure ClsK (K:Ai)(cl:Aa Ad):Prop where
 ex:∀ C∈cl,ExnK K C
 one:∀ C∈cl,∀ B∈cl,EQ K (.ref C) (.ref B)=Ab (C == B)
 ve:∀ C∈cl,EQ K (.ref C) (.type "ValueError")=Ab true
def zH (cl:Aa Ad):DF:=fun ds S=>match ds with
 |[.exn (.ref C),.obj B]=>if cl.contains C&&cl.contains B then .ok (.bl (C == B)) S else .bad
 |[.exn (.ref C),.ty b]=>if cl.contains C&&(b == "ValueError") then .ok (.bl true) S else .bad
 |_=>zJ ds S
theorem a9 {H P:Hp}{α:Aa Ad}{S:Sto}{C:Ad}{u:Ac}(I:Inv X pins σ H s)(r:Rel X.K H P α S)(p:Rep X.K P α (.exn (.ref C)) v)(q:qJ v u):∃ a,u=.ref a∧yQ a C s.heap:=by
 simp only[Rep] at p;obtain⟨a,rfl,z⟩:=p;obtain⟨y,_⟩:=I.hok a _ (r.sub _ _ z);exact⟨a,q,y⟩
inductive IsiE (cl:Aa Ad)(ds:Aa D)(S:Sto):Prop
 |bad (e:zH cl ds S=.bad)
 |old (e:zH cl ds S=zJ ds S)
 |obj (C B:Ad) (ed:ds=[.exn (.ref C),.obj B]) (h1:C∈cl) (h2:B∈cl) (e:zH cl ds S=.ok (.bl (C == B)) S)
 |ve (C:Ad) (ed:ds=[.exn (.ref C),.ty "ValueError"]) (h1:C∈cl) (e:zH cl ds S=.ok (.bl true) S)
theorem MI (cl:Aa Ad)(C:Ad)(d:D)(S:Sto):IsiE cl [.exn (.ref C),d] S:=by
 cases d with
 |obj B =>
  have z:zH cl [.exn (.ref C),.obj B] S=if (cl.contains C&&cl.contains B)=true then .ok (.bl (C == B)) S else .bad:=rfl
  by_cases h:(cl.contains C&&cl.contains B)=true
  ·rw[A7 h] at z
   have h':=CG.mp h;exact .obj C B rfl (Cz.mp h'.1) (Cz.mp h'.2) z
  ·rw[AD h] at z
   exact .bad z
 |ty b =>
  have z:zH cl [.exn (.ref C),.ty b] S=if (cl.contains C&&(b == "ValueError"))=true then .ok (.bl true) S else .bad:=rfl
  by_cases h:(cl.contains C&&(b == "ValueError"))=true
  ·rw[A7 h] at z
   have h':=CG.mp h;cases (Jk.mp h'.2);exact .ve C rfl (Cz.mp h'.1) z
  ·rw[AD h] at z
   exact .bad z
 |_=>exact .old rfl
theorem LL (cl:Aa Ad)(ds:Aa D)(S:Sto):IsiE cl ds S:=by
 cases ds with
 |nil=>exact .old rfl
 |cons a ds =>
  cases a with
  |exn c =>
   cases c with
   |ref C =>
    cases ds with
    |nil=>exact .old rfl
    |cons b ds =>
     cases ds with
     |nil=>exact MI cl C b S
     |cons _ _=>cases b <;> exact .old rfl
   |_=>exact .old rfl
  |_=>exact .old rfl
theorem Y5 {cl:Aa Ad}(hK:ClsK X.K cl):xR X (.builtin "isinstance") (zH cl):=by
 intro pins σ H s P α S vs us ds Q I r rv rp af;cases LL cl ds S with
 |bad e=>rw[e] at af;exact An af
 |old e=>rw[e] at af;exact cN pins σ H s P α S vs us ds Q I r rv rp af
 |obj C B ed h1 h2 e =>
  rw[e] at af;subst ed;obtain⟨v,w,u,x,rfl,rfl,p,p',q,q'⟩:=gO rp rv;simp only[Rep] at p';obtain⟨rfl,_⟩:=p';cases (show x=AS B from q')
  obtain⟨a,rfl,ha⟩:=a9 I r p q;exact Cb (lJ (hK.ex C h1)) I.kIn ha (hK.one C h1 B h2) (fun z=>nomatch z) fun tk=>⟨.bl _,H,I.tok tk,rfl,xr af r (by simp only[Rep])⟩
 |ve C ed h1 e =>
  rw[e] at af;subst ed;obtain⟨v,w,u,x,rfl,rfl,p,p',q,q'⟩:=gO rp rv;simp only[Rep] at p';subst p';cases (show x=Dv "ValueError" from q')
  obtain⟨a,rfl,ha⟩:=a9 I r p q;exact Cb (lJ (hK.ex C h1)) I.kIn ha (hK.ve C h1) (fun z=>nomatch z) fun tk=>⟨.bl _,H,I.tok tk,rfl,xr af r (by simp only[Rep])⟩
def MtD (X:Cx)(id:Bz)(g:D→Aa D→Sto→Res D):Prop:=
 ∀ (pins:Aa (Ad × AU)) (σ : _L.St) (H:Hp) (s:Ag) (P:Hp) (α : Aa Ad) (S:Sto) (v:V) (vv:Ac) (vs:Aa V) (us:Aa Ac) (a:D) (ds:Aa D) (Q:VK),Inv X pins σ H s→Rel X.K H P α S→qJ v vv→Rep X.K P α a v→qK vs us→qD X.K P α ds vs→qS X P α (g a ds S) Q →
  Ao (As X.prog X.w) X.A (call (.builtin id) (vv::us)) (EP X pins σ Q) X.xe s
def dBm (T:Bz)(g:D→Aa D→Sto→Res D)(fo:DE)(fa:DA):DE:=fun env S=>(fo env S).bind fun a S1=>if (tyD a S1 == Ab T)=true then (fa env S1).bind fun ds S2=>g a ds S2 else .bad
theorem FJ {H P:Hp}{α:Aa Ad}{S:Sto}{T:Bz}(r:Rel X.K H P α S)(p:Rep X.K P α a v)(h:tyD a S=Ab T)(hT:T = "list" ∨ T = "dict" ∨ T = "int" ∨ T = "str"):tyV X.K T v H:=by
 cases a with
 |int i=>cases h;simp only[Rep] at p;subst p;rfl
 |str x=>cases h;simp only[Rep] at p;subst p;rfl
 |lst xs =>
  cases h;simp only[Rep] at p;obtain⟨b,vs,rfl,q,t⟩:=p;exact .inl ⟨rfl,vs,(x6 r.sub q).l⟩
 |dct0 =>
  cases h;simp only[Rep] at p;obtain⟨b,rfl,q⟩:=p;exact .inr (.inr (.inl ⟨rfl,.inl ⟨[],r.sub _ _ q⟩⟩))
 |loc i =>
  simp only[Rep] at p;obtain⟨b,rfl,q⟩:=p;rcases fT (f:=fun _=>Ab "list") (g:=fun _=>Ab "dict") h with⟨xs,hS,h⟩|⟨kvs,hS,h⟩
  ·cases h
   obtain⟨vs,z,t⟩:=r.at' i b _ q hS;exact .inl ⟨rfl,vs,SqL.of z⟩
  ·cases h
   obtain⟨vs,z,t⟩:=r.at' i b _ q hS;exact .inr (.inr (.inl ⟨rfl,.inl ⟨vs,z⟩⟩))
 |non=>cases h;exact absurd hT (by decide)
 |bl b=>cases h;exact absurd hT (by decide)
 |tup xs=>cases h;exact absurd hT (by decide)
 |_=>exact nn h
variable {o e:AF}{es:Aa AF}{fo:DE}{fa:DA}{name:Ar}{apos cpos:CA}{T id:Bz}{g:D→Aa D→Sto→Res D}
theorem JX {P:Hp}{α:Aa Ad}{S:Sto}{β:Type}{k:Res β}{Ok:β→Sto→Prop}(h:qI X P α (if (tyD a S == Ab T)=true then k else .bad) Ok):tyD a S=Ab T∧qI X P α k Ok:=by
 by_cases z:(tyD a S == Ab T)=true
 ·rw[A7 z] at h;exact⟨Jk.mp z,h⟩
 ·rw[AD z] at h;exact An h
theorem FZ (pa:PlainAttrs T)(slot:Slot T name id)(hty:typeOf (.builtin id)=pure (.type "method_descriptor"))(hT:T = "list" ∨ T = "dict" ∨ T = "int" ∨ T = "str")(hm:MtD X id g)(ho:PE X o (tD X fo))(ha:PA X (e::es) (tDA X fa))
  (hbase:attributeBase o name X.env (eval o X.env)=eval o X.env:=by rfl)
  (hfew:((Df cpos (A9 (e::es) X.env)).all (fun x=>!x.1)&&(backToKw cpos (keywordEach [] X.env)).all (fun x=>x.1.isSome)
   && decide ((e::es).length+([]:Aa Rf).length+(if ([] : Aa Rf).isEmpty then 0 else 1)<30))=true:=by rfl)
  (hline:(apos.endLine == cpos.line)=true:=by rfl) (hs:A9 (e::es) X.env=(false,eval e X.env)::A9 es X.env:=by rfl) (hplain:(Df cpos (A9 es X.env)).any (·.1)=false:=by rfl) :
  PE X (.Call (.Attribute o name apos) (e::es) [] cpos) (tD X (dBm T g fo fa)):=by
 intro pins s σ H Q I h;obtain⟨P,α,env,S,r,re,af⟩:=h;refine wpAny_Call_method_late hbase hfew hline rfl (thn (zQ ho I r re af) fun vv s1 ⟨v,H1,P1,α1,d,S1,G1,af1⟩=>?_);obtain⟨ht,af2⟩:=JX af1;obtain⟨h1,h2⟩:=FI G1.inv G1.val (FJ G1.rel G1.rep ht hT);refine⟨T,id,pa,slot,hty,h1,h2,?_⟩;have hA:=wC ha G1.inv G1.rel G1.env (P:=P1) (α:=α1) (Ok:=OkV X P1 α1 Q) (qS.base G1.same G1.pre (r:=(fa env S1).bind fun ds S2=>g d ds S2) af2) cpos;rw[hs] at hA ⊢;refine Calls.callWith_builtin (by show (false||(Df cpos (A9 es X.env)).any (·.1))=false;rw[hplain] <;> rfl) (Md ?_)
 exact thn hA fun us s2 ⟨vs,H2,P2,α2,ds,S2,I2,rv,r2,re2,rp2,e1,e2,af3⟩=>hm pins σ H2 s2 P2 α2 S2 v vv vs us d ds Q I2 r2 G1.val (Rep.mono e1 e2 _ _ G1.rep) rv rp2 (qS.base e1 e2 af3)
def wV:D→Aa D→Sto→Res D:=fun a ds S=>match a,ds with
 |.loc i,[d]=>match S[i]? with
  |some (.lst xs)=>if xs.length<lim then .ok .non (S.set i (.lst (xs++[d]))) else .bad
  |_=>.bad
 |_,_=>.bad
inductive ApV (a:D)(ds:Aa D)(S:Sto):Prop
 |bad (e:wV a ds S=.bad)
 |of (i:Aj) (d:D) (xs:Aa D) (ea:a=.loc i) (ed:ds=[d]) (hS:S[i]? = Ab (.lst xs)) (hl:xs.length<lim) (e:wV a ds S=.ok .non (S.set i (.lst (xs++[d]))))
theorem apV (a:D)(ds:Aa D)(S:Sto):ApV a ds S:=by
 cases a with
 |loc i =>
  cases ds with
  |nil=>exact .bad rfl
  |cons d ds =>
   cases ds with
   |cons _ _=>exact .bad rfl
   |nil =>
    have z:wV (.loc i) [d] S=(match S[i]? with|some (.lst xs)=>(if xs.length<lim then .ok .non (S.set i (.lst (xs++[d]))) else .bad)|_=>.bad):=rfl
    cases hS:S[i]? with
    |none=>rw[hS] at z;exact .bad z
    |some m =>
     rw[hS] at z;cases m with
     |lst xs =>
      by_cases hl:xs.length<lim
      ·exact .of i d xs rfl rfl hS hl (z.trans (A7 hl))
      ·exact .bad (z.trans (AD hl))
     |_=>exact .bad z
 |_=>exact .bad rfl
theorem aY:MtD X "list.append" wV:=by
 intro pins σ H s P α S v vv vs us a ds Q I r rv p rvs rps af;cases apV a ds S with
 |bad e=>rw[e] at af;exact An af
 |of i d xs ea ed hS hl e =>
  rw[e] at af;subst ea ed;obtain⟨w,u,rfl,rfl,p',q'⟩:=yD rps rvs;simp only[Rep] at p;obtain⟨b,rfl,q⟩:=p;obtain⟨ws,z,t⟩:=r.at' i b _ q hS;refine i6 pins s σ H (.ref b) [w] vv [u] Q I rv (.cons q' .nil) ⟨b,ws,w,rfl,rfl,z,by rw[← t.length,← zT];exact hl,?_⟩
  exact xr af (r.put (m':=.lst (xs++[d])) q hS (by intro z;cases z) ⟨ws++[w],qT,t.append (.cons p' .nil)⟩) (by simp only[Rep])
end
def jK:D→Ak Key
 |.int i=>Ab (.inl i)
 |.str x=>Ab (.inr x)
 |_=>none
def wA (kvs:Aa (Key × D))(k:Key):Ak D:=(kvs.find? fun kv=>decide (kv.1=k)).map (·.2)
def uK (kvs:Aa (Key × D))(k:Key)(v:D):Aa (Key × D):=
 if (kvs.any fun kv=>decide (kv.1=k))=true then kvs.map (fun kv=>if kv.1=k then (kv.1,v) else kv) else kvs++[(k,v)]
section
variable {K:Ai}{P:Hp}{α : Aa Ad}
theorem VC {vs:Aa (Key × V)}(r:KVs K P α kvs vs):kvs.length=vs.length:=Paired.length r
theorem fQ {k:Key}:∀ {kvs:Aa (Key × D)} {vs:Aa (Key × V)},KVs K P α kvs vs→(∀ d,wA kvs k=Ab d→∃ v,wB vs k=Ab v∧Rep K P α d v)∧(wA kvs k=none→wB vs k=none)
 |_,_,.nil=>⟨fun d h=>by simp[wA] at h,fun _=>rfl⟩
 |(k1,d1)::kvs,(k2,v2)::vs,.cons z t=>by
  obtain⟨e,r⟩:=z;dsimp only at e r;subst e;obtain⟨h1,h2⟩:=fQ (k:=k) t;unfold wA wB at *;by_cases hk:k1=k
  ·subst hk
   constructor
   ·intro d h
    simp at h;subst h;exact⟨v2,by simp,r⟩
   ·intro h
    simp at h
  ·constructor
   ·intro d h
    rw[Kr (by simpa using hk)] at h ⊢
    exact h1 d h
   ·intro h
    rw[Kr (by simpa using hk)] at h ⊢
    exact h2 h
theorem VA {k:Key}{vs:Aa (Key × V)}(h:KVs K P α kvs vs):(kvs.any fun kv=>decide (kv.1=k))=(vs.any fun kv=>decide (kv.1=k)):=by
 induction h with
 |nil=>rfl
 |cons z t ih=>rw[EG,EG,ih,z.1]
theorem VD {k:Key}(q:Rep K P α d v){kvs:Aa (Key × D)}{vs:Aa (Key × V)}(h:KVs K P α kvs vs):KVs K P α (kvs.map fun kv=>if kv.1=k then (kv.1,d) else kv) (vs.map fun kv=>if kv.1=k then (kv.1,v) else kv):=by
 induction h with
 |nil=>exact .nil
 |cons z t ih =>
  rw[Co,Co];refine .cons ?_ ih;rw[← z.1]
  split
  ·exact⟨rfl,q⟩
  ·exact z
theorem VB {k:Key}(q:Rep K P α d v){kvs:Aa (Key × D)}{vs:Aa (Key × V)}(h:KVs K P α kvs vs):KVs K P α (kvs++[(k,d)]) (vs++[(k,v)]):=by
 induction h with
 |nil=>exact .cons ⟨rfl,q⟩ .nil
 |cons z t ih=>exact .cons z ih
theorem VE {k:Key}(q:Rep K P α d v){kvs:Aa (Key × D)}{vs:Aa (Key × V)}(r:KVs K P α kvs vs):KVs K P α (uK kvs k d) (yC vs k v):=by
 unfold uK yC;rw[VA r]
 split
 ·exact VD q r
 ·exact VB q r
theorem lI {k:Key}(h:jK d=Ab k)(r:Rep K P α d v):v=kV k:=by
 cases d with
 |int i=>cases h;simp only[Rep] at r;exact r
 |str x=>cases h;simp only[Rep] at r;exact r
 |_=>cases h
end
section
variable {X:Cx}{o i e:AF}{pos:CA}{fo fi:DE}
def eB:DE:=fun _ S=>.ok (.loc S.length) (S++[.dct []])
theorem K2:PE X (.Dict [] [] pos) (tD X eB):=by
 refine peW ZR fun σ H Q ⟨P,α,env,S,r,re,af⟩ p hp=>?_;have hpre:α<+:α++[p]:=CS _ _;have r1:=r.new (o:=.dK []) (m:=.dct []) hp ⟨[],qT,.nil⟩;refine af _ _ _ _ r1 (qF.refl _) hpre ?_;simp only[Rep];exact⟨p,rfl,by rw[← r.len];simp⟩
def wK:G3:=fun o i d S=>match o with
 |.loc n=>match S[n]? with
  |some (.dct kvs)=>match jK i with
   |some k=>if kvs.length<lim then .ok () (S.set n (.dct (uK kvs k d))) else .bad
   |none=>.bad
  |_=>pF o i d S
 |_=>pF o i d S
inductive Set2V (a b d:D)(S:Sto):Prop
 |bad (e:wK a b d S=.bad)
 |old (e:wK a b d S=pF a b d S)
 |of (n:Aj) (kvs:Aa (Key × D)) (k:Key) (ea:a=.loc n) (hS:S[n]? = Ab (.dct kvs)) (hk:jK b=Ab k) (hl:kvs.length<lim) (e:wK a b d S=.ok () (S.set n (.dct (uK kvs k d))))
theorem N4 (a b d:D)(S:Sto):Set2V a b d S:=by
 cases a with
 |loc n =>
  have z:wK (.loc n) b d S=(match S[n]? with|some (.dct kvs)=>(match jK b with|some k=>(if kvs.length<lim then .ok () (S.set n (.dct (uK kvs k d))) else .bad)|none=>.bad)|_=>pF (.loc n) b d S):=rfl
  cases hS:S[n]? with
  |none=>rw[hS] at z;exact .old z
  |some m =>
   rw[hS] at z;cases m with
   |dct kvs =>
    cases hk:jK b with
    |none=>rw[hk] at z;exact .bad z
    |some k =>
     rw[hk] at z;by_cases hl:kvs.length<lim
     ·exact .of n kvs k rfl hS hk hl (z.trans (A7 hl))
     ·exact .bad (z.trans (AD hl))
   |_=>exact .old z
 |_=>exact .old rfl
theorem F9 (hu:X.A.units+1<CD):nM X (nH X wK):=by
 intro pins s σ H o i v ov iv u Q I ro ri rv h;obtain⟨P,α,S,a,b,d,r,pa,pb,pd,af⟩:=h;cases N4 a b d S with
 |bad e=>rw[e] at af;exact An af
 |old e =>
  rw[e] at af;exact N5 pins s σ H o i v ov iv u Q I ro ri rv ⟨P,α,S,a,b,d,r,pa,pb,pd,af⟩
 |of n kvs k ea hS hk hl e =>
  rw[e] at af;subst ea;simp only[Rep] at pa;obtain⟨p,rfl,q⟩:=pa;obtain⟨vs,z,t⟩:=r.at' n p _ q hS;cases lI hk pb;cases (show ov=AS p from ro)
  refine cU hu I (bW.k (v:=v) z (by rw[← VC t,← zT];exact hl)) ri rv fun s' I'=>⟨_,I',?_⟩
  exact af _ P α (r.put (m':=.dct (uK kvs k d)) q hS (by intro z;cases z) ⟨_,qT,VE pd t⟩) (qF.refl _) (A8 _)
def SQ:D→Aa D→Sto→Res D:=fun a ds S=>match a,ds with
 |.loc n,[i,x]=>match S[n]? with
  |some (.dct kvs)=>match jK i with
   |some k=>.ok ((wA kvs k).getD x) S
   |none=>.bad
  |_=>.bad
 |_,_=>.bad
def b7:D→Aa D→Sto→Res D:=fun a ds S=>match a,ds with
 |.lst xs,[.bl k]=>match zP xs with
  |some bs=>.ok (.int (bs.countP (· == k):Aj)) S
  |none=>.bad
 |_,_=>.bad
def fL (k:Ap):Aa Ap→Ak Aj
 |[]=>none
 |b::r=>if b=k then Ab 0 else (fL k r).map (· + 1)
def b8:D→Aa D→Sto→Res D:=fun a ds S=>match a,ds with
 |.lst xs,[.bl k]=>match (zP xs).bind (fL k) with
  |some j=>.ok (.int j) S
  |none=>.bad
 |_,_=>.bad
theorem l5 (k:Ap){bs:Aa Ap}{y:Ac}(hy:y∈(bs.map CQ).toArray):RB y (.bool k) (Ks k y):=by
 have hy':y∈bs.map CQ:=by rwa [List.mem_toArray] at hy
 obtain⟨b,_,rfl⟩:=Cc.mp hy';exact fun prog w A E s Q h=>Qv b k prog w E Q h
theorem dG (k:Ap)(bs:Aa Ap):(bs.map CQ).countP (Ks k)=bs.countP (· == k):=by
 rw[List.countP_map];rfl
theorem cF {β:Type}{r:Res β}{P:Hp}{α:Aa Ad}{Ok:β→Sto→Prop}(e:r=.bad)(h:qI X P α r Ok):CC:=by
 rw[e] at h;exact h
inductive BlV (a:D)(ds:Aa D):Prop
 |no (h:∀ (g:Aa D→Ap→Res D),(match a,ds with|.lst xs,[.bl k]=>g xs k|_,_=>.bad)=.bad)
 |of (xs:Aa D) (k:Ap) (ea:a=.lst xs) (ed:ds=[.bl k])
theorem blV (a:D)(ds:Aa D):BlV a ds:=by
 cases a with
 |lst xs =>
  cases ds with
  |nil=>exact .no fun _=>rfl
  |cons d ds =>
   cases ds with
   |cons _ _=>cases d <;> exact .no fun _=>rfl
   |nil =>
    cases d with
    |bl k=>exact .of xs k rfl rfl
    |_=>exact .no fun _=>rfl
 |_=>exact .no fun _=>rfl
theorem ZC:MtD X "list.count" b7:=by
 intro pins σ H s P α S v vv vs us a ds Q I r rv p rvs rps af;cases blV a ds with
 |no h=>exact(cF (X:=X) (r:=b7 a ds S) (h _) af).elim
 |of xs k ea ed =>
  subst ea ed;have af:qI X P α (match zP xs with|some bs=>Res.ok (D.int (bs.countP (· == k):Aj)) S|none=>.bad) (OkV X P α Q):=af
  cases hb:zP xs with
  |none=>rw[hb] at af;exact An af
  |some bs =>
   rw[hb] at af;obtain⟨vx,ux,rfl,rfl,px,qx⟩:=yD rps rvs;simp only[Rep] at px;subst px;cases (show ux=CQ k from qx)
   obtain⟨b,ws,its,n,rfl,sq,t,rvi,ht,hl,_⟩:=vS I r p;cases (show vv=AS b from rv)
   have hi:=y6 hb t rvi;subst hi;refine Jh Js ⟨_,ht,rfl⟩ PySem.F.entry_list_count (PySem.F.args_list_count_2 _ _) (PySem.SeqAt.list_countAt b (bs.map CQ).toArray n none #[] (.bool k) (Ks k)) ⟨ht,fun y hy=>(l5 k hy).at _ _,?_⟩;refine⟨.int _,H,I.tok _,⟨_,rfl⟩,?_⟩;rw[show (bs.map CQ).toArray.toList=bs.map CQ from rfl,dG]
   exact xr af r (by simp only[Rep])
theorem sF {k:Ap}:∀ {bs:Aa Ap} {j:Aj},fL k bs=Ab j→∃ h:j<bs.length,bs[j]=k∧∀ m (hm:m<bs.length),m<j→bs[m]≠k
 |[],j,h=>by cases h
 |b::r,j,h=>by
  unfold fL at h;by_cases hb:b=k
  ·rw[A7 hb] at h
   cases h;exact⟨by simp,by simpa using hb,fun m hm z=>absurd z (Nat.not_lt_zero _)⟩
  ·rw[AD hb] at h
   obtain⟨i,hi,rfl⟩:=AZ.mp h;obtain⟨h1,h2,h3⟩:=sF hi;refine⟨by simp;omega,by simpa using h2,fun m hm hl=>?_⟩
   cases m with
   |zero=>simpa using hb
   |succ m=>simpa using h3 m (by simp at hm;omega) om
theorem ZD:MtD X "list.index" b8:=by
 intro pins σ H s P α S v vv vs us a ds Q I r rv p rvs rps af;cases blV a ds with
 |no h=>exact(cF (X:=X) (r:=b8 a ds S) (h _) af).elim
 |of xs k ea ed =>
  subst ea ed;have af:qI X P α (match (zP xs).bind (fL k) with|some j=>Res.ok (D.int j) S|none=>.bad) (OkV X P α Q):=af
  cases hj:(zP xs).bind (fL k) with
  |none=>rw[hj] at af;exact An af
  |some j =>
   rw[hj] at af;obtain⟨bs,hb,hi⟩:=Cf.mp hj;obtain⟨vx,ux,rfl,rfl,px,qx⟩:=yD rps rvs;simp only[Rep] at px;subst px;cases (show ux=CQ k from qx)
   obtain⟨b,ws,its,n,rfl,sq,t,rvi,ht,hl,hz⟩:=vS I r p;cases (show vv=AS b from rv)
   have hi':=y6 hb t rvi;subst hi';obtain⟨h1,h2,h3⟩:=sF hi;have hlen:bs.length≤sizeLine:=by
    have e1:=t.length;have e2:=rvi.length;rw[A6] at e2;rw[zT] at hz;omega
   refine Jh Jt ⟨_,ht,rfl⟩ PySem.F.entry_list_index (PySem.F.args_list_index_2 _ _) (Rg b (bs.map CQ).toArray n (.bool k) (Ks k) (fun y hy=>l5 k hy) j (by simpa using h1) ?_ ?_ ?_) ⟨ht,?_⟩
   ·rw[Ct] at hlen;omega
   ·simp[Ks,h2]
   ·intro m hm hl'
    have hm':m<bs.length:=by simpa using hm
    have:=h3 m hm' hl';simp[Ks,this]
   ·exact⟨.int _,H,I.tok _,⟨_,rfl⟩,xr af r (by simp only[Rep])⟩
end
def vC (S:Sto):Sto:=S.map fun _=>.dead
def rS:D→Ap
 |.non=>true
 |.bl _=>true
 |.int _=>true
 |.str _=>true
 |_=>false
def mapO {β γ:Type}(f:β→Ak γ) : Aa β → Ak (Aa γ)
 |[]=>Ab []
 |b::r=>match f b,mapO f r with
  |some c,Ab cs=>Ab (c::cs)
  |_,_=>none
def yL:Aj→Sto→D→Ak D
 |n+1,S,.tup xs=>(mapO (yL n S) xs).map .tup
 |n+1,S,.lst xs=>(mapO (yL n S) xs).map .lst
 |n+1,S,.loc i=>match S[i]? with
  |some (.lst xs)=>(mapO (yL n S) xs).map .lst
  |_=>none
 |_,_,.non=>Ab .non
 |_,_,.bl b=>Ab (.bl b)
 |_,_,.int i=>Ab (.int i)
 |_,_,.str x=>Ab (.str x)
 |_,_,.ty n=>Ab (.ty n)
 |_,_,.obj a=>Ab (.obj a)
 |_,_,.dct0=>Ab .dct0
 |_,_,.exn c=>Ab (.exn c)
 |_,_,_=>none
def yI (H P:Hp)(α : Aa Ad):Hp:=fun b=>if (P b).isSome then P b else if b∈α then H b else none
section
variable {K:Ai}{H P:Hp}{α : Aa Ad}{S:Sto}
theorem vO (H P:Hp)(α : Aa Ad):qF P (yI H P α):=fun b o e=>by
 unfold yI;rw[e];rfl
theorem QL (r:Rel K H P α S):qF (yI H P α) H:=fun b o e=>by
 unfold yI at e
 split at e
 ·exact r.sub b o e
 ·split at e
  ·exact e
  ·cases e
theorem fH {a:Ad}(h:P a=none)(ha:a∈α):yI H P α a=H a:=by
 unfold yI;rw[h];simp[ha]
theorem Rel.frz (r:Rel K H P α S):Rel K H (yI H P α) α (vC S) where
 tb:=r.tb.keep (fun _ _ q _=>q) fun b u q _ p n=>⟨by unfold yI;rw[p];simp[n],n⟩
 sub:=QL r
 len:=by rw[r.len];simp[vC]
 nd:=r.nd
 sep:=fun i a o h1 h2 h3=>by
  unfold vC at h2;rw[Bh] at h2;cases q:S[i]? with
  |none=>rw[q] at h2;cases h2
  |some m=>rw[q] at h2;cases h2;exact absurd rfl h3
 at':=fun i a o h1 h2=>by
  unfold vC at h2;rw[Bh] at h2;cases q:S[i]? with
  |none=>rw[q] at h2;cases h2
  |some m=>rw[q] at h2;cases h2;trivial
 own:=r.own
theorem Rel.unfrz {H' P1:Hp}{α1:Aa Ad}{S1:Sto}(r:Rel K H P α S)(r1:Rel K H' P1 α1 S1)(e:qF (yI H P α) P1):Rel K H' P α S:=by
 have mem:∀ i a,α[i]? = Ab a→a∈α:=fun i a h=>A4 h;have kp:∀ (i:Aj) (a:Ad) (o:MO) (u:HO),α[i]? = Ab a→S[i]? = Ab o→o≠MO.dead→H a=Ab u→H' a=Ab u:=fun i a o u h1 h2 h3 h4 =>
  r1.sub a u (e a u (by rw[fH (r.sep i a o h1 h2 h3) (mem i a h1)];exact h4))
 refine⟨fun x hx c T h=>let ⟨ps,e,_,_,ok,cd⟩:=r1.tb x hx c T h;let ⟨_,_,pn,an,_,_⟩:=r.tb x hx c T h;⟨ps,e,pn,an,ok,cd⟩,(vO H P α).trans (e.trans r1.sub),r.len,r.nd,r.sep,fun i a o h1 h2=>?_,fun i a h1=>?_⟩
 ·have m:=r.at' i a o h1 h2
  cases o with
  |dead=>trivial
  |lst ds=>obtain⟨vs,q,t⟩:=m;exact⟨vs,kp i a _ _ h1 h2 (by intro z;cases z) q,t⟩
  |dct kvs=>obtain⟨vs,q,t⟩:=m;exact⟨vs,kp i a _ _ h1 h2 (by intro z;cases z) q,t⟩
  |ins C fs=>obtain⟨dx,vs,q,t⟩:=m;exact⟨dx,vs,kp i a _ _ h1 h2 (by intro z;cases z) q,t⟩
 ·have h:=r.own i a h1
  cases q:H a with
  |none=>exact absurd q h
  |some u =>
   have z:∃ u',yI H P α a=Ab u':=by
    cases q2:P a with
    |none=>exact⟨u,by rw[fH q2 (mem i a h1)];exact q⟩
    |some u'=>exact⟨u',vO H P α a u' q2⟩
   obtain⟨u',z⟩:=z;rw[r1.sub a u' (e a u' z)];intro w;cases w
set_option tactic.hygienic true in
theorem qD.mapO {f:D→Ak D}{P':Hp}(h:∀ d t v,f d=Ab t→Rep K P α d v→Rep K P' α t v):∀ {ds ts:Aa D} {vs:Aa V},_D.mapO f ds=Ab ts→qD K P α ds vs→qD K P' α ts vs
 |[],ts,vs,e,r=>by cases e;rw[r.nil_inv];exact .nil
 |d::ds,ts,vs,e,r=>by
  obtain⟨w,ws,rfl,r1,r2⟩:=r.cons_inv;unfold _D.mapO at e
  split at e
  ·rename_i c cs h1 h2
   cases e;exact .cons (h d c w h1 r1) (qD.mapO h h2 r2)
  ·cases e
theorem r6 (r:Rel K H P α S):∀ (n:Aj) (d t:D) (v:V),yL n S d=Ab t→Rep K P α d v→Rep K (yI H P α) α t v:=by
 have mono:∀ (d:D) (v:V),Rep K P α d v→Rep K (yI H P α) α d v:=fun d v=>Rep.mono (vO H P α) (A8 _) d v;intro n
 induction n with
 |zero =>
  intro d t v h p;cases d <;> first|(cases h;exact mono _ _ p)|exact nn h
 |succ n ih =>
  intro d t v h p;cases d with
  |tup xs =>
   obtain⟨ts,h1,rfl⟩:=AZ.mp h;simp only[Rep] at p ⊢;obtain⟨a,vs,rfl,q,t⟩:=p;exact⟨a,vs,rfl,wO (vO H P α) q,qD.mapO (fun d t v=>ih d t v) h1 t⟩
  |lst xs =>
   obtain⟨ts,h1,rfl⟩:=AZ.mp h;simp only[Rep] at p ⊢;obtain⟨a,vs,rfl,q,t⟩:=p;exact⟨a,vs,rfl,x6 (vO H P α) q,qD.mapO (fun d t v=>ih d t v) h1 t⟩
  |loc i =>
   have h:(match S[i]? with|some (.lst xs)=>(_D.mapO (yL n S) xs).map D.lst|_=>none)=Ab t:=h
   cases hS:S[i]? with
   |none=>rw[hS] at h;exact nn h
   |some m =>
    rw[hS] at h;cases m with
    |lst xs =>
     obtain⟨ts,h1,rfl⟩:=AZ.mp h;simp only[Rep] at p ⊢;obtain⟨a,rfl,q⟩:=p;obtain⟨vs,z,t⟩:=r.at' i a _ q hS;refine⟨a,vs,rfl,.inl (.inl ?_),qD.mapO (fun d t v=>ih d t v) h1 t⟩;rw[fH (r.sep i a _ q hS (by intro z;cases z)) (A4 q)]
     exact z
    |_=>exact nn h
  |fd ks ds=>exact nn h
  |clo a vs ds=>exact nn h
  |_=>cases h;exact mono _ _ p
theorem oP {P':Hp}{α':Aa Ad}(h:rS d=true)(p:Rep K P α d v):Rep K P' α' d v:=by
 cases d with
 |non=>simpa only [Rep] using p
 |bl b=>simpa only [Rep] using p
 |int i=>simpa only [Rep] using p
 |str x=>simpa only [Rep] using p
 |_=>cases h
end
def pA:Aj:=20
def eP (r:Res D)(S:Sto):Res D:=match r with
 |.ok d _=>if rS d then .ok d S else .bad
 |_=>.bad
theorem eQ {X:Cx}{H P:Hp}{α:Aa Ad}{S:Sto}{r:Res D}(rl:Rel X.K H P α S)(af:qS X P α (eP r S) Q):qS X (yI H P α) α r Q:=by
 cases r with
 |ok d S' =>
  obtain⟨ha,af⟩:=wF (X:=X) af;exact fun v H' P' α' r' e1 e2 rp=>af v H' P α (rl.unfrz r' e1) (qF.refl _) (A8 _) (oP ha rp)
 |ex c x S'=>exact An af
 |bad=>exact An af
section
variable {X:Cx}
def gI (g:G2):G2:=fun a b S=>match yL pA S a,yL pA S b with
 |some x,Ab y=>eP (g x y (vC S)) S
 |_,_=>.bad
set_option tactic.hygienic true in
theorem OpD.look {g:G2}(h:OpD X f g):OpD X f (gI g):=by
 intro pins σ H s P α S v u vv uu a b Q I r rv ru pa pb af;unfold gI at af
 split at af
 ·rename_i x y hx hy
  exact h pins σ H s _ α (vC S) v u vv uu x y Q I r.frz rv ru (r6 r pA a x v hx pa) (r6 r pA b y u hy pb) (eQ r af)
 ·exact An af
variable {cm:Ap}{k:Aj}{f:Ad}{fd:CH}{ps:Aa Ar}{F:DF}{x:Ar}{p pos:CA}{e:AF}{es:Aa AF}{fa:DA}{n:Aj}
end
def v7 (t:DT)(f:DS):Aj→qE→Sto→Out
 |0,_,_=>.bad
 |n+1,env,S=>(t env S).toS env fun b S1=>if b then (match f env S1 with
   |.nx env2 S2=>v7 t f n env2 S2
   |.ct env2 S2=>v7 t f n env2 S2
   |.bk env2 S2=>.nx env2 S2
   |o=>o) else .nx env S1
theorem cJ:∃ n:Aj,n=2 ^ 60:=⟨_,rfl⟩
def big:Aj:=Ho cJ
theorem nN:big=2 ^ 60:=EK cJ
def vX (t:DT)(f:DS):DS:=fun env S=>v7 t f big env S
section
variable {X:Cx}{pos:CA}
inductive WhI (X:Cx)(P:Hp)(α : Aa Ad)(t:DT)(f:DS)(D:Ends)(m:Aj)(σ : _L.St)(H:Hp):Prop
 |mk (P2:Hp) (α2:Aa Ad) (env2:qE) (S2:Sto) (r:Rel X.K H P2 α2 S2) (re:qZ X.K P2 α2 σ env2) (e1:qF P P2) (e2:α<+:α2) (af:qX X P2 α2 (v7 t f m env2 S2) D):WhI X P α t f D m σ H
theorem QD {c:AF}{body:Aa Cm}{t:DT}{f:DS}(hp:Hz (As X.prog X.w) X.A X.env X.xe)(hc:PT X c (tDT X t))(hb:PSs X body (tDS X f)):PS X (.While c body [] pos) (tDS X (vX t f)):=
 psW (ZV hp hc hb) fun D σ H ⟨P,α,env,S,r,re,af⟩=>by
  refine⟨WhI X P α t f D,⟨big,P,α,env,S,r,re,qF.refl _,A8 _,af⟩,?_⟩;rintro m σ2 H2 ⟨P2,α2,env2,S2,r2,re2,e1,e2,af2⟩;cases m with
  |zero=>exact An af2
  |succ m =>
   have af3:=xF af2;refine⟨P2,α2,env2,S2,r2,re2,?_⟩;cases q:t env2 S2 with
   |bad=>rw[q] at af3;exact af3
   |ex c x S'=>rw[q] at af3;exact af3
   |ok b S3 =>
    rw[q] at af3;intro H3 P3 α3 r3 e3 e4;have af4:qX X P3 α3 (if b then (match f env2 S3 with|.nx env2 S2=>v7 t f m env2 S2|.ct env2 S2=>v7 t f m env2 S2|.bk env2 S2=>.nx env2 S2|o=>o) else .nx env2 S3) D:=qX.base e3 e4 af3
    cases b with
    |false=>exact af4 σ2 H3 P3 α3 r3 (re2.mono e3 e4) (qF.refl _) (A8 _)
    |true =>
     simp only[Bv] at af4 ⊢;refine⟨WhI X P α t f D m,fun σ' H' w=>⟨m,Ee _,w⟩,P3,α3,env2,S3,r3,re2.mono e3 e4,?_⟩;cases q2:f env2 S3 with
     |bad=>rw[q2] at af4;exact af4
     |ex c x env4 S4=>rw[q2] at af4;exact af4
     |rt d4 S4=>rw[q2] at af4;exact af4
     |bk env4 S4=>rw[q2] at af4;exact af4
     |nx env4 S4 =>
      rw[q2] at af4;exact fun σ5 H5 P5 α5 r5 re5 e8 e9=>⟨P5,α5,env4,S4,r5,re5,(e1.trans e3).trans e8,(e2.trans e4).trans e9,qX.base e8 e9 af4⟩
     |ct env4 S4 =>
      rw[q2] at af4;exact fun σ5 H5 P5 α5 r5 re5 e8 e9=>⟨P5,α5,env4,S4,r5,re5,(e1.trans e3).trans e8,(e2.trans e4).trans e9,qX.base e8 e9 af4⟩
end
section
variable {X:Cx}{a b c e:AF}{pos:CA}{fa fe:DE}
def R8 (i:Aj)(g:G2)(fe:DE):DS:=fun env S=>match env[i]? with
 |some (Ab x)=>(fe env S).toS env fun y S1=>(g x y S1).toS env fun z S2=>.nx (env.set i (Ab z)) S2
 |_=>.bad
def vL (xs:Aa D)(lo hi:Ak Am):Aa D:=(xs.drop (_H.sIx xs.length 0 lo)).take (_H.sIx xs.length xs.length hi-_H.sIx xs.length 0 lo)
abbrev DO:=qE→Sto→Res (Ak Am)
def OkO (X:Cx)(P:Hp)(α : Aa Ad)(Q:Ak Am→Hp→Prop)(o:Ak Am)(S':Sto):Prop:=∀ H' P' α',Rel X.K H' P' α' S'→qF P P'→α<+:α'→Q o H'
def tDO (X:Cx)(f:DO):TO:=fun σ H Q=>∃ P α env S,Rel X.K H P α S∧qZ X.K P α σ env∧qI X P α (f env S) (OkO X P α Q)
def vM (f:DE):DO:=fun env S=>(f env S).bind fun d S1=>match d with
 |.int i=>.ok (Ab i) S1
 |_=>.bad
theorem YN (he:PE X e (tD X fe)):PO X (Ab e) (tDO X (vM fe)):=by
 intro pins s σ H Q I h;obtain⟨P,α,env,S,r,re,af⟩:=h;refine U4 (te:=tD X fe) he pins s σ H Q I ⟨P,α,env,S,r,re,?_⟩;have af':qI X P α ((fe env S).bind fun d S1=>match d with|.int i=>.ok (Ab i) S1|_=>.bad) (OkO X P α Q):=af
 cases q:fe env S with
 |bad=>rw[q] at af';exact af'
 |ex c x S'=>rw[q] at af';exact af'
 |ok d S1 =>
  rw[q] at af';intro v H1 P1 α1 r1 e1 e2 rp;cases d with
  |int i=>exact⟨i,zX rp,af' H1 P1 α1 r1 e1 e2⟩
  |_=>exact An af'
theorem qD.cut {K:Ai}{P:Hp}{α:Aa Ad}(r:qD K P α ds vs)(lo hi:Ak Am):qD K P α (vL ds lo hi) (kE vs lo hi):=by
 unfold vL kE;rw[r.length];exact(r.drop _).take _
def gSl (d:D)(lo hi:Ak Am)(S:Sto):Res D:=match d with
 |.lst xs=>.ok (.lst (vL xs lo hi)) S
 |.loc i=>match S[i]? with
  |some (.lst xs)=>.ok (.lst (vL xs lo hi)) S
  |_=>.bad
 |.tup xs=>.ok (.tup (vL xs lo hi)) S
 |_=>.bad
def dSl (fe:DE)(fl fh:DO):DE:=fun env S=>(fe env S).bind fun d S1=>(fl env S1).bind fun lo S2=>(fh env S2).bind fun hi S3=>gSl d lo hi S3
end
end _D
namespace _D
open PySem PySem.Spec PyProof.Rows _L _H
section
variable {prog:A1}{w:AH}{A:AG}{E:Ac→Ag→Prop}{s:Ag}
theorem k9 {t sl:Ad}{items:AB Ac}{vl vu:Ac}{lo hi:Ak Am}{Q:Ac→Ag→Prop}(ht:Om s.heap t items)(hs:s.heap.IsSliceOf sl vl vu .none)(pl:Ir vl lo)(pu:Ir vu hi)
  (hw:sIx items.size 0 lo=0∧sIx items.size items.size hi=items.size) (h:Q (.ref t) s):Ao (As prog w) A (Gh (.ref t) (.ref sl)) Q E s:=by
 obtain⟨ob,hob,hcb,_⟩:=id hs;have hTs:s.TypeIs (.ref sl) "slice":=⟨ob,hob,hcb⟩;unfold Gh
 try with_reducible refine Bc ?_
 first|refine Af (Al ?_)|skip
 refine Af (Ov ht.typeIs (by decide) ?_)
 refine Af (CB (name:=E8 "__getitem__") ht.typeIs Cw
  (Cy Cw ht.typeIs Mp ?_ (No _ _)))
 show Ao _ _ (Iw (.ref t) >>= _) _ _ s;refine Af (tupleItemsOf_ ht ?_);refine Af (Gi hTs ?_);rw[A7 (by decide)]
 refine Af (vY hs pl pu ?_);show Ao _ _ (if (((sIx items.size 0 lo:Aj):Am) == 0&&(1:Am) == 1&&(sIx items.size items.size hi-sIx items.size 0 lo) == items.size)=true then _ else _) _ _ s
 rw[hw.1,hw.2,A7 (by simp)]
 unfold Qw;refine Af (Af (Gi ht.typeIs (Al ?_)));rw[A7 (by decide)]
 exact Af (Gy (Al ⟨_,rfl,Al h⟩))
end
section
variable {X:Cx}{e:AF}{fe:DE}{pos p2:CA}
def D3 (X:Cx):V→Ak Am→Ak Am→Hp→VK→Prop:=fun x lo hi H Q=>∃ P α S d,Rel X.K H P α S∧Rep X.K P α d x∧qS X P α (gSl d lo hi S) Q
theorem D6:SlR X (D3 X):=by
 intro pins s σ H x v vl vu lo hi sl Q I rx hs pl pu h;obtain⟨P,α,S,d,r,p,af⟩:=h;cases d with
 |lst xs =>
  simp only[Rep] at p;obtain⟨a,vs,rfl,q,t⟩:=p;exact rC pins s σ H _ v vl vu lo hi sl Q I rx hs pl pu ⟨a,vs,rfl,(x6 r.sub q).l,fun b hb=>wM r hb (qD.cut t lo hi) af⟩
 |loc i =>
  obtain⟨xs,hS,af⟩:=vU (X:=X) (f:=fun xs=>Res.ok (D.lst (vL xs lo hi)) S) af;simp only[Rep] at p;obtain⟨a,rfl,q⟩:=p;obtain⟨vs,z,t⟩:=r.at' i a _ q hS;exact rC pins s σ H _ v vl vu lo hi sl Q I rx hs pl pu ⟨a,vs,rfl,SqL.of z,fun b hb=>wM r hb (qD.cut t lo hi) af⟩
 |tup xs =>
  have p0:=p;simp only[Rep] at p;obtain⟨a,vs,rfl,q,t⟩:=p;by_cases hw:sIx vs.length 0 lo=0∧sIx vs.length vs.length hi=vs.length
  ·cases rx
   obtain⟨its,rv,ht,hz⟩:=I.tuple (x8 r.sub q);have hlen:its.toArray.size=vs.length:=by rw[A0];exact rv.length.symm
   refine⟨"tuple",_,Cw.lookup,ht.typeIs,k9 ht hs pl pu (by rw[hlen];exact hw) ⟨.ref a,H,I,rfl,xr af r ?_⟩⟩
   have e:vL xs lo hi=xs:=by
    unfold vL;rw[t.length,hw.1,hw.2,← t.length];simp
   rw[e];exact p0
  ·exact FA pins s σ H _ v vl vu lo hi sl Q I rx hs pl pu ⟨a,vs,rfl,x8 r.sub q,hw,fun b hb=>jN r hb (qD.cut t lo hi) af⟩
 |_=>exact An af
theorem Q4 {lo hi:Ak AF}{fl fh:DO}(he:PE X e (tD X fe))(hl:PO X lo (tDO X fl))(hu:PO X hi (tDO X fh)):PE X (.Subscript e (.Slice lo hi none p2) pos) (tD X (dSl fe fl fh)):=
 peW (ZS D6 he hl hu) fun σ H Q ⟨P,α,env,S,r,re,af⟩=>by
  refine⟨P,α,env,S,r,re,?_⟩;have af':qI X P α ((fe env S).bind fun d S1=>(fl env S1).bind fun lo S2=>(fh env S2).bind fun hi S3=>gSl d lo hi S3) (OkV X P α Q):=af;cases q:fe env S with
  |bad=>rw[q] at af';exact af'
  |ex c x S'=>rw[q] at af';exact af'
  |ok d S1 =>
   rw[q] at af';intro v H1 P1 α1 r1 e1 e2 rp;refine⟨P1,α1,env,S1,r1,re.mono e1 e2,?_⟩;have af2:qI X P1 α1 ((fl env S1).bind fun lo S2=>(fh env S2).bind fun hi S3=>gSl d lo hi S3) (OkV X P1 α1 Q):=qS.base e1 e2 af';cases q2:fl env S1 with
   |bad=>rw[q2] at af2;exact af2
   |ex c x S'=>rw[q2] at af2;exact af2
   |ok l S2 =>
    rw[q2] at af2;intro H2 P2 α2 r2 e3 e4;refine⟨P2,α2,env,S2,r2,(re.mono e1 e2).mono e3 e4,?_⟩;have af3:qI X P2 α2 ((fh env S2).bind fun hi S3=>gSl d l hi S3) (OkV X P2 α2 Q):=qS.base e3 e4 af2;cases q3:fh env S2 with
    |bad=>rw[q3] at af3;exact af3
    |ex c x S'=>rw[q3] at af3;exact af3
    |ok u S3 =>
     rw[q3] at af3;intro H3 P3 α3 r3 e5 e6;exact⟨P3,α3,S3,d,r3,Rep.mono (e3.trans e5) (e4.trans e6) _ _ rp,qS.base e5 e6 af3⟩
end
end _D
namespace _D
open PySem PySem.Spec PyProof.Rows _L
variable {h':A5}{xs ys:AB Ac}{α:Aa Ad}{N:Aa Ar}{body:Aa Cm}{ds dsF:Aa D}{vs:Aa V}{Q:Ac→Ag→Prop}{C:Ad}{Qa Qd:Ag→Prop}{m:Aj}{o':Ak (Aj × MO)}{tp:Ap}{py:CA}{S SF:Sto}{env envF:qE}
def zG (tp:Ap)(h:A5)(it l:Ad)(k:Aj):Prop:=if tp then h.IsTupleIter it l k else h.IsListIter it l k
def xD (tp:Ap)(h:A5)(l:Ad)(xs:AB Ac):Prop:=if tp then h.IsTuple l xs else h.IsList l xs
theorem zG.keep {h:A5}{it l:Ad}{k:Aj}(x:zG tp h it l k)(q:∀ o,h.get? it=Ab o→h'.get? it=Ab o):zG tp h' it l k:=by
 cases tp <;> (obtain⟨o,e,r⟩:=x;exact⟨o,q o e,r⟩)
theorem xD.keep {h:A5}{l:Ad}(x:xD tp h l xs)(q:∀ o,h.get? l=Ab o→h'.get? l=Ab o):xD tp h' l xs:=by
 cases tp <;> (obtain⟨o,e,r⟩:=x;exact⟨o,q o e,r⟩)
theorem zG.there {h:A5}{it l:Ad}{k:Aj}(x:zG tp h it l k):∃ o,h.get? it=Ab o∧∀ v,o.data≠.cell v:=by
 cases tp <;> (obtain⟨o,e,_,d⟩:=x;exact⟨o,e,fun v z=>by rw[d] at z;cases z⟩)
section
variable {prog:A1}{w:AH}{A:AG}{E:Ac→Ag→Prop}{s:Ag}
theorem ZI {it t:Ad}{i:Aj}{items:AB Ac}{x:Ac}(hit:s.heap.IsTupleIter it t i)(ht:s.heap.IsTuple t items)(hx:items[i]? = Ab x)
  (hQ:∀ h',h'.IsTupleIter it t (i+1)→Di it s.heap h'→Q x { s with heap:=h' }) : Ao (As prog w) A (Bp (.ref it)) Q E s:=by
 obtain⟨o,e,c,d⟩:=id hit;obtain⟨u,eu,_,m,du⟩:=ht;unfold Bp;refine Af (CB (name:=E8 "__next__") hit.typeIs Ep (Cy Ep hit.typeIs HW ?_ (HM _)));show Ao _ _ (field (.ref it) 0 >>= _) _ _ s;refine Af (CM e d (x:=.ref t) rfl ?_);show Ao _ _ (if (AS t == CF)=true then _ else _) _ _ s;rw[AD (show ¬ ((AS t == CF)=true) from El)]
 show Ao _ _ (field (.ref it) 1 >>= _) _ _ s;refine Af (CM e d (x:=.int i 0) rfl ?_);show Ao _ _ (Rh (.ref t) >>= _) _ _ s;refine Af (Dk eu du ?_);simp only[Dz,hx];refine Af (Gn e d (by simp) (Al ⟨x,rfl,Al (hQ _ ⟨_,CN _ e (Obj.isFreed_of_fields (Nu d _)),(Obj.cls_mapFields ..).trans c,?_⟩ (Do ..))⟩))
 rw[Nu d];simp[Dj]
theorem lM {it t:Ad}{i:Aj}{items:AB Ac}{Q:Ac→Ag→Prop}(hh:A.handled=none)(hit:s.heap.IsTupleIter it t i)(ht:s.heap.IsTuple t items)(hx:items[i]? = none)
  (hE:∀ h' e,OT it s.heap h'→(∃ o,h'.get? e=Ab o∧o.cls=.type "StopIteration")→E (.ref e) { s with heap:=h' }) : Ao (As prog w) A (Bp (.ref it)) Q E s:=by
 obtain⟨o,e,c,d⟩:=id hit;obtain⟨u,eu,_,m,du⟩:=ht;unfold Bp;refine Af (CB (name:=E8 "__next__") hit.typeIs Ep (Cy Ep hit.typeIs HW ?_ (HM _)));show Ao _ _ (field (.ref it) 0 >>= _) _ _ s;refine Af (CM e d (x:=.ref t) rfl ?_);show Ao _ _ (if (AS t == CF)=true then _ else _) _ _ s;rw[AD (show ¬ ((AS t == CF)=true) from El)]
 show Ao _ _ (field (.ref it) 1 >>= _) _ _ s;refine Af (CM e d (x:=.int i 0) rfl ?_);show Ao _ _ (Rh (.ref t) >>= _) _ _ s;refine Af (Dk eu du ?_);simp only[Dz,hx];refine Af (Gy (Af (Gn e d (by simp) ?_)))
 show Ao _ _ (newExc (.type "StopIteration") [] >>= _) _ _ _;refine Af ?_;simp only[newExc,newTuple];refine Af (Cn ?_ (by size_fits))
 refine Af (m:=HX _ _) (IA (a:=CF) (by first|rfl|(simp only[HX];rfl)) (Cn ?_ (by size_fits)))
 simp only[raiseNew];refine Af (wpAny_handled ?_)
 first|rw[show A.in1.handled=none from hh]|rw[hh]
 exact Af (Al (wpAny_throw (hE _ _ (((Do ..).extBut.push _).push _) ⟨_,Az _ rfl,rfl⟩)))
theorem pJ {it l:Ad}{k:Aj}{x:Ac}(hit:zG tp s.heap it l k)(hl:xD tp s.heap l xs)(hx:xs[k]? = Ab x)
  (hQ:∀ h',zG tp h' it l (k+1)→Di it s.heap h'→Q x { s with heap:=h' }) : Ao (As prog w) A (Bp (.ref it)) Q E s:=by
 cases tp with
 |false=>exact wpAny_nextOf_list_item hit hl hx hQ
 |true=>exact ZI hit hl hx hQ
theorem kR {it l:Ad}{k:Aj}{Q:Ac→Ag→Prop}(hh:A.handled=none)(hit:zG tp s.heap it l k)(hl:xD tp s.heap l xs)(hx:xs[k]? = none)
  (hE:∀ h' e,OT it s.heap h'→(∃ o,h'.get? e=Ab o∧o.cls=.type "StopIteration")→E (.ref e) { s with heap:=h' }) : Ao (As prog w) A (Bp (.ref it)) Q E s:=by
 cases tp with
 |false=>exact wpAny_nextOf_list_end hh hit hl hx hE
 |true=>exact lM hh hit hl hx hE
structure ZA (z I O i j:Ad):Prop where
 Iz:I≠z
 Oz:O≠z
 iz:i≠z
 jz:j≠z
 IO:I≠O
 Ii:I≠i
 Ij:I≠j
 Oi:O≠i
 Oj:O≠j
 ij:i≠j
structure Off (z O i j a:Ad):Prop where
 z:a≠z
 O:a≠O
 i:a≠i
 j:a≠j
abbrev oK (z O i j:Ad)(h h':A5):Prop:=∀ c o,c≠z→c≠O→c≠i→c≠j→h.get? c=Ab o→h'.get? c=Ab o
theorem XR {tq:Ap}{z I O i j a b:Ad}{k:Aj}{x y p q:Ac}(D:ZA z I O i j)(Da:Off z O i j a)(Db:Off z O i j b)
  (hz:HY s.heap z I O .none) (hI:EB s.heap I (.ref i) (.ref j)) (hO:EB s.heap O p q) (h1:zG tp s.heap i a k) (h2:zG tq s.heap j b k) (ha:xD tp s.heap a xs) (hb:xD tq s.heap b ys) (hx:xs[k]? = Ab x) (hy:ys[k]? = Ab y)
  (hQ:∀ h',HY h' z I O (Dj s.heap.objs.size)→EB h' O x y→zG tp h' i a (k+1)→zG tq h' j b (k+1)→EB h' s.heap.objs.size x y→h'.objs.size=s.heap.objs.size+1→oK z O i j s.heap h'→Q (.ref s.heap.objs.size) { s with heap:=h' }) :
  Ao (As prog w) A (Ew.«zip.__next__» ⟨[.ref z],[]⟩) (fun fin s'=>∃ v,fin=.done (.ret v)∧Q v s') E s:=by
 show Ao _ _ (field (.ref z) 2 >>= _) _ _ _;refine Af (CM hz rfl (x:=.bool false) rfl ?_);show Ao _ _ (field (.ref z) 3 >>= _) _ _ _;refine Af (CM hz rfl (x:=.ref I) rfl (Af (Dk hI rfl ?_)));show Ao _ _ (Dg (.ref z) >>= _) _ _ _;refine Af ?_;unfold Dg;refine Af (CM hz rfl (x:=.none) rfl (Al ?_));simp only[Bv];refine Af (Gy (Af (CM hz rfl (x:=.ref O) rfl (Af (Eo hz (by simp) fun g1 z1 s1=>?_)))))
 replace z1:HY g1 z I O .ellipsis:=z1
 refine Af ?_;simp only[OU,Pp,Kq,HV];refine Af (Af (IN ?_));show Ao _ _ (Bp (.ref i) >>= _) _ _ _;refine Af (pJ (h1.keep fun o e=>s1.extBut _ _ D.iz e) (ha.keep fun o e=>s1.extBut _ _ Da.z e) hx fun g2 i2 s2=>Al ?_);have O2:EB g2 O p q:=s2.extBut _ _ D.Oi (s1.extBut _ _ D.Oz hO);refine Af (Dk O2 rfl (Af (Hw O2 fun g3 O3 s3=>Af (OV (Al ?_)))))
 replace O3:EB g3 O x q:=O3
 refine Af (Af (IN ?_));show Ao _ _ (Bp (.ref j) >>= _) _ _ _;refine Af (pJ (h2.keep fun o e=>s3.extBut _ _ D.Oj.symm (s2.extBut _ _ D.ij.symm (s1.extBut _ _ D.jz e))) (hb.keep fun o e=>s3.extBut _ _ Db.O (s2.extBut _ _ Db.i (s1.extBut _ _ Db.z e))) hy fun g4 j4 s4=>Al ?_);have O4:EB g4 O x q:=s4.extBut _ _ D.Oj O3;refine Af (Dk O4 rfl (Af (Hw O4 fun g5 O5 s5=>Af (OV (Al (Al ?_))))))
 replace O5:EB g5 O x y:=O5
 refine Af (Dk O5 rfl (Af (wpAny_newTuple ?_)));have sz:g5.objs.size=s.heap.objs.size:=by rw[s5.1,s4.1,s3.1,s2.1,s1.1]
 have z5:HY g5 z I O .ellipsis:=s5.extBut _ _ D.Oz.symm (s4.extBut _ _ D.jz.symm (s3.extBut _ _ D.Oz.symm (s2.extBut _ _ D.iz.symm z1)));have k5:oK z O i j s.heap g5:=fun c o c1 c2 c3 c4 e=>s5.extBut _ _ c2 (s4.extBut _ _ c4 (s3.extBut _ _ c2 (s2.extBut _ _ c3 (s1.extBut _ _ c1 e))));have i5:zG tp g5 i a (k+1):=i2.keep fun o e=>s5.extBut _ _ D.Oi.symm (s4.extBut _ _ D.ij (s3.extBut _ _ D.Oi.symm e));have j5:zG tq g5 j b (k+1):=j4.keep fun o e=>s5.extBut _ _ D.Oj.symm e;have zl:z<g5.objs.size:=Au z5;show Ao _ _ (Ft (.ref z) (.ref g5.objs.size) >>= _) _ _ _;refine Af ?_;unfold Ft;have z6:HY (g5.push { cls:=.type "tuple",data:=.seq #[x,y] }) z I O .ellipsis:=Ah _ z5;refine Af (Eo z6 (by simp) fun g7 z7 s7=>?_)
 replace z7:HY g7 z I O (Dj g5.objs.size):=z7
 refine Eo z7 (by simp) fun g8 z8 s8=>?_
 replace z8:HY g8 z I O (Dj g5.objs.size):=z8
 have up:∀ c o,c≠z→g5.get? c=Ab o→g8.get? c=Ab o:=fun c o c1 e=>s8.extBut _ _ c1 (s7.extBut _ _ c1 (Ah _ e));have T8:EB g8 g5.objs.size x y:=s8.extBut _ _ (Dq zl) (s7.extBut _ _ (Dq zl) (Az _ rfl));have sz8:g8.objs.size=g5.objs.size+1:=by rw[s8.1,s7.1,Bx]
 rw[sz] at z8 T8 sz8;refine Al ⟨_,rfl,?_⟩;show Q (.ref g5.objs.size) _;rw[sz];exact hQ g8 z8 (up _ _ D.Oz O5) (i5.keep fun o e=>up _ o D.iz e) (j5.keep fun o e=>up _ o D.jz e) T8 sz8 fun c o c1 c2 c3 c4 e=>up c o c1 (k5 c o c1 c2 c3 c4 e)
end
section
variable {prog:A1}{w:AH}{A:AG}{E:Ac→Ag→Prop}{s:Ag}
theorem XT {tq:Ap}{z I O i j a b:Ad}{k:Aj}{p q:Ac}{Q:Fin→Ag→Prop}(hh:A.handled=none)(D:ZA z I O i j)(Da:Off z O i j a)(Db:Off z O i j b)
  (hz:HY s.heap z I O .none) (hI:EB s.heap I (.ref i) (.ref j)) (hO:EB s.heap O p q) (h1:zG tp s.heap i a k) (h2:zG tq s.heap j b k) (ha:xD tp s.heap a xs) (hb:xD tq s.heap b ys) (hend:xs[k]? = none∨ys[k]? = none)
  (hE:∀ h' e,oK z O i j s.heap h'→(∃ o,h'.get? e=Ab o∧o.cls=.type "StopIteration")→E (.ref e) { s with heap:=h' }) : Ao (As prog w) A (Ew.«zip.__next__» ⟨[.ref z],[]⟩) Q E s:=by
 show Ao _ _ (field (.ref z) 2 >>= _) _ _ _;refine Af (CM hz rfl (x:=.bool false) rfl ?_);show Ao _ _ (field (.ref z) 3 >>= _) _ _ _;refine Af (CM hz rfl (x:=.ref I) rfl (Af (Dk hI rfl ?_)));show Ao _ _ (Dg (.ref z) >>= _) _ _ _;refine Af ?_;unfold Dg;refine Af (CM hz rfl (x:=.none) rfl (Al ?_));simp only[Bv];refine Af (Gy (Af (CM hz rfl (x:=.ref O) rfl (Af (Eo hz (by simp) fun g1 z1 s1=>?_)))))
 replace z1:HY g1 z I O .ellipsis:=z1
 refine Af ?_;simp only[OU,Pp,Kq,HV];refine Af (Af (IN ?_));show Ao _ _ (Bp (.ref i) >>= _) _ _ _;have it1:zG tp g1 i a k:=h1.keep fun o e=>s1.extBut _ _ D.iz e;have sq1:xD tp g1 a xs:=ha.keep fun o e=>s1.extBut _ _ Da.z e;cases hx:xs[k]? with
 |none =>
  refine Af (kR hh it1 sq1 hx fun g2 e x2 he=>?_);obtain⟨oe,h3,h4⟩:=he;have z2:HY g2 z I O .ellipsis:=x2 _ _ D.iz.symm z1;have ne:e≠z:=fun y=>by subst y;rw[z2] at h3;cases h3;simp at h4
  exact Eo z2 (by simp) fun g3 _ s3=>hE g3 e (fun c o c1 _ c3 _ y=>s3.extBut _ _ c1 (x2 _ _ c3 (s1.extBut _ _ c1 y))) ⟨oe,s3.extBut _ _ ne h3,h4⟩
 |some x =>
  have hy:ys[k]? = none:=by
   rcases hend with y|y
   ·rw[hx] at y;cases y
   ·exact y
  refine Af (pJ it1 sq1 hx fun g2 i2 s2=>Al ?_);have O2:EB g2 O p q:=s2.extBut _ _ D.Oi (s1.extBut _ _ D.Oz hO);refine Af (Dk O2 rfl (Af (Hw O2 fun g3 O3 s3=>Af (OV (Al ?_)))));refine Af (Af (IN ?_));show Ao _ _ (Bp (.ref j) >>= _) _ _ _;refine Af (kR hh (h2.keep fun o e=>s3.extBut _ _ D.Oj.symm (s2.extBut _ _ D.ij.symm (s1.extBut _ _ D.jz e))) (hb.keep fun o e=>s3.extBut _ _ Db.O (s2.extBut _ _ Db.i (s1.extBut _ _ Db.z e))) hy fun g4 e x4 he=>?_);obtain⟨oe,h3,h4⟩:=he;have z4:HY g4 z I O .ellipsis:=x4 _ _ D.jz.symm (s3.extBut _ _ D.Oz.symm (s2.extBut _ _ D.iz.symm z1));have ne:e≠z:=fun y=>by subst y;rw[z4] at h3;cases h3;simp at h4
  exact Eo z4 (by simp) fun g5 _ s5=>hE g5 e (fun c o c1 c2 c3 c4 y=>s5.extBut _ _ c1 (x4 _ _ c4 (s3.extBut _ _ c2 (s2.extBut _ _ c3 (s1.extBut _ _ c1 y))))) ⟨oe,s5.extBut _ _ ne h3,h4⟩
abbrev bD (tp:Ap)(l:Ad):AU:={ cls:=.type (if tp then "tuple_iterator" else "list_iterator"),data:=.fields #[.ref l,.int 0 0] }
abbrev zh1 (tp:Ap)(h:A5)(a:Ad):A5:=h.push (bD tp a)
abbrev zh2 (tp tq:Ap)(h:A5)(a b:Ad):A5:=(zh1 tp h a).push (bD tq b)
abbrev zh3 (tp tq:Ap)(h:A5)(a b:Ad):A5:=(zh2 tp tq h a b).push { cls:=.type "tuple",data:=.seq #[.ref h.objs.size,.ref (zh1 tp h a).objs.size] }
abbrev zh4 (tp tq:Ap)(h:A5)(a b:Ad):A5:=(zh3 tp tq h a b).push { cls:=.type "tuple",data:=.seq #[.none,.none] }
abbrev zh5 (tp tq:Ap)(h:A5)(a b:Ad):A5:=(zh4 tp tq h a b).push { cls:=.type "zip",data:=.fields #[.none,.bool false,.bool false,.ref (zh2 tp tq h a b).objs.size,.ref (zh3 tp tq h a b).objs.size] }
set_option maxHeartbeats 4000000 in
theorem JA (tp:Ap)(a b:Ad)(xs ys:AB Ac) :
  Meets (Ew.«zip.__new__» ⟨[.type "zip",.ref a,.ref b],[]⟩) (fun _ R s=>xD tp s.heap a xs∧xD tp s.heap b ys∧R (.ok (.ret (.ref (zh4 tp tp s.heap a b).objs.size))) { s with heap:=zh5 tp tp s.heap a b }):=
 .of_wp fun prog w A R s h=>by
  obtain⟨hp,g,d,tk,os⟩:=s;obtain⟨q1,q2,h⟩:=h;have hsub:=sub_zip;have e2:∀ ob:AU,xD tp (hp.push ob) b ys:=fun ob=>q2.keep fun o e=>Ah _ e;cases tp
  ·have l1:RG (Lh ⟨hp,g,d,tk,os⟩) a xs:=q1
   have l2:RG (Lh ⟨hp.push { cls:=.type "list_iterator",data:=.fields #[.ref a,.int 0 0] },g,d,tk,os⟩) b ys:=e2 _
   wp_walk using Dm l1,Dm l2
   exact⟨_,rfl,h⟩
  ·have l1:Ru (Lh ⟨hp,g,d,tk,os⟩) a xs:=q1
   have l2:Ru (Lh ⟨hp.push { cls:=.type "tuple_iterator",data:=.fields #[.ref a,.int 0 0] },g,d,tk,os⟩) b ys:=e2 _
   wp_walk using En l1,En l2
   exact⟨_,rfl,h⟩
theorem bG {h:A5}{it l:Ad}(e:h.get? it=Ab (bD tp l)):zG tp h it l 0:=by
 cases tp
 ·exact⟨_,e,rfl,rfl⟩
 ·exact⟨_,e,rfl,rfl⟩
theorem oT {a b:Ad}(ha:xD tp s.heap a xs)(hb:xD tp s.heap b ys)
  (h:∀ h',HY h' (s.heap.objs.size+4) (s.heap.objs.size+2) (s.heap.objs.size+3) .none→EB h' (s.heap.objs.size+2) (.ref s.heap.objs.size) (.ref (s.heap.objs.size+1)) →
   EB h' (s.heap.objs.size+3) .none .none→zG tp h' s.heap.objs.size a 0→zG tp h' (s.heap.objs.size+1) b 0→h'.objs.size=s.heap.objs.size+5→(∀ c o,s.heap.get? c=Ab o→h'.get? c=Ab o)→Q (.ref (s.heap.objs.size+4)) { s with heap:=h' }) :
  Ao (As prog w) A (call (.type "zip") [.ref a,.ref b]) Q E s:=by
 refine callType_new F.called_zip (by decide) (F.typeCall_zip_2 _ _) (F.newCall_zip_2 _ _) (fun obj=>F.args_object_init_3 obj _ _) F.entry_zip_new (JA tp a b xs ys) ⟨ha,hb,?_⟩
 have y1:(zh1 tp s.heap a).objs.size=s.heap.objs.size+1:=Bx ..;have y2:(zh2 tp tp s.heap a b).objs.size=s.heap.objs.size+2:=by rw[Bx,y1]
 have y3:(zh3 tp tp s.heap a b).objs.size=s.heap.objs.size+3:=by rw[Bx,y2]
 have y4:(zh4 tp tp s.heap a b).objs.size=s.heap.objs.size+4:=by rw[Bx,y3]
 have y5:(zh5 tp tp s.heap a b).objs.size=s.heap.objs.size+5:=by rw[Bx,y4]
 have g5:(zh5 tp tp s.heap a b).get? (zh4 tp tp s.heap a b).objs.size=Ab _:=Az _ rfl;have g4:(zh5 tp tp s.heap a b).get? (zh3 tp tp s.heap a b).objs.size=Ab _:=Ah _ (Az _ rfl);have g3:(zh5 tp tp s.heap a b).get? (zh2 tp tp s.heap a b).objs.size=Ab _:=Ah _ (Ah _ (Az _ rfl));have g2:(zh5 tp tp s.heap a b).get? (zh1 tp s.heap a).objs.size=Ab (bD tp b):=Ah _ (Ah _ (Ah _ (Az _ rfl)));have g1:(zh5 tp tp s.heap a b).get? s.heap.objs.size=Ab (bD tp a):=Ah _ (Ah _ (Ah _ (Ah _ (Az _ rfl))));have kp:∀ c o,s.heap.get? c=Ab o→(zh5 tp tp s.heap a b).get? c=Ab o:=fun c o e=>Ah _ (Ah _ (Ah _ (Ah _ (Ah _ e))));show _∧_;rw[y2,y3,y4] at g5;rw[y1,y2] at g3;rw[y3] at g4;rw[y1] at g2;rw[y4];exact⟨⟨_,g5,rfl⟩,h _ g5 g3 g4 (bG g1) (bG g2) y5 kp⟩
end
def Sq (tp:Ap)(K:Ai)(H:Hp)(a:Ad)(xs:Aa V):Prop:=if tp then SqT K H a xs else SqL K H a xs
section
variable {X:Cx}{pins:Aa (Ad × AU)}{σ : _L.St}{H:Hp}{s:Ag}
theorem Sq.at {a:Ad}{xs:Aa V}(I:Inv X pins σ H s)(q:Sq tp X.K H a xs):∃ its,qK xs its∧xD tp s.heap a its.toArray:=by
 cases tp with
 |true =>
  obtain⟨its,rv,p,_⟩:=I.tuple q;exact⟨its,rv,p⟩
 |false =>
  obtain⟨its,rv,p,_⟩:=I.list q;exact⟨its,rv,p.isList⟩
theorem Sq.inj {a:Ad}{xs ys:Aa V}(I:Inv X pins σ H s)(q:Sq tp X.K H a xs)(q':Sq tp X.K H a ys):xs=ys:=by
 cases tp with
 |true=>exact I.tuple_inj q q'
 |false=>exact I.list_inj q q'
theorem Sq.off {a b:Ad}{xs:Aa V}(I:Inv X pins σ H s)(q:Sq tp X.K H a xs)(f:zY X pins H b):a≠b:=by
 have key:H a≠none∨∃ o,X.K.lookup a=Ab o:=by
  cases tp with
  |true =>
   rcases q with (q|⟨o,q⟩)|⟨o,_,_,q,_⟩
   ·exact .inl (by rw[q];intro z;cases z)
   ·exact .inl (by rw[q];intro z;cases z)
   ·exact .inr ⟨_,q⟩
  |false =>
   rcases q with (q|⟨o,q⟩)|⟨o,_,_,q,_⟩
   ·exact .inl (by rw[q];intro z;cases z)
   ·exact .inl (by rw[q];intro z;cases z)
   ·exact .inr ⟨_,q⟩
 rintro rfl;rcases key with k|⟨o,k⟩
 ·exact k f.1
 ·have e:=I.mod.kin a o k
  rcases f.2.2.2.1 with z|z
  ·exact I.ok.noex a o e z
  ·exact absurd (Au (I.ok.bs a o e).1) (Ha.mpr z)
theorem Inv.turnLay {fp:Aa Ad}{T:Ad}{xs:Aa V}{its:Aa Ac}(I:Inv X pins σ H s)(hf:∀ b∈fp,zY X pins H b)(k:∀ b o,b ∉ fp→s.heap.get? b=Ab o→h'.get? b=Ab o)(th:∀ b∈fp,∃ o,h'.get? b=Ab o)
  (hT:s.heap.objs.size≤T) (rv:qK xs its) (hx:Om h' T its.toArray) (hz:xs.length≤sizeLine):Inv X pins σ (upd H T (.tup xs)) { s with heap:=h' }:=by
 have hn:H T=none:=I.hok.fresh hT;have ne:∀ b o,s.heap.get? b=Ab o→b≠T:=fun b o e=>AL (Ax (Au e) hT);refine I.step (g':=s.gens) (d':=s.drawn) (t':=s.toks) (ch:=fp) (fun b hb=>⟨(hf b hb).2.2.2.1,(hf b hb).2.1,(hf b hb).2.2.2.2.1,(hf b hb).2.2.2.2.2⟩) (fun b o _ _ hc e _=>k b o hc e) (fun b o _ _ hc e _=>⟨o.slots,k b o hc e⟩)
  (fun b o _ e n=>by rw[qH (ne b o e)];exact n) (fun b o hc e=>⟨o,k b o hc e⟩) (fun b ys e=>by rw[qH (qP e hn)];exact e) (fun b o u e=>by rw[qH (qP e hn)];exact e)
  (fun b ps e=>⟨#[],by rw[qH (qP e hn),e];simp⟩) (fun m hm=>?_) (fun b u e=>?_) I.bare
 ·obtain⟨o,es,ep,ho,r⟩:=hm
  exact⟨o,es,ep,k _ o (fun z=>(hf _ z).2.1 rfl) ho,r⟩
 ·by_cases hb:b=T
  ·subst hb
   rw[qT] at e;cases e;exact⟨hz,its,rv,hx⟩
  ·rw[qH hb] at e
   refine(I.hok b u e).stay (fun c v hc q=>k c v (fun z=>?_) q) (fun c q=>by rw[qH (qP q hn)];exact q) fun c ys q=>by rw[qH (qP q hn)];exact q
   have hcn:=(hf c z).1;rcases hc with rfl|hc
   ·rw[hcn] at e;cases e
   ·rw[hcn] at hc;cases hc
theorem Inv.turnL {fp:Aa Ad}(I:Inv X pins σ H s)(hf:∀ b∈fp,zY X pins H b)(k:∀ b o,b ∉ fp→s.heap.get? b=Ab o→h'.get? b=Ab o):Inv X pins σ H { s with heap:=h' }:=by
 refine I.step (g':=s.gens) (d':=s.drawn) (t':=s.toks) (ch:=fp) (fun b hb=>⟨(hf b hb).2.2.2.1,(hf b hb).2.1,(hf b hb).2.2.2.2.1,(hf b hb).2.2.2.2.2⟩) (fun b o _ _ hc e _=>k b o hc e) (fun b o _ _ hc e _=>⟨o.slots,k b o hc e⟩)
  (fun b o _ e n=>n) (fun b o hc e=>⟨o,k b o hc e⟩) (fun b ys e=>e) (fun b o u e=>e) (fun b ps e=>⟨#[],by rw[e];simp⟩) (fun m hm=>?_) (fun b u e=>?_) I.bare
 ·obtain⟨o,es,ep,ho,r⟩:=hm
  exact⟨o,es,ep,k _ o (fun z=>(hf _ z).2.1 rfl) ho,r⟩
 ·refine(I.hok b u e).stay (fun c v hc q=>k c v (fun z=>?_) q) (fun c q=>q) fun c ys q=>q
  have hcn:=(hf c z).1;rcases hc with rfl|hc
  ·rw[hcn] at e;cases e
  ·rw[hcn] at hc;cases hc
end
def Itz (tp:Ap)(K:Ai)(a b:Ad):It:=
  ⟨fun i H=>∃ xs ys x y,Sq tp K H a xs∧Sq tp K H b ys∧xs[i]? = Ab x∧ys[i]? = Ab y,
   fun i H v H'=>∃ T x y,v=.ref T∧H T=none∧H'=upd H T (.tup [x,y])∧(∀ xs,Sq tp K H a xs→xs[i]? = Ab x)∧∀ ys,Sq tp K H b ys→ys[i]? = Ab y,
   fun i H=>∃ xs ys,Sq tp K H a xs∧Sq tp K H b ys∧(xs.length≤i∨ys.length≤i)⟩
def rQ (tp:Ap)(z I O i j a b:Ad)(k:Aj)(h:A5):Prop:=∃ p q,HY h z I O .none∧EB h I (.ref i) (.ref j)∧EB h O p q∧zG tp h i a k∧zG tp h j b k
theorem g9 {z I O i j a b:Ad}{k:Aj}{h:A5}(st:rQ tp z I O i j a b k h):∀ c∈[z,I,O,i,j],∃ o,h.get? c=Ab o∧∀ v,o.data≠.cell v:=fun c hc=>by
 obtain⟨p,q,s1,s2,s3,s4,s5⟩:=st;simp only[Aw,Bq,DL] at hc;rcases hc with rfl|rfl|rfl|rfl|rfl
 ·exact⟨_,s1,fun v y=>by cases y⟩
 ·exact⟨_,s2,fun v y=>by cases y⟩
 ·exact⟨_,s3,fun v y=>by cases y⟩
 ·exact s4.there
 ·exact s5.there
theorem WH {c z I O i j:Ad}(h:c ∉ [z,I,O,i,j]):c≠z∧c≠O∧c≠i∧c≠j:=by
 simp only[Aw,Bq,DL,Qx] at h;exact⟨h.1,h.2.2.1,h.2.2.2.1,h.2.2.2.2⟩
theorem XM {P:A1}{w:AH}{K:Ai}{elts:Aa AF}{x1:Aj}{tpos:CA}{z I O i j a b:Ad}(D:ZA z I O i j):Turn P w K (.Tuple elts x1 tpos) (Itz tp K a b) [z,I,O,i,j] z (rQ tp z I O i j a b) where
 mem:=.head _
 obj:=fun k h st=>g9 st
 keep:=fun k h h' st kp=>by
  obtain⟨p,q,s1,s2,s3,s4,s5⟩:=st;exact⟨p,q,kp z (.head _) _ s1,kp I (.tail _ (.head _)) _ s2,kp O (.tail _ (.tail _ (.head _))) _ s3,s4.keep fun o e=>kp i (.tail _ (.tail _ (.tail _ (.head _)))) o e,s5.keep fun o e=>kp j (.tail _ (.tail _ (.tail _ (.tail _ (.head _))))) o e⟩
 item:=by
  intro X hP hw hK hc k pins s σ H E Iv hf st hg;subst hP hw hK;obtain⟨p,q,s1,s2,s3,s4,s5⟩:=st;obtain⟨xs,ys,x,y,qa,qb,hx,hy⟩:=hg;obtain⟨ia,ra,ha⟩:=qa.at Iv;obtain⟨ib,rb,hb⟩:=qb.at Iv;obtain⟨u,hu,ru⟩:=ra.get hx;obtain⟨u',hu',ru'⟩:=rb.get hy;have off:∀ {c:Ad} {zs:Aa V},Sq tp X.K H c zs→Off z O i j c:=fun {c zs} qc=>⟨qc.off Iv (hf z (.head _)),qc.off Iv (hf O (.tail _ (.tail _ (.head _)))),qc.off Iv (hf i (.tail _ (.tail _ (.tail _ (.head _))))),qc.off Iv (hf j (.tail _ (.tail _ (.tail _ (.tail _ (.head _))))))⟩;have hT:s.TypeIs (.ref z) "zip":=⟨_,s1,rfl⟩;unfold Hg;refine Af (Fj (CB (name:=E8 "__next__") hT HD (Cy HD hT OW
   (XR D (off qa) (off qb) s1 s2 s3 s4 s5 ha hb (by simpa using hu) (by simpa using hu') fun h' a1 a2 a3 a4 a5 a6 a7=>Al ?_) (O8 _))))
  refine⟨_,rfl,wpAny_letOwnedTupleGo_zip (s:={ s with heap:=h' }) a1 fun h2 b1 b2=>?_⟩
  have up:∀ c o,c≠z→h'.get? c=Ab o→h2.get? c=Ab o:=fun c o n e=>(b2.2 c n).trans e;have zl:z<s.heap.objs.size:=Au s1;have T2:EB h2 s.heap.objs.size u u':=up _ _ (Dq zl) a5;have st2:rQ tp z I O i j a b (k+1) h2:=⟨u,u',b1,up _ _ D.Iz (a7 I _ D.Iz D.IO D.Ii D.Ij s2),up _ _ D.Oz a2,a3.keep fun o e=>up _ o D.iz e,a4.keep fun o e=>up _ o D.jz e⟩;refine⟨.ref s.heap.objs.size,upd H s.heap.objs.size (.tup [x,y]),?_,rfl,⟨_,x,y,rfl,Iv.hok.fresh (A2 _),rfl,fun zs qz=>by rw[qz.inj Iv qa];exact hx,fun zs qz=>by rw[qz.inj Iv qb];exact hy⟩,st2,fun c hc=>?_⟩
  ·show _L.Inv X pins σ (upd H s.heap.objs.size (.tup [x,y])) { s with heap:=h2 }
   refine Inv.turnLay (fp:=[z,I,O,i,j]) (its:=[u,u']) Iv hf (fun c o hc e=>?_) (fun c hc=>?_) (A2 _) (.cons ru (.cons ru' .nil)) ⟨_,T2,rfl,_,rfl⟩ (by show 2≤sizeLine;decide)
   ·have hc:=WH hc
    exact up c o hc.1 (a7 c o hc.1 hc.2.1 hc.2.2.1 hc.2.2.2 e)
   ·obtain⟨o,e,_⟩:=g9 st2 c hc
    exact⟨o,e⟩
  ·have hn:=(hf c hc).1
   rw[qH ?_]
   ·exact hn
   ·rintro rfl
    obtain⟨o,e,_⟩:=g9 ⟨p,q,s1,s2,s3,s4,s5⟩ _ hc;exact absurd (Au e) (Cj _)
 done:=by
  intro X hP hw hK hc k pins s σ H E Iv hf st hg;subst hP hw hK;obtain⟨p,q,s1,s2,s3,s4,s5⟩:=st;obtain⟨xs,ys,qa,qb,hend⟩:=hg;obtain⟨ia,ra,ha⟩:=qa.at Iv;obtain⟨ib,rb,hb⟩:=qb.at Iv;have off:∀ {c:Ad} {zs:Aa V},Sq tp X.K H c zs→Off z O i j c:=fun {c zs} qc=>⟨qc.off Iv (hf z (.head _)),qc.off Iv (hf O (.tail _ (.tail _ (.head _)))),qc.off Iv (hf i (.tail _ (.tail _ (.tail _ (.head _))))),qc.off Iv (hf j (.tail _ (.tail _ (.tail _ (.tail _ (.head _))))))⟩;have hT:s.TypeIs (.ref z) "zip":=⟨_,s1,rfl⟩;have l1:=ra.length;have l2:=rb.length;unfold Hg;refine Af (Fj (CB (name:=E8 "__next__") hT HD (Cy HD hT OW
   (XT (Iv.ok.hd hc) D (off qa) (off qb) s1 s2 s3 s4 s5 ha hb ?_ fun h' e kp he=>?_) (O8 _))))
  ·rcases hend with y|y
   ·exact .inl (by simp;omega)
   ·exact .inr (by simp;omega)
  ·obtain⟨o,ho,hcl⟩:=he
   refine Af (Jm (T:="StopIteration") (b:=true) ⟨o,ho,hcl⟩ isSubtype_stop (Al ⟨rfl,Inv.turnL (fp:=[z,I,O,i,j]) Iv hf fun c o hc e=>?_⟩));have hc:=WH hc;exact kp c o hc.1 hc.2.1 hc.2.2.1 hc.2.2.2 e
 self:=fun _ _ _ _ _ st h=>by
  obtain⟨p,q,s1,_⟩:=st;exact OX s1 h
def u3 (xs ys:Aa D):Aa D:=List.zipWith (fun x y=>D.tup [x,y]) xs ys
def FT (ds:Aa D):Ak (Aa D):=match ds with
 |[.tup xs,.tup ys]=>Ab (u3 xs ys)
 |[.lst xs,.lst ys]=>Ab (u3 xs ys)
 |_=>none
def eD (f:DA):DI:=fun env S=>(f env S).bind fun ds S1=>v8 (FT ds) S1
theorem XQ {xs ys:Aa D}{i:Aj}:(u3 xs ys)[i]? = match xs[i]?,ys[i]? with|some x,Ab y=>Ab (D.tup [x,y])|_,_=>none:=by
 unfold u3;rw[List.getElem?_zipWith];cases xs[i]? <;> cases ys[i]? <;> rfl
theorem pV (xs ys:Aa D):(u3 xs ys).length=min xs.length ys.length:=by simp[u3]
section
variable {K:Ai}
theorem Sq.mono {P P':Hp}(e:qF P P'){a:Ad}{xs:Aa V}(q:Sq tp K P a xs):Sq tp K P' a xs:=by
 cases tp with
 |true=>exact wO e q
 |false=>exact e.seq q
theorem V8 {P:Hp}{a b:Ad}{xs ys:Aa D}{ws:Aa V}(qa:Sq tp K P a vs)(qb:Sq tp K P b ws)(ta:qD K P α xs vs)(tb:qD K P α ys ws):ItD K (Itz tp K a b) P α (u3 xs ys) where
 go:=fun i H P1 α1 S hi r e _=>by
  rw[pV] at hi;have h1:i<vs.length:=by rw[← ta.length];omega
  have h2:i<ws.length:=by rw[← tb.length];omega
  exact⟨vs,ws,vs[i],ws[i],qa.mono (e.trans r.sub),qb.mono (e.trans r.sub),by simp,by simp⟩
 yld:=fun i H x H' P1 α1 S hi r e e2 y=>by
  obtain⟨T,u,w,rfl,hT,rfl,hu,hw⟩:=y;rw[pV] at hi;have h1:i<xs.length:=by omega
  have h2:i<ys.length:=by omega
  obtain⟨v1,z1,p1⟩:=ta.get (Aq h1);obtain⟨v2,z2,p2⟩:=tb.get (Aq h2);have eu:=hu vs (qa.mono (e.trans r.sub));have ew:=hw ws (qb.mono (e.trans r.sub));rw[z1] at eu;cases eu;rw[z2] at ew;cases ew;obtain⟨r1,s1⟩:=r.pure (o:=.tup [u,w]) hT;refine⟨_,.tup [xs[i],ys[i]],?_,r1,s1,?_⟩
  ·rw[XQ,Aq h1,Aq h2]
  ·exact sZ (.of qT) (.cons (Rep.mono (e.trans s1) e2 _ _ p1) (.cons (Rep.mono (e.trans s1) e2 _ _ p2) .nil))
 stop:=fun i H P1 α1 S hi r e _=>by
  rw[pV] at hi;have l1:=ta.length;have l2:=tb.length;exact⟨vs,ws,qa.mono (e.trans r.sub),qb.mono (e.trans r.sub),by omega⟩
end
section
variable {X:Cx}{e1 e2:AF}{elts:Aa AF}{x1:Aj}{tpos:CA}{f:DA}{p pos:CA}
theorem oI {pins:Aa (Ad × AU)}{σ:_L.St}{H P:Hp}{s:Ag}{a b:Ad}{xs ys:Aa D}{ws:Aa V}{R:It→Hp→Prop}(I:Inv X pins σ H s)(r:Rel X.K H P α S)(qa:Sq tp X.K P a vs)(qb:Sq tp X.K P b ws)(ta:qD X.K P α xs vs)(tb:qD X.K P α ys ws)
  (q:OkI X P α R (u3 xs ys) S):Ao (As X.prog X.w) X.A (call (.type "zip") [.ref a,.ref b]) (fun v s1=>Ao (As X.prog X.w) X.A (Ip v) (PIE X pins σ (.Tuple elts x1 tpos) R) X.xe s1) X.xe s:=by
 obtain⟨ia,ra,ha⟩:=(qa.mono r.sub).at I;obtain⟨ib,rb,hb⟩:=(qb.mono r.sub).at I;refine oT ha hb fun h' z1 z2 z3 z4 z5 z6 z7=>?_;refine OX (s:={ s with heap:=h' }) z1 ?_
 have D:ZA (s.heap.objs.size+4) (s.heap.objs.size+2) (s.heap.objs.size+3) s.heap.objs.size (s.heap.objs.size+1):=by constructor <;> (intro z;simp at z)
 refine⟨_,[s.heap.objs.size+4,s.heap.objs.size+2,s.heap.objs.size+3,s.heap.objs.size,s.heap.objs.size+1],_,_,H,rfl,I.kept (t':=s.toks) z7,XM (a:=a) (b:=b) D,⟨_,_,z1,z2,z3,z4,z5⟩,fun c hc=>?_,q _ _ P α r (qF.refl _) (A8 _) (V8 qa qb ta tb)⟩;have hl:s.heap.objs.size≤c:=by
  simp only[Aw,Bq,DL] at hc;rcases hc with rfl|rfl|rfl|rfl|rfl <;> simp
 exact I.fpOk hl (I.hok.fresh hl)
inductive ZipV (ds:Aa D)(its:Aa D):Prop
 |tup (xs ys:Aa D) (ed:ds=[.tup xs,.tup ys]) (e:its=u3 xs ys)
 |lst (xs ys:Aa D) (ed:ds=[.lst xs,.lst ys]) (e:its=u3 xs ys)
theorem J9 {its:Aa D}(h:FT ds=Ab its):ZipV ds its:=by
 cases ds with
 |nil=>exact nn h
 |cons a ds =>
  cases a with
  |tup xs =>
   cases ds with
   |nil=>exact nn h
   |cons b ds =>
    cases b with
    |tup ys =>
     cases ds with
     |nil=>exact .tup xs ys rfl (AW h).symm
     |cons _ _=>exact nn h
    |_=>exact nn h
  |lst xs =>
   cases ds with
   |nil=>exact nn h
   |cons b ds =>
    cases b with
    |lst ys =>
     cases ds with
     |nil=>exact .lst xs ys rfl (AW h).symm
     |cons _ _=>exact nn h
    |_=>exact nn h
  |_=>exact nn h
theorem KH (hg:Gl X "zip")(hm:X.mg "zip" = none)(ha:PA X [e1,e2] (tDA X f))(hs:A9 [e1,e2] X.env=(false,eval e1 X.env)::A9 [e2] X.env:=by rfl)(hpl:(Df pos (A9 [e2] X.env)).any (·.1)=false:=by rfl) :
  PI X (.Tuple elts x1 tpos) (.Call (.Name "zip" p) [e1,e2] [] pos) (tDI X (eD f)):=by
 intro pins s σ H R I h;obtain⟨P,α,env,S,r,re,af⟩:=h;refine Call_ (vR I hg hm boot_zip (Ej (thn (wC ha I r re af pos) fun us s1 ⟨vs,H1,P1,α1,ds,S1,I1,rv,r1,re1,rp,e1,e2,af1⟩=>?_) hs hpl));obtain⟨its,hi,q⟩:=vI af1;cases J9 hi with
 |tup xs ys ed e =>
  subst ed e;obtain⟨v,w,u,x,rfl,rfl,p1,p2,q1,q2⟩:=gO rp rv;simp only[Rep] at p1 p2;obtain⟨a,va,rfl,qa,ta⟩:=p1;obtain⟨b,vb,rfl,qb,tb⟩:=p2;cases (show u=AS a from q1)
  cases (show x=AS b from q2)
  exact oI (tp:=true) I1 r1 qa qb ta tb (q.base e1 e2)
 |lst xs ys ed e =>
  subst ed e;obtain⟨v,w,u,x,rfl,rfl,p1,p2,q1,q2⟩:=gO rp rv;simp only[Rep] at p1 p2;obtain⟨a,va,rfl,qa,ta⟩:=p1;obtain⟨b,vb,rfl,qb,tb⟩:=p2;cases (show u=AS a from q1)
  cases (show x=AS b from q2)
  exact oI (tp:=false) I1 r1 qa.l qb.l ta tb (q.base e1 e2)
end
def Src (K:Ai)(mg:Ar→Ak Ac)(x:Ar)(st:Cm)(ps:Aa Ar):Prop:=∃ f fd,mg x=Ab (.ref f)∧Fun K x x st f fd∧yP K fd ps []
def Lk (K:Ai)(f:Ad)(fd:CH):Prop:=∃ oc od osl,K.lookup f=Ab ⟨oc,od,.func fd,osl⟩
theorem gH {K:Ai}{x q:Ar}{st:Cm}{f:Ad}{fd:CH}(F:Fun K x q st f fd):Lk K f fd:=by
 obtain⟨oc,od,kV,doc,pm,an,cdv,ct,osl,_,lk,_⟩:=F.ex;exact⟨oc,od,osl,lk⟩
theorem Lk.one {K:Ai}{f:Ad}{fd fd':CH}(h:Lk K f fd)(h':Lk K f fd'):fd=fd':=by
 obtain⟨oc,od,osl,e⟩:=h;obtain⟨oc',od',osl',e'⟩:=h';rw[e] at e';cases e';rfl
def Def (P:A1)(w:AH)(K:Ai)(mg:Ar→Ak Ac)(base:A5)(cm:Ap)(k:Aj)(x:Ar)(n:Aj)(F:DF):Prop:=
 ∃ f fd ps,ps.length=n∧mg x=Ab (.ref f)∧Cr K (.ref f)=true∧yP K fd ps [] ∧ Lk K f fd∧FnX P w K mg base cm k f fd ps (spD K n F)
def nK (P:A1)(w:AH)(K:Ai)(mg:Ar→Ak Ac)(base:A5)(cm:Ap)(k:Aj)(x:Ar)(ps:Aa Ar)(F:DF):Prop:=
 ∃ f fd,mg x=Ab (.ref f)∧Cr K (.ref f)=true∧yP K fd ps [] ∧ Lk K f fd∧FnX P w K mg base cm k f fd ps (spD K ps.length F)
section
variable {P:A1}{w:AH}{K:Ai}{mg:Ar→Ak Ac}{base:A5}{cm:Ap}
theorem W2 {x:Ar}{f:Ad}{fd:CH}{cdv:Ac}(hm:mg x=Ab (.ref f))(lk:Lk K f fd)(h:fd.code=cdv∧Mod K mg base):j6 K x cdv:=fun c T e=>by
 obtain⟨oc,od,osl,lk⟩:=lk;rw[← h.1];exact PySem.W.law_code h.2.kin h.2.glob e hm (h.2.kin _ _ lk) rfl
theorem KC {x:Ar}{st:Cm}{ps:Aa Ar}{k:Aj}{g:DS}(h:Src K mg x st ps)(S:FnScope N ps (qG st))
  (hbody:∀ (f:Ad) (cdv:Ac) (A:AG) (outer:Aa Ek) (s:Ag) (H:Hp) (E:XK),j6 K x cdv→RoomC cm k (A.deeper (CY x (qG st) s.heap.objs.size f cdv)) →
   PSs (cxC cm P w K mg base N x (qG st) f cdv A outer s H E) (zD st) (tDS (cxC cm P w K mg base N x (qG st) f cdv A outer s H E) g)):Def P w K mg base cm (k+1) x ps.length (qR N.length g):=by
 obtain⟨f,fd,hm,F,hb⟩:=h;exact⟨f,fd,ps,rfl,hm,F.kp,hb,gH F,fnX F S fun cdv A outer s H E hc hr=>hbody f cdv A outer s H E (W2 hm (gH F) hc) hr⟩
theorem YI {x:Ar}{st:Cm}{ps:Aa Ar}{k:Aj}{g:DS}(h:Src K mg x st ps)(S:FnScope N ps (qG st))
  (hbody:∀ (f:Ad) (cdv:Ac) (A:AG) (outer:Aa Ek) (s:Ag) (H:Hp) (E:XK),j6 K x cdv→RoomC cm k (A.deeper (CY x (qG st) s.heap.objs.size f cdv)) →
   PSs (cxC cm P w K mg base N x (qG st) f cdv A outer s H E) (zD st) (tDS (cxC cm P w K mg base N x (qG st) f cdv A outer s H E) g)):nK P w K mg base cm (k+1) x ps (qR N.length g):=by
 obtain⟨f,fd,hm,F,hb⟩:=h;exact⟨f,fd,hm,F.kp,hb,gH F,fnX F S fun cdv A outer s H E hc hr=>hbody f cdv A outer s H E (W2 hm (gH F) hc) hr⟩
theorem Def.any {x:Ar}{k n:Aj}{F:DF}(h:Def P w K mg base false k x n F):Def P w K mg base cm k x n F:=by
 obtain⟨f,fd,ps,hn,hm,kp,hb,hl,X⟩:=h;exact⟨f,fd,ps,hn,hm,kp,hb,hl,X.any⟩
end
section
variable {X:Cx}{cm:Ap}{k n:Aj}{F:DF}{x:Ar}{p pos:CA}{e:AF}{es:Aa AF}{fa:DA}
theorem dcN (G:Def X.prog X.w X.K X.mg X.base cm k x n F)(hr:RoomC cm k X.A)(hF:Fn1 X)(hg:Gl X x)(ha:PA X (e::es) (tDA X fa))(hdb:(x == ("__debug__" : Ar))=false:=by decide)(he:A9 (e::es) X.env=(false,eval e X.env)::A9 es X.env:=by rfl)(hpl:(Df pos (A9 es X.env)).any (·.1)=false:=by rfl) :
  PE X (.Call (.Name x p) (e::es) [] pos) (tD X (qN n F fa)):=by
 obtain⟨f,fd,ps,hn,hm,kp,hb,hl,G⟩:=G;exact YE G hr hF hg hm kp hb ha hdb he hpl
theorem K0 (hg:Gl X x)(hm:X.mg x=Ab (.ref C))(hk:Cr X.K (.ref C)=true)(hd:(x == ("__debug__" : Ar))=false:=by decide):PE X (.Name x pos) (tD X (dC (.obj C))):=
 dY hg hm (v:=.ref C) rfl (fun P α => by simp only[Rep];exact⟨trivial,hk⟩) hd
end
def xG:DF:=fun ds S=>match ds with
 |[.dct0]=>.bad
 |_=>l9 ds S
theorem Y7 {X:Cx}:xR X (.builtin "len") xG:=JP trivial
def kF:DE:=fun _ _=>.bad
theorem JZ {X:Cx}{e:AF}:PE X e (tD X kF):=fun _ _ _ _ _ _ ⟨_,_,_,_,_,_,h⟩=>An h
theorem W0:∃ C:Am→Am→Ap,C=f7:=⟨_,rfl⟩
def XZ:Am→Am→Ap:=Ho W0
theorem p6:XZ=f7:=EK W0
def qQ:G2:=i2 XZ fun i j=>.int (i*j)
theorem VU {X:Cx}:OpD X (Ci .Mult) qQ:=by
 unfold qQ;rw[p6];exact VT
theorem hu1 {cm:Ap}{k:Aj}{A:AG}(hr:RoomC cm k A):A.units+1<CD:=by have:=hr.units;omega
def okO (F:DF):DF:=fun ds S=>match F ds S with
 |.ok d S'=>.ok d S'
 |_=>.bad
theorem PV {F:DF}{S':Sto}{d:D}(h:F ds S=.ok d S'):okO F ds S=.ok d S':=by unfold okO;rw[h]
section
variable {X:Cx}{cm:Ap}{k n:Aj}{F:DF}{x:Ar}{p pos:CA}{e:AF}{es:Aa AF}{fa:DA}{f:Ad}{fd:CH}{ps:Aa Ar}
theorem UK {pins:Aa (Ad × AU)}{σ:_L.St}{H:Hp}{s:Ag}{Q:VK}{us:Aa Ac}{P:Hp}(G:FnX X.prog X.w X.K X.mg X.base cm k f fd ps (spD X.K n F))(hr:RoomC cm k X.A)(hb:yP X.K fd ps [])
  (I:Inv X pins σ H s) (r:Rel X.K H P α S) (rv:qK vs us) (rp:qD X.K P α ds vs) (hn:ds.length=n) (af:qS X P α (okO F ds S) Q):Ao (As X.prog X.w) X.A (call (.ref f) us) (EP X pins σ Q) X.xe s:=by
 have hvn:vs.length=n:=by rw[← rp.length];exact hn
 have hsp:spD X.K n F vs H Q fun _ _ _=>CC:=by
  refine⟨hvn,P,α,ds,S,r,rp,?_⟩;unfold okO at af;cases q:F ds S with
  |ok d S'=>rw[q] at af;exact af
  |ex c x S'=>rw[q] at af;exact An af
  |bad=>rw[q] at af;exact af
 have hl:us.length=ps.length:=by rw[← rv.length];exact G.len _ _ _ _ hsp
 have hb':=hb s us I.kIn (by rw[Dx];exact hl)
 rw[Dx] at hb';refine HL (E9 (G.run X.A X.stack s H ⟨us,[]⟩ us vs Q _ hr I.env0 hb' rv hsp) fun r s' hq=>?_);cases r with
 |error u =>
  obtain⟨_,_,_,_,_,_,_,_,_,_,_,_,z⟩:=hq;exact An z
 |ok fl =>
  cases fl with
  |ret u=>exact I.after hq
  |next=>exact An hq
  |brk=>exact An hq
  |cont=>exact An hq
theorem dcO (G:Def X.prog X.w X.K X.mg X.base cm k x n F)(hr:RoomC cm k X.A)(hg:Gl X x)(ha:PA X (e::es) (tDA X fa))(hdb:(x == ("__debug__" : Ar))=false:=by decide)(he:A9 (e::es) X.env=(false,eval e X.env)::A9 es X.env:=by rfl)(hpl:(Df pos (A9 es X.env)).any (·.1)=false:=by rfl) :
  PE X (.Call (.Name x p) (e::es) [] pos) (tD X (qN n (okO F) fa)):=by
 obtain⟨f,fd,ps,hn0,hm,hk,hb,hl,G⟩:=G;intro pins s σ H Q I h;obtain⟨P,α,env,S,r,re,af⟩:=h;refine Du (vH I hg hm ?_ hdb);refine Ih (h₀:=X.base) I.ok.mod.kin hk (thn (wC ha I r re af pos) fun us s1 ⟨vs,H1,P1,α1,ds,S1,I1,rv,r1,re1,rp,e1,e2,af1⟩=>⟨I1.kIn,?_⟩) he hpl;obtain⟨hn,af2⟩:=mM (env:=env) (S:=S) af1;exact UK G hr hb I1 r1 rv rp hn (qS.base e1 e2 af2)
end
structure QE (X:Cx)(e:AF)(f:DE):Prop where
 get:PE X e (tD X f)
structure QT (X:Cx)(e:AF)(t:DT):Prop where
 get:PT X e (tDT X t)
structure QW (X:Cx)(e:AF)(t:DT):Prop where
 get:PWD X e t
structure QA (X:Cx)(es:Aa AF)(f:DA):Prop where
 get:PA X es (tDA X f)
structure QO (X:Cx)(e:Ak AF)(f:DO):Prop where
 get:PO X e (tDO X f)
structure QG (X:Cx)(t:AF)(g:DG):Prop where
 get:PG X t (tDG X g)
structure QGs (X:Cx)(ts:Aa AF)(g:DGs):Prop where
 get:PGs X ts (m8 X g)
structure QI (X:Cx)(tg it:AF)(f:DI):Prop where
 get:PI X tg it (tDI X f)
structure QS (X:Cx)(s:Cm)(f:DS):Prop where
 get:PS X s (tDS X f)
structure QB (X:Cx)(ss:Aa Cm)(f:DS):Prop where
 get:PSs X ss (tDS X f)
structure ZOp (X:Cx)(f:Ac→Ac→Hs Ac)(g:G2):Prop where
 get:OpD X f g
structure ZUn (X:Cx)(f:Ac→Hs Ac)(g:D→Sto→Res D):Prop where
 get:UnD X f g
structure ZIx (X:Cx)(g:G2):Prop where
 get:IxD X g
structure ZCall (X:Cx)(f:Ac)(F:DF):Prop where
 get:xR X f F
structure ZMt (X:Cx)(id:Bz)(g:D→Aa D→Sto→Res D):Prop where
 get:MtD X id g
structure ZSet (X:Cx)(g:G3):Prop where
 get:nM X (nH X g)
structure ZPass (X:Cx):Prop where
 get:Hz (As X.prog X.w) X.A X.env X.xe
section
variable {X:Cx}{a b c e e1 e2 o i:AF}{es rest:Aa AF}{fa fb fc fe fo fi:DE}{ta tb:DT}{fA:DA}{f g:DS}{st:Cm}{sts:Aa Cm}{x:Ar}{p pos:CA}{n k:Aj}{cm:Ap}{F:DF}{G2':G2}
theorem iO:QE X (.Constant .none j pos) (dC .non):=⟨K7⟩
theorem WQ:QE X (.Constant (.bool v) j pos) (dC (.bl v)):=⟨FY⟩
theorem BP:QE X (.Constant (.int v) j pos) (dC (.int v)):=⟨K3⟩
theorem BU:QE X (.Constant (.str v) j pos) (dC (.str v)):=⟨KA⟩
theorem BV (m:Aj)(hN:X.N[m]? = Ab x)(hv:Vis X.env.scope x)(hd:(x == ("__debug__" : Ar))=false)(hcd:(x == ("__classdict__" : Ar))=false):QE X (.Name x pos) (qB m):=⟨dv m hN hv hd hcd⟩
theorem U8 {nm:Bz}(hg:Gl X x)(hm:X.mg x=none)(hv:Dd x=Ab (.type nm))(hn:x ≠ "__name__")(hd:(x == ("__debug__" : Ar))=false):QE X (.Name x pos) (dC (.ty nm)):=⟨YD hg hm hv hn hd⟩
theorem BN (hg:Gl X x)(hm:X.mg x=Ab (.ref C))(hk:Cr X.K (.ref C)=true)(hd:(x == ("__debug__" : Ar))=false):QE X (.Name x pos) (dC (.obj C)):=⟨K0 hg hm hk hd⟩
theorem U9 {v:Am}(hg:Gl X x)(hm:∃ t,X.mg x=Ab (.int v t))(hd:(x == ("__debug__" : Ar))=false):QE X (.Name x pos) (dC (.int v)):=⟨let ⟨_,h⟩:=hm;dY (v:=.int v) hg h ⟨_,rfl⟩ (fun _ _=>by simp only[Rep]) hd⟩
theorem BM:QE X e kF:=⟨JZ⟩
theorem TU {op:UnaryOp}{h:D→Sto→Res D}(ho:ZUn X (OK op) h)(ha:QE X a fa):QE X (.UnaryOp op a pos) (d1 h fa):=⟨M2 ho.1 ha.1⟩
theorem BS (ha:QE X a fa):QE X (.UnaryOp .Not a pos) (eC fa):=⟨K8 ha.1⟩
theorem TR {op:Operator}(ho:ZOp X (Ci op) G2')(ha:QE X a fa)(hb:QE X b fb):QE X (.BinOp a op b pos) (d2 G2' fa fb):=⟨M1 ho.1 ha.1 hb.1⟩
theorem iN {op:Pm}(ho:ZOp X (Bj op) G2')(ha:QE X a fa)(hb:QE X b fb)(hm:Ff op b=false:=by first|exact uW _|with_unfolding_all rfl):QE X (.Compare a [op] [b] pos) (d2 G2' fa fb):=⟨K1 ho.1 ha.1 hb.1 hm⟩
theorem ZY {op op':Pm}{g':G2}(ho:ZOp X (Bj op) G2')(ho':ZOp X (Bj op') g')(ha:QE X a fa)(hb:QE X b fb)(hc:QE X c fc)(hm:lastMarks [op,op'] [b,c]=false:=by with_unfolding_all rfl):QE X (.Compare a [op,op'] [b,c] pos) (kG G2' g' fa fb fc):=⟨Q2 ho.1 ho'.1 ha.1 hb.1 hc.1 hm⟩
theorem iP  (h:QE X a fa):QE X (.BoolOp op [a] pos) fa:=⟨K9 h.1⟩
theorem iL (ha:QE X a fa)(hb:QE X (.BoolOp .And (b::rest) pos) fb):QE X (.BoolOp .And (a::b::rest) pos) (jA fa fb):=⟨JY ha.1 hb.1⟩
theorem iQ  (h:QA X es fA):QE X (.Tuple es x1 pos) (qW fA):=⟨KB h.1⟩
theorem BR (h:QA X es fA):QE X (.List es pos) (zZ fA):=⟨K6 h.1⟩
theorem UA (h:QA X es fA):QE X (.List es pos) (jC fA):=⟨YG h.1⟩
theorem BO:QE X (.Dict [] [] pos) eB:=⟨K2⟩
theorem TQ (ho:ZIx X G2')(ha:QE X a fa)(hb:QE X b fb)(hs:bY b:=by intro _ _;rfl):QE X (.Subscript a b pos) (d2 G2' fa fb):=⟨M0 ho.1 ha.1 hb.1 hs⟩
theorem X0 {lo hi:Ak AF}{fl fh:DO}{p2:CA}(he:QE X e fe)(hl:QO X lo fl)(hu:QO X hi fh):QE X (.Subscript e (.Slice lo hi none p2) pos) (dSl fe fl fh):=⟨Q4 he.1 hl.1 hu.1⟩
theorem UD (he:QE X e fe):QO X (Ab e) (vM fe):=⟨YN he.1⟩
theorem iJ:QA X [] qC:=⟨JV⟩
theorem sT (ha:QE X e fa)(hr:QA X es fA)(hs:A9 (e::es) X.env=(false,eval e X.env)::A9 es X.env:=by rfl):QA X (e::es) (qA fa fA):=⟨YC ha.1 hr.1 hs⟩
theorem qcN (G:Def X.prog X.w X.K X.mg X.base cm k x n F)(hr:RoomC cm k X.A)(hF:Fn1 X)(hg:Gl X x)(ha:QA X (e::es) fA)(hdb:(x == ("__debug__" : Ar))=false)(he:A9 (e::es) X.env=(false,eval e X.env)::A9 es X.env:=by rfl)(hpl:(Df pos (A9 es X.env)).any (·.1)=false:=by rfl):QE X (.Call (.Name x p) (e::es) [] pos) (qN n F fA):=⟨dcN G hr hF hg ha.1 hdb he hpl⟩
theorem ZX {id:Bz}(hc:ZCall X (.builtin id) F)(hg:Gl X x)(hm:X.mg x=none)(hv:Dd x=Ab (.builtin id))(ha:QA X (e::es) fA)(hn:x ≠ "__name__")(hdb:(x == ("__debug__" : Ar))=false)(he:A9 (e::es) X.env=(false,eval e X.env)::A9 es X.env:=by rfl)(hpl:(Df pos (A9 es X.env)).any (·.1)=false:=by rfl):QE X (.Call (.Name x p) (e::es) [] pos) (qL F fA):=⟨Q0 hc.1 hg hm hv ha.1 hn hdb he hpl⟩
theorem iM {T:Bz}(hc:ZCall X (.type T) F)(hg:Gl X x)(hm:X.mg x=none)(hv:Dd x=Ab (.type T))(ha:QA X (e::es) fA)(hn:x ≠ "__name__")(hdb:(x == ("__debug__" : Ar))=false)(he:A9 (e::es) X.env=(false,eval e X.env)::A9 es X.env:=by rfl)(hpl:(Df pos (A9 es X.env)).any (·.1)=false:=by rfl):QE X (.Call (.Name x p) (e::es) [] pos) (qL F fA):=⟨cX hc.1 hg hm hv ha.1 hn hdb he hpl⟩
theorem nE {T id:Bz}{name:Ar}{apos:CA}{h:D→Aa D→Sto→Res D}(pa:PlainAttrs T)(slot:Slot T name id)(hty:typeOf (.builtin id)=pure (.type "method_descriptor"))(hT:T = "list" ∨ T = "dict" ∨ T = "int" ∨ T = "str")(hm:ZMt X id h)(ho:QE X o fo)(ha:QA X (e::es) fA)
  (hbase:attributeBase o name X.env (eval o X.env)=eval o X.env:=by rfl)
  (hfew:((Df pos (A9 (e::es) X.env)).all (fun x=>!x.1)&&(backToKw pos (keywordEach [] X.env)).all (fun x=>x.1.isSome)&&decide ((e::es).length+([]:Aa Rf).length+(if ([] : Aa Rf).isEmpty then 0 else 1)<30))=true:=by rfl)
  (hline:(apos.endLine == pos.line)=true:=by rfl) (hs:A9 (e::es) X.env=(false,eval e X.env)::A9 es X.env:=by rfl) (hplain:(Df pos (A9 es X.env)).any (·.1)=false:=by rfl):QE X (.Call (.Attribute o name apos) (e::es) [] pos) (dBm T h fo fA):=⟨FZ pa slot hty hT hm.1 ho.1 ha.1 hbase hfew hline hs hplain⟩
theorem WS (h:QW X e ta):QT X e ta:=⟨PWD.pt h.1⟩
theorem sX (ha:QT X a ta):QW X (.BoolOp .And [a] pos) ta:=⟨YS ha.1⟩
theorem bN (ha:QT X a ta):QW X (.BoolOp .Or [a] pos) ta:=⟨G0 ha.1⟩
theorem iY (ha:QT X a ta)(hb:QW X (.BoolOp .And (b::rest) pos) tb):QW X (.BoolOp .And (a::b::rest) pos) (tW ta tb):=⟨KZ ha.1 hb.1⟩
theorem nF (ha:QT X a ta)(hb:QW X (.BoolOp .Or (b::rest) pos) tb):QW X (.BoolOp .Or (a::b::rest) pos) (fB ta tb):=⟨M8 ha.1 hb.1⟩
theorem F4 (ha:QT X a ta):QT X (.UnaryOp .Not a pos) (wJ ta):=⟨KW ha.1⟩
theorem iV {op:Pm}(ho:ZOp X (Bj op) G2')(ha:QE X a fa)(hb:QE X b fb)(hm:Ff op b=false:=by first|exact uW _|with_unfolding_all rfl):QT X (.Compare a [op] [b] pos) (dTr (d2 G2' fa fb)):=⟨KU ho.1 ha.1 hb.1 hm⟩
theorem iW (ha:QE X a fa)(he:∀ whole,isTrue a X.env whole=(do let v ← whole;Ms a.pos;holding [v] (truthy v)):=by intro _;rfl):QT X a (dTr fa):=⟨KY ha.1 he⟩
theorem UB (hN:X.N.Nodup)(hi:X.N[m]? = Ab x)(hx:Loc X.env.scope x)(hf:X.fn x=true∨X.env.scope.names.lookup x=Ab .local):QG X (.Name x pos) (gNm m):=⟨YJ hN hi hx hf⟩
theorem sU:QGs X [] vD:=⟨YL⟩
theorem lT {h:DG}{gs:DGs}(h1:QG X e h)(h2:QGs X es gs)(hs:(Cs (e::es) X.env).map (·.2)=assign e X.env::(Cs es X.env).map (·.2):=by rfl):QGs X (e::es) (zK h gs):=⟨Q5 h1.1 h2.1 hs⟩
theorem iR {kk:Aj}{gs:DGs}(hc:X.calm=true)(h:QGs X es gs)(hn:(Cs es X.env).length=n:=by rfl)(hst:(Cs es X.env).findIdx? (·.1)=none:=by rfl):QG X (.Tuple es kk pos) (gTp n gs):=⟨KE hc h.1 hn hst⟩
theorem BW {h:G3}(ho:QE X o fo)(hi:QE X i fi)(hs:ZSet X h)
  (ha:∀ v,assign (.Subscript o i pos) X.env v=(do
   let ov ← holding [v] (eval o X.env)
   let iv ← holding [v,ov] (eval i X.env)
   Ms pos
   holding [v,ov,iv] (Ra ov iv v)
   release [v,ov,iv] []):=by intro _;rfl):QG X (.Subscript o i pos) (gSb fo fi h):=⟨KD ho.1 hi.1 hs.1 ha⟩
theorem BY {tg:AF}(ha:QE X e fa):QI X tg e (yW fa):=⟨KG ha.1⟩
theorem X1 {tg:AF}(hg:Gl X "range")(hm:X.mg "range" = none)(ha:QA X (e::es) fA)(hs:A9 (e::es) X.env=(false,eval e X.env)::A9 es X.env:=by rfl)(hpl:(Df pos (A9 es X.env)).any (·.1)=false:=by rfl):QI X tg (.Call (.Name "range" p) (e::es) [] pos) (y7 fA):=⟨Q6 hg hm ha.1 hs hpl⟩
theorem iT {elts:Aa AF}{x1:Aj}{tpos:CA}(hg:Gl X "zip")(hm:X.mg "zip" = none)(ha:QA X [e1,e2] fA)(hs:A9 [e1,e2] X.env=(false,eval e1 X.env)::A9 [e2] X.env:=by rfl)(hpl:(Df pos (A9 [e2] X.env)).any (·.1)=false:=by rfl):QI X (.Tuple elts x1 tpos) (.Call (.Name "zip" p) [e1,e2] [] pos) (eD fA):=⟨KH hg hm ha.1 hs hpl⟩
theorem iK:QB X [] zB:=⟨KN⟩
theorem bM (h:QS X st f):QB X [st] f:=⟨KO h.1⟩
theorem gN (h1:QS X st f)(h2:QB X sts g):QB X (st::sts) (qM f g):=⟨YO h1.1 h2.1⟩
theorem UE (he:QE X e fa)(hs:Gr e none pos.line X.env=pure false:=by rfl):QS X (.Expr e pos) (w6 fa):=⟨YQ he.1 hs⟩
theorem iU (he:QE X e fa):QS X (.Return (Ab e) pos) (z9 fa):=⟨KQ he.1⟩
theorem WR {as bs:Aa Cm}(hc:QT X c ta)(ha:QB X as f)(hb:QB X bs g):QS X (.If c as bs pos) (sIf ta f g):=⟨M6 hc.1 ha.1 hb.1⟩
theorem X4 (hp:ZPass X)(hc:QT X c ta)(hb:QB X body f):QS X (.While c body [] pos) (vX ta f):=⟨QD hp.1 hc.1 hb.1⟩
theorem F0 {tg iter:AF}{fI:DI}{h:DG}(hp:ZPass X)(hc:X.calm=true)(hi:QI X tg iter fI)(hg:QG X tg h)(hb:QB X body f)(hs:∀ x,CL iter X.env x=pure x:=by intro _;rfl):QS X (.For tg iter body [] pos) (vW fI h f):=⟨KM hp.1 hc hi.1 hg.1 hb.1 hs⟩
theorem F2 {pos':CA}(hN:X.N.Nodup)(he:QE X e fa)(hi:X.N[m]? = Ab x)(hx:Loc X.env.scope x)(hs:Gr e (Ab (.Name x pos')) pos.line X.env=pure false)(hf:X.fn x=true∨X.env.scope.names.lookup x=Ab .local):QS X (.Assign [.Name x pos'] e pos) (qU fa (gNm m)):=⟨KR hN he.1 hi hx hs hf⟩
theorem BZ {tg:AF}{h:DG}(he:QE X e fa)(hg:QG X tg h)(hs:Fe [tg] e pos.line X.env=pure false:=by rfl)(hw:Fd [tg] e X.env=pure none:=by rfl)(h1:(Cs [tg] X.env).map (·.2)=[assign tg X.env]:=by rfl):QS X (.Assign [tg] e pos) (qU fa h):=⟨KL he.1 hg.1 hs hw h1⟩
theorem F1 {l:Aj}{y:Ar}{px pt:CA} {kt k2 pt2} (hc:X.calm=true) (hN:X.N.Nodup) (ha:QA X [a,b] fA) (hi:X.N[m]? = Ab x) (hj:X.N[l]? = Ab y) (hij:m≠l) (hx:X.env.scope.names.lookup x=Ab .local) (hy:X.env.scope.names.lookup y=Ab .local)
  (hw:Fd [.Tuple [.Name x px,.Name y py] kt pt] (.Tuple [a,b] k2 pt2) X.env=pure (Ab [x,y]):=by rfl) (hs:Fe [.Tuple [.Name x px,.Name y py] kt pt] (.Tuple [a,b] k2 pt2) pos.line X.env=pure false:=by rfl) :
  QS X (.Assign [.Tuple [.Name x px,.Name y py] kt pt] (.Tuple [a,b] k2 pt2) pos) (v9 m l fA):=⟨KP hc hN ha.1 hi hj hij hx hy hw hs⟩
theorem X3 {Ae:Ad}{np cpos:CA}(hc:X.calm=true)(hF:Fn1 X)(hg:Gl X x)(hm:X.mg x=Ab (.ref C))(hx:p9 X.K C Ae=true)(ha:QA X (e::rest) fA)(hdb:(x == ("__debug__" : Ar))=false)(he:A9 (e::rest) X.env=(false,eval e X.env)::A9 rest X.env:=by rfl)(hpl:(Df cpos (A9 rest X.env)).any (·.1)=false:=by rfl) :
  QS X (.Raise (Ab (.Call (.Name x np) (e::rest) [] cpos)) none pos) (yZ (.ref C) fA):=⟨QC hc hF hg hm hx ha.1 hdb he hpl⟩
theorem F3 {nm:Ar}{C0:Ad}{b₀:Cm}{suite:Aa Cm}{np hpos:CA}{cs:Aa Ac}(hF:Fn1 X)(hb:∀ E pn,ZPass (Cx.tryIn X E pn)→QB (Cx.tryIn X E pn) body f)(hs:∀ e,QB (Cx.suite X e) (b₀::suite) g)(hg:Gl X x)(hm:X.mg x=Ab (.ref C0))(hcs:∀ c∈cs,E4 X.K c (.ref C0)=Ab true)(hN:X.N.Nodup)(hi:X.N[m]? = Ab nm)(hlo:X.env.scope.names.lookup nm=Ab .local)(hdb:(x == ("__debug__" : Ar))=false)(hn:X.N.length=n) :
  QS X (.Try body [.ExceptHandler (Ab (.Name x np)) (Ab nm) (b₀::suite) hpos] [] [] pos) (pN n m cs f g):=⟨hn▸KS hF (fun E pn hp=>(hb E pn ⟨hp⟩).1) (fun e=>(hs e).1) hg hm hcs hN hi hlo hdb⟩
theorem NI:ZOp X (Ci .Add) zF:=⟨PM⟩
theorem NS:ZOp X (Ci .Sub) zL:=⟨PU⟩
theorem NN:ZOp X (Ci .Mult) qQ:=⟨VU⟩
theorem NJ:ZOp X (Ci .FloorDiv) pC:=⟨PN⟩
theorem NM:ZOp X (Ci .Mod) yJ:=⟨PQ⟩
theorem NQ:ZOp X (Ci .Pow) QM:=⟨PR⟩
theorem DP:ZOp X (Bj .Lt) gLt:=⟨TB⟩
theorem DN:ZOp X (Bj .LtE) gLe:=⟨T9⟩
theorem DJ:ZOp X (Bj .Gt) gGt:=⟨T6⟩
theorem DH:ZOp X (Bj .GtE) gGe:=⟨T4⟩
theorem FQ:ZOp X (Bj .Is) gIs:=⟨T7⟩
theorem FP (hr:RoomC cm k X.A):ZOp X (Bj .Eq) gEq:=⟨T1 hr.units⟩
theorem FS (hr:RoomC cm k X.A):ZOp X (Bj .NotEq) gNe:=⟨WO hr.units⟩
theorem NO (hr:RoomC cm k X.A):ZOp X (Bj .NotEq) (gI gNe):=⟨OpD.look (WO hr.units)⟩
theorem NP:ZUn X (OK .USub) pE:=⟨FK⟩
theorem DM:ZIx X gIx:=⟨LP⟩
theorem Y2:ZCall X (.builtin "isinstance") zJ:=⟨cN⟩
theorem FR {cl:Aa Ad}(h:ClsK X.K cl):ZCall X (.builtin "isinstance") (zH cl):=⟨Y5 h⟩
theorem Y3:ZCall X (.builtin "len") xG:=⟨Y7⟩
theorem Y1 (hc:X.calm=true):ZCall X (.builtin "all") (pB false):=⟨JN false hc⟩
theorem NL:ZCall X (.type "int") eG:=⟨JO⟩
theorem J8:ZCall X (.type "tuple") kI:=⟨oU⟩
theorem XN:ZMt X "list.append" wV:=⟨aY⟩
theorem J2:ZMt X "list.count" b7:=⟨ZC⟩
theorem J3:ZMt X "list.index" b8:=⟨ZD⟩
theorem NR (hr:RoomC cm k X.A):ZSet X wK:=⟨F9 (hu1 hr)⟩
end
section
variable {P:A1}{w:AH}{K:Ai}{mg:Ar→Ak Ac}{base:A5}{cm:Ap}
theorem rJ {qual:Ar}{scope:Ch}{f:Ad}{cd:Ac}{A:AG}{outer:Aa Ek}{s:Ag}{H:Hp}{E:XK}:ZPass (cxC cm P w K mg base N qual scope f cd A outer s H E):=⟨oY⟩
theorem LC {x:Ar}{st:Cm}{ps:Aa Ar}{k:Aj}{g:DS}(h:Src K mg x st ps)(S:FnScope N ps (qG st))(hbd:zD st=body)
  (hbody:∀ (f:Ad) (cdv:Ac) (A:AG) (outer:Aa Ek) (s:Ag) (H:Hp) (E:XK),j6 K x cdv→RoomC cm k (A.deeper (CY x (qG st) s.heap.objs.size f cdv)) →
   QB (cxC cm P w K mg base N x (qG st) f cdv A outer s H E) body g):Def P w K mg base cm (k+1) x ps.length (qR N.length g):=
 KC h S fun f cdv A outer s H E hc hr=>hbd▸(hbody f cdv A outer s H E hc hr).1
theorem M3 {x:Ar}{st:Cm}{ps:Aa Ar}{k:Aj}{g:DS}(h:Src K mg x st ps)(S:FnScope N ps (qG st))(hbd:zD st=body)
  (hbody:∀ (f:Ad) (cdv:Ac) (A:AG) (outer:Aa Ek) (s:Ag) (H:Hp) (E:XK),j6 K x cdv→RoomC cm k (A.deeper (CY x (qG st) s.heap.objs.size f cdv)) →
   QB (cxC cm P w K mg base N x (qG st) f cdv A outer s H E) body g):nK P w K mg base cm (k+1) x ps (qR N.length g):=
 YI h S fun f cdv A outer s H E hc hr=>hbd▸(hbody f cdv A outer s H E hc hr).1
theorem YH {x:Ar}{st:Cm}{ps:Aa Ar}(h:Src K mg x st ps):Def P w K mg base cm 0 x ps.length fun _ _=>.bad:=by
 obtain⟨f,fd,hm,F,hb⟩:=h;exact⟨f,fd,ps,rfl,hm,F.kp,hb,gH F,⟨fun vs H Q E z=>z.1,fun A outer s H args us vs Q E _ _ _ _ z=>by obtain⟨_,_,_,_,_,_,_,z⟩:=z;exact An z⟩⟩
end
structure QTs (X:Cx)(ifs:Aa AF)(t:DT):Prop where
 get:PTs X ifs t
section
variable {X:Cx}{elt tg iter e:AF}{ifs es:Aa AF}{scope:Ch}{pos p:CA}{N':Aa Ar}{cap:Aa (Ak Aj)}{fi:DI}{g:DG}{t u:DT}{fe:DE}{fa:DA}{x:Ar}{cm:Ap}{k n:Aj}{F:DF}
theorem sW:QTs X [] yH:=⟨YR⟩
theorem qcO (G:Def X.prog X.w X.K X.mg X.base cm k x n F)(hr:RoomC cm k X.A)(hg:Gl X x)(ha:QA X (e::es) fa)(hdb:(x == ("__debug__" : Ar))=false)(he:A9 (e::es) X.env=(false,eval e X.env)::A9 es X.env:=by rfl)(hpl:(Df pos (A9 es X.env)).any (·.1)=false:=by rfl) :
  QE X (.Call (.Name x p) (e::es) [] pos) (qN n (okO F) fa):=⟨dcO G hr hg ha.1 hdb he hpl⟩
end
def stn (o:Ak (Aj × MO))(S:Sto):Prop:=match o with
 |none=>EY
 |some p=>S[p.1]? = Ab p.2
open Classical in
def c9 (o:Ak (Aj × MO))(S:Sto):Ap:=decide (stn o S)
theorem wQ {o:Ak (Aj × MO)}:c9 o S=true↔stn o S:=by simp[c9]
structure ItD2 (K:Ai)(J:It)(P:Hp)(α : Aa Ad)(o:Ak (Aj × MO))(ds:Aa D):Prop where
 go:∀ i H P1 α1 S,i<ds.length→Rel K H P1 α1 S→stn o S→qF P P1→α<+:α1→J.go i H
 yld:∀ i H x H' P1 α1 S,i<ds.length→Rel K H P1 α1 S→stn o S→qF P P1→α<+:α1→J.yld i H x H'→∃ P2 d,ds[i]? = Ab d∧Rel K H' P2 α1 S∧qF P1 P2∧Rep K P2 α1 d x
 stop:∀ i H P1 α1 S,ds.length≤i→Rel K H P1 α1 S→stn o S→qF P P1→α<+:α1→J.stop i H
theorem ItD.two {K:Ai}{J:It}{P:Hp}(h:ItD K J P α ds):ItD2 K J P α none ds:=
 ⟨fun i H P1 α1 S a b _ c d=>h.go i H P1 α1 S a b c d,fun i H x H' P1 α1 S a b _ c d e=>h.yld i H x H' P1 α1 S a b c d e,fun i H P1 α1 S a b _ c d=>h.stop i H P1 α1 S a b c d⟩
abbrev DI2:=qE→Sto→Res (Ak (Aj × MO) × Aa D)
inductive tDI2 (X:Cx)(f:DI2)(σ : _L.St)(H:Hp)(R:It→Hp→Prop):Prop
 |mk (P:Hp) (α : Aa Ad) (env:qE) (S:Sto) (r:Rel X.K H P α S) (re:qZ X.K P α σ env) (af:qI X P α (f env S) (fun p S'=>∀ J H' P' α',Rel X.K H' P' α' S'→qF P P'→α<+:α'→ItD2 X.K J P' α' p.1 p.2→R J H')):tDI2 X f σ H R
def y9 (f:DI):DI2:=fun env S=>(f env S).bind fun ds S1=>.ok (none,ds) S1
section
variable {X:Cx}{K:Ai}{tg e:AF}{fa:DE}{pos:CA}
theorem YM {f:DI}(h:PI X tg e (tDI X f)):PI X tg e (tDI2 X (y9 f)):=PI.weak h fun σ H R ⟨P,α,env,S,r,re,af⟩=>by
 refine⟨P,α,env,S,r,re,?_⟩;unfold y9 at af;cases q:f env S with
 |bad=>rw[q] at af;exact af
 |ex c x S'=>rw[q] at af;exact af
 |ok ds S1 =>
  rw[q] at af;exact fun J H' P' α' r' e1 e2 it=>af J H' P' α' r' e1 e2 it.two
theorem V6 {P:Hp}{a:Ad}{n:Aj}(hα:α[n]? = Ab a):ItD2 K (Itl K a) P α (Ab (n,.lst ds)) ds where
 go:=fun i H P1 α1 S hi r st e e2=>by
  obtain⟨vs,z,t⟩:=r.at' n a _ (gL e2 hα) st;exact⟨vs,vs[i]'(by rw[← t.length];exact hi),.of z,by simp⟩
 yld:=fun i H x H' P1 α1 S hi r st e e2 y=>by
  obtain⟨rfl,y⟩:=y;obtain⟨vs,z,t⟩:=r.at' n a _ (gL e2 hα) st;have hx:=y vs (.of z);obtain⟨v,h1,h2⟩:=t.get (Aq hi);rw[hx] at h1;cases h1;exact⟨P1,_,Aq hi,r,qF.refl _,h2⟩
 stop:=fun i H P1 α1 S hi r st e e2=>by
  obtain⟨vs,z,t⟩:=r.at' n a _ (gL e2 hα) st;exact⟨vs,.of z,by rw[← t.length];exact hi⟩
def itD (d:D)(S:Sto):Res (Ak (Aj × MO) × Aa D):=match d with
 |.tup xs=>.ok (none,xs) S
 |.lst xs=>.ok (none,xs) S
 |.loc n=>match S[n]? with
  |some (.lst xs)=>.ok (Ab (n,.lst xs),xs) S
  |_=>.bad
 |_=>.bad
def dIt (f:DE):DI2:=fun env S=>(f env S).bind fun d S1=>itD d S1
theorem M4 (ha:PE X e (tD X fa)):PI X tg e (tDI2 X (dIt fa)):=by
 intro pins s σ H R I h;obtain⟨P,α,env,S,r,re,af⟩:=h;refine thn (zQ ha I r re af) fun vv s1 ⟨v,H1,P1,α1,d,S1,G1,af1⟩=>?_;have seq:∀ ds,xA d=Ab ds→(∀ J H' P' α',Rel X.K H' P' α' S1→qF P P'→α<+:α'→ItD2 X.K J P' α' none ds→R J H')→Ao (As X.prog X.w) X.A (Ip vv) (PIE X pins σ tg R) X.xe s1:=fun ds e1 q =>
  lG G1.inv G1.rel G1.val G1.rep e1 fun J H' P' α' r' h1 h2 it=>q J H' P' α' r' (G1.same.trans h1) (G1.pre.trans h2) it.two
 cases d with
 |tup xs=>exact seq xs rfl af1
 |lst xs=>exact seq xs rfl af1
 |loc n =>
  obtain⟨xs,hS,af1⟩:=vU (X:=X) (f:=fun xs=>Res.ok (Ab (n,MO.lst xs),xs) S1) af1;have rp:=G1.rep;simp only[Rep] at rp;obtain⟨a,rfl,ha⟩:=rp;cases (show vv=AS a from G1.val)
  obtain⟨vs,z,t⟩:=G1.rel.at' n a _ ha hS;obtain⟨its,rv,p,hz⟩:=G1.inv.list (SqL.of z);refine Dm p.isList ?_;refine⟨s1.heap.objs.size,[s1.heap.objs.size],_,_,H1,rfl,G1.inv.kept (t':=s1.toks) fun b o e=>Ah _ e,tO a _,⟨_,Az _ rfl,rfl,rfl⟩,fun b hb=>?_,af1 _ _ P1 α1 G1.rel G1.same G1.pre (V6 ha)⟩;have e:b=s1.heap.objs.size:=by simpa using hb
  subst e;exact G1.inv.fpOk (A2 _) (G1.inv.hok.fresh (A2 _))
 |_=>exact An af1
end
def zW (elt:AF)(gens:Aa CI)(scope:Ch)(pos:CA)(k:Aj)(acc:Ac)(env:Ek):Hs IE:=
 match gens[k+1]? with
 |some g'=>do
  let x ← eval g'.iter env
  Ms g'.iter.pos
  let x ← CL g'.iter env x
  let it ← holding [x] (Ip x)
  let _ ← runOwn (.compStart (.ListComp elt gens scope pos) (k+1) it acc env) env
 |none=>do let _ ← call (.builtin "list.append") [acc,← eval elt env]
theorem XJ (elt target iter:AF)(ifs:Aa AF)(gens:Aa CI)(scope:Ch)(pos:CA)(it acc:Ac)(env:Ek)(k:Aj)(hg:gens[k]? = Ab ⟨target,iter,ifs,0⟩)(ha:∀ g',gens[k+1]? = Ab g'→g'.is_async=0) :
  compTurn (.ListComp elt gens scope pos) k it acc env=(do
   Ms iter.pos
   match ← Hg it with
   |none=>pure (.done .next)
   |some v =>
    ED target it v
    assign target env v
    let mut ok:=true
    for c in ifs do
     if ok then ok ← isTrue c env (eval c env)
    if ok then zW elt gens scope pos k acc env
    again (.compLoop (.ListComp elt gens scope pos) k it acc env)):=by
 unfold compTurn zW;simp only[hg];cases q:gens[k+1]? with
 |none=>rfl
 |some g' =>
  have h0:=ha g' q;have e0:(g'.is_async != 0)=false:=by rw[h0];rfl
  simp only[e0,AC,Bu,bind_assoc,pure_bind];rfl
abbrev DK:=qE→Sto→Aa D→Res (qE × Aa D)
def goL (o:Ak (Aj × MO))(g:DG)(t:DT)(k:DK):Aa D→DK
 |[],env,S,acc=>if c9 o S then .ok (env,acc) S else .bad
 |d::ds,env,S,acc=>if c9 o S then (g d env S).bind fun env1 S1=>(t env1 S1).bind fun b S2 =>
   if b then (k env1 S2 acc).bind fun p S3=>goL o g t k ds p.1 S3 p.2 else goL o g t k ds env1 S2 acc
  else .bad
def zV (fe:DE):DK:=fun env S acc=>(fe env S).bind fun x S1=>if acc.length<lim then .ok (env,acc++[x]) S1 else .bad
def XU (Y:Cx)(pins:Aa (Ad × AU))(P1:Hp)(α1:Aa Ad)(acc:Ad)(env:qE)(S:Sto)(ds:Aa D)(s:Ag):Prop:=
 ∃ σ H P α o,TurnSt Y pins P1 α1 [] acc env S ds s σ H P α o
def PK (Y:Cx)(step:Ac→Hs IE)(k:DK):Prop:=
 ∀ (pins:Aa (Ad × AU)) (P1:Hp) (α1:Aa Ad) (acc:Ad) (env env':qE) (S S':Sto) (ds ds':Aa D) (s:Ag),(∀ H:Hp,H acc=none→zY Y pins H acc)→XU Y pins P1 α1 acc env S ds s→k env S ds=.ok (env',ds') S' →
  Ao (As Y.prog Y.w) Y.A (step (.ref acc)) (fun _ s'=>XU Y pins P1 α1 acc env' S' ds' s') (fun _ _=>CC) s
section
variable {Y:Cx}{elt tg iter:AF}{ifs:Aa AF}{gens:Aa CI}{scope:Ch}{pos:CA}{k:Aj}{g:DG}{t:DT}{fe:DE}{it acc:Ad}{fp:Aa Ad}{J:It}{tn:Aj→A5→Prop}{items:Aa D}{P1:Hp}{α1:Aa Ad}{pins:Aa (Ad × AU)}
theorem aE {X:Cx}{H:Hp}{b:Ad}{h:A5}(f:zY X pins H b)(hn:b ∉ fp):zY X (pins++yB fp h) H b:=by
 obtain⟨f0,f1,f2,f3,f4,f5⟩:=f;refine⟨f0,f1,f2,f3,f4,fun p hp=>?_⟩;rcases Bs.mp hp with z|z
 ·exact f5 p (Bk _ z)
 ·rcases Bs.mp z with z|z
  ·exact f5 p (AI _ z)
  ·rintro rfl
   exact hn (t8 z).1
theorem Res.bind_inv {β γ:Type}{r:Res β}{f:β→Sto→Res γ}{x:γ}(h:r.bind f=.ok x S):∃ b S1,r=.ok b S1∧f b S1=.ok x S:=by
 cases r with
 |ok b S1=>exact⟨b,S1,rfl,h⟩
 |_=>cases h
inductive GoC (o:Ak (Aj × MO))(g:DG)(t:DT)(k:DK)(d:D)(ds acc:Aa D)(env:qE)(S SF:Sto)(x:qE × Aa D):Prop
 |no (env1:qE) (S1 S2:Sto) (z:stn o S) (q1:g d env S=.ok env1 S1) (q2:t env1 S1=.ok false S2) (r:goL o g t k ds env1 S2 acc=.ok x SF):GoC o g t k d ds acc env S SF x
 |yes (env1:qE) (S1 S2:Sto) (env5:qE) (ds5:Aa D) (S5:Sto) (z:stn o S) (q1:g d env S=.ok env1 S1) (q2:t env1 S1=.ok true S2) (q3:k env1 S2 acc=.ok (env5,ds5) S5) (r:goL o g t k ds env5 S5 ds5=.ok x SF):GoC o g t k d ds acc env S SF x
set_option tactic.hygienic true in
theorem QN {o:Ak (Aj × MO)}{k:DK}{d:D}{acc:Aa D}{x:qE × Aa D}(h:goL o g t k (d::ds) env S acc=.ok x SF):GoC o g t k d ds acc env S SF x:=by
 simp only[goL] at h
 split at h
 ·rename_i z
  obtain⟨env1,S1,q1,h⟩:=Res.bind_inv h;obtain⟨b,S2,q2,h⟩:=Res.bind_inv h;cases b with
  |false=>exact .no env1 S1 S2 (wQ.mp z) q1 q2 h
  |true =>
   obtain⟨⟨env5,ds5⟩,S5,q3,h⟩:=Res.bind_inv h;exact .yes env1 S1 S2 env5 ds5 S5 (wQ.mp z) q1 q2 q3 h
 ·cases h
set_option tactic.hygienic true in
theorem YZ {o:Ak (Aj × MO)}{k:DK}{acc:Aa D}(h:goL o g t k [] env S acc=.ok (envF,dsF) SF):stn o S∧env=envF∧acc=dsF∧S=SF:=by
 simp only[goL] at h
 split at h
 ·rename_i z
  cases h;exact⟨wQ.mp z,rfl,rfl,rfl⟩
 ·cases h
inductive LpI (Y:Cx)(pins:Aa (Ad × AU))(P1:Hp)(α1:Aa Ad)(fp:Aa Ad)(acc:Ad)(tn:Aj→A5→Prop)(G:Aa D→DK)(items:Aa D)(x:qE × Aa D)(SF:Sto)(n:Aj)(s:Ag):Prop
 |mk (i:Aj) (σ : _L.St) (H P:Hp) (α : Aa Ad) (o:AU) (env:qE) (S:Sto) (ds:Aa D) (hn:n=items.length-i) (hi:i≤items.length) (st:TurnSt Y pins P1 α1 fp acc env S ds s σ H P α o) (st1:tn i s.heap) (run:G (items.drop i) env S ds=.ok x SF):LpI Y pins P1 α1 fp acc tn G items x SF n s
theorem UW {M:He}{A:AG}{Q:Fin→Ag→Prop}{E:Ac→Ag→Prop}{s:Ag}{it acc:Ac}{en:Ek}(hgk:gens[k]? = Ab ⟨tg,iter,ifs,0⟩)(has:∀ g',gens[k+1]? = Ab g'→g'.is_async=0)
  (ha:∀ s,Qa s→Q (.again (.compLoop (.ListComp elt gens scope pos) k it acc en)) s) (hd:∀ s,Qd s→Q (.done .next) s)
  (h:Ao M A (Hg it) (fun r s1=>(r=none→Qd s1)∧∀ v,r=Ab v→Ao M A (ED tg it v) (fun _ s2=>Ao M A (assign tg en v) (fun _ s3=>Ao M A (j0 ifs en) (fun b s4=>(b=false→Qa s4)∧(b=true→Ao M A (zW elt gens scope pos k acc en) (fun _ s5=>Qa s5) E s4)) E s3) E s2) E s1) E s) :
  Ao M A (compTurn (.ListComp elt gens scope pos) k it acc en) Q E s:=by
 rw[XJ elt tg iter ifs gens scope pos it acc en k hgk has];refine Af (Hf (Af (thn h fun r s1 ⟨h0,h1⟩=>?_)));cases r with
 |none=>exact Al (hd _ (h0 rfl))
 |some v =>
  refine Af (thn (h1 v rfl) fun _ s2 h2=>Af (thn h2 fun _ s3 h3=>Af (thn h3 fun b s4 h4=>?_)));cases b with
  |false=>exact Al (ha _ (h4.1 rfl))
  |true=>exact Af (thn (h4.2 rfl) fun _ s5 h5=>Al (ha _ h5))
theorem YY (hfp:∀ H:Hp,(∀ b∈fp,H b=none)→∀ b∈fp,zY Y pins H b)(hne:acc ∉ fp)(o:AU)(H':Hp)(hn:∀ b∈fp,H' b=none):∀ b∈fp,zY Y (pins++[(acc,o)]) H' b:=fun b hb=>by
 obtain⟨f0,f1,f2,f3,f4,f5⟩:=hfp H' hn b hb;refine⟨f0,f1,f2,f3,f4,fun p hp=>?_⟩;rcases Bs.mp hp with z|z
 ·exact f5 p (Bk _ z)
 ·rcases Bs.mp z with z|z
  ·exact f5 p (AI _ z)
  ·rw[CT.mp z]
   rintro rfl;exact hne hb
theorem uH {i:Aj}{h:A5}(T:Turn Y.prog Y.w Y.K tg J fp it tn)(st2:tn (i+1) h)(pl:∀ b∈fp,∃ o,h.get? b=Ab o∧∀ v,o.data≠.cell v){s5:Ag}{σ5:_L.St}{H5:Hp}(I5:Inv Y (pins++yB fp h) σ5 H5 s5):tn (i+1) s5.heap∧(∀ b∈fp,H5 b=none):=by
 refine⟨T.keep _ _ _ st2 fun b hb o' e=>(I5.pin (b,o') (AI _ (AI _ (vE hb e)))).1,fun b hb=>?_⟩;obtain⟨o',e,d'⟩:=pl b hb;exact(I5.pin (b,o') (AI _ (AI _ (vE hb e)))).2.1
theorem rZ {kk:DK}{E:Ac→Ag→Prop}{s:Ag}{σ:_L.St}{H P:Hp}{o:AU}{i:Aj}(hc:Y.calm=true)(hx:Y.xe=fun _ _=>CC)
  (T:Turn Y.prog Y.w Y.K tg J fp it tn) (hit:ItD2 Y.K J P1 α1 o' items) (hg:PG Y tg (tDG Y g)) (ht:PTs Y ifs t) (he:PK Y (fun acc=>zW elt gens scope pos k acc Y.env) kk) (hacc:∀ H:Hp,H acc=none→zY Y pins H acc) (hfp:∀ H:Hp,(∀ b∈fp,H b=none)→∀ b∈fp,zY Y pins H b) (hne:acc ∉ fp)
  (hi:i≤items.length) (st:TurnSt Y pins P1 α1 fp acc env S ds s σ H P α o) (st1:tn i s.heap) (run:goL o' g t kk (items.drop i) env S ds=.ok (envF,dsF) SF)
  (hA:∀ s' σ' H' P' α' o1 env1 S' ds',i<items.length→TurnSt Y pins P1 α1 fp acc env1 S' ds' s' σ' H' P' α' o1→tn (i+1) s'.heap→goL o' g t kk (items.drop (i+1)) env1 S' ds'=.ok (envF,dsF) SF→Qa s')
  (hD:∀ s' σ' H' P' α' o',TurnSt Y pins P1 α1 fp acc envF SF dsF s' σ' H' P' α' o'→Qd s') :
  Ao (As Y.prog Y.w) Y.A (Hg (.ref it)) (fun r s1=>(r=none→Qd s1)∧∀ v,r=Ab v→Ao (As Y.prog Y.w) Y.A (ED tg (.ref it) v) (fun _ s2=>Ao (As Y.prog Y.w) Y.A (assign tg Y.env v) (fun _ s3=>Ao (As Y.prog Y.w) Y.A (j0 ifs Y.env) (fun b s4=>(b=false→Qa s4)∧(b=true→Ao (As Y.prog Y.w) Y.A (zW elt gens scope pos k (.ref acc) Y.env) (fun _ s5=>Qa s5) E s4)) E s3) E s2) E s1) E s:=by
 have I1:=_D.Inv.pin1 st.inv (hacc H st.acn) st.at' st.acc.cell;have fp1:=YY hfp hne o;by_cases hlt:i<items.length
 ·have hdr:items.drop i=items[i]::items.drop (i+1):=Fi hlt
  rw[hdr] at run;have run:=QN run;have hst:stn o' S:=by cases run with|no _ _ _ z=>exact z|yes _ _ _ _ _ _ z=>exact z
  refine pQ (T.item Y rfl rfl rfl hc i _ s σ H (fun _ _=>CC) I1 (fp1 H st.fpn) st1 (hit.go i H P α S hlt st.rel hst st.same st.pre)) fun r s1 ⟨u,hr,h1⟩=>⟨fun z=>(by rw[hr] at z;cases z),fun v hv=>?_⟩
  obtain rfl:v=u:=AW (hv.symm.trans hr);refine pQ h1 fun _ s2 ⟨x,H2,I2,rx,y,st2,fr2⟩=>?_;obtain⟨P2,d,hd,r2,e2,rp⟩:=hit.yld i H x H2 P α S hlt st.rel hst st.same st.pre y;cases (Aq hlt).symm.trans hd;have pl:=T.obj _ _ st2;have I2':=I2.pinned (fp1 _ fr2) pl;have two:∀ env1 S1 b S2,g items[i] env S=.ok env1 S1→t env1 S1=.ok b S2→(∀ s4 σ3 H4 P4 α4 (I4:Inv Y (pins++yB fp s2.heap) σ3 H4 s4),TurnSt Y pins P1 α1 fp acc env1 S2 ds s4 σ3 H4 P4 α4 o→tn (i+1) s4.heap→(b=false→Qa s4)∧(b=true→Ao (As Y.prog Y.w) Y.A (zW elt gens scope pos k (.ref acc) Y.env) (fun _ s5=>Qa s5) E s4))→Ao (As Y.prog Y.w) Y.A (assign tg Y.env v) (fun _ s3=>Ao (As Y.prog Y.w) Y.A (j0 ifs Y.env) (fun b s4=>(b=false→Qa s4)∧(b=true→Ao (As Y.prog Y.w) Y.A (zW elt gens scope pos k (.ref acc) Y.env) (fun _ s5=>Qa s5) E s4)) E s3) E s2:=by
   intro env1 S1 b S2 q1 q2 next;refine pQ (hx▸D0 hg I2' r2 (st.env.mono e2 (A8 _)) rx rp q1) fun _ s3 ⟨σ3,H3,P3,α3,I3,r3,re3,e3,e3'⟩=>?_;refine pQ (hx▸TN ht I3 r3 re3 q2) fun b' s4 ⟨hb,H4,P4,α4,I4,r4,re4,e4,e4'⟩=>?_;have I4':Inv Y (pins++yB fp s2.heap) σ3 H4 s4:=I4.pins_of fun p hp=>I4.pin p (AI _ ((Bs.mp hp).elim (fun z=>Bk _ (Bk _ z)) fun z=>AI _ z));have a4:=I4.pin (acc,o) (AI _ (Bk _ (AI _ (CT.mpr rfl))));rw[hb];exact next s4 σ3 H4 P4 α4 I4' ⟨I4'.unpinned,r4,re4,((st.same.trans e2).trans e3).trans e4,(st.pre.trans e3').trans e4',(uH T st2 pl I4').2,a4.2.1,a4.1,st.acc.mono ((e2.trans e3).trans e4) (e3'.trans e4')⟩ (uH T st2 pl I4').1
  cases run with
  |no env1 S1 S2 _ q1 q2 run=>exact two env1 S1 false S2 q1 q2 fun s4 σ3 H4 P4 α4 I4 st4 tn4=>⟨fun _=>hA s4 σ3 H4 P4 α4 o env1 S2 ds hlt st4 tn4 run,fun z=>(by cases z)⟩
  |yes env1 S1 S2 env5 ds5 S5 _ q1 q2 q3 run =>
   refine two env1 S1 true S2 q1 q2 fun s4 σ3 H4 P4 α4 I4 st4 tn4=>⟨fun z=>(by cases z),fun _=>?_⟩
   refine pQ (he (pins++yB fp s2.heap) P1 α1 acc env1 env5 S2 S5 ds ds5 s4 (fun H hn=>aE (hacc H hn) hne) ⟨σ3,H4,P4,α4,o,I4,st4.rel,st4.env,st4.same,st4.pre,fun b hb=>(by cases hb),st4.acn,st4.at',st4.acc⟩ q3) fun _ s5 ⟨σ5,H5,P5,α5,o5,T5⟩=>?_
   exact hA s5 σ5 H5 P5 α5 o5 env5 S5 ds5 hlt ⟨T5.inv.unpinned,T5.rel,T5.env,T5.same,T5.pre,(uH T st2 pl T5.inv).2,T5.acn,T5.at',T5.acc⟩ (uH T st2 pl T5.inv).1 run
 ·rw[Kn om] at run
  obtain⟨z,rfl,rfl,rfl⟩:=YZ run;refine pQ (T.done Y rfl rfl rfl hc i _ s σ H (fun _ _=>CC) I1 (fp1 H st.fpn) st1 (hit.stop i H P α _ om st.rel z st.same st.pre)) fun r s1 ⟨hr,I2⟩=>⟨fun _=>?_,fun v hv=>(by rw[hr] at hv;cases hv)⟩
  have a:=_D.Inv.pinned1 I2;exact hD s1 σ H P α o ⟨I2.unpinned,st.rel,st.env,st.same,st.pre,st.fpn,a.2,a.1,st.acc⟩
theorem rY {kk:DK}{R:OO→Ag→Prop}{s:Ag}{σ:_L.St}{H P:Hp}{ds0:Aa D}{o:AU}(hc:Y.calm=true)(hx:Y.xe=fun _ _=>CC)(hgk:gens[k]? = Ab ⟨tg,iter,ifs,0⟩)(has:∀ g',gens[k+1]? = Ab g'→g'.is_async=0)
  (T:Turn Y.prog Y.w Y.K tg J fp it tn) (hit:ItD2 Y.K J P1 α1 o' items) (hg:PG Y tg (tDG Y g)) (ht:PTs Y ifs t) (he:PK Y (fun acc=>zW elt gens scope pos k acc Y.env) kk) (hacc:∀ H:Hp,H acc=none→zY Y pins H acc) (hfp:∀ H:Hp,(∀ b∈fp,H b=none)→∀ b∈fp,zY Y pins H b) (hne:acc ∉ fp)
  (st:TurnSt Y pins P1 α1 fp acc env S ds0 s σ H P α o) (st0:tn 0 s.heap) (run:goL o' g t kk items env S ds0=.ok (envF,dsF) SF)
  (hR:∀ s' σ' H' P' α' o',TurnSt Y pins P1 α1 fp acc envF SF dsF s' σ' H' P' α' o'→R (.ok .next) s') :
  Eu (As Y.prog Y.w) Y.A (.compLoop (.ListComp elt gens scope pos) k (.ref it) (.ref acc) Y.env) R s:=by
 refine codeAny_loop rfl (LpI Y pins P1 α1 fp acc tn (goL o' g t kk) items (envF,dsF) SF) (fun n s hI=>?_) items.length ⟨0,σ,H,P,α,o,env,S,ds0,rfl,Ds _,st,st0,run⟩;obtain⟨i,σ,H,P,α,o,env,S,ds,hn,hi,st,st1,run⟩:=hI;subst hn;refine wpAny_noted (UW hgk has (Qa:=fun s'=>∃ m,m<items.length-i∧LpI Y pins P1 α1 fp acc tn (goL o' g t kk) items (envF,dsF) SF m s') (Qd:=R (.ok .next)) (fun _ h=>⟨rfl,h⟩) (fun _ h=>h) ?_);exact rZ hc hx T hit hg ht he hacc hfp hne hi st st1 run (fun s' σ' H' P' α' o1 env1 S' ds' hlt st' tn' run'=>⟨_,Nat.sub_succ_lt_self _ _ hlt,i+1,σ',H',P',α',o1,env1,S',ds',rfl,hlt,st',tn',run'⟩) hR
set_option tactic.hygienic true in
theorem U3 (hx:Y.xe=fun _ _=>CC)(hlast:gens[k+1]? = none)(he:PE Y elt (tD Y fe)):PK Y (fun acc=>zW elt gens scope pos k acc Y.env) (zV fe):=by
 intro pins P1 α1 acc env env' S S' ds ds' s hacc ⟨σ,H,P,α,o,st⟩ run;show Ao _ _ (zW elt gens scope pos k (.ref acc) Y.env) _ _ s;unfold zW;rw[hlast];dsimp only;unfold zV at run;cases q3:fe env S with
 |bad=>rw[q3] at run;cases run
 |ex c z S'=>rw[q3] at run;cases run
 |ok d5 S5 =>
  rw[q3,Res.bind_ok] at run
  split at run
  ·rename_i hlen
   cases run;have fA:=hacc H st.acn;have I1:=_D.Inv.pin1 st.inv fA st.at' st.acc.cell;refine Af (pQ (hx▸LZ he I1 st.rel st.env q3) fun u5 s5 ⟨v5,H5,P5,α5,G5⟩=>?_);have J:=_D.Inv.pinned1 G5.inv;have J1:=G5.inv.unpinned;obtain⟨J4,J5⟩:=J;obtain⟨its,n5,vs,ho,rvs,rps,hz⟩:=st.acc;subst ho;have hlen':vs.length=ds.length:=rps.length.symm;have hl2:=rvs.length;refine Af (Jh Np ⟨_,J4,rfl⟩ Mq (Mc _ _) (Oy acc its.toArray n5 u5 (by rw[A0];rw[← zT];omega)) ⟨J4,?_⟩)
   have q:=OR J4 (·.push u5)
   have fA5:=hacc H5 J5;have keep:∀ b o,b≠acc→s5.heap.get? b=Ab o→(s5.heap.update acc (Ce (·.push u5))).get? b=Ab o:=fun b o hb e=>(AY s5.heap _ (CZ hb)).trans e
   have I6:=J1.turned (t':=s5.toks) keep J5 fA5.2.1 fA5.2.2.2.1 fA5.2.2.2.2.1 fA5.2.2.2.2.2;refine Al ⟨σ,H5,P5,α5,_,I6,G5.rel,G5.env,st.same.trans G5.same,st.pre.trans G5.pre,fun b hb=>(by simp at hb),J5,q,?_⟩
   refine⟨its++[u5],_,vs++[v5],by simp <;> rfl,rvs.append (.cons G5.val .nil),?_,by simp;omega⟩
   exact(qD.mono G5.same G5.pre _ _ rps).append (.cons G5.rep .nil)
  ·cases run
end
def mkM (m:Ap)(r:Res (qE × Aa D)):Res D:=match r with
 |.ok p S2=>if m then .ok (.loc S2.length) (S2++[.lst p.2]) else .ok (.lst p.2) S2
 |_=>.bad
def zI (m:Ap)(cap:Aa (Ak Aj))(fi:DI2)(g:DG)(t:DT)(k:DK):DE:=fun env S=>(fi env S).bind fun p S1=>mkM m (goL p.1 g t k p.2 (xC cap env) S1 [])
section
variable {X:Cx}{elt tg iter:AF}{ifs:Aa AF}{scope:Ch}{pos:CA}{N':Aa Ar}{cap:Aa (Ak Aj)}{fi:DI2}{g:DG}{t:DT}{kk:DK}{rest:Aa CI}{mm:Ap}
theorem aZ {P:Hp}{r:Res (qE × Aa D)}{Ok:D→Sto→Prop}(h:qI X P α (mkM mm r) Ok):∃ envF ds SF,r=.ok (envF,ds) SF∧(if mm then Ok (.loc SF.length) (SF++[.lst ds]) else Ok (.lst ds) SF):=by
 cases r with
 |ok p S =>
  obtain⟨envF,ds⟩:=p;refine⟨envF,ds,S,rfl,?_⟩;cases mm <;> exact h
 |ex c x S=>exact An h
 |bad=>exact An h
theorem QF {pins:Aa (Ad × AU)}{σ:_L.St}{P1:Hp}{α1:Aa Ad}{acc:Ad}{s:Ag}{Q:VK}(c:gA X pins σ P1 α1 ds SF acc C s)(ok:if mm then OkV X P1 α1 Q (.loc SF.length) (SF++[.lst ds]) else OkV X P1 α1 Q (.lst ds) SF):EP X pins σ Q (.ref acc) s:=by
 cases mm with
 |false=>exact YT c ok
 |true =>
  obtain⟨H',P',α',vs,I,r,hn,e1,e2,rp,_⟩:=c;exact⟨.ref acc,_,I,rfl,fU r hn rp fun v H2 P2 α2 r2 q1 q2 q3=>ok v H2 P2 α2 r2 (e1.trans q1) (e2.trans q2) q3⟩
theorem cY {M:He}{A:AG}{E:Ac→Ag→Prop}{s:Ag}{globals:Ad}{closure:Aa (Ar × Ad)}{qual:Ar}{env:Ek}{Q:Ek→Ag→Prop}
  (hQ:Q (newEnv scope s.heap.objs.size globals (Dr (s.heap.objs.size+1) scope.names closure) qual none .none (Ab env) HK) { s with heap:=O9 (s.heap.push { cls:=.type "dict",data:=.dict #[] }) scope.names }) :
  Ao M A (Lw scope globals closure [] qual none .none (Ab env)) Q E s:=by
 simp only[Lw,Nq,Bv];refine Af (wpAny_alloc ?_);refine Af (wpAny_layCells _ (fun name kind cells=>by cases hkc:kind == Hn <;> simp[hkc]) _ _ _ _ ?_)
 rw[show ({ s with heap:=s.heap.push { cls:=.type "dict",data:=.dict #[] } } : Ag).heap.objs.size=s.heap.objs.size+1 from Bx ..]
 refine Af ?_;rw[HV];exact Al (Al hQ)
theorem gQ {pins:Aa (Ad × AU)}{σ:_L.St}{H2 P1:Hp}{α1:Aa Ad}{s2:Ag}{S1:Sto}{items:Aa D}{it:Ad}{fp:Aa Ad}{tn:Aj→A5→Prop}{J:It}{E:Ac→Ag→Prop}{RR:Ac→Ad→OO→Ag→Prop}
  (hc:X.calm=true) (S:CompSc X.env.scope X.N scope N' cap) (has:∀ g',(⟨tg,iter,ifs,0⟩::rest:Aa CI)[0+1]? = Ab g'→g'.is_async=0)
  (hg:∀ cl C ex s₀ H₀,PG (qY X N' scope cl C ex s₀ H₀) tg (tDG (qY X N' scope cl C ex s₀ H₀) g))
  (ht:∀ cl C ex s₀ H₀,PTs (qY X N' scope cl C ex s₀ H₀) ifs t) (he:∀ cl C ex s₀ H₀,PK (qY X N' scope cl C ex s₀ H₀) (fun acc=>zW elt (⟨tg,iter,ifs,0⟩::rest) scope pos 0 acc (qY X N' scope cl C ex s₀ H₀).env) kk)
  (I2:Inv X pins σ H2 s2) (r:Rel X.K H2 P1 α1 S1) (re:qZ X.K P1 α1 σ env) (T:Turn X.prog X.w X.K tg J fp it tn) (st0:tn 0 s2.heap) (hf:∀ b∈fp,zY X pins H2 b) (hit:ItD2 X.K J P1 α1 o' items) (run:goL o' g t kk items (xC cap env) S1 [] = .ok (envF,ds) SF)
  (hRR:∀ acc C s',s2.heap.objs.size≤acc→(∃ m,s'.heap.Ns C m)→s2.heap.objs.size≤C→acc≠C→(∀ h',Di C s'.heap h'→gA X pins σ P1 α1 ds SF acc C { s' with heap:=h' }) → RR (.ref acc) C (.ok .next) s') :
  Ao (As X.prog X.w) X.A (newList []) (fun acc s₃=>Ao (As X.prog X.w) X.A (Lw scope X.env.globals (xS X.env.cells scope.names []) [] X.env.qual none .none (Ab X.env)) (fun cenv s₄ =>
   Eu (As X.prog X.w) X.A (.compStart (.ListComp elt (⟨tg,iter,ifs,0⟩::rest) scope pos) 0 (.ref it) acc { cenv with scope:=relabel scope X.env }) (RR acc cenv.locals) s₄) E s₃) E s2:=by
 have hlt:∀ b∈fp,b<s2.heap.objs.size:=fun b hb=>by
  obtain⟨o,e,_⟩:=T.obj 0 _ st0 b hb;exact Au e
 refine Cn (cY ?_);dsimp only;generalize hH2:s2.heap.push { cls:=.type "list",dict:=none,data:=.seq ([] : Aa Ac).toArray } = Hh;have hsz:Hh.objs.size=s2.heap.objs.size+1:=by rw[← hH2,Bx]
 have hC:s2.heap.objs.size≤Hh.objs.size:=by rw[hsz];exact Ix _
 have hne:s2.heap.objs.size≠Hh.objs.size:=by rw[hsz];exact AL (Ee _)
 have kp:∀ b o,Hh.get? b=Ab o→(O9 (Hh.push { cls:=.type "dict",data:=.dict #[] }) scope.names).get? b=Ab o:=fun b o e=>Pq _ _ b o (Ah _ e);have hns₁:(O9 (Hh.push { cls:=.type "dict",data:=.dict #[] }) scope.names).Ns Hh.objs.size (fun _=>none):=(Heap.Ns.new Hh (.type "dict")).keeps (Pq _ _);have co:=cellsFrom_ok scope.names (Hh.push { cls:=.type "dict",data:=.dict #[] }) (Hh.objs.size+1) [] ⟨fun _ _ hm=>(nomatch hm),Gq⟩ (by rw[Bx];exact A2 _)
 rw[Bx] at co;generalize hh₁:O9 (Hh.push { cls:=.type "dict",data:=.dict #[] }) scope.names=h₁ at kp hns₁ co ⊢;have keep:∀ b o,s2.heap.get? b=Ab o→h₁.get? b=Ab o:=fun b o e=>kp b o (hH2▸Ah _ e);have hacc:h₁.get? s2.heap.objs.size=Ab { cls:=.type "list",data:=.seq ([] : Aa Ac).toArray }:=kp _ _ (hH2▸Az _ rfl);have I4:∀ tk,Inv (qY X N' scope (j8 X scope Hh.objs.size) Hh.objs.size fp s2 H2) [] (yF cap σ) H2 { s2 with heap:=h₁,toks:=tk }:=fun tk =>
  oX (s4:={ s2 with heap:=h₁,toks:=tk }) S I2 hf hlt hC hns₁ rfl rfl keep co
 have loop:∀ tk,Eu (As X.prog X.w) X.A (.compLoop (.ListComp elt (⟨tg,iter,ifs,0⟩::rest) scope pos) 0 (.ref it) (.ref s2.heap.objs.size) (compEnvC scope (j8 X scope Hh.objs.size) Hh.objs.size X.env)) (RR (.ref s2.heap.objs.size) Hh.objs.size) { s2 with heap:=h₁,toks:=tk }:=fun tk=>by
  refine rY (kk:=kk) (o':=o') (Y:=qY X N' scope (j8 X scope Hh.objs.size) Hh.objs.size fp s2 H2) (pins:=[]) (fp:=fp) (acc:=s2.heap.objs.size) (P1:=P1) (α1:=α1) (σ:=yF cap σ) (H:=H2) (P:=P1) (α:=α1) (o:={ cls:=.type "list",data:=.seq ([] : Aa Ac).toArray }) hc rfl rfl has T hit
   (hg _ _ _ _ _) (ht _ _ _ _ _) (he _ _ _ _ _) (fun H hn=>?_) (fun H hn b hb=>?_) (fun hm=>Cj _ (hlt _ hm)) ⟨I4 tk,r,iZ re cap,qF.refl _,A8 _,fun b hb=>(hf b hb).1,I2.hok.fresh (A2 _),hacc,⟨[],0,[],rfl,.nil,.nil,Ds _⟩⟩ (T.keep _ _ _ st0 fun b hb o e=>keep b o e) run fun s' σ' H' P' α' o' st=>?_
  ·refine⟨hn,hne,fun hm=>?_,.inr (A2 _),fun x c h z=>?_,fun p hp=>absurd (show p∈([]:Aa (Ad × AU)) from hp) (by simp)⟩
   ·obtain⟨_,o,ho,_⟩:=I2.stack.mem hm
    exact Cj _ (Au ho)
   ·rcases zU S I2.ok h with⟨m,_⟩|⟨m,_⟩
    ·exact Cj _ (Ge hC (z▸(co.empty x c m).2))
    ·obtain⟨v,ob,hob,_⟩:=I2.cell x c m
     rw[z] at hob;exact Cj _ (Au hob)
  ·obtain⟨_,h1,h2,h3,h4,h5⟩:=hf b hb
   refine⟨hn b hb,AL (Ax (hlt b hb) hC),fun hm=>?_,.inl hb,fun x c h=>(by
    rcases zU S I2.ok h with⟨m,_⟩|⟨m,_⟩
    ·exact CZ (AL (ET (Ax (hlt b hb) hC) (co.empty x c m).2))
    ·exact h4 x c m),fun p hp=>absurd (show p∈([]:Aa (Ad × AU)) from hp) (by simp)⟩
   rcases Aw.mp (I2.stkSub b hm) with z|z
   ·exact h1 z
   ·exact h2 z
  ·obtain⟨m,hm,_⟩:=st.inv.loc
   exact hRR _ _ s' (A2 _) ⟨m,hm⟩ hC hne fun h' sb=>oW I2 hf rfl hC (A2 _) hne st sb
 exact codeAny_compStart_list (loop _) (T.self X.A 0 _ _ _ (T.keep _ _ _ st0 fun b hb o e=>keep b o e) (loop _))
theorem Q3 (hc:X.calm=true)(S:CompSc X.env.scope X.N scope N' cap)(hi:PI X tg iter (tDI2 X fi))
  (hg:∀ cl C ex s₀ H₀,PG (qY X N' scope cl C ex s₀ H₀) tg (tDG (qY X N' scope cl C ex s₀ H₀) g))
  (ht:∀ cl C ex s₀ H₀,PTs (qY X N' scope cl C ex s₀ H₀) ifs t) (has:∀ g',(⟨tg,iter,ifs,0⟩::rest:Aa CI)[0+1]? = Ab g'→g'.is_async=0) (he:∀ cl C ex s₀ H₀,PK (qY X N' scope cl C ex s₀ H₀) (fun acc=>zW elt (⟨tg,iter,ifs,0⟩::rest) scope pos 0 acc (qY X N' scope cl C ex s₀ H₀).env) kk)
  (hs:∀ x,CL iter X.env x=pure x:=by intro _;rfl):PE X (.ListComp elt (⟨tg,iter,ifs,0⟩::rest) scope pos) (tD X (zI mm cap fi g t kk)):=by
 intro pins s σ H Q I h;obtain⟨P,α,env,S0,r,re,af⟩:=h;rw[eval_ListComp];have af':qI X P α ((fi env S0).bind fun p S1=>mkM mm (goL p.1 g t kk p.2 (xC cap env) S1 [])) (OkV X P α Q):=af;refine IY (use:=none) rfl hs (dU S I.ok) S.kind S.names ?_;refine thn (hi pins s σ H (fun J H1=>∃ (P1:Hp) (α1:Aa Ad) (p:Ak (Aj × MO) × Aa _D.D) (S1:Sto),Rel X.K H1 P1 α1 S1∧qF P P1∧α<+:α1∧ItD2 X.K J P1 α1 p.1 p.2∧qI X P α (mkM mm (goL p.1 g t kk p.2 (xC cap env) S1 [])) (OkV X P α Q)) I ⟨P,α,env,S0,r,re,?_⟩) fun xv s1 h1=>thn h1 fun itv s2 h2=>?_
 ·cases q:fi env S0 with
  |bad=>rw[q] at af';exact af'
  |ex c x S'=>rw[q] at af';exact af'
  |ok p S1=>rw[q] at af';exact fun J H1 P1 α1 r1 e1 e2 it=>⟨P1,α1,p,S1,r1,e1,e2,it,af'⟩
 obtain⟨it,fp,tn,J,H2,rfl,I2,T,st0,hf,P1,α1,p,S1,r1,e1,e2,hit,af1⟩:=h2;obtain⟨envF,ds,SF,run,ok⟩:=aZ af1;refine gQ (RR:=fun acc C=>compPost (As X.prog X.w) X.A X.xe none (EP X pins σ Q) acc C) hc S has hg ht he I2 r1 (re.mono e1 e2) T st0 hf hit run ?_;intro acc C s' hA ⟨m,hm⟩ hC hne fin;refine⟨m,hm,fun h' sb=>QF (mm:=mm) (fin h' sb) ?_⟩;cases mm with
 |false=>exact fun v H3 P3 α3 r3 q1 q2 q3=>ok v H3 P3 α3 r3 (e1.trans q1) (e2.trans q2) q3
 |true=>exact fun v H3 P3 α3 r3 q1 q2 q3=>ok v H3 P3 α3 r3 (e1.trans q1) (e2.trans q2) q3
theorem Q9 {i:Aj}{y:Ar}{py spos:CA}(hc:X.calm=true)(hN:X.N.Nodup)(S:CompSc X.env.scope X.N scope N' cap)(hi:PI X tg iter (tDI2 X fi))
  (hg:∀ cl C ex s₀ H₀,PG (qY X N' scope cl C ex s₀ H₀) tg (tDG (qY X N' scope cl C ex s₀ H₀) g))
  (ht:∀ cl C ex s₀ H₀,PTs (qY X N' scope cl C ex s₀ H₀) ifs t) (has:∀ g',(⟨tg,iter,ifs,0⟩::rest:Aa CI)[0+1]? = Ab g'→g'.is_async=0) (he:∀ cl C ex s₀ H₀,PK (qY X N' scope cl C ex s₀ H₀) (fun acc=>zW elt (⟨tg,iter,ifs,0⟩::rest) scope pos 0 acc (qY X N' scope cl C ex s₀ H₀).env) kk)
  (hy:X.N[i]? = Ab y:=by rfl) (hyl:Loc X.env.scope y:=by first|exact Qu rfl|exact OS rfl) (hf:X.fn y=true∨X.env.scope.names.lookup y=Ab .local:=by first|exact .inl rfl|exact .inr rfl|assumption)
  (hsw:Gr (.ListComp elt (⟨tg,iter,ifs,0⟩::rest) scope pos) (Ab (.Name y py)) spos.line X.env=pure true:=by rfl)
  (hs:∀ x,CL iter X.env x=pure x:=by intro _;rfl):PS X (.Assign [.Name y py] (.ListComp elt (⟨tg,iter,ifs,0⟩::rest) scope pos) spos) (tDS X (qU (zI mm cap fi g t kk) (gNm i))):=by
 intro pins s σ H D I h;obtain⟨P,α,env,S0,r,re,af⟩:=h;have af0:=xF af;have af':qI X P α ((fi env S0).bind fun p S1=>mkM mm (goL p.1 g t kk p.2 (xC cap env) S1 [])) (fun d S=>qX X P α (.nx (env.set i (Ab d)) S) D):=af0;rw[exec_Assign_Name_used _ _ _ _ hsw];refine Af (Hf (Af ?_));show Ao _ X.A (do let _ ← comprehension (.ListComp elt (⟨tg,iter,ifs,0⟩::rest) scope pos) scope X.env _ (newList []) false (eval iter X.env) (Ab (assign (.Name y py) X.env))) _ _ s
 refine Af (Dh (IY (use:=Ab (assign (.Name y py) X.env)) (Q:=fun _ s'=>SP X pins D .next s') rfl hs (dU S I.ok) S.kind S.names ?_) (fun _ s' hq=>Al (Al hq)) fun _ _ e=>e);refine thn (hi pins s σ H (fun J H1=>∃ (P1:Hp) (α1:Aa Ad) (p:Ak (Aj × MO) × Aa _D.D) (S1:Sto),Rel X.K H1 P1 α1 S1∧qF P P1∧α<+:α1∧ItD2 X.K J P1 α1 p.1 p.2∧qI X P α (mkM mm (goL p.1 g t kk p.2 (xC cap env) S1 [])) (fun d S=>qX X P α (.nx (env.set i (Ab d)) S) D)) I ⟨P,α,env,S0,r,re,?_⟩) fun xv s1 h1=>thn h1 fun itv s2 h2=>?_
 ·cases q:fi env S0 with
  |bad=>rw[q] at af';exact af'
  |ex c x S'=>rw[q] at af';exact af'
  |ok p S1=>rw[q] at af';exact fun J H1 P1 α1 r1 e1 e2 it=>⟨P1,α1,p,S1,r1,e1,e2,it,af'⟩
 obtain⟨it,fp,tn,J,H2,rfl,I2,T,st0,hfp,P1,α1,p,S1,r1,e1,e2,hit,af1⟩:=h2;obtain⟨envF,ds,SF,run,ok⟩:=aZ af1;refine gQ (RR:=fun acc C=>compPost (As X.prog X.w) X.A X.xe (Ab (assign (.Name y py) X.env)) (fun _ s'=>SP X pins D .next s') acc C) hc S has hg ht he I2 r1 (re.mono e1 e2) T st0 hfp hit run ?_;intro acc C s' hA ⟨m,hm⟩ hC hne fin;show Ao _ X.A (assign (.Name y py) X.env (.ref acc)) _ _ s';obtain⟨H3,P3,α3,vs,I3,r3,hn3,q1,q2,rp,hCn⟩:=fin s'.heap (Gs _ _);obtain⟨r4,e4⟩:=r3.pure (o:=.lst vs) hn3;have hCn':(upd H3 acc (.lst vs)) C=none:=by rw[qH (CZ hne)];exact hCn
 have fC:=I2.fpOk hC hCn';refine On (tK I3 hN hy hyl (show qJ (V.ref acc) (AS acc) from rfl) (fun s5 I5 ⟨a,sb,ha⟩=>?_) hf)
 have hCa:C≠a:=by
  rcases ha with rfl|ha
  ·exact fC.2.1
  ·exact fun z=>fC.2.2.2.2.1 _ _ ha z.symm
 refine⟨m,hm.sameBut sb hCa,fun h' sb'=>?_⟩;have I6:Inv X pins (σ.set i (Ab (V.ref acc))) (upd H3 acc (.lst vs)) { s5 with heap:=h' }:=I5.turned (t':=s5.toks) (fun b o hb e=>(sb'.2 b hb).trans e) hCn' fC.2.1 fC.2.2.2.1 fC.2.2.2.2.1 fC.2.2.2.2.2
 cases mm with
 |false =>
  refine⟨_,_,I6,ok _ _ (upd P3 acc (.lst vs)) α3 r4 ?_ ((e1.trans q1).trans e4) (e2.trans q2)⟩;exact((re.mono e1 e2).mono (q1.trans e4) q2).set i (fY (.inl (.inl qT)) (qD.mono e4 (A8 _) _ _ rp))
 |true =>
  have hpre:α3<+:α3++[acc]:=CS _ _;have r5:=r3.new (o:=.lst vs) (m:=.lst ds) hn3 ⟨vs,qT,qD.mono (qF.refl _) hpre _ _ rp⟩;refine⟨_,_,I6,ok _ _ P3 (α3++[acc]) r5 ?_ (e1.trans q1) ((e2.trans q2).trans hpre)⟩;refine((re.mono e1 e2).mono q1 (q2.trans hpre)).set i ?_;simp only[Rep];exact⟨acc,rfl,by rw[← r3.len];simp⟩
end
section
variable {X:Cx}
def xZ:Aa D→Ak (Aa Am)
 |[]=>Ab []
 |.int i::r=>(xZ r).map (i::·)
 |_::_=>none
theorem aJ (ns:Aa Am):xZ (ns.map D.int)=Ab ns:=by
 induction ns with
 |nil=>rfl
 |cons n r ih=>exact congrArg (Option.map (n::·)) ih
theorem jI:∀ {ds:Aa D} {ns:Aa Am},xZ ds=Ab ns→ds=ns.map D.int
 |[],ns,h=>by cases h;rfl
 |d::r,ns,h=>by
  cases d with
  |int i =>
   obtain⟨m,h1,rfl⟩:=AZ.mp (show (xZ r).map (i::·)=Ab ns from h)
   rw[jI h1];rfl
  |_=>exact nn h
theorem yX {K:Ai}{P:Hp}:∀ {ns:Aa Am} {vs:Aa V},qD K P α (ns.map D.int) vs→vs=ns.map V.int
 |[],vs,r=>by rw[r.nil_inv];rfl
 |n::ns,vs,r=>by
  obtain⟨w,ws,rfl,p,t⟩:=r.cons_inv;simp only[Rep] at p;rw[p,yX t];rfl
end
section
variable {X:Cx}
theorem oQ:Dd "set" = Ab (.type "set"):=by decide +kernel
variable {e:AF}{fa:DE}{p1 p2 pos1 pos2:CA}
end
structure QI2 (X:Cx)(tg it:AF)(f:DI2):Prop where
 get:PI X tg it (tDI2 X f)
structure QK (Y:Cx)(step:Ac→Hs IE)(k:DK):Prop where
 get:PK Y step k
section
variable {X Y:Cx}{tg it e o elt iter ie:AF}{es ifs rest:Aa AF}{fa fo fe fi:DE}{fA:DA}{fI:DI}{f2:DI2}{g:DG}{t:DT}{kk:DK}{p pos:CA}{n k:Aj}{x:Ar}{cm:Ap}{F:DF}{f:DS}{gens grest:Aa CI}{scope:Ch}{N':Aa Ar}{cap:Aa (Ak Aj)}{mm:Ap}
theorem iS (h:QI X tg it fI):QI2 X tg it (y9 fI):=⟨YM h.1⟩
theorem BX (h:QE X e fa):QI2 X tg e (dIt fa):=⟨M4 h.1⟩
theorem sV (hx:Y.xe=fun _ _=>CC)(hlast:gens[k+1]? = none)(he:QE Y elt fe):QK Y (fun acc=>zW elt gens scope pos k acc Y.env) (zV fe):=⟨U3 hx hlast he.1⟩
theorem ZZ (hc:X.calm=true)(S:CompSc X.env.scope X.N scope N' cap)(hi:QI2 X tg iter f2)(hg:∀ cl C ex s₀ H₀,QG (qY X N' scope cl C ex s₀ H₀) tg g)(ht:∀ cl C ex s₀ H₀,QTs (qY X N' scope cl C ex s₀ H₀) ifs t)
  (has:∀ g',(⟨tg,iter,ifs,0⟩::grest:Aa CI)[0+1]? = Ab g'→g'.is_async=0)
  (he:∀ cl C ex s₀ H₀,QK (qY X N' scope cl C ex s₀ H₀) (fun acc=>zW elt (⟨tg,iter,ifs,0⟩::grest) scope pos 0 acc (qY X N' scope cl C ex s₀ H₀).env) kk) (hs:∀ x,CL iter X.env x=pure x) :
  QE X (.ListComp elt (⟨tg,iter,ifs,0⟩::grest) scope pos) (zI mm cap f2 g t kk):=
 ⟨Q3 hc S hi.1 (fun cl C ex s H=>(hg cl C ex s H).1) (fun cl C ex s H=>(ht cl C ex s H).1) has (fun cl C ex s H=>(he cl C ex s H).1) hs⟩
theorem X2 {y:Ar}{spos:CA}(hc:X.calm=true)(hN:X.N.Nodup)(S:CompSc X.env.scope X.N scope N' cap)(hi:QI2 X tg iter f2)(hg:∀ cl C ex s₀ H₀,QG (qY X N' scope cl C ex s₀ H₀) tg g)(ht:∀ cl C ex s₀ H₀,QTs (qY X N' scope cl C ex s₀ H₀) ifs t)
  (has:∀ g',(⟨tg,iter,ifs,0⟩::grest:Aa CI)[0+1]? = Ab g'→g'.is_async=0)
  (he:∀ cl C ex s₀ H₀,QK (qY X N' scope cl C ex s₀ H₀) (fun acc=>zW elt (⟨tg,iter,ifs,0⟩::grest) scope pos 0 acc (qY X N' scope cl C ex s₀ H₀).env) kk) (hy:X.N[m]? = Ab y) (hyl:Loc X.env.scope y) (hf:X.fn y=true∨X.env.scope.names.lookup y=Ab .local)
  (hsw:Gr (.ListComp elt (⟨tg,iter,ifs,0⟩::grest) scope pos) (Ab (.Name y py)) spos.line X.env=pure true) (hs:∀ x,CL iter X.env x=pure x):QS X (.Assign [.Name y py] (.ListComp elt (⟨tg,iter,ifs,0⟩::grest) scope pos) spos) (qU (zI mm cap f2 g t kk) (gNm m)):=
 ⟨Q9 hc hN S hi.1 (fun cl C ex s H=>(hg cl C ex s H).1) (fun cl C ex s H=>(ht cl C ex s H).1) has (fun cl C ex s H=>(he cl C ex s H).1) hy hyl hf hsw hs⟩
end
def uL (H:Hp):Aa (Ad × HO)→Hp
 |[]=>H
 |p::ps=>uL (upd H p.1 p.2) ps
theorem mB {b:Ad}:∀ {L:Aa (Ad × HO)} {H:Hp},b ∉ L.map (·.1)→uL H L b=H b
 |[],_,_=>rfl
 |p::ps,H,h=>by
  simp only[Co,Aw,Qx] at h;show uL (upd H p.1 p.2) ps b=H b;rw[mB h.2,qH h.1]
theorem dB {b:Ad}{u:HO}:∀ {L:Aa (Ad × HO)} {H:Hp},uL H L b=Ab u→(b,u)∈L∨H b=Ab u
 |[],_,h=>.inr h
 |p::ps,H,h=>by
  rcases dB (L:=ps) (H:=upd H p.1 p.2) h with h|h
  ·exact .inl (AM _ h)
  ·by_cases hb:b=p.1
   ·subst hb
    rw[qT] at h;cases h;exact .inl (Ba ..)
   ·rw[qH hb] at h
    exact .inr h
section
variable {X:Cx}{pins:Aa (Ad × AU)}{σ : _L.St}{H:Hp}{s:Ag}
theorem Inv.laidL {L:Aa (Ad × HO)}{t':Aj}(I:Inv X pins σ H s)(k:∀ b u,s.heap.get? b=Ab u→h'.get? b=Ab u)(hp:∀ p∈L,s.heap.objs.size≤p.1)(new:∀ p∈L,zA X.prog X.w (uL H L) h' p.1 p.2) :
  Inv X pins σ (uL H L) { s with heap:=h',toks:=t' }:=by
 have old:∀ b u,H b=Ab u→uL H L b=Ab u:=fun b u e=>by
  rw[mB (L:=L)]
  ·exact e
  ·intro hb
   obtain⟨p,hp',rfl⟩:=Cc.mp hb;rw[I.hok.fresh (hp p hp')] at e;cases e
 have low:∀ b,b<s.heap.objs.size→uL H L b=H b:=fun b hb=>mB fun hm=>by
  obtain⟨p,hp',rfl⟩:=Cc.mp hm;exact absurd (Ax hb (hp p hp')) (Cj _)
 refine I.un ⟨fun b u q _ _ _=>k b u q,fun b u q _ _ _=>⟨u.slots,k b u q⟩,fun b u q n _=>by rw[low b (Au q)];exact n,fun b u q _=>⟨u,k b u q⟩,fun b xs q=>old b _ q,fun b o xs q=>old b _ q,fun b ps q=>⟨#[],by rw[old b _ q];simp⟩⟩ fun b u e=>?_
 rcases dB e with hm|hb
 ·exact new (b,u) hm
 ·exact(I.hok b u hb).stay (fun c v _ q=>k c v q) (fun c q=>old c _ q) fun c xs q=>old c _ q
end
end _D
namespace _S
open PySem
variable {xs:AB Aj}{mask:Aj}
def Rs (xs:AB Aj):Prop:=xs.toList.Pairwise (· < ·)
theorem Rs.lt (h:Rs xs){a b:Aj}{x y:Aj}(hab:a<b)(ha:xs[a]? = Ab x)(hb:xs[b]? = Ab y):x<y:=by
 obtain⟨h1,e1⟩:=Bi.mp ha;obtain⟨h2,e2⟩:=Bi.mp hb;have:=IP.mp h a b (by simpa using h1) (by simpa using h2) hab
 rw[← e1,← e2];simpa using this
theorem getD_some {i x d:Aj}(h:xs[i]? = Ab x):xs.getD i d=x:=by
 obtain⟨h1,e1⟩:=Bi.mp h;simp[Er,h1,e1]
structure Bel (xs:AB Aj)(j p:Aj):Prop where
 le:p≤xs.size
 lo:∀ i x,i<p→xs[i]? = Ab x→x<j
 hi:∀ i x,p≤i→xs[i]? = Ab x→j≤x
set_option tactic.hygienic true in
theorem p5 (h:Rs xs)(j:Aj):∀ (fuel lo hi:Aj),hi-lo≤fuel→lo≤hi→hi≤xs.size →
  (∀ i x,i<lo→xs[i]? = Ab x→x<j)→(∀ i x,hi≤i→xs[i]? = Ab x→j≤x)→Bel xs j (OA xs j fuel lo hi)
 |0,lo,hi,h1,h2,h3,h4,h5=>by
  have:lo=hi:=by omega
  subst this;exact⟨h3,h4,h5⟩
 |fuel+1,lo,hi,h1,h2,h3,h4,h5=>by
  unfold OA;by_cases hlt:lo<hi
  ·rw[A7 hlt]
   have hm:(lo+hi)/2<xs.size:=by omega
   have e:xs[(lo+hi)/2]? = Ab xs[(lo+hi)/2]:=Br hm;simp only[getD_some e]
   split
   ·rename_i hc
    refine p5 h j fuel _ hi (by omega) (by omega) h3 (fun i x hi' ex=>?_) h5
    by_cases q:i=(lo+hi)/2
    ·subst q;rw[e] at ex;cases ex;exact hc
    ·exact ET (h.lt (by omega) ex e) hc
   ·rename_i hc
    refine p5 h j fuel lo _ (by omega) (by omega) (by omega) h4 (fun i x hi' ex=>?_)
    by_cases q:i=(lo+hi)/2
    ·subst q;rw[e] at ex;cases ex;omega
    ·have:=h.lt (show (lo+hi)/2<i by omega) e ex
     omega
  ·rw[AD hlt]
   have:lo=hi:=by omega
   subst this;exact⟨h3,h4,h5⟩
theorem vK (h:Rs xs)(j:Aj):Bel xs j (AN xs j):=
 p5 h j _ _ _ (by omega) (by omega) (A2 _) (fun i x hi=>by omega) fun i x hi ex=>by
  have:=(Bi.mp ex).1;omega
theorem gZ (h:Rs xs){i j:Aj}(e:xs[i]? = Ab j):AN xs j=i:=by
 have b:=vK h j;have hi:=(Bi.mp e).1;by_cases h1:AN xs j<i
 ·have e2:xs[AN xs j]? = Ab xs[AN xs j]:=Br (by omega)
  have:=h.lt h1 e2 e;have:=b.hi _ _ (A2 _) e2;omega
 ·by_cases h2:i<AN xs j
  ·have:=b.lo _ _ h2 e
   omega
  ·omega
theorem rT (h:Rs xs){i j:Aj}(e:xs[i]? = Ab j):AN xs (j+1)=i+1:=by
 have b:=vK h (j+1);have hi:=(Bi.mp e).1;have h1:i<AN xs (j+1):=by
  apply CJ;intro q;have:=b.hi _ _ (by omega) e
  omega
 by_cases h2:i+1<AN xs (j+1)
 ·have hz:i+1<xs.size:=by have:=b.le;omega
  have e2:xs[i+1]? = Ab xs[i+1]:=Br hz;have:=b.lo _ _ h2 e2;have:=h.lt (Ee i) e e2;omega
 ·omega
theorem rV (h:Rs xs):AN xs 0=0:=by
 have b:=vK h 0;apply CJ;intro q;have hz:0<xs.size:=by have:=b.le;omega
 have e2:xs[0]? = Ab xs[0]:=Br hz;have:=b.lo _ _ (by omega) e2
 omega
structure Tb (t:CK):Prop where
 rs:Rs t.place
 dm:t.dummies=#[]
theorem sE (j:Aj):Oe #[] j=false:=by simp[Oe]
theorem tG {t:CK}(T:Tb t){i j:Aj}(e:t.place[i]? = Ab j):t.slot j=.live i:=by
 unfold Ri;simp only[gZ T.rs e,e];simp
theorem c5 {t:CK}(T:Tb t)(j:Aj):(∃ i,t.slot j=.live i∧t.place[i]? = Ab j)∨(t.slot j=.empty∧j ∉ t.place.toList):=by
 by_cases h:j∈t.place.toList
 ·obtain⟨i,hi,e⟩:=Bl.mp h
  have e':t.place[i]? = Ab j:=by rw[← AJ,Aq hi,e]
  exact .inl ⟨i,tG T e',e'⟩
 ·refine .inr ⟨?_,h⟩
  unfold Ri;simp only[T.dm,sE];rw[AD,AD (by simp)]
  intro q;apply h;have:t.place[AN t.place j]? = Ab j:=by simpa using q
  obtain⟨h1,e1⟩:=Bi.mp this;rw[← e1];simp
theorem o8 (h:Rs xs){j:Aj}(hj:j ∉ xs.toList):Rs (AE xs (AN xs j) j):=by
 have b:=vK h j;unfold Rs;rw[IZ];have key:∀ (i:Aj) (x:Aj),xs.toList[i]? = Ab x→(i<AN xs j→x<j)∧(AN xs j≤i→j<x):=fun i x e=>by
  have e':xs[i]? = Ab x:=by rw[← AJ];exact e
  refine⟨fun q=>b.lo _ _ q e',fun q=>?_⟩;have h1:=b.hi _ _ q e';have:x≠j:=by
   rintro rfl;exact hj (A4 e)
  omega
 have tk:∀ x∈xs.toList.take (AN xs j),x<j:=fun x hx=>by
  obtain⟨i,hi,e⟩:=Bl.mp hx;rw[EZ] at hi;rw[List.getElem_take] at e;exact(key i x (by rw[Aq (by omega),e])).1 (by omega)
 have dr:∀ x∈xs.toList.drop (AN xs j),j<x:=fun x hx=>by
  obtain⟨i,hi,e⟩:=Bl.mp hx;rw[Hj] at hi;rw[List.getElem_drop] at e;exact(key (AN xs j+i) x (by rw[Aq (by omega),e])).2 (by omega)
 rw[Me,CU];refine⟨RP h,⟨dr,RQ h⟩,fun x hx y hy=>?_⟩;rcases Aw.mp hy with rfl|hy
 ·exact tk x hx
 ·exact ET (tk x hx) (dr y hy)
theorem b9 {α:Type}(xs:AB α){p:Aj}(hp:p≤xs.size)(x:α)(i:Aj):(AE xs p x)[i]? = if i<p then xs[i]? else if i=p then Ab x else xs[i-1]?:=by
 rw[← AJ,IZ];have hl:(xs.toList.take p).length=p:=by simp;omega
 by_cases h1:i<p
 ·rw[A7 h1,AO (by omega),IW h1,AJ]
 ·rw[AD h1,Be (by omega),hl]
  by_cases h2:i=p
  ·subst h2;simp
  ·rw[AD h2]
   obtain⟨k,hk⟩:∃ k,i-p=k+1:=⟨i-p-1,by omega⟩
   rw[hk,List.getElem?_cons_succ,List.getElem?_drop,AJ]
   congr 1;omega
theorem yR {α:Type}(xs:AB α)(p:Aj)(x:α):(AE xs p x).size=xs.size+1:=by
 have:=(Ef xs p x).length_eq;simpa using this
theorem BK {t:CK}(T:Tb t){j:Aj}(hj:j ∉ t.place.toList):Tb (t.put j).1:=by
 refine⟨o8 T.rs hj,?_⟩;show (if Oe t.dummies j then _ else t.dummies)=#[]
 rw[T.dm,sE];rfl
open PySem.SetTable (Probe leap runEnd turns bits)
def adv (mask:Aj)(p:Gu):Gu:=if p.more>0 then { p with j:=p.j+1,more:=p.more-1 } else { p with j:=(leap mask p.i p.perturb).1,more:=Dp mask (leap mask p.i p.perturb).1-(leap mask p.i p.perturb).1,i:=(leap mask p.i p.perturb).1,perturb:=(leap mask p.i p.perturb).2 }
theorem JK (t:CK)(p:Gu):t.advance p=adv t.mask p:=rfl
def it (mask:Aj):Aj→Gu→Gu
 |0,p=>p
 |n+1,p=>it mask n (adv mask p)
theorem gF (mask:Aj):∀ (n:Aj) (p:Gu),it mask (n+1) p=adv mask (it mask n p)
 |0,p=>rfl
 |n+1,p=>gF mask n (adv mask p)
theorem bE (mask:Aj):∀ (m n:Aj) (p:Gu),it mask (m+n) p=it mask n (it mask m p)
 |0,n,p=>by rw[Of];rfl
 |m+1,n,p=>by rw[Il];exact bE mask m n (adv mask p)
def rs (mask i pert:Aj):Gu:={ j:=i,more:=Dp mask i-i,i,perturb:=pert,dummy:=none }
def st (mask:Aj)(h:Am):Gu:=rs mask (bits h % (mask+1)) (bits h)
theorem N7 (t:CK)(h:Am):t.probeStart h=st t.mask h:=rfl
theorem kM (mask i pert:Aj):∀ k,k≤Dp mask i-i→it mask k (rs mask i pert)={ j:=i+k,more:=Dp mask i-i-k,i,perturb:=pert,dummy:=none }
 |0,_=>rfl
 |k+1,hk=>by
  rw[gF,kM mask i pert k (by omega)]
  unfold adv;rw[A7 (by show Dp mask i-i-k>0;omega)]
  simp only[Probe.mk.injEq,and_true,true_and];omega
theorem sJ (mask i pert:Aj):it mask (Dp mask i-i+1) (rs mask i pert)=rs mask (leap mask i pert).1 (leap mask i pert).2:=by
 rw[gF,kM mask i pert _ (A2 _)];unfold adv;rw[AD (by show ¬ (Dp mask i-i-(Dp mask i-i)>0);omega)]
 rfl
theorem F7 (mask i:Aj):Dp mask i-i+1≤10:=by
 unfold Dp
 split <;> omega
def lp (mask:Aj):Aj→Aj × Aj→Aj × Aj
 |0,q=>q
 |n+1,q=>lp mask n (leap mask q.1 q.2)
theorem aW (mask:Aj):∀ (m n:Aj) (q:Aj × Aj),lp mask (m+n) q=lp mask n (lp mask m q)
 |0,n,p=>by rw[Of];rfl
 |m+1,n,p=>by rw[Il];exact aW mask m n _
theorem W9 (mask:Aj):∀ (n i pert:Aj),∃ k,k≤10*n∧it mask k (rs mask i pert)=rs mask (lp mask n (i,pert)).1 (lp mask n (i,pert)).2
 |0,i,pert=>⟨0,by omega,rfl⟩
 |n+1,i,pert=>by
  obtain⟨k,hk,e⟩:=W9 mask n (leap mask i pert).1 (leap mask i pert).2;refine⟨(Dp mask i-i+1)+k,by have:=F7 mask i;omega,?_⟩
  rw[bE,sJ,e];rfl
theorem sQ (mask:Aj):∀ (n i pert:Aj),(lp mask n (i,pert)).2=pert/32 ^ n
 |0,i,pert=>by simp[lp]
 |n+1,i,pert=>by
  show (lp mask n ((leap mask i pert).1,pert/32)).2=_;rw[sQ mask n _ (pert/32),Nat.div_div_eq_div_mul,← Nat.pow_succ']
theorem fS (mask i pert:Aj):(leap mask i pert).1≤mask:=EL (Hc _ (Gk _))
theorem WD (mask:Aj):∀ (n i pert:Aj),i≤mask→(lp mask n (i,pert)).1≤mask
 |0,i,pert,h=>h
 |n+1,i,pert,h=>WD mask n _ _ (fS mask i pert)
theorem dQ (h:Am):bits h<2 ^ 64:=by
 unfold bits;have h1:(0:Am)≤h % 2 ^ 64:=Fu _ (by decide)
 have h2:h % 2 ^ 64<(2 ^ 64:Am):=EC _ (by decide)
 omega
def cyc (mask:Aj):Aj→Aj→Aj
 |0,i=>i
 |n+1,i=>cyc mask n ((i*5+1) % (mask+1))
theorem gE (mask:Aj):∀ (m n i:Aj),cyc mask (m+n) i=cyc mask n (cyc mask m i)
 |0,n,p=>by rw[Of];rfl
 |m+1,n,p=>by rw[Il];exact gE mask m n _
theorem aX (mask:Aj):∀ (n i:Aj),(lp mask n (i,0)).1=cyc mask n i
 |0,i=>rfl
 |n+1,i=>by
  show (lp mask n (leap mask i 0)).1=_;have:leap mask i 0=((i*5+1) % (mask+1),0):=by simp[leap]
  rw[this,aX mask n];rfl
def Msk (mask:Aj):Prop:=mask=7∨mask=31∨mask=127∨mask=511∨mask=2047
def orb (mask:Aj):Aj→Aj→Aj→Aj
 |0,_,acc=>acc
 |n+1,i,acc=>orb mask n ((i*5+1) % (mask+1)) (acc ||| 1 <<< i)
def cR (mask:Aj):Ap:=orb mask (mask+1) 0 0 == 2 ^ (mask+1)-1&&cyc mask (mask+1) 0 == 0
theorem cS (h:Msk mask):cR mask=true:=by
 rcases h with rfl|rfl|rfl|rfl|rfl <;> decide +kernel
theorem sS (mask e:Aj):∀ (n i acc:Aj),(orb mask n i acc).testBit e=true→acc.testBit e=true∨∃ m,m<n∧cyc mask m i=e
 |0,i,acc,h=>.inl h
 |n+1,i,acc,h=>by
  rcases sS mask e n _ _ h with q|⟨m,hm,q⟩
  ·rw[Nat.testBit_or,HC] at q
   rcases q with q|q
   ·exact .inl q
   ·rw[Nat.one_shiftLeft,Nat.testBit_two_pow,AV] at q
    exact .inr ⟨0,by omega,q⟩
  ·exact .inr ⟨m+1,by omega,q⟩
theorem oZ (h:Msk mask){i e:Aj}(hi:i≤mask)(he:e≤mask):∃ n,n≤mask∧cyc mask n i=e:=by
 have a:=cS h;unfold cR at a;rw[A3] at a;obtain⟨a1,a2⟩:=a;have a1:orb mask (mask+1) 0 0=2 ^ (mask+1)-1:=by simpa using a1
 have g:∀ e,e≤mask→∃ n,n≤mask∧cyc mask n 0=e:=fun e he=>by
  have q:(orb mask (mask+1) 0 0).testBit e=true:=by rw[a1,Nat.testBit_two_pow_sub_one];simp;omega
  rcases sS mask e _ _ _ q with q|⟨n,hn,q⟩
  ·simp at q
  ·exact⟨n,by omega,q⟩
 have a3:cyc mask (mask+1) 0=0:=by simpa using a2
 obtain⟨m,hm,em⟩:=g i hi;obtain⟨n,hn,en⟩:=g e he;by_cases q:m≤n
 ·refine⟨n-m,by omega,?_⟩
  rw[← em,← gE,show m+(n-m)=n by omega]
  exact en
 ·refine⟨n+(mask+1)-m,by omega,?_⟩
  rw[← em,← gE,show m+(n+(mask+1)-m)=(mask+1)+n by omega,gE,a3]
  exact en
theorem lK (h:Msk mask){i pert e:Aj}(hi:i≤mask)(hp:pert<2 ^ 64)(he:e≤mask):∃ n,n≤mask+13∧(lp mask n (i,pert)).1=e:=by
 have h0:(lp mask 13 (i,pert)).2=0:=by
  rw[sQ];apply Nat.div_eq_of_lt;exact ET hp (by decide)
 obtain⟨n,hn,q⟩:=oZ h (WD mask 13 i pert hi) he;refine⟨13+n,by omega,?_⟩
 rw[aW];have:lp mask 13 (i,pert)=((lp mask 13 (i,pert)).1,0):=by rw[← h0]
 rw[this,aX];exact q
theorem lF (h:Msk mask)(hs:Am){e:Aj}(he:e≤mask):∃ n,n<10*turns mask∧(it mask n (st mask hs)).j=e:=by
 obtain⟨n,hn,q⟩:=lK h (i:=bits hs % (mask+1)) (EL (Hc _ (Gk _))) (dQ hs) he;obtain⟨k,hk,e1⟩:=W9 mask n (bits hs % (mask+1)) (bits hs);refine⟨k,by unfold turns;omega,?_⟩
 show (it mask k (rs mask _ _)).j=e;rw[e1];exact q
theorem pH (mask:Aj):∀ (n:Aj) (p:Gu),(it mask n p).dummy=p.dummy
 |0,p=>rfl
 |n+1,p=>by
  show (it mask n (adv mask p)).dummy=_;rw[pH mask n];unfold adv
  split <;> rfl
def Way (t:CK)(p:Gu)(n:Aj):Prop:=∀ m,m<n→(it t.mask m p).j∈t.place.toList
inductive Meets (t:CK)(hashAt:Aj→Am)(h:Am)(p:Gu)(fuel:Aj):Ak SetTable.Met→Prop
 |emp (n:Aj) (hn:n<fuel) (w:Way t p n) (e:(it t.mask n p).j ∉ t.place.toList) (q:∀ m i,m<n→t.place[i]? = Ab (it t.mask m p).j→hashAt i≠h):Meets t hashAt h p fuel (Ab (.empty (it t.mask n p).j none))
 |cand (n i:Aj) (hn:n<fuel) (w:Way t p n) (e:t.place[i]? = Ab (it t.mask n p).j) (hh:hashAt i=h) (q:∀ m i,m<n→t.place[i]? = Ab (it t.mask m p).j→hashAt i≠h):Meets t hashAt h p fuel (Ab (.candidate (it t.mask n p).j i (it t.mask (n+1) p)))
theorem o7 (h:Rs xs){a b x:Aj}(ha:xs[a]? = Ab x)(hb:xs[b]? = Ab x):a=b:=by rw[← gZ h ha,gZ h hb]
set_option tactic.hygienic true in
theorem jF {t:CK}(T:Tb t)(hashAt:Aj→Am)(h:Am):∀ (fuel:Aj) (p:Gu),p.dummy=none→(∃ n,n<fuel∧(it t.mask n p).j ∉ t.place.toList)→Meets t hashAt h p fuel (EM t hashAt h fuel p)
 |0,p,_,⟨n,hn,_⟩=>by omega
 |fuel+1,p,hd,⟨n,hn,hne⟩=>by
  unfold EM;rcases c5 T p.j with⟨i,e,ei⟩|⟨e,q⟩
  ·rw[e]
   simp only
   split
   ·rename_i hh
    exact Meets.cand 0 i (by omega) (fun m hm=>by omega) ei (by simpa using hh) fun m i hm=>by omega
   ·rename_i hh
    have hh':hashAt i≠h:=by simpa using hh
    have hn0:n≠0:=by
     rintro rfl;exact hne (A4 (by rw[AJ];exact ei))
    obtain⟨n',rfl⟩:∃ n',n=n'+1:=⟨n-1,by omega⟩
    have ih:=jF T hashAt h fuel (adv t.mask p) (by rw[← hd];exact pH t.mask 1 p) ⟨n',by omega,hne⟩
    rw[JK];have mem0:p.j∈t.place.toList:=A4 (by rw[AJ];exact ei)
    have up:∀ {k:Aj},Way t (adv t.mask p) k→Way t p (k+1):=fun {k} w m hm=>by
     cases m with
     |zero=>exact mem0
     |succ m=>exact w m (by omega)
    have upq:∀ {k:Aj},(∀ m i,m<k→t.place[i]? = Ab (it t.mask m (adv t.mask p)).j→hashAt i≠h)→∀ m i,m<k+1→t.place[i]? = Ab (it t.mask m p).j→hashAt i≠h:=fun {k} q m i' hm e'=>by
     cases m with
     |zero=>rw[o7 T.rs e' ei];exact hh'
     |succ m=>exact q m i' (by omega) e'
    generalize hg:EM t hashAt h fuel (adv t.mask p)=r at ih;cases ih with
    |emp k hk w e1 q1=>exact Meets.emp (p:=p) (k+1) (by omega) (up w) e1 (upq q1)
    |cand k i' hk w e1 hh1 q1=>exact Meets.cand (p:=p) (k+1) i' (by omega) (up w) e1 hh1 (upq q1)
  ·rw[e]
   simp only[hd];exact Meets.emp (p:=p) 0 (by omega) (fun m hm=>by omega) q fun m i hm=>by omega
end _S
namespace _S
open PySem
open PySem.SetTable (Probe leap runEnd turns bits)
variable {owner:AB (Ak Aj)}{us:Aa Aj}{mask:Aj}
structure Own (mask:Aj)(owner:AB (Ak Aj))(us:Aa Aj):Prop where
 size:owner.size=mask+1
 nd:us.Nodup
 le:∀ u∈us,u≤mask
 at':∀ j k,j≤mask→(owner.getD j (Ab 0)=Ab k↔us[k]? = Ab j)
theorem m5 {i:Aj}(hi:i≤mask):Dp mask i≤mask:=by
 unfold Dp
 split <;> omega
theorem m6 (mask i:Aj):i≤Dp mask i:=by
 unfold Dp
 split <;> omega
theorem Own.none (O:Own mask owner us){j:Aj}(hj:j≤mask):(owner.getD j (Ab 0)).isNone=true↔j ∉ us:=by
 constructor
 ·intro h hm
  obtain⟨k,hk,e⟩:=Bl.mp hm;have:=(O.at' j k hj).mpr (by rw[Aq hk,e])
  rw[this] at h;cases h
 ·intro h
  cases q:owner.getD j (Ab 0) with
  |none=>rfl
  |some k=>exact absurd (A4 ((O.at' j k hj).mp q)) h
theorem mR (O:Own mask owner us):∀ (fuel i pert:Aj),i≤mask→(∃ L,L<fuel∧(lp mask L (i,pert)).1 ∉ us) →
  ∃ n,Eg mask owner fuel i pert=Ab (it mask n (rs mask i pert)).j∧(it mask n (rs mask i pert)).j≤mask∧(it mask n (rs mask i pert)).j ∉ us∧∀ m,m<n→(it mask m (rs mask i pert)).j∈us
 |0,i,pert,hi,⟨L,hL,_⟩=>by omega
 |fuel+1,i,pert,hi,⟨L,hL,hne⟩=>by
  unfold Eg;have hmx:=m5 hi;have hmn:=m6 mask i;cases hf:(AR (Dp mask i+1-i)).find? fun k=>(owner.getD (i+k) (Ab 0)).isNone with
  |some k =>
   obtain⟨h1,h2,h3⟩:=List.find?_range_eq_some.mp hf;have hk:k<Dp mask i+1-i:=Cq.mp h2;have ej:(it mask k (rs mask i pert)).j=i+k:=by rw[kM mask i pert k (by omega)]
   refine⟨k,?_,?_,?_,fun m hm=>?_⟩
   ·rw[ej]
   ·rw[ej];omega
   ·rw[ej];exact(O.none (by omega)).mp h1
   ·rw[kM mask i pert m (by omega)]
    have:=h3 m hm;apply CJ;intro q;rw[(O.none (show i+m≤mask by omega)).mpr q] at this
    cases this
  |none =>
   have hall:∀ k,k<Dp mask i+1-i→i+k∈us:=fun k hk=>by
    have:=List.find?_eq_none.mp hf k (Cq.mpr hk);apply CJ;intro q;exact this ((O.none (show i+k≤mask by omega)).mpr q)
   have hL0:L≠0:=by
    rintro rfl;exact hne (hall 0 (by omega))
   obtain⟨L',rfl⟩:∃ L',L=L'+1:=⟨L-1,by omega⟩
   obtain⟨n,q1,q2,q3,q4⟩:=mR O fuel (leap mask i pert).1 (leap mask i pert).2 (fS mask i pert) ⟨L',by omega,hne⟩
   have e:∀ m,it mask (Dp mask i-i+1+m) (rs mask i pert)=it mask m (rs mask (leap mask i pert).1 (leap mask i pert).2):=fun m=>by rw[bE,sJ]
   refine⟨Dp mask i-i+1+n,?_,?_,?_,fun m hm=>?_⟩
   ·rw[e];exact q1
   ·rw[e];exact q2
   ·rw[e];exact q3
   ·by_cases hlt:m<Dp mask i-i+1
    ·rw[kM mask i pert m (by omega)]
     exact hall m (by omega)
    ·obtain⟨m',rfl⟩:∃ m',m=Dp mask i-i+1+m':=⟨m-(Dp mask i-i+1),by omega⟩
     rw[e];exact q4 m' (by omega)
theorem gap (h:us.length≤mask):∃ e,e≤mask∧e ∉ us:=by
 apply CJ;intro q;have:AR (mask+1) ⊆ us:=fun e he=>by
  apply CJ;intro r;exact q ⟨e,by have:=Cq.mp he;omega,r⟩
 have:=List.Nodup.length_le_of_subset OY this;rw[EN] at this;omega
theorem VX (mask:Aj):Own mask (Array.replicate (mask+1) none) []:=by
 refine⟨by simp,List.nodup_nil,fun u hu=>by simp at hu,fun j k hj=>?_⟩
 have:j<mask+1:=by omega
 simp[Er,this]
theorem ZQ (O:Own mask owner us){j:Aj}(hj:j≤mask)(hn:j ∉ us):Own mask (owner.setIfInBounds j (Ab us.length)) (us++[j]):=by
 refine⟨by simp[O.size],?_,fun u hu=>?_,fun i k hi=>?_⟩
 ·rw[IK]
  refine⟨O.nd,by simp,fun a ha b hb=>?_⟩
  simp at hb;rintro rfl;subst hb;exact hn ha
 ·rcases Bs.mp hu with h|h
  ·exact O.le u h
  ·simp at h;omega
 ·have hsz:=O.size
  have hi':i<owner.size:=by omega
  have hk:∀ {k},us[k]? = Ab i→k<us.length:=fun q=>(Ay.mp q).1;by_cases hij:j=i
  ·subst hij
   have e1:(owner.setIfInBounds j (Ab us.length)).getD j (Ab 0)=Ab us.length:=by simp[Er,hi']
   rw[e1];constructor
   ·intro q;cases q;simp
   ·intro q
    by_cases h1:k<us.length
    ·rw[AO h1] at q
     exact absurd (A4 q) hn
    ·rw[Be (by omega)] at q
     have:k-us.length=0:=by
      cases hz:k-us.length with
      |zero=>rfl
      |succ z=>rw[hz] at q;simp at q
     congr 1;omega
  ·have e1:(owner.setIfInBounds j (Ab us.length)).getD i (Ab 0)=owner.getD i (Ab 0):=by
    simp[Er,hi',Array.getElem_setIfInBounds,hij]
   rw[e1,O.at' i k hi];constructor
   ·intro q;rw[AO (hk q)];exact q
   ·intro q
    by_cases h1:k<us.length
    ·rw[AO h1] at q;exact q
    ·rw[Be (by omega)] at q
     cases hz:k-us.length with
     |zero=>rw[hz] at q;simp at q;exact absurd q hij
     |succ z=>rw[hz] at q;simp at q
def rM (mask:Aj)(us:Aa Aj)(hs:Aa Am):Prop:=∀ (k:Aj) (h:Am),hs[k]? = Ab h→∃ n,us[k]? = Ab (it mask n (st mask h)).j∧∀ m,m<n→(it mask m (st mask h)).j∈us
theorem mQ (hM:Msk mask):∀ (hs done:Aa Am) (owner:AB (Ak Aj)) (us:Aa Aj),Own mask owner us→us.length=done.length→done.length+hs.length≤mask→rM mask us done →
  ∃ owner' us',hs.foldl (fun acc h=>do
   let (owner,k) ← acc
   let j ← Eg mask owner (turns mask) (bits h % (mask+1)) (bits h)
   pure (owner.setIfInBounds j (Ab k),k+1)) (Ab (owner,us.length))=Ab (owner',us'.length)∧Own mask owner' us'∧us'.length=done.length+hs.length∧rM mask us' (done++hs)
 |[],done,owner,us,O,hl,_,hL=>⟨owner,us,rfl,O,by simpa using hl,by simpa using hL⟩
 |h::hs,done,owner,us,O,hl,hlen,hL=>by
  rw[Bo] at hlen;obtain⟨e,he,hne⟩:=gap (mask:=mask) (us:=us) (by omega)
  obtain⟨L,hLn,hLe⟩:=lK hM (i:=bits h % (mask+1)) (EL (Hc _ (Gk _))) (dQ h) he;obtain⟨n,q1,q2,q3,q4⟩:=mR O (turns mask) (bits h % (mask+1)) (bits h) (EL (Hc _ (Gk _))) ⟨L,by unfold turns;omega,by rw[hLe];exact hne⟩
  have O':=ZQ O q2 q3;have hL':rM mask (us++[(it mask n (rs mask (bits h % (mask+1)) (bits h))).j]) (done++[h]):=fun k h' e'=>by
   by_cases hk:k<done.length
   ·rw[AO hk] at e'
    obtain⟨n',w1,w2⟩:=hL k h' e';exact⟨n',by rw[AO (by omega)];exact w1,fun m hm=>Bk _ (w2 m hm)⟩
   ·rw[Be (by omega)] at e'
    cases hz:k-done.length with
    |succ z=>rw[hz] at e';simp at e'
    |zero =>
     rw[hz] at e';simp at e';subst e';refine⟨n,?_,fun m hm=>Bk _ (q4 m hm)⟩;rw[Be (by omega),hl,hz]
     rfl
  obtain⟨owner',us',r1,r2,r3,r4⟩:=mQ hM hs (done++[h]) _ _ O' (by simp[hl]) (by simp;omega) hL'
  refine⟨owner',us',?_,r2,by simpa [Nat.add_assoc,Nat.add_comm 1] using r3,by simpa using r4⟩
  rw[List.foldl_cons];rw[Bt] at r1;have e0:(do
   let (owner,k) ← Ab (owner,us.length)
   let j ← Eg mask owner (turns mask) (bits h % (mask+1)) (bits h)
   pure (owner.setIfInBounds j (Ab k),k+1))=Ab (owner.setIfInBounds (it mask n (rs mask (bits h % (mask+1)) (bits h))).j (Ab us.length),us.length+1):=by
   show (Eg mask owner (turns mask) (bits h % (mask+1)) (bits h)).bind _=_;rw[q1];rfl
  rw[e0];exact r1
theorem tQ (hM:Msk mask)(hs:AB Am)(hlen:hs.size≤mask):∃ owner us,OB mask hs=Ab owner∧Own mask owner us∧us.length=hs.size∧rM mask us hs.toList:=by
 obtain⟨owner',us',r1,r2,r3,r4⟩:=mQ hM hs.toList [] _ [] (VX mask) rfl (by simpa using hlen) (fun k h e=>by simp at e)
 refine⟨owner',us',?_,r2,by simpa using r3,by simpa using r4⟩
 unfold OB;rw[← Array.foldl_toList];have:(([]:Aa Aj).length)=0:=rfl;rw[this] at r1
 erw [r1]
 rfl
structure Laid (mask:Aj)(hs:AB Am)(t:CK)(qO:AB Aj):Prop where
 msk:t.mask=mask
 tb:Tb t
 size:t.place.size=hs.size
 le:∀ x∈t.place.toList,x≤mask
 perm:qO.toList.Perm (AR hs.size)
 way:∀ (i k:Aj) (h:Am),qO[i]? = Ab k→hs[k]? = Ab h→∃ n,t.place[i]? = Ab (it mask n (st mask h)).j∧Way t (st mask h) n
theorem aQ (hM:Msk mask)(hs:AB Am)(hlen:hs.size≤mask)(finger moves:Aj)(led plain:Ap) :
  ∃ t qO,Mv mask finger moves led plain hs=Ab (t,qO)∧t.led=led∧t.plain=plain∧Laid mask hs t qO:=by
 obtain⟨owner,us,e,O,hl,hL⟩:=tQ hM hs hlen;have hg:∀ j,j≤mask→owner.getD j none=owner.getD j (Ab 0):=fun j hj=>by
  have:j<owner.size:=by rw[O.size];omega
  simp[Er,this]
 generalize hlv:((AR (mask+1)).filterMap fun j=>(owner.getD j none).map (j,·))=live
 have mem:∀ (j k:Aj),(j,k)∈live↔us[k]? = Ab j:=fun j k=>by
  rw[← hlv,Em];constructor
  ·rintro⟨j',hj',q⟩
   have hj'':j'≤mask:=by have:=Cq.mp hj';omega
   rw[hg j' hj''] at q;cases hz:owner.getD j' (Ab 0) with
   |none=>rw[hz] at q;cases q
   |some k' =>
    rw[hz] at q;simp at q;obtain⟨rfl,rfl⟩:=q;exact(O.at' _ _ hj'').mp hz
  ·intro q
   have hj:j≤mask:=O.le j (A4 q);refine⟨j,Cq.mpr (by omega),?_⟩
   rw[hg j hj,(O.at' j k hj).mpr q];rfl
 have hfst:live.map (·.1)=(AR (mask+1)).filter fun j=>(owner.getD j none).isSome:=by
  rw[← hlv,List.map_filterMap];generalize owner.getD=f
  induction AR (mask+1) with
  |nil=>rfl
  |cons a l ih =>
   rw[Ec,List.filter_cons];cases hz:f a none with
   |none=>simpa using ih
   |some k=>simpa using ih
 have hR:(live.map (·.1)).Pairwise (· < ·):=by
  rw[hfst];exact RI _ List.pairwise_lt_range
 have ndl:(live.map (·.2)).Nodup:=by
  unfold Qi;rw[Ea];have h1:=Ea.mp hR;refine Ja (fun {a b} ha hb hab=>?_) h1;intro q;have ea:=(mem a.1 a.2).mp ha;have eb:=(mem b.1 b.2).mp hb;rw[← q,ea] at eb;simp at eb;omega
 have pm:(live.map (·.2)).Perm (AR hs.size):=by
  rw[List.perm_ext_iff_of_nodup ndl OY];intro k;rw[Cc,Cq,← hl];constructor
  ·rintro⟨⟨j,k'⟩,h1,rfl⟩
   exact(Ay.mp ((mem j k').mp h1)).1
  ·intro hk
   exact⟨(us[k],k),(mem _ _).mpr (Aq hk),rfl⟩
 have hmem:∀ j,j∈live.map (·.1)↔j∈us:=fun j=>by
  rw[Cc];constructor
  ·rintro⟨⟨j',k⟩,h1,rfl⟩
   exact A4 ((mem _ _).mp h1)
  ·intro h1
   obtain⟨k,hk,e⟩:=Bl.mp h1;exact⟨(j,k),(mem _ _).mpr (by rw[Aq hk,e]),rfl⟩
 refine⟨{ mask,place:=(live.map (·.1)).toArray,dummies:=#[],finger,led,moves,plain },(live.map (·.2)).toArray,?_,rfl,rfl,rfl,⟨?_,rfl⟩,?_,fun x hx=>?_,?_,fun i k h e1 e2=>?_⟩
 ·unfold Mv
  rw[e,← hlv];rfl
 ·exact hR
 ·have:=pm.length_eq
  simp at this ⊢;exact this
 ·exact O.le x ((hmem x).mp hx)
 ·exact pm
 ·have e1':(live.map (·.2))[i]? = Ab k:=by simpa using e1
  rw[Bh] at e1';cases hz:live[i]? with
  |none=>rw[hz] at e1';cases e1'
  |some jk =>
   rw[hz] at e1';simp at e1';have hin:=A4 hz;have hu:=(mem jk.1 jk.2).mp hin;obtain⟨n,w1,w2⟩:=hL k h (by rw[AJ];exact e2)
   rw[← e1'] at w1;rw[hu] at w1;refine⟨n,?_,fun m hm=>?_⟩
   ·rw[← w1]
    simp[hz]
   ·have:=(hmem _).mpr (w2 m hm)
    simpa using this
theorem UO {t:CK}{hs:AB Am}{w:Aj}:SetTable.relaid t hs w=Mv (Cp w-1) t.finger (t.movedTo (Cp w-1)) t.led t.plain hs:=rfl
end _S
namespace _S
open PySem
open PySem.SetTable (Probe leap runEnd turns bits)
structure Set0 {K:Type}(is:K→Ac→Prop)(hash:K→Am)(es:AB (Am × Ac))(seen:Aa K):Prop where
 good:∀ e∈es.toList,∃ k,e.1=hash k∧is k e.2
 nd:es.toList.Pairwise fun a b=>∀ k,is k a.2→¬ is k b.2
 mem:∀ k,k∈seen↔∃ e∈es.toList,is k e.2
section
variable {K:Type}{is:K→Ac→Prop}{hash:K→Am}{es es':AB (Am × Ac)}{seen seen':Aa K}
theorem Set0.perm (Z:Set0 is hash es seen)(p:es'.toList.Perm es.toList):Set0 is hash es' seen:=
 ⟨fun e he=>Z.good e (p.mem_iff.mp he),(p.pairwise_iff fun {x y} h k hy hx=>h k hx hy).mpr Z.nd,fun k=>(Z.mem k).trans ⟨fun ⟨e,he,q⟩=>⟨e,p.mem_iff.mpr he,q⟩,fun ⟨e,he,q⟩=>⟨e,p.mem_iff.mp he,q⟩⟩⟩
theorem Set0.nil:Set0 is hash #[] []:=⟨fun e he=>by simp at he,by simp,fun k=>by simp⟩
theorem Set0.push (Z:Set0 is hash es seen)(inj:∀ {k k':K} {v:Ac},is k v→is k' v→k=k'){k:K}{x:Ac}(hk:is k x)(hn:k ∉ seen)(p:es'.toList.Perm (es.toList++[(hash k,x)])):Set0 is hash es' (k::seen):=by
 refine Set0.perm (es:=es.push (hash k,x)) ⟨fun e he=>?_,?_,fun k'=>?_⟩ (by simpa using p)
 ·rw[Eb] at he
  rcases Bs.mp he with he|he
  ·exact Z.good e he
  ·simp at he;subst he;exact⟨k,rfl,hk⟩
 ·rw[Eb,Me]
  refine⟨Z.nd,by simp,fun a ha b hb k' h1 h2=>?_⟩
  simp at hb;subst hb;have:=inj hk h2;subst this;exact hn ((Z.mem k).mpr ⟨a,ha,h1⟩)
 ·rw[Aw,Z.mem,Eb]
  constructor
  ·rintro (rfl|⟨e,he,q⟩)
   ·exact⟨(hash k',x),by simp,hk⟩
   ·exact⟨e,Bk _ he,q⟩
  ·rintro⟨e,he,q⟩
   rcases Bs.mp he with he|he
   ·exact .inr ⟨e,he,q⟩
   ·simp at he;subst he;exact .inl (inj q hk)
theorem Set0.again (Z:Set0 is hash es seen){k:K}(hk:k∈seen):Set0 is hash es (k::seen):=
 ⟨Z.good,Z.nd,fun k'=>by rw[Aw,Z.mem];exact⟨fun h=>h.elim (fun e=>by subst e;exact(Z.mem _).mp hk) id,.inr⟩⟩
end
section
open Classical in
theorem pI {K:Type}{is:K→Ac→Prop}:∀ (L:Aa (Am × Ac)) (U:Aa K),L.Pairwise (fun a b=>∀ k,is k a.2→¬ is k b.2)→(∀ e∈L,∃ k∈U,is k e.2)→L.length≤U.length
 |[],U,_,_=>Ds _
 |e::L,U,nd,h=>by
  rw[CU] at nd;obtain⟨k0,hk0,q0⟩:=h e (by simp)
  have ih:=pI L (U.erase k0) nd.2 fun e' he'=>by
   obtain⟨k,hk,q⟩:=h e' (by simp[he'])
   have:k≠k0:=fun z=>nd.1 e' he' k0 q0 (z▸q);exact⟨k,(Mf this).mpr hk,q⟩
  rw[Jb hk0] at ih;have:0<U.length:=Kt hk0;rw[Bo];omega
open Classical in
theorem Set0.few {K:Type}{is:K→Ac→Prop}{hash:K→Am}{es:AB (Am × Ac)}{seen U:Aa K}{k:K}(Z:Set0 is hash es seen)(hU:∀ k'∈seen,k'∈U)(hk:k∈U)(hn:k ∉ seen):es.size<U.length:=by
 have:=pI es.toList (U.erase k) Z.nd fun e he=>by
  obtain⟨k',_,q⟩:=Z.good e he;have hs:=(Z.mem k').mpr ⟨e,he,q⟩;have hne:k'≠k:=fun z=>hn (z▸hs);exact⟨k',(Mf hne).mpr (hU k' hs),q⟩
 rw[Jb hk,Bb] at this;have:0<U.length:=Kt hk;omega
end
structure TabT (t:CK)(es:AB (Am × Ac)):Prop where
 tb:Tb t
 msk:Msk t.mask
 size:t.place.size=es.size
 le:∀ x∈t.place.toList,x≤t.mask
 few:es.size*5<t.mask*3
 way:∀ (i:Aj) (e:Am × Ac),es[i]? = Ab e→∃ n,t.place[i]? = Ab (it t.mask n (st t.mask e.1)).j∧Way t (st t.mask e.1) n
 plain:t.plain=true
theorem TabT.fits {t:CK}{es:AB (Am × Ac)}(T:TabT t es):t.fits es.size=true:=by
 have h1:=T.size;have h2:=T.few;have h3:t.fill=es.size:=by unfold Fk;rw[T.tb.dm,h1];rfl
 unfold Mw;rw[h3,h1];rcases T.msk with h|h|h|h|h <;> rw[h] at h2 ⊢ <;> simp <;> omega
theorem TabT.gap {t:CK}{es:AB (Am × Ac)}(T:TabT t es):∃ e,e≤t.mask∧e ∉ t.place.toList:=by
 apply _S.gap;rw[Bb,T.size];have h2:=T.few;rcases T.msk with h|h|h|h|h <;> rw[h] at h2 ⊢ <;> omega
theorem TabT.odd {t:CK}{es:AB (Am × Ac)}(T:TabT t es):t.gaveWay=false:=by
 unfold SetTable.gaveWay;rcases T.msk with h|h|h|h|h <;> rw[h] <;> rfl
theorem TabT.put {t:CK}{es:AB (Am × Ac)}(T:TabT t es){h:Am}{x:Ac}{n:Aj}(w:Way t (st t.mask h) n)(hn:(it t.mask n (st t.mask h)).j ∉ t.place.toList)(hle:(it t.mask n (st t.mask h)).j≤t.mask) :
  let es':=AE es (t.put (it t.mask n (st t.mask h)).j).2 (h,x)
  Tb (t.put (it t.mask n (st t.mask h)).j).1∧(t.put (it t.mask n (st t.mask h)).j).1.place.size=es'.size∧(∀ y∈(t.put (it t.mask n (st t.mask h)).j).1.place.toList,y≤t.mask) ∧
  (∀ (i:Aj) (e:Am × Ac),es'[i]? = Ab e→∃ m,(t.put (it t.mask n (st t.mask h)).j).1.place[i]? = Ab (it t.mask m (st t.mask e.1)).j∧Way (t.put (it t.mask n (st t.mask h)).j).1 (st t.mask e.1) m):=by
 generalize hj:(it t.mask n (st t.mask h)).j=j at *;have pm:∀ y,y∈(t.put j).1.place.toList↔y=j∨y∈t.place.toList:=fun y=>by
  show y∈(AE t.place (AN t.place j) j).toList↔_;rw[(Ef _ _ _).mem_iff];simp[or_comm]
 have hb:AN t.place j≤t.place.size:=(vK T.tb.rs j).le;have wm:∀ {p:Gu} {m:Aj},Way t p m→Way (t.put j).1 p m:=fun {p m} w q hq=>(pm _).mpr (.inr (w q hq));refine⟨BK T.tb hn,?_,fun y hy=>?_,fun i e he=>?_⟩
 ·show (AE t.place _ j).size=(AE es _ (h,x)).size
  rw[yR,yR,T.size]
 ·rcases (pm y).mp hy with rfl|hy
  ·exact hle
  ·exact T.le y hy
 ·have he':(if i<AN t.place j then es[i]? else if i=AN t.place j then Ab (h,x) else es[i-1]?)=Ab e:=by
   rw[← b9 es (by rw[← T.size];exact hb)]
   exact he
  have pl:(t.put j).1.place[i]? = if i<AN t.place j then t.place[i]? else if i=AN t.place j then Ab j else t.place[i-1]?:=b9 t.place hb j i
  rw[pl];by_cases h1:i<AN t.place j
  ·rw[A7 h1] at he' ⊢
   obtain⟨m,q1,q2⟩:=T.way i e he';exact⟨m,q1,wm q2⟩
  ·rw[AD h1] at he' ⊢
   by_cases h2:i=AN t.place j
   ·rw[A7 h2] at he' ⊢
    cases he';exact⟨n,by rw[hj],wm w⟩
   ·rw[AD h2] at he' ⊢
    obtain⟨m,q1,q2⟩:=T.way _ e he';exact⟨m,q1,wm q2⟩
theorem W8 {mask:Aj}(p:Gu)(hp:p.j+p.more≤mask):∀ n,(it mask n p).j+(it mask n p).more≤mask
 |0=>hp
 |n+1=>by
  rw[gF];have ih:=W8 p hp n;unfold adv
  split
  ·show (it mask n p).j+1+((it mask n p).more-1)≤mask
   omega
  ·show (leap mask _ _).1+(Dp mask (leap mask _ _).1-(leap mask _ _).1)≤mask
   have h1:=m5 (fS mask (it mask n p).i (it mask n p).perturb);have h2:=m6 mask (leap mask (it mask n p).i (it mask n p).perturb).1;omega
theorem WW (mask:Aj)(h:Am)(n:Aj):(it mask n (st mask h)).j≤mask:=by
 have h0:bits h % (mask+1)≤mask:=EL (Hc _ (Gk _));have:=W8 (mask:=mask) (st mask h) (by
  show bits h % (mask+1)+(Dp mask (bits h % (mask+1))-bits h % (mask+1))≤mask;have h1:=m5 h0;have h2:=m6 mask (bits h % (mask+1));omega) n
 omega
theorem gU {t:CK}{es:AB (Am × Ac)}(hM:Msk t.mask)(hp:t.plain=true)(h1:t.place.size=es.size)(h2:es.size≤1001)(hf:t.tooFull=true)(hd:t.dummies=#[])(h3:(es.size-1)*5<t.mask*3)(h4:0<es.size) :
  Cp (Dl es.size)≤2048∧∃ t' qO,t.relaid (es.map (·.1)) (Dl es.size)=Ab (t',qO)∧t'.led=t.led∧(qO.filterMap (es[·]?)).toList.Perm es.toList∧TabT t' (qO.filterMap (es[·]?))∧qO.toList.Perm (AR es.size):=by
 have hfill:t.fill=es.size:=by unfold Fk;rw[hd,h1];rfl
 have hful:t.mask*3≤es.size*5:=by
  unfold Jn at hf;rw[hfill] at hf;simpa using hf
 have hcase:(es.size=5∧Cp (Dl es.size)=32)∨(es.size=19∧Cp (Dl es.size)=128)∨(es.size=77∧Cp (Dl es.size)=512)∨(es.size=307∧Cp (Dl es.size)=2048):=by
  rcases hM with h|h|h|h|h <;> rw[h] at hful h3
  ·have:es.size=5:=by omega
   exact .inl ⟨this,by rw[this];decide⟩
  ·have:es.size=19:=by omega
   exact .inr (.inl ⟨this,by rw[this];decide⟩)
  ·have:es.size=77:=by omega
   exact .inr (.inr (.inl ⟨this,by rw[this];decide⟩))
  ·have:es.size=307:=by omega
   exact .inr (.inr (.inr ⟨this,by rw[this];decide⟩))
  ·omega
 have hM':Msk (Cp (Dl es.size)-1):=by
  rcases hcase with⟨_,h⟩|⟨_,h⟩|⟨_,h⟩|⟨_,h⟩ <;> rw[h]
  ·exact .inr (.inl rfl)
  ·exact .inr (.inr (.inl rfl))
  ·exact .inr (.inr (.inr (.inl rfl)))
  ·exact .inr (.inr (.inr (.inr rfl)))
 have hle:(es.map (·.1)).size≤Cp (Dl es.size)-1:=by
  rw[Lx];rcases hcase with⟨h5,h⟩|⟨h5,h⟩|⟨h5,h⟩|⟨h5,h⟩ <;> rw[h,h5] <;> omega
 obtain⟨t',qO,e,l1,l2,L⟩:=aQ hM' (es.map (·.1)) hle t.finger (t.movedTo (Cp (Dl es.size)-1)) t.led t.plain
 have hosz:qO.size=es.size:=by
  have:=L.perm.length_eq;simpa using this
 have hord:∀ i k,qO[i]? = Ab k→k<es.size:=fun i k q=>by
  have:k∈AR (es.map (·.1)).size:=L.perm.mem_iff.mp (A4 (by rw[AJ];exact q))
  simpa using this
 have hfm:(qO.filterMap (es[·]?)).toList=qO.toList.map fun k=>es.toList.getD k (0,.none):=by
  rw[Array.toList_filterMap];have:∀ l:Aa Aj,(∀ k∈l,k<es.size)→l.filterMap (es[·]?)=l.map fun k=>es.toList.getD k (0,.none):=by
   intro l
   induction l with
   |nil=>intro _;rfl
   |cons a l ih =>
    intro hl;have ha:=hl a (by simp)
    rw[Ec,Co,ih fun k hk=>hl k (by simp[hk])]
    rw[Br ha];simp[ha]
  refine this _ fun k hk=>?_;obtain⟨i,hi,q⟩:=Bl.mp hk;exact hord i k (by rw[← AJ,Aq hi,q])
 have hperm:(qO.filterMap (es[·]?)).toList.Perm es.toList:=by
  rw[hfm];have p1:=L.perm.map fun k=>es.toList.getD k (0,CF);refine p1.trans ?_;have e2:(AR (es.map (·.1)).size).map (fun k=>es.toList.getD k (0,CF))=es.toList:=by
   apply OZ
   ·simp
   ·intro i a1 a2
    have a3:i<es.size:=by simpa using a2
    simp[a3]
  rw[e2]
 have hsz:(qO.filterMap (es[·]?)).size=es.size:=by rw[← Bb,hperm.length_eq,Bb]
 have hentry:∀ i,(qO.filterMap (es[·]?))[i]? = (qO[i]?).map fun k=>es.toList.getD k (0,.none):=fun i=>by
  rw[← AJ,hfm,Bh,AJ]
 refine⟨by rcases hcase with⟨_,h⟩|⟨_,h⟩|⟨_,h⟩|⟨_,h⟩ <;> rw[h] <;> decide,t',qO,by rw[UO];exact e,l1,hperm,⟨L.tb,by rw[L.msk];exact hM',by rw[L.size,hsz,Lx],by rw[L.msk];exact L.le,?_,fun i en q=>?_,by rw[l2];exact hp⟩,by have:=L.perm;rwa [Lx] at this⟩
 ·rw[hsz,L.msk]
  rcases hcase with⟨h5,h⟩|⟨h5,h⟩|⟨h5,h⟩|⟨h5,h⟩ <;> rw[h,h5] <;> omega
 ·rw[hentry] at q
  cases hz:qO[i]? with
  |none=>rw[hz] at q;cases q
  |some k =>
   rw[hz] at q;simp only[Pr,Option.some.injEq] at q;have hk:=hord i k hz;have:(es.map (·.1))[k]? = Ab en.1:=by
    rw[Array.getElem?_map,Br hk];rw[← q];simp[hk]
   rw[L.msk];exact L.way i k en.1 hz this
end _S
namespace _S
open PySem
open PySem.SetTable (Probe leap runEnd turns bits)
variable {Q:Ap→Ag→Prop}
def Sup (h0 h:A5):Prop:=∀ b o,h0.get? b=Ab o→h.get? b=Ab o
def isT (prog:A1)(w:AH)(h0:A5)(ks:Aa Am)(v:Ac):Prop:=∃ a,v=.ref a∧HN (Av prog w) h0 ks a
section
variable {prog:A1}{w:AH}{h0:A5}
theorem isT.inj {x y:Aa Am}{v:Ac}(hx:isT prog w h0 x v)(hy:isT prog w h0 y v):x=y:=by
 obtain⟨a,rfl,h1⟩:=hx;obtain⟨b,e,h2⟩:=hy;cases e;exact h1.inj h2
theorem v3 {h:A5}{ks:Aa Am}{a:Ad}(hS:Sup h0 h)(hx:HN (Av prog w) h0 ks a):HN (Av prog w) h ks a:=by
 obtain⟨o,items,n,ho,r⟩:=hx;exact⟨o,items,n,hS _ _ ho,r⟩
variable {A:AG}{E:Ac→Ag→Prop}{s:Ag}
theorem ME {k:Aa Am}{v:Ac}{Q:Am→Ag→Prop}(hu:A.units<CD)(hS:Sup h0 s.heap)(hx:isT prog w h0 k v)(h:Q (AA (Av prog w) k) { s with toks:=s.toks+(k.length+1) }) : Ao (As prog w) A (pyHash v) Q E s:=by
 obtain⟨a,rfl,hx⟩:=hx;exact wpAny_pyHash_tuple hu (v3 hS hx) h
theorem eqT {k k':Aa Am}{v v':Ac}(hu:A.units<CD)(hS:Sup h0 s.heap)(hx:isT prog w h0 k v)(hy:isT prog w h0 k' v')(h:Q (decide (k=k')) s):Ao (As prog w) A (eqBool v v') Q E s:=by
 obtain⟨a,rfl,hx⟩:=hx;obtain⟨b,rfl,hy⟩:=hy;exact wpAny_eqBool_tuple hu (v3 hS hx) (v3 hS hy) h
theorem bF:∀ {ks:Aa Am} {vs:Aa Ac},ItemsAre (Av prog w) ks vs→∀ v∈vs,∃ i t,v=.int i t:=by
 intro ks vs h
 induction h with
 |nil=>intro v hv;simp at hv
 |@cons k v' ks vs h1 _ ih =>
  intro v hv;rcases Aw.mp hv with rfl|hv
  ·cases v <;> first|exact⟨_,_,rfl⟩|exact absurd h1 (by rintro⟨⟩)
  ·exact ih v hv
theorem L5 {k:Aa Am}{v:Ac}(hS:Sup h0 s.heap)(hx:isT prog w h0 k v)(h:Q true s):Ao (As prog w) A (IB 8 v) Q E s:=by
 obtain⟨a,rfl,hx⟩:=hx;have hx:=v3 hS hx;have hT:=hx.typeIs;obtain⟨o,items,n,ho,_,hd,hi⟩:=hx;unfold IB;refine Af (H9 hT F.slot_tuple_hash.lookup ?_);show Ao _ _ (Rh (.ref a) >>= _) Q E s;refine Af (Dk ho hd ?_);refine Af ?_;show Ao _ _ (forIn items _ _) _ _ s;rw[← Nv];refine Jo _ (fun rest r s'=>r.1=none∧s'=s∧∀ v∈rest,∃ i t,v=.int i t) _ ?_ ?_ _ _ ⟨rfl,rfl,bF hi⟩
 ·rintro v rest r s' ⟨hr,rfl,hall⟩
  obtain⟨i,t,rfl⟩:=hall v Ba;show Ao _ _ (IB 7 (.int i t) >>= _) _ _ _;rw[show IB 7 (.int i t)=pure true from rfl]
  refine Af (Al ?_);simp only[Fl,AC,Bu];exact Al ⟨rfl,rfl,fun u hu'=>hall u (AM _ hu')⟩
 ·rintro⟨r1,r2⟩ s' ⟨hr,rfl,_⟩
  simp only at hr;subst hr;exact Al h
theorem cP {k:Aa Am}{v:Ac}(hS:Sup h0 s.heap)(hx:isT prog w h0 k v)(h:Q false s):Ao (As prog w) A (Gv 8 v) Q E s:=by
 obtain⟨a,rfl,hx⟩:=hx;have hx:=v3 hS hx;have hT:=hx.typeIs;obtain⟨o,items,n,ho,_,hd,hi⟩:=hx;unfold Gv;refine Af (Gi hT ?_);dsimp only;refine Af (Al ?_);simp only[Fl,AC,Bu];refine Af (Dk ho hd ?_);refine Af ?_;show Ao _ _ (forIn items _ _) _ _ s;rw[← Nv];refine Jo _ (fun rest r s'=>r.1=none∧s'=s∧∀ v∈rest,∃ i t,v=.int i t) _ ?_ ?_ _ _ ⟨rfl,rfl,bF hi⟩
 ·rintro v rest r s' ⟨hr,rfl,hall⟩
  obtain⟨i,t,rfl⟩:=hall v Ba;show Ao _ _ (Gv 7 (.int i t) >>= _) _ _ _;rw[show Gv 7 (.int i t)=pure false from rfl]
  refine Af (Al ?_);simp only[AC,Bu];exact Al ⟨rfl,rfl,fun u hu'=>hall u (AM _ hu')⟩
 ·rintro⟨r1,r2⟩ s' ⟨hr,rfl,_⟩
  simp only at hr;subst hr;exact Al h
theorem iX {k:Aa Am}{v:Ac}(hS:Sup h0 s.heap)(hx:isT prog w h0 k v)(h:Q true s):Ao (As prog w) A (eqIsQuiet 8 v) Q E s:=by
 obtain⟨a,rfl,hx⟩:=hx;exact wpAny_eqIsQuiet_tuple (v3 hS hx) h
theorem eL {α:Type}{c:Prop}[Go c]{M:He}{t u:Hs α}{Q:α→Ag→Prop}(h1:c→Ao M A t Q E s)(h2:¬ c→Ao M A u Q E s):Ao M A (if c then t else u) Q E s:=by
 by_cases h:c
 ·rw[A7 h];exact h1 h
 ·rw[AD h];exact h2 h
theorem N3 {k:Aa Am}{x:Ac}{ys:Aa Ac}(hS:Sup h0 s.heap)(hx:isT prog w h0 k x)(hy:∀ y∈ys,∃ k',isT prog w h0 k' y)(h:Q false s):Ao (As prog w) A (OC x ys) Q E s:=by
 unfold OC;refine Af ?_;refine Jo _ (fun rest r s'=>r.1=none∧s'=s∧∀ v∈rest,∃ k',isT prog w h0 k' v) _ ?_ ?_ _ _ ⟨rfl,rfl,hy⟩
 ·rintro v rest r s' ⟨hr,rfl,hall⟩
  obtain⟨k',hv⟩:=hall v Ba;have hrest:∀ u∈rest,∃ k',isT prog w h0 k' u:=fun u hu'=>hall u (AM _ hu');dsimp only;refine eL (fun _=>Al ⟨rfl,rfl,hrest⟩) fun _=>?_
  ·refine Af (iX hS hx ?_)
   simp only[Fl,AC,Bu];refine Af (iX hS hv ?_);simp only[Fl,AC,Bu];refine Af (cP hS hx ?_);simp only[AC,Bu];refine Af (cP hS hv ?_);simp only[AC,Bu];exact Al ⟨rfl,rfl,hrest⟩
 ·rintro⟨r1,r2⟩ s' ⟨hr,rfl,_⟩
  simp only at hr;subst hr;exact Al h
theorem N2 {k:Aa Am}{v:Ac}(hx:isT prog w h0 k v)(h:Q true s):Ao (As prog w) A (isSame v v) Q E s:=by
 obtain⟨a,rfl,hx⟩:=hx;unfold isSame;simp only[CW,Bv];exact Al h
theorem W5 {k:Aa Am}{x:Ac}{S:Ad}{o:AU}{es:AB (Am × Ac)}{ep:Aj}{t:CK}{seen:Aa (Aa Am)}(hu:A.units<CD)(hS:Sup h0 s.heap)(ho:s.heap.get? S=Ab o)(hd:o.data=.set es ep t)
  (T:TabT t es) (Z:Set0 (isT prog w h0) (AA (Av prog w)) es seen) (hx:isT prog w h0 k x) (N:Aj) (hNw:Way t (st t.mask (AA (Av prog w) k)) N)
  (hNe:(it t.mask N (st t.mask (AA (Av prog w) k))).j ∉ t.place.toList) (hNf:N<10*turns t.mask) {Q:SetFound→Ag→Prop}
  (h1:k∈seen→Q (.there none) s) (h2:k ∉ seen→Q (.free (it t.mask N (st t.mask (AA (Av prog w) k))).j false) s) :
  ∀ (fuel n:Aj) (stand:Ak Gu),stand.getD (t.probeStart (AA (Av prog w) k))=it t.mask n (st t.mask (AA (Av prog w) k))→n≤N→N-n<fuel →
   (∀ (m i:Aj) (e:Am × Ac),m<n→t.place[i]? = Ab (it t.mask m (st t.mask (AA (Av prog w) k))).j→es[i]? = Ab e→¬ isT prog w h0 k e.2) →
   Ao (As prog w) A (IQ S x (AA (Av prog w) k) true fuel stand) Q E s
 |0,n,stand,_,_,hf,_=>by omega
 |fuel+1,n,stand,hst,hn,hf,hq=>by
  unfold IQ;refine Af (CO ho hd T.fits ?_);dsimp only;rw[T.odd];simp only[AC,Bu];rw[hst];generalize hg:t.probe _ (AA (Av prog w) k) (it t.mask n (st t.mask (AA (Av prog w) k)))=r;obtain⟨H,hH,hg⟩:∃ H:Aj→Am,(∀ i,H i=(es[i]?.map (·.1)).getD 0)∧t.probe H (AA (Av prog w) k) (it t.mask n (st t.mask (AA (Av prog w) k)))=r:=⟨_,fun i=>rfl,hg⟩
  have itn:∀ m,it t.mask m (it t.mask n (st t.mask (AA (Av prog w) k)))=it t.mask (n+m) (st t.mask (AA (Av prog w) k)):=fun m=>(bE _ _ _ _).symm;have gm:Meets t H (AA (Av prog w) k) (it t.mask n (st t.mask (AA (Av prog w) k))) (10*turns t.mask) r:=by
   rw[← hg];refine jF T.tb H _ _ _ (by rw[pH];rfl) ⟨N-n,by omega,?_⟩
   rw[itn,show n+(N-n)=N by omega]
   exact hNe
  have miss:∀ j:Aj,(∀ m i:Aj,m<j→t.place[i]? = Ab (it t.mask m (it t.mask n (st t.mask (AA (Av prog w) k)))).j→H i≠AA (Av prog w) k) →
    ∀ (m i:Aj) (e:Am × Ac),m<n+j→t.place[i]? = Ab (it t.mask m (st t.mask (AA (Av prog w) k))).j→es[i]? = Ab e→¬ isT prog w h0 k e.2:=fun j qj m i e hm ei ee hk=>by
   by_cases hmn:m<n
   ·exact hq m i e hmn ei ee hk
   ·refine qj (m-n) i (by omega) (by rw[itn,show n+(m-n)=m by omega];exact ei) ?_
    rw[hH,ee];obtain⟨k',e1,e2⟩:=Z.good e (A4 (by rw[AJ];exact ee))
    rw[isT.inj hk e2];simpa using e1
  cases gm with
  |emp j hj w' e' q =>
   rw[itn] at e';have hjN:n+j=N:=by
    rcases IR (n+j) N with h|h|h
    ·exact absurd (hNw _ h) e'
    ·exact h
    ·have:=w' (N-n) (by omega)
     rw[itn,show n+(N-n)=N by omega] at this
     exact absurd this hNe
   dsimp only;rw[itn,hjN];refine Al (h2 fun hk=>?_);obtain⟨e,he,hke⟩:=(Z.mem k).mp hk;obtain⟨i,hi,ei⟩:=Bl.mp he;have ei':es[i]? = Ab e:=by rw[← AJ,Aq hi,ei]
   obtain⟨m,w1,w2⟩:=T.way i e ei';obtain⟨k',g1,g2⟩:=Z.good e he;have:=isT.inj hke g2;subst this;rw[g1] at w1 w2;have hmN:m<N:=by
    apply CJ;intro hc;by_cases hmN:m=N
    ·subst hmN
     exact hNe (A4 (by rw[AJ];exact w1))
    ·exact hNe (w2 N (by omega))
   exact miss j q m i e (by omega) w1 ei' hke
  |cand j i hj w' e' hh q =>
   rw[itn] at e';have hi:i<es.size:=by
    rw[← T.size];exact(Bi.mp e').1
   have ei:es[i]? = Ab es[i]:=Br hi;have hjN:n+j<N:=by
    rcases IR (n+j) N with h|h|h
    ·exact h
    ·rw[h] at e'
     exact absurd (A4 (by rw[AJ];exact e')) hNe
    ·have:=w' (N-n) (by omega)
     rw[itn,show n+(N-n)=N by omega] at this
     exact absurd this hNe
   obtain⟨k',g1,g2⟩:=Z.good es[i] (by simp)
   dsimp only;have main:Ao (As prog w) A (do
     let Ab (_,y):=es[i]?|unsupported "internal:set-entry"
     let equal ← holding [y] (eqBool y x)
     let (es',_,t') ← Nk S
     if true&&equal then return .there none
     let Ab same:=t'.sameMemory t.moves t.mask|unsupported "set.changed-during-lookup:is-the-new-block-at-the-old-address"
     let still ← match (if same then t'.slot (it t.mask j (it t.mask n (st t.mask (AA (Av prog w) k)))).j else .empty) with
      |.live i'=>match es'[i']? with
       |some (_,y')=>do pure (if ← isSame y' y then Ab i' else none)
       |none=>pure none
      |_=>pure none
     match still with
     |none=>rule "set.search.anew";IQ S x (AA (Av prog w) k) true fuel none
     |some i'=>if equal then return .there (Ab i') else IQ S x (AA (Av prog w) k) true fuel (Ab (it t.mask (j+1) (it t.mask n (st t.mask (AA (Av prog w) k)))))) Q E s:=by
    rw[ei];dsimp only;refine Af (Bc (eqT hu hS g2 hx ?_));refine Af (CO ho hd T.fits ?_);by_cases hkk:k'=k
    ·subst hkk
     simp only[Pa,Bool.and_self,Bv];exact Al (h1 ((Z.mem k').mpr ⟨es[i],by simp,g2⟩))
    ·simp only[hkk,decide_false,Lv,AC,Bu]
     have hm:t.sameMemory t.moves t.mask=Ab true:=by simp[SetTable.sameMemory]
     rw[hm];dsimp only;rw[itn,tG T.tb e'];simp only[Bv,ei];refine Af (N2 g2 ?_);simp only[Bv];refine Af (Al ?_);dsimp only;refine W5 hu hS ho hd T Z hx N hNw hNe hNf h1 h2 fuel (n+j+1) _ ?_ (by omega) (by omega) fun m i' e hm ei' ee hk=>?_
     ·rw[Hm,itn]
      rfl
     ·by_cases hmj:m<n+j
      ·exact miss j q m i' e hmj ei' ee hk
      ·have:m=n+j:=by omega
       subst this;have:=o7 T.tb.rs ei' e';subst this;rw[ei] at ee;cases ee;exact hkk (isT.inj g2 hk)
   refine eL (fun _=>?_) fun _=>?_
   ·refine Af (N3 hS hx (fun y hy=>?_) ?_)
    ·obtain⟨e,he,rfl⟩:=Cc.mp hy
     have:e∈es.toList:=by
      have:=(Hu.mp he);exact Hu.mpr (Array.mem_filter.mp this).1
     obtain⟨k2,_,g⟩:=Z.good e this;exact⟨k2,g⟩
    ·simp only[AC,Bu]
     exact main
   ·exact main
end
end _S
namespace _S
open PySem
open PySem.SetTable (Probe leap runEnd turns bits)
@[reducible] def setO (es:AB (Am × Ac))(ep:Aj)(t:CK):AU:={ cls:=.type "set",dict:=none,data:=.set es ep t }
theorem gM {h:A5}{S:Ad}{es es':AB (Am × Ac)}{ep:Aj}{t t':CK}(ho:h.get? S=Ab (setO es ep t)):(h.update S (Qj es' t')).get? S=Ab (setO es' (ep+1) t'):=CN _ ho rfl
structure SetK {K:Type}(is:K→Ac→Prop)(hash:K→Am)(S:Ad)(led:Ap)(V:Aa Ac)(seen:Aa K)(h:A5):Prop where
 ex:∃ es ep t,h.get? S=Ab (setO es ep t)∧Set0 is hash es seen∧TabT t es∧t.led=led∧∀ e∈es.toList,e.2∈V
section
variable {prog:A1}{w:AH}{h0:A5}{A:AG}{E:Ac→Ag→Prop}{s:Ag}{S:Ad}{led:Ap}{V:Aa Ac}
theorem X6 (a:Ad)(wanted:Aj):setRelay a wanted=(do
  let (es,_,t) ← Nk a
  if Cp wanted>sizeLine then unsupported "set:memory"
  let (es,t) ← (do
   let Ab (t,qO):=t.relaid (es.map (·.1)) wanted|unsupported "internal:set-table-without-room"
   let es':=qO.filterMap (es[·]?)
   if es'.size != es.size then unsupported "internal:set-table-lost-an-element"
   pure (es',t))
  storeSet a es t):=rfl
theorem L0 {seen:Aa (Aa Am)}{k:Aa Am}{x:Ac}{Q:Ap→Ag→Prop}(hu:A.units<CD)(hS:Sup h0 s.heap)(Z:SetK (isT prog w h0) (AA (Av prog w)) S led V seen s.heap)(hx:isT prog w h0 k x)(hV:x∈V){U:Aa (Aa Am)}(hU:U.length≤1000)(hU1:∀ k'∈seen,k'∈U)(hU2:k∈U)
  (h:∀ (b:Ap) (h':A5) (tk:Aj),s.toks≤tk→Di S s.heap h'→SetK (isT prog w h0) (AA (Av prog w)) S led V (k::seen) h'→Q b { s with heap:=h',toks:=tk }) : Ao (As prog w) A (Pb S x) Q E s:=by
 obtain⟨es,ep,t,ho,Z,T,hl,hm⟩:=Z;unfold Pb;refine Bc (Af (ME hu hS hx ?_));unfold setAddHashed setAddHashedIn;refine Bc (Af (CO (s:={ s with toks:=s.toks+(k.length+1) }) ho rfl T.fits ?_))
 dsimp only;have hsc:byScan x es=false:=by
  obtain⟨a,rfl,_⟩:=hx;rfl
 rw[hsc];simp only[AC,Bu];obtain⟨e,he,hne⟩:=T.gap;have first:∃ N,Way t (st t.mask (AA (Av prog w) k)) N∧(it t.mask N (st t.mask (AA (Av prog w) k))).j ∉ t.place.toList∧N<10*turns t.mask:=by
  obtain⟨N,hN,eN⟩:=lF T.msk (AA (Av prog w) k) he;have gm:=jF T.tb (fun _=>AA (Av prog w) k+1) (AA (Av prog w) k) (10*turns t.mask) (st t.mask (AA (Av prog w) k)) rfl ⟨N,hN,by rw[eN];exact hne⟩
  generalize EM t _ _ _ _=r at gm;cases gm with
  |emp j hj w' e' q=>exact⟨j,w',e',hj⟩
  |cand j i hj w' e' hh q=>exact absurd hh (by omega)
 obtain⟨N,hNw,hNe,hNf⟩:=first
 have hNt:N<100000:=by
  have:turns t.mask≤2200:=by
   unfold turns;rcases T.msk with h|h|h|h|h <;> rw[h] <;> omega
  omega
 refine Af (W5 (s:={ s with toks:=s.toks+(k.length+1) }) hu hS ho rfl T Z hx N hNw hNe hNf (fun hk=>?_) (fun hk=>?_) 100000 0 none rfl (by omega) (by omega) fun m i e hm=>by omega)
 ·exact Al (h _ s.heap _ (by omega) (Gs _ _) ⟨es,ep,t,ho,Z.again hk,T,hl,hm⟩)
 ·have hle:es.size<1000:=Ax (Z.few hU1 hU2 hk) hU
  dsimp only;refine Af (CO (s:={ s with toks:=s.toks+(k.length+1) }) ho rfl T.fits ?_)
  obtain⟨p1,p2,p3,p4⟩:=T.put (h:=AA (Av prog w) k) (x:=x) hNw hNe (WW _ _ _);generalize hj:(it t.mask N (st t.mask (AA (Av prog w) k))).j=j at *;have m1:(t.put j).1.mask=t.mask:=rfl;have m2:(t.put j).1.plain=true:=T.plain;have m3:(t.put j).1.led=led:=hl;generalize hp:t.put j=tp at *;obtain⟨t1,p⟩:=tp;dsimp only at p1 p2 p3 p4 m1 m2 m3 ⊢;rw[m2];simp only[Bv];refine Af (L5 (s:={ s with toks:=s.toks+(k.length+1) }) hS hx ?_)
  simp only[Bv,Qo,Bool.true_and];have hsz:(AE es p (AA (Av prog w) k,x)).size=es.size+1:=yR _ _ _;have hline:es.size+1≤sizeLine:=by rw[Ct];omega
  refine Af (Gw (s:={ s with toks:=s.toks+(k.length+1) }) ho rfl ?_ (by rw[hsz];exact hline))
  have Z1:Set0 (isT prog w h0) (AA (Av prog w)) (AE es p (AA (Av prog w) k,x)) (k::seen):=by
   refine Z.push (fun a b=>isT.inj a b) hx hk ?_;have:=Ef es p (AA (Av prog w) k,x);rw[Eb] at this;exact this
  have hm1:∀ e∈(AE es p (AA (Av prog w) k,x)).toList,e.2∈V:=fun e he=>by
   have:=(Ef es p (AA (Av prog w) k,x)).mem_iff.mp he;rw[Eb] at this;rcases Bs.mp this with h1|h1
   ·exact hm e h1
   ·simp at h1;subst h1;exact hV
  have ho1:=gM (es':=AE es p (AA (Av prog w) k,x)) (t':=t1) ho;have sb1:=Do s.heap S (Qj (AE es p (AA (Av prog w) k,x)) t1);have hfit:t1.fits (AE es p (AA (Av prog w) k,x)).size=true:=by
   have h3:t1.fill=es.size+1:=by unfold Fk;rw[p1.dm,p2,hsz];rfl
   have h2:=T.few;unfold Mw;rw[h3,p2,hsz,m1];rcases T.msk with h|h|h|h|h <;> rw[h] at h2 ⊢ <;> simp <;> omega
  refine eL (fun hf=>?_) fun hf=>?_
  ·have hM1:Msk t1.mask:=by rw[m1];exact T.msk
   have h3:((AE es p (AA (Av prog w) k,x)).size-1)*5<t1.mask*3:=by rw[hsz,m1];exact T.few
   obtain⟨q1,t2,qO,q2,q3,q4,q5,_⟩:=gU hM1 m2 p2 (by rw[hsz];omega) (by simpa using hf) p1.dm h3 (by rw[hsz];omega)
   rw[hsz] at q1 q2;rw[X6];refine Af ?_;refine Af (CO (s:={ s with heap:=_,toks:=s.toks+(k.length+1) }) ho1 rfl hfit ?_)
   dsimp only;rw[AD (by rw[Ct];omega)]
   refine Af ?_;rw[q2];dsimp only;have hs2:(qO.filterMap fun x_1=>(AE es p (AA (Av prog w) k,x))[x_1]?).size=es.size+1:=by rw[← Bb,q4.length_eq,Bb,hsz]
   rw[AD (by rw[hs2,hsz];simp)]
   refine Al ?_;refine Gw (s:={ s with heap:=_,toks:=s.toks+(k.length+1) }) ho1 rfl ?_ (by rw[hs2];exact hline)
   refine Al (h _ _ _ (E7 _ _) (sb1.trans (Do _ S _)) ⟨_,_,t2,gM ho1,Z1.perm q4,q5,by rw[q3];exact m3,fun e he=>hm1 e (q4.mem_iff.mp he)⟩)
  ·refine Al (h _ _ _ (E7 _ _) sb1 ⟨_,_,t1,ho1,Z1,⟨p1,by rw[m1];exact T.msk,p2,by rw[m1];exact p3,?_,by rw[m1];exact p4,m2⟩,m3,hm1⟩)
   have h3:t1.fill=es.size+1:=by unfold Fk;rw[p1.dm,p2,hsz];rfl
   unfold Jn at hf;rw[h3] at hf;rw[hsz];simpa using hf
end
end _S
namespace _S
open PySem
open PySem.SetTable (Probe leap runEnd turns bits)
variable {seen:Aa Am}
def isI (prog:A1)(w:AH)(k:Am)(v:Ac):Prop:=(Av prog w).is k v=true
section
variable {prog:A1}{w:AH}{A:AG}{E:Ac→Ag→Prop}{s:Ag}{S:Ad}{led:Ap}{V:Aa Ac}
set_option tactic.hygienic true in
theorem xP {k:Am}{v:Ac}(h:isI prog w k v):∃ t,v=.int k t:=by
 cases v <;> first|(exact absurd h (by rintro⟨⟩)) | skip
 rename_i i t;refine⟨t,?_⟩;have:i=k:=(Av prog w).inj (.int i t) i k (Mx _ _ _ _) h;rw[this]
theorem l0 {es:AB (Am × Ac)}(Z:Set0 (isI prog w) (Av prog w).hash es seen):ElemsOf (Av prog w) es.toList:=fun e he=>by
 obtain⟨k,h1,h2⟩:=Z.good e he;refine⟨⟨k,h2,h1⟩,?_⟩;obtain⟨t,q⟩:=xP h2;rw[q];rfl
theorem NZ {k:Am}{x:Ac}{Q:Ap→Ag→Prop}(Z:SetK (isI prog w) (Av prog w).hash S led V seen s.heap)(hx:isI prog w k x)(hV:x∈V){U:Aa Am}(hU:U.length≤1000)(hU1:∀ k'∈seen,k'∈U)(hU2:k∈U)
  (h:∀ (b:Ap) (h':A5) (tk:Aj),s.toks≤tk→Di S s.heap h'→SetK (isI prog w) (Av prog w).hash S led V (k::seen) h'→Q b { s with heap:=h',toks:=tk }) : Ao (As prog w) A (Pb S x) Q E s:=by
 obtain⟨es,ep,t,ho,Z,T,hl,hm⟩:=Z;have hsc:x.scannable=true:=by
  obtain⟨tk,q⟩:=xP hx;rw[q];rfl
 have hf:=T.fits;have hb:es.size<scanBound:=by
  have h1:=T.few;have:scanBound=4096:=rfl;rcases T.msk with h|h|h|h|h <;> rw[h] at h1 <;> omega
 unfold Pb;refine Bc (Af ((Av prog w).pyHash (k:=k) hx ?_));unfold setAddHashed setAddHashedIn;refine Bc (Af (CO (s:={ s with toks:=s.toks+1 }) ho rfl hf ?_))
 dsimp only;rw[byScan_of hsc hb (l0 Z)];simp only[Bv];unfold setAddByScan;refine Af (Af (Gy (Af (wpAny_setScan_of (s:={ s with toks:=s.toks+1 }) hx ho rfl hf (l0 Z) ?_))))
 cases hr:es.toList.findIdx? (fun e=>(Av prog w).is k e.2) with
 |some j =>
  dsimp only;obtain⟨hj,hpj,_⟩:=List.findIdx?_eq_some_iff_getElem.mp hr;have hk:k∈seen:=(Z.mem k).mpr ⟨es.toList[j],Fa hj,hpj⟩;exact Al (Al (h _ s.heap _ (E7 _ _) (Gs _ _) ⟨es,ep,t,ho,Z.again hk,T,hl,hm⟩))
 |none =>
  dsimp only;have hk:k ∉ seen:=fun hk=>by
   obtain⟨e,he,q⟩:=(Z.mem k).mp hk;have:=List.findIdx?_eq_none_iff.mp hr e he;rw[show (Av prog w).is k e.2=true from q] at this
   cases this
  have hle:es.size<1000:=Ax (Z.few hU1 hU2 hk) hU;obtain⟨e,he,hne⟩:=T.gap;have first:∃ N,Way t (st t.mask ((Av prog w).hash k)) N∧(it t.mask N (st t.mask ((Av prog w).hash k))).j ∉ t.place.toList∧t.freeSlot ((Av prog w).hash k)=Ab ((it t.mask N (st t.mask ((Av prog w).hash k))).j,false):=by
   obtain⟨N,hN,eN⟩:=lF T.msk ((Av prog w).hash k) he;have gm:=jF T.tb (fun _=>(Av prog w).hash k+1) ((Av prog w).hash k) (10*turns t.mask) (st t.mask ((Av prog w).hash k)) rfl ⟨N,hN,by rw[eN];exact hne⟩
   unfold SetTable.freeSlot SetTable.probe;rw[N7];generalize EM t _ _ _ _=r at gm;cases gm with
   |emp j hj w' e' q=>exact⟨j,w',e',rfl⟩
   |cand j i hj w' e' hh q=>exact absurd hh (by omega)
  obtain⟨N,hNw,hNe,hfs⟩:=first
  obtain⟨p1,p2,p3,p4⟩:=T.put (h:=(Av prog w).hash k) (x:=x) hNw hNe (WW _ _ _);generalize hj:(it t.mask N (st t.mask ((Av prog w).hash k))).j=j at *;have m1:(t.put j).1.mask=t.mask:=rfl;have m2:(t.put j).1.plain=true:=T.plain;have m3:(t.put j).1.led=led:=hl;generalize hp:t.put j=tp at *;obtain⟨t1,p⟩:=tp;dsimp only at p1 p2 p3 p4 m1 m2 m3 ⊢;have hsz:(AE es p ((Av prog w).hash k,x)).size=es.size+1:=yR _ _ _;have hfit:t1.fits (AE es p ((Av prog w).hash k,x)).size=true:=by
   have h3:t1.fill=es.size+1:=by unfold Fk;rw[p1.dm,p2,hsz];rfl
   have h2:=T.few;unfold Mw;rw[h3,p2,hsz,m1];rcases T.msk with h|h|h|h|h <;> rw[h] at h2 ⊢ <;> simp <;> omega
  have lay:layNew t es ((Av prog w).hash k) x=(AE es p ((Av prog w).hash k,x),t1,false,false):=by
   unfold layNew;rw[hfs];dsimp only;rw[hp];dsimp only;unfold SetTable.orStandIn;rw[hfit];rfl
  rw[lay];dsimp only;refine Af (Al (a:=()) ?_);have hbv:IB 8 x=pure true:=by
   rw[hashByValue_scannable 8 hsc];obtain⟨tk,q⟩:=xP hx;subst q;rfl
  rw[hbv,ite_self];refine Af (Al ?_);simp only[Bv];have hline:es.size+1≤sizeLine:=by rw[Ct];omega
  refine Af (Gw (s:={ s with toks:=s.toks+1 }) ho rfl ?_ (by rw[hsz];exact hline))
  have pm:(AE es p ((Av prog w).hash k,x)).toList.Perm (es.toList++[((Av prog w).hash k,x)]):=by
   have:=Ef es p ((Av prog w).hash k,x);rw[Eb] at this;exact this
  have Z1:Set0 (isI prog w) (Av prog w).hash (AE es p ((Av prog w).hash k,x)) (k::seen):=Z.push (fun a b=>(Av prog w).inj _ _ _ a b) hx hk pm;have hm1:∀ e∈(AE es p ((Av prog w).hash k,x)).toList,e.2∈V:=fun e he=>by
   rcases Bs.mp (pm.mem_iff.mp he) with h1|h1
   ·exact hm e h1
   ·simp at h1;subst h1;exact hV
  have ho1:=gM (es':=AE es p ((Av prog w).hash k,x)) (t':=t1) ho;have sb1:=Do s.heap S (Qj (AE es p ((Av prog w).hash k,x)) t1);refine eL (fun hf=>?_) fun hf=>?_
  ·have hM1:Msk t1.mask:=by rw[m1];exact T.msk
   have h3:((AE es p ((Av prog w).hash k,x)).size-1)*5<t1.mask*3:=by rw[hsz,m1];exact T.few
   obtain⟨q1,t2,qO,q2,q3,q4,q5,q6⟩:=gU hM1 m2 p2 (by rw[hsz];omega) (by simpa using hf) p1.dm h3 (by rw[hsz];omega)
   have hs2:(qO.filterMap fun x_1=>(AE es p ((Av prog w).hash k,x))[x_1]?).size=es.size+1:=by rw[← Bb,q4.length_eq,Bb,hsz]
   have rl:relayAll t1 (AE es p ((Av prog w).hash k,x)) (Dl (AE es p ((Av prog w).hash k,x)).size)=(qO.filterMap fun x_1=>(AE es p ((Av prog w).hash k,x))[x_1]?,t2,false):=by
    unfold relayAll;rw[q2];dsimp only;have c1:coversAll qO (AE es p ((Av prog w).hash k,x)).size=true:=by
     unfold coversAll;exact List.isPerm_iff.mpr q6
    rw[c1,q5.fits];rfl
   rw[rl];dsimp only;refine Af (Al (a:=()) ?_);refine Af (Gw (s:={ s with heap:=_,toks:=s.toks+1 }) ho1 rfl ?_ (by rw[hs2];exact hline))
   exact Al (Al (h _ _ _ (E7 _ _) (sb1.trans (Do _ S _)) ⟨_,_,t2,gM ho1,Z1.perm q4,q5,by rw[q3];exact m3,fun e he=>hm1 e (q4.mem_iff.mp he)⟩))
  ·refine Al (Al (h _ _ _ (E7 _ _) sb1 ⟨_,_,t1,ho1,Z1,⟨p1,by rw[m1];exact T.msk,p2,by rw[m1];exact p3,?_,by rw[m1];exact p4,m2⟩,m3,hm1⟩))
   have h3:t1.fill=es.size+1:=by unfold Fk;rw[p1.dm,p2,hsz];rfl
   unfold Jn at hf;rw[h3] at hf;rw[hsz];simpa using hf
end
end _S
namespace _S
open PySem
variable {Q:Ac→Ag→Prop}{i:Aj}
structure AddS (prog:A1)(w:AH){K:Type}(is:K→Ac→Prop)(hash:K→Am)(h0:A5):Prop where
 add:∀ {A:AG} {E:Ac→Ag→Prop} {s:Ag} {S:Ad} {led:Ap} {V:Aa Ac} {seen U:Aa K} {k:K} {x:Ac} {Q:Ap→Ag→Prop},A.units<CD→Sup h0 s.heap→SetK is hash S led V seen s.heap→is k x→x∈V→U.length≤1000→(∀ k'∈seen,k'∈U)→k∈U →
  (∀ (b:Ap) (h':A5) (tk:Aj),s.toks≤tk→Di S s.heap h'→SetK is hash S led V (k::seen) h'→Q b { s with heap:=h',toks:=tk }) → Ao (As prog w) A (Pb S x) Q E s
theorem JH {prog:A1}{w:AH}(h0:A5):AddS prog w (isT prog w h0) (AA (Av prog w)) h0:=⟨fun hu hS Z hx hV h1 h2 h3 h=>L0 hu hS Z hx hV h1 h2 h3 h⟩
theorem JG {prog:A1}{w:AH}(h0:A5):AddS prog w (isI prog w) (Av prog w).hash h0:=⟨fun _ _ Z hx hV h1 h2 h3 h=>NZ Z hx hV h1 h2 h3 h⟩
def xY {K:Type}(key:Aj→K):Aj→Aa K
 |0=>[]
 |i+1=>key i::xY key i
theorem uE {K:Type}{key:Aj→K}{k:K}:∀ {n:Aj},k∈xY key n↔∃ i,i<n∧key i=k
 |0=>by simp[xY]
 |n+1=>by
  rw[xY,Aw,uE];constructor
  ·rintro (rfl|⟨i,h,e⟩)
   ·exact⟨n,by omega,rfl⟩
   ·exact⟨i,by omega,e⟩
  ·rintro⟨i,h,e⟩
   by_cases hi:i=n
   ·subst hi;exact .inl e.symm
   ·exact .inr ⟨i,by omega,e⟩
section
variable {prog:A1}{w:AH}{A:AG}{R:OO→Ag→Prop}{I:Ad}{fp wr:Aa Ad}{G:AB Pl→AB Pl→Prop}{n:Aj}{P:Aj→Ac→Prop}{St:Aj→Ag→Prop}
variable {K:Type}{is:K→Ac→Prop}{hash:K→Am}{h0:A5}{led:Ap}{V:Aa Ac}{U:Aa K}
theorem SetK.sup {S:Ad}{seen:Aa K}{h h':A5}(Z:SetK is hash S led V seen h)(e:∀ o,h.get? S=Ab o→h'.get? S=Ab o):SetK is hash S led V seen h':=by
 obtain⟨es,ep,t,ho,r⟩:=Z;exact⟨es,ep,t,e _ ho,r⟩
theorem rB (a:AddS prog w is hash h0)(W:WalksS prog w A.in1 I fp wr G n P St)(S:Ad)(hSf:S ∉ fp)(hu:A.in1.units<CD)(key:Aj→K)(hkey:∀ i v,P i v→is (key i) v∧v∈V)(hU:U.length≤1000)(hUk:∀ i,i<n→key i∈U)
  (hS0:h0.get? S=none) (hw0:∀ b∈wr,h0.get? b=none):∀ (k i:Aj) (s:Ag),n-i=k→i≤n→St i s→Sup h0 s.heap→SetK is hash S led V (xY key i) s.heap →
   (∀ s',Moved (S::wr) G s s'→SetK is hash S led V (xY key n) s'.heap→R (.ok (.ret .none)) s')→Eu (As prog w) A (.builtin "set.update.loop" ⟨[.ref S,.ref I],[]⟩) R s:=by
 have hSw:S ∉ wr:=fun h=>hSf (W.sub _ h);have hsub:∀ b∈wr,b∈S::wr:=fun b hb=>AM _ hb;intro k
 induction k with
 |zero =>
  intro i s hk hi hst hS Z hR;have hin:i=n:=by omega
  subst hin;refine Dy Fv ?_;rw[Ez Eh _];show Ao _ A.in1 (Hg (.ref I) >>= _) _ _ s;refine Af (W.done s _ _ hst fun s' hm=>?_);exact Al (hR s' (hm.mono hsub) (Z.sup fun o e=>hm.heap S _ hSw e))
 |succ k ih =>
  intro i s hk hi hst hS Z hR;have hlt:i<n:=by omega
  refine Dy Fv ?_;rw[Ez Eh _];show Ao _ A.in1 (Hg (.ref I) >>= _) _ _ s;refine Af (W.item i s _ _ hlt hst fun v s' hP hst' hm=>?_);obtain⟨q1,q2⟩:=hkey i v hP;have hS':Sup h0 s'.heap:=fun b o e=>hm.heap b o (fun hb=>by rw[hw0 b hb] at e;cases e) (hS b o e)
  show Ao _ A.in1 (holding [v] (Pb S v) >>= _) _ _ s';refine Af (Bc (a.add hu hS' (Z.sup fun o e=>hm.heap S _ hSw e) q1 q2 hU (fun k' hk'=>?_) (hUk i hlt) fun b h' tk htk hsb Z'=>?_))
  ·obtain⟨j,hj,e⟩:=uE.mp hk'
   exact e▸hUk j (by omega)
  ·refine Al ⟨IS Eh _,ih (i+1) _ (by omega) hlt (W.frame _ s' _ _ hst' htk fun b hb o e=>?_) (fun b o e=>?_) Z' fun s'' hm'' Z''=>?_⟩
   ·rw[hsb.2 b (fun h:b=S=>hSf (by rw[← h];exact hb))];exact e
   ·rw[hsb.2 b (fun h:b=S=>by rw[h,hS0] at e;cases e)];exact hS' b o e
   ·refine hR s'' (Moved.trans W.gtrans ((hm.mono hsub).then_heap htk fun b o hb e=>?_) hm'') Z''
    rw[hsb.2 b (fun h:b=S=>hb (by rw[h];exact Ba))];exact e
end
section
variable {prog:A1}{w:AH}{A:AG}{E:Ac→Ag→Prop}{s:Ag}
def xM (w:AH):Ap:=!w.params.followText "set-order"
@[reducible] def set0 (w:AH):AU:=setO #[] 0 (.fresh 0 0 (xM w))
theorem gT (a:Ac){Q₁:Ac→Ag→Prop}(h:Q₁ (.ref s.heap.objs.size) { s with heap:=s.heap.push (set0 w) }) : Eu (As prog w) A (.call (.builtin "set.__new__") ⟨[.type "set",a],[]⟩) (wants Q₁ E) s:=by
 refine Ku ?_;show Ao _ A.in1 (do Jj "set.__new__" ⟨[.type "set",a],[]⟩;again (.builtin "set.__new__" ⟨[.type "set",a],[]⟩)) _ _ s
 refine Af (IA (PySem.F.newCall_set_1 a) (Al ⟨IS Li _,Dy PySem.F.entry_set_new ?_⟩));rw[Ez Li _];unfold Ew.«set.__new__» Qy;have hsub:=PySem.sub_set_self;obtain⟨hp,g,d,tk,os⟩:=s;dsimp only
 wp_walk
 refine Fb (Al ?_);dsimp only;simp only[newObj];exact Af (wpAny_alloc (Al (Al h)))
theorem tL (w:AH):TabT (.fresh 0 0 (xM w)) #[]:=⟨⟨by unfold Rs;exact Gq,rfl⟩,.inl rfl,rfl,fun x hx=>(by cases hx),(show 0*5<7*3 by decide),fun i e h=>(by simp at h),rfl⟩
variable {K:Type}{is:K→Ac→Prop}{hash:K→Am}{U:Aa K}
theorem oS (a:AddS prog w is hash s.heap){l:Ad}{items:AB Ac}{Q:Ac→Ag→Prop}(hh:A.handled=none)(hu:A.units+8<CD)(hl:s.heap.IsList l items)(key:Aj→K)(hkey:∀ i v,items[i]? = Ab v→is (key i) v)(hU:U.length≤1000)(hUk:∀ i,i<items.size→key i∈U)
  (h:∀ (h':A5) (tk:Aj),SetK is hash s.heap.objs.size (xM w) items.toList (xY key items.size) h'→(∀ b o,s.heap.get? b=Ab o→h'.get? b=Ab o)→Q (.ref s.heap.objs.size) { s with heap:=h',toks:=tk }) :
  Ao (As prog w) A (call (.type "set") [.ref l]) Q E s:=by
 obtain⟨c,tl,hmro⟩:=Bf.mro;have hmade:=Bf.made;have hsub:=Bf.sub;refine HL (Ku ?_);show Ao _ _ (callAny (.type "set") _) _ _ _;refine Al ⟨Ik _ (by decide +kernel),Dy Ju ?_⟩
 rw[Nw (Lj "set" [.ref l] []) rfl];have h1:=Bf.notType;have h2:=Bf.canCreate;have hct:=Kv (.ref l)
 repeat (any_goals (first|assumption|wp_step))
 refine E9 (gT (.ref l) (E:=E) (Q₁:=fun obj s₁=>obj=.ref s.heap.objs.size∧s₁={ s with heap:=s.heap.push (set0 w) }) ⟨rfl,rfl⟩) fun r s₁ hr=>?_
 cases r with
 |error e=>exact hr
 |ok fl =>
  cases fl with
  |ret obj =>
   obtain⟨rfl,rfl⟩:=hr;have hS:(s.heap.push (set0 w)).get? s.heap.objs.size=Ab (set0 w):=Az _ rfl;have hT:IT { s with heap:=s.heap.push (set0 w) } (.ref s.heap.objs.size) "set":=⟨_,hS,rfl⟩
   have hli:=Bf.init.lookup;have hbi:=Bf.init.bind (.ref s.heap.objs.size)
   repeat (any_goals (first|assumption|wp_step))
   refine E9 (EW (R:=wants (fun r s₂=>r=.none∧∃ h' tk,s₂={ s with heap:=h',toks:=tk } ∧ SetK is hash s.heap.objs.size (xM w) items.toList (xY key items.size) h'∧∀ b o,s.heap.get? b=Ab o→h'.get? b=Ab o) E) Bf.init.plain Kw (Pc hT ?_)) fun r₂ s₂ hr₂=>?_
   ·obtain⟨ol,hol,hcl,nl,hdl⟩:=hl
    obtain⟨ocls,odict,odata,oslots⟩:=ol;simp only at hcl hdl;subst hcl;subst hdl;have hol':(s.heap.push (set0 w)).get? l=Ab { cls:=.type "list",dict:=odict,data:=.seq items nl,slots:=oslots }:=Ah _ hol;have hsls:=PySem.F.sub_list_set;have hslf:=PySem.F.sub_list_frozenset;have hne:(Dv "list" == Dv "dict")=false:=by decide
    have hl1:(s.heap.push (set0 w)).IsList l items:=⟨_,hol',rfl,nl,rfl⟩;unfold Ew.«set.__init__» noKeywords HP;generalize hPI:Ip=PI
    wp_walk
    subst hPI;refine Dm hl1 ?_;refine Af (Ly ?_);have hlS:l<s.heap.objs.size:=Au hol;have hneI:l≠(s.heap.push (set0 w)).objs.size:=by
     rw[Bx];exact AL (IU hlS)
    have nS:s.heap.get? s.heap.objs.size=none:=Ey (A2 _);have nI:s.heap.get? (s.heap.push (set0 w)).objs.size=none:=Ey (by rw[Bx];exact Ix _)
    refine rB (led:=xM w) (V:=items.toList) a ((RL (A:=A.in1.in1.in1) (by simp[hh]) _ l hneI items).toS) s.heap.objs.size ?_ (by show A.units+3<CD;omega) key (fun i v hv=>⟨hkey i v hv,?_⟩) hU hUk nS (fun b hb=>?_) (items.size-0) 0 _ (by omega) (Ds _)
     ⟨⟨_,Az _ rfl,rfl,rfl⟩,hl1.push _⟩ (fun b o e=>Ah _ (Ah _ e)) ?_ fun s' hm hS'=>?_
    ·rw[Bx];simp only[Aw,CT,Bq,DL,Qx]
     exact⟨AL (Ee _),Dq hlS⟩
    ·exact A4 (by rw[AJ];exact hv)
    ·rw[CT.mp hb];exact nI
    ·exact⟨#[],0,_,Ah _ hS,Set0.nil,tL w,rfl,fun e he=>by simp at he⟩
    ·obtain⟨h',g',d',tk',os'⟩:=s'
     have eg:g'=s.gens:=hm.gens;have ed:d'=s.drawn:=hm.drawn;have eo:os'=s.os:=hm.os;subst eg;subst ed;subst eo;refine Al (Al ⟨rfl,h',tk',rfl,hS',fun b o e=>?_⟩);refine hm.heap b o (fun hb=>?_) (Ah _ (Ah _ e));rcases Aw.mp hb with rfl|hb
     ·rw[nS] at e;cases e
     ·rw[CT.mp hb,nI] at e;cases e
   ·cases r₂ with
    |error e=>exact hr₂
    |ok fl₂ =>
     cases fl₂ with
     |ret r =>
      obtain⟨rfl,h',tk,rfl,hS',hk'⟩:=hr₂
      repeat (any_goals (first|assumption|wp_step))
      exact h _ _ hS' hk'
     |_=>exact hr₂.elim
  |_=>exact hr.elim
theorem cM (a:AddS prog w is hash s.heap){l:Ad}{items:AB Ac}{Q:Ac→Ag→Prop}(hh:A.handled=none)(hu:A.units+8<CD)(hl:s.heap.IsTuple l items)(key:Aj→K)(hkey:∀ i v,items[i]? = Ab v→is (key i) v)(hU:U.length≤1000)(hUk:∀ i,i<items.size→key i∈U)
  (h:∀ (h':A5) (tk:Aj),SetK is hash s.heap.objs.size (xM w) items.toList (xY key items.size) h'→(∀ b o,s.heap.get? b=Ab o→h'.get? b=Ab o)→Q (.ref s.heap.objs.size) { s with heap:=h',toks:=tk }) :
  Ao (As prog w) A (call (.type "set") [.ref l]) Q E s:=by
 obtain⟨c,tl,hmro⟩:=Bf.mro;have hmade:=Bf.made;have hsub:=Bf.sub;refine HL (Ku ?_);show Ao _ _ (callAny (.type "set") _) _ _ _;refine Al ⟨Ik _ (by decide +kernel),Dy Ju ?_⟩
 rw[Nw (Lj "set" [.ref l] []) rfl];have h1:=Bf.notType;have h2:=Bf.canCreate;have hct:=Kv (.ref l)
 repeat (any_goals (first|assumption|wp_step))
 refine E9 (gT (.ref l) (E:=E) (Q₁:=fun obj s₁=>obj=.ref s.heap.objs.size∧s₁={ s with heap:=s.heap.push (set0 w) }) ⟨rfl,rfl⟩) fun r s₁ hr=>?_
 cases r with
 |error e=>exact hr
 |ok fl =>
  cases fl with
  |ret obj =>
   obtain⟨rfl,rfl⟩:=hr;have hS:(s.heap.push (set0 w)).get? s.heap.objs.size=Ab (set0 w):=Az _ rfl;have hT:IT { s with heap:=s.heap.push (set0 w) } (.ref s.heap.objs.size) "set":=⟨_,hS,rfl⟩
   have hli:=Bf.init.lookup;have hbi:=Bf.init.bind (.ref s.heap.objs.size)
   repeat (any_goals (first|assumption|wp_step))
   refine E9 (EW (R:=wants (fun r s₂=>r=.none∧∃ h' tk,s₂={ s with heap:=h',toks:=tk } ∧ SetK is hash s.heap.objs.size (xM w) items.toList (xY key items.size) h'∧∀ b o,s.heap.get? b=Ab o→h'.get? b=Ab o) E) Bf.init.plain Kw (Pc hT ?_)) fun r₂ s₂ hr₂=>?_
   ·obtain⟨ol,hol,hcl,nl,hdl⟩:=hl
    obtain⟨ocls,odict,odata,oslots⟩:=ol;simp only at hcl hdl;subst hcl;subst hdl;have hol':(s.heap.push (set0 w)).get? l=Ab { cls:=.type "tuple",dict:=odict,data:=.seq items nl,slots:=oslots }:=Ah _ hol;have hsls:=PySem.F.sub_tuple_set;have hslf:=PySem.F.sub_tuple_frozenset;have hne:(Dv "tuple" == Dv "dict")=false:=by decide
    have hl1:(s.heap.push (set0 w)).IsTuple l items:=⟨_,hol',rfl,nl,rfl⟩;unfold Ew.«set.__init__» noKeywords HP;generalize hPI:Ip=PI
    wp_walk
    subst hPI;refine En hl1 ?_;refine Af (Ly ?_);have hlS:l<s.heap.objs.size:=Au hol;have hneI:l≠(s.heap.push (set0 w)).objs.size:=by
     rw[Bx];exact AL (IU hlS)
    have nS:s.heap.get? s.heap.objs.size=none:=Ey (A2 _);have nI:s.heap.get? (s.heap.push (set0 w)).objs.size=none:=Ey (by rw[Bx];exact Ix _)
    refine rB (led:=xM w) (V:=items.toList) a ((RF (A:=A.in1.in1.in1) (by simp[hh]) _ l hneI items).toS) s.heap.objs.size ?_ (by show A.units+3<CD;omega) key (fun i v hv=>⟨hkey i v hv,?_⟩) hU hUk nS (fun b hb=>?_) (items.size-0) 0 _ (by omega) (Ds _)
     ⟨⟨_,Az _ rfl,rfl,rfl⟩,hl1.push _⟩ (fun b o e=>Ah _ (Ah _ e)) ?_ fun s' hm hS'=>?_
    ·rw[Bx];simp only[Aw,CT,Bq,DL,Qx]
     exact⟨AL (Ee _),Dq hlS⟩
    ·exact A4 (by rw[AJ];exact hv)
    ·rw[CT.mp hb];exact nI
    ·exact⟨#[],0,_,Ah _ hS,Set0.nil,tL w,rfl,fun e he=>by simp at he⟩
    ·obtain⟨h',g',d',tk',os'⟩:=s'
     have eg:g'=s.gens:=hm.gens;have ed:d'=s.drawn:=hm.drawn;have eo:os'=s.os:=hm.os;subst eg;subst ed;subst eo;refine Al (Al ⟨rfl,h',tk',rfl,hS',fun b o e=>?_⟩);refine hm.heap b o (fun hb=>?_) (Ah _ (Ah _ e));rcases Aw.mp hb with rfl|hb
     ·rw[nS] at e;cases e
     ·rw[CT.mp hb,nI] at e;cases e
   ·cases r₂ with
    |error e=>exact hr₂
    |ok fl₂ =>
     cases fl₂ with
     |ret r =>
      obtain⟨rfl,h',tk,rfl,hS',hk'⟩:=hr₂
      repeat (any_goals (first|assumption|wp_step))
      exact h _ _ hS' hk'
     |_=>exact hr₂.elim
  |_=>exact hr.elim
theorem rW (a:AddS prog w is hash s.heap){l:Ad}{items:AB Ac}{Q:Ac→Ag→Prop}(hh:A.handled=none)(hu:A.units+8<CD)(hl:s.heap.IsList l items∨s.heap.IsTuple l items)(key:Aj→K)(hkey:∀ i v,items[i]? = Ab v→is (key i) v)(hU:U.length≤1000)(hUk:∀ i,i<items.size→key i∈U)
  (h:∀ (h':A5) (tk:Aj),SetK is hash s.heap.objs.size (xM w) items.toList (xY key items.size) h'→(∀ b o,s.heap.get? b=Ab o→h'.get? b=Ab o)→Q (.ref s.heap.objs.size) { s with heap:=h',toks:=tk }) :
  Ao (As prog w) A (call (.type "set") [.ref l]) Q E s:=by
 rcases hl with hl|hl
 ·exact oS a hh hu hl key hkey hU hUk h
 ·exact cM a hh hu hl key hkey hU hUk h
end
theorem y8 {α:Type}:∀ {l:Aa α} {i:Aj} (h:i<l.length),(l[i]::l.eraseIdx i).Perm l
 |a::l,0,h=>by simp
 |a::l,i+1,h=>by
  rw[List.eraseIdx_cons_succ,List.getElem_cons_succ];exact(Qp _ _ _).trans ((y8 (l:=l) (i:=i) (by simpa using h)).cons a)
theorem t9 {α:Type}(next:Aj→Aj):∀ (fuel k:Aj) (left:Aa α) (out:AB α),left.length=fuel→(Og next fuel k left out).toList.Perm (out.toList++left)
 |0,k,left,out,h=>by
  have:left=[]:=HE h;subst this;unfold Og;simp
 |fuel+1,k,left,out,h=>by
  unfold Og;have hlt:next k % left.length<left.length:=Hc _ (by omega)
  rw[Aq hlt];dsimp only;refine(t9 next fuel (k+1) _ _ (by rw[Mg,A7 hlt];omega)).trans ?_
  rw[Eb,Ex];refine Ll _ ?_;exact y8 hlt
theorem fX {α:Type}(next:Aj→Aj)(xs:AB α) : (HF next xs).toList.Perm xs.toList:=by
 have:=t9 next xs.size 0 xs.toList #[] (by simp)
 simpa [HF] using this
theorem wW:Slot "set_iterator" "__next__" "set_iterator.__next__":=
 .of (owner:="set_iterator") (n:="__next__") (by rw[Ps,Lm];kernel_rfl) (by decide +kernel) (by decide +kernel) (by decide +kernel) (.inl (by decide +kernel)) (by rw[Lz];kernel_rfl)
theorem pZ:entryFor table "set_iterator.__next__" = Ab Ew.«set_iterator.__next__»:=entryFor_of_fast (by kernel_rfl)
theorem mD (a:Ac):argsOk "set_iterator.__next__" ⟨[a],[]⟩:=by unfold argsOk;kernel_rfl
theorem tH:Slot "set_iterator" "__iter__" "set_iterator.__iter__":=
 .of (owner:="set_iterator") (n:="__iter__") (by rw[Ps,Lm];kernel_rfl) (by decide +kernel) (by decide +kernel) (by decide +kernel) (.inl (by decide +kernel)) (by rw[Lz];kernel_rfl)
theorem eF:entryFor table "set_iterator.__iter__" = Ab Ew.«dict_keyiterator.__iter__»:=entryFor_alias (id':="dict_keyiterator.__iter__") (by kernel_rfl) rfl (by decide +kernel) (by kernel_rfl)
theorem cH (a:Ac):argsOk "set_iterator.__iter__" ⟨[a],[]⟩:=by unfold argsOk;kernel_rfl
theorem eE:entryFor table "set.__iter__" = Ab Ew.«frozenset.__iter__»:=entryFor_alias (id':="frozenset.__iter__") (by kernel_rfl) rfl (by decide +kernel) (by kernel_rfl)
theorem VL (a:Ad)(slot given epochThen:Aj):setNext a slot given epochThen=(do
  let (es,epoch,t) ← Nk a
  if ← Qk then
   if epoch != epochThen then unsupported "set_iterator.__next__:elements-changed"
   return ((← setWalk a)[given]?).map fun e=>(e.2,slot)
  if !t.plain&&es.size>1 then unsupported "set_iterator.__next__:the-table-is-plain-no-more"
  (do if !t.led&&!es.isEmpty then unsupported "set:maker-not-led")
  return match es[AN t.place slot]?,t.place[AN t.place slot]? with
   |some (_,x),Ab j=>Ab (x,j+1)
   |_,_=>none):=rfl
theorem UZ (a:Ad):setWalk a=(do
  let (es,epoch,t) ← Nk a
  if ← Qk then return HF ((← ask).params.setOrder a epoch) es
  if !t.plain&&es.size>1 then return (← drawOrder es.size es.toList).toArray
  (do if !t.led&&es.size>1 then unsupported "set:maker-not-led")
  return es):=rfl
theorem Q8 (a:Ad):setDrawn a=(do
  let (es,_,t) ← Nk a
  let byText ← Qk
  return !byText&&(!t.plain&&es.size>1)):=rfl
structure Still (w:AH)(S:Ad)(es:AB (Am × Ac))(ep:Aj)(t:CK):Prop where
 tab:TabT t es
 led:t.led=xM w
def qO (w:AH)(S:Ad)(ep:Aj)(es:AB (Am × Ac)):AB (Am × Ac):=if w.params.followText "set-order" = true then HF (w.params.setOrder S ep) es else es
theorem bL (w:AH)(S:Ad)(ep:Aj)(es:AB (Am × Ac)):(qO w S ep es).toList.Perm es.toList:=by
 unfold qO
 split
 ·exact fX _ _
 ·exact L2 _
theorem vF (w:AH)(S:Ad)(ep:Aj)(es:AB (Am × Ac)):(qO w S ep es).size=es.size:=by
 rw[← Bb,(bL w S ep es).length_eq,Bb]
def itO (slot i:Aj)(S:Ad)(n ep:Aj):AU:={ cls:=.type "set_iterator",data:=.fields #[.int slot 0,.int i 0,.ref S,.int n 0,.int ep 0] }
def At (w:AH)(I S:Ad)(es:AB (Am × Ac))(ep:Aj)(t:CK)(i:Aj)(h:A5):Prop:=
 ∃ slot,h.get? I=Ab (itO slot i S es.size ep)∧h.get? S=Ab (setO es ep t)∧(w.params.followText "set-order" = true∨AN t.place slot=i)
section
variable {prog:A1}{w:AH}{A:AG}{E:Ac→Ag→Prop}{s:Ag}{S I:Ad}{es:AB (Am × Ac)}{ep:Aj}{t:CK}
theorem c0 {slot:Aj}{Q:Ak (Ac × Aj)→Ag→Prop}(Z:Still w S es ep t)(ho:s.heap.get? S=Ab (setO es ep t))(hs:w.params.followText "set-order" = true∨AN t.place slot=i)
  (h1:∀ e slot',(qO w S ep es)[i]? = Ab e→(w.params.followText "set-order" = true∨AN t.place slot'=i+1)→Q (Ab (e.2,slot')) s) (h2:(qO w S ep es)[i]? = none→Q none s):Ao (As prog w) A (setNext S slot i ep) Q E s:=by
 rw[VL];refine Af (CO ho rfl Z.tab.fits ?_);dsimp only;refine Af (Af (Fb (Al ?_)));cases hf:w.params.followText "set-order" with
 |true =>
  show Ao _ _ (if (w.params.followText "set-order")=true then _ else _) _ _ _
  rw[A7 hf];have hb:(ep != ep)=false:=by simp
  rw[hb];simp only[AC,Bu];refine Af ?_;rw[UZ];refine Af (CO ho rfl Z.tab.fits ?_);dsimp only;refine Af (Af (Fb (Al ?_)));show Ao _ _ (if (w.params.followText "set-order")=true then _ else _) _ _ _
  rw[A7 hf];refine Af (Fb (Al (Al ?_)));show Q (((HF (w.params.setOrder S ep) es)[i]?).map fun e=>(e.2,slot)) s;have ho':qO w S ep es=HF (w.params.setOrder S ep) es:=by unfold qO;rw[A7 hf]
  rw[ho'] at h1 h2;cases hx:(HF (w.params.setOrder S ep) es)[i]? with
  |none=>exact h2 hx
  |some e=>exact h1 e slot hx (.inl hf)
 |false =>
  show Ao _ _ (if (w.params.followText "set-order")=true then _ else _) _ _ _
  rw[AD (by rw[hf];decide),Z.tab.plain,Z.led]
  unfold xM;rw[hf];simp only[Fl,HT,AC,Bu,Qo];have hb:AN t.place slot=i:=by
   rcases hs with h|h
   ·rw[hf] at h;cases h
   ·exact h
  rw[hb];have ho':qO w S ep es=es:=by unfold qO;rw[AD (by rw[hf];decide)]
  rw[ho'] at h1 h2;refine Al ?_;cases hx:es[i]? with
  |none=>exact h2 hx
  |some e =>
   have hi:i<t.place.size:=by rw[Z.tab.size];exact(Bi.mp hx).1
   have hp:t.place[i]? = Ab t.place[i]:=Br hi;rw[hp];exact h1 e _ hx (.inr (rT Z.tab.tb.rs hp))
theorem At.type (h:At w I S es ep t i s.heap):s.TypeIs (.ref I) "set_iterator":=by
 obtain⟨slot,h,_⟩:=h;exact⟨_,h,rfl⟩
theorem t7 (Z:Still w S es ep t)(hI:At w I S es ep t i s.heap)
  (h1:∀ e slot' slot,(qO w S ep es)[i]? = Ab e→s.heap.get? I=Ab (itO slot i S es.size ep)→s.heap.get? S=Ab (setO es ep t)→(w.params.followText "set-order" = true∨AN t.place slot'=i+1) →
   Q e.2 { s with heap:=(s.heap.update I (My (·.setIfInBounds 0 (Dj slot')))).update I (My (·.setIfInBounds 1 (Dj ((i:Am)+1)))) })
  (h2:(qO w S ep es)[i]? = none→Ao (As prog w) A (do setField (.ref I) 2 .none;raiseNew (← newExc (.type "StopIteration") [])) (fun (fin:RU) s'=>∃ r,fin=.done (.ret r)∧Q r s') E s) :
  Ao (As prog w) A (Ew.«set_iterator.__next__» ⟨[.ref I],[]⟩) (fun fin s'=>∃ r,fin=.done (.ret r)∧Q r s') E s:=by
 obtain⟨slot,hg,hS,hb⟩:=hI;show Ao _ _ (fieldsOf (.ref I) >>= _) _ _ s;refine Af (wpAny_fieldsOf hg rfl ?_);show Ao _ _ (setEntries S >>= _) _ _ s;refine Af (Mz hS rfl Z.tab.fits ?_);have hne:(((es.size:Aj):Am) != ((es.size:Aj):Am))=false:=by simp
 rw[hne];simp only[AC,Bu];show Ao _ _ (setNext S (slot:Am).toNat (i:Am).toNat (ep:Am).toNat >>= _) _ _ s;rw[Dz,Dz,Dz];refine Af (c0 Z hS hb (fun e slot' he hb'=>?_) fun he=>?_)
 ·dsimp only
  refine Af (Gn hg rfl (by show 0<5;decide) ?_)
  have hg2:=CN (My (·.setIfInBounds 0 (Dj slot'))) hg rfl
  refine Af (Gn hg2 rfl (by show 1<5;decide) ?_)
  exact Al ⟨_,rfl,h1 e slot' slot he hg hS hb'⟩
 ·exact h2 he
theorem UY (hh:A.handled=none)(hne:S≠I)(Z:Still w S es ep t):Walks prog w A I [I,S] [I] es.size (fun i v=>∃ e,(qO w S ep es)[i]? = Ab e∧e.2=v) (fun i h=>At w I S es ep t i h) where
 sub:=fun b hb=>by simp at hb;simp[hb]
 frame:=fun i h h' ⟨slot,h1,h2,h3⟩ hk=>⟨slot,hk I (by simp) _ h1,hk S (by simp) _ h2,h3⟩
 item:=fun i s Q E hi st hQ=>by
  unfold Hg;refine Af (Fj (CB (name:=E8 "__next__") st.type wW (Cy wW st.type pZ (t7 Z st (fun e slot' slot he hg hS hb=>?_) fun he=>?_) (mD _))))
  ·refine Al (hQ e.2 _ s.toks ⟨e,he,rfl⟩ ⟨slot',?_,?_,hb⟩ fun b o hb e=>?_)
   ·exact CN _ (CN _ hg rfl) rfl
   ·rw[AY _ _ hne.symm,AY _ _ hne.symm];exact hS
   ·have hb:I≠b:=fun z=>hb (by simp[z])
    rw[AY _ _ hb,AY _ _ hb];exact e
  ·have:=Array.getElem?_eq_none_iff.mp he
   rw[vF] at this;omega
 done:=fun s Q E st hQ=>by
  unfold Hg;refine Af (Fj (CB (name:=E8 "__next__") st.type wW (Cy wW st.type pZ (t7 Z st (fun e slot' slot he hg hS hb=>?_) fun he=>?_) (mD _))))
  ·have:=(Bi.mp he).1
   rw[vF] at this;omega
  ·obtain⟨slot,hg,hS,hb⟩:=st
   refine Af (Gn hg rfl (by show 2<5;decide) ?_)
   refine Af ?_;simp only[newExc,newTuple];refine Af (Cn ?_ (by size_fits))
   refine Af (m:=HX _ _) (IA (a:=CF) (by first|rfl|(simp only[HX];rfl)) ?_)
   refine Cn ?_ (by size_fits)
   simp only[raiseNew];refine Af (wpAny_handled ?_);rw[show A.in1.handled=none from hh]
   refine Af (Al (wpAny_throw ?_));refine Af (Jm (T:="StopIteration") (b:=true) ⟨_,Az _ rfl,rfl⟩ isSubtype_stop ?_);refine Al (hQ _ s.toks fun b o hb e=>?_);exact(((Do ..).extBut.push _).push _) b o (fun z=>hb (by simp[z])) e
 self:=fun i s Q E st hQ=>by
  refine OD st.type tH (Cy tH st.type eF ?_ (cH _));show Ao _ _ (ret (.ref I)) _ _ s;exact Al ⟨_,rfl,"set_iterator",_,st.type,wW.lookup,hQ⟩
theorem QV (Z:Still w S es ep t)(ho:s.heap.get? S=Ab (setO es ep t))(h:Q (.ref s.heap.objs.size) { s with heap:=s.heap.push (itO 0 0 S es.size ep) }) : Ao (As prog w) A (Ip (.ref S)) Q E s:=by
 have hT:s.TypeIs (.ref S) "set":=⟨_,ho,rfl⟩;refine OD hT Ln (Cy Ln hT eE ?_ (PySem.F.args_set_iter_1 _));show Ao _ _ (Jc S >>= _) _ _ s;unfold Jc;refine Af (Af (Mz ho rfl Z.tab.fits (Al ?_)));refine Af ?_;rw[Q8];refine Af (CO ho rfl Z.tab.fits ?_);dsimp only;refine Af (Af (Fb (Al (Al ?_))));rw[Z.tab.plain];simp only[Fl,HT,Lv,AC,Bu];refine Af (Al ?_);unfold setEpoch;refine Af (Af (CO ho rfl Z.tab.fits (Al ?_)));refine Af (Cn (Al ⟨_,rfl,"set_iterator",_,⟨_,Az _ rfl,rfl⟩,wW.lookup,h⟩))
theorem Y4 (Z:Still w S es ep t)(ho:s.heap.get? S=Ab (setO es ep t)):At w s.heap.objs.size S es ep t 0 (s.heap.push (itO 0 0 S es.size ep)):=
 ⟨0,Az _ rfl,Ah _ ho,.inr (rV Z.tab.tb.rs)⟩
end
end _S
namespace _S
open PySem PySem.W PyProof.Rows
variable {vs:Aa Ac}{N:Aj}
structure Ord {K:Type}(lt:K→K→Ap):Prop where
 irr:∀ a,lt a a=false
 tr:∀ {a b c},lt a b=true→lt b c=true→lt a c=true
 tri:∀ {a b},lt a b=false→a=b∨lt b a=true
def ltI (a b:Am):Ap:=decide (a<b)
theorem LW:Ord ltI:=⟨fun a=>by simp[ltI],fun {a b c} h1 h2=>by simp only[ltI,AV] at *;omega,fun {a b} h=>by simp only[ltI,AV,Jv] at *;omega⟩
theorem sN:∀ a:Aa Am,_H.lexLt a a=false
 |[]=>rfl
 |x::xs=>by rw[_H.lexLt_cons,A7 rfl];exact sN xs
theorem aS:∀ {a b c:Aa Am},_H.lexLt a b=true→_H.lexLt b c=true→_H.lexLt a c=true
 |_,[],[],_,h=>by cases h
 |_,_::_,[],_,h=>by cases h
 |[],_,_::_,_,_=>rfl
 |_::_,[],_::_,h,_=>by cases h
 |x::xs,y::ys,z::zs,h1,h2=>by
  rw[_H.lexLt_cons] at h1 h2 ⊢;by_cases e1:x=y
  ·subst e1
   rw[A7 rfl] at h1;by_cases e2:x=z
   ·rw[A7 e2] at h2 ⊢;exact aS h1 h2
   ·rw[AD e2] at h2 ⊢;exact h2
  ·rw[AD e1] at h1
   have h1:=AK h1;by_cases e2:y=z
   ·subst e2;rw[AD e1];exact Cd h1
   ·rw[AD e2] at h2
    have h2:=AK h2;rw[AD (by omega)]
    exact Cd (by omega)
theorem sO:∀ {a b:Aa Am},_H.lexLt a b=false→a=b∨_H.lexLt b a=true
 |[],[],_=>.inl rfl
 |[],_::_,h=>by cases h
 |_::_,[],_=>.inr rfl
 |x::xs,y::ys,h=>by
  rw[_H.lexLt_cons] at h ⊢;by_cases e:x=y
  ·subst e
   rw[A7 rfl] at h ⊢;rcases sO h with h|h
   ·exact .inl (by rw[h])
   ·exact .inr h
  ·rw[AD e] at h
   have h:=CV h;rw[AD (CZ e)];exact .inr (Cd (by omega))
theorem pM:Ord _H.lexLt:=⟨sN,aS,sO⟩
theorem mK {α:Type}{p q:α→Ap}:∀ {l:Aa α},(∀ x∈l,p x=true→q x=true)→(∃ x∈l,q x=true∧p x=false)→l.countP p<l.countP q
 |[],_,⟨x,h,_⟩=>by simp at h
 |a::l,h,⟨x,hx,h1,h2⟩=>by
  have le:l.countP p≤l.countP q:=Hq fun y hy=>h y (by simp[hy])
  rw[Pd,Pd];rcases Aw.mp hx with rfl|hx
  ·rw[AD (by rw[h2];decide),A7 h1];omega
  ·have ih:=mK (l:=l) (fun y hy=>h y (by simp[hy])) ⟨x,hx,h1,h2⟩
   have:=h a (by simp)
   cases hp:p a with
   |false=>rw[AD (by decide)];split <;> omega
   |true=>rw[A7 rfl,A7 (this hp)];omega
section
variable {K:Type}{lt':K→K→Ap}
def bP (lt':K→K→Ap)(ks:Aa K)(x:K):Am:=(ks.countP (fun k=>lt' k x):Aj)
theorem lW (O:Ord lt'){ks:Aa K}{x y:K}(hx:x∈ks):lt' x y=decide (bP lt' ks x<bP lt' ks y):=by
 unfold bP;cases h:lt' x y with
 |true =>
  refine(Cd ?_).symm;have:=mK (l:=ks) (p:=fun k=>lt' k x) (q:=fun k=>lt' k y) (fun z _ hz=>O.tr hz h) ⟨x,hx,h,O.irr x⟩;omega
 |false =>
  refine(Cg ?_).symm;have:ks.countP (fun k=>lt' k y)≤ks.countP (fun k=>lt' k x):=by
   rcases O.tri h with e|h'
   ·rw[e];exact A2 _
   ·exact Hq fun z _ hz=>O.tr hz h'
  omega
def kB (lt':K→K→Ap)(ks:Aa K)(d:K)(i j:Aj):Ap:=lt' (ks.getD i d) (ks.getD j d)
def Nf (lt':K→K→Ap)(l:Aa K):Prop:=l.Pairwise fun a b=>lt' b a=false
theorem sR (O:Ord lt'):∀ {a b:Aa K},Nf lt' a→Nf lt' b→a.Perm b→a=b
 |[],b,_,_,p=>(List.nil_perm.mp p).symm
 |x::a,b,ha,hb,p=>by
  cases b with
  |nil=>exact absurd p.symm (by simp)
  |cons y b =>
   unfold Nf at ha hb;rw[CU] at ha hb;have e:x=y:=by
    rcases Aw.mp (p.mem_iff.mp (.head _)) with e|e
    ·exact e
    ·rcases Aw.mp (p.mem_iff.mpr (.head _)) with e'|e'
     ·exact e'.symm
     ·have h1:=ha.1 y e'
      have h2:=hb.1 x e;rcases O.tri h1 with e|h
      ·exact e.symm
      ·rw[h2] at h;cases h
   subst e;rw[sR O ha.2 hb.2 (List.Perm.cons_inv p)]
theorem i8 (O:Ord lt'){l:Aa K}(h:Nf lt' l)(nd:l.Nodup):l.Pairwise fun a b=>lt' a b=true:=by
 refine RS (fun {a b} h1 h2=>?_) h nd;exact(O.tri h1).elim (fun e=>absurd e.symm h2) id
def yN (lt':K→K→Ap)(l:Aa K):Aa K:=l.mergeSort fun a b=>!lt' b a
theorem kY (l:Aa K):(yN lt' l).Perm l:=List.mergeSort_perm _ _
theorem rF (O:Ord lt')(l:Aa K):Nf lt' (yN lt' l):=by
 have:=List.pairwise_mergeSort (le:=fun a b=>!lt' b a) (fun a b c h1 h2=>?_) (fun a b=>?_) l
 ·exact this.imp fun h=>by simpa using h
 ·have h1:lt' b a=false:=by simpa using h1
  have h2:lt' c b=false:=by simpa using h2
  cases h3:lt' c a with
  |false=>rfl
  |true =>
   rcases O.tri h1 with e|h
   ·rw[← e] at h3;rw[h3] at h2;cases h2
   ·have:=O.tr h3 h;rw[h2] at this;cases this
 ·cases h:lt' b a with
  |false=>rfl
  |true =>
   cases h':lt' a b with
   |false=>rfl
   |true=>have:=O.tr h h';rw[O.irr] at this;cases this
def vP (lt':K→K→Ap)(x:K):Aa K→Aa K
 |[]=>[x]
 |y::l=>if lt' x y then x::y::l else if lt' y x then y::vP lt' x l else y::l
def srt (lt':K→K→Ap):Aa K→Aa K
 |[]=>[]
 |x::xs=>vP lt' x (srt lt' xs)
set_option tactic.hygienic true in
theorem pG (O:Ord lt')(x y:K):∀ l:Aa K,y∈vP lt' x l↔y=x∨y∈l
 |[]=>by simp[vP]
 |z::l=>by
  unfold vP
  split
  ·simp
  ·rename_i h1
   split
   ·rw[Aw,pG O x y l,Aw]
    exact⟨fun h=>by rcases h with h|h|h <;> simp[h],fun h=>by rcases h with h|h|h <;> simp[h]⟩
   ·rename_i h2
    have:x=z:=(O.tri (by simpa using h1)).elim id fun h=>absurd h h2
    subst this;simp
set_option tactic.hygienic true in
theorem sH (O:Ord lt')(x:K):∀ l:Aa K,l.Pairwise (fun a b=>lt' a b=true)→(vP lt' x l).Pairwise (fun a b=>lt' a b=true)
 |[],_=>by simp[vP]
 |z::l,h=>by
  rw[CU] at h;unfold vP
  split
  ·rename_i h1
   refine CU.mpr ⟨fun y hy=>?_,CU.mpr h⟩;rcases Aw.mp hy with rfl|hy
   ·exact h1
   ·exact O.tr h1 (h.1 y hy)
  ·split
   ·rename_i h2
    refine CU.mpr ⟨fun y hy=>?_,sH O x l h.2⟩;rcases (pG O x y l).mp hy with rfl|hy
    ·exact h2
    ·exact h.1 y hy
   ·exact CU.mpr h
theorem yO (O:Ord lt')(y:K):∀ l:Aa K,y∈srt lt' l↔y∈l
 |[]=>by simp[srt]
 |x::l=>by rw[srt,pG O,yO O y l,Aw]
theorem g6 (O:Ord lt'):∀ l:Aa K,(srt lt' l).Pairwise (fun a b=>lt' a b=true)
 |[]=>by simp[srt]
 |x::l=>sH O x _ (g6 O l)
theorem m9 (O:Ord lt'):∀ {a b:Aa K},a.Pairwise (fun a b=>lt' a b=true)→b.Pairwise (fun a b=>lt' a b=true)→(∀ x,x∈a↔x∈b)→a=b
 |[],[],_,_,_=>rfl
 |[],y::b,_,_,h=>by have:=(h y).mpr (by simp);simp at this
 |x::a,[],_,_,h=>by have:=(h x).mp (by simp);simp at this
 |x::a,y::b,ha,hb,h=>by
  rw[CU] at ha hb;have asym:∀ {u v},lt' u v=true→lt' v u=true→CC:=fun p q=>by have:=O.tr p q;rw[O.irr] at this;cases this
  have e:x=y:=by
   rcases Aw.mp ((h x).mp (by simp)) with e|e
   ·exact e
   ·rcases Aw.mp ((h y).mpr (by simp)) with e'|e'
    ·exact e'.symm
    ·exact(asym (hb.1 x e) (ha.1 y e')).elim
  subst e;have ne:∀ {z:K} {l:Aa K},(∀ y∈l,lt' x y=true)→z∈l→z≠x:=fun h hz e=>by subst e;have:=h _ hz;rw[O.irr] at this;cases this
  rw[m9 O ha.2 hb.2 fun z=>⟨fun hz=>?_,fun hz=>?_⟩]
  ·exact(Aw.mp ((h z).mp (by simp[hz]))).elim (fun e=>absurd e (ne ha.1 hz)) id
  ·exact(Aw.mp ((h z).mpr (by simp[hz]))).elim (fun e=>absurd e (ne hb.1 hz)) id
theorem P6 (O:Ord lt'){l xs:Aa K}(h:Nf lt' l)(nd:l.Nodup)(m:∀ x,x∈l↔x∈xs):l=srt lt' xs:=
 m9 O (i8 O h nd) (g6 O xs) fun x=>by rw[m,yO O]
end
theorem VH:Qf (.type "set") "__len__" = pure (Ab (.builtin "set.__len__")):=PySem.F.slot_set_len.lookup
section
variable {prog:A1}{w:AH}{A:AG}{E:Ac→Ag→Prop}{s:Ag}{S:Ad}{es:AB (Am × Ac)}{ep:Aj}{t:CK}
theorem QQ {r:Ad}(hT:s.TypeIs (.ref r) "set"){Q:Ap→Ag→Prop}(h:Q false s):Ao (As prog w) A (HZ (.ref r)) Q E s:=by
 unfold HZ;refine Af (H9 hT VH ?_);generalize hid:("set.__len__" : Bz)=id0
 wp_delta
 rw[show splitId id0=Ab ("set","__len__") from by subst hid;decide +kernel]
 subst hid;refine Af (Jm (T:="set") (b:=true) hT (by rw[Lz];kernel_rfl) ?_)
 refine Kx (fun hab=>absurd hab (by decide)) (fun _=>?_)
 refine Kx (fun _=>?_) (fun hab=>absurd (by decide +kernel) hab)
 exact Af (Gi hT (Al h))
theorem dF {Q:Aa Ac→Ag→Prop}(hh:A.handled=none)(Z:Still w S es ep t)(ho:s.heap.get? S=Ab (setO es ep t))(hn:es.size≤1000)
  (h:∀ h' tk,(∀ b o,s.heap.get? b=Ab o→h'.get? b=Ab o)→s.heap.objs.size<h'.objs.size→Q ((qO w S ep es).toList.map (·.2)) { s with heap:=h',toks:=tk }) : Ao (As prog w) A (collect (.ref S)) Q E s:=by
 have hS:S<s.heap.objs.size:=Au ho;unfold collect;refine Af (Ly (Dy PySem.F.entry_proto_collect ?_));rw[Ez PySem.F.plain_proto_collect _];show Ao _ A.in1 (newList [] >>= fun l=>again (.builtin "list.__iadd__" ⟨[l,.ref S],[]⟩)) _ _ s;refine Af (Cn (Al ⟨IS Jw _,Dy PySem.F.entry_list_iadd ?_⟩));rw[Ez Jw _];have hD:(s.heap.push { cls:=.type "list",data:=.seq ([] : Aa Ac).toArray }).get? s.heap.objs.size=Ab { cls:=.type "list",data:=.seq #[] }:=Az _ rfl;have ho1:(s.heap.push { cls:=.type "list",data:=.seq ([] : Aa Ac).toArray }).get? S=Ab (setO es ep t):=Ah _ ho;show Ao _ A.in1 (Ia (.ref s.heap.objs.size) (.ref S) (.ref s.heap.objs.size)) _ _ _;unfold Ia;have hT1:IT { s with heap:=s.heap.push { cls:=.type "list",data:=.seq ([] : Aa Ac).toArray } } (.ref S) "set":=⟨_,ho1,rfl⟩
 refine Af (Gi hT1 ?_);have h1:Jd (.ref s.heap.objs.size) (.ref S)=false:=by simp[Jd];exact Dq hS
 rw[AD (by rw[h1];decide)]
 refine Af (QV (s:={ s with heap:=s.heap.push { cls:=.type "list",data:=.seq ([] : Aa Ac).toArray } }) Z ho1 ?_)
 have hD2:=Ah (itO 0 0 S es.size ep) hD;have hT2:IT { s with heap:=(s.heap.push { cls:=.type "list",data:=.seq ([] : Aa Ac).toArray }).push (itO 0 0 S es.size ep) } (.ref S) "set":=⟨_,Ah _ ho1,rfl⟩
 refine Af (Bc (QQ hT2 ?_));refine Kx (fun _=>?_) (fun hab=>absurd (by decide) hab)
 refine Af (Gy (Af ?_));show Ao _ _ (updateSeq s.heap.objs.size (·.push .none) >>= fun _=>updateSeq s.heap.objs.size (·.pop)) _ _ _
 refine Af (Pu hD2 rfl ?_);have hD3:=CN (Ce (·.push CF)) hD2 rfl
 refine Pu (hz:=by seq_fits) hD3 rfl ?_
 have hD4:=CN (Ce (·.pop)) hD3 rfl
 have sz:(s.heap.push { cls:=.type "list",data:=.seq ([] : Aa Ac).toArray }).objs.size=s.heap.objs.size+1:=Bx ..;have oth:∀ {b:Ad} {o:AU},b≠s.heap.objs.size→((s.heap.push { cls:=.type "list",data:=.seq ([] : Aa Ac).toArray }).push (itO 0 0 S es.size ep)).get? b=Ab o →
   ((((s.heap.push { cls:=.type "list",data:=.seq ([] : Aa Ac).toArray }).push (itO 0 0 S es.size ep)).update s.heap.objs.size (Ce (·.push CF))).update s.heap.objs.size (Ce (·.pop))).get? b=Ab o:=
  fun hb e=>(AY _ _ (CZ hb)).trans ((AY _ _ (CZ hb)).trans e)
 have at0:=Y4 (w:=w) (s:={ s with heap:=s.heap.push { cls:=.type "list",data:=.seq ([] : Aa Ac).toArray } }) Z ho1
 refine Al ⟨IS PySem.F.plain_extend_loop _,?_⟩;refine codeAny_extend_loopS ((UY (prog:=prog) (A:=A.in1) (I:=(s.heap.push { cls:=.type "list",data:=.seq ([] : Aa Ac).toArray }).objs.size) hh (by rw[sz];exact AL (IU hS)) Z).toS) (by rw[Ct];omega) s.heap.objs.size ?_ _ es.size 0 _ #[] _ rfl (Ds _) ?_ hD4 (ItemsOf.nil _) fun s' acc c hm hS' hacc=>?_
 ·rw[sz]
  simp only[Aw,Bq,DL,Qx];exact⟨AL (Ee _),Dq hS⟩
 ·obtain⟨slot,a1,a2,a3⟩:=at0
  exact⟨slot,oth (by rw[sz];exact Dq (Ee _)) a1,oth (AL hS) a2,a3⟩
 ·show Ao _ A (load s.heap.objs.size >>= _) _ _ s'
  refine Af (wpAny_load hS' ?_);obtain⟨h',g',d',tk',os'⟩:=s';have eg:g'=s.gens:=hm.gens;have ed:d'=s.drawn:=hm.drawn;have eo:os'=s.os:=hm.os;subst eg;subst ed;subst eo;have e:acc.toList=(qO w S ep es).toList.map (·.2):=by
   refine List.ext_getElem? fun i=>?_;rw[AJ,Bh,AJ];by_cases hi:i<es.size
   ·have hi':i<acc.size:=by rw[hacc.1];exact hi
    obtain⟨e,he,q⟩:=hacc.2 i acc[i] (Br hi');rw[Br hi',he,Pr,q]
   ·rw[Ky (by rw[hacc.1];omega),Ky (by rw[vF];omega)]
    rfl
  refine Al ?_;show Q acc.toList _;rw[e];refine h h' tk' (fun b o q=>?_) (Au hS');have hb:b<s.heap.objs.size:=Au q;refine hm.heap b o (fun hx=>?_) (oth (AL hb) (Ah _ (Ah _ q)));simp only[Aw,Bq,DL] at hx;rcases hx with hx|hx
  ·exact absurd hb (by rw[hx];exact Cj _)
  ·exact absurd hb (by rw[hx,sz];exact Ha.mpr (Ix _))
end
def run (f:Aj→Aj→Ap){α : Type}:Ql α → α
 |.ret a=>a
 |.ask i j k=>run f (k (f i j))
theorem yM (f:Aj→Aj→Ap){α β:Type}(g:α→Ql β) : ∀ t:Ql α,run f (t.bind g)=run f (g (run f t))
 |.ret _=>rfl
 |.ask i j k=>yM f g (k (f i j))
section
variable (r:Aj→Am)
def lt (i j:Aj):Ap:=decide (r i<r j)
def ky (p:AB Aj)(k:Aj):Am:=r (p.getD k 0)
def Up (p:AB Aj)(n:Aj):Prop:=∀ i j,i≤j→j<n→ky r p i≤ky r p j
def Dn (p:AB Aj)(n:Aj):Prop:=∀ i j,i≤j→j<n→ky r p j≤ky r p i
variable {r}
theorem bI {p q:AB Aj}{i j:Aj}(h:p[i]? = q[j]?):ky r p i=ky r q j:=by
 unfold ky;rw[Ib,Ib,h]
set_option tactic.hygienic true in
theorem bJ {p:AB Aj}{i j:Aj}(hj:j≤p.size)(k:Aj):ky r (Fm p i j) k=if i≤k∧k<j then ky r p (i+j-1-k) else ky r p k:=by
 have:=getElem?_mirror_all (xs:=p) (i:=i) hj k;unfold Fm
 split
 ·rename_i h;rw[A7 h] at this;exact bI this
 ·rename_i h;rw[AD h] at this;exact bI this
theorem wN (p:AB Aj)(i j:Aj):(Fm p i j).size=p.size:=mirror_size _ _ _ _
theorem xK (p:AB Aj)(i j:Aj):(Fm p i j).Perm p:=mirror_perm _ _ _ _
theorem gY (p:AB Aj):∀ (f n:Aj),1≤n→let m:=run (lt r) (Rj p f n);n≤m∧m≤n+f∧(∀ k,n≤k→k<m→ky r p (k-1)≤ky r p k)∧(m<n+f→ky r p m<ky r p (m-1))
 |0,n,_=>⟨A2 _,A2 _,fun k h1 h2=>by have:k<n:=h2;omega,fun h=>by have:n<n+0:=h;omega⟩
 |f+1,n,hn=>by
  simp only[Rj,run];cases hc:lt r (p.getD n 0) (p.getD (n-1) 0) with
  |true =>
   simp only[Bv,run];exact⟨A2 _,by omega,fun k h1 h2=>by omega,fun _=>AK hc⟩
  |false =>
   simp only[AC,Bu];obtain⟨h1,h2,h3,h4⟩:=gY p f (n+1) (by omega)
   refine⟨by omega,by omega,fun k a b=>?_,fun h=>h4 (by omega)⟩
   by_cases hk:k=n
   ·subst hk
    exact HQ.mp (CV hc)
   ·exact h3 k (by omega) b
theorem WY {p:AB Aj}{m:Aj}(h:∀ k,1≤k→k<m→ky r p (k-1)≤ky r p k):Up r p m:=by
 intro i j hij hj
 induction j with
 |zero =>
  have:i=0:=by omega
  subst this;exact EO _
 |succ j ih =>
  by_cases e:i=j+1
  ·subst e;exact EO _
  ·exact Jx (ih (by omega) (by omega)) (h (j+1) (by omega) hj)
def Eqs (p:AB Aj)(n q:Aj):Prop:=q<n∧∀ k,n-(q+1)≤k→k<n→ky r p k=ky r p (n-1)
theorem l6 (p:AB Aj)(n:Aj):Eqs (r:=r) p (n+1) 0:=⟨Gk _,fun k a b=>by
 have:k=n:=by omega
 subst this;rfl⟩
set_option tactic.hygienic true in
theorem sA {p:AB Aj}{n q:Aj}(hn:n≤p.size)(h:Eqs (r:=r) p n q)(k:Aj):ky r (Fm p (n-(q+1)) n) k=ky r p k:=by
 rw[bJ hn]
 split
 ·rename_i hk
  rw[h.2 k hk.1 hk.2,h.2 (n-(q+1)+n-1-k) (by omega) (by omega)]
 ·rfl
theorem fE {p p':AB Aj}(h:∀ k,ky r p' k=ky r p k){n:Aj}(d:Dn r p n):Dn r p' n:=fun i j a b=>by rw[h,h];exact d i j a b
theorem uB:∀ (f:Aj) (p:AB Aj) (n q:Aj),n+f≤p.size→1≤n→Dn r p n→Eqs (r:=r) p n q →
  let o:=run (lt r) (Pv f p n q);o.1.size=p.size∧o.1.Perm p∧n≤o.2.1∧o.2.1≤n+f∧Dn r o.1 o.2.1∧Eqs (r:=r) o.1 o.2.1 o.2.2
 |0,p,n,q,_,_,d,e=>⟨rfl,Fw _,A2 _,A2 _,d,e⟩
 |f+1,p,n,q,hs,hn,d,e=>by
  simp only[Pv,run];cases hc:lt r (p.getD n 0) (p.getD (n-1) 0) with
  |true =>
   have hlt:ky r p n<ky r p (n-1):=AK hc;simp only[Bv];have d':Dn r p (n+1):=fun i j a b=>by
    by_cases hj:j=n
    ·subst hj
     by_cases hi:i=j
     ·subst hi;exact EO _
     ·exact Jx (Jy hlt) (d i (j-1) (by omega) (by omega))
    ·exact d i j a (by omega)
   have e':∀ p:AB Aj,Eqs (r:=r) p (n+1) 0:=fun p=>l6 p n;by_cases hq:q>0
   ·rw[A7 hq]
    have hk:=sA (r:=r) (p:=p) (n:=n) (q:=q) (by omega) e
    obtain⟨a1,a2,a3,a4,a5,a6⟩:=uB f (Fm p (n-(q+1)) n) (n+1) 0 (by rw[wN];omega) (by omega) (fE hk d') (e' _)
    exact⟨by rw[a1,wN],a2.trans (xK _ _ _),by omega,by omega,a5,a6⟩
   ·rw[AD hq]
    obtain⟨a1,a2,a3,a4,a5,a6⟩:=uB f p (n+1) 0 (by omega) (by omega) d' (e' _)
    exact⟨a1,a2,by omega,by omega,a5,a6⟩
  |false =>
   simp only[AC,Bu,run];cases hd:lt r (p.getD (n-1) 0) (p.getD n 0) with
   |true =>
    simp only[Bv,run];exact⟨by trivial,Fw _,A2 _,by omega,d,e⟩
   |false =>
    simp only[AC,Bu];have he:ky r p n=ky r p (n-1):=Pw (HQ.mp (CV hd)) (HQ.mp (CV hc));have d':Dn r p (n+1):=fun i j a b=>by
     by_cases hj:j=n
     ·subst hj
      by_cases hi:i=j
      ·subst hi;exact EO _
      ·rw[he];exact d i (j-1) (by omega) (by omega)
     ·exact d i j a (by omega)
    have e':Eqs (r:=r) p (n+1) (q+1):=⟨by have:=e.1;omega,fun k a b=>by
     by_cases hk:k=n
     ·subst hk;rfl
     ·rw[e.2 k (by omega) (by omega)];exact he.symm⟩
    obtain⟨a1,a2,a3,a4,a5,a6⟩:=uB f p (n+1) (q+1) (by omega) (by omega) d' e'
    exact⟨a1,a2,by omega,by omega,a5,a6⟩
structure Got (r:Aj→Am)(p:AB Aj)(N:Aj)(o:Aj × AB Aj):Prop where
 size:o.2.size=p.size
 perm:o.2.Perm p
 pos:1≤o.1
 le:o.1≤N
 up:Up r o.2 o.1
theorem tM {p:AB Aj}{n:Aj}(hN:N≤p.size)(hn:1≤n)(hnN:n≤N)(d:Dn r p n):Got r p N (run (lt r) (Rk n N p)):=by
 unfold Rk;rw[yM];obtain⟨h1,h2,h3,h4⟩:=gY (r:=r) (Fm p 0 n) (N-n) n hn;refine⟨wN _ _ _,xK _ _ _,Bm hn h1,Bm h2 (by omega),WY fun k a b=>?_⟩
 show ky r (Fm p 0 n) (k-1)≤ky r (Fm p 0 n) k;by_cases hk:n≤k
 ·exact h3 k hk b
 ·rw[bJ (by omega),bJ (by omega),A7 (by omega),A7 (by omega)]
  exact d _ _ (by omega) (by omega)
theorem k8 {p:AB Aj}{n:Aj}(hN:N≤p.size)(hn:1≤n)(hnN:n+1≤N)(d:Dn r p (n+1)):Got r p N (run (lt r) (Oh n N p)):=by
 unfold Oh;rw[yM];obtain⟨a1,a2,a3,a4,a5,a6⟩:=uB (r:=r) (N-(n+1)) p (n+1) 0 (by omega) (by omega) d (l6 p n)
 generalize run (lt r) (Pv (N-(n+1)) p (n+1) 0)=o at *
 split
 ·have hk:=sA (r:=r) (p:=o.1) (n:=o.2.1) (q:=o.2.2) (by omega) a6
  have g:=tM (p:=Fm o.1 (o.2.1-(o.2.2+1)) o.2.1) (N:=N) (by rw[wN];omega) (by omega) (by omega) (fE hk a5)
  exact⟨by rw[g.size,wN,a1],(g.perm.trans (xK _ _ _)).trans a2,g.pos,g.le,g.up⟩
 ·have g:=tM (p:=o.1) (N:=N) (by omega) (by omega) (by omega) a5
  exact⟨by rw[g.size,a1],g.perm.trans a2,g.pos,g.le,g.up⟩
theorem eA {p:AB Aj}(hN:N≤p.size)(h1:1≤N):Got r p N (run (lt r) (OE N p)):=by
 unfold OE;rw[yM];obtain⟨b1,b2,b3,b4⟩:=gY (r:=r) p (N-1) 1 (A2 _);generalize run (lt r) (Rj p (N-1) 1)=n at *;have up:Up r p n:=WY b3;by_cases hn:n=N
 ·subst hn
  rw[A7 (by simp)]
  exact⟨rfl,Fw _,h1,A2 _,up⟩
 ·rw[AD (by simpa using hn)]
  have hlt:=b4 (by omega)
  by_cases hn1:n>1
  ·rw[A7 hn1]
   simp only[run];cases hc:lt r (p.getD 0 0) (p.getD (n-1) 0) with
   |true=>simp only[Bv,run];exact⟨rfl,Fw _,by show 1≤n;omega,by show n≤N;omega,up⟩
   |false =>
    simp only[AC,Bu];have hle:ky r p (n-1)≤ky r p 0:=HQ.mp (CV hc);have all:∀ k,k<n→ky r p k=ky r p 0:=fun k hk=>Pw (Jx (up k (n-1) (by omega) (by omega)) hle) (up 0 k (by omega) hk)
    have keys:∀ k,ky r (Fm p 0 n) k=ky r p k:=fun k=>by
     rw[bJ (by omega)]
     split
     ·rw[all k (by omega),all _ (by omega)]
     ·rfl
    have g:=k8 (p:=Fm p 0 n) (n:=n) (N:=N) (by rw[wN];omega) (by omega) (by omega) (fE keys fun i j a b=>by
     by_cases hj:j=n
     ·subst hj
      by_cases hi:i=j
      ·subst hi;exact EO _
      ·rw[all i (by omega),← all (j-1) (by omega)];exact Jy hlt
     ·rw[all i (by omega),all j (by omega)];exact EO _)
    exact⟨by rw[g.size,wN],g.perm.trans (xK _ _ _),g.pos,g.le,g.up⟩
  ·rw[AD hn1]
   have e:n=1:=by omega
   subst e;exact k8 hN (A2 _) (by omega) fun i j a b=>by
    by_cases hij:i=j
    ·subst hij;exact EO _
    ·have:i=0:=by omega
     have:j=1:=by omega
     subst i j;exact Jy hlt
theorem jM (p:AB Aj)(k:Aj)(up:Up r p k):∀ (f l h:Aj),h-l≤f→l≤h→h≤k→(∀ i,i<l→ky r p i≤ky r p k)→(∀ i,h≤i→i<k→ky r p k<ky r p i) →
  let m:=run (lt r) (OF p k f l h);m≤k∧(∀ i,i<m→ky r p i≤ky r p k)∧(∀ i,m≤i→i<k→ky r p k<ky r p i)
 |0,l,h,hf,hl,hk,a,b=>by
  have:l=h:=by omega
  subst this;exact⟨hk,a,b⟩
 |f+1,l,h,hf,hl,hk,a,b=>by
  simp only[OF];by_cases hc:l≥h
  ·rw[A7 hc]
   have:l=h:=by omega
   subst this;exact⟨hk,a,b⟩
  ·rw[AD hc]
   simp only[run];cases hq:lt r (p.getD k 0) (p.getD ((l+h)/2) 0) with
   |true =>
    simp only[Bv];have hlt:ky r p k<ky r p ((l+h)/2):=AK hq;exact jM p k up f l ((l+h)/2) (by omega) (by omega) (by omega) a fun i x y=>Int.lt_of_lt_of_le hlt (up _ _ x y)
   |false =>
    simp only[AC,Bu];have hle:ky r p ((l+h)/2)≤ky r p k:=HQ.mp (CV hq);exact jM p k up f ((l+h)/2+1) h (by omega) (by omega) hk (fun i x=>Jx (up _ _ (by omega) (by omega)) hle) b
theorem mW {p:AB Aj}{k l:Aj}(hk:k<p.size)(hl:l≤k)(i:Aj):ky r (bubble p k (k-l)) i=if i=l then ky r p k else if l<i∧i≤k then ky r p (i-1) else ky r p i:=by
 have h:=getElem?_bubble (xs:=p) hk (k-l) (by omega) i
 rw[show k-(k-l)=l by omega] at h
 by_cases h1:i=l
 ·rw[A7 h1] at h ⊢;exact bI h
 ·rw[AD h1] at h ⊢
  by_cases h2:l<i∧i≤k
  ·rw[A7 h2] at h ⊢;exact bI h
  ·rw[AD h2] at h ⊢;exact bI h
theorem nO:∀ (f:Aj) (p:AB Aj) (k:Aj),k+f≤p.size→Up r p k→let o:=run (lt r) (kas_bin f p k);o.size=p.size∧o.Perm p∧Up r o (k+f)
 |0,p,k,_,up=>⟨rfl,Fw _,up⟩
 |f+1,p,k,hs,up=>by
  simp only[kas_bin];rw[yM];obtain⟨h1,h2,h3⟩:=jM p k up k 0 k (by omega) (by omega) (A2 _) (fun i hi=>by omega) fun i a b=>by omega
  generalize run (lt r) (OF p k k 0 k)=l at *;have up':Up r (bubble p k (k-l)) (k+1):=fun i j a b=>by
   rw[mW (by omega) h1,mW (by omega) h1]
   by_cases e1:i=l
   ·rw[A7 e1]
    by_cases e2:j=l
    ·rw[A7 e2];exact EO _
    ·rw[AD e2,A7 (by omega)]
     exact Jy (h3 (j-1) (by omega) (by omega))
   ·rw[AD e1]
    by_cases e3:l<i∧i≤k
    ·rw[A7 e3,AD (by omega),A7 (by omega)]
     exact up _ _ (by omega) (by omega)
    ·rw[AD e3]
     by_cases e2:j=l
     ·rw[A7 e2];exact h2 i (by omega)
     ·rw[AD e2]
      by_cases e4:l<j∧j≤k
      ·rw[A7 e4];exact up _ _ (by omega) (by omega)
      ·rw[AD e4];exact up _ _ a (by omega)
  obtain⟨a1,a2,a3⟩:=nO f (bubble p k (k-l)) (k+1) (by rw[bubble_size];omega) up'
  exact⟨by rw[a1,bubble_size],a2.trans (bubble_perm _ _ _),by rw[show k+(f+1)=k+1+f by omega];exact a3⟩
set_option tactic.hygienic true in
theorem oC {n:Aj}(hn:1≤n):let o:=run (lt r) (HG n);o.toList.Perm (AR n)∧Up r o n:=by
 unfold HG;simp only[yM];have hz:(HI (AR n)).size=n:=by simp
 have g:=eA (r:=r) (p:=HI (AR n)) (N:=n) (by omega) hn
 generalize run (lt r) (OE n (HI (AR n)))=c at *;have pm:∀ {o:AB Aj},o.Perm (HI (AR n))→o.toList.Perm (AR n):=fun h=>by simpa using Array.perm_iff_toList_perm.mp h
 split
 ·rename_i hlt
  have hm:max c.1 1=c.1:=by have:=g.pos;omega
  rw[hm];obtain⟨a1,a2,a3⟩:=nO (n-c.1) c.2 c.1 (by rw[g.size,hz];omega) g.up
  refine⟨pm (a2.trans g.perm),?_⟩;rw[show c.1+(n-c.1)=n by omega] at a3
  exact a3
 ·rename_i hlt
  have:c.1=n:=by have:=g.le;omega
  refine⟨pm g.perm,?_⟩;have u:=g.up;rw[this] at u;exact u
end
def Inn (n:Aj){α : Type}(T:α→Prop):Ql α → Prop
 |.ret a=>T a
 |.ask i j k=>i<n∧j<n∧∀ b,Inn n T (k b)
def PB (n:Aj)(p:AB Aj):Prop:=∀ k,p.getD k 0<n
theorem PB.perm {p q:AB Aj}{n:Aj}(h:PB n p)(e:q.Perm p):PB n q:=fun k=>by
 by_cases hk:k<q.size
 ·have e1:q.getD k 0=q[k]:=by simp[Er,hk]
  rw[e1];have:q[k]∈p:=e.mem_iff.mp (Array.getElem_mem hk);obtain⟨j,hj,e2⟩:=Array.mem_iff_getElem.mp this;have:=h j;rw[show p.getD j 0=p[j] by simp[Er,hj]] at this
  rw[← e2];exact this
 ·have e1:q.getD k 0=0:=by simp[Er,hk]
  rw[e1];exact Ge (Ds _) (h 0)
theorem Inn.bind {n:Aj}{α β:Type}{T:α→Prop}{U:β→Prop}{g:α→Ql β} : ∀ {t:Ql α},Inn n T t→(∀ a,T a→Inn n U (g a))→Inn n U (t.bind g)
 |.ret a,h,hg=>hg a h
 |.ask i j k,⟨h1,h2,h3⟩,hg=>⟨h1,h2,fun b=>Inn.bind (h3 b) hg⟩
theorem oF {n:Aj}{f:Aj→Aj→Ap}{cmp:Aj→Aj→(Ap→Ag→Prop)→Ag→Prop}{s:Ag}(hc:∀ i j (C:Ap→Ag→Prop),i<n→j<n→C (f i j) s→cmp i j C s){α : Type}{T:α→Prop}{G:α→Ag→Prop}:∀ t:Ql α,Inn n T t→G (run f t) s→t.kasWp cmp G s
 |.ret _,_,h=>h
 |.ask i j k,⟨h1,h2,h3⟩,h=>hc i j _ h1 h2 (oF hc (k (f i j)) (h3 _) h)
theorem xE {n:Aj}{α:Type}{T:α→Prop}{c:Prop}[Go c]{a b:Ql α}(h1:Inn n T a)(h2:Inn n T b):Inn n T (if c then a else b):=by
 split
 ·exact h1
 ·exact h2
section
variable {n:Aj}
theorem fM {p:AB Aj}(h:PB n p):∀ f m,Inn n (fun _=>EY) (Rj p f m)
 |0,m=>trivial
 |f+1,m=>⟨h _,h _,fun b=>xE trivial (fM h f (m+1))⟩
theorem jH:∀ (f:Aj) {p:AB Aj} (m q:Aj),PB n p→Inn n (fun o=>PB n o.1) (Pv f p m q)
 |0,p,m,q,h=>h
 |f+1,p,m,q,h=>⟨h _,h _,fun b=>xE (xE (jH f _ _ (h.perm (xK _ _ _))) (jH f _ _ h)) ⟨h _,h _,fun d=>xE h (jH f _ _ h)⟩⟩
theorem mS {p:AB Aj}(h:PB n p)(m N:Aj):Inn n (fun o=>PB n o.2) (Rk m N p):=Inn.bind (fM (h.perm (xK _ _ _)) _ _) fun _ _=>h.perm (xK _ _ _)
theorem kK {p:AB Aj}(h:PB n p)(m N:Aj):Inn n (fun o=>PB n o.2) (Oh m N p):=Inn.bind (jH _ _ _ h) fun o ho=>xE (mS (ho.perm (xK _ _ _)) _ _) (mS ho _ _)
theorem aI {p:AB Aj}(h:PB n p)(N:Aj):Inn n (fun o=>PB n o.2) (OE N p):=Inn.bind (fM h _ _) fun m _=>xE h (xE ⟨h _,h _,fun b=>xE h (kK (h.perm (xK _ _ _)) _ _)⟩ (kK h _ _))
theorem kL {p:AB Aj}(h:PB n p)(k:Aj):∀ f l r,Inn n (fun _=>EY) (OF p k f l r)
 |0,l,r=>trivial
 |f+1,l,r=>xE (T:=fun _=>EY) trivial ⟨h _,h _,fun b=>xE (kL h k f _ _) (kL h k f _ _)⟩
theorem sG:∀ (f:Aj) {p:AB Aj} (k:Aj),PB n p→Inn n (fun _=>EY) (kas_bin f p k)
 |0,p,k,h=>trivial
 |f+1,p,k,h=>Inn.bind (kL h k k 0 k) fun l _=>sG f (k+1) (h.perm (bubble_perm _ _ _))
theorem lD (hn:0<n):Inn n (fun _=>EY) (HG n):=by
 have h:PB n (HI (AR n)):=fun k=>by
  by_cases hk:k<n
  ·simp[Er,hk]
  ·simp[Er,hk,hn]
 exact Inn.bind (aI h n) fun o ho=>xE (sG _ _ ho) (show Inn n (fun _=>EY) (.ret o.2) from trivial)
end
structure Cmps (prog:A1)(w:AH)(h0:A5)(vs:Aa Ac)(f:Aj→Aj→Ap):Prop where
 ex:∃ κ,∀ (A:AG),A.units+8<CD→∀ (s:Ag),Sup h0 s.heap→(∀ (Q:SortKind→Ag→Prop) (E:Ac→Ag→Prop),Q κ s→Ao (As prog w) A (keyKind' vs.toArray) Q E s)∧∀ i j (C:Ap→Ag→Prop),i<vs.length→j<vs.length→C (f i j) s→kas_ask prog w A κ vs i j C s
theorem tF {n:Aj}{f g:Aj→Aj→Ap}(h:∀ i j,i<n→j<n→f i j=g i j){α : Type}{T:α→Prop}:∀ t:Ql α,Inn n T t→run f t=run g t
 |.ret _,_=>rfl
 |.ask i j k,⟨h1,h2,h3⟩=>by
  show run f (k (f i j))=run g (k (g i j));rw[h i j h1 h2];exact tF h _ (h3 _)
section
variable {prog:A1}{w:AH}{A:AG}{E:Ac→Ag→Prop}{s:Ag}
theorem WE {K:Type}{is:K→Ac→Prop}{lt':K→K→Ap}{d:K}(O:Ord lt')(inj:∀ {k k':K} {v:Ac},is k v→is k' v→k=k'){a:Ad}{vs:Aa Ac}{ks:Aa K}{n:Aj}{h0:A5}{P:RU→Ag→Prop}(hlen:vs.length=ks.length)(hks:∀ i v,vs[i]? = Ab v→is (ks.getD i d) v)(ho:s.heap.get? a=Ab (By "list" vs.toArray n))(hu:A.units+8<CD)(hz:vs.length≤63)(c:2≤vs.length→Cmps prog w h0 vs (kB lt' ks d))(hS:Sup h0 s.heap)(ha:h0.get? a=none)
  (h:∀ ps:Aa (K × Ac),ps.Perm (ks.zip vs)→Nf lt' (ps.map (·.1))→P (.done (.ret .none)) { s with heap:=sortedHeap s.heap a vs (ps.map (·.2)).toArray }) : Ao (As prog w) A (Ew.«list.sort» ⟨[.ref a],[]⟩) P E s:=by
 rw[list_sort_plain];have hb:a<s.heap.objs.size:=Au ho;have hsz:vs.toArray.size=vs.length:=by simp
 refine Af (listItems_at ho rfl (Af (listUpdate_at ho rfl ?_ (by rw[hsz,Ct];omega) (Ds _))))
 obtain⟨e1,ho1⟩:∃ e1,(s.heap.update a (Ce fun _=>#[])).get? a=Ab (By "list" #[] e1):=⟨_,Fx ho (fun _=>#[])⟩;refine Af (seqEpoch_at ho1 rfl (Af (wpAny_newTuple (Af (Na (Bc ?_) (Ds _))) (by show vs.length≤_;rw[Ct];omega))))
 have ho6:(((s.heap.update a (Ce fun _=>#[])).push (By "tuple" vs.toArray 0)).push (By "list" #[] 0)).get? a=Ab (By "list" #[] e1):=
  Ah _ (Ah _ ho1)
 have S6:Sup h0 (((s.heap.update a (Ce fun _=>#[])).push (By "tuple" vs.toArray 0)).push (By "list" #[] 0)):=fun b o e =>
  Ah _ (Ah _ ((AY _ _ (fun z:a=b=>by rw[← z,ha] at e;cases e)).trans (hS b o e)))
 show Ao (As prog w) A _ P E { s with heap:=((s.heap.update a (Ce fun _=>#[])).push (By "tuple" vs.toArray 0)).push (By "list" #[] 0) }
 dsimp only;have fin:∀ (st':SortSt) (ps:Aa (K × Ac)),(arrOf st').map (·.2)=(ps.map (·.2)).toArray→failedOf st'=none→ps.Perm (ks.zip vs)→Nf lt' (ps.map (·.1))→Ao (As prog w) A (do
   let touched:=(← seqEpoch a) != e1
   Rv (.ref a) fun _=>(arrOf st').map (·.2)
   if let Ab e:=failedOf st' then rule "list.sort.comparison-raised";throw e
   if touched then rule "list.sort.modified";raiseError "ValueError" "list modified during sort"
   ret .none) P E { s with heap:=((s.heap.update a (Ce fun _=>#[])).push (By "tuple" vs.toArray 0)).push (By "list" #[] 0) }:=by
  intro st' ps h1 h2 h3 h4;have hl:(ps.map (·.2)).length=vs.length:=by rw[A6,h3.length_eq,Px,hlen,Od]
  refine Af (seqEpoch_at ho6 rfl ?_);rw[h1];refine Af (listUpdate_at ho6 rfl ?_ (Ds _) (by show (ps.map (·.2)).toArray.size≤_;rw[A0,hl,Ct];omega))
  rw[h2];simp only[bne_self_eq_false,AC,Bu];exact Al (h ps h3 h4)
 by_cases h2:vs.toArray.size<2
 ·rw[A7 h2,A7 h2]
  refine Af (Al ?_);rw[StateT.run_pure];refine Af (Al ?_);refine fin (SortSt.mk' general' (vs.toArray.zip vs.toArray) #[] 7 none) (ks.zip vs) ?_ rfl (L2 _) ?_
  ·show (vs.toArray.zip vs.toArray).map (·.2)=_
   apply Array.toList_inj.mp;simp[List.map_snd_zip,hlen]
  ·rw[Jp (by omega)]
   match ks,hlen with
   |[],_=>exact Gq
   |[_],_=>exact List.pairwise_singleton _ _
   |_::_::_,e=>simp at e h2;omega
 ·rw[AD h2,AD h2]
  have h2':2≤vs.length:=by omega
  obtain⟨κ,C⟩:=c h2';obtain⟨k1,k2⟩:=C A hu { s with heap:=((s.heap.update a (Ce fun _=>#[])).push (By "tuple" vs.toArray 0)).push (By "list" #[] 0) } S6
  have km:∀ i,i<vs.length→ks.getD i d∈ks:=fun i hi=>by
   have:i<ks.length:=by omega
   simp[EJ,this]
  have rc:run (kB lt' ks d) (HG vs.length)=run (lt fun i=>bP lt' ks (ks.getD i d)) (HG vs.length):=tF (fun i j hi _=>lW O (km i hi)) _ (lD (n:=vs.length) (by omega))
  obtain⟨sp1,sp2⟩:=oC (r:=fun i=>bP lt' ks (ks.getD i d)) (n:=vs.length) (by omega)
  rw[← rc] at sp1 sp2;refine Af (k1 _ _ ?_);refine Af (Dh (kat_run (ks:=vs) (vs:=vs) (Q:=fun st' s'=>(arrOf st').map (·.2)=((run (kB lt' ks d) (HG vs.length)).toList.map fun i=>vs.getD i CF).toArray∧failedOf st'=none∧s'={ s with heap:=((s.heap.update a (Ce fun _=>#[])).push (By "tuple" vs.toArray 0)).push (By "list" #[] 0) })
   (G:=fun p s'=>p=run (kB lt' ks d) (HG vs.length)∧s'={ s with heap:=((s.heap.update a (Ce fun _=>#[])).push (By "tuple" vs.toArray 0)).push (By "list" #[] 0) }) rfl h2' (by omega) (fun p st' s' a1 a2 a3 a4=>⟨?_,a3,a4.2⟩) (oF k2 _ (lD (by omega)) ⟨rfl,rfl⟩)) ?_ fun _ _ e=>e)
  ·rw[kat_snds rfl a2,a4.1]
  ·rintro⟨⟨⟩,st'⟩ s' ⟨q1,q2,rfl⟩
   generalize run (kB lt' ks d) (HG vs.length)=p at sp1 sp2 q1;have bd:∀ i (hi:i<p.toList.length),p.toList[i]<vs.length:=fun i hi=>Cq.mp (sp1.mem_iff.mp (Fa hi));refine fin _ (p.toList.map fun i=>(ks.getD i d,vs.getD i CF)) ?_ q2 ?_ ?_
   ·rw[q1,EU];rfl
   ·refine(sp1.map _).trans (List.Perm.of_eq ?_)
    apply OZ
    ·simp[hlen]
    ·intro i h1 h2
     have h3:i<vs.length:=by simpa using h1
     have h4:i<ks.length:=by omega
     simp[h3,h4]
   ·rw[EU]
    unfold Nf;rw[Ea];refine IP.mpr fun i j hi hj hij=>?_;have hp:=sp1.length_eq;rw[EN] at hp;have u:=sp2 i j (CP hij) (by omega)
    have gd:∀ k (hk:k<p.toList.length),p.getD k 0=p.toList[k]:=fun k hk=>by
     have:k<p.size:=by simpa using hk
     simp[Er,this]
    unfold ky at u;rw[gd i hi,gd j hj] at u;show lt' (ks.getD p.toList[j] d) (ks.getD p.toList[i] d)=false;rw[lW O (km _ (bd j hj))];exact Cg (HQ.mpr u)
end
section
variable {prog:A1}{w:AH}{h0:A5}
theorem VI {A:AG}{s:Ag}{b:Ap}{Q:Ap→Ag→Prop}:∀ {xs ys:Aa Am} {us vs:Aa Ac} {i:Aj} {N M:Aj},ItemsAre (Av prog w) xs us→ItemsAre (Av prog w) ys vs→N+ys.length=M+xs.length→Q (_H.lexLt xs ys) s→KatLex prog w A b (decide (N<M)) Q (us.zip vs) i s:=by
 intro xs ys us vs i N M hx
 induction hx generalizing ys vs i with
 |nil =>
  intro hy hl h;cases hy with
  |nil =>
   have:decide (N<M)=false:=Cg (by simp at hl;omega)
   rw[this];exact h
  |@cons k v ys vs q r =>
   have:decide (N<M)=true:=Cd (by simp at hl;omega)
   rw[this];exact h
 |@cons x u xs us qx rx ih =>
  intro hy hl h;cases hy with
  |nil =>
   have:decide (N<M)=false:=Cg (by simp at hl;omega)
   rw[this];exact h
  |@cons y v ys vs qy ry =>
   obtain⟨t,rfl⟩:=xP (prog:=prog) (w:=w) qx;obtain⟨t',rfl⟩:=xP (prog:=prog) (w:=w) qy;rw[List.zip_cons_cons];refine kat_cons (OH ?_);rw[_H.lexLt_cons] at h;refine kat_go (fun e=>kat_yes ?_) fun e=>kat_no ?_
   ·rw[A7 (by simpa using e)] at h
    exact ih ry (by simp at hl;omega) h
   ·rw[AD (by simpa using e)] at h
    cases b&&i == 0 with
    |true=>exact oneLt_int h
    |false=>exact kat_one _ _ (RM h)
theorem rG {h:A5}:∀ {vs:Aa Ac} {ks:Aa (Aa Am)},vs.length=ks.length→(∀ i v,vs[i]? = Ab v→isT prog w h (ks.getD i []) v)→(∀ k∈ks,k≠[])→∃ fs,KatTups h vs fs∧fs.length=vs.length∧∀ f∈fs,∃ n t,f=Hx n t
 |[],[],_,_,_=>⟨[],trivial,rfl,fun f hf=>by simp at hf⟩
 |v::vs,k::ks,hl,hv,hne=>by
  obtain⟨fs,a1,a2,a3⟩:=rG (vs:=vs) (ks:=ks) (by simpa using hl) (fun i u hu=>by simpa using hv (i+1) u (by simpa using hu)) fun k hk=>hne k (by simp[hk])
  obtain⟨a,rfl,o,items,n,ho,hc,hd,hi⟩:=hv 0 v rfl;have hk:k≠[]:=hne k (by simp)
  have hi':ItemsAre (Av prog w) k items.toList:=hi;cases hz:items.toList with
  |nil=>rw[hz] at hi';cases hi';exact absurd rfl hk
  |cons f rest =>
   rw[hz] at hi';cases hi' with
   |cons q _ =>
    obtain⟨t,rfl⟩:=xP (prog:=prog) (w:=w) q;refine⟨_::fs,KatTups.cons ho hc hd (by rw[← AJ,hz];rfl) a1,by simp[a2],fun f hf=>?_⟩
    rcases Aw.mp hf with rfl|hf
    ·exact⟨_,_,rfl⟩
    ·exact a3 f hf
theorem JU {ks:Aa (Aa Am)}(hl:vs.length=ks.length)(hv:∀ i v,vs[i]? = Ab v→isT prog w h0 (ks.getD i []) v)(hne:∀ k∈ks,k≠[])(h2:2≤vs.length):Cmps prog w h0 vs (kB _H.lexLt ks []):=by
 refine⟨tuples' (Dv "int" != Dv "tuple"),fun A hu s hS=>⟨fun Q E h=>?_,fun i j C hi hj h=>?_⟩⟩
 ·obtain⟨fs,a1,a2,a3⟩:=rG (h:=s.heap) hl (fun i v hv'=>by obtain⟨a,e,q⟩:=hv i v hv';exact⟨a,e,v3 hS q⟩) hne
  refine kat_kind a1 (by omega) (fun v hv'=>?_) (by decide) h
  obtain⟨n,t,rfl⟩:=a3 v hv';exact Looks.of_pure rfl
 ·have g:∀ k (hk:k<vs.length),∃ a,vs.getD k CF=.ref a∧HN (Av prog w) s.heap (ks.getD k []) a:=fun k hk=>by
   obtain⟨a,e,q⟩:=hv k vs[k] (Aq hk);exact⟨a,by rw[← e];simp[EJ,hk],v3 hS q⟩
  obtain⟨a,ea,oa,ia,na,ha,_,da,qa⟩:=g i hi;obtain⟨b,eb,ob,ib,nb,hb,_,db,qb⟩:=g j hj;unfold kas_ask;rw[ea,eb];refine kat_lt ha da hb db (VI qa qb ?_ h);have la:=qa.length;have lb:=qb.length;simp only[Bb] at la lb;omega
theorem JT {ks:Aa Am}(hl:vs.length=ks.length)(hv:∀ i v,vs[i]? = Ab v→isI prog w (ks.getD i 0) v)(h2:2≤vs.length):Cmps prog w h0 vs (kB ltI ks 0):=by
 have hi:∀ v∈vs,∃ n t,v=Hx n t:=fun v hm=>by
  obtain⟨i,hi,e⟩:=Bl.mp hm;obtain⟨t,q⟩:=xP (hv i v (by rw[Aq hi,e]))
  exact⟨_,t,q⟩
 refine⟨oneType',fun A hu s hS=>⟨fun Q E h=>?_,fun i j C hi hj h=>?_⟩⟩
 ·obtain⟨v₁,v₂,rest,rfl⟩:∃ v₁ v₂ rest,vs=v₁::v₂::rest:=by
   match vs,h2 with
   |v₁::v₂::rest,_=>exact⟨v₁,v₂,rest,rfl⟩
  rw[keyKind_ints (intsAre_map _ hi)];exact Al h
 ·have g:∀ k (hk:k<vs.length),∃ t,vs.getD k CF=.int (ks.getD k 0) t:=fun k hk=>by
   obtain⟨t,q⟩:=xP (hv k vs[k] (Aq hk));exact⟨t,by rw[← q];simp[EJ,hk]⟩
  obtain⟨t,et⟩:=g i hi;obtain⟨u,eu⟩:=g j hj;unfold kas_ask;rw[et,eu];exact kat_lt_int h
end
section
variable {K:Type}{lt':K→K→Ap}
theorem oH {α:Type}{ks:Aa K}{vs:Aa α}{d:K}(hl:vs.length=ks.length){p:K × α}(h:p∈ks.zip vs):∃ i,vs[i]? = Ab p.2∧ks.getD i d=p.1:=by
 obtain⟨i,hi,e⟩:=Bl.mp h;have h1:i<ks.length:=by rw[Px] at hi;omega
 have h2:i<vs.length:=by omega
 rw[List.getElem_zip] at e;subst e;exact⟨i,Aq h2,by simp[h1]⟩
end
structure Kind (prog:A1)(w:AH){K:Type}(is:K→Ac→Prop)(hash:K→Am)(lt':K→K→Ap)(d:K)(Fit:K→Prop)(h0:A5):Prop where
 ord:Ord lt'
 inj:∀ {k k':K} {v:Ac},is k v→is k' v→k=k'
 cmps:∀ {vs:Aa Ac} {ks:Aa K},vs.length=ks.length→(∀ i v,vs[i]? = Ab v→is (ks.getD i d) v)→(∀ k∈ks,Fit k)→2≤vs.length→Cmps prog w h0 vs (kB lt' ks d)
theorem WB (prog:A1)(w:AH)(h0:A5):Kind prog w (isT prog w h0) (AA (Av prog w)) _H.lexLt [] (·≠[]) h0:=⟨pM,isT.inj,fun h1 h2 h3 h4=>JU h1 h2 h3 h4⟩
theorem WA (prog:A1)(w:AH)(h0:A5):Kind prog w (isI prog w) (Av prog w).hash ltI 0 (fun _=>EY) h0:=⟨LW,fun a b=>(Av prog w).inj _ _ _ a b,fun h1 h2 _ h4=>JT h1 h2 h4⟩
section
variable {prog:A1}{w:AH}{A:AG}{E:Ac→Ag→Prop}{s:Ag}{K:Type}{is:K→Ac→Prop}{hash:K→Am}{lt':K→K→Ap}{d:K}{Fit:K→Prop}{h0:A5}{S:Ad}{V:Aa Ac}{seen:Aa K}
open Classical in
def kOf (is:K→Ac→Prop)(d:K)(e:Am × Ac):K:=if h:∃ k,is k e.2 then choose h else d
open Classical in
theorem GM {e:Am × Ac}(h:∃ k,is k e.2):is (kOf is d e) e.2:=by
 unfold kOf;rw[dif_pos h];exact choose_spec h
theorem c8 {Q:Ac→Ag→Prop}(kd:Kind prog w is hash lt' d Fit h0)(hh:A.handled=none)(hu:A.units+16<CD)(hS:Sup h0 s.heap)(Z:SetK is hash S (xM w) V seen s.heap)(hf:∀ k∈seen,Fit k){U:Aa K}(hU:U.length≤63)(hU1:∀ k∈seen,k∈U)
  (h:∀ h' tk D c (ps:Aa (K × Ac)),(∀ b o,s.heap.get? b=Ab o→h'.get? b=Ab o)→s.heap.objs.size≤D→h'.get? D=Ab (By "list" (ps.map (·.2)).toArray c)→ps.map (·.1)=srt lt' seen→(∀ p∈ps,is p.1 p.2∧p.2∈V)→ps.length≤63→Q (.ref D) { s with heap:=h',toks:=tk }) :
  Ao (As prog w) A (call (.builtin "sorted") [.ref S]) Q E s:=by
 obtain⟨es,ep,t,ho,Z0,T,hl,hV⟩:=Z;have st:Still w S es ep t:=⟨T,hl⟩;have hn:es.size≤63:=by
  have:=pI es.toList U Z0.nd fun e he=>by
   obtain⟨k',_,q⟩:=Z0.good e he;exact⟨k',hU1 k' ((Z0.mem k').mpr ⟨e,he,q⟩),q⟩
  rw[Bb] at this;omega
 have op:=bL w S ep es;have osz:=vF w S ep es;have good:∀ e∈(qO w S ep es).toList,is (kOf is d e) e.2∧e.2∈V:=fun e he=>by
  have he':=op.mem_iff.mp he;obtain⟨k,_,q⟩:=Z0.good e he';exact⟨GM ⟨k,q⟩,hV e he'⟩
 have nd0:(qO w S ep es).toList.Pairwise fun a b=>∀ k,is k a.2→¬ is k b.2:=(op.pairwise_iff fun {x y} h k hy hx=>h k hx hy).mpr Z0.nd;generalize hoe:(qO w S ep es).toList=oe at *;have hoel:oe.length≤63:=by rw[op.length_eq,Bb];exact hn
 have hks:∀ i v,(oe.map (·.2))[i]? = Ab v→is ((oe.map (kOf is d)).getD i d) v∧v∈V:=fun i v hv=>by
  rw[Bh] at hv;cases hi:oe[i]? with
  |none=>rw[hi] at hv;cases hv
  |some e =>
   rw[hi] at hv;cases hv;have g:=good e (A4 hi);have:(oe.map (kOf is d)).getD i d=kOf is d e:=by rw[List.getD_eq_getElem?_getD,Bh,hi];rfl
   rw[this];exact g
 have nd:(oe.map (kOf is d)).Nodup:=by
  unfold Qi;rw[Ea];refine Ja (fun {a b} ha hb h e=>?_) nd0;exact h _ (good a ha).1 (e▸(good b hb).1)
 have mem:∀ x,x∈oe.map (kOf is d)↔x∈seen:=fun x=>by
  rw[Z0.mem,Cc];constructor
  ·rintro⟨e,he,rfl⟩
   exact⟨e,op.mem_iff.mp he,(good e he).1⟩
  ·rintro⟨e,he,q⟩
   exact⟨e,op.mem_iff.mpr he,kd.inj (good e (op.mem_iff.mpr he)).1 q⟩
 have hlen:(oe.map (·.2)).length=(oe.map (kOf is d)).length:=by simp
 refine IV kind_sorted plain_sorted entry_sorted (args_sorted1 _) ?_;unfold Ew.«sorted»;refine Af (m:=checkCount "sorted" 1 1 _) (Al ?_);refine Af (dF hh st ho (by omega) fun h1 tk1 kp1 hlt=>?_)
 rw[hoe];refine Af (Na ?_ (by rw[Ct,A6];omega))
 have hD:(h1.push (By "list" (oe.map (·.2)).toArray 0)).get? h1.objs.size=Ab (By "list" (oe.map (·.2)).toArray 0):=Az _ rfl
 have n0:h0.get? h1.objs.size=none:=by
  cases q:h0.get? h1.objs.size with
  |none=>rfl
  |some o=>exact absurd (Au (hS _ _ q)) (Ha.mpr (CP hlt))
 show Ao _ _ _ _ _ { s with heap:=h1.push (By "list" (oe.map (·.2)).toArray 0),toks:=tk1 }
 refine Af (Bc (Cy slot_list_sort ⟨_,hD,rfl⟩ Py (WE (h0:=h0) (is:=is) kd.ord kd.inj (d:=d) (vs:=oe.map (·.2)) hlen (fun i v hv=>(hks i v hv).1) hD (by show A.units+2+8<CD;omega) (by rw[A6];omega) (fun h2=>kd.cmps hlen (fun i v hv=>(hks i v hv).1) (fun k hk=>hf k ((mem k).mp hk)) h2) (fun b o e=>Ah _ (kp1 b o (hS b o e))) n0 fun ps pm nf=>⟨_,rfl,?_⟩) (args_list_sort _)))
 refine Al ⟨_,rfl,?_⟩;have hz:(h1.push (By "list" (oe.map (·.2)).toArray 0)).objs.size=h1.objs.size+1:=size_push' ..
 have old:∀ b o,b≠h1.objs.size→(h1.push (By "list" (oe.map (·.2)).toArray 0)).get? b=Ab o→((((h1.push (By "list" (oe.map (·.2)).toArray 0)).update h1.objs.size (Ce fun _=>#[])).push (By "tuple" (oe.map (·.2)).toArray 0)).push (By "list" #[] 0)).get? b=Ab o:=fun b o hb e =>
  Ah _ (Ah _ ((AY _ _ (CZ hb)).trans e))
 obtain⟨e1,he1⟩:∃ e1,((h1.push (By "list" (oe.map (·.2)).toArray 0)).update h1.objs.size (Ce fun _=>#[])).get? h1.objs.size=Ab (By "list" #[] e1):=⟨_,Fx hD (fun _=>#[])⟩
 have he6:=Fx (Ah (By "list" #[] 0) (Ah (By "tuple" (oe.map (·.2)).toArray 0) he1)) (fun _=>(ps.map (·.2)).toArray)
 have pk:(ps.map (·.1)).Perm (oe.map (kOf is d)):=by
  have:=pm.map (·.1)
  rwa [Jp (by omega)] at this
 refine h _ tk1 h1.objs.size _ ps (fun b o e=>?_) (CP hlt) he6 (P6 kd.ord nf (pk.nodup_iff.mpr nd) fun x=>by rw[pk.mem_iff,mem]) (fun p hp=>?_) (by have:=pk.length_eq;rw[A6,A6] at this;omega)
 ·have hb:b≠h1.objs.size:=fun z=>by
   subst z;exact absurd (Au e) (Ha.mpr (CP hlt))
  exact(AY _ _ (CZ hb)).trans (old b o hb (Ah _ (kp1 b o e)))
 ·obtain⟨i,e1,e2⟩:=oH (d:=d) hlen (pm.mem_iff.mp hp)
  exact e2▸hks i _ e1
end
end _S
namespace _D
open PySem PySem.Spec PyProof.Rows _L
variable {items:AB Ac}{es:Aa AF}
def vG:Aa D→Ak (Aa (Aa Am))
 |[]=>Ab []
 |.tup ys::r=>(xZ ys).bind fun k=>(vG r).map (k::·)
 |_::_=>none
def tpD (k:Aa Am):D:=.tup (k.map D.int)
theorem pR:∀ {ds:Aa D} {ks:Aa (Aa Am)},vG ds=Ab ks→ds=ks.map tpD
 |[],ks,h=>by cases h;rfl
 |d::r,ks,h=>by
  cases d with
  |tup ys =>
   obtain⟨k,h1,h2⟩:=Cf.mp (show (xZ ys).bind (fun k=>(vG r).map (k::·))=Ab ks from h)
   obtain⟨m,h3,rfl⟩:=AZ.mp h2;rw[pR h3,jI h1];rfl
  |_=>cases h
theorem tN (ks:Aa (Aa Am)):vG (ks.map tpD)=Ab ks:=by
 induction ks with
 |nil=>rfl
 |cons k ks ih =>
  show (xZ (k.map D.int)).bind (fun k=>(vG (ks.map tpD)).map (k::·))=_
  rw[aJ,ih];rfl
def vZ (xs:Aa D):Ak (Aa D):=match xZ xs with
 |some ns=>if (_S.srt _S.ltI ns).length≤63 then Ab ((_S.srt _S.ltI ns).map D.int) else none
 |none=>match vG xs with
  |some ks=>if ((_S.srt _H.lexLt ks).length≤63&&ks.all fun k=>!k.isEmpty) then Ab ((_S.srt _H.lexLt ks).map tpD) else none
  |none=>none
def XB:D→Ak (Aa D)
 |.lst xs=>Ab xs
 |.tup xs=>Ab xs
 |_=>none
theorem XI {K:Type}{lt':K→K→Ap}(O:_S.Ord lt')(ks:Aa K)(d:K):_S.srt lt' (_S.xY (fun i=>ks.getD i d) ks.length)=_S.srt lt' ks:=
 _S.m9 O (_S.g6 O _) (_S.g6 O _) fun x=>by
  rw[_S.yO O,_S.yO O,_S.uE];constructor
  ·rintro⟨i,hi,rfl⟩
   simp[EJ,hi]
  ·intro hx
   obtain⟨i,hi,e⟩:=Bl.mp hx;exact⟨i,hi,by simp[EJ,hi,e]⟩
section
variable {X:Cx}{e:AF}{fa:DE}{p1 p2 pos1 pos2:CA}
theorem cL:Dd "sorted" = Ab (.builtin "sorted"):=by decide +kernel
theorem fN {prog:A1}{w:AH}:∀ {k:Aa Am} {us:Aa Ac},qK (k.map V.int) us→ItemsAre (Av prog w) k us
 |[],us,h=>by cases h;exact .nil
 |i::k,us,h=>by
  cases h with
  |cons q t =>
   obtain⟨tk,rfl⟩:=q;exact .cons (Mx _ _ _ _) (fN t)
theorem d0 {pins:Aa (Ad × AU)}{σ:_L.St}{H P:Hp}{α:Aa Ad}{S:Sto}{s:Ag}{d:D}{xs:Aa D}{v:V}{vv:Ac}(I:Inv X pins σ H s)(r:Rel X.K H P α S)(p:Rep X.K P α d v)(q:qJ v vv)(h:XB d=Ab xs) :
  ∃ a vs its,vv=.ref a∧qD X.K P α xs vs∧qK vs its∧(s.heap.IsList a its.toArray∨s.heap.IsTuple a its.toArray)∧xs.length=its.length:=by
 cases d with
 |lst ys =>
  cases h;obtain⟨a,vs,its,n,rfl,_,t,rv,e,l,_⟩:=vS I r p;exact⟨a,vs,its,q,t,rv,.inl ⟨_,e,rfl,n,rfl⟩,l⟩
 |tup ys =>
  cases h;obtain⟨a,vs,its,rfl,_,t,rv,⟨o,e,hc,n,hd⟩,l,_⟩:=j2 I r p;exact⟨a,vs,its,q,t,rv,.inr ⟨o,e,hc,n,hd⟩,l⟩
 |_=>cases h
end
section
variable {prog:A1}{w:AH}{A:AG}{E:Ac→Ag→Prop}{s:Ag}
theorem mO {it l:Ad}(hne:l≠it):∀ (n i:Aj) (s:Ag) (Q:Aa Ac→Ag→Prop),s.heap.IsListIter it l i→s.heap.IsList l items→i+n≤items.size →
  (∀ h',h'.IsListIter it l (i+n)→Di it s.heap h'→Q ((items.toList.drop i).take n) { s with heap:=h' }) → Ao (As prog w) A (draw (.ref it) n) Q E s
 |0,i,s,Q,hit,_,_,hQ=>by
  show Ao _ _ (pure []) Q E s;exact Al (by simpa using hQ s.heap hit (Gs ..))
 |n+1,i,s,Q,hit,ht,hle,hQ=>by
  have hlt:i<items.size:=by omega
  show Ao _ _ (Hg (.ref it) >>= _) Q E s;refine Af (Kh hit ht (x:=items[i]) (by simp[hlt]) fun h₁ hit₁ hs₁=>?_)
  refine Af (Bc (mO hne n (i+1) _ _ hit₁ (ht.extBut hs₁.extBut hne) om fun h₂ hit₂ hs₂=>Al ?_));have hd:items.toList.drop i=items[i]::items.toList.drop (i+1):=by simp[Fi,hlt]
  have:=hQ h₂ (by rw[show i+(n+1)=i+1+n by omega];exact hit₂) (hs₁.trans hs₂)
  rw[hd,List.take_succ_cons] at this;exact this
theorem pS {l:Ad}{Q:Aa Ac→Ag→Prop}(hh:A.handled=none)(ht:s.heap.IsList l items)
  (hQ:∀ h',OT s.heap.objs.size s.heap h'→Q items.toList { s with heap:=h' }) : Ao (As prog w) A (OJ (.ref l) items.size none) Q E s:=by
 have hlt:l≠s.heap.objs.size:=by obtain⟨o,ho,_⟩:=ht;exact AL (Au ho)
 unfold OJ notIterableAtAll;refine Af (Af (H9 ht.typeIs PySem.slot_list_iter.lookup (Al ?_)));simp only[AC,Bu];refine Af (Bc (Dm ht ?_));refine Af (Bc (mO hlt items.size 0 _ _ ⟨_,Az _ rfl,rfl,rfl⟩ (ht.push _) om fun h₁ hit₁ hs₁=>?_));have hall:List.take items.size (List.drop 0 items.toList)=items.toList:=by
  rw[List.drop_zero];exact List.take_of_length_le (by simp)
 rw[hall,AD (by simp)]
 have ht₁:h₁.IsList l items:=(ht.push _).extBut hs₁.extBut hlt;refine Af (Bc (Le hh hit₁ ht₁ (by simp) fun h₂ he₂=>?_))
 simp only[Option.isSome_none,AC,Bu];exact Al (hQ h₂ fun b o hb e=>he₂ b o hb (hs₁.extBut b o hb (Ah _ e)))
end
section
variable {X:Cx}{pos:CA}
def lC (n:Aj)(gs:DGs):DG:=fun d env S=>match d with
 |.lst xs=>if xs.length=n then gs xs env S else .bad
 |_=>.bad
set_option tactic.hygienic true in
theorem YK {k:Aj}{gs:DGs}{n:Aj}(hc:X.calm=true)(h:PGs X es (m8 X gs))(hn:(Cs es X.env).length=n:=by rfl)(hst:(Cs es X.env).findIdx? (·.1)=none:=by rfl):PG X (.Tuple es k pos) (tDG X (lC n gs)):=by
 intro pins s σ H v u Q I rv hw;obtain⟨P,α,env,S,d,r,re,rp,af⟩:=hw;cases d with
 |lst xs =>
  simp only[lC] at af
  split at af
  ·rename_i hl
   obtain⟨a,vs,its,m,rfl,_,t,rvi,e,l1,_⟩:=vS I r rp;cases (show u=AS a from rv)
   rw[assign_Tuple];refine Af (Hf ?_);unfold unpack;rw[hst];have hz:(Cs es X.env).length=its.toArray.size:=by rw[hn,A0,← l1,hl]
   rw[hz];refine Af (Bc (pS (I.ok.hd hc) ⟨_,e,rfl,m,rfl⟩ fun h' hx=>?_));have I1:Inv X pins σ H { s with heap:=h' }:=I.kept (t':=s.toks) fun b o e=>hx b o (AL (Au e)) e
   exact h pins _ σ H vs _ Q I1 (by simpa using rvi) ⟨P,α,env,S,xs,r,re,t,af⟩
  ·exact An af
 |_=>exact An af
end
section
variable {X:Cx}{cm:Ap}{k:Aj}{e:AF}{fa:DE}{p1 p2 pos1 pos2:CA}
theorem UC {kk n:Aj}{gs:DGs}{pos:CA}(hc:X.calm=true)(h:QGs X es gs)(hn:(Cs es X.env).length=n:=by rfl)(hst:(Cs es X.env).findIdx? (·.1)=none:=by rfl):QG X (.Tuple es kk pos) (lC n gs):=⟨YK hc h.1 hn hst⟩
end
end _D
section
namespace _D
open PySem PySem.Spec PyProof.Rows _L
mutual
def pyD:D→Ak PyData
 |.non=>Ab .none
 |.bl b=>Ab (.bool b)
 |.int i=>Ab (.int i)
 |.str x=>Ab (.str x)
 |.tup xs=>(lS xs).map .tuple
 |.lst xs=>(lS xs).map .list
 |.dct0=>Ab (.dict [])
 |_=>none
def lS:Aa D→Ak (Aa PyData)
 |[]=>Ab []
 |d::ds=>(pyD d).bind fun x=>(lS ds).map (x::·)
end
end _D
end
namespace _S
open PySem PySem.W PyProof.Rows
section
variable {prog:A1}{w:AH}{A:AG}{E:Ac→Ag→Prop}{s:Ag}{K:Type}{is:K→Ac→Prop}{hash:K→Am}{lt':K→K→Ap}{d:K}{Fit:K→Prop}{h0:A5}
theorem c7 {Q:Ac→Ag→Prop}(kd:Kind prog w is hash lt' d Fit h0)(hu:A.units+16<CD)(hS:Sup h0 s.heap){l:Ad}{vs:Aa Ac}(hl:s.heap.IsList l vs.toArray∨s.heap.IsTuple l vs.toArray)(ks:Aa K)(hlen:vs.length=ks.length)(hks:∀ i v,vs[i]? = Ab v→is (ks.getD i d) v)(hf:∀ k∈ks,Fit k)(hoel:vs.length≤63)
  (h:∀ (h1 h':A5) (tk:Aj) (D:Ad) (c:Aj) (ps:Aa (K × Ac)),(∀ b o,s.heap.get? b=Ab o→h1.get? b=Ab o)→(∀ b o,h1.get? b=Ab o→h'.get? b=Ab o)→h1.objs.size≤D→h'.get? D=Ab (By "list" (ps.map (·.2)).toArray c)→ps.map (·.1)=yN lt' ks→(∀ p∈ps,is p.1 p.2∧p.2∈vs)→ps.length=ks.length→Q (.ref D) { s with heap:=h',toks:=tk }) :
  Ao (As prog w) A (call (.builtin "sorted") [.ref l]) Q E s:=by
 refine IV kind_sorted plain_sorted entry_sorted (args_sorted1 _) ?_;unfold Ew.«sorted»;refine Af (m:=checkCount "sorted" 1 1 _) (Al ?_);have hcol:∀ {R:Aa Ac→Ag→Prop},(∀ h1:A5,(∀ b o,s.heap.get? b=Ab o→h1.get? b=Ab o)→R vs { s with heap:=h1 }) → Ao (As prog w) A.in1 (collect (.ref l)) R E s:=fun {R} hR=>by
  have e:vs.toArray.toList=vs:=by simp
  rcases hl with⟨o,ho,hc,n,hd⟩|⟨o,ho,hc,n,hd⟩
  ·exact OG l (.inl rfl) ho hc hd (fun h' hk=>by rw[e];exact hR h' hk) (by rw[A0,Ct];omega)
  ·exact OG l (.inr rfl) ho hc hd (fun h' hk=>by rw[e];exact hR h' hk) (by rw[A0,Ct];omega)
 refine Af (hcol fun h1 kp1=>?_);refine Af (Na ?_ (by rw[Ct];omega))
 have hD:(h1.push (By "list" vs.toArray 0)).get? h1.objs.size=Ab (By "list" vs.toArray 0):=Az _ rfl;have n0:h0.get? h1.objs.size=none:=by
  cases q:h0.get? h1.objs.size with
  |none=>rfl
  |some o=>exact absurd (Au (kp1 _ _ (hS _ _ q))) (Cj _)
 show Ao _ _ _ _ _ { s with heap:=h1.push (By "list" vs.toArray 0),toks:=s.toks }
 refine Af (Bc (Cy slot_list_sort ⟨_,hD,rfl⟩ Py (WE (h0:=h0) (is:=is) kd.ord kd.inj (d:=d) (vs:=vs) hlen hks hD (by show A.units+2+8<CD;omega) hoel (fun h2=>kd.cmps hlen hks hf h2) (fun b o e=>Ah _ (kp1 b o (hS b o e))) n0 fun ps pm nf=>⟨_,rfl,?_⟩) (args_list_sort _)))
 refine Al ⟨_,rfl,?_⟩;have hz:(h1.push (By "list" vs.toArray 0)).objs.size=h1.objs.size+1:=size_push' ..;have old:∀ b o,b≠h1.objs.size→(h1.push (By "list" vs.toArray 0)).get? b=Ab o→((((h1.push (By "list" vs.toArray 0)).update h1.objs.size (Ce fun _=>#[])).push (By "tuple" vs.toArray 0)).push (By "list" #[] 0)).get? b=Ab o:=fun b o hb e =>
  Ah _ (Ah _ ((AY _ _ (CZ hb)).trans e))
 obtain⟨e1,he1⟩:∃ e1,((h1.push (By "list" vs.toArray 0)).update h1.objs.size (Ce fun _=>#[])).get? h1.objs.size=Ab (By "list" #[] e1):=⟨_,Fx hD (fun _=>#[])⟩;have he6:=Fx (Ah (By "list" #[] 0) (Ah (By "tuple" vs.toArray 0) he1)) (fun _=>(ps.map (·.2)).toArray)
 have pk:(ps.map (·.1)).Perm ks:=by
  have:=pm.map (·.1)
  rwa [Jp (by omega)] at this
 refine h h1 _ s.toks h1.objs.size _ ps kp1 (fun b o e=>?_) (A2 _) he6 (sR kd.ord nf (rF kd.ord ks) (pk.trans (kY ks).symm)) (fun p hp=>?_) (by have:=pk.length_eq;rwa [A6] at this)
 ·have hb:b≠h1.objs.size:=fun z=>by
   subst z;exact absurd (Au e) (Cj _)
  exact(AY _ _ (CZ hb)).trans (old b o hb (Ah _ e))
 ·obtain⟨i,e1,e2⟩:=oH (d:=d) hlen (pm.mem_iff.mp hp)
  exact⟨e2▸hks i _ e1,A4 e1⟩
end
end _S
namespace _D
open PySem PySem.Spec PyProof.Rows _L
def jP (xs:Aa D):Ak (Aa D):=match xZ xs with
 |some ns=>if ns.length≤63 then Ab ((_S.yN _S.ltI ns).map D.int) else none
 |none=>match vG xs with
  |some ks=>if (decide (ks.length≤63)&&ks.all fun k=>!k.isEmpty) then Ab ((_S.yN _H.lexLt ks).map tpD) else none
  |none=>none
def XH (R:Aa D→Sto→Res D):DF:=fun ds S=>match ds with
 |[d]=>match (XB d).bind jP with
  |some ys=>R ys S
  |none=>.bad
 |_=>.bad
def uV:DF:=XH fun ys S=>.ok (.lst ys) S
section
variable {X:Cx}{pins:Aa (Ad × AU)}{σ : _L.St}{H P:Hp}{α : Aa Ad}{S:Sto}{s:Ag}
inductive NewR (X:Cx)(pins:Aa (Ad × AU))(σ : _L.St)(H P:Hp)(α : Aa Ad)(ys:Aa D)(u:Ac)(s':Ag):Prop
 |mk (D:Ad) (vs:Aa V) (e:u=.ref D) (hn:H D=none) (I:Inv X pins σ (upd H D (.lst vs)) s') (rp:qD X.K P α ys vs):NewR X pins σ H P α ys u s'
theorem tI {K:Type}{is:K→Ac→Prop}{hash:K→Am}{lt':K→K→Ap}{d:K}{Fit:K→Prop}(kd:_S.Kind X.prog X.w is hash lt' d Fit s.heap)(hu:X.A.units+64<CD)(I:Inv X pins σ H s)(r:Rel X.K H P α S){a:Ad}{its:Aa Ac}
  (ha:s.heap.IsList a its.toArray∨s.heap.IsTuple a its.toArray) (ks:Aa K) (hl:ks.length=its.length) (hk:∀ i v,its[i]? = Ab v→is (ks.getD i d) v) (hn:ks.length≤63) (hf:∀ k∈ks,Fit k) (enc:K→D)
  (back:∀ k v,is k v→v∈its→∃ vv,qJ vv v∧Rep X.K P α (enc k) vv) {E:Ac→Ag→Prop} :
  Ao (As X.prog X.w) X.A (call (.builtin "sorted") [.ref a]) (NewR X pins σ H P α ((_S.yN lt' ks).map enc)) E s:=by
 refine _S.c7 kd om (fun _ _ e=>e) ha ks hl.symm hk hf om fun h1 h2 tk2 D c ps kp1 kp2 hD hob hps hp hpl=>?_;have I1:Inv X pins σ H { s with heap:=h1,toks:=s.toks }:=I.kept kp1
 have vv:∀ (ps:Aa (K × Ac)),(∀ p∈ps,is p.1 p.2∧p.2∈its)→∃ vs,qK vs (ps.map (·.2))∧qD X.K P α ((ps.map (·.1)).map enc) vs:=by
  intro ps
  induction ps with
  |nil=>exact fun _=>⟨[],.nil,.nil⟩
  |cons p ps ih =>
   intro h;obtain⟨vs,a1,a2⟩:=ih fun q hq=>h q (by simp[hq])
   obtain⟨v,b1,b2⟩:=back p.1 p.2 (h p (by simp)).1 (h p (by simp)).2
   exact⟨v::vs,.cons b1 a1,.cons b2 a2⟩
 obtain⟨vs,a1,a2⟩:=vv ps hp;rw[hps] at a2;have nd:([(D,HO.lst vs)].map (·.1)).Nodup:=by simp
 have I2:Inv X pins σ (uL H [(D,HO.lst vs)]) { s with heap:=h2,toks:=tk2 }:=Inv.laidL (s:={ s with heap:=h1,toks:=s.toks }) (L:=[(D,HO.lst vs)]) (t':=tk2) I1 kp2 (fun p hpm=>by
  have:p=(D,HO.lst vs):=by simpa using hpm
  subst this;exact hD) fun p hpm=>by
  have:p=(D,HO.lst vs):=by simpa using hpm
  subst this;refine⟨?_,ps.map (·.2),c,a1,hob⟩
  have:=a1.length;rw[A6] at this;rw[this,Ct];omega
 exact⟨D,vs,rfl,I1.hok.fresh hD,I2,a2⟩
set_option tactic.hygienic true in
theorem c6 {E:Ac→Ag→Prop}(hu:X.A.units+64<CD)(I:Inv X pins σ H s)(r:Rel X.K H P α S){a:Ad}{xs ys:Aa D}{vs:Aa V}{its:Aa Ac}(t1:qD X.K P α xs vs)(rv1:qK vs its)(e1:s.heap.IsList a its.toArray∨s.heap.IsTuple a its.toArray)(l1:xs.length=its.length)(hs:jP xs=Ab ys) :
  Ao (As X.prog X.w) X.A (call (.builtin "sorted") [.ref a]) (NewR X pins σ H P α ys) E s:=by
 unfold jP at hs;cases hi:xZ xs with
 |some ns =>
  rw[hi] at hs;dsimp only at hs
  split at hs
  ·rename_i hlt
   cases hs;have:=jI hi;subst this;have:=yX t1;subst this;refine tI (d:=0) (_S.WA X.prog X.w s.heap) hu I r e1 ns (by simpa using l1) (fun i u hu'=>?_) hlt (fun _ _=>trivial) D.int fun k u hk _=>?_
   ·have hi:IG its ns:=by simpa using bA rv1
    obtain⟨t,rfl⟩:=Ic hi i u hu';exact Mx _ _ _ _
   ·obtain⟨t,rfl⟩:=_S.xP hk
    exact⟨.int k,⟨t,rfl⟩,by simp only[Rep]⟩
  ·cases hs
 |none =>
  rw[hi] at hs;dsimp only at hs;cases ht:vG xs with
  |none=>rw[ht] at hs;cases hs
  |some ks =>
   rw[ht] at hs;dsimp only at hs
   split at hs
   ·rename_i hlt
    cases hs;rw[A3,AV] at hlt;have:=pR ht;subst this;have at':∀ (i:Aj) (u:Ac),its[i]? = Ab u→∃ b,u=.ref b∧HN (Av X.prog X.w) s.heap (ks.getD i []) b∧∃ vv,qJ vv u∧Rep X.K P α (tpD (ks.getD i [])) vv:=fun i u hu'=>by
     have hii:i<its.length:=(Ay.mp hu').1;have hik:i<ks.length:=by rw[A6] at l1;omega
     obtain⟨v,p,q,_⟩:=yK t1 rv1 (j:=i) (by rw[A0];exact hii)
     have hd:(ks.map tpD).getD i D.non=tpD (ks.getD i []):=by simp[EJ,hik]
     rw[hd] at p;have hu2:its.toArray[i]'(by rw[A0];exact hii)=u:=by
      rw[Aq hii] at hu';simpa using hu'
     rw[hu2] at q;obtain⟨b,ws,us,rfl,sq,t,rv,⟨o,ho,hcl,m,hd⟩,_,_⟩:=j2 I r (show Rep X.K P α (.tup ((ks.getD i []).map D.int)) v from p)
     cases (show u=AS b from q)
     have:=yX t;subst this;exact⟨b,rfl,⟨o,us.toArray,m,ho,hcl,hd,by simpa using fN rv⟩,.ref b,rfl,p⟩
    refine tI (d:=[]) (_S.WB X.prog X.w s.heap) hu I r e1 ks (by simpa using l1) (fun i u hu'=>?_) hlt.1 (fun k hk=>?_) tpD fun k u hk hm'=>?_
    ·obtain⟨b,rfl,q,_⟩:=at' i u hu'
     exact⟨b,rfl,q⟩
    ·have:=AQ.mp hlt.2 k hk
     intro z;subst z;cases this
    ·obtain⟨i,hi',rfl⟩:=Bl.mp hm'
     obtain⟨b,eb,q,w,rw',pw⟩:=at' i _ (Aq hi');have:k=ks.getD i []:=_S.isT.inj hk ⟨b,eb,q⟩;rw[this];exact⟨w,rw',pw⟩
   ·cases hs
theorem N6 (hu:X.A.units+64<CD){vs:Aa V}{us:Aa Ac}{ds:Aa D}{Q:VK}{R:Aa D→Sto→Res D}(I:Inv X pins σ H s)(r:Rel X.K H P α S)(rv:qK vs us)(rp:qD X.K P α ds vs)(af:qS X P α (XH R ds S) Q)
  (k:∀ ys D vs',H D=none→qD X.K P α ys vs'→qS X P α (R ys S) Q→Q (.ref D) (upd H D (.lst vs'))):Ao (As X.prog X.w) X.A (call (.builtin "sorted") us) (EP X pins σ Q) X.xe s:=by
 match ds,af,rp with
 |[],af,_=>exact An af
 |_::_::_,af,_=>exact An af
 |[d],af,rp =>
  simp only[XH] at af;cases hq:(XB d).bind jP with
  |none=>rw[hq] at af;exact An af
  |some ys =>
   rw[hq] at af;obtain⟨xs,hd,hs⟩:=Cf.mp hq;obtain⟨v,u,rfl,rfl,p,q⟩:=yD rp rv;obtain⟨a,vs,its,rfl,t1,rv1,e1,l1⟩:=d0 I r p q hd;refine thn (c6 hu I r t1 rv1 e1 l1 hs) fun u' s3 ⟨D,vs',e,hn,I',rp'⟩=>?_;subst e;exact⟨.ref D,_,I',rfl,k ys D vs' hn rp' af⟩
theorem cO (hu:X.A.units+64<CD):xR X (.builtin "sorted") uV:=by
 intro pins σ H s P α S vs us ds Q I r rv rp af;exact N6 hu I r rv rp af fun ys D vs' hn rp' af'=>wM r hn rp' af'
end
section
variable {X:Cx}{cm:Ap}{k:Aj}
theorem XO (hr:RoomC cm k X.A):ZCall X (.builtin "sorted") uV:=⟨cO hr.units⟩
end
end _D
namespace _L
open PySem PySem.Spec PyProof.Rows
variable {loose:Aa Ar}{mg mb:Ar→Ak Ac}
def NV (H:Hp):Prop:=∀ b,H b=none∨(∃ o xs,H b=Ab (.frz o (.lst xs)))∨H b=Ab (.tbl #[])
def Tb0 (K:Ai)(H:Hp):Prop:=∀ x∈xI,∀ c T,Bg K x=Ab (c,T)→H T=Ab (.tbl #[])
structure Tabs (K:Ai)(h:A5):Prop where
 at':∀ x∈xI,∀ c T,Bg K x=Ab (c,T)→Lr h c T∧h.get? T=Ab (ES #[]) ∧ K.lookup T=none
 inj:∀ x∈xI,∀ y∈xI,∀ c d T,Bg K x=Ab (c,T)→Bg K y=Ab (d,T)→x=y
theorem Z5 {P:A1}{w:AH}{K:Ai}{CX:CXT}{k:Aj}{fa a:Ad}{fd:CH}{x:Ar}{sp:Sp}{s₁:Ag}{vs:Aa Ac}{ns:Aa Am}
  (KX:K.In s₁.heap) (hns:s₁.heap.Ns AT mg) (hb:s₁.heap.Ns HK mb) (hbb:∀ x:Ar,x ≠ "__name__" → mb x=Dd x) (hlim:s₁.heap.NoLimit) (hg:s₁.gens=#[]) (hbm:JB mg s₁.heap) (tbs:Tabs K s₁.heap)
  (ha:s₁.heap.get? a=Ab { cls:=.type "list",data:=.seq vs.toArray }) (hi:IG vs ns) (hl:ns.length≤sizeLine) (hr:Room k IJ)
  (F:∀ base:A5,K.In base→base.Ns AT mg→FnOk P w K mg base CX k fa fd [x] sp) (hbind:∀ (s:Ag) (u:Ac),Hi s fd ⟨[u],[]⟩ [(x,u)])
  (hsp:∀ H:Hp,Tb0 K H→SqX K H a (ns.map V.int)→sp [.ref a] H (fun v _=>v=.bl true) fun _ _ _=>CC)
  (hCX:∀ H e s',CX [] H s₁ (fun _ _ _=>CC) e s'→CC) :
  Eu (As P w) IJ (.call (.ref fa) ⟨[.ref a],[]⟩) (fun r s'=>r=.ok (.ret (.bool true))∧OldK s₁.heap s'.heap∧s'.os=s₁.os∧Hd s'.gens) s₁:=by
 have rv:=oD hi;have lenV:=hi.length
 let isT:Ad→Prop:=fun b=>∃ x∈xI,∃ c,Bg K x=Ab (c,b)
 have tab:∀ b,isT b→s₁.heap.get? b=Ab (ES #[]) ∧ K.lookup b=none:=fun b ⟨x,hx,c,h⟩=>(tbs.at' x hx c b h).2;have core:∀ H:Hp,NV H→Tb0 K H→SqX K H a (ns.map V.int)→HOk P w H s₁.heap→(∀ b,H b≠none→b=a∨isT b)→(H a≠none→K.lookup a=none) →
   Eu (As P w) IJ (.call (.ref fa) ⟨[.ref a],[]⟩) (fun r s'=>r=.ok (.ret (.bool true))∧OldK s₁.heap s'.heap∧s'.os=s₁.os∧Hd s'.gens) s₁:=by
  intro H hO hT hS hok hA hK;have base_of:∀ {b:Ad} {o:AU},s₁.heap.get? b=Ab o→H b=none→(jG s₁.heap H).get? b=Ab o:=fun e n=>QP e n;have noA:∀ {b:Ad} {o:AU},s₁.heap.get? b=Ab o→o.cls≠.none→(o.cls≠.type "list" ∨ ∃ es ep,o.data=.dict es ep)→H b=none:=fun {b o} e c1 c2=>by
   cases q:H b with
   |none=>rfl
   |some u =>
    rcases hA b (by rw[q];simp) with e'|e'
    ·subst e'
     rw[ha] at e;cases e;rcases c2 with z|⟨es,ep,d⟩
     ·exact absurd rfl z
     ·cases d
    ·rw[(tab b e').1] at e;cases e
     exact absurd rfl c1
  have noD:∀ {b:Ad} {o:AU} {es:AB DictEntry} {ep:Aj},s₁.heap.get? b=Ab o→o.data=.dict es ep→H b=none:=fun {b o es ep} e d=>by
   cases q:H b with
   |none=>rfl
   |some u =>
    rcases hA b (by rw[q];simp) with e'|e'
    ·subst e'
     rw[ha] at e;cases e;cases d
    ·rw[(tab b e').1] at e;cases e;cases d
  have nsK:∀ {b:Ad} {m:Ar→Ak Ac},s₁.heap.Ns b m→(jG s₁.heap H).Ns b m:=fun {b m} ⟨o,es,ep,e,d,r⟩=>⟨o,es,ep,base_of e (noD e d),d,r⟩;have hKb:K.In (jG s₁.heap H):=fun b o e=>base_of (KX b o e) (by
   cases q:H b with
   |none=>rfl
   |some u =>
    rcases hA b (by rw[q];simp) with e'|e'
    ·subst e'
     rw[hK (by rw[q];simp)] at e;cases e
    ·rw[(tab b e').2] at e;cases e)
  have hM:Mod K mg (jG s₁.heap H):=by
   refine⟨hKb,nsK hns,⟨mb,nsK hb,hbb⟩,let ⟨mc,h1,h2⟩:=hlim;⟨mc,nsK h1,h2⟩,?_,fun x hx c T h=>?_,tbs.inj⟩
   ·obtain⟨bm,o,b1,b2,b3,b4,b5⟩:=hbm
    exact⟨bm,o,b1,b2,base_of b3 (noA b3 (by rw[b4];nofun) (.inl (by rw[b4];decide))),b4,b5⟩
   ·obtain⟨o,vs,file,tf,flags,tg,inF,text,tt,e1,e2,r⟩:=(tbs.at' x hx c T h).1
    exact⟨o,vs,file,tf,flags,tg,inF,text,tt,base_of e1 (noA e1 (by rw[e2];nofun) (.inl (by rw[e2];decide))),e2,r⟩
  have e0:Env0 P w K mg (jG s₁.heap H) IJ [] s₁ H:=⟨rfl,hM,fun b o e=>VV e,Nat.le_of_eq (aF _ _),trivial,fun b hb=>absurd (show b∈([]:Aa Ad) from hb) (by simp),hok,.of_eq hg⟩
  refine E9 ((F _ hKb (nsK hns)).run IJ [] s₁ H ⟨[.ref a],[]⟩ [.ref a] [.ref a] _ _ hr e0 (hbind s₁ (.ref a)) (.cons rfl .nil) (hsp H hT hS)) fun r s' h=>?_;cases r with
  |error e=>exact(hCX H e s' h).elim
  |ok fl =>
   cases fl with
   |next=>exact An h
   |brk=>exact An h
   |cont=>exact An h
   |ret u =>
    obtain⟨v,H',os,bare,un,hok',r',q⟩:=h;have q':v=.bl true:=q;subst q';obtain rfl:u=CQ true:=r';refine⟨rfl,⟨fun b o e=>?_,fun b o e=>un.there b o e (by simp)⟩,os,bare⟩
    cases q:H b with
    |none=>exact .inl (un.keep b o e q (by intro z;exact absurd (show b∈([]:Aa Ad) from z) (by simp)) (by simp))
    |some u =>
     rcases hO b with z|⟨ob,xs,z⟩|z
     ·rw[q] at z;cases z
     ·have z2:=un.frzs b ob _ z
      obtain⟨e1,_⟩:=hok b _ z;obtain⟨e2,_⟩:=hok' b _ z2;rw[e] at e1;cases e1;exact .inl e2
     ·obtain⟨more,z2⟩:=un.tbls b _ z
      have e1:s₁.heap.get? b=Ab (ES #[]):=hok b _ z;have e2:s'.heap.get? b=Ab (ES (#[] ++ more)):=hok' b _ z2;rw[e] at e1;cases e1;rcases hA b (by rw[q];simp) with e'|⟨x,hx,c,h⟩
      ·subst e';rw[ha] at e;cases e
      ·exact .inr (.inl ⟨((tbs.at' x hx c b h).1.tab e).isCodeTable,rfl,#[],more,rfl,e2⟩)
 have nT:¬ isT a:=fun h=>by
  have z:=(tab a h).1;rw[ha] at z;cases z
 have tT:∀ x∈xI,∀ c T,Bg K x=Ab (c,T)→isT T:=fun x hx c T h=>⟨x,hx,c,h⟩;have dec:∀ b,Go (isT b):=fun b=>Classical.propDecidable _;cases hk:K.lookup a with
 |some o =>
  have e:=KX a o hk;rw[ha] at e;cases e;refine core (fun b=>if isT b then Ab (.tbl #[]) else none) (fun b=>?_) (fun x hx c T h=>A7 (tT x hx c T h)) (.inr ⟨vs,_,hk,by rw[A6];exact hl,rv⟩) (fun b u z=>?_) (fun b z=>?_) fun z=>absurd (AD nT) z
  ·by_cases h:isT b
   ·exact .inr (.inr (A7 h))
   ·exact .inl (AD h)
  ·by_cases h:isT b
   ·have z':=(A7 h).symm.trans z
    cases z';exact(tab b h).1
   ·have z':=(AD h).symm.trans z
    cases z'
  ·by_cases h:isT b
   ·exact .inr h
   ·exact absurd (AD h) z
 |none =>
  refine core (fun b=>if b=a then Ab (.frz { cls:=.type "list",data:=.seq vs.toArray } (.lst (ns.map V.int))) else if isT b then Ab (.tbl #[]) else none) (fun b=>?_) (fun x hx c T h=>?_) (.inl (.inr ⟨{ cls:=.type "list",data:=.seq vs.toArray },A7 rfl⟩)) (fun b u z=>?_) (fun b z=>?_) fun _=>hk
  ·by_cases hb:b=a
   ·exact .inr (.inl ⟨_,_,A7 hb⟩)
   ·by_cases h:isT b
    ·exact .inr (.inr ((AD hb).trans (A7 h)))
    ·exact .inl ((AD hb).trans (AD h))
  ·have h':=tT x hx c T h
   exact(AD (fun (z:T=a)=>nT (z▸h'))).trans (A7 h')
  ·by_cases hb:b=a
   ·have z':=(A7 hb).symm.trans z
    cases z';subst hb;exact⟨ha,by rw[A6];exact hl,vs,_,rv,ha⟩
   ·by_cases h:isT b
    ·have z':=((AD hb).trans (A7 h)).symm.trans z
     cases z';exact(tab b h).1
    ·have z':=((AD hb).trans (AD h)).symm.trans z
     cases z'
  ·by_cases hb:b=a
   ·exact .inl hb
   ·by_cases h:isT b
    ·exact .inr h
    ·exact absurd ((AD hb).trans (AD h)) z
def rX (q:A1)(K:Ai):Ap:=xI.all fun x=>match Bg K x with
 |none=>true
 |some (_,T)=>((recsOf q).find? fun e=>e.name == x).isSome&&((K.lookup T).isNone&&xI.all fun y=>match Bg K y with
  |none=>true
  |some (_,U)=>x == y||!decide (T=U))
theorem UV {q:A1}{mean:ExcName→Ak Ac}{h:A5}{K:Ai}(T:Top q loose mean mg mb h)(X:K.In h)(c:rX q K=true):Tabs K h:=by
 unfold rX at c;have g:∀ x∈xI,∀ d U,Bg K x=Ab (d,U)→((recsOf q).find? fun e=>e.name == x).isSome=true∧(K.lookup U).isNone=true∧(xI.all fun y=>match Bg K y with
  |none=>true
  |some (_,V)=>x == y||!decide (U=V))=true:=fun x hx d U e=>by
  have z:=AQ.mp c x hx;rw[e] at z;simpa only [A3] using z
 refine⟨fun x hx d U e=>?_,fun x hx y hy d d' U e1 e2=>?_⟩
 ·obtain⟨z1,z2,_⟩:=g x hx d U e
  obtain⟨r,hr⟩:=E0.mp z1;obtain⟨k1,k2⟩:=PySem.W.tab_of T X hr e;exact⟨k1,k2,by simpa using z2⟩
 ·have z:=AQ.mp (g x hx d U e1).2.2 y hy
  rw[e2] at z;simpa using z
theorem J0 {l:Pz}{n k:Aj}{q:A1}{loose:Aa Ar}{XP:(Ar→Ak Ac)→A5→Prop}{YP:AH→A5→Prop}{d:DefRec}{K:Params→Ai}{CX:AH→CXT}{sp:AH→Sp}{x:Ar}
  (hn:l.most=Ab n) (hn2:n≤sizeLine) (hdf:d.params.defaults=[]) (hr:Room k IJ) (ht:∀ p,rX q (K p)=true)
  (hY:∀ (w:AH) (h:A5),YP w h→(K w.params).In h)
  (F:∀ (w:AH) (mg:Ar→Ak Ac) (fa:Ad) (h:A5),(K w.params).In h→h.Ns AT mg→mg d.name=Ab (.ref fa) →
   ∃ fd:CH,(∀ (s:Ag) (u:Ac),Hi s fd ⟨[u],[]⟩ [(x,u)]) ∧
    ∀ base:A5,(K w.params).In base→base.Ns AT mg→FnOk l.prog w (K w.params) mg base (CX w) k fa fd [x] (sp w))
  (hsp:∀ (w:AH) (H:Hp) (a:Ad) (ns:Aa Am),ns.length≤n→Tb0 (K w.params) H→SqX (K w.params) H a (ns.map V.int)→sp w [.ref a] H (fun v _=>v=.bl true) fun _ _ _=>CC)
  (hCX:∀ (w:AH) (H:Hp) (s:Ag) (e:Ac) (s':Ag),CX w [] H s (fun _ _ _=>CC) e s'→CC) :
  Rl q loose XP YP l.row.toRowW d [] (fun f vs=>Qh f vs):=by
 refine _A.attach_call hn hdf fun w s₀ s₁ mg mb fa o pm cd doc a vs ns G Y ho hd hcd hmg hobj hints hlen hg=>?_;have KX:=hY w _ Y;obtain⟨fd,hb,hF⟩:=F w mg fa _ KX G.T.g hmg;exact Z5 KX G.T.g G.T.b G.T.builtins G.T.nolimit hg (let ⟨bm,ob,b1,b2,b3,b4,b5,b6⟩:=G.T.bmain;⟨bm,ob,b1,b2,b3,b4,b5,b6⟩) (UV G.T KX (ht _)) hobj hints (Bm hlen hn2) hr hF hb (fun H hT hS=>hsp w H a ns hlen hT hS) fun H e s'=>hCX w H s₁ e s'
end _L
namespace _D
open PySem PySem.Spec PyProof.Rows _L
variable {K:Ai}{mg:Ar→Ak Ac}
theorem FC {h:A5}(X:K.In h)(G:h.Ns AT mg){x:Ar}{st:Cm}{ps:Aa Ar}{f:Ad}{oc:Ac}{od an:Ak Ad}{osl:AB (Ak Ac)}{kV doc pm cdv ct:Ac}
  (a:Bn K AT x=Ab (Ab (.ref f)))
  (l:K.lookup f=Ab ⟨oc,od,.func (De x x (xX st) (zD st) (qG st) .none kV doc pm an cdv ct),osl⟩) (c:ER K cdv x=true) (k:Cr K (.ref f)=true)
  (hb:∀ (kV doc pm:Ac) (an:Ak Ad) (cdv ct:Ac) (us:Aa Ac),us.length=ps.length→Ki (De x x (xX st) (zD st) (qG st) .none kV doc pm an cdv ct) ⟨us,[]⟩=pure (ps.zip us)):Src K mg x st ps:=
 have F:=GB (st:=st) l c k
 ⟨f,_,Nb X G a,F,F.binds hb⟩
def nV (K:Ai)(C:Ad):Ap:=
 decide (Gm K (.ref C) "__getattribute__" = Ab (Ab (.builtin "BaseException.__getattribute__")))&&decide (Gm K (.ref C) "__getattr__" = Ab none)
 && decide (Gm K (.ref C) "__class__" = Ab (Ab (.builtin "object.__class__")))&&decide (Ml K C (.type "object")=Ab true)&&decide (Ml K C (.type "BaseException")=Ab true)
 && (PySem.W.clsIn K C).isSome&&decide (EQ K (.ref C) (.type "ValueError")=Ab true)
def oV (K:Ai):Ap:=
 decide (Os K (.builtin "object.__class__") "__get__" = Ab (Ab (.builtin "getset_descriptor.__get__")))&&decide (Po K (.builtin "object.__class__")=Ab true)
def JQ (K:Ai)(cl:Aa Ad):Ap:=cl.all fun C=>cl.all fun B=>decide (EQ K (.ref C) (.ref B)=Ab (C == B))
theorem JS {cl:Aa Ad}(h1:cl.all (nV K)=true)(h2:oV K=true)(h3:JQ K cl=true):ClsK K cl:=by
 have g:=h2;unfold oV at g;simp only[A3,AV] at g;have k1:∀ C∈cl,nV K C=true:=AQ.mp h1;refine⟨fun C hC=>?_,fun C hC B hB=>?_,fun C hC=>?_⟩
 ·have e:=k1 C hC
  unfold nV at e;simp only[A3,AV] at e;obtain⟨⟨⟨⟨⟨⟨e1,e2⟩,e3⟩,e4⟩,e5⟩,e6⟩,e7⟩:=e;exact⟨e1,e2,e3,g.1,g.2,e4,e5,e6⟩
 ·have e:=AQ.mp (AQ.mp h3 C hC) B hB
  exact AK e
 ·have e:=k1 C hC
  unfold nV at e;simp only[A3,AV] at e;exact e.2
def L9 (K:Ai)(cs:Aa Ac)(A:Ad):Ap:=cs.all fun v=>decide (E4 K v (.ref A)=Ab true)
def L7 (K:Ai)(cs:Aa Ad)(A:Ad):Ap:=cs.all fun C=>p9 K C A
def L8 (K:Ai)(cs:Aa Ad):Ap:=cs.all fun C=>Cr K (.ref C)
def nG (K:Ai):Sp:=fun vs H Q E=>Tb0 K H∧∃ a ns,vs=[.ref a]∧SqX K H a (List.map V.int ns)∧ns.length≤63∧∀ H',Q (.bl true) H'
theorem lX {P:Hp}{α:Aa Ad}:∀ ns:Aa Am,qD K P α (ns.map D.int) (ns.map V.int)
 |[]=>.nil
 |n::ns=>.cons (by simp only[Rep]) (lX ns)
def noT (H:Hp):Hp:=fun b=>match H b with
 |some (.tbl _)=>none
 |u=>u
theorem VG {P:A1}{w:AH}{fa:Ad}{st:Cm}{k:Aj}{x:Ar}(hs:Src K mg "law" st [x])(hfa:mg "law" = Ab (.ref fa))
  (hbd:∀ (kV doc pm:Ac) (an:Ak Ad) (cdv ct:Ac) (s:Ag) (v:Ac),Hi s (De "law" "law" (xX st) (zD st) (qG st) .none kV doc pm an cdv ct) ⟨[v],[]⟩ [(x,v)])
  (hall:∀ base:A5,∃ F,nK P w K mg base true k "law" [x] F∧∀ ns:Aa Am,ns.length≤63→∃ S,F [.lst (ns.map D.int)] [] = .ok (.bl true) S) :
  ∃ fd:CH,(∀ (s:Ag) (v:Ac),Hi s fd ⟨[v],[]⟩ [(x,v)])∧∀ base:A5,K.In base→base.Ns AT mg→FnOk P w K mg base (CXd P w) k fa fd [x] (nG K):=by
 obtain⟨f,fd,hm,F,hb⟩:=hs;cases hfa.symm.trans hm;refine⟨fd,?_,fun base _ _=>?_⟩
 ·obtain⟨oc,od,kV,doc,pm,an,cdv,ct,osl,rfl,_,_⟩:=F.ex
  exact hbd kV doc pm an cdv ct
 ·obtain⟨G,⟨f',fd',hm',_,hb',hl,X⟩,hG⟩:=hall base
  cases hm.symm.trans hm';cases hl.one (gH F);refine(X.imp fun vs H Q E h=>?_).ok;obtain⟨tb,a,ns,rfl,hS,hl,k⟩:=h;obtain⟨S,e⟩:=hG ns hl;have keep:∀ (b:Ad) (u:HO),H b=Ab u→(∀ ps,u≠.tbl ps)→noT H b=Ab u:=fun b u q h=>by
   unfold noT;rw[q];cases u with
   |tbl ps=>exact absurd rfl (h ps)
   |_=>rfl
  have hS':SqX K (noT H) a (List.map V.int ns):=by
   rcases hS with (h|⟨o,h⟩)|h
   ·exact .inl (.inl (keep _ _ h fun _ z=>by cases z))
   ·exact .inl (.inr ⟨o,keep _ _ h fun _ z=>by cases z⟩)
   ·exact .inr h
  have sub:qF (noT H) H:=fun b u q=>by
   unfold noT at q;cases z:H b with
   |none=>rw[z] at q;cases q
   |some v =>
    rw[z] at q;cases v with
    |tbl ps=>cases q
    |_=>exact q
  refine⟨rfl,noT H,[],[.lst (ns.map D.int)],[],⟨fun x hx c T h=>⟨#[],tb x hx c T h,by unfold noT;rw[tb x hx c T h],by simp,trivial,fun pos cv z=>by cases z⟩,sub,rfl,.nil,by simp,by simp,by simp⟩,.cons (fY hS' (lX ns)) .nil,?_⟩
  rw[e];intro v H' P' α' _ _ _ rv;simp only[Rep] at rv;subst rv;exact k H'
theorem NG {l:Pz}{q:A1}{loose:Aa Ar}{XP:(Ar→Ak Ac)→A5→Prop}{YP:AH→A5→Prop}{d:DefRec}{K:Params→Ai}{k:Aj}{x:Ar}(hn:l.most=Ab 63)(hdf:d.params.defaults=[])(hr:Room k IJ)(ht:∀ p,rX q (K p)=true)
  (hY:∀ (w:AH) (h:A5),YP w h→(K w.params).In h)
  (F:∀ (w:AH) (mg:Ar→Ak Ac) (fa:Ad) (h:A5),(K w.params).In h→h.Ns AT mg→mg d.name=Ab (.ref fa) →
   ∃ fd:CH,(∀ (s:Ag) (u:Ac),Hi s fd ⟨[u],[]⟩ [(x,u)])∧∀ base:A5,(K w.params).In base→base.Ns AT mg→FnOk l.prog w (K w.params) mg base (CXd l.prog w) k fa fd [x] (nG (K w.params))) :
  Rl q loose XP YP l.row.toRowW d [] (fun f vs=>Qh f vs):=
 _L.J0 (n:=63) (k:=k) (x:=x) (CX:=fun w=>CXd l.prog w) (sp:=fun w=>nG (K w.params)) hn (by decide) hdf hr ht hY F (fun _ _ a ns hl hT hS=>⟨hT,a,ns,rfl,hS,hl,fun _=>rfl⟩) fun w H s e s' h=>by
  obtain⟨_,_,_,_,_,_,_,_,_,_,_,_,z⟩:=h;exact z
end _D
namespace _D
open PySem
variable {us:Aa Ac}
theorem us0 (h:us.length=0):us=[]:=HE h
theorem usS {n:Aj}(h:us.length=n+1):∃ a vs,us=a::vs∧vs.length=n:=by
 cases us with
 |nil=>exact absurd h (by simp)
 |cons a vs=>exact⟨a,vs,rfl,by simpa using h⟩
theorem us1 (h:us.length=1):∃ a,us=[a]:=by
 obtain⟨a,vs,rfl,h'⟩:=usS h;exact⟨a,by rw[us0 h']⟩
theorem us2 (h:us.length=2):∃ a b,us=[a,b]:=by
 obtain⟨a,vs,rfl,h'⟩:=usS h;obtain⟨b,rfl⟩:=us1 h';exact⟨a,b,rfl⟩
theorem us3 (h:us.length=3):∃ a b c,us=[a,b,c]:=by
 obtain⟨a,vs,rfl,h'⟩:=usS h;obtain⟨b,c,rfl⟩:=us2 h';exact⟨a,b,c,rfl⟩
end _D
namespace _D
open PySem PySem.Spec PyProof.Rows _L
variable {oc:AU}{us:Aa Ac}{caps:Aa D}{E Q:Ac→Ag→Prop}{c':Ad}{j:Aj}{sc:Ch}{H':Hp}{env:qE}
theorem WV (F:DF):∃ G:DF,G=F:=⟨F,rfl⟩
def sh (F:DF):DF:=Ho (WV F)
theorem zM (F:DF):sh F=F:=EK (WV F)
def isV:Ak Dt→Ap
 |some .local => true
 |some .cell=>true
 |some .free=>true
 |_=>false
def isL:Ak Dt→Ap
 |some .local => true
 |some .cell=>true
 |_=>false
def isG:Ak Dt→Ap
 |some .globalImplicit=>true
 |_=>false
def okN (x:Ar):Ap:=!(x == ("__debug__" : Ar))&&(!(x == ("__classdict__" : Ar))&&!decide (x = "__name__"))
def okG (X:Cx)(x:Ar):Ap:=isG (X.env.kindOf x)&&okN x
def okB (v:Ac)(x:Ar):Ap:=decide (Dd x=Ab v)
def uJ (sc:Ch):Aa Ar:=sc.names.filterMap fun y=>if isL (Ab y.2) then Ab y.1 else none
def wL (sc:Ch):Aa Ar:=(sc.names.filterMap fun y=>if isL (Ab y.2)&&!(y.1 == (".0" : Ar)) then Ab y.1 else none)++sc.names.filterMap fun y=>if y.2 == .free then Ab y.1 else none
def Ck (b:Ap):Prop:=b=true
theorem ck {b:Ap}(h:b=true:=by kernel_rfl):Ck b:=h
structure DfS (F:DF)(P:A1)(w:AH)(K:Ai)(mg:Ar→Ak Ac)(base:A5)(cm:Ap)(k:Aj)(x:Ar)(n:Aj):Prop where
 get:Def P w K mg base cm k x n F
def okT (X:Cx)(m:Aj)(x:Ar):Ap:=decide (X.N[m]? = Ab x)&&(isL (X.env.scope.names.lookup x)&&(decide X.N.Nodup&&(X.fn x||decide (X.env.scope.names.lookup x=Ab .local))))
def okP (X:Cx)(m:Aj)(x:Ar):Ap:=decide (X.N[m]? = Ab x)&&decide (X.env.scope.names.lookup x=Ab .local)
def tV (scX:Ch)(NX:Aa Ar)(scope:Ch)(cap:Aa (Ak Aj)):Ap:=
 decide (scope.kind=.function)&&(decide (∀ y∈scope.names,y.2=.local → scope.names.lookup y.1=Ab .local)&&(decide (∀ y∈scope.names,y.2=.cell→scope.names.lookup y.1=Ab .cell)&&(decide (∀ y∈scope.names,y.2=.free→scX.names.lookup y.1=Ab .cell∨scX.names.lookup y.1=Ab .free)
 && (decide (∀ y∈scope.names,y.2=.free→scope.names.lookup y.1=Ab .free)&&(decide (cap.length=(wL scope).length)&&(((cap.zip (wL scope)).all fun p=>match p.1 with|none=>true|some i=>NX[i]? == Ab p.2&&scope.names.lookup p.2 == Ab .free)&&decide (wL scope).Nodup))))))
def fnB (N P:Aa Ar)(sc:Ch):Ap:=
 decide (sc.kind=.function)&&(decide (sc.isCoroutine=false)&&(decide (sc.isGenerator=false)&&(decide N.Nodup&&(decide (N.take P.length=P)&&(decide (∀ x∈P,sc.names.lookup x=Ab .local ∨ sc.names.lookup x=Ab .cell)&&decide (∀ y∈sc.names,y.2≠.free))))))
theorem nW {scX:Ch}{NX:Aa Ar}{scope:Ch}{cap:Aa (Ak Aj)}(h:tV scX NX scope cap=true):CompSc scX NX scope (wL scope) cap:=by
 simp only[tV,A3,AV] at h;obtain⟨a,b,c,d,e,f,g,k⟩:=h;exact⟨a,b,c,d,e,f,g,k⟩
theorem lB {N P:Aa Ar}(h:fnB N P sc=true):FnScope N P sc:=by
 simp only[fnB,A3,AV] at h;obtain⟨a,b,c,d,e,f,g⟩:=h;exact⟨a,b,c,d,e,f,g⟩
section
variable {X:Cx}{a b c e o elt tg iter:AF}{ifs rest:Aa AF}{f g:DS}{fa:DE}{f2:DI2}{dg:DG}{t:DT}{kk:DK}{gens grest:Aa CI}{scope:Ch}{cap:Aa (Ak Aj)}{mm:Ap}{l q:Aj}{y z:Ar}{G2':G2}{es:Aa AF}{fA:DA}{x:Ar}{p pos:CA}{cm:Ap}{k n m:Aj}{F:DF}
theorem sI (h:isV (sc.names.lookup x)=true):Vis sc x:=by
 unfold Vis
 revert h
 cases sc.names.lookup x with
 |none=>intro h;cases h
 |some y=>cases y <;> intro h <;> first|cases h;done|exact .inl rfl|exact .inr (.inl rfl)|exact .inr (.inr rfl)
theorem V3 (h:isL (sc.names.lookup x)=true):_L.Loc sc x:=by
 unfold _L.Loc
 revert h
 cases sc.names.lookup x with
 |none=>intro h;cases h
 |some y=>cases y <;> intro h <;> first|cases h;done|exact .inl rfl|exact .inr rfl
theorem uX (h:okN x=true):(x == ("__debug__" : Ar))=false∧(x == ("__classdict__" : Ar))=false∧x ≠ "__name__":=by
 unfold okN at h;rw[A3,A3] at h;exact⟨by simpa using h.1,by simpa using h.2.1,by simpa using h.2.2⟩
theorem xO (h:okG X x=true):Gl X x∧(x == ("__debug__" : Ar))=false∧x ≠ "__name__":=by
 have h:=(A3 _ _).mp h;refine⟨?_,(uX h.2).1,(uX h.2).2.2⟩;have z:=h.1;unfold Gl
 revert z
 cases X.env.kindOf x with
 |none=>intro z;cases z
 |some y=>cases y <;> intro z <;> first|cases z;done|rfl
theorem lQ (h:okT X m x=true):X.N[m]? = Ab x∧_L.Loc X.env.scope x∧X.N.Nodup∧(X.fn x=true∨X.env.scope.names.lookup x=Ab .local):=by
 simp only[okT,A3,AV,HC] at h;exact⟨h.1,V3 h.2.1,h.2.2⟩
theorem uY (h:okP X m x=true):X.N[m]? = Ab x∧X.env.scope.names.lookup x=Ab .local:=by
 simp only[okP,A3,AV] at h;exact h
theorem W6 (h:Ck (okG X x)):Gl X x:=(xO h).1
theorem aV (h:Ck (decide (X.N[m]? = Ab x)&&(isV (X.env.scope.names.lookup x)&&okN x))):QE X (.Name x pos) (qB m):=by
 unfold Ck at h;simp only[A3,AV] at h;exact BV m h.1 (sI h.2.1) (uX h.2.2).1 (uX h.2.2).2.1
theorem aBt {nm:Bz}(h:Ck (okG X x))(hm:X.mg x=none)(hb:Ck (okB (.type nm) x)):QE X (.Name x pos) (dC (.ty nm)):=
 have h:=xO h
 U8 h.1 hm (AK hb) h.2.2 h.2.1
theorem aCl {C:Ad}(h:Ck (okG X x))(hm:X.mg x=Ab (.ref C)∧Cr X.K (.ref C)=true):QE X (.Name x pos) (dC (.obj C)):=
 have h:=xO h
 BN h.1 hm.1 hm.2 h.2.1
theorem aGi {v:Am}(h:Ck (okG X x))(hm:∃ t,X.mg x=Ab (.int v t)):QE X (.Name x pos) (dC (.int v)):=
 have h:=xO h
 U9 h.1 hm h.2.1
abbrev St1 (X:Cx)(e:AF)(es:Aa AF)(pos:CA):Prop:=A9 (e::es) X.env=(false,eval e X.env)::A9 es X.env∧(Df pos (A9 es X.env)).any (·.1)=false
theorem aN (G:DfS F X.prog X.w X.K X.mg X.base cm k x n)(hr:RoomC cm k X.A)(hF:Fn1 X)(h:Ck (okG X x))(ha:QA X (e::es) fA)(s:St1 X e es pos):QE X (.Call (.Name x p) (e::es) [] pos) (qN n F fA):=
 have h:=xO h
 qcN G.1 hr hF h.1 ha h.2.1 s.1 s.2
theorem aO (G:DfS F X.prog X.w X.K X.mg X.base cm k x n)(hr:RoomC cm k X.A)(h:Ck (okG X x))(ha:QA X (e::es) fA)(s:St1 X e es pos):QE X (.Call (.Name x p) (e::es) [] pos) (qN n (okO F) fA):=
 have h:=xO h
 qcO G.1 hr h.1 ha h.2.1 s.1 s.2
theorem aB {id:Bz}(hc:ZCall X (.builtin id) F)(h:Ck (okG X x))(hm:X.mg x=none)(hb:Ck (okB (.builtin id) x))(ha:QA X (e::es) fA)(s:St1 X e es pos):QE X (.Call (.Name x p) (e::es) [] pos) (qL F fA):=
 have h:=xO h
 ZX hc h.1 hm (AK hb) ha h.2.2 h.2.1 s.1 s.2
theorem aT {T:Bz}(hc:ZCall X (.type T) F)(h:Ck (okG X x))(hm:X.mg x=none)(hb:Ck (okB (.type T) x))(ha:QA X (e::es) fA)(s:St1 X e es pos):QE X (.Call (.Name x p) (e::es) [] pos) (qL F fA):=
 have h:=xO h
 iM hc h.1 hm (AK hb) ha h.2.2 h.2.1 s.1 s.2
theorem aC (S:Ck (tV X.env.scope X.N scope cap))(hc:X.calm=true)(hi:QI2 X tg iter f2)(hg:∀ cl C ex s₀ H₀,QG (qY X (wL scope) scope cl C ex s₀ H₀) tg dg)(ht:∀ cl C ex s₀ H₀,QTs (qY X (wL scope) scope cl C ex s₀ H₀) ifs t)
  (has:∀ g',(⟨tg,iter,ifs,0⟩::grest:Aa CI)[0+1]? = Ab g'→g'.is_async=0)
  (he:∀ cl C ex s₀ H₀,QK (qY X (wL scope) scope cl C ex s₀ H₀) (fun acc=>zW elt (⟨tg,iter,ifs,0⟩::grest) scope pos 0 acc (qY X (wL scope) scope cl C ex s₀ H₀).env) kk) (hs:∀ x,CL iter X.env x=pure x) :
  QE X (.ListComp elt (⟨tg,iter,ifs,0⟩::grest) scope pos) (zI mm cap f2 dg t kk):=ZZ hc (nW S) hi hg ht has he hs
theorem aCs {py spos:CA}(hsw:Gr (.ListComp elt (⟨tg,iter,ifs,0⟩::grest) scope pos) (Ab (.Name y py)) spos.line X.env=pure true)(S:Ck (tV X.env.scope X.N scope cap))(hN:Ck (okT X m y))(hc:X.calm=true)(hi:QI2 X tg iter f2)(hg:∀ cl C ex s₀ H₀,QG (qY X (wL scope) scope cl C ex s₀ H₀) tg dg)(ht:∀ cl C ex s₀ H₀,QTs (qY X (wL scope) scope cl C ex s₀ H₀) ifs t)
  (has:∀ g',(⟨tg,iter,ifs,0⟩::grest:Aa CI)[0+1]? = Ab g'→g'.is_async=0)
  (he:∀ cl C ex s₀ H₀,QK (qY X (wL scope) scope cl C ex s₀ H₀) (fun acc=>zW elt (⟨tg,iter,ifs,0⟩::grest) scope pos 0 acc (qY X (wL scope) scope cl C ex s₀ H₀).env) kk) (hs:∀ x,CL iter X.env x=pure x) :
  QS X (.Assign [.Name y py] (.ListComp elt (⟨tg,iter,ifs,0⟩::grest) scope pos) spos) (qU (zI mm cap f2 dg t kk) (gNm m)):=
 have h:=lQ hN
 X2 hc h.2.2.1 (nW S) hi hg ht has he h.1 h.2.1 h.2.2.2 hsw hs
theorem aNm (h:Ck (okT X m x)):QG X (.Name x pos) (gNm m):=
 have h:=lQ h
 UB h.2.2.1 h.1 h.2.1 h.2.2.2
theorem aSt {pos':CA}(hs:Gr e (Ab (.Name x pos')) pos.line X.env=pure false)(he:QE X e fa)(h:Ck (okT X m x)):QS X (.Assign [.Name x pos'] e pos) (qU fa (gNm m)):=
 have h:=lQ h
 F2 h.2.2.1 he h.1 h.2.1 hs h.2.2.2
theorem aP2 {px py pt:CA} {kt k2 pt2} (h:Ck (decide X.N.Nodup&&(okP X m x&&(okP X l y&&!decide (m=l))))) (hc:X.calm=true) (ha:QA X [a,b] fA)
  (hw:Fd [.Tuple [.Name x px,.Name y py] kt pt] (.Tuple [a,b] k2 pt2) X.env=pure (Ab [x,y])) (hs:Fe [.Tuple [.Name x px,.Name y py] kt pt] (.Tuple [a,b] k2 pt2) pos.line X.env=pure false) :
  QS X (.Assign [.Tuple [.Name x px,.Name y py] kt pt] (.Tuple [a,b] k2 pt2) pos) (v9 m l fA):=by
 unfold Ck at h;simp only[A3,AV,O1,Jv] at h;exact F1 hc h.1 ha (uY h.2.1).1 (uY h.2.2.1).1 h.2.2.2 (uY h.2.1).2 (uY h.2.2.1).2 hw hs
theorem aRs {C:Ad}{np cpos:CA}(h:Ck (okG X x))(hc:X.calm=true)(hF:Fn1 X)(hm:∃ Ae,X.mg x=Ab (.ref C)∧p9 X.K C Ae=true)(ha:QA X (e::rest) fA)(s:St1 X e rest cpos) :
  QS X (.Raise (Ab (.Call (.Name x np) (e::rest) [] cpos)) none pos) (yZ (.ref C) fA):=
 have h:=xO h
 let ⟨_,hm,hx⟩:=hm
 X3 hc hF h.1 hm hx ha h.2.1 s.1 s.2
theorem aTr {nm:Ar}{body:Aa Cm}{b₀:Cm}{suite:Aa Cm}{np hpos:CA}{cs:Aa Ac}(h:Ck (okG X x&&(okP X m nm&&(decide X.N.Nodup&&decide (X.N.length=n)))))(hF:Fn1 X)(hm:∃ C0,X.mg x=Ab (.ref C0)∧∀ c∈cs,E4 X.K c (.ref C0)=Ab true)(hb:∀ E pn,ZPass (Cx.tryIn X E pn)→QB (Cx.tryIn X E pn) body f)(hs:∀ e,QB (Cx.suite X e) (b₀::suite) g) :
  QS X (.Try body [.ExceptHandler (Ab (.Name x np)) (Ab nm) (b₀::suite) hpos] [] [] pos) (pN n m cs f g):=by
 unfold Ck at h;simp only[A3,AV] at h;obtain⟨C0,hm,hcs⟩:=hm;exact F3 hF hb hs (xO h.1).1 hm hcs h.2.2.1 (uY h.2.1).1 (uY h.2.1).2 (xO h.1).2.1 h.2.2.2
end
structure TxS (K:Ai)(mg:Ar→Ak Ac)(tp:Aj→Cm)(tab:Aa (Ar × Aj × Aa Ar))(bl:Aa Ar)(clt plt:Aa (Ar × Ad))(cs:Aa Ac)(exl:Aa Ad)(cst:Aa (Ar × Am)):Prop where
 src:∀ (j:Aj) {x:Ar} {i:Aj} {ps:Aa Ar},tab[j]? = Ab (x,i,ps)→Src K mg x (tp i) ps
 nb:∀ {x:Ar},Ck (bl.contains x)→mg x=none
 cl:∀ {x:Ar} {C:Ad},clt.lookup x=Ab C→mg x=Ab (.ref C)∧Cr K (.ref C)=true
 rz:∀ {x:Ar} {C:Ad},plt.lookup x=Ab C→∃ Ae,mg x=Ab (.ref C)∧p9 K C Ae=true
 ct:∃ C0,mg "FarError" = Ab (.ref C0)∧∀ c∈cs,E4 K c (.ref C0)=Ab true
 cls:ClsK K exl
 gi:∀ {x:Ar} {v:Am},cst.lookup x=Ab v→∃ t,mg x=Ab (.int v t)
section
variable {K:Ai}{mg:Ar→Ak Ac}{cm:Ap}{tp:Aj→Cm}{tab:Aa (Ar × Aj × Aa Ar)}{bl:Aa Ar}{clt plt:Aa (Ar × Ad)}{cs:Aa Ac}{exl:Aa Ad}{cst:Aa (Ar × Am)}{x:Ar}{i m:Aj}{ps:Aa Ar}{F:DF}{g:DS}
theorem dq (P:A1)(w:AH)(base:A5)(k j:Aj)(T:TxS K mg tp tab bl clt plt cs exl cst)(hj:tab[j]? = Ab (x,i,ps))(h:Ck (fnB (uJ (qG (tp i))) ps (qG (tp i))&&decide ((uJ (qG (tp i))).length=m)))(hF:F=qR m g)
  (hb:∀ (f:Ad) (cdv:Ac) (A:AG) (outer:Aa Ek) (s:Ag) (H:Hp) (E:XK),j6 K x cdv→RoomC cm k (A.deeper (CY x (qG (tp i)) s.heap.objs.size f cdv)) →
   QB (cxC cm P w K mg base (uJ (qG (tp i))) x (qG (tp i)) f cdv A outer s H E) (zD (tp i)) g):DfS F P w K mg base cm (k+1) x ps.length:=by
 unfold Ck at h;simp only[A3,AV] at h;obtain⟨h,rfl⟩:=h;exact⟨hF▸LC (T.src j hj) (lB h) rfl hb⟩
theorem dqP {P:A1}{w:AH}{base:A5}(k j:Aj)(T:TxS K mg tp tab bl clt plt cs exl cst)(hj:tab[j]? = Ab (x,i,ps))(h:Ck (fnB (uJ (qG (tp i))) ps (qG (tp i))&&decide ((uJ (qG (tp i))).length=m)))
  (hb:∀ (f:Ad) (cdv:Ac) (A:AG) (outer:Aa Ek) (s:Ag) (H:Hp) (E:XK),j6 K x cdv→RoomC cm k (A.deeper (CY x (qG (tp i)) s.heap.objs.size f cdv)) →
   QB (cxC cm P w K mg base (uJ (qG (tp i))) x (qG (tp i)) f cdv A outer s H E) (zD (tp i)) g):nK P w K mg base cm (k+1) x ps (qR m g):=by
 unfold Ck at h;simp only[A3,AV] at h;obtain⟨h,rfl⟩:=h;exact M3 (T.src j hj) (lB h) rfl hb
end
theorem hv {a b:Prop}(f:a→b)(h:a):b:=f h
inductive SrcF (K:Ai)(x:Ar)(st:Cm)(ps:Aa Ar):Prop
 |mk {f:Ad} {oc:Ac} {od an:Ak Ad} {osl:AB (Ak Ac)} {kV doc pm cdv ct:Ac} (a:Bn K AT x=Ab (Ab (.ref f)))
  (l:K.lookup f=Ab ⟨oc,od,.func (De x x (xX st) (zD st) (qG st) .none kV doc pm an cdv ct),osl⟩) (c:ER K cdv x=true) (k:Cr K (.ref f)=true):SrcF K x st ps
def rN (K:Ai)(tp:Aj→Cm):Aa (Ar × Aj × Aa Ar)→Prop
 |[]=>EY
 |(x,i,ps)::t=>SrcF K x (tp i) ps∧rN K tp t
def BdF (tp:Aj→Cm):Aa (Ar × Aj × Aa Ar)→Prop
 |[]=>EY
 |(x,i,ps)::t=>(∀ (kV doc pm:Ac) (an:Ak Ad) (cdv ct:Ac) (us:Aa Ac),us.length=ps.length→Ki (De x x (xX (tp i)) (zD (tp i)) (qG (tp i)) .none kV doc pm an cdv ct) ⟨us,[]⟩=pure (ps.zip us))∧BdF tp t
def rK (K:Ai):Aa (Ar × Ad)→Prop
 |[]=>EY
 |(x,C)::t=>Bn K AT x=Ab (Ab (.ref C))∧rK K t
def rL (K:Ai):Aa (Ar × Am)→Prop
 |[]=>EY
 |(x,v)::t=>(∃ k,Bn K AT x=Ab (Ab (.int v k)))∧rL K t
def LK:Ak (Ak Ac)→Ap
 |some none=>true
 |_=>false
section
variable {K:Ai}{h:A5}{mg:Ar→Ak Ac}{tp:Aj→Cm}
theorem rD (X:K.In h)(G:h.Ns AT mg):∀ (tab:Aa (Ar × Aj × Aa Ar)),rN K tp tab→BdF tp tab→∀ (j:Aj) {x:Ar} {i:Aj} {ps:Aa Ar},tab[j]? = Ab (x,i,ps)→Src K mg x (tp i) ps
 |[],_,_,_,_,_,_,e=>by cases e
 |(x,i,ps)::t,H,B,0,_,_,_,e=>by
  cases e;obtain⟨a,l,c,k⟩:=H.1;exact FC X G a l c k B.1
 |(x,i,ps)::t,H,B,j+1,_,_,_,e=>rD X G t H.2 B.2 j e
theorem xU {β:Type}{p:Ar→β→Prop}{x:Ar}{C:β}:∀ {l:Aa (Ar × β)},(∀ y∈l,p y.1 y.2)→l.lookup x=Ab C→p x C
 |[],_,e=>by cases e
 |(y,b)::t,H,e=>by
  rw[E6] at e;cases q:x == y with
  |true =>
   rw[q] at e;cases e;rw[eq_of_beq q];exact H (y,_) (.head _)
  |false =>
   rw[q] at e;exact xU (fun z hz=>H z (.tail _ hz)) e
theorem gD (X:K.In h)(G:h.Ns AT mg):∀ {l:Aa (Ar × Ad)},rK K l→∀ y∈l,mg y.1=Ab (.ref y.2)
 |(x,C)::t,H,y,hy=>by
  rcases Aw.mp hy with rfl|hy
  ·exact Nb X G H.1
  ·exact gD X G H.2 y hy
theorem dW (X:K.In h)(G:h.Ns AT mg):∀ {l:Aa (Ar × Am)},rL K l→∀ y∈l,∃ k,mg y.1=Ab (.int y.2 k)
 |(x,C)::t,H,y,hy=>by
  rcases Aw.mp hy with rfl|hy
  ·obtain⟨k,e⟩:=H.1
   exact⟨k,Nb X G e⟩
  ·exact dW X G H.2 y hy
theorem NB {tab:Aa (Ar × Aj × Aa Ar)}{bl:Aa Ar}{clt plt:Aa (Ar × Ad)}{cs:Aa Ac}{exl:Aa Ad}{cst:Aa (Ar × Am)}{far:Ad}(B:BdF tp tab)(hp:∀ y∈plt,y∈clt)(hf:clt.lookup ("FarError" : Ar)=Ab far)(X:K.In h)(G:h.Ns AT mg)
  (s:rN K tp tab) (z:(bl.all fun x=>LK (Bn K AT x))=true) (q:rK K clt) (g:rL K cst) (e1:exl.all (nV K)=true) (e2:oV K=true) (e3:JQ K exl=true) (e4:L9 K cs far=true) (e5:L7 K (plt.map (·.2)) far=true) (e6:L8 K (clt.map (·.2))=true):TxS K mg tp tab bl clt plt cs exl cst where
 src:=rD X G tab s B
 nb:=fun {x} hx=>by
  have e:=AQ.mp z x (by simpa using Cz.mp hx)
  refine PySem.W.mg_none_of X G ?_
  revert e
  cases Bn K AT x with
  |none=>intro e;cases e
  |some y=>cases y with
   |none=>intro _;rfl
   |some y=>intro e;cases e
 cl:=fun h=>⟨xU (p:=fun x C=>mg x=Ab (.ref C)) (gD X G q) h,xU (p:=fun _ C=>Cr K (.ref C)=true) (fun y hy=>AQ.mp e6 y.2 (Nc hy)) h⟩
 rz:=fun h=>⟨far,xU (p:=fun x C=>mg x=Ab (.ref C)) (fun y hy=>gD X G q y (hp y hy)) h,xU (p:=fun _ C=>p9 K C far=true) (fun y hy=>AQ.mp e5 y.2 (Nc hy)) h⟩
 ct:=⟨far,xU (p:=fun x C=>mg x=Ab (.ref C)) (gD X G q) hf,fun v hv=>AK (AQ.mp e4 v hv)⟩
 cls:=JS e1 e2 e3
 gi:=fun h=>xU (p:=fun x v=>∃ k,mg x=Ab (.int v k)) (dW X G g) h
end
structure LamT where
 qual:Ar
 params:H8
 body:AF
 scope:Ch
def x9 (sc:Ch):Aa Ar:=sc.names.filterMap fun y=>if y.2 == .free then Ab y.1 else none
inductive CloAt (h:A5)(H:Hp)(fs:Aa Ad)(L:LamT)(a:Ad)(cv:Aa V):Prop
 |mk (cl:Aa (Ar × Ad)) (pm ctv:Ac) (c:Ad) (oc:AU) (ws:AB Ac) (t:Nl) (o:h.get? a=Ab (Fy "<lambda>" L.qual L.params L.body L.scope cl pm c ctv)) (hc:H c=Ab (.frz oc (.frz oc (.own 0)))) (hd:oc.data=.fields ws) (ht:ws[1]? = Ab (.str L.qual t))
  (inj:∀ x y d,cl.lookup x=Ab d→cl.lookup y=Ab d→x=y) (cel:∀ x d,cl.lookup x=Ab d→H d=none∧∃ v,h.IsCell d v) (has:∀ x,L.scope.names.lookup x=Ab .free→∃ d,cl.lookup x=Ab d)
  (len:cv.length=(x9 L.scope).length) (val:∀ (j:Aj) x v,(x9 L.scope)[j]? = Ab x→cv[j]? = Ab v→∃ d u,cl.lookup x=Ab d∧qJ v u∧h.IsCell d (Ab u)) (hn:H a=none) (hf:a ∉ fs):CloAt h H fs L a cv
theorem CloAt.at {X:Cx}{pins:Aa (Ad × AU)}{σ:_L.St}{H:Hp}{s:Ag}{L:LamT}{a:Ad}{cv:Aa V}(C:CloAt X.s₀.heap X.H₀ X.fs L a cv)(F:Fn1 X)(I:Inv X pins σ H s):CloAt s.heap H (frs X.stack) L a cv:=by
 obtain⟨cl,pm,ctv,c,oc,ws,t,o,hc,hd,ht,inj,cel,has,len,val,hn,hf⟩:=C;have nx:∀ b,b ∉ X.ex:=fun b=>by rw[F.1];simp
 have nf:∀ b o,X.s₀.heap.get? b=Ab o→b ∉ X.fs→b ∉ frs X.stack:=fun b o e n z=>(F.mem.mp z).elim (AL (Ax (Au e) I.ok.above)) n;have kc:∀ d v,X.H₀ d=none→X.s₀.heap.IsCell d v→s.heap.IsCell d v:=fun d v h1 ⟨o,e,q⟩=>let ⟨_,z⟩:=I.base.any e h1 (nx d);⟨_,z,q⟩
 refine⟨cl,pm,ctv,c,oc,ws,t,I.base.keep a _ o hn hf (nx a),I.base.frzs _ _ _ hc,hd,ht,inj,fun x d e=>?_,has,len,fun j x v e1 e2=>?_,I.base.free a _ o hn (nx a),nf a _ o hf⟩
 ·obtain⟨h1,v,h3⟩:=cel x d e
  obtain⟨ob,e3,q⟩:=id h3;exact⟨I.base.free d ob e3 h1 (nx d),v,kc d v h1 h3⟩
 ·obtain⟨d,u,q1,q2,q3⟩:=val j x v e1 e2
  exact⟨d,u,q1,q2,kc d _ (cel x d q1).1 q3⟩
def QZ (cm:Ap)(P:A1)(w:AH)(K:Ai)(mg:Ar→Ak Ac)(base:A5)(N:Aa Ar)(L:LamT)(cl:Aa (Ar × Ad))(f:Ad)(cd:Ac)(A:AG)(outer:Aa Ek)(s:Ag)(H:Hp)(E:XK):Cx where
 prog:=P
 w:=w
 K:=K
 mg:=mg
 base:=base
 A:=A.deeper (EV L.qual L.scope s.heap.objs.size f cd cl)
 N:=N
 s₀:=s
 H₀:=H
 env:=EV L.qual L.scope s.heap.objs.size f cd cl
 outer:=outer
 stack:=EV L.qual L.scope s.heap.objs.size f cd cl::outer
 ex:=[]
 calm:=cm
 fn:=fun _=>false
 pn:=[]
 xe:=xeL P w A (EV L.qual L.scope s.heap.objs.size f cd cl) outer H s E
structure LamSc (L:LamT)(ps:Aa Ar):Prop where
 kind:L.scope.kind=.function
 co:L.scope.isCoroutine=false
 gen:L.scope.isGenerator=false
 nocell:∀ y∈L.scope.names,y.2≠.cell
 par:∀ x∈ps,L.scope.names.lookup x=Ab .local
 one:ps.length≤1
 fr:∀ x∈x9 L.scope,L.scope.names.lookup x=Ab .free
def bX (P:A1)(w:AH)(K:Ai)(mg:Ar→Ak Ac)(base:A5)(cm:Ap)(k:Aj)(L:LamT)(n:Aj)(G:Aa D→DF):Prop:=
 ∀ (A:AG) (outer:Aa Ek) (s:Ag) (H:Hp) (us:Aa Ac) (ws cv:Aa V) (a:Ad) (P':Hp) (α : Aa Ad) (S:Sto) (caps ds:Aa D) (Q:VK) (E:XK),RoomC cm k A→Env0 P w K mg base A outer s H→CloAt s.heap H (frs outer) L a cv→Rel K H P' α S →
  qD K P' α caps cv→qD K P' α ds ws→qK ws us→ds.length=n→spR K P' α (G caps ds S) Q E→Eu (As P w) A (.call (.ref a) ⟨us,[]⟩) (CR (CXd P w) outer P w H s Q E) s
section
variable {P:A1}{w:AH}{K:Ai}{mg:Ar→Ak Ac}{base:A5}{cm:Ap}{L:LamT}{ps:Aa Ar}
theorem V1 {cl:Aa (Ar × Ad)}{f:Ad}{cd:Ac}{A:AG}{outer:Aa Ek}{s:Ag}{H:Hp}{E:XK}{ws cv:Aa V}{h':A5}{tk:Aj}(S:LamSc L ps)(hd:cm=true→A.handled=none)(e0:Env0 P w K mg base A outer s H)
  (inj:∀ x y d,cl.lookup x=Ab d→cl.lookup y=Ab d→x=y) (cel:∀ x d,cl.lookup x=Ab d→H d=none∧∃ v,s.heap.IsCell d v) (has:∀ x,L.scope.names.lookup x=Ab .free→∃ d,cl.lookup x=Ab d)
  (len:cv.length=(x9 L.scope).length) (val:∀ (j:Aj) x v,(x9 L.scope)[j]? = Ab x→cv[j]? = Ab v→∃ d u,cl.lookup x=Ab d∧qJ v u∧s.heap.IsCell d (Ab u)) (hl:ws.length=ps.length) (r:qK ws us)
  (hns:h'.Ns s.heap.objs.size fun y=>(ps.zip us).reverse.lookup y) (hk:∀ b o,s.heap.get? b=Ab o→h'.get? b=Ab o) :
  Inv (QZ cm P w K mg base (ps++x9 L.scope) L cl f cd A outer s H E) [] ((ws++cv).map Ab) H { s with heap:=h',toks:=tk }:=by
 have kc:∀ d v,s.heap.IsCell d v→h'.IsCell d v:=fun d v ⟨o,e,q⟩=>⟨o,hk d o e,q⟩;have no:∀ b:Ad,b ∉ ([]:Aa Ad):=fun b=>by simp
 refine⟨⟨e0.mod,S.kind,rfl,rfl,A2 _,inj,fun y hy=>?_,(fun y c z=>nomatch z),hd,Hv e0.frames,.inr ⟨rfl,rfl⟩,fun b z=>absurd z (no b),e0.bs,e0.bsz,fun b _ _=>no b,fun b z=>absurd z (no b),e0.funs,e0.frf⟩,
  rfl,e0.bare,Un.kept hk,⟨_,hns,fun i y v h1 h2 h3=>?_⟩,fun y c h=>?_,e0.hok.fresh (A2 _),fun y c h=>(cel y c h).1,fun p hp=>absurd (show p∈([]:Aa (Ad × AU)) from hp) (by simp),e0.hok.kept hk,?_⟩
 ·rcases hy with hy|hy
  ·exact absurd rfl (S.nocell _ (Cu hy))
  ·exact has y hy
 ·have h1:(ps++x9 L.scope)[i]? = Ab y:=h1
  rw[Bh] at h2;obtain⟨v',h2,e⟩:=AZ.mp h2;cases e;by_cases hi:i<ps.length
  ·rw[AO hi] at h1
   rw[AO (by rw[hl];exact hi)] at h2
   obtain⟨u,hu,rv⟩:=r.get h2;refine⟨u,rv,.inl ⟨S.par y (A4 h1),?_⟩⟩;have one:=S.one;cases ps with
   |nil=>cases h1
   |cons p t =>
    cases t with
    |cons _ _=>simp at one
    |nil =>
     have i0:i=0:=by simpa using hi
     subst i0;cases us with
     |nil=>cases hu
     |cons u' us =>
      cases h1;cases hu;simp
  ·rw[Be (Ji hi)] at h1
   rw[Be (by rw[hl];exact Ji hi),hl] at h2
   obtain⟨d,u,q1,q2,q3⟩:=val _ y v h1 h2;exact⟨u,q2,.inr ⟨.inr (S.fr y (A4 h1)),d,q1,kc d _ q3⟩⟩
 ·obtain⟨_,v,q⟩:=cel y c h
  exact⟨v,kc c v q⟩
 ·show _=(ps++x9 L.scope).length
  simp[hl,len]
theorem GV {k:Aj}{fe:DE}(S:LamSc L ps)(hb:∀ (cl:Aa (Ar × Ad)) (pm cdv ctv:Ac) (us:Aa Ac),us.length=ps.length→Ki (Qq "<lambda>" L.qual L.params L.body L.scope cl pm cdv ctv) ⟨us,[]⟩=pure (ps.zip us))
  (hbody:∀ (cl:Aa (Ar × Ad)) (f:Ad) (cd:Ac) (A:AG) (outer:Aa Ek) (s:Ag) (H:Hp) (E:XK),RoomC cm k (A.deeper (EV L.qual L.scope s.heap.objs.size f cd cl)) →
   QE (QZ cm P w K mg base (ps++x9 L.scope) L cl f cd A outer s H E) L.body fe):bX P w K mg base cm (k+1) L ps.length fun caps ds S=>fe ((ds++caps).map Ab) S:=by
 intro A outer s H us ws cv a P' α St caps ds Q E hr e0 C r rc rd rv hn af;obtain⟨cl,pm,ctv,c,oc,vs,t,o,hc,hd,ht,inj,cel,has,len,val,hna,hf⟩:=C;have af:spR K P' α (fe ((ds++caps).map Ab) St) Q E:=af;have lim:s.heap.NoLimit:=e0.mod.nolimit.keeps fun b o e=>(e0.bs b o e).1;have hul:us.length=ps.length:=by rw[← rv.length,← rd.length];exact hn
 have hloc:∀ y∈ps.zip us,L.scope.names.lookup y.1=Ab .local:=fun y hy=>S.par _ (Fp hy).1;refine PySem.W.kla_callFunE hr.depth o rfl S.co S.gen rfl ⟨c,oc,vs,t,rfl,(e0.hok c _ hc).1,hd,ht⟩ ?_;rw[hb cl pm (.ref c) ctv us hul];refine Al (wpAny_newFunctionEnv S.nocell hloc (fun h₁ hns hsb=>?_) S.kind);have hk₁:∀ b o,s.heap.get? b=Ab o→h₁.get? b=Ab o:=fun b o e=>hsb.extBut b o (AL (Au e)) (Ah _ e);refine⟨lim.keeps hk₁,?_⟩;show Eu _ _ (.expr L.body (EV L.qual L.scope s.heap.objs.size a (.ref c) cl)) _ _;have I:=V1 (cm:=cm) (f:=a) (cd:=.ref c) (E:=E) (tk:=s.toks+(ps.zip us).length) S hr.hd e0 inj cel has len val (by rw[← rd.length];exact hn) rv hns hk₁
 have re:qZ K P' α ((ws++cv).map Ab) ((ds++caps).map Ab):=by
  have z:=rd.append rc;refine⟨by simp[z.length,rd.length,rc.length],fun i d e=>?_⟩
  rw[Bh] at e;obtain⟨d',e1,e2⟩:=AZ.mp e;cases e2;obtain⟨v,h1,h2⟩:=z.get e1;exact⟨v,by rw[Bh,h1];rfl,h2⟩
 refine PySem.W.kla_codeExpr (Dh ((hbody cl a (.ref c) A outer s H E (hr.deeper _)).1 [] _ _ H Q I ⟨P',α,_,St,r,re,?_⟩) (fun u s' q=>?_) fun _ _ y=>y)
 ·cases z:fe ((ds++caps).map Ab) St with
  |ok d S'=>rw[z] at af;exact af
  |ex e x S'=>rw[z] at af;exact fun u s' q=>nY (A:=A) rfl q fun H' P1 α1 r1 e1 e2=>af H' P1 α1 r1 e1 e2
  |bad=>rw[z] at af;exact An af
 ·obtain⟨v,H',I',rv',q⟩:=q
  exact⟨v,H',I'.os,I'.bare,I'.base,I'.hok,rv',q⟩
end
open Classical in
def jB (i:Aj)(fa:DA)(a:Ad)(cv:Aa V)(n:Aj)(G:Aa D→DF):DE:=fun env S=>match env[i]? with
 |some (Ab (.clo b vs caps))=>if b=a∧vs=cv then (fa env S).bind fun ds S1=>if ds.length=n then G caps ds S1 else .bad else .bad
 |_=>.bad
section
variable {X:Cx}{cm:Ap}{k n i:Aj}{x:Ar}{p pos:CA}{e:AF}{es:Aa AF}{fa:DA}{L:LamT}{G:Aa D→DF}{a:Ad}{cv:Aa V}
set_option tactic.hygienic true in
theorem Y8 {S:Sto}{P:Hp}{α:Aa Ad}{Ok:D→Sto→Prop}(h:qI X P α (jB i fa a cv n G env S) Ok):∃ caps,env[i]? = Ab (Ab (.clo a cv caps))∧qI X P α ((fa env S).bind fun ds S1=>if ds.length=n then G caps ds S1 else .bad) Ok:=by
 unfold jB at h
 split at h
 ·rename_i b vs caps e
  obtain⟨⟨rfl,rfl⟩,h1⟩:=wF h;exact⟨caps,e,h1⟩
 ·exact An h
theorem LG {h:A5}{H:Hp}{fs:Aa Ad}(C:CloAt h H fs L a cv):PySem.W.FnAt a h:=by
 obtain⟨cl,pm,ctv,c,oc,ws,t,o,_⟩:=C;exact⟨_,_,_,_,o⟩
theorem Y9 {pins:Aa (Ad × AU)}{σ:_L.St}{H P:Hp}{α:Aa Ad}{s:Ag}{Q:VK}{ws:Aa V}{ds:Aa D}{S:Sto}(LX:bX X.prog X.w X.K X.mg X.base cm k L n G)(hr:RoomC cm k X.A)(F:Fn1 X)(C:CloAt X.s₀.heap X.H₀ X.fs L a cv)
  (I:Inv X pins σ H s) (r:Rel X.K H P α S) (rc:qD X.K P α caps cv) (rp:qD X.K P α ds ws) (rv:qK ws us) (af:qS X P α (if ds.length=n then G caps ds S else .bad) Q):Ao (As X.prog X.w) X.A (call (.ref a) us) (EP X pins σ Q) X.xe s:=by
 obtain⟨hn,af⟩:=wF af;exact p7 (fun _=>F) I af (LX X.A X.stack s H us ws cv a P α S caps ds Q _ hr I.env0 (C.at F I) r rc rp rv hn (d7 af))
theorem GX {pins:Aa (Ad × AU)}{σ:_L.St}{H P:Hp}{α:Aa Ad}{s:Ag}(hN:X.N[i]? = Ab x)(hv:Vis X.env.scope x)(hd:(x == ("__debug__" : Ar))=false)(hcd:(x == ("__classdict__" : Ar))=false)
  (I:Inv X pins σ H s) (re:qZ X.K P α σ env) (he:env[i]? = Ab (Ab (.clo a cv caps))) (h:∀ s1,Inv X pins σ H s1→qD X.K P α caps cv→Q (.ref a) s1):Ao (As X.prog X.w) X.A (eval (.Name x p) X.env) Q X.xe s:=by
 obtain⟨v,e1,rp⟩:=re.2 i _ he;simp only[Rep] at rp;obtain⟨rfl,rc⟩:=rp;refine thn (iG hN hv hd hcd pins s σ H (fun v H'=>v=.ref a∧H'=H) I ⟨_,e1,rfl,rfl⟩) fun u s1 ⟨v,H1,I1,rv,z1,z2⟩=>?_;subst z1;subst z2;cases (show u=AS a from rv)
 exact h s1 I1 rc
theorem YF (LX:bX X.prog X.w X.K X.mg X.base cm k L n G)(hr:RoomC cm k X.A)(F:Fn1 X)(C:CloAt X.s₀.heap X.H₀ X.fs L a cv)(hN:X.N[i]? = Ab x)(hv:Vis X.env.scope x)(hd:(x == ("__debug__" : Ar))=false)(hcd:(x == ("__classdict__" : Ar))=false) :
  PE X (.Call (.Name x p) [] [] pos) (tD X (jB i qC a cv n G)):=by
 intro pins s σ H Q I h;obtain⟨P,α,env,S,r,re,af⟩:=h;obtain⟨caps,e1,af⟩:=Y8 af;refine Du (GX hN hv hd hcd I re e1 fun s1 I1 rc=>?_);exact PySem.W.callWith_F0 (LG (C.at F I1)) (Y9 (us:=[]) LX hr F C I1 r rc .nil .nil af)
end
theorem dO {i:Aj}{c:Ac}(l:Aa Ac)(h:Fh l):Fh (l++[Dj i,Dj j,c]):=by
 fun_induction Fh l with
 |case1=>simp[Fh,Dj]
 |case2 _ _ _ _ _ rest ih=>simp only[Hr,Fh];exact ih h
 |case3=>exact An h
set_option tactic.hygienic true in
theorem cG {pos:CA}{i:Aj}{c v:Ac}(l:Aa Ac)(h:Fh l)(e:HA pos (l++[Dj i,Dj j,c])=Ab v):HA pos l=Ab v∨v=c:=by
 fun_induction Fh l with
 |case1 =>
  simp only[Fz,HA,Dj] at e
  split at e
  ·exact .inr (AW e).symm
  ·cases e
 |case2 _ _ _ _ _ rest ih =>
  simp only[Hr,HA] at e ⊢
  split at e
  ·rename_i hc;rw[A7 hc];exact .inl e
  ·rename_i hc;rw[AD hc];exact ih h e
 |case3=>exact An h
theorem MOk.at {K:Ai}{H P:Hp}{α:Aa Ad}{a:Ad}(e:H' a=H a):∀ {o:MO},MOk K H P α a o→MOk K H' P α a o
 |.dead,_=>trivial
 |.lst _,⟨vs,q,r⟩=>⟨vs,e.trans q,r⟩
 |.dct _,⟨vs,q,r⟩=>⟨vs,e.trans q,r⟩
 |.ins _ _,⟨dx,vs,q,r⟩=>⟨dx,vs,e.trans q,r⟩
section
variable {X:Cx}{pins:Aa (Ad × AU)}{σ : _L.St}{H P:Hp}{α : Aa Ad}{s:Ag}{S:Sto}{y:Ar}{c T:Ad}
theorem Rel.grown {ps:AB Ac}{ws:AB Ac}{t:Nl}{i:Aj}(r:Rel X.K H P α S)(m:Mod X.K X.mg X.base)(hy:y∈xI)(ht:Bg X.K y=Ab (c,T))(e:H T=Ab (.tbl ps))(pn:P T=none)(an:T ∉ α)(ok:Fh ps.toList)
  (cd:∀ pos cv,HA pos ps.toList=Ab cv→∃ c oc vs t,cv=.ref c∧H c=Ab (.frz oc (.frz oc (.own 0)))∧oc.data=.fields vs∧vs[1]? = Ab (.str (y ++ ".<locals>." ++ "<lambda>") t)) (hn:H c'=none) (hd:oc.data=.fields ws) (hs:ws[1]? = Ab (.str (y ++ ".<locals>." ++ "<lambda>") t)) :
  Rel X.K (upd (upd H T (.tbl (ps++#[Dj i,Dj j,.ref c']))) c' (.frz oc (.frz oc (.own 0)))) P α S:=by
 have ne:T≠c':=qP e hn;have go:∀ b u,b≠T→H b=Ab u→upd (upd H T (.tbl (ps++#[Dj i,Dj j,.ref c']))) c' (.frz oc (.frz oc (.own 0))) b=Ab u:=fun b u h q=>by rw[qH (qP q hn),qH h];exact q
 have nT:∀ b∈α,b≠T:=fun b h z=>an (z▸h);have nc:∀ (k:Aj) b,α[k]? = Ab b→b≠c':=fun k b h z=>r.own k b h (z▸hn);have at':∀ (k:Aj) b,α[k]? = Ab b→upd (upd H T (.tbl (ps++#[Dj i,Dj j,.ref c']))) c' (.frz oc (.frz oc (.own 0))) b=H b:=fun k b h=>by rw[qH (nc k b h),qH (nT b (A4 h))]
 refine⟨fun x hx d U hU=>?_,fun b u q=>go b u (fun z=>by rw[z,pn] at q;cases q) (r.sub b u q),r.len,r.nd,r.sep,fun k b o h1 h2=>MOk.at (at' k b h1) (r.at' k b o h1 h2),fun k b h=>by rw[at' k b h];exact r.own k b h⟩
 by_cases hT:U=T
 ·subst hT
  cases m.inj x hx y hy d c U hU ht;refine⟨_,by rw[qH ne];exact qT,pn,an,?_,fun pos cv q=>?_⟩
  ·rw[Nd];exact dO _ ok
  ·rw[Nd] at q
   rcases cG _ ok q with q|q
   ·obtain⟨d,od,vs,t,a1,a2,a3⟩:=cd pos cv q
    exact⟨d,od,vs,t,a1,go d _ (fun z=>by rw[z,e] at a2;cases a2) a2,a3⟩
   ·exact⟨c',oc,ws,t,q,qT,hd,hs⟩
 ·obtain⟨qs,e1,p1,a1,ok1,cd1⟩:=r.tb x hx d U hU
  exact⟨qs,go U _ hT e1,p1,a1,ok1,fun pos cv q=>let ⟨d,od,vs,t,b1,b2,b3⟩:=cd1 pos cv q;⟨d,od,vs,t,b1,go d _ (fun z=>by rw[z,e] at b2;cases b2) b2,b3⟩⟩
theorem Inv.pinned {a:Ad}{o:AU}{h':A5}{tk:Aj}(I:Inv X pins σ H' { s with heap:=h'.push o,toks:=tk })(ha:a=h'.objs.size)(hs:s.heap.objs.size≤h'.objs.size)(I0:Inv X pins σ H s)(hn:H' a=none)(hd:∀ v,o.data≠.cell v)(hfr:o.isFreed=false:=by rfl):Inv X ((a,o)::pins) σ H' { s with heap:=h'.push o,toks:=tk }:=by
 refine I.pins_of fun p hp=>?_;rcases Aw.mp hp with rfl|hp
 ·subst ha
  exact⟨Az _ hfr,hn,Dq (Ax I0.lt hs),I0.nofs hs,hd⟩
 ·exact I.pin p (AI _ hp)
theorem Z4 {M:He}{params:H8}{body:AF}{scope:Ch}{lpos:CA}{cl:Aa (Ar × Ad)}(I:Inv X pins σ H s)(r:Rel X.K H P α S)(hy:y∈xI)(ht:Bg X.K y=Ab (c,T))(hc:X.env.code=.ref c)(hq:X.env.qual=y ++ ".<locals>.")
  (hdef:Qm params X.env=([],[])) (hcl:Jl scope X.env=pure cl)
  (h:∀ (a:Ad) (H':Hp) (s':Ag) (pm ctv:Ac) (c':Ad) (oc:AU) (ws:AB Ac) (t:Nl),Inv X ((a,Fy "<lambda>" (y ++ ".<locals>." ++ "<lambda>") params body scope cl pm c' ctv)::pins) σ H' s'→Rel X.K H' P α S →
   H' c'=Ab (.frz oc (.frz oc (.own 0)))→oc.data=.fields ws→ws[1]? = Ab (.str (y ++ ".<locals>." ++ "<lambda>") t)→Q (.ref a) s'):Ao M X.A (eval (.Lambda params body scope lpos) X.env) Q E s:=by
 obtain⟨ps,e,pn,an,ok,cd⟩:=r.tb y hy c T ht;have hP:s.heap.get? T=Ab (ES ps):=I.hok T _ e;have hC:Lr s.heap c T:=(I.mod.code y hy c T ht).keeps I.bk;have hg:s.heap.Ns AT X.mg:=I.mod.glob.keeps I.bk;have hgP:AT≠T:=fun z=>by
  obtain⟨o,es,ep,e1,d1,_⟩:=hg;rw[z,hP] at e1;cases e1;cases d1
 have hb:s.heap.BuiltinsAt X.mg T:=by
  obtain⟨bm,o,b1,b2,b3,b4,b5,b6⟩:=I.mod.bm;have b3':=I.bk _ _ b3;refine⟨bm,o,b1,b2,fun z=>?_,fun z=>?_,b3',b4,b5,b6⟩
  ·obtain⟨o',es,ep,e1,d1,_⟩:=hg
   rw[← z,b3'] at e1;cases e1;rw[b6] at d1;cases d1
  ·rw[z,hP] at b3';cases b3';cases b4
 refine PySem.W.kla_eval hdef ?_;rw[hq];cases hf:HA lpos ps.toList with
 |none =>
  refine PySem.W.kla_makeFunction (mg:=X.mg) hcl I.ok.glob hg hc hC hP ok hf hgP hb fun c' ctv h' tk hx hge hlt hrec htb=>?_;obtain⟨c2,oc,ws,t,z,hoc,hd,hs⟩:=hrec;cases z;have hn:H c'=none:=I.hok.fresh hge;have ne:T≠c':=qP e hn;have hsz:s.heap.objs.size≤h'.objs.size:=Bm hge (CP hlt)
  let o:=Fy "<lambda>" (y ++ ".<locals>." ++ "<lambda>") params body scope cl ((X.mg "__name__").getD .none) c' ctv
  have kp:∀ b u,b≠T→s.heap.get? b=Ab u→(h'.push o).get? b=Ab u:=fun b u hb q=>Ah _ (hx b u hb q);have eT:(h'.push o).get? T=Ab (ES (ps++#[Dj lpos.line,Dj lpos.col,.ref c'])):=Ah _ htb
  let H2:=upd (upd H T (.tbl (ps++#[Dj lpos.line,Dj lpos.col,.ref c']))) c' (.frz oc (.frz oc (.own 0)))
  have go:∀ b u,b≠T→H b=Ab u→H2 b=Ab u:=fun b u h q=>by show upd _ _ _ b=_;rw[qH (qP q hn),qH h];exact q
  have go0:∀ b,b≠T→b≠c'→H b=none→H2 b=none:=fun b h h' q=>by show upd _ _ _ b=_;rw[qH h',qH h];exact q
  have nT:∀ b,H b=none→b≠T:=fun b q z=>by rw[z,e] at q;cases q
  have eH:H2 T=Ab (.tbl (ps++#[Dj lpos.line,Dj lpos.col,.ref c'])):=by show upd _ _ _ T=_;rw[qH ne];exact qT
  have un:Un X.fs [] H H2 s.heap (h'.push o):=by
   refine⟨fun b u q n _ _=>kp b u (nT b n) q,fun b u q n _ _=>⟨u.slots,kp b u (nT b n) q⟩,fun b u q n _=>go0 b (nT b n) (AL (Ax (Au q) hge)) n,fun b u q _=>?_,fun b xs q=>go b _ (fun z=>by rw[z,e] at q;cases q) q,fun b u xs q=>go b _ (fun z=>by rw[z,e] at q;cases q) q,fun b qs q=>?_⟩
   ·by_cases hb:b=T
    ·rw[hb];exact⟨_,eT⟩
    ·exact⟨u,kp b u hb q⟩
   ·by_cases hb:b=T
    ·rw[hb,e] at q;cases q
     exact⟨_,by rw[hb];exact eH⟩
    ·exact⟨#[],by rw[go b _ hb q];simp⟩
  have hok:HOk X.prog X.w H2 (h'.push o):=fun b u q=>by
   by_cases hb:b=c'
   ·have q':Ab (HO.frz oc (.frz oc (.own 0)))=Ab u:=by rw[← q,hb];exact qT.symm
    cases q';have z:(h'.push o).get? b=Ab oc:=by rw[hb];exact Ah _ hoc
    exact⟨z,z,_,z⟩
   ·by_cases hb2:b=T
    ·rw[hb2,eH] at q;cases q
     rw[hb2];exact eT
    ·have q':H b=Ab u:=by have q2:upd _ _ _ b=Ab u:=q;rw[qH hb,qH hb2] at q2;exact q2
     refine(I.hok b u q').stay (fun d v hd q=>kp d v ?_ q) (fun d q=>go d _ (fun z=>by rw[z,e] at q;cases q) q) fun d xs q=>go d _ (fun z=>by rw[z,e] at q;cases q) q
     rcases hd with z|z
     ·rw[z];exact hb2
     ·intro w;rw[w,e] at z;cases z
  have I2:=I.un (t':=tk) un hok;refine h h'.objs.size H2 _ _ ctv c' oc ws t (Inv.pinned I2 rfl hsz I (go0 _ (fun z=>?_) (Dq hlt) (I.hok.fresh hsz)) fun v z=>by cases z) (r.grown I.mod hy ht e pn an ok cd hn hd hs) qT hd hs
  rw[← z] at e;exact absurd (Ax (I.hok.lt e) hsz) (Cj _)
 |some cv =>
  obtain⟨c',oc,ws,t,rfl,a2,a3,a4⟩:=cd lpos cv hf;refine PySem.W.kla_makeFunctionHit (mg:=X.mg) hcl I.ok.glob hg hc hC hP ok hf hb fun ctv h' tk hk hsz=>?_;have I2:=I.kept (t':=tk) (h':=h'.push (Fy "<lambda>" (y ++ ".<locals>." ++ "<lambda>") params body scope cl ((X.mg "__name__").getD .none) c' ctv)) fun b u q=>Ah _ (hk b u q);exact h h'.objs.size H _ _ ctv c' oc ws t (Inv.pinned I2 rfl hsz I (I.hok.fresh hsz) fun v z=>by cases z) r a2 a3 a4
end
def p8:Aa Aj→qE→Ak (Aa D)
 |[],_=>Ab []
 |i::r,env=>match env[i]? with
  |some (Ab d)=>(p8 r env).map (d::·)
  |_=>none
set_option tactic.hygienic true in
theorem dR {K:Ai}{P:Hp}{α:Aa Ad}{σ:_L.St}(re:qZ K P α σ env):∀ (cap:Aa Aj) (caps:Aa D),p8 cap env=Ab caps→∃ cv,qD K P α caps cv∧cv.length=cap.length∧∀ (j i:Aj) v,cap[j]? = Ab i→cv[j]? = Ab v→σ[i]? = Ab (Ab v)
 |[],caps,h=>by cases h;exact⟨[],.nil,rfl,fun j i v e=>by simp at e⟩
 |i::r,caps,h=>by
  unfold p8 at h
  split at h
  ·rename_i d e
   obtain⟨ds,h1,rfl⟩:=AZ.mp h;obtain⟨cv,a1,a2,a3⟩:=dR re r ds h1;obtain⟨v,b1,b2⟩:=re.2 i d e;refine⟨v::cv,.cons b2 a1,by simp[a2],fun j k w e1 e2=>?_⟩
   cases j with
   |zero=>cases e1;cases e2;exact b1
   |succ j=>exact a3 j k w (by simpa using e1) (by simpa using e2)
  ·cases h
open Classical in
def uni (f:Ad→Aa V→Res D):Res D:=if ∀ a cv,f a cv=f 0 [] then f 0 [] else .bad
theorem FN {f:Ad→Aa V→Res D}{R:Res D}(h:∀ a cv,f a cv=R):uni f=R:=by
 unfold uni;rw[A7 fun a cv=>(h a cv).trans (h 0 []).symm];exact h 0 []
set_option tactic.hygienic true in
theorem FM {f:Ad→Aa V→Res D}(h:uni f≠.bad)(a:Ad)(cv:Aa V):f a cv=uni f:=by
 unfold uni at h ⊢
 split at h
 ·rename_i z;rw[A7 z];exact z a cv
 ·exact absurd rfl h
def exO (nx:Ap)(R:Res D):Res D:=match nx,R with
 |true,.ex _ _ _=>.bad
 |_,R=>R
def uU (nx:Ap)(cap:Aa Aj)(n N:Aj)(fa:DA)(g:Ad→Aa V→DS):DE:=fun env S=>match p8 cap env with
 |none=>.bad
 |some caps=>(fa env S).bind fun ds S1=>if ds.length+1=n then exO nx (uni fun a cv=>qR N (g a cv) (.clo a cv caps::ds) S1) else .bad
def JC (P:A1)(w:AH)(K:Ai)(mg:Ar→Ak Ac)(base:A5)(cm:Ap)(k kl m:Aj)(x:Ar)(n N:Aj)(g:(Aa D→DF)→Ad→Aa V→DS):Prop:=
 ∃ f fd st Ns ps,ps.length=n∧Ns.length=N∧mg x=Ab (.ref f)∧Fun K x x st f fd∧yP K fd ps [] ∧ FnScope Ns ps (qG st)∧∀ (L:LamT) (G:Aa D→DF) (a:Ad) (cv:Aa V),bX P w K mg base cm kl L m G →
  ∀ (cdv:Ac) (A:AG) (outer:Aa Ek) (s:Ag) (H:Hp) (E:XK),CloAt s.heap H (frs outer) L a cv→RoomC cm k (A.deeper (CY x (qG st) s.heap.objs.size f cdv))→QB (cxC cm P w K mg base Ns x (qG st) f cdv A outer s H E) (zD st) (g G a cv)
def kN (scX:Ch)(NX:Aa Ar)(sc:Ch)(cap:Aa Aj):Ap:=decide ((x9 sc).length=cap.length)&&(cap.zip (x9 sc)).all fun p=>NX[p.1]? == Ab p.2&&(scX.names.lookup p.2 == Ab .cell||scX.names.lookup p.2 == Ab .free)
section
variable {X:Cx}{pins:Aa (Ad × AU)}{σ : _L.St}{H P:Hp}{α : Aa Ad}{s:Ag}{S:Sto}{y x:Ar}{c T:Ad}{params:H8}{body:AF}{scope:Ch}{lpos p pos:CA}{es:Aa AF}{fa:DA}{nx cm:Ap}{k kl m n N:Aj}{cap:Aa Aj}{G:Aa D→DF}{g:(Aa D→DF)→Ad→Aa V→DS}
theorem G4 {R:Res D}{Ok:D→Sto→Prop}(h:qI X P α (exO nx R) Ok):R≠.bad∧qI X P α R Ok∧((∃ c x S',R=.ex c x S')→nx=false):=by
 cases R with
 |ok d S'=>exact⟨nofun,by cases nx <;> exact h,fun ⟨_,_,_,z⟩=>nomatch z⟩
 |bad=>cases nx <;> exact An h
 |ex c x S' =>
  cases nx with
  |true=>exact An h
  |false=>exact⟨nofun,h,fun _=>rfl⟩
theorem Rel.know {K:Ai}(r:Rel K H P α S)(h:H c'=Ab (.frz oc (.frz oc (.own 0)))):Rel K H (upd P c' (.frz oc (.frz oc (.own 0)))) α S∧qF P (upd P c' (.frz oc (.frz oc (.own 0)))):=by
 have sP:qF P (upd P c' (.frz oc (.frz oc (.own 0)))):=fun b u q=>by
  by_cases hb:b=c'
  ·have z:=r.sub b u q
   rw[hb,h] at z;cases z;rw[hb];exact qT
  ·rw[qH hb];exact q
 refine⟨⟨fun x hx d T hT=>let ⟨ps,e,pn,an,ok,cd⟩:=r.tb x hx d T hT;⟨ps,e,(qH fun (z:T=c')=>by rw[z,h] at e;cases e).trans pn,an,ok,cd⟩,fun b u q=>?_,r.len,r.nd,fun i a o h1 h2 h3=>?_,fun i a o h1 h2=>(r.at' i a o h1 h2).mono sP (A8 _),r.own⟩,sP⟩
 ·by_cases hb:b=c'
  ·rw[hb,qT] at q;cases q;rw[hb];exact h
  ·rw[qH hb] at q;exact r.sub b u q
 ·have hb:a≠c':=by
   rintro rfl;have z:=r.at' i a o h1 h2;cases o with
   |dead=>exact h3 rfl
   |lst ds=>obtain⟨vs,z,_⟩:=z;rw[h] at z;cases z
   |dct kvs=>obtain⟨vs,z,_⟩:=z;rw[h] at z;cases z
   |ins C fs=>obtain⟨dx,vs,z,_⟩:=z;rw[h] at z;cases z
  rw[qH hb];exact r.sep i a o h1 h2 h3
theorem mZ {z:Ar × Dt}(h:z∈sc.names)(hk:z.2=.free):z.1∈x9 sc:=Em.mpr ⟨z,h,by rw[hk];rfl⟩
set_option tactic.hygienic true in
theorem ZM {z:Ar}(h:z∈x9 sc):(z,Dc)∈sc.names:=by
 obtain⟨⟨n,k⟩,h1,h2⟩:=Em.mp h
 split at h2
 ·rename_i e
  have:k=Dc:=by simpa using e
  cases h2;subst this;exact h1
 ·cases h2
theorem fR (hB:kN X.env.scope X.N scope cap=true){j:Aj}{z:Ar}(h:(x9 scope)[j]? = Ab z):∃ i,cap[j]? = Ab i∧X.N[i]? = Ab z∧(X.env.scope.names.lookup z=Ab .cell∨X.env.scope.names.lookup z=Ab .free):=by
 simp only[kN,A3,AV] at hB;obtain⟨hl,ha⟩:=hB;have hj:j<cap.length:=by rw[← hl];exact(Ay.mp h).1
 have e:=Aq hj;have hz:(cap[j],z)∈cap.zip (x9 scope):=EI.mpr ⟨j,by rw[IM];exact⟨e,h⟩⟩
 have q:=AQ.mp ha _ hz;simp only[A3,HC,Jk] at q;exact⟨_,e,q.1,q.2⟩
theorem Z3 (hB:kN X.env.scope X.N scope cap=true)(ok:X.Ok):Jl scope X.env=pure (xS X.env.cells scope.names []):=jZ fun z hz hk=>by
 obtain⟨j,hj⟩:=EI.mp (mZ hz hk);obtain⟨i,_,_,q⟩:=fR hB hj;exact ok.has z.1 q
theorem vQ (hB:kN X.env.scope X.N scope cap=true)(ok:X.Ok){z:Ar}{d:Ad}(h:(xS X.env.cells scope.names []).lookup z=Ab d):X.env.cells.lookup z=Ab d:=by
 rcases uI _ _ h with h|⟨hm,hc⟩
 ·cases h
 ·obtain⟨j,hj⟩:=EI.mp (mZ hm rfl)
  obtain⟨i,_,_,q⟩:=fR hB hj;obtain⟨d',e⟩:=ok.has z q;rw[e,Hm] at hc;rw[e,hc]
theorem JR {a:Ad}{ws:AB Ac}{t:Nl}{pm ctv:Ac}{cv:Aa V}{s':Ag}(hB:kN X.env.scope X.N scope cap=true)(I:Inv X ((a,Fy "<lambda>" (y ++ ".<locals>." ++ "<lambda>") params body scope (xS X.env.cells scope.names []) pm c' ctv)::pins) σ H' s')
  (hc:H' c'=Ab (.frz oc (.frz oc (.own 0)))) (hd:oc.data=.fields ws) (hs:ws[1]? = Ab (.str (y ++ ".<locals>." ++ "<lambda>") t)) (hl:cv.length=cap.length) (hv:∀ (j i:Aj) v,cap[j]? = Ab i→cv[j]? = Ab v→σ[i]? = Ab (Ab v)) :
  CloAt s'.heap H' (frs X.stack) ⟨y ++ ".<locals>." ++ "<lambda>",params,body,scope⟩ a cv:=by
 obtain⟨e1,n1,n2,n3,_⟩:=I.pin _ (AI _ (.head _));refine⟨_,pm,ctv,c',oc,ws,t,e1,hc,hd,hs,fun z z' d h1 h2=>I.ok.inj z z' d (vQ hB I.ok h1) (vQ hB I.ok h2),fun z d h=>⟨I.freeC z d (vQ hB I.ok h),I.cell z d (vQ hB I.ok h)⟩,fun z hz=>uA _ _ (.inl (Cu hz)),?_,fun j z v h1 h2=>?_,n1,fun z=>?_⟩
 ·simp only[kN,A3,AV] at hB
  rw[hl,← hB.1]
 ·obtain⟨i,q1,q2,q3⟩:=fR hB h1
  obtain⟨m,hm,hlk⟩:=I.loc;obtain⟨u,ru,lk⟩:=hlk i z v q2 (hv j i v q1 h2) (q3.elim (fun k=>.inr (.inl k)) fun k=>.inr (.inr k));rcases lk with⟨kl,_⟩|⟨_,d,hcl,hcell⟩
  ·have kl':X.env.scope.names.lookup z=Ab .local:=kl
   rcases q3 with k|k <;> (rw[kl'] at k;cases k)
  ·obtain⟨d',hd'⟩:=uA (cells:=X.env.cells) scope.names [] (.inl (ZM (A4 h1)))
   have:=vQ hB I.ok hd';rw[hcl] at this;cases this;exact⟨d,u,hd',ru,hcell⟩
 ·rcases Aw.mp (I.stkSub a z) with z|z
  ·exact n2 z
  ·exact n3 z
theorem Q1 (D:JC X.prog X.w X.K X.mg X.base cm k kl m x n N g)(LX:bX X.prog X.w X.K X.mg X.base cm kl ⟨y ++ ".<locals>." ++ "<lambda>",params,body,scope⟩ m G)(hr:RoomC cm (k+1) X.A)(hF:nx=false→Fn1 X)(hg:Gl X x)(hdb:(x == ("__debug__" : Ar))=false)
  (hy:y∈xI) (ht:Bg X.K y=Ab (c,T)) (hc:X.env.code=.ref c) (hq:X.env.qual=y ++ ".<locals>.") (hdef:Qm params X.env=([],[])) (hB:kN X.env.scope X.N scope cap=true) (ha:PA X es (tDA X fa))
  (he:A9 (.Lambda params body scope lpos::es) X.env=(false,eval (.Lambda params body scope lpos) X.env)::A9 es X.env) (hpl:(Df pos (A9 es X.env)).any (·.1)=false) :
  PE X (.Call (.Name x p) (.Lambda params body scope lpos::es) [] pos) (tD X (uU nx cap n N fa (g G))):=by
 intro pins s σ H Q I h;obtain⟨P,α,env,S,r,re,af⟩:=h;obtain⟨f,fd,st,Ns,ps,hn,hN,hm,F,hb,hS,hbody⟩:=D;subst hn;subst hN;have af:qI X P α (match p8 cap env with
  |none=>.bad
  |some caps=>(fa env S).bind fun ds S1=>if ds.length+1=ps.length then exO nx (uni fun a cv=>qR Ns.length (g G a cv) (.clo a cv caps::ds) S1) else .bad) (OkV X P α Q):=af
 cases hcap:p8 cap env with
 |none=>rw[hcap] at af;exact An af
 |some caps =>
  rw[hcap] at af;obtain⟨cv,rc,hcl,hv⟩:=dR re cap caps hcap;refine Du (vH I hg hm ?_ hdb);refine Ih (h₀:=X.base) I.ok.mod.kin F.kp ?_ he hpl;rw[he];show Ao _ _ (spliced ((false,eval (.Lambda params body scope lpos) X.env)::Df pos (A9 es X.env))) _ _ s;refine Gd (Z4 I r hy ht hc hq hdef (Z3 hB I.ok) fun a H1 s1 pm ctv c' oc ws t I1 r1 hc' hd hs=>?_);obtain⟨rk,sk⟩:=Rel.know r1 hc';refine thn (wC ha I1 rk (re.mono sk (A8 _)) (qS.base sk (A8 _) af) pos) fun us s2 ⟨vs,H2,P2,α2,ds,S2,I2,rv,r2,re2,rp,q1,q2,af2⟩=>⟨I2.kIn,?_⟩;obtain⟨hl,af3⟩:=wF af2;obtain⟨nb,af4,nf⟩:=G4 af3;have e1:=FM nb a cv;rw[← e1] at af4 nf;have C:=JR hB I2 (r2.sub _ _ (q1 _ _ qT)) hd hs hcl hv;have I3:Inv X pins σ H2 s2:=I2.pins_of fun p hp=>I2.pin p (AI _ (AM _ hp));obtain⟨oc',od,kV,doc,pm',an,cdv,ct,osl,rfl,lk,hcd⟩:=F.ex;have hz:(AS a::us).length=ps.length:=by rw[← hl,rp.length,rv.length];rfl
  have hb':=hb s2 (.ref a::us) I2.kIn (by rw[Dx];exact hz)
  rw[Dx] at hb';have rc2:=qD.mono (sk.trans q1) q2 _ _ rc;have af5:=qS.base q1 q2 af4;have rv2:qK (V.ref a::vs) (AS a::us):=.cons rfl rv;exact p7 (fun z=>hF (nf z)) I3 af5 (aD lk hcd hS (by rw[← hz];exact rv2.length) hr I3.env0 hb' rv2 (nQ (hbody _ G a cv LX cdv X.A X.stack s2 H2 _ C (hr.deeper _)).1 r2 (.cons (by simp only[Rep];exact⟨trivial,rc2⟩) rp) (d7 af5)))
end
section
variable {X:Cx}{pins:Aa (Ad × AU)}{σ : _L.St}{H P:Hp}{α : Aa Ad}{s:Ag}{S:Sto}
def jD:DF:=fun ds S=>match ds with
 |[d,.tup [.ty b,.ty c]]=>if vT b=true∧vT c=true then match tyD d S with
   |some a=>.ok (.bl (xH a b||xH a c)) S
   |none=>.bad
  else .bad
 |_=>.bad
inductive KitAt (X:Cx)(u:Ac)(t:Ac)(h:A5):Prop
 |mk (Hh:A5→Prop) (Z:PySem.W.KitX X.K u t Hh) (p:Hh h) (ne:u≠.builtin "__main__.__loader__#opaque"):KitAt X u t h
theorem GT {v:V}{u:Ac}{d:D}{a:Bz}(I:Inv X pins σ H s)(r:Rel X.K H P α S)(q:qJ v u)(p:Rep X.K P α d v)(ha:tyD d S=Ab a):KitAt X u (.type a) s.heap:=by
 cases WX r p ha with
 |tup p' ws e sq ea =>
  subst e ea;cases (show u=AS p' from q)
  obtain⟨its,rv',⟨o,h1,h2,_⟩,_⟩:=I.tuple sq;exact⟨_,Gc,⟨o,h1,h2⟩,fun z=>nomatch z⟩
 |lst p' ws e sq ea =>
  subst e ea;cases (show u=AS p' from q)
  obtain⟨its,rv',⟨o,_,h1,h2,_⟩,_⟩:=I.list sq;exact⟨_,Et,⟨o,h1,h2⟩,fun z=>nomatch z⟩
 |of ty =>
  cases ty with
  |non=>cases (show u=CF from q);exact⟨_,Ot,Dw,fun z=>nomatch z⟩
  |bl y=>cases (show u=CQ y from q);exact⟨_,Ou,Dw,fun z=>nomatch z⟩
  |int i=>obtain⟨t,q⟩:=(show ∃ t,u=Hx i t from q);cases q;exact⟨_,OM,Dw,fun z=>nomatch z⟩
  |str y=>obtain⟨t,q⟩:=(show ∃ t,u=Lc y t from q);cases q;exact⟨_,ON,Dw,fun z=>nomatch z⟩
  |flt y=>cases d <;> first|(exact nn ha)|(simp only[Rep] at p;cases p;done)|(simp only[Rep] at p;obtain⟨_,p⟩:=p;cases p.1;done)|(simp only[Rep] at p;obtain⟨_,_,p⟩:=p;cases p.1;done)
  |@lst b xs ea =>
   cases (show u=AS b from q)
   obtain⟨_,_,n,_,h1⟩:=(show zA X.prog X.w H s.heap b (.lst xs) from I.hok b _ ea)
   exact⟨_,Et,⟨_,h1,rfl⟩,fun z=>nomatch z⟩
  |@frz b ob xs ea =>
   cases (show u=AS b from q)
   obtain⟨_,_,_,n,_,h1⟩:=(show zA X.prog X.w H s.heap b (.frz ob (.lst xs)) from I.hok b _ ea)
   exact⟨_,Et,⟨_,h1,rfl⟩,fun z=>nomatch z⟩
  |@tup b xs ea =>
   cases (show u=AS b from q)
   obtain⟨_,_,_,p⟩:=(show zA X.prog X.w H s.heap b (.tup xs) from I.hok b _ ea)
   obtain⟨o,h1,h2,_⟩:=p;exact⟨_,Gc,⟨o,h1,h2⟩,fun z=>nomatch z⟩
  |@dK b kvs ea =>
   cases (show u=AS b from q)
   obtain⟨_,_,vs,_,p⟩:=(show zA X.prog X.w H s.heap b (.dK kvs) from I.hok b _ ea)
   obtain⟨o,es,ep,h1,h2,_⟩:=p;exact⟨_,Gp,⟨o,h1,h2.1⟩,fun z=>nomatch z⟩
  |@dT b kvs ea =>
   cases (show u=AS b from q)
   obtain⟨_,_,xs,_,o,es,ep,h1,h2,_⟩:=(show zA X.prog X.w H s.heap b (.dT kvs) from I.hok b _ ea)
   exact⟨_,Gp,⟨o,h1,h2.1⟩,fun z=>nomatch z⟩
set_option tactic.hygienic true in
theorem QR {ds:Aa D}{Ok:D→Sto→Prop}(h:qI X P α (jD ds S) Ok):∃ d b c a,ds=[d,.tup [.ty b,.ty c]]∧vT b=true∧vT c=true∧tyD d S=Ab a∧Ok (.bl (xH a b||xH a c)) S:=by
 unfold jD at h
 split at h
 ·rename_i d b c
  obtain⟨⟨h1,h2⟩,h⟩:=wF h
  split at h
  ·rename_i a ha
   exact⟨d,b,c,a,rfl,h1,h2,ha,h⟩
  ·exact An h
 ·exact An h
theorem Y6:xR X (.builtin "isinstance") jD:=by
 intro pins σ H s P α S vs us ds Q I r rv rp af;obtain⟨d,b,c,a,rfl,hb,hc,ha,ok⟩:=QR af;obtain⟨v,w,u,x,rfl,rfl,p,p',q,q'⟩:=gO rp rv;simp only[Rep] at p';obtain⟨tp,ws,rfl,sq,t⟩:=p';obtain⟨w1,ws1,rfl,z1,t⟩:=t.cons_inv;obtain⟨w2,ws2,rfl,z2,t⟩:=t.cons_inv;cases t.nil_inv;simp only[Rep] at z1 z2;subst z1 z2;cases (show x=AS tp from q')
 obtain⟨its,rvi,⟨o,h1,h2,n,h3⟩,_⟩:=I.tuple (x8 r.sub sq);obtain⟨i1,i2,rfl,y1,y2⟩:=nJ rvi;cases (show i1=Dv b from y1)
 cases (show i2=Dv c from y2)
 obtain⟨Hh,Z,hp,ne⟩:=GT I r q p ha;obtain⟨oc,od,odt,osl⟩:=o;cases h2;cases h3;have k1:=fP (K:=X.K) (dA ha) hb;have k2:=fP (K:=X.K) (dA ha) hc;refine PySem.W.kia_tup (its:=[.type b,.type c]) (b:=xH a b||xH a c) Z I.kIn hp h1 ?_ ne fun tk=>⟨.bl _,H,I.tok tk,rfl,xr ok r (by simp only[Rep])⟩
 cases z:xH a b with
 |true=>rw[z] at k1;simp only[Ma,k1];rfl
 |false =>
  rw[z] at k1;cases z':xH a c with
  |true=>rw[z'] at k2;simp only[Ma,k1,k2];rfl
  |false=>rw[z'] at k2;simp only[Ma,k1,k2];rfl
end
def okV (X:Cx)(i:Aj)(x:Ar):Ap:=decide (X.N[i]? = Ab x)&&(isV (X.env.scope.names.lookup x)&&okN x)
def kO (fe:DE):Aa D→DF:=fun caps ds S=>fe ((ds++caps).map Ab) S
def Z2 (sc:Ch)(ps:Aa Ar):Ap:=decide (sc.kind=.function)&&(decide (sc.isCoroutine=false)&&(decide (sc.isGenerator=false)&&(decide (∀ y∈sc.names,y.2≠.cell)&&(decide (∀ x∈ps,sc.names.lookup x=Ab .local)&&decide (∀ x∈x9 sc,sc.names.lookup x=Ab .free)))))
structure LmX (G:Aa D→DF)(P:A1)(w:AH)(K:Ai)(mg:Ar→Ak Ac)(base:A5)(cm:Ap)(k:Aj)(L:LamT)(n:Aj):Prop where
 get:bX P w K mg base cm k L n G
structure DfL (g:(Aa D→DF)→Ad→Aa V→DS)(P:A1)(w:AH)(K:Ai)(mg:Ar→Ak Ac)(base:A5)(cm:Ap)(k kl m:Aj)(x:Ar)(n N:Aj):Prop where
 get:JC P w K mg base cm k kl m x n N g
structure ClA (X:Cx)(L:LamT)(a:Ad)(cv:Aa V):Prop where
 get:CloAt X.s₀.heap X.H₀ X.fs L a cv
structure LmK (X:Cx)(y:Ar):Prop where
 get:y∈xI∧j6 X.K y X.env.code∧X.env.qual=y ++ ".<locals>." ∧ ∃ c T,Bg X.K y=Ab (c,T)
section
variable {X:Cx}{cm nx:Ap}{k kl m n N i:Aj}{x y:Ar}{p pos lpos:CA}{e:AF}{es:Aa AF}{fA:DA}{fe:DE}{L:LamT}{G:Aa D→DF}{a:Ad}{cv:Aa V}{g:(Aa D→DF)→Ad→Aa V→DS}{Fs:FnL}{cap:Aa Aj}{params:H8}{body:AF}{scope:Ch}
theorem PX (h:Ck (okV X i x)):X.N[i]? = Ab x∧Vis X.env.scope x∧(x == ("__debug__" : Ar))=false∧(x == ("__classdict__" : Ar))=false:=by
 unfold Ck okV at h;simp only[A3,AV] at h;exact⟨h.1,sI h.2.1,(uX h.2.2).1,(uX h.2.2).2.1⟩
theorem aK0 (LX:LmX G X.prog X.w X.K X.mg X.base cm k L n)(C:ClA X L a cv)(hr:RoomC cm k X.A)(F:Fn1 X)(h:Ck (okV X i x)):QE X (.Call (.Name x p) [] [] pos) (jB i qC a cv n G):=
 have h:=PX h
 ⟨YF LX.1 hr F C.1 h.1 h.2.1 h.2.2.1 h.2.2.2⟩
theorem LR {ps:Aa Ar}{q:Ar}(h:Ck (Z2 scope ps))(one:ps.length≤1):LamSc ⟨q,params,body,scope⟩ ps:=by
 unfold Ck at h;simp only[Z2,A3,AV] at h;obtain⟨a,b,c,d,e,f⟩:=h;exact⟨a,b,c,d,e,one,f⟩
theorem NY (D:DfL g X.prog X.w X.K X.mg X.base cm k (kl+1) 0 x n N)(M:LmK X y)(hr:RoomC cm (k+1) X.A)(hF:nx=false→Fn1 X)(h:Ck (okG X x&&kN X.env.scope X.N scope cap))(hs:Ck (Z2 scope []))(hdef:Qm params X.env=([],[]))
  (hb:∀ (q:Ar) (b:AF) (cl:Aa (Ar × Ad)) (pm cdv ctv:Ac),Ki (Qq "<lambda>" q params b scope cl pm cdv ctv) ⟨[],[]⟩ = pure [])
  (hbody:∀ (cl:Aa (Ar × Ad)) (f:Ad) (cd:Ac) (A:AG) (outer:Aa Ek) (s:Ag) (H:Hp) (E:XK),RoomC cm kl (A.deeper (EV (y ++ ".<locals>." ++ "<lambda>") scope s.heap.objs.size f cd cl)) →
   QE (QZ cm X.prog X.w X.K X.mg X.base ([] ++ x9 scope) ⟨y ++ ".<locals>." ++ "<lambda>",params,body,scope⟩ cl f cd A outer s H E) body fe)
  (ha:QA X es fA) (s:St1 X (.Lambda params body scope lpos) es pos):QE X (.Call (.Name x p) (.Lambda params body scope lpos::es) [] pos) (uU nx cap n N fA (g (kO fe))):=by
 unfold Ck at h;rw[A3] at h;obtain⟨m1,m2,m3,c,T,m4⟩:=M.1;have hg:=xO h.1;exact⟨Q1 D.1 (GV (ps:=[]) (LR hs (by decide)) (fun cl pm cdv ctv us hl=>by cases us with|nil=>exact hb _ _ _ _ _ _|cons _ _=>cases hl) hbody) hr hF hg.1 hg.2.1 m1 m4 (m2 c T m4) m3 hdef h.2 ha.1 s.1 s.2⟩
theorem ClA.tr {pn:Aa (Ad × AU)}(h:ClA X L a cv):ClA (Cx.tryIn X E pn) L a cv:=⟨h.1⟩
theorem lmK {ls:Aa Ar}(h:(ls.all fun y=>(Bg X.K y).isSome)=true)(hc:j6 X.K y X.env.code)(hy:Ck (ls.contains y&&xI.contains y))(hq:X.env.qual=y ++ ".<locals>."):LmK X y:=by
 unfold Ck at hy;rw[A3] at hy;obtain⟨⟨c,T⟩,e⟩:=E0.mp (AQ.mp h y (by simpa using hy.1))
 exact⟨by simpa using hy.2,hc,hq,c,T,e⟩
theorem oG:ZCall X (.builtin "isinstance") jD:=⟨Y6⟩
end
section
variable {P:A1}{w:AH}{K:Ai}{mg:Ar→Ak Ac}{base:A5}{cm:Ap}{tp:Aj→Cm}{tab:Aa (Ar × Aj × Aa Ar)}{bl:Aa Ar}{clt plt:Aa (Ar × Ad)}{cs:Aa Ac}{exl:Aa Ad}{cst:Aa (Ar × Am)}{x:Ar}{i:Aj}{ps:Aa Ar}{N:Aj}
theorem dqL {g:(Aa D→DF)→Ad→Aa V→DS}(P:A1)(w:AH)(base:A5)(k kl m j:Aj)(T:TxS K mg tp tab bl clt plt cs exl cst)(hj:tab[j]? = Ab (x,i,ps))(h:Ck (fnB (uJ (qG (tp i))) ps (qG (tp i))&&decide ((uJ (qG (tp i))).length=N)))
  (hb:∀ (L:LamT) (G:Aa D→DF) (a:Ad) (cv:Aa V),LmX G P w K mg base cm kl L m→∀ (f:Ad) (cdv:Ac) (A:AG) (outer:Aa Ek) (s:Ag) (H:Hp) (E:XK),ClA (cxC cm P w K mg base (uJ (qG (tp i))) x (qG (tp i)) f cdv A outer s H E) L a cv→RoomC cm k (A.deeper (CY x (qG (tp i)) s.heap.objs.size f cdv)) →
   QB (cxC cm P w K mg base (uJ (qG (tp i))) x (qG (tp i)) f cdv A outer s H E) (zD (tp i)) (g G a cv)):DfL g P w K mg base cm k kl m x ps.length N:=by
 unfold Ck at h;simp only[A3,AV] at h;obtain⟨h,rfl⟩:=h;obtain⟨f,fd,hm,F,hbd⟩:=T.src j hj;exact⟨f,fd,tp i,_,ps,rfl,rfl,hm,F,hbd,lB h,fun L G a cv LX cdv A outer s H E C hr=>hb L G a cv ⟨LX⟩ f cdv A outer s H E ⟨C⟩ hr⟩
end
section
variable {X:Cx}{pins:Aa (Ad × AU)}{σ : _L.St}{H P:Hp}{α : Aa Ad}{s:Ag}{S:Sto}
def DQ:D→Aa D→Sto→Res D:=fun a ds S=>match a,ds with
 |.loc i,[.lst ys]=>gK S i fun xs=>if xs.length+ys.length≤lim then .ok .non (S.set i (.lst (xs++ys))) else .bad
 |_,_=>.bad
def kJ:D→Aa D→Sto→Res D:=fun a ds S=>match a,ds with
 |.loc i,[.int k]=>gK S i fun xs=>if 0≤k∧k<1000000 then (match xs[k.toNat]? with|some d=>.ok d (S.set i (.lst (xs.eraseIdx k.toNat)))|none=>.bad) else .bad
 |_,_=>.bad
theorem bQ {K:Ai}:∀ {ds:Aa D} {vs:Aa V} (k:Aj),qD K P α ds vs→qD K P α (ds.eraseIdx k) (vs.eraseIdx k)
 |[],vs,k,r=>by rw[r.nil_inv];exact .nil
 |d::ds,vs,0,r=>by
  obtain⟨w,ws,rfl,_,r2⟩:=r.cons_inv;exact r2
 |d::ds,vs,k+1,r=>by
  obtain⟨w,ws,rfl,r1,r2⟩:=r.cons_inv;exact .cons r1 (bQ k r2)
set_option tactic.hygienic true in
theorem ZE:MtD X "list.pop" kJ:=by
 intro pins σ H s P α S v vv vs us a ds Q I r rv p rvs rps af;unfold kJ at af
 split at af
 ·rename_i i k
  obtain⟨xs,hS,af⟩:=vU af;obtain⟨hk,af⟩:=wF af;have af2:∃ d,xs[k.toNat]? = Ab d∧OkV X P α Q d (S.set i (.lst (xs.eraseIdx k.toNat))):=by
   cases hx:xs[k.toNat]? with
   |none=>rw[hx] at af;exact An af
   |some d=>rw[hx] at af;exact⟨d,rfl,af⟩
  obtain⟨d,hd,ok⟩:=af2;obtain⟨w,u,rfl,rfl,p',q'⟩:=yD rps rvs;cases zX p';simp only[Rep] at p;obtain⟨l,rfl,q⟩:=p;obtain⟨ws,z,t⟩:=r.at' i l _ q hS;obtain⟨y,hy,ry⟩:=t.get hd;have hlt:=(Ay.mp hy).1;refine ZH pins s σ H (.ref l) [.int k] vv [u] Q I rv (.cons q' .nil) ⟨l,ws,k,k.toNat,y,rfl,rfl,z,by omega,by omega,?_,hy,?_⟩
  ·unfold Ow
   show (if (0≤(if k<0 then k+(ws.length:Am) else k)&&(if k<0 then k+(ws.length:Am) else k)<(ws.length:Am))=true then Ab (if k<0 then k+(ws.length:Am) else k).toNat else none)=_
   rw[AD (show ¬ k<0 by omega),A7 (by simp;omega)]
  ·exact ok _ _ _ _ (r.put (m':=.lst (xs.eraseIdx k.toNat)) q hS (by intro z;cases z) ⟨ws.eraseIdx k.toNat,qT,bQ _ t⟩) (qF.refl _) (A8 _) ry
 ·exact An af
theorem J7:ZMt X "list.pop" kJ:=⟨ZE⟩
end
section
variable {X:Cx}
def kH:DF:=fun ds S=>match ds with
 |[.int a]=>.ok (.int (if a<0 then -a else a)) S
 |_=>.bad
inductive AbsV (ds:Aa D)(S:Sto):Prop
 |bad (e:kH ds S=.bad)
 |int (i:Am) (e:ds=[.int i])
theorem oN (ds:Aa D)(S:Sto):AbsV ds S:=by
 match ds with
 |[]=>exact .bad rfl
 |[.int i]=>exact .int i rfl
 |[.non]=>exact .bad rfl
 |[.bl _]=>exact .bad rfl
 |[.str _]=>exact .bad rfl
 |[.ty _]=>exact .bad rfl
 |[.obj _]=>exact .bad rfl
 |[.tup _]=>exact .bad rfl
 |[.lst _]=>exact .bad rfl
 |[.dct0]=>exact .bad rfl
 |[.loc _]=>exact .bad rfl
 |[.exn _]=>exact .bad rfl
 |[.fd _ _]=>exact .bad rfl
 |[.clo _ _ _]=>exact .bad rfl
 |a::_::_=>cases a <;> exact .bad rfl
theorem JM:xR X (.builtin "abs") kH:=by
 intro pins σ H s P α S vs us ds Q I r rv rp af;cases oN ds S with
 |bad e=>rw[e] at af;exact An af
 |int i e =>
  subst e;obtain⟨v,u,rfl,rfl,p,q⟩:=yD rp rv;cases zX p;obtain⟨t,rfl⟩:=q;refine call_abs_int fun u tk=>?_;exact⟨.int _,H,I.tok tk,⟨u,rfl⟩,xr af r (by simp only[Rep])⟩
theorem ZO:OpR X (Ci .FloorDiv) (rI (fun _ j=>j≠0∧j.natAbs.log2<9000) fun i j=>.int (i.fdiv j)):=opI fun _ _ _ _ _ _ _ hc q=>floordiv_int hc.1 q (.inl (PyProof.noPylong_of_log2 hc.2))
theorem XY:∃ C:Am→Am→Ap,C=fun _ j=>decide (j≠0∧j.natAbs.log2<9000):=⟨_,rfl⟩
def XX:Am→Am→Ap:=Ho XY
theorem nR:XX=fun _ j=>decide (j≠0∧j.natAbs.log2<9000):=EK XY
def jE:G2:=i2 XX fun i j=>.int (i.fdiv j)
theorem VS:OpD X (Ci .FloorDiv) jE:=by
 unfold jE;rw[nR];exact kW ZO (fun i j h=>AK h) fun P α i j=>by simp only[Rep]
theorem NH:ZCall X (.builtin "abs") kH:=⟨JM⟩
theorem FO:ZOp X (Ci .FloorDiv) jE:=⟨VS⟩
end
def pY (d:D)(S:Sto):Ak (Aa (Key × D)):=match d with
 |.loc n=>match S[n]? with
  |some (.dct kvs)=>Ab kvs
  |_=>none
 |_=>none
def pD:G2:=fun a b S=>match pY a S,jK b with
 |some kvs,Ab k=>match wA kvs k with
  |some d=>.ok d S
  |none=>.bad
 |_,_=>.bad
section
variable {X:Cx}{pins:Aa (Ad × AU)}{σ : _L.St}{H P:Hp}{α : Aa Ad}{S:Sto}{s:Ag}
set_option tactic.hygienic true in
theorem cV (r:Rel X.K H P α S){d:D}{kvs:Aa (Key × D)}{v:V}(h:pY d S=Ab kvs)(p:Rep X.K P α d v):∃ a ws,v=.ref a∧H a=Ab (.dK ws)∧KVs X.K P α kvs ws:=by
 unfold pY at h
 split at h
 ·split at h
  ·rename_i hS
   cases h;simp only[Rep] at p;obtain⟨b,rfl,q⟩:=p;obtain⟨ws,z,t⟩:=r.at' _ b _ q hS;exact⟨b,ws,rfl,z,t⟩
  ·cases h
 ·cases h
set_option tactic.hygienic true in
theorem K4 {o i:AF}{fo fi:DE}{pos:CA}(hu:X.A.units+1<CD)(ho:PE X o (tD X fo))(hi:PE X i (tD X fi))(hs:oM i:=by intro _ _;rfl):PE X (.Subscript o i pos) (tD X (d2 pD fo fi)):=by
 intro pins s σ H Q I h;obtain⟨P,α,env,S,r,re,af⟩:=h;refine UT PySem.F.slot_dict_getitem.lookup hs (thn (zQ ho I r re af) fun vv s1 ⟨v,H1,P1,α1,a,S1,G1,af1⟩=>?_);refine thn (zQ hi G1.inv G1.rel G1.env (P:=P1) (α:=α1) (Ok:=OkV X P1 α1 Q) (g:=fun y S2=>pD a y S2) (qS.base G1.same G1.pre af1)) fun uu s2 ⟨u,H2,P2,α2,b,S2,G2,af2⟩=>?_;have pa:=Rep.mono G2.same G2.pre _ _ G1.rep;have pb:=G2.rep;have I2:=G2.inv;have r2:=G2.rel;have af3:=qS.base G2.same G2.pre af2;unfold pD at af3
 split at af3
 ·rename_i kvs k hd hk
  split at af3
  ·rename_i d hv
   obtain⟨p,ws,rfl,z,t⟩:=cV r2 hd pa;have ei:=lI hk pb;subst ei;cases (show vv=AS p from G1.val)
   obtain⟨w,h1,h2⟩:=(fQ t).1 d hv;have g:j7 H2 p (kV k) (Ab w):=.inl ⟨_,k,.inl z,rfl,h1.symm⟩;exact⟨dI I2 g,cT hu I2 g G2.val fun w' s3 I3 rw'=>⟨w,H2,I3,rw',xr af3 r2 h2⟩⟩
  ·exact An af3
 ·exact An af3
end
def fJ:G2:=fun a b S=>match pY b S,jK a with
 |some kvs,Ab k=>.ok (.bl (wA kvs k).isSome) S
 |_,_=>.bad
section
variable {X:Cx}
set_option tactic.hygienic true in
theorem PP (hu:X.A.units+1<CD):OpD X (Bj .In) fJ:=by
 intro pins σ H s P α S v u vv uu a b Q I r rv ru pa pb af;unfold fJ at af
 split at af
 ·rename_i kvs k hd hk
  obtain⟨p,ws,rfl,z,t⟩:=cV r hd pb;have ei:=lI hk pa;subst ei;cases (show uu=AS p from ru)
  obtain⟨k1,k2⟩:=fQ (k:=k) t;have g:j7 H p (kV k) (wB ws k):=.inl ⟨_,k,.inl z,rfl,rfl⟩;refine LB hu I g rv fun s' I'=>⟨.bl _,H,I',rfl,?_⟩;cases hv:wA kvs k with
  |none=>rw[hv] at af;rw[k2 hv];exact xr af r (by simp only[Rep];rfl)
  |some d =>
   obtain⟨w',e1,e2⟩:=k1 d hv;rw[hv] at af;rw[e1];exact xr af r (by simp only[Rep];rfl)
 ·exact An af
end
section
variable {X:Cx}{cm:Ap}{k:Aj}{o i:AF}{fo fi:DE}{pos:CA}
theorem BQ (hr:RoomC cm k X.A)(ho:QE X o fo)(hi:QE X i fi)(hs:oM i:=by intro _ _;rfl):QE X (.Subscript o i pos) (d2 pD fo fi):=⟨K4 (hu1 hr) ho.1 hi.1 hs⟩
end
section
variable {X:Cx}{cm:Ap}{k:Aj}{e ei ek:AF}{fe fi fk:DE}{p2 pos:CA}
theorem NK (hr:RoomC cm k X.A):ZOp X (Bj .In) fJ:=⟨PP (hu1 hr)⟩
end
def pP:D→Sto→Ak (Aa D)
 |.lst xs,_=>Ab xs
 |.tup xs,_=>Ab xs
 |.loc n,S=>match S[n]? with
  |some (.lst xs)=>Ab xs
  |_=>none
 |_,_=>none
def wU (mu:Ap)(f:DE):DE:=fun env S=>(f env S).bind fun d S1=>match (pP d S1).bind vZ with
 |some ys=>if mu then .ok (.loc S1.length) (S1++[.lst ys]) else .ok (.lst ys) S1
 |none=>.bad
section
variable {X:Cx}{pins:Aa (Ad × AU)}{σ : _L.St}{H P:Hp}{α : Aa Ad}{S:Sto}{s:Ag}
theorem gV {K:Type}{is:K→Ac→Prop}{hash:K→Am}{lt':K→K→Ap}{d:K}{Fit:K→Prop}(kd:_S.Kind X.prog X.w is hash lt' d Fit s.heap)(ad:_S.AddS X.prog X.w is hash s.heap)(hc:X.calm=true)(hu:X.A.units+64<CD)(I:Inv X pins σ H s)(r:Rel X.K H P α S){a:Ad}{its:Aa Ac}
  (ha:s.heap.IsList a its.toArray∨s.heap.IsTuple a its.toArray) (ks:Aa K) (hl:ks.length=its.length) (hk:∀ i v,its[i]? = Ab v→is (ks.getD i d) v) (hn:(_S.srt lt' ks).length≤63) (hf:∀ k∈ks,Fit k) (enc:K→D)
  (back:∀ k v,is k v→v∈its→∃ vv,qJ vv v∧Rep X.K P α (enc k) vv) {E:Ac→Ag→Prop} :
  Ao (As X.prog X.w) X.A (call (.type "set") [.ref a]) (fun u s1=>Ao (As X.prog X.w) X.A (call (.builtin "sorted") [u]) (NewR X pins σ H P α ((_S.srt lt' ks).map enc)) E s1) E s:=by
 have hsz:its.toArray.size=ks.length:=by rw[A0,hl]
 have mem:∀ k,k∈_S.srt lt' ks↔k∈ks:=fun k=>_S.yO kd.ord k ks;have inn:∀ i,i<ks.length→ks.getD i d∈ks:=fun i hi=>by simp[EJ,hi]
 refine _S.rW (U:=_S.srt lt' ks) ad (I.ok.hd hc) om ha (fun i=>ks.getD i d) (fun i v hv=>hk i v (by simpa using hv)) om (fun i hi=>(mem _).mpr (inn i (by rw[← hsz];exact hi))) fun h1 tk1 Z kp=>?_
 have seen:∀ k∈_S.xY (fun i=>ks.getD i d) its.toArray.size,k∈ks:=fun k hk'=>by
  obtain⟨i,hi,rfl⟩:=_S.uE.mp hk';exact inn i (by rw[← hsz];exact hi)
 have I1:Inv X pins σ H { s with heap:=h1,toks:=tk1 }:=I.kept kp
 refine _S.c8 (s:={ s with heap:=h1,toks:=tk1 }) kd (I.ok.hd hc) om kp Z (fun k hk'=>hf k (seen k hk')) (U:=_S.srt lt' ks) om (fun k hk'=>(mem k).mpr (seen k hk')) fun h2 tk2 D c ps kp2 hD hob hps hp hpl=>?_
 rw[hsz,XI kd.ord] at hps;have vv:∀ (ps:Aa (K × Ac)),(∀ p∈ps,is p.1 p.2∧p.2∈its)→∃ vs,qK vs (ps.map (·.2))∧qD X.K P α ((ps.map (·.1)).map enc) vs:=by
  intro ps
  induction ps with
  |nil=>exact fun _=>⟨[],.nil,.nil⟩
  |cons p ps ih =>
   intro h;obtain⟨vs,a1,a2⟩:=ih fun q hq=>h q (by simp[hq])
   obtain⟨v,b1,b2⟩:=back p.1 p.2 (h p (by simp)).1 (h p (by simp)).2
   exact⟨v::vs,.cons b1 a1,.cons b2 a2⟩
 obtain⟨vs,a1,a2⟩:=vv ps fun p hpm=>by simpa using hp p hpm
 rw[hps] at a2;have nd:([(D,HO.lst vs)].map (·.1)).Nodup:=by simp
 have I2:Inv X pins σ (uL H [(D,HO.lst vs)]) { s with heap:=h2,toks:=tk2 }:=Inv.laidL (s:={ s with heap:=h1,toks:=tk1 }) (L:=[(D,HO.lst vs)]) (t':=tk2) I1 kp2 (fun p hpm=>by
  have:p=(D,HO.lst vs):=by simpa using hpm
  subst this;exact hD) fun p hpm=>by
  have:p=(D,HO.lst vs):=by simpa using hpm
  subst this;refine⟨?_,ps.map (·.2),c,a1,hob⟩
  have:=a1.length;rw[A6] at this;rw[this,Ct];omega
 exact⟨D,vs,rfl,I1.hok.fresh hD,I2,a2⟩
set_option tactic.hygienic true in
theorem UM {d:D}{xs:Aa D}{v:V}{vv:Ac}(I:Inv X pins σ H s)(r:Rel X.K H P α S)(p:Rep X.K P α d v)(q:qJ v vv)(h:pP d S=Ab xs) :
  ∃ a vs its,vv=.ref a∧qD X.K P α xs vs∧qK vs its∧(s.heap.IsList a its.toArray∨s.heap.IsTuple a its.toArray)∧xs.length=its.length:=by
 cases d with
 |lst ys=>exact d0 I r p q h
 |tup ys=>exact d0 I r p q h
 |loc n =>
  have hS:S[n]? = Ab (.lst xs):=by
   have h:(match S[n]? with|some (.lst xs)=>Ab xs|_=>none)=Ab xs:=h
   split at h
   ·rename_i e;cases h;exact e
   ·cases h
  simp only[Rep] at p;obtain⟨a,rfl,ha⟩:=p;cases (show vv=AS a from q)
  obtain⟨vs,z,t⟩:=r.at' n a _ ha hS;obtain⟨its,rv,p,hz⟩:=I.list (SqL.of z);exact⟨a,vs,its,rfl,t,rv,.inl p.isList,by rw[t.length,rv.length]⟩
 |_=>cases h
end
section
variable {X:Cx}{e:AF}{fa:DE}{p1 p2 pos1 pos2:CA}{mu:Ap}
set_option tactic.hygienic true in
theorem dH (hc:X.calm=true)(hu:X.A.units+64<CD)(hg:Gl X "sorted")(hm:X.mg "sorted" = none)(hg2:Gl X "set")(hm2:X.mg "set" = none)(ha:PE X e (tD X fa))(he:A9 [e] X.env=(false,eval e X.env)::A9 [] X.env:=by rfl) :
  PE X (.Call (.Name "sorted" p1) [.Call (.Name "set" p2) [e] [] pos2] [] pos1) (tD X (wU mu fa)):=by
 intro pins s σ H Q I h;obtain⟨P,α,env,S,r,re,af⟩:=h;refine Du (vR I hg hm cL ?_);refine Ht ?_ rfl rfl;refine Gd ?_;refine Call_ (vR I hg2 hm2 oQ (Ej ?_ he rfl));rw[he];refine Gd (thn (zQ ha I r re af) fun vv s1 ⟨v,H1,P1,α1,d,S1,G1,af1⟩=>IF ?_);cases hq:(pP d S1).bind vZ with
 |none=>simp only[hq] at af1;exact An af1
 |some ys =>
   simp only[hq] at af1;obtain⟨xs,hd,hs⟩:=Cf.mp hq;obtain⟨a,vs,its,rfl,t1,rv1,e1,l1⟩:=UM G1.inv G1.rel G1.rep G1.val hd;have main:Ao (As X.prog X.w) X.A (call (.type "set") [.ref a]) (fun u s1=>Ao (As X.prog X.w) X.A (call (.builtin "sorted") [u]) (NewR X pins σ H1 P1 α1 ys) X.xe s1) X.xe s1:=by
    unfold vZ at hs;cases hi:xZ xs with
    |some ns =>
     rw[hi] at hs;dsimp only at hs
     split at hs
     ·rename_i hlt
      cases hs;have:=jI hi;subst this;have:=yX t1;subst this;refine gV (d:=0) (_S.WA X.prog X.w s1.heap) (_S.JG s1.heap) hc hu G1.inv G1.rel e1 ns (by simpa using l1) (fun i u hu'=>?_) hlt (fun _ _=>trivial) D.int fun k u hk _=>?_
      ·have hi:IG its ns:=by simpa using bA rv1
       obtain⟨t,rfl⟩:=Ic hi i u hu';exact Mx _ _ _ _
      ·obtain⟨t,rfl⟩:=_S.xP hk
       exact⟨.int k,⟨t,rfl⟩,by simp only[Rep]⟩
     ·cases hs
    |none =>
     rw[hi] at hs;dsimp only at hs;cases ht:vG xs with
     |none=>rw[ht] at hs;cases hs
     |some ks =>
      rw[ht] at hs;dsimp only at hs
      split at hs
      ·rename_i hlt
       cases hs;have hlt':=CG.mp hlt;have:=pR ht;subst this;have at':∀ (i:Aj) (u:Ac),its[i]? = Ab u→∃ b,u=.ref b∧HN (Av X.prog X.w) s1.heap (ks.getD i []) b∧∃ vv,qJ vv u∧Rep X.K P1 α1 (tpD (ks.getD i [])) vv:=fun i u hu'=>by
        have hii:i<its.length:=(Ay.mp hu').1;have hik:i<ks.length:=by rw[A6] at l1;omega
        obtain⟨v,p,q,_⟩:=yK t1 rv1 (j:=i) (by rw[A0];exact hii)
        have hd:(ks.map tpD).getD i D.non=tpD (ks.getD i []):=by simp[EJ,hik]
        rw[hd] at p;have hu2:its.toArray[i]'(by rw[A0];exact hii)=u:=by
         rw[Aq hii] at hu';simpa using hu'
        rw[hu2] at q;obtain⟨b,ws,us,rfl,sq,t,rv,⟨o,ho,hcl,m,hd⟩,_,_⟩:=j2 G1.inv G1.rel (show Rep X.K P1 α1 (.tup ((ks.getD i []).map D.int)) v from p)
        cases (show u=AS b from q)
        have:=yX t;subst this;exact⟨b,rfl,⟨o,us.toArray,m,ho,hcl,hd,by simpa using fN rv⟩,.ref b,rfl,p⟩
       refine gV (d:=[]) (_S.WB X.prog X.w s1.heap) (_S.JH s1.heap) hc hu G1.inv G1.rel e1 ks (by simpa using l1) (fun i u hu'=>?_) (AK hlt'.1) (fun k hk=>?_) tpD fun k u hk hm'=>?_
       ·obtain⟨b,rfl,q,_⟩:=at' i u hu'
        exact⟨b,rfl,q⟩
       ·have:=AQ.mp hlt'.2 k hk
        intro z;subst z;cases this
       ·obtain⟨i,hi',rfl⟩:=Bl.mp hm'
        obtain⟨b,eb,q,w,rw',pw⟩:=at' i _ (Aq hi');have:k=ks.getD i []:=_S.isT.inj hk ⟨b,eb,q⟩;rw[this];exact⟨w,rw',pw⟩
      ·cases hs
   refine thn main fun u s2 h2=>IF (thn h2 fun u' s3 ⟨D,vs',e,hn,I',rp'⟩=>?_);subst e;cases mu with
   |true=>exact⟨.ref D,_,I',rfl,fU G1.rel hn rp' fun v' H' P' α' r' e1 e2 rp=>af1 v' H' P' α' r' (G1.same.trans e1) (G1.pre.trans e2) rp⟩
   |false=>exact⟨.ref D,_,I',rfl,wM G1.rel hn rp' fun v' H' P' α' r' e1 e2 rp=>af1 v' H' P' α' r' (G1.same.trans e1) (G1.pre.trans e2) rp⟩
end
section
variable {X:Cx}{cm:Ap}{k:Aj}{e:AF}{fa:DE}{p1 p2 pos1 pos2:CA}{mu:Ap}
theorem dN (hc:X.calm=true)(hr:RoomC cm k X.A)(hg:Gl X "sorted")(hm:X.mg "sorted" = none)(hg2:Gl X "set")(hm2:X.mg "set" = none)(ha:QE X e fa)(he:A9 [e] X.env=(false,eval e X.env)::A9 [] X.env:=by rfl) :
  QE X (.Call (.Name "sorted" p1) [.Call (.Name "set" p2) [e] [] pos2] [] pos1) (wU mu fa):=⟨dH hc hr.units hg hm hg2 hm2 ha.1 he⟩
end
end _D
namespace _D
open PySem
variable {cap:Aa (Ak Aj)}{kvs:Aa (_L.Key × D)}{ds xs:Aa D}{v:Ac}{n p:Aj}{a b:Am}{fe f1:DE}{F:DF}{gs:DGs}{S1 S':Sto}{env':qE}
def Ok {β:Type}(r:Res β)(Q:β→Sto→Prop):Prop:=∃ d S,r=.ok d S∧Q d S
theorem qV {β:Type}{r:Res β}{Q:β→Sto→Prop}{d:β}{S:Sto}(h:r=.ok d S)(q:Q d S):Ok r Q:=⟨d,S,h,q⟩
theorem lH {env:qE}{S:Sto}{acc:Aa D}{x:D}(h:fe env S=.ok x S1)(hl:acc.length<lim):zV fe env S acc=.ok (env,acc++[x]) S1:=by
 unfold zV;rw[h];simp[Res.bind,hl]
theorem mL {fi:DI2}{g:DG}{t:DT}{k:DK}{env:qE}{S:Sto}{o:Ak (Aj × MO)}{items:Aa D}(h:fi env S=.ok (o,items) S1)(e:goL o g t k items (xC cap env) S1 [] = .ok (env',ds) S'):zI false cap fi g t k env S=.ok (.lst ds) S':=by
 unfold zI;rw[h];simp only[Res.bind,e,mkM];rfl
theorem fK {S:Sto}{i:Aj}{m:MO}(h:S[i]? = Ab m)(e:S<+:S'):S'[i]? = Ab m:=by
 obtain⟨r,rfl⟩:=e;rw[AO (Ay.mp h).1];exact h
theorem goT {α:Type}{enc:α→D}{o:Ak (Aj × MO)}{g:DG}{t:DT}{k:DK}(out:α→Aa D)(C:qE→Sto→Prop)(hC:∀ env S,C env S→stn o S) :
  ∀ (xs:Aa α) (env:qE) (S:Sto) (acc:Aa D),C env S→acc.length+(xs.flatMap out).length≤lim →
  (∀ x∈xs,∀ env S acc,C env S→acc.length+(out x).length≤lim→∃ env1 S1 b S2,g (enc x) env S=.ok env1 S1∧t env1 S1=.ok b S2∧((b=false∧out x=[]∧C env1 S2)∨(b=true∧∃ env3 S3,k env1 S2 acc=.ok (env3,acc++out x) S3∧C env3 S3))) →
  ∃ env' S',goL o g t k (xs.map enc) env S acc=.ok (env',acc++xs.flatMap out) S'∧C env' S'
 |[],env,S,acc,h,hl,_=>⟨env,S,by simp[goL,wQ.mpr (hC _ _ h)],h⟩
 |x::xs,env,S,acc,h,hl,step=>by
  rw[Gx,Bt] at hl;obtain⟨env1,S1,b,S2,e1,e2,r⟩:=step x (Ba ..) env S acc h om;have hst:=wQ.mpr (hC _ _ h);rcases r with⟨rfl,h0,h2⟩|⟨rfl,env3,S3,e3,h3⟩
  ·obtain⟨env',S',e,q⟩:=goT out C hC xs env1 S2 acc h2 om fun d hd=>step d (AM _ hd)
   refine⟨env',S',?_,q⟩;simp only[Co,goL,hst,Bv,e1,e2,Res.bind,AC,Bu,Gx,h0,Fz];exact e
  ·obtain⟨env',S',e,q⟩:=goT out C hC xs env3 S3 (acc++out x) h3 (by rw[Bt];omega) fun d hd=>step d (AM _ hd)
   refine⟨env',S',?_,q⟩;simp only[Co,goL,hst,Bv,e1,e2,Res.bind,e3,Gx];rw[e,Ex]
theorem tU {env:qE}{S:Sto}{a:D}(h1:f1 env S=.ok a S1):qN 1 F (qA f1 (qC)) env S=F [a] S1:=by
 simp only[qN,qA,qC,h1,Res.bind,Bo,Kl,Bv]
theorem W1 {f2 f3:DE}{env:qE}{S S2 S3:Sto}{a b c:D}(h1:f1 env S=.ok a S1)(h2:f2 env S1=.ok b S2)(h3:f3 env S2=.ok c S3):qN 3 F (qA f1 (qA f2 (qA f3 (qC)))) env S=F [a,b,c] S3:=by
 simp only[qN,qA,qC,h1,h2,h3,Res.bind,Bo,Kl,Bv]
theorem JW {env:qE}{S:Sto}{a:D}(h1:f1 env S=.ok a S1):qA f1 (qC) env S=.ok [a] S1:=by
 simp only[qA,qC,h1,Res.bind]
theorem dE {env:qE}{i:Aj}{d:D}{S:Sto}(h:env[i]? = Ab (Ab d)):qB i env S=.ok d S:=by simp only[qB,h]
theorem cK {α:Type}(p:α→Ap)(l:Aa α) : zP (l.map fun x=>D.bl (p x))=Ab (l.map p):=by
 induction l with
 |nil=>rfl
 |cons x l ih =>
  show (zP (l.map fun x=>D.bl (p x))).map (p x::·)=_
  rw[ih];rfl
section
variable {β γ:Type}{env:qE}{S:Sto}
theorem z0 {r:Res β}{k:β→Sto→Res γ}{Q:γ→Sto→Prop}(h:Ok r fun d S1=>Ok (k d S1) Q):Ok (r.bind k) Q:=by
 obtain⟨d,S1,rfl,h⟩:=h;exact h
theorem xT {r:Res β}{d:β}(h:Ok r fun d' S'=>d'=d∧S'=S):r=.ok d S:=by
 obtain⟨_,_,e,rfl,rfl⟩:=h;exact e
theorem zE {r:Res β}{Q Q':β→Sto→Prop}(h:Ok r Q)(k:∀ d S,Q d S→Q' d S):Ok r Q':=by
 obtain⟨d,S,e,q⟩:=h;exact⟨d,S,e,k d S q⟩
variable {Q:D→Sto→Prop}{f g:DE}{fa:DA}{o:G2}{i j:Aj}
theorem o_c {d:D}(h:Q d S):Ok (dC d env S) Q:=⟨_,_,rfl,h⟩
theorem o_v {d:D}(e:env[i]? = Ab (Ab d))(h:Q d S):Ok (qB i env S) Q:=⟨_,_,dE e,h⟩
theorem o_2 (h:Ok (f env S) fun a S1=>Ok (g env S1) fun b S2=>Ok (o a b S2) Q):Ok (d2 o f g env S) Q:=z0 (zE h fun _ _=>z0)
theorem o_1 {u:D→Sto→Res D}(h:Ok (f env S) fun a S1=>Ok (u a S1) Q):Ok (d1 u f env S) Q:=z0 h
theorem eZ {Q:Aa D→Sto→Prop}(h:Q [] S):Ok (qC env S) Q:=⟨_,_,rfl,h⟩
theorem kT {Q:Aa D→Sto→Prop}(h:Ok (f env S) fun a S1=>Ok (fa env S1) fun as S2=>Q (a::as) S2):Ok (qA f fa env S) Q:=z0 (zE h fun _ _ k=>z0 (zE k fun _ _ q=>⟨_,_,rfl,q⟩))
theorem SK (h:Ok (fa env S) fun as S1=>as.length≤lim∧Q (.tup as) S1):Ok (qW fa env S) Q:=z0 (zE h fun _ _ k=>⟨_,_,A7 k.1,k.2⟩)
theorem MV (h:Ok (fa env S) fun as S1=>as.length≤lim∧Q (.lst as) S1):Ok (zZ fa env S) Q:=z0 (zE h fun _ _ k=>⟨_,_,A7 k.1,k.2⟩)
theorem DV (h:Ok (fa env S) fun as S1=>as.length≤lim∧Q (.loc S1.length) (S1++[.lst as])):Ok (jC fa env S) Q:=z0 (zE h fun _ _ k=>⟨_,_,A7 k.1,k.2⟩)
theorem SA (h:Q (.loc S.length) (S++[.dct []])) : Ok (eB env S) Q:=⟨_,_,rfl,h⟩
theorem iA (h:Ok (fa env S) fun as S1=>as.length=n∧Ok (F as S1) Q):Ok (qN n F fa env S) Q:=z0 (zE h fun _ _ k=>by rw[A7 k.1];exact k.2)
theorem SG {as:Aa D}(h:Ok (F as S) Q):Ok (okO F as S) Q:=by
 obtain⟨d,S1,e,q⟩:=h;exact⟨d,S1,PV e,q⟩
theorem SS (h:Ok (fa env S) fun as S1=>Ok (F as S1) Q):Ok (qL F fa env S) Q:=z0 h
theorem S9 (h:Q (.int (a+b)) S):Ok (zF (.int a) (.int b) S) Q:=⟨_,_,rfl,h⟩
theorem xN {a b:Aa D}(l:a.length+b.length≤lim)(h:Q (.lst (a++b)) S):Ok (zF (.lst a) (.lst b) S) Q:=⟨_,_,A7 l,h⟩
theorem SI (h:Q (.int (a-b)) S):Ok (zL (.int a) (.int b) S) Q:=⟨_,_,rfl,h⟩
theorem SE (h:Q (.int (-a)) S):Ok (pE (.int a) S) Q:=⟨_,_,rfl,h⟩
theorem SD (l : -(2 ^ 64)<a∧a<2 ^ 64)(h:Q (.int (a*b)) S):Ok (qQ (.int a) (.int b) S) Q:=by
 refine⟨_,_,?_,h⟩;unfold qQ i2;rw[p6];unfold f7;simp only[l,and_self,Pa,Rq,Bv]
theorem lP (l : -(2 ^ 64)<b∧b<2 ^ 64)(h:Q (.int (a*b)) S):Ok (qQ (.int a) (.int b) S) Q:=by
 refine⟨_,_,?_,h⟩;unfold qQ i2;rw[p6];unfold f7;simp only[l,and_self,Pa,Bool.or_true,Bv]
theorem S8 (h:Q (.int (if a<0 then -a else a)) S):Ok (kH [.int a] S) Q:=⟨_,_,rfl,h⟩
theorem bK (l:b≠0∧b.natAbs.log2<9000)(h:Q (.int (a.fdiv b)) S):Ok (jE (.int a) (.int b) S) Q:=by
 refine⟨_,_,?_,h⟩;unfold jE i2;rw[nR];exact A7 (Cd l)
theorem SC (l:0<b)(h:Q (.int (a % b)) S):Ok (yJ (.int a) (.int b) S) Q:=by
 refine⟨_,_,?_,h⟩;unfold yJ i2;simp[l]
theorem SB (l:0<b∧b<1073741824)(h:Q (.int (a/b)) S):Ok (pC (.int a) (.int b) S) Q:=by
 refine⟨_,_,?_,h⟩;unfold pC i2 JL;simp[l]
theorem SZ (h:Q (.bl (decide (a<b))) S):Ok (gLt (.int a) (.int b) S) Q:=⟨_,_,rfl,h⟩
theorem SY (h:Q (.bl (decide (a≤b))) S):Ok (gLe (.int a) (.int b) S) Q:=⟨_,_,rfl,h⟩
theorem SX (h:Q (.bl (decide (b<a))) S):Ok (gGt (.int a) (.int b) S) Q:=⟨_,_,rfl,h⟩
theorem SV (h:Q (.bl (decide (b≤a))) S):Ok (gGe (.int a) (.int b) S) Q:=⟨_,_,rfl,h⟩
theorem P9 (h:Q (.bl (decide (a=b))) S):Ok (gEq (.int a) (.int b) S) Q:=⟨_,_,by kernel_rfl!,h⟩
theorem R0 (h:Q (.bl (!decide (a=b))) S):Ok (gNe (.int a) (.int b) S) Q:=⟨_,_,by kernel_rfl!,h⟩
theorem gJ {a:Aa D}{k:Am}{d:D}(e:_L.atI a k=Ab d)(h:Q d S):Ok (gIx (.tup a) (.int k) S) Q:=⟨d,S,by show _D.v8 (_L.atI a k) S=_;rw[e];rfl,h⟩
theorem n6 {a:Aa D}{k:Am}{d:D}(e:_L.atI a k=Ab d)(h:Q d S):Ok (gIx (.lst a) (.int k) S) Q:=⟨d,S,by show _D.v8 (_L.atI a k) S=_;rw[e];rfl,h⟩
theorem DU {a:Aa D}(h:Q (.int a.length) S):Ok (xG [.tup a] S) Q:=⟨_,_,rfl,h⟩
theorem DR {a:Aa D}(h:Q (.int a.length) S):Ok (xG [.lst a] S) Q:=⟨_,_,rfl,h⟩
theorem DX {a:Aa D}(h:Q (.tup a) S):Ok (kI [.lst a] S) Q:=⟨_,_,rfl,h⟩
theorem eY (h:Ok (f env S) fun d S1=>∃ b,d=.bl b∧(b=true→Ok (g env S1) Q)∧(b=false→Q (.bl false) S1)):Ok (jA f g env S) Q:=z0 (zE h fun d S1 ⟨b,e,k1,k2⟩=>by
 subst e;cases b with
 |true=>exact k1 rfl
 |false=>exact⟨_,_,rfl,k2 rfl⟩)
theorem R7 {fl fh:DO}(h:Ok (f env S) fun d S1=>Ok (fl env S1) fun lo S2=>Ok (fh env S2) fun hi S3=>Ok (gSl d lo hi S3) Q):Ok (dSl f fl fh env S) Q:=z0 (zE h fun _ _ k=>z0 (zE k fun _ _=>z0))
theorem SH {a:Aa D}{lo hi:Ak Am}(h:Q (.lst (vL a lo hi)) S):Ok (gSl (.lst a) lo hi S) Q:=⟨_,_,rfl,h⟩
theorem SU {Q:Ak Am→Sto→Prop}(h:Ok (f env S) fun d S1=>∃ k,d=.int k∧Q (Ab k) S1):Ok (vM f env S) Q:=z0 (zE h fun _ _ ⟨_,e,q⟩=>by subst e;exact⟨_,_,rfl,q⟩)
theorem SR {T:Bz}{m:D→Aa D→Sto→Res D}(h:Ok (f env S) fun a S1=>tyD a S1=Ab T∧Ok (fa env S1) fun as S2=>Ok (m a as S2) Q):Ok (dBm T m f fa env S) Q:=z0 (zE h fun _ _ k=>by rw[k.1,A7 (by simp)];exact z0 k.2)
theorem WJ {d:D}(e:S[i]? = Ab (.lst xs))(l:xs.length<lim)(h:Q .non (S.set i (.lst (xs++[d])))):Ok (wV (.loc i) [d] S) Q:=by
 refine⟨_,_,?_,h⟩;show (match S[i]? with|some (.lst xs)=>(if xs.length<lim then Res.ok D.non (S.set i (.lst (xs++[d]))) else .bad)|_=>.bad)=_
 rw[e];exact A7 l
variable {Q:Ap→Sto→Prop}{t u:DT}
theorem LV (h:Ok (f env S) fun d S1=>∃ b,vA d S1=Ab b∧Q b S1):Ok (dTr f env S) Q:=z0 (zE h fun d S1 ⟨b,e,k⟩=>by
 rw[e];exact⟨_,_,rfl,k⟩)
theorem PD (h:Ok (t env S) fun b S1=>Q (!b) S1):Ok (wJ t env S) Q:=z0 (zE h fun _ _ k=>⟨_,_,rfl,k⟩)
theorem SL (h:Q true S):Ok (yH env S) Q:=⟨_,_,rfl,h⟩
theorem nB (h:Ok (t env S) fun b S1=>(b=true→Q true S1)∧(b=false→Ok (u env S1) Q)):Ok (fB t u env S) Q:=z0 (zE h fun b S1 k=>by
 cases b with
 |true=>exact⟨_,_,rfl,k.1 rfl⟩
 |false=>exact k.2 rfl)
theorem P7 (h:Ok (t env S) fun b S1=>(b=true→Ok (u env S1) Q)∧(b=false→Q false S1)):Ok (tW t u env S) Q:=z0 (zE h fun b S1 k=>by
 cases b with
 |true=>exact k.1 rfl
 |false=>exact⟨_,_,rfl,k.2 rfl⟩)
theorem oO {a:Aj}(h:a<xs.length):_L.atI xs (a:Am)=Ab xs[a]:=by
 have e:_L.ixN xs.length (a:Am)=Ab a:=by simp[_L.ixN];omega
 simp[_L.atI,e,h]
theorem uS (S:Sto)(m:MO):(S++[m])[S.length]? = Ab m:=by simp
theorem XD (S:Sto)(m m':MO):(S++[m]).set S.length m'=S++[m']:=by simp
theorem cC (h:S[j]? = Ab (.lst xs)):tyD (.loc j) S=Ab "list":=by
 show (match S[j]? with|some (.lst _)=>Ab "list" | some (.dct _)=>Ab "dict" | _=>none)=_
 rw[h]
theorem n8 {Q:D→Sto→Prop}{a:Aa D}{k:Aj}(h:k<a.length)(q:∀ d∈a,Q d S):Ok (gIx (.lst a) (.int (k:Am)) S) Q:=n6 (oO h) (q _ (Fa h))
theorem VP {Q:Aa D→Sto→Prop}(h:Ok (f env S) fun d S1=>∃ ds,xA d=Ab ds∧Q ds S1):Ok (yW f env S) Q:=z0 (zE h fun d S1 ⟨ds,e,k⟩=>⟨ds,S1,by rw[e];rfl,k⟩)
theorem WN {Q:Aa D→Sto→Prop}(h:Ok (fa env S) fun as S1=>∃ ds,kX as=Ab ds∧Q ds S1):Ok (y7 fa env S) Q:=z0 (zE h fun d S1 ⟨ds,e,k⟩=>⟨ds,S1,by rw[e];rfl,k⟩)
theorem WU (n:Aj)(h:n≤1000000):kX [.int (n:Am)]=Ab ((AR n).map fun (i:Aj)=>D.int (i:Am)):=by
 unfold kX;have : -(2 ^ 62)≤(n:Am)∧(n:Am)<2 ^ 62:=⟨by omega,by omega⟩
 refine(A7 this).trans ?_;unfold xV;rw[Dz]
 congr 2
 funext i
 rw[Int.zero_add]
theorem DW {Q:Aa D→Sto→Prop}(h:Ok (f env S) fun d S1=>∃ k:Am,d=.int k∧0≤k∧k≤1000000∧Q ((AR k.toNat).map fun (i:Aj)=>D.int (i:Am)) S1):Ok (y7 (qA f qC) env S) Q:=WN (kT (zE h fun _ _ ⟨k,e,h0,h1,q⟩=>eZ ⟨_,by
 have:=WU k.toNat om;rw[Int.toNat_of_nonneg h0] at this;rw[e,this],q⟩))
theorem jL {Q:D→Sto→Prop}{k:Am}{d:D}(e:S[i]? = Ab (.lst xs))(e':_L.atI xs k=Ab d)(h:Q d S):Ok (gIx (.loc i) (.int k) S) Q:=by
 refine⟨d,S,?_,h⟩;show (match S[i]? with|some (.lst xs)=>_D.v8 (_L.atI xs k) S|_=>.bad)=_
 rw[e];show _D.v8 (_L.atI xs k) S=_;rw[e'];rfl
theorem iB {Q:D→Sto→Prop}(e:S[i]? = Ab (.lst xs))(h:Q (.int xs.length) S):Ok (xG [.loc i] S) Q:=by
 refine⟨_,_,?_,h⟩;have e':eO (.loc i) S=Ab xs.length:=by
  show (match S[i]? with|some (.lst xs)=>Ab xs.length|_=>none)=_
  rw[e]
 show (match eO (.loc i) S with|some n=>Res.ok (D.int n) S|none=>.bad)=_
 rw[e']
theorem MX {Q:D→Sto→Prop}{k:Aj}(e:S[i]? = Ab (.lst xs))(hk:k<xs.length)(hb:k<1000000)(h:Q xs[k] (S.set i (.lst (xs.eraseIdx k)))):Ok (kJ (.loc i) [.int (k:Am)] S) Q:=by
 refine⟨_,_,?_,h⟩;show gK S i (fun xs=>if 0≤(k:Am)∧(k:Am)<1000000 then (match xs[(k:Am).toNat]? with|some d=>Res.ok d (S.set i (.lst (xs.eraseIdx (k:Am).toNat)))|none=>.bad) else .bad)=_
 unfold gK;rw[e];show (if 0≤(k:Am)∧(k:Am)<1000000 then _ else _)=_
 rw[A7 ⟨by omega,by omega⟩,Dz,Aq hk]
theorem PH {Q:IE→Sto→Prop}{d:D}{n:Am}(e:S[i]? = Ab (.dct kvs))(hl:kvs.length<lim)(h:Q () (S.set i (.dct (uK kvs (.inl n) d)))):Ok (wK (.loc i) (.int n) d S) Q:=by
 refine⟨_,_,?_,h⟩;show (match S[i]? with|some (.dct kvs)=>(match jK (.int n) with|some k=>(if kvs.length<lim then Res.ok () (S.set i (.dct (uK kvs k d))) else .bad)|none=>.bad)|_=>pF (.loc i) (.int n) d S)=_
 rw[e];exact A7 hl
theorem iC {Q:IE→Sto→Prop}{d:D}{n:Am}(e:S[i]? = Ab (.lst xs))(e':_L.ixN xs.length n=Ab j)(h:Q () (S.set i (.lst (xs.set j d)))):Ok (wK (.loc i) (.int n) d S) Q:=by
 refine⟨_,_,?_,h⟩;simp[wK,pF,e,e']
theorem cW (h:S[i]? = Ab (.dct kvs)):pY (.loc i) S=Ab kvs:=by
 show (match S[i]? with|some (.dct kvs)=>Ab kvs|_=>none)=_
 rw[h]
theorem MS {Q:D→Sto→Prop}{n:Am}(e:S[i]? = Ab (.dct kvs))(h:Q (.bl (wA kvs (.inl n)).isSome) S):Ok (fJ (.int n) (.loc i) S) Q:=⟨_,_,by unfold fJ;rw[cW e];rfl,h⟩
theorem MT {Q:D→Sto→Prop}{n:Am}{d:D}(e:S[i]? = Ab (.dct kvs))(e':wA kvs (.inl n)=Ab d)(h:Q d S):Ok (pD (.loc i) (.int n) S) Q:=by
 refine⟨d,S,?_,h⟩;unfold pD;rw[cW e];show (match wA kvs (.inl n) with|some d=>Res.ok d S|none=>.bad)=_
 rw[e']
theorem GK (h:env[i]? = Ab (Ab (.tup xs))):dIt (qB i) env S=.ok (none,xs) S:=by
 unfold dIt;rw[dE h];rfl
theorem LO (h:env[i]? = Ab (Ab (.loc j)))(e:S[j]? = Ab (.lst xs)):dIt (qB i) env S=.ok (Ab (j,.lst xs),xs) S:=by
 unfold dIt;rw[dE h];show (match S[j]? with|some (.lst xs)=>Res.ok (Ab (j,MO.lst xs),xs) S|_=>.bad)=_
 rw[e]
theorem GJ (h:n≤1000000):y9 (y7 (qA (dC (.int (n:Am))) qC)) env S=.ok (none,(AR n).map fun (i:Aj)=>D.int (i:Am)) S:=xT (z0 (WN (kT (o_c (eZ ⟨_,WU n h,_,_,rfl,rfl,rfl⟩)))))
theorem lA {α:Type}(f:α→β):∀ l:Aa α,l.flatMap (fun x=>[f x])=l.map f
 |[]=>rfl
 |x::l=>by rw[Gx,lA f l];rfl
theorem kS {α:Type}{enc:α→D}{o:Ak (Aj × MO)}{fi:DI2}{tg:DG}{Q:D→Sto→Prop}(xs:Aa α)(val:α→D)(C:qE→Sto→Prop)(hi:fi env S=.ok (o,xs.map enc) S1)(h0:C (xC cap env) S1)(hl:xs.length≤lim)(hst:∀ env S,C env S→stn o S)
  (step:∀ x∈xs,∀ env S,C env S→Ok (tg (enc x) env S) fun env1 S1=>Ok (t env1 S1) fun b S2=>b=true∧Ok (fe env1 S2) fun d S3=>d=val x∧C env1 S3) (q:∀ env' S',C env' S'→Q (.lst (xs.map val)) S'):Ok (zI false cap fi tg t (zV fe) env S) Q:=by
 have fm:=lA val xs;obtain⟨env',S',e,c⟩:=goT (enc:=enc) (o:=o) (g:=tg) (t:=t) (k:=zV fe) (fun x=>[val x]) C hst xs (xC cap env) S1 [] h0 (by rw[fm,A6];simpa using hl) (fun x hx env S acc hC hl=>by
  obtain⟨env1,S1,e1,b,S2,e2,rfl,d,S3,e3,rfl,c3⟩:=step x hx env S hC;exact⟨env1,S1,true,S2,e1,e2,.inr ⟨rfl,env1,S3,lH e3 (by simp at hl;omega),c3⟩⟩)
 rw[fm,Fz] at e;exact⟨_,_,mL hi e,q env' S' c⟩
theorem GC {α:Type}{enc:α→D}{o:Ak (Aj × MO)}{tg:DG}(R:D→Prop)(C:qE→Sto→Prop)(hst:∀ env S,C env S→stn o S) :
  ∀ (xs:Aa α) (env:qE) (S:Sto) (acc:Aa D),C env S→acc.length+xs.length≤lim→(∀ x∈xs,∀ env S,C env S→Ok (tg (enc x) env S) fun env1 S1=>Ok (t env1 S1) fun b S2=>b=true∧Ok (fe env1 S2) fun d S3=>R d∧C env1 S3) →
  ∃ env' S' ds,goL o tg t (zV fe) (xs.map enc) env S acc=.ok (env',acc++ds) S'∧C env' S'∧ds.length=xs.length∧∀ d∈ds,R d
 |[],env,S,acc,h,_,_=>⟨env,S,[],by simp[goL,wQ.mpr (hst _ _ h)],h,rfl,fun _ h=>by cases h⟩
 |x::xs,env,S,acc,h,hl,step=>by
  obtain⟨env1,S1,e1,b,S2,e2,rfl,d,S3,e3,hr,c3⟩:=step x (Ba ..) env S h;rw[Bo] at hl;obtain⟨env',S',ds,e,c,l,hR⟩:=GC R C hst xs env1 S3 (acc++[d]) c3 (by rw[Bt];show _+1+_≤lim;omega) fun y hy=>step y (AM _ hy)
  refine⟨env',S',d::ds,?_,c,by rw[Bo,Bo,l],fun z hz=>?_⟩
  ·simp only[Co,goL,wQ.mpr (hst _ _ h),Bv,e1,e2,Res.bind,lH e3 (show acc.length<lim by omega)]
   rw[e,Ex];rfl
  ·rcases Aw.mp hz with rfl|hz
   ·exact hr
   ·exact hR z hz
theorem VO {α:Type}{enc:α→D}{o:Ak (Aj × MO)}{fi:DI2}{tg:DG}{Q:D→Sto→Prop}(xs:Aa α)(R:D→Prop)(C:qE→Sto→Prop)(hi:fi env S=.ok (o,xs.map enc) S1)(h0:C (xC cap env) S1)(hl:xs.length≤lim)(hst:∀ env S,C env S→stn o S)
  (step:∀ x∈xs,∀ env S,C env S→Ok (tg (enc x) env S) fun env1 S1=>Ok (t env1 S1) fun b S2=>b=true∧Ok (fe env1 S2) fun d S3=>R d∧C env1 S3) (q:∀ ds env' S',ds.length=xs.length→(∀ d∈ds,R d)→C env' S'→Q (.lst ds) S'):Ok (zI false cap fi tg t (zV fe) env S) Q:=by
 obtain⟨env',S',ds,e,c,l,hR⟩:=GC (enc:=enc) (o:=o) (tg:=tg) (t:=t) (fe:=fe) R C hst xs (xC cap env) S1 [] h0 (by simpa using hl) step
 exact⟨_,_,mL hi e,q ds env' S' l hR c⟩
theorem eX {α:Type}{Q:D→Sto→Prop}{l:Aa α}{p:α→Ap}(h:Q (.bl (l.all p)) S):Ok (pB false [.lst (l.map fun x=>.bl (p x))] S) Q:=by
 refine⟨_,_,?_,h⟩;show (match (xA (.lst (l.map fun x=>D.bl (p x)))).bind zP with|some bs=>Res.ok (D.bl (bs.all id)) S|none=>.bad)=_
 rw[show (xA (.lst (l.map fun x=>D.bl (p x)))).bind zP=Ab (l.map p) from cK p l]
 simp only[Gj];rfl
theorem PC {Q:D→Sto→Prop}{gg:G2}{a b x y:D}{z:D}(e1:yL pA S a=Ab x)(e2:yL pA S b=Ab y)(e3:gg x y (vC S)=.ok z (vC S))(ha:rS z=true)(h:Q z S):Ok (gI gg a b S) Q:=by
 refine⟨z,S,?_,h⟩;unfold gI;rw[e1,e2];show eP (gg x y (vC S)) S=_;rw[e3];exact A7 ha
theorem VJ {f:D→Ak D}(h:∀ x∈xs,f x=Ab x):mapO f xs=Ab xs:=by
 induction xs with
 |nil=>rfl
 |cons x xs ih=>simp[mapO,h x (Ba ..),ih fun y hy=>h y (AM _ hy)]
theorem lY (e:S[i]? = Ab (.lst xs))(h:∀ x∈xs,yL 19 S x=Ab x):yL pA S (.loc i)=Ab (.lst xs):=by
 show (match S[i]? with|some (.lst xs)=>(mapO (yL 19 S) xs).map D.lst|_=>none)=_
 rw[e];show (mapO (yL 19 S) xs).map D.lst=_;rw[VJ h];rfl
theorem R6 {Q:qE→Sto→Prop}{h:G3}{d:D}(k:Ok (f env S) fun a S1=>Ok (g env S1) fun b S2=>Ok (h a b d S2) fun _ S3=>Q env S3):Ok (gSb f g h d env S) Q:=z0 (zE k fun _ _ k=>z0 (zE k fun _ _ k=>z0 (zE k fun _ _ q=>⟨_,_,rfl,q⟩)))
variable {Q:qE→Sto→Prop}
theorem R3 {d:D}(h:Q (env.set i (Ab d)) S):Ok (gNm i d env S) Q:=⟨_,_,rfl,h⟩
theorem PJ (h:xs.length=n∧Ok (gs xs env S) Q):Ok (gTp n gs (.tup xs) env S) Q:=by
 obtain⟨d,S1,e,q⟩:=h.2;exact⟨d,S1,by show (if xs.length=n then gs xs env S else .bad)=_;rw[A7 h.1];exact e,q⟩
theorem SJ (h:xs.length=n∧Ok (gs xs env S) Q):Ok (lC n gs (.lst xs) env S) Q:=by
 obtain⟨d,S1,e,q⟩:=h.2;exact⟨d,S1,by show (if xs.length=n then gs xs env S else .bad)=_;rw[A7 h.1];exact e,q⟩
theorem SW (h:Q env S):Ok (vD [] env S) Q:=⟨_,_,rfl,h⟩
theorem LS {t:DG}{x:D}(h:Ok (t x env S) fun env1 S1=>Ok (gs xs env1 S1) Q):Ok (zK t gs (x::xs) env S) Q:=z0 h
def Wo (P:Out→Prop)(o:Out):Prop:=P o
def XC (g:DS)(P:Out→Prop):Out→Prop
 |.nx env S=>P (g env S)
 |o=>P o
def cD (b:Ap)(f g:DS):DS:=match b with
 |true=>f
 |false=>g
def LD (Q:D→Sto→Prop):Out→Prop
 |.rt d S=>Q d S
 |.nx _ S=>Q .non S
 |_=>CC
def WC {α:Type}(I:Aa α → qE→Sto→Prop)(xs:Aa α)(P:Out→Prop):Out→Prop
 |.nx env S=>I xs env S
 |.ct env S=>I xs env S
 |.bk env S=>P (.nx env S)
 |o=>P o
variable {P:Out→Prop}{sf sg:DS}{fi:DI}{tg:DG}{d:D}
theorem bU (h:Wo (XC sg P) (sf env S)):Wo P (qM sf sg env S):=by
 unfold qM;unfold Wo at h ⊢;cases e:sf env S <;> rw[e] at h <;> exact h
theorem ND (R:qE→Sto→Prop)(h:∀ P':Out→Prop,(∀ env S,R env S→Wo P' (.nx env S))→Wo P' (sf env S))(k:∀ env S,R env S→Wo P (sg env S)):Wo P (qM sf sg env S):=bU (h _ k)
theorem cE (h:Wo P (sg env S)):Wo (XC sg P) (.nx env S):=h
theorem RA (h:Wo P (.rt d S)):Wo (XC sg P) (.rt d S):=h
theorem DZ (h:Wo P (.nx env S)):Wo P (zB env S):=h
theorem jS {r:Res β}{k:β→Sto→Out}(h:Ok r fun d S1=>Wo P (k d S1)):Wo P (r.toS env k):=by
 obtain⟨d,S1,rfl,h⟩:=h;exact h
theorem SM (h:Ok (f env S) fun d S1=>Ok (tg d env S1) fun env' S2=>Wo P (.nx env' S2)):Wo P (qU f tg env S):=jS (zE h fun _ _=>jS)
theorem DY (h:Ok (f env S) fun _ S1=>Wo P (.nx env S1)):Wo P (w6 f env S):=jS h
theorem Y0 (h:Ok (f env S) fun d S1=>Wo P (.rt d S1)):Wo P (z9 f env S):=jS h
theorem SO (h:Ok (fa env S) fun ds S1=>∃ a b,ds=[a,b]∧Wo P (.nx ((env.set i (Ab a)).set j (Ab b)) S1)):Wo P (v9 i j fa env S):=jS (zE h fun _ _ ⟨_,_,e,q⟩=>by subst e;exact q)
theorem R9 (h:Ok (t env S) fun b S1=>Wo P (cD b sf sg env S1)):Wo P (sIf t sf sg env S):=jS (zE h fun b S1 q=>by cases b <;> exact q)
theorem w_t (h:Wo P (sf env S)):Wo P (cD true sf sg env S):=h
theorem w_f (h:Wo P (sg env S)):Wo P (cD false sf sg env S):=h
theorem SN {b:Ap}(h:Wo P (cD b sg sf env S)):Wo P (cD (!b) sf sg env S):=by cases b <;> exact h
theorem zN {p:Prop}[Go p](h1:p→Wo P (sf env S))(h2:¬ p→Wo P (sg env S)):Wo P (cD (decide p) sf sg env S):=by
 by_cases h:p
 ·rw[Cd h];exact h1 h
 ·rw[Cg h];exact h2 h
theorem NF (h:Ok (fi env S) fun ds S1=>Wo P (uD tg sf ds env S1)):Wo P (vW fi tg sf env S):=jS h
theorem wH {α:Type}{enc:α→D}(I:Aa α → qE→Sto→Prop)(turn:∀ x xs env S,I (x::xs) env S→Ok (tg (enc x) env S) fun env1 S1=>Wo (WC I xs P) (sf env1 S1))(last:∀ env S,I [] env S→Wo P (.nx env S)) :
  ∀ {xs:Aa α} {env:qE} {S:Sto},I xs env S→Wo P (uD tg sf (xs.map enc) env S)
 |[],env,S,h=>last env S h
 |x::xs,env,S,h=>by
  obtain⟨env1,S1,e1,h1⟩:=turn x xs env S h;rw[Co,uD];unfold Wo at h1 ⊢;simp only[e1,Res.toS];cases e2:sf env1 S1 with
  |nx env2 S2=>rw[e2] at h1;exact wH I turn last h1
  |ct env2 S2=>rw[e2] at h1;exact wH I turn last h1
  |bk env2 S2=>rw[e2] at h1;exact h1
  |rt d2 S2=>rw[e2] at h1;exact h1
  |ex c2 x2 env2 S2=>rw[e2] at h1;exact h1
  |bad=>rw[e2] at h1;exact h1
def whQ (I:Aj→qE→Sto→Prop)(n:Aj)(P:Out→Prop):Out→Prop
 |.nx env S=>∃ m,m<n∧I m env S
 |.ct env S=>∃ m,m<n∧I m env S
 |.bk env S=>P (.nx env S)
 |o=>P o
theorem rH (I:Aj→qE→Sto→Prop)(turn:∀ n env S,I n env S→Ok (t env S) fun b S1=>(b=true→Wo (whQ I n P) (sf env S1))∧(b=false→Wo P (.nx env S1))){n:Aj}(hn:n<big)(h:I n env S):Wo P (vX t sf env S):=by
 have key:∀ N n env S,n<N→I n env S→Wo P (v7 t sf N env S):=by
  intro N
  induction N with
  |zero=>intro n env S h;omega
  |succ N ih =>
   intro n env S h hI;obtain⟨b,S1,e1,k1,k2⟩:=turn n env S hI;unfold v7;rw[e1];cases b with
   |false=>exact k2 rfl
   |true =>
    have k:=k1 rfl;unfold Wo at k ⊢;simp only[Res.toS,Bv];cases e2:sf env S1 with
    |nx env2 S2=>rw[e2] at k;obtain⟨m,hm,hI2⟩:=k;exact ih m env2 S2 om hI2
    |ct env2 S2=>rw[e2] at k;obtain⟨m,hm,hI2⟩:=k;exact ih m env2 S2 om hI2
    |bk env2 S2=>rw[e2] at k;exact k
    |rt d2 S2=>rw[e2] at k;exact k
    |ex c2 x2 env2 S2=>rw[e2] at k;exact k
    |bad=>rw[e2] at k;exact k
 exact key big n env S hn h
theorem oE {I:Aj→qE→Sto→Prop}(m:Aj)(hm:m<n)(h:I m env S):Wo (whQ I n P) (.nx env S):=⟨m,hm,h⟩
theorem o9 {x:D}(hs:wG n ds=env)(h:sf env S=.ex v x env' S'):qR n sf ds S=.ex v x S':=by
 subst hs;unfold qR;rw[h];rfl
theorem MG {x:D}(h:t env S=.ok true S1)(k:sf env S1=.ex v x env' S'):sIf t sf sg env S=.ex v x env' S':=by
 simp only[sIf,h,Res.toS,Bv];exact k
theorem lU (v:Ac)(x:Ar)(env:qE)(S:Sto):yZ v (qA (dC (.str x)) (qC)) env S=.ex v .non env S:=by
 unfold yZ;rw[JW (show dC (.str x) env S=.ok (.str x) S from rfl)]
 show (if ([D.str x]:Aa D).length≤lim then Out.ex v D.non env S else Out.bad)=_
 exact A7 (AX rfl)
def exQ (v:Ac)(x:D)(S0:Sto):Out→Prop:=fun o=>∃ env',o=.ex v x env' S0
theorem r9 {x:D}(hs:wG n ds=env)(h:Wo (exQ v x S') (sf env S)):qR n sf ds S=.ex v x S':=by
 obtain⟨env',e⟩:=h;exact o9 hs e
theorem UX {x:Ar}(h:P (.ex v .non env S)):Wo P (yZ v (qA (dC (.str x)) (qC)) env S):=by
 unfold Wo;rw[lU];exact h
theorem mC {x:D}(e:f env S=.ex v x S')(h:P (.ex v x env S')):Wo P (w6 f env S):=by
 unfold Wo w6;rw[e];exact h
theorem yS {α:Type}{I:Aa α → qE→Sto→Prop}{xs:Aa α}(h:I xs env S):Wo (WC I xs P) (.nx env S):=h
theorem zC {Q:D→Sto→Prop}(hs:wG n ds=env)(h:Wo (LD Q) (sf env S)):Ok (qR n sf ds S) Q:=by
 subst hs;unfold qR;unfold Wo at h;cases e:sf (wG n ds) S <;> rw[e] at h <;> first|exact⟨_,_,rfl,h⟩|exact An h
end
abbrev Pt:=Am × Am
variable {ps:Aa Pt}
def ptD (p:Pt):D:=.tup [.int p.1,.int p.2]
def Z9 (l:Aa Pt):D:=.tup (l.map ptD)
def kP (p:Pt):Aa Am:=[p.1,p.2]
def pK (k:Aa Am):Pt:=(k.getD 0 0,k.getD 1 0)
theorem lL (ps:Aa Pt):ps.map ptD=(ps.map kP).map tpD:=by
 rw[EU];rfl
def ltP (p q:Pt):Ap:=_H.lexLt [p.1,p.2] [q.1,q.2]
abbrev Up (l:Aa Pt):Prop:=l.Pairwise fun p q=>ltP p q=true
def w9 (ps:Aa Pt):Aa Pt:=(_S.srt _H.lexLt (ps.map kP)).map pK
theorem gC {ks:Aa (Aa Am)}(h:∀ k∈ks,k∈ps.map kP):ks.map tpD=(ks.map pK).map ptD∧(ks.map pK).map kP=ks:=by
 have e:∀ k∈ks,kP (pK k)=k:=fun k hk=>by
  obtain⟨p,_,rfl⟩:=Cc.mp (h k hk);rfl
 have e2:(ks.map pK).map kP=ks:=by
  rw[EU]
  conv=>rhs;rw[← Pe ks]
  exact Ng e
 exact⟨by rw[lL,e2],e2⟩
theorem GN {p q:Pt}(h:kP p=kP q):p=q:=by
 injection h with h1 h2
 injection h2 with h2 _
 exact Rz h1 h2
theorem d9 (ps:Aa Pt):∀ k∈_S.srt _H.lexLt (ps.map kP),k∈ps.map kP:=fun k hk=>(_S.yO _S.pM k _).mp hk
theorem jQ (ps:Aa Pt)(p:Pt):p∈w9 ps↔p∈ps:=by
 unfold w9;constructor
 ·intro h
  obtain⟨k,hk,rfl⟩:=Cc.mp h;obtain⟨q,hq,rfl⟩:=Cc.mp (d9 ps k hk);exact hq
 ·intro h
  exact Cc.mpr ⟨kP p,(_S.yO _S.pM _ _).mpr (Cc.mpr ⟨p,h,rfl⟩),rfl⟩
theorem UR (ps:Aa Pt):Up (w9 ps):=by
 have h:=_S.g6 _S.pM (ps.map kP);rw[← (gC (d9 ps)).2,Ea] at h;exact h
theorem lE {K:Type}(lt':K→K→Ap)(x:K):∀ l:Aa K,(_S.vP lt' x l).length≤l.length+1
 |[]=>by simp[_S.vP]
 |y::l=>by
  have:=lE lt' x l;unfold _S.vP
  split
  ·simp
  ·split <;> simp <;> omega
theorem m7 {K:Type}(lt':K→K→Ap):∀ l:Aa K,(_S.srt lt' l).length≤l.length
 |[]=>by simp[_S.srt]
 |x::l=>by
  have h1:=lE lt' x (_S.srt lt' l);have h2:=m7 lt' l;rw[_S.srt,Bo];omega
theorem d8 (ps:Aa Pt):(w9 ps).length≤ps.length:=by
 unfold w9;rw[A6];exact Bm (m7 _ _) (by simp)
theorem gW (ps:Aa Pt)(hl:ps.length≤63):vZ (ps.map ptD)=Ab ((w9 ps).map ptD):=by
 unfold vZ w9;rw[← (gC (d9 ps)).1];cases ps with
 |nil=>rfl
 |cons p ps =>
  have h0:xZ ((p::ps).map ptD)=none:=rfl;rw[h0,lL,tN];have h2:(((p::ps).map kP).all fun k=>!k.isEmpty)=true:=by
   rw[Gj,AQ];intro q _;rfl
  have h1:(_S.srt _H.lexLt ((p::ps).map kP)).length≤63:=Bm (m7 _ _) (by rw[A6];exact hl)
  exact A7 (by rw[h2,Cd h1];rfl)
def kZ (ps:Aa Pt):Aa Pt:=(_S.yN _H.lexLt (ps.map kP)).map pK
theorem rE (ps:Aa Pt):∀ k∈_S.yN _H.lexLt (ps.map kP),k∈ps.map kP:=fun k hk=>(_S.kY _).mem_iff.mp hk
theorem FD (ps:Aa Pt):(kZ ps).map kP=_S.yN _H.lexLt (ps.map kP):=(gC (rE ps)).2
theorem tJ (ps:Aa Pt):(kZ ps).Perm ps:=by
 have h:=(_S.kY (lt':=_H.lexLt) (ps.map kP)).map pK;rw[EU] at h;have e:ps.map (pK∘kP)=ps:=by
  conv=>rhs;rw[← Pe ps]
  exact Ng fun q _=>rfl
 rw[e] at h;exact h
theorem US (nd:ps.Nodup):Up (kZ ps):=by
 have h:=_S.rF _S.pM (ps.map kP);unfold _S.Nf at h;rw[← FD,Ea] at h;have nd':(kZ ps).Nodup:=(tJ ps).nodup_iff.mpr nd;refine(List.pairwise_and_iff.mpr ⟨h,nd'⟩).imp fun {a b} ⟨h1,h2⟩=>?_;rcases _S.pM.tri h1 with z|z
 ·exact absurd (GN z).symm h2
 ·exact z
theorem XF (ps:Aa Pt)(hl:ps.length≤63):jP (ps.map ptD)=Ab ((kZ ps).map ptD):=by
 unfold kZ;rw[← (gC (rE ps)).1];unfold jP;cases ps with
 |nil =>
  have e1:_S.yN _S.ltI [] = []:=Nx;have e2:_S.yN _H.lexLt [] = []:=Nx;show (if ([] : Aa Am).length≤63 then Ab ((_S.yN _S.ltI []).map D.int) else none)=_
  rw[e1];show Ab [] = Ab ((_S.yN _H.lexLt []).map tpD);rw[e2];rfl
 |cons p ps =>
  have h0:xZ ((p::ps).map ptD)=none:=rfl;rw[h0,lL,tN];have h2:(((p::ps).map kP).all fun k=>!k.isEmpty)=true:=by
   rw[Gj,AQ];intro q _;rfl
  exact A7 (by rw[h2,Cd (by rw[A6];exact hl)];rfl)
theorem R4 {Q:D→Sto→Prop}{p:Pt}{S:Sto}(h:Q (.int p.1) S):Ok (gIx (ptD p) (.int 0) S) Q:=⟨_,_,rfl,h⟩
theorem R5 {Q:D→Sto→Prop}{p:Pt}{S:Sto}(h:Q (.int p.2) S):Ok (gIx (ptD p) (.int 1) S) Q:=⟨_,_,rfl,h⟩
theorem MY {Q:D→Sto→Prop}{S:Sto}(l:ps.length≤63)(h:Q (.lst ((kZ ps).map ptD)) S):Ok (uV [.lst (ps.map ptD)] S) Q:=by
 refine⟨_,_,?_,h⟩;show (match (Ab (ps.map ptD)).bind jP with|some ys=>Res.ok (D.lst ys) S|none=>.bad)=_
 rw[Jq,XF ps l]
theorem BF (ps:Aa Pt):pl wD (.lst (ps.map ptD))=true:=by
 show ((ps.map ptD).all (pl 29))=true;rw[Gj];exact AQ.mpr fun p _=>rfl
theorem LU {Q:D→Sto→Prop}{f:DE}{env:qE}{S:Sto}(h:Ok (f env S) fun d S1=>∃ ps:Aa Pt,pP d S1=Ab (ps.map ptD)∧ps.length≤63∧Q (.lst ((w9 ps).map ptD)) S1):Ok (wU false f env S) Q:=z0 (zE h fun d S1 ⟨ps,e,l,q⟩=>⟨_,_,by rw[e,Jq,gW ps l];rfl,q⟩)
theorem MZ {Q:D→Sto→Prop}{f:DE}{env:qE}{S:Sto}(h:Ok (f env S) fun d S1=>∃ ps:Aa Pt,pP d S1=Ab (ps.map ptD)∧ps.length≤63∧Q (.loc S1.length) (S1++[.lst ((w9 ps).map ptD)])):Ok (wU true f env S) Q:=z0 (zE h fun d S1 ⟨ps,e,l,q⟩=>⟨_,_,by rw[e,Jq,gW ps l];rfl,q⟩)
theorem UN {S:Sto}{a:Aj}(h:S[a]? = Ab (.lst xs)):pP (.loc a) S=Ab xs:=by
 show (match S[a]? with|some (.lst xs)=>Ab xs|_=>none)=_
 rw[h]
def InB (B:Am)(q:Pt):Prop:=-B≤q.1∧q.1≤B ∧ -B≤q.2∧q.2≤B
instance (B:Am)(q:Pt):Go (InB B q):=by unfold InB;exact inferInstance
structure Lot (M:Aj)(l:Aa Pt):Prop where
 ne:l≠[]
 len:l.length≤M
 up:Up l
 box:∀ q∈l,InB 1000 q
theorem NC {l:Aa Pt}(h:Up l):l.Nodup:=h.imp fun {a b} h e=>by
 subst e;rw[show ltP a a=false from _S.pM.irr _] at h
 cases h
theorem MN {M:Aj}(ne:ps≠[])(hl:ps.length≤M)(nd:ps.Nodup)(hb:∀ q∈ps,InB 1000 q):Lot M (kZ ps):=by
 have p:=tJ ps;refine⟨fun z=>?_,by rw[p.length_eq];exact hl,US nd,fun q hq=>hb q (p.mem_iff.mp hq)⟩
 rw[z] at p;exact ne p.symm.eq_nil
def xW (S:Sto)(p:Aj):Prop:=∃ v f:Am,S[p]? = Ab (.lst [.int v,.int f])
theorem U0 {S:Sto}(h:xW S p)(e:S<+:S'):xW S' p:=by
 obtain⟨v0,f0,hp⟩:=h;obtain⟨r,rfl⟩:=e;exact⟨v0,f0,by rw[AO (Ay.mp hp).1];exact hp⟩
structure Kp (p:Aj)(S S':Sto):Prop where
 pen:xW S' p
 len:S.length≤S'.length
 same:∀ m,m<S.length→m≠p→S'[m]? = S[m]?
theorem Kp.trans {S S2:Sto}(a:Kp p S S1)(b:Kp p S1 S2):Kp p S S2:=⟨b.pen,Bm a.len b.len,fun m hm hp=>(b.same m (Ax hm a.len) hp).trans (a.same m hm hp)⟩
theorem iH {S:Sto}(h:xW S p):p<S.length:=by
 obtain⟨v,f,e⟩:=h;exact(Ay.mp e).1
theorem Kp.pre {S:Sto}(h:xW S p)(e:S<+:S'):Kp p S S':=⟨U0 h e,e.length_le,fun m hm _=>(List.prefix_iff_getElem?.mp e m hm).trans (Aq hm).symm⟩
theorem Kp.set {j:Aj}{S:Sto}(h:Kp p S S')(hj:S.length≤j)(m:MO)(hp:p≠j):Kp p S (S'.set j m):=by
 obtain⟨v,f,e⟩:=h.pen;exact⟨⟨v,f,by rw[Bw (CZ hp)];exact e⟩,by rw[Kk];exact h.len,fun i hi hn=>by rw[Bw om];exact h.same i hi hn⟩
end _D
local macro_rules|`(tactic|array_get_dec)=>`(tactic| first | (with_reducible first | apply _D.bU | apply _D.cE | apply _D.SM | apply _D.o_2 | apply _D.o_c | apply _D.kT | apply _D.eZ | apply _D.S9 | apply _D.SI | apply _D.SK | apply _D.MV | apply _D.iA | apply _D.SS | apply _D.SG | apply _D.LV | apply _D.PD | apply _D.R9 | apply _D.w_t | apply _D.w_f | apply _D.SN | apply _D.DZ | apply _D.DY | apply _D.Y0 | apply _D.RA | apply _D.SO | apply _D.NF | apply _D.SZ | apply _D.SY | apply _D.SX | apply _D.SV | apply _D.P9 | apply _D.R0 | apply _D.o_1 | apply _D.SE | apply _D.DU | apply _D.DR | apply _D.DX | apply _D.DV | apply _D.R7 | apply _D.SH | apply _D.SU | apply _D.SR | apply _D.SA | apply _D.PJ | apply _D.LS | apply _D.SW | apply _D.SL | apply _D.S8 | apply _D.SJ | apply _D.R4 | apply _D.R5 | apply _D.R6 | apply _D.VP | apply _D.DW) | ((with_reducible apply _D.o_v); exact rfl) | ((with_reducible apply _D.R3); dsimp only [List.set_cons_succ, List.set_cons_zero]) | ((with_reducible (first | apply _D.SD | apply _D.SC | apply _D.SB)); omega) | ((with_reducible apply And.intro); (first | exact rfl | exact Nat.le_of_ble_eq_true rfl)) | ((with_reducible apply Exists.intro); (with_reducible apply And.intro); exact rfl) | ((with_reducible apply Exists.intro); (with_reducible apply Exists.intro); (with_reducible apply And.intro); exact rfl; dsimp only [List.set_cons_succ, List.set_cons_zero]) | ((with_reducible apply Exists.intro); (with_reducible apply Exists.intro); (with_reducible apply Exists.intro); (with_reducible apply And.intro); exact rfl; dsimp only [List.set_cons_succ, List.set_cons_zero]))
local macro_rules|`(tactic|rfl')=>`(tactic| repeat array_get_dec)
namespace _D
open PySem
variable {xs:Aa D}
def Pn (d:D):Prop:=∃ p,pyD d=Ab p
theorem pns:∀ {ps:Aa PyData},lS xs=Ab ps→∀ x∈xs,Pn x:=by
 induction xs with
 |nil=>intro ps _ x hx;cases hx
 |cons d ds ih =>
  intro ps h x hx;simp only[lS] at h;obtain⟨p,h1,h2⟩:=Cf.mp h;obtain⟨ps',h3,_⟩:=AZ.mp h2;rcases Aw.mp hx with rfl|hx
  ·exact⟨p,h1⟩
  ·exact ih h3 x hx
theorem BG (h:Pn (.tup xs)):∀ x∈xs,Pn x:=by
 obtain⟨p,h⟩:=h;simp only[pyD] at h;obtain⟨ps,h1,_⟩:=AZ.mp h;exact pns h1
theorem TM (q:Pt):Pn (ptD q):=⟨.tuple [.int q.1,.int q.2],rfl⟩
def inR (a b:Am):D→Ap
 |.int i=>decide (a≤i∧i≤b)
 |_=>false
def isW:D→Ap
 |.int _=>true
 |_=>false
def isT:D→Ap
 |.tup _=>true
 |_=>false
theorem MJ {d:D}(h:Pn d)(S:Sto):zJ [d,.ty "tuple"] S=.ok (.bl (isT d)) S:=by
 obtain⟨p,h⟩:=h;cases d <;> first|kernel_rfl!|simp[pyD] at h
theorem VN {Q:D→Sto→Prop}{fa fb fc:DE}{env:qE}{S:Sto}{a b c:Am}(h1:fa env S=.ok (.int a) S)(h2:fb env S=.ok (.int b) S)(h3:fc env S=.ok (.int c) S)(q:Q (.bl (decide (a≤b∧b≤c))) S):Ok (kG gLe gLe fa fb fc env S) Q:=by
 refine⟨_,_,?_,q⟩;unfold kG;rw[h1,Res.bind_ok,h2,Res.bind_ok];show (match vA (.bl (decide (a≤b))) S with|some true=>(fc env S).bind fun w S4=>gLe (.int b) w S4|some false=>Res.ok (.bl (decide (a≤b))) S|none=>.bad)=_
 by_cases h:a≤b
 ·rw[Cd h]
  show (fc env S).bind _=_;rw[h3];simp only[h,true_and];rfl
 ·rw[Cg h,Cg fun z=>h z.1]
  rfl
abbrev isI:D→Ap:=inR (-1000) 1000
def w8:D→Ap
 |.tup [a,b]=>isI a&&isI b
 |_=>false
theorem V4 (q:Pt):w8 (ptD q)=decide (InB 1000 q):=by
 show (decide (-1000≤q.1∧q.1≤1000)&&decide (-1000≤q.2∧q.2≤1000))=_;rw[← Bool.decide_and];exact Pf.mpr ⟨fun h=>⟨h.1.1,h.1.2,h.2.1,h.2.2⟩,fun h=>⟨⟨h.1,h.2.1⟩,h.2.2.1,h.2.2.2⟩⟩
theorem GE (h:xs.length=2):w8 (.tup xs)=xs.all isI:=by
 match xs,h with
 |[a,b],_=>simp[w8]
theorem GF (h:xs.length≠2):w8 (.tup xs)=false:=by
 match xs,h with
 |[],_=>rfl
 |[_],_=>rfl
 |[_,_],h=>exact absurd rfl h
 |_::_::_::_,_=>rfl
theorem GG {d:D}(h:isT d=false):w8 d=false:=by
 cases d <;> first|rfl|cases h
end _D
namespace _K
open PySem PySem.Spec PyProof.Rows _L _D
def top (i:Aj):Cm:=HR.main.body.getD i (.Pass ⟨0,0,0,0⟩)
structure Cl where
 (FarError NoPoint NoLot NoNumber NoCircle NoMarks NoFars NoText NoLine NoDeed Alike TooMany:Ad)
def zS (c:Cl):Aa Ad:=[c.NoPoint,c.NoLot,c.NoNumber,c.NoCircle,c.NoMarks,c.NoFars,c.NoText,c.NoLine,c.NoDeed,c.Alike,c.TooMany]
def uT (c:Cl):Aa Ac:=[.ref c.NoPoint,.ref c.NoLot,.ref c.NoNumber,.ref c.NoCircle,.ref c.NoMarks,.ref c.NoFars,.ref c.NoText,.ref c.NoLine,.ref c.NoDeed]
abbrev clt (c:Cl):Aa (Ar × Ad):=[("FarError",c.FarError),("NoPoint",c.NoPoint),("NoLot",c.NoLot),("NoNumber",c.NoNumber),("NoCircle",c.NoCircle),("NoMarks",c.NoMarks),("NoFars",c.NoFars),("NoText",c.NoText),("NoLine",c.NoLine),("NoDeed",c.NoDeed),("Alike",c.Alike),("TooMany",c.TooMany)]
abbrev plt (c:Cl):Aa (Ar × Ad):=[("NoPoint",c.NoPoint),("NoLot",c.NoLot),("NoNumber",c.NoNumber),("NoCircle",c.NoCircle),("NoMarks",c.NoMarks),("NoFars",c.NoFars),("NoText",c.NoText),("NoLine",c.NoLine),("NoDeed",c.NoDeed)]
abbrev cst:Aa (Ar × Am):=[("LEAST_NUMBER",-1000),("MOST_NUMBER",1000)]
abbrev bl:Aa Ar:=["ValueError","abs","all","bool","int","isinstance","len","list","range","set","sorted","str","tuple","zip"]
abbrev tab:Aa (Ar × Aj × Aa Ar):=[("is_whole",14,["thing"]),("is_within",15,["thing","least","most"]),("is_point",19,["thing"]),("need_point",20,["thing"]),("greatest_common",22,["one","other"]),("fraction",23,["top","bottom"]),("round_of",24,["one","two","three"]),("_law_kinds",26,["_law_e"]),("_law_refused",27,["_law_call"]),("_law_same",28,["_law_found","_law_due"]),("_law_whole",29,["_law_found"]),("_law_cell",30,["_law_script","_law_k"]),("_law_pen",31,["_law_cell_here"]),("_law_draw",32,["_law_pen_here","_law_many"]),("_law_circle",33,["_law_number"]),("_law_rich",34,["_law_pen_here","_law_most"]),("_law_lot",35,["_law_pen_here","_law_most"]),("_law_no_point",36,["_law_pen_here"]),("_law_point",37,["_law_pen_here"]),("_law_straight",38,["_law_one","_law_two","_law_three"]),("_law_divisor",39,["_law_one","_law_other"]),("_law_fraction",40,["_law_thing"]),("_law_right",41,["_law_one","_law_two","_law_three"]),("law",42,["_law_script"])]
abbrev Txt (K:Ai)(mg:Ar→Ak Ac)(c:Cl):Prop:=TxS K mg top tab bl (clt c) (plt c) (uT c) (zS c) cst
abbrev GU:Aa Ar:=["_law_right","law"]
@[reducible] def b_is_whole:DS:=z9 (jA (qL zJ (qA (qB 0) (qA (dC (.ty "int")) (qC)))) (eC (qL zJ (qA (qB 0) (qA (dC (.ty "bool")) (qC))))))
@[irreducible] def S_is_whole:DF:=sh (qR 1 b_is_whole)
theorem jX:S_is_whole=qR 1 b_is_whole:=by delta S_is_whole;exact zM _
@[reducible] def b_is_within:DS:=z9 (jA (qN 1 S_is_whole (qA (qB 0) (qC))) (kG gLe gLe (qB 1) (qB 0) (qB 2)))
@[irreducible] def S_is_within:DF:=sh (qR 3 b_is_within)
theorem uR:S_is_within=qR 3 b_is_within:=by delta S_is_within;exact zM _
@[reducible] def b_is_point:DS:=qM (sIf (fB (wJ (dTr (qL zJ (qA (qB 0) (qA (dC (.ty "tuple")) (qC)))))) (dTr (d2 gNe (qL xG (qA (qB 0) (qC))) (dC (.int 2))))) (z9 (dC (.bl false))) (zB)) (z9 (qL (pB false) (qA (zI false [none] (dIt (qB 0)) (gNm 0) (yH) (zV (qN 3 (okO S_is_within) (qA (qB 0) (qA (dC (.int (-1000))) (qA (dC (.int (1000))) (qC))))))) (qC))))
@[irreducible] def S_is_point:DF:=sh (qR 1 b_is_point)
theorem jW:S_is_point=qR 1 b_is_point:=by delta S_is_point;exact zM _
@[reducible] def b_need_point (c:Cl):DS:=sIf (wJ (dTr (qN 1 S_is_point (qA (qB 0) (qC))))) (yZ (.ref c.NoPoint) (qA (dC (.str "a point is needed")) (qC))) (zB)
@[irreducible] def S_need_point (c:Cl):DF:=sh (qR 1 (b_need_point c))
theorem wZ (c:Cl):S_need_point c=qR 1 (b_need_point c):=by delta S_need_point;exact zM _
@[reducible] def b_greatest_common:DS:=qM (vX (dTr (d2 gGt (qB 1) (dC (.int 0)))) (v9 0 1 (qA (qB 1) (qA (d2 yJ (qB 0) (qB 1)) (qC))))) (z9 (qB 0))
@[irreducible] def S_greatest_common:DF:=sh (qR 2 b_greatest_common)
theorem wY:S_greatest_common=qR 2 b_greatest_common:=by delta S_greatest_common;exact zM _
@[reducible] def b_fraction:DS:=qM (qU (qN 2 S_greatest_common (qA (qL kH (qA (qB 0) (qC))) (qA (qL kH (qA (qB 1) (qC))) (qC)))) (gNm 2)) (qM (sIf (dTr (d2 gLt (qB 1) (dC (.int 0)))) (qU (d1 pE (qB 2)) (gNm 2)) (zB)) (z9 (qW (qA (d2 jE (qB 0) (qB 2)) (qA (d2 jE (qB 1) (qB 2)) (qC))))))
@[irreducible] def S_fraction:DF:=sh (qR 3 b_fraction)
theorem jV:S_fraction=qR 3 b_fraction:=by delta S_fraction;exact zM _
@[reducible] def b_round_of (c:Cl):DS:=qM (w6 (qN 1 (S_need_point c) (qA (qB 0) (qC)))) (qM (w6 (qN 1 (S_need_point c) (qA (qB 1) (qC)))) (qM (w6 (qN 1 (S_need_point c) (qA (qB 2) (qC)))) (qM (v9 3 4 (qA (d2 zL (d2 gIx (qB 1) (dC (.int 0))) (d2 gIx (qB 0) (dC (.int 0)))) (qA (d2 zL (d2 gIx (qB 1) (dC (.int 1))) (d2 gIx (qB 0) (dC (.int 1)))) (qC)))) (qM (v9 5 6 (qA (d2 zL (d2 gIx (qB 2) (dC (.int 0))) (d2 gIx (qB 0) (dC (.int 0)))) (qA (d2 zL (d2 gIx (qB 2) (dC (.int 1))) (d2 gIx (qB 0) (dC (.int 1)))) (qC)))) (qM (qU (d2 qQ (dC (.int 2)) (d2 zL (d2 qQ (qB 3) (qB 6)) (d2 qQ (qB 4) (qB 5)))) (gNm 7)) (qM (sIf (dTr (d2 gEq (qB 7) (dC (.int 0)))) (yZ (.ref c.NoCircle) (qA (dC (.str "the three points lie on one straight line")) (qC))) (zB)) (qM (qU (d2 zL (d2 qQ (qB 6) (d2 zF (d2 qQ (qB 3) (qB 3)) (d2 qQ (qB 4) (qB 4)))) (d2 qQ (qB 4) (d2 zF (d2 qQ (qB 5) (qB 5)) (d2 qQ (qB 6) (qB 6))))) (gNm 8)) (qM (qU (d2 zL (d2 qQ (qB 3) (d2 zF (d2 qQ (qB 5) (qB 5)) (d2 qQ (qB 6) (qB 6)))) (d2 qQ (qB 5) (d2 zF (d2 qQ (qB 3) (qB 3)) (d2 qQ (qB 4) (qB 4))))) (gNm 9)) (qM (qU (qN 2 S_fraction (qA (d2 zF (d2 qQ (d2 gIx (qB 0) (dC (.int 0))) (qB 7)) (qB 8)) (qA (qB 7) (qC)))) (gNm 10)) (qM (qU (qN 2 S_fraction (qA (d2 zF (d2 qQ (d2 gIx (qB 0) (dC (.int 1))) (qB 7)) (qB 9)) (qA (qB 7) (qC)))) (gNm 11)) (z9 (qW (qA (qB 10) (qA (qB 11) (qA (qN 2 S_fraction (qA (d2 zF (d2 qQ (qB 8) (qB 8)) (d2 qQ (qB 9) (qB 9))) (qA (d2 qQ (qB 7) (qB 7)) (qC)))) (qC))))))))))))))))
@[irreducible] def S_round_of (c:Cl):DF:=sh (qR 12 (b_round_of c))
theorem wI (c:Cl):S_round_of c=qR 12 (b_round_of c):=by delta S_round_of;exact zM _
@[reducible] def b__law_kinds (c:Cl):DS:=qM (qU (zZ (qA (qL (zH (zS c)) (qA (qB 0) (qA (dC (.obj c.NoPoint)) (qC)))) (qA (qL (zH (zS c)) (qA (qB 0) (qA (dC (.obj c.NoLot)) (qC)))) (qA (qL (zH (zS c)) (qA (qB 0) (qA (dC (.obj c.NoNumber)) (qC)))) (qC))))) (gNm 1)) (qM (qU (d2 zF (qB 1) (zZ (qA (qL (zH (zS c)) (qA (qB 0) (qA (dC (.obj c.NoCircle)) (qC)))) (qA (qL (zH (zS c)) (qA (qB 0) (qA (dC (.obj c.NoMarks)) (qC)))) (qA (qL (zH (zS c)) (qA (qB 0) (qA (dC (.obj c.NoFars)) (qC)))) (qC)))))) (gNm 1)) (qM (qU (d2 zF (qB 1) (zZ (qA (qL (zH (zS c)) (qA (qB 0) (qA (dC (.obj c.NoText)) (qC)))) (qA (qL (zH (zS c)) (qA (qB 0) (qA (dC (.obj c.NoLine)) (qC)))) (qA (qL (zH (zS c)) (qA (qB 0) (qA (dC (.obj c.NoDeed)) (qC)))) (qC)))))) (gNm 1)) (qM (qU (d2 zF (qB 1) (zZ (qA (qL (zH (zS c)) (qA (qB 0) (qA (dC (.obj c.Alike)) (qC)))) (qA (qL (zH (zS c)) (qA (qB 0) (qA (dC (.obj c.TooMany)) (qC)))) (qC))))) (gNm 1)) (qM (sIf (fB (wJ (dTr (qL (zH (zS c)) (qA (qB 0) (qA (dC (.ty "ValueError")) (qC)))))) (dTr (d2 gNe (dBm "list" b7 (qB 1) (qA (dC (.bl true)) (qC))) (dC (.int 1))))) (z9 (dC (.str "other"))) (zB)) (qM (sIf (dTr (qL (zH (zS c)) (qA (qB 0) (qA (dC (.obj c.Alike)) (qC))))) (z9 (qW (qA (dC (.str "alike")) (qA (kF) (qA (kF) (qA (kF) (qA (kF) (qC)))))))) (zB)) (qM (sIf (dTr (qL (zH (zS c)) (qA (qB 0) (qA (dC (.obj c.TooMany)) (qC))))) (z9 (qW (qA (dC (.str "many")) (qA (kF) (qA (kF) (qC)))))) (zB)) (qM (qU (zZ (qA (dC (.str "point")) (qA (dC (.str "lot")) (qA (dC (.str "number")) (qA (dC (.str "circle")) (qA (dC (.str "marks")) (qA (dC (.str "fars")) (qA (dC (.str "text")) (qA (dC (.str "line")) (qA (dC (.str "deed")) (qC))))))))))) (gNm 2)) (z9 (d2 gIx (qB 2) (dBm "list" b8 (qB 1) (qA (dC (.bl true)) (qC))))))))))))
@[irreducible] def S__law_kinds (c:Cl):DF:=sh (qR 3 (b__law_kinds c))
theorem wX (c:Cl):S__law_kinds c=qR 3 (b__law_kinds c):=by delta S__law_kinds;exact zM _
@[reducible] def b__law_refused (c:Cl)(G:Aa D→DF)(a:Ad)(cv:Aa V):DS:=qM (pN 2 1 (uT c) (w6 (jB 0 (qC) a cv 0 G)) (z9 (qN 1 (S__law_kinds c) (qA (qB 1) (qC))))) (z9 (dC (.str "told")))
@[reducible] def b__law_same (S__law_same:DF):DS:=qM (sIf (dTr (d2 gIs (qB 1) (dC .non))) (z9 (d2 gIs (qB 0) (dC .non))) (zB)) (qM (sIf (dTr (qL jD (qA (qB 1) (qA (qW (qA (dC (.ty "list")) (qA (dC (.ty "tuple")) (qC)))) (qC))))) (qM (sIf (dTr (d2 gNe (qL zJ (qA (qB 1) (qA (dC (.ty "list")) (qC)))) (qL zJ (qA (qB 0) (qA (dC (.ty "list")) (qC)))))) (z9 (dC (.bl false))) (zB)) (qM (sIf (fB (dTr (d2 gNe (qL zJ (qA (qB 1) (qA (dC (.ty "tuple")) (qC)))) (qL zJ (qA (qB 0) (qA (dC (.ty "tuple")) (qC)))))) (dTr (d2 gNe (qL xG (qA (qB 0) (qC))) (qL xG (qA (qB 1) (qC)))))) (z9 (dC (.bl false))) (zB)) (z9 (qL (pB false) (qA (zI false [none,none] (y9 (eD (qA (qB 0) (qA (qB 1) (qC))))) (gTp 2 (zK (gNm 0) (zK (gNm 1) (vD)))) (yH) (zV (qN 2 (okO S__law_same) (qA (qB 0) (qA (qB 1) (qC)))))) (qC)))))) (zB)) (qM (sIf (dTr (qL zJ (qA (qB 1) (qA (dC (.ty "str")) (qC))))) (z9 (jA (qL zJ (qA (qB 0) (qA (dC (.ty "str")) (qC)))) (d2 gEq (qB 0) (qB 1)))) (zB)) (qM (sIf (dTr (d2 gNe (qL zJ (qA (qB 0) (qA (dC (.ty "bool")) (qC)))) (qL zJ (qA (qB 1) (qA (dC (.ty "bool")) (qC)))))) (z9 (dC (.bl false))) (zB)) (z9 (jA (qL zJ (qA (qB 0) (qA (dC (.ty "int")) (qC)))) (d2 gEq (qB 0) (qB 1)))))))
def bR:Aj→DF
 |0=>fun _ _=>.bad
 |n+1=>qR 2 (b__law_same (bR n))
@[irreducible] def S__law_same:DF:=sh (bR 4)
theorem uQ:S__law_same=bR 4:=by delta S__law_same;exact zM _
@[reducible] def b__law_whole:DS:=z9 (jA (qL zJ (qA (qB 0) (qA (dC (.ty "int")) (qC)))) (eC (qL zJ (qA (qB 0) (qA (dC (.ty "bool")) (qC))))))
@[irreducible] def S__law_whole:DF:=sh (qR 1 b__law_whole)
theorem u9:S__law_whole=qR 1 b__law_whole:=by delta S__law_whole;exact zM _
@[reducible] def b__law_cell:DS:=qM (sIf (dTr (d2 gLt (qB 1) (qL xG (qA (qB 0) (qC))))) (z9 (d2 gIx (qB 0) (qB 1))) (zB)) (z9 (dC (.int 0)))
@[irreducible] def S__law_cell:DF:=sh (qR 2 b__law_cell)
theorem uN:S__law_cell=qR 2 b__law_cell:=by delta S__law_cell;exact zM _
@[reducible] def b__law_pen:DS:=z9 (jC (qA (qB 0) (qA (qL eG (qA (d2 gGe (qB 0) (d2 QM (dC (.int 10)) (dC (.int 18)))) (qC))) (qC))))
@[irreducible] def S__law_pen:DF:=sh (qR 1 b__law_pen)
theorem jU:S__law_pen=qR 1 b__law_pen:=by delta S__law_pen;exact zM _
@[reducible] def b__law_draw:DS:=qM (sIf (dTr (d2 gEq (d2 gIx (qB 0) (dC (.int 1))) (dC (.int 1)))) (qM (qU (d2 yJ (d2 gIx (qB 0) (dC (.int 0))) (qB 1)) (gNm 2)) (qM (qU (d2 pC (d2 gIx (qB 0) (dC (.int 0))) (qB 1)) (gSb (qB 0) (dC (.int 0)) wK)) (z9 (qB 2)))) (zB)) (qM (qU (d2 yJ (d2 zF (d2 qQ (d2 yJ (d2 gIx (qB 0) (dC (.int 0))) (dC (.int 2147483629))) (dC (.int 48271))) (dC (.int 11))) (dC (.int 2147483629))) (gSb (qB 0) (dC (.int 0)) wK)) (z9 (d2 yJ (d2 pC (d2 yJ (d2 zF (d2 qQ (d2 gIx (qB 0) (dC (.int 0))) (d2 gIx (qB 0) (dC (.int 0)))) (d2 qQ (dC (.int 40692)) (d2 gIx (qB 0) (dC (.int 0))))) (dC (.int 2147483647))) (dC (.int 8))) (qB 1))))
@[irreducible] def S__law_draw:DF:=sh (qR 3 b__law_draw)
theorem uO:S__law_draw=qR 3 b__law_draw:=by delta S__law_draw;exact zM _
@[reducible] def b__law_circle:DS:=qM (v9 1 2 (qA (eB) (qA (zZ (qC)) (qC)))) (qM (vW (y7 (qA (dC (.int 1001)) (qC))) (gNm 3) (qU (qB 3) (gSb (qB 1) (d2 qQ (qB 3) (qB 3)) wK))) (qM (vW (y7 (qA (dC (.int 1001)) (qC))) (gNm 4) (sIf (dTr (d2 fJ (d2 zL (qB 0) (d2 qQ (qB 4) (qB 4))) (qB 1))) (qM (qU (d2 pD (qB 1) (d2 zL (qB 0) (d2 qQ (qB 4) (qB 4)))) (gNm 5)) (qM (qU (d2 zF (qB 2) (zZ (qA (qW (qA (qB 4) (qA (qB 5) (qC)))) (qA (qW (qA (d2 zL (dC (.int 0)) (qB 4)) (qA (qB 5) (qC)))) (qA (qW (qA (qB 4) (qA (d2 zL (dC (.int 0)) (qB 5)) (qC)))) (qC)))))) (gNm 2)) (qU (d2 zF (qB 2) (zZ (qA (qW (qA (d2 zL (dC (.int 0)) (qB 4)) (qA (d2 zL (dC (.int 0)) (qB 5)) (qC)))) (qC)))) (gNm 2)))) (zB))) (z9 (wU false (qB 2)))))
@[irreducible] def S__law_circle:DF:=sh (qR 6 b__law_circle)
theorem vJ:S__law_circle=qR 6 b__law_circle:=by delta S__law_circle;exact zM _
@[reducible] def b__law_rich:DS:=qM (qU (dC (.int 1)) (gNm 2)) (qM (vW (y7 (qA (d2 zF (dC (.int 1)) (qN 2 S__law_draw (qA (qB 0) (qA (dC (.int 6)) (qC))))) (qC))) (gNm 3) (qM (qU (d2 gIx (zZ (qA (dC (.int 2)) (qA (dC (.int 5)) (qA (dC (.int 13)) (qA (dC (.int 17)) (qA (dC (.int 4)) (qA (dC (.int 9)) (qA (dC (.int 5)) (qA (dC (.int 29)) (qC)))))))))) (qN 2 S__law_draw (qA (qB 0) (qA (dC (.int 8)) (qC))))) (gNm 4)) (sIf (dTr (d2 gLe (d2 qQ (qB 2) (qB 4)) (qB 1))) (qU (d2 qQ (qB 2) (qB 4)) (gNm 2)) (zB)))) (z9 (qB 2)))
@[irreducible] def S__law_rich:DF:=sh (qR 5 b__law_rich)
theorem uP:S__law_rich=qR 5 b__law_rich:=by delta S__law_rich;exact zM _
@[reducible] def b__law_lot:DS:=qM (v9 2 3 (qA (qN 2 S__law_draw (qA (qB 0) (qA (dC (.int 6)) (qC)))) (qA (d2 zF (dC (.int 1)) (qN 2 S__law_draw (qA (qB 0) (qA (qB 1) (qC))))) (qC)))) (qM (qU (qW (qA (d2 zL (qN 2 S__law_draw (qA (qB 0) (qA (dC (.int 21)) (qC)))) (dC (.int 10))) (qA (d2 zL (qN 2 S__law_draw (qA (qB 0) (qA (dC (.int 21)) (qC)))) (dC (.int 10))) (qC)))) (gTp 2 (zK (gNm 4) (zK (gNm 5) (vD))))) (qM (qU (d2 gIx (zZ (qA (dC (.int 3)) (qA (dC (.int 6)) (qA (dC (.int 900)) (qC))))) (qN 2 S__law_draw (qA (qB 0) (qA (dC (.int 3)) (qC))))) (gNm 6)) (qM (sIf (dTr (d2 gLt (qB 2) (dC (.int 2)))) (qU (qN 1 S__law_circle (qA (qN 2 S__law_rich (qA (qB 0) (qA (dC (.int 5000)) (qC)))) (qC))) (gNm 7)) (sIf (dTr (d2 gEq (qB 2) (dC (.int 2)))) (qU (zI false [none] (y9 (y7 (qA (dC (.int 25)) (qC)))) (gNm 0) (yH) (zV (qW (qA (d2 pC (qB 0) (dC (.int 5))) (qA (d2 yJ (qB 0) (dC (.int 5))) (qC)))))) (gNm 7)) (sIf (dTr (d2 gEq (qB 2) (dC (.int 3)))) (qM (qU (zI false [none] (y9 (y7 (qA (dC (.int 20)) (qC)))) (gNm 0) (yH) (zV (qW (qA (d2 qQ (dC (.int 2)) (qB 0)) (qA (d2 qQ (dC (.int 3)) (qB 0)) (qC)))))) (gNm 7)) (qU (d2 zF (qB 7) (zI false [none] (y9 (y7 (qA (dC (.int 5)) (qC)))) (gNm 0) (yH) (zV (qW (qA (qB 0) (qA (dC (.int 0)) (qC))))))) (gNm 7))) (sIf (dTr (d2 gEq (qB 2) (dC (.int 4)))) (qU (zZ (qA (qW (qA (dC (.int 0)) (qA (dC (.int 0)) (qC)))) (qA (qW (qA (dC (.int 0)) (qA (dC (.int 4)) (qC)))) (qA (qW (qA (dC (.int 4)) (qA (dC (.int 0)) (qC)))) (qA (qW (qA (dC (.int 4)) (qA (dC (.int 4)) (qC)))) (qA (qW (qA (dC (.int 2)) (qA (dC (.int 2)) (qC)))) (qA (qW (qA (d1 pE (dC (.int 1))) (qA (dC (.int 2)) (qC)))) (qA (qW (qA (dC (.int 2)) (qA (d1 pE (dC (.int 1))) (qC)))) (qA (qW (qA (dC (.int 5)) (qA (dC (.int 2)) (qC)))) (qA (qW (qA (dC (.int 2)) (qA (dC (.int 5)) (qC)))) (qA (qW (qA (dC (.int 1)) (qA (dC (.int 1)) (qC)))) (qA (qW (qA (dC (.int 6)) (qA (dC (.int 6)) (qC)))) (qC))))))))))))) (gNm 7)) (qM (qU (jC (qC)) (gNm 7)) (vW (y7 (qA (qB 1) (qC))) (gNm 8) (qM (qU (d2 zL (qN 2 S__law_draw (qA (qB 0) (qA (d2 zF (d2 qQ (dC (.int 2)) (qB 6)) (dC (.int 1))) (qC)))) (qB 6)) (gNm 9)) (w6 (dBm "list" wV (qB 7) (qA (qW (qA (qB 9) (qA (d2 zL (qN 2 S__law_draw (qA (qB 0) (qA (qB 6) (qC)))) (dC (.int 2))) (qC)))) (qC))))))))))) (qM (qU (wU true (qB 7)) (gNm 7)) (qM (qU (jC (qC)) (gNm 10)) (qM (vX (tW (dTr (d2 (gI gNe) (qB 7) (jC (qC)))) (dTr (d2 gLt (qL xG (qA (qB 10) (qC))) (qB 3)))) (w6 (dBm "list" wV (qB 10) (qA (dBm "list" kJ (qB 7) (qA (qN 2 S__law_draw (qA (qB 0) (qA (qL xG (qA (qB 7) (qC))) (qC)))) (qC))) (qC))))) (z9 (qL kI (qA (qL uV (qA (zI false [none,Ab 4,Ab 5] (dIt (qB 10)) (gNm 0) (yH) (zV (qW (qA (d2 zF (d2 gIx (qB 0) (dC (.int 0))) (qB 1)) (qA (d2 zF (d2 gIx (qB 0) (dC (.int 1))) (qB 2)) (qC)))))) (qC))) (qC))))))))))
@[irreducible] def S__law_lot:DF:=sh (qR 11 b__law_lot)
theorem jT:S__law_lot=qR 11 b__law_lot:=by delta S__law_lot;exact zM _
@[reducible] def b__law_no_point:DS:=qM (qU (zZ (qA (qW (qA (dC (.int 0)) (qC))) (qA (qW (qA (dC (.int 0)) (qA (dC (.int 0)) (qA (dC (.int 0)) (qC))))) (qA (zZ (qA (dC (.int 0)) (qA (dC (.int 0)) (qC)))) (qA (dC .non) (qA (qW (qA (dC (.bl true)) (qA (dC (.int 0)) (qC)))) (qA (qW (qA (dC (.int 0)) (qA (dC .non) (qC)))) (qA (qW (qA (dC (.int 1001)) (qA (dC (.int 0)) (qC)))) (qA (qW (qA (dC (.int 0)) (qA (d1 pE (dC (.int 1001))) (qC)))) (qA (dC (.str "0,0")) (qA (dC (.int 7)) (qA (qW (qC)) (qA (qW (qA (qW (qA (dC (.int 0)) (qA (dC (.int 0)) (qC)))) (qC))) (qC)))))))))))))) (gNm 1)) (z9 (d2 gIx (qB 1) (qN 2 S__law_draw (qA (qB 0) (qA (dC (.int 12)) (qC))))))
@[irreducible] def S__law_no_point:DF:=sh (qR 2 b__law_no_point)
theorem yU:S__law_no_point=qR 2 b__law_no_point:=by delta S__law_no_point;exact zM _
@[reducible] def b__law_point:DS:=qM (qU (d2 gIx (zZ (qA (dC (.int 2)) (qA (dC (.int 12)) (qA (dC (.int 1000)) (qC))))) (qN 2 S__law_draw (qA (qB 0) (qA (dC (.int 3)) (qC))))) (gNm 1)) (z9 (qW (qA (d2 zL (qN 2 S__law_draw (qA (qB 0) (qA (d2 zF (d2 qQ (dC (.int 2)) (qB 1)) (dC (.int 1))) (qC)))) (qB 1)) (qA (d2 zL (qN 2 S__law_draw (qA (qB 0) (qA (d2 zF (d2 qQ (dC (.int 2)) (qB 1)) (dC (.int 1))) (qC)))) (qB 1)) (qC)))))
@[irreducible] def S__law_point:DF:=sh (qR 2 b__law_point)
theorem u4:S__law_point=qR 2 b__law_point:=by delta S__law_point;exact zM _
@[reducible] def b__law_straight:DS:=qM (qU (d2 qQ (d2 zL (d2 gIx (qB 1) (dC (.int 0))) (d2 gIx (qB 0) (dC (.int 0)))) (d2 zL (d2 gIx (qB 2) (dC (.int 1))) (d2 gIx (qB 0) (dC (.int 1))))) (gNm 3)) (z9 (d2 gEq (qB 3) (d2 qQ (d2 zL (d2 gIx (qB 2) (dC (.int 0))) (d2 gIx (qB 0) (dC (.int 0)))) (d2 zL (d2 gIx (qB 1) (dC (.int 1))) (d2 gIx (qB 0) (dC (.int 1)))))))
@[irreducible] def S__law_straight:DF:=sh (qR 4 b__law_straight)
theorem yV:S__law_straight=qR 4 b__law_straight:=by delta S__law_straight;exact zM _
@[reducible] def b__law_divisor:DS:=qM (v9 0 1 (qA (qL kH (qA (qB 0) (qC))) (qA (qL kH (qA (qB 1) (qC))) (qC)))) (qM (vX (dTr (d2 gGt (qB 1) (dC (.int 0)))) (v9 0 1 (qA (qB 1) (qA (d2 yJ (qB 0) (qB 1)) (qC))))) (z9 (qB 0)))
@[irreducible] def S__law_divisor:DF:=sh (qR 2 b__law_divisor)
theorem vB:S__law_divisor=qR 2 b__law_divisor:=by delta S__law_divisor;exact zM _
@[reducible] def b__law_fraction:DS:=qM (sIf (wJ (dTr (qL zJ (qA (qB 0) (qA (dC (.ty "tuple")) (qC)))))) (z9 (dC (.bl false))) (zB)) (qM (sIf (dTr (d2 gNe (qL xG (qA (qB 0) (qC))) (dC (.int 2)))) (z9 (dC (.bl false))) (zB)) (qM (sIf (wJ (dTr (qN 1 S__law_whole (qA (d2 gIx (qB 0) (dC (.int 0))) (qC))))) (z9 (dC (.bl false))) (zB)) (qM (sIf (wJ (dTr (qN 1 S__law_whole (qA (d2 gIx (qB 0) (dC (.int 1))) (qC))))) (z9 (dC (.bl false))) (zB)) (z9 (jA (d2 gGt (d2 gIx (qB 0) (dC (.int 1))) (dC (.int 0))) (d2 gEq (qN 2 S__law_divisor (qA (d2 gIx (qB 0) (dC (.int 0))) (qA (d2 gIx (qB 0) (dC (.int 1))) (qC)))) (dC (.int 1))))))))
@[irreducible] def S__law_fraction:DF:=sh (qR 1 b__law_fraction)
theorem yT:S__law_fraction=qR 1 b__law_fraction:=by delta S__law_fraction;exact zM _
@[reducible] def b__law_right (c:Cl):DS:=qM (sIf (dTr (qN 3 S__law_straight (qA (qB 0) (qA (qB 1) (qA (qB 2) (qC)))))) (z9 (d2 gEq (uU false [0,2,1] 1 2 (qC) (b__law_refused c (kO (qN 3 (S_round_of c) (qA (qB 0) (qA (qB 2) (qA (qB 1) (qC)))))))) (dC (.str "circle")))) (zB)) (qM (qU (qN 3 (S_round_of c) (qA (qB 0) (qA (qB 1) (qA (qB 2) (qC))))) (gNm 3)) (qM (sIf (wJ (dTr (qL zJ (qA (qB 3) (qA (dC (.ty "tuple")) (qC)))))) (z9 (dC (.bl false))) (zB)) (qM (sIf (dTr (d2 gNe (qL xG (qA (qB 3) (qC))) (dC (.int 3)))) (z9 (dC (.bl false))) (zB)) (qM (sIf (wJ (dTr (qL (pB false) (qA (zI false [none] (dIt (qB 3)) (gNm 0) (yH) (zV (qN 1 (okO S__law_fraction) (qA (qB 0) (qC))))) (qC))))) (z9 (dC (.bl false))) (zB)) (qM (qU (qB 3) (gTp 3 (zK (gNm 4) (zK (gNm 5) (zK (gNm 6) (vD)))))) (qM (vW (yW (qW (qA (qB 0) (qA (qB 1) (qA (qB 2) (qC)))))) (gNm 7) (qM (qU (d2 qQ (d2 zL (d2 gIx (qB 4) (dC (.int 0))) (d2 qQ (d2 gIx (qB 7) (dC (.int 0))) (d2 gIx (qB 4) (dC (.int 1))))) (d2 gIx (qB 5) (dC (.int 1)))) (gNm 8)) (qM (qU (d2 qQ (d2 zL (d2 gIx (qB 5) (dC (.int 0))) (d2 qQ (d2 gIx (qB 7) (dC (.int 1))) (d2 gIx (qB 5) (dC (.int 1))))) (d2 gIx (qB 4) (dC (.int 1)))) (gNm 9)) (qM (qU (d2 qQ (d2 gIx (qB 4) (dC (.int 1))) (d2 gIx (qB 5) (dC (.int 1)))) (gNm 10)) (sIf (dTr (d2 gNe (d2 qQ (d2 zF (d2 qQ (qB 8) (qB 8)) (d2 qQ (qB 9) (qB 9))) (d2 gIx (qB 6) (dC (.int 1)))) (d2 qQ (d2 qQ (d2 gIx (qB 6) (dC (.int 0))) (qB 10)) (qB 10)))) (z9 (dC (.bl false))) (zB)))))) (z9 (qN 2 S__law_same (qA (qN 3 (S_round_of c) (qA (qB 2) (qA (qB 0) (qA (qB 1) (qC))))) (qA (qB 3) (qC)))))))))))
@[irreducible] def S__law_right (c:Cl):DF:=sh (qR 11 (b__law_right c))
theorem u7 (c:Cl):S__law_right c=qR 11 (b__law_right c):=by delta S__law_right;exact zM _
@[reducible] def b_law (c:Cl):DS:=qM (sIf (dTr (d2 gNe (qN 3 (S_round_of c) (qA (qW (qA (dC (.int 0)) (qA (dC (.int 0)) (qC)))) (qA (qW (qA (dC (.int 2)) (qA (dC (.int 0)) (qC)))) (qA (qW (qA (dC (.int 0)) (qA (dC (.int 1)) (qC)))) (qC))))) (qW (qA (qW (qA (dC (.int 1)) (qA (dC (.int 1)) (qC)))) (qA (qW (qA (dC (.int 1)) (qA (dC (.int 2)) (qC)))) (qA (qW (qA (dC (.int 5)) (qA (dC (.int 4)) (qC)))) (qC))))))) (z9 (dC (.bl false))) (zB)) (qM (vW (yW (d2 zF (zZ (qA (qN 2 S__law_cell (qA (qB 0) (qA (dC (.int 0)) (qC)))) (qC))) (dSl (qB 0) (vM (dC (.int 1))) (vM (dC (.int 10)))))) (gNm 1) (qM (qU (qN 1 S__law_pen (qA (qB 1) (qC))) (gNm 2)) (qM (qU (qN 2 S__law_lot (qA (qB 2) (qA (dC (.int 9)) (qC)))) (gNm 3)) (qM (qU (zI false [none,Ab 3,Ab 2] (y9 (y7 (qA (dC (.int 3)) (qC)))) (gNm 0) (yH) (zV (d2 gIx (qB 1) (qN 2 (okO S__law_draw) (qA (qB 2) (qA (qL xG (qA (qB 1) (qC))) (qC))))))) (lC 3 (zK (gNm 4) (zK (gNm 5) (zK (gNm 6) (vD)))))) (qM (qU (zZ (qA (qW (qA (qB 4) (qA (qB 5) (qA (qB 6) (qC))))) (qA (qW (qA (qB 4) (qA (qB 4) (qA (qB 5) (qC))))) (qC)))) (gNm 7)) (qM (qU (d2 zF (qB 7) (zZ (qA (qW (qA (qN 1 S__law_point (qA (qB 2) (qC))) (qA (qN 1 S__law_point (qA (qB 2) (qC))) (qA (qN 1 S__law_point (qA (qB 2) (qC))) (qC))))) (qC)))) (gNm 7)) (qM (qU (d2 zF (qB 7) (zZ (qA (qW (qA (qB 4) (qA (qN 1 S__law_point (qA (qB 2) (qC))) (qA (qB 6) (qC))))) (qC)))) (gNm 7)) (qM (vW (yW (qB 7)) (gTp 3 (zK (gNm 9) (zK (gNm 10) (zK (gNm 11) (vD))))) (sIf (wJ (dTr (qN 3 (S__law_right c) (qA (qB 9) (qA (qB 10) (qA (qB 11) (qC))))))) (z9 (dC (.bl false))) (zB))) (qM (qU (qN 1 S__law_no_point (qA (qB 2) (qC))) (gNm 8)) (qM (qU (zZ (qA (qW (qA (qB 8) (qA (qB 4) (qA (qB 4) (qC))))) (qA (qW (qA (qB 4) (qA (qB 8) (qA (qB 4) (qC))))) (qA (qW (qA (qB 4) (qA (qB 4) (qA (qB 8) (qC))))) (qA (qW (qA (qB 8) (qA (qB 8) (qA (qB 8) (qC))))) (qC)))))) (gNm 7)) (vW (yW (qB 7)) (gTp 3 (zK (gNm 9) (zK (gNm 10) (zK (gNm 11) (vD))))) (sIf (dTr (d2 gNe (uU false [9,10,11] 1 2 (qC) (b__law_refused c (kO (qN 3 (S_round_of c) (qA (qB 0) (qA (qB 1) (qA (qB 2) (qC)))))))) (dC (.str "point")))) (z9 (dC (.bl false))) (zB))))))))))))) (z9 (dC (.bl true))))
end _K
namespace _K
open PySem _D
variable {cl:Aa Ad}{C:Ad}{p:Aj}{m:Am}{Q:D→Sto→Prop}{S:Sto}{env:qE}
theorem UH {d:D}(h:Pn d)(S:Sto):S_is_whole [d] S=.ok (.bl (isW d)) S:=by
 rw[jX];obtain⟨p,h⟩:=h;cases d <;> first|kernel_rfl!|simp[pyD] at h
theorem X5 {d:D}(h:Pn d)(a b:Am)(S:Sto):S_is_within [d,.int a,.int b] S=.ok (.bl (inR a b d)) S:=by
 rw[uR];refine xT (zC (env:=[Ab d,Ab (.int a),Ab (.int b)]) rfl ?_);rfl';refine eY ?_;rfl';refine qV (UH h S) ⟨_,rfl,fun e=>?_,fun e=>?_⟩
 ·cases d with
  |int i=>exact VN rfl rfl rfl ⟨rfl,rfl⟩
  |_=>cases e
 ·cases d <;> first|exact⟨rfl,rfl⟩|cases e
theorem bO {d:D}(h:Pn d)(S:Sto):S_is_point [d] S=.ok (.bl (w8 d)) S:=by
 rw[jW];refine xT (zC (env:=[Ab d]) rfl ?_);rfl';refine nB ?_;rfl';refine qV (MJ h S) ?_;rfl';refine⟨fun e=>?_,fun e=>?_⟩
 ·rfl'
  exact⟨by rw[GG (by simpa using e)],rfl⟩
 ·cases d with
  |tup xs =>
   rfl';refine zN (fun e=>?_) fun e=>?_
   ·rfl'
    refine kS (enc:=id) (o:=none) xs (fun x=>.bl (isI x)) (fun env S'=>S'=S∧∃ a,env=[a]) ((GK rfl).trans (by rw[Pe])) ⟨rfl,none,rfl⟩ (by unfold lim;omega) (fun _ _ _=>trivial) (fun x hx env S' ⟨e1,a,e2⟩=>?_) fun env S' ⟨e1,_⟩=>?_
    ·subst e1 e2
     rfl';exact qV (X5 (BG h x hx) _ _ _) ⟨rfl,rfl,_,rfl⟩
    ·subst e1
     rfl';exact eX ⟨by rw[GE om],rfl⟩
   ·rfl'
    exact⟨by rw[GF om],rfl⟩
  |_=>cases e
theorem eV (c:Cl){d:D}(S:Sto)(h:Pn d)(k:w8 d=true):S_need_point c [d] S=.ok .non S:=by
 rw[wZ];refine xT (zC (env:=[Ab d]) rfl ?_);rfl';refine qV (bO h S) ?_;rw[k];rfl';exact⟨rfl,rfl⟩
theorem eU (c:Cl){d:D}(S:Sto)(h:Pn d)(k:w8 d=false):S_need_point c [d] S=.ex (.ref c.NoPoint) .non S:=by
 rw[wZ];refine o9 (env:=[Ab d]) (env':=[Ab d]) rfl ?_;exact MG (xT (PD (LV (iA (kT (o_v rfl (eZ ⟨rfl,qV ((bO h S).trans (by rw[k])) ⟨_,rfl,rfl,rfl⟩⟩))))))) (lU _ _ _ _)
theorem x5 (h:xW S p)(hm:0<m∧m<1073741824)(q:∀ (r:Aj) S1,Kp p S S1→(r:Am)<m→Q (.int r) S1):Ok (S__law_draw [.loc p,.int m] S) Q:=by
 have fin:∀ r v f:Am,0≤r→r<m→Q (.int r) (S.set p (.lst [.int v,.int f])):=fun r v f h0 h1=>by
  obtain⟨r,rfl⟩:=Int.eq_ofNat_of_zero_le h0;obtain⟨v0,f0,e⟩:=h;have hpl:=(Ay.mp e).1;exact q r _ ⟨⟨v,f,by simp[hpl]⟩,by simp,fun i hi hn=>Bw (CZ hn)⟩ h1
 obtain⟨v,f,e⟩:=h;have hpl:=(Ay.mp e).1;rw[uO];refine zC (env:=[Ab (.loc p),Ab (.int m),none]) rfl ?_;rfl';refine jL e (d:=.int f) rfl ?_;rfl';refine zN (fun z=>?_) fun z=>?_
 ·rfl'
  refine jL e (d:=.int v) rfl ?_;rfl';refine jL e (d:=.int v) rfl ?_;rfl';refine iC e rfl ?_;rfl';exact fin _ _ _ (Fu _ om) (EC _ hm.1)
 ·rfl'
  refine jL e (d:=.int v) rfl ?_;have hv:=Fu v (show (2147483629:Am)≠0 by omega)
  have hv':=EC v (show (0:Am)<2147483629 by omega)
  rfl';have hw:=Fu (v % 2147483629*48271+11) (show (2147483629:Am)≠0 by omega)
  have hw':=EC (v % 2147483629*48271+11) (show (0:Am)<2147483629 by omega)
  generalize (v % 2147483629*48271+11) % 2147483629=w at hw hw';refine iC e rfl ?_;have e2:(S.set p (MO.lst [.int w,.int f]))[p]? = Ab (.lst [.int w,.int f]):=by simp[hpl]
  rfl';refine jL e2 (d:=.int w) rfl ?_;rfl';refine jL e2 (d:=.int w) rfl ?_;rfl';refine jL e2 (d:=.int w) rfl ?_;rfl';exact fin _ _ _ (Fu _ om) (EC _ hm.1)
theorem MW {x:Am}(q:∀ p S1,xW S1 p→Q (.loc p) S1):Ok (S__law_pen [.int x] S) Q:=by
 rw[jU];refine zC (env:=[Ab (.int x)]) rfl ?_;rfl';refine qV (d:=.int 1000000000000000000) rfl ?_;rfl';refine qV (d:=.int (b01 (decide (1000000000000000000≤x)))) rfl ?_;rfl';exact q _ _ ⟨_,_,uS _ _⟩
theorem MP (nd:cl.Nodup){i j:Aj}{a b:Ad}(ha:cl[i]? = Ab a)(hb:cl[j]? = Ab b)(h:i≠j):(a == b)=false:=by
 rw[HJ];rintro rfl;obtain⟨h1,e1⟩:=Ay.mp ha;obtain⟨h2,e2⟩:=Ay.mp hb;exact h ((Jf nd).mp (e1.trans e2.symm))
theorem WK {B:Ad}(hC:C∈cl)(hB:B∈cl)(q:Q (.bl (C == B)) S):Ok (zH cl [.exn (.ref C),.obj B] S) Q:=by
 refine⟨_,_,?_,q⟩;show (if (cl.contains C&&cl.contains B)=true then Res.ok (D.bl (C == B)) S else .bad)=_
 rw[Cz.mpr hC,Cz.mpr hB];rfl
theorem WL (hC:C∈cl)(q:Q (.bl true) S):Ok (zH cl [.exn (.ref C),.ty "ValueError"] S) Q:=by
 refine⟨_,_,?_,q⟩;show (if (cl.contains C&&(("ValueError" : Bz) == "ValueError"))=true then Res.ok (D.bl true) S else .bad)=_
 rw[Cz.mpr hC];rfl
theorem WG (nd:cl.Nodup){i j:Aj}{a b:Ad}(ha:cl[i]? = Ab a)(hb:cl[j]? = Ab b):decide (i=j)=(a == b):=by
 by_cases h:i=j
 ·subst h
  cases ha.symm.trans hb;rw[Cd rfl,CW]
 ·rw[Cg h,MP nd ha hb h]
theorem tP (c:Cl)(nd:(zS c).Nodup)(S:Sto):S__law_kinds c [.exn (.ref c.NoPoint)] S=.ok (.str "point") S:=by
 have s:∀ {Q:D→Sto→Prop} (j:Aj) {B:Ad},(zS c)[j]? = Ab B→Q (.bl (decide (0=j))) S→Ok (zH (zS c) [.exn (.ref c.NoPoint),.obj B] S) Q:=fun j B h q=>WK (A4 (i:=0) rfl) (A4 h) (WG nd (i:=0) rfl h▸q);rw[wX];refine xT (zC (env:=[Ab (.exn (.ref c.NoPoint)),none,none]) rfl ?_);rfl';refine s 0 rfl ?_;rfl';refine s 1 rfl ?_;rfl';refine s 2 rfl ?_;rfl';refine s 3 rfl ?_;rfl';refine s 4 rfl ?_;rfl';refine s 5 rfl ?_;rfl';refine xN (AX rfl) ?_;rfl';refine s 6 rfl ?_;rfl';refine s 7 rfl ?_;rfl';refine s 8 rfl ?_;rfl';refine xN (AX rfl) ?_;rfl';refine s 9 rfl ?_;rfl';refine s 10 rfl ?_;rfl';refine xN (AX rfl) ?_;rfl';refine nB ?_;rfl';refine WL (A4 (i:=0) rfl) ?_;rfl';refine⟨(fun e=>by cases e),fun _=>?_⟩
 rfl';refine qV (d:=.int 1) (S:=S) (by kernel_rfl!) ?_
 rfl';refine zN (fun _=>?_) fun e=>absurd rfl e;rfl';refine s 9 rfl ?_;rfl';refine zN (fun e=>absurd e (by decide)) fun _=>?_
 rfl';refine s 10 rfl ?_;rfl';refine zN (fun e=>absurd e (by decide)) fun _=>?_
 rfl';refine qV (d:=.int 0) (S:=S) (by kernel_rfl!) ?_
 exact n6 (d:=.str "point") rfl ⟨rfl,rfl⟩
theorem fO (c:Cl)(nd:(zS c).Nodup)(S:Sto):S__law_kinds c [.exn (.ref c.NoCircle)] S=.ok (.str "circle") S:=by
 have s:∀ {Q:D→Sto→Prop} (j:Aj) {B:Ad},(zS c)[j]? = Ab B→Q (.bl (decide (3=j))) S→Ok (zH (zS c) [.exn (.ref c.NoCircle),.obj B] S) Q:=fun j B h q=>WK (A4 (i:=3) rfl) (A4 h) (WG nd (i:=3) rfl h▸q);rw[wX];refine xT (zC (env:=[Ab (.exn (.ref c.NoCircle)),none,none]) rfl ?_);rfl';refine s 0 rfl ?_;rfl';refine s 1 rfl ?_;rfl';refine s 2 rfl ?_;rfl';refine s 3 rfl ?_;rfl';refine s 4 rfl ?_;rfl';refine s 5 rfl ?_;rfl';refine xN (AX rfl) ?_;rfl';refine s 6 rfl ?_;rfl';refine s 7 rfl ?_;rfl';refine s 8 rfl ?_;rfl';refine xN (AX rfl) ?_;rfl';refine s 9 rfl ?_;rfl';refine s 10 rfl ?_;rfl';refine xN (AX rfl) ?_;rfl';refine nB ?_;rfl';refine WL (A4 (i:=3) rfl) ?_;rfl';refine⟨(fun e=>by cases e),fun _=>?_⟩
 rfl';refine qV (d:=.int 1) (S:=S) (by kernel_rfl!) ?_
 rfl';refine zN (fun _=>?_) fun e=>absurd rfl e;rfl';refine s 9 rfl ?_;rfl';refine zN (fun e=>absurd e (by decide)) fun _=>?_
 rfl';refine s 10 rfl ?_;rfl';refine zN (fun e=>absurd e (by decide)) fun _=>?_
 rfl';refine qV (d:=.int 3) (S:=S) (by kernel_rfl!) ?_
 exact n6 (d:=.str "circle") rfl ⟨rfl,rfl⟩
def sq (b:Ap)(ws:Aa D):D:=match b with
 |true=>.tup ws
 |false=>.lst ws
theorem XS (ws:Aa D):u3 ws ws=ws.map fun x=>D.tup [x,x]:=by
 induction ws with
 |nil=>rfl
 |cons w ws ih=>exact congrArg (D.tup [w,w]::·) ih
theorem lZ (F:DF)(b:Ap)(ws:Aa D)(S:Sto)(hw:ws.length≤lim)(ih:∀ x∈ws,F [x,x] S=.ok (.bl true) S):qR 2 (b__law_same F) [sq b ws,sq b ws] S=.ok (.bl true) S:=by
 have t1:zJ [sq b ws,.ty "list"] S=.ok (.bl (!b)) S:=by cases b <;> kernel_rfl!
 have t2:zJ [sq b ws,.ty "tuple"] S=.ok (.bl b) S:=by cases b <;> kernel_rfl!
 have t3:jD [sq b ws,.tup [.ty "list",.ty "tuple"]] S=.ok (.bl true) S:=by cases b <;> kernel_rfl!
 have l:xG [sq b ws] S=.ok (.int ws.length) S:=by cases b <;> rfl
 have n:∀ x:Ap,gNe (.bl x) (.bl x) S=.ok (.bl false) S:=fun x=>by cases x <;> rfl
 have hz:y9 (eD (qA (qB 0) (qA (qB 1) (qC)))) [Ab (sq b ws),Ab (sq b ws)] S=.ok (none,ws.map fun x=>D.tup [x,x]) S:=by
  rw[← XS];cases b <;> rfl
 refine xT (zC (env:=[Ab (sq b ws),Ab (sq b ws)]) rfl ?_);rfl';refine qV (d:=.bl false) (S:=S) (by cases b <;> rfl) ?_
 rfl';refine qV t3 ?_;rfl';refine qV t1 ?_;rfl';refine qV t1 ?_;rfl';refine qV (n _) ?_;rfl';refine nB ?_;rfl';refine qV t2 ?_;rfl';refine qV t2 ?_;rfl';refine qV (n _) ?_;rfl';refine⟨(fun e=>by cases e),fun _=>?_⟩
 rfl';refine qV l ?_;rfl';refine qV l ?_;rfl';refine zN (fun _=>?_) fun e=>absurd rfl e;rfl';refine kS ws (fun _=>.bl true) (fun env S'=>S'=S∧∃ a b,env=[a,b]) hz ⟨rfl,none,none,rfl⟩ hw (fun _ _ _=>trivial) (fun x hx env S' ⟨e1,a,b,e2⟩=>?_) fun env S' ⟨e1,_⟩=>?_
 ·subst e1 e2
  rfl';exact qV (ih x hx) ⟨rfl,rfl,_,_,rfl⟩
 ·subst e1
  rfl';exact eX (p:=fun _=>true) ⟨by simp,rfl⟩
theorem gP (F:DF){d:D}(S:Sto)(h1:gIs d .non S=.ok (.bl false) S)(h2:jD [d,.tup [.ty "list",.ty "tuple"]] S=.ok (.bl false) S)(h3:zJ [d,.ty "str"] S=.ok (.bl false) S){b:Ap}(h4:zJ [d,.ty "bool"] S=.ok (.bl b) S)(h5:zJ [d,.ty "int"] S=.ok (.bl true) S)(h6:gEq d d S=.ok (.bl true) S):qR 2 (b__law_same F) [d,d] S=.ok (.bl true) S:=by
 refine xT (zC (env:=[Ab d,Ab d]) rfl ?_);rfl';refine qV h1 ?_;rfl';refine qV h2 ?_;rfl';refine qV h3 ?_;rfl';refine qV h4 ?_;rfl';refine qV h4 ?_;rfl';refine qV (d:=.bl false) (S:=S) (by cases b <;> rfl) ?_
 rfl';refine eY ?_;rfl';refine qV h5 ⟨_,rfl,fun _=>?_,fun e=>by cases e⟩
 rfl';exact qV h6 ⟨rfl,rfl⟩
def okD:Aj→D→Prop
 |n+1,.tup xs=>xs.length≤lim∧∀ x∈xs,okD n x
 |n+1,.lst xs=>xs.length≤lim∧∀ x∈xs,okD n x
 |_,.int _=>EY
 |_,.bl _=>EY
 |_,_=>CC
theorem oA:∀ (n:Aj) (d:D) (S:Sto),okD n d→bR (n+1) [d,d] S=.ok (.bl true) S:=by
 intro n
 induction n with
 |zero =>
  intro d S h;cases d with
  |int i=>exact gP _ S rfl (by kernel_rfl!) (by kernel_rfl!) (b:=false) (by kernel_rfl!) (by kernel_rfl!) (xT (P9 ⟨by rw[Cd rfl],rfl⟩))
  |bl b=>exact gP _ S rfl (by kernel_rfl!) (by kernel_rfl!) (b:=true) (by kernel_rfl!) (by kernel_rfl!) (by cases b <;> rfl)
  |_=>exact An h
 |succ n ih =>
  intro d S h;cases d with
  |tup ws=>exact lZ _ true ws S h.1 fun x hx=>ih x S (h.2 x hx)
  |lst ws=>exact lZ _ false ws S h.1 fun x hx=>ih x S (h.2 x hx)
  |int i=>exact gP _ S rfl (by kernel_rfl!) (by kernel_rfl!) (b:=false) (by kernel_rfl!) (by kernel_rfl!) (xT (P9 ⟨by rw[Cd rfl],rfl⟩))
  |bl b=>exact gP _ S rfl (by kernel_rfl!) (by kernel_rfl!) (b:=true) (by kernel_rfl!) (by kernel_rfl!) (by cases b <;> rfl)
  |_=>exact An h
theorem F6 {d:D}(S:Sto)(h:okD 3 d):S__law_same [d,d] S=.ok (.bl true) S:=by
 rw[uQ];exact oA 3 d S h
theorem LA {i:Aj}{a:Ad}{cv:Aa _L.V}{G:Aa D→DF}{caps:Aa D}(h:env[i]? = Ab (Ab (.clo a cv caps))):jB i (qC) a cv 0 G env S=G caps [] S:=by
 unfold jB;rw[h];show (if a=a∧cv=cv then _ else _)=_
 rw[A7 ⟨rfl,rfl⟩];rfl
theorem WM {c:Cl}{wd:Ar}{cap:Aa Aj}{fe:DE}(hC:(uT c).contains (.ref C)=true)(hk:∀ S,S__law_kinds c [.exn (.ref C)] S=.ok (.str wd) S){caps:Aa D}(h:p8 cap env=Ab caps){x:D}(e:fe (caps.map Ab) S=.ex (.ref C) x S)(q:Q (.str wd) S):Ok (uU false cap 1 2 (qC) (b__law_refused c (kO fe)) env S) Q:=by
 refine⟨_,_,?_,q⟩;unfold uU;rw[h];show (if 0+1=1 then exO false (uni fun a cv=>qR 2 (b__law_refused c (kO fe) a cv) [.clo a cv caps] S) else .bad)=_
 rw[A7 rfl,FN (R:=.ok (.str wd) S) fun a cv=>?_]
 ·rfl
 ·have e':jB 0 (qC) a cv 0 (kO fe) [Ab (.clo a cv caps),none] S=.ex (.ref C) x S:=(LA rfl).trans (by unfold kO;exact e)
  refine xT (zC (env:=[Ab (.clo a cv caps),none]) rfl ?_);refine bU ?_;have k:pN 2 1 (uT c) (w6 (jB 0 (qC) a cv 0 (kO fe))) (z9 (qN 1 (S__law_kinds c) (qA (qB 1) (qC)))) [Ab (.clo a cv caps),none] S=.rt (.str wd) S:=by
   unfold pN w6;rw[e'];simp only[Res.toS,hC,Bv];have z:qN 1 (S__law_kinds c) (qA (qB 1) (qC)) ((Ei 2 none).set 1 (Ab (.exn (.ref C)))) S=.ok (.str wd) S:=(tU rfl).trans (hk S);simp only[z9,z,Res.toS]
  rw[k];exact⟨rfl,rfl⟩
theorem UG (ns:Aa Am)(hl:ns.length≤63)(k:Am){Q:Aa D→Sto→Prop}{env:qE}{S:Sto}(h0:env[0]? = Ab (Ab (.lst (ns.map D.int))))(q:∀ ms:Aa Am,Q (ms.map D.int) S):Ok (yW (d2 zF (zZ (qA (qN 2 S__law_cell (qA (qB 0) (qA (dC (.int 0)) (qC)))) (qC))) (dSl (qB 0) (vM (dC (.int 1))) (vM (dC (.int k))))) env S) Q:=by
 have hc:∃ x:Am,S__law_cell [.lst (ns.map D.int),.int 0] S=.ok (.int x) S:=by
  rw[uN];cases ns with
  |nil=>exact⟨0,xT (zC (env:=[Ab (.lst []),Ab (.int 0)]) rfl (by rfl';exact⟨rfl,rfl⟩))⟩
  |cons n ns =>
   refine⟨n,xT (zC (env:=[Ab (.lst ((n::ns).map D.int)),Ab (.int 0)]) rfl ?_)⟩;rfl';refine zN (fun _=>?_) fun e=>absurd (by rw[A6,Bo];omega) e
   rfl';exact n6 (oO (a:=0) (by simp)) ⟨rfl,rfl⟩
 obtain⟨x,hx⟩:=hc;refine VP (o_2 (MV (kT (iA (kT (o_v h0 ?_))))));rfl';refine qV hx ?_;rfl';refine o_v h0 ?_;rfl';have hm:vL (ns.map D.int) (Ab 1) (Ab k)=((ns.drop (_H.sIx (ns.map D.int).length 0 (Ab 1))).take (_H.sIx (ns.map D.int).length (ns.map D.int).length (Ab k)-_H.sIx (ns.map D.int).length 0 (Ab 1))).map D.int:=by
  unfold vL;rw[List.map_take,List.map_drop]
 rw[hm];refine xN ?_ ⟨_,rfl,q (x::_)⟩;rw[A6,EZ,Hj];show 1+_≤lim;unfold lim;omega
def yE:Aa Aj:=[1,2,4,5,8,9,10,13,16,17,18,20,25,26,29,32,34,36,40,45,50,52,58,64,65,68,72,80,81,85,90,100,104,116,117,125,128,130,136,144,145,153,160,162,169,170,180,200,208,221,225,232,234,250,256,260,261,272,288,289,290,306,320,324,325,338,340,360,377,400,405,416,425,442,450,464,468,493,500,512,520,522,544,576,578,580,585,612,625,640,648,650,676,680,720,725,729,754,765,800,810,832,841,845,850,884,900,928,936,986,1000,1024,1040,1044,1053,1088,1105,1125,1152,1156,1160,1170,1224,1250,1280,1296,1300,1305,1352,1360,1377,1440,1445,1450,1458,1508,1521,1530,1600,1620,1625,1664,1682,1690,1700,1768,1800,1856,1872,1885,1972,1989,2000,2025,2048,2080,2088,2106,2125,2176,2197,2210,2250,2304,2312,2320,2340,2349,2448,2465,2500,2560,2592,2600,2601,2610,2704,2720,2754,2873,2880,2890,2900,2916,2925,3016,3042,3060,3125,3200,3240,3250,3328,3364,3380,3393,3400,3536,3600,3625,3645,3712,3744,3757,3770,3825,3944,3978,4000,4050,4096,4160,4176,4205,4212,4225,4250,4352,4394,4420,4437,4500,4608,4624,4640,4680,4698,4896,4901,4913,4930,5000]
def fcs:Aa Aj:=[2,5,13,17,4,9,5,29]
theorem X9 {n f:Aj}(hn:n∈yE)(hf:f∈fcs)(h:n*f≤5000):n*f∈yE:=by
 have k:yE.all (fun n=>fcs.all fun f=>!Nat.ble (n*f) 5000||yE.contains (n*f))=true:=kd
 have:=AQ.mp (AQ.mp k n hn) f hf;rw[Lo h] at this;simpa using this
def hs (n j:Aj):Ap:=(AR 71).any fun y=>Nat.beq (j*j+y*y) n
def cnt (n i:Aj):Aj:=(AR i).countP (hs n)
def msk:Aj:=(AR 71).foldl (fun m y=>m ||| 1 <<< (y*y)) 0
def ch (n j:Aj):Ap:=RN (j*j) n&&msk.testBit (n-j*j)
theorem FU {n j:Aj}(h:hs n j=true):ch n j=true:=by
 have k:(AR 71).all (fun y=>msk.testBit (y*y))=true:=kd;obtain⟨y,hy,e⟩:=Fc.mp h;have e:=Lp e;unfold ch;rw[show n-j*j=y*y by omega,AQ.mp k y hy,Lo om]
 rfl
theorem X8 {n:Aj}(hn:n∈yE):1≤cnt n 71∧cnt n 71≤15:=by
 have k:yE.all (fun n=>RN ((AR 71).countP (ch n)) 15&&(AR 71).any fun j=>ch n j&&hs n j)=true:=kd;have:=AQ.mp k n hn;rw[A3] at this;refine⟨?_,Bm (Hq fun _ _=>FU) (AX this.1)⟩;obtain⟨j,hj,e⟩:=Fc.mp this.2;rw[A3] at e;exact List.countP_pos_iff.mpr ⟨j,hj,e.2⟩
theorem r8 {n:Aj}(hn:n∈yE):n≤5000:=by
 have k:yE.all (fun n=>RN n 5000)=true:=kd;exact AX (AQ.mp k n hn)
theorem PF (h:xW S p)(q:∀ (n:Aj) S1,Kp p S S1→n∈yE→Q (.int n) S1):Ok (S__law_rich [.loc p,.int 5000] S) Q:=by
 rw[uP];refine zC (env:=[Ab (.loc p),Ab (.int 5000),none,none,none]) rfl ?_;rfl';refine x5 h om fun r S1 k1 h1=>?_;rfl';refine⟨by omega,by omega,?_⟩
 refine wH (fun _ env S'=>∃ (n:Aj) (e3 e4:Ak D),env=[Ab (.loc p),Ab (.int 5000),Ab (.int n),e3,e4]∧Kp p S S'∧n∈yE) ?_ ?_ ⟨1,_,_,rfl,k1,by decide⟩
 ·rintro x xs _ S' ⟨n,e3,e4,rfl,K,hn⟩
  rfl';refine x5 K.pen om fun r S2 k2 h2=>?_;rfl';refine n8 (show r<8 by omega) fun d hd=>?_
  obtain⟨f,hf,rfl⟩:=Cc.mp (show d∈fcs.map fun (f:Aj)=>D.int f from hd)
  have:=r8 hn;have e:(n:Am)*(f:Am)=((n*f:Aj):Am):=by push_cast;rfl
  rfl';refine zN (fun z=>?_) fun z=>?_
  ·rfl'
   exact yS ⟨n*f,_,_,by rw[e],K.trans k2,X9 hn hf om⟩
  ·rfl'
   exact yS ⟨n,_,_,rfl,K.trans k2,hn⟩
 ·rintro _ S' ⟨n,e3,e4,rfl,K,hn⟩
  rfl';exact q n S' K hn
def sqs (n:Aj):Aa (_L.Key × D):=(AR n).map fun (i:Aj)=>(.inl ((i:Am)*(i:Am)),.int (i:Am))
theorem FB {a b:Aj}(h:(a:Am)*(a:Am)=(b:Am)*(b:Am)):a=b:=by
 have h':a*a=b*b:=by exact_mod_cast h
 rcases IR a b with z|z|z
 ·exact absurd h' (AL (IC z (CP z) om))
 ·exact z
 ·exact absurd h'.symm (AL (IC z (CP z) om))
theorem UQ (n:Aj):uK (sqs n) (.inl ((n:Am)*(n:Am))) (.int (n:Am))=sqs (n+1):=by
 unfold uK;rw[AD]
 ·unfold sqs
  rw[Qb,Ga];rfl
 ·intro h
  obtain⟨kv,hk,e⟩:=Fc.mp h;obtain⟨i,hi,rfl⟩:=Cc.mp hk;have e:=AK e;injection e with e
  have:=FB e;have:=Cq.mp hi;omega
theorem XG {n:Aj}{f:Am}{d:D}(h:wA (sqs n) (.inl f)=Ab d):∃ i:Aj,i<n∧d=.int (i:Am)∧f=(i:Am)*(i:Am):=by
 unfold wA at h;obtain⟨kv,h1,rfl⟩:=AZ.mp h;have h2:=List.find?_some h1;obtain⟨i,hi,rfl⟩:=Cc.mp (List.mem_of_find?_eq_some h1);have h2:=AK h2;injection h2 with h2
 exact⟨i,Cq.mp hi,rfl,h2.symm⟩
theorem UP {n i:Aj}(hi:i<n):(wA (sqs n) (.inl ((i:Am)*(i:Am)))).isSome=true:=by
 unfold wA;rw[II,List.find?_isSome];exact⟨_,Cc.mpr ⟨i,Cq.mpr hi,rfl⟩,by simp⟩
theorem Z7 {c n:Aj}(h:c*c≤n)(hn:n≤5000):c≤70:=by
 rcases Rw 70 c with z|z
 ·have:=Qr (show 71≤c by omega) (show 71≤c by omega)
  omega
 ·exact z
theorem MF {n j y:Aj}(h:j*j+y*y=n)(hn:n≤5000):hs n j=true:=Fc.mpr ⟨y,Cq.mpr (by have:=Z7 (show y*y≤n by omega) hn;omega),by subst h;exact Nat.beq_refl _⟩
theorem W3 (n i:Aj):cnt n (i+1)=cnt n i+if hs n i=true then 1 else 0:=by
 unfold cnt;rw[Qb,List.countP_append,List.countP_singleton]
def GA (x y:Am):Aa Pt:=[(x,y),(0-x,y),(x,0-y)]++[(0-x,0-y)]
theorem ZK {n:Aj}(hn:n∈yE)(q:∀ (ps:Aa Pt) S',S<+:S'→ps≠[]→(∀ z∈ps,InB 990 z)→ps.length≤60→Q (.lst (ps.map ptD)) S'):Ok (S__law_circle [.int n] S) Q:=by
 have n5:=r8 hn;rw[vJ];refine zC (env:=[Ab (.int n),none,none,none,none,none]) rfl ?_;rfl';refine⟨by omega,by omega,?_⟩
 refine wH (xs:=AR 1001) (fun xs env S'=>∃ (i:Aj) (e3:Ak D),i+xs.length=1001∧xs=RH i (1001-i)∧env=[Ab (.int n),Ab (.loc S.length),Ab (.lst []),e3,none,none]∧S'=S++[.dct (sqs i)]) ?_ ?_ ⟨0,_,by simp,by rw[Mh],rfl,rfl⟩
 ·rintro x xs _ _ ⟨i,e3,hl,hx,rfl,rfl⟩
  have hi:i<1001:=by simp at hl;omega
  rw[show 1001-i=(1001-(i+1))+1 by omega,Pg] at hx
  injection hx with h1 h2
  subst h1;rfl';refine PH (uS _ _) (by unfold sqs;rw[A6,EN];unfold lim;omega) ?_
  rw[XD,UQ];rfl';exact yS ⟨x+1,_,by simp at hl;omega,h2,rfl,rfl⟩
 ·rintro _ _ ⟨i,e3,hl,hx,rfl,rfl⟩
  have hi:i=1001:=by simpa using hl
  subst hi;have hS:=uS S (.dct (sqs 1001));have hp:S<+:S++[.dct (sqs 1001)]:=CS _ _;generalize S++[.dct (sqs 1001)]=T at hS hp;rfl';refine⟨by omega,by omega,?_⟩
  refine wH (xs:=AR 1001) (fun xs env S'=>∃ (i:Aj) (fd:Aa Pt) (e4 e5:Ak D),i+xs.length=1001∧xs=RH i (1001-i)∧env=[Ab (.int n),Ab (.loc S.length),Ab (.lst (fd.map ptD)),e3,e4,e5]∧S'=T∧fd.length=4*cnt n (min i 71)∧∀ z∈fd,InB 990 z) ?_ ?_ ⟨0,[],_,_,by simp,by rw[Mh],rfl,rfl,rfl,fun _ h=>by cases h⟩
  ·rintro x xs _ _ ⟨i,fd,e4,e5,hl,hx,rfl,rfl,hc,hb⟩
   have hi:i<1001:=by simp at hl;omega
   rw[show 1001-i=(1001-(i+1))+1 by omega,Pg] at hx
   injection hx with h1 h2
   subst h1;have cl:cnt n (min x 71)≤71:=Bm (List.countP_le_length) (by rw[EN];omega)
   rfl';refine MS hS ?_;rfl';cases hv:wA (sqs 1001) (.inl ((n:Am)-(x:Am)*(x:Am))) with
   |none =>
    rfl';refine yS ⟨x+1,fd,_,_,by simp at hl;omega,h2,rfl,rfl,?_,hb⟩
    rcases Rw x 71 with z|z
    ·rw[Kz om] at hc ⊢
     rw[W3,AD,hc]
     ·rfl
     ·intro w
      obtain⟨y,hy,e⟩:=Fc.mp w;have e:=Lp e;have h3:=UP (n:=1001) (i:=y) (by have:=Cq.mp hy;omega)
      rw[show (n:Am)-(x:Am)*(x:Am)=(y:Am)*(y:Am) by rw[← e];push_cast;omega] at hv
      rw[hv] at h3;cases h3
    ·rw[hc,Ph z,Ph om]
   |some d =>
    obtain⟨y,hy,rfl,e⟩:=XG hv;have e2:x*x+y*y=n:=by
     have:((x*x+y*y:Aj):Am)=(n:Am):=by push_cast;omega
     exact_mod_cast this
    have x70:=Z7 (show x*x≤n by omega) n5
    have y70:=Z7 (show y*y≤n by omega) n5
    refine w_t ?_;rfl';refine MT hS hv ?_;rfl';refine xN (by rw[A6];show _+3≤lim;unfold lim;omega) ?_
    rfl';refine xN (by rw[Bt,A6];show _+3+1≤lim;unfold lim;omega) ?_
    rfl';refine yS ⟨x+1,fd++GA (x:Am) (y:Am),_,_,by simp at hl;omega,h2,by rw[Ga,Ex];rfl,rfl,?_,fun z hz=>?_⟩
    ·rw[Bt,hc,Kz om,Kz om,W3,A7 (MF e2 n5)]
     show _+4=_;omega
    ·rcases Bs.mp hz with hz|hz
     ·exact hb z hz
     ·simp only[GA,Hr,Fz,Aw,Bq,DL] at hz
      unfold InB;rcases hz with rfl|rfl|rfl|rfl <;> dsimp only <;> omega
  ·rintro _ _ ⟨i,fd,e4,e5,hl,hx,rfl,rfl,hc,hb⟩
   have hi:i=1001:=by simpa using hl
   subst hi;have h15:=X8 hn;have hlen:fd.length=4*cnt n 71:=hc;rfl';refine LU ?_;rfl';refine⟨by omega,q (w9 fd) _ hp (fun z=>?_) (fun z hz=>hb z ((jQ fd z).mp hz)) (Bm (d8 fd) om)⟩
   cases fd with
   |nil=>simp at hlen;omega
   |cons w ws =>
    have:w∈w9 (w::ws):=(jQ _ w).mpr (by simp)
    rw[z] at this;cases this
def XW:Aa Pt:=(AR 25).map fun (i:Aj)=>((i:Am)/5,(i:Am) % 5)
def ML:Aa Pt:=(AR 20).map fun (i:Aj)=>(2*(i:Am),3*(i:Am))
def MM:Aa Pt:=(AR 5).map fun (i:Aj)=>((i:Am),0)
def FW:Aa Pt:=[(0,0),(0,4),(4,0),(4,4),(2,2),(-1,2),(2,-1),(5,2),(2,5),(1,1),(6,6)]
theorem h8 {fe:DE}(n:Aj)(hn:n≤1000)(g:Aj→Pt)(step:∀ i:Aj,Ok (fe [Ab (.int i)] S) fun d S3=>d=ptD (g i)∧S3=S)(q:Q (.lst (((AR n).map g).map ptD)) S):Ok (zI false [none] (y9 (y7 (qA (dC (.int (n:Am))) (qC)))) (gNm 0) (yH) (zV fe) env S) Q:=by
 refine kS (AR n) (fun i=>ptD (g i)) (fun env S'=>S'=S∧∃ a,env=[a]) (GJ om) ⟨rfl,none,rfl⟩ (by rw[EN];unfold lim;omega) (fun _ _ _=>trivial) (fun x hx env S' ⟨e1,a,e2⟩=>?_) fun env S' ⟨e1,_⟩=>?_
 ·subst e1 e2
  rfl';exact zE (step x) fun d S3 ⟨h1,h2⟩=>⟨h1,h2,_,rfl⟩
 ·subst e1
  rw[EU] at q;exact q
structure SmOk (p:Aj)(S:Sto)(d:D)(S':Sto)(ps:Aa Pt):Prop where
 seq:pP d S'=Ab (ps.map ptD)
 ne:ps≠[]
 len:ps.length≤60
 box:∀ q∈ps,InB 990 q
 kp:Kp p S S'
theorem y8 {α:Type}:∀ (l:Aa α) (i:Aj) (h:i<l.length),(l[i]::l.eraseIdx i).Perm l
 |[],i,h=>by simp at h
 |x::l,0,_=>L2 _
 |x::l,i+1,h=>(Qp x _ _).trans ((y8 l i (by simpa using h)).cons x)
theorem mY {α β:Type}(f:α→β):∀ (l:Aa α) (i:Aj),(l.map f).eraseIdx i=(l.eraseIdx i).map f
 |[],_=>rfl
 |_::_,0=>rfl
 |x::l,i+1=>congrArg (f x::·) (mY f l i)
structure WI (p a many:Aj)(all:Aa Pt)(S S':Sto)(done rest:Aa Pt):Prop where
 ra:S'[a]? = Ab (.lst (rest.map ptD))
 rb:S'[a+1]? = Ab (.lst (done.map ptD))
 perm:(done++rest).Perm all
 le:done.length≤many
 kp:Kp p S S'
theorem MU (p M:Aj)(hM:1≤M∧M≤40){S:Sto}(h:xW S p)(q:∀ (l:Aa Pt) S',Kp p S S'→Lot M l→Q (Z9 l) S'):Ok (S__law_lot [.loc p,.int (M:Am)] S) Q:=by
 rw[jT];refine zC (env:=[Ab (.loc p),Ab (.int (M:Am)),none,none,none,none,none,none,none,none,none]) rfl ?_;rfl';refine x5 h om fun way S1 k1 h1=>?_;rfl';refine x5 k1.pen om fun m S2 k2 h2=>?_;obtain⟨many,em,hm⟩:∃ many:Aj,1+(m:Am)=(many:Am)∧1≤many∧many≤M:=⟨1+m,by omega,by omega,by omega⟩
 rfl';rw[em];refine x5 k2.pen om fun x S3 k3 h3=>?_;rfl';refine x5 k3.pen om fun y S4 k4 h4=>?_;rfl';refine x5 k4.pen om fun r S5 k5 h5=>?_;have hx : -10≤(x:Am)-10∧(x:Am)-10≤10:=by omega
 have hy : -10≤(y:Am)-10∧(y:Am)-10≤10:=by omega
 generalize (x:Am)-10=x at hx;generalize (y:Am)-10=y at hy;refine n8 (show r<3 by omega) fun d hd=>?_
 obtain⟨wide,rfl,hw⟩:∃ w:Am,d=.int w∧3≤w∧w≤900:=by
  simp only[Aw,Bq,DL] at hd;rcases hd with rfl|rfl|rfl <;> exact⟨_,rfl,by omega⟩
 have K5:Kp p S S5:=(((k1.trans k2).trans k3).trans k4).trans k5;clear k1 k2 k3 k4 k5 h1 h2 h3 h4 h5 hd em;array_get_dec;array_get_dec;refine ND (fun env S'=>∃ d e8 e9 ps,env=[Ab (.loc p),Ab (.int (M:Am)),Ab (.int way),Ab (.int (many:Am)),Ab (.int x),Ab (.int y),Ab (.int wide),Ab d,e8,e9,none]∧SmOk p S d S' ps) (fun P' hP=>?_) ?_
 ·rfl'
  refine zN (fun z=>?_) fun z=>?_
  ·rfl'
   refine PF K5.pen fun n S6 k6 hn=>?_;rfl';refine ZK hn fun ps S7 k7 ne hb hl=>?_;rfl';exact hP _ _ ⟨_,_,_,ps,rfl,rfl,ne,hl,hb,(K5.trans k6).trans (Kp.pre k6.pen k7)⟩
  rfl';refine zN (fun z=>?_) fun z=>?_
  ·rfl'
   refine h8 25 om (fun (i:Aj)=>((i:Am)/5,(i:Am) % 5)) (fun i=>?_) ?_
   ·rfl'
    exact rfl
   ·rfl'
    exact hP _ _ ⟨_,_,_,XW,rfl,rfl,by decide,by decide,kd,K5⟩
  rfl';refine zN (fun z=>?_) fun z=>?_
  ·rfl'
   refine h8 20 om (fun (i:Aj)=>(2*(i:Am),3*(i:Am))) (fun i=>?_) ?_
   ·rfl'
    exact rfl
   ·rfl'
    refine h8 5 om (fun (i:Aj)=>((i:Am),0)) (fun i=>?_) ?_
    ·rfl'
     exact rfl
    ·refine xN (by rw[A6,A6];decide) ?_
     rw[← Ga];rfl';exact hP _ _ ⟨_,_,_,ML++MM,rfl,rfl,by decide,by decide,kd,K5⟩
  rfl';refine zN (fun z=>?_) fun z=>?_
  ·rfl'
   exact hP _ _ ⟨_,_,_,FW,rfl,rfl,by decide,by decide,kd,K5⟩
  rfl';refine⟨by omega,by omega,?_⟩
  have hpl:p<S5.length:=iH K5.pen;refine wH (fun xs env S'=>∃ (ps:Aa Pt) (e8 e9:Ak D),ps.length+xs.length=M∧(∀ q∈ps,InB 990 q)∧env=[Ab (.loc p),Ab (.int (M:Am)),Ab (.int way),Ab (.int (many:Am)),Ab (.int x),Ab (.int y),Ab (.int wide),Ab (.loc S5.length),e8,e9,none]∧Kp p S5 S'∧S'[S5.length]? = Ab (.lst (ps.map ptD))) ?_ ?_ ⟨[],_,_,by simp,fun _ h=>(by cases h),rfl,Kp.pre K5.pen (CS _ _),uS _ _⟩
  ·rintro t xs _ S' ⟨ps,e8,e9,hl,hb,rfl,K,hS⟩
   have la:=(Ay.mp hS).1;rfl';refine x5 K.pen om fun r1 S6 k6 h6=>?_;have hS6:=(k6.same _ la om).trans hS;rfl';refine⟨cC hS6,?_⟩;rfl';refine x5 k6.pen om fun r2 S7 k7 h7=>?_;have hS7:=(k7.same _ (Ay.mp hS6).1 om).trans hS6;rfl';refine WJ hS7 (by rw[A6];unfold lim;simp at hl;omega) ?_
   rfl';refine yS ⟨ps++[((r1:Am)-wide,(r2:Am)-2)],_,_,by simp at hl ⊢;omega,fun z hz=>?_,rfl,((K.trans k6).trans k7).set (A2 _) _ om,by rw[Ca (Ay.mp hS7).1,Ga];rfl⟩
   rcases Bs.mp hz with hz|hz
   ·exact hb z hz
   ·rw[CT.mp hz]
    unfold InB;dsimp only;omega
  ·rintro _ S' ⟨ps,e8,e9,hl,hb,rfl,K,hS⟩
   refine hP _ _ ⟨_,_,_,ps,rfl,UN hS,fun z=>?_,by simp at hl;omega,hb,K5.trans K⟩
   subst z;simp at hl;omega
 ·rintro _ S6 ⟨d,e8,e9,ps,rfl,sm⟩
  have hpp:p<S6.length:=iH sm.kp.pen;rfl';refine MZ ?_;rfl';refine⟨ps,sm.seq,by have:=sm.len;omega,?_⟩
  rfl';have hal:=Bm (d8 ps) sm.len;have hne:w9 ps≠[]:=fun z=>by
   obtain⟨w,hw⟩:=List.exists_mem_of_ne_nil _ sm.ne;have:=(jQ ps w).mpr hw;rw[z] at this;cases this
  rw[Bt,Lg];refine rH (fun n env S'=>env=[Ab (.loc p),Ab (.int (M:Am)),Ab (.int way),Ab (.int (many:Am)),Ab (.int x),Ab (.int y),Ab (.int wide),Ab (.loc S6.length),e8,e9,Ab (.loc (S6.length+1))]∧∃ done rest,rest.length=n∧WI p S6.length many (w9 ps) S S' done rest) ?_ (n:=(w9 ps).length) (by rw[nN];omega) ⟨rfl,[],w9 ps,rfl,by simp,by simp,by simp,by simp,sm.kp.trans (Kp.pre sm.kp.pen ((CS _ _).trans (CS _ _)))⟩
  rintro n _ S' ⟨rfl,done,rest,rfl,W⟩;have hall:=W.perm.length_eq;rw[Bt] at hall;have la:=(Ay.mp W.rb).1;refine P7 ?_;rfl';have hpre:S'<+:S'++[MO.lst []]:=CS _ _;refine PC (z:=.bl (!rest.isEmpty)) (lY (fK W.ra hpre) fun x hx=>?_) (lY (xs:=[]) (uS _ _) fun _ h=>by cases h) ?_ rfl ?_
  ·obtain⟨z,_,rfl⟩:=Cc.mp hx
   rfl
  ·unfold gNe
   rw[BF,show pl wD (.lst []) = true from rfl]
   cases rest <;> rfl
  have W':WI p S6.length many (w9 ps) S (S'++[MO.lst []]) done rest:=⟨fK W.ra hpre,fK W.rb hpre,W.perm,W.le,W.kp.trans (Kp.pre W.kp.pen hpre)⟩;have la':S6.length+1<(S'++[MO.lst []]).length:=by rw[Bt];omega
  generalize S'++[MO.lst []] = S' at W' la';clear W hpre la;have fin:¬ (rest≠[]∧done.length<many)→Ok (qL kI (qA (qL uV (qA (zI false [none,Ab 4,Ab 5] (dIt (qB 10)) (gNm 0) (yH) (zV (qW (qA (d2 zF (d2 gIx (qB 0) (dC (.int 0))) (qB 1)) (qA (d2 zF (d2 gIx (qB 0) (dC (.int 1))) (qB 2)) (qC)))))) (qC))) (qC)) [Ab (.loc p),Ab (.int (M:Am)),Ab (.int way),Ab (.int (many:Am)),Ab (.int x),Ab (.int y),Ab (.int wide),Ab (.loc S6.length),e8,e9,Ab (.loc (S6.length+1))] S') Q:=fun hc=>by
   rfl';refine kS done (fun z=>ptD (z.1+x,z.2+y)) (fun env S1=>S1=S'∧∃ a,env=[a,Ab (.int x),Ab (.int y)]) (LO rfl W'.rb) ⟨rfl,none,rfl⟩ (by unfold lim;omega) (fun _ _ ⟨e,_⟩=>by subst e;exact W'.rb) (fun z hz env S1 ⟨e1,a,e2⟩=>?_) fun env S1 ⟨e1,_⟩=>?_
   ·subst e1 e2
    rfl';exact⟨_,rfl⟩
   ·subst e1
    rfl';have hnd:done.Nodup:=(IK.mp (W'.perm.nodup_iff.mpr (NC (UR ps)))).1;have hle:=W'.le;rw[show (done.map fun z=>ptD (z.1+x,z.2+y))=(done.map fun z=>(z.1+x,z.2+y)).map ptD by rw[EU];rfl]
    refine MY (by rw[A6];omega) ?_
    rfl';refine q _ S1 W'.kp (MN (fun z=>?_) (by rw[A6];omega) ?_ fun z hz=>?_)
    ·have z:=List.map_eq_nil_iff.mp z
     subst z;by_cases hr:rest=[]
     ·subst hr
      simp at hall;exact hne (EA.mp hall.symm)
     ·exact hc ⟨hr,by simp;omega⟩
    ·rw[Qi,Ea]
     exact hnd.imp fun {a b} hab z=>hab (Rz (by have:=congrArg Prod.fst z;dsimp only at this;omega) (by have:=congrArg Prod.snd z;dsimp only at this;omega))
    ·obtain⟨w,hw,rfl⟩:=Cc.mp hz
     have:=sm.box w ((jQ ps w).mp (W'.perm.mem_iff.mp (Bk _ hw)));unfold InB at this ⊢;dsimp only;omega
  rfl';refine⟨fun e=>?_,fun e=>?_⟩
  ·have hr:rest≠[]:=fun z=>by subst z;cases e
   have hr0:=Nh.mpr hr;rfl';refine iB W'.rb ?_;rw[A6];rfl';refine⟨fun e=>?_,fun e=>?_⟩
   ·have hd:done.length<many:=by have:=AK e;omega
    rfl';refine⟨cC W'.rb,?_⟩;rfl';refine⟨cC W'.ra,?_⟩;rfl';refine iB W'.ra ?_;rw[A6];rfl';refine x5 W'.kp.pen om fun r S7 k7 h7=>?_;have ra:=(k7.same _ om om).trans W'.ra;have rb:=(k7.same _ la' om).trans W'.rb;have hr1:r<rest.length:=by omega
    rfl';refine MX ra (by rw[A6];exact hr1) om ?_
    rw[Pi,mY];rfl';have l7:=k7.len;refine WJ (i:=S6.length+1) (by rw[Bw om];exact rb) (by rw[A6];unfold lim;omega) ?_
    rfl';refine oE (rest.eraseIdx r).length (by rw[Mg,A7 hr1];omega) ⟨rfl,done++[rest[r]],rest.eraseIdx r,rfl,?_,?_,?_,by simp;omega,((W'.kp.trans k7).set sm.kp.len _ om).set (by have:=sm.kp.len;omega) _ om⟩
    ·rw[Bw om,Ca om]
    ·rw[Ca (by rw[Kk];omega),Ga]
     rfl
    ·rw[Ex]
     exact(Ll done (y8 rest r hr1)).trans W'.perm
   ·have hd:¬ done.length<many:=fun z=>by have:=CV e;omega
    exact cE (Y0 (fin fun z=>hd z.2))
  ·have hr:rest=[]:=by cases rest with|nil=>rfl|cons _ _=>cases e
   exact⟨(fun z=>by cases z),fun _=>cE (Y0 (fin fun z=>z.1 hr))⟩
theorem n9 (h:xW S p)(q:∀ (z:Pt) S',Kp p S S'→InB 1000 z→Q (ptD z) S'):Ok (S__law_point [.loc p] S) Q:=by
 rw[u4];refine zC (env:=[Ab (.loc p),none]) rfl ?_;rfl';refine x5 h om fun r S1 k1 h1=>?_;refine n8 (show r<3 by omega) fun d hd=>?_
 obtain⟨wide,rfl,hw⟩:∃ w:Am,d=.int w∧2≤w∧w≤1000:=by
  simp only[Aw,Bq,DL] at hd;rcases hd with rfl|rfl|rfl <;> exact⟨_,rfl,by omega⟩
 rfl';refine x5 k1.pen om fun x S2 k2 h2=>?_;rfl';refine x5 k2.pen om fun y S3 k3 h3=>?_;rfl';refine q ((x:Am)-wide,(y:Am)-wide) S3 ((k1.trans k2).trans k3) ?_;unfold InB;dsimp only;omega
theorem WZ {P:Out→Prop}(a b:Aj)(hb:b<big)(rest:qE)(he:env=Ab (.int a)::Ab (.int b)::rest)(q:∀ e1,Wo P (.nx (Ab (.int (Ni a b))::e1::rest) S)):Wo P (vX (dTr (d2 gGt (qB 1) (dC (.int 0)))) (v9 0 1 (qA (qB 1) (qA (d2 yJ (qB 0) (qB 1)) (qC)))) env S):=by
 subst he;refine rH (fun n env S'=>S'=S∧∃ x:Aj,Ni x n=Ni a b∧env=Ab (.int x)::Ab (.int n)::rest) ?_ hb ⟨rfl,a,rfl,rfl⟩;rintro n _ _ ⟨rfl,x,hg,rfl⟩;rfl';refine⟨fun z=>?_,fun z=>?_⟩
 ·have z:=AK z
  rfl';refine oE (x % n) (Hc _ om) ⟨rfl,n,?_,by rw[Int.natCast_emod]⟩
  rw[← hg,Rx x n,Nat.gcd_rec n x,Rx]
 ·have z:=CV z
  have:n=0:=by omega
  subst this;rw[Nat.gcd_zero_right] at hg;rw[hg];exact q _
theorem MR (a b:Aj)(hb:b<big)(q:Q (.int (Ni a b)) S):Ok (S_greatest_common [.int a,.int b] S) Q:=by
 rw[wY];refine zC (env:=[Ab (.int a),Ab (.int b)]) rfl ?_;array_get_dec;refine WZ a b hb [] rfl fun e1=>?_;rfl';exact q
theorem gB (a:Am):(if a<0 then -a else a)=(a.natAbs:Am):=by
 split <;> omega
def frc (t b:Am):Am × Am:=let g:=(EH t b:Am);if b<0 then ((-t)/g,(-b)/g) else (t/g,b/g)
structure Fr (t b:Am)(n m:Am):Prop where
 pos:0<m
 eq:n*b=t*m
 one:EH n m=1
 len:n.natAbs≤t.natAbs
 lem:m.natAbs≤b.natAbs
theorem b0 {t b:Am}(hb:b≠0):Fr t b (frc t b).1 (frc t b).2∧∃ g:Aj,0<g∧g≤b.natAbs∧(g=Ni t.natAbs b.natAbs)∧t.fdiv (if b<0 then -(g:Am) else g)=(frc t b).1∧b.fdiv (if b<0 then -(g:Am) else g)=(frc t b).2:=by
 have hg:0<EH t b:=Int.gcd_pos_of_ne_zero_right _ hb;obtain⟨n,hn⟩:=Int.gcd_dvd_left (a:=t) (b:=b);obtain⟨m,hm⟩:=Int.gcd_dvd_right (a:=t) (b:=b);have hgb:EH t b≤b.natAbs:=Nat.le_of_dvd om (Int.gcd_dvd_natAbs_right ..);have h1:EH n m=1:=by
  have e:EH ((EH t b:Am)*n) ((EH t b:Am)*m)=EH t b:=by rw[← hn,← hm]
  rw[Int.gcd_mul_left,Im] at e;exact Nat.eq_of_mul_eq_mul_left hg (by rw[e,Nat.mul_one])
 have hN:n.natAbs≤t.natAbs:=by
  have:=congrArg Int.natAbs hn;rw[Mb,Im] at this;rw[this];exact La _ hg
 have hM:m.natAbs≤b.natAbs:=by
  have:=congrArg Int.natAbs hm;rw[Mb,Im] at this;rw[this];exact La _ hg
 have ce:(EH t b:Aj)=Ni t.natAbs b.natAbs:=rfl;generalize hG:EH t b=G at *;have gne:(G:Am)≠0:=by omega
 by_cases z:b<0
 ·have f:frc t b=(-n,-m):=by
   unfold frc;rw[hG];simp only[z,Bv];rw[hn,hm,← Pj,← Pj,E2 _ gne,E2 _ gne]
  rw[f];have hm0:m<0:=by
   by_cases y:m<0
   ·exact y
   ·have:=Qs (show (0:Am)≤G by omega) (show 0≤m by omega)
    omega
  refine⟨⟨by dsimp only;omega,?_,by rw[Int.gcd_neg,Int.neg_gcd];exact h1,by rw[Qt];exact hN,by rw[Qt];exact hM⟩,G,hg,hgb,ce,?_,?_⟩
  ·show -n*b=t * -m
   rw[hm,hn]
   grind
  ·rw[A7 z,hn,show (G:Am)*n = -n * -(G:Am) by grind,Fn _ om]
  ·rw[A7 z,hm,show (G:Am)*m = -m * -(G:Am) by grind,Fn _ om]
 ·have f:frc t b=(n,m):=by
   unfold frc;rw[hG];simp only[z,Bu];rw[hn,hm,E2 _ gne,E2 _ gne]
  rw[f];have hm0:0<m:=by
   by_cases y:0<m
   ·exact y
   ·have:=Qs (show (0:Am)≤G by omega) (show 0 ≤ -m by omega)
    rw[Pj] at this;omega
  refine⟨⟨hm0,?_,h1,hN,hM⟩,G,hg,hgb,ce,?_,?_⟩
  ·show n*b=t*m
   rw[hm,hn]
   grind
  ·rw[AD z,hn,Ol,Fn _ gne]
  ·rw[AD z,hm,Ol,Fn _ gne]
abbrev frD:Pt→D:=ptD
theorem lN {t b:Am}(hb:b≠0∧b.natAbs<2 ^ 60)(q:Q (frD (frc t b)) S):Ok (S_fraction [.int t,.int b] S) Q:=by
 obtain⟨_,g,hg,hgb,ce,e1,e2⟩:=b0 (t:=t) hb.1;rw[jV];refine zC (env:=[Ab (.int t),Ab (.int b),none]) rfl ?_;rfl';rw[gB,gB];refine MR _ _ (by rw[nN];exact hb.2) ?_
 rw[← ce];have lg:∀ k:Am,k = -(g:Am)∨k=g→k≠0∧k.natAbs.log2<9000:=fun k hk=>by
  have hk':k.natAbs=g:=by omega
  refine⟨by omega,?_⟩
  rw[hk'];exact ET ((Nat.log2_lt om).mpr (Ge hgb hb.2)) om
 rfl';refine zN (fun z=>?_) fun z=>?_
 ·rw[A7 z] at e1 e2
  rfl';refine bK (lg _ (.inl rfl)) ?_;rfl';refine bK (lg _ (.inl rfl)) ?_;rw[e1,e2];rfl';exact q
 ·rw[AD z] at e1 e2
  rfl';refine bK (lg _ (.inr rfl)) ?_;rfl';refine bK (lg _ (.inr rfl)) ?_;rw[e1,e2];rfl';exact q
def bo (a b c d:Am):Am:=2*(a*d-b*c)
def ac (a b c d:Am):Am:=d*(a*a+b*b)-b*(c*c+d*d)
def uu (a b c d:Am):Am:=a*(c*c+d*d)-c*(a*a+b*b)
def XA (x y a b c d:Am):D:=.tup ([frc (x*bo a b c d+ac a b c d) (bo a b c d),frc (y*bo a b c d+uu a b c d) (bo a b c d),frc (ac a b c d*ac a b c d+uu a b c d*uu a b c d) (bo a b c d*bo a b c d)].map frD)
def rnd (p q r:Pt):D:=XA p.1 p.2 (q.1-p.1) (q.2-p.2) (r.1-p.1) (r.2-p.2)
def bot (p q r:Pt):Am:=bo (q.1-p.1) (q.2-p.2) (r.1-p.1) (r.2-p.2)
theorem xJ {x y A B:Am}(hx : -A≤x∧x≤A)(hy : -B≤y∧y≤B) : -(A*B)≤x*y∧x*y≤A*B:=by
 have h:(x*y).natAbs≤A.natAbs*B.natAbs:=by
  rw[Mb];exact Qr om om
 have e:((A.natAbs*B.natAbs:Aj):Am)=A*B:=by
  rw[Int.natCast_mul,Mi om,Mi om]
 omega
structure Bd (a b c d:Am):Prop where
 a : -2000≤a∧a≤2000
 b : -2000≤b∧b≤2000
 c : -2000≤c∧c≤2000
 d : -2000≤d∧d≤2000
theorem Bd.bo {a b c d:Am}(h:Bd a b c d) : -16000000≤bo a b c d∧bo a b c d≤16000000:=by
 have h1:=xJ h.a h.d;have h2:=xJ h.b h.c;unfold _K.bo;omega
theorem Bd.sq {a b c d:Am}(h:Bd a b c d):(-8000000≤a*a+b*b∧a*a+b*b≤8000000)∧(-8000000≤c*c+d*d∧c*c+d*d≤8000000):=by
 have h1:=xJ h.a h.a;have h2:=xJ h.b h.b;have h3:=xJ h.c h.c;have h4:=xJ h.d h.d;omega
theorem Bd.ac {a b c d:Am}(h:Bd a b c d) : -32000000000≤ac a b c d∧ac a b c d≤32000000000:=by
 have h1:=xJ h.d h.sq.1;have h2:=xJ h.b h.sq.2;unfold _K.ac;omega
theorem Bd.uu {a b c d:Am}(h:Bd a b c d) : -32000000000≤uu a b c d∧uu a b c d≤32000000000:=by
 have h1:=xJ h.a h.sq.2;have h2:=xJ h.c h.sq.1;unfold _K.uu;omega
theorem tS {p q r:Pt}(hp:InB 1000 p)(hq:InB 1000 q)(hr:InB 1000 r):Bd (q.1-p.1) (q.2-p.2) (r.1-p.1) (r.2-p.2):=by
 unfold InB at *;exact⟨by omega,by omega,by omega,by omega⟩
theorem yY (c:Cl){q:Pt}(S:Sto)(h:InB 1000 q):S_need_point c [ptD q] S=.ok .non S:=eV c S (TM q) (by rw[V4];exact Cd h)
theorem fV (c:Cl){p q r:Pt}(hp:InB 1000 p)(hq:InB 1000 q)(hr:InB 1000 r)(h0:bot p q r≠0){S:Sto}(k:Q (rnd p q r) S):Ok (S_round_of c [ptD p,ptD q,ptD r] S) Q:=by
 have B:=tS hp hq hr;rw[wI];refine zC (env:=[Ab (ptD p),Ab (ptD q),Ab (ptD r),none,none,none,none,none,none,none,none,none]) rfl ?_;rfl';refine qV (yY c S hp) ?_;rfl';refine qV (yY c S hq) ?_;rfl';refine qV (yY c S hr) ?_;have hx : -1000≤p.1∧p.1≤1000 ∧ -1000≤p.2∧p.2≤1000:=hp;have ba:=B.a;have bb:=B.b;have bc:=B.c;have bd:=B.d;rfl';unfold rnd at k;unfold bot at h0;generalize q.1-p.1=a at *;generalize q.2-p.2=b at *;generalize r.1-p.1=c' at *;generalize r.2-p.2=d at *;have hbo:=B.bo;have hac:=B.ac;have huu:=B.uu;have hbb:=xJ hbo hbo;refine zN (fun z=>absurd z h0) fun _=>?_;have e0:2*(a*d-b*c')=bo a b c' d:=rfl;rw[e0];rfl';have e1:d*(a*a+b*b)-b*(c'*c'+d*d)=ac a b c' d:=rfl;have e2:a*(c'*c'+d*d)-c'*(a*a+b*b)=uu a b c' d:=rfl;rw[e1,e2];generalize hB:bo a b c' d=D' at *;generalize hA:ac a b c' d=A' at *;generalize hU:uu a b c' d=U' at *;refine lN ⟨h0,by omega⟩ ?_
 rfl';refine lN ⟨h0,by omega⟩ ?_
 rfl';refine lN ⟨fun z=>h0 (by rcases Lb.mp z with z|z <;> exact z),by omega⟩ ?_
 rfl';unfold XA at k;rw[hB,hA,hU] at k;exact k
theorem ZJ (c:Cl){p q r:Pt}(hp:InB 1000 p)(hq:InB 1000 q)(hr:InB 1000 r)(h0:bot p q r=0)(S:Sto):S_round_of c [ptD p,ptD q,ptD r] S=.ex (.ref c.NoCircle) .non S:=by
 have B:=tS hp hq hr;have ba:=B.a;have bb:=B.b;have bc:=B.c;have bd:=B.d;rw[wI];refine r9 (env:=[Ab (ptD p),Ab (ptD q),Ab (ptD r),none,none,none,none,none,none,none,none,none]) rfl ?_;rfl';refine qV (yY c S hp) ?_;rfl';refine qV (yY c S hq) ?_;rfl';refine qV (yY c S hr) ?_;rfl';exact zN (fun _=>UX ⟨_,rfl⟩) fun z=>absurd h0 z
theorem eW (c:Cl){x y z:D}(h:(Pn x∧w8 x=false)∨(∃ q,x=ptD q∧InB 1000 q)∧((Pn y∧w8 y=false)∨(∃ q,y=ptD q∧InB 1000 q)∧Pn z∧w8 z=false))(S:Sto):S_round_of c [x,y,z] S=.ex (.ref c.NoPoint) .non S:=by
 have no:∀ {d:D},Pn d∧w8 d=false→S_need_point c [d] S=.ex (.ref c.NoPoint) .non S:=fun h=>eU c S h.1 h.2;rw[wI];refine r9 (env:=[Ab x,Ab y,Ab z,none,none,none,none,none,none,none,none,none]) rfl ?_;unfold b_round_of;refine bU ?_;rcases h with h|⟨⟨q,rfl,hq⟩,h⟩
 ·exact mC ((tU rfl).trans (no h)) ⟨_,rfl⟩
 rfl';refine qV (yY c S hq) ?_;refine cE (bU ?_);rcases h with h|⟨⟨q,rfl,hq⟩,h⟩
 ·exact mC ((tU rfl).trans (no h)) ⟨_,rfl⟩
 rfl';refine qV (yY c S hq) ?_;exact cE (bU (mC ((tU rfl).trans (no h)) ⟨_,rfl⟩))
theorem o6 (a b c d:Am):bo (-c) (-d) (a-c) (b-d)=bo a b c d:=by unfold bo;grind
theorem N0 (x a b c d:Am):(x+c)*bo a b c d+ac (-c) (-d) (a-c) (b-d)=x*bo a b c d+ac a b c d:=by unfold bo ac;grind
theorem N1 (y a b c d:Am):(y+d)*bo a b c d+uu (-c) (-d) (a-c) (b-d)=y*bo a b c d+uu a b c d:=by unfold bo uu;grind
theorem TZ (a b c d:Am):ac (-c) (-d) (a-c) (b-d)*ac (-c) (-d) (a-c) (b-d)+uu (-c) (-d) (a-c) (b-d)*uu (-c) (-d) (a-c) (b-d)=ac a b c d*ac a b c d+uu a b c d*uu a b c d:=by unfold ac uu;grind
theorem UI (p q r:Pt):rnd r p q=rnd p q r:=by
 have e1:p.1-r.1 = -(r.1-p.1):=by omega
 have e2:p.2-r.2 = -(r.2-p.2):=by omega
 have e3:q.1-r.1=(q.1-p.1)-(r.1-p.1):=by omega
 have e4:q.2-r.2=(q.2-p.2)-(r.2-p.2):=by omega
 have e5:r.1=p.1+(r.1-p.1):=by omega
 have e6:r.2=p.2+(r.2-p.2):=by omega
 unfold rnd;rw[e1,e2,e3,e4];generalize r.1-p.1=c at *;generalize r.2-p.2=d at *;rw[e5,e6];unfold XA;rw[o6,N0,N1,TZ]
theorem PZ (a b c d:Am):(ac a b c d-a*bo a b c d)*(ac a b c d-a*bo a b c d)+(uu a b c d-b*bo a b c d)*(uu a b c d-b*bo a b c d)=ac a b c d*ac a b c d+uu a b c d*uu a b c d:=by unfold bo ac uu;grind
theorem ZN (a b c d:Am):(ac a b c d-c*bo a b c d)*(ac a b c d-c*bo a b c d)+(uu a b c d-d*bo a b c d)*(uu a b c d-d*bo a b c d)=ac a b c d*ac a b c d+uu a b c d*uu a b c d:=by unfold bo ac uu;grind
theorem ZG (x y D A U w u v x0 x1 y0 y1 f0 f1:Am)(hx:x0*D=(x*D+A)*x1)(hy:y0*D=(y*D+U)*y1)(hf:f0*(D*D)=w*f1)(hw:(A-u*D)*(A-u*D)+(U-v*D)*(U-v*D)=w)(hD:D≠0):(((x0-(x+u)*x1)*y1)*((x0-(x+u)*x1)*y1)+((y0-(y+v)*y1)*x1)*((y0-(y+v)*y1)*x1))*f1=f0*(x1*y1)*(x1*y1):=by
 have hA:(x0-(x+u)*x1)*D=x1*(A-u*D):=by grind
 have hB:(y0-(y+v)*y1)*D=y1*(U-v*D):=by grind
 generalize x0-(x+u)*x1=P at *;generalize y0-(y+v)*y1=R at *;generalize A-u*D=M at *;generalize U-v*D=N at *;have hDD:D*D≠0:=fun z=>hD (by rcases Lb.mp z with z|z <;> exact z)
 refine Int.eq_of_mul_eq_mul_right hDD ?_;have h1:(P*y1*(P*y1)+R*x1*(R*x1))*f1*(D*D)=((P*D)*(P*D)*(y1*y1)+(R*D)*(R*D)*(x1*x1))*f1:=by grind
 rw[h1,hA,hB];have h2:f0*(x1*y1)*(x1*y1)*(D*D)=f0*(D*D)*(x1*y1)*(x1*y1):=by grind
 rw[h2,hf,← hw]
 grind
theorem h9 {p q r:Pt}(hp:InB 1000 p)(hq:InB 1000 q)(hr:InB 1000 r){S:Sto}(k:Q (.bl (decide (bot p q r=0))) S):Ok (S__law_straight [ptD p,ptD q,ptD r] S) Q:=by
 have B:=tS hp hq hr;have ba:=B.a;have bc:=B.c;rw[yV];refine zC (env:=[Ab (ptD p),Ab (ptD q),Ab (ptD r),none]) rfl ?_;rfl';have e:decide ((q.1-p.1)*(r.2-p.2)=(r.1-p.1)*(q.2-p.2))=decide (bot p q r=0):=by
  apply Pf.mpr;unfold bot bo;rw[Ol (r.1-p.1) (q.2-p.2)];omega
 rw[e];exact k
theorem lO {i:Am}(k:Q (.bl true) S):Ok (S__law_whole [.int i] S) Q:=⟨_,_,by rw[u9];kernel_rfl!,k⟩
theorem P8 {n:Am}(hm:m.natAbs<2 ^ 60){S:Sto}(k:Q (.int (EH n m:Aj)) S):Ok (S__law_divisor [.int n,.int m] S) Q:=by
 rw[vB];refine zC (env:=[Ab (.int n),Ab (.int m)]) rfl ?_;rfl';rw[gB,gB];refine WZ n.natAbs m.natAbs (by rw[nN];exact hm) [] rfl fun e1=>?_
 rfl';exact k
theorem VQ {n:Am}(h0:0<m)(hm:m.natAbs<2 ^ 60)(h1:EH n m=1){S:Sto}(k:Q (.bl true) S):Ok (S__law_fraction [frD (n,m)] S) Q:=by
 rw[yT];refine zC (env:=[Ab (.tup [.int n,.int m])]) rfl ?_;rfl';refine qV (d:=.bl true) (S:=S) (by kernel_rfl!) ?_
 rfl';refine zN (fun _=>?_) fun e=>absurd rfl e;rfl';refine gJ (d:=.int n) rfl ?_;rfl';refine lO ?_;rfl';refine gJ (d:=.int m) rfl ?_;rfl';refine lO ?_;rfl';refine eY ?_;rfl';refine gJ (d:=.int m) rfl ?_;rfl';refine⟨fun _=>?_,fun e=>absurd h0 (CV e)⟩;rfl';refine gJ (d:=.int n) rfl ?_;rfl';refine gJ (d:=.int m) rfl ?_;rfl';refine P8 hm ?_;rw[h1];rfl';exact k
theorem ZL (c:Cl)(nd:(zS c).Nodup){p q r:Pt}(hp:InB 1000 p)(hq:InB 1000 q)(hr:InB 1000 r){S:Sto}(k:Q (.bl true) S):Ok (S__law_right c [ptD p,ptD q,ptD r] S) Q:=by
 rw[u7];refine zC (env:=[Ab (ptD p),Ab (ptD q),Ab (ptD r),none,none,none,none,none,none,none,none]) rfl ?_;rfl';refine h9 hp hq hr ?_;rfl';refine zN (fun z=>?_) fun z=>?_
 ·rfl'
  refine WM (by rw[Cz];simp[uT]) (fO c nd) (caps:=[ptD p,ptD r,ptD q]) rfl ((W1 (a:=ptD p) (b:=ptD q) (c:=ptD r) rfl rfl rfl).trans (ZJ c hp hq hr z S)) ?_
  rfl';refine qV (d:=.bl true) (S:=S) (by kernel_rfl!) ?_
  exact k
 ·rfl'
  refine fV c hp hq hr z ?_;have B:=tS hp hq hr;have hbo:=B.bo;have hbb:=xJ hbo hbo;have hac:=B.ac;have huu:=B.uu;have n2:bot p q r*bot p q r≠0:=fun y=>z (by rcases Lb.mp y with y|y <;> exact y)
  have e:rnd p q r=.tup ([frc (p.1*bot p q r+ac (q.1-p.1) (q.2-p.2) (r.1-p.1) (r.2-p.2)) (bot p q r),frc (p.2*bot p q r+uu (q.1-p.1) (q.2-p.2) (r.1-p.1) (r.2-p.2)) (bot p q r),frc (ac (q.1-p.1) (q.2-p.2) (r.1-p.1) (r.2-p.2)*ac (q.1-p.1) (q.2-p.2) (r.1-p.1) (r.2-p.2)+uu (q.1-p.1) (q.2-p.2) (r.1-p.1) (r.2-p.2)*uu (q.1-p.1) (q.2-p.2) (r.1-p.1) (r.2-p.2)) (bot p q r*bot p q r)].map frD):=rfl;have hx:=(b0 (t:=p.1*bot p q r+ac (q.1-p.1) (q.2-p.2) (r.1-p.1) (r.2-p.2)) z).1;have hy:=(b0 (t:=p.2*bot p q r+uu (q.1-p.1) (q.2-p.2) (r.1-p.1) (r.2-p.2)) z).1;have hf:=(b0 (t:=ac (q.1-p.1) (q.2-p.2) (r.1-p.1) (r.2-p.2)*ac (q.1-p.1) (q.2-p.2) (r.1-p.1) (r.2-p.2)+uu (q.1-p.1) (q.2-p.2) (r.1-p.1) (r.2-p.2)*uu (q.1-p.1) (q.2-p.2) (r.1-p.1) (r.2-p.2)) n2).1;have hrot:=UI p q r;have o2:=PZ (q.1-p.1) (q.2-p.2) (r.1-p.1) (r.2-p.2);have o3:=ZN (q.1-p.1) (q.2-p.2) (r.1-p.1) (r.2-p.2);have ebo:bo (q.1-p.1) (q.2-p.2) (r.1-p.1) (r.2-p.2)=bot p q r:=rfl;rw[ebo] at hbo hbb o2 o3;rw[e];rw[e] at hrot;generalize frc (p.1*bot p q r+ac (q.1-p.1) (q.2-p.2) (r.1-p.1) (r.2-p.2)) (bot p q r)=X at *;generalize frc (p.2*bot p q r+uu (q.1-p.1) (q.2-p.2) (r.1-p.1) (r.2-p.2)) (bot p q r)=Y at *;generalize frc (ac (q.1-p.1) (q.2-p.2) (r.1-p.1) (r.2-p.2)*ac (q.1-p.1) (q.2-p.2) (r.1-p.1) (r.2-p.2)+uu (q.1-p.1) (q.2-p.2) (r.1-p.1) (r.2-p.2)*uu (q.1-p.1) (q.2-p.2) (r.1-p.1) (r.2-p.2)) (bot p q r*bot p q r)=F at *;clear e;have hpx : -1000≤p.1∧p.1≤1000:=⟨hp.1,hp.2.1⟩;have hpy : -1000≤p.2∧p.2≤1000:=⟨hp.2.2.1,hp.2.2.2⟩;have q1:=xJ hpx hbo;have q2:=xJ hpy hbo;have hmeet:∀ v∈[p,q,r],InB 1000 v∧(((X.1-v.1*X.2)*Y.2)*((X.1-v.1*X.2)*Y.2)+((Y.1-v.2*Y.2)*X.2)*((Y.1-v.2*Y.2)*X.2))*F.2=F.1*(X.2*Y.2)*(X.2*Y.2):=by
   intro v hv;simp only[Aw,Bq,DL] at hv;rcases hv with rfl|rfl|rfl
   ·have:=ZG v.1 v.2 _ _ _ _ 0 0 _ _ _ _ _ _ hx.eq hy.eq hf.eq (by rw[Int.zero_mul,NE,NE]) z
    rw[Ry,Ry] at this;exact⟨hp,this⟩
   ·have:=ZG p.1 p.2 _ _ _ _ (v.1-p.1) (v.2-p.2) _ _ _ _ _ _ hx.eq hy.eq hf.eq o2 z
    rw[show p.1+(v.1-p.1)=v.1 by omega,show p.2+(v.2-p.2)=v.2 by omega] at this
    exact⟨hq,this⟩
   ·have:=ZG p.1 p.2 _ _ _ _ (v.1-p.1) (v.2-p.2) _ _ _ _ _ _ hx.eq hy.eq hf.eq o3 z
    rw[show p.1+(v.1-p.1)=v.1 by omega,show p.2+(v.2-p.2)=v.2 by omega] at this
    exact⟨hr,this⟩
  clear o2 o3;rfl';refine qV (d:=.bl true) (S:=S) (by kernel_rfl!) ?_
  rfl';refine zN (fun _=>?_) fun e=>absurd rfl e;rfl';have lx:=hx.lem;have ly:=hy.lem;have lf:=hf.lem;have kx:=hx.len;have ky:=hy.len;have px:=hx.pos;have py:=hy.pos;have pf:=hf.pos;refine kS (o:=none) (enc:=frD) [X,Y,F] (fun _=>.bl true) (fun env S'=>S'=S∧∃ a,env=[a]) (GK rfl) ⟨rfl,none,rfl⟩ (AX rfl) (fun _ _ _=>trivial) (fun v hv env S' ⟨e1,a,e2⟩=>?_) fun env S' ⟨e1,_⟩=>?_
  ·subst e1 e2
   rfl';have:0<v.2∧v.2.natAbs<2 ^ 60∧EH v.1 v.2=1:=by
    simp only[Aw,Bq,DL] at hv;rcases hv with rfl|rfl|rfl
    ·exact⟨px,by omega,hx.one⟩
    ·exact⟨py,by omega,hy.one⟩
    ·exact⟨pf,by omega,hf.one⟩
   exact VQ this.1 this.2.1 this.2.2 ⟨rfl,rfl,_,rfl⟩
  ·subst e1
   rfl';refine eX (p:=fun _=>true) ?_;rfl';rw[show ([X,Y,F].all fun _=>true)=true from rfl]
   have bx1 : -16000000≤X.2∧X.2≤16000000:=by omega
   have by1 : -16000000≤Y.2∧Y.2≤16000000:=by omega
   have bx0 : -48000000000≤X.1∧X.1≤48000000000:=by omega
   have by0 : -48000000000≤Y.1∧Y.1≤48000000000:=by omega
   have bf1 : -(2 ^ 64)<F.2∧F.2<2 ^ 64:=by omega
   have bxy:=xJ bx1 by1;clear lx ly lf kx ky q1 q2 hbo hbb hac huu hx hy hf;rfl';refine LS (x:=ptD X) (xs:=[ptD Y,ptD F]) ?_;rfl';refine wH (enc:=ptD) (xs:=[p,q,r]) (fun xs env S1=>S1=S'∧(∀ v∈xs,InB 1000 v∧(((X.1-v.1*X.2)*Y.2)*((X.1-v.1*X.2)*Y.2)+((Y.1-v.2*Y.2)*X.2)*((Y.1-v.2*Y.2)*X.2))*F.2=F.1*(X.2*Y.2)*(X.2*Y.2))∧∃ e7 e8 e9 e10,env=[Ab (ptD p),Ab (ptD q),Ab (ptD r),Ab (.tup ([X,Y,F].map ptD)),Ab (ptD X),Ab (ptD Y),Ab (ptD F),e7,e8,e9,e10]) ?_ ?_ ⟨rfl,hmeet,_,_,_,_,rfl⟩
   ·rintro v xs _ _ ⟨rfl,hm,e7,e8,e9,e10,rfl⟩
    obtain⟨hv,hm1⟩:=hm v (Ba ..);have v1 : -1000≤v.1∧v.1≤1000:=⟨hv.1,hv.2.1⟩;have v2 : -1000≤v.2∧v.2≤1000:=⟨hv.2.2.1,hv.2.2.2⟩;have w1:=xJ v1 bx1;have w2:=xJ v2 by1;have w3:=xJ (show -64000000000≤X.1-v.1*X.2∧X.1-v.1*X.2≤64000000000 by omega) by1
    have w4:=xJ (show -64000000000≤Y.1-v.2*Y.2∧Y.1-v.2*Y.2≤64000000000 by omega) bx1
    rfl';refine lP bf1 ?_;rfl';refine lP om ?_;rfl';refine lP om ?_;rfl';refine zN (fun _=>?_) fun e=>absurd hm1 e;rfl';exact yS ⟨rfl,fun z hz=>hm z (AM _ hz),_,_,_,_,rfl⟩
   ·rintro _ _ ⟨rfl,_,e7,e8,e9,e10,rfl⟩
    rfl';refine fV c hr hp hq ?_ ?_
    ·have:bot r p q=bot p q r:=by
      have:=o6 (q.1-p.1) (q.2-p.2) (r.1-p.1) (r.2-p.2);unfold bot;rw[← this,show p.1-r.1 = -(r.1-p.1) by omega,show p.2-r.2 = -(r.2-p.2) by omega,show q.1-r.1=q.1-p.1-(r.1-p.1) by omega,show q.2-r.2=q.2-p.2-(r.2-p.2) by omega]
     rw[this];exact z
    ·rw[hrot]
     rfl';refine qV (F6 _ ⟨AX rfl,fun x hx=>?_⟩) k;obtain⟨w,_,rfl⟩:=Cc.mp hx;refine⟨AX rfl,fun y hy=>?_⟩;simp only[Aw,Bq,DL] at hy;rcases hy with rfl|rfl <;> trivial
theorem VR (h:xW S p)(q:∀ d S',Kp p S S'→Pn d∧w8 d=false→Q d S'):Ok (S__law_no_point [.loc p] S) Q:=by
 rw[yU];refine zC (env:=[Ab (.loc p),none]) rfl ?_;rfl';refine x5 h om fun r S1 k1 h1=>?_;refine n8 (show r<12 by omega) fun d hd=>?_
 rfl';refine q d S1 k1 ?_;simp only[Aw,Bq,DL] at hd;rcases hd with rfl|rfl|rfl|rfl|rfl|rfl|rfl|rfl|rfl|rfl|rfl|rfl <;> exact⟨⟨_,rfl⟩,by decide⟩
abbrev T3:=Pt × Pt × Pt
def t3D (t:T3):D:=.tup [ptD t.1,ptD t.2.1,ptD t.2.2]
def In3 (t:T3):Prop:=InB 1000 t.1∧InB 1000 t.2.1∧InB 1000 t.2.2
def x3D (t:D × D × D):D:=.tup [t.1,t.2.1,t.2.2]
def No3 (t:D × D × D):Prop:=(Pn t.1∧w8 t.1=false)∨(∃ q,t.1=ptD q∧InB 1000 q)∧((Pn t.2.1∧w8 t.2.1=false)∨(∃ q,t.2.1=ptD q∧InB 1000 q)∧Pn t.2.2∧w8 t.2.2=false)
def IvL (ns:Aa Am)(_:Aa Am)(env:qE)(_:Sto):Prop:=∃ e1 e2 e3 e4 e5 e6 e7 e8 e9 e10 e11,env=[Ab (.lst (ns.map D.int)),e1,e2,e3,e4,e5,e6,e7,e8,e9,e10,e11]
theorem Z6 (c:Cl)(nd:(zS c).Nodup)(ns:Aa Am)(hl:ns.length≤63):∃ S,qR 12 (b_law c) [.lst (ns.map D.int)] [] = .ok (.bl true) S:=by
 have key:Ok (qR 12 (b_law c) [.lst (ns.map D.int)] []) fun d _=>d=.bl true:=by
  refine zC (env:=[Ab (.lst (ns.map D.int)),none,none,none,none,none,none,none,none,none,none,none]) rfl ?_;unfold b_law;rfl';refine fV c (p:=(0,0)) (q:=(2,0)) (r:=(0,1)) (by decide) (by decide) (by decide) (by decide) ?_
  have e:rnd (0,0) (2,0) (0,1)=.tup ([(1,1),(1,2),(5,4)].map ptD):=by
   have e:[frc (0*bo 2 0 0 1+ac 2 0 0 1) (bo 2 0 0 1),frc (0*bo 2 0 0 1+uu 2 0 0 1) (bo 2 0 0 1),frc (ac 2 0 0 1*ac 2 0 0 1+uu 2 0 0 1*uu 2 0 0 1) (bo 2 0 0 1*bo 2 0 0 1)]=[(1,1),(1,2),(5,4)]:=kd;exact congrArg (fun l=>D.tup (l.map ptD)) e
  rw[e];rfl';refine qV (d:=.bl false) (S:=[]) (by kernel_rfl!) ?_
  array_get_dec;array_get_dec;array_get_dec;array_get_dec;array_get_dec;refine NF (UG ns hl 10 rfl fun ms=>?_);refine wH (IvL ns) ?_ ?_ ⟨_,_,_,_,_,_,_,_,_,_,_,rfl⟩
  ·rintro y xs _ S ⟨e1,e2,e3,e4,e5,e6,e7,e8,e9,e10,e11,rfl⟩
   rfl';refine MW fun p S0 p0=>?_;rfl';refine MU p 9 om p0 fun l S1 k1 L=>?_;have lp:0<l.length:=Nh.mpr L.ne;have ll:=L.len;rfl';refine VO (enc:=fun (i:Aj)=>D.int i) (AR 3) (fun d=>∃ z∈l,d=ptD z) (fun env S'=>xW S' p∧∃ a,env=[a,Ab (.tup (l.map ptD)),Ab (.loc p)]) (GJ (n:=3) om) ⟨k1.pen,none,rfl⟩ (AX rfl) (fun _ _ _=>trivial) (fun x hx env S' ⟨h1,a,h2⟩=>?_) fun ds env' S2 hlen hR ⟨p2,_⟩=>?_
   ·subst h2
    rfl';refine x5 h1 (by rw[A6];omega) fun r S3 k3 h3=>?_
    rw[A6] at h3;refine gJ (d:=ptD (l[r]' om)) (by rw[oO (by rw[A6];omega),Pi]) ?_
    exact⟨⟨_,Fa _,rfl⟩,k3.pen,_,rfl⟩
   ·match ds,hlen,hR with
    |[d1,d2,d3],_,hR =>
     obtain⟨z1,m1,rfl⟩:=hR d1 (by simp)
     obtain⟨z2,m2,rfl⟩:=hR d2 (by simp)
     obtain⟨z3,m3,rfl⟩:=hR d3 (by simp)
     have b1:=L.box z1 m1;have b2:=L.box z2 m2;have b3:=L.box z3 m3;clear hR m1 m2 m3;rfl';refine n9 p2 fun q1 S3 k3 i1=>?_;rfl';refine n9 k3.pen fun q2 S4 k4 i2=>?_;rfl';refine n9 k4.pen fun q3 S5 k5 i3=>?_;rfl';refine xN (AX rfl) ?_;rfl';refine n9 k5.pen fun q4 S6 k6 i4=>?_;rfl';refine xN (AX rfl) ?_;rfl';refine wH (enc:=t3D) (xs:=[(z1,z2,z3),(z1,z1,z2)]++[(q1,q2,q3)]++[(z1,q4,z3)]) (fun xs env S'=>xW S' p∧(∀ t∈xs,In3 t)∧∃ e7 e8 e9 e10 e11,env=[Ab (.lst (ns.map D.int)),Ab (.int y),Ab (.loc p),Ab (Z9 l),Ab (ptD z1),Ab (ptD z2),Ab (ptD z3),e7,e8,e9,e10,e11]) ?_ ?_ ⟨k6.pen,fun t ht=>?_,_,_,_,_,_,rfl⟩
     ·rintro t xs _ S' ⟨pp,ht,e7,e8,e9,e10,e11,rfl⟩
      obtain⟨i1,i2,i3⟩:=ht t (Ba ..);refine PJ (xs:=[ptD t.1,ptD t.2.1,ptD t.2.2]) ?_;rfl';refine ZL c nd i1 i2 i3 ?_;rfl';exact yS ⟨pp,fun t' h'=>ht t' (AM _ h'),_,_,_,_,_,rfl⟩
     ·rintro _ S' ⟨pp,_,e7,e8,e9,e10,e11,rfl⟩
      rfl';refine VR pp fun d S7 _ hd=>?_;rfl';refine wH (enc:=x3D) (xs:=[(d,ptD z1,ptD z1),(ptD z1,d,ptD z1),(ptD z1,ptD z1,d),(d,d,d)]) (fun xs env S'=>(∀ t∈xs,No3 t)∧∃ e7 e8 e9 e10 e11,env=[Ab (.lst (ns.map D.int)),Ab (.int y),Ab (.loc p),Ab (Z9 l),Ab (ptD z1),Ab (ptD z2),Ab (ptD z3),e7,e8,e9,e10,e11]) ?_ ?_ ⟨fun t ht=>?_,_,_,_,_,_,rfl⟩
      ·rintro t xs _ S' ⟨ht,e7,e8,e9,e10,e11,rfl⟩
       refine PJ (xs:=[t.1,t.2.1,t.2.2]) ?_;rfl';refine WM (by rw[Cz];simp[uT]) (tP c nd) (caps:=[t.1,t.2.1,t.2.2]) rfl ((W1 (a:=t.1) (b:=t.2.1) (c:=t.2.2) rfl rfl rfl).trans (eW c (ht t (Ba ..)) S')) ?_
       rfl';refine qV (d:=.bl false) (S:=S') (by kernel_rfl!) ?_
       rfl';exact yS ⟨fun t' h'=>ht t' (AM _ h'),_,_,_,_,_,rfl⟩
      ·rintro _ S' ⟨_,e7,e8,e9,e10,e11,rfl⟩
       exact yS ⟨_,_,_,_,_,_,_,_,_,_,_,rfl⟩
      ·simp only[Aw,Bq,DL] at ht
       rcases ht with rfl|rfl|rfl|rfl
       ·exact .inl hd
       ·exact .inr ⟨⟨z1,rfl,b1⟩,.inl hd⟩
       ·exact .inr ⟨⟨z1,rfl,b1⟩,.inr ⟨⟨z1,rfl,b1⟩,hd⟩⟩
       ·exact .inl hd
     ·simp only[Hr,Fz,Aw,Bq,DL] at ht
      rcases ht with rfl|rfl|rfl|rfl
      ·exact⟨b1,b2,b3⟩
      ·exact⟨b1,b1,b2⟩
      ·exact⟨i1,i2,i3⟩
      ·exact⟨b1,i4,b3⟩
  ·rintro _ S ⟨e1,e2,e3,e4,e5,e6,e7,e8,e9,e10,e11,rfl⟩
   rfl';exact rfl
 obtain⟨d,S',e,rfl⟩:=key;exact⟨S',e⟩
end _K
namespace _K
open PySem PySem.Spec PyProof.Rows _L _D
variable {mg:Ar→Ak Ac}
theorem yA {P:A1}{w:AH}{K:Ai}{base:A5}{c:Cl}(T:Txt K mg c){k:Aj}{F:DF}(d:DfS F P w K mg base true k "_law_same" 2):DfS (qR 2 (b__law_same F)) P w K mg base true (k+1) "_law_same" 2:=by
 refine dq P w base k 9 T rfl ck rfl ?_
 intros
 repeat' first
  |with_reducible exact ck
  |((with_reducible show QE _ _ _);with_reducible first|apply aV|apply WQ|apply iO|apply aBt|apply aO|(apply aB;first|apply Y3|apply Y2|apply Y1|apply oG)|apply aC|apply iQ|apply iN|apply iP|apply iL)
  |((with_reducible show _=_);first|exact T.nb ck|exact uW _|exact rfl|with_unfolding_all rfl)
  |((with_reducible show ZOp _ _ _);with_reducible first|apply FP|apply FS|apply FQ)
  |((with_reducible show RoomC _ _ _);first|assumption|exact RoomC.mono (by assumption)|exact RoomC.mono (RoomC.any (by assumption))|exact RoomC.mark (by assumption) _|exact RoomC.mono (RoomC.mark (by assumption) _))
  |((with_reducible show St1 _ _ _ _);exact⟨rfl,rfl⟩)
  |((with_reducible show DfS _ _ _ _ _ _ _ _ _ _);assumption)
  |with_reducible first|apply iK|apply bM|apply gN|apply sT|apply iJ|apply iV|(apply WS;first|apply bN|apply nF)|apply iW|apply bN|apply nF|apply aNm|apply iR|apply lT|apply sU|apply iT|apply iS|apply sW|apply sV|apply iU|apply WR|apply W6
  |((with_reducible apply aSt);case hs=>exact rfl)
  |((with_reducible show ClA _ _ _ _);first|assumption|exact ClA.tr (by assumption))
  |((with_reducible show LmX _ _ _ _ _ _ _ _ _ _);assumption)
  |((with_reducible show DfL _ _ _ _ _ _ _ _ _ _ _ _ _);assumption)
  |((with_reducible show ZF _ _ _ _);first|apply aFn|apply aFn0)
  |exact fun _=>⟨rfl,rfl,rfl⟩
  |(intro h;cases h;done)
  |((with_reducible show ZPass _);first|assumption|exact rJ)
  |exact⟨rfl,rfl⟩
  |exact⟨rfl,rfl,rfl⟩
  |apply bM
  |apply gN
  |(intros;rfl)
  |(intro _ h;cases h <;> rfl)
  |decide
  |intro _
theorem VF {P:A1}{w:AH}{K:Ai}{base:A5}{c:Cl}(T:Txt K mg c)(nd:(zS c).Nodup)(hT:(GU.all fun y=>(Bg K y).isSome)=true):∃ F,nK P w K mg base true 9 "law" ["_law_script"] F∧∀ ns:Aa Am,ns.length≤63→∃ S,F [.lst (ns.map D.int)] [] = .ok (.bl true) S:=by
 refine hv (fun _=>?_) (dq (cm:=true) P w base 0 0 T rfl ck (jX) ?_);refine hv (fun _=>?_) (dq (cm:=true) P w base 1 1 T rfl ck (uR) ?_);refine hv (fun _=>?_) (dq (cm:=true) P w base 2 2 T rfl ck (jW) ?_);refine hv (fun _=>?_) (dq (cm:=true) P w base 3 3 T rfl ck (wZ c) ?_);refine hv (fun _=>?_) (dq (cm:=true) P w base 0 4 T rfl ck (wY) ?_);refine hv (fun _=>?_) (dq (cm:=true) P w base 1 5 T rfl ck (jV) ?_);refine hv (fun _=>?_) (dq (cm:=true) P w base 4 6 T rfl ck (wI c) ?_);refine hv (fun _=>?_) (dq (cm:=false) P w base 0 7 T rfl ck (wX c) ?_);refine hv (fun _=>?_) (dqL (cm:=true) (g:=b__law_refused c) (N:=2) P w base 6 6 0 8 T rfl ck ?_);have s0:DfS (bR 0) P w K mg base true 0 "_law_same" 2:=⟨YH (T.src 9 rfl)⟩;have d__law_same:DfS S__law_same P w K mg base true 4 "_law_same" 2:=uQ▸yA T (yA T (yA T (yA T s0)));refine hv (fun _=>?_) (dq (cm:=true) P w base 0 10 T rfl ck (u9) ?_);refine hv (fun _=>?_) (dq (cm:=true) P w base 0 11 T rfl ck (uN) ?_);refine hv (fun _=>?_) (dq (cm:=true) P w base 0 12 T rfl ck (jU) ?_);refine hv (fun _=>?_) (dq (cm:=true) P w base 0 13 T rfl ck (uO) ?_);refine hv (fun _=>?_) (dq (cm:=true) P w base 0 14 T rfl ck (vJ) ?_);refine hv (fun _=>?_) (dq (cm:=true) P w base 1 15 T rfl ck (uP) ?_);refine hv (fun _=>?_) (dq (cm:=true) P w base 2 16 T rfl ck (jT) ?_);refine hv (fun _=>?_) (dq (cm:=true) P w base 1 17 T rfl ck (yU) ?_);refine hv (fun _=>?_) (dq (cm:=true) P w base 1 18 T rfl ck (u4) ?_);refine hv (fun _=>?_) (dq (cm:=true) P w base 0 19 T rfl ck (yV) ?_);refine hv (fun _=>?_) (dq (cm:=true) P w base 0 20 T rfl ck (vB) ?_);refine hv (fun _=>?_) (dq (cm:=true) P w base 1 21 T rfl ck (yT) ?_);refine hv (fun _=>?_) (dq (cm:=true) P w base 7 22 T rfl ck (u7 c) ?_);refine⟨_,dqP 8 23 T rfl ck ?_,Z6 c nd⟩
 all_goals
  intros
  repeat' first
   |with_reducible exact ck
   |((with_reducible show QE _ _ _);with_reducible first|apply aV|apply BP|apply WQ|apply BU|apply iO|apply aBt|apply aGi|apply aCl|apply aO|apply aN|(apply aB;first|apply Y3|apply Y2|apply Y1|apply XO|apply oG|apply NH|apply FR)|(apply aT;first|apply J8|apply NL)|apply aC|apply iQ|apply BR|apply UA|apply BQ|apply TQ|apply X0|apply TR|apply iN|apply ZY|apply BS|apply TU|apply iP|apply iL|apply BO|apply dN|(apply nE;(case slot=>apply PySem.F.slot_list_append);(case' hm=>first|apply XN))|(apply nE;(case slot=>apply Js);(case' hm=>first|apply J2))|(apply nE;(case slot=>apply Jt);(case' hm=>first|apply J3))|(apply nE;(case slot=>apply PySem.F.slot_list_pop);(case' hm=>first|apply J7))|apply BM)
   |((with_reducible show _=_);first|exact T.nb ck|with_reducible apply Jz|with_reducible apply Je|with_reducible apply Ka|with_reducible apply Kb|with_reducible apply Lq|exact uW _|exact rfl|with_unfolding_all rfl)
   |((with_reducible show ZOp _ _ _);with_reducible first|apply NI|apply NS|apply NN|apply NJ|apply FO|apply NM|apply NQ|apply DP|apply DN|apply DJ|apply DH|apply NO|apply FP|apply FS|apply FQ|apply NK)
   |((with_reducible show RoomC _ _ _);first|assumption|exact RoomC.mono (by assumption)|exact RoomC.mono (RoomC.any (by assumption))|exact RoomC.mark (by assumption) _|exact RoomC.mono (RoomC.mark (by assumption) _))
   |((with_reducible show St1 _ _ _ _);exact⟨rfl,rfl⟩)
   |((with_reducible show DfS _ _ _ _ _ _ _ _ _ _);assumption)
   |with_reducible first|apply iK|apply bM|apply gN|apply sT|apply iJ|apply aK0|apply UD|apply F4|apply iV|(apply WS;first|apply sX|apply bN|apply iY|apply nF)|apply iW|apply sX|apply bN|apply iY|apply nF|apply aNm|apply UC|apply iR|apply BW|apply lT|apply sU|apply BY|apply X1|apply iT|apply iS|apply BX|apply sW|apply sV|apply iU|apply WR|apply UE|apply F0|apply X4|apply aP2|apply aRs|apply aTr|apply NP|apply DM|apply NR|apply W6|apply Jz|apply Je|apply Ka|apply Kb|apply Lq
   |((with_reducible apply aCs);case hsw=>exact rfl)
   |((with_reducible apply aSt);case hs=>exact rfl)
   |with_reducible apply BZ
   |exact T.cls
   |exact T.cl (by kernel_rfl)
   |exact T.rz (by kernel_rfl)
   |exact T.ct
   |exact T.gi (by kernel_rfl)
   |((with_reducible apply NY);(case D=>assumption))
   |((with_reducible show ClA _ _ _ _);first|assumption|exact ClA.tr (by assumption))
   |((with_reducible show LmX _ _ _ _ _ _ _ _ _ _);assumption)
   |((with_reducible show DfL _ _ _ _ _ _ _ _ _ _ _ _ _);assumption)
   |((with_reducible show LmK _ _);refine lmK hT (by assumption) ?_ rfl)
   |((with_reducible show ZF _ _ _ _);first|apply aFn|apply aFn0)
   |exact fun _=>⟨rfl,rfl,rfl⟩
   |(intro h;cases h;done)
   |((with_reducible show ZPass _);first|assumption|exact rJ)
   |exact⟨rfl,rfl⟩
   |exact⟨rfl,rfl,rfl⟩
   |apply bM
   |apply gN
   |decide
   |(intros;rfl)
   |(intro _ h;cases h <;> rfl)
   |intro _
end _K
namespace _K
open PySem PySem.Spec PyProof.Rows _L _D
variable {K:Ai}
theorem bdf:BdF top tab:=by
 repeat (refine⟨?_,?_⟩;(intro _ _ _ _ _ _ us h;first|(obtain⟨_,rfl⟩:=us1 h;rfl)|(obtain⟨_,_,rfl⟩:=us2 h;rfl)|(obtain⟨_,_,_,rfl⟩:=us3 h;rfl)))
 exact trivial
theorem FV {C0 C1 C2 C3 C4 C5 C6 C7 C8 C9 C10 C11:Ad}(q0:Bn K AT "FarError" = Ab (Ab (.ref C0)))(q1:Bn K AT "NoPoint" = Ab (Ab (.ref C1)))(q2:Bn K AT "NoLot" = Ab (Ab (.ref C2)))(q3:Bn K AT "NoNumber" = Ab (Ab (.ref C3)))(q4:Bn K AT "NoCircle" = Ab (Ab (.ref C4)))(q5:Bn K AT "NoMarks" = Ab (Ab (.ref C5)))(q6:Bn K AT "NoFars" = Ab (Ab (.ref C6)))(q7:Bn K AT "NoText" = Ab (Ab (.ref C7)))(q8:Bn K AT "NoLine" = Ab (Ab (.ref C8)))(q9:Bn K AT "NoDeed" = Ab (Ab (.ref C9)))(q10:Bn K AT "Alike" = Ab (Ab (.ref C10)))(q11:Bn K AT "TooMany" = Ab (Ab (.ref C11))):rK K (clt ⟨C0,C1,C2,C3,C4,C5,C6,C7,C8,C9,C10,C11⟩):=⟨q0,q1,q2,q3,q4,q5,q6,q7,q8,q9,q10,q11,trivial⟩
theorem FX {k0 k1:Nl}(g0:Bn K AT "LEAST_NUMBER" = Ab (Ab (.int (-1000) k0)))(g1:Bn K AT "MOST_NUMBER" = Ab (Ab (.int (1000) k1))):rL K cst:=⟨⟨_,g0⟩,⟨_,g1⟩,trivial⟩
theorem GW {P:A1}{w:AH}{mg:Ar→Ak Ac}{c:Cl}{fa:Ad}(T:Txt K mg c)(nd:(zS c).Nodup)(hT:(GU.all fun y=>(Bg K y).isSome)=true)(hfa:mg "law" = Ab (.ref fa)) :
  ∃ fd:CH,(∀ (s:Ag) (v:Ac),Hi s fd ⟨[v],[]⟩ [("_law_script",v)])∧∀ base:A5,K.In base→base.Ns AT mg→FnOk P w K mg base (CXd P w) 9 fa fd ["_law_script"] (nG K):=
 VG (T.src 23 rfl) hfa (fun kV doc pm an cdv ct s v=>.of_eq rfl) fun base=>VF T nd hT
end _K
theorem PySem.W.Fast.tw13180134876901665978 : True := trivial
theorem PySem.W.Fast.tw15433771304650915045 : True := trivial
theorem PySem.W.Fast.tw11744383889288717407 : True := trivial
theorem PySem.W.Fast.tw9564631298729854977 : True := trivial
theorem PySem.W.Fast.tw13814684555641478193 : True := trivial
theorem PySem.W.Fast.tw18222697112178854820 : True := trivial
theorem PySem.W.Fast.tw17867132314578846159 : True := trivial
theorem PySem.W.Fast.tw15566145615216881831 : True := trivial
theorem PySem.W.Fast.tw3813626725955345838 : True := trivial
theorem PySem.W.Fast.tw6088600785007356848 : True := trivial
theorem PySem.W.Fast.tw3166778174731928882 : True := trivial
theorem PySem.W.Fast.tw14687686374602900188 : True := trivial
theorem PySem.W.Fast.tw14526238673599680155 : True := trivial
theorem PySem.W.Fast.tw4971371241120870159 : True := trivial
theorem PySem.W.Fast.tw10640628203964761209 : True := trivial
theorem PySem.W.Fast.tw8949928748564431338 : True := trivial
theorem PySem.W.Fast.tw13590133296324326833 : True := trivial
theorem PySem.W.Fast.tw12071653680673273608 : True := trivial
theorem PySem.W.Fast.tw15914351033361927128 : True := trivial
theorem PySem.W.Fast.tw16135881460782649111 : True := trivial
theorem PySem.W.Fast.tw2171151188645203330 : True := trivial
theorem PySem.W.Fast.tw15532333949339509866 : True := trivial
theorem PySem.W.Fast.tw4329159625304866861 : True := trivial
theorem PySem.W.Fast.tw18200629975782844172 : True := trivial
theorem PySem.W.Fast.tw322194743186001958 : True := trivial
theorem PySem.W.Fast.tw12382713764180578395 : True := trivial
theorem PySem.W.Fast.tw13206394064737394635 : True := trivial
theorem PySem.W.Fast.tw7554922811117169111 : True := trivial
theorem PySem.W.Fast.tw1443659738681853663 : True := trivial
theorem PySem.W.Fast.tw17705230033464765494 : True := trivial
theorem PySem.W.Fast.tw15921486707212260528 : True := trivial
theorem PySem.W.Fast.tw14747474150660912704 : True := trivial
theorem PySem.W.Fast.tw13683765614623662737 : True := trivial
theorem PySem.W.Fast.tw2775375942424009788 : True := trivial
theorem PySem.W.Fast.tw15602796245263681420 : True := trivial
theorem PySem.W.Fast.tw755814938961298166 : True := trivial
theorem PySem.W.Fast.tw7077634419279024121 : True := trivial
theorem PySem.W.Fast.tw3206465098928618964 : True := trivial
theorem PySem.W.Fast.tw41595387038564526 : True := trivial
theorem PySem.W.Fast.tw12453432974964022470 : True := trivial
theorem PySem.W.Fast.tw9058190000024544089 : True := trivial
theorem PySem.W.Fast.tw1429544691998711059 : True := trivial
theorem PySem.W.Fast.tw6033604609897662771 : True := trivial
theorem PySem.W.Fast.tw830187278734246633 : True := trivial
theorem PySem.W.Fast.tw11894320129933328426 : True := trivial
theorem PySem.W.Fast.tw17933793938206954909 : True := trivial
theorem PySem.W.Fast.tw14918051807502418329 : True := trivial
theorem PySem.W.Fast.tw4599035494708488272 : True := trivial
theorem PySem.W.Fast.tw4423978504564756889 : True := trivial
theorem PySem.W.Fast.tw5331889054484242337 : True := trivial
theorem PySem.W.Fast.tw3994148336254378206 : True := trivial
theorem PySem.W.Fast.tw11208829179126340070 : True := trivial
theorem PySem.W.Fast.tw1941094121126255763 : True := trivial
theorem PySem.W.Fast.tw3964138692918649278 : True := trivial
theorem PySem.W.Fast.tw1231748012399712753 : True := trivial
theorem PySem.W.Fast.tw1550801119241206419 : True := trivial
theorem PySem.W.Fast.tw2827346911528379344 : True := trivial
theorem PySem.W.Fast.tw16072546631522743145 : True := trivial
theorem PySem.W.Fast.tw4095975478172333258 : True := trivial
theorem PySem.W.Fast.tw1753923923364356184 : True := trivial
theorem PySem.W.Fast.tw3441361921252256645 : True := trivial
theorem PySem.W.Fast.tw369049812277288757 : True := trivial
theorem PySem.W.Fast.tw16078526643686238633 : True := trivial
theorem PySem.W.Fast.tw13103596070359288670 : True := trivial
theorem PySem.W.Fast.tw13180211687165285538 : True := trivial
theorem PySem.W.Fast.tw2801900473221859245 : True := trivial
theorem PySem.W.Fast.tw12106161266831582762 : True := trivial
theorem PySem.W.Fast.tw15282882548083858789 : True := trivial
theorem PySem.W.Fast.tw815082783833002882 : True := trivial
theorem PySem.W.Fast.tw16614240877628992015 : True := trivial
theorem PySem.W.Fast.tw2490053987137946256 : True := trivial
theorem PySem.W.Fast.tw7571047714449475804 : True := trivial
theorem PySem.W.Fast.tw18076121492281551786 : True := trivial
theorem PySem.W.Fast.tw17520195905342546479 : True := trivial
theorem PySem.W.Fast.tw4999147773422305974 : True := trivial
theorem PySem.W.Fast.tw7048950688008053133 : True := trivial
theorem PySem.W.Fast.tw4474073729803205991 : True := trivial
theorem PySem.W.Fast.tw17087931755179358576 : True := trivial
theorem PySem.W.Fast.tw14868684466547789596 : True := trivial
open PySem PySem.W PyProof.Rows
set_option maxRecDepth 100000 in
set_option maxHeartbeats 0 in
theorem PySem.Challenge.cw_fewdistances_k61_middles_of_circles_holds : PySem.Challenge.rw_fewdistances_k61_middles_of_circles.Holds := by
 w_on;o_law;k_head;(case hw=>w_witness2)
 k_fill
 refine _D.NG (l:=HS) (k:=9) (x:="_law_script") rfl rfl ⟨rfl,by decide,by decide,rfl⟩ (fun _=>by kernel_rfl) (fun w h Y=>PySem.W.km_in_of Y) ?F
 case F =>
  intro w mg fa h KX G hmg
  refine' _K.GW (_D.NB _K.bdf ?hp rfl KX G ?s ?z (_K.FV ?q0 ?q1 ?q2 ?q3 ?q4 ?q5 ?q6 ?q7 ?q8 ?q9 ?q10 ?q11) (_K.FX ?gi0 ?gi1) ?e1 ?e2 ?e3 ?e4 ?e5 ?e6) ?nd ?hT hmg
  (case s=>(repeat (refine' ⟨_D.SrcF.mk ?a ?l ?c ?k,?_⟩;(case a=>k_is);(case l=>k_is);(case c=>k_is);(case k=>k_is)));exact trivial)
  (case z=>rfl)
  (case q0=>k_is)
  (case q1=>k_is)
  (case q2=>k_is)
  (case q3=>k_is)
  (case q4=>k_is)
  (case q5=>k_is)
  (case q6=>k_is)
  (case q7=>k_is)
  (case q8=>k_is)
  (case q9=>k_is)
  (case q10=>k_is)
  (case q11=>k_is)
  (case gi0=>k_is)
  (case gi1=>k_is)
  (case hp=>intro y hy;revert hy;simp;grind)
  (case e1=>rfl)
  (case e2=>rfl)
  (case e3=>rfl)
  (case e4=>rfl)
  (case e5=>rfl)
  (case e6=>rfl)
  (case nd=>decide)
  (case hT=>rfl)
