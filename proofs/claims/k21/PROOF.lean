import PyProof.Rows.All
import Wide.All
import OpenK.AllK
import Wide.FinOn
import Lean
import PyProof.EqAt
import PyProof.EqKinds
import PyProof.TupleCall
import KE.KTryMore
import KE.KIsAll
import PyProof.NeKinds
import PyProof.Rows.CountFlat
import PyProof.Rows.FStr
import PyProof.ZipIter
import PyProof.EnumMake
import PyProof.EnumStmt
import KE.KDictLaws
import PyProof.DictWalks
import PyProof.Rows.SetFrom
import PyProof.SumWalkG
import PyProof.Rows.SumGenD
import PyProof.SeqI2
import KE.KItemsList
import PyProof.SetKind
import PyProof.TupleKey
import KE.KSortTup
import PyProof.ReprRoads
import PyProof.ReprBulk
import PyProof.TupleOfSeq
import PyProof.WalkInts
import PyProof.SeqI3
import KE.KPairComp
import KE.KMinKey
import PyProof.Rows.CallKwBuiltin
import PySem.Challenge.RW_fewdistances_k21_most_fars_on_boards
set_option Elab.async false
set_option linter.all false
set_option maxRecDepth 100000
set_option maxHeartbeats 0
set_option tactic.hygienic false
set_option bootstrap.genMatcherCode false
set_option genSizeOf false
set_option compiler.extract_closed false
open Array renaming length_toList→AU,toList_append→Bw,getD_eq_getD_getElem?→Cp,getElem?_toList→CH,size_extract→DU,getD→DY,toList_push→Eg,toList_extract→Ei,toList_reverse→EM,perm_iff_toList_perm→HA,toList→La,toList_inj→Nl
open BEq renaming rfl→Pa
open Bool renaming and_eq_true→Ax,noConfusion→AM,false_eq_true→Bl,and_eq_true_iff→CO,false_ne_true→Dh,not_eq_true'→EC,and_true→Kh,or_eq_true→Nt,eq_iff_iff→Oa,false_and→Os,true_or→OL
open Classical renaming choose_spec→IZ,choose→Ng
open False renaming elim→Am
open ForInStep renaming yield→E7
open Int renaming le_trans→Cn,le_of_lt→Dz,le_refl→Fh,emod_lt_of_pos→Fn,toNat_natCast→Fz,emod_nonneg→Hc,eq_ofNat_of_zero_le→Iu,le_antisymm→Ob,not_lt→Op,pow_succ→OS
open List renaming getElem?_eq_getElem→Ap,getElem?_eq_some_iff→Ay,length_map→A9,size_toArray→AB,prefix_refl→AD,mem_map→AE,getElem?_append_left→AG,length_cons→AH,mem_append_right→AJ,mem_cons_of_mem→AK,mem_cons→AL,append_assoc→AQ,all_eq_true→AR,mem_append→AS,length_append→AW,pairwise_append→AX,getElem?_set_ne→Ba,replicate→Bg,not_mem_nil→Bi,map_cons→Bk,length_nil→Bn,mem_append_left→Bp,mem_iff_getElem→Bq,mem_cons_self→Bu,range→By,getElem?_set_self→Bz,getElem?_append_right→Cd,set_cons_zero→Co,getD_eq_getElem?_getD→Cw,set_cons_succ→CA,getElem?_map→CD,contains_iff_mem→CF,drop_eq_getElem_cons→CW,pairwise_map→CY,length_filter_le→Df,mem_singleton→Di,flatMap_cons→Dp,mem_filter→Dq,append_nil→Dr,replicate_succ→Dt,nil_append→Dv,map_append→Dx,map_map→DB,extract_eq_take_drop→DD,zip_cons_cons→DH,mem_of_getElem?→DM,length_take→DQ,mem_range→DR,length_singleton→DV,foldl_cons→Eb,flatten_cons→Ee,length→Ep,lookup_cons→Er,getElem_mem→Es,length_eq_zero_iff→Ev,getElem?_cons_succ→Ey,find?_cons→E4,drop_eq_nil_of_le→E5,take_of_length_le→E9,perm_append_comm→EH,filterMap_cons→EO,getD→EX,pairwise_iff_getElem→EY,reverse_append→EZ,map_congr_left→Fa,forIn_cons→Ff,prefix_append→Fm,filter_append→Fo,getElem?_replicate→Fq,getElem?_cons_zero→Fw,nodup_append→Ga,drop_of_length_le→Gf,getElem_inj→Gi,any_cons→Gj,getElem?_eq_none→Gk,lookup→Gm,take_append_drop→Go,nodup_cons→Gw,of_mem_zip→Gy,forIn_nil→Hn,mem_filterMap→Hu,range'→HB,mem_of_find?_eq_some→HL,getElem?_take_of_lt→HN,length_drop→HX,zipIdx_cons→HY,ext_getElem→Ia,mem_flatMap→Ib,cons_append→Ic,pairwise_mergeSort→Iq,pairwise_singleton→Ir,find?_cons_of_neg→IH,pairwise_lt_range→IP,countP_mono_left→Jd,singleton_append→Je,pairwise_flatMap→Jf,nodup_nil→Jj,mem_of_mem_drop→Jo,reverse_reverse→Jp,mem_of_mem_take→Jq,mem_map_of_mem→Kl,map_drop→Km,flatMap_append→Kn,find?_eq_none→Ky,map_nil→Ld,take_sublist→Ma,ext_getElem?→Ml,getElem_drop→Mm,getElem_take→Mn,foldl_append→Mq,countP_cons→Nj,map_fst_zip→Nm,map_flatMap→Nn,range'_succ→No,zipIdx_nil→Nu,length_zip→Ny,find?_some→Nz,range_succ→Oc,foldl→Ol,take_zero→Ou,all_cons→OC,Nodup→Pc
open List.Pairwise renaming nil→Me
open List.Perm renaming append_right→E8,append_left→EG,trans→Hb,refl→Hr
open Nat renaming le_refl→Aw,lt_of_lt_of_le→AI,ne_of_lt→Bm,le_trans→Ce,lt_irrefl→Cg,mul_le_mul→El,add_sub_cancel_left→Ew,lt_of_succ_lt→EI,zero_le→Fe,ne_of_gt→Fp,lt_succ_of_lt→HK,succ_mul→Ig,min_self→Ik,pow_le_pow_right→Jr,not_lt→Ke,le_of_lt→Kz,lt_trans→Lf,mul_comm→Lm,zero_add→Ln,sub_self→Lo,add_zero→Lp,pow_succ→Lq,le_succ→Nh,lt_succ_self→Ni,one_pos→Nk,sub_lt→Oq,lt_or_ge→OQ
open Ne renaming symm→DC
open Option renaming some→Ab,map_eq_some_iff→CB,bind_eq_some_iff→DP,getD_none→Mv,getD_some→Mz,none→OW
open Option.some renaming inj→Be
open Or renaming inr→Mx,inl→Ox
open PyProof.Rows renaming wpS_bind→Au,wpS_pure→A3,Keyed→A6,step_dedup→A7,slot_tuple_getitem→Cs,wpS_forRange→Cu,SortSt→CG,seqObj→De,envOfC→Dk,callWith_type1→Do,wpS_mono→Dw,wpS_modify→DZ,IntsAre→E2,SortKind→Fg,wpS_get→Fv,AllBare→Gh,callWith_builtin1→Gp,assignInOrder_cons→Ht,wpS_lift→HC,subscriptTail→HG,IsTup→Ie,subscriptTail_builtinR→ID,isBoolOf→II,gallopOf→IL,get?_update_seq→IM,entry_tuple_getitem→Jz,gt_int→Kj,args_tuple_getitem→Kt,assignInOrder_nil→Lv,Subscript_→Og,step_dedup→Oo,lt_int→Pb
open PyProof.Rows.IsTup renaming new→O8
open PyProof.Rows.SortSt renaming mk'→Bc
open PySem renaming Value→Ac,Addr→Ad,wpAny_bind→Af,Shared→Ag,wpAny→An,wpAny_pure→Aq,model→Ar,Str→As,starEach→Az,Program→A5,Around→A8,Expr→AC,Heap→AF,World→AO,mainGlobals→AT,Obj→AV,compareOp→Bj,wpAny_field→Bx,Comprehension→Cc,foldedSetIterable→Ch,binaryOp→Ci,wpAny_setField_rec→Cj,wpAny_callSpecial?_slot→Ct,Stmt→Cy,Pos→Cz,mem_of_lookup→CC,cLine→CI,wpAny_holding→CJ,bootBuiltins→CK,FuncData→CM,backTo→CP,Scope→CS,wpAny_mono→CU,wpAny_newObj_type→CV,wpAny_seqItems→CZ,assignEach→Dj,wpAny_call_entry→Dl,sizeLine_eq→Dn,wpAny_rule→DJ,wpAny_pyIter_list→DN,IsPair→DX,NameKind→Ea,codeAny→Ec,argBest→Eh,sysModules→En,wpAny_pyIter_tuple→Ez,wpAny_Call_Name_kw→E0,letOwnedTupleGo→E1,wpAny_attempt→E6,Env→EA,wpAny_letGo→ED,Builtin→EK,swappedStores→EQ,swapsWithSole→ER,wpAny_standAt→ES,behindInMarks→ET,Sem→Fb,wpAny_passesOwn→Fc,sliceBounds→Fd,Model→Fl,getItem→Fu,swapsWith→Gb,richCompare_meets_room→Ge,wpAny_updateSeq_pair→Gq,wpAny_execs_nil→Gv,codeAny_builtin→Gz,codeAny_mono→Hd,BindsTo→Hg,call_meets→Hi,recursionLimit→Hm,IsZip→Hq,wpAny_tryCatch→Hs,wpAny_newFunctionEnv_cells→Hy,IsPart→Hz,callerA→HH,wpAny_onRaise→HJ,plainId_quiet→HM,wpAny_comprehension_free→HQ,pyNext→HT,pyIter→HU,rawInt→HV,noFill_tuple_add→HW,wpAny_forIn_list→HZ,valueAt→IE,standAt→IF,wpAny_updateSeq→IN,tupleKind→IS,PassesOwn→IT,Result→IU,cellsFrom→IV,codeAny_call_function→IW,noteFrame→IX,wpAny_of_eq→IY,IsEnum→Ja,richCompare→Jb,wpAny_newTuple→Ji,codeAny_call_builtin→Jn,Tok→Js,assignInOrder→Ju,bindL→Jw,bindC→Jx,seq_tuple_add→Jy,atKey→Kb,wpAny_call→Kf,bindName→Ko,tupleKind_room_in1→Kv,concat_meets→Lb,wpAny_typeOf→Lc,wpAny_assign_Name→Lu,CmpOp→Lw,wpAny_truthy_bool→Lx,wpAny_sequenceKey→Mb,slot_list_getitem→Mc,list_append→Md,ClassData→Mf,setFlight→Mi,wpAny_pyIter_enum→Mk,wpAny_collect_seq→Mp,wpAny_execs_cons→Mr,unaryOp→Ms,seqIndex_of→Mu,checkBuiltinCall→My,wpAny_isInstance→Nc,wpAny_pyIter_zip→Nd,bindArgs→Nq,wpAny_stack_any→Nv,builtinsNs→Od,wpAny_Name→Oe,typeIs_int→Oh,call→Om,closureFor→On,Params→Ow,setItem→O7,Keyword→OE,IsEnumOut→OG,Within→OJ,isTrue→ON
open PySem.Around renaming under_plainId→Gs,frames_deeper→Jk
open PySem.AutoSeq1 renaming wpAny_loadPart'→Dg,sub_tuple_tuple→Fk
open PySem.Builtin.Builtins renaming bindParams→Ov
open PySem.Builtin.Getset_descriptor renaming descrCheckInstance→IA,descrNameAndClass→IG,descrGetter→Kg,descrGet→Li
open PySem.Builtin.List renaming listTooLong→Fj,listUpdate→OR
open PySem.Builtin.ObjectAttr renaming bindTo→HI,dataDescriptor?→Lh,getOf→OI,find→OM
open PySem.Builtin.Range renaming rangeSize→OK
open PySem.Builtin.Slice renaming slicePlaces→Ed,sliceAdjust→EV,sliceApplied→H0,slicePartIndex→Of,sliceFields→O9
open PySem.Builtin.SmallTypes renaming nextOf→Bt,ownedTupleIsFree→Cb,ownedTupleHandOut→Dd
open PySem.Builtin.Tuple renaming tupleExact→Ej,tupleCompareSizes→Et,tupleItemsOf→H8,tupleIsExact→O0
open PySem.Calls renaming spliced_cons→Hv,Name_function_global→Hx,spliced_nil→HF,evalArgs_plain→Jm
open PySem.F renaming plain_max_loop→CT,slot_tuple_iterator_next→DW,slot_enumerate_next→EE,args_tuple_add_2→Fi,entry_tuple_add→Ft,slot_tuple_add→Gd,entry_max_loop→Gg,slot_zip_next→Ha,args_tuple_iterator_next_1→Hj,slot_dict_setdefault→Hk,type_dict_setdefault→Hl,entry_tuple_iterator_next→Ho,excBase_ValueError→H9,type_list_append→HR,attr_ValueError→Ih,slot_list_count→Il,slot_list_index→Im,args_enumerate_next_1→Io,args_tuple_gt_2→Ip,plainAttrs_dict→Iw,plainAttrs_list→Ix,type_list_count→Iy,type_list_index→I0,entry_enumerate_next→IJ,entry_tuple_gt→IK,slot_tuple_gt→Jc,args_list_append_2→Jl,entry_list_append→Ka,slot_list_append→Ku,args_zip_next_1→Mj,entry_zip_next→Nb,slot_int_rmul→Nw
open PySem.Heap renaming get?_push_of_some→Al,lt_size→Av,get?_push_size→AN,get?_update_other→Bh,SameBut→CL,size_push→Dc,get?_update_self→EB,FlyingW→He,MadeExcOf→Jh,IsTuple→Ll,IsList→Na,ExtBut→OX,HeldW→OZ
open PySem.Heap.IsSliceOf renaming new→Pd
open PySem.Heap.SameBut renaming update→Ki,refl→Pg
open PySem.IsL renaming update→Mw
open PySem.MeetsSeq renaming list_index→OF,EqGives→OT
open PySem.NameKind renaming free→Ef,cell→OB
open PySem.Obj renaming mapSeq→Dm,data_mapFields→Kx
open PySem.SeqAt renaming EqAt→Lj
open PySem.SeqAt.EqAt renaming bool_bool→Oy,same→OD,int_int→OO,of_refs→OP
open PySem.SetTable renaming Probe→OH
open PySem.Shared renaming heap→Gn
open PySem.Str renaming ofString→Eu,empty→EU
open PySem.Value renaming ref→AY,none→Br,bool→CN,type→EN,notImplemented→Gr,int→Lr,str→Ls,isStrOf→O6,builtin→OA,isInt→OU,float→OV
open PySem.W renaming Frag→Ai,nsIn→Bs,kia_one→Ca,keepIn→Cf,fnOf→Dy,exmOne→Ek,kitOne→EJ,findIn→Fx,codeIn→Fy,cellsFrom_some→Gc,hideAll→Gu,callWith_K→Hw,methodObj→HD,kitx_list→HE,nsMap_none_of_in→HP,instObj→IC,lookIn→Jg,hideAll_get→Jt,mroIn→Jv,WalkO→Kc,mg_of→Kk,of_hideAll→Kq,kitx_tuple→Kr,codeRec_of→Ks,isNs_of_in→Kw,looks_findIn→Lg,specialIn→Ly,kitx_dict→Lz,plainGet→Mt,takesIn→Np,OpenLaw→Nr,nsOkIn→Ot
open PySem.W.Looks renaming ld→Ph
open PySem.W.WData renaming int→Pe
open PySem.W.WShape renaming has→OY
open Sum renaming inl→DL,inr→IB
open Sum.inl renaming inj→IR
open True renaming intro→Eo
open _root_ renaming List→Aa,Nat→Ah,Int→Aj,Option→Ak,Bool→Ao,if_neg→A0,Array→A4,if_pos→AA,if_true→AZ,decide_eq_true_eq→Bb,decide_eq_false→Bd,of_decide_eq_true→Bf,String→Bo,decide_eq_true→Bv,False→Cq,beq_self_eq_true→CQ,if_false→Ds,or_false→Du,beq_eq_false_iff_ne→Em,decide_eq_false_iff_not→Ex,decide_true→EF,decide_false→EL,beq_iff_eq→EW,True→Hf,Unit→HS,Decidable→IQ,StateT→Kp,not_or→O1
noncomputable section
theorem om {p:Prop}(h:p:=by omega):p:=h
theorem kd {p:Prop}[IQ p](h:p:=by decide +kernel):p:=h
section
namespace _L
open PySem PySem.Spec PyProof.Rows
abbrev Key:=Sum Aj As
def gY:Key→Ac→Ao
 |.inl k,v=>OU k v
 |.inr x,v=>O6 x v
def L3 (w:AO):Key→Aj
 |.inl k=>hashInt k
 |.inr x=>hashStr w x
theorem x9:∀ {k:Key} {v:Ac},gY k v=true→(∃ i t,k=DL i∧v=Lr i t)∨(∃ x t,k=IB x∧v=Ls x t)
 |.inl i,v,h=>by
  obtain⟨t,e⟩:=Value.isInt_shape (k:=i) (v:=v) h;exact .inl ⟨i,t,rfl,e⟩
 |.inr x,v,h=>by
  obtain⟨t,e⟩:=Value.isStrOf_shape (x:=x) (v:=v) h;exact .inr ⟨x,t,rfl,e⟩
theorem aG (i:Aj)(t:Js):gY (.inl i) (.int i t)=true:=by simp[gY,OU]
theorem aH (x:As)(t:Js):gY (.inr x) (.str x t)=true:=by simp[gY,O6]
theorem GA (a b:Aj):decide ((DL a:Key)=DL b)=(a == b):=by
 by_cases e:a=b
 ·subst e;simp
 ·have h:¬ (DL a:Key)=DL b:=fun q=>e (IR q)
  rw[Bd h];exact(Em.mpr e).symm
theorem GD (a b:As):decide ((IB a:Key)=IB b)=decide (a=b):=by
 by_cases e:a=b
 ·subst e;simp
 ·have h:¬ (IB a:Key)=IB b:=fun q=>e (Sum.inr.inj q)
  rw[Bd h,Bd e]
theorem GB (a:Aj)(b:As):decide ((DL a:Key)=IB b)=false:=Bd (fun q=>nomatch q)
theorem GC (a:As)(b:Aj):decide ((IB a:Key)=DL b)=false:=Bd (fun q=>nomatch q)
def zW (prog:A5)(w:AO):PySem.KeyKind prog w Key where
 is:=gY
 hash:=L3 w
 inj:=fun v a b ha hb=>by
  rcases x9 ha with⟨i,t,rfl,rfl⟩|⟨x,t,rfl,rfl⟩
  ·rcases x9 hb with⟨j,u,rfl,e⟩|⟨y,u,rfl,e⟩
   ·injection e with e1 _;rw[e1]
   ·exact nomatch e
  ·rcases x9 hb with⟨j,u,rfl,e⟩|⟨y,u,rfl,e⟩
   ·exact nomatch e
   ·injection e with e1 _;rw[e1]
 byValue:=fun k v h=>by
  rcases x9 h with⟨i,t,rfl,rfl⟩|⟨x,t,rfl,rfl⟩ <;> rfl
 pyHash:=fun hv h=>by
  rcases x9 hv with⟨i,t,rfl,rfl⟩|⟨x,t,rfl,rfl⟩
  ·exact wpAny_pyHash_int h
  ·exact wpAny_pyHash_str h
 eqBool:=fun hu hv h=>by
  rcases x9 hu with⟨i,t,rfl,rfl⟩|⟨x,t,rfl,rfl⟩
  ·rcases x9 hv with⟨j,u,rfl,rfl⟩|⟨y,u,rfl,rfl⟩
   ·rw[GA] at h;exact wpAny_eqBool_int h
   ·rw[GB] at h;exact SeqAt.EqAt.int_str i t y u _ _ _ _ h
  ·rcases x9 hv with⟨j,u,rfl,rfl⟩|⟨y,u,rfl,rfl⟩
   ·rw[GC] at h;exact SeqAt.EqAt.str_int x t j u _ _ _ _ h
   ·rw[GD] at h;exact wpAny_eqBool_str h
 «strs»:=fun k x t v h=>by
  rcases x9 h with⟨i,u,rfl,e⟩|⟨y,u,rfl,e⟩
  ·exact nomatch e
  ·injection e with e1 _
   subst e1;cases v <;> rfl
theorem dA (prog:A5)(w:AO)(i:Aj)(t:Js):(zW prog w).is (.inl i) (.int i t)=true:=aG i t
theorem dB (prog:A5)(w:AO)(x:As)(t:Js):(zW prog w).is (.inr x) (.str x t)=true:=aH x t
end _L
namespace _L
open PySem PySem.Spec PyProof.Rows
inductive V where
 |non|bl (b:Ao)|int (i:Aj)|str (x:As)|byt (b:A4 UInt8)|flt (b:UInt64)|ref (a:Ad)|ty (n:Bo)
 deriving DecidableEq
def qK:V→Ac→Prop
 |.non,u=>u=Br
 |.bl b,u=>u=CN b
 |.int i,u=>∃ t,u=Lr i t
 |.str x,u=>∃ t,u=Ls x t
 |.byt b,u=>∃ t,u=Value.bytes b t
 |.flt b,u=>∃ t,u=OV b t
 |.ref a,u=>u=AY a
 |.ty n,u=>u=EN n
abbrev qM:Aa V→Aa Ac→Prop:=Paired qK
theorem qM.length {xs:Aa V}{us:Aa Ac}(r:qM xs us):xs.length=us.length:=Paired.length r
theorem qM.get:∀ {xs:Aa V} {us:Aa Ac} {i:Ah} {x:V},qM xs us→xs[i]? = Ab x→∃ u,us[i]? = Ab u∧qK x u
 |_,_,_,_,.nil,e=>by simp at e
 |_,_,0,_,.cons r _,e=>by simp at e;subst e;exact⟨_,rfl,r⟩
 |_,_,i+1,x,.cons _ t,e=>by
  obtain⟨u,h1,h2⟩:=qM.get (i:=i) (x:=x) t (by simpa using e)
  exact⟨u,by simpa using h1,h2⟩
theorem qM.set {x:V}{u:Ac}(r:qK x u):∀ {xs:Aa V} {us:Aa Ac} (i:Ah),qM xs us→qM (xs.set i x) (us.set i u)
 |_,_,_,.nil=>.nil
 |_,_,0,.cons _ t=>.cons r t
 |_,_,i+1,.cons q t=>.cons q (qM.set r i t)
theorem qM.append {xs ys:Aa V}{us ws:Aa Ac}(h:qM xs us)(s:qM ys ws):qM (xs++ys) (us++ws):=by
 induction h with
 |nil=>exact s
 |cons r t ih=>exact .cons r ih
theorem qM.take:∀ {xs:Aa V} {us:Aa Ac} (n:Ah),qM xs us→qM (xs.take n) (us.take n)
 |_,_,0,_=>.nil
 |_,_,_+1,.nil=>.nil
 |_,_,n+1,.cons r t=>.cons r (qM.take n t)
theorem qM.drop:∀ {xs:Aa V} {us:Aa Ac} (n:Ah),qM xs us→qM (xs.drop n) (us.drop n)
 |_,_,0,r=>r
 |_,_,_+1,.nil=>.nil
 |_,_,n+1,.cons _ t=>qM.drop n t
def yW:Ak V→Ak Ac→Prop
 |some v,Ab u=>qK v u
 |none,none=>Hf
 |_,_=>Cq
def KV {κ : Type}:Aa (κ × V)→Aa (κ × Ac)→Prop:=Paired fun (p:κ × V) (q:κ × Ac)=>p.1=q.1∧qK p.2 q.2
def kV:Key→V
 |.inl i=>.int i
 |.inr x=>.str x
inductive HO where
  |lst (xs:Aa V)
  |tup (xs:Aa V)
  |dK (kvs:Aa (Key × V))|dT (kvs:Aa (Aa Key × V))
  |set (S:Aj→Ao) (n:Ah)
  |ins (C dx:Ad) (fs:Aa (As × V))
  |own (x:Ad)
  |xd (fs:Aa (As × V))
  |met (f x:Ad)
  |rng (lo hi:Aj)
  |frz (o:AV) (u:HO)
  |tbl (ps:A4 Ac)
  |ext (φ : AF→Prop)
abbrev Hp:=Ad→Ak HO
def upd (H:Hp)(a:Ad)(o:HO):Hp:=fun b=>if b=a then Ab o else H b
theorem qZ {H:Hp}{a:Ad}{o:HO}:upd H a o a=Ab o:=by unfold upd;rw[AA rfl]
theorem qO {H:Hp}{a b:Ad}{o:HO}(h:b≠a):upd H a o b=H b:=by unfold upd;rw[A0 h]
theorem MQ {H:Hp}{a b:Ad}{o u:HO}(h:H a=Ab o)(h':H b=Ab u)(d:o≠u):a≠b:=by
 intro e;subst e;rw[h] at h';exact d (Be h')
theorem qW {H:Hp}{a b:Ad}{o:HO}(h:H a=Ab o)(h':H b=none):a≠b:=by
 intro e;subst e;rw[h] at h';cases h'
section
variable (P:A5)(w:AO)
def zJ (H:Hp)(h:AF)(a:Ad):HO→Prop
 |.lst xs=>xs.length≤sizeLine∧∃ (its:Aa Ac) (n:Ah),qM xs its∧h.get? a=Ab { cls:=.type "list",data:=.seq its.toArray n }
 |.tup xs=>xs.length≤sizeLine∧∃ its:Aa Ac,qM xs its∧Ie h a its.toArray
 |.dK kvs=>kvs.length≤sizeLine∧(a == En)=false∧∃ vs,KV kvs vs∧h.DictOf (zW P w) a vs
 |.dT kvs=>kvs.length≤sizeLine∧(a == En)=false∧∃ xs:Aa (Aa Key × Ad × Ac),
   Paired (fun (p:Aa Key × V) (q:Aa Key × Ad × Ac)=>p.1=q.1∧H q.2.1=Ab (.tup (p.1.map kV))∧qK p.2 q.2.2) kvs xs ∧
   ∃ o es ep,h.get? a=Ab o∧o.ExactDict∧o.data=.dict es ep∧es.toList=xs.map (entryOfKey (IS (zW P w)))∧(xs.map (·.1)).Nodup
 |.set S n=>h.SetOf (intKind P w) a S n
 |.ins C dx fs=>H dx=Ab (.own a)∧fs.length≤1000∧dx≠a∧h.get? a=Ab (IC C dx) ∧
   ∃ mA,h.Ns1 dx mA∧(∀ f,yW (fs.lookup f) (mA f))∧OJ mA (fs.map (·.1))
 |.own _=>∃ o,h.get? a=Ab o
 |.xd fs=>∃ mA,h.Ns1 a mA∧∀ f,yW (fs.lookup f) (mA f)
 |.rng lo hi=>∃ t u v,h.get? a=Ab { cls:=.type "range",data:=.fields #[.int lo t,.int hi u,.int 1 v] }
 |.frz o u=>h.get? a=Ab o∧zJ H h a u
 |.tbl ps=>h.get? a=Ab { cls:=.none,data:=.fields ps }
 |.met f x=>h.get? a=Ab (HD (.ref f) (.ref x))
 |.ext φ => φ h∧(∃ o,h.get? a=Ab o)∧∀ h1 h2:AF,φ h1→(∀ o,h1.get? a=Ab o→h2.get? a=Ab o)→φ h2
def HOk (H:Hp)(h:AF):Prop:=∀ a o,H a=Ab o→zJ P w H h a o
end
section
variable {P:A5}{w:AO}{H H':Hp}{h h':AF}{a:Ad}{o:HO}
theorem zJ.lt (x:zJ P w H h a o):a<h.objs.size:=by
 cases o with
 |lst xs=>obtain⟨_,_,_,_,e⟩:=x;exact Av e
 |tup xs=>obtain⟨_,_,_,p⟩:=x;exact p.lt
 |dK kvs=>obtain⟨_,_,_,_,o,_,_,e,_⟩:=x;exact Av e
 |dT kvs=>obtain⟨_,_,_,_,o,_,_,e,_⟩:=x;exact Av e
 |set S n=>obtain⟨o,_,_,_,e,_⟩:=x;exact Av e
 |ins C dx fs=>obtain⟨_,_,_,e,_⟩:=x;exact Av e
 |own y=>obtain⟨_,e⟩:=x;exact Av e
 |xd fs=>obtain⟨_,⟨_,_,_,e,_⟩,_⟩:=x;exact Av e
 |rng lo hi=>obtain⟨_,_,_,e⟩:=x;exact Av e
 |frz ob u=>obtain⟨e,_⟩:=x;exact Av e
 |tbl ps=>exact Av (show h.get? a=Ab _ from x)
 |met f y=>exact Av (show h.get? a=Ab _ from x)
 |ext φ => obtain⟨_,⟨_,e⟩,_⟩:=x;exact Av e
theorem Paired.mapP {α β:Type}{F G:α→β→Prop}{l₁:Aa α}{l₂:Aa β}(h:Paired F l₁ l₂)(f:∀ a b,F a b→G a b):Paired G l₁ l₂:=by
 induction h with
 |nil=>exact .nil
 |cons r t ih=>exact .cons (f _ _ r) ih
theorem zJ.stay (x:zJ P w H h a o)(k:∀ b u,(b=a∨H b=Ab (.own a))→h.get? b=Ab u→h'.get? b=Ab u)
  (ho:∀ b,H b=Ab (.own a)→H' b=Ab (.own a)) (ht:∀ b xs,H b=Ab (.tup xs)→H' b=Ab (.tup xs)):zJ P w H' h' a o:=by
 induction o with
 |lst xs=>obtain⟨z,its,n,r,e⟩:=x;exact⟨z,its,n,r,k _ _ (.inl rfl) e⟩
 |tup xs=>obtain⟨z,its,r,ob,e,c⟩:=x;exact⟨z,its,r,ob,k _ _ (.inl rfl) e,c⟩
 |dK kvs=>obtain⟨z,y,vs,r,ob,es,ep,e,c⟩:=x;exact⟨z,y,vs,r,ob,es,ep,k _ _ (.inl rfl) e,c⟩
 |dT kvs =>
  obtain⟨z,y,xs,r,ob,es,ep,e,c⟩:=x;exact⟨z,y,xs,Paired.mapP r fun p q z=>⟨z.1,ht _ _ z.2.1,z.2.2⟩,ob,es,ep,k _ _ (.inl rfl) e,c⟩
 |set S n=>obtain⟨ob,es,ep,t,e,c⟩:=x;exact⟨ob,es,ep,t,k _ _ (.inl rfl) e,c⟩
 |ins C dx fs =>
  obtain⟨d,z,ne,e,mA,⟨od,es,ep,e2,c⟩,r⟩:=x;exact⟨ho _ d,z,ne,k _ _ (.inl rfl) e,mA,⟨od,es,ep,k _ _ (.inr d) e2,c⟩,r⟩
 |own y=>obtain⟨ob,e⟩:=x;exact⟨ob,k _ _ (.inl rfl) e⟩
 |xd fs=>obtain⟨mA,⟨od,es,ep,e,c⟩,r⟩:=x;exact⟨mA,⟨od,es,ep,k _ _ (.inl rfl) e,c⟩,r⟩
 |rng lo hi=>obtain⟨t,u,v,e⟩:=x;exact⟨t,u,v,k _ _ (.inl rfl) e⟩
 |frz ob u ih=>obtain⟨e,q⟩:=x;exact⟨k _ _ (.inl rfl) e,ih q⟩
 |tbl ps =>
  have e:h.get? a=Ab { cls:=.none,data:=.fields ps }:=x;show h'.get? a=Ab { cls:=.none,data:=.fields ps };exact k a _ (.inl rfl) e
 |met f y =>
  have e:h.get? a=Ab (HD (.ref f) (.ref y)):=x;show h'.get? a=Ab (HD (.ref f) (.ref y));exact k a _ (.inl rfl) e
 |ext φ => obtain⟨p,⟨o,e⟩,st⟩:=x;exact⟨st _ _ p fun o q=>k _ _ (.inl rfl) q,⟨o,k _ _ (.inl rfl) e⟩,st⟩
theorem HOk.lt (x:HOk P w H h)(e:H a=Ab o):a<h.objs.size:=(x a o e).lt
theorem HOk.fresh (x:HOk P w H h)(e:h.objs.size≤a):H a=none:=by
 cases q:H a with
 |none=>rfl
 |some u=>exact absurd (AI (x.lt q) e) (Cg _)
theorem HOk.kept (x:HOk P w H h)(k:∀ b u,h.get? b=Ab u→h'.get? b=Ab u):HOk P w H h':=fun a o e =>
 (x a o e).stay (fun b u _ q=>k b u q) (fun _ q=>q) fun _ _ q=>q
theorem HOk.laid (x:HOk P w H h)(k:∀ b u,h.get? b=Ab u→h'.get? b=Ab u)(hp:h.objs.size≤a)(new:zJ P w (upd H a o) h' a o):HOk P w (upd H a o) h':=fun b u e=>by
 have hn:=x.fresh hp;by_cases hb:b=a
 ·subst hb;rw[qZ] at e;cases e;exact new
 ·rw[qO hb] at e
  exact(x b u e).stay (fun c v _ q=>k c v q) (fun c q=>by rw[qO (qW q hn)];exact q) fun c xs q=>by rw[qO (qW q hn)];exact q
end
def Rd (H:Hp)(a:Ad)(u:HO):Prop:=H a=Ab u∨∃ o,H a=Ab (.frz o u)
theorem Rd.of {H:Hp}{a:Ad}{u:HO}(h:H a=Ab u):Rd H a u:=.inl h
theorem Rd.ok {P:A5}{w:AO}{H:Hp}{h:AF}{a:Ad}{u:HO}(r:Rd H a u)(x:HOk P w H h):zJ P w H h a u:=by
 rcases r with r|⟨o,r⟩
 ·exact x a u r
 ·obtain⟨_,q⟩:=x a _ r
  exact q
def Mut:Ak HO→Prop
 |some (.lst _)=>Hf
 |some (.dK _)=>Hf
 |some (.dT _)=>Hf
 |some (.set _ _)=>Hf
 |some (.ins _ _ _)=>Hf
 |some (.ext _)=>Hf
 |_=>Cq
section
variable {P:A5}{w:AO}{H:Hp}{h h':AF}{x e:Ad}{o':HO}
theorem HOk.write (ok:HOk P w H h)(mu:Mut (H x))(he:e=x∨H e=Ab (.own x))(k:∀ b u,b≠e→h.get? b=Ab u→h'.get? b=Ab u)(heo:∃ u,h'.get? e=Ab u)
  (new:zJ P w (upd H x o') h' x o'):HOk P w (upd H x o') h':=fun b u q=>by
 have nown:∀ c y,H c=Ab (.own y)→c≠x:=fun c y r z=>by subst z;rw[r] at mu;exact mu
 have ntup:∀ c xs,H c=Ab (.tup xs)→c≠x:=fun c xs r z=>by subst z;rw[r] at mu;exact mu
 by_cases hb:b=x
 ·subst hb;rw[qZ] at q;cases q;exact new
 ·rw[qO hb] at q
  by_cases hbe:b=e
  ·have q':H b=Ab (.own x):=by
    rcases he with z|z
    ·exact absurd (hbe.trans z) hb
    ·rw[hbe];exact z
   rw[q] at q';cases q';obtain⟨v,hv⟩:=heo;exact⟨v,by rw[hbe];exact hv⟩
  ·refine(ok b u q).stay (fun c v hc r=>k c v ?_ r) (fun c r=>by rw[qO (nown c b r)];exact r) fun c xs r=>by rw[qO (ntup c xs r)];exact r
   rcases hc with rfl|hc
   ·exact hbe
   ·rintro rfl
    rcases he with z|z
    ·exact nown c b hc z
    ·rw[hc] at z;cases z;exact hb rfl
end
structure Un (fs ex:Aa Ad)(H H':Hp)(h h':AF):Prop where
 keep:∀ b o,h.get? b=Ab o→H b=none→b ∉ fs→b ∉ ex→h'.get? b=Ab o
 slot:∀ b o,h.get? b=Ab o→H b=none→b∈fs→b ∉ ex→∃ sl,h'.get? b=Ab { o with slots:=sl }
 free:∀ b o,h.get? b=Ab o→H b=none→b ∉ ex→H' b=none
 there:∀ b o,h.get? b=Ab o→b ∉ ex→∃ o',h'.get? b=Ab o'
 tups:∀ b xs,H b=Ab (.tup xs)→H' b=Ab (.tup xs)
 frzs:∀ b o u,H b=Ab (.frz o u)→H' b=Ab (.frz o u)
 tbls:∀ b ps,H b=Ab (.tbl ps)→∃ more,H' b=Ab (.tbl (ps++more))
section
variable {fs fs' ex ex':Aa Ad}{H H1 H2:Hp}{h h1 h2 h':AF}{a x e:Ad}{o:HO}
theorem Un.any (u:Un fs ex H H1 h h1){b:Ad}{ob:AV}(q:h.get? b=Ab ob)(n:H b=none)(hx:b ∉ ex):∃ sl,h1.get? b=Ab { ob with slots:=sl }:=by
 by_cases hb:b∈fs
 ·exact u.slot b ob q n hb hx
 ·exact⟨ob.slots,u.keep b ob q n hb hx⟩
theorem Un.kept (k:∀ b u,h.get? b=Ab u→h'.get? b=Ab u):Un fs ex H H h h':=
 ⟨fun b ob q _ _ _=>k b ob q,fun b ob q _ _ _=>⟨ob.slots,k b ob q⟩,fun _ _ _ n _=>n,fun b ob q _=>⟨ob,k b ob q⟩,fun _ _ q=>q,fun _ _ _ q=>q,fun _ ps q=>⟨#[],by rw[q];simp⟩⟩
theorem Un.refl:Un fs ex H H h h:=Un.kept fun _ _ q=>q
theorem Un.laid (k:∀ b u,h.get? b=Ab u→h'.get? b=Ab u)(hp:h.objs.size≤a)(hn:H a=none):Un fs ex H (upd H a o) h h' where
 keep:=fun b u q _ _ _=>k b u q
 slot:=fun b u q _ _ _=>⟨u.slots,k b u q⟩
 free:=fun b u q n _=>by rw[qO (Bm (AI (Av q) hp))];exact n
 there:=fun b u q _=>⟨u,k b u q⟩
 tups:=fun b xs q=>by rw[qO (qW q hn)];exact q
 frzs:=fun b u xs q=>by rw[qO (qW q hn)];exact q
 tbls:=fun b ps q=>⟨#[],by rw[qO (qW q hn),q];simp⟩
theorem Un.write (mu:Mut (H x))(he:e=x∨H e=Ab (.own x))(k:∀ b u,b≠e→h.get? b=Ab u→h'.get? b=Ab u)(heo:∃ u,h'.get? e=Ab u):Un fs ex H (upd H x o) h h':=by
 have hx:∀ b,H b=none→b≠x:=fun b n z=>by subst z;rw[n] at mu;exact mu
 have hb:∀ b,H b=none→b≠e:=fun b n z=>by
  subst z;rcases he with r|r
  ·exact hx b n r
  ·rw[n] at r;cases r
 have hm:∀ b u,H b=Ab u→¬ Mut (Ab u)→b≠x:=fun b u q nm z=>by subst z;rw[q] at mu;exact nm mu
 refine⟨fun b u q n _ _=>k b u (hb b n) q,fun b u q n _ _=>⟨u.slots,k b u (hb b n) q⟩,fun b u q n _=>by rw[qO (hx b n)];exact n,fun b u q _=>?_,
  fun b xs q=>by rw[qO (hm b _ q fun z=>z)];exact q,fun b u xs q=>by rw[qO (hm b _ q fun z=>z)];exact q,fun b ps q=>⟨#[],by rw[qO (hm b _ q fun z=>z),q];simp⟩⟩
 by_cases hbe:b=e
 ·subst hbe;exact heo
 ·exact⟨u,k b u hbe q⟩
end
def trk (h:AF)(H:Hp):Aa Ad:=(By h.objs.size).filter fun a=>(H a).isSome
def jV (h:AF)(H:Hp):AF:=Gu h (trk h H)
theorem cY (h:AF)(H:Hp):(jV h H).objs.size=h.objs.size:=PySem.W.hideAll_size _ _
theorem QV {h:AF}{H:Hp}{b:Ad}{o:AV}(e:h.get? b=Ab o)(n:H b=none):(jV h H).get? b=Ab o:=
 Jt _ e fun hm=>by
  have q:(H b).isSome=true:=(Dq.mp hm).2;rw[n] at q;simp at q
theorem VB {h:AF}{H:Hp}{b:Ad}{o:AV}(e:(jV h H).get? b=Ab o):h.get? b=Ab o∧H b=none:=by
 have e':h.get? b=Ab o:=Kq (trk h H) e;refine⟨e',?_⟩;cases q:H b with
 |none=>rfl
 |some x =>
  have hm:b∈trk h H:=Dq.mpr ⟨DR.mpr (Av e'),by simp[q]⟩
  have z:(jV h H).get? b=none:=PySem.W.hideAll_none (trk h H) hm;rw[z] at e;cases e
end _L
namespace _L
open PySem PySem.Spec PyProof.Rows
structure Mod (K:Ai)(mg:As→Ak Ac)(base:AF):Prop where
 kin:K.In base
 glob:base.Ns AT mg
 blt:∃ mb,base.Ns Od mb∧∀ x:As,x ≠ "__name__" → mb x=CK x
 nolimit:base.NoLimit
structure Cx where
 prog:A5
 w:AO
 K:Ai
 mg:As→Ak Ac
 base:AF
 A:A8
 N:Aa As
 s₀:Ag
 H₀:Hp
 env:EA
 outer:Aa EA
 stack:Aa EA
 ex:Aa Ad
 fn:As→Ao
 calm:Ao
 pn:Aa (Ad × AV)
 xe:Ac→Ag→Prop
def frs (l:Aa EA):Aa Ad:=l.filterMap (·.frame)
abbrev Cx.fs (X:Cx):Aa Ad:=frs X.outer
def Vis (sc:CS)(x:As):Prop:=sc.names.lookup x=Ab .local ∨ sc.names.lookup x=Ab .cell∨sc.names.lookup x=Ab .free
def Loc (sc:CS)(x:As):Prop:=sc.names.lookup x=Ab .local ∨ sc.names.lookup x=Ab .cell
def J0 (env:EA)(h:AF)(m:As→Ak Ac)(x:As)(u:Ac):Prop:=
 (env.kindOf x=Ab .local ∧ m x=Ab u)∨((env.kindOf x=Ab .cell∨env.kindOf x=Ab .free)∧∃ c,env.cells.lookup x=Ab c∧h.IsCell c (Ab u))
structure Cx.Ok (X:Cx):Prop where
 mod:Mod X.K X.mg X.base
 kind:X.env.scope.kind=.function
 glob:X.env.globals=AT
 blt:X.env.builtins=Od
 above:X.s₀.heap.objs.size≤X.env.locals
 inj:∀ x y c,X.env.cells.lookup x=Ab c→X.env.cells.lookup y=Ab c→x=y
 has:∀ x,(X.env.kindOf x=Ab .cell∨X.env.kindOf x=Ab .free)→∃ c,X.env.cells.lookup x=Ab c
 cab:∀ x c,X.fn x=true→X.env.cells.lookup x=Ab c→X.s₀.heap.objs.size≤c
 hd:X.calm=true→X.A.handled=none
 frames:X.A.frames=Ab X.stack
 stk:X.stack=X.outer∨(X.stack=X.env::X.outer∧X.env.frame=Ab X.env.locals)
 exf:∀ b∈X.ex,b≠X.env.locals∧∀ x c,X.env.cells.lookup x=Ab c→c≠b
 bs:∀ b o,X.base.get? b=Ab o→X.s₀.heap.get? b=Ab o∧X.H₀ b=none
 bsz:X.base.objs.size≤X.s₀.heap.objs.size
 noex:∀ b o,X.base.get? b=Ab o→b ∉ X.ex
 exfs:∀ b∈X.ex,b ∉ X.fs
 funs:X.s₀.heap.FunFrames X.base X.outer
 frf:∀ b∈X.fs,X.H₀ b=none
structure Inv (X:Cx)(pins:Aa (Ad × AV))(σ : Aa (Ak V))(H:Hp)(s:Ag):Prop where
 ok:X.Ok
 os:s.os=X.s₀.os
 bare:Gh s.gens
 base:Un X.fs X.ex X.H₀ H X.s₀.heap s.heap
 loc:∃ m,s.heap.Ns X.env.locals m∧∀ (i:Ah) (x:As) (v:V),X.N[i]? = Ab x→σ[i]? = Ab (Ab v)→Vis X.env.scope x→∃ u,qK v u∧J0 X.env s.heap m x u
 cell:∀ x c,X.env.cells.lookup x=Ab c→∃ v,s.heap.IsCell c v
 free:H X.env.locals=none
 freeC:∀ x c,X.env.cells.lookup x=Ab c→H c=none
 pin:∀ p∈X.pn++pins,s.heap.get? p.1=Ab p.2∧H p.1=none∧p.1≠X.env.locals∧p.1 ∉ X.fs∧∀ v,p.2.data≠.cell v
 hok:HOk X.prog X.w H s.heap
 len:σ.length=X.N.length
section
variable {X:Cx}{pins:Aa (Ad × AV)}{σ : Aa (Ak V)}{H H':Hp}{s:Ag}{h':AF}
theorem Cx.Ok.nofr (ok:X.Ok){b:Ad}{o:AV}(e:X.base.get? b=Ab o):b ∉ X.fs:=fun hb=>by
 have:=(ok.funs.mem hb).1;rw[e] at this;cases this
theorem Inv.bs (I:Inv X pins σ H s):∀ b o,X.base.get? b=Ab o→s.heap.get? b=Ab o∧H b=none:=fun b o e =>
 ⟨I.base.keep b o (I.ok.bs b o e).1 (I.ok.bs b o e).2 (I.ok.nofr e) (I.ok.noex b o e),I.base.free b o (I.ok.bs b o e).1 (I.ok.bs b o e).2 (I.ok.noex b o e)⟩
theorem Inv.bk (I:Inv X pins σ H s):∀ b o,X.base.get? b=Ab o→s.heap.get? b=Ab o:=fun b o e=>(I.bs b o e).1
theorem Inv.mod (I:Inv X pins σ H s):Mod X.K X.mg X.base:=I.ok.mod
theorem Inv.kIn (I:Inv X pins σ H s):X.K.In s.heap:=I.ok.mod.kin.keeps I.bk
theorem Inv.nolimit (I:Inv X pins σ H s):s.heap.NoLimit:=I.ok.mod.nolimit.keeps I.bk
theorem Inv.lt (I:Inv X pins σ H s):X.env.locals<s.heap.objs.size:=let ⟨_,hn,_⟩:=I.loc;hn.lt
theorem Inv.sz (I:Inv X pins σ H s):X.s₀.heap.objs.size≤s.heap.objs.size:=Ce I.ok.above (Kz I.lt)
theorem Inv.nofs (I:Inv X pins σ H s){a:Ad}(h:s.heap.objs.size≤a):a ∉ X.fs:=fun hb=>by
 obtain⟨_,o,ho,_⟩:=I.ok.funs.mem hb;exact absurd (AI (Av ho) (Ce I.sz h)) (Cg _)
theorem Inv.cne (I:Inv X pins σ H s):∀ x c,X.env.cells.lookup x=Ab c→c≠X.env.locals:=fun x c e z=>by
 obtain⟨v,o,ho,hd⟩:=I.cell x c e;obtain⟨m,⟨o',es,ep,ho',hd',_⟩,_⟩:=I.loc;rw[z,ho'] at ho;cases ho;rw[hd'] at hd;cases hd
theorem Inv.funs (I:Inv X pins σ H s):s.heap.FunFrames X.base X.outer:=by
 have all:∀ (l:Aa EA),(∀ b∈frs l,b∈X.fs)→X.s₀.heap.FunFrames X.base l→s.heap.FunFrames X.base l:=by
  intro l
  induction l with
  |nil=>intro _ _;trivial
  |cons env r ih =>
   intro hs hl;obtain⟨hk,⟨L,o,hf,hn,ho,hd⟩,hr⟩:=hl;have hL:L∈X.fs:=hs L (by unfold frs;rw[EO,hf];exact Bu)
   obtain⟨sl,e⟩:=I.base.slot L o ho (I.ok.frf L hL) hL fun z=>I.ok.exfs L z hL;exact⟨hk,⟨L,_,hf,hn,e,hd⟩,ih (fun b hb=>hs b (by unfold frs;rw[EO,hf];exact AK _ hb)) hr⟩
 exact all X.outer (fun _ hb=>hb) I.ok.funs
theorem Inv.stack (I:Inv X pins σ H s):s.heap.FunFrames X.base X.stack:=by
 rcases I.ok.stk with e|⟨e,hf⟩
 ·rw[e];exact I.funs
 ·rw[e]
  obtain⟨m,hn,_⟩:=I.loc;refine .cons (by rw[I.ok.kind];decide) hf hn ?_ I.funs
  exact Heap.get?_none_of_le (Ce I.ok.bsz I.ok.above)
theorem Inv.stkSub (I:Inv X pins σ H s):∀ b∈frs X.stack,b∈X.env.locals::X.fs:=fun b hb=>by
 rcases I.ok.stk with e|⟨e,hf⟩
 ·rw[e] at hb;exact AK _ hb
 ·rw[e] at hb
  unfold frs at hb;rw[EO,hf] at hb;exact hb
theorem Inv.stkFree (I:Inv X pins σ H s):∀ b∈frs X.stack,H b=none:=fun b hb=>by
 rcases AL.mp (I.stkSub b hb) with e|hb
 ·rw[e];exact I.free
 ·obtain⟨_,o,ho,_⟩:=I.ok.funs.mem hb
  exact I.base.free b o ho (I.ok.frf b hb) fun z=>I.ok.exfs b z hb
theorem Inv.step {g':A4 GenState}{t':Ah}{d':Drawn}{ch:Aa Ad}(I:Inv X pins σ H s)
  (hch:∀ b∈ch,(b∈X.ex∨X.s₀.heap.objs.size≤b)∧b≠X.env.locals∧(∀ x c,X.env.cells.lookup x=Ab c→c≠b)∧∀ p∈X.pn++pins,p.1≠b)
  (keep:∀ b o,b≠X.env.locals→b ∉ X.fs→b ∉ ch→s.heap.get? b=Ab o→H b=none→h'.get? b=Ab o)
  (slot:∀ b o,b≠X.env.locals→b∈X.fs→b ∉ ch→s.heap.get? b=Ab o→H b=none→∃ sl,h'.get? b=Ab { o with slots:=sl }) (free:∀ b o,b ∉ ch→s.heap.get? b=Ab o→H b=none→H' b=none)
  (there:∀ b o,b ∉ ch→s.heap.get? b=Ab o→∃ o',h'.get? b=Ab o')
  (tups:∀ b xs,H b=Ab (.tup xs)→H' b=Ab (.tup xs)) (frzs:∀ b o u,H b=Ab (.frz o u)→H' b=Ab (.frz o u)) (tbls:∀ b ps,H b=Ab (.tbl ps)→∃ more,H' b=Ab (.tbl (ps++more)))
  (ns:∀ m,s.heap.Ns X.env.locals m→h'.Ns X.env.locals m) (hok:HOk X.prog X.w H' h') (hg:Gh g') :
  Inv X pins σ H' { s with heap:=h',gens:=g',drawn:=d',toks:=t' }:=by
 have neL:∀ b o,X.s₀.heap.get? b=Ab o→b≠X.env.locals:=fun b o e=>Bm (AI (Av e) I.ok.above);have neC:∀ b o,X.s₀.heap.get? b=Ab o→b ∉ X.ex→b ∉ ch:=fun b o e hx hb=>by
  rcases (hch b hb).1 with z|z
  ·exact hx z
  ·exact absurd (AI (Av e) z) (Cg _)
 have cellK:∀ x c,X.env.cells.lookup x=Ab c→∀ v,s.heap.IsCell c v→h'.IsCell c v:=fun x c e v ⟨o,ho,hd⟩=>by
  have nch:c ∉ ch:=fun z=>(hch c z).2.2.1 x c e rfl;by_cases hc:c∈X.fs
  ·obtain⟨sl,q⟩:=slot c o (I.cne x c e) hc nch ho (I.freeC x c e)
   exact⟨_,q,hd⟩
  ·exact⟨o,keep c o (I.cne x c e) hc nch ho (I.freeC x c e),hd⟩
 refine⟨I.ok,I.os,hg,⟨fun b o e n hb hx=>?_,fun b o e n hb hx=>?_,fun b o e n hx=>?_,fun b o e hx=>?_,fun b xs e=>tups b xs (I.base.tups b xs e),fun b o xs e=>frzs b o xs (I.base.frzs b o xs e),fun b ps e=>?_⟩,?_,fun x c e=>?_,?_,fun x c e=>?_,fun p hp=>?_,hok,I.len⟩
 ·exact keep b o (neL b o e) hb (neC b o e hx) (I.base.keep b o e n hb hx) (I.base.free b o e n hx)
 ·obtain⟨sl,e1⟩:=I.base.slot b o e n hb hx
  obtain⟨sl',e2⟩:=slot b _ (neL b o e) hb (neC b o e hx) e1 (I.base.free b o e n hx);exact⟨sl',e2⟩
 ·obtain⟨o',e1⟩:=I.base.there b o e hx
  exact free b o' (neC b o e hx) e1 (I.base.free b o e n hx)
 ·obtain⟨o',e1⟩:=I.base.there b o e hx
  exact there b o' (neC b o e hx) e1
 ·obtain⟨m1,e1⟩:=I.base.tbls b ps e
  obtain⟨m2,e2⟩:=tbls b _ e1;exact⟨m1++m2,by rw[e2,Array.append_assoc]⟩
 ·obtain⟨m,hn,hl⟩:=I.loc
  refine⟨m,ns m hn,fun i x v e1 e2 e3=>?_⟩;obtain⟨u,r,l⟩:=hl i x v e1 e2 e3;refine⟨u,r,?_⟩;rcases l with l|⟨k,c,e,z⟩
  ·exact .inl l
  ·exact .inr ⟨k,c,e,cellK x c e _ z⟩
 ·obtain⟨v,z⟩:=I.cell x c e
  exact⟨v,cellK x c e v z⟩
 ·obtain⟨m,⟨o,_,_,ho,_⟩,_⟩:=I.loc
  exact free _ o (fun z=>(hch _ z).2.1 rfl) ho I.free
 ·obtain⟨v,o,ho,hd⟩:=I.cell x c e
  exact free c o (fun z=>(hch c z).2.2.1 x c e rfl) ho (I.freeC x c e)
 ·obtain⟨e,n,ne,nf,d⟩:=I.pin p hp
  have nch:p.1 ∉ ch:=fun z=>(hch p.1 z).2.2.2 p hp rfl;exact⟨keep p.1 p.2 ne nf nch e n,free p.1 p.2 nch e n,ne,nf,d⟩
theorem Inv.un {t':Ah}(I:Inv X pins σ H s)(u:Un X.fs [] H H' s.heap h')(hok:HOk X.prog X.w H' h'):Inv X pins σ H' { s with heap:=h',toks:=t' }:=by
 obtain⟨m,⟨o,es,ep,ho,r⟩,_⟩:=id I.loc;obtain⟨sl,hL⟩:=u.any ho I.free (by simp)
 exact I.step (g':=s.gens) (d':=s.drawn) (ch:=[]) (fun _ z=>nomatch z) (fun b o _ hb _ e n=>u.keep b o e n hb (by simp)) (fun b o _ hb _ e n=>u.slot b o e n hb (by simp)) (fun b o _ e n=>u.free b o e n (by simp)) (fun b o _ e=>u.there b o e (by simp)) u.tups u.frzs u.tbls (fun m' hm=>by
  obtain⟨o',es',ep',ho',r'⟩:=hm;rw[ho] at ho';cases ho';exact⟨_,es',ep',hL,r'⟩) hok I.bare
theorem Inv.call {g':A4 GenState}{t':Ah}{d':Drawn}{ch:Aa Ad}(I:Inv X pins σ H s)(u:Un (frs X.stack) ch H H' s.heap h')(hok:HOk X.prog X.w H' h')(hg:Gh g')
  (hch:∀ b∈ch,(b∈X.ex∨X.s₀.heap.objs.size≤b)∧b≠X.env.locals∧(∀ x c,X.env.cells.lookup x=Ab c→c≠b)∧∀ p∈X.pn++pins,p.1≠b) :
  Inv X pins σ H' { s with heap:=h',gens:=g',drawn:=d',toks:=t' }:=by
 obtain⟨m,⟨o,es,ep,ho,r⟩,_⟩:=id I.loc;obtain⟨sl,hL⟩:=u.any ho I.free fun z=>(hch _ z).2.1 rfl;exact I.step (ch:=ch) hch (fun b o hL hb hc e n=>u.keep b o e n (fun z=>(AL.mp (I.stkSub b z)).elim hL hb) hc) (fun b o _ _ hc e n=>u.any e n hc) (fun b o hc e n=>u.free b o e n hc) (fun b o hc e=>u.there b o e hc) u.tups u.frzs u.tbls (fun m' hm=>by
  obtain⟨o',es',ep',ho',r'⟩:=hm;rw[ho] at ho';cases ho';exact⟨_,es',ep',hL,r'⟩) hok hg
theorem Inv.turned {t':Ah}{it:Ad}(I:Inv X pins σ H s)(k:∀ b o,b≠it→s.heap.get? b=Ab o→h'.get? b=Ab o)(hn:H it=none)(hL:it≠X.env.locals)
  (h1:it∈X.ex∨X.s₀.heap.objs.size≤it) (h2:∀ x c,X.env.cells.lookup x=Ab c→c≠it) (h3:∀ p∈X.pn++pins,p.1≠it):Inv X pins σ H { s with heap:=h',toks:=t' }:=by
 have nit:∀ b u,H b=Ab u→b≠it:=fun b u e z=>by rw[z,hn] at e;cases e
 refine I.step (g':=s.gens) (d':=s.drawn) (ch:=[it]) (fun b hb=>?_) (fun b o _ _ hc e _=>k b o (fun z=>hc (by simp[z])) e) (fun b o _ _ hc e _=>⟨o.slots,k b o (fun z=>hc (by simp[z])) e⟩) (fun _ _ _ _ n=>n)
  (fun b o hc e=>⟨o,k b o (fun z=>hc (by simp[z])) e⟩) (fun _ _ e=>e) (fun _ _ _ e=>e) (fun b ps e=>⟨#[],by rw[e];simp⟩) (fun m hm=>?_) (fun b u e=>?_) I.bare
 ·have e:b=it:=by simpa using hb
  subst e;exact⟨h1,hL,h2,h3⟩
 ·obtain⟨o,es,ep,ho,r⟩:=hm
  exact⟨o,es,ep,k _ o (DC hL) ho,r⟩
 ·refine(I.hok b u e).stay (fun c v hc q=>k c v ?_ q) (fun _ q=>q) fun _ _ q=>q
  rcases hc with z|z
  ·rw[z];exact nit b u e
  ·exact nit c _ z
theorem Inv.tok (I:Inv X pins σ H s)(t:Ah):Inv X pins σ H { s with toks:=t }:=I.un (h':=s.heap) (t':=t) Un.refl I.hok
theorem Inv.kept {t':Ah}(I:Inv X pins σ H s)(k:∀ b u,s.heap.get? b=Ab u→h'.get? b=Ab u):Inv X pins σ H { s with heap:=h',toks:=t' }:=I.un (Un.kept k) (I.hok.kept k)
theorem Inv.laid {a:Ad}{o:HO}{t':Ah}(I:Inv X pins σ H s)(k:∀ b u,s.heap.get? b=Ab u→h'.get? b=Ab u)(hp:s.heap.objs.size≤a)(new:zJ X.prog X.w (upd H a o) h' a o) :
  Inv X pins σ (upd H a o) { s with heap:=h',toks:=t' }:=I.un (Un.laid k hp (I.hok.fresh hp)) (I.hok.laid k hp new)
theorem Inv.write {x e:Ad}{o:HO}{t':Ah}(I:Inv X pins σ H s)(mu:Mut (H x))(he:e=x∨H e=Ab (.own x))(k:∀ b u,b≠e→s.heap.get? b=Ab u→h'.get? b=Ab u)(heo:∃ u,h'.get? e=Ab u)
  (new:zJ X.prog X.w (upd H x o) h' x o):Inv X pins σ (upd H x o) { s with heap:=h',toks:=t' }:=I.un (Un.write mu he k heo) (I.hok.write mu he k heo new)
theorem Inv.pins_of {pins':Aa (Ad × AV)}(I:Inv X pins σ H s)(h:∀ p∈pins',s.heap.get? p.1=Ab p.2∧H p.1=none∧p.1≠X.env.locals∧p.1 ∉ X.fs∧∀ v,p.2.data≠.cell v):Inv X pins' σ H s:=
 ⟨I.ok,I.os,I.bare,I.base,I.loc,I.cell,I.free,I.freeC,fun p hp=>(AS.mp hp).elim (fun z=>I.pin p (Bp _ z)) (h p),I.hok,I.len⟩
theorem pQ {N:Aa As}(hN:N.Nodup){i j:Ah}{x:As}(a:N[i]? = Ab x)(b:N[j]? = Ab x):i=j:=by
 obtain⟨h1,e1⟩:=Ay.mp a;obtain⟨h2,e2⟩:=Ay.mp b;exact(Gi hN).mp (e1.trans e2.symm)
theorem mV {M:Fl}{A:A8}{E:Ac→Ag→Prop}{i:Ah}{x:As}{v:V}{u:Ac}{Q:HS→Ag→Prop}(I:Inv X pins σ H s)(hN:X.N.Nodup)(hi:X.N[i]? = Ab x)(hx:Loc X.env.scope x)(r:qK v u)
  (h:∀ s',Inv X pins (σ.set i (Ab v)) H s'→(∃ a,CL a s.heap s'.heap∧(a=X.env.locals∨X.env.cells.lookup x=Ab a))→Q () s') (hf:X.fn x=true∨X.env.scope.names.lookup x=Ab .local:=by first|exact .inl rfl|exact .inr rfl|assumption):An M A (storeName X.env x u) Q E s:=by
 obtain⟨m,hn,hl⟩:=id I.loc;have hcls:(X.env.scope.kind == .class||(X.env.scope.kind == .module&&X.env.locals != X.env.globals))=false:=by rw[I.ok.kind];rfl
 have hiσ:i<σ.length:=by rw[I.len];exact(Ay.mp hi).1
 have cne:=I.cne;have tracked:∀ {a:Ad} {h':AF},(∃ o,s.heap.get? a=Ab o∧H a=none)→CL a s.heap h'→HOk X.prog X.w H h':=fun {a h'} ha hs b ob e=>by
  obtain⟨_,_,hfree⟩:=ha;refine(I.hok b ob e).stay (fun c w' hc q=>(hs.2 c ?_).trans q) (fun _ q=>q) fun _ _ q=>q;rintro rfl;rcases hc with rfl|hc
  ·rw[hfree] at e;cases e
  ·rw[hfree] at hc;cases hc
 rcases hx with hk|hk
 ·refine wpAny_storeName_local hk hn (fun h' hn' hs=>?_) hcls
  obtain⟨oL,_,_,hoL,_⟩:=id hn;refine h _ ⟨I.ok,I.os,I.bare,⟨fun b o e n hb hx=>?_,fun b o e n hb hx=>?_,I.base.free,fun b o e hx=>?_,I.base.tups,I.base.frzs,I.base.tbls⟩,⟨_,hn',fun j y v' e1 e2 e3=>?_⟩,fun y c e=>?_,I.free,I.freeC,fun p hp=>?_,tracked ⟨oL,hoL,I.free⟩ hs,by simpa using I.len⟩ ⟨_,hs,.inl rfl⟩
  ·exact(hs.2 b (Bm (AI (Av e) I.ok.above))).trans (I.base.keep b o e n hb hx)
  ·obtain⟨sl,e1⟩:=I.base.slot b o e n hb hx
   exact⟨sl,(hs.2 b (Bm (AI (Av e) I.ok.above))).trans e1⟩
  ·obtain⟨o',e1⟩:=I.base.there b o e hx
   exact⟨o',(hs.2 b (Bm (AI (Av e) I.ok.above))).trans e1⟩
  ·by_cases hj:j=i
   ·subst hj
    rw[hi] at e1;cases e1;rw[Bz hiσ] at e2;cases e2;exact⟨u,r,.inl ⟨hk,by simp⟩⟩
   ·rw[Ba (DC hj)] at e2
    obtain⟨u',r',q⟩:=hl j y v' e1 e2 e3;refine⟨u',r',?_⟩;rcases q with⟨k,e⟩|⟨k,c,e,z⟩
    ·refine .inl ⟨k,?_⟩
     have:y≠x:=fun e=>hj (pQ hN e1 (e▸hi));simp[this,e]
    ·exact .inr ⟨k,c,e,z.sameBut hs (cne y c e)⟩
  ·obtain⟨w',z⟩:=I.cell y c e
   exact⟨w',z.sameBut hs (cne y c e)⟩
  ·obtain⟨e,n,ne,nf,d⟩:=I.pin p hp
   exact⟨(hs.2 p.1 ne).trans e,n,ne,nf,d⟩
 ·have hfn:X.fn x=true:=by
   rcases hf with z|z
   ·exact z
   ·rw[z] at hk;cases hk
  obtain⟨c,hc⟩:=I.ok.has x (.inl hk);obtain⟨w',z⟩:=I.cell x c hc;refine wpAny_storeName_cell I.ok.kind hk hc z (fun h' hc' hs=>?_);obtain⟨oc,hoc,hocd⟩:=id z;refine h { s with heap:=h' } ⟨I.ok,I.os,I.bare,⟨fun b o e n hb hx=>?_,fun b o e n hb hx=>?_,I.base.free,fun b o e hx=>?_,I.base.tups,I.base.frzs,I.base.tbls⟩,⟨m,hn.sameBut hs (DC (cne x c hc)),fun j y v' e1 e2 e3=>?_⟩,fun y c' e=>?_,I.free,I.freeC,fun p hp=>?_,tracked ⟨oc,hoc,I.freeC x c hc⟩ hs,by simpa using I.len⟩ ⟨c,hs,.inr hc⟩
  ·exact(hs.2 b (Bm (AI (Av e) (I.ok.cab x c hfn hc)))).trans (I.base.keep b o e n hb hx)
  ·obtain⟨sl,e1⟩:=I.base.slot b o e n hb hx
   exact⟨sl,(hs.2 b (Bm (AI (Av e) (I.ok.cab x c hfn hc)))).trans e1⟩
  ·obtain⟨o',e1⟩:=I.base.there b o e hx
   exact⟨o',(hs.2 b (Bm (AI (Av e) (I.ok.cab x c hfn hc)))).trans e1⟩
  ·by_cases hj:j=i
   ·subst hj
    rw[hi] at e1;cases e1;rw[Bz hiσ] at e2;cases e2;exact⟨u,r,.inr ⟨.inl hk,c,hc,hc'⟩⟩
   ·rw[Ba (DC hj)] at e2
    obtain⟨u',r',q⟩:=hl j y v' e1 e2 e3;refine⟨u',r',?_⟩;rcases q with q|⟨k,c',e,z'⟩
    ·exact .inl q
    ·refine .inr ⟨k,c',e,z'.sameBut hs ?_⟩
     rintro rfl;exact hj (pQ hN e1 (I.ok.inj _ _ _ e hc▸hi))
  ·by_cases hcc:c'=c
   ·subst hcc;exact⟨_,hc'⟩
   ·obtain⟨w2,z2⟩:=I.cell y c' e
    exact⟨w2,z2.sameBut hs hcc⟩
  ·obtain⟨e,n,ne,nf,d⟩:=I.pin p hp
   refine⟨(hs.2 p.1 ?_).trans e,n,ne,nf,d⟩;intro q;rw[q,hoc] at e;have q':oc=p.2:=Be e;exact d w' (by rw[← q'];exact hocd)
theorem uN {M:Fl}{A:A8}{E:Ac→Ag→Prop}{i:Ah}{x:As}{v:V}{u:Ac}{Q:HS→Ag→Prop}(I:Inv X pins σ H s)(hN:X.N.Nodup)(hi:X.N[i]? = Ab x)(hx:Loc X.env.scope x)(r:qK v u)
  (h:∀ s',Inv X pins (σ.set i (Ab v)) H s'→Q () s') (hf:X.fn x=true∨X.env.scope.names.lookup x=Ab .local:=by first|exact .inl rfl|exact .inr rfl|assumption):An M A (storeName X.env x u) Q E s:=
 mV I hN hi hx r (fun s' I' _=>h s' I') hf
theorem Inv.call' {s':Ag}{ch:Aa Ad}(I:Inv X pins σ H s)(ho:s'.os=s.os)(u:Un (frs X.stack) ch H H' s.heap s'.heap)(hok:HOk X.prog X.w H' s'.heap)(hg:Gh s'.gens)
  (hch:∀ b∈ch,(b∈X.ex∨X.s₀.heap.objs.size≤b)∧b≠X.env.locals∧(∀ x c,X.env.cells.lookup x=Ab c→c≠b)∧∀ p∈X.pn++pins,p.1≠b):Inv X pins σ H' s':=by
 obtain⟨h',g',d',t',o'⟩:=s';have e:o'=s.os:=ho;subst e;exact I.call (g':=g') (t':=t') (d':=d') u hok hg hch
end
abbrev XK:=Ac→Ak Ad→Hp→Prop
abbrev St:=Aa (Ak V)
abbrev VK:=V→Hp→Prop
abbrev TE:=St→Hp→VK→Prop
abbrev TT:=St→Hp→(Ao→Hp→Prop)→Prop
abbrev TA:=St→Hp→(Aa V→Hp→Prop)→Prop
structure Ends where
 nx:St→Hp→Prop
 rt:VK
 bk:St→Hp→Prop:=fun _ _=>Cq
 ct:St→Hp→Prop:=fun _ _=>Cq
abbrev TS:=Ends→St→Hp→Prop
inductive EP (X:Cx)(pins:Aa (Ad × AV))(σ : St)(Q:VK)(u:Ac)(s':Ag):Prop
 |mk (v:V) (H':Hp) (I:Inv X pins σ H' s') (r:qK v u) (q:Q v H'):EP X pins σ Q u s'
inductive TP (X:Cx)(pins:Aa (Ad × AV))(σ : St)(Q:Ao→Hp→Prop)(b:Ao)(s':Ag):Prop
 |mk (H':Hp) (I:Inv X pins σ H' s') (q:Q b H'):TP X pins σ Q b s'
inductive AP (X:Cx)(pins:Aa (Ad × AV))(σ : St)(Q:Aa V→Hp→Prop)(us:Aa Ac)(s':Ag):Prop
 |mk (vs:Aa V) (H':Hp) (I:Inv X pins σ H' s') (r:qM vs us) (q:Q vs H'):AP X pins σ Q us s'
def SP (X:Cx)(pins:Aa (Ad × AV))(D:Ends)(f:Flow)(s':Ag):Prop:=
 match f with
 |.next=>∃ σ' H',Inv X pins σ' H' s'∧D.nx σ' H'
 |.brk=>∃ σ' H',Inv X pins σ' H' s'∧D.bk σ' H'
 |.cont=>∃ σ' H',Inv X pins σ' H' s'∧D.ct σ' H'
 |.ret u=>∃ v σ' H',Inv X pins σ' H' s'∧qK v u∧D.rt v H'
def PE (X:Cx)(e:AC)(t:TE):Prop:=
 ∀ (pins:Aa (Ad × AV)) (s:Ag) (σ : St) (H:Hp) (Q:VK),Inv X pins σ H s→t σ H Q→An (Ar X.prog X.w) X.A (eval e X.env) (EP X pins σ Q) X.xe s
def PT (X:Cx)(e:AC)(t:TT):Prop:=
 ∀ (pins:Aa (Ad × AV)) (s:Ag) (σ : St) (H:Hp) (Q:Ao→Hp→Prop),Inv X pins σ H s→t σ H Q→An (Ar X.prog X.w) X.A (isTrue e X.env (eval e X.env)) (TP X pins σ Q) X.xe s
def PW (X:Cx)(e:AC)(t:TT):Prop:=
 ∀ (whole:Fb Ac) (pins:Aa (Ad × AV)) (s:Ag) (σ : St) (H:Hp) (Q:Ao→Hp→Prop),Inv X pins σ H s→t σ H Q→An (Ar X.prog X.w) X.A (isTrue e X.env whole) (TP X pins σ Q) X.xe s
def PA (X:Cx)(es:Aa AC)(t:TA):Prop:=
 ∀ (pos:Cz) (pins:Aa (Ad × AV)) (s:Ag) (σ : St) (H:Hp) (Q:Aa V→Hp→Prop),Inv X pins σ H s→t σ H Q→An (Ar X.prog X.w) X.A (spliced (CP pos (Az es X.env))) (AP X pins σ Q) X.xe s
def PS (X:Cx)(st:Cy)(t:TS):Prop:=
 ∀ (pins:Aa (Ad × AV)) (s:Ag) (σ : St) (H:Hp) (D:Ends),Inv X pins σ H s→t D σ H→An (Ar X.prog X.w) X.A (exec st X.env) (SP X pins D) X.xe s
def PSs (X:Cx)(st:Aa Cy)(t:TS):Prop:=
 ∀ (pins:Aa (Ad × AV)) (s:Ag) (σ : St) (H:Hp) (D:Ends),Inv X pins σ H s→t D σ H→An (Ar X.prog X.w) X.A (execs st X.env) (SP X pins D) X.xe s
theorem thn {α : Type}{t:Fb α}{Q Q':α→Ag→Prop}{M:Fl}{A:A8}{E:Ac→Ag→Prop}{s:Ag}(h:An M A t Q E s)(hQ:∀ a s,Q a s→Q' a s):An M A t Q' E s:=CU h hQ fun _ _ x=>x
end _L
namespace _L
open PySem PySem.Spec PyProof.Rows
section
variable {X:Cx}
theorem bin {a b:AC}{ta tb:TE}(ha:PE X a ta)(hb:PE X b tb){pins:Aa (Ad × AV)}{s:Ag}{σ : St}{H:Hp}{R:V→V→Hp→Prop}(I:Inv X pins σ H s)(h:ta σ H fun x H1=>tb σ H1 fun y H2=>R x y H2)
  {α:Type} {Q:α→Ag→Prop} {f:Ac→Ac→Fb α}
  (hf:∀ v u s2 x y H2,Inv X pins σ H2 s2→qK x v→qK y u→R x y H2→An (Ar X.prog X.w) X.A (f v u) Q X.xe s2) :
  An (Ar X.prog X.w) X.A (eval a X.env) (fun v s₁=>An (Ar X.prog X.w) X.A (eval b X.env) (fun u s₂=>An (Ar X.prog X.w) X.A (f v u) Q X.xe s₂) X.xe s₁) X.xe s:=by
 refine thn (ha pins s σ H _ I h) fun v s1 ⟨x,H1,I1,r1,q1⟩=>?_;refine thn (hb pins s1 σ H1 _ I1 q1) fun u s2 ⟨y,H2,I2,r2,q2⟩=>?_;exact hf v u s2 x y H2 I2 r1 r2 q2
def FC (i:Ah):TE:=fun σ H Q=>∃ v,σ[i]? = Ab (Ab v)∧Q v H
def tC (v:V):TE:=fun _ H Q=>Q v H
theorem B4 {i:Ah}{x:As}{pos:Cz}(hN:X.N[i]? = Ab x)(hv:Vis X.env.scope x)(hd:(x == ("__debug__" : As))=false:=by decide)(hcd:(x == ("__classdict__" : As))=false:=by decide):PE X (.Name x pos) (FC i):=by
 intro pins s σ H Q I h;obtain⟨v,e,h⟩:=h;obtain⟨m,hn,hl⟩:=I.loc;obtain⟨u,r,l⟩:=hl i x v hN e hv;have fin:EP X pins σ Q u s:=⟨v,H,I,r,h⟩;rcases l with⟨hk,hm⟩|⟨hk,c,hc,hcell⟩
 ·exact Oe (wpAny_loadName_local I.ok.kind hk hn hm fin) hd
 ·rcases hk with hk|hk
  ·exact Oe (wpAny_loadName_cell I.ok.kind hk hc hcell fin) hd
  ·exact Oe (wpAny_loadName_free I.ok.kind hk hc hcell fin hcd) hd
theorem PX {i j pos}:PE X (.Constant (.int i) j pos) (tC (.int i)):=fun _ _ _ H _ I h=>wpAny_Constant_int ⟨.int i,H,I.tok _,⟨_,rfl⟩,h⟩
theorem T9 {b j pos}:PE X (.Constant (.bool b) j pos) (tC (.bl b)):=fun _ _ _ H _ I h=>Constant_bool ⟨.bl b,H,I,rfl,h⟩
theorem PY {j pos}:PE X (.Constant .none j pos) (tC .non):=fun _ _ _ H _ I h=>Constant_none ⟨.non,H,I,rfl,h⟩
theorem B0 {x j pos}:PE X (.Constant (.str x) j pos) (tC (.str x)):=fun _ _ _ H _ I h=>Calls.Constant_str ⟨.str x,H,I.tok _,⟨_,rfl⟩,h⟩
def Gl (X:Cx)(x:As):Prop:=X.env.kindOf x=Ab .globalImplicit
theorem jE {E:Ac→Ag→Prop}{pins:Aa (Ad × AV)}{s:Ag}{σ : St}{H:Hp}{x:As}{u:Ac}{pos:Cz}{Q:Ac→Ag→Prop}(I:Inv X pins σ H s)(hg:Gl X x)(hm:X.mg x=Ab u)(h:Q u s)
  (hd:(x == ("__debug__" : As))=false:=by decide):An (Ar X.prog X.w) X.A (eval (.Name x pos) X.env) Q E s:=
 Hx I.ok.kind hg (Calls.loadGlobal_global (by rw[I.ok.glob];exact I.mod.glob.keeps I.bk) hm h) hd
theorem vT {E:Ac→Ag→Prop}{pins:Aa (Ad × AV)}{s:Ag}{σ : St}{H:Hp}{x:As}{u:Ac}{pos:Cz}{Q:Ac→Ag→Prop}(I:Inv X pins σ H s)(hg:Gl X x)(hm:X.mg x=none)(hv:CK x=Ab u)(h:Q u s)
  (hn:x ≠ "__name__":=by decide) (hd:(x == ("__debug__" : As))=false:=by decide):An (Ar X.prog X.w) X.A (eval (.Name x pos) X.env) Q E s:=by
 obtain⟨mb,h1,h2⟩:=I.mod.blt;exact Hx I.ok.kind hg (Calls.loadGlobal_builtin (by rw[I.ok.glob];exact I.mod.glob.keeps I.bk) hm (by rw[I.ok.blt];exact h1.keeps I.bk) ((h2 x hn).trans hv) h) hd
theorem VG {x:As}{v:V}{u:Ac}{pos:Cz}(hg:Gl X x)(hm:X.mg x=Ab u)(r:qK v u)(hd:(x == ("__debug__" : As))=false:=by decide):PE X (.Name x pos) (tC v):=
 fun _ _ _ H _ I h=>jE I hg hm ⟨v,H,I,r,h⟩ hd
theorem VF {x:As}{v:V}{u:Ac}{pos:Cz}(hg:Gl X x)(hm:X.mg x=none)(hv:CK x=Ab u)(r:qK v u)(hn:x ≠ "__name__":=by decide)(hd:(x == ("__debug__" : As))=false:=by decide):PE X (.Name x pos) (tC v):=
 fun _ _ _ H _ I h=>vT I hg hm hv ⟨v,H,I,r,h⟩ hn hd
variable {a b:AC}{ta tb:TE}{pos:Cz}
variable {tA tB':TT}{rest:Aa AC}
theorem BC (ha:PT X a tA):PW X (.BoolOp .Or [a] pos) tA:=by
 intro wh pins s σ H Q I h;refine isTrue_or (thn (ha pins s σ H Q I h) fun c s1 e=>?_);cases c with
 |false=>exact isTrue_or_nil e
 |true=>exact e
theorem PZ {op}{t:TE}(h:PE X a t):PE X (.BoolOp op [a] pos) t:=fun pins s σ H Q I hw=>BoolOp_one (h pins s σ H Q I hw)
end
end _L
namespace _L
open PySem PySem.Spec PyProof.Rows
def SqL (K:Ai)(H:Hp)(a:Ad)(xs:Aa V):Prop:=
 Rd H a (.lst xs) ∨
  ∃ (o:AV) (its:A4 Ac) (n:Ah),K.lookup a=Ab o∧o.cls=.type "list" ∧ o.dict=none∧o.data=.seq its n∧its.size≤sizeLine∧qM xs its.toList
def SqT (K:Ai)(H:Hp)(a:Ad)(xs:Aa V):Prop:=
 Rd H a (.tup xs) ∨
  ∃ (o:AV) (its:A4 Ac) (n:Ah),K.lookup a=Ab o∧o.cls=.type "tuple" ∧ o.data=.seq its n∧its.size≤sizeLine∧qM xs its.toList
def NL:Ac→Ak V
 |.none=>Ab .non
 |.bool b=>Ab (.bl b)
 |.int i _=>Ab (.int i)
 |.str x _=>Ab (.str x)
 |.bytes b _=>Ab (.byt b)
 |.float b _=>Ab (.flt b)
 |.ref a=>Ab (.ref a)
 |.type n=>Ab (.ty n)
 |_=>none
theorem qK.abs {x:V}{u:Ac}(r:qK x u):NL u=Ab x:=by
 cases x with
 |non=>cases r;rfl
 |bl _=>cases r;rfl
 |int _=>obtain⟨t,rfl⟩:=r;rfl
 |str _=>obtain⟨t,rfl⟩:=r;rfl
 |byt _=>obtain⟨t,rfl⟩:=r;rfl
 |flt _=>obtain⟨t,rfl⟩:=r;rfl
 |ref _=>cases r;rfl
 |ty _=>cases r;rfl
theorem qK.inj {x y:V}{u:Ac}(r:qK x u)(q:qK y u):x=y:=Be (r.abs.symm.trans q.abs)
theorem qM.inj {xs ys:Aa V}{us:Aa Ac}(h:qM xs us)(k:qM ys us):xs=ys:=by
 induction h generalizing ys with
 |nil=>cases k;rfl
 |cons r t ih =>
  cases k with
  |cons r' t'=>rw[r.inj r',ih t']
section
variable {X:Cx}{pins:Aa (Ad × AV)}{σ : St}{H:Hp}{s:Ag}{a:Ad}{xs ys:Aa V}
theorem SqL.of {K:Ai}(h:H a=Ab (.lst xs)):SqL K H a xs:=.inl (.inl h)
theorem SqT.of {K:Ai}(h:H a=Ab (.tup xs)):SqT K H a xs:=.inl (.inl h)
theorem Inv.list (I:Inv X pins σ H s)(h:SqL X.K H a xs):∃ its:Aa Ac,qM xs its∧PlainL s.heap a its.toArray∧xs.length≤sizeLine:=by
 rcases h with h|⟨o,its,n,hk,hc,hd,hs,hz,r⟩
 ·obtain⟨z,its,n,r,e⟩:=h.ok I.hok
  exact⟨its,r,⟨_,n,e,rfl,rfl,rfl⟩,z⟩
 ·refine⟨its.toList,r,⟨o,n,I.kIn a o hk,hc,hd,by simpa using hs⟩,?_⟩
  have e:=r.length;simp only[AU] at e;omega
theorem Inv.tuple (I:Inv X pins σ H s)(h:SqT X.K H a xs):∃ its:Aa Ac,qM xs its∧Ie s.heap a its.toArray∧xs.length≤sizeLine:=by
 rcases h with h|⟨o,its,n,hk,hc,hs,hz,r⟩
 ·obtain⟨z,its,r,p⟩:=h.ok I.hok
  exact⟨its,r,p,z⟩
 ·refine⟨its.toList,r,⟨o,I.kIn a o hk,hc,n,by simpa using hs⟩,?_⟩
  have e:=r.length;simp only[AU] at e;omega
theorem Inv.list_inj (I:Inv X pins σ H s)(h:SqL X.K H a xs)(h':SqL X.K H a ys):xs=ys:=by
 obtain⟨its,r,⟨o,n,e,_,_,d⟩,_⟩:=I.list h;obtain⟨its',r',⟨o',n',e',_,_,d'⟩,_⟩:=I.list h';rw[e] at e';cases e';rw[d] at d';injection d' with d1 _
 have:its=its':=by simpa using congrArg La d1
 subst this;exact r.inj r'
theorem Inv.tuple_inj (I:Inv X pins σ H s)(h:SqT X.K H a xs)(h':SqT X.K H a ys):xs=ys:=by
 obtain⟨its,r,⟨o,e,_,n,d⟩,_⟩:=I.tuple h;obtain⟨its',r',⟨o',e',_,n',d'⟩,_⟩:=I.tuple h';rw[e] at e';cases e';rw[d] at d';injection d' with d1 _
 have:its=its':=by simpa using congrArg La d1
 subst this;exact r.inj r'
end
abbrev Cx.wish (X:Cx)(E:Ac→Ag→Prop):Cx:={ X with xe:=E }
abbrev Cx.nox (X:Cx):Cx:=X.wish fun _ _=>Cq
theorem Cx.Ok.wish {X:Cx}(ok:X.Ok)(E:Ac→Ag→Prop):(X.wish E).Ok:=
 ⟨ok.mod,ok.kind,ok.glob,ok.blt,ok.above,ok.inj,ok.has,ok.cab,ok.hd,ok.frames,ok.stk,ok.exf,ok.bs,ok.bsz,ok.noex,ok.exfs,ok.funs,ok.frf⟩
theorem Cx.Ok.unwish {X:Cx}{E:Ac→Ag→Prop}(ok:(X.wish E).Ok):X.Ok:=
 ⟨ok.mod,ok.kind,ok.glob,ok.blt,ok.above,ok.inj,ok.has,ok.cab,ok.hd,ok.frames,ok.stk,ok.exf,ok.bs,ok.bsz,ok.noex,ok.exfs,ok.funs,ok.frf⟩
section
variable {X:Cx}{pins:Aa (Ad × AV)}{σ : St}{H:Hp}{s:Ag}{E:Ac→Ag→Prop}
theorem Inv.wish (I:Inv X pins σ H s)(E:Ac→Ag→Prop):Inv (X.wish E) pins σ H s:=⟨I.ok.wish E,I.os,I.bare,I.base,I.loc,I.cell,I.free,I.freeC,I.pin,I.hok,I.len⟩
theorem Inv.unwish (I:Inv (X.wish E) pins σ H s):Inv X pins σ H s:=⟨I.ok.unwish,I.os,I.bare,I.base,I.loc,I.cell,I.free,I.freeC,I.pin,I.hok,I.len⟩
theorem SP.unwish {D:Ends}{f:Flow}{s':Ag}(h:SP (X.wish E) pins D f s'):SP X pins D f s':=by
 cases f with
 |next=>obtain⟨σ',H',I,q⟩:=h;exact⟨σ',H',I.unwish,q⟩
 |brk=>obtain⟨σ',H',I,q⟩:=h;exact⟨σ',H',I.unwish,q⟩
 |cont=>obtain⟨σ',H',I,q⟩:=h;exact⟨σ',H',I.unwish,q⟩
 |ret u=>obtain⟨v,σ',H',I,r,q⟩:=h;exact⟨v,σ',H',I.unwish,r,q⟩
theorem PE.nox {e:AC}{t:TE}(h:PE X.nox e t):PE X e t:=fun pins s σ H Q I hw =>
 CU (h pins s σ H Q (I.wish _) hw) (fun _ _ ⟨v,H',I',r,q⟩=>⟨v,H',I'.unwish,r,q⟩) fun _ _ z=>Am z
theorem PT.nox {e:AC}{t:TT}(h:PT X.nox e t):PT X e t:=fun pins s σ H Q I hw =>
 CU (h pins s σ H Q (I.wish _) hw) (fun _ _ ⟨H',I',q⟩=>⟨H',I'.unwish,q⟩) fun _ _ z=>Am z
theorem PSs.nox {st:Aa Cy}{t:TS}(h:PSs X.nox st t):PSs X st t:=fun pins s σ H D I hw =>
 CU (h pins s σ H D (I.wish _) hw) (fun _ _ q=>q.unwish) fun _ _ z=>Am z
end
section
variable {X:Cx}{st:Cy}{rest:Aa Cy}{t u:TS}{e:AC}{te:TE}{pos:Cz}
def N0:TS:=fun D σ H=>D.nx σ H
def LJ (t u:TS):TS:=fun D σ H=>t { D with nx:=u D } σ H
theorem VP:PSs X [] N0:=fun _ _ σ H _ I h=>Gv ⟨σ,H,I,h⟩
theorem ZL (h1:PS X st t)(h2:PSs X rest u):PSs X (st::rest) (LJ t u):=by
 intro pins s σ H D I h;refine Mr (thn (h1 pins s σ H { D with nx:=u D } I h) fun f s1 q=>?_)
 cases f with
 |next =>
  obtain⟨σ',H',I',q⟩:=q;exact h2 pins s1 σ' H' D I' q
 |ret v=>exact q
 |brk=>exact q
 |cont=>exact q
theorem VQ (h1:PS X st t):PSs X [st] t:=by
 intro pins s σ H D I h;refine Mr (thn (h1 pins s σ H D I h) fun f s1 q=>?_);cases f with
 |next=>exact Gv q
 |ret v=>exact q
 |brk=>exact q
 |cont=>exact q
theorem Inv.quiet {pins:Aa (Ad × AV)}{σ : St}{H:Hp}{s:Ag}(I:Inv X pins σ H s):interactive X.env=false:=by simp[interactive,I.ok.kind]
end
abbrev TG:=V→St→Hp→(St→Hp→Prop)→Prop
abbrev TGs:=Aa V→St→Hp→(St→Hp→Prop)→Prop
def PG (X:Cx)(target:AC)(t:TG):Prop:=
 ∀ (pins:Aa (Ad × AV)) (s:Ag) (σ : St) (H:Hp) (v:V) (u:Ac) (Q:St→Hp→Prop),Inv X pins σ H s→qK v u→t v σ H Q →
  An (Ar X.prog X.w) X.A (assign target X.env u) (fun _ s'=>∃ σ' H',Inv X pins σ' H' s'∧Q σ' H') X.xe s
def PGs (X:Cx)(ts:Aa AC)(t:TGs):Prop:=
 ∀ (pins:Aa (Ad × AV)) (s:Ag) (σ : St) (H:Hp) (vs:Aa V) (us:Aa Ac) (Q:St→Hp→Prop),Inv X pins σ H s→qM vs us→t vs σ H Q →
  An (Ar X.prog X.w) X.A (Ju ((Dj ts X.env).map (·.2)) us) (fun _ s'=>∃ σ' H',Inv X pins σ' H' s'∧Q σ' H') X.xe s
abbrev oG:=V→V→V→Hp→(Hp→Prop)→Prop
def tO (X:Cx)(t:oG):Prop:=
 ∀ (pins:Aa (Ad × AV)) (s:Ag) (σ : St) (H:Hp) (o i v:V) (ov iv u:Ac) (Q:Hp→Prop),Inv X pins σ H s→qK o ov→qK i iv→qK v u→t o i v H Q →
  An (Ar X.prog X.w) X.A (O7 ov iv u) (fun _ s'=>∃ H',Inv X pins σ H' s'∧Q H') X.xe s
section
variable {X:Cx}{pos:Cz}
def ME (i:Ah):TG:=fun v σ H Q=>Q (σ.set i (Ab v)) H
theorem VI {i:Ah}{x:As}(hN:X.N.Nodup)(hi:X.N[i]? = Ab x)(hx:Loc X.env.scope x)(hf:X.fn x=true∨X.env.scope.names.lookup x=Ab .local:=by first|exact .inl rfl|exact .inr rfl|assumption):PG X (.Name x pos) (ME i):=by
 intro pins s σ H v u Q I r h;exact Lu (uN I hN hi hx r (fun s' I'=>⟨_,H,I',h⟩) hf)
def NT:TGs:=fun vs σ H Q=>vs=[]∧Q σ H
def MD (t:TG)(u:TGs):TGs:=fun vs σ H Q=>∃ v r,vs=v::r∧t v σ H fun σ' H'=>u r σ' H' Q
theorem VJ:PGs X [] NT:=by
 intro pins s σ H vs us Q I r h;obtain⟨e,h⟩:=h;subst e;cases r;exact Lv ⟨σ,H,I,h⟩
theorem ZJ {e:AC}{es:Aa AC}{t:TG}{u:TGs}(h1:PG X e t)(h2:PGs X es u)
  (hs:(Dj (e::es) X.env).map (·.2)=assign e X.env::(Dj es X.env).map (·.2):=by rfl):PGs X (e::es) (MD t u):=by
 intro pins s σ H vs us Q I r h;obtain⟨v,vr,e1,h⟩:=h;subst e1;cases r with
 |cons r rr =>
  rw[hs];refine Ht (thn (h1 pins s σ H _ _ _ I r h) fun _ s1 ⟨σ1,H1,I1,q1⟩=>?_);exact h2 pins s1 σ1 H1 _ _ Q I1 rr q1
def NU (K:Ai)(n:Ah)(t:TGs):TG:=fun v σ H Q=>∃ a xs,v=.ref a∧SqT K H a xs∧xs.length=n∧t xs σ H Q
theorem B5 {es:Aa AC}{k:Ah}{t:TGs}{n:Ah}(hc:X.calm=true)(h:PGs X es t)
  (hn:(Dj es X.env).length=n:=by rfl) (hst:(Dj es X.env).findIdx? (·.1)=none:=by rfl):PG X (.Tuple es k pos) (NU X.K n t):=by
 intro pins s σ H v u Q I r hw;obtain⟨a,xs,e1,hq,hl,hw⟩:=hw;subst e1;cases r;obtain⟨its,rv,ht,hz⟩:=I.tuple hq;refine assign_Tuple_tuple (I.ok.hd hc) ht (by simp[hn,← hl,rv.length]) hst fun h' hx=>?_
 have I1:Inv X pins σ H { s with heap:=h' }:=I.kept (t':=s.toks) fun b o e=>hx b o (Bm (Av e)) e
 exact h pins _ σ H xs _ Q I1 (by simpa using rv) hw
def w5 (to ti:TE)(t:oG):TG:=fun v σ H Q=>to σ H fun o H1=>ti σ H1 fun i H2=>t o i v H2 fun H3=>Q σ H3
def LI (i j:Ah)(ta:TA):TS:=fun D σ H=>ta σ H fun vs H1=>∃ v w,vs=[v,w]∧D.nx ((σ.set i (Ab v)).set j (Ab w)) H1
theorem BA {i j:Ah}{x y:As}{a b:AC}{ta:TA}{px py pt:Cz} {kt k2 pt2} (hc:X.calm=true) (hN:X.N.Nodup) (hi:X.N[i]? = Ab x) (hj:X.N[j]? = Ab y) (hij:i≠j)
  (hx:X.env.scope.names.lookup x=Ab .local) (hy:X.env.scope.names.lookup y=Ab .local) (ha:PA X [a,b] ta)
  (hw:EQ [.Tuple [.Name x px,.Name y py] kt pt] (.Tuple [a,b] k2 pt2) X.env=pure (Ab [x,y]))
  (hs:ER [.Tuple [.Name x px,.Name y py] kt pt] (.Tuple [a,b] k2 pt2) pos.line X.env=pure false:=by rfl) :
  PS X (.Assign [.Tuple [.Name x px,.Name y py] kt pt] (.Tuple [a,b] k2 pt2) pos) (LI i j ta):=by
 intro pins s σ H D I h;rw[exec_Assign_arm];refine Af (ES ?_);rw[hs];refine Af (Aq ?_);rw[A0 (by decide)]
 refine Af (Tuple_ (thn (ha _ pins s σ H _ I h) fun us s1 ⟨vs,H1,I1,r1,q1⟩=>?_));obtain⟨v,w,e1,q1⟩:=q1;subst e1;obtain⟨u1,u2,rfl,rv,rw'⟩:∃ u1 u2,us=[u1,u2]∧qK v u1∧qK w u2:=by
  cases r1 with
  |cons p q =>
   cases q with
   |cons p' q' =>
    cases q';exact⟨_,_,rfl,p,p'⟩
 refine CV ?_ (by show 2≤sizeLine;decide)
 have I2:Inv X pins σ H1 { s1 with heap:=s1.heap.push { cls:=.type "tuple",data:=.seq [u1,u2].toArray } }:=I1.kept (t':=s1.toks) fun b o e=>Al _ e
 rw[hw];refine Af (Aq ?_);show An (Ar X.prog X.w) X.A (do rule "assign.swapped-stores";let items ← unpackItems (.ref s1.heap.objs.size) 2 none;Ju [fun v=>Ko X.env y v,fun v=>Ko X.env x v] items.reverse;pure Flow.next) _ _ _
 refine Af (DJ (Af (unpackItems_tuple (items:=#[u1,u2]) (I.ok.hd hc) (O8 s1.heap _) fun h' hx'=>?_)));have I3:=I2.kept (h':=h') (t':=s1.toks) fun b o e=>hx' b o (Bm (Av e)) e;show An _ _ (Ju [fun v=>Ko X.env y v,fun v=>Ko X.env x v] [u2,u1] >>= fun _=>pure Flow.next) _ _ _;refine Af (Ht (wpAny_bindName (uN I3 hN hj (.inl hy) rw' (fun s2 I4=>?_) (.inr hy))));refine Ht (wpAny_bindName (uN I4 hN hi (.inl hx) rv (fun s3 I5=>Lv (Aq ?_)) (.inr hx)));rw[List.set_comm _ _ (DC hij)] at I5;exact⟨_,H1,I5,q1⟩
end
structure It where
 go:Ah→Hp→Prop
 yld:Ah→Hp→V→Hp→Prop
 stop:Ah→Hp→Prop
def xD (X:Cx)(pins:Aa (Ad × AV))(H:Hp)(b:Ad):Prop:=
 H b=none∧b≠X.env.locals∧b ∉ X.fs∧(b∈X.ex∨X.s₀.heap.objs.size≤b)∧(∀ x c,X.env.cells.lookup x=Ab c→c≠b)∧∀ p∈X.pn++pins,p.1≠b
theorem Inv.fpOk {X:Cx}{pins:Aa (Ad × AV)}{σ : St}{H H':Hp}{s:Ag}{b:Ad}(I:Inv X pins σ H s)(hb:s.heap.objs.size≤b)(hn:H' b=none):xD X pins H' b:=by
 refine⟨hn,Fp (AI I.lt hb),I.nofs hb,.inr (Ce I.sz hb),fun x c e z=>?_,fun p hp z=>?_⟩
 ·obtain⟨v,q⟩:=I.cell x c e
  exact absurd (AI q.lt (by rw[z];exact hb)) (Cg _)
 ·exact absurd (AI (Av (I.pin p hp).1) (by rw[z];exact hb)) (Cg _)
structure Turn (P:A5)(w:AO)(K:Ai)(tg:AC)(J:It)(fp:Aa Ad)(it:Ad)(tn:Ah→AF→Prop):Prop where
 mem:it∈fp
 obj:∀ i h,tn i h→∀ b∈fp,∃ o,h.get? b=Ab o∧∀ v,o.data≠.cell v
 keep:∀ i h h',tn i h→(∀ b∈fp,∀ o,h.get? b=Ab o→h'.get? b=Ab o)→tn i h'
 item:∀ (X:Cx),X.prog=P→X.w=w→X.K=K→X.calm=true→∀ (i:Ah) (pins:Aa (Ad × AV)) (s:Ag) (σ : St) (H:Hp) (E:Ac→Ag→Prop),Inv X pins σ H s→(∀ b∈fp,xD X pins H b)→tn i s.heap→J.go i H →
  An (Ar P w) X.A (HT (.ref it)) (fun r s1=>∃ u,r=Ab u ∧
   An (Ar P w) X.A (E1 tg (.ref it) u) (fun _ s2=>∃ x H',Inv X pins σ H' s2∧qK x u∧J.yld i H x H'∧tn (i+1) s2.heap∧∀ b∈fp,H' b=none) E s1) E s
 done:∀ (X:Cx),X.prog=P→X.w=w→X.K=K→X.calm=true→∀ (i:Ah) (pins:Aa (Ad × AV)) (s:Ag) (σ : St) (H:Hp) (E:Ac→Ag→Prop),Inv X pins σ H s→(∀ b∈fp,xD X pins H b)→tn i s.heap→J.stop i H →
  An (Ar P w) X.A (HT (.ref it)) (fun r s1=>r=none∧Inv X pins σ H s1) E s
 self:∀ (A:A8) (i:Ah) (s:Ag) (Q:Ac→Ag→Prop) (E:Ac→Ag→Prop),tn i s.heap→Q (.ref it) s→An (Ar P w) A (HU (.ref it)) Q E s
abbrev TI:=St→Hp→(It→Hp→Prop)→Prop
inductive PIE (X:Cx)(pins:Aa (Ad × AV))(σ : St)(tg:AC)(R:It→Hp→Prop)(itv:Ac)(s2:Ag):Prop
 |mk (it:Ad) (fp:Aa Ad) (tn:Ah→AF→Prop) (J:It) (H':Hp) (e:itv=.ref it) (I:Inv X pins σ H' s2) (t:Turn X.prog X.w X.K tg J fp it tn) (z:tn 0 s2.heap) (f:∀ b∈fp,xD X pins H' b) (q:R J H'):PIE X pins σ tg R itv s2
def PI (X:Cx)(tg iter:AC)(wi:TI):Prop:=
 ∀ (pins:Aa (Ad × AV)) (s:Ag) (σ : St) (H:Hp) (R:It→Hp→Prop),Inv X pins σ H s→wi σ H R →
  An (Ar X.prog X.w) X.A (eval iter X.env) (fun v s1=>An (Ar X.prog X.w) X.A (HU v) (PIE X pins σ tg R) X.xe s1) X.xe s
theorem rZ {M:Fl}{A:A8}{E:Ac→Ag→Prop}{s:Ag}{tg:AC}{it:Ad}{u:Ac}{o:AV}{n:Bo}{vs:A4 Ac}{Q:HS→Ag→Prop}(ho:s.heap.get? it=Ab o)(hc:o.cls=.type n)(hd:o.data=.fields vs)
    (hn:["enumerate","zip","dict_itemiterator","dict_reverseitemiterator","odict_iterator","itertools.zip_longest","itertools.pairwise"].contains n=false) (hQ:Q () s):An M A (E1 tg (.ref it) u) Q E s:=by
  unfold E1;cases tg <;> first
    |exact Aq hQ
    |(cases u <;> first
        |exact Aq hQ
        | (refine Af (wpAny_load ho ?_)
           rw[hc,hd];show An M A (if (["enumerate","zip","dict_itemiterator","dict_reverseitemiterator","odict_iterator","itertools.zip_longest","itertools.pairwise"].contains n&&vs[0]? == Ab (HV _))=true then _ else _) Q E s
           rw[A0 (by intro h;rw[hn,Os] at h;cases h)]
           exact Aq hQ))
def Itl (K:Ai)(a:Ad):It:=
 ⟨fun i H=>∃ xs x,SqL K H a xs∧xs[i]? = Ab x,fun i H x H'=>H'=H∧∀ xs,SqL K H a xs→xs[i]? = Ab x,fun i H=>∃ xs,SqL K H a xs∧xs.length≤i⟩
def Itt (K:Ai)(a:Ad):It:=
 ⟨fun i H=>∃ xs x,SqT K H a xs∧xs[i]? = Ab x,fun i H x H'=>H'=H∧∀ xs,SqT K H a xs→xs[i]? = Ab x,fun i H=>∃ xs,SqT K H a xs∧xs.length≤i⟩
def Itr (lo:Aj)(n:Ah):It:=⟨fun i _=>i<n,fun i H x H'=>H'=H∧x=.int (lo+i),fun i _=>n≤i⟩
theorem mW {P:A5}{w:AO}{K:Ai}{tg:AC}(a it:Ad):Turn P w K tg (Itl K a) [it] it (fun i h=>h.IsListIter it a i) where
 mem:=by simp
 obj:=fun i h st b hb=>by
  have e:b=it:=by simpa using hb
  subst e;obtain⟨o,e,c,d⟩:=st;exact⟨o,e,fun v z=>by rw[d] at z;cases z⟩
 keep:=fun i h h' st k=>st.at fun o e=>k it (by simp) o e
 item:=by
  intro X hP hw hK hc i pins s σ H E I hf st hg;subst hP hw hK;obtain⟨xs,x,hq,hx⟩:=hg;obtain⟨its,rv,p,hz⟩:=I.list hq;obtain⟨u,hu,ru⟩:=rv.get hx;obtain⟨f0,f1,f2,f3,f4,f5⟩:=hf it (by simp)
  refine wpAny_pyNext_list_item st p.isList (x:=u) (by simpa using hu) fun h' st' sb=>?_
  have I1:Inv X pins σ H { s with heap:=h' }:=I.turned (t':=s.toks) (fun b o hb e=>(sb.2 b hb).trans e) f0 f1 f3 f4 f5
  obtain⟨o,e,c,d⟩:=id st';exact⟨u,rfl,rZ (s:={ s with heap:=h' }) e c d (by decide) ⟨x,H,I1,ru,⟨rfl,fun ys hy=>by rw[I.list_inj hy hq];exact hx⟩,st',fun b hb=>(hf b hb).1⟩⟩
 done:=by
  intro X hP hw hK hc i pins s σ H E I hf st hg;subst hP hw hK;obtain⟨xs,hq,hx⟩:=hg;obtain⟨its,rv,p,hz⟩:=I.list hq;obtain⟨f0,f1,f2,f3,f4,f5⟩:=hf it (by simp)
  have hl:=rv.length;exact wpAny_pyNext_list_end (I.ok.hd hc) st p.isList (by simp;omega) fun h' eb=>⟨rfl,I.turned (t':=s.toks) (fun b o hb e=>eb b o hb e) f0 f1 f3 f4 f5⟩
 self:=fun _ _ _ _ _ st h=>wpAny_pyIter_listiter st h
theorem eY {P:A5}{w:AO}{K:Ai}{tg:AC}(a it:Ad):Turn P w K tg (Itt K a) [it] it (fun i h=>h.IsTupleIter it a i) where
 mem:=by simp
 obj:=fun i h st b hb=>by
  have e:b=it:=by simpa using hb
  subst e;obtain⟨o,e,c,d⟩:=st;exact⟨o,e,fun v z=>by rw[d] at z;cases z⟩
 keep:=fun i h h' st k=>st.at fun o e=>k it (by simp) o e
 item:=by
  intro X hP hw hK hc i pins s σ H E I hf st hg;subst hP hw hK;obtain⟨xs,x,hq,hx⟩:=hg;obtain⟨its,rv,p,hz⟩:=I.tuple hq;obtain⟨u,hu,ru⟩:=rv.get hx;obtain⟨f0,f1,f2,f3,f4,f5⟩:=hf it (by simp)
  refine wpAny_pyNext_tuple_item st (show s.heap.IsTuple a its.toArray from p) (x:=u) (by simpa using hu) fun h' st' sb=>?_
  have I1:Inv X pins σ H { s with heap:=h' }:=I.turned (t':=s.toks) (fun b o hb e=>(sb.2 b hb).trans e) f0 f1 f3 f4 f5
  obtain⟨o,e,c,d⟩:=id st';exact⟨u,rfl,rZ (s:={ s with heap:=h' }) e c d (by decide) ⟨x,H,I1,ru,⟨rfl,fun ys hy=>by rw[I.tuple_inj hy hq];exact hx⟩,st',fun b hb=>(hf b hb).1⟩⟩
 done:=by
  intro X hP hw hK hc i pins s σ H E I hf st hg;subst hP hw hK;obtain⟨xs,hq,hx⟩:=hg;obtain⟨its,rv,p,hz⟩:=I.tuple hq;obtain⟨f0,f1,f2,f3,f4,f5⟩:=hf it (by simp)
  have hl:=rv.length;exact wpAny_pyNext_tuple_end (I.ok.hd hc) st (show s.heap.IsTuple a its.toArray from p) (by simp;omega) fun h' eb=>⟨rfl,I.turned (t':=s.toks) (fun b o hb e=>eb b o hb e) f0 f1 f3 f4 f5⟩
 self:=fun _ _ _ _ _ st h=>wpAny_pyIter_tupleiter st h
theorem eX {P:A5}{w:AO}{K:Ai}{tg:AC}(it:Ad)(lo:Aj)(n:Ah):Turn P w K tg (Itr lo n) [it] it (fun i h=>IsRangeIter h it (lo+(i:Ah)*1) ((n:Aj)-(i:Ah)) 1) where
 mem:=by simp
 obj:=fun i h st b hb=>by
  have e:b=it:=by simpa using hb
  subst e;exact⟨_,st,fun v z=>by
   have z':Data.fields _=Data.cell v:=z;cases z'⟩
 keep:=fun i h h' st k=>k it (by simp) _ st
 item:=by
  intro X hP hw hK hc i pins s σ H E I hf st hg;subst hP hw hK;obtain⟨f0,f1,f2,f3,f4,f5⟩:=hf it (by simp)
  have W:=Walks.range (prog:=X.prog) (w:=X.w) (I.ok.hd hc) it lo 1 n;refine W.item i s _ _ hg st fun v h' tk hv st' kk=>?_;obtain⟨t,rfl⟩:=hv;have I1:Inv X pins σ H { s with heap:=h',toks:=tk }:=I.turned (fun b o hb e=>kk b o (by simpa using hb) e) f0 f1 f3 f4 f5
  refine⟨_,rfl,rZ (s:={ s with heap:=h',toks:=tk }) (n:="range_iterator") st' rfl rfl (by decide) ⟨.int (lo+i),H,I1,⟨t,?_⟩,⟨rfl,rfl⟩,st',fun b hb=>(hf b hb).1⟩⟩
  rw[Int.mul_one]
 done:=by
  intro X hP hw hK hc i pins s σ H E I hf st hg;subst hP hw hK;obtain⟨f0,f1,f2,f3,f4,f5⟩:=hf it (by simp)
  exact wpAny_pyNext_range_end (I.ok.hd hc) st (by have:n≤i:=hg;omega) fun h' eb=>⟨rfl,I.turned (t':=s.toks) (fun b o hb e=>eb b o hb e) f0 f1 f3 f4 f5⟩
 self:=fun _ _ _ _ _ st h=>wpAny_pyIter_rangeiter st h
end _L
namespace _L
open PySem PySem.Spec PyProof.Rows
section
variable {X:Cx}{tg:AC}
theorem lL {pins:Aa (Ad × AV)}{σ : St}{H:Hp}{s:Ag}{R:It→Hp→Prop}{E:Ac→Ag→Prop}{lo hi:Aj}{t u v:Js}{tk:Ah}(I:Inv X pins σ H s)(h1 : -(2 ^ 62)≤lo)(h2:lo<2 ^ 62)(h3 : -(2 ^ 62)≤hi)(h4:hi<2 ^ 62)
  (q:R (Itr lo (hi-lo).toNat) H):An (Ar X.prog X.w) X.A (HU (.ref s.heap.objs.size)) (PIE X pins σ tg R) E { s with heap:=s.heap.push { cls:=.type "range",data:=.fields #[.int lo t,.int hi u,.int 1 v] },toks:=tk }:=by
 refine wpAny_pyIter_range (IsRange.new ..) (small_one h1 h2 h3 h4) ?_;have I1:Inv X pins σ H { s with heap:=s.heap.push { cls:=.type "range",data:=.fields #[.int lo t,.int hi u,.int 1 v] },toks:=tk }:=I.kept fun b o e=>Al _ e
 refine⟨(s.heap.push { cls:=.type "range",data:=.fields #[.int lo t,.int hi u,.int 1 v] }).objs.size,[(s.heap.push { cls:=.type "range",data:=.fields #[.int lo t,.int hi u,.int 1 v] }).objs.size],_,_,H,rfl,
  I1.kept (t':=tk) fun b o e=>Al _ e,eX _ lo (hi-lo).toNat,?_,fun b hb=>?_,q⟩
 ·have e1:lo+((0:Ah):Aj)*1=lo:=by simp
  have e2:(((hi-lo).toNat:Ah):Aj)-((0:Ah):Aj)=OK lo hi 1:=by rw[rangeSize_one];split <;> omega
  show IsRangeIter _ _ (lo+((0:Ah):Aj)*1) ((((hi-lo).toNat:Ah):Aj)-((0:Ah):Aj)) 1;rw[e1,e2];exact AN _ rfl
 ·have e:b=(s.heap.push { cls:=.type "range",data:=.fields #[.int lo t,.int hi u,.int 1 v] }).objs.size:=by simpa using hb
  subst e;exact I1.fpOk (Aw _) (I1.hok.fresh (Aw _))
def LE (wi:TI)(g:TG)(tb:TS):TS:=fun D σ H=>wi σ H fun J H1=>∃ W:Ah→Ah→St→Hp→Prop,(∃ m,W 0 m σ H1)∧∀ i m σ H,W i m σ H →
 (J.stop i H∧D.nx σ H)∨(J.go i H∧∃ N:St→Hp→Prop,(∀ σ' H',N σ' H'→∃ m',m'<m∧W (i+1) m' σ' H')∧∀ x H',J.yld i H x H'→g x σ H' fun σ2 H2=>tb { D with nx:=N,ct:=N,bk:=D.nx } σ2 H2)
def yQ (fp:Aa Ad)(h:AF):Aa (Ad × AV):=fp.filterMap fun b=>(h.get? b).map fun o=>(b,o)
theorem u8 {fp:Aa Ad}{h:AF}{b:Ad}{o:AV}(hb:b∈fp)(e:h.get? b=Ab o):(b,o)∈yQ fp h:=Hu.mpr ⟨b,hb,by rw[e];rfl⟩
theorem mS {fp:Aa Ad}{h:AF}{p:Ad × AV}(hp:p∈yQ fp h):p.1∈fp∧h.get? p.1=Ab p.2:=by
 obtain⟨b,hb,e⟩:=Hu.mp hp;cases q:h.get? b with
 |none=>rw[q] at e;cases e
 |some o =>
  rw[q] at e;have e':(b,o)=p:=Be e;subst e';exact⟨hb,q⟩
theorem Inv.pinned {pins:Aa (Ad × AV)}{σ : St}{H:Hp}{s:Ag}{fp:Aa Ad}(I:Inv X pins σ H s)(hf:∀ b∈fp,xD X pins H b)(ho:∀ b∈fp,∃ o,s.heap.get? b=Ab o∧∀ v,o.data≠.cell v):Inv X (pins++yQ fp s.heap) σ H s:=
 I.pins_of fun p hp=>(AS.mp hp).elim (fun z=>I.pin p (AJ _ z)) fun z=>by
  obtain⟨hb,e⟩:=mS z;obtain⟨f0,f1,f2,_⟩:=hf p.1 hb;obtain⟨o,e',d⟩:=ho p.1 hb;rw[e] at e';cases e';exact⟨e,f0,f1,f2,d⟩
theorem Inv.unpinned {pins pl:Aa (Ad × AV)}{σ : St}{H:Hp}{s:Ag}(I:Inv X (pins++pl) σ H s):Inv X pins σ H s:=I.pins_of fun p hp=>I.pin p (AJ _ (Bp _ hp))
inductive ForI (X:Cx)(pins:Aa (Ad × AV))(fp:Aa Ad)(tn:Ah→AF→Prop)(W:Ah→Ah→St→Hp→Prop)(n:Ah)(s':Ag):Prop
 |mk (i:Ah) (σ' : St) (H':Hp) (I:Inv X pins σ' H' s') (t:tn i s'.heap) (f:∀ b∈fp,H' b=none) (w:W i n σ' H'):ForI X pins fp tn W n s'
theorem B9 {iter:AC}{body:Aa Cy}{wi:TI}{g:TG}{tb:TS}{pos:Cz}(hp:IT (Ar X.prog X.w) X.A X.env X.xe)(hc:X.calm=true)(hi:PI X tg iter wi)(hg:PG X tg g)(hb:PSs X body tb)
  (hs:∀ x,Ch iter X.env x=pure x:=by intro _;rfl):PS X (.For tg iter body [] pos) (LE wi g tb):=by
 intro pins s σ H D I h;refine wpAny_For (thn (hi pins s σ H _ I h) fun v s1 h1=>thn h1 fun itv s2 h2=>?_) hs;obtain⟨it,fp,tn,J,H2,e,I2,T,st2,f2,W,⟨m0,w0⟩,turn⟩:=h2;subst e;have stat:∀ {H':Hp},(∀ b∈fp,H' b=none)→∀ b∈fp,xD X pins H' b:=fun hn b hb=>⟨hn b hb,(f2 b hb).2⟩;refine codeAny_forLoop_any (ForI X pins fp tn W) ?_ m0 ⟨0,σ,H2,I2,st2,fun b hb=>(f2 b hb).1,w0⟩;rintro n s3 ⟨i,σ3,H3,I3,st3,fr3,w3⟩;rcases turn i n σ3 H3 w3 with⟨stop,qn⟩|⟨go,N,hN,step⟩
 ·refine Fc hp (thn (T.done X rfl rfl rfl hc i pins s3 σ3 H3 X.xe I3 (stat fr3) st3 stop) fun r s4 ⟨hr,I4⟩=>?_)
  subst hr;exact Gv ⟨σ3,H3,I4,qn⟩
 ·refine Fc hp (thn (T.item X rfl rfl rfl hc i pins s3 σ3 H3 X.xe I3 (stat fr3) st3 go) fun r s4 ⟨u,hr,h4⟩=>?_)
  subst hr;refine Fc hp (thn h4 fun _ s5 ⟨x,H5,I5,r5,y5,st5,fr5⟩=>?_);have I5':=I5.pinned (stat fr5) (T.obj _ _ st5);refine Fc hp (thn (hg _ s5 σ3 H5 x u _ I5' r5 (step x H5 y5)) fun _ s6 ⟨σ6,H6,I6,q6⟩=>?_);refine Fc hp (thn (hb _ s6 σ6 H6 _ I6 q6) fun f s7 q7=>?_);have again:∀ {σ7:St} {H7:Hp},Inv X (pins++yQ fp s5.heap) σ7 H7 s7→N σ7 H7→∃ m,m<n∧ForI X pins fp tn W m s7:=fun {σ7 H7} I7 n7=>by
   obtain⟨m',hm,w7⟩:=hN σ7 H7 n7;refine⟨m',hm,i+1,σ7,H7,I7.unpinned,T.keep _ _ _ st5 fun b hb o e=>(I7.pin (b,o) (AJ _ (AJ _ (u8 hb e)))).1,fun b hb=>?_,w7⟩;obtain⟨o,e,d⟩:=T.obj _ _ st5 b hb;exact(I7.pin (b,o) (AJ _ (AJ _ (u8 hb e)))).2.1
  cases f with
  |next=>obtain⟨σ7,H7,I7,n7⟩:=q7;exact again I7 n7
  |cont=>obtain⟨σ7,H7,I7,n7⟩:=q7;exact again I7 n7
  |brk=>obtain⟨σ7,H7,I7,q7⟩:=q7;exact⟨σ7,H7,I7.unpinned,q7⟩
  |ret v=>obtain⟨x7,σ7,H7,I7,r7,q7⟩:=q7;exact⟨x7,σ7,H7,I7.unpinned,r7,q7⟩
end
end _L
namespace _L
open PySem PySem.Spec PyProof.Rows
abbrev R2:=V→V→Hp→VK→Prop
def OpR (X:Cx)(f:Ac→Ac→Fb Ac)(r:R2):Prop:=
 ∀ (pins:Aa (Ad × AV)) (s:Ag) (σ : St) (H:Hp) (x y:V) (v u:Ac) (Q:VK),Inv X pins σ H s→qK x v→qK y u→r x y H Q →
  An (Ar X.prog X.w) X.A (f v u) (EP X pins σ Q) X.xe s
def UnR (X:Cx)(f:Ac→Fb Ac)(r:V→Hp→VK→Prop):Prop:=
 ∀ (pins:Aa (Ad × AV)) (s:Ag) (σ : St) (H:Hp) (x:V) (v:Ac) (Q:VK),Inv X pins σ H s→qK x v→r x H Q →
  An (Ar X.prog X.w) X.A (f v) (EP X pins σ Q) X.xe s
def gO (X:Cx)(f:Ac)(r:Aa V→Hp→VK→Prop):Prop:=
 ∀ (pins:Aa (Ad × AV)) (s:Ag) (σ : St) (H:Hp) (xs:Aa V) (us:Aa Ac) (Q:VK),Inv X pins σ H s→qM xs us→r xs H Q →
  An (Ar X.prog X.w) X.A (call f us) (EP X pins σ Q) X.xe s
def NK (X:Cx)(r:V→Hp→(Ao→Hp→Prop)→Prop):Prop:=
 ∀ (pins:Aa (Ad × AV)) (s:Ag) (σ : St) (H:Hp) (x:V) (v:Ac) (Q:Ao→Hp→Prop),Inv X pins σ H s→qK x v→r x H Q →
  An (Ar X.prog X.w) X.A (truthy v) (TP X pins σ Q) X.xe s
def tOp (r:R2)(ta tb:TE):TE:=fun σ H Q=>ta σ H fun x H1=>tb σ H1 fun y H2=>r x y H2 Q
def rI (C:Aj→Aj→Prop)(g:Aj→Aj→V):R2:=fun x y H Q=>∃ i j,x=.int i∧y=.int j∧C i j∧Q (g i j) H
def rI0 (g:Aj→Aj→V):R2:=fun x y H Q=>∃ i j,x=.int i∧y=.int j∧Q (g i j) H
def rU (g:Aj→V):V→Hp→VK→Prop:=fun x H Q=>∃ i,x=.int i∧Q (g i) H
section
variable {X:Cx}{a b c:AC}{ta tb tc:TE}{pos:Cz}
theorem NN (ha:PE X a ta)(hb:PE X b tb){pins:Aa (Ad × AV)}{s:Ag}{σ : St}{H:Hp}{R:V→V→Hp→Prop}(I:Inv X pins σ H s)
  (h:ta σ H fun x H1=>tb σ H1 fun y H2=>R x y H2) {Q:Ac→Ag→Prop} {f:Ac→Ac→Fb Ac}
  (hf:∀ v u s2 x y H2,Inv X pins σ H2 s2→qK x v→qK y u→R x y H2→An (Ar X.prog X.w) X.A (f v u) Q X.xe s2) :
  An (Ar X.prog X.w) X.A (eval a X.env) (fun v s₁=>An (Ar X.prog X.w) X.A (eval b X.env) (fun u s₂=>An (Ar X.prog X.w) X.A (f v u) Q X.xe s₂) X.xe s₁) X.xe s:=by
 refine thn (ha pins s σ H _ I h) fun v s1 ⟨x,H1,I1,r1,q1⟩=>?_;refine thn (hb pins s1 σ H1 _ I1 q1) fun u s2 ⟨y,H2,I2,r2,q2⟩=>?_;exact hf v u s2 x y H2 I2 r1 r2 q2
theorem opI {f:Ac→Ac→Fb Ac}{C:Aj→Aj→Prop}{g:Aj→Aj→Aj}
  (rule:∀ (i j:Aj) (t u:Js) (s:Ag) (Q:Ac→Ag→Prop) (E:Ac→Ag→Prop),C i j→Q (.int (g i j) s.toks) { s with toks:=s.toks+1 } → An (Ar X.prog X.w) X.A (f (.int i t) (.int j u)) Q E s) :
  OpR X f (rI C fun i j=>.int (g i j)):=by
 intro pins s σ H x y v u Q I rx ry h;obtain⟨i,j,rfl,rfl,hc,q⟩:=h;obtain⟨t,rfl⟩:=rx;obtain⟨t',rfl⟩:=ry;exact rule i j t t' s _ _ hc ⟨.int (g i j),H,I.tok _,⟨_,rfl⟩,q⟩
theorem PH {f:Ac→Ac→Fb Ac}{g:Aj→Aj→Aj}
  (rule:∀ (i j:Aj) (t u:Js) (s:Ag) (Q:Ac→Ag→Prop) (E:Ac→Ag→Prop),Q (.int (g i j) s.toks) { s with toks:=s.toks+1 } → An (Ar X.prog X.w) X.A (f (.int i t) (.int j u)) Q E s) :
  OpR X f (rI0 fun i j=>.int (g i j)):=by
 intro pins s σ H x y v u Q I rx ry h;obtain⟨i,j,rfl,rfl,q⟩:=h;obtain⟨t,rfl⟩:=rx;obtain⟨t',rfl⟩:=ry;exact rule i j t t' s _ _ ⟨.int (g i j),H,I.tok _,⟨_,rfl⟩,q⟩
theorem eK {f:Ac→Ac→Fb Ac}{g:Aj→Aj→Ao}
  (rule:∀ (i j:Aj) (t u:Js) (s:Ag) (Q:Ac→Ag→Prop) (E:Ac→Ag→Prop),Q (.bool (g i j)) s→An (Ar X.prog X.w) X.A (f (.int i t) (.int j u)) Q E s) :
  OpR X f (rI0 fun i j=>.bl (g i j)):=by
 intro pins s σ H x y v u Q I rx ry h;obtain⟨i,j,rfl,rfl,q⟩:=h;obtain⟨t,rfl⟩:=rx;obtain⟨t',rfl⟩:=ry;exact rule i j t t' s _ _ ⟨.bl (g i j),H,I,rfl,q⟩
def NI (i j:Aj):Prop:=0<j∧j<1073741824
def NJ (i j:Aj):Prop:=0≤j∧j≤1000000∧i.natAbs<2 ^ 64
def oA (i j:Aj):Prop:=(-(2 ^ 64)<i∧i<2 ^ 64)∨(-(2 ^ 64)<j∧j<2 ^ 64)
theorem oA.ok {i j:Aj}(h:oA i j):IntMulOk i j:=by
 rcases h with⟨h1,h2⟩|⟨h1,h2⟩
 ·exact .of_left (intBits_le_64 h1 h2)
 ·exact .of_right (intBits_le_64 h1 h2)
theorem PM:OpR X (Ci .Add) (rI0 fun i j=>.int (i+j)):=PH fun _ _ _ _ _ _ _ q=>add_int q
theorem PU:OpR X (Ci .Sub) (rI0 fun i j=>.int (i-j)):=PH fun _ _ _ _ _ _ _ q=>sub_int q
theorem PQ:OpR X (Ci .Mult) (rI oA fun i j=>.int (i*j)):=opI fun _ _ _ _ _ _ _ hc q=>mul_int q hc.ok
theorem VC:OpR X (Ci .FloorDiv) (rI NI fun i j=>.int (i/j)):=opI fun i j _ _ _ _ _ hc q=>by
 have h1:(0:Aj)<j:=hc.1;have h2:j<1073741824:=hc.2;exact floordiv_int om (by rw[Int.fdiv_eq_ediv_of_nonneg i om];exact q) (.inl (PyProof.noPylong_small om))
theorem PP:OpR X (Ci .Mod) (rI (fun _ j=>0<j) fun i j=>.int (i % j)):=opI fun i j _ _ _ _ _ hc q=>by
 have h1:(0:Aj)<j:=hc;exact mod_int' om (by rw[Int.fmod_eq_emod_of_nonneg i om];exact q)
theorem PR:OpR X (Ci .Pow) (rI NJ fun i j=>.int (i ^ j.toNat)):=opI fun _ _ _ _ _ _ _ hc q=>pow_int_small hc.1 hc.2.1 hc.2.2 q
theorem unI {f:Ac→Fb Ac}{g:Aj→Aj}
  (rule:∀ (i:Aj) (t:Js) (s:Ag) (Q:Ac→Ag→Prop) (E:Ac→Ag→Prop),Q (.int (g i) s.toks) { s with toks:=s.toks+1 } → An (Ar X.prog X.w) X.A (f (.int i t)) Q E s) :
  UnR X f (rU fun i=>.int (g i)):=by
 intro pins s σ H x v Q I rx h;obtain⟨i,rfl,q⟩:=h;obtain⟨t,rfl⟩:=rx;exact rule i t s _ _ ⟨.int (g i),H,I.tok _,⟨_,rfl⟩,q⟩
theorem FO:UnR X (Ms .USub) (rU fun i=>.int (-i)):=unI fun _ _ _ _ _ q=>neg_int q
end
section
variable {X:Cx}{a b c:AC}{ta tb tc:TE}{pos:Cz}
theorem KO {pins:Aa (Ad × AV)}{σ : St}{H:Hp}{s:Ag}{Q:VK}{k k':Ao}(I:Inv X pins σ H s)(q:Q (.bl k) H)(e:k=k'):EP X pins σ Q (.bool k') s:=by
 subst e;exact⟨.bl k,H,I,rfl,q⟩
theorem T6:OpR X (Bj .Lt) (rI0 fun i j=>.bl (decide (i<j))):=eK fun _ _ _ _ _ _ _ q=>lt_int q
theorem T4:OpR X (Bj .LtE) (rI0 fun i j=>.bl (decide (i≤j))):=eK fun _ _ _ _ _ _ _ q=>le_int q
theorem T3:OpR X (Bj .Gt) (rI0 fun i j=>.bl (decide (j<i))):=eK fun _ _ _ _ _ _ _ q=>gt_int q
theorem T0:OpR X (Bj .GtE) (rI0 fun i j=>.bl (decide (j≤i))):=eK fun _ _ _ _ _ _ _ q=>ge_int q
theorem PN:OpR X (Bj .Is) (fun x y H Q=>y=.non∧Q (.bl (decide (x=.non))) H):=by
 intro pins s σ H x y v u Q I rx ry h;obtain⟨rfl,q⟩:=h;cases ry;refine is_none_gen (KO I q ?_);cases x <;> first
  |(cases rx;rfl)
  |(obtain⟨t,rfl⟩:=rx;rfl)
theorem OpR.or {f:Ac→Ac→Fb Ac}{r r':R2}(h:OpR X f r)(h':OpR X f r'):OpR X f (fun x y H Q=>r x y H Q∨r' x y H Q):=by
 intro pins s σ H x y v u Q I rx ry q;rcases q with q|q
 ·exact h pins s σ H x y v u Q I rx ry q
 ·exact h' pins s σ H x y v u Q I rx ry q
theorem jG (b:AC){op:Lw}(h:op≠.In:=by decide)(h2:op≠.NotIn:=by decide):ET op b=false:=by
 have e1:(op == CmpOp.In)=false:=by cases op <;> first|rfl|exact absurd rfl h
 have e2:(op == CmpOp.NotIn)=false:=by cases op <;> first|rfl|exact absurd rfl h2
 cases b <;> simp[ET,e1,e2]
def rM (K:Ai)(x:V)(H:Hp)(k:Ao):Prop:=
 match x with
 |.non=>k=false
 |.bl b=>k=b
 |.int i=>k=(i != 0)
 |.str y=>y.length≤sizeLine∧k=((y.length:Aj) != 0)
 |.byt y=>y.size≤sizeLine∧k=((y.size:Aj) != 0)
 |.ref p=>(∃ xs,SqL K H p xs∧k=!xs.isEmpty)∨(∃ xs,SqT K H p xs∧k=!xs.isEmpty)∨∃ kvs,H p=Ab (.dK kvs)∧k=!kvs.isEmpty
 |_=>Cq
theorem eD {κ : Type}{kvs:Aa (κ × V)}{vs:Aa (κ × Ac)}(r:KV kvs vs):(!vs.isEmpty)=!kvs.isEmpty:=by
 cases r <;> rfl
theorem bF {xs:Aa V}{its:Aa Ac}(r:qM xs its):(!its.toArray.isEmpty)=!xs.isEmpty:=by
 cases r <;> simp
theorem gC:(sizeLine:Ah)<2 ^ 63:=by rw[Dn];decide
theorem bR:NK X (fun x H Q=>∃ k,rM X.K x H k∧Q k H):=by
 intro pins s σ H x v Q I rx h;obtain⟨k,e,q⟩:=h;have hl:=gC;have hs:sizeLine=16777216:=Dn;cases x with
 |non =>
  cases rx;have e':k=false:=e;subst e';exact truthy_none ⟨H,I,q⟩
 |bl b =>
  cases rx;have e':k=b:=e;subst e';exact Lx ⟨H,I,q⟩
 |int i =>
  obtain⟨t,rfl⟩:=rx;have e':k=(i != 0):=e;subst e';exact PySem.P.truthy_int ⟨H,I,q⟩
 |str y =>
  obtain⟨t,rfl⟩:=rx;obtain⟨hy,e'⟩:y.length≤sizeLine∧k=((y.length:Aj) != 0):=e;subst e';exact PySem.P.truthy_str om ⟨H,I.tok _,q⟩
 |byt y =>
  obtain⟨t,rfl⟩:=rx;obtain⟨hy,e'⟩:y.size≤sizeLine∧k=((y.size:Aj) != 0):=e;subst e';exact PySem.W.truthy_bytes om ⟨H,I.tok _,q⟩
 |ref p =>
  cases rx;have e':(∃ xs,SqL X.K H p xs∧k=!xs.isEmpty)∨(∃ xs,SqT X.K H p xs∧k=!xs.isEmpty)∨∃ kvs,H p=Ab (.dK kvs)∧k=!kvs.isEmpty:=e;rcases e' with⟨xs,hx,e'⟩|⟨xs,hx,e'⟩|⟨kvs,hx,e'⟩
  ·subst e'
   obtain⟨its,r,pl,hz⟩:=I.list hx;have hlen:=r.length;exact wpAny_truthy_list pl.isList (by simp only[AB];omega) ⟨H,I.tok _,by rw[bF r];exact q⟩
  ·subst e'
   obtain⟨its,r,pl,hz⟩:=I.tuple hx;have hlen:=r.length;exact truthy_tuple pl (by simp only[AB];omega) ⟨H,I.tok _,by rw[bF r];exact q⟩
  ·subst e'
   obtain⟨hz,hS,vs,r,m⟩:kvs.length≤sizeLine∧(p == En)=false∧∃ vs,KV kvs vs∧s.heap.DictOf (zW X.prog X.w) p vs:=I.hok p _ hx;have hlen:kvs.length=vs.length:=Paired.length r;exact wpAny_truthy_dict hS m om ⟨H,I.tok _,by rw[eD r];exact q⟩
 |_=>exact(show Cq from e).elim
theorem eM:OpR X (Ci .Add) (fun x y H Q=>∃ i j,x=.str i∧y=.str j∧i.length+j.length≤sizeLine∧Q (.str (i++j)) H):=by
 intro pins s σ H x y v u Q I rx ry h;obtain⟨i,j,rfl,rfl,hz,q⟩:=h;obtain⟨t,rfl⟩:=rx;obtain⟨t',rfl⟩:=ry;exact add_str (fun t' tk=>⟨.str (i++j),H,I.tok _,⟨_,rfl⟩,q⟩) hz
theorem p7 {x:V}{us:Aa Ac}(r:qM [x] us):∃ u,us=[u]∧qK x u:=by
 cases r with
 |cons r1 r2=>cases r2;exact⟨_,rfl,r1⟩
theorem eZ {x y:V}{us:Aa Ac}(r:qM [x,y] us):∃ u w',us=[u,w']∧qK x u∧qK y w':=by
 cases r with
 |cons r1 r2 =>
  cases r2 with
  |cons r3 r4=>cases r4;exact⟨_,_,rfl,r1,r3⟩
theorem mG:gO X (.type "int") (fun xs H Q=>(∃ i,xs=[.int i]∧Q (.int i) H)∨∃ k,xs=[.bl k]∧Q (.int (if k then 1 else 0)) H):=by
 intro pins s σ H xs us Q I r h;rcases h with⟨i,rfl,q⟩|⟨k,rfl,q⟩
 ·obtain⟨u,rfl,t,rfl⟩:=p7 r
  exact call_int_int ⟨.int i,H,I,⟨_,rfl⟩,q⟩
 ·obtain⟨u,rfl,r1⟩:=p7 r
  cases r1;exact call_int_bool ⟨.int (if k then 1 else 0),H,I.tok _,⟨_,rfl⟩,q⟩
def UZ (K:Ai)(x:V)(H:Hp)(n:Ah):Prop:=
 match x with
 |.str y=>y.length≤sizeLine∧n=y.length
 |.byt y=>y.size≤sizeLine∧n=y.size
 |.ref p=>(∃ xs,SqL K H p xs∧n=xs.length)∨∃ xs,SqT K H p xs∧n=xs.length
 |_=>Cq
theorem oO:gO X (.builtin "len") (fun xs H Q=>∃ x n,xs=[x]∧UZ X.K x H n∧Q (.int n) H):=by
 intro pins s σ H xs us Q I r h;obtain⟨x,n,rfl,e,q⟩:=h;obtain⟨u,rfl,rx⟩:=p7 r;have hl:=gC;have hs:sizeLine=16777216:=Dn;cases x with
 |str y =>
  obtain⟨t,rfl⟩:=rx;obtain⟨hy,e'⟩:y.length≤sizeLine∧n=y.length:=e;subst e';exact len_str om ⟨.int _,H,I.tok _,⟨_,rfl⟩,q⟩
 |byt y =>
  obtain⟨t,rfl⟩:=rx;obtain⟨hy,e'⟩:y.size≤sizeLine∧n=y.size:=e;subst e';exact PySem.W.len_bytes om ⟨.int _,H,I.tok _,⟨_,rfl⟩,q⟩
 |ref p =>
  cases rx;have e':(∃ xs,SqL X.K H p xs∧n=xs.length)∨∃ xs,SqT X.K H p xs∧n=xs.length:=e;rcases e' with⟨xs,hx,e'⟩|⟨xs,hx,e'⟩
  ·subst e'
   obtain⟨its,r',pl,hz⟩:=I.list hx;have hlen:=r'.length;exact Calls.call_len_list pl.isList (by simp only[AB];omega) ⟨.int xs.length,H,I.tok _,⟨_,by simp only[AB];rw[hlen]⟩,q⟩
  ·subst e'
   obtain⟨its,r',pl,hz⟩:=I.tuple hx;have hlen:=r'.length;exact len_tuple pl (by simp only[AB];omega) ⟨.int xs.length,H,I.tok _,⟨_,by simp only[AB];rw[hlen]⟩,q⟩
 |_=>exact(show Cq from e).elim
end
end _L
namespace _L
open PySem PySem.Spec PyProof.Rows
structure ObjM (h:AF)(x dx C:Ad)(mA:As→Ak Ac):Prop where
 obj:h.get? x=Ab (IC C dx)
 ns:h.Ns1 dx mA
 ne:dx≠x
set_option tactic.hygienic true in
theorem aK {h:AF}{dx:Ad}{mA:As→Ak Ac}(n:h.Ns1 dx mA):∃ od,h.get? dx=Ab od∧∀ name,Jg name od=Ab (mA name):=by
 obtain⟨o,es,ep,ho,hd,hk,_,hm⟩:=n;refine⟨o,ho,fun name=>?_⟩;have e:=hm name;unfold nsFind findBy at e;rw[← Array.find?_toList] at e;unfold Jg;rw[hd];dsimp only
 split
 ·rename_i y q
  rw[q] at e;exact congrArg Ab e
 ·rename_i q
  rw[q] at e;have a:es.toList.any (·.refKey)=false:=by
   rw[List.any_eq_false];intro y hy;obtain⟨z,t,hkey⟩:=hk y (Array.mem_toList_iff.mp hy);simp[DictEntry.refKey,hkey]
  have a':¬ es.toList.any (·.refKey)=true:=by rw[a];exact Dh
  rw[A0 a'];exact congrArg Ab e
theorem ObjM.look {h:AF}{x dx C:Ad}{mA:As→Ak Ac}(I:ObjM h x dx C mA):∃ od,PySem.W.InstAt h x (IC C dx) C (Ab od)∧∀ name,Jg name od=Ab (mA name):=
 let ⟨od,ho,hl⟩:=aK I.ns
 ⟨od,⟨I.obj,rfl,rfl,ho⟩,hl⟩
theorem yW.some_of {v:V}{o:Ak Ac}(r:yW (Ab v) o):∃ u,o=Ab u∧qK v u:=by
 cases o with
 |none=>exact(show Cq from r).elim
 |some u=>exact⟨u,rfl,r⟩
section
variable {P:A5}{w:AO}{H H':Hp}{h h':AF}{a C dx:Ad}{fs fs':Aa (As × V)}
theorem YF (hok:HOk P w H h)(e:H a=Ab (.ins C dx fs)):∃ mA,ObjM h a dx C mA∧(∀ f,yW (fs.lookup f) (mA f))∧OJ mA (fs.map (·.1))∧fs.length≤1000∧H dx=Ab (.own a):=by
 obtain⟨d,z,ne,ob,mA,n,r,q⟩:=(show zJ P w H h a (.ins C dx fs) from hok a _ e)
 exact⟨mA,⟨ob,n,ne⟩,r,q,z,d⟩
end
structure Cls (K:Ai)(C:Ad):Prop where
 pg:Mt K C EU=true
 hd:PySem.W.hasDictIn K C=true
 po:PySem.W.plainOver K C=true
 sa:Fx K (.ref C) "__setattr__" = Ab (Ab (.builtin "object.__setattr__"))
theorem Cls.get {K:Ai}{C:Ad}(c:Cls K C)(f:As):Mt K C f=true:=c.pg
section
variable {X:Cx}{pins:Aa (Ad × AV)}{σ : St}{H:Hp}{s:Ag}{A:A8}{E:Ac→Ag→Prop}{Q:Ac→Ag→Prop}{c:Ac}{b:Ao}
inductive TyOf (K:Ai)(H:Hp):V→Ac→Prop where
 |non:TyOf K H .non (.type "NoneType")
 |bl (x:Ao):TyOf K H (.bl x) (.type "bool")
 |int (i:Aj):TyOf K H (.int i) (.type "int")
 |str (x:As):TyOf K H (.str x) (.type "str")
 |flt (x:UInt64):TyOf K H (.flt x) (.type "float")
 |lst {a:Ad} {xs:Aa V} (e:H a=Ab (.lst xs)):TyOf K H (.ref a) (.type "list")
 |frz {a:Ad} {o:AV} {xs:Aa V} (e:H a=Ab (.frz o (.lst xs))):TyOf K H (.ref a) (.type "list")
 |tup {a:Ad} {xs:Aa V} (e:H a=Ab (.tup xs)):TyOf K H (.ref a) (.type "tuple")
 |dK {a:Ad} {kvs:Aa (Key × V)} (e:H a=Ab (.dK kvs)):TyOf K H (.ref a) (.type "dict")
 |dT {a:Ad} {kvs:Aa (Aa Key × V)} (e:H a=Ab (.dT kvs)):TyOf K H (.ref a) (.type "dict")
 |ins {a C dx:Ad} {fs:Aa (As × V)} (e:H a=Ab (.ins C dx fs)) (cl:Cls K C) (ha:Fx K (.ref C) "__class__" = Ab (Ab (.builtin "object.__class__")))
   (hn:Ly K (.builtin "object.__class__") "__get__" = Ab (Ab (.builtin "getset_descriptor.__get__"))) (htk:Np K (.builtin "object.__class__")=Ab true)
   (hm:Jv K C (.type "object")=Ab true):TyOf K H (.ref a) (.ref C)
theorem aD {x:V}{u t:Ac}(I:Inv X pins σ H s)(rx:qK x u)(ty:TyOf X.K H x t)(e:EJ X.K t c=Ab b)(h:∀ tk,Q (.bool b) { s with toks:=tk }) :
  An (Ar X.prog X.w) A (call (.builtin "isinstance") [u,c]) Q E s:=by
 cases ty with
 |non=>cases (show u=Br from rx);exact Ca PySem.W.kitx_none I.kIn Eo e (fun z=>nomatch z) h
 |bl y=>cases (show u=CN y from rx);exact Ca PySem.W.kitx_bool I.kIn Eo e (fun z=>nomatch z) h
 |int i=>obtain⟨t,q⟩:=(show ∃ t,u=Lr i t from rx);cases q;exact Ca PySem.W.kitx_int I.kIn Eo e (fun z=>nomatch z) h
 |str y=>obtain⟨t,q⟩:=(show ∃ t,u=Ls y t from rx);cases q;exact Ca PySem.W.kitx_str I.kIn Eo e (fun z=>nomatch z) h
 |flt y=>obtain⟨t,q⟩:=(show ∃ t,u=OV y t from rx);cases q;exact Ca PySem.W.kitx_float I.kIn Eo e (fun z=>nomatch z) h
 |@lst a xs ea =>
  cases (show u=AY a from rx)
  obtain⟨_,_,n,_,h1⟩:=(show zJ X.prog X.w H s.heap a (.lst xs) from I.hok a _ ea)
  exact Ca HE I.kIn ⟨_,h1,rfl⟩ e (fun z=>nomatch z) h
 |@frz a ob xs ea =>
  cases (show u=AY a from rx)
  obtain⟨_,_,_,n,_,h1⟩:=(show zJ X.prog X.w H s.heap a (.frz ob (.lst xs)) from I.hok a _ ea)
  exact Ca HE I.kIn ⟨_,h1,rfl⟩ e (fun z=>nomatch z) h
 |@tup a xs ea =>
  cases (show u=AY a from rx)
  obtain⟨_,_,_,p⟩:=(show zJ X.prog X.w H s.heap a (.tup xs) from I.hok a _ ea)
  obtain⟨o,h1,h2,_⟩:=p;exact Ca Kr I.kIn ⟨o,h1,h2⟩ e (fun z=>nomatch z) h
 |@dK a kvs ea =>
  cases (show u=AY a from rx)
  obtain⟨_,_,vs,_,p⟩:=(show zJ X.prog X.w H s.heap a (.dK kvs) from I.hok a _ ea)
  obtain⟨o,es,ep,h1,h2,_⟩:=p;exact Ca Lz I.kIn ⟨o,h1,h2.1⟩ e (fun z=>nomatch z) h
 |@dT a kvs ea =>
  cases (show u=AY a from rx)
  obtain⟨_,_,xs,_,o,es,ep,h1,h2,_⟩:=(show zJ X.prog X.w H s.heap a (.dT kvs) from I.hok a _ ea)
  exact Ca Lz I.kIn ⟨o,h1,h2.1⟩ e (fun z=>nomatch z) h
 |@ins a C dx fs ea cl ha hn htk hm =>
  cases (show u=AY a from rx)
  obtain⟨mA,O,_⟩:=YF I.hok ea;obtain⟨od,J,_⟩:=O.look;exact Ca (PySem.W.kitx_own (cl.get _) cl.hd ha hn htk hm) I.kIn J e (fun z=>nomatch z) h
end
end _L
namespace _L
open PySem PySem.Spec PyProof.Rows
structure Room (k:Ah)(A:A8):Prop where
 hd:A.handled=none
 dp:A.depth+3*k+5<Hm
 un:A.units+16*k+200<CI
 gd:A.guards=Ab []
theorem Room.deeper {k:Ah}{A:A8}(r:Room (k+1) A)(env:EA):Room k (A.deeper env):=
 ⟨r.hd,by have:=r.dp;show A.depth+1+3*k+5<_;omega,by have:=r.un;show A.units+3+16*k+200<_;omega,r.gd⟩
theorem Room.depth {k:Ah}{A:A8}(r:Room k A):A.depth<Hm:=by have:=r.dp;omega
theorem Room.units {k:Ah}{A:A8}(r:Room k A):A.units+64<CI:=by have:=r.un;omega
def LH:TA:=fun _ H Q=>Q [] H
section
variable {X:Cx}{e:AC}{es:Aa AC}{te:TE}{t:TA}{pos:Cz}
theorem PV:PA X [] LH:=fun _ _ _ _ H Q I h=>HF ⟨[],H,I,.nil,h⟩
def LK (t:TA):TE:=fun σ H Q=>t σ H fun xs H1=>xs.length≤sizeLine∧∀ p,H1 p=none→Q (.ref p) (upd H1 p (.tup xs))
def LG (t:TA):TE:=fun σ H Q=>t σ H fun xs H1=>xs.length≤sizeLine∧∀ p,H1 p=none→Q (.ref p) (upd H1 p (.lst xs))
theorem B3 {x1} (h:PA X es t):PE X (.Tuple es x1 pos) (LK t):=by
 intro pins s σ H Q I hq;refine wpAny_Tuple_spliced (thn (h pos pins s σ H _ I hq) fun us s1 ⟨xs,H1,I1,r,z,q⟩=>⟨by rw[← r.length];exact z,?_⟩)
 have hf:H1 s1.heap.objs.size=none:=I1.hok.fresh (Aw _);refine⟨.ref s1.heap.objs.size,upd H1 s1.heap.objs.size (.tup xs),I1.laid (t':=s1.toks) (fun b u e=>Al _ e) (Aw _) ?_,rfl,q _ hf⟩;exact⟨z,us,r,⟨_,AN _ rfl,rfl,_,rfl⟩⟩
theorem i9 (h:PA X es t):PE X (.List es pos) (LG t):=by
 intro pins s σ H Q I hq;refine wpAny_List_spliced (thn (h pos pins s σ H _ I hq) fun us s1 ⟨xs,H1,I1,r,z,q⟩=>⟨by rw[← r.length];exact z,?_⟩)
 have hf:H1 s1.heap.objs.size=none:=I1.hok.fresh (Aw _);refine⟨.ref s1.heap.objs.size,upd H1 s1.heap.objs.size (.lst xs),I1.laid (t':=s1.toks) (fun b u e=>Al _ e) (Aw _) ?_,rfl,q _ hf⟩;exact⟨z,us,0,r,AN _ rfl⟩
end
abbrev Sp:=Aa V→Hp→VK→XK→Prop
abbrev CXT:=Aa EA→Hp→Ag→XK→Ac→Ag→Prop
structure Env0 (P:A5)(w:AO)(K:Ai)(mg:As→Ak Ac)(base:AF)(A:A8)(outer:Aa EA)(s:Ag)(H:Hp):Prop where
 frames:A.frames=Ab outer
 mod:Mod K mg base
 bs:∀ b o,base.get? b=Ab o→s.heap.get? b=Ab o∧H b=none
 bsz:base.objs.size≤s.heap.objs.size
 funs:s.heap.FunFrames base outer
 frf:∀ b∈frs outer,H b=none
 hok:HOk P w H s.heap
 bare:Gh s.gens
def CE (outer:Aa EA)(P:A5)(w:AO)(H:Hp)(s:Ag)(Q:VK)(u:Ac)(s':Ag):Prop:=
 ∃ v H',s'.os=s.os∧Gh s'.gens∧Un (frs outer) [] H H' s.heap s'.heap∧HOk P w H' s'.heap∧qK v u∧Q v H'
def CR (CX:CXT)(outer:Aa EA)(P:A5)(w:AO)(H:Hp)(s:Ag)(Q:VK)(E:XK)(r:IU)(s':Ag):Prop:=
 match r with
 |.ok (.ret u)=>CE outer P w H s Q u s'
 |.ok _=>Cq
 |.error e=>CX outer H s E e s'
structure FnOk (P:A5)(w:AO)(K:Ai)(mg:As→Ak Ac)(base:AF)(CX:CXT)(k:Ah)(f:Ad)(fd:CM)(ps:Aa As)(sp:Sp):Prop where
 len:∀ vs H Q E,sp vs H Q E→vs.length=ps.length
 run:∀ (A:A8) (outer:Aa EA) (s:Ag) (H:Hp) (args:Args) (us:Aa Ac) (vs:Aa V) (Q:VK) (E:XK),Room k A→Env0 P w K mg base A outer s H→Hg s fd args (ps.zip us)→qM vs us→sp vs H Q E →
  Ec (Ar P w) A (.call (.ref f) args) (CR CX outer P w H s Q E) s
section
variable {X:Cx}{pins:Aa (Ad × AV)}{σ : St}{H:Hp}{s s':Ag}
theorem Inv.env0 (I:Inv X pins σ H s):Env0 X.prog X.w X.K X.mg X.base X.A X.stack s H:=
 ⟨I.ok.frames,I.ok.mod,I.bs,Ce I.ok.bsz I.sz,I.stack,I.stkFree,I.hok,I.bare⟩
theorem Inv.after {Q:VK}{u:Ac}(I:Inv X pins σ H s)(h:CE X.stack X.prog X.w H s Q u s'):EP X pins σ Q u s':=by
 obtain⟨v,H',os,bare,un,hok,r,q⟩:=h;obtain⟨hh,g,d,t,os'⟩:=s';obtain rfl:os'=s.os:=os;exact⟨v,H',I.call (h':=hh) (g':=g) (d':=d) (t':=t) (ch:=[]) un hok bare (fun b z=>absurd z (by simp)),r,q⟩
end
def vH (K:Ai)(fd:CM)(ps:Aa As)(ds:Aa Ac):Prop:=
 ∀ (s:Ag) (us:Aa Ac),K.In s.heap→(us++ds).length=ps.length→Hg s fd ⟨us,[]⟩ (ps.zip (us++ds))
theorem vH.all {K:Ai}{fd:CM}{ps:Aa As}(h:∀ us:Aa Ac,us.length=ps.length→Nq fd ⟨us,[]⟩=pure (ps.zip us)):vH K fd ps []:=fun s us _ hl=>by
 rw[Dr] at hl ⊢;exact .of_eq (h us hl)
structure FnScope (N P:Aa As)(sc:CS):Prop where
 kind:sc.kind=.function
 co:sc.isCoroutine=false
 gen:sc.isGenerator=false
 nd:N.Nodup
 pre:N.take P.length=P
 par:∀ x∈P,sc.names.lookup x=Ab .local ∨ sc.names.lookup x=Ab .cell
 nofree:∀ y∈sc.names,y.2≠.free
theorem mE {kindOf:As→Ak Ea}{x:As}:∀ {binds:Aa (As × Ac)} {m:As→Ak Ac},(∀ v,(x,v) ∉ binds)→Jw kindOf binds m x=m x
 |[],_,_=>rfl
 |(n,v)::r,m,h=>by
  unfold Jw;rw[mE fun w hw=>h w (AK _ hw)]
  split
  ·have:x≠n:=by rintro rfl;exact h v Bu
   simp[this]
  ·rfl
theorem mC {kindOf:As→Ak Ea}{x:As}:∀ {binds:Aa (As × Ac)} {m:As→Ak Ac},(∀ v,(x,v) ∉ binds)→Jx kindOf binds m x=m x
 |[],_,_=>rfl
 |(n,v)::r,m,h=>by
  unfold Jx;rw[mC fun w hw=>h w (AK _ hw)]
  split
  ·rfl
  ·have:x≠n:=by rintro rfl;exact h v Bu
   simp[this]
theorem mD {kindOf:As→Ak Ea}{x:As}{v:Ac}:∀ {P:Aa As} {vs:Aa Ac} {i:Ah} {m:As→Ak Ac},P.Nodup→P[i]? = Ab x→vs[i]? = Ab v→kindOf x=Ab .local →
  Jw kindOf (P.zip vs) m x=Ab v
 |[],_,_,_,_,h,_,_=>by simp at h
 |_::_,[],_,_,_,_,h,_=>by simp at h
 |p::P,w::vs,0,m,nd,h1,h2,hk=>by
  simp at h1 h2;subst h1;subst h2;show Jw kindOf ((p,w)::P.zip vs) m p=_;unfold Jw;rw[mE fun v hv=>(Gw.mp nd).1 (Gy hv).1,AA hk];simp
 |p::P,w::vs,i+1,m,nd,h1,h2,hk=>by
  show Jw kindOf ((p,w)::P.zip vs) m x=_;unfold Jw;exact mD (i:=i) (Gw.mp nd).2 (by simpa using h1) (by simpa using h2) hk
theorem mB {kindOf:As→Ak Ea}{x:As}{v:Ac}:∀ {P:Aa As} {vs:Aa Ac} {i:Ah} {m:As→Ak Ac},P.Nodup→P[i]? = Ab x→vs[i]? = Ab v→kindOf x≠Ab .local →
  Jx kindOf (P.zip vs) m x=Ab v
 |[],_,_,_,_,h,_,_=>by simp at h
 |_::_,[],_,_,_,_,h,_=>by simp at h
 |p::P,w::vs,0,m,nd,h1,h2,hk=>by
  simp at h1 h2;subst h1;subst h2;show Jx kindOf ((p,w)::P.zip vs) m p=_;unfold Jx;rw[mC fun v hv=>(Gw.mp nd).1 (Gy hv).1,A0 hk];simp
 |p::P,w::vs,i+1,m,nd,h1,h2,hk=>by
  show Jx kindOf ((p,w)::P.zip vs) m x=_;unfold Jx;exact mB (i:=i) (Gw.mp nd).2 (by simpa using h1) (by simpa using h2) hk
def xV (N:Aa As)(vs:Aa V):St:=vs.map Ab++Bg (N.length-vs.length) none
def bZ (CX:CXT)(P:A5)(w:AO)(K:Ai)(mg:As→Ak Ac)(base:AF)(N:Aa As)(qual:As)(scope:CS)(f:Ad)(cd:Ac)(A:A8)(outer:Aa EA)(s:Ag)(H:Hp)(E:XK):Cx where
 prog:=P
 w:=w
 K:=K
 mg:=mg
 base:=base
 A:=A.deeper (Dk qual scope s.heap.objs.size f cd)
 N:=N
 s₀:=s
 H₀:=H
 env:=Dk qual scope s.heap.objs.size f cd
 outer:=outer
 stack:=Dk qual scope s.heap.objs.size f cd::outer
 ex:=[]
 calm:=true
 fn:=fun _=>true
 pn:=[]
 xe:=fun e s'=>An (Ar P w) (A.deeper (Dk qual scope s.heap.objs.size f cd)) (leaving (Dk qual scope s.heap.objs.size f cd) e) (fun _ s''=>CX outer H s E e s'') (fun e' s''=>CX outer H s E e' s'') s'
theorem tX {sc:CS}{n:Ah}{x:As}(h:sc.names.lookup x=Ab .cell):∃ c,(IV n sc.names []).lookup x=Ab c:=by
 have q:=Gc sc.names n [] (.inl h);exact Option.isSome_iff_exists.mp q
theorem mM {CX:CXT}{P:A5}{w:AO}{K:Ai}{mg:As→Ak Ac}{base:AF}{N ps:Aa As}{qual:As}{scope:CS}{f:Ad}{cd:Ac}{A:A8}{outer:Aa EA}{s s1:Ag}{H:Hp}{E:XK}{us:Aa Ac}{vs:Aa V}
  (S:FnScope N ps scope) (hd:A.handled=none) (e0:Env0 P w K mg base A outer s H) (hl:vs.length=ps.length) (r:qM vs us)
  (x:InCallC s s.heap.objs.size (Jw (Dk qual scope s.heap.objs.size f cd).kindOf (ps.zip us) fun _=>none) (IV (s.heap.objs.size+1) scope.names []) (Jx (Dk qual scope s.heap.objs.size f cd).kindOf (ps.zip us) fun _=>none) s1) :
  Inv (bZ CX P w K mg base N qual scope f cd A outer s H E) [] (xV N vs) H s1:=by
 have hpl:ps.length≤N.length:=by have:=congrArg Ep S.pre;rw[DQ] at this;omega
 obtain⟨h1,tk,rfl,hk⟩:=x.done;have noA:∀ b:Ad,b ∉ (bZ CX P w K mg base N qual scope f cd A outer s H E).ex:=fun b z=>absurd (show b∈([]:Aa Ad) from z) (by simp)
 refine⟨⟨e0.mod,S.kind,rfl,rfl,Aw _,fun y z c h1 h2=>?_,fun y hy=>?_,fun y c _ h=>?_,fun _=>hd,Jk e0.frames,.inr ⟨rfl,rfl⟩,fun b z=>absurd z (noA b),e0.bs,e0.bsz,fun b _ _=>noA b,fun b z=>absurd z (noA b),e0.funs,e0.frf⟩,
  rfl,e0.bare,Un.kept hk,⟨_,x.toInCall.ns,fun i y v h1 h2 h3=>?_⟩,fun y c h=>⟨_,x.cell y c h⟩,e0.hok.fresh (Aw _),fun y c h=>?_,fun p hp=>absurd (show p∈([]:Aa (Ad × AV)) from hp) (by simp),e0.hok.kept hk,?_⟩
 ·exact name_of_addr x.apart (CC h1) (CC h2)
 ·have hy:scope.names.lookup y=Ab .cell∨scope.names.lookup y=Ab .free:=hy
  rcases hy with hy|hy
  ·exact tX hy
  ·exact absurd rfl (S.nofree _ (CC hy))
 ·exact Kz (x.above y c (CC h))
 ·have hi:i<vs.length:=by
   unfold xV at h2;by_cases hi:i<vs.length
   ·exact hi
   ·rw[Cd (by simpa using hi)] at h2
    rw[Fq] at h2
    split at h2 <;> cases h2
  have ha:vs[i]? = Ab v:=by
   unfold xV at h2;rw[AG (by simpa using hi),CD] at h2
   cases e:vs[i]? with
   |none=>rw[e] at h2;cases h2
   |some a=>rw[e] at h2;cases h2;rfl
  obtain⟨u,hu,rv⟩:=r.get ha;have hp:ps[i]? = Ab y:=by
   rw[← S.pre,HN om];exact h1
  have ndP:ps.Nodup:=by rw[← S.pre];exact S.nd.sublist (Ma _ _)
  refine⟨u,rv,?_⟩;rcases S.par y (DM hp) with k|k
  ·exact .inl ⟨k,mD ndP hp hu k⟩
  ·obtain⟨c,e⟩:=tX (n:=s.heap.objs.size+1) k
   refine .inr ⟨.inl k,c,e,?_⟩;have q:=x.cell y c e;rw[mB ndP hp hu (by show scope.names.lookup y≠_;rw[k];decide)] at q
   exact q
 ·exact e0.hok.fresh (Kz (x.above y c (CC h)))
 ·unfold xV
  show _=N.length;rw[AW,A9,List.length_replicate];omega
theorem MC {CX:CXT}{P:A5}{w:AO}{K:Ai}{mg:As→Ak Ac}{base:AF}{k:Ah}{f:Ad}{name qual:As}{params:Arguments}{body:Aa Cy}{scope:CS}{dV kV doc pm cdv ct oc:Ac}{an od:Ak Ad}
  {osl:A4 (Ak Ac)} {N ps:Aa As} {sp:Sp} (lk:K.lookup f=Ab ⟨oc,od,.func (Dy name qual params body scope dV kV doc pm an cdv ct),osl⟩) (hcd:Fy K cdv qual=true) (S:FnScope N ps scope)
  (len:∀ vs H Q E,sp vs H Q E→vs.length=ps.length)
  (hbody:∀ (A:A8) (outer:Aa EA) (s:Ag) (H:Hp) (vs:Aa V) (Q:VK) (E:XK),Room k (A.deeper (Dk qual scope s.heap.objs.size f cdv))→sp vs H Q E →
   ∃ t,PSs (bZ CX P w K mg base N qual scope f cdv A outer s H E) body t∧t { nx:=fun _ H'=>Q .non H',rt:=Q } (xV N vs) H) :
  FnOk P w K mg base CX (k+1) f (Dy name qual params body scope dV kV doc pm an cdv ct) ps sp:=by
 refine⟨len,fun A outer s H args us vs Q E hr e0 hb r hsp=>?_⟩;have hl:=len _ _ _ _ hsp;have KX:K.In s.heap:=e0.mod.kin.keeps fun b o e=>(e0.bs b o e).1;have lim:s.heap.NoLimit:=e0.mod.nolimit.keeps fun b o e=>(e0.bs b o e).1;have hkind:∀ y∈ps.zip us,scope.names.lookup y.1=Ab .local ∨ (scope.names.lookup y.1=Ab .cell∧((IV (s.heap.objs.size+1) scope.names []).lookup y.1).isSome=true):=fun ⟨n,v⟩ hy=>by
  rcases S.par n (Gy hy).1 with q|q
  ·exact .inl q
  ·exact .inr ⟨q,Gc _ _ _ (.inl q)⟩
 refine IW hr.depth (KX _ _ lk) rfl S.co S.gen rfl (Ks KX hcd) (hb _ _ _ _ ?_);refine Hy S.kind hkind fun env he s1 x=>?_;subst he;refine⟨lim.keeps x.toInCall.keep,codeAny_func ?_⟩;obtain⟨t,ht,hq⟩:=hbody A outer s H vs Q E (hr.deeper _) hsp;have I:Inv (bZ CX P w K mg base N qual scope f cdv A outer s H E) [] (xV N vs) H s1:=mM S hr.hd e0 hl r x;refine CU (ht [] s1 (xV N vs) H _ I hq) (fun fl s' hs=>?_) fun e s' hs=>hs;have fin:∀ {σ' : St} {H':Hp} {v:V} {u:Ac},Inv (bZ CX P w K mg base N qual scope f cdv A outer s H E) [] σ' H' s'→qK v u→Q v H'→CE outer P w H s Q u s':=
  fun {σ' H' v u} J rv q=>⟨v,H',J.os,J.bare,J.base,J.hok,rv,q⟩
 cases fl with
 |ret u =>
  obtain⟨v,σ',H',J,rv,q⟩:=hs;exact fin J rv q
 |next =>
  obtain⟨σ',H',J,q⟩:=hs;exact fin (v:=V.non) (u:=Br) J rfl q
 |brk =>
  obtain⟨_,_,_,q⟩:=hs;exact Am q
 |cont =>
  obtain⟨_,_,_,q⟩:=hs;exact Am q
end _L
namespace _H
open PySem PyProof.Rows
def lexLt:Aa Aj→Aa Aj→Ao
 |[],[]=>false
 |[],_::_=>true
 |_::_,[]=>false
 |x::xs,y::ys=>if x=y then lexLt xs ys else decide (x<y)
theorem lexLt_cons (x y:Aj)(xs ys:Aa Aj):lexLt (x::xs) (y::ys)=if x=y then lexLt xs ys else decide (x<y):=rfl
theorem lexLt_nil_nil:lexLt [] []=false:=rfl
theorem lexLt_nil_cons (y:Aj)(ys:Aa Aj):lexLt [] (y::ys)=true:=rfl
theorem lexLt_cons_nil (x:Aj)(xs:Aa Aj):lexLt (x::xs) [] = false:=rfl
theorem eqAt_int (A:A8)(s:Ag)(a:Aj)(t:Js)(c:Aj)(u:Js):∃ e,SeqAt.EqAt A s (.int a t) (.int c u) e∧(e=true↔a=c):=
 ⟨(a == c),SeqAt.EqAt.int_int a t c u,by simp⟩
section
variable {prog:A5}{w:AO}{A:A8}{E:Ac→Ag→Prop}{s:Ag}
theorem cat_tup {t b:Ad}{vs ws:Aa Ac}{Q:Ac→Ag→Prop}(ht:Ie s.heap t vs.toArray)(hb:Ie s.heap b ws.toArray)(hv:vs≠[])
  (h1:ws=[]→Q (.ref t) s) (h2:ws≠[]→Q (.ref s.heap.objs.size) { s with heap:=s.heap.push { cls:=.type "tuple",data:=.seq (vs++ws).toArray } })
  (hsz:vs.length+ws.length≤sizeLine):An (Ar prog w) A (Ci .Add (.ref t) (.ref b)) Q E s:=by
 obtain⟨⟨cls,dd,data,sl⟩,ho,hc,n,hd⟩:=id ht;obtain⟨⟨cls2,dd2,data2,sl2⟩,ho2,hc2,n2,hd2⟩:=id hb;simp only at hc hd hc2 hd2;subst hc hd hc2 hd2;have e:vs.toArray++ws.toArray=(vs++ws).toArray:=by simp
 by_cases hw:ws=[]
 ·exact Lb ⟨_,ho,rfl⟩ ⟨_,ho2,rfl⟩ HW Jy Gd Ft (Fi _ _)
   (tuple_addW1 t b vs.toArray ws.toArray n n2 dd dd2 sl sl2 (by simpa using hv) (by simp[hw])) ⟨ho,ho2,h1 hw⟩
 ·refine Lb ⟨_,ho,rfl⟩ ⟨_,ho2,rfl⟩ HW Jy Gd Ft (Fi _ _)
   (tuple_addW2 t b vs.toArray ws.toArray n n2 dd dd2 sl sl2 (by simpa using hv) (by simpa using hw) (by rw[AB,AB];exact hsz)) ⟨ho,ho2,?_⟩
  rw[e];exact h2 hw
def sIx (n d:Ah):Ak Aj→Ah
 |none=>d
 |some v=>if v<0 then (v+(n:Aj)).toNat else min v.toNat n
theorem sIx_none (n d:Ah):sIx n d none=d:=rfl
theorem sIx_nat (n d k:Ah):sIx n d (Ab (k:Aj))=min k n:=by
 show (if (k:Aj)<0 then ((k:Aj)+(n:Aj)).toNat else min (k:Aj).toNat n)=min k n
 rw[A0 om,Fz]
theorem F6 (n d:Ah)(hd:d≤n)(o:Ak Aj):sIx n d o≤n:=by
 cases o with
 |none=>exact hd
 |some v =>
  show (if v<0 then (v+(n:Aj)).toNat else min v.toNat n)≤n
  by_cases hv:v<0
  ·rw[AA hv];omega
  ·rw[A0 hv];exact Nat.min_le_right _ _
theorem dI (v:Aj)(n d:Ah):(if v<0 then max (v+(n:Aj)) 0 else min v (n:Aj))=((sIx n d (Ab v):Ah):Aj):=by
 show (if v<0 then max (v+(n:Aj)) 0 else min v (n:Aj))=(((if v<0 then (v+(n:Aj)).toNat else min v.toNat n):Ah):Aj)
 by_cases hv:v<0
 ·simp only[AA hv];omega
 ·simp only[A0 hv];omega
theorem rO (lo hi:Ak Aj)(n:Ah):EV lo hi 1 (n:Aj)=(((sIx n 0 lo:Ah):Aj),((sIx n n hi:Ah):Aj)):=by
 have h1:¬ ((1:Aj)<0):=by omega
 unfold EV;simp only[h1,Ds];refine Prod.ext ?_ ?_
 ·cases lo with
  |none=>rfl
  |some v=>exact dI v n 0
 ·cases hi with
  |none=>rfl
  |some v=>exact dI v n n
theorem eO (i j:Ah):Ed (i:Aj) (j:Aj) 1=j-i:=by
 unfold Ed;have h1:(1:Aj)>0:=by omega
 simp only[h1,AZ,Int.ediv_one]
 split <;> omega
theorem bQ {v:Ac}{o:Ak Aj}{Q:Ak Aj→Ag→Prop}(p:Hz v o)(h:Q o s):An (Ar prog w) A (Of v) Q E s:=by
 cases p with
 |none=>exact slicePart_none h
 |int i t=>exact slicePart_int h
theorem uM {sl:Ad}{vl vu:Ac}{lo hi:Ak Aj}{n:Ah}{Q:Aj × Aj × Ah→Ag→Prop}(hs:s.heap.IsSliceOf sl vl vu .none)(pl:Hz vl lo)(pu:Hz vu hi)
  (h:Q (((sIx n 0 lo:Ah):Aj),1,sIx n n hi-sIx n 0 lo) s):An (Ar prog w) A (H0 (.ref sl) (pure (n:Aj))) Q E s:=by
 obtain⟨os,hos,hcs,hds⟩:=id hs;unfold H0 O9;refine Af (Af (Bx hos hds (x:=vl) rfl (Af (Bx hos hds (x:=vu) rfl (Af (Bx hos hds (x:=.none) rfl (Aq ?_)))))));refine Af (slicePart_none ?_);show An _ _ (if ((1:Aj) == 0)=true then _ else _) _ _ s
 rw[A0 (by decide)]
 refine Af (bQ pl (Af (bQ pu (Af (Aq ?_)))));show An _ _ (match EV lo hi 1 (n:Aj) with|(lo,hi)=>pure (lo,(1:Aj),Ed lo hi 1)) _ _ s
 rw[rO lo hi n];show An _ _ (pure (((sIx n 0 lo:Ah):Aj),(1:Aj),Ed ((sIx n 0 lo:Ah):Aj) ((sIx n n hi:Ah):Aj) 1)) _ _ s;rw[eO];exact Aq h
theorem ZK (xs:A4 Ac)(i k:Ah):((By k).filterMap fun (m:Ah)=>xs[((i:Aj)+(m:Aj)*1).toNat]?).toArray=((xs.toList.drop i).take k).toArray:=by
 have e:(fun (m:Ah)=>xs[((i:Aj)+(m:Aj)*1).toNat]?)=fun m=>xs[i+m]?:=by
  funext m
  have:((i:Aj)+(m:Aj)*1).toNat=i+m:=by omega
  rw[this]
 rw[e];have:=pick_run xs i k;rw[List.filterMap_map] at this;have e2:((fun x=>xs[x]?)∘fun x=>i+x)=fun m=>xs[i+m]?:=rfl;rw[e2] at this;rw[this]
theorem getItem_tuple_cut {t sl:Ad}{items:A4 Ac}{vl vu:Ac}{lo hi:Ak Aj}{Q:Ac→Ag→Prop}(ht:Ie s.heap t items)(hs:s.heap.IsSliceOf sl vl vu .none)(pl:Hz vl lo)(pu:Hz vu hi)
  (hw:¬ (sIx items.size 0 lo=0∧sIx items.size items.size hi=items.size))
  (h:Q (.ref s.heap.objs.size) { s with heap:=s.heap.push { cls:=.type "tuple",data:=.seq ((items.toList.drop (sIx items.size 0 lo)).take (sIx items.size items.size hi-sIx items.size 0 lo)).toArray } })
  (hsz:items.size≤sizeLine):An (Ar prog w) A (Fu (.ref t) (.ref sl)) Q E s:=by
 have htake:sizeOk (.seq ((items.toList.drop (sIx items.size 0 lo)).take (sIx items.size items.size hi-sIx items.size 0 lo)).toArray):=by
  show ((items.toList.drop (sIx items.size 0 lo)).take (sIx items.size items.size hi-sIx items.size 0 lo)).toArray.size≤sizeLine;rw[AB,DQ,HX,AU];omega
 have hj:sIx items.size items.size hi≤items.size:=F6 _ _ (Aw _) hi;obtain⟨os,hos,hcs,hds⟩:=id hs;have hTs:s.TypeIs (.ref sl) "slice":=⟨os,hos,hcs⟩;unfold Fu
 try with_reducible refine CJ ?_
 first|refine Af (Aq ?_)|skip
 refine Af (Mb ht.typeIs (by decide) ?_)
 refine Af (Ct (name:=Eu "__getitem__") ht.typeIs Cs
  (Dl Cs ht.typeIs Jz ?_ (Kt _ _)))
 show An _ _ (H8 (.ref t) >>= _) _ _ s;refine Af (tupleItemsOf_ ht ?_);refine Af (Lc hTs ?_);rw[AA (by decide)]
 refine Af (uM hs pl pu ?_);have hno:¬ ((((sIx items.size 0 lo:Ah):Aj) == 0&&(1:Aj) == 1&&(sIx items.size items.size hi-sIx items.size 0 lo) == items.size)=true):=by
  intro q;rw[Ax,Ax] at q;have q1:((sIx items.size 0 lo:Ah):Aj)=0:=eq_of_beq q.1.1;have q2:sIx items.size items.size hi-sIx items.size 0 lo=items.size:=eq_of_beq q.2;exact hw ⟨by omega,by omega⟩
 show An _ _ (if (((sIx items.size 0 lo:Ah):Aj) == 0&&(1:Aj) == 1&&(sIx items.size items.size hi-sIx items.size 0 lo) == items.size)=true then _ else _) _ _ s
 rw[A0 hno,ZK]
 first
  |exact Af (m:=Ej _) (CV (Aq ⟨_,rfl,Aq h⟩) htake)
  |exact Af (m:=Ej _) (CV (Af (Aq (Aq ⟨_,rfl,Aq h⟩))) htake)
  |exact Af (Af (m:=Ej _) (CV (Aq (Aq ⟨_,rfl,Aq h⟩)) htake))
  |exact Af (Af (m:=Ej _) (CV (Aq ⟨_,rfl,Aq h⟩) htake))
end
end _H
namespace _L
open PySem PySem.Spec PyProof.Rows
abbrev TO:=St→Hp→(Ak Aj→Hp→Prop)→Prop
def PO (X:Cx)(e:Ak AC)(t:TO):Prop:=
 ∀ (pins:Aa (Ad × AV)) (s:Ag) (σ : St) (H:Hp) (Q:Ak Aj→Hp→Prop),Inv X pins σ H s→t σ H Q →
  An (Ar X.prog X.w) X.A (evalPart e X.env) (fun u s'=>∃ o H',Inv X pins σ H' s'∧Hz u o∧Q o H') X.xe s
def UJ:TO:=fun _ H Q=>Q none H
def N1 (t:TE):TO:=fun σ H Q=>t σ H fun x H1=>∃ i,x=.int i∧Q (Ab i) H1
theorem bD {ns:Aa Aj}:∀ {us:Aa Ac},qM (ns.map V.int) us→E2 us ns:=by
 induction ns with
 |nil=>intro us r;rw[Ld] at r;cases r;exact .nil
 |cons n ns ih =>
  intro us r;rw[Bk] at r;cases r with
  |cons r1 r2 =>
   obtain⟨t,e⟩:=r1;subst e;exact .cons n t (ih r2)
section
variable {X:Cx}{e:AC}{te:TE}{lo hi:Ak AC}{tl th:TO}{pos p2:Cz}
theorem VN:PO X none UJ:=by
 intro pins s σ H Q I h;rw[evalPart_none];exact Aq ⟨none,H,I,.none,h⟩
theorem VO (h:PE X e te):PO X (Ab e) (N1 te):=by
 intro pins s σ H Q I hw;rw[evalPart_some];refine thn (h pins s σ H _ I hw) fun u s1 ⟨x,H1,I1,r1,q1⟩=>?_;obtain⟨i,rfl,q⟩:=q1;obtain⟨t,rfl⟩:=r1;exact⟨Ab i,H1,I1,.int i t,q⟩
def SlR (X:Cx)(r:V→Ak Aj→Ak Aj→Hp→VK→Prop):Prop:=
 ∀ (pins:Aa (Ad × AV)) (s:Ag) (σ : St) (H:Hp) (x:V) (v vl vu:Ac) (lo hi:Ak Aj) (sl:Ad) (Q:VK),Inv X pins σ H s→qK x v→s.heap.IsSliceOf sl vl vu .none→Hz vl lo→Hz vu hi→r x lo hi H Q →
  ∃ T id,typeLookup (.type T) "__getitem__" = pure (Ab (.builtin id))∧s.TypeIs v T∧An (Ar X.prog X.w) X.A (Fu v (.ref sl)) (EP X pins σ Q) X.xe s
theorem SlR.or {r r':V→Ak Aj→Ak Aj→Hp→VK→Prop}(h:SlR X r)(h':SlR X r'):SlR X (fun x lo hi H Q=>r x lo hi H Q∨r' x lo hi H Q):=by
 intro pins s σ H x v vl vu lo hi sl Q I rx hs pl pu q;rcases q with q|q
 ·exact h pins s σ H x v vl vu lo hi sl Q I rx hs pl pu q
 ·exact h' pins s σ H x v vl vu lo hi sl Q I rx hs pl pu q
def tSl (r:V→Ak Aj→Ak Aj→Hp→VK→Prop)(te:TE)(tl th:TO):TE:=fun σ H Q=>te σ H fun x H1=>tl σ H1 fun l H2=>th σ H2 fun u H3=>r x l u H3 Q
theorem ZI {r:V→Ak Aj→Ak Aj→Hp→VK→Prop}(hr:SlR X r)(he:PE X e te)(hl:PO X lo tl)(hu:PO X hi th):PE X (.Subscript e (.Slice lo hi none p2) pos) (tSl r te tl th):=by
 intro pins s σ H Q I h;refine Og (thn (he pins s σ H _ I h) fun v s1 ⟨x,H1,I1,r1,q1⟩=>?_);refine wpAny_Slice (thn (hl pins s1 σ H1 _ I1 q1) fun vl s2 ⟨l,H2,I2,pl,q2⟩=>thn (hu pins s2 σ H2 _ I2 q2) fun vu s3 ⟨u,H3,I3,pu,q3⟩=>?_);rw[evalPart_none];refine Aq ?_;have I4:Inv X pins σ H3 { s3 with heap:=s3.heap.push { cls:=.type "slice",data:=.fields #[vl,vu,.none] } }:=I3.kept (t':=s3.toks) fun b ob q=>Al _ q
 obtain⟨T,id,hT,ht,hg⟩:=hr pins { s3 with heap:=s3.heap.push { cls:=.type "slice",data:=.fields #[vl,vu,.none] } } σ H3 x v vl vu l u s3.heap.objs.size Q I4 r1 (Pd ..) pl pu q3
 show An (Ar X.prog X.w) X.A (HG e (.Slice lo hi none p2) v (.ref s3.heap.objs.size)) (EP X pins σ Q) X.xe { s3 with heap:=s3.heap.push { cls:=.type "slice",data:=.fields #[vl,vu,.none] } }
 exact tail_any (ops:=[.ref s3.heap.objs.size,v]) ht hT hg (by with_unfolding_all rfl)
def kQ (xs:Aa V)(lo hi:Ak Aj):Aa V:=(xs.drop (_H.sIx xs.length 0 lo)).take (_H.sIx xs.length xs.length hi-_H.sIx xs.length 0 lo)
theorem pC (xs:Aa V)(lo hi:Ak Aj):(kQ xs lo hi).length≤xs.length:=by
 unfold kQ;rw[DQ,HX];omega
def LC (K:Ai):V→Ak Aj→Ak Aj→Hp→VK→Prop:=fun x lo hi H Q=>∃ a xs,x=.ref a∧SqT K H a xs ∧
 ¬ (_H.sIx xs.length 0 lo=0∧_H.sIx xs.length xs.length hi=xs.length)∧∀ p,H p=none→Q (.ref p) (upd H p (.tup (kQ xs lo hi)))
theorem F9:SlR X (LC X.K):=by
 intro pins s σ H x v vl vu lo hi sl Q I rx hs pl pu h;obtain⟨a,xs,rfl,hx,hw,q⟩:=h;cases rx;obtain⟨its,r,ht,hz⟩:=I.tuple hx;have hlen:its.toArray.size=xs.length:=by rw[AB];exact r.length.symm
 refine⟨"tuple",_,Cs.lookup,ht.typeIs,?_⟩;refine _H.getItem_tuple_cut ht hs pl pu (by rw[hlen];exact hw) ?_ (by rw[hlen];exact hz)
 rw[hlen];refine⟨.ref s.heap.objs.size,_,I.laid (t':=s.toks) (o:=.tup (kQ xs lo hi)) (fun b ob q=>Al _ q) (Aw _) ?_,rfl,q _ (I.hok.fresh (Aw _))⟩;exact⟨Ce (pC xs lo hi) hz,_,(r.drop (_H.sIx xs.length 0 lo)).take (_H.sIx xs.length xs.length hi-_H.sIx xs.length 0 lo),O8 _ _⟩
end
end _L
namespace _L
open PySem PySem.Spec PyProof.Rows
def ixN (n:Ah)(i:Aj):Ak Ah:=if 0≤i then (if i<n then Ab i.toNat else none) else if -(n:Aj)≤i then Ab (i+n).toNat else none
def atI {α : Type}(xs:Aa α)(i:Aj):Ak α:=(ixN xs.length i).bind fun j=>xs[j]?
theorem sD {n:Ah}{i:Aj}{j:Ah}(h:ixN n i=Ab j):seqIndex? i n=Ab j∧j<n ∧ -(n:Aj)≤i∧i<n:=by
 unfold ixN at h;by_cases h0:0≤i
 ·rw[AA h0] at h
  by_cases h1:i<n
  ·rw[AA h1] at h
   have e:i.toNat=j:=Be h;exact⟨by rw[Mu h0 h1,e],by omega,by omega,h1⟩
  ·rw[A0 h1] at h;cases h
 ·rw[A0 h0] at h
  by_cases h1 : -(n:Aj)≤i
  ·rw[AA h1] at h
   have e:(i+n).toNat=j:=Be h;exact⟨by rw[seqIndex_neg om h1,e],by omega,h1,by omega⟩
  ·rw[A0 h1] at h;cases h
theorem dH {α : Type}{xs:Aa α}{i:Aj}{v:α}(h:atI xs i=Ab v):∃ j,seqIndex? i xs.length=Ab j∧xs[j]? = Ab v∧j<xs.length ∧ -(xs.length:Aj)≤i∧i<xs.length:=by
 unfold atI at h;cases e:ixN xs.length i with
 |none=>rw[e] at h;cases h
 |some j =>
  rw[e] at h;obtain⟨h1,h2,h3,h4⟩:=sD e;exact⟨j,h1,h,h2,h3,h4⟩
def u9 (b:AC):Prop:=∀ o i,subscripted b false o i=operate [o,i] (Fu o i)
def IxR (X:Cx)(r:R2):Prop:=
 ∀ (value slice:AC) (pins:Aa (Ad × AV)) (s:Ag) (σ : St) (H:Hp) (x y:V) (v u:Ac) (Q:VK),Inv X pins σ H s→qK x v→qK y u→r x y H Q →
  subscripted slice false v u=operate [v,u] (Fu v u)→An (Ar X.prog X.w) X.A (HG value slice v u) (EP X pins σ Q) X.xe s
def MtR (X:Cx)(id:Bo)(r:V→Aa V→Hp→VK→Prop):Prop:=
 ∀ (pins:Aa (Ad × AV)) (s:Ag) (σ : St) (H:Hp) (x:V) (xs:Aa V) (v:Ac) (us:Aa Ac) (Q:VK),Inv X pins σ H s→qK x v→qM xs us→r x xs H Q →
  An (Ar X.prog X.w) X.A (call (.builtin id) (v::us)) (EP X pins σ Q) X.xe s
section
variable {X:Cx}{a b:AC}{ta tb:TE}{pos:Cz}
theorem IxR.or {r r':R2}(h:IxR X r)(h':IxR X r'):IxR X (fun x y H Q=>r x y H Q∨r' x y H Q):=by
 intro value slice pins s σ H x y v u Q I rx ry q hs;rcases q with q|q
 ·exact h value slice pins s σ H x y v u Q I rx ry q hs
 ·exact h' value slice pins s σ H x y v u Q I rx ry q hs
theorem MtR.or {id:Bo}{r r':V→Aa V→Hp→VK→Prop}(h:MtR X id r)(h':MtR X id r'):MtR X id (fun x xs H Q=>r x xs H Q∨r' x xs H Q):=by
 intro pins s σ H x xs v us Q I rx rs q;rcases q with q|q
 ·exact h pins s σ H x xs v us Q I rx rs q
 ·exact h' pins s σ H x xs v us Q I rx rs q
theorem TB {r:R2}(hr:IxR X r)(ha:PE X a ta)(hb:PE X b tb)(hs:u9 b):PE X (.Subscript a b pos) (tOp r ta tb):=by
 intro pins s σ H Q I h;exact Og (NN ha hb I h fun v u s2 x y H2 I2 rx ry q=>hr a b pins s2 σ H2 x y v u Q I2 rx ry q (hs _ _))
def L8 (K:Ai):R2:=fun x y H Q=>∃ p xs i v,x=.ref p∧y=.int i∧SqL K H p xs∧atI xs i=Ab v∧Q v H
def L9 (K:Ai):R2:=fun x y H Q=>∃ p xs i v,x=.ref p∧y=.int i∧SqT K H p xs∧atI xs i=Ab v∧Q v H
theorem sE:IxR X (L8 X.K):=by
 intro value slice pins s σ H x y v u Q I rx ry h hs;obtain⟨p,xs,i,z,rfl,rfl,hq,he,q⟩:=h;cases rx;obtain⟨t,rfl⟩:=ry;obtain⟨its,r,pl,hz⟩:=I.list hq;obtain⟨j,h1,h2,h3,h4,h5⟩:=dH he;obtain⟨w,ew,rw'⟩:=r.get h2;have hl:=r.length;have hn:=gC;have fin:EP X pins σ Q w s:=⟨z,H,I,rw',q⟩;by_cases h0:0≤i
 ·have hj:i.toNat=j:=by
   rw[Mu h0 h5] at h1;exact Be h1
  exact item_listR pl.isList h0 om (by rw[hj];simpa using ew) fin hs
 ·have hj:(i+(its.toArray.size:Aj)).toNat=j:=by
   rw[seqIndex_neg om h4] at h1;rw[AB,← hl];exact Be h1
  exact ID (x:=w) pl.isList.typeIs Mc.lookup
   (wpAny_getItem_list_neg (Q:=fun r s'=>r=w∧EP X pins σ Q r s') pl.isList om (by rw[AB] <;> omega) om (by rw[hj];simpa using ew) ⟨rfl,fin⟩) hs
theorem G8:IxR X (L9 X.K):=by
 intro value slice pins s σ H x y v u Q I rx ry h hs;obtain⟨p,xs,i,z,rfl,rfl,hq,he,q⟩:=h;cases rx;obtain⟨t,rfl⟩:=ry;obtain⟨its,r,pl,hz⟩:=I.tuple hq;obtain⟨j,h1,h2,h3,h4,h5⟩:=dH he;obtain⟨w,ew,rw'⟩:=r.get h2;have hl:=r.length;have hn:=gC;have fin:EP X pins σ Q w s:=⟨z,H,I,rw',q⟩;exact ID (x:=w) pl.typeIs slot_tuple_getitem.lookup
  (getItem_tuple (j:=j) (Q:=fun r s'=>r=w∧EP X pins σ Q r s') pl om om (by rw[AB,← hl];exact h1) (by simpa using ew) ⟨rfl,fin⟩) hs
theorem eI (its:Aa Ac)(n j:Ah)(u:Ac):Dm (·.setIfInBounds j u) { cls:=.type "list",data:=.seq its.toArray n } = { cls:=.type "list",data:=.seq (its.set j u).toArray n }:=by
 simp[Dm]
theorem Inv.lst {pins:Aa (Ad × AV)}{σ : St}{H:Hp}{s:Ag}{p:Ad}{xs:Aa V}(I:Inv X pins σ H s)(h:H p=Ab (.lst xs)) :
  ∃ (its:Aa Ac) (n:Ah),qM xs its∧s.heap.get? p=Ab { cls:=.type "list",data:=.seq its.toArray n } ∧ xs.length≤sizeLine:=by
 obtain⟨z,its,n,r,e⟩:=I.hok p _ h;exact⟨its,n,r,e,z⟩
theorem Inv.lstUpd {pins:Aa (Ad × AV)}{σ : St}{H:Hp}{s:Ag}{p:Ad}{xs ys:Aa V}{its its':Aa Ac}{n n':Ah}{f:AV→AV}(I:Inv X pins σ H s)(h:H p=Ab (.lst xs))
  (ho:s.heap.get? p=Ab { cls:=.type "list",data:=.seq its.toArray n }) (hf:f { cls:=.type "list",data:=.seq its.toArray n } = { cls:=.type "list",data:=.seq its'.toArray n' }) (r:qM ys its') (hz:ys.length≤sizeLine) (t:Ah) :
  Inv X pins σ (upd H p (.lst ys)) { s with heap:=s.heap.update p f,toks:=t }:=by
 have e:(s.heap.update p f).get? p=Ab { cls:=.type "list",data:=.seq its'.toArray n' }:=by
  rw[EB f ho (by rw[hf] <;> rfl),hf]
 refine I.write (x:=p) (e:=p) (by rw[h];trivial) (.inl rfl) (fun b u hb q=>(Bh _ _ (DC hb)).trans q) ⟨_,e⟩ ?_
 exact⟨hz,its',n',r,e⟩
def TM:V→V→V→Hp→(Hp→Prop)→Prop:=fun o i v H Q=>∃ p xs k j,o=.ref p∧i=.int k∧H p=Ab (.lst xs)∧ixN xs.length k=Ab j∧Q (upd H p (.lst (xs.set j v)))
theorem X1:tO X TM:=by
 intro pins s σ H o i v ov iv u Q I ro ri rv h;obtain⟨p,xs,k,j,rfl,rfl,hp,hj,q⟩:=h;cases ro;obtain⟨t,rfl⟩:=ri;obtain⟨its,n,r,ho,hz⟩:=I.lst hp;obtain⟨h1,h2,h3,h4⟩:=sD hj;have hl:=r.length;have hn:=gC;have I':Inv X pins σ (upd H p (.lst (xs.set j v))) { s with heap:=s.heap.update p (Dm (·.setIfInBounds j u)) }:=
  I.lstUpd hp ho (eI its n j u) (r.set rv j) (by rw[List.length_set];exact hz) s.toks
 by_cases h0:0≤k
 ·have hk:k.toNat=j:=by
   rw[Mu h0 h4] at h1;exact Be h1
  exact PySem.W.ki_setAt ho h0 om (by rw[AB,← hl];exact h4) (by rw[hk];exact⟨_,I',q⟩)
 ·have hk:(k+(its.toArray.size:Aj)).toNat=j:=by
   rw[seqIndex_neg om h3] at h1;rw[AB,← hl];exact Be h1
  exact PySem.W.ki_setBack ho om (by rw[AB,← hl];exact h3) om (by rw[hk];exact⟨_,I',q⟩)
theorem lT (lo hi:Ak Aj)(n:Ah):(Fd lo hi none n).1=((_H.sIx n 0 lo:Ah):Aj)∧(Fd lo hi none n).2.1=((_H.sIx n n hi:Ah):Aj)∧(Fd lo hi none n).2.2=1:=by
 refine⟨?_,?_,rfl⟩
 ·cases lo with
  |none=>simp[Fd,_H.sIx]
  |some i =>
   simp only[Fd,_H.sIx,Mv,show (1:Aj)>0 by decide,AZ]
   by_cases h:i<0
   ·simp only[h,AZ] <;> omega
   ·simp only[h,Ds] <;> omega
 ·cases hi with
  |none=>simp[Fd,_H.sIx]
  |some i =>
   simp only[Fd,_H.sIx,Mv,show (1:Aj)>0 by decide,AZ]
   by_cases h:i<0
   ·simp only[h,AZ] <;> omega
   ·simp only[h,Ds] <;> omega
theorem mZ (its:Aa Ac)(lo hi:Ak Aj):slicePick its.toArray lo hi none=((its.drop (_H.sIx its.length 0 lo)).take (_H.sIx its.length its.length hi-_H.sIx its.length 0 lo)).toArray:=by
 obtain⟨h1,h2,h3⟩:=lT lo hi its.toArray.size;unfold slicePick;rw[h1,h2,h3];simp only[sliceRange_one,pick_run,AB] <;> rfl
def LB (K:Ai):V→Ak Aj→Ak Aj→Hp→VK→Prop:=fun x lo hi H Q=>∃ a xs,x=.ref a∧SqL K H a xs∧∀ p,H p=none→Q (.ref p) (upd H p (.lst (kQ xs lo hi)))
theorem rB:SlR X (LB X.K):=by
 intro pins s σ H x v vl vu lo hi sl Q I rx hs pl pu h;obtain⟨a,xs,rfl,hx,q⟩:=h;cases rx;obtain⟨its,r,ht,hz⟩:=I.list hx;have hlen:=r.length;refine⟨"list",_,Mc.lookup,ht.isList.typeIs,?_⟩;refine wpAny_getItem_list_slice ht.isList hs pl pu .none (by simp) ?_ (by rw[AB] <;> omega)
 rw[mZ,← hlen];refine⟨.ref s.heap.objs.size,_,I.laid (t':=s.toks) (o:=.lst (kQ xs lo hi)) (fun b ob q=>Al _ q) (Aw _) ?_,rfl,q _ (I.hok.fresh (Aw _))⟩;exact⟨Ce (pC xs lo hi) hz,_,0,(r.drop (_H.sIx xs.length 0 lo)).take (_H.sIx xs.length xs.length hi-_H.sIx xs.length 0 lo),AN _ rfl⟩
theorem gO.or {f:Ac}{r r':Aa V→Hp→VK→Prop}(h:gO X f r)(h':gO X f r'):gO X f (fun xs H Q=>r xs H Q∨r' xs H Q):=by
 intro pins s σ H xs us Q I rs q;rcases q with q|q
 ·exact h pins s σ H xs us Q I rs q
 ·exact h' pins s σ H xs us Q I rs q
def tyV (K:Ai)(T:Bo)(x:V)(H:Hp):Prop:=match x with
 |.str _=>T = "str"
 |.int _=>T = "int"
 |.ref p=>(T = "list" ∧ ∃ xs,SqL K H p xs)∨(T = "tuple" ∧ ∃ o,K.lookup p=Ab o∧o.cls=.type "tuple" ∧ o.dict=none) ∨
   (T = "dict" ∧ ((∃ kvs,H p=Ab (.dK kvs))∨∃ kvs,H p=Ab (.dT kvs)))∨(T = "set" ∧ ∃ S n,H p=Ab (.set S n))
 |_=>Cq
theorem FK {pins:Aa (Ad × AV)}{σ : St}{H:Hp}{s:Ag}{T:Bo}{x:V}{v:Ac}(I:Inv X pins σ H s)(r:qK x v)(ty:tyV X.K T x H) :
  s.TypeIs v T∧∀ a,v=.ref a→∃ ob,s.heap.get? a=Ab ob∧ob.dict=none:=by
 cases x with
 |str z =>
  obtain⟨t,rfl⟩:=r;cases (show T = "str" from ty)
  exact⟨typeIs_str s z t,fun _ e=>nomatch e⟩
 |int i =>
  obtain⟨t,rfl⟩:=r;cases (show T = "int" from ty)
  exact⟨Oh s i t,fun _ e=>nomatch e⟩
 |ref p =>
  cases r;rcases ty with⟨rfl,xs,hq⟩|⟨rfl,o,hk,hc,hd⟩|⟨rfl,hk⟩|⟨rfl,S,n,hk⟩
  ·obtain⟨its,_,pl,_⟩:=I.list hq
   refine⟨pl.isList.typeIs,fun a e=>?_⟩;cases e;obtain⟨o,n,e,c,hd,_⟩:=pl;exact⟨o,e,hd⟩
  ·refine⟨⟨o,I.kIn p o hk,hc⟩,fun a e=>?_⟩
   cases e;exact⟨o,I.kIn _ o hk,hd⟩
  ·have z:∃ o,s.heap.get? p=Ab o∧o.ExactDict:=by
    rcases hk with⟨kvs,hk⟩|⟨kvs,hk⟩
    ·obtain⟨_,_,_,_,o,_,_,e,ex,_⟩:=I.hok p _ hk
     exact⟨o,e,ex⟩
    ·obtain⟨_,_,_,_,o,_,_,e,ex,_⟩:=I.hok p _ hk
     exact⟨o,e,ex⟩
   obtain⟨o,e,ex⟩:=z;refine⟨⟨o,e,ex.1⟩,fun a e2=>?_⟩;cases e2;exact⟨o,e,ex.2.1⟩
  ·obtain⟨o,_,_,_,e,ex,_⟩:=I.hok p _ hk
   refine⟨⟨o,e,ex.1⟩,fun a e2=>?_⟩;cases e2;exact⟨o,e,ex.2.1⟩
 |_=>exact Am ty
variable {o e:AC}{es:Aa AC}{to:TE}{t:TA}{name:As}{apos cpos:Cz}{T id:Bo}{r:V→Aa V→Hp→VK→Prop}
/- xs.append(e),list.index on a module's tuple .. are MtR facts of 06m -/
end
end _L
namespace _L
open PySem PySem.Spec PyProof.Rows
def MtM (X:Cx)(id:Bo)(r:V→Aa V→Hp→VK→Prop):Prop:=
 ∀ (pins:Aa (Ad × AV)) (s:Ag) (σ : St) (H:Hp) (x:V) (xs:Aa V) (v:Ac) (us:Aa Ac) (Q:VK),Inv X pins σ H s→qK x v→qM xs us→r x xs H Q →
  An (Ar X.prog X.w) X.A (call (.builtin id) (v::us)) (EP X pins σ Q) X.xe s
theorem qM.one {x:V}{us:Aa Ac}(h:qM [x] us):∃ u,us=[u]∧qK x u:=p7 h
theorem qM.two {x y:V}{us:Aa Ac}(h:qM [x,y] us):∃ u v,us=[u,v]∧qK x u∧qK y v:=eZ h
theorem qM.rep {xs:Aa V}{us:Aa Ac}(h:qM xs us):∀ k:Ah,qM (Bg k xs).flatten (Bg k us).flatten
 |0=>.nil
 |k+1=>by
  rw[Dt,Dt,Ee,Ee];exact qM.append h (qM.rep h k)
theorem mL (its:Aa Ac):∀ (k:Ah) (acc:Aa Ac),
  Ol (fun x1 x2=>x1++x2) acc.toArray (Bg k its.toArray)=(acc++(Bg k its).flatten).toArray
 |0,acc=>by simp
 |k+1,acc=>by
  have e:acc.toArray++its.toArray=(acc++its).toArray:=by simp
  have e2:(acc++its)++(Bg k its).flatten=acc++(Bg (k+1) its).flatten:=by
   rw[Dt,Ee,AQ]
  rw[← e2,← mL its k (acc++its),← e,Dt,Eb]
section
variable {X:Cx}{pins:Aa (Ad × AV)}{σ : St}{H:Hp}{s:Ag}{l b:Ad}{xs ys zs:Aa V}
theorem Inv.lset {its its':Aa Ac}{n:Ah}{f:A4 Ac→A4 Ac}{t':Ah}(I:Inv X pins σ H s)(hH:H l=Ab (.lst xs))
  (e:s.heap.get? l=Ab { cls:=.type "list",data:=.seq its.toArray n }) (hf:f its.toArray=its'.toArray) (hv:qM ys its') (hz:ys.length≤sizeLine) :
  Inv X pins σ (upd H l (.lst ys)) { s with heap:=s.heap.update l (Dm f),toks:=t' }:=by
 have q:=Mw e f;rw[hf] at q;refine I.write (x:=l) (e:=l) (by rw[hH];exact trivial) (.inl rfl) (fun b' u hb hu=>(Bh s.heap (Dm f) (DC hb)).trans hu) ⟨_,q⟩ ?_
 exact⟨hz,its',_,hv,q⟩
theorem Inv.lstM (I:Inv X pins σ H s)(hH:H l=Ab (.lst xs)):xs.length≤sizeLine∧∃ (its:Aa Ac) (n:Ah),qM xs its∧xs.length=its.length∧s.heap.get? l=Ab { cls:=.type "list",data:=.seq its.toArray n }:=by
 obtain⟨z,its,n,r,e⟩:=I.hok l _ hH;exact⟨z,its,n,r,r.length,e⟩
theorem ZG {n:Ah}(h:n≤sizeLine):Fj n=false:=by
 unfold Fj;exact Bd om
end
section
variable {X:Cx}
def U3:V→Aa V→Hp→VK→Prop:=fun x vs H Q=>∃ l xs y,x=.ref l∧vs=[y]∧H l=Ab (.lst xs)∧xs.length<sizeLine∧Q .non (upd H l (.lst (xs++[y])))
theorem aX:MtM X "list.append" U3:=by
 intro pins s σ H x vs v us Q I rx rv h;obtain⟨l,xs,y,rfl,rfl,hH,hz,q⟩:=h;cases rx;obtain⟨u,rfl,ru⟩:=rv.one;obtain⟨z,its,n,r,hl,e⟩:=I.lstM hH;refine Hi Ku ⟨_,e,rfl⟩ Ka (Jl _ _) (Md l its.toArray n u (by rw[AB];omega)) ⟨e,?_⟩
 refine⟨.non,_,I.lset (its':=its++[u]) hH e (by simp) (r.append (.cons ru .nil)) ?_,rfl,q⟩
 rw[AW,DV];omega
theorem V0 {α : Type}(xs:Aa α)(k:Ah):(Bg k xs).flatten.length=k*xs.length:=by
 induction k with
 |zero=>simp
 |succ k ih=>rw[Dt,Ee,AW,ih,Ig,Nat.add_comm]
end
end _L
namespace _L
open PySem PySem.Spec PyProof.Rows
section
variable {κ : Type}[DecidableEq κ]
def yF (kvs:Aa (κ × V))(k:κ):Ak V:=(kvs.find? fun kv=>decide (kv.1=k)).map (·.2)
def yC (kvs:Aa (κ × V))(k:κ)(v:V):Aa (κ × V):=
 if (kvs.any fun kv=>decide (kv.1=k))=true then kvs.map (fun kv=>if kv.1=k then (kv.1,v) else kv) else kvs++[(k,v)]
theorem pX {p:κ × V}{r:Aa (κ × V)}{k:κ}(e:p.1=k):yF (p::r) k=Ab p.2:=by simp[yF,E4,e]
theorem pW {p:κ × V}{r:Aa (κ × V)}{k:κ}(e:¬ p.1=k):yF (p::r) k=yF r k:=by simp[yF,E4,e]
theorem lX (k:κ):∀ kvs:Aa (κ × V),(kvs.any fun kv=>decide (kv.1=k))=(yF kvs k).isSome
 |[]=>rfl
 |p::r=>by
  rw[Gj];by_cases e:p.1=k
  ·simp only[pX e,Bv e,OL,Option.isSome_some]
  ·rw[pW e,Bd e,Bool.false_or];exact lX k r
theorem j6 (kvs:Aa (κ × V))(k:κ)(v:V):(yC kvs k v).length≤kvs.length+1:=by
 unfold yC
 split
 ·rw[A9];omega
 ·rw[AW,AH,Bn];omega
theorem yW.isSome_eq {o:Ak V}{u:Ak Ac}(r:yW o u):o.isSome=u.isSome:=by
 cases o with
 |none=>cases u with
  |none=>rfl
  |some _=>exact(show Cq from r).elim
 |some _=>cases u with
  |none=>exact(show Cq from r).elim
  |some _=>rfl
theorem yW.getD {o:Ak V}{u:Ak Ac}{d:V}{d':Ac}(r:yW o u)(rd:qK d d'):qK (o.getD d) (u.getD d'):=by
 cases o with
 |none=>cases u with
  |none=>exact rd
  |some _=>exact(show Cq from r).elim
 |some _=>cases u with
  |none=>exact(show Cq from r).elim
  |some _=>exact r
theorem KV.val {kvs:Aa (κ × V)}{vs:Aa (κ × Ac)}(r:KV kvs vs)(k:κ):yW (yF kvs k) (IE vs k):=by
 unfold KV at r
 induction r with
 |nil=>exact Eo
 |@cons p q ps qs h t ih =>
  obtain⟨h1,h2⟩:=h;by_cases e:p.1=k
  ·have e':q.1=k:=h1.symm.trans e
   have b:IE (q::qs) k=Ab q.2:=by simp[IE,E4,e']
   rw[pX e,b];exact h2
  ·have e':¬ q.1=k:=fun z=>e (h1.trans z)
   have b:IE (q::qs) k=IE qs k:=by simp[IE,E4,e']
   rw[pW e,b];exact ih
theorem KV.any {kvs:Aa (κ × V)}{vs:Aa (κ × Ac)}(r:KV kvs vs)(k:κ):(kvs.any fun kv=>decide (kv.1=k))=vs.any fun kv=>decide (kv.1=k):=by
 unfold KV at r
 induction r with
 |nil=>rfl
 |cons h t ih=>rw[Gj,Gj,ih,h.1]
theorem KV.repl {kvs:Aa (κ × V)}{vs:Aa (κ × Ac)}(r:KV kvs vs)(k:κ){y:V}{u:Ac}(ry:qK y u) :
  KV (kvs.map fun kv=>if kv.1=k then (kv.1,y) else kv) (vs.map fun kv=>if kv.1=k then (kv.1,u) else kv):=by
 unfold KV at r ⊢
 induction r with
 |nil=>exact .nil
 |@cons p q ps qs h t ih =>
  rw[Bk,Bk];refine .cons ?_ ih;obtain⟨h1,h2⟩:=h;by_cases e:p.1=k
  ·rw[AA e,AA (h1.symm.trans e)];exact⟨h1,ry⟩
  ·rw[A0 e,A0 (fun z=>e (h1.trans z))];exact⟨h1,h2⟩
theorem KV.put {kvs:Aa (κ × V)}{vs:Aa (κ × Ac)}(r:KV kvs vs)(k:κ){y:V}{u:Ac}(ry:qK y u):KV (yC kvs k y) (stored vs k u):=by
 unfold yC stored;rw[r.any k];by_cases e:(vs.any fun kv=>decide (kv.1=k))=true
 ·rw[AA e,AA e];exact r.repl k ry
 ·rw[A0 e,A0 e];exact Paired.snoc r ⟨rfl,ry⟩
theorem KV.keys {kvs:Aa (κ × V)}{vs:Aa (κ × Ac)}(r:KV kvs vs):kvs.map (·.1)=vs.map (·.1):=by
 unfold KV at r
 induction r with
 |nil=>rfl
 |cons h t ih=>rw[Bk,Bk,ih,h.1]
theorem KV.length {kvs:Aa (κ × V)}{vs:Aa (κ × Ac)}(r:KV kvs vs):kvs.length=vs.length:=Paired.length r
end
theorem gX {P:A5}{w:AO}{k:Key}{u:Ac}(r:qK (kV k) u):(zW P w).is k u=true:=by
 cases k with
 |inl i=>obtain⟨t,e⟩:=(show ∃ t,u=Lr i t from r);subst e;exact dA P w i t
 |inr x=>obtain⟨t,e⟩:=(show ∃ t,u=Ls x t from r);subst e;exact dB P w x t
theorem mP {P:A5}{w:AO}:∀ {ks:Aa Key} {us:Aa Ac},qM (ks.map kV) us→ItemsAre (zW P w) ks us
 |[],_,r=>by rw[Ld] at r;cases r;exact .nil
 |k::ks,_,r=>by
  rw[Bk] at r;cases r with
  |cons h t=>exact .cons (gX h) (mP t)
abbrev KT (H:Hp):Aa (Aa Key × V)→Aa (Aa Key × Ad × Ac)→Prop:=Paired fun p q=>p.1=q.1∧H q.2.1=Ab (.tup (p.1.map kV))∧qK p.2 q.2.2
theorem KT.val {H:Hp}{kvs:Aa (Aa Key × V)}{xs:Aa (Aa Key × Ad × Ac)}(r:KT H kvs xs)(k:Aa Key):yW (yF kvs k) ((Kb xs k).map (·.2)):=by
 induction r with
 |nil=>exact Eo
 |@cons p q ps qs h t ih =>
  obtain⟨h1,_,h2⟩:=h;by_cases e:p.1=k
  ·have e':q.1=k:=h1.symm.trans e
   have b:Kb (q::qs) k=Ab q.2:=by simp[Kb,E4,e']
   rw[pX e,b];exact h2
  ·have e':¬ q.1=k:=fun z=>e (h1.trans z)
   have b:Kb (q::qs) k=Kb qs k:=by simp[Kb,E4,e']
   rw[pW e,b];exact ih
theorem KT.repl {H:Hp}{kvs:Aa (Aa Key × V)}{xs:Aa (Aa Key × Ad × Ac)}(r:KT H kvs xs)(k:Aa Key){y:V}{u:Ac}(ry:qK y u) :
  KT H (kvs.map fun kv=>if kv.1=k then (kv.1,y) else kv) (xs.map (putAt k u)):=by
 induction r with
 |nil=>exact .nil
 |@cons p q ps qs h t ih =>
  rw[Bk,Bk];refine .cons ?_ ih;obtain⟨h1,h2,h3⟩:=h;unfold putAt;by_cases e:p.1=k
  ·rw[AA e,AA (h1.symm.trans e)];exact⟨h1,h2,ry⟩
  ·rw[A0 e,A0 (fun z=>e (h1.trans z))];exact⟨h1,h2,h3⟩
theorem KT.put {H:Hp}{kvs:Aa (Aa Key × V)}{xs:Aa (Aa Key × Ad × Ac)}(r:KT H kvs xs)(k:Aa Key){b:Ad}{y:V}{u:Ac}(hb:H b=Ab (.tup (k.map kV)))(ry:qK y u) :
  KT H (yC kvs k y) (storedH xs k b u):=by
 have e:(kvs.any fun kv=>decide (kv.1=k))=(Kb xs k).isSome:=by
  rw[lX,(r.val k).isSome_eq,Option.isSome_map]
 unfold yC storedH;rw[e];by_cases q:(Kb xs k).isSome=true
 ·rw[AA q,AA q];exact r.repl k ry
 ·rw[A0 q,A0 q];exact Paired.snoc r ⟨rfl,hb,ry⟩
theorem KT.keeps {H H':Hp}{kvs:Aa (Aa Key × V)}{xs:Aa (Aa Key × Ad × Ac)}(r:KT H kvs xs)(ht:∀ b ys,H b=Ab (.tup ys)→H' b=Ab (.tup ys)):KT H' kvs xs:=
 Paired.mapP r fun _ _ z=>⟨z.1,ht _ _ z.2.1,z.2.2⟩
section
variable {P:A5}{w:AO}{H:Hp}{h:AF}{a:Ad}
theorem W4 {u:HO}(ok:HOk P w H h)(e:Rd H a u):zJ P w H h a u:=e.ok ok
theorem tE {kvs:Aa (Key × V)}(ok:HOk P w H h)(e:Rd H a (.dK kvs)):kvs.length≤sizeLine∧(a == En)=false∧∃ vs,KV kvs vs∧h.DictOf (zW P w) a vs:=
 show zJ P w H h a (.dK kvs) from W4 ok e
theorem rX {kvs:Aa (Key × V)}(ok:HOk P w H h)(e:H a=Ab (.dK kvs)):kvs.length≤sizeLine∧(a == En)=false∧∃ vs,KV kvs vs∧h.DictOf (zW P w) a vs:=tE ok (.inl e)
theorem nX {ks:Aa Key}(ok:HOk P w H h)(e:H a=Ab (.tup (ks.map kV))):(IS (zW P w)).is h ks a:=by
 obtain⟨_,its,r,o,h1,h2,n,h3⟩:=(show zJ P w H h a (.tup (ks.map kV)) from ok a _ e)
 exact⟨o,its.toArray,n,h1,h2,h3,by simpa using mP r⟩
theorem rY {kvs:Aa (Aa Key × V)}(ok:HOk P w H h)(e:Rd H a (.dT kvs)):kvs.length≤sizeLine∧(a == En)=false ∧
  ∃ xs,KT H kvs xs∧h.DictOfH (IS (zW P w)) a xs:=by
 obtain⟨z,y,xs,r,o,es,ep,h1,h2,h3,h4,h5⟩:=(show zJ P w H h a (.dT kvs) from W4 ok e)
 refine⟨z,y,xs,r,o,es,ep,h1,h2,h3,h4,fun x hx=>?_,h5⟩;have all:∀ {l:Aa (Aa Key × V)} {m:Aa (Aa Key × Ad × Ac)},KT H l m→∀ x∈m,(IS (zW P w)).is h x.1 x.2.1:=by
  intro l m q
  induction q with
  |nil=>intro x hx;exact nomatch hx
  |@cons p q ps qs hq t ih =>
   intro x hx;rcases AL.mp hx with e|hx
   ·subst e
    exact nX ok (by rw[← hq.1];exact hq.2.1)
   ·exact ih x hx
 exact all r x hx
theorem M9 {kvs:Aa (Aa Key × V)}(ok:HOk P w H h)(e:H a=Ab (.dT kvs)):kvs.length≤sizeLine∧(a == En)=false ∧
  ∃ xs,KT H kvs xs∧h.DictOfH (IS (zW P w)) a xs:=rY ok (.inl e)
end
def pF (H:Hp)(a:Ad)(y:V)(r:Ak V):Prop:=
 (∃ kvs k,Rd H a (.dK kvs)∧y=kV k∧r=yF kvs k)∨∃ kvs k b,Rd H a (.dT kvs)∧y=.ref b∧H b=Ab (.tup (k.map kV))∧r=yF kvs k
def bU (H:Hp)(a:Ad)(y v:V)(H':Hp):Prop:=
 (∃ kvs k,H a=Ab (.dK kvs)∧y=kV k∧kvs.length<sizeLine∧H'=upd H a (.dK (yC kvs k v))) ∨
 ∃ kvs k b,H a=Ab (.dT kvs)∧y=.ref b∧H b=Ab (.tup (k.map kV))∧kvs.length<sizeLine∧H'=upd H a (.dT (yC kvs k v))
theorem pF.k {H:Hp}{a:Ad}{kvs:Aa (Key × V)}{k:Key}(e:H a=Ab (.dK kvs)):pF H a (kV k) (yF kvs k):=.inl ⟨kvs,k,.inl e,rfl,rfl⟩
theorem pF.t {H:Hp}{a b:Ad}{kvs:Aa (Aa Key × V)}{k:Aa Key}(e:H a=Ab (.dT kvs))(eb:H b=Ab (.tup (k.map kV))):pF H a (.ref b) (yF kvs k):=.inr ⟨kvs,k,b,.inl e,rfl,eb,rfl⟩
theorem bU.k {H:Hp}{a:Ad}{kvs:Aa (Key × V)}{k:Key}{v:V}(e:H a=Ab (.dK kvs))(hl:kvs.length<sizeLine):bU H a (kV k) v (upd H a (.dK (yC kvs k v))):=.inl ⟨kvs,k,e,rfl,hl,rfl⟩
theorem bU.t {H:Hp}{a b:Ad}{kvs:Aa (Aa Key × V)}{k:Aa Key}{v:V}(e:H a=Ab (.dT kvs))(eb:H b=Ab (.tup (k.map kV)))(hl:kvs.length<sizeLine) :
  bU H a (.ref b) v (upd H a (.dT (yC kvs k v))):=.inr ⟨kvs,k,b,e,rfl,eb,hl,rfl⟩
section
variable {X:Cx}{pins:Aa (Ad × AV)}{σ : St}{H:Hp}{s:Ag}{a:Ad}{y v:V}{u r:Ac}{o:Ak V}{A:A8}{E:Ac→Ag→Prop}
theorem Inv.big (I:Inv X pins σ H s):En<s.heap.objs.size:=by
 have h:AT<s.heap.objs.size:=(I.mod.glob.keeps I.bk).lt;exact Lf (by decide) h
theorem cG {Q:Ac→Ag→Prop}(hu:A.units+1<CI)(I:Inv X pins σ H s)(g:pF H a y (Ab v))(ry:qK y u)(h:∀ w' s',Inv X pins σ H s'→qK v w'→Q w' s') :
  An (Ar X.prog X.w) A (Fu (.ref a) u) Q E s:=by
 rcases g with⟨kvs,k,e,ey,l⟩|⟨kvs,k,b,e,ey,eb,l⟩
 ·subst ey
  obtain⟨z,hd,vs,rel,dd⟩:=tE I.hok e;obtain⟨w',hw,rw'⟩:=yW.some_of (v:=v) (o:=IE vs k) (by rw[l];exact rel.val k)
  exact wpAny_getItem_of (gX ry) dd.mapOf hw (h w' _ (I.tok _) rw')
 ·subst ey
  cases (show u=AY b from ry)
  obtain⟨z,hd,xs,rel,dd⟩:=rY I.hok e;obtain⟨w',hw,rw'⟩:=yW.some_of (v:=v) (o:=(Kb xs k).map (·.2)) (by rw[l];exact rel.val k)
  obtain⟨p,hp,hp2⟩:=CB.mp hw;refine wpAny_getItem_heap (Kv hu) (nX I.hok eb) dd hp ?_;rw[hp2];exact h w' _ (I.tok _) rw'
theorem f7 {h':AF}{t':Ah}{ob:HO}(I:Inv X pins σ H s)(mu:Mut (H a))(hs:CL a s.heap h')(he:∃ q,h'.get? a=Ab q)(new:zJ X.prog X.w (upd H a ob) h' a ob) :
  Inv X pins σ (upd H a ob) { s with heap:=h',toks:=t' }:=
 I.write (x:=a) (e:=a) mu (.inl rfl) (fun b q hb z=>(hs.2 b hb).trans z) he new
theorem cO {P:A5}{w:AO}{H':Hp}{h':AF}{kvs:Aa (Key × V)}{vs:Aa (Key × Ac)}(z:kvs.length≤sizeLine)(hd:(a == En)=false)(rel:KV kvs vs)(dd:h'.DictOf (zW P w) a vs) :
  zJ P w H' h' a (.dK kvs):=⟨z,hd,vs,rel,dd⟩
theorem cH {H':Hp}{Q:HS→Ag→Prop}(hu:A.units+1<CI)(I:Inv X pins σ H s)(g:bU H a y v H')(ry:qK y u)(rv:qK v r)(h:∀ s',Inv X pins σ H' s'→Q () s') :
  An (Ar X.prog X.w) A (O7 (.ref a) u r) Q E s:=by
 rcases g with⟨kvs,k,e,ey,l,eH⟩|⟨kvs,k,b,e,ey,eb,l,eH⟩
 ·subst ey eH
  obtain⟨z,hd,vs,rel,dd⟩:=rX I.hok e;have hz:vs.length≤sizeLine:=by rw[← rel.length];exact z
  have hl:(yC kvs k v).length≤sizeLine:=by have:=j6 kvs k v;omega
  refine wpAny_setItem_pairs (hsz:=hz) (gX ry) dd fun h' dd' hs=>h _ ?_;have he:∃ q,h'.get? a=Ab q:=let ⟨q,_,_,hq,_⟩:=dd';⟨q,hq⟩
  exact f7 I (by rw[e];exact Eo) hs he (cO hl hd (rel.put k rv) dd')
 ·subst ey eH
  cases (show u=AY b from ry)
  obtain⟨z,hd,xs,rel,dd⟩:=M9 I.hok e;have hz:xs.length≤sizeLine:=by rw[← Paired.length rel];exact z
  have hl:(yC kvs k v).length≤sizeLine:=by have:=j6 kvs k v;omega
  refine wpAny_setItem_heap (hsz:=hz) (Kv hu) (nX I.hok eb) dd fun h' dd' hs=>h _ ?_;obtain⟨q,es,ep,hq,h2,h3,h4,_,h5⟩:=dd';refine f7 I (by rw[e];exact Eo) hs ⟨q,hq⟩ ⟨hl,hd,_,(rel.put k eb rv).keeps fun c ys ec=>?_,q,es,ep,hq,h2,h3,h4,h5⟩
  rw[qO (MQ ec e (fun z=>nomatch z))];exact ec
end
section
variable {X:Cx}{pins:Aa (Ad × AV)}{σ : St}{H:Hp}{s:Ag}{a:Ad}{kvs:Aa (Key × V)}{k:Key}{u:Ac}{A:A8}{E:Ac→Ag→Prop}
theorem M1 {Q:Ac→Ag→Prop}(I:Inv X pins σ H s)(e:Rd H a (.dK kvs))(h:∀ t s',Inv X pins σ H s'→Q (.int kvs.length t) s'):An (Ar X.prog X.w) A (call (.builtin "len") [.ref a]) Q E s:=by
 obtain⟨z,hd,vs,rel,dd⟩:=tE I.hok e;refine call_len_dict hd dd (by rw[← rel.length];rw[Dn] at z;omega) ?_
 rw[← rel.length];exact h _ _ (I.tok _)
end
def oE (i:AC):Prop:=∀ ov iv,subscripted i false ov iv=operate [ov,iv] (Fu ov iv)
theorem UI {prog:A5}{w:AO}{A:A8}{E:Ac→Ag→Prop}{s:Ag}{env:EA}{value slice:AC}{pos:Cz}{T id:Bo}{Q:Ac→Ag→Prop}
  (hl:typeLookup (.type T) "__getitem__" = pure (Ab (.builtin id))) (hs:oE slice)
  (h:An (Ar prog w) A (eval value env) (fun o s₁=>An (Ar prog w) A (eval slice env) (fun i s₂=>s₂.TypeIs o T∧An (Ar prog w) A (Fu o i) Q E s₂) E s₁) E s) :
  An (Ar prog w) A (eval (.Subscript value slice pos) env) Q E s:=by
 refine Og (CU h (fun o s₁ h₁=>CU h₁ (fun i s₂ h₂=>?_) fun _ _ x=>x) fun _ _ x=>x);obtain⟨hT,h₂⟩:=h₂;unfold HG;refine Af ?_;rw[getitemInPython_of_ne hT.not_modules];refine Af (wpAny_specialOf hT hl ?_);have fin:An (Ar prog w) A (subscripted slice false o i) (fun r s₃=>An (Ar prog w) A (letTemporaryGo value o r >>= fun _=>pure r) Q E s₃) E s₂:=by
  rw[hs o i];exact wpAny_operating (CU h₂ (fun r s₃ h₃=>Af (wpAny_letTemporaryGo (Aq h₃))) fun _ _ x=>x)
 first
  |exact Aq (Af fin)
  |exact Af (Aq (Af fin))
  |exact Af fin
theorem d8 {X:Cx}{pins:Aa (Ad × AV)}{σ : St}{H:Hp}{s:Ag}{a:Ad}{y:V}{o:Ak V}(I:Inv X pins σ H s)(g:pF H a y o):s.TypeIs (.ref a) "dict":=by
 rcases g with⟨kvs,k,e,_,_⟩|⟨kvs,k,b,e,_,_,_⟩
 ·obtain⟨_,_,vs,_,dd⟩:=tE I.hok e
  exact dd.typeIs
 ·obtain⟨_,_,xs,_,dd⟩:=rY I.hok e
  exact dd.typeIs
theorem Q4 {P:A5}{w:AO}{H:Hp}(h:AF)(hb:En<h.objs.size):zJ P w H (h.push { cls:=.type "dict",data:=.dict #[] }) h.objs.size (.dK []):=
 ⟨Fe _,Em.mpr (DC (Bm hb)),[],.nil,Heap.DictOf.new h⟩
def FB:TE:=fun _ H Q=>∀ p,H p=none→Q (.ref p) (upd H p (.dK []))
section
variable {X:Cx}{pos:Cz}
theorem ZH:PE X (.Dict [] [] pos) FB:=fun pins s σ H Q I h =>
 wpAny_Dict_empty ⟨.ref s.heap.objs.size,_,I.laid (a:=s.heap.objs.size) (o:=.dK []) (t':=s.toks) (fun _ _ q=>Al _ q) (Aw _) (Q4 s.heap I.big),rfl,h _ (I.hok.fresh (Aw _))⟩
end
end _L
namespace _A
open PySem PySem.W PySem.Calls PyProof.Rows
theorem bE {P:Ow}{h:AF}:∀ (ns:Aa Aj) (vs:Aa Ac),WellAll P h vs (ns.map Pe)→E2 vs ns:=by
 intro ns
 induction ns with
 |nil =>
  intro vs w;rw[Ld] at w;cases w;exact .nil
 |cons n ns ih =>
  intro vs w;rw[Bk] at w;cases w with
  |cons a b =>
   cases a;exact .cons _ _ (ih _ b)
theorem iY {l:OpenLaw}{n:Ah}(hn:l.most=Ab n){P:Ow}{h:AF}{args:Aa WData}{vals:Aa Ac}
  (hpre:l.row.toRowW.claim.pre args=true) (hwl:WellAll P h vals args) :
  ∃ a vs ns,vals=[AY a]∧args=[WData.list (ns.map Pe)]∧h.get? a=Ab { cls:=.type "list",data:=.seq vs.toArray } ∧ E2 vs ns∧ns.length≤n:=by
 have hsh:WShape.hasAll [] args [.list .int]=true:=(pre_splitW hpre).1;have hc:l.pre.holds [] { args:=args } = true:=(pre_splitW hpre).2;obtain⟨d,r,rfl,h1,h2⟩:=hasAllW_cons hsh;obtain rfl:=hasAllW_nil h2;obtain⟨xs,rfl,h3⟩:=hasW_list h1;obtain⟨ns,rfl⟩:=items_int h3;have hlen:ns.length≤n:=by
  unfold OpenLaw.pre at hc;have h4:(WTm.not (.lt (.lit (.int (n:Aj))) (.len (.arg 0)))).holds [] { args:=[.list (ns.map .int)] } = true:=by
   have h4:=(holds_andW hc).1;rw[hn] at h4;exact h4
  have h5:=condW_of h4 (w_not (w_lt w_lit (w_len_list (w_arg rfl))));rw[A9] at h5;refine Nat.le_of_not_lt fun q=>?_;have q':(n:Aj)<((ns.length:Ah):Aj):=by omega
  first
   |(rw[Bv q'] at h5;exact absurd h5 (by decide))
   |(simp at h5;omega)
 cases hwl with
 |cons w1 w2 =>
  cases w2;cases w1 with
  |list ho hall=>exact⟨_,_,ns,rfl,rfl,ho,bE ns _ hall,hlen⟩
theorem iA (l:OpenLaw)(args:Aa WData):l.row.toRowW.claim.post args (.bool true) args=true:=
 postW_of (r:=l.row.toRowW) (X:=(true == true))
  (show OY [] (.bool true) .bool=true by first|rfl|decide|simp[OY,WShape.arms,WShape.armsAll])
  (show (WTm.eq .res (.lit (.bool true))).value [] { args:=args,res:=Ab (.bool true),after:=args } = Ab (.bool (true == true)) from w_eq_bool (w_res rfl) w_lit) rfl
theorem attach_call {l:OpenLaw}{n:Ah}{q:A5}{loose:Aa As}{XP:(As→Ak Ac)→AF→Prop}{YP:AO→AF→Prop}{d:DefRec}
  (hn:l.most=Ab n) (hdf:d.params.defaults=[])
  (call:∀ (w:AO) (s₀ s₁:Ag) (mg mb:As→Ak Ac) (fa:Ad) (o:AV) (pm cd doc:Ac) (a:Ad) (vs:Aa Ac) (ns:Aa Aj),
   Ground q loose [] XP w s₀ mg mb s₁.heap→YP w s₁.heap →
   s₁.heap.get? fa=Ab o→o.data=.func (docDef d.name d.params d.body d.scope pm cd doc)→s₁.heap.CodeRec cd d.name→mg d.name=Ab (.ref fa) →
   s₁.heap.get? a=Ab { cls:=.type "list",data:=.seq vs.toArray } → E2 vs ns→ns.length≤n→s₁.gens=#[] →
   Ec (Ar l.prog w) HH (.call (.ref fa) ⟨[.ref a],[]⟩) (fun r s'=>r=.ok (.ret (.bool true))∧OldK s₁.heap s'.heap∧s'.os=s₁.os∧Gh s'.gens) s₁) :
  WalkO q loose XP YP l.row.toRowW d [] (fun f vs=>Om f vs):=by
 intro w s₀ s₁ mg mb G Y fa o pm cd doc dV kV ho hd hcd hD hmg hg args vals as hpre hlay hrd hwl hlo;obtain rfl:dV=.none:=Dflts.none hD hdf;obtain rfl:kV=.none:=Dflts.noKw hD;obtain⟨a,vs,ns,rfl,rfl,hobj,hints,hlen⟩:=iY hn hpre hwl;refine enter_call (Hd (call w s₀ s₁ mg mb fa o pm cd doc a vs ns G Y ho (fd_plain hd) hcd hmg hobj hints hlen hg) fun r s' hq=>?_);obtain⟨rfl,h2,h3,h4⟩:=hq;exact⟨.inl ⟨.bool true,.bool true,[],rfl,fun _=>rfl,.bool true,iA l _,fun _=>⟨Me,fun _ hm=>(nomatch hm)⟩⟩,h2,h3,h4⟩
end _A
namespace _L
open PySem PySem.Spec PyProof.Rows
theorem o7 {vs:Aa Ac}{ns:Aa Aj}(h:E2 vs ns):qM (ns.map V.int) vs:=by
 induction h with
 |nil=>exact .nil
 |cons n t h ih=>exact .cons ⟨t,rfl⟩ ih
def SqX (K:Ai)(H:Hp)(a:Ad)(xs:Aa V):Prop:=
 Rd H a (.lst xs)∨∃ (its:Aa Ac) (n:Ah),K.lookup a=Ab { cls:=.type "list",data:=.seq its.toArray n } ∧ xs.length≤sizeLine∧qM xs its
theorem SqX.l {K:Ai}{H:Hp}{a:Ad}{xs:Aa V}(h:SqX K H a xs):SqL K H a xs:=by
 rcases h with h|⟨its,n,e,l,v⟩
 ·exact .inl h
 ·exact .inr ⟨_,its.toArray,n,e,rfl,rfl,rfl,by rw[AB,← v.length];exact l,by simpa using v⟩
def oF (H:Hp):Prop:=∀ b,H b=none∨∃ o xs,H b=Ab (.frz o (.lst xs))
theorem Z1 {P:A5}{w:AO}{K:Ai}{mg mb:As→Ak Ac}{CX:CXT}{k:Ah}{fa a:Ad}{fd:CM}{x:As}{sp:Sp}{s₁:Ag}{vs:Aa Ac}{ns:Aa Aj}
  (KX:K.In s₁.heap) (hns:s₁.heap.Ns AT mg) (hb:s₁.heap.Ns Od mb) (hbb:∀ x:As,x ≠ "__name__" → mb x=CK x) (hlim:s₁.heap.NoLimit) (hg:s₁.gens=#[])
  (ha:s₁.heap.get? a=Ab { cls:=.type "list",data:=.seq vs.toArray }) (hi:E2 vs ns) (hl:ns.length≤sizeLine) (hr:Room k HH)
  (F:∀ base:AF,K.In base→base.Ns AT mg→FnOk P w K mg base CX k fa fd [x] sp) (hbind:∀ (s:Ag) (u:Ac),Hg s fd ⟨[u],[]⟩ [(x,u)])
  (hsp:∀ H:Hp,oF H→SqX K H a (ns.map V.int)→sp [.ref a] H (fun v _=>v=.bl true) fun _ _ _=>Cq)
  (hCX:∀ H e s',CX [] H s₁ (fun _ _ _=>Cq) e s'→Cq) :
  Ec (Ar P w) HH (.call (.ref fa) ⟨[.ref a],[]⟩) (fun r s'=>r=.ok (.ret (.bool true))∧OldK s₁.heap s'.heap∧s'.os=s₁.os∧Gh s'.gens) s₁:=by
 have rv:=o7 hi;have lenV:=hi.length;have core:∀ H:Hp,oF H→SqX K H a (ns.map V.int)→HOk P w H s₁.heap→(∀ b,H b≠none→b=a)→(H a≠none→K.lookup a=none) →
   Ec (Ar P w) HH (.call (.ref fa) ⟨[.ref a],[]⟩) (fun r s'=>r=.ok (.ret (.bool true))∧OldK s₁.heap s'.heap∧s'.os=s₁.os∧Gh s'.gens) s₁:=by
  intro H hO hS hok hA hK;have base_of:∀ {b:Ad} {o:AV},s₁.heap.get? b=Ab o→H b=none→(jV s₁.heap H).get? b=Ab o:=fun e n=>QV e n;have noA:∀ {b:Ad} {o:AV} {es:A4 DictEntry} {ep:Ah},s₁.heap.get? b=Ab o→o.data=.dict es ep→H b=none:=fun {b o es ep} e d=>by
   cases q:H b with
   |none=>rfl
   |some u =>
    have e':b=a:=hA b (by rw[q];simp)
    subst e';rw[ha] at e;cases e;have d':Data.seq vs.toArray _=Data.dict es ep:=d;cases d'
  have nsK:∀ {b:Ad} {m:As→Ak Ac},s₁.heap.Ns b m→(jV s₁.heap H).Ns b m:=fun {b m} ⟨o,es,ep,e,d,r⟩=>⟨o,es,ep,base_of e (noA e d),d,r⟩;have hKb:K.In (jV s₁.heap H):=fun b o e=>base_of (KX b o e) (by
   cases q:H b with
   |none=>rfl
   |some u =>
    have e':b=a:=hA b (by rw[q];simp)
    subst e';rw[hK (by rw[q];simp)] at e;cases e)
  have hM:Mod K mg (jV s₁.heap H):=⟨hKb,nsK hns,⟨mb,nsK hb,hbb⟩,let ⟨mc,h1,h2⟩:=hlim;⟨mc,nsK h1,h2⟩⟩
  have e0:Env0 P w K mg (jV s₁.heap H) HH [] s₁ H:=⟨rfl,hM,fun b o e=>VB e,Nat.le_of_eq (cY _ _),trivial,fun b hb=>absurd (show b∈([]:Aa Ad) from hb) (by simp),hok,.of_eq hg⟩
  refine Hd ((F _ hKb (nsK hns)).run HH [] s₁ H ⟨[.ref a],[]⟩ [.ref a] [.ref a] _ _ hr e0 (hbind s₁ (.ref a)) (.cons rfl .nil) (hsp H hO hS)) fun r s' h=>?_;cases r with
  |error e=>exact(hCX H e s' h).elim
  |ok fl =>
   cases fl with
   |next=>exact Am h
   |brk=>exact Am h
   |cont=>exact Am h
   |ret u =>
    obtain⟨v,H',os,bare,un,hok',r',q⟩:=h;have q':v=.bl true:=q;subst q';obtain rfl:u=CN true:=r';refine⟨rfl,OldK.of_keep fun b o e=>?_,os,bare⟩;cases q:H b with
    |none=>exact un.keep b o e q (by intro z;exact absurd (show b∈([]:Aa Ad) from z) (by simp)) (by simp)
    |some u =>
     rcases hO b with z|⟨ob,xs,z⟩
     ·rw[q] at z;cases z
     ·have z2:=un.frzs b ob _ z
      obtain⟨e1,_⟩:=hok b _ z;obtain⟨e2,_⟩:=hok' b _ z2;rw[e] at e1;cases e1;exact e2
 cases hk:K.lookup a with
 |some o =>
  have e:=KX a o hk;rw[ha] at e;cases e;refine core (fun _=>none) (fun _=>.inl rfl) (.inr ⟨vs,_,hk,by rw[A9];exact hl,rv⟩) (fun b u z=>by have z':(none:Ak HO)=Ab u:=z;cases z') (fun b z=>absurd rfl z) fun z=>absurd rfl z
 |none =>
  refine core (fun b=>if b=a then Ab (.frz { cls:=.type "list",data:=.seq vs.toArray } (.lst (ns.map V.int))) else none) (fun b=>?_) (.inl (.inr ⟨{ cls:=.type "list",data:=.seq vs.toArray },AA rfl⟩)) (fun b u z=>?_) (fun b z=>?_) fun _=>hk
  ·by_cases hb:b=a
   ·exact .inr ⟨_,_,AA hb⟩
   ·exact .inl (A0 hb)
  ·by_cases hb:b=a
   ·have z':=(AA hb).symm.trans z
    cases z';subst hb;exact⟨ha,by rw[A9];exact hl,vs,_,rv,ha⟩
   ·have z':=(A0 hb).symm.trans z
    cases z'
  ·by_cases hb:b=a
   ·exact hb
   ·exact absurd (A0 hb) z
end _L
namespace _L
open PySem PySem.Spec PyProof.Rows
theorem UP {l:Nr}{n k:Ah}{q:A5}{loose:Aa As}{XP:(As→Ak Ac)→AF→Prop}{YP:AO→AF→Prop}{d:DefRec}{K:Ow→Ai}{CX:AO→CXT}{sp:AO→Sp}{x:As}
  (hn:l.most=Ab n) (hn2:n≤sizeLine) (hdf:d.params.defaults=[]) (hr:Room k HH)
  (hY:∀ (w:AO) (h:AF),YP w h→(K w.params).In h)
  (F:∀ (w:AO) (mg:As→Ak Ac) (fa:Ad) (h:AF),(K w.params).In h→h.Ns AT mg→mg d.name=Ab (.ref fa) →
   ∃ fd:CM,(∀ (s:Ag) (u:Ac),Hg s fd ⟨[u],[]⟩ [(x,u)]) ∧
    ∀ base:AF,(K w.params).In base→base.Ns AT mg→FnOk l.prog w (K w.params) mg base (CX w) k fa fd [x] (sp w))
  (hsp:∀ (w:AO) (H:Hp) (a:Ad) (ns:Aa Aj),ns.length≤n→oF H→SqX (K w.params) H a (ns.map V.int)→sp w [.ref a] H (fun v _=>v=.bl true) fun _ _ _=>Cq)
  (hCX:∀ (w:AO) (H:Hp) (s:Ag) (e:Ac) (s':Ag),CX w [] H s (fun _ _ _=>Cq) e s'→Cq) :
  Kc q loose XP YP l.row.toRowW d [] (fun f vs=>Om f vs):=by
 refine _A.attach_call hn hdf fun w s₀ s₁ mg mb fa o pm cd doc a vs ns G Y ho hd hcd hmg hobj hints hlen hg=>?_;have KX:=hY w _ Y;obtain⟨fd,hb,hF⟩:=F w mg fa _ KX G.T.g hmg;exact Z1 KX G.T.g G.T.b G.T.builtins G.T.nolimit hg hobj hints (Ce hlen hn2) hr hF hb (fun H hO hS=>hsp w H a ns hlen hO hS) fun H e s'=>hCX w H s₁ e s'
end _L
namespace _L
open PySem PySem.Spec PyProof.Rows
def wL (s:Cy):Arguments:=match s with
 |.FunctionDef _ a _ _ _ _ _ _ _ _=>a
 |_=>{ posonlyargs:=[],args:=[],vararg:=none,kwonlyargs:=[],kw_defaults:=[],kwarg:=none,defaults:=[] }
def zR (s:Cy):Aa Cy:=match s with
 |.FunctionDef _ _ b _ _ _ _ _ _ _=>b
 |_=>[]
def qI (s:Cy):CS:=match s with
 |.FunctionDef _ _ _ _ _ _ sc _ _ _=>sc
 |_=>{ kind:=.function,names:=[],isGenerator:=false,isCoroutine:=false }
abbrev CX0:CXT:=fun _ _ _ _ _ _=>Cq
structure Fun (K:Ai)(x qual:As)(st:Cy)(f:Ad)(fd:CM):Prop where
 ex:∃ (oc:Ac) (od:Ak Ad) (kV doc pm:Ac) (an:Ak Ad) (cdv ct:Ac) (osl:A4 (Ak Ac)),
  fd=Dy x qual (wL st) (zR st) (qI st) .none kV doc pm an cdv ct∧K.lookup f=Ab ⟨oc,od,.func fd,osl⟩∧Fy K cdv qual=true
 kp:Cf K (.ref f)=true
section
variable {P:A5}{w:AO}{K:Ai}{mg:As→Ak Ac}{base:AF}
theorem Fun.ok {x qual:As}{st:Cy}{f:Ad}{fd:CM}{N ps:Aa As}{k:Ah}{sp:Sp}(F:Fun K x qual st f fd)(S:FnScope N ps (qI st))(len:∀ vs H Q E,sp vs H Q E→vs.length=ps.length)
  (hbody:∀ (cdv:Ac) (A:A8) (outer:Aa EA) (s:Ag) (H:Hp) (vs:Aa V) (Q:VK) (E:XK),Room k (A.deeper (Dk qual (qI st) s.heap.objs.size f cdv))→sp vs H Q E →
   ∃ t,PSs (bZ CX0 P w K mg base N qual (qI st) f cdv A outer s H E).nox (zR st) t∧t { nx:=fun _ H'=>Q .non H',rt:=Q } (xV N vs) H):FnOk P w K mg base CX0 (k+1) f fd ps sp:=by
 obtain⟨oc,od,kV,doc,pm,an,cdv,ct,osl,rfl,lk,hcd⟩:=F.ex;refine MC lk hcd S len fun A outer s H vs Q E hr hsp=>?_;obtain⟨t,h,q⟩:=hbody cdv A outer s H vs Q E hr hsp;exact⟨t,h.nox,q⟩
theorem Fun.binds {x qual:As}{st:Cy}{f:Ad}{fd:CM}{ps:Aa As}(F:Fun K x qual st f fd)
  (h:∀ (kV doc pm:Ac) (an:Ak Ad) (cdv ct:Ac) (us:Aa Ac),us.length=ps.length→Nq (Dy x qual (wL st) (zR st) (qI st) .none kV doc pm an cdv ct) ⟨us,[]⟩=pure (ps.zip us)):vH K fd ps []:=by
 obtain⟨oc,od,kV,doc,pm,an,cdv,ct,osl,rfl,lk,hcd⟩:=F.ex;exact .all (h kV doc pm an cdv ct)
theorem KS {x qual:As}{st:Cy}{f:Ad}{oc:Ac}{od an:Ak Ad}{osl:A4 (Ak Ac)}{kV doc pm cdv ct:Ac}(l:K.lookup f=Ab ⟨oc,od,.func (Dy x qual (wL st) (zR st) (qI st) .none kV doc pm an cdv ct),osl⟩)
  (c:Fy K cdv qual=true) (k:Cf K (.ref f)=true):Fun K x qual st f (Dy x qual (wL st) (zR st) (qI st) .none kV doc pm an cdv ct):=⟨⟨oc,od,kV,doc,pm,an,cdv,ct,osl,rfl,l,c⟩,k⟩
end
def qH (H H':Hp):Prop:=∀ b o,H b=Ab o→H' b=Ab o
theorem qH.refl (H:Hp):qH H H:=fun _ _ h=>h
theorem qH.trans {H H1 H2:Hp}(a:qH H H1)(b:qH H1 H2):qH H H2:=fun c o h=>b c o (a c o h)
theorem qH.free {H H':Hp}(e:qH H H'){l:Ad}(h:H' l=OW):H l=OW:=by
 cases q:H l with
 |none=>rfl
 |some o =>
  rw[e l o q] at h;cases h
theorem qH.seq {K:Ai}{H H':Hp}{a:Ad}{xs:Aa V}(e:qH H H')(h:SqL K H a xs):SqL K H' a xs:=by
 rcases h with (h|⟨o,h⟩)|h
 ·exact .inl (.inl (e _ _ h))
 ·exact .inl (.inr ⟨o,e _ _ h⟩)
 ·exact .inr h
end _L
end
section
namespace _D
open PySem PySem.Spec PyProof.Rows _L
inductive D where
 |non|bl (b:Ao)|int (i:Aj)|str (x:As)|ty (n:Bo)|obj (a:Ad)|tup (xs:Aa D)|lst (xs:Aa D)|dct0|loc (i:Ah)|exn (c:Ac)|fd (ks:Aa Key) (ds:Aa D)
def nK (a:Ad)(c:Ac):HO:=.ext fun h=>∃ ob,h.get? a=Ab ob∧ob.cls=c
inductive MO where
 |dead|lst (xs:Aa D)|dct (kvs:Aa (Key × D))|ins (C:Ad) (fs:Aa (As × D))
abbrev Sto:=Aa MO
inductive Res (β : Type) where
 |ok (d:β) (S:Sto)|ex (c:Ac) (x:D) (S:Sto)|bad
@[inline] def Res.bind {β γ:Type}(r:Res β)(f:β→Sto→Res γ) : Res γ:=
 match r with
 |.ok d S=>f d S
 |.ex c x S=>.ex c x S
 |.bad=>.bad
theorem Res.bind_ok {β γ:Type}(d:β)(S:Sto)(f:β→Sto→Res γ) : (Res.ok d S).bind f=f d S:=rfl
section
variable (K:Ai)(P:Hp)(α : Aa Ad)
mutual
def Rep:D→V→Prop
 |.non,v=>v=.non
 |.bl b,v=>v=.bl b
 |.int i,v=>v=.int i
 |.str x,v=>v=.str x
 |.ty n,v=>v=.ty n
 |.obj a,v=>v=.ref a∧Cf K (.ref a)=true
 |.tup ds,v=>∃ a vs,v=.ref a∧SqT K P a vs∧qG ds vs
 |.lst ds,v=>∃ a vs,v=.ref a∧SqX K P a vs∧qG ds vs
 |.dct0,v=>∃ a,v=.ref a∧P a=Ab (.dK [])
 |.loc i,v=>∃ a,v=.ref a∧α[i]? = Ab a
 |.exn c,v=>∃ a,v=.ref a∧P a=Ab (nK a c)
 |.fd ks ds,v=>∃ a o vs,v=.ref a∧P a=Ab (.frz o (.dK (ks.zip vs)))∧ks.length=vs.length∧qG ds vs
def qG:Aa D→Aa V→Prop
 |[],vs=>vs=[]
 |d::ds,vs=>∃ w ws,vs=w::ws∧Rep d w∧qG ds ws
end
end
section
variable {K:Ai}{P P':Hp}{α α':Aa Ad}
theorem vG (e:qH P P'){a:Ad}{xs:Aa V}(h:SqT K P a xs):SqT K P' a xs:=by
 rcases h with (h|⟨o,h⟩)|h
 ·exact .inl (.inl (e _ _ h))
 ·exact .inl (.inr ⟨o,e _ _ h⟩)
 ·exact .inr h
theorem sY (e:qH P P'){a:Ad}{u:HO}(h:Rd P a u):Rd P' a u:=by
 rcases h with h|⟨o,h⟩
 ·exact .inl (e _ _ h)
 ·exact .inr ⟨o,e _ _ h⟩
theorem xU (e:qH P P'){a:Ad}{xs:Aa V}(h:SqX K P a xs):SqX K P' a xs:=by
 rcases h with h|h
 ·exact .inl (sY e h)
 ·exact .inr h
theorem p5 {i:Ah}{a:Ad}(h:α<+:α')(e:α[i]? = Ab a):α'[i]? = Ab a:=by
 obtain⟨r,rfl⟩:=h;rw[AG (Ay.mp e).1];exact e
mutual
theorem Rep.mono (e:qH P P')(h:α<+:α'):∀ (d:D) (v:V),Rep K P α d v→Rep K P' α' d v
 |.non,_,r=>by simpa only [Rep] using r
 |.bl _,_,r=>by simpa only [Rep] using r
 |.int _,_,r=>by simpa only [Rep] using r
 |.str _,_,r=>by simpa only [Rep] using r
 |.ty _,_,r=>by simpa only [Rep] using r
 |.obj _,_,r=>by simpa only [Rep] using r
 |.tup ds,v,r=>by
  simp only[Rep] at r ⊢;obtain⟨a,vs,rfl,q,t⟩:=r;exact⟨a,vs,rfl,vG e q,qG.mono e h ds vs t⟩
 |.lst ds,v,r=>by
  simp only[Rep] at r ⊢;obtain⟨a,vs,rfl,q,t⟩:=r;exact⟨a,vs,rfl,xU e q,qG.mono e h ds vs t⟩
 |.dct0,v,r=>by
  simp only[Rep] at r ⊢;obtain⟨a,rfl,q⟩:=r;exact⟨a,rfl,e _ _ q⟩
 |.loc i,v,r=>by
  simp only[Rep] at r ⊢;obtain⟨a,rfl,q⟩:=r;exact⟨a,rfl,p5 h q⟩
 |.exn c,v,r=>by
  simp only[Rep] at r ⊢;obtain⟨a,rfl,q⟩:=r;exact⟨a,rfl,e _ _ q⟩
 |.fd ks ds,v,r=>by
  simp only[Rep] at r ⊢;obtain⟨a,o,vs,rfl,q,hl,t⟩:=r;exact⟨a,o,vs,rfl,e _ _ q,hl,qG.mono e h ds vs t⟩
theorem qG.mono (e:qH P P')(h:α<+:α'):∀ (ds:Aa D) (vs:Aa V),qG K P α ds vs→qG K P' α' ds vs
 |[],vs,r=>by simpa only [qG] using r
 |d::ds,vs,r=>by
  simp only[qG] at r ⊢;obtain⟨w,ws,rfl,r1,r2⟩:=r;exact⟨w,ws,rfl,Rep.mono e h d w r1,qG.mono e h ds ws r2⟩
end
theorem qG.nil:qG K P α [] []:=by simp only[qG]
theorem qG.cons {d:D}{v:V}{ds:Aa D}{vs:Aa V}(r:Rep K P α d v)(t:qG K P α ds vs):qG K P α (d::ds) (v::vs):=by
 simp only[qG];exact⟨v,vs,rfl,r,t⟩
theorem qG.nil_inv {vs:Aa V}(r:qG K P α [] vs):vs=[]:=by simpa only [qG] using r
theorem qG.cons_inv {d:D}{ds:Aa D}{vs:Aa V}(r:qG K P α (d::ds) vs):∃ w ws,vs=w::ws∧Rep K P α d w∧qG K P α ds ws:=by simpa only [qG] using r
theorem qG.length:∀ {ds:Aa D} {vs:Aa V},qG K P α ds vs→ds.length=vs.length
 |[],vs,r=>by rw[r.nil_inv];rfl
 |d::ds,vs,r=>by
  obtain⟨w,ws,rfl,_,t⟩:=r.cons_inv;rw[AH,AH,t.length]
theorem qG.append:∀ {ds es:Aa D} {vs ws:Aa V},qG K P α ds vs→qG K P α es ws→qG K P α (ds++es) (vs++ws)
 |[],es,vs,ws,r,t=>by rw[r.nil_inv];exact t
 |d::ds,es,vs,ws,r,t=>by
  obtain⟨w,us,rfl,r1,r2⟩:=r.cons_inv;exact .cons r1 (r2.append t)
theorem qG.get:∀ {ds:Aa D} {vs:Aa V} {i:Ah} {d:D},qG K P α ds vs→ds[i]? = Ab d→∃ v,vs[i]? = Ab v∧Rep K P α d v
 |[],_,_,_,_,e=>by simp at e
 |d::ds,vs,i,d',r,e=>by
  obtain⟨w,ws,rfl,r1,r2⟩:=r.cons_inv;cases i with
  |zero=>simp at e;subst e;exact⟨w,rfl,r1⟩
  |succ i =>
   obtain⟨v,h1,h2⟩:=r2.get (i:=i) (d:=d') (by simpa using e)
   exact⟨v,by simpa using h1,h2⟩
theorem qG.drop:∀ {ds:Aa D} {vs:Aa V} (n:Ah),qG K P α ds vs→qG K P α (ds.drop n) (vs.drop n)
 |ds,vs,0,r=>by simpa using r
 |[],vs,n+1,r=>by rw[r.nil_inv];exact .nil
 |d::ds,vs,n+1,r=>by
  obtain⟨w,ws,rfl,_,r2⟩:=r.cons_inv;simpa using r2.drop n
theorem qG.take:∀ {ds:Aa D} {vs:Aa V} (n:Ah),qG K P α ds vs→qG K P α (ds.take n) (vs.take n)
 |ds,vs,0,r=>by simpa using qG.nil
 |[],vs,n+1,r=>by rw[r.nil_inv];exact .nil
 |d::ds,vs,n+1,r=>by
  obtain⟨w,ws,rfl,r1,r2⟩:=r.cons_inv;simpa using qG.cons r1 (r2.take n)
theorem qG.set {d:D}{v:V}(q:Rep K P α d v):∀ {ds:Aa D} {vs:Aa V} (n:Ah),qG K P α ds vs→qG K P α (ds.set n d) (vs.set n v)
 |[],vs,n,r=>by rw[r.nil_inv];exact .nil
 |e::ds,vs,0,r=>by
  obtain⟨w,ws,rfl,r1,r2⟩:=r.cons_inv;exact .cons q r2
 |e::ds,vs,n+1,r=>by
  obtain⟨w,ws,rfl,r1,r2⟩:=r.cons_inv;exact .cons r1 (r2.set q n)
end
abbrev qD:=Aa (Ak D)
def qV (K:Ai)(P:Hp)(α : Aa Ad)(σ : _L.St)(env:qD):Prop:=env.length=σ.length∧∀ (i:Ah) (d:D),env[i]? = Ab (Ab d)→∃ v,σ[i]? = Ab (Ab v)∧Rep K P α d v
def KVs (K:Ai)(P:Hp)(α : Aa Ad){κ : Type}:Aa (κ × D)→Aa (κ × V)→Prop:=Paired fun (p:κ × D) (q:κ × V)=>p.1=q.1∧Rep K P α p.2 q.2
def MOk (K:Ai)(H P:Hp)(α : Aa Ad)(a:Ad):MO→Prop
 |.dead=>Hf
 |.lst ds=>∃ vs,H a=Ab (.lst vs)∧qG K P α ds vs
 |.dct kvs=>∃ vs,H a=Ab (.dK vs)∧KVs K P α kvs vs
 |.ins C fs=>∃ dx vs,H a=Ab (.ins C dx vs)∧KVs K P α fs vs
structure Rel (K:Ai)(H P:Hp)(α : Aa Ad)(S:Sto):Prop where
 sub:qH P H
 len:α.length=S.length
 nd:α.Nodup
 sep:∀ (i:Ah) (a:Ad) (o:MO),α[i]? = Ab a→S[i]? = Ab o→o≠.dead→P a=none
 at':∀ (i:Ah) (a:Ad) (o:MO),α[i]? = Ab a→S[i]? = Ab o→MOk K H P α a o
 own:∀ (i:Ah) (a:Ad),α[i]? = Ab a→H a≠none
section
variable {K:Ai}{H P P':Hp}{α α':Aa Ad}{S:Sto}
theorem qV.mono {σ : _L.St}{env:qD}(e:qH P P')(h:α<+:α')(r:qV K P α σ env):qV K P' α' σ env:=
 ⟨r.1,fun i d q=>let ⟨v,h1,h2⟩:=r.2 i d q;⟨v,h1,Rep.mono e h d v h2⟩⟩
theorem KVs.mono {κ : Type}(e:qH P P')(h:α<+:α'){kvs:Aa (κ × D)}{vs:Aa (κ × V)}(r:KVs K P α kvs vs):KVs K P' α' kvs vs:=by
 refine Paired.mapP r fun p q z=>⟨z.1,Rep.mono e h _ _ z.2⟩
theorem MOk.mono {a:Ad}(e:qH P P')(h:α<+:α'):∀ {o:MO},MOk K H P α a o→MOk K H P' α' a o
 |.dead,_=>trivial
 |.lst _,⟨vs,q,r⟩=>⟨vs,q,qG.mono e h _ _ r⟩
 |.dct _,⟨vs,q,r⟩=>⟨vs,q,r.mono e h⟩
 |.ins _ _,⟨dx,vs,q,r⟩=>⟨dx,vs,q,r.mono e h⟩
theorem Rel.grow {H':Hp}(r:Rel K H P α S)(e:qH H H'):Rel K H' P α S where
 sub:=r.sub.trans e
 len:=r.len
 nd:=r.nd
 sep:=r.sep
 at':=fun i a o q1 q2=>by
  have m:=r.at' i a o q1 q2;cases o with
  |dead=>trivial
  |lst ds=>obtain⟨vs,q,t⟩:=m;exact⟨vs,e _ _ q,t⟩
  |dct kvs=>obtain⟨vs,q,t⟩:=m;exact⟨vs,e _ _ q,t⟩
  |ins C fs=>obtain⟨dx,vs,q,t⟩:=m;exact⟨dx,vs,e _ _ q,t⟩
 own:=fun i a q=>by
  have m:=r.own i a q;cases z:H a with
  |none=>exact absurd z m
  |some o=>rw[e _ _ z];intro w;cases w
theorem pU {H:Hp}{a:Ad}{o:HO}(h:H a=none):qH H (upd H a o):=fun b u e=>by rw[qO (qW e h)];exact e
theorem Rel.pure {a:Ad}{o:HO}(r:Rel K H P α S)(h:H a=none):Rel K (upd H a o) (upd P a o) α S∧qH P (upd P a o):=by
 have hP:P a=none:=by
  cases z:P a with
  |none=>rfl
  |some u=>rw[r.sub _ _ z] at h;cases h
 have sP:qH P (upd P a o):=pU hP;have r1:=r.grow (pU (o:=o) h);refine⟨⟨fun b u e=>?_,r.len,r.nd,fun i b u q1 q2 q3=>?_,fun i b u q1 q2=>(r1.at' i b u q1 q2).mono sP (AD _),r1.own⟩,sP⟩
 ·by_cases hb:b=a
  ·subst hb;rw[qZ] at e ⊢;exact e
  ·rw[qO hb] at e ⊢;exact r.sub _ _ e
 ·have hb:b≠a:=by rintro rfl;exact r.own i b q1 h
  rw[qO hb];exact r.sep i b u q1 q2 q3
theorem Rel.new {a:Ad}{o:HO}{m:MO}(r:Rel K H P α S)(h:H a=none)(hm:MOk K (upd H a o) P (α ++ [a]) a m):Rel K (upd H a o) P (α ++ [a]) (S++[m]):=by
 have hP:P a=none:=by
  cases z:P a with
  |none=>rfl
  |some u=>rw[r.sub _ _ z] at h;cases h
 have r1:=r.grow (pU (o:=o) h);have hp:α<+:α++[a]:=Fm _ _;have split:∀ (i:Ah) (b:Ad),(α++[a])[i]? = Ab b→(i<α.length∧α[i]? = Ab b)∨(i=α.length∧b=a):=fun i b q=>by
  by_cases hi:i<α.length
  ·rw[AG hi] at q;exact .inl ⟨hi,q⟩
  ·rw[Cd om] at q
   cases hk:i-α.length with
   |zero=>rw[hk] at q;simp at q;exact .inr ⟨by omega,q.symm⟩
   |succ k=>rw[hk] at q;simp at q
 refine⟨r1.sub,by simp[r.len],?_,fun i b u q1 q2 q3=>?_,fun i b u q1 q2=>?_,fun i b q=>?_⟩
 ·rw[Ga]
  refine⟨r.nd,by simp,fun b hb c hc e=>?_⟩
  simp at hc;subst hc;subst e;obtain⟨i,hi,e⟩:=Bq.mp hb;exact r.own i b (by rw[Ap hi,e]) h
 ·rcases split i b q1 with⟨hi,z⟩|⟨hi,rfl⟩
  ·rw[AG (by rw[← r.len];exact hi)] at q2
   exact r.sep i b u z q2 q3
  ·exact hP
 ·rcases split i b q1 with⟨hi,z⟩|⟨hi,rfl⟩
  ·rw[AG (by rw[← r.len];exact hi)] at q2
   exact(r1.at' i b u z q2).mono (qH.refl _) hp
  ·rw[hi,r.len,Cd (Aw _)] at q2
   simp at q2;subst q2;exact hm
 ·rcases split i b q with⟨_,z⟩|⟨_,rfl⟩
  ·exact r1.own i b z
  ·rw[qZ];intro z;cases z
theorem i8 {N:Aa Ad}(hN:N.Nodup){i j:Ah}{x:Ad}(a:N[i]? = Ab x)(b:N[j]? = Ab x):i=j:=by
 obtain⟨h1,e1⟩:=Ay.mp a;obtain⟨h2,e2⟩:=Ay.mp b;exact(Gi hN).mp (e1.trans e2.symm)
theorem Rel.put {a:Ad}{i:Ah}{o:HO}{m m':MO}(r:Rel K H P α S)(ha:α[i]? = Ab a)(hs:S[i]? = Ab m)(hd:m≠.dead)(hm:MOk K (upd H a o) P α a m'):Rel K (upd H a o) P α (S.set i m'):=by
 have hP:=r.sep i a m ha hs hd;have hi:i<S.length:=(Ay.mp hs).1;refine⟨fun b u e=>?_,by simp[r.len],r.nd,fun j b u q1 q2 q3=>?_,fun j b u q1 q2=>?_,fun j b q=>?_⟩
 ·have hb:b≠a:=by rintro rfl;rw[hP] at e;cases e
  rw[qO hb];exact r.sub _ _ e
 ·by_cases hj:j=i
  ·subst hj;rw[ha] at q1;cases q1;exact hP
  ·rw[Ba (DC hj)] at q2;exact r.sep j b u q1 q2 q3
 ·by_cases hj:j=i
  ·subst hj;rw[ha] at q1;cases q1
   rw[Bz hi] at q2;cases q2;exact hm
  ·rw[Ba (DC hj)] at q2
   have hb:b≠a:=by rintro rfl;exact hj (i8 r.nd q1 ha)
   have z:=r.at' j b u q1 q2;cases u with
   |dead=>trivial
   |lst ds=>obtain⟨vs,q,t⟩:=z;exact⟨vs,by rw[qO hb];exact q,t⟩
   |dct kvs=>obtain⟨vs,q,t⟩:=z;exact⟨vs,by rw[qO hb];exact q,t⟩
   |ins C fs=>obtain⟨dx,vs,q,t⟩:=z;exact⟨dx,vs,by rw[qO hb];exact q,t⟩
 ·by_cases hb:b=a
  ·subst hb;rw[qZ];intro z;cases z
  ·rw[qO hb];exact r.own j b q
end
theorem nn {β : Type}{a:β}{p:Prop}(h:(none:Ak β) = Ab a):p:=by cases h
theorem jW {β : Type}{c:Prop}[IQ c]{a b:β}(h:(if c then Ab a else none)=Ab b):c∧a=b:=by
 by_cases z:c
 ·rw[AA z] at h;exact⟨z,Be h⟩
 ·rw[A0 z] at h;exact nn h
end _D
end
namespace _D
open PySem PySem.Spec PyProof.Rows _L
abbrev DE:=qD→Sto→Res D
abbrev DT:=qD→Sto→Res Ao
abbrev DA:=qD→Sto→Res (Aa D)
inductive Out where
 |nx (env:qD) (S:Sto)|rt (d:D) (S:Sto)|bk (env:qD) (S:Sto)|ct (env:qD) (S:Sto)|ex (c:Ac) (x:D) (env:qD) (S:Sto)|bad
abbrev DS:=qD→Sto→Out
def Old (X:Cx)(pins:Aa (Ad × AV))(H:Hp)(b:Ad):Prop:=
 (∃ o,X.s₀.heap.get? b=Ab o)∨H b≠none∨(∃ p∈X.pn++pins,p.1=b)∨∃ x,X.env.cells.lookup x=Ab b
def Cv (X:Cx)(pins:Aa (Ad × AV))(H:Hp)(B h:AF):Prop:=∀ b o,h.get? b=Ab o→Old X pins H b→b ∉ frs X.stack→B.get? b=Ab o
inductive FlyX (X:Cx)(pins:Aa (Ad × AV))(H:Hp)(c:Ac)(e:Ad)(h:AF):Prop where
 |new (g:AF) (args:Aa Ac):Jh g h e c args→g.FunFrames X.base X.stack→(∀ b o,h.get? b=Ab o→Old X pins H b→g.get? b=Ab o)→FlyX X pins H c e h
 |fly (B:AF) (a0:Ac):He B X.stack e c a0 h→Cv X pins H B h→FlyX X pins H c e h
inductive XOk (X:Cx)(P:Hp)(α : Aa Ad)(c:Ac)(x:D)(S:Sto)(u:Ac)(s:Ag):Prop
 |mk (e:Ad) (pins:Aa (Ad × AV)) (σ : _L.St) (H:Hp) (P':Hp) (α' : Aa Ad) (e1:u=.ref e) (I:Inv X pins σ H s) (r:Rel X.K H P' α' S) (q1:qH P P') (q2:α<+:α') (q3:X.ex=[]∧X.stack=X.env::X.outer∧X.env.frame=Ab X.env.locals) (q4:FlyX X pins H c e s.heap):XOk X P α c x S u s
theorem XOk.base {X:Cx}{P P1:Hp}{α α1:Aa Ad}{c:Ac}{x:D}{S:Sto}{u:Ac}{s:Ag}(e:qH P P1)(h:α<+:α1)(k:XOk X P1 α1 c x S u s):XOk X P α c x S u s:=by
 obtain⟨a,pins,σ,H,P',α',e1,I,r,q1,q2,q3,q4⟩:=k;exact⟨a,pins,σ,H,P',α',e1,I,r,e.trans q1,h.trans q2,q3,q4⟩
section
variable (X:Cx)
def qJ {β : Type}(P:Hp)(α : Aa Ad)(r:Res β)(Ok:β→Sto→Prop):Prop:=
 match r with
 |.ok d S'=>Ok d S'
 |.ex c x S'=>∀ u s',XOk X P α c x S' u s'→X.xe u s'
 |.bad=>Cq
def OkV (P:Hp)(α : Aa Ad)(Q:VK)(d:D)(S':Sto):Prop:=∀ v H' P' α',Rel X.K H' P' α' S'→qH P P'→α<+:α'→Rep X.K P' α' d v→Q v H'
def OkT (P:Hp)(α : Aa Ad)(Q:Ao→Hp→Prop)(b:Ao)(S':Sto):Prop:=∀ H' P' α',Rel X.K H' P' α' S'→qH P P'→α<+:α'→Q b H'
def OkA (P:Hp)(α : Aa Ad)(Q:Aa V→Hp→Prop)(ds:Aa D)(S':Sto):Prop:=∀ vs H' P' α',Rel X.K H' P' α' S'→qH P P'→α<+:α'→qG X.K P' α' ds vs→Q vs H'
abbrev qU (P:Hp)(α : Aa Ad)(r:Res D)(Q:VK):Prop:=qJ X P α r (OkV X P α Q)
abbrev j7 (P:Hp)(α : Aa Ad)(r:Res Ao)(Q:Ao→Hp→Prop):Prop:=qJ X P α r (OkT X P α Q)
abbrev kN (P:Hp)(α : Aa Ad)(r:Res (Aa D))(Q:Aa V→Hp→Prop):Prop:=qJ X P α r (OkA X P α Q)
def qX (P:Hp)(α : Aa Ad)(r:Out)(D:Ends):Prop:=
 match r with
 |.nx env' S'=>∀ σ' H' P' α',Rel X.K H' P' α' S'→qV X.K P' α' σ' env'→qH P P'→α<+:α'→D.nx σ' H'
 |.bk env' S'=>∀ σ' H' P' α',Rel X.K H' P' α' S'→qV X.K P' α' σ' env'→qH P P'→α<+:α'→D.bk σ' H'
 |.ct env' S'=>∀ σ' H' P' α',Rel X.K H' P' α' S'→qV X.K P' α' σ' env'→qH P P'→α<+:α'→D.ct σ' H'
 |.rt d S'=>∀ v H' P' α',Rel X.K H' P' α' S'→qH P P'→α<+:α'→Rep X.K P' α' d v→D.rt v H'
 |.ex c x _ S'=>∀ u s',XOk X P α c x S' u s'→X.xe u s'
 |.bad=>Cq
inductive tD (f:DE)(σ : _L.St)(H:Hp)(Q:VK):Prop
 |mk (P:Hp) (α : Aa Ad) (env:qD) (S:Sto) (r:Rel X.K H P α S) (re:qV X.K P α σ env) (af:qU X P α (f env S) Q):tD f σ H Q
inductive tDT (f:DT)(σ : _L.St)(H:Hp)(Q:Ao→Hp→Prop):Prop
 |mk (P:Hp) (α : Aa Ad) (env:qD) (S:Sto) (r:Rel X.K H P α S) (re:qV X.K P α σ env) (af:j7 X P α (f env S) Q):tDT f σ H Q
inductive tDA (f:DA)(σ : _L.St)(H:Hp)(Q:Aa V→Hp→Prop):Prop
 |mk (P:Hp) (α : Aa Ad) (env:qD) (S:Sto) (r:Rel X.K H P α S) (re:qV X.K P α σ env) (af:kN X P α (f env S) Q):tDA f σ H Q
inductive tDS (f:DS)(D:Ends)(σ : _L.St)(H:Hp):Prop
 |mk (P:Hp) (α : Aa Ad) (env:qD) (S:Sto) (r:Rel X.K H P α S) (re:qV X.K P α σ env) (af:qX X P α (f env S) D):tDS f D σ H
end
section
variable {X:Cx}{P P1:Hp}{α α1:Aa Ad}
theorem qU.base {r:Res D}{Q:VK}(e:qH P P1)(h:α<+:α1)(k:qU X P α r Q):qU X P1 α1 r Q:=by
 cases r with
 |ok d S=>exact fun v H' P' α' r q1 q2 q3=>k v H' P' α' r (e.trans q1) (h.trans q2) q3
 |ex c x S=>exact fun u s' q=>k u s' (q.base e h)
 |bad=>exact k
theorem j7.base {r:Res Ao}{Q:Ao→Hp→Prop}(e:qH P P1)(h:α<+:α1)(k:j7 X P α r Q):j7 X P1 α1 r Q:=by
 cases r with
 |ok d S=>exact fun H' P' α' r q1 q2=>k H' P' α' r (e.trans q1) (h.trans q2)
 |ex c x S=>exact fun u s' q=>k u s' (q.base e h)
 |bad=>exact k
theorem kN.base {r:Res (Aa D)}{Q:Aa V→Hp→Prop}(e:qH P P1)(h:α<+:α1)(k:kN X P α r Q):kN X P1 α1 r Q:=by
 cases r with
 |ok d S=>exact fun v H' P' α' r q1 q2 q3=>k v H' P' α' r (e.trans q1) (h.trans q2) q3
 |ex c x S=>exact fun u s' q=>k u s' (q.base e h)
 |bad=>exact k
theorem qX.base {r:Out}{D:Ends}(e:qH P P1)(h:α<+:α1)(k:qX X P α r D):qX X P1 α1 r D:=by
 cases r with
 |nx env S=>exact fun v H' P' α' r q0 q1 q2=>k v H' P' α' r q0 (e.trans q1) (h.trans q2)
 |bk env S=>exact fun v H' P' α' r q0 q1 q2=>k v H' P' α' r q0 (e.trans q1) (h.trans q2)
 |ct env S=>exact fun v H' P' α' r q0 q1 q2=>k v H' P' α' r q0 (e.trans q1) (h.trans q2)
 |rt d S=>exact fun v H' P' α' r q1 q2 q3=>k v H' P' α' r (e.trans q1) (h.trans q2) q3
 |ex c x env S=>exact fun u s' q=>k u s' (q.base e h)
 |bad=>exact k
theorem xr {Q:VK}{v:V}{H:Hp}{d:D}{S:Sto}(k:OkV X P α Q d S)(r:Rel X.K H P α S)(q:Rep X.K P α d v):Q v H:=k v H P α r (qH.refl _) (AD _) q
end
section
variable {X:Cx}{a b e:AC}{pos:Cz}
theorem peW {t t':TE}(h:PE X e t)(w:∀ σ H Q,t' σ H Q→t σ H Q):PE X e t':=fun pins s σ H Q I q=>h pins s σ H Q I (w σ H Q q)
theorem psW {st:Cy}{t t':TS}(h:PS X st t)(w:∀ D σ H,t' D σ H→t D σ H):PS X st t':=fun pins s σ H D I q=>h pins s σ H D I (w D σ H q)
theorem BB {st:Aa Cy}{t t':TS}(h:PSs X st t)(w:∀ D σ H,t' D σ H→t D σ H):PSs X st t':=fun pins s σ H D I q=>h pins s σ H D I (w D σ H q)
theorem paW {es:Aa AC}{t t':TA}(h:PA X es t)(w:∀ σ H Q,t' σ H Q→t σ H Q):PA X es t':=fun pos pins s σ H Q I q=>h pos pins s σ H Q I (w σ H Q q)
structure Got (X:Cx)(pins:Aa (Ad × AV))(σ : _L.St)(env:qD)(P:Hp)(α : Aa Ad)(u:Ac)(s1:Ag)(v:V)(H1 P1:Hp)(α1:Aa Ad)(d:D)(S1:Sto):Prop where
 inv:Inv X pins σ H1 s1
 val:qK v u
 rel:Rel X.K H1 P1 α1 S1
 env:qV X.K P1 α1 σ env
 rep:Rep X.K P1 α1 d v
 same:qH P P1
 pre:α<+:α1
inductive GotG (X:Cx)(pins:Aa (Ad × AV))(σ : _L.St)(env:qD)(P:Hp)(α : Aa Ad)(u:Ac)(s1:Ag){γ : Type}(g:D→Sto→Res γ)(Ok:γ→Sto→Prop):Prop
 |mk (v:V) (H1 P1:Hp) (α1:Aa Ad) (d:D) (S1:Sto) (G:Got X pins σ env P α u s1 v H1 P1 α1 d S1) (q:qJ X P α (g d S1) Ok):GotG X pins σ env P α u s1 g Ok
inductive GotAG (X:Cx)(pins:Aa (Ad × AV))(σ : _L.St)(env:qD)(P:Hp)(α : Aa Ad)(us:Aa Ac)(s1:Ag){γ : Type}(g:Aa D→Sto→Res γ)(Ok:γ→Sto→Prop):Prop
 |mk (vs:Aa V) (H1 P1:Hp) (α1:Aa Ad) (ds:Aa D) (S1:Sto) (I:Inv X pins σ H1 s1) (rv:qM vs us) (r:Rel X.K H1 P1 α1 S1) (re:qV X.K P1 α1 σ env) (rp:qG X.K P1 α1 ds vs) (e1:qH P P1) (e2:α<+:α1) (q:qJ X P α (g ds S1) Ok):GotAG X pins σ env P α us s1 g Ok
inductive GotT (X:Cx)(pins:Aa (Ad × AV))(σ : _L.St)(env:qD)(P:Hp)(α : Aa Ad)(b:Ao)(s1:Ag){γ : Type}(g:Ao→Sto→Res γ)(Ok:γ→Sto→Prop):Prop
 |mk (H1 P1:Hp) (α1:Aa Ad) (S1:Sto) (I:Inv X pins σ H1 s1) (r:Rel X.K H1 P1 α1 S1) (re:qV X.K P1 α1 σ env) (e1:qH P P1) (e2:α<+:α1) (q:qJ X P α (g b S1) Ok):GotT X pins σ env P α b s1 g Ok
theorem x0 {γ : Type}{f:DE}{g:D→Sto→Res γ}{Ok:γ→Sto→Prop}{pins:Aa (Ad × AV)}{s:Ag}{σ : _L.St}{H P:Hp}{α : Aa Ad}{env:qD}{S:Sto}(he:PE X e (tD X f))(I:Inv X pins σ H s)(r:Rel X.K H P α S)
  (re:qV X.K P α σ env) (af:qJ X P α ((f env S).bind g) Ok) :
  An (Ar X.prog X.w) X.A (eval e X.env) (fun u s1=>GotG X pins σ env P α u s1 g Ok) X.xe s:=by
 refine thn (he pins s σ H (fun v H1=>∃ P1 α1 d S1,Rel X.K H1 P1 α1 S1∧qV X.K P1 α1 σ env∧Rep X.K P1 α1 d v∧qH P P1∧α<+:α1∧qJ X P α (g d S1) Ok) I ⟨P,α,env,S,r,re,?_⟩) fun u s1 ⟨v,H1,I1,rv,P1,α1,d,S1,q1,q2,q3,q4,q5,q6⟩=>⟨v,H1,P1,α1,d,S1,⟨I1,rv,q1,q2,q3,q4,q5⟩,q6⟩;cases q:f env S with
 |bad=>rw[q] at af;exact af
 |ex c x S'=>rw[q] at af;exact af
 |ok d S' =>
  rw[q] at af;exact fun v H' P' α' r' e1 e2 rp=>⟨P',α',d,S',r',re.mono e1 e2,rp,e1,e2,af⟩
theorem w9 {γ : Type}{es:Aa AC}{f:DA}{g:Aa D→Sto→Res γ}{Ok:γ→Sto→Prop}{pins:Aa (Ad × AV)}{s:Ag}{σ : _L.St}{H P:Hp}{α : Aa Ad}{env:qD}{S:Sto}(he:PA X es (tDA X f))(I:Inv X pins σ H s)(r:Rel X.K H P α S)
  (re:qV X.K P α σ env) (af:qJ X P α ((f env S).bind g) Ok) (pos:Cz) :
  An (Ar X.prog X.w) X.A (spliced (CP pos (Az es X.env))) (fun us s1=>GotAG X pins σ env P α us s1 g Ok) X.xe s:=by
 refine thn (he pos pins s σ H (fun vs H1=>∃ P1 α1 ds S1,Rel X.K H1 P1 α1 S1∧qV X.K P1 α1 σ env∧qG X.K P1 α1 ds vs∧qH P P1∧α<+:α1∧qJ X P α (g ds S1) Ok) I ⟨P,α,env,S,r,re,?_⟩) fun u s1 ⟨v,H1,I1,rv,P1,α1,d,S1,q1,q2,q3,q4,q5,q6⟩=>⟨v,H1,P1,α1,d,S1,I1,rv,q1,q2,q3,q4,q5,q6⟩;cases q:f env S with
 |bad=>rw[q] at af;exact af
 |ex c x S'=>rw[q] at af;exact af
 |ok d S' =>
  rw[q] at af;exact fun v H' P' α' r' e1 e2 rp=>⟨P',α',d,S',r',re.mono e1 e2,rp,e1,e2,af⟩
theorem b7 {γ : Type}{f:DT}{g:Ao→Sto→Res γ}{Ok:γ→Sto→Prop}{pins:Aa (Ad × AV)}{s:Ag}{σ : _L.St}{H P:Hp}{α : Aa Ad}{env:qD}{S:Sto}{m:Fb Ao}
  (he:∀ (Q:Ao→Hp→Prop),tDT X f σ H Q→An (Ar X.prog X.w) X.A m (TP X pins σ Q) X.xe s) (r:Rel X.K H P α S) (re:qV X.K P α σ env) (af:qJ X P α ((f env S).bind g) Ok) :
  An (Ar X.prog X.w) X.A m (fun b s1=>GotT X pins σ env P α b s1 g Ok) X.xe s:=by
 refine thn (he (fun b H1=>∃ P1 α1 S1,Rel X.K H1 P1 α1 S1∧qV X.K P1 α1 σ env∧qH P P1∧α<+:α1∧qJ X P α (g b S1) Ok) ⟨P,α,env,S,r,re,?_⟩) fun b s1 ⟨H1,I1,P1,α1,S1,q1,q2,q4,q5,q6⟩=>⟨H1,P1,α1,S1,I1,q1,q2,q4,q5,q6⟩;cases q:f env S with
 |bad=>rw[q] at af;exact af
 |ex c x S'=>rw[q] at af;exact af
 |ok d S' =>
  rw[q] at af;exact fun H' P' α' r' e1 e2=>⟨P',α',S',r',re.mono e1 e2,e1,e2,af⟩
def dC (d:D):DE:=fun _ S=>.ok d S
def qB (i:Ah):DE:=fun env S=>match env[i]? with
 |some (Ab d)=>.ok d S
 |_=>.bad
theorem JS {i j}:PE X (.Constant (.int i) j pos) (tD X (dC (.int i))):=peW PX fun σ H Q ⟨P,α,env,S,r,re,af⟩=>xr af r (by simp only[Rep])
theorem M2 {i j}:PE X (.Constant (.bool i) j pos) (tD X (dC (.bl i))):=peW T9 fun σ H Q ⟨P,α,env,S,r,re,af⟩=>xr af r (by simp only[Rep])
theorem JX {i j}:PE X (.Constant (.str i) j pos) (tD X (dC (.str i))):=peW B0 fun σ H Q ⟨P,α,env,S,r,re,af⟩=>xr af r (by simp only[Rep])
theorem JU {j}:PE X (.Constant .none j pos) (tD X (dC .non)):=peW PY fun σ H Q ⟨P,α,env,S,r,re,af⟩=>xr af r (by simp only[Rep])
set_option tactic.hygienic true in
theorem UK {i:Ah}{σ : _L.St}{H:Hp}{Q:VK}(h:tD X (qB i) σ H Q):FC i σ H Q:=by
 obtain⟨P,α,env,S,r,re,af⟩:=h;unfold qB at af
 split at af
 ·rename_i d q
  obtain⟨v,h1,h2⟩:=re.2 i d q;exact⟨v,h1,xr af r h2⟩
 ·exact Am af
theorem dv (i:Ah){x:As}(hN:X.N[i]? = Ab x:=by rfl)(hv:Vis X.env.scope x:=by first|exact Ox rfl|exact Mx (Ox rfl)|exact Mx (Mx rfl))(hd:(x == ("__debug__" : As))=false:=by decide)
  (hcd:(x == ("__classdict__" : As))=false:=by decide):PE X (.Name x pos) (tD X (qB i)):=peW (B4 hN hv hd hcd) fun σ H Q h=>UK h
theorem dN {x:As}{d:D}{v:V}{u:Ac}(hg:Gl X x)(hm:X.mg x=Ab u)(r:qK v u)(q:∀ P α,Rep X.K P α d v)(hd:(x == ("__debug__" : As))=false:=by decide):PE X (.Name x pos) (tD X (dC d)):=
 peW (VG hg hm r hd) fun σ H Q ⟨P,α,env,S,r,re,af⟩=>xr af r (q _ _)
theorem WQ {x:As}{n:Bo}(hg:Gl X x)(hm:X.mg x=none)(hv:CK x=Ab (.type n))(hn:x ≠ "__name__":=by decide)(hd:(x == ("__debug__" : As))=false:=by decide):PE X (.Name x pos) (tD X (dC (.ty n))):=
 peW (VF (v:=.ty n) hg hm hv rfl hn hd) fun σ H Q ⟨P,α,env,S,r,re,af⟩=>xr af r (by simp only[Rep])
abbrev G2:=D→D→Sto→Res D
def OpD (X:Cx)(f:Ac→Ac→Fb Ac)(g:G2):Prop:=
 ∀ (pins:Aa (Ad × AV)) (σ : _L.St) (H:Hp) (s:Ag) (P:Hp) (α : Aa Ad) (S:Sto) (v u:V) (vv uu:Ac) (a b:D) (Q:VK),Inv X pins σ H s→Rel X.K H P α S→qK v vv→qK u uu→Rep X.K P α a v→Rep X.K P α b u→qU X P α (g a b S) Q →
  An (Ar X.prog X.w) X.A (f vv uu) (EP X pins σ Q) X.xe s
theorem OpD.of {f:Ac→Ac→Fb Ac}{r:R2}{g:G2}(h:OpR X f r)(w:∀ H P α S v u a b Q,Rel X.K H P α S→Rep X.K P α a v→Rep X.K P α b u→qU X P α (g a b S) Q→r v u H Q):OpD X f g:=
 fun pins σ H s P α S v u vv uu a b Q I rl r1 r2 p1 p2 af=>h pins s σ H v u vv uu Q I r1 r2 (w H P α S v u a b Q rl p1 p2 af)
def UnD (X:Cx)(f:Ac→Fb Ac)(g:D→Sto→Res D):Prop:=
 ∀ (pins:Aa (Ad × AV)) (σ : _L.St) (H:Hp) (s:Ag) (P:Hp) (α : Aa Ad) (S:Sto) (v:V) (vv:Ac) (a:D) (Q:VK),Inv X pins σ H s→Rel X.K H P α S→qK v vv→Rep X.K P α a v→qU X P α (g a S) Q →
  An (Ar X.prog X.w) X.A (f vv) (EP X pins σ Q) X.xe s
def IxD (X:Cx)(g:G2):Prop:=
 ∀ (value slice:AC) (pins:Aa (Ad × AV)) (σ : _L.St) (H:Hp) (s:Ag) (P:Hp) (α : Aa Ad) (S:Sto) (v u:V) (vv uu:Ac) (a b:D) (Q:VK),Inv X pins σ H s→Rel X.K H P α S→qK v vv→qK u uu→Rep X.K P α a v→Rep X.K P α b u→qU X P α (g a b S) Q →
  subscripted slice false vv uu=operate [vv,uu] (Fu vv uu)→An (Ar X.prog X.w) X.A (HG value slice vv uu) (EP X pins σ Q) X.xe s
def w6 (X:Cx)(f:Ac)(g:Aa D→Sto→Res D):Prop:=
 ∀ (pins:Aa (Ad × AV)) (σ : _L.St) (H:Hp) (s:Ag) (P:Hp) (α : Aa Ad) (S:Sto) (vs:Aa V) (us:Aa Ac) (ds:Aa D) (Q:VK),Inv X pins σ H s→Rel X.K H P α S→qM vs us→qG X.K P α ds vs→qU X P α (g ds S) Q →
  An (Ar X.prog X.w) X.A (call f us) (EP X pins σ Q) X.xe s
def d2 (g:G2)(fa fb:DE):DE:=fun env S=>(fa env S).bind fun x S1=>(fb env S1).bind fun y S2=>g x y S2
def d1 (g:D→Sto→Res D)(fa:DE):DE:=fun env S=>(fa env S).bind g
variable {fa fb:DE}
theorem nD {g:G2}{f:Ac→Ac→Fb Ac}{pins:Aa (Ad × AV)}{s:Ag}{σ : _L.St}{H:Hp}{Q:VK}(ho:OpD X f g)(ha:PE X a (tD X fa))(hb:PE X b (tD X fb))(I:Inv X pins σ H s)(h:tD X (d2 g fa fb) σ H Q) :
  An (Ar X.prog X.w) X.A (eval a X.env) (fun v s₁=>An (Ar X.prog X.w) X.A (eval b X.env) (fun u s₂=>An (Ar X.prog X.w) X.A (f v u) (EP X pins σ Q) X.xe s₂) X.xe s₁) X.xe s:=by
 obtain⟨P,α,env,S,r,re,af⟩:=h;refine thn (x0 ha I r re af) fun vv s1 ⟨v,H1,P1,α1,d,S1,G1,af1⟩=>?_;refine thn (x0 hb G1.inv G1.rel G1.env (P:=P1) (α:=α1) (Ok:=OkV X P1 α1 Q) (g:=fun y S2=>g d y S2) ?_) fun uu s2 ⟨u,H2,P2,α2,d',S2,G2,af2⟩=>?_
 ·exact qU.base G1.same G1.pre af1
 ·exact ho pins σ H2 s2 P2 α2 S2 v u vv uu d d' Q G2.inv G2.rel G1.val G2.val (Rep.mono G2.same G2.pre _ _ G1.rep) G2.rep (qU.base G2.same G2.pre af2)
theorem M4 {op:Operator}{g:G2}(ho:OpD X (Ci op) g)(ha:PE X a (tD X fa))(hb:PE X b (tD X fb)):PE X (.BinOp a op b pos) (tD X (d2 g fa fb)):=
 fun pins s σ H Q I h=>wpAny_BinOp (nD ho ha hb I h)
theorem JP {op:Lw}{g:G2}(ho:OpD X (Bj op) g)(ha:PE X a (tD X fa))(hb:PE X b (tD X fb))(hm:ET op b=false:=by first|exact jG _|with_unfolding_all rfl):PE X (.Compare a [op] [b] pos) (tD X (d2 g fa fb)):=
 fun pins s σ H Q I h=>wpAny_Compare1 (nD ho ha hb I h) hm
theorem M5 {op:UnaryOp}{g:D→Sto→Res D}(ho:UnD X (Ms op) g)(ha:PE X a (tD X fa)):PE X (.UnaryOp op a pos) (tD X (d1 g fa)):=by
 intro pins s σ H Q I h;obtain⟨P,α,env,S,r,re,af⟩:=h;exact UnaryOp_ (thn (x0 ha I r re af) fun vv s1 ⟨v,H1,P1,α1,d,S1,G1,af1⟩=>ho pins σ H1 s1 P1 α1 S1 v vv d Q G1.inv G1.rel G1.val G1.rep (qU.base G1.same G1.pre af1))
theorem XM {g:G2}(ho:IxD X g)(ha:PE X a (tD X fa))(hb:PE X b (tD X fb))(hs:u9 b:=by intro _ _;rfl):PE X (.Subscript a b pos) (tD X (d2 g fa fb)):=by
 intro pins s σ H Q I h;obtain⟨P,α,env,S,r,re,af⟩:=h;have IxR':IxR X (fun x y H Q=>∃ P α S a b,Rel X.K H P α S∧Rep X.K P α a x∧Rep X.K P α b y∧qU X P α (g a b S) Q):=fun value slice pins s σ H x y v u Q I rx ry ⟨P,α,S,a,b,r,p1,p2,af⟩ hsl =>
  ho value slice pins σ H s P α S x y v u a b Q I r rx ry p1 p2 af hsl
 refine peW (TB IxR' ha hb hs) (t':=tD X (d2 g fa fb)) (fun σ H Q h=>?_) pins s σ H Q I ⟨P,α,env,S,r,re,af⟩;obtain⟨P,α,env,S,r,re,af⟩:=h;refine⟨P,α,env,S,r,re,?_⟩;unfold d2 at af;cases q:fa env S with
 |bad=>rw[q] at af;exact af
 |ex c x S'=>rw[q] at af;exact af
 |ok d S1 =>
  rw[q] at af;intro v H1 P1 α1 r1 e1 e2 rp;refine⟨P1,α1,env,S1,r1,re.mono e1 e2,?_⟩;have af':qU X P α ((fb env S1).bind fun y S2=>g d y S2) Q:=af;cases q2:fb env S1 with
  |bad=>rw[q2] at af';exact af'
  |ex c x S'=>rw[q2] at af';exact fun u s' z=>af' u s' (z.base e1 e2)
  |ok d' S2 =>
   rw[q2] at af';intro u H2 P2 α2 r2 e3 e4 rp2;exact⟨P2,α2,S2,d,d',r2,Rep.mono e3 e4 _ _ rp,rp2,qU.base (e1.trans e3) (e2.trans e4) af'⟩
def qC:DA:=fun _ S=>.ok [] S
def qA (f:DE)(g:DA):DA:=fun env S=>(f env S).bind fun x S1=>(g env S1).bind fun xs S2=>.ok (x::xs) S2
theorem cI:PA X [] (tDA X qC):=paW PV fun σ H Q ⟨P,α,env,S,r,re,af⟩=>af [] H P α r (qH.refl _) (AD _) .nil
theorem dM {es:Aa AC}{g:DA}(ha:PE X e (tD X fa))(hr:PA X es (tDA X g))(hs:Az (e::es) X.env=(false,eval e X.env)::Az es X.env:=by rfl):PA X (e::es) (tDA X (qA fa g)):=by
 intro pos pins s σ H Q I h;obtain⟨P,α,env,S,r,re,af⟩:=h;rw[hs];show An _ _ (spliced ((false,eval e X.env)::CP pos (Az es X.env))) _ _ s;refine Hv (thn (x0 ha I r re af) fun u s1 ⟨x,H1,P1,α1,d,S1,G1,af1⟩=>?_);refine thn (w9 hr G1.inv G1.rel G1.env (P:=P1) (α:=α1) (Ok:=OkA X P1 α1 Q) (kN.base G1.same G1.pre af1) pos) fun us s2 ⟨xs,H2,P2,α2,ds,S2,I2,rv,r2,re2,rp2,e1,e2,af2⟩=>?_;exact⟨x::xs,H2,I2,.cons G1.val rv,af2 _ _ _ _ r2 e1 e2 (.cons (Rep.mono e1 e2 _ _ G1.rep) rp2)⟩
def lim:Ah:=16777216
theorem zS:lim=sizeLine:=Dn.symm
def zH (f:DA):DE:=fun env S=>(f env S).bind fun xs S1=>if xs.length≤lim then .ok (.tup xs) S1 else .bad
def zZ (f:DA):DE:=fun env S=>(f env S).bind fun xs S1=>if xs.length≤lim then .ok (.lst xs) S1 else .bad
def gR (f:DA):DE:=fun env S=>(f env S).bind fun xs S1=>if xs.length≤lim then .ok (.loc S1.length) (S1++[.lst xs]) else .bad
theorem fY {K:Ai}{P:Hp}{α : Aa Ad}{a:Ad}{ds:Aa D}{vs:Aa V}(h:SqT K P a vs)(r:qG K P α ds vs):Rep K P α (.tup ds) (.ref a):=by simp only[Rep];exact⟨a,vs,rfl,h,r⟩
theorem fX {K:Ai}{P:Hp}{α : Aa Ad}{a:Ad}{ds:Aa D}{vs:Aa V}(h:SqX K P a vs)(r:qG K P α ds vs):Rep K P α (.lst ds) (.ref a):=by simp only[Rep];exact⟨a,vs,rfl,h,r⟩
theorem pS {H P:Hp}{α : Aa Ad}{S:Sto}{p:Ad}{ds:Aa D}{vs:Aa V}{Q:VK}(r:Rel X.K H P α S)(hp:H p=none)(rp:qG X.K P α ds vs)(af:OkV X P α Q (.tup ds) S):Q (.ref p) (upd H p (.tup vs)):=by
 obtain⟨r1,e1⟩:=r.pure (o:=.tup vs) hp;exact af _ _ _ α r1 e1 (AD _) (fY (.of qZ) (qG.mono e1 (AD _) _ _ rp))
theorem vD {H P:Hp}{α : Aa Ad}{S:Sto}{p:Ad}{ds:Aa D}{vs:Aa V}{Q:VK}(r:Rel X.K H P α S)(hp:H p=none)(rp:qG X.K P α ds vs)(af:OkV X P α Q (.lst ds) S):Q (.ref p) (upd H p (.lst vs)):=by
 obtain⟨r1,e1⟩:=r.pure (o:=.lst vs) hp;exact af _ _ _ α r1 e1 (AD _) (fX (.inl (.inl qZ)) (qG.mono e1 (AD _) _ _ rp))
theorem sS {H P:Hp}{α : Aa Ad}{S:Sto}{p:Ad}{ds:Aa D}{vs:Aa V}{Q:VK}(r:Rel X.K H P α S)(hp:H p=none)(rp:qG X.K P α ds vs)(af:OkV X P α Q (.loc S.length) (S++[.lst ds])):Q (.ref p) (upd H p (.lst vs)):=by
 have hpre:α<+:α++[p]:=Fm _ _;have r1:=r.new (o:=.lst vs) (m:=.lst ds) hp ⟨vs,qZ,qG.mono (qH.refl _) hpre _ _ rp⟩;refine af _ _ _ _ r1 (qH.refl _) hpre ?_;simp only[Rep];exact⟨p,rfl,by rw[← r.len];simp⟩
theorem f9 {f:DA}{σ : _L.St}{H:Hp}{Q:VK}{G:Aa D→Sto→Res D}{mk:Aa V→HO}(h:tD X (fun env S=>(f env S).bind fun xs S1=>if xs.length≤lim then G xs S1 else .bad) σ H Q)
  (k:∀ H1 P1 α1 S1 ds vs p,Rel X.K H1 P1 α1 S1→H1 p=none→qG X.K P1 α1 ds vs→qU X P1 α1 (G ds S1) Q→Q (.ref p) (upd H1 p (mk vs))) :
  tDA X f σ H fun vs H1=>vs.length≤sizeLine∧∀ p,H1 p=none→Q (.ref p) (upd H1 p (mk vs)):=by
 obtain⟨P,α,env,S,r,re,af⟩:=h;refine⟨P,α,env,S,r,re,?_⟩;have af':qU X P α ((f env S).bind fun xs S1=>if xs.length≤lim then G xs S1 else .bad) Q:=af
 cases q:f env S with
 |bad=>rw[q] at af';exact af'
 |ex c x S'=>rw[q] at af';exact af'
 |ok ds S1 =>
  rw[q] at af';intro vs H1 P1 α1 r1 e1 e2 rp;have af2:qU X P α (if ds.length≤lim then G ds S1 else .bad) Q:=af'
  by_cases hl:ds.length≤lim
  ·rw[AA hl] at af2
   exact⟨by rw[← rp.length,← zS];exact hl,fun p hp=>k H1 P1 α1 S1 ds vs p r1 hp rp (qU.base e1 e2 af2)⟩
  ·rw[A0 hl] at af2;exact Am af2
theorem JZ {es:Aa AC}{f:DA} {x1} (h:PA X es (tDA X f)):PE X (.Tuple es x1 pos) (tD X (zH f)):=
 peW (B3 h) fun σ H Q q=>f9 (G:=fun xs S1=>.ok (.tup xs) S1) (mk:=.tup) q fun H1 P1 α1 S1 ds vs p r hp rp af=>pS r hp rp af
theorem cM {es:Aa AC}{f:DA}(h:PA X es (tDA X f)):PE X (.List es pos) (tD X (zZ f)):=
 peW (i9 h) fun σ H Q q=>f9 (G:=fun xs S1=>.ok (.lst xs) S1) (mk:=.lst) q fun H1 P1 α1 S1 ds vs p r hp rp af=>vD r hp rp af
theorem WT {es:Aa AC}{f:DA}(h:PA X es (tDA X f)):PE X (.List es pos) (tD X (gR f)):=
 peW (i9 h) fun σ H Q q=>f9 (G:=fun xs S1=>.ok (.loc S1.length) (S1++[MO.lst xs])) (mk:=.lst) q fun H1 P1 α1 S1 ds vs p r hp rp af=>sS r hp rp af
end
section
variable {X:Cx}{a b c e:AC}{pos:Cz}{fa fb fc:DE}{ta tb:DT}
def wV:D→Sto→Ak Ao
 |.non,_=>Ab false
 |.bl b,_=>Ab b
 |.int i,_=>Ab (i != 0)
 |.str x,_=>if x.length≤lim then Ab ((x.length:Aj) != 0) else none
 |.tup xs,_=>Ab (!xs.isEmpty)
 |.lst xs,_=>Ab (!xs.isEmpty)
 |.dct0,_=>Ab false
 |.loc i,S=>match S[i]? with
  |some (.lst xs)=>Ab (!xs.isEmpty)
  |some (.dct kvs)=>Ab (!kvs.isEmpty)
  |_=>none
 |_,_=>none
theorem qG.isEmpty {K:Ai}{P:Hp}{α : Aa Ad}{ds:Aa D}{vs:Aa V}(r:qG K P α ds vs):(!ds.isEmpty)=!vs.isEmpty:=by
 cases ds with
 |nil=>rw[r.nil_inv];rfl
 |cons d ds=>obtain⟨w,ws,rfl,_,_⟩:=r.cons_inv;rfl
theorem w4 {K:Ai}{H P:Hp}(e:qH P H){a:Ad}{xs:Aa V}(h:SqT K P a xs):SqT K H a xs:=vG e h
theorem jL {H P:Hp}{α : Aa Ad}{S:Sto}{v:V}{d:D}{k:Ao}(r:Rel X.K H P α S)(p:Rep X.K P α d v)(h:wV d S=Ab k):rM X.K v H k:=by
 cases d with
 |non=>simp only[Rep] at p;subst p;cases h;rfl
 |bl b=>simp only[Rep] at p;subst p;cases h;rfl
 |int i=>simp only[Rep] at p;subst p;cases h;rfl
 |str x =>
  simp only[Rep] at p;subst p;obtain⟨hl,rfl⟩:=jW h;exact⟨by rw[← zS];exact hl,rfl⟩
 |tup xs =>
  simp only[Rep] at p;obtain⟨a,vs,rfl,q,t⟩:=p;cases h;exact .inr (.inl ⟨vs,w4 r.sub q,t.isEmpty⟩)
 |lst xs =>
  simp only[Rep] at p;obtain⟨a,vs,rfl,q,t⟩:=p;cases h;exact .inl ⟨vs,(xU r.sub q).l,t.isEmpty⟩
 |dct0 =>
  simp only[Rep] at p;obtain⟨a,rfl,q⟩:=p;cases h;exact .inr (.inr ⟨[],r.sub _ _ q,rfl⟩)
 |loc i =>
  simp only[Rep] at p;obtain⟨a,rfl,q⟩:=p;have h:(match S[i]? with|some (.lst xs)=>Ab (!xs.isEmpty)|some (.dct kvs)=>Ab (!kvs.isEmpty)|_=>none)=Ab k:=h
  cases hs:S[i]? with
  |none=>rw[hs] at h;exact nn h
  |some m =>
   rw[hs] at h;cases m with
   |lst xs =>
    cases h;obtain⟨vs,z,t⟩:=r.at' i a _ q hs;exact .inl ⟨vs,.of z,t.isEmpty⟩
   |dct kvs =>
    cases h;obtain⟨vs,z,t⟩:=r.at' i a _ q hs;refine .inr (.inr ⟨vs,z,?_⟩);cases t <;> rfl
   |_=>exact nn h
 |ty n=>exact nn h
 |obj a=>exact nn h
 |exn c=>exact nn h
 |fd ks ds=>exact nn h
theorem N3 {pins:Aa (Ad × AV)}{s:Ag}{σ : _L.St}{H P:Hp}{α : Aa Ad}{S:Sto}{v:V}{vv:Ac}{d:D}{k:Ao}{Q:Ao→Hp→Prop}(I:Inv X pins σ H s)(r:Rel X.K H P α S)(rv:qK v vv)(p:Rep X.K P α d v)(h:wV d S=Ab k)(q:Q k H) :
  An (Ar X.prog X.w) X.A (truthy vv) (TP X pins σ Q) X.xe s:=bR pins s σ H v vv Q I rv ⟨k,jL r p h,q⟩
def gH (o:Ak Ao)(S:Sto):Res Ao:=match o with
 |some b=>.ok b S
 |none=>.bad
def dTr (f:DE):DT:=fun env S=>(f env S).bind fun d S1=>gH (wV d S1) S1
theorem sZ {o:Ak Ao}{S:Sto}{P:Hp}{α : Aa Ad}{Ok:Ao→Sto→Prop}(h:qJ X P α (gH o S) Ok):∃ b,o=Ab b∧Ok b S:=by
 cases o with
 |none=>exact Am h
 |some b=>exact⟨b,rfl,h⟩
theorem KG (ha:PE X a (tD X fa))(he:∀ whole,isTrue a X.env whole=(do let v ← whole;IF a.pos;holding [v] (truthy v)):=by intro _;rfl):PT X a (tDT X (dTr fa)):=by
 intro pins s σ H Q I h;obtain⟨P,α,env,S,r,re,af⟩:=h;refine isTrue_plain (thn (x0 ha I r re af) fun vv s1 ⟨v,H1,P1,α1,d,S1,G1,af1⟩=>?_) (he _);obtain⟨k,e1,q⟩:=sZ af1;exact N3 G1.inv G1.rel G1.val G1.rep e1 (q H1 P1 α1 G1.rel G1.same G1.pre)
theorem KD {op:Lw}{g:G2}(ho:OpD X (Bj op) g)(ha:PE X a (tD X fa))(hb:PE X b (tD X fb))(hm:ET op b=false:=by first|exact jG _|with_unfolding_all rfl):PT X (.Compare a [op] [b] pos) (tDT X (dTr (d2 g fa fb))):=by
 intro pins s σ H Q I h;obtain⟨P,α,env,S,r,re,af⟩:=h;refine wpAny_isTrue_Compare1 ?_ hm;have key:tD X (d2 g fa fb) σ H (fun v H1=>∃ k,rM X.K v H1 k∧Q k H1):=by
  refine⟨P,α,env,S,r,re,?_⟩;have af':qJ X P α ((d2 g fa fb env S).bind fun d S1=>gH (wV d S1) S1) (OkT X P α Q):=af;cases q:d2 g fa fb env S with
  |bad=>rw[q] at af';exact af'
  |ex c x S'=>rw[q] at af';exact af'
  |ok d S1 =>
   rw[q] at af';obtain⟨k,e1,qk⟩:=sZ (X:=X) af';exact fun v H1 P1 α1 r1 e3 e4 rp=>⟨k,jL r1 rp e1,qk H1 P1 α1 r1 e3 e4⟩
 exact thn (nD ho ha hb I key) fun v s1 h1=>thn h1 fun u s2 h2=>thn h2 fun x s3 ⟨y,H3,I3,r3,k,tk,qk⟩=>bR pins s3 σ H3 y x Q I3 r3 ⟨k,tk,qk⟩
def nE (g g':G2)(fa fb fc:DE):DE:=fun env S=>(fa env S).bind fun x S1=>(fb env S1).bind fun y S2=>(g x y S2).bind fun z S3 =>
 match wV z S3 with
 |some true=>(fc env S3).bind fun w S4=>g' y w S4
 |some false=>.ok z S3
 |none=>.bad
inductive GotO (X:Cx)(pins:Aa (Ad × AV))(σ : _L.St)(P:Hp)(α : Aa Ad)(w:Ac)(s1:Ag){γ : Type}(k:D→Sto→Res γ)(Ok:γ→Sto→Prop):Prop
 |mk (y:V) (H1 P1:Hp) (α1:Aa Ad) (d:D) (S1:Sto) (I:Inv X pins σ H1 s1) (rv:qK y w) (r:Rel X.K H1 P1 α1 S1) (rp:Rep X.K P1 α1 d y) (e1:qH P P1) (e2:α<+:α1) (q:qJ X P α (k d S1) Ok):GotO X pins σ P α w s1 k Ok
theorem PL {γ : Type}{f:Ac→Ac→Fb Ac}{g:G2}{k:D→Sto→Res γ}{Ok:γ→Sto→Prop}{pins:Aa (Ad × AV)}{σ : _L.St}{H:Hp}{s:Ag}{P:Hp}{α : Aa Ad}{S:Sto}{v u:V}{vv uu:Ac}{a b:D}(ho:OpD X f g)(I:Inv X pins σ H s)(r:Rel X.K H P α S)
  (rv:qK v vv) (ru:qK u uu) (pa:Rep X.K P α a v) (pb:Rep X.K P α b u) (af:qJ X P α ((g a b S).bind k) Ok) :
  An (Ar X.prog X.w) X.A (f vv uu) (fun w s1=>GotO X pins σ P α w s1 k Ok) X.xe s:=by
 refine thn (ho pins σ H s P α S v u vv uu a b (fun y H1=>∃ P1 α1 d S1,Rel X.K H1 P1 α1 S1∧Rep X.K P1 α1 d y∧qH P P1∧α<+:α1∧qJ X P α (k d S1) Ok) I r rv ru pa pb ?_) fun w s1 ⟨y,H1,I1,r1,P1,α1,d,S1,q1,q2,q3,q4,q5⟩=>⟨y,H1,P1,α1,d,S1,I1,r1,q1,q2,q3,q4,q5⟩;cases q:g a b S with
 |bad=>rw[q] at af;exact af
 |ex c x S'=>rw[q] at af;exact af
 |ok d S' =>
  rw[q] at af;exact fun v H' P' α' r' e1 e2 rp=>⟨P',α',d,S',r',rp,e1,e2,af⟩
theorem qJ.base' {β : Type}{P P1:Hp}{α α1:Aa Ad}{r:Res β}{Ok Ok1:β→Sto→Prop}(e:qH P P1)(h:α<+:α1)(ho:∀ d S,Ok d S→Ok1 d S)(k:qJ X P α r Ok):qJ X P1 α1 r Ok1:=by
 cases r with
 |ok d S=>exact ho d S k
 |ex c x S=>exact fun u s' q=>k u s' (q.base e h)
 |bad=>exact k
theorem oZ {op op':Lw}{g g':G2}(ho:OpD X (Bj op) g)(ho':OpD X (Bj op') g')(ha:PE X a (tD X fa))(hb:PE X b (tD X fb))(hc:PE X c (tD X fc))
  (hm:lastMarks [op,op'] [b,c]=false:=by with_unfolding_all rfl):PE X (.Compare a [op,op'] [b,c] pos) (tD X (nE g g' fa fb fc)):=by
 intro pins s σ H Q I h;obtain⟨P,α,env,S,r,re,af⟩:=h;refine Compare_chain (thn (x0 ha I r re af) fun vv s1 ⟨v,H1,P1,α1,d,S1,G1,af1⟩=>chain_link (thn (x0 hb G1.inv G1.rel G1.env (qU.base G1.same G1.pre af1)) fun uu s2 ⟨u,H2,P2,α2,d',S2,G2,af2⟩ =>
  thn (PL ho G2.inv G2.rel G1.val G2.val (Rep.mono G2.same G2.pre _ _ G1.rep) G2.rep (qU.base G2.same G2.pre af2)) fun w s3 ⟨y,H3,P3,α3,z,S3,I3,r3,rl3,rp3,e3,e4,af3⟩=>?_)) hm
 cases ht:wV z S3 with
 |none=>simp only[ht] at af3;exact Am af3
 |some k =>
  simp only[ht] at af3;have tv:=jL rl3 rp3 ht;refine thn (bR pins s3 σ H3 y w (fun k' H'=>k'=k∧H'=H3) I3 r3 ⟨k,tv,rfl,rfl⟩) fun k' s4 ⟨H4,I4,hk,hH⟩=>?_;subst hk;subst hH;cases k' with
  |false=>exact ite_ff ⟨y,H4,I4,r3,af3 y H4 P3 α3 rl3 e3 e4 rp3⟩
  |true =>
   refine ite_tt (chain_last (thn (x0 hc I4 rl3 (G2.env.mono e3 e4) (qU.base e3 e4 af3)) fun ww s5 ⟨w',H5,P5,α5,d5,S5,G5,af5⟩=>?_));exact ho' pins σ H5 s5 P5 α5 S5 u w' uu ww d' d5 Q G5.inv G5.rel G2.val G5.val (Rep.mono (e3.trans G5.same) (e4.trans G5.pre) _ _ G2.rep) G5.rep (qU.base G5.same G5.pre af5)
def yL (t:DT):DT:=fun env S=>(t env S).bind fun b S1=>.ok (!b) S1
def w8 (t u:DT):DT:=fun env S=>(t env S).bind fun b S1=>if b then u env S1 else .ok false S1
def uF (t u:DT):DT:=fun env S=>(t env S).bind fun b S1=>if b then .ok true S1 else u env S1
theorem KE (ha:PT X a (tDT X ta)):PT X (.UnaryOp .Not a pos) (tDT X (yL ta)):=by
 intro pins s σ H Q I h;obtain⟨P,α,env,S,r,re,af⟩:=h;refine isTrue_not (thn (b7 (fun Q' q=>ha pins s σ H Q' I q) r re af) fun b s1 ⟨H1,P1,α1,S1,I1,r1,re1,e1,e2,af1⟩=>⟨H1,I1,af1 H1 P1 α1 r1 e1 e2⟩)
def PWD (X:Cx)(e:AC)(t:DT):Prop:=PW X e (tDT X t)
theorem PWD.pt {t:DT}(h:PWD X e t):PT X e (tDT X t):=h _
theorem KH (ha:PT X a (tDT X ta)):PWD X (.BoolOp .Or [a] pos) ta:=BC ha
theorem MA {rest:Aa AC}(ha:PT X a (tDT X ta))(hb:PWD X (.BoolOp .Or (b::rest) pos) tb):PWD X (.BoolOp .Or (a::b::rest) pos) (uF ta tb):=by
 intro wh pins s σ H Q I h;obtain⟨P,α,env,S,r,re,af⟩:=h;refine isTrue_or (thn (b7 (fun Q' q=>ha pins s σ H Q' I q) r re af) fun k s1 ⟨H1,P1,α1,S1,I1,r1,re1,e1,e2,af1⟩=>?_);cases k with
 |true=>exact⟨H1,I1,af1 H1 P1 α1 r1 e1 e2⟩
 |false=>exact hb wh pins s1 σ H1 Q I1 ⟨P1,α1,env,S1,r1,re1,j7.base e1 e2 af1⟩
def uZ (f g:DE):DE:=fun env S=>(f env S).bind fun x S1=>match wV x S1 with
 |some true=>g env S1
 |some false=>.ok x S1
 |none=>.bad
def oW (f:DE):DE:=fun env S=>(f env S).bind fun x S1=>match wV x S1 with
 |some b=>.ok (.bl (!b)) S1
 |none=>.bad
theorem JW {op} (h:PE X a (tD X fa)):PE X (.BoolOp op [a] pos) (tD X fa):=PZ h
theorem FH {pins:Aa (Ad × AV)}{s:Ag}{σ : _L.St}{H:Hp}{v:V}{vv:Ac}{k:Ao}{R:Ao→Ag→Prop}(I:Inv X pins σ H s)(rv:qK v vv)(t:rM X.K v H k)(h:∀ s',Inv X pins σ H s'→R k s') :
  An (Ar X.prog X.w) X.A (truthy vv) R X.xe s:=thn (bR pins s σ H v vv (fun k' H'=>k'=k∧H'=H) I rv ⟨k,t,rfl,rfl⟩) fun k' s4 ⟨H4,I4,hk,hH⟩=>by subst hk;subst hH;exact h s4 I4
theorem JN {rest:Aa AC}(ha:PE X a (tD X fa))(hb:PE X (.BoolOp .And (b::rest) pos) (tD X fb)):PE X (.BoolOp .And (a::b::rest) pos) (tD X (uZ fa fb)):=by
 intro pins s σ H Q I h;obtain⟨P,α,env,S,r,re,af⟩:=h;refine BoolOp_and (thn (x0 ha I r re af) fun vv s1 ⟨v,H1,P1,α1,d,S1,G1,af1⟩=>?_);cases ht:wV d S1 with
 |none=>simp only[ht] at af1;exact Am af1
 |some k =>
  simp only[ht] at af1;refine FH G1.inv G1.val (jL G1.rel G1.rep ht) fun s2 I2=>?_;cases k with
  |true=>exact hb pins s2 σ H1 Q I2 ⟨P1,α1,env,S1,G1.rel,G1.env,qU.base G1.same G1.pre af1⟩
  |false=>exact⟨v,H1,I2,G1.val,af1 v H1 P1 α1 G1.rel G1.same G1.pre G1.rep⟩
theorem JV (ha:PE X a (tD X fa)):PE X (.UnaryOp .Not a pos) (tD X (oW fa)):=by
 intro pins s σ H Q I h;obtain⟨P,α,env,S,r,re,af⟩:=h;refine UnaryOp_ (thn (x0 ha I r re af) fun vv s1 ⟨v,H1,P1,α1,d,S1,G1,af1⟩=>?_);cases ht:wV d S1 with
 |none=>simp only[ht] at af1;exact Am af1
 |some k =>
  simp only[ht] at af1;exact not_of (FH G1.inv G1.val (jL G1.rel G1.rep ht) fun s2 I2=>⟨.bl (!k),H1,I2,rfl,af1 (.bl (!k)) H1 P1 α1 G1.rel G1.same G1.pre (by simp only[Rep])⟩)
end
@[inline] def Res.toS {β : Type}(env:qD)(r:Res β)(k:β→Sto→Out):Out:=
 match r with
 |.ok d S=>k d S
 |.ex c x S=>.ex c x env S
 |.bad=>.bad
section
variable {X:Cx}{a b c e:AC}{pos:Cz}{fa fb fc:DE}{ta tb:DT}{f g:DS}{st:Cy}{rest:Aa Cy}
def x5:DS:=fun env S=>.nx env S
def qQ (f g:DS):DS:=fun env S=>match f env S with
 |.nx env1 S1=>g env1 S1
 |o=>o
theorem K7:PSs X [] (tDS X x5):=BB VP fun D σ H ⟨P,α,env,S,r,re,af⟩=>af σ H P α r re (qH.refl _) (AD _)
theorem Y2 (h1:PS X st (tDS X f))(h2:PSs X rest (tDS X g)):PSs X (st::rest) (tDS X (qQ f g)):=BB (ZL h1 h2) fun D σ H ⟨P,α,env,S,r,re,af⟩=>by
 refine⟨P,α,env,S,r,re,?_⟩;unfold qQ at af;cases q:f env S with
 |nx env1 S1 =>
  rw[q] at af;exact fun σ' H' P' α' r' re' e1 e2=>⟨P',α',env1,S1,r',re',qX.base e1 e2 af⟩
 |rt d S1=>rw[q] at af;exact af
 |bk env1 S1=>rw[q] at af;exact af
 |ct env1 S1=>rw[q] at af;exact af
 |ex c x env1 S1=>rw[q] at af;exact af
 |bad=>rw[q] at af;exact af
theorem K8 (h1:PS X st (tDS X f)):PSs X [st] (tDS X f):=VQ h1
theorem wJ {β : Type}{P:Hp}{α : Aa Ad}{env:qD}{r:Res β}{k:β→Sto→Out}{D:Ends}(h:qX X P α (r.toS env k) D):qJ X P α r fun d S=>qX X P α (k d S) D:=by
 cases r with
 |ok d S=>exact h
 |ex c x S=>exact h
 |bad=>exact h
inductive GotS (X:Cx)(pins:Aa (Ad × AV))(σ : _L.St)(env:qD)(P:Hp)(α : Aa Ad)(u:Ac)(s1:Ag)(k:D→Sto→Out)(E:Ends):Prop
 |mk (v:V) (H1 P1:Hp) (α1:Aa Ad) (d:D) (S1:Sto) (G:Got X pins σ env P α u s1 v H1 P1 α1 d S1) (q:qX X P1 α1 (k d S1) E):GotS X pins σ env P α u s1 k E
theorem b6 {k:D→Sto→Out}{pins:Aa (Ad × AV)}{s:Ag}{σ : _L.St}{H P:Hp}{α : Aa Ad}{env:qD}{S:Sto}{D:Ends}(he:PE X e (tD X fa))(I:Inv X pins σ H s)(r:Rel X.K H P α S)
  (re:qV X.K P α σ env) (af:qX X P α ((fa env S).toS env k) D) :
  An (Ar X.prog X.w) X.A (eval e X.env) (fun u s1=>GotS X pins σ env P α u s1 k D) X.xe s:=by
 have af1:qJ X P α ((fa env S).bind fun d S=>.ok d S) fun d S=>qX X P α (k d S) D:=by
  have:=wJ af;cases q:fa env S <;> rw[q] at this <;> exact this
 exact thn (x0 he I r re af1) fun u s1 ⟨v,H1,P1,α1,d,S1,G,q⟩=>⟨v,H1,P1,α1,d,S1,G,qX.base G.same G.pre q⟩
def wQ (f:DE):DS:=fun env S=>(f env S).toS env fun _ S1=>.nx env S1
theorem Y3 (he:PE X e (tD X fa))(hs:Gb e none pos.line X.env=pure false:=by rfl):PS X (.Expr e pos) (tDS X (wQ fa)):=by
 intro pins s σ H D I h;obtain⟨P,α,env,S,r,re,af⟩:=h;exact wpAny_Expr_any (thn (b6 he I r re af) fun v s1 ⟨x,H1,P1,α1,d,S1,G,q⟩=>⟨σ,H1,G.inv,q σ H1 P1 α1 G.rel G.env (qH.refl _) (AD _)⟩) I.quiet hs
def qS (f:DE):DS:=fun env S=>(f env S).toS env fun d S1=>.rt d S1
theorem KA (he:PE X e (tD X fa)):PS X (.Return (Ab e) pos) (tDS X (qS fa)):=by
 intro pins s σ H D I h;obtain⟨P,α,env,S,r,re,af⟩:=h;exact wpAny_Return_some (thn (b6 he I r re af) fun v s1 ⟨x,H1,P1,α1,d,S1,G,q⟩=>⟨x,σ,H1,G.inv,G.val,q x H1 P1 α1 G.rel (qH.refl _) (AD _) G.rep⟩)
def sIf (t:DT)(f g:DS):DS:=fun env S=>(t env S).toS env fun b S1=>if b then f env S1 else g env S1
theorem M8 {c:AC}{as bs:Aa Cy}(hc:PT X c (tDT X ta))(ha:PSs X as (tDS X f))(hb:PSs X bs (tDS X g)):PS X (.If c as bs pos) (tDS X (sIf ta f g)):=by
 intro pins s σ H D I h;obtain⟨P,α,env,S,r,re,af⟩:=h;have af1:qJ X P α ((ta env S).bind fun d S=>.ok d S) fun b S=>qX X P α (if b then f env S else g env S) D:=by
  have:=wJ af;cases q:ta env S <;> rw[q] at this <;> exact this
 refine wpAny_If (thn (b7 (fun Q' q=>hc pins s σ H Q' I q) r re af1) fun k s1 ⟨H1,P1,α1,S1,I1,r1,re1,e1,e2,af2⟩=>?_);cases k with
 |true=>exact ha pins s1 σ H1 D I1 ⟨P1,α1,env,S1,r1,re1,qX.base e1 e2 af2⟩
 |false=>exact hb pins s1 σ H1 D I1 ⟨P1,α1,env,S1,r1,re1,qX.base e1 e2 af2⟩
abbrev DG:=D→qD→Sto→Res qD
abbrev DGs:=Aa D→qD→Sto→Res qD
def OkE (X:Cx)(P:Hp)(α : Aa Ad)(Q:_L.St→Hp→Prop)(env':qD)(S':Sto):Prop:=∀ σ' H' P' α',Rel X.K H' P' α' S'→qV X.K P' α' σ' env'→qH P P'→α<+:α'→Q σ' H'
def tDG (X:Cx)(g:DG):TG:=fun v σ H Q=>∃ P α env S d,Rel X.K H P α S∧qV X.K P α σ env∧Rep X.K P α d v∧qJ X P α (g d env S) (OkE X P α Q)
def lU (X:Cx)(g:DGs):TGs:=fun vs σ H Q=>∃ P α env S ds,Rel X.K H P α S∧qV X.K P α σ env∧qG X.K P α ds vs∧qJ X P α (g ds env S) (OkE X P α Q)
theorem qV.set {K:Ai}{P:Hp}{α : Aa Ad}{σ : _L.St}{env:qD}{d:D}{v:V}(re:qV K P α σ env)(i:Ah)(rp:Rep K P α d v):qV K P α (σ.set i (Ab v)) (env.set i (Ab d)):=by
 refine⟨by simp[re.1],fun j d' e=>?_⟩
 by_cases hj:i=j
 ·subst hj
  by_cases hi:i<env.length
  ·rw[Bz hi] at e
   cases e;exact⟨v,by rw[Bz (by rw[← re.1];exact hi)],rp⟩
  ·rw[Gk (by simp;omega)] at e;cases e
 ·rw[Ba hj] at e ⊢
  exact re.2 j d' e
def gNm (i:Ah):DG:=fun d env S=>.ok (env.set i (Ab d)) S
theorem WW {i:Ah}{x:As}(hN:X.N.Nodup)(hi:X.N[i]? = Ab x:=by rfl)(hx:Loc X.env.scope x:=by first|exact Ox rfl|exact Mx rfl)(hf:X.fn x=true∨X.env.scope.names.lookup x=Ab .local:=by first|exact .inl rfl|exact .inr rfl|assumption):PG X (.Name x pos) (tDG X (gNm i)):=by
 intro pins s σ H v u Q I rv h;obtain⟨P,α,env,S,d,r,re,rp,af⟩:=h;exact VI hN hi hx hf pins s σ H v u Q I rv (af _ H P α r (re.set i rp) (qH.refl _) (AD _))
def wN:DGs:=fun ds env S=>match ds with
 |[]=>.ok env S
 |_=>.bad
def zE (g:DG)(gs:DGs):DGs:=fun ds env S=>match ds with
 |d::r=>(g d env S).bind fun env1 S1=>gs r env1 S1
 |[]=>.bad
theorem WX:PGs X [] (lU X wN):=by
 intro pins s σ H vs us Q I rv h;obtain⟨P,α,env,S,ds,r,re,rp,af⟩:=h;cases ds with
 |nil=>exact VJ pins s σ H vs us Q I rv ⟨rp.nil_inv,af σ H P α r re (qH.refl _) (AD _)⟩
 |cons d ds=>exact Am af
theorem Q2 {es:Aa AC}{g:DG}{gs:DGs}(h1:PG X e (tDG X g))(h2:PGs X es (lU X gs))(hs:(Dj (e::es) X.env).map (·.2)=assign e X.env::(Dj es X.env).map (·.2):=by rfl):PGs X (e::es) (lU X (zE g gs)):=by
 intro pins s σ H vs us Q I rv h;obtain⟨P,α,env,S,ds,r,re,rp,af⟩:=h;cases ds with
 |nil=>exact Am af
 |cons d ds =>
  obtain⟨w,ws,rfl,p1,p2⟩:=rp.cons_inv;refine ZJ h1 h2 hs pins s σ H _ us Q I rv ⟨w,ws,rfl,P,α,env,S,d,r,re,p1,?_⟩;have af':qJ X P α ((g d env S).bind fun env1 S1=>gs ds env1 S1) (OkE X P α Q):=af;cases q:g d env S with
  |bad=>rw[q] at af';exact af'
  |ex c x S'=>rw[q] at af';exact af'
  |ok env1 S1 =>
   rw[q] at af';intro σ' H' P' α' r' re' e1 e2;refine⟨P',α',env1,S1,ds,r',re',qG.mono e1 e2 _ _ p2,qJ.base' e1 e2 (fun env' S' ok σ2 H2 P2 α2 r2 re2 e3 e4=>ok σ2 H2 P2 α2 r2 re2 (e1.trans e3) (e2.trans e4)) af'⟩
def gTp (n:Ah)(gs:DGs):DG:=fun d env S=>match d with
 |.tup xs=>if xs.length=n then gs xs env S else .bad
 |_=>.bad
set_option tactic.hygienic true in
theorem K2 {es:Aa AC}{k:Ah}{gs:DGs}{n:Ah}(hc:X.calm=true)(h:PGs X es (lU X gs))(hn:(Dj es X.env).length=n:=by rfl)(hst:(Dj es X.env).findIdx? (·.1)=none:=by rfl):PG X (.Tuple es k pos) (tDG X (gTp n gs)):=by
 intro pins s σ H v u Q I rv hw;obtain⟨P,α,env,S,d,r,re,rp,af⟩:=hw;cases d with
 |tup xs =>
  simp only[Rep] at rp;obtain⟨a,vs,rfl,q,t⟩:=rp;simp only[gTp] at af
  split at af
  ·rename_i hl
   exact B5 hc h hn hst pins s σ H _ u Q I rv ⟨a,vs,rfl,w4 r.sub q,by rw[← t.length];exact hl,P,α,env,S,xs,r,re,t,af⟩
  ·exact Am af
 |_=>exact Am af
abbrev G3:=D→D→D→Sto→Res HS
def OkU (X:Cx)(P:Hp)(α : Aa Ad)(Q:Hp→Prop)(_:HS)(S':Sto):Prop:=∀ H' P' α',Rel X.K H' P' α' S'→qH P P'→α<+:α'→Q H'
def tM (X:Cx)(g:G3):oG:=fun o i v H Q=>∃ P α S a b d,Rel X.K H P α S∧Rep X.K P α a o∧Rep X.K P α b i∧Rep X.K P α d v∧qJ X P α (g a b d S) (OkU X P α Q)
def gSb (fo fi:DE)(g:G3):DG:=fun d env S=>(fo env S).bind fun o S1=>(fi env S1).bind fun i S2=>(g o i d S2).bind fun _ S3=>.ok env S3
theorem K1 {o i:AC}{fo fi:DE}{g:G3}(ho:PE X o (tD X fo))(hi:PE X i (tD X fi))(hs:tO X (tM X g))
  (ha:∀ v,assign (.Subscript o i pos) X.env v=(do
   let ov ← holding [v] (eval o X.env)
   let iv ← holding [v,ov] (eval i X.env)
   IF pos
   holding [v,ov,iv] (O7 ov iv v)
   release [v,ov,iv] []):=by intro _;rfl):PG X (.Subscript o i pos) (tDG X (gSb fo fi g)):=by
 intro pins s σ H v u Q I rv h;obtain⟨P,α,env,S,d,r,re,rp,af⟩:=h;rw[ha];refine Af (CJ (thn (x0 ho I r re af) fun ov s1 ⟨x,H1,P1,α1,d1,S1,G1,af1⟩=>?_));refine Af (CJ (thn (x0 hi G1.inv G1.rel G1.env (P:=P1) (α:=α1) (Ok:=OkE X P1 α1 Q) (qJ.base' G1.same G1.pre (fun env' S' ok σ2 H2 P2 α2 r2 re2 e3 e4=>ok σ2 H2 P2 α2 r2 re2 (G1.same.trans e3) (G1.pre.trans e4)) af1)) fun iv s2 ⟨y,H2,P2,α2,d2,S2,G2,af2⟩=>?_));refine Af (ES (Af (CJ (thn (hs pins s2 σ H2 x y v ov iv u (fun H3=>Q σ H3) G2.inv G1.val G2.val rv ⟨P2,α2,S2,d1,d2,d,G2.rel,Rep.mono G2.same G2.pre _ _ G1.rep,G2.rep,Rep.mono (G1.same.trans G2.same) (G1.pre.trans G2.pre) _ _ rp,?_⟩) fun _ s3 ⟨H3,I3,q3⟩=>?_))))
 ·cases q:g d1 d2 d S2 with
  |bad=>rw[q] at af2;exact af2
  |ex c x S'=>rw[q] at af2;exact fun u s' z=>af2 u s' (z.base G2.same G2.pre)
  |ok w S3 =>
   rw[q] at af2;exact fun H' P' α' r' e1 e2=>af2 σ H' P' α' r' (G2.env.mono e1 e2) (G2.same.trans e1) (G2.pre.trans e2)
 ·exact wpAny_release ⟨σ,H3,I3,q3⟩
def zD (f:DE)(g:DG):DS:=fun env S=>(f env S).toS env fun d S1=>(g d env S1).toS env fun env' S2=>.nx env' S2
theorem hZ {g:DG}{d:D}{env:qD}{S:Sto}{P:Hp}{α : Aa Ad}{D':Ends}(h:qX X P α ((g d env S).toS env fun env' S2=>.nx env' S2) D'):qJ X P α (g d env S) (OkE X P α D'.nx):=by
 cases q:g d env S with
 |bad=>rw[q] at h;exact h
 |ex c x S'=>rw[q] at h;exact h
 |ok env1 S1=>rw[q] at h;exact h
theorem K5 {tg e:AC}{g:DG}(he:PE X e (tD X fa))(hg:PG X tg (tDG X g))(hs:ER [tg] e pos.line X.env=pure false:=by rfl)(hw:EQ [tg] e X.env=pure none:=by rfl)
  (h1:(Dj [tg] X.env).map (·.2)=[assign tg X.env]:=by rfl):PS X (.Assign [tg] e pos) (tDS X (zD fa g)):=by
 intro pins s σ H D I h;obtain⟨P,α,env,S,r,re,af⟩:=h;refine wpAny_Assign_stores (thn (b6 he I r re af) fun v s1 ⟨x,H1,P1,α1,d,S1,G,q⟩=>?_) hs hw;rw[h1];exact thn (hg pins s1 σ H1 x v _ G.inv G.val ⟨P1,α1,env,S1,d,G.rel,G.env,G.rep,hZ q⟩) fun _ s2 q=>q
theorem KB {i:Ah}{x:As}{e:AC}{pos':Cz}(hN:X.N.Nodup)(he:PE X e (tD X fa))(hi:X.N[i]? = Ab x:=by rfl)(hx:Loc X.env.scope x:=by first|exact Ox rfl|exact Mx rfl)(hs:Gb e (Ab (.Name x pos')) pos.line X.env=pure false:=by rfl)
  (hf:X.fn x=true∨X.env.scope.names.lookup x=Ab .local:=by first|exact .inl rfl|exact .inr rfl|assumption):PS X (.Assign [.Name x pos'] e pos) (tDS X (zD fa (gNm i))):=by
 intro pins s σ H D I h;obtain⟨P,α,env,S,r,re,af⟩:=h;refine wpAny_Assign_Name (thn (b6 he I r re af) fun v s1 ⟨y,H1,P1,α1,d,S1,G,q⟩=>?_) hs;exact uN G.inv hN hi hx G.val (fun s2 I2=>⟨_,H1,I2,q _ H1 P1 α1 G.rel (G.env.set i G.rep) (qH.refl _) (AD _)⟩) hf
def lG (i j:Ah)(env:qD)(S1:Sto):Aa D→Out
 |[x,y]=>.nx ((env.set i (Ab x)).set j (Ab y)) S1
 |_=>.bad
def m4 (i j:Ah)(f:DA):DS:=fun env S=>(f env S).toS env fun ds S1=>lG i j env S1 ds
theorem K9 {i j:Ah}{x y:As}{a b:AC}{f:DA}{px py pt:Cz} {kt k2 pt2} (hc:X.calm=true) (hN:X.N.Nodup) (ha:PA X [a,b] (tDA X f)) (hi:X.N[i]? = Ab x:=by rfl) (hj:X.N[j]? = Ab y:=by rfl) (hij:i≠j:=by decide)
  (hx:X.env.scope.names.lookup x=Ab .local:=by rfl) (hy:X.env.scope.names.lookup y=Ab .local:=by rfl)
  (hw:EQ [.Tuple [.Name x px,.Name y py] kt pt] (.Tuple [a,b] k2 pt2) X.env=pure (Ab [x,y]):=by rfl)
  (hs:ER [.Tuple [.Name x px,.Name y py] kt pt] (.Tuple [a,b] k2 pt2) pos.line X.env=pure false:=by rfl) :
  PS X (.Assign [.Tuple [.Name x px,.Name y py] kt pt] (.Tuple [a,b] k2 pt2) pos) (tDS X (m4 i j f)):=psW (BA hc hN hi hj hij hx hy ha hw hs) fun D σ H ⟨P,α,env,S,r,re,af⟩=>by
 refine⟨P,α,env,S,r,re,?_⟩;have af1:=wJ af;cases q:f env S with
 |bad=>rw[q] at af1;exact af1
 |ex c x S'=>rw[q] at af1;exact af1
 |ok ds S1 =>
  rw[q] at af1;intro vs H' P' α' r' e1 e2 rp;have af2:qX X P α (lG i j env S1 ds) D:=af1;cases ds with
  |nil=>exact Am af2
  |cons d ds=>cases ds with
   |nil=>exact Am af2
   |cons d' ds=>cases ds with
    |cons _ _=>exact Am af2
    |nil =>
     obtain⟨w,ws,rfl,p1,t⟩:=rp.cons_inv;obtain⟨w',ws',rfl,p2,t⟩:=t.cons_inv;rw[t.nil_inv];exact⟨w,w',rfl,af2 _ _ P' α' r' (((re.mono e1 e2).set i p1).set j p2) e1 e2⟩
end
structure ItD (K:Ai)(J:It)(P:Hp)(α : Aa Ad)(ds:Aa D):Prop where
 go:∀ i H P1 α1 S,i<ds.length→Rel K H P1 α1 S→qH P P1→α<+:α1→J.go i H
 yld:∀ i H x H' P1 α1 S,i<ds.length→Rel K H P1 α1 S→qH P P1→α<+:α1→J.yld i H x H'→∃ P2 d,ds[i]? = Ab d∧Rel K H' P2 α1 S∧qH P1 P2∧Rep K P2 α1 d x
 stop:∀ i H P1 α1 S,ds.length≤i→Rel K H P1 α1 S→qH P P1→α<+:α1→J.stop i H
abbrev DI:=qD→Sto→Res (Aa D)
def OkI (X:Cx)(P:Hp)(α : Aa Ad)(R:It→Hp→Prop)(ds:Aa D)(S':Sto):Prop:=∀ J H' P' α',Rel X.K H' P' α' S'→qH P P'→α<+:α'→ItD X.K J P' α' ds→R J H'
inductive tDI (X:Cx)(f:DI)(σ : _L.St)(H:Hp)(R:It→Hp→Prop):Prop
 |mk (P:Hp) (α : Aa Ad) (env:qD) (S:Sto) (r:Rel X.K H P α S) (re:qV X.K P α σ env) (af:qJ X P α (f env S) (OkI X P α R)):tDI X f σ H R
def wH {β : Type}(o:Ak β)(S:Sto):Res β:=match o with
 |some b=>.ok b S
 |none=>.bad
theorem vE {X:Cx}{β : Type}{o:Ak β}{S:Sto}{P:Hp}{α : Aa Ad}{Ok:β→Sto→Prop}(h:qJ X P α (wH o S) Ok):∃ b,o=Ab b∧Ok b S:=by
 cases o with
 |none=>exact Am h
 |some b=>exact⟨b,rfl,h⟩
theorem wX {X:Cx}{β : Type}{c:Prop}[IQ c]{r:Res β}{P:Hp}{α : Aa Ad}{Ok:β→Sto→Prop}(h:qJ X P α (if c then r else .bad) Ok):c∧qJ X P α r Ok:=by
 by_cases z:c
 ·rw[AA z] at h;exact⟨z,h⟩
 ·rw[A0 z] at h;exact Am h
theorem LX {X:Cx}{β : Type}{ds:Aa D}{g:D→Res β}{P:Hp}{α : Aa Ad}{Ok:β→Sto→Prop}(h:qJ X P α (match ds with|[d]=>g d|_=>.bad) Ok):∃ d,ds=[d]∧qJ X P α (g d) Ok:=by
 cases ds with
 |nil=>exact Am h
 |cons d ds =>
  cases ds with
  |nil=>exact⟨d,rfl,h⟩
  |cons _ _=>exact Am h
theorem fU {β : Type}{S:Sto}{i:Ah}{f:Aa D→Ak β}{g:Aa (Key × D)→Ak β}{b:β}(h:(match S[i]? with|some (.lst xs)=>f xs|some (.dct kvs)=>g kvs|_=>none)=Ab b):(∃ xs,S[i]? = Ab (.lst xs)∧f xs=Ab b)∨∃ kvs,S[i]? = Ab (.dct kvs)∧g kvs=Ab b:=by
 cases e:S[i]? with
 |none=>rw[e] at h;exact nn h
 |some m =>
  rw[e] at h;cases m with
  |lst xs=>exact .inl ⟨xs,rfl,h⟩
  |dct kvs=>exact .inr ⟨kvs,rfl,h⟩
  |_=>exact nn h
theorem GO {β : Type}{S:Sto}{i:Ah}{f:Aa D→Ak β}{b:β}(h:(match S[i]? with|some (.lst xs)=>f xs|_=>none)=Ab b):∃ xs,S[i]? = Ab (.lst xs)∧f xs=Ab b:=by
 cases e:S[i]? with
 |none=>rw[e] at h;exact nn h
 |some m =>
  rw[e] at h;cases m with
  |lst xs=>exact⟨xs,rfl,h⟩
  |_=>exact nn h
inductive ItV (d:D)(xs:Aa D):Prop
 |tup (e:d=.tup xs)
 |lst (e:d=.lst xs)
def XY {β : Type}(S:Sto)(n:Ah)(f:Aa D→Res β) : Res β:=match S[n]? with
 |some (.lst xs)=>f xs
 |_=>.bad
theorem k9 {X:Cx}{β : Type}{S:Sto}{n:Ah}{f:Aa D→Res β}{P:Hp}{α : Aa Ad}{Ok:β→Sto→Prop}(h:qJ X P α (XY S n f) Ok):∃ xs,S[n]? = Ab (.lst xs)∧qJ X P α (f xs) Ok:=by
 unfold XY at h;cases e:S[n]? with
 |none=>rw[e] at h;exact Am h
 |some m =>
  rw[e] at h;cases m with
  |lst xs=>exact⟨xs,rfl,h⟩
  |_=>exact Am h
def g9:D→Ak (Aa D)
 |.tup xs=>Ab xs
 |.lst xs=>Ab xs
 |_=>none
def xN (f:DE):DI:=fun env S=>(f env S).bind fun d S1=>wH (g9 d) S1
section
variable {X:Cx}{K:Ai}{tg e:AC}{fa:DE}{pos:Cz}
theorem QZ {P:Hp}{α : Aa Ad}{a:Ad}{ds:Aa D}{vs:Aa V}(q:SqL K P a vs)(t:qG K P α ds vs):ItD K (Itl K a) P α ds where
 go:=fun i H P1 α1 S hi r e _=>⟨vs,vs[i]'(by rw[← t.length];exact hi),(e.trans r.sub).seq q,by simp⟩
 yld:=fun i H x H' P1 α1 S hi r e e2 y=>by
  obtain⟨rfl,y⟩:=y;have hx:=y vs ((e.trans r.sub).seq q);obtain⟨v,h1,h2⟩:=t.get (Ap hi);rw[hx] at h1;cases h1;exact⟨P1,_,Ap hi,r,qH.refl _,Rep.mono e e2 _ _ h2⟩
 stop:=fun i H P1 α1 S hi r e _=>⟨vs,(e.trans r.sub).seq q,by rw[← t.length];exact hi⟩
theorem YL {P:Hp}{α : Aa Ad}{a:Ad}{ds:Aa D}{vs:Aa V}(q:SqT K P a vs)(t:qG K P α ds vs):ItD K (Itt K a) P α ds where
 go:=fun i H P1 α1 S hi r e _=>⟨vs,vs[i]'(by rw[← t.length];exact hi),vG (e.trans r.sub) q,by simp⟩
 yld:=fun i H x H' P1 α1 S hi r e e2 y=>by
  obtain⟨rfl,y⟩:=y;have hx:=y vs (vG (e.trans r.sub) q);obtain⟨v,h1,h2⟩:=t.get (Ap hi);rw[hx] at h1;cases h1;exact⟨P1,_,Ap hi,r,qH.refl _,Rep.mono e e2 _ _ h2⟩
 stop:=fun i H P1 α1 S hi r e _=>⟨vs,vG (e.trans r.sub) q,by rw[← t.length];exact hi⟩
theorem nU {pins:Aa (Ad × AV)}{σ : _L.St}{H P:Hp}{α : Aa Ad}{S:Sto}{s:Ag}{v:V}{vv:Ac}{d:D}{ds:Aa D}{R:It→Hp→Prop}(I:Inv X pins σ H s)(r:Rel X.K H P α S)(rv:qK v vv)(rp:Rep X.K P α d v)(hd:g9 d=Ab ds)
  (q:OkI X P α R ds S):An (Ar X.prog X.w) X.A (HU vv) (PIE X pins σ tg R) X.xe s:=by
 cases d with
 |tup xs =>
  cases hd;simp only[Rep] at rp;obtain⟨a,vs,rfl,sq,t⟩:=rp;cases rv;obtain⟨its,rv,p,hz⟩:=I.tuple (w4 r.sub sq);refine Ez (show s.heap.IsTuple a its.toArray from p) ?_
  refine⟨s.heap.objs.size,[s.heap.objs.size],_,_,H,rfl,I.kept (t':=s.toks) fun b o e=>Al _ e,eY a _,⟨_,AN _ rfl,rfl,rfl⟩,fun b hb=>?_,q _ _ P α r (qH.refl _) (AD _) (YL sq t)⟩;have e:b=s.heap.objs.size:=by simpa using hb
  subst e;exact I.fpOk (Aw _) (I.hok.fresh (Aw _))
 |lst xs =>
  cases hd;simp only[Rep] at rp;obtain⟨a,vs,rfl,sq,t⟩:=rp;cases rv;obtain⟨its,rv,p,hz⟩:=I.list ((xU r.sub sq).l);refine DN p.isList ?_;refine⟨s.heap.objs.size,[s.heap.objs.size],_,_,H,rfl,I.kept (t':=s.toks) fun b o e=>Al _ e,mW a _,⟨_,AN _ rfl,rfl,rfl⟩,fun b hb=>?_,q _ _ P α r (qH.refl _) (AD _) (QZ sq.l t)⟩;have e:b=s.heap.objs.size:=by simpa using hb
  subst e;exact I.fpOk (Aw _) (I.hok.fresh (Aw _))
 |_=>cases hd
theorem OkI.base {P P1:Hp}{α α1:Aa Ad}{R:It→Hp→Prop}{ds:Aa D}{S:Sto}(e:qH P P1)(h:α<+:α1)(k:OkI X P α R ds S):OkI X P1 α1 R ds S:=fun J H' P' α' r q1 q2 q3=>k J H' P' α' r (e.trans q1) (h.trans q2) q3
theorem K3 (ha:PE X e (tD X fa)):PI X tg e (tDI X (xN fa)):=by
 intro pins s σ H R I h;obtain⟨P,α,env,S,r,re,af⟩:=h;refine thn (x0 ha I r re af) fun vv s1 ⟨v,H1,P1,α1,d,S1,G1,af1⟩=>?_;obtain⟨ds,e1,q⟩:=vE af1;exact nU G1.inv G1.rel G1.val G1.rep e1 (q.base G1.same G1.pre)
def xQ (lo:Aj)(n:Ah):Aa D:=(By n).map fun (i:Ah)=>D.int (lo+(i:Aj))
theorem kA (lo:Aj)(n:Ah):(xQ lo n).length=n:=by simp[xQ]
theorem mO {P:Hp}{α : Aa Ad}{lo:Aj}{n:Ah}:ItD K (Itr lo n) P α (xQ lo n) where
 go:=fun i H P1 α1 S hi r e _=>by rw[kA] at hi;exact hi
 yld:=fun i H x H' P1 α1 S hi r e e2 y=>by
  obtain⟨rfl,rfl⟩:=y;rw[kA] at hi;exact⟨P1,.int (lo+i),by simp[xQ,hi],r,qH.refl _,by simp only[Rep]⟩
 stop:=fun i H P1 α1 S hi r e _=>by rw[kA] at hi;exact hi
def kE (ds:Aa D):Ak (Aa D):=match ds with
 |[.int j]=>if -(2 ^ 62)≤j∧j<2 ^ 62 then Ab (xQ 0 j.toNat) else none
 |[.int i,.int j]=>if -(2 ^ 62)≤i∧i<2 ^ 62 ∧ -(2 ^ 62)≤j∧j<2 ^ 62 then Ab (xQ i (j-i).toNat) else none
 |_=>none
def xO (f:DA):DI:=fun env S=>(f env S).bind fun ds S1=>wH (kE ds) S1
def asI:D→Ak Aj
 |.int i=>Ab i
 |_=>none
theorem pG {d:D}{i:Aj}(h:asI d=Ab i):d=.int i:=by
 cases d with
 |int k=>exact congrArg D.int (Be h)
 |_=>exact nn h
inductive RngV:Aa D→Aa D→Prop
 |one (j:Aj) (h : -(2 ^ 62)≤j∧j<2 ^ 62):RngV [.int j] (xQ 0 j.toNat)
 |two (i j:Aj) (h : -(2 ^ 62)≤i∧i<2 ^ 62 ∧ -(2 ^ 62)≤j∧j<2 ^ 62):RngV [.int i,.int j] (xQ i (j-i).toNat)
theorem TR (d:D):kE [d]=(asI d).bind fun j=>if -(2 ^ 62)≤j∧j<2 ^ 62 then Ab (xQ 0 j.toNat) else none:=by cases d <;> rfl
theorem TU (d d':D):kE [d,d']=(asI d).bind fun i=>(asI d').bind fun j=>if -(2 ^ 62)≤i∧i<2 ^ 62 ∧ -(2 ^ 62)≤j∧j<2 ^ 62 then Ab (xQ i (j-i).toNat) else none:=by
 cases d with
 |int i=>cases d' <;> rfl
 |_=>rfl
theorem U9 {ds its:Aa D}(h:kE ds=Ab its):RngV ds its:=by
 cases ds with
 |nil=>exact nn h
 |cons d ds =>
  cases ds with
  |nil =>
   obtain⟨j,e,h⟩:=DP.mp ((TR d).symm.trans h);obtain⟨c,rfl⟩:=jW h;rw[pG e];exact .one j c
  |cons d' ds =>
   cases ds with
   |nil =>
    obtain⟨i,e,h⟩:=DP.mp ((TU d d').symm.trans h);obtain⟨j,e',h⟩:=DP.mp h;obtain⟨c,rfl⟩:=jW h;rw[pG e,pG e'];exact .two i j c
   |cons _ _ =>
    have h0:∀ d'' t,kE (d::d'::d''::t)=none:=fun d'' t=>by cases d <;> first|rfl|(cases d' <;> rfl)
    exact nn ((h0 _ _).symm.trans h)
theorem fZ {K:Ai}{P:Hp}{α : Aa Ad}{i:Aj}{vs:Aa V}{ds:Aa D}(r:qG K P α (.int i::ds) vs):∃ ws,vs=.int i::ws∧qG K P α ds ws:=by
 obtain⟨w,ws,rfl,p,t⟩:=r.cons_inv;exact⟨ws,congrArg (· :: ws) (by simpa only [Rep] using p),t⟩
theorem PI.weak {iter:AC}{t t':TI}(h:PI X tg iter t)(w:∀ σ H R,t' σ H R→t σ H R):PI X tg iter t':=fun pins s σ H R I q=>h pins s σ H R I (w σ H R q)
end
section
variable {X:Cx}{tg a b:AC}{f:DA}{p pos:Cz}
theorem Q3 {e:AC}{es:Aa AC}(hg:Gl X "range")(hm:X.mg "range" = none)(ha:PA X (e::es) (tDA X f))(hs:Az (e::es) X.env=(false,eval e X.env)::Az es X.env:=by rfl)(hpl:(CP pos (Az es X.env)).any (·.1)=false:=by rfl) :
  PI X tg (.Call (.Name "range" p) (e::es) [] pos) (tDI X (xO f)):=by
 intro pins s σ H R I h;obtain⟨P,α,env,S,r,re,af⟩:=h;refine Call_ (vT I hg hm boot_range (Do (thn (w9 ha I r re af pos) fun us s1 ⟨vs,H1,P1,α1,ds,S1,I1,rv,r1,re1,rp,e1,e2,af1⟩=>?_) hs hpl));obtain⟨its,hi,q⟩:=vE af1;cases U9 hi with
 |one j c =>
  obtain⟨ws,rfl,t1⟩:=fZ rp;cases t1.nil_inv;obtain⟨u,rfl,t,rfl⟩:=p7 rv;refine call_range_1 (lL I1 om om c.1 c.2 ?_);have z:=q (Itr 0 j.toNat) H1 P1 α1 r1 e1 e2 mO;rw[Int.sub_zero];exact z
 |two i j c =>
  obtain⟨ws,rfl,t1⟩:=fZ rp;obtain⟨ws2,rfl,t2⟩:=fZ t1;cases t2.nil_inv;obtain⟨u,u',rfl,⟨t,rfl⟩,t',rfl⟩:=eZ rv;exact call_range_2 (lL I1 c.1 c.2.1 c.2.2.1 c.2.2.2 (q (Itr i (j-i).toNat) H1 P1 α1 r1 e1 e2 mO))
def vO (g:DG)(f:DS):Aa D→qD→Sto→Out
 |[],env,S=>.nx env S
 |d::ds,env,S=>(g d env S).toS env fun env1 S1=>match f env1 S1 with
  |.nx env2 S2=>vO g f ds env2 S2
  |.ct env2 S2=>vO g f ds env2 S2
  |.bk env2 S2=>.nx env2 S2
  |o=>o
def yD (fi:DI)(g:DG)(f:DS):DS:=fun env S=>(fi env S).toS env fun ds S1=>vO g f ds env S1
inductive LoopW (X:Cx)(P1:Hp)(α1:Aa Ad)(g:DG)(f:DS)(ds:Aa D)(D:Ends)(i m:Ah)(σ : _L.St)(H:Hp):Prop
 |mk (hi:i≤ds.length) (hm:m=ds.length-i) (P2:Hp) (α2:Aa Ad) (env2:qD) (S2:Sto) (r:Rel X.K H P2 α2 S2) (re:qV X.K P2 α2 σ env2) (e1:qH P1 P2) (e2:α1<+:α2) (af:qX X P2 α2 (vO g f (ds.drop i) env2 S2) D):LoopW X P1 α1 g f ds D i m σ H
theorem K6 {iter:AC}{body:Aa Cy}{fi:DI}{g:DG}{f:DS}(hp:IT (Ar X.prog X.w) X.A X.env X.xe)(hc:X.calm=true)(hi:PI X tg iter (tDI X fi))(hg:PG X tg (tDG X g))(hb:PSs X body (tDS X f))
  (hs:∀ x,Ch iter X.env x=pure x:=by intro _;rfl):PS X (.For tg iter body [] pos) (tDS X (yD fi g f)):=psW (B9 hp hc hi hg hb hs) fun D σ H ⟨P,α,env,S,r,re,af⟩=>by
 refine⟨P,α,env,S,r,re,?_⟩;have af1:=wJ af;cases q:fi env S with
 |bad=>rw[q] at af1;exact af1
 |ex c x S'=>rw[q] at af1;exact af1
 |ok ds S1 =>
  rw[q] at af1;have af2:qX X P α (vO g f ds env S1) D:=af1;intro J H1 P1 α1 r1 e1 e2 it;refine⟨LoopW X P1 α1 g f ds D,
   ⟨ds.length,Fe _,rfl,P1,α1,env,S1,r1,re.mono e1 e2,qH.refl _,AD _,qX.base e1 e2 af2⟩,?_⟩
  rintro i m σ2 H2 ⟨hi,rfl,P2,α2,env2,S2,r2,re2,e3,e4,af3⟩;by_cases hlt:i<ds.length
  ·refine .inr ⟨it.go i H2 P2 α2 S2 hlt r2 e3 e4,LoopW X P1 α1 g f ds D (i+1) (ds.length-(i+1)),fun σ' H' w=>⟨_,?_,w⟩,fun x H3 y=>?_⟩
   ·omega
   ·obtain⟨P3,d,hd,r3,e5,rp⟩:=it.yld i H2 x H3 P2 α2 S2 hlt r2 e3 e4 y
    have hdr:ds.drop i=d::ds.drop (i+1):=by
     rw[CW hlt];rw[Ap hlt] at hd;rw[Be hd]
    rw[hdr] at af3;have af4:=wJ (qX.base e5 (AD _) af3);refine⟨P3,α2,env2,S2,d,r3,re2.mono e5 (AD _),rp,?_⟩;cases q2:g d env2 S2 with
    |bad=>rw[q2] at af4;exact af4
    |ex c x S'=>rw[q2] at af4;exact af4
    |ok env3 S3 =>
     rw[q2] at af4;intro σ4 H4 P4 α4 r4 re4 e6 e7;refine⟨P4,α4,env3,S3,r4,re4,?_⟩;have af5:=qX.base e6 e7 af4;cases q3:f env3 S3 with
     |bad=>simp only[q3] at af5;exact af5
     |ex c x env4 S4=>simp only[q3] at af5;exact af5
     |rt d4 S4=>simp only[q3] at af5;exact af5
     |bk env4 S4=>simp only[q3] at af5;exact af5
     |nx env4 S4 =>
      simp only[q3] at af5;exact fun σ5 H5 P5 α5 r5 re5 e8 e9=>⟨hlt,rfl,P5,α5,env4,S4,r5,re5,((e3.trans e5).trans e6).trans e8,(e4.trans e7).trans e9,qX.base e8 e9 af5⟩
     |ct env4 S4 =>
      simp only[q3] at af5;exact fun σ5 H5 P5 α5 r5 re5 e8 e9=>⟨hlt,rfl,P5,α5,env4,S4,r5,re5,((e3.trans e5).trans e6).trans e8,(e4.trans e7).trans e9,qX.base e8 e9 af5⟩
  ·have hdr:ds.drop i=[]:=E5 om
   rw[hdr] at af3;exact .inl ⟨it.stop i H2 P2 α2 S2 om r2 e3 e4,af3 σ2 H2 P2 α2 r2 re2 (qH.refl _) (AD _)⟩
end
abbrev DF:=Aa D→Sto→Res D
section
variable {X:Cx}{x:As}{p pos:Cz}{e:AC}{es:Aa AC}{F:DF}{fa:DA}
def qE (F:DF)(fa:DA):DE:=fun env S=>(fa env S).bind fun ds S1=>F ds S1
theorem mF {F:DF}{u:Ac}{pins:Aa (Ad × AV)}{s1:Ag}{σ : _L.St}{H1 P P1:Hp}{α α1:Aa Ad}{vs:Aa V}{us:Aa Ac}{ds:Aa D}{S1:Sto}{Q:VK}(hc:w6 X u F)(I1:Inv X pins σ H1 s1)(r1:Rel X.K H1 P1 α1 S1)(rv:qM vs us)
  (rp:qG X.K P1 α1 ds vs) (e1:qH P P1) (e2:α<+:α1) (af:qJ X P α (F ds S1) (OkV X P α Q)):An (Ar X.prog X.w) X.A (call u us) (EP X pins σ Q) X.xe s1:=hc pins σ H1 s1 P1 α1 S1 vs us ds Q I1 r1 rv rp (qU.base e1 e2 af)
theorem oY {id:Bo}(hc:w6 X (.builtin id) F)(hg:Gl X x)(hm:X.mg x=none)(hv:CK x=Ab (.builtin id))(ha:PA X (e::es) (tDA X fa))(hn:x ≠ "__name__":=by decide)(hdb:(x == ("__debug__" : As))=false:=by decide)
  (he:Az (e::es) X.env=(false,eval e X.env)::Az es X.env:=by rfl) (hpl:(CP pos (Az es X.env)).any (·.1)=false:=by rfl):PE X (.Call (.Name x p) (e::es) [] pos) (tD X (qE F fa)):=by
 intro pins s σ H Q I h;obtain⟨P,α,env,S,r,re,af⟩:=h;refine E0 (vT I hg hm hv ?_ hn hdb);exact Gp (thn (w9 ha I r re af pos) fun us s1 ⟨vs,H1,P1,α1,ds,S1,I1,rv,r1,re1,rp,e1,e2,af1⟩=>mF hc I1 r1 rv rp e1 e2 af1) he hpl
theorem cJ {T:Bo}(hc:w6 X (.type T) F)(hg:Gl X x)(hm:X.mg x=none)(hv:CK x=Ab (.type T))(ha:PA X (e::es) (tDA X fa))(hn:x ≠ "__name__":=by decide)(hdb:(x == ("__debug__" : As))=false:=by decide)
  (he:Az (e::es) X.env=(false,eval e X.env)::Az es X.env:=by rfl) (hpl:(CP pos (Az es X.env)).any (·.1)=false:=by rfl):PE X (.Call (.Name x p) (e::es) [] pos) (tD X (qE F fa)):=by
 intro pins s σ H Q I h;obtain⟨P,α,env,S,r,re,af⟩:=h;refine E0 (vT I hg hm hv ?_ hn hdb);exact Do (thn (w9 ha I r re af pos) fun us s1 ⟨vs,H1,P1,α1,ds,S1,I1,rv,r1,re1,rp,e1,e2,af1⟩=>mF hc I1 r1 rv rp e1 e2 af1) he hpl
end
theorem zJ.there {P:A5}{w:AO}{H:Hp}{h:AF}{a:Ad}{o:HO}(x:zJ P w H h a o):∃ ob,h.get? a=Ab ob:=by
 cases o with
 |lst xs=>obtain⟨_,_,_,_,e⟩:=x;exact⟨_,e⟩
 |tup xs=>obtain⟨_,_,_,ob,e,_⟩:=x;exact⟨_,e⟩
 |dK kvs=>obtain⟨_,_,_,_,o,_,_,e,_⟩:=x;exact⟨_,e⟩
 |dT kvs=>obtain⟨_,_,_,_,o,_,_,e,_⟩:=x;exact⟨_,e⟩
 |set S n=>obtain⟨o,_,_,_,e,_⟩:=x;exact⟨_,e⟩
 |ins C dx fs=>obtain⟨_,_,_,e,_⟩:=x;exact⟨_,e⟩
 |own y=>obtain⟨_,e⟩:=x;exact⟨_,e⟩
 |xd fs=>obtain⟨_,⟨_,_,_,e,_⟩,_⟩:=x;exact⟨_,e⟩
 |rng lo hi=>obtain⟨_,_,_,e⟩:=x;exact⟨_,e⟩
 |frz ob u=>obtain⟨e,_⟩:=x;exact⟨_,e⟩
 |tbl ps=>exact⟨_,show h.get? a=Ab _ from x⟩
 |met f y=>exact⟨_,show h.get? a=Ab _ from x⟩
 |ext φ => obtain⟨_,e,_⟩:=x;exact e
section
variable {X:Cx}{pins:Aa (Ad × AV)}{σ : _L.St}{H:Hp}{s:Ag}{B h':AF}
abbrev Fn1 (X:Cx):Prop:=X.ex=[]∧X.stack=X.env::X.outer∧X.env.frame=Ab X.env.locals
theorem Fn1.mem (F:Fn1 X){b:Ad}:b∈frs X.stack↔b=X.env.locals∨b∈X.fs:=by
 rw[F.2.1];unfold frs;rw[EO,F.2.2];exact AL
theorem Old.there (I:Inv X pins σ H s)(F:Fn1 X){b:Ad}(o:Old X pins H b):∃ ob,s.heap.get? b=Ab ob:=by
 rcases o with⟨o,e⟩|e|⟨p,hp,rfl⟩|⟨x,e⟩
 ·exact I.base.there b o e (by rw[F.1];simp)
 ·cases q:H b with
  |none=>exact absurd q e
  |some u=>exact zJ.there (I.hok b u q)
 ·exact⟨_,(I.pin p hp).1⟩
 ·obtain⟨v,ob,ho,_⟩:=I.cell x b e
  exact⟨ob,ho⟩
theorem Inv.fly (I:Inv X pins σ H s)(F:Fn1 X)(cv:Cv X pins H B s.heap)(st:B.StaysIn h')(up:s.heap.UpToSlots h'):Inv X pins σ H { s with heap:=h' } ∧ Cv X pins H B h':=by
 have kp:∀ b o,s.heap.get? b=Ab o→Old X pins H b→b ∉ frs X.stack→h'.get? b=Ab o:=fun b o e q n=>st b o (cv b o e q n);have neL:∀ b o,X.s₀.heap.get? b=Ab o→b≠X.env.locals:=fun b o e=>Bm (AI (Av e) I.ok.above);have nofr:∀ b o,X.s₀.heap.get? b=Ab o→b ∉ X.fs→b ∉ frs X.stack:=fun b o e n z=>(F.mem.mp z).elim (neL b o e) n;have nx:∀ b,b ∉ X.ex:=fun b=>by rw[F.1];simp
 have frU:∀ b,b∈frs X.stack→∀ o,s.heap.get? b=Ab o→∃ sl,h'.get? b=Ab { o with slots:=sl }:=fun b hb o e=>by
  obtain⟨_,o',e',nf⟩:=I.stack.mem hb;rw[e] at e';cases e';exact up b o e nf
 have cellK:∀ x c,X.env.cells.lookup x=Ab c→∀ v,s.heap.IsCell c v→h'.IsCell c v:=fun x c e v ⟨o,ho,hd⟩=>by
  obtain⟨sl,q⟩:=up c o ho fun vs z=>by rw[hd] at z;cases z
  exact⟨_,q,hd⟩
 refine⟨⟨I.ok,I.os,I.bare,⟨fun b o e n hb hx=>?_,fun b o e n hb hx=>?_,I.base.free,fun b o e hx=>?_,I.base.tups,I.base.frzs,I.base.tbls⟩,?_,fun x c e=>?_,I.free,I.freeC,fun p hp=>?_,fun a o e=>?_,I.len⟩,fun b o e q n=>?_⟩
 ·exact kp b o (I.base.keep b o e n hb hx) (.inl ⟨o,e⟩) (nofr b o e hb)
 ·obtain⟨sl,e1⟩:=I.base.slot b o e n hb hx
  obtain⟨sl',e2⟩:=frU b (F.mem.mpr (.inr hb)) _ e1;exact⟨sl',e2⟩
 ·obtain⟨o',e1⟩:=I.base.there b o e hx
  by_cases hb:b∈frs X.stack
  ·obtain⟨sl,e2⟩:=frU b hb _ e1
   exact⟨_,e2⟩
  ·exact⟨o',kp b o' e1 (.inl ⟨o,e⟩) hb⟩
 ·obtain⟨m,hn,hl⟩:=I.loc
  refine⟨m,up.ns hn,fun i x v e1 e2 e3=>?_⟩;obtain⟨u,r,l⟩:=hl i x v e1 e2 e3;refine⟨u,r,?_⟩;rcases l with l|⟨k,c,e,z⟩
  ·exact .inl l
  ·exact .inr ⟨k,c,e,cellK x c e _ z⟩
 ·obtain⟨v,z⟩:=I.cell x c e
  exact⟨v,cellK x c e v z⟩
 ·obtain⟨e,n,ne,nf,d⟩:=I.pin p hp
  exact⟨kp p.1 p.2 e (.inr (.inr (.inl ⟨p,hp,rfl⟩))) fun z=>(F.mem.mp z).elim ne nf,n,ne,nf,d⟩
 ·refine(I.hok a o e).stay (fun b u hb q=>?_) (fun _ q=>q) fun _ _ q=>q
  have hn:H b≠none:=by
   rcases hb with rfl|hb
   ·rw[e];intro z;cases z
   ·rw[hb];intro z;cases z
  exact kp b u q (.inr (.inl hn)) fun z=>hn (I.stkFree b z)
 ·obtain⟨o1,e1⟩:=Old.there I F q
  have e2:=cv b o1 e1 q n;have e3:=st b o1 e2;rw[e] at e3;cases e3;exact e2
theorem i6 {c:Ac}{e:Ad}{g:AF}{args:Aa Ac}(I:Inv X pins σ H s)(hm:Jh g s.heap e c args)(hf:g.FunFrames X.base X.stack)(hk:∀ b o,s.heap.get? b=Ab o→Old X pins H b→g.get? b=Ab o) :
  (Gu g (frs X.stack)).StaysIn g∧g.FunFrames (Gu g (frs X.stack)) X.stack∧Cv X pins H (Gu g (frs X.stack)) s.heap:=
 ⟨fun b o q=>Kq _ q,PySem.W.funFrames_hide hf fun env he a ha=>Hu.mpr ⟨env,he,ha⟩,fun b o e q n=>Jt _ (hk b o e q) n⟩
theorem aI {M:Fl}{A:A8}{E:Ac→Ag→Prop}{c:Ac}{e:Ad}{Q:HS→Ag→Prop}(I:Inv X pins σ H s)(F:Fn1 X)(hA:A.frames=Ab X.stack)(f:FlyX X pins H c e s.heap)
  (hQ:∀ h' B a0,He B X.outer e c a0 h'→Inv X pins σ H { s with heap:=h' } → Cv X pins H B h'→Q () { s with heap:=h' }) : An M A (leaving X.env (.ref e)) Q E s:=by
 cases f with
 |new g args hm hf hk =>
  obtain⟨k1,k2,k3⟩:=i6 I hm hf hk;rw[F.2.1] at hA;refine wpAny_leaves_madeW hA F.2.2 k1 (by rw[← F.2.1];exact k2) hm fun h' t x1 x2 x3 x4=>?_
  obtain⟨I1,cv1⟩:=Inv.fly I F k3 x1.1 x4;exact hQ h' _ _ x1 I1 cv1
 |fly B a0 fl cv =>
  rw[F.2.1] at hA;refine wpAny_leaves_onW hA F.2.2 (by rw[← F.2.1];exact fl) fun h' x1 x2=>?_
  obtain⟨I1,cv1⟩:=Inv.fly I F cv x1.1 x2;exact hQ h' _ _ x1 I1 cv1
end
def CXd (P:A5)(w:AO):CXT:=fun outer H s E u s' =>
 ∃ e c H' B a0,u=.ref e∧s'.os=s.os∧Gh s'.gens∧Un (frs outer) [] H H' s.heap s'.heap∧HOk P w H' s'.heap∧He B outer e c a0 s'.heap ∧
  (∀ b o,s'.heap.get? b=Ab o→((∃ o,s.heap.get? b=Ab o)∨H' b≠none)→b ∉ frs outer→B.get? b=Ab o)∧E c none H'
section
variable {X:Cx}{pins:Aa (Ad × AV)}{σ : _L.St}{H:Hp}{s s':Ag}
theorem KQ {E:XK}{u:Ac}(I:Inv X pins σ H s)(F:Fn1 X)(h:CXd X.prog X.w X.stack H s E u s'):∃ e c H',u=.ref e∧Inv X pins σ H' s'∧FlyX X pins H' c e s'.heap∧E c none H':=by
 obtain⟨e,c,H',B,a0,rfl,os,bare,un,hok,fl,cov,q⟩:=h;have I':Inv X pins σ H' s':=Inv.call' I os un hok bare (ch:=[]) fun b z=>absurd z (by simp)
 refine⟨e,c,H',rfl,I',.fly B a0 fl fun b o eb old n=>cov b o eb ?_ n,q⟩;rcases old with⟨o,z⟩|z|⟨p,hp,rfl⟩|⟨x,z⟩
 ·exact .inl (I.base.there b o z (by rw[F.1];simp))
 ·exact .inr z
 ·exact .inl ⟨_,(I.pin p hp).1⟩
 ·obtain⟨v,ob,ho,_⟩:=I.cell x b z
  exact .inl ⟨ob,ho⟩
end
structure RoomC (cm:Ao)(k:Ah)(A:A8):Prop where
 hd:cm=true→A.handled=none
 dp:A.depth+3*k+5<Hm
 un:A.units+16*k+200<CI
 gd:A.guards=Ab []
theorem RoomC.mono {cm:Ao}{j k:Ah}{A:A8}(r:RoomC cm k A)(h:j≤k:=by decide):RoomC cm j A:=⟨r.hd,by have:=r.dp;omega,by have:=r.un;omega,r.gd⟩
theorem RoomC.deeper {cm:Ao}{k:Ah}{A:A8}(r:RoomC cm (k+1) A)(env:EA):RoomC cm k (A.deeper env):=
 ⟨r.hd,by have:=r.dp;show A.depth+1+3*k+5<_;omega,by have:=r.un;show A.units+3+16*k+200<_;omega,r.gd⟩
theorem RoomC.depth {cm:Ao}{k:Ah}{A:A8}(r:RoomC cm k A):A.depth<Hm:=by have:=r.dp;omega
theorem RoomC.units {cm:Ao}{k:Ah}{A:A8}(r:RoomC cm k A):A.units+64<CI:=by have:=r.un;omega
theorem RoomC.of {k:Ah}{A:A8}(r:Room k A):RoomC true k A:=⟨fun _=>r.hd,r.dp,r.un,r.gd⟩
theorem RoomC.any {cm:Ao}{k:Ah}{A:A8}(r:RoomC cm k A):RoomC false k A:=⟨(fun z=>nomatch z),r.dp,r.un,r.gd⟩
theorem RoomC.mark {cm:Ao}{k:Ah}{A:A8}(r:RoomC cm k A)(h:Ak Ac):RoomC false k (A.mark h):=⟨(fun z=>nomatch z),r.dp,r.un,r.gd⟩
abbrev Cx.re (X:Cx)(A:A8)(cm:Ao)(E:Ac→Ag→Prop):Cx:={ X with A:=A,calm:=cm,xe:=E }
theorem Inv.re {X:Cx}{pins:Aa (Ad × AV)}{σ : _L.St}{H:Hp}{s:Ag}(I:Inv X pins σ H s)(A:A8)(cm:Ao)(E:Ac→Ag→Prop)(hf:A.frames=Ab X.stack)(hh:cm=true→A.handled=none):Inv (Cx.re X A cm E) pins σ H s:=
 ⟨⟨I.ok.mod,I.ok.kind,I.ok.glob,I.ok.blt,I.ok.above,I.ok.inj,I.ok.has,I.ok.cab,hh,hf,I.ok.stk,I.ok.exf,I.ok.bs,I.ok.bsz,I.ok.noex,I.ok.exfs,I.ok.funs,I.ok.frf⟩,I.os,I.bare,I.base,I.loc,I.cell,I.free,I.freeC,I.pin,I.hok,I.len⟩
theorem Inv.unre {X:Cx}{pins:Aa (Ad × AV)}{σ : _L.St}{H:Hp}{s:Ag}{A:A8}{cm:Ao}{E:Ac→Ag→Prop}(I:Inv (Cx.re X A cm E) pins σ H s)(hf:X.A.frames=Ab X.stack)(hh:X.calm=true→X.A.handled=none):Inv X pins σ H s:=
 ⟨⟨I.ok.mod,I.ok.kind,I.ok.glob,I.ok.blt,I.ok.above,I.ok.inj,I.ok.has,I.ok.cab,hh,hf,I.ok.stk,I.ok.exf,I.ok.bs,I.ok.bsz,I.ok.noex,I.ok.exfs,I.ok.funs,I.ok.frf⟩,I.os,I.bare,I.base,I.loc,I.cell,I.free,I.freeC,I.pin,I.hok,I.len⟩
structure FnX (P:A5)(w:AO)(K:Ai)(mg:As→Ak Ac)(base:AF)(cm:Ao)(k:Ah)(f:Ad)(fd:CM)(ps:Aa As)(sp:Sp):Prop where
 len:∀ vs H Q E,sp vs H Q E→vs.length=ps.length
 run:∀ (A:A8) (outer:Aa EA) (s:Ag) (H:Hp) (args:Args) (us:Aa Ac) (vs:Aa V) (Q:VK) (E:XK),RoomC cm k A→Env0 P w K mg base A outer s H→Hg s fd args (ps.zip us)→qM vs us→sp vs H Q E →
  Ec (Ar P w) A (.call (.ref f) args) (CR (CXd P w) outer P w H s Q E) s
theorem FnX.ok {P:A5}{w:AO}{K:Ai}{mg:As→Ak Ac}{base:AF}{k:Ah}{f:Ad}{fd:CM}{ps:Aa As}{sp:Sp}(F:FnX P w K mg base true k f fd ps sp):FnOk P w K mg base (CXd P w) k f fd ps sp:=
 ⟨F.len,fun A outer s H args us vs Q E hr=>F.run A outer s H args us vs Q E (.of hr)⟩
theorem FnX.any {P:A5}{w:AO}{K:Ai}{mg:As→Ak Ac}{base:AF}{cm:Ao}{k:Ah}{f:Ad}{fd:CM}{ps:Aa As}{sp:Sp}(F:FnX P w K mg base false k f fd ps sp):FnX P w K mg base cm k f fd ps sp:=
 ⟨F.len,fun A outer s H args us vs Q E hr=>F.run A outer s H args us vs Q E hr.any⟩
theorem FnX.imp {P:A5}{w:AO}{K:Ai}{mg:As→Ak Ac}{base:AF}{cm:Ao}{k:Ah}{f:Ad}{fd:CM}{ps:Aa As}{sp sp':Sp}(F:FnX P w K mg base cm k f fd ps sp)
  (h:∀ vs H Q E,sp' vs H Q E→sp vs H Q E):FnX P w K mg base cm k f fd ps sp':=
 ⟨fun vs H Q E q=>F.len vs H Q E (h _ _ _ _ q),fun A outer s H args us vs Q E hr he hb hv hs=>F.run A outer s H args us vs Q E hr he hb hv (h _ _ _ _ hs)⟩
def cxC (cm:Ao)(P:A5)(w:AO)(K:Ai)(mg:As→Ak Ac)(base:AF)(N:Aa As)(qual:As)(scope:CS)(f:Ad)(cd:Ac)(A:A8)(outer:Aa EA)(s:Ag)(H:Hp)(E:XK):Cx where
 prog:=P
 w:=w
 K:=K
 mg:=mg
 base:=base
 A:=A.deeper (Dk qual scope s.heap.objs.size f cd)
 N:=N
 s₀:=s
 H₀:=H
 env:=Dk qual scope s.heap.objs.size f cd
 outer:=outer
 stack:=Dk qual scope s.heap.objs.size f cd::outer
 ex:=[]
 calm:=cm
 fn:=fun _=>true
 pn:=[]
 xe:=fun e s'=>An (Ar P w) (A.deeper (Dk qual scope s.heap.objs.size f cd)) (leaving (Dk qual scope s.heap.objs.size f cd) e) (fun _ s''=>CXd P w outer H s E e s'') (fun e' s''=>CXd P w outer H s E e' s'') s'
section
variable {P:A5}{w:AO}{K:Ai}{mg:As→Ak Ac}{base:AF}{cm:Ao}{N:Aa As}{qual:As}{scope:CS}{f:Ad}{cd:Ac}{A:A8}{outer:Aa EA}{s:Ag}{H:Hp}{E:XK}
theorem oV:IT (Ar P w) (A.deeper (Dk qual scope s.heap.objs.size f cd)) (Dk qual scope s.heap.objs.size f cd) (cxC cm P w K mg base N qual scope f cd A outer s H E).xe:=PassesOwn.leaving (Q₁:=fun e s''=>CXd P w outer H s E e s'')
theorem cF {P0:Hp}{α : Aa Ad}{c:Ac}{x:D}{S:Sto}{u:Ac}{s':Ag}(k:XOk (cxC cm P w K mg base N qual scope f cd A outer s H E) P0 α c x S u s')
  (q:∀ H' P' α',Rel K H' P' α' S→qH P0 P'→α<+:α'→E c none H'):(cxC cm P w K mg base N qual scope f cd A outer s H E).xe u s':=by
 obtain⟨e,pins,σ,H1,P1,α1,rfl,I,r,e1,e2,F,fl⟩:=k;refine aI (X:=cxC cm P w K mg base N qual scope f cd A outer s H E) I F I.ok.frames fl fun h' B a0 x1 I1 cv=>?_;refine⟨e,c,H1,B,a0,rfl,I1.os,I1.bare,I1.base,I1.hok,x1,fun b o eb hb n=>cv b o eb ?_ fun z=>?_,q H1 P1 α1 r e1 e2⟩
 ·rcases hb with z|z
  ·exact .inl z
  ·exact .inr (.inl z)
 ·rcases (Fn1.mem F).mp z with z|z
  ·subst z
   rcases hb with⟨o',e'⟩|z
   ·exact absurd (Av e') (Ke.mpr I1.ok.above)
   ·exact z I1.free
  ·exact n z
theorem eC {ps:Aa As}{s1:Ag}{us:Aa Ac}{vs:Aa V}(S:FnScope N ps scope)(hd:cm=true→A.handled=none)(e0:Env0 P w K mg base A outer s H)(hl:vs.length=ps.length)(r:qM vs us)
  (x:InCallC s s.heap.objs.size (Jw (Dk qual scope s.heap.objs.size f cd).kindOf (ps.zip us) fun _=>none) (IV (s.heap.objs.size+1) scope.names []) (Jx (Dk qual scope s.heap.objs.size f cd).kindOf (ps.zip us) fun _=>none) s1) :
  Inv (cxC cm P w K mg base N qual scope f cd A outer s H E) [] (_L.xV N vs) H s1:=by
 have I:=mM (CX:=CXd P w) (E:=E) (A:={ A with handled:=none }) S rfl ⟨e0.frames,e0.mod,e0.bs,e0.bsz,e0.funs,e0.frf,e0.hok,e0.bare⟩ hl r x
 have J:=Inv.re I (A.deeper (Dk qual scope s.heap.objs.size f cd)) cm (cxC cm P w K mg base N qual scope f cd A outer s H E).xe (Jk e0.frames) hd;exact J
end
theorem KR {P:A5}{w:AO}{K:Ai}{mg:As→Ak Ac}{base:AF}{cm:Ao}{k:Ah}{f:Ad}{x qual:As}{st:Cy}{fd:CM}{N ps:Aa As}{sp:Sp}(F:Fun K x qual st f fd)(S:FnScope N ps (qI st))
  (len:∀ vs H Q E,sp vs H Q E→vs.length=ps.length)
  (hbody:∀ (cdv:Ac) (A:A8) (outer:Aa EA) (s:Ag) (H:Hp) (vs:Aa V) (Q:VK) (E:XK),RoomC cm k (A.deeper (Dk qual (qI st) s.heap.objs.size f cdv))→sp vs H Q E →
   ∃ t,PSs (cxC cm P w K mg base N qual (qI st) f cdv A outer s H E) (zR st) t∧t { nx:=fun _ H'=>Q .non H',rt:=Q } (_L.xV N vs) H) :
  FnX P w K mg base cm (k+1) f fd ps sp:=by
 obtain⟨oc,od,kV,doc,pm,an,cdv,ct,osl,rfl,lk,hcd⟩:=F.ex;refine⟨len,fun A outer s H args us vs Q E hr e0 hb r hsp=>?_⟩;have hl:=len _ _ _ _ hsp;have KX:K.In s.heap:=e0.mod.kin.keeps fun b o e=>(e0.bs b o e).1;have lim:s.heap.NoLimit:=e0.mod.nolimit.keeps fun b o e=>(e0.bs b o e).1;have hkind:∀ y∈ps.zip us,(qI st).names.lookup y.1=Ab .local ∨ ((qI st).names.lookup y.1=Ab .cell∧((IV (s.heap.objs.size+1) (qI st).names []).lookup y.1).isSome=true):=fun ⟨n,v⟩ hy=>by
  rcases S.par n (Gy hy).1 with q|q
  ·exact .inl q
  ·exact .inr ⟨q,Gc _ _ _ (.inl q)⟩
 refine IW hr.depth (KX _ _ lk) rfl S.co S.gen rfl (Ks KX hcd) (hb _ _ _ _ ?_);refine Hy S.kind hkind fun env he s1 x=>?_;subst he;refine⟨lim.keeps x.toInCall.keep,codeAny_func ?_⟩;obtain⟨t,ht,hq⟩:=hbody cdv A outer s H vs Q E (hr.deeper _) hsp;have I:Inv (cxC cm P w K mg base N qual (qI st) f cdv A outer s H E) [] (_L.xV N vs) H s1:=eC S hr.hd e0 hl r x;refine CU (ht [] s1 (_L.xV N vs) H _ I hq) (fun fl s' hs=>?_) fun e s' hs=>hs;have fin:∀ {σ' : _L.St} {H':Hp} {v:V} {u:Ac},Inv (cxC cm P w K mg base N qual (qI st) f cdv A outer s H E) [] σ' H' s'→qK v u→Q v H'→CE outer P w H s Q u s':=
  fun {σ' H' v u} J rv q=>⟨v,H',J.os,J.bare,J.base,J.hok,rv,q⟩
 cases fl with
 |ret u =>
  obtain⟨v,σ',H',J,rv,q⟩:=hs;exact fin J rv q
 |next =>
  obtain⟨σ',H',J,q⟩:=hs;exact fin (v:=V.non) (u:=Br) J rfl q
 |brk =>
  obtain⟨_,_,_,q⟩:=hs;exact Am q
 |cont =>
  obtain⟨_,_,_,q⟩:=hs;exact Am q
def wI (n:Ah)(ds:Aa D):qD:=ds.map Ab++Bg (n-ds.length) none
def eN:Out→Res D
 |.rt d S=>.ok d S
 |.nx _ S=>.ok .non S
 |.ex c x _ S=>.ex c x S
 |_=>.bad
def qP (n:Ah)(g:DS):DF:=fun ds S=>eN (g (wI n ds) S)
def spD (K:Ai)(n:Ah)(F:DF):Sp:=fun vs H Q E=>vs.length=n∧∃ P α ds S,Rel K H P α S∧qG K P α ds vs∧match F ds S with
 |.ok d S'=>∀ v H' P' α',Rel K H' P' α' S'→qH P P'→α<+:α'→Rep K P' α' d v→Q v H'
 |.ex c _ S'=>∀ H' P' α',Rel K H' P' α' S'→qH P P'→α<+:α'→E c none H'
 |.bad=>Cq
theorem eP {K:Ai}{P:Hp}{α : Aa Ad}{N:Aa As}{ds:Aa D}{vs:Aa V}(r:qG K P α ds vs):qV K P α (_L.xV N vs) (wI N.length ds):=by
 refine⟨by simp[wI,_L.xV,r.length],fun i d e=>?_⟩
 unfold wI at e;unfold _L.xV;by_cases hi:i<ds.length
 ·rw[AG (by simpa using hi),CD] at e
  rw[AG (by rw[A9,← r.length];exact hi),CD]
  cases q:ds[i]? with
  |none=>rw[q] at e;cases e
  |some d' =>
   rw[q] at e;cases e;obtain⟨v,h1,h2⟩:=r.get q;exact⟨v,by rw[h1];rfl,h2⟩
 ·rw[Cd (by simpa using hi),Fq] at e
  split at e <;> cases e
section
variable {P:A5}{w:AO}{K:Ai}{mg:As→Ak Ac}{base:AF}{cm:Ao}
theorem fnX {x qual:As}{st:Cy}{f:Ad}{fd:CM}{N ps:Aa As}{k:Ah}{g:DS}(F:Fun K x qual st f fd)(S:FnScope N ps (qI st))
  (hbody:∀ (cdv:Ac) (A:A8) (outer:Aa EA) (s:Ag) (H:Hp) (E:XK),RoomC cm k (A.deeper (Dk qual (qI st) s.heap.objs.size f cdv)) →
   PSs (cxC cm P w K mg base N qual (qI st) f cdv A outer s H E) (zR st) (tDS (cxC cm P w K mg base N qual (qI st) f cdv A outer s H E) g)) :
  FnX P w K mg base cm (k+1) f fd ps (spD K ps.length (qP N.length g)):=by
 refine KR F S (fun vs H Q E h=>h.1) fun cdv A outer s H vs Q E hr h=>?_;obtain⟨hl,P',α,ds,S',r,rp,af⟩:=h;refine⟨_,hbody cdv A outer s H E hr,P',α,wI N.length ds,S',r,eP rp,?_⟩;unfold qP at af;cases q:g (wI N.length ds) S' with
 |rt d S1=>rw[q] at af;exact fun v H' P1 α1 r1 e1 e2 p1=>af v H' P1 α1 r1 e1 e2 p1
 |nx env S1=>rw[q] at af;exact fun σ' H' P1 α1 r1 re1 e1 e2=>af .non H' P1 α1 r1 e1 e2 (by simp only[Rep])
 |bk env S1=>rw[q] at af;exact Am af
 |ct env S1=>rw[q] at af;exact Am af
 |ex c x env S1=>rw[q] at af;exact fun u s' z=>cF z fun H' P1 α1 r1 e1 e2=>af H' P1 α1 r1 e1 e2
 |bad=>rw[q] at af;exact Am af
end
section
variable {X:Cx}{cm:Ao}{k:Ah}{f:Ad}{fd:CM}{ps:Aa As}{F:DF}{x:As}{p pos:Cz}{e:AC}{es:Aa AC}{fa:DA}{n:Ah}
def qN (n:Ah)(F:DF)(fa:DA):DE:=fun env S=>(fa env S).bind fun ds S1=>if ds.length=n then F ds S1 else .bad
theorem r0 {pins:Aa (Ad × AV)}{σ : _L.St}{H:Hp}{s:Ag}{Q:VK}{us:Aa Ac}{vs:Aa V}{P:Hp}{α : Aa Ad}{ds:Aa D}{S:Sto}(G:FnX X.prog X.w X.K X.mg X.base cm k f fd ps (spD X.K n F))(hr:RoomC cm k X.A)(hb:vH X.K fd ps [])(hF:Fn1 X)
  (I:Inv X pins σ H s) (r:Rel X.K H P α S) (rv:qM vs us) (rp:qG X.K P α ds vs) (hn:ds.length=n) (af:qU X P α (F ds S) Q):An (Ar X.prog X.w) X.A (call (.ref f) us) (EP X pins σ Q) X.xe s:=by
 have hvn:vs.length=n:=by rw[← rp.length];exact hn
 let E:XK:=fun c _ H'=>match F ds S with
  |.ex c' _ S'=>c=c'∧∃ P' α',Rel X.K H' P' α' S'∧qH P P'∧α<+:α'
  |_=>Cq
 have hsp:spD X.K n F vs H Q E:=by
  refine⟨hvn,P,α,ds,S,r,rp,?_⟩;cases q:F ds S with
  |ok d S'=>rw[q] at af;exact af
  |ex c x S' =>
   intro H' P' α' r' e1 e2;show match F ds S with|.ex c' _ S'=>c=c'∧∃ P' α',Rel X.K H' P' α' S'∧qH P P'∧α<+:α'|_=>Cq
   rw[q];exact⟨rfl,P',α',r',e1,e2⟩
  |bad=>rw[q] at af;exact af
 have hl:us.length=ps.length:=by rw[← rv.length];exact G.len _ _ _ _ hsp
 have hb':=hb s us I.kIn (by rw[Dr];exact hl)
 rw[Dr] at hb';refine Kf (Hd (G.run X.A X.stack s H ⟨us,[]⟩ us vs Q E hr I.env0 hb' rv hsp) fun r s' hq=>?_);cases r with
 |error u =>
  obtain⟨a,c,H',rfl,I',fl,q⟩:=KQ I hF hq;cases z:F ds S with
  |ok d S'=>simp only[E,z] at q
  |bad=>simp only[E,z] at q
  |ex c' x' S' =>
   simp only[E,z] at q;obtain⟨rfl,P',α',r',e1,e2⟩:=q;rw[z] at af;exact af _ _ ⟨a,pins,σ,H',P',α',rfl,I',r',e1,e2,hF,fl⟩
 |ok fl =>
  cases fl with
  |ret u=>exact I.after hq
  |next=>exact Am hq
  |brk=>exact Am hq
  |cont=>exact Am hq
theorem mJ {env:qD}{S S1:Sto}{P:Hp}{α : Aa Ad}{ds:Aa D}{Ok:D→Sto→Prop}(h:qJ X P α (if ds.length=n then F ds S1 else .bad) Ok):ds.length=n∧qJ X P α (F ds S1) Ok:=by
 by_cases hn:ds.length=n
 ·rw[AA hn] at h;exact⟨hn,h⟩
 ·rw[A0 hn] at h;exact Am h
theorem WR (G:FnX X.prog X.w X.K X.mg X.base cm k f fd ps (spD X.K n F))(hr:RoomC cm k X.A)(hF:Fn1 X)(hg:Gl X x)(hm:X.mg x=Ab (.ref f))(hk:Cf X.K (.ref f)=true)(hb:vH X.K fd ps [])
  (ha:PA X (e::es) (tDA X fa)) (hdb:(x == ("__debug__" : As))=false:=by decide) (he:Az (e::es) X.env=(false,eval e X.env)::Az es X.env:=by rfl) (hpl:(CP pos (Az es X.env)).any (·.1)=false:=by rfl) :
  PE X (.Call (.Name x p) (e::es) [] pos) (tD X (qN n F fa)):=by
 intro pins s σ H Q I h;obtain⟨P,α,env,S,r,re,af⟩:=h;refine E0 (jE I hg hm ?_ hdb);refine Hw (h₀:=X.base) I.ok.mod.kin hk (thn (w9 ha I r re af pos) fun us s1 ⟨vs,H1,P1,α1,ds,S1,I1,rv,r1,re1,rp,e1,e2,af1⟩=>⟨I1.kIn,?_⟩) he hpl;obtain⟨hn,af2⟩:=mJ (env:=env) (S:=S) af1;exact r0 G hr hb hF I1 r1 rv rp hn (qU.base e1 e2 af2)
end
abbrev tS:Aa Ac:=[.type "ValueError",.type "Exception",.type "BaseException",.type "object"]
def MH:Ac→Ao
 |.str _ _=>true
 |_=>false
def jJ (K:Ai)(N:Ad):Ao:=(match Gm N K with
 |some o=>match o.data with
  |.dict es _=>es.toList.all fun e=>MH e.key
  |_=>false
 |none=>false)&&decide (Bs K N "__init__" = Ab none)
theorem wP {K:Ai}{N:Ad}(h:jJ K N=true):Ot K N=true∧Bs K N "__init__" = Ab none:=by
 unfold jJ at h;rw[Ax,Bb] at h;refine⟨?_,h.2⟩;have h1:=h.1;unfold Ot;cases e:Gm N K with
 |none=>rw[e] at h1;cases h1
 |some o =>
  rw[e] at h1;obtain⟨oc,od,dt,sl⟩:=o;cases dt with
  |dict es ep =>
   simp only at h1 ⊢;rw[Array.all_toList] at h1;refine Eq.trans (congrArg (fun f=>Array.all es f) (funext fun e=>?_)) h1;cases e.key <;> rfl
  |_=>cases h1
def tI (K:Ai)(C:Ad)(f:Ac→Mf→A4 (Ak Ac)→Ao):Ao:=match Gm C K with
 |some o=>(match o.data with|.cls cd=>f o.cls cd o.slots|_=>false)
 |none=>false
theorem lF {K:Ai}{C:Ad}{f:Ac→Mf→A4 (Ak Ac)→Ao}(h:tI K C f=true):∃ oc od cd sl,Gm C K=Ab ⟨oc,od,.cls cd,sl⟩∧f oc cd sl=true:=by
 unfold tI at h;cases e:Gm C K with
 |none=>rw[e] at h;exact AM h
 |some o =>
  rw[e] at h;obtain⟨oc,od,dt,sl⟩:=o;cases dt with
  |cls cd=>exact⟨oc,od,cd,sl,rfl,h⟩
  |_=>exact AM h
def pH (K:Ai)(C A:Ad):Ao:=tI K C fun oc cd sl=>tI K A fun _ ca _=>decide (oc=.type "type")&&(decide (cd.mro=.ref C::.ref A::tS)&&(!cd.hasDel&&(jJ K cd.ns&&(jJ K ca.ns&&(decide (sl.toList.length=6)&&decide (sl.toList[4]? = Ab (Ab (.builtin "ValueError.__new__"))))))))
inductive ExcO (h:AF)(C:Ad):Prop
 |mk (nm q:As) (N:Ad) (bs bm:Aa Ac) (hdct:Ao) (sn:Aa As) (sub:Aa Ac) (ab:Ao) (col:Ak Ao) (dd:Ak Ad) (k0 k1 k2 k3 k5:Ak Ac) (mN:As→Ak Ac) (hC:h.get? C=Ab (excClassObj nm q C N bs bm hdct sn sub ab col dd k0 k1 k2 k3 k5 "ValueError.__new__")) (hN:h.Ns N mN) (hni:mN "__init__" = none) (T:OwnTail h tS bm):ExcO h C
theorem fV {β : Type}{l:Aa β}{n:Ah}(h:l.length=n+1):∃ a t,l=a::t∧t.length=n:=by
 cases l with
 |nil=>exact Nat.noConfusion h
 |cons a t=>exact⟨a,t,rfl,Nat.succ.inj h⟩
theorem six {β : Type}{l:Aa β}(h:l.length=6):∃ a b c d e f,l=[a,b,c,d,e,f]:=by
 obtain⟨a,t,e1,h⟩:=fV h;obtain⟨b,t2,e2,h⟩:=fV h;obtain⟨c,t3,e3,h⟩:=fV h;obtain⟨d,t4,e4,h⟩:=fV h;obtain⟨e,t5,e5,h⟩:=fV h;obtain⟨f,t6,e6,h⟩:=fV h;exact⟨a,b,c,d,e,f,by rw[e1,e2,e3,e4,e5,e6,Ev.mp h]⟩
theorem GW {C:Ad}{od:Ak Ad}{cd:Mf}{sl:A4 (Ak Ac)}{tl:Aa Ac}{k0 k1 k2 k3 k4 k5:Ak Ac}{n:Bo}(hm:cd.mro=.ref C::tl)(hd:cd.hasDel=false)(hs:sl.toList=[k0,k1,k2,k3,k4,k5])(hn:sl.toList[4]? = Ab (Ab (.builtin n))) :
  (⟨.type "type",od,.cls cd,sl⟩:AV)=excClassObj cd.name cd.qualname C cd.ns cd.bases tl cd.hasDict cd.slotNames cd.subclasses cd.abstract cd.collection od k0 k1 k2 k3 k5 n:=by
 rw[hs] at hn;cases hn;cases cd;cases sl;cases hm;cases hd;cases hs;rfl
theorem Y8 {K:Ai}{h:AF}{C A:Ad}{od:Ak Ad}{cd:Mf}{sl:A4 (Ak Ac)}(KI:K.In h)(e:Gm C K=Ab ⟨.type "type",od,.cls cd,sl⟩)(h2:cd.mro=.ref C::.ref A::tS)(h3:cd.hasDel=false)(h4:jJ K cd.ns=true)(h6:sl.toList.length=6)(h7:sl.toList[4]? = Ab (Ab (.builtin "ValueError.__new__")))(T:OwnTail h tS (.ref A::tS)):ExcO h C:=by
 obtain⟨k0,k1,k2,k3,x,k5,es⟩:=six h6;exact⟨_,_,_,_,_,_,_,_,_,_,_,k0,k1,k2,k3,k5,_,(KI _ _ e).trans (congrArg Ab (GW h2 h3 es h7)),.of_isNs (Kw KI (wP h4).1),HP KI (wP h4).1 (wP h4).2,T⟩
theorem Y9 {K:Ai}{h:AF}{C A:Ad}(KI:K.In h)(z:pH K C A=true):ExcO h C:=by
 obtain⟨oc,od,cd,sl,e,z⟩:=lF z;obtain⟨qc,qd,ca,ql,e2,z⟩:=lF z;have a1:=CO.mp z;have a2:=CO.mp a1.2;have a3:=CO.mp a2.2;have a4:=CO.mp a3.2;have a5:=CO.mp a4.2;have a6:=CO.mp a5.2;rw[Bf a1.1] at e;exact Y8 KI e (Bf a2.1) (EC _▸a3.1) a4.1 (Bf a6.1) (Bf a6.2) (.own (KI _ _ e2) (.of_isNs (Kw KI (wP a5.1).1)) (HP KI (wP a5.1).1 (wP a5.1).2) .base)
section
variable {X:Cx}{pos:Cz}{fa:DA}
def gI (c:Ac)(fa:DA):DS:=fun env S=>(fa env S).toS env fun ds S1=>if ds.length≤lim then .ex c .non env S1 else .bad
inductive GotAS (X:Cx)(pins:Aa (Ad × AV))(σ : _L.St)(env:qD)(P:Hp)(α : Aa Ad)(us:Aa Ac)(s1:Ag)(k:Aa D→Sto→Out)(E:Ends):Prop
 |mk (vs:Aa V) (H1 P1:Hp) (α1:Aa Ad) (ds:Aa D) (S1:Sto) (I:Inv X pins σ H1 s1) (rv:qM vs us) (r:Rel X.K H1 P1 α1 S1) (re:qV X.K P1 α1 σ env) (rp:qG X.K P1 α1 ds vs) (e1:qH P P1) (e2:α<+:α1) (q:qX X P1 α1 (k ds S1) E):GotAS X pins σ env P α us s1 k E
theorem WP {es:Aa AC}{k:Aa D→Sto→Out}{pins:Aa (Ad × AV)}{s:Ag}{σ : _L.St}{H P:Hp}{α : Aa Ad}{env:qD}{S:Sto}{D:Ends}(he:PA X es (tDA X fa))(I:Inv X pins σ H s)(r:Rel X.K H P α S)
  (re:qV X.K P α σ env) (af:qX X P α ((fa env S).toS env k) D) (pos:Cz) :
  An (Ar X.prog X.w) X.A (spliced (CP pos (Az es X.env))) (fun us s1=>GotAS X pins σ env P α us s1 k D) X.xe s:=by
 have af1:qJ X P α ((fa env S).bind fun d S=>.ok d S) fun d S=>qX X P α (k d S) D:=by
  have:=wJ af;cases q:fa env S <;> rw[q] at this <;> exact this
 exact thn (w9 he I r re af1 pos) fun u s1 ⟨vs,H1,P1,α1,ds,S1,I1,rv,r1,re1,rp,e1,e2,q⟩=>⟨vs,H1,P1,α1,ds,S1,I1,rv,r1,re1,rp,e1,e2,qX.base e1 e2 q⟩
theorem Q6 {x:As}{C Ae:Ad}{e₀:AC}{rest:Aa AC}{np cpos:Cz}(hc:X.calm=true)(hF:Fn1 X)(hg:Gl X x)(hm:X.mg x=Ab (.ref C))(hx:pH X.K C Ae=true)(ha:PA X (e₀::rest) (tDA X fa))
  (hdb:(x == ("__debug__" : As))=false:=by decide) (he:Az (e₀::rest) X.env=(false,eval e₀ X.env)::Az rest X.env:=by rfl) (hpl:(CP cpos (Az rest X.env)).any (·.1)=false:=by rfl) :
  PS X (.Raise (Ab (.Call (.Name x np) (e₀::rest) [] cpos)) none pos) (tDS X (gI (.ref C) fa)):=by
 intro pins s σ H D I h;obtain⟨P,α,env,S,r,re,af⟩:=h;obtain⟨nm,qn,N,bs,tl,hdct,sn,sub,ab,col,dd,k0,k1,k2,k3,k5,mN,hC,hN,hni,T⟩:=Y9 I.mod.kin hx;refine wpAny_Raise_call_subT (C:=C) (nm:=nm) (q:=qn) (N:=N) (bs:=bs) (bm:=tl) (hdct:=hdct) (sn:=sn) (sub:=sub) (ab:=ab) (col:=col) (dd:=dd) (k0:=k0) (k1:=k1) (k2:=k2) (k3:=k3) (k5:=k5)
  H9 (mN:=mN) (T.hasType H9.hasBase) (I.ok.hd hc) (by rw[he];show (false||(CP cpos (Az rest X.env)).any (·.1))=false;rw[hpl];rfl) hni (jE I hg hm ⟨rfl,?_⟩ hdb)
 have run:=WP ha I r re af cpos;rw[he] at run ⊢;refine Jm (thn run fun us s2 ⟨vs,H1,P1,α1,ds,S1,I1,rv,r1,re1,rp,e1,e2,q⟩=>?_);have hl:us.length=ds.length:=by rw[rp.length,rv.length]
 by_cases hz:ds.length≤lim
 ·rw[AA hz] at q
  refine⟨rfl,by rw[hl,← zS];exact hz,I1.bk _ _ hC,hN.keeps I1.bk,T.keeps I1.bk,fun h' e hm=>q _ _ ⟨e,pins,σ,H1,P1,α1,rfl,I1.kept (t':=s2.toks) hm.keeps,r1,qH.refl _,AD _,hF,.new s2.heap us hm I1.stack fun b o eb old=>?_⟩⟩
  obtain⟨o1,q1⟩:=Old.there I1 hF old;have q2:=hm.keeps b o1 q1;rw[eb] at q2;cases q2;exact q1
 ·rw[A0 hz] at q;exact Am q
end
section
variable {X:Cx}{pins:Aa (Ad × AV)}{σ : _L.St}{H:Hp}{s:Ag}
theorem eF {M:Fl}{A:A8}{E:Ac→Ag→Prop}{base h:AF}{env:EA}{outer:Aa EA}{L e:Ad}{cls:Ac}{args:Aa Ac}{Q:HS→Ag→Prop}
  (hfr:A.frames=Ab (env::outer)) (hf:env.frame=Ab L) (hkb:base.StaysIn h) (hl:h.FunFrames base (env::outer)) (hx:Jh h s.heap e cls args)
  (hQ:∀ h' a0,OZ base (env::outer) e cls a0 L h'→s.heap.UpToSlots h'→Q () { s with heap:=h' }) : An M A (IX (.ref e) env) Q E s:=by
 obtain⟨t,he,htn,ht⟩:=hx.there;have fresh:∀ b,h.get? b=none→base.get? b=none:=fun b hb=>by
  cases hq:base.get? b with
  |none=>rfl
  |some o'=>have z:=hkb b o' hq;rw[hb] at z;cases z
 unfold IX;simp only[hf];refine Af (Bx he rfl (x:=.none) rfl ?_);rw[A0 (by decide)]
 refine wpAny_entryW hfr (hl.of_keeps fun b o hb _=>⟨o,hx.keeps b o hb,rfl⟩) hf he (fun b o hb=>hx.keeps b o (hkb b o hb)) (fresh e hx.new) rfl (by simp) (a0:=.ref t) rfl fun h' hN=>?_
 obtain⟨n1,n2,n3,n4⟩:=hN;exact hQ h' (.ref t) ⟨n1,fresh e hx.new,n2,n3⟩ n4
theorem Z5 {M:Fl}{A:A8}{E:Ac→Ag→Prop}{c:Ac}{e:Ad}{Q:HS→Ag→Prop}(I:Inv X pins σ H s)(F:Fn1 X)(hA:A.frames=Ab X.stack)(f:FlyX X pins H c e s.heap)
  (hQ:∀ h' B a0,He B X.stack e c a0 h'→Inv X pins σ H { s with heap:=h' } → Cv X pins H B h'→Q () { s with heap:=h' }) :
  An M A (IX (.ref e) X.env) (fun _ s₂=>An M A (Mi (.ref e) none) Q E s₂) E s:=by
 have land:∀ (B:AF) (a0:Ac) (h1:AF),Cv X pins H B s.heap→OZ B X.stack e c a0 X.env.locals h1→s.heap.UpToSlots h1→An M A (Mi (.ref e) none) Q E { s with heap:=h1 }:=fun B a0 h1 cv hh up=>by
  refine wpAny_landsW (s:={ s with heap:=h1 }) hh fun h2 f2 u2=>?_
  obtain⟨I2,cv2⟩:=Inv.fly I F cv f2.1 (up.trans u2);exact hQ h2 B a0 f2 I2 cv2
 cases f with
 |new g args hm hf hk =>
  obtain⟨k1,k2,k3⟩:=i6 I hm hf hk;rw[F.2.1] at hA;exact eF hA F.2.2 k1 (by rw[← F.2.1];exact k2) hm fun h' a0 x1 x2=>land _ a0 h' k3 (F.2.1▸x1) x2
 |fly B a0 fl cv =>
  rw[F.2.1] at hA;exact wpAny_looks_onW hA F.2.2 (by rw[← F.2.1];exact fl) fun h' x1 x2=>land B a0 h' cv (by rw[F.2.1];exact x1) x2
theorem dW {B:AF}{c a0:Ac}{e:Ad}(I:Inv X pins σ H s)(F:Fn1 X)(fl:He B X.stack e c a0 s.heap)(cv:Cv X pins H B s.heap):¬ Old X pins H e∧e ∉ frs X.stack∧∃ ob,s.heap.get? e=Ab ob∧ob.cls=c:=by
 obtain⟨oe,vs,he,hc,hd,_⟩:=fl.first
 have nf:e ∉ frs X.stack:=fun z=>by
  obtain⟨_,o,ho,hn⟩:=I.stack.mem z;rw[he] at ho;cases ho;exact hn vs hd
 refine⟨fun z=>?_,nf,oe,he,hc⟩;have q:=cv e oe he z nf;rw[fl.2.1] at q;cases q
theorem Inv.track {e:Ad}{c:Ac}{ob:AV}(I:Inv X pins σ H s)(F:Fn1 X)(no:¬ Old X pins H e)(nf:e ∉ frs X.stack)(he:s.heap.get? e=Ab ob)(hc:ob.cls=c):Inv X pins σ (upd H e (nK e c)) s:=by
 have hn:H e=none:=by
  cases q:H e with
  |none=>rfl
  |some u=>exact absurd (.inr (.inl (by rw[q];intro z;cases z))) no
 have nL:e≠X.env.locals:=fun z=>nf (F.mem.mpr (.inl z));have n0:∀ b o,X.s₀.heap.get? b=Ab o→b≠e:=fun b o q z=>no (.inl ⟨o,z▸q⟩);refine⟨I.ok,I.os,I.bare,⟨I.base.keep,I.base.slot,fun b o q n hx=>?_,I.base.there,fun b xs q=>?_,fun b o xs q=>?_,fun b ps q=>?_⟩,I.loc,I.cell,?_,fun x k q=>?_,fun p hp=>?_,fun b u q=>?_,I.len⟩
 ·rw[qO (n0 b o q)];exact I.base.free b o q n hx
 ·have z:=I.base.tups b xs q
  rw[qO (qW z hn)];exact z
 ·have z:=I.base.frzs b o xs q
  rw[qO (qW z hn)];exact z
 ·obtain⟨m,z⟩:=I.base.tbls b ps q
  exact⟨m,by rw[qO (qW z hn)];exact z⟩
 ·rw[qO (DC nL)];exact I.free
 ·have z:k≠e:=fun z=>no (.inr (.inr (.inr ⟨x,z▸q⟩)))
  rw[qO z];exact I.freeC x k q
 ·obtain⟨a1,a2,a3,a4,a5⟩:=I.pin p hp
  have z:p.1≠e:=fun z=>no (.inr (.inr (.inl ⟨p,hp,z⟩)));exact⟨a1,by rw[qO z];exact a2,a3,a4,a5⟩
 ·by_cases hb:b=e
  ·subst hb
   rw[qZ] at q;cases q;refine⟨⟨ob,he,hc⟩,⟨ob,he⟩,fun h1 h2 ⟨o,q1,q2⟩ k=>⟨o,k o q1,q2⟩⟩
  ·rw[qO hb] at q
   exact(I.hok b u q).stay (fun _ _ _ z=>z) (fun k z=>by rw[qO (qW z hn)];exact z) fun k xs z=>by rw[qO (qW z hn)];exact z
theorem Inv.gone {i t':Ah}{n:As}{h':AF}(I:Inv X pins σ H s)(hN:X.N.Nodup)(hi:X.N[i]? = Ab n){m:As→Ak Ac}{v:Ak Ac}(hl:∀ (j:Ah) (y:As) (w:V),X.N[j]? = Ab y→σ[j]? = Ab (Ab w)→Vis X.env.scope y→∃ u,qK w u∧J0 X.env s.heap m y u)(hv:h'.Ns X.env.locals fun y=>if y=n then v else m y)(sb:CL X.env.locals s.heap h') :
  Inv X pins (σ.set i none) H { s with heap:=h',toks:=t' }:=by
 have neL:∀ b o,X.s₀.heap.get? b=Ab o→b≠X.env.locals:=fun b o e=>Bm (AI (Av e) I.ok.above);have kp:∀ b o,b≠X.env.locals→s.heap.get? b=Ab o→h'.get? b=Ab o:=fun b o n e=>(sb.2 b n).trans e;refine⟨I.ok,I.os,I.bare,⟨fun b o e n hb hx=>kp b o (neL b o e) (I.base.keep b o e n hb hx),fun b o e n hb hx=>?_,I.base.free,fun b o e hx=>?_,I.base.tups,I.base.frzs,I.base.tbls⟩,⟨_,hv,fun j y w e1 e2 e3=>?_⟩,fun x c e=>?_,I.free,I.freeC,fun p hp=>?_,fun b u q=>?_,by simpa using I.len⟩
 ·obtain⟨sl,q⟩:=I.base.slot b o e n hb hx
  exact⟨sl,kp b _ (neL b o e) q⟩
 ·obtain⟨o',q⟩:=I.base.there b o e hx
  exact⟨o',kp b o' (neL b o e) q⟩
 ·have hj:i≠j:=fun z=>by
   subst z;by_cases hs:i<σ.length
   ·rw[Bz hs] at e2;cases e2
   ·rw[Gk (by simp;omega)] at e2;cases e2
  rw[Ba hj] at e2;obtain⟨u,r,l⟩:=hl j y w e1 e2 e3;refine⟨u,r,?_⟩;rcases l with⟨k,z⟩|⟨k,c,z,zc⟩
  ·refine .inl ⟨k,?_⟩
   have:y≠n:=fun z=>hj (pQ hN hi (z▸e1));simp[this,z]
  ·exact .inr ⟨k,c,z,zc.sameBut sb (I.cne y c z)⟩
 ·obtain⟨w,z⟩:=I.cell x c e
  exact⟨w,z.sameBut sb (I.cne x c e)⟩
 ·obtain⟨e,n,ne,nf,d⟩:=I.pin p hp
  exact⟨kp p.1 p.2 ne e,n,ne,nf,d⟩
 ·refine(I.hok b u q).stay (fun c w hc z=>kp c w ?_ z) (fun _ z=>z) fun _ _ z=>z
  rintro rfl;rcases hc with rfl|hc
  ·rw[I.free] at q;cases q
  ·rw[I.free] at hc;cases hc
theorem dZ {M:Fl}{A:A8}{E:Ac→Ag→Prop}{i:Ah}{n:As}{pos:Cz}{Q:HS→Ag→Prop}(I:Inv X pins σ H s)(hN:X.N.Nodup)(hi:X.N[i]? = Ab n)(hlo:X.env.scope.names.lookup n=Ab .local)
  (h:∀ s',Inv X pins (σ.set i none) H s'→Q () s'):An M A (do Ko X.env n .none;unbindBehindTheSuite X.env n pos) Q E s:=by
 obtain⟨m,hm,hl⟩:=id I.loc;exact wpAny_nameGoes_keeps hlo hm (by rw[I.ok.kind];rfl) fun h' v hv sb=>h _ (Inv.gone I hN hi hl hv sb)
end
abbrev Cx.tryIn (X:Cx)(E:Ac→Ag→Prop)(pn:Aa (Ad × AV)):Cx:={ X with xe:=E,pn:=pn }
abbrev Cx.suite (X:Cx)(e:Ad):Cx:=Cx.re X (X.A.mark (Ab (.ref e))) false fun _ _=>Cq
def pT (N i:Ah)(cs:Aa Ac)(f g:DS):DS:=fun env S=>match f env S with
 |.ex c x env1 S1=>if cs.contains c then (match g ((Bg N none).set i (Ab (.exn c))) S1 with
   |.rt d S2=>.rt d S2
   |.nx env2 S2=>.nx (env2.set i none) S2
   |_=>.bad) else .bad
 |o=>o
section
variable {X:Cx}{pins:Aa (Ad × AV)}{σ : _L.St}{H:Hp}{s:Ag}
theorem Inv.inTry (I:Inv X pins σ H s)(E:Ac→Ag→Prop):Inv (Cx.tryIn X E (X.pn++pins)) [] σ H s:=
 ⟨⟨I.ok.mod,I.ok.kind,I.ok.glob,I.ok.blt,I.ok.above,I.ok.inj,I.ok.has,I.ok.cab,I.ok.hd,I.ok.frames,I.ok.stk,I.ok.exf,I.ok.bs,I.ok.bsz,I.ok.noex,I.ok.exfs,I.ok.funs,I.ok.frf⟩,I.os,I.bare,I.base,I.loc,I.cell,I.free,I.freeC,fun p hp=>I.pin p (by simpa using hp),I.hok,I.len⟩
theorem Inv.outTry {E:Ac→Ag→Prop}{more:Aa (Ad × AV)}(I:Inv (Cx.tryIn X E (X.pn++pins)) more σ H s):Inv X pins σ H s:=
 ⟨⟨I.ok.mod,I.ok.kind,I.ok.glob,I.ok.blt,I.ok.above,I.ok.inj,I.ok.has,I.ok.cab,I.ok.hd,I.ok.frames,I.ok.stk,I.ok.exf,I.ok.bs,I.ok.bsz,I.ok.noex,I.ok.exfs,I.ok.funs,I.ok.frf⟩,I.os,I.bare,I.base,I.loc,I.cell,I.free,I.freeC,fun p hp=>I.pin p (Bp _ hp),I.hok,I.len⟩
theorem SP.outTry {E:Ac→Ag→Prop}{D:Ends}{f:Flow}{s':Ag}(h:SP (Cx.tryIn X E (X.pn++pins)) [] D f s'):SP X pins D f s':=by
 cases f with
 |next=>obtain⟨σ',H',I,q⟩:=h;exact⟨σ',H',Inv.outTry I,q⟩
 |brk=>obtain⟨σ',H',I,q⟩:=h;exact⟨σ',H',Inv.outTry I,q⟩
 |cont=>obtain⟨σ',H',I,q⟩:=h;exact⟨σ',H',Inv.outTry I,q⟩
 |ret u=>obtain⟨v,σ',H',I,r,q⟩:=h;exact⟨v,σ',H',Inv.outTry I,r,q⟩
theorem FlyX.outTry {E:Ac→Ag→Prop}{more:Aa (Ad × AV)}{c:Ac}{e:Ad}{h:AF}(f:FlyX (Cx.tryIn X E (X.pn++pins)) more H c e h):FlyX X pins H c e h:=by
 have old:∀ b,Old X pins H b→Old (Cx.tryIn X E (X.pn++pins)) more H b:=fun b o=>by
  rcases o with o|o|⟨p,hp,z⟩|o
  ·exact .inl o
  ·exact .inr (.inl o)
  ·exact .inr (.inr (.inl ⟨p,Bp _ hp,z⟩))
  ·exact .inr (.inr (.inr o))
 cases f with
 |new g args hm hf hk=>exact .new g args hm hf fun b o e q=>hk b o e (old b q)
 |fly B a0 fl cv=>exact .fly B a0 fl fun b o e q n=>cv b o e (old b q) n
theorem iU {K:Ai}{P:Hp}{α : Aa Ad}{σ : _L.St}{n:Ah}(h:σ.length=n):qV K P α σ (Bg n none):=by
 refine⟨by simp[h],fun i d e=>?_⟩
 rw[Fq] at e
 split at e <;> cases e
theorem qV.unset {K:Ai}{P:Hp}{α : Aa Ad}{σ : _L.St}{env:qD}(re:qV K P α σ env)(i:Ah):qV K P α (σ.set i none) (env.set i none):=by
 refine⟨by simp[re.1],fun j d e=>?_⟩
 by_cases hj:i=j
 ·subst hj
  by_cases hi:i<env.length
  ·rw[Bz hi] at e;cases e
  ·rw[Gk (by simp;omega)] at e;cases e
 ·rw[Ba hj] at e ⊢
  exact re.2 j d e
end
section
variable {X:Cx}{pos:Cz}{f g:DS}
theorem KY {pins:Aa (Ad × AV)}{D:Ends}{c:Ac}{e C0:Ad}{s':Ag}{σ : _L.St}{H P:Hp}{α : Aa Ad}{S1:Sto}{x n:As}{i:Ah}{b₀:Cy}{suite:Aa Cy}{np hpos:Cz}{cs:Aa Ac}
  (F:Fn1 X) (hg:Gl X x) (hm:X.mg x=Ab (.ref C0)) (hcs:∀ c∈cs,Ek X.K c (.ref C0)=Ab true) (hN:X.N.Nodup) (hi:X.N[i]? = Ab n) (hlo:X.env.scope.names.lookup n=Ab .local)
  (hs:∀ e,PSs (Cx.suite X e) (b₀::suite) (tDS (Cx.suite X e) g)) (hc:cs.contains c=true) (I:Inv X pins σ H s') (r:Rel X.K H P α S1) (fl:FlyX X pins H c e s'.heap)
  (af:qX X P α (match g ((Bg X.N.length none).set i (Ab (.exn c))) S1 with|.rt d S2=>.rt d S2|.nx env2 S2=>.nx (env2.set i none) S2|_=>.bad) D) (hdb:(x == ("__debug__" : As))=false) :
  An (Ar X.prog X.w) X.A (IX (.ref e) X.env) (fun _ s₂=>An (Ar X.prog X.w) X.A (Mi (.ref e) none) (fun _ s₃ =>
   An (Ar X.prog X.w) X.A (handleBy (.ref e) X.env [.ExceptHandler (Ab (.Name x np)) (Ab n) (b₀::suite) hpos]) (SP X pins D) X.xe s₃) X.xe s₂) X.xe s':=by
 have hcs':Ek X.K c (.ref C0)=Ab true:=hcs c (by simpa using hc)
 have Z:∀ {σ : _L.St} {H:Hp} {s:Ag},Inv X pins σ H s→Inv (Cx.suite X e) pins σ H s:=fun I=>Inv.re I _ false _ I.ok.frames fun z=>nomatch z;refine Z5 I F I.ok.frames fl fun h5 B a0 f5 I5 cv5=>?_;refine wpAny_handleBy_cons (codeAny_handlers_test (A:=X.A.mark (Ab (.ref e))) (jE (X:=Cx.suite X e) (Z I5) hg hm ?_ hdb)) (by intro q;cases q)
 obtain⟨no5,nf5,ob5,he5,hc5⟩:=dW I5 F f5 cv5;refine(PySem.W.exm_one I5.kIn (by subst hc5;exact(Ph he5).andThen .now) hcs').at ?_
 refine codeAny_handlers_suite_as ?_;refine lands_againW (s:={ s' with heap:=h5 }) f5 fun h6 f6 u6=>?_
 obtain⟨I6,cv6⟩:=Inv.fly I5 F cv5 f6.1 u6;obtain⟨no6,nf6,ob6,he6,hc6⟩:=dW I6 F f6 cv6;have J6:Inv X pins σ (upd H e (nK e c)) { s' with heap:=h6 }:=Inv.track I6 F no6 nf6 he6 hc6
 have hn:H e=none:=by
  cases q:H e with
  |none=>rfl
  |some u=>exact absurd (.inr (.inl (by rw[q];intro z;cases z))) no6
 obtain⟨r1,sP⟩:=r.pure (o:=nK e c) hn;refine uN (X:=Cx.suite X e) (v:=.ref e) (Z J6) hN hi (.inl hlo) rfl (fun s7 I7=>?_) (.inr hlo);have re7:qV X.K (upd P e (nK e c)) α (σ.set i (Ab (.ref e))) ((Bg X.N.length none).set i (Ab (.exn c))):=(iU I.len).set i (by simp only[Rep];exact⟨e,rfl,qZ⟩)
 refine CU (hs e pins s7 _ _ { nx:=fun σ' H'=>D.nx (σ'.set i none) H',rt:=D.rt } I7 ⟨_,α,_,S1,r1,re7,?_⟩) (fun fl s8 q=>?_) fun _ _ z=>Am z
 ·cases q:g ((Bg X.N.length none).set i (Ab (.exn c))) S1 with
  |rt d S2=>rw[q] at af;exact fun v H' P' α' r' e1 e2 rp=>af v H' P' α' r' (sP.trans e1) e2 rp
  |nx env2 S2=>rw[q] at af;exact fun σ' H' P' α' r' re' e1 e2=>af _ H' P' α' r' (qV.unset re' i) (sP.trans e1) e2
  |bk env2 S2=>rw[q] at af;exact Am af
  |ct env2 S2=>rw[q] at af;exact Am af
  |ex c' x' env2 S2=>rw[q] at af;exact Am af
  |bad=>rw[q] at af;exact Am af
 ·cases fl with
  |next =>
   obtain⟨σ',H',I8,q⟩:=q;exact dZ (Inv.unre I8 I.ok.frames I.ok.hd) hN hi hlo fun s9 I9=>⟨_,H',I9,q⟩
  |brk =>
   obtain⟨_,_,_,q⟩:=q;exact Am q
  |cont =>
   obtain⟨_,_,_,q⟩:=q;exact Am q
  |ret u =>
   obtain⟨v,σ',H',I8,rv,q⟩:=q;exact dZ (Inv.unre I8 I.ok.frames I.ok.hd) hN hi hlo fun s9 I9=>⟨v,_,H',I9,rv,q⟩
set_option tactic.hygienic true in
theorem KC {x n:As}{C0:Ad}{i:Ah}{body:Aa Cy}{b₀:Cy}{suite:Aa Cy}{np hpos:Cz}{cs:Aa Ac}(F:Fn1 X)(hb:∀ E pn,IT (Ar X.prog X.w) X.A X.env E→PSs (Cx.tryIn X E pn) body (tDS (Cx.tryIn X E pn) f))
  (hs:∀ e,PSs (Cx.suite X e) (b₀::suite) (tDS (Cx.suite X e) g)) (hg:Gl X x) (hm:X.mg x=Ab (.ref C0)) (hcs:∀ c∈cs,Ek X.K c (.ref C0)=Ab true) (hN:X.N.Nodup) (hi:X.N[i]? = Ab n:=by rfl) (hlo:X.env.scope.names.lookup n=Ab .local:=by rfl)
  (hdb:(x == ("__debug__" : As))=false:=by decide):PS X (.Try body [.ExceptHandler (Ab (.Name x np)) (Ab n) (b₀::suite) hpos] [] [] pos) (tDS X (pT X.N.length i cs f g)):=by
 intro pins s σ H D I h;obtain⟨P,α,env,S,r,re,af⟩:=h;refine wpAny_Try_except ?_;refine CU (hb _ (X.pn++pins) (PassesOwn.looking (K:=fun e s₂=>An (Ar X.prog X.w) X.A (Mi e none) (fun _ s₃=>An (Ar X.prog X.w) X.A (handleBy e X.env [.ExceptHandler (Ab (.Name x np)) (Ab n) (b₀::suite) hpos]) (SP X pins D) X.xe s₃) X.xe s₂) (E₁:=X.xe))
  [] s σ H D (Inv.inTry I _) ⟨P,α,env,S,r,re,?_⟩) (fun fl s1 q=>?_) fun _ _ z=>z
 ·unfold pT at af
  cases q:f env S with
  |rt d S2=>rw[q] at af;exact af
  |nx env2 S2=>rw[q] at af;exact af
  |bk env2 S2=>rw[q] at af;exact af
  |ct env2 S2=>rw[q] at af;exact af
  |bad=>rw[q] at af;exact af
  |ex c x' env2 S2 =>
   rw[q] at af;dsimp only at af;intro u s' k;obtain⟨e,pins',σ',H',P',α',rfl,I',r',e1,e2,F',fl⟩:=k
   split at af
   ·rename_i hc
    exact KY F hg hm hcs hN hi hlo hs hc (Inv.outTry I') r' (FlyX.outTry fl) (qX.base e1 e2 af) hdb
   ·exact Am af
 ·have q':=SP.outTry q
  cases fl with
  |next=>exact Gv q'
  |brk=>exact q'
  |cont=>exact q'
  |ret u=>exact q'
end
end _D
namespace _D
open PySem PySem.Spec PyProof.Rows _L PySem.W
structure ExnK (K:Ai)(C:Ad):Prop where
 ga:findIn K (.ref C) "__getattribute__" = Ab (Ab (.builtin "BaseException.__getattribute__"))
 hk:findIn K (.ref C) "__getattr__" = Ab none
 cl:findIn K (.ref C) "__class__" = Ab (Ab (.builtin "object.__class__"))
 sp:specialIn K (.builtin "object.__class__") "__get__" = Ab (Ab (.builtin "getset_descriptor.__get__"))
 tk:takesIn K (.builtin "object.__class__")=Ab true
 mo:mroIn K C (.type "object")=Ab true
 mb:mroIn K C (.type "BaseException")=Ab true
 isC:(clsIn K C).isSome=true
section
variable {prog:A5}{w:AO}{A:A8}{E:Ac→Ag→Prop}{s:Ag}{K:Ai}{x C:Ad}
abbrev vI (x C:Ad)(h:AF):Prop:=∃ ob,h.get? x=Ab ob∧ob.cls=.ref C
theorem vI.type {M:Fl}{h:AF}(I:vI x C h):Looks M h (typeOf (.ref x)) (.ref C):=by
 obtain⟨ob,e,c⟩:=I;rw[← c];exact(Looks.ld e).andThen .now
theorem QL {M:Fl}{h:AF}(X:K.In h)(Z:ExnK K C):Looks M h (OM (.ref x) (.ref C) "__class__") (.bind (.builtin "getset_descriptor.__get__") (.builtin "object.__class__")):=by
 have l1:=Lg (M:=M) X Z.cl;have l2:Looks M h (OI (Ab (.builtin "object.__class__"))) (Ab (.builtin "getset_descriptor.__get__")):=looks_specialIn X Z.sp;have l3:=looks_takesIn (M:=M) X Z.tk;have l4:Looks M h (Lh (Ab (.builtin "object.__class__")) (Ab (.builtin "getset_descriptor.__get__"))) (Ab (.builtin "getset_descriptor.__get__",.builtin "object.__class__")):=l3.andThen .now;exact l1.andThen (l2.andThen (l4.andThen (Looks.tag .now)))
theorem YA {R:IU→Ag→Prop}{tp:Ac}(X:K.In s.heap)(Z:ExnK K C)(I:vI x C s.heap)(h:R (.ok (.ret (.ref C))) s) :
  Ec (Ar prog w) A (.call (.builtin "getset_descriptor.__get__") ⟨[.builtin "object.__class__",.ref x,tp],[]⟩) R s:=by
 have LT:=vI.type (M:=Ar prog w) I;have LM:=looks_mroIn (M:=Ar prog w) X Z.mo;cases s;refine Jn KF.slot_gs.plain KF.entry_gs (KF.slot_gs.check _ _ _ _ _ _ _ _ KF.type_class (KF.args_gs _ _ _) ?_);unfold EK.«getset_descriptor.__get__» Li;rw[dga_obj];refine Af (Aq ?_);unfold Kg IA IG isInstance;simp only[KF.owner_class]
 repeat lk
 refine⟨Code.quiet_builtin _ (by decide +kernel),Gz KF.entry_class ?_⟩
 unfold EK.«object.__class__» shownTypeOf
 repeat lk
 exact h
theorem KN {tk:Js}{R:IU→Ag→Prop}(X:K.In s.heap)(Z:ExnK K C)(I:vI x C s.heap)(h:R (.ok (.ret (.ref C))) s) :
  Ec (Ar prog w) A (.call (.builtin "BaseException.__getattribute__") ⟨[.ref x,.str "__class__" tk],[]⟩) R s:=by
 have LT:=vI.type (M:=Ar prog w) I;have LM:=looks_mroIn (M:=Ar prog w) X Z.mb;have LF:=QL (M:=Ar prog w) (x:=x) X Z;have hk:builtinKind "BaseException.__getattribute__" = Ab .slot:=by decide +kernel
 have hsp:splitId "BaseException.__getattribute__" = Ab ("BaseException","__getattribute__"):=by decide +kernel
 have chk:∀ (A:A8) (Q:HS→Ag→Prop) (E:Ac→Ag→Prop),Q () s→An (Ar prog w) A (My "BaseException.__getattribute__" ⟨[.ref x,.str "__class__" tk],[]⟩) Q E s:=by
  intro A Q E hq;have ha:=PySem.F.args_bexc_ga (.ref x) (.str "__class__" tk);simp only[My,hk,hsp];unfold isInstance;refine Af (Af (LT.here (LM.here ?_)))
  repeat (any_goals (first|assumption|wp_step))
 refine Jn Ih.ga.plain PySem.F.entry_bexc_ga (chk _ _ _ ?_);cases s;unfold EK.«object.__getattribute__»;refine Af (IY (show slotArgs "__getattribute__" 1 ⟨[.ref x,.str "__class__" tk],[]⟩=pure (.ref x,[.str "__class__" tk]) from by kernel_rfl) ?_)
 refine Af (Aq (Af (LT.at (Af (LF.at ?_)))));show An _ _ (HI _ _ _ _) _ _ _;unfold HI;dsimp only;exact Af (CJ (Kf (YA X Z I (Aq h))))
theorem cT {Q:Ak Ac→Ag→Prop}(X:K.In s.heap)(Z:ExnK K C)(I:vI x C s.heap)(h:Q (Ab (.ref C)) { s with toks:=s.toks+1 }) : An (Ar prog w) A (getAttr? (.ref x) "__class__") Q E s:=by
 have LT:=vI.type (M:=Ar prog w) I;have L1:=Lg (M:=Ar prog w) X Z.ga;have lk2:=Lg (M:=Ar prog w) X Z.hk;unfold getAttr? getAttrBy? getAttrBy;cases s;refine Af (wpAny_mkText (Af (E6 (CJ (Af (LT.at (Af (L1.at ?_))))))));dsimp only;have hx2:(OA "BaseException.__getattribute__" == OA "object.__getattribute__")=false:=by decide +kernel
 rw[hx2,Bool.and_false,A0 Dh];unfold getAttrByItsOwn hookBefore;rw[AA (show onTheHeap (.ref C)=true from rfl)]
 refine Af (lk2.at (Af (E6 (CJ ?_))));unfold callGetattribute;rw[Os,A0 Dh];unfold boundAndCalled;refine Af (IY (Ih.ga.bind (.ref x)) ?_);refine Kf (KN X Z I ?_);show An _ _ (handedOut (.ref C)) _ _ _;exact Aq (Aq h)
set_option tactic.hygienic true in
theorem nY (Z:ExnK K C):KitX K (.ref x) (.ref C) (vI x C) where
 ty:=fun _ _ _ I=>I.type
 it:=fun M h X _=>by
  have z:=Z.isC;unfold clsIn at z
  split at z
  ·rename_i ho
   intro A' Q' E' s' k q;unfold isType loadHead;exact Af (wpAny_loadPart (k _ _ (X _ _ ho)) (Aq q))
  ·cases z
 ne:=fun h tp dd its n sl X htp=>by
  have z:=Z.isC;unfold clsIn at z
  split at z
  ·rename_i ho
   cases hq:(AY C == AY tp) with
   |false=>rfl
   |true =>
    obtain rfl:C=tp:=Value.ref.inj (EW.mp hq);have y:=(X _ _ ho).symm.trans htp;cases y
  ·cases z
 ca:=fun X I k=>cT X Z I k
end
end _D
namespace _D
open PySem PySem.Spec PyProof.Rows _L
theorem kH {α : Type}{t:Fb α}{Q Q':α→Ag→Prop}{M:Fl}{A:A8}{E:Ac→Ag→Prop}{s:Ag}(h:An M A t Q (fun _ _=>Cq) s)(hQ:∀ a s,Q a s→Q' a s):An M A t Q' E s:=CU h hQ fun _ _ x=>x.elim
def uO (ifs:Aa AC)(env:EA):Fb Ao:=forIn ifs true fun c r=>if r=true then do let ok ← ON c env (eval c env);pure (E7 ok) else pure (E7 r)
def PTs (X:Cx)(ifs:Aa AC)(t:DT):Prop:=
 ∀ (pins:Aa (Ad × AV)) (s:Ag) (σ : _L.St) (H:Hp) (Q:Ao→Hp→Prop),Inv X pins σ H s→tDT X t σ H Q→An (Ar X.prog X.w) X.A (uO ifs X.env) (TP X pins σ Q) X.xe s
def zL:DT:=fun _ S=>.ok true S
section
variable {X:Cx}
theorem pE {prog:A5}{w:AO}{A:A8}{E:Ac→Ag→Prop}{env:EA}{Q:Ao→Ag→Prop}:∀ (ifs:Aa AC) {s:Ag},Q false s →
  An (Ar prog w) A (forIn ifs false fun c r=>if r=true then do let ok ← ON c env (eval c env);pure (E7 ok) else pure (E7 r)) Q E s
 |[],s,h=>by rw[Hn];exact Aq h
 |c::cs,s,h=>by
  rw[Ff];rw[A0 (by simp)]
  refine Af (Aq ?_);exact pE cs h
theorem Y6:PTs X [] zL:=fun pins s σ H Q I ⟨P,α,env,S,r,re,af⟩=>by
 unfold uO;rw[Hn];exact Aq ⟨H,I,af H P α r (qH.refl _) (AD _)⟩
theorem Q7 {c:AC}{cs:Aa AC}{t u:DT}(h1:PT X c (tDT X t))(h2:PTs X cs u):PTs X (c::cs) (w8 t u):=fun pins s σ H Q I ⟨P,α,env,S,r,re,af⟩=>by
 unfold uO;rw[Ff,AA rfl];refine Af (Af (thn (b7 (fun Q' q=>h1 pins s σ H Q' I q) r re af) fun b s1 ⟨H1,P1,α1,S1,I1,r1,re1,e1,e2,af1⟩=>Aq ?_));cases b with
 |true=>exact h2 pins s1 σ H1 Q I1 ⟨P1,α1,env,S1,r1,re1,j7.base e1 e2 af1⟩
 |false=>exact pE cs ⟨H1,I1,af1 H1 P1 α1 r1 e1 e2⟩
theorem L6 {e:AC}{f:DE}{pins:Aa (Ad × AV)}{s:Ag}{σ : _L.St}{H P:Hp}{α : Aa Ad}{env:qD}{S:Sto}{d:D}{S1:Sto}(he:PE X e (tD X f))(I:Inv X pins σ H s)(r:Rel X.K H P α S)(re:qV X.K P α σ env)(q:f env S=.ok d S1) :
  An (Ar X.prog X.w) X.A (eval e X.env) (fun u s1=>∃ v H1 P1 α1,Got X pins σ env P α u s1 v H1 P1 α1 d S1) X.xe s:=by
 refine thn (x0 (g:=fun d S=>Res.ok d S) (Ok:=fun d' S'=>d'=d∧S'=S1) he I r re (by rw[q];exact⟨rfl,rfl⟩)) fun u s1 ⟨v,H1,P1,α1,d',S',G,h1,h2⟩=>?_
 have e1:d'=d:=h1;have e2:S'=S1:=h2;subst e1;subst e2;exact⟨v,H1,P1,α1,G⟩
theorem TF {ifs:Aa AC}{t:DT}{pins:Aa (Ad × AV)}{s:Ag}{σ : _L.St}{H P:Hp}{α : Aa Ad}{env:qD}{S:Sto}{b:Ao}{S1:Sto}(he:PTs X ifs t)(I:Inv X pins σ H s)(r:Rel X.K H P α S)(re:qV X.K P α σ env)(q:t env S=.ok b S1) :
  An (Ar X.prog X.w) X.A (uO ifs X.env) (fun b' s1=>b'=b∧∃ H1 P1 α1,Inv X pins σ H1 s1∧Rel X.K H1 P1 α1 S1∧qV X.K P1 α1 σ env∧qH P P1∧α<+:α1) X.xe s:=by
 refine thn (he pins s σ H (fun b' H1=>b'=b∧∃ P1 α1,Rel X.K H1 P1 α1 S1∧qV X.K P1 α1 σ env∧qH P P1∧α<+:α1) I ⟨P,α,env,S,r,re,?_⟩) fun b' s1 ⟨H1,I1,e,P1,α1,q1,q2,q3,q4⟩=>⟨e,H1,P1,α1,I1,q1,q2,q3,q4⟩;rw[q];exact fun H' P' α' r' e1 e2=>⟨rfl,P',α',r',re.mono e1 e2,e1,e2⟩
theorem L7 {tg:AC}{g:DG}{pins:Aa (Ad × AV)}{s:Ag}{σ : _L.St}{H P:Hp}{α : Aa Ad}{env env1:qD}{S:Sto}{d:D}{v:V}{u:Ac}{S1:Sto}(hg:PG X tg (tDG X g))(I:Inv X pins σ H s)(r:Rel X.K H P α S)(re:qV X.K P α σ env)(rv:qK v u)
  (rp:Rep X.K P α d v) (q:g d env S=.ok env1 S1) :
  An (Ar X.prog X.w) X.A (assign tg X.env u) (fun _ s1=>∃ σ1 H1 P1 α1,Inv X pins σ1 H1 s1∧Rel X.K H1 P1 α1 S1∧qV X.K P1 α1 σ1 env1∧qH P P1∧α<+:α1) X.xe s:=by
 refine thn (hg pins s σ H v u (fun σ1 H1=>∃ P1 α1,Rel X.K H1 P1 α1 S1∧qV X.K P1 α1 σ1 env1∧qH P P1∧α<+:α1) I rv ⟨P,α,env,S,d,r,re,rp,?_⟩) fun _ s1 ⟨σ1,H1,I1,P1,α1,q1,q2,q3,q4⟩=>⟨σ1,H1,P1,α1,I1,q1,q2,q3,q4⟩;rw[q];exact fun σ' H' P' α' r' re' e1 e2=>⟨P',α',r',re',e1,e2⟩
def bT (K:Ai)(P:Hp)(α : Aa Ad)(ds:Aa D)(o:AV):Prop:=∃ (its:Aa Ac) (n:Ah) (vs:Aa V),o={ cls:=.type "list",data:=.seq its.toArray n } ∧ qM vs its∧qG K P α ds vs∧ds.length≤lim
theorem bT.mono {K:Ai}{P P1:Hp}{α α1:Aa Ad}{ds:Aa D}{o:AV}(e:qH P P1)(h:α<+:α1)(a:bT K P α ds o):bT K P1 α1 ds o:=by
 obtain⟨its,n,vs,q1,q2,q3,q4⟩:=a;exact⟨its,n,vs,q1,q2,qG.mono e h _ _ q3,q4⟩
theorem bT.cell {K:Ai}{P:Hp}{α : Aa Ad}{ds:Aa D}{o:AV}(a:bT K P α ds o):∀ v,o.data≠.cell v:=by
 obtain⟨its,n,vs,rfl,_⟩:=a;intro v z;cases z
theorem Inv.pin1 {pins:Aa (Ad × AV)}{σ : _L.St}{H:Hp}{s:Ag}{a:Ad}{o:AV}(I:Inv X pins σ H s)(f:xD X pins H a)(e:s.heap.get? a=Ab o)(d:∀ v,o.data≠.cell v):Inv X (pins++[(a,o)]) σ H s:=
 I.pins_of fun p hp=>(AS.mp hp).elim (fun z=>I.pin p (AJ _ z)) fun z=>by
  have e':p=(a,o):=by simpa using z
  subst e';exact⟨e,f.1,f.2.1,f.2.2.1,d⟩
theorem Inv.pinned1 {pins:Aa (Ad × AV)}{σ : _L.St}{H:Hp}{s:Ag}{a:Ad}{o:AV}(I:Inv X (pins++[(a,o)]) σ H s):s.heap.get? a=Ab o∧H a=none:=by
 have:=I.pin (a,o) (AJ _ (AJ _ (by simp)))
 exact⟨this.1,this.2.1⟩
end
structure TurnSt (Y:Cx)(pins:Aa (Ad × AV))(P1:Hp)(α1:Aa Ad)(fp:Aa Ad)(acc:Ad)(env:qD)(S:Sto)(ds:Aa D)(s:Ag)(σ : _L.St)(H P:Hp)(α : Aa Ad)(o:AV):Prop where
 inv:Inv Y pins σ H s
 rel:Rel Y.K H P α S
 env:qV Y.K P α σ env
 same:qH P1 P
 pre:α1<+:α
 fpn:∀ b∈fp,H b=none
 acn:H acc=none
 at':s.heap.get? acc=Ab o
 acc:bT Y.K P α ds o
def xS (cells:Aa (As × Ad)):Aa (As × Ea)→Aa (As × Ad)→Aa (As × Ad)
 |[],cs=>cs
 |(n,k)::r,cs=>xS cells r (if k == .free then (n,(cells.lookup n).getD 0)::cs else cs)
theorem mX {env:EA}{scope:CS}(h:∀ y∈scope.names,y.2=.free→∃ c,env.cells.lookup y.1=Ab c):On scope env=pure (xS env.cells scope.names []):=by
 have go:∀ (l:Aa (As × Ea)) (cs:Aa (As × Ad)),(∀ y∈l,y.2=.free→∃ c,env.cells.lookup y.1=Ab c) →
   (forIn l cs fun x cs=>match x with|(name,kind)=>if (kind == Ef)=true then do let a ← cellOf env name;pure (E7 ((name,a)::cs)) else pure (E7 cs):Fb (Aa (As × Ad)))=pure (xS env.cells l cs):=by
  intro l
  induction l with
  |nil=>intro cs _;rfl
  |cons y r ih =>
   intro cs hl;obtain⟨n,k⟩:=y;rw[Ff];by_cases hk:k=.free
   ·subst hk
    obtain⟨c,hc⟩:=hl (n,.free) Bu rfl;have hc':env.cells.lookup n=Ab c:=hc;have e:cellOf env n=pure c:=by unfold cellOf;rw[hc']
    simp only[CQ,AZ,e,pure_bind];rw[ih _ fun z hz=>hl z (AK _ hz)];simp only[xS,CQ,AZ,hc',Mz]
   ·have hb:(k == Ef)=false:=by simpa using hk
    simp only[hb,Bl,Ds,pure_bind];rw[ih _ fun z hz=>hl z (AK _ hz)];simp only[xS,hb,Bl,Ds]
 unfold On;have:=go scope.names [] h;simp only[bind_pure];exact this
theorem pA {cells:Aa (As × Ad)}{x:As}{c:Ad}:∀ (l:Aa (As × Ea)) (cs:Aa (As × Ad)),(xS cells l cs).lookup x=Ab c→cs.lookup x=Ab c∨((x,Ef)∈l∧c=(cells.lookup x).getD 0)
 |[],cs,h=>.inl h
 |(n,k)::r,cs,h=>by
  rcases pA r _ h with h|⟨h1,h2⟩
  ·by_cases hk:k=.free
   ·subst hk
    simp only[CQ,AZ,Er] at h;cases hb:x == n with
    |true =>
     rw[hb] at h;have e:x=n:=by simpa using hb
     subst e;exact .inr ⟨Bu,(Be h).symm⟩
    |false=>rw[hb] at h;exact .inl h
   ·have hb:(k == Ef)=false:=by simpa using hk
    simp only[hb,Bl,Ds] at h;exact .inl h
  ·exact .inr ⟨AK _ h1,h2⟩
theorem kP {cells:Aa (As × Ad)}{x:As}:∀ (l:Aa (As × Ea)) (cs:Aa (As × Ad)),((x,Ef)∈l∨∃ c,cs.lookup x=Ab c)→∃ c,(xS cells l cs).lookup x=Ab c
 |[],cs,h=>by
  rcases h with h|h
  ·cases h
  ·exact h
 |(n,k)::r,cs,h=>by
  refine kP r _ ?_;rcases h with h|⟨c,h⟩
  ·rcases AL.mp h with e|h
   ·cases e
    exact .inr ⟨(cells.lookup x).getD 0,by simp only[CQ,AZ,Er]⟩
   ·exact .inl h
  ·by_cases hk:k=.free
   ·subst hk
    simp only[CQ,AZ,Er];cases hb:x == n with
    |true=>exact .inr ⟨_,rfl⟩
    |false=>exact .inr ⟨c,h⟩
   ·have hb:(k == Ef)=false:=by simpa using hk
    simp only[hb,Bl,Ds];exact .inr ⟨c,h⟩
structure CompSc (scX:CS)(NX:Aa As)(scope:CS)(N':Aa As)(cap:Aa (Ak Ah)):Prop where
 kind:scope.kind=.function
 names:∀ y∈scope.names,y.2=.local → scope.names.lookup y.1=Ab .local
 nocell:∀ y∈scope.names,y.2≠.cell
 free:∀ y∈scope.names,y.2=.free→scX.names.lookup y.1=Ab .cell∨scX.names.lookup y.1=Ab .free
 fr2:∀ y∈scope.names,y.2=.free→scope.names.lookup y.1=Ab .free
 len:cap.length=N'.length
 caps:((cap.zip N').all fun p=>match p.1 with|none=>true|some i=>NX[i]? == Ab p.2&&scope.names.lookup p.2 == Ab .free)=true
 nd:N'.Nodup
def yT (cap:Aa (Ak Ah))(σ : _L.St):_L.St:=cap.map fun o=>match o with
 |none=>none
 |some i=>(σ[i]?).join
def zP (cap:Aa (Ak Ah))(env:qD):qD:=cap.map fun o=>match o with
 |none=>none
 |some i=>(env[i]?).join
theorem iT {K:Ai}{P:Hp}{α : Aa Ad}{σ : _L.St}{env:qD}(re:qV K P α σ env)(cap:Aa (Ak Ah)):qV K P α (yT cap σ) (zP cap env):=by
 refine⟨by simp[yT,zP],fun j d e=>?_⟩
 unfold zP at e;unfold yT;rw[CD] at e ⊢;cases q:cap[j]? with
 |none=>rw[q] at e;cases e
 |some o =>
  rw[q] at e;cases o with
  |none=>cases e
  |some i =>
   have e':(env[i]?).join=Ab d:=by simpa using e
   cases z:env[i]? with
   |none=>rw[z] at e';cases e'
   |some w =>
    rw[z] at e';have e'':w=Ab d:=e';subst e'';obtain⟨v,h1,h2⟩:=re.2 i d z;exact⟨v,by simp[h1],h2⟩
def qT (X:Cx)(N':Aa As)(scope:CS)(cl:Aa (As × Ad))(C:Ad)(ex:Aa Ad)(s₀:Ag)(H₀:Hp):Cx:=
 { X with N:=N',s₀:=s₀,H₀:=H₀,env:=compEnvC scope cl C X.env,outer:=X.stack,stack:=X.stack,ex:=ex,fn:=fun _=>false,pn:=[],xe:=fun _ _=>Cq }
theorem uL {scope:CS}{env:EA}:∀ {names:Aa (As × Ea)} {x:As} {k:Ea},
  (names.map fun (n,k)=>if (k == Ef&&env.scope.kind == .function&&env.kindOf n == Ab .cell) then (n,OB) else (n,k)).lookup x=Ab k →
  names.lookup x=Ab k∨(k=.cell∧names.lookup x=Ab .free)
 |[],_,_,h=>by simp at h
 |(n,k0)::r,x,k,h=>by
  rw[Bk,Er] at h;rw[Er];dsimp only at h;cases hb:(k0 == Ef&&env.scope.kind == .function&&env.kindOf n == Ab .cell) with
  |true =>
   rw[hb] at h;simp only[AZ] at h;cases hx:x == n with
   |true =>
    rw[hx] at h;have e:OB=k:=Be h;have hk:k0=.free:=by
     have:=(Ax _ _).mp hb;have:=(Ax _ _).mp this.1;simpa using this.1
    subst hk;exact .inr ⟨e.symm,rfl⟩
   |false=>rw[hx] at h;exact uL (scope:=scope) h
  |false =>
   rw[hb] at h;simp only[Bl,Ds] at h;cases hx:x == n with
   |true=>rw[hx] at h;exact .inl h
   |false=>rw[hx] at h;exact uL (scope:=scope) h
section
variable {X:Cx}{scope:CS}{N':Aa As}{cap:Aa (Ak Ah)}{pins:Aa (Ad × AV)}{σ : _L.St}{H2:Hp}{s2:Ag}{fp:Aa Ad}
theorem jQ (S:CompSc X.env.scope X.N scope N' cap){x:As}{k:Ea}(h:(relabel scope X.env).names.lookup x=Ab k):scope.names.lookup x=Ab k∨(k=.cell∧scope.names.lookup x=Ab .free):=uL (scope:=scope) h
theorem xM (S:CompSc X.env.scope X.N scope N' cap)(ok:X.Ok){x:As}{c:Ad}(h:(xS X.env.cells scope.names []).lookup x=Ab c):X.env.cells.lookup x=Ab c:=by
 rcases pA _ _ h with h|⟨hm,hc⟩
 ·cases h
 ·have:=S.free _ hm rfl
  obtain⟨c',hc'⟩:=ok.has x this;rw[hc',Mz] at hc;rw[hc',hc]
theorem WN {C:Ad}(S:CompSc X.env.scope X.N scope N' cap)(I2:Inv X pins σ H2 s2)(hf:∀ b∈fp,xD X pins H2 b)(hlt:∀ b∈fp,b<s2.heap.objs.size)(hC:s2.heap.objs.size≤C) :
  (qT X N' scope (xS X.env.cells scope.names []) C fp s2 H2).Ok where
 mod:=I2.ok.mod
 kind:=S.kind
 glob:=I2.ok.glob
 blt:=I2.ok.blt
 above:=hC
 inj:=fun x y c h1 h2=>I2.ok.inj x y c (xM S I2.ok h1) (xM S I2.ok h2)
 has:=fun x hx=>by
  have hx':(relabel scope X.env).names.lookup x=Ab .cell∨(relabel scope X.env).names.lookup x=Ab .free:=hx;have hf:scope.names.lookup x=Ab .free:=by
   rcases hx' with h|h
   ·rcases jQ S h with h|⟨_,h⟩
    ·exact absurd rfl (S.nocell _ (CC h))
    ·exact h
   ·rcases jQ S h with h|⟨z,_⟩
    ·exact h
    ·cases z
  exact kP _ _ (.inl (CC hf))
 cab:=fun x c h _=>by cases h
 hd:=I2.ok.hd
 frames:=I2.ok.frames
 stk:=.inl rfl
 exf:=fun b hb=>⟨Bm (AI (hlt b hb) hC),fun x c h=>(hf b hb).2.2.2.2.1 x c (xM S I2.ok h)⟩
 bs:=I2.bs
 bsz:=Ce I2.ok.bsz I2.sz
 noex:=fun b o e hb=>by
  obtain⟨_,_,_,h,_⟩:=hf b hb;rcases h with h|h
  ·exact I2.ok.noex b o e h
  ·exact absurd (AI (Av e) (Ce I2.ok.bsz h)) (Cg _)
 exfs:=fun b hb hb2=>by
  obtain⟨_,h1,h2,_⟩:=hf b hb;rcases AL.mp (I2.stkSub b hb2) with z|z
  ·exact h1 z
  ·exact h2 z
 funs:=I2.stack
 frf:=I2.stkFree
theorem oU {s4:Ag}{C:Ad}{m:As→Ak Ac}(S:CompSc X.env.scope X.N scope N' cap)(I2:Inv X pins σ H2 s2)(hf:∀ b∈fp,xD X pins H2 b)(hlt:∀ b∈fp,b<s2.heap.objs.size)(hC:s2.heap.objs.size≤C)
  (hn:s4.heap.Ns C m) (os:s4.os=s2.os) (gens:s4.gens=s2.gens) (keep:∀ b o,s2.heap.get? b=Ab o→s4.heap.get? b=Ab o) :
  Inv (qT X N' scope (xS X.env.cells scope.names []) C fp s2 H2) [] (yT cap σ) H2 s4 where
 ok:=WN S I2 hf hlt hC
 os:=os
 bare:=gens▸I2.bare
 base:=Un.kept keep
 loc:=by
  refine⟨m,hn,fun j x v h1 h2 h3=>?_⟩;have h1':N'[j]? = Ab x:=h1;unfold yT at h2;rw[CD] at h2;cases q:cap[j]? with
  |none=>rw[q] at h2;cases h2
  |some o =>
   rw[q] at h2;cases o with
   |none=>cases h2
   |some i =>
    have e':(σ[i]?).join=Ab v:=by simpa using h2
    have hσ:σ[i]? = Ab (Ab v):=by
     cases z:σ[i]? with
     |none=>rw[z] at e';cases e'
     |some w=>rw[z] at e';have:w=Ab v:=e';rw[this]
    have hz:(Ab i,x)∈cap.zip N':=by
     refine List.mem_iff_getElem?.mpr ⟨j,?_⟩;rw[List.getElem?_zip_eq_some];exact⟨q,h1'⟩
    have hc:=AR.mp S.caps _ hz;simp only[Ax,EW] at hc;obtain⟨hN,hfr⟩:=hc;have hk:=S.free _ (CC hfr) rfl;obtain⟨mo,hmo,hl⟩:=I2.loc;have vis:Vis X.env.scope x:=by
     rcases hk with k|k
     ·exact .inr (.inl k)
     ·exact .inr (.inr k)
    obtain⟨u,ru,lk⟩:=hl i x v hN hσ vis;refine⟨u,ru,?_⟩;rcases lk with⟨kl,_⟩|⟨_,c,hcl,hcell⟩
    ·have kl':X.env.scope.names.lookup x=Ab .local:=kl
     rcases hk with k|k
     ·have k':X.env.scope.names.lookup x=Ab .cell:=k
      rw[kl'] at k';cases k'
     ·have k':X.env.scope.names.lookup x=Ab .free:=k
      rw[kl'] at k';cases k'
    ·obtain⟨c',hc'⟩:=kP (cells:=X.env.cells) scope.names [] (.inl (CC hfr))
     have e2:=xM S I2.ok hc';rw[hcl] at e2;cases e2;refine .inr ⟨?_,c,hc',?_⟩
     ·have h3':Vis (relabel scope X.env) x:=h3
      rcases h3' with h|h|h
      ·rcases jQ S h with h|⟨z,_⟩
       ·rw[hfr] at h;cases h
       ·cases z
      ·exact .inl h
      ·exact .inr h
     ·obtain⟨ob,hob,hd⟩:=hcell
      exact⟨ob,keep c ob hob,hd⟩
 cell:=fun x c h=>by
  obtain⟨v,ob,hob,hd⟩:=I2.cell x c (xM S I2.ok h);exact⟨v,ob,keep c ob hob,hd⟩
 free:=I2.hok.fresh hC
 freeC:=fun x c h=>I2.freeC x c (xM S I2.ok h)
 pin:=fun p hp=>absurd (show p∈([]:Aa (Ad × AV)) from hp) (by simp)
 hok:=I2.hok.kept keep
 len:=by
  show (yT cap σ).length=N'.length;simp[yT,S.len]
end
theorem a8 {P:A5}{w:AO}{H:Hp}{h:AF}{a:Ad}{o:HO}(x:HOk P w H h)(hn:H a=none)(new:zJ P w (upd H a o) h a o):HOk P w (upd H a o) h:=fun b u e=>by
 by_cases hb:b=a
 ·subst hb;rw[qZ] at e;cases e;exact new
 ·rw[qO hb] at e
  exact(x b u e).stay (fun c v _ q=>q) (fun c q=>by rw[qO (qW q hn)];exact q) fun c xs q=>by rw[qO (qW q hn)];exact q
theorem cZ {P:A5}{w:AO}{H:Hp}{h h':AF}{C:Ad}(x:HOk P w H h)(hn:H C=none)(k:∀ b o,b≠C→h.get? b=Ab o→h'.get? b=Ab o):HOk P w H h':=fun b u e =>
 (x b u e).stay (fun c v hc q=>k c v (by
  rintro rfl;rcases hc with z|z
  ·subst z;rw[hn] at e;cases e
  ·rw[hn] at z;cases z) q) (fun _ q=>q) fun _ _ q=>q
section
variable {X:Cx}{elt tg iter:AC}{ifs:Aa AC}{scope:CS}{pos:Cz}{N':Aa As}{cap:Aa (Ak Ah)}{fi:DI}{g:DG}{t:DT}{fe:DE}
def gP (X:Cx)(pins:Aa (Ad × AV))(σ : _L.St)(P1:Hp)(α1:Aa Ad)(ds:Aa D)(SF:Sto)(acc C:Ad)(s:Ag):Prop:=
 ∃ (H' P':Hp) (α' : Aa Ad) (vs:Aa V),Inv X pins σ (upd H' acc (.lst vs)) s∧Rel X.K H' P' α' SF∧H' acc=none∧qH P1 P'∧α1<+:α'∧qG X.K P' α' ds vs∧H' C=none
theorem oT {Y:Cx}{pins:Aa (Ad × AV)}{σ σ':_L.St}{H2:Hp}{s2 s':Ag}{fp:Aa Ad}{acc C:Ad}{P1:Hp}{α1:Aa Ad}{H' P':Hp}{α' : Aa Ad}{envF:qD}{SF:Sto}{ds:Aa D}{o:AV}{cl:Aa (As × Ad)}(I2:Inv X pins σ H2 s2)
  (hf:∀ b∈fp,xD X pins H2 b) (hY:Y=qT X N' scope cl C fp s2 H2) (hC:s2.heap.objs.size≤C) (hA:s2.heap.objs.size≤acc) (hne:acc≠C) (st:TurnSt Y [] P1 α1 fp acc envF SF ds s' σ' H' P' α' o)
  {h':AF} (sb:CL C s'.heap h'):gP X pins σ P1 α1 ds SF acc C { s' with heap:=h' }:=by
 subst hY;obtain⟨its,n,vs,rfl,rv,rp,hz⟩:=st.acc;have kC:∀ b o,b≠C→s'.heap.get? b=Ab o→h'.get? b=Ab o:=fun b o hb e=>(sb.2 b hb).trans e;have nC:∀ b o,s2.heap.get? b=Ab o→b≠C:=fun b o e=>Bm (AI (Av e) hC);have nA:∀ b o,s2.heap.get? b=Ab o→b≠acc:=fun b o e=>Bm (AI (Av e) hA);have base:Un (frs X.stack) fp H2 H' s2.heap s'.heap:=st.inv.base;have nt:∀ b u,H' b=Ab u→b≠acc:=fun b u e=>qW e st.acn;have un:Un (frs X.stack) fp H2 (upd H' acc (.lst vs)) s2.heap h':=by
  refine⟨fun b ob q hn hb hx=>kC b ob (nC b ob q) (base.keep b ob q hn hb hx),fun b ob q hn hb hx=>?_,fun b ob q hn hx=>?_,fun b ob q hx=>?_,fun b xs q=>?_,fun b ob u q=>?_,fun b ps q=>?_⟩
  ·obtain⟨sl,e⟩:=base.slot b ob q hn hb hx
   exact⟨sl,kC b _ (nC b ob q) e⟩
  ·rw[qO (nA b ob q)];exact base.free b ob q hn hx
  ·obtain⟨o',e⟩:=base.there b ob q hx
   exact⟨o',kC b o' (nC b ob q) e⟩
  ·have:=base.tups b xs q;rw[qO (nt _ _ this)];exact this
  ·have:=base.frzs b ob u q;rw[qO (nt _ _ this)];exact this
  ·obtain⟨more,e⟩:=base.tbls b ps q
   exact⟨more,by rw[qO (nt _ _ e)];exact e⟩
 have hok':HOk X.prog X.w H' h':=cZ st.inv.hok st.inv.free kC;have hat:h'.get? acc=Ab { cls:=.type "list",data:=.seq its.toArray n }:=kC acc _ hne st.at';have hok:HOk X.prog X.w (upd H' acc (.lst vs)) h':=a8 hok' st.acn ⟨by rw[← rp.length,← zS];exact hz,its,n,rv,hat⟩
 refine⟨H',P',α',vs,?_,st.rel,st.acn,st.same,st.pre,rp,st.inv.free⟩;exact I2.call' (s':={ s' with heap:=h' }) (ch:=fp) (st.inv.os) un hok st.inv.bare fun b hb=>by
  obtain⟨_,h1,h2,h3,h4,h5⟩:=hf b hb;exact⟨h3,h1,h4,h5⟩
theorem dJ (S:CompSc X.env.scope X.N scope N' cap)(ok:X.Ok):On scope X.env=pure (xS X.env.cells scope.names []):=mX fun y hy hk=>ok.has y.1 (S.free y hy hk)
theorem Y7 {pins:Aa (Ad × AV)}{σ : _L.St}{P1:Hp}{α1:Aa Ad}{ds:Aa D}{SF:Sto}{acc C:Ad}{s:Ag}{Q:VK}(c:gP X pins σ P1 α1 ds SF acc C s)(ok:OkV X P1 α1 Q (.lst ds) SF):EP X pins σ Q (.ref acc) s:=by
 obtain⟨H',P',α',vs,I,r,hn,e1,e2,rp,_⟩:=c;exact⟨.ref acc,_,I,rfl,vD r hn rp fun v H2 P2 α2 r2 q1 q2 q3=>ok v H2 P2 α2 r2 (e1.trans q1) (e2.trans q2) q3⟩
end
end _D
section
namespace _D
open PySem PySem.Spec PyProof.Rows _L PySem.SeqAt
def b01 (b:Ao):Aj:=if b then 1 else 0
mutual
def eqD:D→D→Ao
 |.non,.non=>true
 |.bl a,.bl b=>a == b
 |.bl a,.int b=>b01 a == b
 |.int a,.bl b=>a == b01 b
 |.int a,.int b=>a == b
 |.str a,.str b=>a == b
 |.tup xs,.tup ys=>xH xs ys
 |.lst xs,.lst ys=>xH xs ys
 |_,_=>false
def xH:Aa D→Aa D→Ao
 |[],[]=>true
 |x::xs,y::ys=>eqD x y&&xH xs ys
 |_,_=>false
end
def pl:Ah→D→Ao
 |_,.non=>true
 |_,.bl _=>true
 |_,.int _=>true
 |_,.str _=>true
 |n+1,.tup xs=>xs.all (pl n)
 |n+1,.lst xs=>xs.all (pl n)
 |_,_=>false
theorem kT (x y:D)(xs ys:Aa D):xH (x::xs) (y::ys)=(eqD x y&&xH xs ys):=rfl
theorem v8:∀ (xs ys:Aa D),xH xs ys=((By (min xs.length ys.length)).all (fun j=>eqD (xs.getD j .non) (ys.getD j .non))&&xs.length == ys.length)
 |[],[]=>rfl
 |[],y::ys=>rfl
 |x::xs,[]=>rfl
 |x::xs,y::ys=>by
  have ih:=v8 xs ys;rw[kT,ih,AH,AH,Nat.succ_min_succ,List.range_succ_eq_map,OC,List.all_map,Bool.and_assoc];have e:(xs.length+1 == ys.length+1)=(xs.length == ys.length):=by simp
  rw[e];rfl
theorem QH {xs ys:Aa D}(h:xs.length≠ys.length):xH xs ys=false:=by
 rw[v8];simp[h]
theorem fE (xs ys:Aa D):eqD (.tup xs) (.tup ys)=xH xs ys:=rfl
theorem fD (xs ys:Aa D):eqD (.lst xs) (.lst ys)=xH xs ys:=rfl
section
variable {X:Cx}{pins:Aa (Ad × AV)}{σ : _L.St}{H P:Hp}{α : Aa Ad}{S:Sto}{s:Ag}
inductive Kd (X:Cx)(P:Hp)(α : Aa Ad)(s:Ag):D→Ac→Prop where
 |non:Kd X P α s .non .none
 |bl (b:Ao):Kd X P α s (.bl b) (.bool b)
 |int (i:Aj) (t:Js):Kd X P α s (.int i) (.int i t)
 |str (x:As) (t:Js):Kd X P α s (.str x) (.str x t)
 |tup (a:Ad) (xs:Aa D) (its:Aa Ac) (vs:Aa V) (rp:qG X.K P α xs vs) (rv:qM vs its) (h:s.heap.IsTuple a its.toArray) (q:SqT X.K P a vs):Kd X P α s (.tup xs) (.ref a)
 |lst (a:Ad) (xs:Aa D) (its:Aa Ac) (vs:Aa V) (rp:qG X.K P α xs vs) (rv:qM vs its) (h:s.heap.IsList a its.toArray) (q:SqX X.K P a vs):Kd X P α s (.lst xs) (.ref a)
theorem uT (I:Inv X pins σ H s)(r:Rel X.K H P α S){n:Ah}{d:D}{v:V}{u:Ac}(h:pl n d=true)(p:Rep X.K P α d v)(rv:qK v u):Kd X P α s d u:=by
 cases d with
 |non=>simp only[Rep] at p;subst p;cases rv;exact .non
 |bl b=>simp only[Rep] at p;subst p;cases rv;exact .bl b
 |int i=>simp only[Rep] at p;subst p;obtain⟨t,rfl⟩:=rv;exact .int i t
 |str x=>simp only[Rep] at p;subst p;obtain⟨t,rfl⟩:=rv;exact .str x t
 |tup xs =>
  simp only[Rep] at p;obtain⟨a,vs,rfl,q,t⟩:=p;cases rv;obtain⟨its,r1,p1,_⟩:=I.tuple (w4 r.sub q);exact .tup a xs its vs t r1 p1 q
 |lst xs =>
  simp only[Rep] at p;obtain⟨a,vs,rfl,q,t⟩:=p;cases rv;obtain⟨its,r1,p1,_⟩:=I.list ((xU r.sub q).l);exact .lst a xs its vs t r1 p1.isList q
 |_=>cases n <;> exact AM h
theorem vA {ds:Aa D}{vs:Aa V}{its:Aa Ac}(rp:qG X.K P α ds vs)(rv:qM vs its){j:Ah}(h:j<its.toArray.size):∃ v,Rep X.K P α (ds.getD j .non) v∧qK v its.toArray[j]∧ds.getD j .non∈ds:=by
 have l1:=rp.length;have l2:=rv.length;have hj:j<its.length:=by simpa using h
 have hd:j<ds.length:=by omega
 obtain⟨v,e1,p⟩:=rp.get (Ap hd);obtain⟨u,e2,q⟩:=rv.get e1;have e3:its.toArray[j]=u:=by
  have:its[j]? = Ab its[j]:=Ap hj;rw[this] at e2;simpa using Be e2
 have e4:ds.getD j .non=ds[j]:=by simp[EX,hd]
 rw[e3,e4];exact⟨v,p,q,Es hd⟩
theorem uW {n:Ah}{ds:Aa D}(h:ds.all (pl n)=true){d:D}(hd:d∈ds):pl n d=true:=AR.mp h d hd
theorem sC {h:AF}{a:Ad}{xs ys:A4 Ac}(h1:h.IsTuple a xs)(h2:h.IsTuple a ys):xs=ys:=by
 obtain⟨o,e,_,n,d⟩:=h1;obtain⟨o',e',_,n',d'⟩:=h2;cases e.symm.trans e';cases d.symm.trans d';rfl
theorem YG {h:AF}{a:Ad}{xs ys:A4 Ac}(h1:h.IsList a xs)(h2:h.IsList a ys):xs=ys:=by
 obtain⟨o,e,_,n,d⟩:=h1;obtain⟨o',e',_,n',d'⟩:=h2;cases e.symm.trans e';cases d.symm.trans d';rfl
theorem KZ {h:AF}{a:Ad}{xs ys:A4 Ac}(h1:h.IsTuple a xs)(h2:h.IsList a ys):Cq:=by
 obtain⟨o,e,c,_⟩:=h1;obtain⟨o',e',c',_⟩:=h2;cases e.symm.trans e';exact absurd (c.symm.trans c') (by decide)
inductive Seqs (X:Cx)(P:Hp)(α : Aa Ad)(xs ys:Aa D)(its its2:Aa Ac):Prop
 |mk (vs ws:Aa V) (rp:qG X.K P α xs vs) (rv:qM vs its) (rp2:qG X.K P α ys ws) (rv2:qM ws its2):Seqs X P α xs ys its its2
theorem Seqs.len1 {xs ys:Aa D}{its its2:Aa Ac}(q:Seqs X P α xs ys its its2):xs.length=its.length:=by
 obtain⟨vs,ws,rp,rv,_,_⟩:=q;exact rp.length.trans rv.length
theorem Seqs.len2 {xs ys:Aa D}{its its2:Aa Ac}(q:Seqs X P α xs ys its its2):ys.length=its2.length:=by
 obtain⟨vs,ws,_,_,rp,rv⟩:=q;exact rp.length.trans rv.length
inductive SameR (X:Cx)(P:Hp)(α : Aa Ad):D→D→Prop
 |eq {d d':D} (h:eqD d d'=true):SameR X P α d d'
 |tt (xs ys:Aa D) (its:Aa Ac) (q:Seqs X P α xs ys its its):SameR X P α (.tup xs) (.tup ys)
 |ll (xs ys:Aa D) (its:Aa Ac) (q:Seqs X P α xs ys its its):SameR X P α (.lst xs) (.lst ys)
theorem r8 {d d':D}{u:Ac}(k1:Kd X P α s d u)(k2:Kd X P α s d' u):SameR X P α d d':=by
 cases k1 with
 |non=>cases k2;exact .eq rfl
 |bl b=>cases k2;exact .eq (CQ _)
 |int i t=>cases k2;exact .eq (CQ _)
 |str x t=>cases k2;exact .eq (CQ _)
 |tup a xs its vs rp rv h q =>
  cases k2 with
  |tup _ ys its2 ws rp2 rv2 h2 q2 =>
   cases sC h h2;exact .tt xs ys its ⟨vs,ws,rp,rv,rp2,rv2⟩
  |lst _ ys its2 ws rp2 rv2 h2 q2=>exact(KZ h h2).elim
 |lst a xs its vs rp rv h q =>
  cases k2 with
  |lst _ ys its2 ws rp2 rv2 h2 q2 =>
   cases YG h h2;exact .ll xs ys its ⟨vs,ws,rp,rv,rp2,rv2⟩
  |tup _ ys its2 ws rp2 rv2 h2 q2=>exact(KZ h2 h).elim
theorem mK (I:Inv X pins σ H s)(r:Rel X.K H P α S){m:Ah}(ih:∀ (d d':D) (u:Ac),pl m d=true→pl m d'=true→Kd X P α s d u→Kd X P α s d' u→eqD d d'=true){xs ys:Aa D}{its:Aa Ac}(h1:xs.all (pl m)=true)(h2:ys.all (pl m)=true)(q:Seqs X P α xs ys its its):xH xs ys=true:=by
 obtain⟨vs,ws,rp,rv,rp2,rv2⟩:=q;have l1:=rp.length.trans rv.length;have l2:=rp2.length.trans rv2.length;rw[v8,l1,l2,Ik,Ax];refine⟨AR.mpr fun j hj=>?_,Pa⟩;have hj:j<its.toArray.size:=DR.mp hj;obtain⟨w1,y1,z1,m1⟩:=vA rp rv hj;obtain⟨w2,y2,z2,m2⟩:=vA rp2 rv2 hj;exact ih _ _ _ (uW h1 m1) (uW h2 m2) (uT I r (uW h1 m1) y1 z1) (uT I r (uW h2 m2) y2 z2)
theorem dS (I:Inv X pins σ H s)(r:Rel X.K H P α S):∀ (n:Ah) (d d':D) (u:Ac),pl n d=true→pl n d'=true→Kd X P α s d u→Kd X P α s d' u→eqD d d'=true:=by
 intro n
 induction n with
 |zero =>
  intro d d' u h1 h2 k1 k2;cases r8 k1 k2 with
  |eq h=>exact h
  |tt=>exact AM h1
  |ll=>exact AM h1
 |succ m ih =>
  intro d d' u h1 h2 k1 k2;cases r8 k1 k2 with
  |eq h=>exact h
  |tt xs ys its q=>exact(fE xs ys).trans (mK I r ih h1 h2 q)
  |ll xs ys its q=>exact(fD xs ys).trans (mK I r ih h1 h2 q)
structure E3 (A:A8)(s:Ag)(u u':Ac)(b:Ao):Prop where
 eq:Lj A s u u' b
 rc:RcAt A s u u' b
 ne:RcNeAt A s u u' (!b)
inductive EqR (X:Cx)(P:Hp)(α : Aa Ad)(A:A8)(s:Ag):D→D→Ac→Ac→Prop
 |of {d d':D} {u u':Ac} (b:Ao) (e:eqD d d'=b) (h:E3 A s u u' b):EqR X P α A s d d' u u'
 |tt (a b:Ad) (xs ys:Aa D) (its its2:Aa Ac) (ha:s.heap.IsTuple a its.toArray) (hb:s.heap.IsTuple b its2.toArray) (q:Seqs X P α xs ys its its2):EqR X P α A s (.tup xs) (.tup ys) (.ref a) (.ref b)
 |ll (a b:Ad) (xs ys:Aa D) (its its2:Aa Ac) (ha:s.heap.IsList a its.toArray) (hb:s.heap.IsList b its2.toArray) (q:Seqs X P α xs ys its its2):EqR X P α A s (.lst xs) (.lst ys) (.ref a) (.ref b)
theorem XO {A:A8}{d d':D}{u u':Ac}(hu:A.units<CI)(k1:Kd X P α s d u)(k2:Kd X P α s d' u'):EqR X P α A s d d' u u':=by
 cases k1 with
 |non  =>
  cases k2 with
  |non  => exact .of _ rfl ⟨OD _,RcAt.none_none,RcNeAt.none_none⟩
  |bl b=>exact .of _ rfl ⟨EqAt.none_bool b,RcAt.none_bool b,RcNeAt.none_bool b⟩
  |int b tb=>exact .of _ rfl ⟨EqAt.none_int b tb,RcAt.none_int b tb,RcNeAt.none_int b tb⟩
  |str b tb=>exact .of _ rfl ⟨EqAt.none_str b tb,RcAt.none_str b tb,RcNeAt.none_str b tb⟩
  |tup b ys its2 ws rp2 rv2 hb qb=>exact .of _ rfl ⟨EqAt.none_tuple hb hu,RcAt.none_tuple hb hu,RcNeAt.none_tuple hb hu⟩
  |lst b ys its2 ws rp2 rv2 hb qb=>exact .of _ rfl ⟨EqAt.none_list hb hu,RcAt.none_list hb hu,RcNeAt.none_list hb hu⟩
 |bl a =>
  cases k2 with
  |non  => exact .of _ rfl ⟨EqAt.bool_none a,RcAt.bool_none a,RcNeAt.bool_none a⟩
  |bl b=>exact .of _ rfl ⟨EqAt.bool_bool a b,RcAt.bool_bool a b,RcNeAt.bool_bool a b⟩
  |int b tb=>exact .of _ rfl ⟨EqAt.bool_int a b tb,RcAt.bool_int a b tb,RcNeAt.bool_int a b tb⟩
  |str b tb=>exact .of _ rfl ⟨EqAt.bool_str a b tb,RcAt.bool_str a b tb,RcNeAt.bool_str a b tb⟩
  |tup b ys its2 ws rp2 rv2 hb qb=>exact .of _ rfl ⟨EqAt.bool_tuple a hb hu,RcAt.bool_tuple a hb hu,RcNeAt.bool_tuple a hb hu⟩
  |lst b ys its2 ws rp2 rv2 hb qb=>exact .of _ rfl ⟨EqAt.bool_list a hb hu,RcAt.bool_list a hb hu,RcNeAt.bool_list a hb hu⟩
 |int a ta =>
  cases k2 with
  |non  => exact .of _ rfl ⟨EqAt.int_none a ta,RcAt.int_none a ta,RcNeAt.int_none a ta⟩
  |bl b=>exact .of _ rfl ⟨EqAt.int_bool a ta b,RcAt.int_bool a ta b,RcNeAt.int_bool a ta b⟩
  |int b tb=>exact .of _ rfl ⟨OO a ta b tb,RcAt.int_int a ta b tb,RcNeAt.int_int a ta b tb⟩
  |str b tb=>exact .of _ rfl ⟨EqAt.int_str a ta b tb,RcAt.int_str a ta b tb,RcNeAt.int_str a ta b tb⟩
  |tup b ys its2 ws rp2 rv2 hb qb=>exact .of _ rfl ⟨EqAt.int_tuple a ta hb hu,RcAt.int_tuple a ta hb hu,RcNeAt.int_tuple a ta hb hu⟩
  |lst b ys its2 ws rp2 rv2 hb qb=>exact .of _ rfl ⟨EqAt.int_list a ta hb hu,RcAt.int_list a ta hb hu,RcNeAt.int_list a ta hb hu⟩
 |str a ta =>
  cases k2 with
  |non  => exact .of _ rfl ⟨EqAt.str_none a ta,RcAt.str_none a ta,RcNeAt.str_none a ta⟩
  |bl b=>exact .of _ rfl ⟨EqAt.str_bool a ta b,RcAt.str_bool a ta b,RcNeAt.str_bool a ta b⟩
  |int b tb=>exact .of _ rfl ⟨EqAt.str_int a ta b tb,RcAt.str_int a ta b tb,RcNeAt.str_int a ta b tb⟩
  |str b tb=>exact .of _ rfl ⟨EqAt.str_str a ta b tb,RcAt.str_str a ta b tb,RcNeAt.str_str a ta b tb⟩
  |tup b ys its2 ws rp2 rv2 hb qb=>exact .of _ rfl ⟨EqAt.str_tuple a ta hb hu,RcAt.str_tuple a ta hb hu,RcNeAt.str_tuple a ta hb hu⟩
  |lst b ys its2 ws rp2 rv2 hb qb=>exact .of _ rfl ⟨EqAt.str_list a ta hb hu,RcAt.str_list a ta hb hu,RcNeAt.str_list a ta hb hu⟩
 |tup a xs its vs rp rv ha qa =>
  cases k2 with
  |non  => exact .of _ rfl ⟨EqAt.tuple_none ha hu,RcAt.tuple_none ha hu,RcNeAt.tuple_none ha hu⟩
  |bl b=>exact .of _ rfl ⟨EqAt.tuple_bool b ha hu,RcAt.tuple_bool b ha hu,RcNeAt.tuple_bool b ha hu⟩
  |int b tb=>exact .of _ rfl ⟨EqAt.tuple_int b tb ha hu,RcAt.tuple_int b tb ha hu,RcNeAt.tuple_int b tb ha hu⟩
  |str b tb=>exact .of _ rfl ⟨EqAt.tuple_str b tb ha hu,RcAt.tuple_str b tb ha hu,RcNeAt.tuple_str b tb ha hu⟩
  |tup b ys its2 ws rp2 rv2 hb qb=>exact .tt a b xs ys its its2 ha hb ⟨vs,ws,rp,rv,rp2,rv2⟩
  |lst b ys its2 ws rp2 rv2 hb qb=>exact .of _ rfl ⟨EqAt.tuple_list ha hb hu,RcAt.tuple_list ha hb hu,RcNeAt.tuple_list ha hb hu⟩
 |lst a xs its vs rp rv ha qa =>
  cases k2 with
  |non  => exact .of _ rfl ⟨EqAt.list_none ha hu,RcAt.list_none ha hu,RcNeAt.list_none ha hu⟩
  |bl b=>exact .of _ rfl ⟨EqAt.list_bool b ha hu,RcAt.list_bool b ha hu,RcNeAt.list_bool b ha hu⟩
  |int b tb=>exact .of _ rfl ⟨EqAt.list_int b tb ha hu,RcAt.list_int b tb ha hu,RcNeAt.list_int b tb ha hu⟩
  |str b tb=>exact .of _ rfl ⟨EqAt.list_str b tb ha hu,RcAt.list_str b tb ha hu,RcNeAt.list_str b tb ha hu⟩
  |tup b ys its2 ws rp2 rv2 hb qb=>exact .of _ rfl ⟨EqAt.list_tuple ha hb hu,RcAt.list_tuple ha hb hu,RcNeAt.list_tuple ha hb hu⟩
  |lst b ys its2 ws rp2 rv2 hb qb=>exact .ll a b xs ys its its2 ha hb ⟨vs,ws,rp,rv,rp2,rv2⟩
theorem E3.cast {A:A8}{u u':Ac}{b c:Ao}(e:c=b)(h:E3 A s u u' b):E3 A s u u' c:=e▸h
theorem XQ {A:A8}{a b:Ad}{xs ys:Aa D}{its its2:Aa Ac}(hu:A.units<CI)(ha:s.heap.IsTuple a its.toArray)(hb:s.heap.IsTuple b its2.toArray)(l1:xs.length=its.length)(l2:ys.length=its2.length)
  (sub:∀ j (h1:j<its.toArray.size) (h2:j<its2.toArray.size),Lj A.in1 s its.toArray[j] its2.toArray[j] (eqD (xs.getD j .non) (ys.getD j .non))) (same:a=b→xH xs ys=true):E3 A s (.ref a) (.ref b) (xH xs ys):=by
 have e:xH xs ys=((By (min its.toArray.size its2.toArray.size)).all (fun j=>eqD (xs.getD j .non) (ys.getD j .non))&&its.toArray.size == its2.toArray.size):=by rw[v8,l1,l2];rfl
 have R1:=RcAt.tuples ha hb hu sub;have R2:=RcNeAt.tuples ha hb hu sub;rw[← e] at R1 R2;refine⟨?_,R1,R2⟩;by_cases hab:a=b
 ·rw[same hab,hab]
  exact OD _
 ·exact OP hab R1
theorem MB {A:A8}{a b:Ad}{xs ys:Aa D}{its its2:Aa Ac}(hu:A.units<CI)(ha:s.heap.IsList a its.toArray)(hb:s.heap.IsList b its2.toArray)(l1:xs.length=its.length)(l2:ys.length=its2.length)
  (sub:∀ j (h1:j<its.toArray.size) (h2:j<its2.toArray.size),Lj A.in1 s its.toArray[j] its2.toArray[j] (eqD (xs.getD j .non) (ys.getD j .non))) (same:a=b→xH xs ys=true):E3 A s (.ref a) (.ref b) (xH xs ys):=by
 have R:RcAt A s (.ref a) (.ref b) (xH xs ys)∧RcNeAt A s (.ref a) (.ref b) (!xH xs ys):=by
  by_cases hl:its.length=its2.length
  ·have e:xH xs ys=(By its.toArray.size).all (fun j=>eqD (xs.getD j .non) (ys.getD j .non)):=by rw[v8,l1,l2,← hl,Ik,Pa,Kh];rfl
   rw[e];exact⟨RcAt.lists ha hb hl hu sub,RcNeAt.lists ha hb hl hu sub⟩
  ·rw[QH (by rw[l1,l2];exact hl)]
   have hn:(its.toArray.size != its2.toArray.size)=true:=bne_iff_ne.mpr hl;exact⟨RcAt.lists_lengths ha hb hn hu,RcNeAt.lists_lengths ha hb hn hu⟩
 refine⟨?_,R.1,R.2⟩;by_cases hab:a=b
 ·rw[same hab,hab]
  exact OD _
 ·exact OP hab R.1
theorem cR (I:Inv X pins σ H s)(r:Rel X.K H P α S):∀ (n:Ah) (A:A8) (d d':D) (u u':Ac),A.units+n<CI→pl n d=true→pl n d'=true→Kd X P α s d u→Kd X P α s d' u'→E3 A s u u' (eqD d d'):=by
 intro n
 induction n with
 |zero =>
  intro A d d' u u' hu h1 h2 k1 k2;cases XO hu k1 k2 with
  |of b e h=>exact h.cast e
  |tt=>exact AM h1
  |ll=>exact AM h1
 |succ m ih =>
  intro A d d' u u' hu h1 h2 k1 k2;have hu0:A.units<CI:=Nat.lt_of_le_of_lt (Nat.le_add_right _ _) hu;have hu1:A.in1.units+m<CI:=by show A.units+1+m<CI;omega
  have sub:∀ {xs ys:Aa D} {its its2:Aa Ac},xs.all (pl m)=true→ys.all (pl m)=true→Seqs X P α xs ys its its2 →
    ∀ j (h1:j<its.toArray.size) (h2:j<its2.toArray.size),Lj A.in1 s its.toArray[j] its2.toArray[j] (eqD (xs.getD j .non) (ys.getD j .non)):=fun {xs ys its its2} a1 a2 ⟨vs,ws,b1,b2,c1,c2⟩ j g1 g2=>by
   obtain⟨w1,y1,z1,m1⟩:=vA b1 b2 g1;obtain⟨w2,y2,z2,m2⟩:=vA c1 c2 g2;exact(ih A.in1 _ _ _ _ hu1 (uW a1 m1) (uW a2 m2) (uT I r (uW a1 m1) y1 z1) (uT I r (uW a2 m2) y2 z2)).eq
  cases XO hu0 k1 k2 with
  |of b e h=>exact h.cast e
  |tt a b xs ys its its2 ha hb q=>exact(XQ hu0 ha hb q.len1 q.len2 (sub h1 h2 q) fun e=>by subst e;exact(fE xs ys).symm.trans (dS I r (m+1) _ _ _ h1 h2 k1 k2)).cast (fE xs ys)
  |ll a b xs ys its its2 ha hb q=>exact(MB hu0 ha hb q.len1 q.len2 (sub h1 h2 q) fun e=>by subst e;exact(fD xs ys).symm.trans (dS I r (m+1) _ _ _ h1 h2 k1 k2)).cast (fD xs ys)
def yN:Ah:=30
def gEq:G2:=fun a b S=>if pl yN a&&pl yN b then .ok (.bl (eqD a b)) S else .bad
def gNe:G2:=fun a b S=>if pl yN a&&pl yN b then .ok (.bl (!eqD a b)) S else .bad
set_option tactic.hygienic true in
theorem MT (hu:X.A.units+64<CI):OpD X (Bj .Eq) gEq:=by
 intro pins σ H s P α S v u vv uu a b Q I r rv ru pa pb af;unfold gEq at af
 split at af
 ·rename_i h
  rw[Ax] at h;exact(cR I r yN X.A a b vv uu (by unfold yN;omega) h.1 h.2 (uT I r h.1 pa rv) (uT I r h.2 pb ru)).rc _ _ _ _ ⟨.bl _,H,I,rfl,xr af r (by simp only[Rep])⟩
 ·exact Am af
set_option tactic.hygienic true in
theorem MY (hu:X.A.units+64<CI):OpD X (Bj .NotEq) gNe:=by
 intro pins σ H s P α S v u vv uu a b Q I r rv ru pa pb af;unfold gNe at af
 split at af
 ·rename_i h
  rw[Ax] at h;exact(cR I r yN X.A a b vv uu (by unfold yN;omega) h.1 h.2 (uT I r h.1 pa rv) (uT I r h.2 pb ru)).ne _ _ _ _ ⟨.bl _,H,I,rfl,xr af r (by simp only[Rep])⟩
 ·exact Am af
end
end _D
end
namespace _D
open PySem PySem.Spec PyProof.Rows _L
section
variable {X:Cx}
def i2 (C:Aj→Aj→Ao)(f:Aj→Aj→D):G2:=fun a b S=>match a,b with
 |.int i,.int j=>if C i j then .ok (f i j) S else .bad
 |_,_=>.bad
theorem XT {C:Aj→Aj→Ao}{f:Aj→Aj→D}{a b:D}{S:Sto}{P:Hp}{α : Aa Ad}{Ok:D→Sto→Prop}(h:qJ X P α (i2 C f a b S) Ok):∃ i j,a=.int i∧b=.int j∧C i j=true∧Ok (f i j) S:=by
 cases a with
 |int i =>
  cases b with
  |int j =>
   obtain⟨hc,h⟩:=wX (X:=X) h;exact⟨i,j,rfl,rfl,hc,h⟩
  |_=>exact Am h
 |_=>exact Am h
theorem xC {P:Hp}{α : Aa Ad}{i:Aj}{v:V}(r:Rep X.K P α (.int i) v):v=.int i:=by simpa only [Rep] using r
theorem bM {f:Ac→Ac→Fb Ac}{C':Aj→Aj→Prop}{v:Aj→Aj→V}{C:Aj→Aj→Ao}{d:Aj→Aj→D}(h:OpR X f (rI C' v))(hC:∀ i j,C i j=true→C' i j)(hv:∀ P α i j,Rep X.K P α (d i j) (v i j)):OpD X f (i2 C d):=
 OpD.of h fun H P α S x y a b Q r p1 p2 af=>by
  obtain⟨i,j,rfl,rfl,hc,ok⟩:=XT af;exact⟨i,j,xC p1,xC p2,hC i j hc,xr ok r (hv P α i j)⟩
theorem gF {f:Ac→Ac→Fb Ac}{v:Aj→Aj→V}{d:Aj→Aj→D}(h:OpR X f (rI0 v))(hv:∀ P α i j,Rep X.K P α (d i j) (v i j)):OpD X f (i2 (fun _ _=>true) d):=
 OpD.of h fun H P α S x y a b Q r p1 p2 af=>by
  obtain⟨i,j,rfl,rfl,_,ok⟩:=XT af;exact⟨i,j,xC p1,xC p2,xr ok r (hv P α i j)⟩
def w5:G2:=i2 (fun _ _=>true) fun i j=>.int (i-j)
theorem P8:OpD X (Ci .Sub) w5:=gF PU fun P α i j=>by simp only[Rep]
def tV (i j:Aj):Ao:=decide (-(2 ^ 64)<i∧i<2 ^ 64)||decide (-(2 ^ 64)<j∧j<2 ^ 64)
theorem V9:OpD X (Ci .Mult) (i2 tV fun i j=>.int (i*j)):=bM PQ (fun i j h=>by
 unfold tV at h;rw[Nt] at h;rcases h with h|h
 ·exact .inl (Bf h)
 ·exact .inr (Bf h)) fun P α i j=>by simp only[Rep]
def JD (i j:Aj):Ao:=decide (0<j∧j<1073741824)
def jU:G2:=i2 JD fun i j=>.int (i/j)
theorem GY:OpD X (Ci .FloorDiv) jU:=bM VC (fun i j h=>(Bf h:0<j∧j<1073741824)) fun P α i j=>by simp only[Rep]
def vY:G2:=i2 (fun _ j=>decide (0<j)) fun i j=>.int (i % j)
theorem P6:OpD X (Ci .Mod) vY:=bM PP (fun i j h=>Bf h) fun P α i j=>by simp only[Rep]
def JE (i j:Aj):Ao:=decide (0≤j∧j≤1000000∧i.natAbs<2 ^ 64)
def uI:G2:=i2 JE fun i j=>.int (i ^ j.toNat)
theorem P7:OpD X (Ci .Pow) uI:=bM PR (fun i j h=>(Bf h:0≤j∧j≤1000000∧i.natAbs<2 ^ 64)) fun P α i j=>by simp only[Rep]
def gLt:G2:=i2 (fun _ _=>true) fun i j=>.bl (decide (i<j))
def gLe:G2:=i2 (fun _ _=>true) fun i j=>.bl (decide (i≤j))
def gGt:G2:=i2 (fun _ _=>true) fun i j=>.bl (decide (j<i))
def gGe:G2:=i2 (fun _ _=>true) fun i j=>.bl (decide (j≤i))
theorem MX:OpD X (Bj .Lt) gLt:=gF T6 fun P α i j=>by simp only[Rep]
theorem MW:OpD X (Bj .LtE) gLe:=gF T4 fun P α i j=>by simp only[Rep]
theorem XX:OpD X (Bj .Gt) gGt:=gF T3 fun P α i j=>by simp only[Rep]
theorem MU:OpD X (Bj .GtE) gGe:=gF T0 fun P α i j=>by simp only[Rep]
def nP:D→Sto→Res D:=fun a S=>match a with
 |.int i=>.ok (.int (-i)) S
 |_=>.bad
theorem FN:UnD X (Ms .USub) nP:=by
 intro pins σ H s P α S v vv a Q I r rv p af;cases a with
 |int i=>exact FO pins s σ H v vv Q I rv ⟨i,xC p,xr af r (by simp only[Rep])⟩
 |_=>exact Am af
def gIs:G2:=fun a b S=>match b with
 |.non=>match a with
  |.non=>.ok (.bl true) S
  |_=>.ok (.bl false) S
 |_=>.bad
theorem V7 {P:Hp}{α : Aa Ad}{d:D}{v:V}(r:Rep X.K P α d v):decide (v=.non)=(match d with|.non=>true|_=>false):=by
 cases d <;> simp only[Rep] at r
 case non=>subst r;rfl
 case bl=>subst r;rfl
 case int=>subst r;rfl
 case str=>subst r;rfl
 case ty=>subst r;rfl
 case obj=>obtain⟨rfl,_⟩:=r;rfl
 case tup=>obtain⟨a,vs,rfl,_⟩:=r;rfl
 case lst=>obtain⟨a,vs,rfl,_⟩:=r;rfl
 case dct0=>obtain⟨a,rfl,_⟩:=r;rfl
 case loc=>obtain⟨a,rfl,_⟩:=r;rfl
 case exn=>obtain⟨a,rfl,_⟩:=r;rfl
 case fd=>obtain⟨a,o,vs,rfl,_⟩:=r;rfl
theorem MV:OpD X (Bj .Is) gIs:=OpD.of PN fun H P α S x y a b Q r p1 p2 af=>by
 cases b with
 |non =>
  simp only[Rep] at p2;refine⟨p2,?_⟩;rw[V7 p1];cases a <;> exact xr af r (by simp only[Rep])
 |_=>exact Am af
def zM:G2:=fun a b S=>match a,b with
 |.int i,.int j=>.ok (.int (i+j)) S
 |.str x,.str y=>if x.length+y.length≤lim then .ok (.str (x++y)) S else .bad
 |.tup xs,.tup ys=>if xs.length+ys.length≤lim then .ok (.tup (xs++ys)) S else .bad
 |.lst xs,.lst ys=>if xs.length+ys.length≤lim then .ok (.lst (xs++ys)) S else .bad
 |_,_=>.bad
theorem gL {pins:Aa (Ad × AV)}{σ : _L.St}{H P:Hp}{α : Aa Ad}{S:Sto}{s:Ag}{xs:Aa D}{v:V}(I:Inv X pins σ H s)(r:Rel X.K H P α S)(p:Rep X.K P α (.tup xs) v) :
  ∃ a vs its,v=.ref a∧SqT X.K P a vs∧qG X.K P α xs vs∧qM vs its∧Ie s.heap a its.toArray∧xs.length=its.length∧xs.length≤lim:=by
 simp only[Rep] at p;obtain⟨a,vs,rfl,q,t⟩:=p;obtain⟨its,rv,p1,z⟩:=I.tuple (w4 r.sub q);exact⟨a,vs,its,rfl,q,t,rv,p1,by rw[t.length,rv.length],by rw[t.length,zS];exact z⟩
theorem vU {pins:Aa (Ad × AV)}{σ : _L.St}{H P:Hp}{α : Aa Ad}{S:Sto}{s:Ag}{xs:Aa D}{v:V}(I:Inv X pins σ H s)(r:Rel X.K H P α S)(p:Rep X.K P α (.lst xs) v) :
  ∃ a vs its n,v=.ref a∧SqX X.K P a vs∧qG X.K P α xs vs∧qM vs its∧s.heap.get? a=Ab { cls:=.type "list",data:=.seq its.toArray n } ∧ xs.length=its.length∧xs.length≤lim:=by
 simp only[Rep] at p;obtain⟨a,vs,rfl,q,t⟩:=p;have:∃ its n,qM vs its∧s.heap.get? a=Ab { cls:=.type "list",data:=.seq its.toArray n } ∧ vs.length≤sizeLine:=by
  rcases q with q|⟨its,n,e,z,rv⟩
  ·obtain⟨z,its,n,rv,e⟩:=(sY r.sub q).ok I.hok
   exact⟨its,n,rv,e,z⟩
  ·exact⟨its,n,rv,I.kIn _ _ e,z⟩
 obtain⟨its,n,rv,e,z⟩:=this;exact⟨a,vs,its,n,rfl,q,t,rv,e,by rw[t.length,rv.length],by rw[t.length,zS];exact z⟩
theorem Z0 {pins:Aa (Ad × AV)}{σ : _L.St}{H P:Hp}{α : Aa Ad}{S:Sto}{s:Ag}{xs:Aa D}{vs:Aa V}{its:Aa Ac}{Q:VK}(I:Inv X pins σ H s)(r:Rel X.K H P α S)(t:qG X.K P α xs vs)(rv:qM vs its)(hz:xs.length≤lim)
  (ok:OkV X P α Q (.tup xs) S):EP X pins σ Q (.ref s.heap.objs.size) { s with heap:=s.heap.push { cls:=.type "tuple",data:=.seq its.toArray } }:=by
 refine⟨.ref s.heap.objs.size,_,I.laid (t':=s.toks) (o:=.tup vs) (fun b ob q=>Al _ q) (Aw _) ⟨by rw[← t.length,← zS];exact hz,its,rv,O8 _ _⟩,rfl,pS r (I.hok.fresh (Aw _)) t ok⟩
theorem l5 {pins:Aa (Ad × AV)}{σ : _L.St}{H P:Hp}{α : Aa Ad}{S:Sto}{s:Ag}{xs:Aa D}{vs:Aa V}{its:Aa Ac}{Q:VK}(I:Inv X pins σ H s)(r:Rel X.K H P α S)(t:qG X.K P α xs vs)(rv:qM vs its)(hz:xs.length≤lim)
  (ok:OkV X P α Q (.lst xs) S):EP X pins σ Q (.ref s.heap.objs.size) { s with heap:=s.heap.push { cls:=.type "list",data:=.seq its.toArray } }:=by
 refine⟨.ref s.heap.objs.size,_,I.laid (t':=s.toks) (o:=.lst vs) (fun b ob q=>Al _ q) (Aw _) ⟨by rw[← t.length,← zS];exact hz,its,0,rv,AN _ rfl⟩,rfl,vD r (I.hok.fresh (Aw _)) t ok⟩
theorem J3 {pins:Aa (Ad × AV)}{σ : _L.St}{H P:Hp}{α : Aa Ad}{S:Sto}{s:Ag}{xs ys:Aa D}{v u:V}{vv uu:Ac}{Q:VK}(I:Inv X pins σ H s)(r:Rel X.K H P α S)(rv:qK v vv)(ru:qK u uu)(pa:Rep X.K P α (.tup xs) v)(pb:Rep X.K P α (.tup ys) u)(hl:xs.length+ys.length≤lim)(af:OkV X P α Q (.tup (xs++ys)) S) :
  An (Ar X.prog X.w) X.A (Ci .Add vv uu) (EP X pins σ Q) X.xe s:=by
 obtain⟨a,vs,its,rfl,q1,t1,rv1,h1,l1,_⟩:=gL I r pa;obtain⟨b,ws,its2,rfl,q2,t2,rv2,h2,l2,_⟩:=gL I r pb;cases rv;cases ru;by_cases hx:its=[]
 ·obtain⟨⟨cls,dd,data,sl⟩,ho,hc,n,hd⟩:=id h1
  obtain⟨⟨cls2,dd2,data2,sl2⟩,ho2,hc2,n2,hd2⟩:=id h2;simp only at hc hd hc2 hd2;subst hc hd hc2 hd2;have hxs:xs=[]:=Ev.mp (by rw[l1,hx];rfl)
  subst hxs;exact Lb ⟨_,ho,rfl⟩ ⟨_,ho2,rfl⟩ HW Jy Gd Ft (Fi _ _) (tuple_addW0 a b its.toArray its2.toArray n n2 dd dd2 sl sl2 (by simp[hx]))
   ⟨ho,ho2,⟨.ref b,H,I,rfl,xr af r pb⟩⟩
 ·refine _H.cat_tup h1 h2 hx (fun z=>⟨.ref a,H,I,rfl,xr af r ?_⟩) (fun z=>?_) (by rw[← l1,← l2,← zS];exact hl)
  ·have hys:ys=[]:=Ev.mp (by rw[l2,z];rfl)
   rw[hys,Dr];exact pa
  ·exact Z0 I r (t1.append t2) (rv1.append rv2) (by rw[AW];exact hl) af
theorem J2 {pins:Aa (Ad × AV)}{σ : _L.St}{H P:Hp}{α : Aa Ad}{S:Sto}{s:Ag}{xs ys:Aa D}{v u:V}{vv uu:Ac}{Q:VK}(I:Inv X pins σ H s)(r:Rel X.K H P α S)(rv:qK v vv)(ru:qK u uu)(pa:Rep X.K P α (.lst xs) v)(pb:Rep X.K P α (.lst ys) u)(hl:xs.length+ys.length≤lim)(af:OkV X P α Q (.lst (xs++ys)) S) :
  An (Ar X.prog X.w) X.A (Ci .Add vv uu) (EP X pins σ Q) X.xe s:=by
 obtain⟨a,vs,its,n,rfl,q1,t1,rv1,h1,l1,_⟩:=vU I r pa;obtain⟨b,ws,its2,n2,rfl,q2,t2,rv2,h2,l2,_⟩:=vU I r pb;cases rv;cases ru;refine PySem.P.add_list h1 h2 ?_ (by rw[AB,AB,← l1,← l2,← zS];exact hl)
 rw[List.append_toArray];exact l5 I r (t1.append t2) (rv1.append rv2) (by rw[AW];exact hl) af
inductive AddV (a b:D)(S:Sto):Prop
 |bad (e:zM a b S=.bad)
 |int (i j:Aj) (ea:a=.int i) (eb:b=.int j)
 |str (x y:As) (ea:a=.str x) (eb:b=.str y)
 |tup (x y:Aa D) (ea:a=.tup x) (eb:b=.tup y)
 |lst (x y:Aa D) (ea:a=.lst x) (eb:b=.lst y)
theorem NM (a b:D)(S:Sto):AddV a b S:=by
 cases a with
 |int i=>cases b with
  |int j=>exact .int i j rfl rfl
  |_=>exact .bad rfl
 |str i=>cases b with
  |str j=>exact .str i j rfl rfl
  |_=>exact .bad rfl
 |tup i=>cases b with
  |tup j=>exact .tup i j rfl rfl
  |_=>exact .bad rfl
 |lst i=>cases b with
  |lst j=>exact .lst i j rfl rfl
  |_=>exact .bad rfl
 |_=>exact .bad rfl
theorem GX:OpD X (Ci .Add) zM:=by
 intro pins σ H s P α S v u vv uu a b Q I r rv ru pa pb af;cases NM a b S with
 |bad e=>rw[e] at af;exact Am af
 |int i j ea eb =>
  subst ea eb;exact PM pins s σ H v u vv uu Q I rv ru ⟨i,j,xC pa,xC pb,xr af r (by simp only[Rep])⟩
 |str x y ea eb =>
  subst ea eb;obtain⟨hl,af⟩:=wX (X:=X) af;simp only[Rep] at pa pb;exact eM pins s σ H v u vv uu Q I rv ru ⟨x,y,pa,pb,by rw[← zS];exact hl,xr af r (by simp only[Rep])⟩
 |tup xs ys ea eb =>
  subst ea eb;obtain⟨hl,af⟩:=wX (X:=X) af;exact J3 I r rv ru pa pb hl af
 |lst xs ys ea eb =>
  subst ea eb;obtain⟨hl,af⟩:=wX (X:=X) af;exact J2 I r rv ru pa pb hl af
def gIx:G2:=fun a b S=>match b with
 |.int k=>match a with
  |.tup xs=>wH (atI xs k) S
  |.lst xs=>wH (atI xs k) S
  |.loc i=>match S[i]? with
   |some (.lst xs)=>wH (atI xs k) S
   |_=>.bad
  |_=>.bad
 |_=>.bad
theorem bW {P:Hp}{α : Aa Ad}{ds:Aa D}{vs:Aa V}{k:Aj}{d:D}(rp:qG X.K P α ds vs)(h:atI ds k=Ab d):∃ v,atI vs k=Ab v∧Rep X.K P α d v:=by
 unfold atI at h ⊢;rw[← rp.length];cases q:ixN ds.length k with
 |none=>rw[q] at h;cases h
 |some j =>
  rw[q] at h;obtain⟨v,h1,h2⟩:=rp.get (show ds[j]? = Ab d from h)
  exact⟨v,h1,h2⟩
theorem G7:IxD X gIx:=by
 intro value slice pins σ H s P α S v u vv uu a b Q I r rv ru pa pb af hs;cases b with
 |int k =>
  have hk:=xC pb;cases a with
  |tup xs =>
   obtain⟨d,e,ok⟩:=vE (X:=X) af;simp only[Rep] at pa;obtain⟨p,vs,rfl,q,t⟩:=pa;obtain⟨w,e1,rw'⟩:=bW t e;exact G8 value slice pins s σ H _ u vv uu Q I rv ru ⟨p,vs,k,w,rfl,hk,w4 r.sub q,e1,xr ok r rw'⟩ hs
  |lst xs =>
   obtain⟨d,e,ok⟩:=vE (X:=X) af;simp only[Rep] at pa;obtain⟨p,vs,rfl,q,t⟩:=pa;obtain⟨w,e1,rw'⟩:=bW t e;exact sE value slice pins s σ H _ u vv uu Q I rv ru ⟨p,vs,k,w,rfl,hk,(xU r.sub q).l,e1,xr ok r rw'⟩ hs
  |loc i =>
   obtain⟨xs,hS,af⟩:=k9 (X:=X) (f:=fun xs=>wH (atI xs k) S) af;obtain⟨d,e,ok⟩:=vE (X:=X) af;simp only[Rep] at pa;obtain⟨p,rfl,q⟩:=pa;obtain⟨vs,z,t⟩:=r.at' i p _ q hS;obtain⟨w,e1,rw'⟩:=bW t e;exact sE value slice pins s σ H _ u vv uu Q I rv ru ⟨p,vs,k,w,rfl,hk,.of z,e1,xr ok r rw'⟩ hs
  |_=>exact Am af
 |_=>exact Am af
def fK:G3:=fun o i d S=>match o,i with
 |.loc n,.int k=>match S[n]? with
  |some (.lst xs)=>match ixN xs.length k with
   |some j=>.ok () (S.set n (.lst (xs.set j d)))
   |none=>.bad
  |_=>.bad
 |_,_=>.bad
theorem TY:tO X (tM X fK):=by
 intro pins s σ H o i v ov iv u Q I ro ri rv h;obtain⟨P,α,S,a,b,d,r,pa,pb,pd,af⟩:=h;cases a with
 |loc n =>
  cases b with
  |int k =>
   obtain⟨xs,hS,af⟩:=k9 (X:=X) (f:=fun xs=>match ixN xs.length k with|some j=>.ok () (S.set n (.lst (xs.set j d)))|none=>.bad) af
   cases hj:ixN xs.length k with
   |none=>rw[hj] at af;exact Am af
   |some j =>
    rw[hj] at af;simp only[Rep] at pa;obtain⟨p,rfl,q⟩:=pa;obtain⟨vs,z,t⟩:=r.at' n p _ q hS;refine X1 pins s σ H _ i v ov iv u Q I ro ri rv ⟨p,vs,k,j,rfl,xC pb,z,by rw[← t.length];exact hj,?_⟩
    refine af _ P α (r.put (m':=.lst (xs.set j d)) q hS (by intro z;cases z) ⟨vs.set j v,qZ,t.set pd j⟩) (qH.refl _) (AD _)
  |_=>exact Am af
 |_=>exact Am af
def Z3:D→Sto→Ak Ah
 |.tup xs,_=>Ab xs.length
 |.lst xs,_=>Ab xs.length
 |.str x,_=>if x.length≤lim then Ab x.length else none
 |.dct0,_=>Ab 0
 |.loc i,S=>match S[i]? with
  |some (.lst xs)=>Ab xs.length
  |_=>none
 |_,_=>none
def pM:DF:=fun ds S=>match ds with
 |[d]=>match Z3 d S with
  |some n=>.ok (.int n) S
  |none=>.bad
 |_=>.bad
end
section
variable {X:Cx}
theorem yR {P:Hp}{α : Aa Ad}{d:D}{vs:Aa V}{us:Aa Ac}(rp:qG X.K P α [d] vs)(rv:qM vs us):∃ v u,vs=[v]∧us=[u]∧Rep X.K P α d v∧qK v u:=by
 obtain⟨v,ws,rfl,p,t⟩:=rp.cons_inv;have:=t.nil_inv;subst this;obtain⟨u,rfl,q⟩:=p7 rv;exact⟨v,u,rfl,rfl,p,q⟩
theorem kD {P:Hp}{α : Aa Ad}{d e:D}{vs:Aa V}{us:Aa Ac}(rp:qG X.K P α [d,e] vs)(rv:qM vs us):∃ v w u x,vs=[v,w]∧us=[u,x]∧Rep X.K P α d v∧Rep X.K P α e w∧qK v u∧qK w x:=by
 obtain⟨v,ws,rfl,p,t⟩:=rp.cons_inv;obtain⟨w,ws,rfl,p',t⟩:=t.cons_inv;have:=t.nil_inv;subst this;obtain⟨u,x,rfl,q,q'⟩:=eZ rv;exact⟨v,w,u,x,rfl,rfl,p,p',q,q'⟩
def eE (d:D)(S:Sto):Ak Ah:=match d with
 |.dct0=>none
 |_=>Z3 d S
theorem GG {H P:Hp}{α : Aa Ad}{S:Sto}{d:D}{v:V}{n:Ah}(r:Rel X.K H P α S)(p:Rep X.K P α d v)(hn:eE d S=Ab n):UZ X.K v H n:=by
 cases d with
 |str x =>
  cases (show v=.str x from p)
  obtain⟨hl,rfl⟩:=jW hn;exact⟨by rw[← zS];exact hl,rfl⟩
 |tup xs =>
  simp only[Rep] at p;obtain⟨a,ws,rfl,sq,t⟩:=p;cases hn;exact .inr ⟨ws,w4 r.sub sq,t.length⟩
 |lst xs =>
  simp only[Rep] at p;obtain⟨a,ws,rfl,sq,t⟩:=p;cases hn;exact .inl ⟨ws,(xU r.sub sq).l,t.length⟩
 |loc i =>
  simp only[Rep] at p;obtain⟨a,rfl,e⟩:=p;obtain⟨xs,hS,hn⟩:=GO (f:=fun xs=>Ab xs.length) hn;cases hn;obtain⟨ws,z,t⟩:=r.at' i a _ e hS;exact .inl ⟨ws,.of z,t.length⟩
 |_=>exact nn hn
inductive LenD1 (ds:Aa D)(S:Sto)(r:Res D):Prop
 |bad (e:r=.bad)
 |of (d:D) (n:Ah) (ed:ds=[d]) (hn:eE d S=Ab n) (e:r=.ok (.int n) S)
theorem ML (ds:Aa D)(S:Sto):LenD1 ds S (match ds with|[.dct0]=>.bad|_=>pM ds S):=by
 cases ds with
 |nil=>exact .bad rfl
 |cons d ds =>
  cases ds with
  |cons _ _=>cases d <;> exact .bad rfl
  |nil =>
   have z:(match [d] with|[D.dct0]=>Res.bad|_=>pM [d] S)=(match eE d S with|some n=>Res.ok (D.int n) S|none=>.bad):=by cases d <;> rfl
   rw[z];cases hn:eE d S with
   |none=>exact .bad rfl
   |some n=>exact .of d n rfl hn rfl
theorem JG (hD:Hf):w6 X (.builtin "len") (fun ds S=>match ds with|[.dct0]=>.bad|_=>pM ds S):=by
 intro pins σ H s P α S vs us ds Q I r rv rp af;have af1:qJ X P α (match ds with|[D.dct0]=>Res.bad|_=>pM ds S) (OkV X P α Q):=af
 clear af;cases ML ds S with
 |bad e=>rw[e] at af1;exact Am af1
 |of d n ed hn e =>
  rw[e] at af1;subst ed;obtain⟨v,u,rfl,rfl,p,q⟩:=yR rp rv;exact oO pins s σ H _ _ Q I rv ⟨v,n,rfl,GG r p hn,xr af1 r (by simp only[Rep])⟩
def tyD:D→Sto→Ak Bo
 |.non,_=>Ab "NoneType"
 |.bl _,_=>Ab "bool"
 |.int _,_=>Ab "int"
 |.str _,_=>Ab "str"
 |.tup _,_=>Ab "tuple"
 |.lst _,_=>Ab "list"
 |.dct0,_=>Ab "dict"
 |.loc i,S=>match S[i]? with
  |some (.lst _)=>Ab "list"
  |some (.dct _)=>Ab "dict"
  |_=>none
 |_,_=>none
def u7 (a b:Bo):Ao:=a == b||(a == "bool" && b == "int")
def vC (b:Bo):Ao:=b == "int" || b == "bool" || b == "tuple" || b == "list" || b == "str" || b == "dict"
def GE (a b:Bo):Ak Ao:=if (EN a == EN b)=true then Ab true else if PySem.W.kitMeta b=true then (fastBuiltinMro a).map (·.contains (.type b)) else none
def tyL:Aa Bo:=["NoneType","bool","int","str","tuple","list","dict"]
def okL:Aa Bo:=["int","bool","tuple","list","str","dict"]
theorem YR:(tyL.all fun a=>okL.all fun b=>decide (GE a b=Ab (u7 a b)))=true:=by decide +kernel
theorem PD {b:Bo}(hb:vC b=true):b∈okL:=by simpa [vC,okL,or_assoc] using hb
theorem YS {K:Ai}{a b:Bo}(ha:a∈tyL)(hb:vC b=true):EJ K (.type a) (.type b)=Ab (u7 a b):=
 Bf (p:=GE a b=Ab (u7 a b)) (AR.mp (AR.mp YR a ha) b (PD hb))
def zF:DF:=fun ds S=>match ds with
 |[d,.ty b]=>if vC b then match tyD d S with
   |some a=>.ok (.bl (u7 a b)) S
   |none=>.bad
  else .bad
 |_=>.bad
inductive TyV (X:Cx)(H:Hp)(v:V)(a:Bo):Prop
 |of (t:TyOf X.K H v (.type a))
 |tup (p:Ad) (vs:Aa V) (e:v=.ref p) (q:SqT X.K H p vs) (ea:a = "tuple")
 |lst (p:Ad) (vs:Aa V) (e:v=.ref p) (q:SqL X.K H p vs) (ea:a = "list")
theorem FM {d:D}{S:Sto}{a:Bo}(h:tyD d S=Ab a):a∈tyL:=by
 cases d with
 |non=>cases h;exact .head _
 |bl b=>cases h;exact .tail _ (.head _)
 |int i=>cases h;exact .tail _ (.tail _ (.head _))
 |str x=>cases h;exact .tail _ (.tail _ (.tail _ (.head _)))
 |tup xs=>cases h;exact .tail _ (.tail _ (.tail _ (.tail _ (.head _))))
 |lst xs=>cases h;exact .tail _ (.tail _ (.tail _ (.tail _ (.tail _ (.head _)))))
 |dct0=>cases h;exact .tail _ (.tail _ (.tail _ (.tail _ (.tail _ (.tail _ (.head _))))))
 |loc i =>
  rcases fU (f:=fun _=>Ab "list") (g:=fun _=>Ab "dict") h with⟨_,_,h⟩|⟨_,_,h⟩
  ·cases h;exact .tail _ (.tail _ (.tail _ (.tail _ (.tail _ (.head _)))))
  ·cases h;exact .tail _ (.tail _ (.tail _ (.tail _ (.tail _ (.tail _ (.head _))))))
 |_=>exact nn h
theorem N5 {H P:Hp}{α : Aa Ad}{S:Sto}{d:D}{v:V}{a:Bo}(r:Rel X.K H P α S)(p:Rep X.K P α d v)(h:tyD d S=Ab a):TyV X H v a:=by
 cases d with
 |non=>cases h;cases (show v=.non from p);exact .of .non
 |bl b=>cases h;cases (show v=.bl b from p);exact .of (.bl b)
 |int i=>cases h;cases (show v=.int i from p);exact .of (.int i)
 |str x=>cases h;cases (show v=.str x from p);exact .of (.str x)
 |tup xs =>
  cases h;simp only[Rep] at p;obtain⟨a,vs,e,q,t⟩:=p;exact .tup a vs e (w4 r.sub q) rfl
 |lst xs =>
  cases h;simp only[Rep] at p;obtain⟨a,vs,e,q,t⟩:=p;exact .lst a vs e (xU r.sub q).l rfl
 |dct0 =>
  cases h;simp only[Rep] at p;obtain⟨a,rfl,q⟩:=p;exact .of (.dK (r.sub _ _ q))
 |loc i =>
  simp only[Rep] at p;obtain⟨a,rfl,q⟩:=p;rcases fU (f:=fun _=>Ab "list") (g:=fun _=>Ab "dict") h with⟨xs,hS,h⟩|⟨kvs,hS,h⟩
  ·cases h
   obtain⟨vs,z,t⟩:=r.at' i a _ q hS;exact .of (.lst z)
  ·cases h
   obtain⟨vs,z,t⟩:=r.at' i a _ q hS;exact .of (.dK z)
 |_=>exact nn h
inductive IsiV (ds:Aa D)(S:Sto):Prop
 |bad (e:zF ds S=.bad)
 |of (d:D) (b a:Bo) (ed:ds=[d,.ty b]) (hb:vC b=true) (ha:tyD d S=Ab a) (e:zF ds S=.ok (.bl (u7 a b)) S)
theorem L0 (ds:Aa D)(S:Sto):IsiV ds S:=by
 cases ds with
 |nil=>exact .bad rfl
 |cons d ds =>
  cases ds with
  |nil=>exact .bad rfl
  |cons e ds =>
   cases ds with
   |cons _ _=>cases e <;> exact .bad rfl
   |nil =>
    cases e with
    |ty b =>
     have z:zF [d,.ty b] S=if vC b then (match tyD d S with|some a=>.ok (.bl (u7 a b)) S|none=>.bad) else .bad:=rfl
     by_cases hb:vC b=true
     ·rw[AA hb] at z
      cases ha:tyD d S with
      |none=>rw[ha] at z;exact .bad z
      |some a=>rw[ha] at z;exact .of d b a rfl hb ha z
     ·rw[A0 hb] at z
      exact .bad z
    |_=>exact .bad rfl
theorem cA:w6 X (.builtin "isinstance") zF:=by
 intro pins σ H s P α S vs us ds Q I r rv rp af;cases L0 ds S with
 |bad e=>rw[e] at af;exact Am af
 |of d b a ed hb ha e =>
  subst ed;rw[e] at af;obtain⟨v,w,u,x,rfl,rfl,p,p',q,q'⟩:=kD rp rv;simp only[Rep] at p';subst p';cases (show x=EN b from q')
  have kit:=YS (K:=X.K) (FM ha) hb;have fin:∀ tk,EP X pins σ Q (.bool (u7 a b)) { s with toks:=tk }:=fun tk=>⟨.bl _,H,I.tok tk,rfl,xr af r (by simp only[Rep])⟩
  cases N5 r p ha with
  |of ht=>exact aD I q ht kit fin
  |tup p' ws e sq ea =>
   subst e ea;cases (show u=AY p' from q)
   obtain⟨its,rv',⟨o,h1,h2,_⟩,_⟩:=I.tuple sq;exact Ca Kr I.kIn ⟨o,h1,h2⟩ kit (fun z=>nomatch z) fin
  |lst p' ws e sq ea =>
   subst e ea;cases (show u=AY p' from q)
   obtain⟨its,rv',⟨o,_,h1,h2,_⟩,_⟩:=I.list sq;exact Ca HE I.kIn ⟨o,h1,h2⟩ kit (fun z=>nomatch z) fin
def yJ:Aa D→Ak (Aa Ao)
 |[]=>Ab []
 |.bl b::r=>(yJ r).map (b::·)
 |_=>none
theorem jO {P:Hp}{α : Aa Ad}:∀ {ds:Aa D} {bs:Aa Ao} {vs:Aa V} {us:Aa Ac},yJ ds=Ab bs→qG X.K P α ds vs→qM vs us→us=bs.map CN
 |[],bs,vs,us,h,rp,rv=>by
  cases h;have:=rp.nil_inv;subst this;cases rv;rfl
 |d::ds,bs,vs,us,h,rp,rv=>by
  cases d with
  |bl b =>
   obtain⟨bs',q,rfl⟩:=CB.mp (show (yJ ds).map (b::·)=Ab bs from h)
   obtain⟨w,ws,rfl,p,t⟩:=rp.cons_inv;simp only[Rep] at p;subst p;cases rv with
   |cons q1 q2 =>
    cases (show _=CN b from q1)
    rw[jO q t q2];rfl
  |_=>exact nn h
def kU:DF:=fun ds S=>match ds with
 |[.int i]=>.ok (.int i) S
 |[.bl b]=>.ok (.int (b01 b)) S
 |_=>.bad
inductive IntV (ds:Aa D)(S:Sto):Prop
 |bad (e:kU ds S=.bad)
 |int (i:Aj) (e:ds=[.int i])
 |bl (b:Ao) (e:ds=[.bl b])
theorem NW (ds:Aa D)(S:Sto):IntV ds S:=by
 cases ds with
 |nil=>exact .bad rfl
 |cons d ds =>
  cases ds with
  |cons _ _=>cases d <;> exact .bad rfl
  |nil =>
   cases d with
   |int i=>exact .int i rfl
   |bl b=>exact .bl b rfl
   |_=>exact .bad rfl
theorem JF:w6 X (.type "int") kU:=by
 intro pins σ H s P α S vs us ds Q I r rv rp af;cases NW ds S with
 |bad e=>rw[e] at af;exact Am af
 |int i e =>
  subst e;obtain⟨v,u,rfl,rfl,p,q⟩:=yR rp rv;exact mG pins s σ H _ _ Q I rv (.inl ⟨_,by rw[xC p],xr af r (by simp only[Rep])⟩)
 |bl b e =>
  subst e;obtain⟨v,u,rfl,rfl,p,q⟩:=yR rp rv;simp only[Rep] at p;subst p;exact mG pins s σ H _ _ Q I rv (.inr ⟨_,rfl,xr af r (by simp only[Rep];rfl)⟩)
end
section
variable {X:Cx}
structure ClsK (K:Ai)(cl:Aa Ad):Prop where
 ex:∀ C∈cl,ExnK K C
 one:∀ C∈cl,∀ B∈cl,EJ K (.ref C) (.ref B)=Ab (C == B)
 ve:∀ C∈cl,EJ K (.ref C) (.type "ValueError")=Ab true
def zQ (cl:Aa Ad):DF:=fun ds S=>match ds with
 |[.exn (.ref C),.obj B]=>if cl.contains C&&cl.contains B then .ok (.bl (C == B)) S else .bad
 |[.exn (.ref C),.ty b]=>if cl.contains C&&(b == "ValueError") then .ok (.bl true) S else .bad
 |_=>zF ds S
theorem cS {pins:Aa (Ad × AV)}{σ : _L.St}{H P:Hp}{α : Aa Ad}{S:Sto}{s:Ag}{C:Ad}{v:V}{u:Ac}(I:Inv X pins σ H s)(r:Rel X.K H P α S)(p:Rep X.K P α (.exn (.ref C)) v)(q:qK v u):∃ a,u=.ref a∧vI a C s.heap:=by
 simp only[Rep] at p;obtain⟨a,rfl,z⟩:=p;obtain⟨y,_⟩:=I.hok a _ (r.sub _ _ z);exact⟨a,q,y⟩
inductive IsiE (cl:Aa Ad)(ds:Aa D)(S:Sto):Prop
 |bad (e:zQ cl ds S=.bad)
 |old (e:zQ cl ds S=zF ds S)
 |obj (C B:Ad) (ed:ds=[.exn (.ref C),.obj B]) (h1:C∈cl) (h2:B∈cl) (e:zQ cl ds S=.ok (.bl (C == B)) S)
 |ve (C:Ad) (ed:ds=[.exn (.ref C),.ty "ValueError"]) (h1:C∈cl) (e:zQ cl ds S=.ok (.bl true) S)
theorem MI (cl:Aa Ad)(C:Ad)(d:D)(S:Sto):IsiE cl [.exn (.ref C),d] S:=by
 cases d with
 |obj B =>
  have z:zQ cl [.exn (.ref C),.obj B] S=if (cl.contains C&&cl.contains B)=true then .ok (.bl (C == B)) S else .bad:=rfl
  by_cases h:(cl.contains C&&cl.contains B)=true
  ·rw[AA h] at z
   have h':=CO.mp h;exact .obj C B rfl (CF.mp h'.1) (CF.mp h'.2) z
  ·rw[A0 h] at z
   exact .bad z
 |ty b =>
  have z:zQ cl [.exn (.ref C),.ty b] S=if (cl.contains C&&(b == "ValueError"))=true then .ok (.bl true) S else .bad:=rfl
  by_cases h:(cl.contains C&&(b == "ValueError"))=true
  ·rw[AA h] at z
   have h':=CO.mp h;cases (EW.mp h'.2);exact .ve C rfl (CF.mp h'.1) z
  ·rw[A0 h] at z
   exact .bad z
 |_=>exact .old rfl
theorem NZ (cl:Aa Ad)(ds:Aa D)(S:Sto):IsiE cl ds S:=by
 cases ds with
 |nil=>exact .old rfl
 |cons a ds =>
  cases a with
  |exn c =>
   cases c with
   |ref C =>
    cases ds with
    |nil=>exact .old rfl
    |cons b ds =>
     cases ds with
     |nil=>exact MI cl C b S
     |cons _ _=>cases b <;> exact .old rfl
   |_=>exact .old rfl
  |_=>exact .old rfl
theorem WF {cl:Aa Ad}(hK:ClsK X.K cl):w6 X (.builtin "isinstance") (zQ cl):=by
 intro pins σ H s P α S vs us ds Q I r rv rp af;cases NZ cl ds S with
 |bad e=>rw[e] at af;exact Am af
 |old e=>rw[e] at af;exact cA pins σ H s P α S vs us ds Q I r rv rp af
 |obj C B ed h1 h2 e =>
  rw[e] at af;subst ed;obtain⟨v,w,u,x,rfl,rfl,p,p',q,q'⟩:=kD rp rv;simp only[Rep] at p';obtain⟨rfl,_⟩:=p';cases (show x=AY B from q')
  obtain⟨a,rfl,ha⟩:=cS I r p q;exact Ca (nY (hK.ex C h1)) I.kIn ha (hK.one C h1 B h2) (fun z=>nomatch z) fun tk=>⟨.bl _,H,I.tok tk,rfl,xr af r (by simp only[Rep])⟩
 |ve C ed h1 e =>
  rw[e] at af;subst ed;obtain⟨v,w,u,x,rfl,rfl,p,p',q,q'⟩:=kD rp rv;simp only[Rep] at p';subst p';cases (show x=EN "ValueError" from q')
  obtain⟨a,rfl,ha⟩:=cS I r p q;exact Ca (nY (hK.ex C h1)) I.kIn ha (hK.ve C h1) (fun z=>nomatch z) fun tk=>⟨.bl _,H,I.tok tk,rfl,xr af r (by simp only[Rep])⟩
def MtD (X:Cx)(id:Bo)(g:D→Aa D→Sto→Res D):Prop:=
 ∀ (pins:Aa (Ad × AV)) (σ : _L.St) (H:Hp) (s:Ag) (P:Hp) (α : Aa Ad) (S:Sto) (v:V) (vv:Ac) (vs:Aa V) (us:Aa Ac) (a:D) (ds:Aa D) (Q:VK),Inv X pins σ H s→Rel X.K H P α S→qK v vv→Rep X.K P α a v→qM vs us→qG X.K P α ds vs→qU X P α (g a ds S) Q →
  An (Ar X.prog X.w) X.A (call (.builtin id) (vv::us)) (EP X pins σ Q) X.xe s
def dBm (T:Bo)(g:D→Aa D→Sto→Res D)(fo:DE)(fa:DA):DE:=fun env S=>(fo env S).bind fun a S1=>if (tyD a S1 == Ab T)=true then (fa env S1).bind fun ds S2=>g a ds S2 else .bad
theorem FL {H P:Hp}{α : Aa Ad}{S:Sto}{a:D}{v:V}{T:Bo}(r:Rel X.K H P α S)(p:Rep X.K P α a v)(h:tyD a S=Ab T)(hT:T = "list" ∨ T = "dict" ∨ T = "int" ∨ T = "str"):tyV X.K T v H:=by
 cases a with
 |int i=>cases h;simp only[Rep] at p;subst p;rfl
 |str x=>cases h;simp only[Rep] at p;subst p;rfl
 |lst xs =>
  cases h;simp only[Rep] at p;obtain⟨b,vs,rfl,q,t⟩:=p;exact .inl ⟨rfl,vs,(xU r.sub q).l⟩
 |dct0 =>
  cases h;simp only[Rep] at p;obtain⟨b,rfl,q⟩:=p;exact .inr (.inr (.inl ⟨rfl,.inl ⟨[],r.sub _ _ q⟩⟩))
 |loc i =>
  simp only[Rep] at p;obtain⟨b,rfl,q⟩:=p;rcases fU (f:=fun _=>Ab "list") (g:=fun _=>Ab "dict") h with⟨xs,hS,h⟩|⟨kvs,hS,h⟩
  ·cases h
   obtain⟨vs,z,t⟩:=r.at' i b _ q hS;exact .inl ⟨rfl,vs,SqL.of z⟩
  ·cases h
   obtain⟨vs,z,t⟩:=r.at' i b _ q hS;exact .inr (.inr (.inl ⟨rfl,.inl ⟨vs,z⟩⟩))
 |non=>cases h;exact absurd hT (by decide)
 |bl b=>cases h;exact absurd hT (by decide)
 |tup xs=>cases h;exact absurd hT (by decide)
 |_=>exact nn h
variable {o e:AC}{es:Aa AC}{fo:DE}{fa:DA}{name:As}{apos cpos:Cz}{T id:Bo}{g:D→Aa D→Sto→Res D}
theorem JM {P:Hp}{α : Aa Ad}{a:D}{S:Sto}{β : Type}{k:Res β}{Ok:β→Sto→Prop}(h:qJ X P α (if (tyD a S == Ab T)=true then k else .bad) Ok):tyD a S=Ab T∧qJ X P α k Ok:=by
 by_cases z:(tyD a S == Ab T)=true
 ·rw[AA z] at h;exact⟨EW.mp z,h⟩
 ·rw[A0 z] at h;exact Am h
theorem M3 (pa:PlainAttrs T)(slot:Slot T name id)(hty:typeOf (.builtin id)=pure (.type "method_descriptor"))(hT:T = "list" ∨ T = "dict" ∨ T = "int" ∨ T = "str")(hm:MtD X id g)(ho:PE X o (tD X fo))(ha:PA X (e::es) (tDA X fa))
  (hbase:attributeBase o name X.env (eval o X.env)=eval o X.env:=by rfl)
  (hfew:((CP cpos (Az (e::es) X.env)).all (fun x=>!x.1)&&(backToKw cpos (keywordEach [] X.env)).all (fun x=>x.1.isSome)
   && decide ((e::es).length+([]:Aa OE).length+(if ([] : Aa OE).isEmpty then 0 else 1)<30))=true:=by rfl)
  (hline:(apos.endLine == cpos.line)=true:=by rfl) (hs:Az (e::es) X.env=(false,eval e X.env)::Az es X.env:=by rfl) (hplain:(CP cpos (Az es X.env)).any (·.1)=false:=by rfl) :
  PE X (.Call (.Attribute o name apos) (e::es) [] cpos) (tD X (dBm T g fo fa)):=by
 intro pins s σ H Q I h;obtain⟨P,α,env,S,r,re,af⟩:=h;refine wpAny_Call_method_late hbase hfew hline rfl (thn (x0 ho I r re af) fun vv s1 ⟨v,H1,P1,α1,d,S1,G1,af1⟩=>?_);obtain⟨ht,af2⟩:=JM af1;obtain⟨h1,h2⟩:=FK G1.inv G1.val (FL G1.rel G1.rep ht hT);refine⟨T,id,pa,slot,hty,h1,h2,?_⟩;have hA:=w9 ha G1.inv G1.rel G1.env (P:=P1) (α:=α1) (Ok:=OkV X P1 α1 Q) (qU.base G1.same G1.pre (r:=(fa env S1).bind fun ds S2=>g d ds S2) af2) cpos;rw[hs] at hA ⊢;refine Calls.callWith_builtin (by show (false||(CP cpos (Az es X.env)).any (·.1))=false;rw[hplain] <;> rfl) (Jm ?_)
 exact thn hA fun us s2 ⟨vs,H2,P2,α2,ds,S2,I2,rv,r2,re2,rp2,e1,e2,af3⟩=>hm pins σ H2 s2 P2 α2 S2 v vv vs us d ds Q I2 r2 G1.val (Rep.mono e1 e2 _ _ G1.rep) rv rp2 (qU.base e1 e2 af3)
def xY:D→Aa D→Sto→Res D:=fun a ds S=>match a,ds with
 |.loc i,[d]=>match S[i]? with
  |some (.lst xs)=>if xs.length<lim then .ok .non (S.set i (.lst (xs++[d]))) else .bad
  |_=>.bad
 |_,_=>.bad
inductive ApV (a:D)(ds:Aa D)(S:Sto):Prop
 |bad (e:xY a ds S=.bad)
 |of (i:Ah) (d:D) (xs:Aa D) (ea:a=.loc i) (ed:ds=[d]) (hS:S[i]? = Ab (.lst xs)) (hl:xs.length<lim) (e:xY a ds S=.ok .non (S.set i (.lst (xs++[d]))))
theorem apV (a:D)(ds:Aa D)(S:Sto):ApV a ds S:=by
 cases a with
 |loc i =>
  cases ds with
  |nil=>exact .bad rfl
  |cons d ds =>
   cases ds with
   |cons _ _=>exact .bad rfl
   |nil =>
    have z:xY (.loc i) [d] S=(match S[i]? with|some (.lst xs)=>(if xs.length<lim then .ok .non (S.set i (.lst (xs++[d]))) else .bad)|_=>.bad):=rfl
    cases hS:S[i]? with
    |none=>rw[hS] at z;exact .bad z
    |some m =>
     rw[hS] at z;cases m with
     |lst xs =>
      by_cases hl:xs.length<lim
      ·exact .of i d xs rfl rfl hS hl (z.trans (AA hl))
      ·exact .bad (z.trans (A0 hl))
     |_=>exact .bad z
 |_=>exact .bad rfl
theorem aS:MtD X "list.append" xY:=by
 intro pins σ H s P α S v vv vs us a ds Q I r rv p rvs rps af;cases apV a ds S with
 |bad e=>rw[e] at af;exact Am af
 |of i d xs ea ed hS hl e =>
  rw[e] at af;subst ea ed;obtain⟨w,u,rfl,rfl,p',q'⟩:=yR rps rvs;simp only[Rep] at p;obtain⟨b,rfl,q⟩:=p;obtain⟨ws,z,t⟩:=r.at' i b _ q hS;refine aX pins s σ H (.ref b) [w] vv [u] Q I rv (.cons q' .nil) ⟨b,ws,w,rfl,rfl,z,by rw[← t.length,← zS];exact hl,?_⟩
  exact xr af (r.put (m':=.lst (xs++[d])) q hS (by intro z;cases z) ⟨ws++[w],qZ,t.append (.cons p' .nil)⟩) (by simp only[Rep])
end
def wT:D→Ak Key
 |.int i=>Ab (.inl i)
 |.str x=>Ab (.inr x)
 |_=>none
def xJ (kvs:Aa (Key × D))(k:Key):Ak D:=(kvs.find? fun kv=>decide (kv.1=k)).map (·.2)
def yB (kvs:Aa (Key × D))(k:Key)(v:D):Aa (Key × D):=
 if (kvs.any fun kv=>decide (kv.1=k))=true then kvs.map (fun kv=>if kv.1=k then (kv.1,v) else kv) else kvs++[(k,v)]
section
variable {K:Ai}{P:Hp}{α : Aa Ad}
theorem fP {kvs:Aa (Key × D)}{vs:Aa (Key × V)}(r:KVs K P α kvs vs):kvs.length=vs.length:=Paired.length r
theorem fQ {k:Key}:∀ {kvs:Aa (Key × D)} {vs:Aa (Key × V)},KVs K P α kvs vs→(∀ d,xJ kvs k=Ab d→∃ v,yF vs k=Ab v∧Rep K P α d v)∧(xJ kvs k=none→yF vs k=none)
 |_,_,.nil=>⟨fun d h=>by simp[xJ] at h,fun _=>rfl⟩
 |(k1,d1)::kvs,(k2,v2)::vs,.cons z t=>by
  obtain⟨e,r⟩:=z;dsimp only at e r;subst e;obtain⟨h1,h2⟩:=fQ (k:=k) t;unfold xJ yF at *;by_cases hk:k1=k
  ·subst hk
   constructor
   ·intro d h
    simp at h;subst h;exact⟨v2,by simp,r⟩
   ·intro h
    simp at h
  ·constructor
   ·intro d h
    rw[IH (by simpa using hk)] at h ⊢
    exact h1 d h
   ·intro h
    rw[IH (by simpa using hk)] at h ⊢
    exact h2 h
theorem YT {k:Key}{kvs:Aa (Key × D)}{vs:Aa (Key × V)}(h:KVs K P α kvs vs):(kvs.any fun kv=>decide (kv.1=k))=(vs.any fun kv=>decide (kv.1=k)):=by
 induction h with
 |nil=>rfl
 |cons z t ih=>rw[Gj,Gj,ih,z.1]
theorem YV {k:Key}{d:D}{v:V}(q:Rep K P α d v){kvs:Aa (Key × D)}{vs:Aa (Key × V)}(h:KVs K P α kvs vs):KVs K P α (kvs.map fun kv=>if kv.1=k then (kv.1,d) else kv) (vs.map fun kv=>if kv.1=k then (kv.1,v) else kv):=by
 induction h with
 |nil=>exact .nil
 |cons z t ih =>
  rw[Bk,Bk];refine .cons ?_ ih;rw[← z.1]
  split
  ·exact⟨rfl,q⟩
  ·exact z
theorem YU {k:Key}{d:D}{v:V}(q:Rep K P α d v){kvs:Aa (Key × D)}{vs:Aa (Key × V)}(h:KVs K P α kvs vs):KVs K P α (kvs++[(k,d)]) (vs++[(k,v)]):=by
 induction h with
 |nil=>exact .cons ⟨rfl,q⟩ .nil
 |cons z t ih=>exact .cons z ih
theorem sF {k:Key}{d:D}{v:V}(q:Rep K P α d v){kvs:Aa (Key × D)}{vs:Aa (Key × V)}(r:KVs K P α kvs vs):KVs K P α (yB kvs k d) (yC vs k v):=by
 unfold yB yC;rw[YT r]
 split
 ·exact YV q r
 ·exact YU q r
theorem nV {d:D}{k:Key}{v:V}(h:wT d=Ab k)(r:Rep K P α d v):v=kV k:=by
 cases d with
 |int i=>cases h;simp only[Rep] at r;exact r
 |str x=>cases h;simp only[Rep] at r;exact r
 |_=>cases h
end
section
variable {X:Cx}{o i e:AC}{pos:Cz}{fo fi:DE}
def rS:DE:=fun _ S=>.ok (.loc S.length) (S++[.dct []])
theorem JQ:PE X (.Dict [] [] pos) (tD X rS):=by
 refine peW ZH fun σ H Q ⟨P,α,env,S,r,re,af⟩ p hp=>?_;have hpre:α<+:α++[p]:=Fm _ _;have r1:=r.new (o:=.dK []) (m:=.dct []) hp ⟨[],qZ,.nil⟩;refine af _ _ _ _ r1 (qH.refl _) hpre ?_;simp only[Rep];exact⟨p,rfl,by rw[← r.len];simp⟩
def vL:G3:=fun o i d S=>match o with
 |.loc n=>match S[n]? with
  |some (.dct kvs)=>match wT i with
   |some k=>if kvs.length<lim then .ok () (S.set n (.dct (yB kvs k d))) else .bad
   |none=>.bad
  |_=>fK o i d S
 |_=>fK o i d S
inductive Set2V (a b d:D)(S:Sto):Prop
 |bad (e:vL a b d S=.bad)
 |old (e:vL a b d S=fK a b d S)
 |of (n:Ah) (kvs:Aa (Key × D)) (k:Key) (ea:a=.loc n) (hS:S[n]? = Ab (.dct kvs)) (hk:wT b=Ab k) (hl:kvs.length<lim) (e:vL a b d S=.ok () (S.set n (.dct (yB kvs k d))))
theorem TX (a b d:D)(S:Sto):Set2V a b d S:=by
 cases a with
 |loc n =>
  have z:vL (.loc n) b d S=(match S[n]? with|some (.dct kvs)=>(match wT b with|some k=>(if kvs.length<lim then .ok () (S.set n (.dct (yB kvs k d))) else .bad)|none=>.bad)|_=>fK (.loc n) b d S):=rfl
  cases hS:S[n]? with
  |none=>rw[hS] at z;exact .old z
  |some m =>
   rw[hS] at z;cases m with
   |dct kvs =>
    cases hk:wT b with
    |none=>rw[hk] at z;exact .bad z
    |some k =>
     rw[hk] at z;by_cases hl:kvs.length<lim
     ·exact .of n kvs k rfl hS hk hl (z.trans (AA hl))
     ·exact .bad (z.trans (A0 hl))
   |_=>exact .old z
 |_=>exact .old rfl
theorem F8 (hu:X.A.units+1<CI):tO X (tM X vL):=by
 intro pins s σ H o i v ov iv u Q I ro ri rv h;obtain⟨P,α,S,a,b,d,r,pa,pb,pd,af⟩:=h;cases TX a b d S with
 |bad e=>rw[e] at af;exact Am af
 |old e =>
  rw[e] at af;exact TY pins s σ H o i v ov iv u Q I ro ri rv ⟨P,α,S,a,b,d,r,pa,pb,pd,af⟩
 |of n kvs k ea hS hk hl e =>
  rw[e] at af;subst ea;simp only[Rep] at pa;obtain⟨p,rfl,q⟩:=pa;obtain⟨vs,z,t⟩:=r.at' n p _ q hS;cases nV hk pb;cases (show ov=AY p from ro)
  refine cH hu I (bU.k (v:=v) z (by rw[← fP t,← zS];exact hl)) ri rv fun s' I'=>⟨_,I',?_⟩
  exact af _ P α (r.put (m':=.dct (yB kvs k d)) q hS (by intro z;cases z) ⟨_,qZ,sF pd t⟩) (qH.refl _) (AD _)
def D7:D→Aa D→Sto→Res D:=fun a ds S=>match a,ds with
 |.loc n,[i,x]=>match S[n]? with
  |some (.dct kvs)=>match wT i with
   |some k=>.ok ((xJ kvs k).getD x) S
   |none=>.bad
  |_=>.bad
 |_,_=>.bad
def bB:D→Aa D→Sto→Res D:=fun a ds S=>match a,ds with
 |.lst xs,[.bl k]=>match yJ xs with
  |some bs=>.ok (.int (bs.countP (· == k):Ah)) S
  |none=>.bad
 |_,_=>.bad
def fN (k:Ao):Aa Ao→Ak Ah
 |[]=>none
 |b::r=>if b=k then Ab 0 else (fN k r).map (· + 1)
def bC:D→Aa D→Sto→Res D:=fun a ds S=>match a,ds with
 |.lst xs,[.bl k]=>match (yJ xs).bind (fN k) with
  |some j=>.ok (.int j) S
  |none=>.bad
 |_,_=>.bad
theorem nH (k:Ao){bs:Aa Ao}{y:Ac}(hy:y∈(bs.map CN).toArray):OT y (.bool k) (II k y):=by
 have hy':y∈bs.map CN:=by rwa [List.mem_toArray] at hy
 obtain⟨b,_,rfl⟩:=AE.mp hy';exact fun prog w A E s Q h=>Oy b k prog w E Q h
theorem d7 (k:Ao)(bs:Aa Ao):(bs.map CN).countP (II k)=bs.countP (· == k):=by
 rw[List.countP_map];rfl
theorem tP {β : Type}{r:Res β}{P:Hp}{α : Aa Ad}{Ok:β→Sto→Prop}(e:r=.bad)(h:qJ X P α r Ok):Cq:=by
 rw[e] at h;exact h
inductive BlV (a:D)(ds:Aa D):Prop
 |no (h:∀ (g:Aa D→Ao→Res D),(match a,ds with|.lst xs,[.bl k]=>g xs k|_,_=>.bad)=.bad)
 |of (xs:Aa D) (k:Ao) (ea:a=.lst xs) (ed:ds=[.bl k])
theorem blV (a:D)(ds:Aa D):BlV a ds:=by
 cases a with
 |lst xs =>
  cases ds with
  |nil=>exact .no fun _=>rfl
  |cons d ds =>
   cases ds with
   |cons _ _=>cases d <;> exact .no fun _=>rfl
   |nil =>
    cases d with
    |bl k=>exact .of xs k rfl rfl
    |_=>exact .no fun _=>rfl
 |_=>exact .no fun _=>rfl
theorem Z7:MtD X "list.count" bB:=by
 intro pins σ H s P α S v vv vs us a ds Q I r rv p rvs rps af;cases blV a ds with
 |no h=>exact(tP (X:=X) (r:=bB a ds S) (h _) af).elim
 |of xs k ea ed =>
  subst ea ed;have af:qJ X P α (match yJ xs with|some bs=>Res.ok (D.int (bs.countP (· == k):Ah)) S|none=>.bad) (OkV X P α Q):=af
  cases hb:yJ xs with
  |none=>rw[hb] at af;exact Am af
  |some bs =>
   rw[hb] at af;obtain⟨vx,ux,rfl,rfl,px,qx⟩:=yR rps rvs;simp only[Rep] at px;subst px;cases (show ux=CN k from qx)
   obtain⟨b,ws,its,n,rfl,sq,t,rvi,ht,hl,_⟩:=vU I r p;cases (show vv=AY b from rv)
   have hi:=jO hb t rvi;subst hi;refine Hi Il ⟨_,ht,rfl⟩ PySem.F.entry_list_count (PySem.F.args_list_count_2 _ _) (PySem.SeqAt.list_countAt b (bs.map CN).toArray n none #[] (.bool k) (II k)) ⟨ht,fun y hy=>(nH k hy).at _ _,?_⟩;refine⟨.int _,H,I.tok _,⟨_,rfl⟩,?_⟩;rw[show (bs.map CN).toArray.toList=bs.map CN from rfl,d7]
   exact xr af r (by simp only[Rep])
theorem sB {k:Ao}:∀ {bs:Aa Ao} {j:Ah},fN k bs=Ab j→∃ h:j<bs.length,bs[j]=k∧∀ m (hm:m<bs.length),m<j→bs[m]≠k
 |[],j,h=>by cases h
 |b::r,j,h=>by
  unfold fN at h;by_cases hb:b=k
  ·rw[AA hb] at h
   cases h;exact⟨by simp,by simpa using hb,fun m hm z=>absurd z (Nat.not_lt_zero _)⟩
  ·rw[A0 hb] at h
   obtain⟨i,hi,rfl⟩:=CB.mp h;obtain⟨h1,h2,h3⟩:=sB hi;refine⟨by simp;omega,by simpa using h2,fun m hm hl=>?_⟩
   cases m with
   |zero=>simpa using hb
   |succ m=>simpa using h3 m (by simp at hm;omega) om
theorem Z8:MtD X "list.index" bC:=by
 intro pins σ H s P α S v vv vs us a ds Q I r rv p rvs rps af;cases blV a ds with
 |no h=>exact(tP (X:=X) (r:=bC a ds S) (h _) af).elim
 |of xs k ea ed =>
  subst ea ed;have af:qJ X P α (match (yJ xs).bind (fN k) with|some j=>Res.ok (D.int j) S|none=>.bad) (OkV X P α Q):=af
  cases hj:(yJ xs).bind (fN k) with
  |none=>rw[hj] at af;exact Am af
  |some j =>
   rw[hj] at af;obtain⟨bs,hb,hi⟩:=DP.mp hj;obtain⟨vx,ux,rfl,rfl,px,qx⟩:=yR rps rvs;simp only[Rep] at px;subst px;cases (show ux=CN k from qx)
   obtain⟨b,ws,its,n,rfl,sq,t,rvi,ht,hl,hz⟩:=vU I r p;cases (show vv=AY b from rv)
   have hi':=jO hb t rvi;subst hi';obtain⟨h1,h2,h3⟩:=sB hi;have hlen:bs.length≤sizeLine:=by
    have e1:=t.length;have e2:=rvi.length;rw[A9] at e2;rw[zS] at hz;omega
   refine Hi Im ⟨_,ht,rfl⟩ PySem.F.entry_list_index (PySem.F.args_list_index_2 _ _) (OF b (bs.map CN).toArray n (.bool k) (II k) (fun y hy=>nH k hy) j (by simpa using h1) ?_ ?_ ?_) ⟨ht,?_⟩
   ·rw[Dn] at hlen;omega
   ·simp[II,h2]
   ·intro m hm hl'
    have hm':m<bs.length:=by simpa using hm
    have:=h3 m hm' hl';simp[II,this]
   ·exact⟨.int _,H,I.tok _,⟨_,rfl⟩,xr af r (by simp only[Rep])⟩
end
section
variable {X:Cx}{a b c e:AC}{pos:Cz}{fa fe:DE}
def D9 (i:Ah)(g:G2)(fe:DE):DS:=fun env S=>match env[i]? with
 |some (Ab x)=>(fe env S).toS env fun y S1=>(g x y S1).toS env fun z S2=>.nx (env.set i (Ab z)) S2
 |_=>.bad
def D5:G2:=i2 (fun _ _=>true) fun i j=>.int (i+j)
def yK (xs:Aa D)(lo hi:Ak Aj):Aa D:=(xs.drop (_H.sIx xs.length 0 lo)).take (_H.sIx xs.length xs.length hi-_H.sIx xs.length 0 lo)
abbrev DO:=qD→Sto→Res (Ak Aj)
def OkO (X:Cx)(P:Hp)(α : Aa Ad)(Q:Ak Aj→Hp→Prop)(o:Ak Aj)(S':Sto):Prop:=∀ H' P' α',Rel X.K H' P' α' S'→qH P P'→α<+:α'→Q o H'
def tDO (X:Cx)(f:DO):TO:=fun σ H Q=>∃ P α env S,Rel X.K H P α S∧qV X.K P α σ env∧qJ X P α (f env S) (OkO X P α Q)
def jC:DO:=fun _ S=>.ok none S
def wA (f:DE):DO:=fun env S=>(f env S).bind fun d S1=>match d with
 |.int i=>.ok (Ab i) S1
 |_=>.bad
theorem Y0:PO X none (tDO X jC):=fun pins s σ H Q I ⟨P,α,env,S,r,re,af⟩=>VN pins s σ H Q I (af H P α r (qH.refl _) (AD _))
theorem Y1 (he:PE X e (tD X fe)):PO X (Ab e) (tDO X (wA fe)):=by
 intro pins s σ H Q I h;obtain⟨P,α,env,S,r,re,af⟩:=h;refine VO (te:=tD X fe) he pins s σ H Q I ⟨P,α,env,S,r,re,?_⟩;have af':qJ X P α ((fe env S).bind fun d S1=>match d with|.int i=>.ok (Ab i) S1|_=>.bad) (OkO X P α Q):=af
 cases q:fe env S with
 |bad=>rw[q] at af';exact af'
 |ex c x S'=>rw[q] at af';exact af'
 |ok d S1 =>
  rw[q] at af';intro v H1 P1 α1 r1 e1 e2 rp;cases d with
  |int i=>exact⟨i,xC rp,af' H1 P1 α1 r1 e1 e2⟩
  |_=>exact Am af'
theorem qG.cut {K:Ai}{P:Hp}{α : Aa Ad}{ds:Aa D}{vs:Aa V}(r:qG K P α ds vs)(lo hi:Ak Aj):qG K P α (yK ds lo hi) (kQ vs lo hi):=by
 unfold yK kQ;rw[r.length];exact(r.drop _).take _
def gSl (d:D)(lo hi:Ak Aj)(S:Sto):Res D:=match d with
 |.lst xs=>.ok (.lst (yK xs lo hi)) S
 |.loc i=>match S[i]? with
  |some (.lst xs)=>.ok (.lst (yK xs lo hi)) S
  |_=>.bad
 |.tup xs=>.ok (.tup (yK xs lo hi)) S
 |_=>.bad
def dSl (fe:DE)(fl fh:DO):DE:=fun env S=>(fe env S).bind fun d S1=>(fl env S1).bind fun lo S2=>(fh env S2).bind fun hi S3=>gSl d lo hi S3
end
end _D
namespace _D
open PySem PySem.Spec PyProof.Rows _L _H
section
variable {prog:A5}{w:AO}{A:A8}{E:Ac→Ag→Prop}{s:Ag}
theorem kM {t sl:Ad}{items:A4 Ac}{vl vu:Ac}{lo hi:Ak Aj}{Q:Ac→Ag→Prop}(ht:Ie s.heap t items)(hs:s.heap.IsSliceOf sl vl vu .none)(pl:Hz vl lo)(pu:Hz vu hi)
  (hw:sIx items.size 0 lo=0∧sIx items.size items.size hi=items.size) (h:Q (.ref t) s):An (Ar prog w) A (Fu (.ref t) (.ref sl)) Q E s:=by
 obtain⟨ob,hob,hcb,_⟩:=id hs;have hTs:s.TypeIs (.ref sl) "slice":=⟨ob,hob,hcb⟩;unfold Fu
 try with_reducible refine CJ ?_
 first|refine Af (Aq ?_)|skip
 refine Af (Mb ht.typeIs (by decide) ?_)
 refine Af (Ct (name:=Eu "__getitem__") ht.typeIs Cs
  (Dl Cs ht.typeIs Jz ?_ (Kt _ _)))
 show An _ _ (H8 (.ref t) >>= _) _ _ s;refine Af (tupleItemsOf_ ht ?_);refine Af (Lc hTs ?_);rw[AA (by decide)]
 refine Af (uM hs pl pu ?_);show An _ _ (if (((sIx items.size 0 lo:Ah):Aj) == 0&&(1:Aj) == 1&&(sIx items.size items.size hi-sIx items.size 0 lo) == items.size)=true then _ else _) _ _ s
 rw[hw.1,hw.2,AA (by simp)]
 unfold O0;refine Af (Af (Lc ht.typeIs (Aq ?_)));rw[AA (by decide)]
 exact Af (DJ (Aq ⟨_,rfl,Aq h⟩))
end
section
variable {X:Cx}{e:AC}{fe:DE}{pos p2:Cz}
def LA (X:Cx):V→Ak Aj→Ak Aj→Hp→VK→Prop:=fun x lo hi H Q=>∃ P α S d,Rel X.K H P α S∧Rep X.K P α d x∧qU X P α (gSl d lo hi S) Q
theorem LD:SlR X (LA X):=by
 intro pins s σ H x v vl vu lo hi sl Q I rx hs pl pu h;obtain⟨P,α,S,d,r,p,af⟩:=h;cases d with
 |lst xs =>
  simp only[Rep] at p;obtain⟨a,vs,rfl,q,t⟩:=p;exact rB pins s σ H _ v vl vu lo hi sl Q I rx hs pl pu ⟨a,vs,rfl,(xU r.sub q).l,fun b hb=>vD r hb (qG.cut t lo hi) af⟩
 |loc i =>
  obtain⟨xs,hS,af⟩:=k9 (X:=X) (f:=fun xs=>Res.ok (D.lst (yK xs lo hi)) S) af;simp only[Rep] at p;obtain⟨a,rfl,q⟩:=p;obtain⟨vs,z,t⟩:=r.at' i a _ q hS;exact rB pins s σ H _ v vl vu lo hi sl Q I rx hs pl pu ⟨a,vs,rfl,SqL.of z,fun b hb=>vD r hb (qG.cut t lo hi) af⟩
 |tup xs =>
  have p0:=p;simp only[Rep] at p;obtain⟨a,vs,rfl,q,t⟩:=p;by_cases hw:sIx vs.length 0 lo=0∧sIx vs.length vs.length hi=vs.length
  ·cases rx
   obtain⟨its,rv,ht,hz⟩:=I.tuple (w4 r.sub q);have hlen:its.toArray.size=vs.length:=by rw[AB];exact rv.length.symm
   refine⟨"tuple",_,Cs.lookup,ht.typeIs,kM ht hs pl pu (by rw[hlen];exact hw) ⟨.ref a,H,I,rfl,xr af r ?_⟩⟩
   have e:yK xs lo hi=xs:=by
    unfold yK;rw[t.length,hw.1,hw.2,← t.length];simp
   rw[e];exact p0
  ·exact F9 pins s σ H _ v vl vu lo hi sl Q I rx hs pl pu ⟨a,vs,rfl,w4 r.sub q,hw,fun b hb=>pS r hb (qG.cut t lo hi) af⟩
 |_=>exact Am af
theorem Q1 {lo hi:Ak AC}{fl fh:DO}(he:PE X e (tD X fe))(hl:PO X lo (tDO X fl))(hu:PO X hi (tDO X fh)):PE X (.Subscript e (.Slice lo hi none p2) pos) (tD X (dSl fe fl fh)):=
 peW (ZI LD he hl hu) fun σ H Q ⟨P,α,env,S,r,re,af⟩=>by
  refine⟨P,α,env,S,r,re,?_⟩;have af':qJ X P α ((fe env S).bind fun d S1=>(fl env S1).bind fun lo S2=>(fh env S2).bind fun hi S3=>gSl d lo hi S3) (OkV X P α Q):=af;cases q:fe env S with
  |bad=>rw[q] at af';exact af'
  |ex c x S'=>rw[q] at af';exact af'
  |ok d S1 =>
   rw[q] at af';intro v H1 P1 α1 r1 e1 e2 rp;refine⟨P1,α1,env,S1,r1,re.mono e1 e2,?_⟩;have af2:qJ X P1 α1 ((fl env S1).bind fun lo S2=>(fh env S2).bind fun hi S3=>gSl d lo hi S3) (OkV X P1 α1 Q):=qU.base e1 e2 af';cases q2:fl env S1 with
   |bad=>rw[q2] at af2;exact af2
   |ex c x S'=>rw[q2] at af2;exact af2
   |ok l S2 =>
    rw[q2] at af2;intro H2 P2 α2 r2 e3 e4;refine⟨P2,α2,env,S2,r2,(re.mono e1 e2).mono e3 e4,?_⟩;have af3:qJ X P2 α2 ((fh env S2).bind fun hi S3=>gSl d l hi S3) (OkV X P2 α2 Q):=qU.base e3 e4 af2;cases q3:fh env S2 with
    |bad=>rw[q3] at af3;exact af3
    |ex c x S'=>rw[q3] at af3;exact af3
    |ok u S3 =>
     rw[q3] at af3;intro H3 P3 α3 r3 e5 e6;exact⟨P3,α3,S3,d,r3,Rep.mono (e3.trans e5) (e4.trans e6) _ _ rp,qU.base e5 e6 af3⟩
def j0 (d:D)(S:Sto):Res D:=match d with
 |.int i=>if i.natAbs.log2<1920 then .ok (.str (toString i)) S else .bad
 |.str x=>if x.length≤lim then .ok (.str x) S else .bad
 |_=>.bad
set_option tactic.hygienic true in
theorem JR (he:PE X e (tD X fe)):PE X (.FormattedValue e (-1) none pos) (tD X (d1 j0 fe)):=by
 intro pins s σ H Q I h;obtain⟨P,α,env,S,r,re,af⟩:=h;refine FormattedValue_plain (thn (x0 he I r re af) fun vv s1 ⟨v,H1,P1,α1,d,S1,G1,af1⟩=>?_);have p:=G1.rep;have rv:=G1.val;have af2:=qU.base G1.same G1.pre af1;cases d with
 |int i =>
  simp only[j0] at af2
  split at af2
  ·rename_i hd
   simp only[Rep] at p;subst p;obtain⟨t,rfl⟩:=rv;exact formatField_int_small hd ⟨.str _,H1,G1.inv.tok _,⟨_,rfl⟩,xr af2 G1.rel (by simp only[Rep])⟩
  ·exact Am af2
 |str x =>
  simp only[j0] at af2
  split at af2
  ·rename_i hd
   simp only[Rep] at p;subst p;obtain⟨t,rfl⟩:=rv;exact formatField_str (fun t' tk=>⟨.str _,H1,G1.inv.tok _,⟨_,rfl⟩,xr af2 G1.rel (by simp only[Rep])⟩) (by rw[← zS];exact hd)
  ·exact Am af2
 |_=>exact Am af2
def jY (out:As):Aa DE→qD→Sto→Res D
 |[],_,S=>if out.length≤lim then .ok (.str out) S else .bad
 |p::ps,env,S=>(p env S).bind fun d S1=>match d with
  |.str y=>if (out++y).length≤lim then jY (out++y) ps env S1 else .bad
  |_=>.bad
def PJ (X:Cx)(es:Aa AC)(fs:Aa DE):Prop:=
 ∀ (out:As) (pins:Aa (Ad × AV)) (s:Ag) (σ : _L.St) (H P:Hp) (α : Aa Ad) (env:qD) (S:Sto) (Q:VK),Inv X pins σ H s→Rel X.K H P α S→qV X.K P α σ env→qU X P α (jY out fs env S) Q →
  An (Ar X.prog X.w) X.A (joinParts out (evalEach es X.env)) (EP X pins σ Q) X.xe s
theorem B6:PJ X [] []:=by
 intro out pins s σ H P α env S Q I r re af;obtain⟨hl,af⟩:=wX (X:=X) af;exact joinParts_nil ⟨.str _,H,I.tok _,⟨_,rfl⟩,xr af r (by simp only[Rep])⟩ (by rw[← zS];exact hl)
theorem VL {es:Aa AC}{fs:Aa DE}(he:PE X e (tD X fe))(hr:PJ X es fs):PJ X (e::es) (fe::fs):=by
 intro out pins s σ H P α env S Q I r re af;have af:qJ X P α ((fe env S).bind fun d S1=>match d with|.str y=>if (out++y).length≤lim then jY (out++y) fs env S1 else .bad|_=>.bad) (OkV X P α Q):=af
 refine joinParts_cons (thn (x0 he I r re af) fun vv s1 ⟨v,H1,P1,α1,d,S1,G1,af1⟩=>?_);cases d with
 |str y =>
  have p:=G1.rep;simp only[Rep] at p;subst p;obtain⟨t,rfl⟩:=G1.val;obtain⟨hl,af1⟩:=wX (X:=X) af1;exact⟨by rw[← zS];exact hl,hr (out++y) pins s1 σ H1 P1 α1 env S1 Q G1.inv G1.rel G1.env (qU.base G1.same G1.pre af1)⟩
 |_=>exact Am af1
def tB (fs:Aa DE):DE:=fun env S=>jY EU fs env S
theorem WS {v₁ v₂:AC}{rest:Aa AC}{fs:Aa DE}(h:PJ X (v₁::v₂::rest) fs):PE X (.JoinedStr (v₁::v₂::rest) pos) (tD X (tB fs)):=by
 intro pins s σ H Q I hq;obtain⟨P,α,env,S,r,re,af⟩:=hq;exact JoinedStr_many (h EU pins s σ H P α env S Q I r re af)
end
end _D
namespace _D
open PySem PySem.Spec PyProof.Rows _L
def zC (tp:Ao)(h:AF)(it l:Ad)(k:Ah):Prop:=if tp then h.IsTupleIter it l k else h.IsListIter it l k
def xL (tp:Ao)(h:AF)(l:Ad)(xs:A4 Ac):Prop:=if tp then h.IsTuple l xs else h.IsList l xs
theorem zC.keep {tp:Ao}{h h':AF}{it l:Ad}{k:Ah}(x:zC tp h it l k)(q:∀ o,h.get? it=Ab o→h'.get? it=Ab o):zC tp h' it l k:=by
 cases tp <;> (obtain⟨o,e,r⟩:=x;exact⟨o,q o e,r⟩)
theorem xL.keep {tp:Ao}{h h':AF}{l:Ad}{xs:A4 Ac}(x:xL tp h l xs)(q:∀ o,h.get? l=Ab o→h'.get? l=Ab o):xL tp h' l xs:=by
 cases tp <;> (obtain⟨o,e,r⟩:=x;exact⟨o,q o e,r⟩)
theorem zC.there {tp:Ao}{h:AF}{it l:Ad}{k:Ah}(x:zC tp h it l k):∃ o,h.get? it=Ab o∧∀ v,o.data≠.cell v:=by
 cases tp <;> (obtain⟨o,e,_,d⟩:=x;exact⟨o,e,fun v z=>by rw[d] at z;cases z⟩)
section
variable {prog:A5}{w:AO}{A:A8}{E:Ac→Ag→Prop}{s:Ag}
theorem ZE {it t:Ad}{i:Ah}{items:A4 Ac}{x:Ac}{Q:Ac→Ag→Prop}(hit:s.heap.IsTupleIter it t i)(ht:s.heap.IsTuple t items)(hx:items[i]? = Ab x)
  (hQ:∀ h',h'.IsTupleIter it t (i+1)→CL it s.heap h'→Q x { s with heap:=h' }) : An (Ar prog w) A (Bt (.ref it)) Q E s:=by
 obtain⟨o,e,c,d⟩:=id hit;obtain⟨u,eu,_,m,du⟩:=ht;unfold Bt;refine Af (Ct (name:=Eu "__next__") hit.typeIs DW (Dl DW hit.typeIs Ho ?_ (Hj _)));show An _ _ (field (.ref it) 0 >>= _) _ _ s;refine Af (Bx e d (x:=.ref t) rfl ?_);show An _ _ (if (AY t == Br)=true then _ else _) _ _ s;rw[A0 (show ¬ ((AY t == Br)=true) from Dh)]
 show An _ _ (field (.ref it) 1 >>= _) _ _ s;refine Af (Bx e d (x:=.int i 0) rfl ?_);show An _ _ (seqItems? (.ref t) >>= _) _ _ s;refine Af (CZ eu du ?_);simp only[Fz,hx];refine Af (wpAny_setField e d (by simp) (Aq ⟨x,rfl,Aq (hQ _ ⟨_,EB _ e (Obj.isFreed_of_fields (Kx d _)),(Obj.cls_mapFields ..).trans c,?_⟩ (Ki ..))⟩))
 rw[Kx d];simp[HV]
theorem lC {it t:Ad}{i:Ah}{items:A4 Ac}{Q:Ac→Ag→Prop}(hh:A.handled=none)(hit:s.heap.IsTupleIter it t i)(ht:s.heap.IsTuple t items)(hx:items[i]? = none)
  (hE:∀ h' e,OX it s.heap h'→(∃ o,h'.get? e=Ab o∧o.cls=.type "StopIteration")→E (.ref e) { s with heap:=h' }) : An (Ar prog w) A (Bt (.ref it)) Q E s:=by
 obtain⟨o,e,c,d⟩:=id hit;obtain⟨u,eu,_,m,du⟩:=ht;unfold Bt;refine Af (Ct (name:=Eu "__next__") hit.typeIs DW (Dl DW hit.typeIs Ho ?_ (Hj _)));show An _ _ (field (.ref it) 0 >>= _) _ _ s;refine Af (Bx e d (x:=.ref t) rfl ?_);show An _ _ (if (AY t == Br)=true then _ else _) _ _ s;rw[A0 (show ¬ ((AY t == Br)=true) from Dh)]
 show An _ _ (field (.ref it) 1 >>= _) _ _ s;refine Af (Bx e d (x:=.int i 0) rfl ?_);show An _ _ (seqItems? (.ref t) >>= _) _ _ s;refine Af (CZ eu du ?_);simp only[Fz,hx];refine Af (DJ (Af (wpAny_setField e d (by simp) ?_)))
 show An _ _ (newExc (.type "StopIteration") [] >>= _) _ _ _;refine Af ?_;simp only[newExc,newTuple];refine Af (CV ?_ (by size_fits))
 refine Af (m:=firstArgMember _ _) (IY (a:=Br) (by first|rfl|(simp only[firstArgMember];rfl)) (CV ?_ (by size_fits)))
 simp only[raiseNew];refine Af (wpAny_handled ?_)
 first|rw[show A.in1.handled=none from hh]|rw[hh]
 exact Af (Aq (wpAny_throw (hE _ _ (((Ki ..).extBut.push _).push _) ⟨_,AN _ rfl,rfl⟩)))
theorem k8 {tp:Ao}{it l:Ad}{k:Ah}{xs:A4 Ac}{x:Ac}{Q:Ac→Ag→Prop}(hit:zC tp s.heap it l k)(hl:xL tp s.heap l xs)(hx:xs[k]? = Ab x)
  (hQ:∀ h',zC tp h' it l (k+1)→CL it s.heap h'→Q x { s with heap:=h' }) : An (Ar prog w) A (Bt (.ref it)) Q E s:=by
 cases tp with
 |false=>exact wpAny_nextOf_list_item hit hl hx hQ
 |true=>exact ZE hit hl hx hQ
theorem uK {tp:Ao}{it l:Ad}{k:Ah}{xs:A4 Ac}{Q:Ac→Ag→Prop}(hh:A.handled=none)(hit:zC tp s.heap it l k)(hl:xL tp s.heap l xs)(hx:xs[k]? = none)
  (hE:∀ h' e,OX it s.heap h'→(∃ o,h'.get? e=Ab o∧o.cls=.type "StopIteration")→E (.ref e) { s with heap:=h' }) : An (Ar prog w) A (Bt (.ref it)) Q E s:=by
 cases tp with
 |false=>exact wpAny_nextOf_list_end hh hit hl hx hE
 |true=>exact lC hh hit hl hx hE
structure ZA (z I O i j:Ad):Prop where
 Iz:I≠z
 Oz:O≠z
 iz:i≠z
 jz:j≠z
 IO:I≠O
 Ii:I≠i
 Ij:I≠j
 Oi:O≠i
 Oj:O≠j
 ij:i≠j
structure Off (z O i j a:Ad):Prop where
 z:a≠z
 O:a≠O
 i:a≠i
 j:a≠j
abbrev oD (z O i j:Ad)(h h':AF):Prop:=∀ c o,c≠z→c≠O→c≠i→c≠j→h.get? c=Ab o→h'.get? c=Ab o
theorem XD {tp tq:Ao}{z I O i j a b:Ad}{k:Ah}{xs ys:A4 Ac}{x y p q:Ac}{Q:Ac→Ag→Prop}(D:ZA z I O i j)(Da:Off z O i j a)(Db:Off z O i j b)
  (hz:Hq s.heap z I O .none) (hI:DX s.heap I (.ref i) (.ref j)) (hO:DX s.heap O p q) (h1:zC tp s.heap i a k) (h2:zC tq s.heap j b k) (ha:xL tp s.heap a xs) (hb:xL tq s.heap b ys) (hx:xs[k]? = Ab x) (hy:ys[k]? = Ab y)
  (hQ:∀ h',Hq h' z I O (HV s.heap.objs.size)→DX h' O x y→zC tp h' i a (k+1)→zC tq h' j b (k+1)→DX h' s.heap.objs.size x y→h'.objs.size=s.heap.objs.size+1→oD z O i j s.heap h'→Q (.ref s.heap.objs.size) { s with heap:=h' }) :
  An (Ar prog w) A (EK.«zip.__next__» ⟨[.ref z],[]⟩) (fun fin s'=>∃ v,fin=.done (.ret v)∧Q v s') E s:=by
 show An _ _ (field (.ref z) 2 >>= _) _ _ _;refine Af (Bx hz rfl (x:=.bool false) rfl ?_);show An _ _ (field (.ref z) 3 >>= _) _ _ _;refine Af (Bx hz rfl (x:=.ref I) rfl (Af (CZ hI rfl ?_)));show An _ _ (Cb (.ref z) >>= _) _ _ _;refine Af ?_;unfold Cb;refine Af (Bx hz rfl (x:=.none) rfl (Aq ?_));simp only[AZ];refine Af (DJ (Af (Bx hz rfl (x:=.ref O) rfl (Af (Cj hz (by simp) fun g1 z1 s1=>?_)))))
 replace z1:Hq g1 z I O .ellipsis:=z1
 refine Af ?_;simp only[HY,Nu,Ff,Hn];refine Af (Af (HJ ?_));show An _ _ (Bt (.ref i) >>= _) _ _ _;refine Af (k8 (h1.keep fun o e=>s1.extBut _ _ D.iz e) (ha.keep fun o e=>s1.extBut _ _ Da.z e) hx fun g2 i2 s2=>Aq ?_);have O2:DX g2 O p q:=s2.extBut _ _ D.Oi (s1.extBut _ _ D.Oz hO);refine Af (CZ O2 rfl (Af (Gq O2 fun g3 O3 s3=>Af (ED (Aq ?_)))))
 replace O3:DX g3 O x q:=O3
 refine Af (Af (HJ ?_));show An _ _ (Bt (.ref j) >>= _) _ _ _;refine Af (k8 (h2.keep fun o e=>s3.extBut _ _ D.Oj.symm (s2.extBut _ _ D.ij.symm (s1.extBut _ _ D.jz e))) (hb.keep fun o e=>s3.extBut _ _ Db.O (s2.extBut _ _ Db.i (s1.extBut _ _ Db.z e))) hy fun g4 j4 s4=>Aq ?_);have O4:DX g4 O x q:=s4.extBut _ _ D.Oj O3;refine Af (CZ O4 rfl (Af (Gq O4 fun g5 O5 s5=>Af (ED (Aq (Aq ?_))))))
 replace O5:DX g5 O x y:=O5
 refine Af (CZ O5 rfl (Af (Ji ?_)));have sz:g5.objs.size=s.heap.objs.size:=by rw[s5.1,s4.1,s3.1,s2.1,s1.1]
 have z5:Hq g5 z I O .ellipsis:=s5.extBut _ _ D.Oz.symm (s4.extBut _ _ D.jz.symm (s3.extBut _ _ D.Oz.symm (s2.extBut _ _ D.iz.symm z1)));have k5:oD z O i j s.heap g5:=fun c o c1 c2 c3 c4 e=>s5.extBut _ _ c2 (s4.extBut _ _ c4 (s3.extBut _ _ c2 (s2.extBut _ _ c3 (s1.extBut _ _ c1 e))));have i5:zC tp g5 i a (k+1):=i2.keep fun o e=>s5.extBut _ _ D.Oi.symm (s4.extBut _ _ D.ij (s3.extBut _ _ D.Oi.symm e));have j5:zC tq g5 j b (k+1):=j4.keep fun o e=>s5.extBut _ _ D.Oj.symm e;have zl:z<g5.objs.size:=Av z5;show An _ _ (Dd (.ref z) (.ref g5.objs.size) >>= _) _ _ _;refine Af ?_;unfold Dd;have z6:Hq (g5.push { cls:=.type "tuple",data:=.seq #[x,y] }) z I O .ellipsis:=Al _ z5;refine Af (Cj z6 (by simp) fun g7 z7 s7=>?_)
 replace z7:Hq g7 z I O (HV g5.objs.size):=z7
 refine Cj z7 (by simp) fun g8 z8 s8=>?_
 replace z8:Hq g8 z I O (HV g5.objs.size):=z8
 have up:∀ c o,c≠z→g5.get? c=Ab o→g8.get? c=Ab o:=fun c o c1 e=>s8.extBut _ _ c1 (s7.extBut _ _ c1 (Al _ e));have T8:DX g8 g5.objs.size x y:=s8.extBut _ _ (Fp zl) (s7.extBut _ _ (Fp zl) (AN _ rfl));have sz8:g8.objs.size=g5.objs.size+1:=by rw[s8.1,s7.1,Dc]
 rw[sz] at z8 T8 sz8;refine Aq ⟨_,rfl,?_⟩;show Q (.ref g5.objs.size) _;rw[sz];exact hQ g8 z8 (up _ _ D.Oz O5) (i5.keep fun o e=>up _ o D.iz e) (j5.keep fun o e=>up _ o D.jz e) T8 sz8 fun c o c1 c2 c3 c4 e=>up c o c1 (k5 c o c1 c2 c3 c4 e)
end
section
variable {prog:A5}{w:AO}{A:A8}{E:Ac→Ag→Prop}{s:Ag}
theorem XE {tp tq:Ao}{z I O i j a b:Ad}{k:Ah}{xs ys:A4 Ac}{p q:Ac}{Q:Fin→Ag→Prop}(hh:A.handled=none)(D:ZA z I O i j)(Da:Off z O i j a)(Db:Off z O i j b)
  (hz:Hq s.heap z I O .none) (hI:DX s.heap I (.ref i) (.ref j)) (hO:DX s.heap O p q) (h1:zC tp s.heap i a k) (h2:zC tq s.heap j b k) (ha:xL tp s.heap a xs) (hb:xL tq s.heap b ys) (hend:xs[k]? = none∨ys[k]? = none)
  (hE:∀ h' e,oD z O i j s.heap h'→(∃ o,h'.get? e=Ab o∧o.cls=.type "StopIteration")→E (.ref e) { s with heap:=h' }) : An (Ar prog w) A (EK.«zip.__next__» ⟨[.ref z],[]⟩) Q E s:=by
 show An _ _ (field (.ref z) 2 >>= _) _ _ _;refine Af (Bx hz rfl (x:=.bool false) rfl ?_);show An _ _ (field (.ref z) 3 >>= _) _ _ _;refine Af (Bx hz rfl (x:=.ref I) rfl (Af (CZ hI rfl ?_)));show An _ _ (Cb (.ref z) >>= _) _ _ _;refine Af ?_;unfold Cb;refine Af (Bx hz rfl (x:=.none) rfl (Aq ?_));simp only[AZ];refine Af (DJ (Af (Bx hz rfl (x:=.ref O) rfl (Af (Cj hz (by simp) fun g1 z1 s1=>?_)))))
 replace z1:Hq g1 z I O .ellipsis:=z1
 refine Af ?_;simp only[HY,Nu,Ff,Hn];refine Af (Af (HJ ?_));show An _ _ (Bt (.ref i) >>= _) _ _ _;have it1:zC tp g1 i a k:=h1.keep fun o e=>s1.extBut _ _ D.iz e;have sq1:xL tp g1 a xs:=ha.keep fun o e=>s1.extBut _ _ Da.z e;cases hx:xs[k]? with
 |none =>
  refine Af (uK hh it1 sq1 hx fun g2 e x2 he=>?_);obtain⟨oe,h3,h4⟩:=he;have z2:Hq g2 z I O .ellipsis:=x2 _ _ D.iz.symm z1;have ne:e≠z:=fun y=>by subst y;rw[z2] at h3;cases h3;simp at h4
  exact Cj z2 (by simp) fun g3 _ s3=>hE g3 e (fun c o c1 _ c3 _ y=>s3.extBut _ _ c1 (x2 _ _ c3 (s1.extBut _ _ c1 y))) ⟨oe,s3.extBut _ _ ne h3,h4⟩
 |some x =>
  have hy:ys[k]? = none:=by
   rcases hend with y|y
   ·rw[hx] at y;cases y
   ·exact y
  refine Af (k8 it1 sq1 hx fun g2 i2 s2=>Aq ?_);have O2:DX g2 O p q:=s2.extBut _ _ D.Oi (s1.extBut _ _ D.Oz hO);refine Af (CZ O2 rfl (Af (Gq O2 fun g3 O3 s3=>Af (ED (Aq ?_)))));refine Af (Af (HJ ?_));show An _ _ (Bt (.ref j) >>= _) _ _ _;refine Af (uK hh (h2.keep fun o e=>s3.extBut _ _ D.Oj.symm (s2.extBut _ _ D.ij.symm (s1.extBut _ _ D.jz e))) (hb.keep fun o e=>s3.extBut _ _ Db.O (s2.extBut _ _ Db.i (s1.extBut _ _ Db.z e))) hy fun g4 e x4 he=>?_);obtain⟨oe,h3,h4⟩:=he;have z4:Hq g4 z I O .ellipsis:=x4 _ _ D.jz.symm (s3.extBut _ _ D.Oz.symm (s2.extBut _ _ D.iz.symm z1));have ne:e≠z:=fun y=>by subst y;rw[z4] at h3;cases h3;simp at h4
  exact Cj z4 (by simp) fun g5 _ s5=>hE g5 e (fun c o c1 c2 c3 c4 y=>s5.extBut _ _ c1 (x4 _ _ c4 (s3.extBut _ _ c2 (s2.extBut _ _ c3 (s1.extBut _ _ c1 y))))) ⟨oe,s5.extBut _ _ ne h3,h4⟩
abbrev vN (tp:Ao)(l:Ad):AV:={ cls:=.type (if tp then "tuple_iterator" else "list_iterator"),data:=.fields #[.ref l,.int 0 0] }
abbrev zh1 (tp:Ao)(h:AF)(a:Ad):AF:=h.push (vN tp a)
abbrev zh2 (tp tq:Ao)(h:AF)(a b:Ad):AF:=(zh1 tp h a).push (vN tq b)
abbrev zh3 (tp tq:Ao)(h:AF)(a b:Ad):AF:=(zh2 tp tq h a b).push { cls:=.type "tuple",data:=.seq #[.ref h.objs.size,.ref (zh1 tp h a).objs.size] }
abbrev zh4 (tp tq:Ao)(h:AF)(a b:Ad):AF:=(zh3 tp tq h a b).push { cls:=.type "tuple",data:=.seq #[.none,.none] }
abbrev zh5 (tp tq:Ao)(h:AF)(a b:Ad):AF:=(zh4 tp tq h a b).push { cls:=.type "zip",data:=.fields #[.none,.bool false,.bool false,.ref (zh2 tp tq h a b).objs.size,.ref (zh3 tp tq h a b).objs.size] }
set_option maxHeartbeats 4000000 in
theorem UY (tp:Ao)(a b:Ad)(xs ys:A4 Ac) :
  Meets (EK.«zip.__new__» ⟨[.type "zip",.ref a,.ref b],[]⟩) (fun _ R s=>xL tp s.heap a xs∧xL tp s.heap b ys∧R (.ok (.ret (.ref (zh4 tp tp s.heap a b).objs.size))) { s with heap:=zh5 tp tp s.heap a b }):=
 .of_wp fun prog w A R s h=>by
  obtain⟨hp,g,d,tk,os⟩:=s;obtain⟨q1,q2,h⟩:=h;have hsub:=sub_zip;have e2:∀ ob:AV,xL tp (hp.push ob) b ys:=fun ob=>q2.keep fun o e=>Al _ e;cases tp
  ·have l1:Na (Gn ⟨hp,g,d,tk,os⟩) a xs:=q1
   have l2:Na (Gn ⟨hp.push { cls:=.type "list_iterator",data:=.fields #[.ref a,.int 0 0] },g,d,tk,os⟩) b ys:=e2 _
   wp_walk using DN l1,DN l2
   exact⟨_,rfl,h⟩
  ·have l1:Ll (Gn ⟨hp,g,d,tk,os⟩) a xs:=q1
   have l2:Ll (Gn ⟨hp.push { cls:=.type "tuple_iterator",data:=.fields #[.ref a,.int 0 0] },g,d,tk,os⟩) b ys:=e2 _
   wp_walk using Ez l1,Ez l2
   exact⟨_,rfl,h⟩
theorem jX {tp:Ao}{h:AF}{it l:Ad}(e:h.get? it=Ab (vN tp l)):zC tp h it l 0:=by
 cases tp
 ·exact⟨_,e,rfl,rfl⟩
 ·exact⟨_,e,rfl,rfl⟩
theorem oP {tp:Ao}{a b:Ad}{xs ys:A4 Ac}{Q:Ac→Ag→Prop}(ha:xL tp s.heap a xs)(hb:xL tp s.heap b ys)
  (h:∀ h',Hq h' (s.heap.objs.size+4) (s.heap.objs.size+2) (s.heap.objs.size+3) .none→DX h' (s.heap.objs.size+2) (.ref s.heap.objs.size) (.ref (s.heap.objs.size+1)) →
   DX h' (s.heap.objs.size+3) .none .none→zC tp h' s.heap.objs.size a 0→zC tp h' (s.heap.objs.size+1) b 0→h'.objs.size=s.heap.objs.size+5→(∀ c o,s.heap.get? c=Ab o→h'.get? c=Ab o)→Q (.ref (s.heap.objs.size+4)) { s with heap:=h' }) :
  An (Ar prog w) A (call (.type "zip") [.ref a,.ref b]) Q E s:=by
 refine callType_new F.called_zip (by decide) (F.typeCall_zip_2 _ _) (F.newCall_zip_2 _ _) (fun obj=>F.args_object_init_3 obj _ _) F.entry_zip_new (UY tp a b xs ys) ⟨ha,hb,?_⟩
 have y1:(zh1 tp s.heap a).objs.size=s.heap.objs.size+1:=Dc ..;have y2:(zh2 tp tp s.heap a b).objs.size=s.heap.objs.size+2:=by rw[Dc,y1]
 have y3:(zh3 tp tp s.heap a b).objs.size=s.heap.objs.size+3:=by rw[Dc,y2]
 have y4:(zh4 tp tp s.heap a b).objs.size=s.heap.objs.size+4:=by rw[Dc,y3]
 have y5:(zh5 tp tp s.heap a b).objs.size=s.heap.objs.size+5:=by rw[Dc,y4]
 have g5:(zh5 tp tp s.heap a b).get? (zh4 tp tp s.heap a b).objs.size=Ab _:=AN _ rfl;have g4:(zh5 tp tp s.heap a b).get? (zh3 tp tp s.heap a b).objs.size=Ab _:=Al _ (AN _ rfl);have g3:(zh5 tp tp s.heap a b).get? (zh2 tp tp s.heap a b).objs.size=Ab _:=Al _ (Al _ (AN _ rfl));have g2:(zh5 tp tp s.heap a b).get? (zh1 tp s.heap a).objs.size=Ab (vN tp b):=Al _ (Al _ (Al _ (AN _ rfl)));have g1:(zh5 tp tp s.heap a b).get? s.heap.objs.size=Ab (vN tp a):=Al _ (Al _ (Al _ (Al _ (AN _ rfl))));have kp:∀ c o,s.heap.get? c=Ab o→(zh5 tp tp s.heap a b).get? c=Ab o:=fun c o e=>Al _ (Al _ (Al _ (Al _ (Al _ e))));show _∧_;rw[y2,y3,y4] at g5;rw[y1,y2] at g3;rw[y3] at g4;rw[y1] at g2;rw[y4];exact⟨⟨_,g5,rfl⟩,h _ g5 g3 g4 (jX g1) (jX g2) y5 kp⟩
end
def Sq (tp:Ao)(K:Ai)(H:Hp)(a:Ad)(xs:Aa V):Prop:=if tp then SqT K H a xs else SqL K H a xs
section
variable {X:Cx}{pins:Aa (Ad × AV)}{σ : _L.St}{H:Hp}{s:Ag}
theorem Sq.at {tp:Ao}{a:Ad}{xs:Aa V}(I:Inv X pins σ H s)(q:Sq tp X.K H a xs):∃ its,qM xs its∧xL tp s.heap a its.toArray:=by
 cases tp with
 |true =>
  obtain⟨its,rv,p,_⟩:=I.tuple q;exact⟨its,rv,p⟩
 |false =>
  obtain⟨its,rv,p,_⟩:=I.list q;exact⟨its,rv,p.isList⟩
theorem Sq.inj {tp:Ao}{a:Ad}{xs ys:Aa V}(I:Inv X pins σ H s)(q:Sq tp X.K H a xs)(q':Sq tp X.K H a ys):xs=ys:=by
 cases tp with
 |true=>exact I.tuple_inj q q'
 |false=>exact I.list_inj q q'
theorem Sq.off {tp:Ao}{a b:Ad}{xs:Aa V}(I:Inv X pins σ H s)(q:Sq tp X.K H a xs)(f:xD X pins H b):a≠b:=by
 have key:H a≠none∨∃ o,X.K.lookup a=Ab o:=by
  cases tp with
  |true =>
   rcases q with (q|⟨o,q⟩)|⟨o,_,_,q,_⟩
   ·exact .inl (by rw[q];intro z;cases z)
   ·exact .inl (by rw[q];intro z;cases z)
   ·exact .inr ⟨_,q⟩
  |false =>
   rcases q with (q|⟨o,q⟩)|⟨o,_,_,q,_⟩
   ·exact .inl (by rw[q];intro z;cases z)
   ·exact .inl (by rw[q];intro z;cases z)
   ·exact .inr ⟨_,q⟩
 rintro rfl;rcases key with k|⟨o,k⟩
 ·exact k f.1
 ·have e:=I.mod.kin a o k
  rcases f.2.2.2.1 with z|z
  ·exact I.ok.noex a o e z
  ·exact absurd (Av (I.ok.bs a o e).1) (Ke.mpr z)
theorem Inv.turnLay {fp:Aa Ad}{h':AF}{T:Ad}{xs:Aa V}{its:Aa Ac}(I:Inv X pins σ H s)(hf:∀ b∈fp,xD X pins H b)(k:∀ b o,b ∉ fp→s.heap.get? b=Ab o→h'.get? b=Ab o)(th:∀ b∈fp,∃ o,h'.get? b=Ab o)
  (hT:s.heap.objs.size≤T) (rv:qM xs its) (hx:Ie h' T its.toArray) (hz:xs.length≤sizeLine):Inv X pins σ (upd H T (.tup xs)) { s with heap:=h' }:=by
 have hn:H T=none:=I.hok.fresh hT;have ne:∀ b o,s.heap.get? b=Ab o→b≠T:=fun b o e=>Bm (AI (Av e) hT);refine I.step (g':=s.gens) (d':=s.drawn) (t':=s.toks) (ch:=fp) (fun b hb=>⟨(hf b hb).2.2.2.1,(hf b hb).2.1,(hf b hb).2.2.2.2.1,(hf b hb).2.2.2.2.2⟩) (fun b o _ _ hc e _=>k b o hc e) (fun b o _ _ hc e _=>⟨o.slots,k b o hc e⟩)
  (fun b o _ e n=>by rw[qO (ne b o e)];exact n) (fun b o hc e=>⟨o,k b o hc e⟩) (fun b ys e=>by rw[qO (qW e hn)];exact e) (fun b o u e=>by rw[qO (qW e hn)];exact e)
  (fun b ps e=>⟨#[],by rw[qO (qW e hn),e];simp⟩) (fun m hm=>?_) (fun b u e=>?_) I.bare
 ·obtain⟨o,es,ep,ho,r⟩:=hm
  exact⟨o,es,ep,k _ o (fun z=>(hf _ z).2.1 rfl) ho,r⟩
 ·by_cases hb:b=T
  ·subst hb
   rw[qZ] at e;cases e;exact⟨hz,its,rv,hx⟩
  ·rw[qO hb] at e
   refine(I.hok b u e).stay (fun c v hc q=>k c v (fun z=>?_) q) (fun c q=>by rw[qO (qW q hn)];exact q) fun c ys q=>by rw[qO (qW q hn)];exact q
   have hcn:=(hf c z).1;rcases hc with rfl|hc
   ·rw[hcn] at e;cases e
   ·rw[hcn] at hc;cases hc
theorem Inv.turnL {fp:Aa Ad}{h':AF}(I:Inv X pins σ H s)(hf:∀ b∈fp,xD X pins H b)(k:∀ b o,b ∉ fp→s.heap.get? b=Ab o→h'.get? b=Ab o):Inv X pins σ H { s with heap:=h' }:=by
 refine I.step (g':=s.gens) (d':=s.drawn) (t':=s.toks) (ch:=fp) (fun b hb=>⟨(hf b hb).2.2.2.1,(hf b hb).2.1,(hf b hb).2.2.2.2.1,(hf b hb).2.2.2.2.2⟩) (fun b o _ _ hc e _=>k b o hc e) (fun b o _ _ hc e _=>⟨o.slots,k b o hc e⟩)
  (fun b o _ e n=>n) (fun b o hc e=>⟨o,k b o hc e⟩) (fun b ys e=>e) (fun b o u e=>e) (fun b ps e=>⟨#[],by rw[e];simp⟩) (fun m hm=>?_) (fun b u e=>?_) I.bare
 ·obtain⟨o,es,ep,ho,r⟩:=hm
  exact⟨o,es,ep,k _ o (fun z=>(hf _ z).2.1 rfl) ho,r⟩
 ·refine(I.hok b u e).stay (fun c v hc q=>k c v (fun z=>?_) q) (fun c q=>q) fun c ys q=>q
  have hcn:=(hf c z).1;rcases hc with rfl|hc
  ·rw[hcn] at e;cases e
  ·rw[hcn] at hc;cases hc
end
def Itz (tp:Ao)(K:Ai)(a b:Ad):It:=
  ⟨fun i H=>∃ xs ys x y,Sq tp K H a xs∧Sq tp K H b ys∧xs[i]? = Ab x∧ys[i]? = Ab y,
   fun i H v H'=>∃ T x y,v=.ref T∧H T=none∧H'=upd H T (.tup [x,y])∧(∀ xs,Sq tp K H a xs→xs[i]? = Ab x)∧∀ ys,Sq tp K H b ys→ys[i]? = Ab y,
   fun i H=>∃ xs ys,Sq tp K H a xs∧Sq tp K H b ys∧(xs.length≤i∨ys.length≤i)⟩
def rN (tp:Ao)(z I O i j a b:Ad)(k:Ah)(h:AF):Prop:=∃ p q,Hq h z I O .none∧DX h I (.ref i) (.ref j)∧DX h O p q∧zC tp h i a k∧zC tp h j b k
theorem gN {tp:Ao}{z I O i j a b:Ad}{k:Ah}{h:AF}(st:rN tp z I O i j a b k h):∀ c∈[z,I,O,i,j],∃ o,h.get? c=Ab o∧∀ v,o.data≠.cell v:=fun c hc=>by
 obtain⟨p,q,s1,s2,s3,s4,s5⟩:=st;simp only[AL,Bi,Du] at hc;rcases hc with rfl|rfl|rfl|rfl|rfl
 ·exact⟨_,s1,fun v y=>by cases y⟩
 ·exact⟨_,s2,fun v y=>by cases y⟩
 ·exact⟨_,s3,fun v y=>by cases y⟩
 ·exact s4.there
 ·exact s5.there
theorem XW {c z I O i j:Ad}(h:c ∉ [z,I,O,i,j]):c≠z∧c≠O∧c≠i∧c≠j:=by
 simp only[AL,Bi,Du,O1] at h;exact⟨h.1,h.2.2.1,h.2.2.2.1,h.2.2.2.2⟩
theorem X8 {P:A5}{w:AO}{K:Ai}{elts:Aa AC}{x1:Ah}{tpos:Cz}{tp:Ao}{z I O i j a b:Ad}(D:ZA z I O i j):Turn P w K (.Tuple elts x1 tpos) (Itz tp K a b) [z,I,O,i,j] z (rN tp z I O i j a b) where
 mem:=.head _
 obj:=fun k h st=>gN st
 keep:=fun k h h' st kp=>by
  obtain⟨p,q,s1,s2,s3,s4,s5⟩:=st;exact⟨p,q,kp z (.head _) _ s1,kp I (.tail _ (.head _)) _ s2,kp O (.tail _ (.tail _ (.head _))) _ s3,s4.keep fun o e=>kp i (.tail _ (.tail _ (.tail _ (.head _)))) o e,s5.keep fun o e=>kp j (.tail _ (.tail _ (.tail _ (.tail _ (.head _))))) o e⟩
 item:=by
  intro X hP hw hK hc k pins s σ H E Iv hf st hg;subst hP hw hK;obtain⟨p,q,s1,s2,s3,s4,s5⟩:=st;obtain⟨xs,ys,x,y,qa,qb,hx,hy⟩:=hg;obtain⟨ia,ra,ha⟩:=qa.at Iv;obtain⟨ib,rb,hb⟩:=qb.at Iv;obtain⟨u,hu,ru⟩:=ra.get hx;obtain⟨u',hu',ru'⟩:=rb.get hy;have off:∀ {c:Ad} {zs:Aa V},Sq tp X.K H c zs→Off z O i j c:=fun {c zs} qc=>⟨qc.off Iv (hf z (.head _)),qc.off Iv (hf O (.tail _ (.tail _ (.head _)))),qc.off Iv (hf i (.tail _ (.tail _ (.tail _ (.head _))))),qc.off Iv (hf j (.tail _ (.tail _ (.tail _ (.tail _ (.head _))))))⟩;have hT:s.TypeIs (.ref z) "zip":=⟨_,s1,rfl⟩;unfold HT;refine Af (E6 (Ct (name:=Eu "__next__") hT Ha (Dl Ha hT Nb
   (XD D (off qa) (off qb) s1 s2 s3 s4 s5 ha hb (by simpa using hu) (by simpa using hu') fun h' a1 a2 a3 a4 a5 a6 a7=>Aq ?_) (Mj _))))
  refine⟨_,rfl,wpAny_letOwnedTupleGo_zip (s:={ s with heap:=h' }) a1 fun h2 b1 b2=>?_⟩
  have up:∀ c o,c≠z→h'.get? c=Ab o→h2.get? c=Ab o:=fun c o n e=>(b2.2 c n).trans e;have zl:z<s.heap.objs.size:=Av s1;have T2:DX h2 s.heap.objs.size u u':=up _ _ (Fp zl) a5;have st2:rN tp z I O i j a b (k+1) h2:=⟨u,u',b1,up _ _ D.Iz (a7 I _ D.Iz D.IO D.Ii D.Ij s2),up _ _ D.Oz a2,a3.keep fun o e=>up _ o D.iz e,a4.keep fun o e=>up _ o D.jz e⟩;refine⟨.ref s.heap.objs.size,upd H s.heap.objs.size (.tup [x,y]),?_,rfl,⟨_,x,y,rfl,Iv.hok.fresh (Aw _),rfl,fun zs qz=>by rw[qz.inj Iv qa];exact hx,fun zs qz=>by rw[qz.inj Iv qb];exact hy⟩,st2,fun c hc=>?_⟩
  ·show _L.Inv X pins σ (upd H s.heap.objs.size (.tup [x,y])) { s with heap:=h2 }
   refine Inv.turnLay (fp:=[z,I,O,i,j]) (its:=[u,u']) Iv hf (fun c o hc e=>?_) (fun c hc=>?_) (Aw _) (.cons ru (.cons ru' .nil)) ⟨_,T2,rfl,_,rfl⟩ (by show 2≤sizeLine;decide)
   ·have hc:=XW hc
    exact up c o hc.1 (a7 c o hc.1 hc.2.1 hc.2.2.1 hc.2.2.2 e)
   ·obtain⟨o,e,_⟩:=gN st2 c hc
    exact⟨o,e⟩
  ·have hn:=(hf c hc).1
   rw[qO ?_]
   ·exact hn
   ·rintro rfl
    obtain⟨o,e,_⟩:=gN ⟨p,q,s1,s2,s3,s4,s5⟩ _ hc;exact absurd (Av e) (Cg _)
 done:=by
  intro X hP hw hK hc k pins s σ H E Iv hf st hg;subst hP hw hK;obtain⟨p,q,s1,s2,s3,s4,s5⟩:=st;obtain⟨xs,ys,qa,qb,hend⟩:=hg;obtain⟨ia,ra,ha⟩:=qa.at Iv;obtain⟨ib,rb,hb⟩:=qb.at Iv;have off:∀ {c:Ad} {zs:Aa V},Sq tp X.K H c zs→Off z O i j c:=fun {c zs} qc=>⟨qc.off Iv (hf z (.head _)),qc.off Iv (hf O (.tail _ (.tail _ (.head _)))),qc.off Iv (hf i (.tail _ (.tail _ (.tail _ (.head _))))),qc.off Iv (hf j (.tail _ (.tail _ (.tail _ (.tail _ (.head _))))))⟩;have hT:s.TypeIs (.ref z) "zip":=⟨_,s1,rfl⟩;have l1:=ra.length;have l2:=rb.length;unfold HT;refine Af (E6 (Ct (name:=Eu "__next__") hT Ha (Dl Ha hT Nb
   (XE (Iv.ok.hd hc) D (off qa) (off qb) s1 s2 s3 s4 s5 ha hb ?_ fun h' e kp he=>?_) (Mj _))))
  ·rcases hend with y|y
   ·exact .inl (by simp;omega)
   ·exact .inr (by simp;omega)
  ·obtain⟨o,ho,hcl⟩:=he
   refine Af (Nc (T:="StopIteration") (b:=true) ⟨o,ho,hcl⟩ isSubtype_stop (Aq ⟨rfl,Inv.turnL (fp:=[z,I,O,i,j]) Iv hf fun c o hc e=>?_⟩));have hc:=XW hc;exact kp c o hc.1 hc.2.1 hc.2.2.1 hc.2.2.2 e
 self:=fun _ _ _ _ _ st h=>by
  obtain⟨p,q,s1,_⟩:=st;exact Nd s1 h
def yG (xs ys:Aa D):Aa D:=List.zipWith (fun x y=>D.tup [x,y]) xs ys
def hV (ds:Aa D):Ak (Aa D):=match ds with
 |[.tup xs,.tup ys]=>Ab (yG xs ys)
 |[.lst xs,.lst ys]=>Ab (yG xs ys)
 |_=>none
def nF (f:DA):DI:=fun env S=>(f env S).bind fun ds S1=>wH (hV ds) S1
theorem XC {xs ys:Aa D}{i:Ah}:(yG xs ys)[i]? = match xs[i]?,ys[i]? with|some x,Ab y=>Ab (D.tup [x,y])|_,_=>none:=by
 unfold yG;rw[List.getElem?_zipWith];cases xs[i]? <;> cases ys[i]? <;> rfl
theorem pY (xs ys:Aa D):(yG xs ys).length=min xs.length ys.length:=by simp[yG]
section
variable {K:Ai}
theorem Sq.mono {tp:Ao}{P P':Hp}(e:qH P P'){a:Ad}{xs:Aa V}(q:Sq tp K P a xs):Sq tp K P' a xs:=by
 cases tp with
 |true=>exact vG e q
 |false=>exact e.seq q
theorem YM {tp:Ao}{P:Hp}{α : Aa Ad}{a b:Ad}{xs ys:Aa D}{vs ws:Aa V}(qa:Sq tp K P a vs)(qb:Sq tp K P b ws)(ta:qG K P α xs vs)(tb:qG K P α ys ws):ItD K (Itz tp K a b) P α (yG xs ys) where
 go:=fun i H P1 α1 S hi r e _=>by
  rw[pY] at hi;have h1:i<vs.length:=by rw[← ta.length];omega
  have h2:i<ws.length:=by rw[← tb.length];omega
  exact⟨vs,ws,vs[i],ws[i],qa.mono (e.trans r.sub),qb.mono (e.trans r.sub),by simp,by simp⟩
 yld:=fun i H x H' P1 α1 S hi r e e2 y=>by
  obtain⟨T,u,w,rfl,hT,rfl,hu,hw⟩:=y;rw[pY] at hi;have h1:i<xs.length:=by omega
  have h2:i<ys.length:=by omega
  obtain⟨v1,z1,p1⟩:=ta.get (Ap h1);obtain⟨v2,z2,p2⟩:=tb.get (Ap h2);have eu:=hu vs (qa.mono (e.trans r.sub));have ew:=hw ws (qb.mono (e.trans r.sub));rw[z1] at eu;cases eu;rw[z2] at ew;cases ew;obtain⟨r1,s1⟩:=r.pure (o:=.tup [u,w]) hT;refine⟨_,.tup [xs[i],ys[i]],?_,r1,s1,?_⟩
  ·rw[XC,Ap h1,Ap h2]
  ·exact fY (.of qZ) (.cons (Rep.mono (e.trans s1) e2 _ _ p1) (.cons (Rep.mono (e.trans s1) e2 _ _ p2) .nil))
 stop:=fun i H P1 α1 S hi r e _=>by
  rw[pY] at hi;have l1:=ta.length;have l2:=tb.length;exact⟨vs,ws,qa.mono (e.trans r.sub),qb.mono (e.trans r.sub),by omega⟩
end
section
variable {X:Cx}{e1 e2:AC}{elts:Aa AC}{x1:Ah}{tpos:Cz}{f:DA}{p pos:Cz}
theorem o8 {tp:Ao}{pins:Aa (Ad × AV)}{σ : _L.St}{H P:Hp}{α : Aa Ad}{S:Sto}{s:Ag}{a b:Ad}{xs ys:Aa D}{vs ws:Aa V}{R:It→Hp→Prop}(I:Inv X pins σ H s)(r:Rel X.K H P α S)(qa:Sq tp X.K P a vs)(qb:Sq tp X.K P b ws)(ta:qG X.K P α xs vs)(tb:qG X.K P α ys ws)
  (q:OkI X P α R (yG xs ys) S):An (Ar X.prog X.w) X.A (call (.type "zip") [.ref a,.ref b]) (fun v s1=>An (Ar X.prog X.w) X.A (HU v) (PIE X pins σ (.Tuple elts x1 tpos) R) X.xe s1) X.xe s:=by
 obtain⟨ia,ra,ha⟩:=(qa.mono r.sub).at I;obtain⟨ib,rb,hb⟩:=(qb.mono r.sub).at I;refine oP ha hb fun h' z1 z2 z3 z4 z5 z6 z7=>?_;refine Nd (s:={ s with heap:=h' }) z1 ?_
 have D:ZA (s.heap.objs.size+4) (s.heap.objs.size+2) (s.heap.objs.size+3) s.heap.objs.size (s.heap.objs.size+1):=by constructor <;> (intro z;simp at z)
 refine⟨_,[s.heap.objs.size+4,s.heap.objs.size+2,s.heap.objs.size+3,s.heap.objs.size,s.heap.objs.size+1],_,_,H,rfl,I.kept (t':=s.toks) z7,X8 (a:=a) (b:=b) D,⟨_,_,z1,z2,z3,z4,z5⟩,fun c hc=>?_,q _ _ P α r (qH.refl _) (AD _) (YM qa qb ta tb)⟩;have hl:s.heap.objs.size≤c:=by
  simp only[AL,Bi,Du] at hc;rcases hc with rfl|rfl|rfl|rfl|rfl <;> simp
 exact I.fpOk hl (I.hok.fresh hl)
inductive ZipV (ds:Aa D)(its:Aa D):Prop
 |tup (xs ys:Aa D) (ed:ds=[.tup xs,.tup ys]) (e:its=yG xs ys)
 |lst (xs ys:Aa D) (ed:ds=[.lst xs,.lst ys]) (e:its=yG xs ys)
theorem UX {ds its:Aa D}(h:hV ds=Ab its):ZipV ds its:=by
 cases ds with
 |nil=>exact nn h
 |cons a ds =>
  cases a with
  |tup xs =>
   cases ds with
   |nil=>exact nn h
   |cons b ds =>
    cases b with
    |tup ys =>
     cases ds with
     |nil=>exact .tup xs ys rfl (Be h).symm
     |cons _ _=>exact nn h
    |_=>exact nn h
  |lst xs =>
   cases ds with
   |nil=>exact nn h
   |cons b ds =>
    cases b with
    |lst ys =>
     cases ds with
     |nil=>exact .lst xs ys rfl (Be h).symm
     |cons _ _=>exact nn h
    |_=>exact nn h
  |_=>exact nn h
theorem K4 (hg:Gl X "zip")(hm:X.mg "zip" = none)(ha:PA X [e1,e2] (tDA X f))(hs:Az [e1,e2] X.env=(false,eval e1 X.env)::Az [e2] X.env:=by rfl)(hpl:(CP pos (Az [e2] X.env)).any (·.1)=false:=by rfl) :
  PI X (.Tuple elts x1 tpos) (.Call (.Name "zip" p) [e1,e2] [] pos) (tDI X (nF f)):=by
 intro pins s σ H R I h;obtain⟨P,α,env,S,r,re,af⟩:=h;refine Call_ (vT I hg hm boot_zip (Do (thn (w9 ha I r re af pos) fun us s1 ⟨vs,H1,P1,α1,ds,S1,I1,rv,r1,re1,rp,e1,e2,af1⟩=>?_) hs hpl));obtain⟨its,hi,q⟩:=vE af1;cases UX hi with
 |tup xs ys ed e =>
  subst ed e;obtain⟨v,w,u,x,rfl,rfl,p1,p2,q1,q2⟩:=kD rp rv;simp only[Rep] at p1 p2;obtain⟨a,va,rfl,qa,ta⟩:=p1;obtain⟨b,vb,rfl,qb,tb⟩:=p2;cases (show u=AY a from q1)
  cases (show x=AY b from q2)
  exact o8 (tp:=true) I1 r1 qa qb ta tb (q.base e1 e2)
 |lst xs ys ed e =>
  subst ed e;obtain⟨v,w,u,x,rfl,rfl,p1,p2,q1,q2⟩:=kD rp rv;simp only[Rep] at p1 p2;obtain⟨a,va,rfl,qa,ta⟩:=p1;obtain⟨b,vb,rfl,qb,tb⟩:=p2;cases (show u=AY a from q1)
  cases (show x=AY b from q2)
  exact o8 (tp:=false) I1 r1 qa.l qb.l ta tb (q.base e1 e2)
end
def Src (K:Ai)(mg:As→Ak Ac)(x:As)(st:Cy)(ps:Aa As):Prop:=∃ f fd,mg x=Ab (.ref f)∧Fun K x x st f fd∧vH K fd ps []
def Lk (K:Ai)(f:Ad)(fd:CM):Prop:=∃ oc od osl,K.lookup f=Ab ⟨oc,od,.func fd,osl⟩
theorem tF {K:Ai}{x q:As}{st:Cy}{f:Ad}{fd:CM}(F:Fun K x q st f fd):Lk K f fd:=by
 obtain⟨oc,od,kV,doc,pm,an,cdv,ct,osl,_,lk,_⟩:=F.ex;exact⟨oc,od,osl,lk⟩
theorem Lk.one {K:Ai}{f:Ad}{fd fd':CM}(h:Lk K f fd)(h':Lk K f fd'):fd=fd':=by
 obtain⟨oc,od,osl,e⟩:=h;obtain⟨oc',od',osl',e'⟩:=h';rw[e] at e';cases e';rfl
def Def (P:A5)(w:AO)(K:Ai)(mg:As→Ak Ac)(base:AF)(cm:Ao)(k:Ah)(x:As)(n:Ah)(F:DF):Prop:=
 ∃ f fd ps,ps.length=n∧mg x=Ab (.ref f)∧Cf K (.ref f)=true∧vH K fd ps [] ∧ Lk K f fd∧FnX P w K mg base cm k f fd ps (spD K n F)
def tN (P:A5)(w:AO)(K:Ai)(mg:As→Ak Ac)(base:AF)(cm:Ao)(k:Ah)(x:As)(ps:Aa As)(F:DF):Prop:=
 ∃ f fd,mg x=Ab (.ref f)∧Cf K (.ref f)=true∧vH K fd ps [] ∧ Lk K f fd∧FnX P w K mg base cm k f fd ps (spD K ps.length F)
section
variable {P:A5}{w:AO}{K:Ai}{mg:As→Ak Ac}{base:AF}{cm:Ao}
theorem K0 {x:As}{st:Cy}{N ps:Aa As}{k:Ah}{g:DS}(h:Src K mg x st ps)(S:FnScope N ps (qI st))
  (hbody:∀ (f:Ad) (cdv:Ac) (A:A8) (outer:Aa EA) (s:Ag) (H:Hp) (E:XK),RoomC cm k (A.deeper (Dk x (qI st) s.heap.objs.size f cdv)) →
   PSs (cxC cm P w K mg base N x (qI st) f cdv A outer s H E) (zR st) (tDS (cxC cm P w K mg base N x (qI st) f cdv A outer s H E) g)):Def P w K mg base cm (k+1) x ps.length (qP N.length g):=by
 obtain⟨f,fd,hm,F,hb⟩:=h;exact⟨f,fd,ps,rfl,hm,F.kp,hb,tF F,fnX F S fun cdv A outer s H E hr=>hbody f cdv A outer s H E hr⟩
theorem WV {x:As}{st:Cy}{N ps:Aa As}{k:Ah}{g:DS}(h:Src K mg x st ps)(S:FnScope N ps (qI st))
  (hbody:∀ (f:Ad) (cdv:Ac) (A:A8) (outer:Aa EA) (s:Ag) (H:Hp) (E:XK),RoomC cm k (A.deeper (Dk x (qI st) s.heap.objs.size f cdv)) →
   PSs (cxC cm P w K mg base N x (qI st) f cdv A outer s H E) (zR st) (tDS (cxC cm P w K mg base N x (qI st) f cdv A outer s H E) g)):tN P w K mg base cm (k+1) x ps (qP N.length g):=by
 obtain⟨f,fd,hm,F,hb⟩:=h;exact⟨f,fd,hm,F.kp,hb,tF F,fnX F S fun cdv A outer s H E hr=>hbody f cdv A outer s H E hr⟩
theorem Def.mono {x:As}{j k n:Ah}{F:DF}(h:Def P w K mg base cm j x n F)(hk:j≤k:=by decide):Def P w K mg base cm k x n F:=by
 obtain⟨f,fd,ps,hn,hm,kp,hb,hl,X⟩:=h;exact⟨f,fd,ps,hn,hm,kp,hb,hl,X.len,fun A outer s H args us vs Q E hr=>X.run A outer s H args us vs Q E (hr.mono hk)⟩
theorem Def.any {x:As}{k n:Ah}{F:DF}(h:Def P w K mg base false k x n F):Def P w K mg base cm k x n F:=by
 obtain⟨f,fd,ps,hn,hm,kp,hb,hl,X⟩:=h;exact⟨f,fd,ps,hn,hm,kp,hb,hl,X.any⟩
end
section
variable {X:Cx}{cm:Ao}{k n:Ah}{F:DF}{x:As}{p pos:Cz}{e:AC}{es:Aa AC}{fa:DA}
theorem dcN (G:Def X.prog X.w X.K X.mg X.base cm k x n F)(hr:RoomC cm k X.A)(hF:Fn1 X)(hg:Gl X x)(ha:PA X (e::es) (tDA X fa))(hdb:(x == ("__debug__" : As))=false:=by decide)(he:Az (e::es) X.env=(false,eval e X.env)::Az es X.env:=by rfl)(hpl:(CP pos (Az es X.env)).any (·.1)=false:=by rfl) :
  PE X (.Call (.Name x p) (e::es) [] pos) (tD X (qN n F fa)):=by
 obtain⟨f,fd,ps,hn,hm,kp,hb,hl,G⟩:=G;exact WR G hr hF hg hm kp hb ha hdb he hpl
theorem cK {C:Ad}(hg:Gl X x)(hm:X.mg x=Ab (.ref C))(hk:Cf X.K (.ref C)=true)(hd:(x == ("__debug__" : As))=false:=by decide):PE X (.Name x pos) (tD X (dC (.obj C))):=
 dN hg hm (v:=.ref C) rfl (fun P α => by simp only[Rep];exact⟨trivial,hk⟩) hd
end
def zO:DF:=fun ds S=>match ds with
 |[.dct0]=>.bad
 |_=>pM ds S
theorem WG {X:Cx}:w6 X (.builtin "len") zO:=JG trivial
def kR:DE:=fun _ _=>.bad
theorem JO {X:Cx}{e:AC}:PE X e (tD X kR):=fun _ _ _ _ _ _ ⟨_,_,_,_,_,_,h⟩=>Am h
theorem XJ:∃ C:Aj→Aj→Ao,C=tV:=⟨_,rfl⟩
def XI:Aj→Aj→Ao:=Ng XJ
theorem tW:XI=tV:=IZ XJ
def zT:G2:=i2 XI fun i j=>.int (i*j)
theorem sT {X:Cx}:OpD X (Ci .Mult) zT:=by
 unfold zT;rw[tW];exact V9
theorem hu1 {cm:Ao}{k:Ah}{A:A8}(hr:RoomC cm k A):A.units+1<CI:=by have:=hr.units;omega
theorem JC:CK "len" = Ab (.builtin "len"):=by decide +kernel
def okO (F:DF):DF:=fun ds S=>match F ds S with
 |.ok d S'=>.ok d S'
 |_=>.bad
theorem bL {F:DF}{ds:Aa D}{S S':Sto}{d:D}(h:F ds S=.ok d S'):okO F ds S=.ok d S':=by unfold okO;rw[h]
section
variable {X:Cx}{cm:Ao}{k n:Ah}{F:DF}{x:As}{p pos:Cz}{e:AC}{es:Aa AC}{fa:DA}{f:Ad}{fd:CM}{ps:Aa As}
theorem UD {pins:Aa (Ad × AV)}{σ : _L.St}{H:Hp}{s:Ag}{Q:VK}{us:Aa Ac}{vs:Aa V}{P:Hp}{α : Aa Ad}{ds:Aa D}{S:Sto}(G:FnX X.prog X.w X.K X.mg X.base cm k f fd ps (spD X.K n F))(hr:RoomC cm k X.A)(hb:vH X.K fd ps [])
  (I:Inv X pins σ H s) (r:Rel X.K H P α S) (rv:qM vs us) (rp:qG X.K P α ds vs) (hn:ds.length=n) (af:qU X P α (okO F ds S) Q):An (Ar X.prog X.w) X.A (call (.ref f) us) (EP X pins σ Q) X.xe s:=by
 have hvn:vs.length=n:=by rw[← rp.length];exact hn
 have hsp:spD X.K n F vs H Q fun _ _ _=>Cq:=by
  refine⟨hvn,P,α,ds,S,r,rp,?_⟩;unfold okO at af;cases q:F ds S with
  |ok d S'=>rw[q] at af;exact af
  |ex c x S'=>rw[q] at af;exact Am af
  |bad=>rw[q] at af;exact af
 have hl:us.length=ps.length:=by rw[← rv.length];exact G.len _ _ _ _ hsp
 have hb':=hb s us I.kIn (by rw[Dr];exact hl)
 rw[Dr] at hb';refine Kf (Hd (G.run X.A X.stack s H ⟨us,[]⟩ us vs Q _ hr I.env0 hb' rv hsp) fun r s' hq=>?_);cases r with
 |error u =>
  obtain⟨_,_,_,_,_,_,_,_,_,_,_,_,z⟩:=hq;exact Am z
 |ok fl =>
  cases fl with
  |ret u=>exact I.after hq
  |next=>exact Am hq
  |brk=>exact Am hq
  |cont=>exact Am hq
theorem dcO (G:Def X.prog X.w X.K X.mg X.base cm k x n F)(hr:RoomC cm k X.A)(hg:Gl X x)(ha:PA X (e::es) (tDA X fa))(hdb:(x == ("__debug__" : As))=false:=by decide)(he:Az (e::es) X.env=(false,eval e X.env)::Az es X.env:=by rfl)(hpl:(CP pos (Az es X.env)).any (·.1)=false:=by rfl) :
  PE X (.Call (.Name x p) (e::es) [] pos) (tD X (qN n (okO F) fa)):=by
 obtain⟨f,fd,ps,hn0,hm,hk,hb,hl,G⟩:=G;intro pins s σ H Q I h;obtain⟨P,α,env,S,r,re,af⟩:=h;refine E0 (jE I hg hm ?_ hdb);refine Hw (h₀:=X.base) I.ok.mod.kin hk (thn (w9 ha I r re af pos) fun us s1 ⟨vs,H1,P1,α1,ds,S1,I1,rv,r1,re1,rp,e1,e2,af1⟩=>⟨I1.kIn,?_⟩) he hpl;obtain⟨hn,af2⟩:=mJ (env:=env) (S:=S) af1;exact UD G hr hb I1 r1 rv rp hn (qU.base e1 e2 af2)
end
structure QE (X:Cx)(e:AC)(f:DE):Prop where
 get:PE X e (tD X f)
structure QT (X:Cx)(e:AC)(t:DT):Prop where
 get:PT X e (tDT X t)
structure QW (X:Cx)(e:AC)(t:DT):Prop where
 get:PWD X e t
structure QA (X:Cx)(es:Aa AC)(f:DA):Prop where
 get:PA X es (tDA X f)
structure QO (X:Cx)(e:Ak AC)(f:DO):Prop where
 get:PO X e (tDO X f)
structure QG (X:Cx)(t:AC)(g:DG):Prop where
 get:PG X t (tDG X g)
structure QGs (X:Cx)(ts:Aa AC)(g:DGs):Prop where
 get:PGs X ts (lU X g)
structure QI (X:Cx)(tg it:AC)(f:DI):Prop where
 get:PI X tg it (tDI X f)
structure QS (X:Cx)(s:Cy)(f:DS):Prop where
 get:PS X s (tDS X f)
structure QB (X:Cx)(ss:Aa Cy)(f:DS):Prop where
 get:PSs X ss (tDS X f)
structure QJ (X:Cx)(es:Aa AC)(fs:Aa DE):Prop where
 get:PJ X es fs
structure ZOp (X:Cx)(f:Ac→Ac→Fb Ac)(g:G2):Prop where
 get:OpD X f g
structure ZUn (X:Cx)(f:Ac→Fb Ac)(g:D→Sto→Res D):Prop where
 get:UnD X f g
structure ZIx (X:Cx)(g:G2):Prop where
 get:IxD X g
structure ZCall (X:Cx)(f:Ac)(F:DF):Prop where
 get:w6 X f F
structure ZMt (X:Cx)(id:Bo)(g:D→Aa D→Sto→Res D):Prop where
 get:MtD X id g
structure ZSet (X:Cx)(g:G3):Prop where
 get:tO X (tM X g)
structure ZPass (X:Cx):Prop where
 get:IT (Ar X.prog X.w) X.A X.env X.xe
section
variable {X:Cx}{a b c e e1 e2 o i:AC}{es rest:Aa AC}{fa fb fc fe fo fi:DE}{ta tb:DT}{fA:DA}{f g:DS}{st:Cy}{sts:Aa Cy}{x:As}{p pos:Cz}{n k:Ah}{cm:Ao}{F:DF}{G2':G2}
theorem iK {j}:QE X (.Constant .none j pos) (dC .non):=⟨JU⟩
theorem W0 {v j}:QE X (.Constant (.bool v) j pos) (dC (.bl v)):=⟨M2⟩
theorem BH {v j}:QE X (.Constant (.int v) j pos) (dC (.int v)):=⟨JS⟩
theorem BL {v j}:QE X (.Constant (.str v) j pos) (dC (.str v)):=⟨JX⟩
theorem BO (m:Ah)(hN:X.N[m]? = Ab x)(hv:Vis X.env.scope x)(hd:(x == ("__debug__" : As))=false)(hcd:(x == ("__classdict__" : As))=false):QE X (.Name x pos) (qB m):=⟨dv m hN hv hd hcd⟩
theorem VR {nm:Bo}(hg:Gl X x)(hm:X.mg x=none)(hv:CK x=Ab (.type nm))(hn:x ≠ "__name__")(hd:(x == ("__debug__" : As))=false):QE X (.Name x pos) (dC (.ty nm)):=⟨WQ hg hm hv hn hd⟩
theorem BE {C:Ad}(hg:Gl X x)(hm:X.mg x=Ab (.ref C))(hk:Cf X.K (.ref C)=true)(hd:(x == ("__debug__" : As))=false):QE X (.Name x pos) (dC (.obj C)):=⟨cK hg hm hk hd⟩
theorem VS {v:Aj}(hg:Gl X x)(hm:∃ t,X.mg x=Ab (.int v t))(hd:(x == ("__debug__" : As))=false):QE X (.Name x pos) (dC (.int v)):=⟨let ⟨_,h⟩:=hm;dN (v:=.int v) hg h ⟨_,rfl⟩ (fun _ _=>by simp only[Rep]) hd⟩
theorem BD:QE X e kR:=⟨JO⟩
theorem TK {op:UnaryOp}{h:D→Sto→Res D}(ho:ZUn X (Ms op) h)(ha:QE X a fa):QE X (.UnaryOp op a pos) (d1 h fa):=⟨M5 ho.1 ha.1⟩
theorem BK (ha:QE X a fa):QE X (.UnaryOp .Not a pos) (oW fa):=⟨JV ha.1⟩
theorem TJ {op:Operator}(ho:ZOp X (Ci op) G2')(ha:QE X a fa)(hb:QE X b fb):QE X (.BinOp a op b pos) (d2 G2' fa fb):=⟨M4 ho.1 ha.1 hb.1⟩
theorem iI {op:Lw}(ho:ZOp X (Bj op) G2')(ha:QE X a fa)(hb:QE X b fb)(hm:ET op b=false:=by first|exact jG _|with_unfolding_all rfl):QE X (.Compare a [op] [b] pos) (d2 G2' fa fb):=⟨JP ho.1 ha.1 hb.1 hm⟩
theorem ZN {op op':Lw}{g':G2}(ho:ZOp X (Bj op) G2')(ho':ZOp X (Bj op') g')(ha:QE X a fa)(hb:QE X b fb)(hc:QE X c fc)(hm:lastMarks [op,op'] [b,c]=false:=by with_unfolding_all rfl):QE X (.Compare a [op,op'] [b,c] pos) (nE G2' g' fa fb fc):=⟨oZ ho.1 ho'.1 ha.1 hb.1 hc.1 hm⟩
theorem iL {op} (h:QE X a fa):QE X (.BoolOp op [a] pos) fa:=⟨JW h.1⟩
theorem iG (ha:QE X a fa)(hb:QE X (.BoolOp .And (b::rest) pos) fb):QE X (.BoolOp .And (a::b::rest) pos) (uZ fa fb):=⟨JN ha.1 hb.1⟩
theorem BN {x1} (h:QA X es fA):QE X (.Tuple es x1 pos) (zH fA):=⟨JZ h.1⟩
theorem BJ (h:QA X es fA):QE X (.List es pos) (zZ fA):=⟨cM h.1⟩
theorem VU (h:QA X es fA):QE X (.List es pos) (gR fA):=⟨WT h.1⟩
theorem BF:QE X (.Dict [] [] pos) rS:=⟨JQ⟩
theorem TH (ho:ZIx X G2')(ha:QE X a fa)(hb:QE X b fb)(hs:u9 b:=by intro _ _;rfl):QE X (.Subscript a b pos) (d2 G2' fa fb):=⟨XM ho.1 ha.1 hb.1 hs⟩
theorem ZP {lo hi:Ak AC}{fl fh:DO}{p2:Cz}(he:QE X e fe)(hl:QO X lo fl)(hu:QO X hi fh):QE X (.Subscript e (.Slice lo hi none p2) pos) (dSl fe fl fh):=⟨Q1 he.1 hl.1 hu.1⟩
theorem VZ:QO X none jC:=⟨Y0⟩
theorem U0 (he:QE X e fe):QO X (Ab e) (wA fe):=⟨Y1 he.1⟩
theorem BG (he:QE X e fe):QE X (.FormattedValue e (-1) none pos) (d1 j0 fe):=⟨JR he.1⟩
theorem BT:QJ X [] []:=⟨B6⟩
theorem VX {fs:Aa DE}(he:QE X e fe)(hr:QJ X es fs):QJ X (e::es) (fe::fs):=⟨VL he.1 hr.1⟩
theorem VT {fs:Aa DE}(h:QJ X (e1::e2::rest) fs):QE X (.JoinedStr (e1::e2::rest) pos) (tB fs):=⟨WS h.1⟩
theorem iE:QA X [] qC:=⟨cI⟩
theorem sW (ha:QE X e fa)(hr:QA X es fA)(hs:Az (e::es) X.env=(false,eval e X.env)::Az es X.env:=by rfl):QA X (e::es) (qA fa fA):=⟨dM ha.1 hr.1 hs⟩
theorem qcN (G:Def X.prog X.w X.K X.mg X.base cm k x n F)(hr:RoomC cm k X.A)(hF:Fn1 X)(hg:Gl X x)(ha:QA X (e::es) fA)(hdb:(x == ("__debug__" : As))=false)(he:Az (e::es) X.env=(false,eval e X.env)::Az es X.env:=by rfl)(hpl:(CP pos (Az es X.env)).any (·.1)=false:=by rfl):QE X (.Call (.Name x p) (e::es) [] pos) (qN n F fA):=⟨dcN G hr hF hg ha.1 hdb he hpl⟩
theorem ZM {id:Bo}(hc:ZCall X (.builtin id) F)(hg:Gl X x)(hm:X.mg x=none)(hv:CK x=Ab (.builtin id))(ha:QA X (e::es) fA)(hn:x ≠ "__name__")(hdb:(x == ("__debug__" : As))=false)(he:Az (e::es) X.env=(false,eval e X.env)::Az es X.env:=by rfl)(hpl:(CP pos (Az es X.env)).any (·.1)=false:=by rfl):QE X (.Call (.Name x p) (e::es) [] pos) (qE F fA):=⟨oY hc.1 hg hm hv ha.1 hn hdb he hpl⟩
theorem iH {T:Bo}(hc:ZCall X (.type T) F)(hg:Gl X x)(hm:X.mg x=none)(hv:CK x=Ab (.type T))(ha:QA X (e::es) fA)(hn:x ≠ "__name__")(hdb:(x == ("__debug__" : As))=false)(he:Az (e::es) X.env=(false,eval e X.env)::Az es X.env:=by rfl)(hpl:(CP pos (Az es X.env)).any (·.1)=false:=by rfl):QE X (.Call (.Name x p) (e::es) [] pos) (qE F fA):=⟨cJ hc.1 hg hm hv ha.1 hn hdb he hpl⟩
theorem tJ {T id:Bo}{name:As}{apos:Cz}{h:D→Aa D→Sto→Res D}(pa:PlainAttrs T)(slot:Slot T name id)(hty:typeOf (.builtin id)=pure (.type "method_descriptor"))(hT:T = "list" ∨ T = "dict" ∨ T = "int" ∨ T = "str")(hm:ZMt X id h)(ho:QE X o fo)(ha:QA X (e::es) fA)
  (hbase:attributeBase o name X.env (eval o X.env)=eval o X.env:=by rfl)
  (hfew:((CP pos (Az (e::es) X.env)).all (fun x=>!x.1)&&(backToKw pos (keywordEach [] X.env)).all (fun x=>x.1.isSome)&&decide ((e::es).length+([]:Aa OE).length+(if ([] : Aa OE).isEmpty then 0 else 1)<30))=true:=by rfl)
  (hline:(apos.endLine == pos.line)=true:=by rfl) (hs:Az (e::es) X.env=(false,eval e X.env)::Az es X.env:=by rfl) (hplain:(CP pos (Az es X.env)).any (·.1)=false:=by rfl):QE X (.Call (.Attribute o name apos) (e::es) [] pos) (dBm T h fo fA):=⟨M3 pa slot hty hT hm.1 ho.1 ha.1 hbase hfew hline hs hplain⟩
theorem W2 (h:QW X e ta):QT X e ta:=⟨PWD.pt h.1⟩
theorem bO (ha:QT X a ta):QW X (.BoolOp .Or [a] pos) ta:=⟨KH ha.1⟩
theorem tK (ha:QT X a ta)(hb:QW X (.BoolOp .Or (b::rest) pos) tb):QW X (.BoolOp .Or (a::b::rest) pos) (uF ta tb):=⟨MA ha.1 hb.1⟩
theorem iR (ha:QT X a ta):QT X (.UnaryOp .Not a pos) (yL ta):=⟨KE ha.1⟩
theorem iQ {op:Lw}(ho:ZOp X (Bj op) G2')(ha:QE X a fa)(hb:QE X b fb)(hm:ET op b=false:=by first|exact jG _|with_unfolding_all rfl):QT X (.Compare a [op] [b] pos) (dTr (d2 G2' fa fb)):=⟨KD ho.1 ha.1 hb.1 hm⟩
theorem iS (ha:QE X a fa)(he:∀ whole,isTrue a X.env whole=(do let v ← whole;IF a.pos;holding [v] (truthy v)):=by intro _;rfl):QT X a (dTr fa):=⟨KG ha.1 he⟩
theorem VV {m:Ah}(hN:X.N.Nodup)(hi:X.N[m]? = Ab x)(hx:Loc X.env.scope x)(hf:X.fn x=true∨X.env.scope.names.lookup x=Ab .local):QG X (.Name x pos) (gNm m):=⟨WW hN hi hx hf⟩
theorem sX:QGs X [] wN:=⟨WX⟩
theorem lH {h:DG}{gs:DGs}(h1:QG X e h)(h2:QGs X es gs)(hs:(Dj (e::es) X.env).map (·.2)=assign e X.env::(Dj es X.env).map (·.2):=by rfl):QGs X (e::es) (zE h gs):=⟨Q2 h1.1 h2.1 hs⟩
theorem iM {kk:Ah}{gs:DGs}(hc:X.calm=true)(h:QGs X es gs)(hn:(Dj es X.env).length=n:=by rfl)(hst:(Dj es X.env).findIdx? (·.1)=none:=by rfl):QG X (.Tuple es kk pos) (gTp n gs):=⟨K2 hc h.1 hn hst⟩
theorem BP {h:G3}(ho:QE X o fo)(hi:QE X i fi)(hs:ZSet X h)
  (ha:∀ v,assign (.Subscript o i pos) X.env v=(do
   let ov ← holding [v] (eval o X.env)
   let iv ← holding [v,ov] (eval i X.env)
   IF pos
   holding [v,ov,iv] (O7 ov iv v)
   release [v,ov,iv] []):=by intro _;rfl):QG X (.Subscript o i pos) (gSb fo fi h):=⟨K1 ho.1 hi.1 hs.1 ha⟩
theorem BS {tg:AC}(ha:QE X e fa):QI X tg e (xN fa):=⟨K3 ha.1⟩
theorem ZQ {tg:AC}(hg:Gl X "range")(hm:X.mg "range" = none)(ha:QA X (e::es) fA)(hs:Az (e::es) X.env=(false,eval e X.env)::Az es X.env:=by rfl)(hpl:(CP pos (Az es X.env)).any (·.1)=false:=by rfl):QI X tg (.Call (.Name "range" p) (e::es) [] pos) (xO fA):=⟨Q3 hg hm ha.1 hs hpl⟩
theorem iN {elts:Aa AC}{x1:Ah}{tpos:Cz}(hg:Gl X "zip")(hm:X.mg "zip" = none)(ha:QA X [e1,e2] fA)(hs:Az [e1,e2] X.env=(false,eval e1 X.env)::Az [e2] X.env:=by rfl)(hpl:(CP pos (Az [e2] X.env)).any (·.1)=false:=by rfl):QI X (.Tuple elts x1 tpos) (.Call (.Name "zip" p) [e1,e2] [] pos) (nF fA):=⟨K4 hg hm ha.1 hs hpl⟩
theorem iF:QB X [] x5:=⟨K7⟩
theorem bN (h:QS X st f):QB X [st] f:=⟨K8 h.1⟩
theorem p6 (h1:QS X st f)(h2:QB X sts g):QB X (st::sts) (qQ f g):=⟨Y2 h1.1 h2.1⟩
theorem U1 (he:QE X e fa)(hs:Gb e none pos.line X.env=pure false:=by rfl):QS X (.Expr e pos) (wQ fa):=⟨Y3 he.1 hs⟩
theorem iP (he:QE X e fa):QS X (.Return (Ab e) pos) (qS fa):=⟨KA he.1⟩
theorem W1 {as bs:Aa Cy}(hc:QT X c ta)(ha:QB X as f)(hb:QB X bs g):QS X (.If c as bs pos) (sIf ta f g):=⟨M8 hc.1 ha.1 hb.1⟩
theorem iO {tg iter:AC}{body:Aa Cy}{fI:DI}{h:DG}(hp:ZPass X)(hc:X.calm=true)(hi:QI X tg iter fI)(hg:QG X tg h)(hb:QB X body f)(hs:∀ x,Ch iter X.env x=pure x:=by intro _;rfl):QS X (.For tg iter body [] pos) (yD fI h f):=⟨K6 hp.1 hc hi.1 hg.1 hb.1 hs⟩
theorem BW {m:Ah}{pos':Cz}(hN:X.N.Nodup)(he:QE X e fa)(hi:X.N[m]? = Ab x)(hx:Loc X.env.scope x)(hs:Gb e (Ab (.Name x pos')) pos.line X.env=pure false)(hf:X.fn x=true∨X.env.scope.names.lookup x=Ab .local):QS X (.Assign [.Name x pos'] e pos) (zD fa (gNm m)):=⟨KB hN he.1 hi hx hs hf⟩
theorem BU {tg:AC}{h:DG}(he:QE X e fa)(hg:QG X tg h)(hs:ER [tg] e pos.line X.env=pure false:=by rfl)(hw:EQ [tg] e X.env=pure none:=by rfl)(h1:(Dj [tg] X.env).map (·.2)=[assign tg X.env]:=by rfl):QS X (.Assign [tg] e pos) (zD fa h):=⟨K5 he.1 hg.1 hs hw h1⟩
theorem BV {m l:Ah}{y:As}{px py pt:Cz} {kt k2 pt2} (hc:X.calm=true) (hN:X.N.Nodup) (ha:QA X [a,b] fA) (hi:X.N[m]? = Ab x) (hj:X.N[l]? = Ab y) (hij:m≠l) (hx:X.env.scope.names.lookup x=Ab .local) (hy:X.env.scope.names.lookup y=Ab .local)
  (hw:EQ [.Tuple [.Name x px,.Name y py] kt pt] (.Tuple [a,b] k2 pt2) X.env=pure (Ab [x,y]):=by rfl) (hs:ER [.Tuple [.Name x px,.Name y py] kt pt] (.Tuple [a,b] k2 pt2) pos.line X.env=pure false:=by rfl) :
  QS X (.Assign [.Tuple [.Name x px,.Name y py] kt pt] (.Tuple [a,b] k2 pt2) pos) (m4 m l fA):=⟨K9 hc hN ha.1 hi hj hij hx hy hw hs⟩
theorem ZS {C Ae:Ad}{np cpos:Cz}(hc:X.calm=true)(hF:Fn1 X)(hg:Gl X x)(hm:X.mg x=Ab (.ref C))(hx:pH X.K C Ae=true)(ha:QA X (e::rest) fA)(hdb:(x == ("__debug__" : As))=false)(he:Az (e::rest) X.env=(false,eval e X.env)::Az rest X.env:=by rfl)(hpl:(CP cpos (Az rest X.env)).any (·.1)=false:=by rfl) :
  QS X (.Raise (Ab (.Call (.Name x np) (e::rest) [] cpos)) none pos) (gI (.ref C) fA):=⟨Q6 hc hF hg hm hx ha.1 hdb he hpl⟩
theorem BX {nm:As}{C0:Ad}{m:Ah}{body:Aa Cy}{b₀:Cy}{suite:Aa Cy}{np hpos:Cz}{cs:Aa Ac}(hF:Fn1 X)(hb:∀ E pn,ZPass (Cx.tryIn X E pn)→QB (Cx.tryIn X E pn) body f)(hs:∀ e,QB (Cx.suite X e) (b₀::suite) g)(hg:Gl X x)(hm:X.mg x=Ab (.ref C0))(hcs:∀ c∈cs,Ek X.K c (.ref C0)=Ab true)(hN:X.N.Nodup)(hi:X.N[m]? = Ab nm)(hlo:X.env.scope.names.lookup nm=Ab .local)(hdb:(x == ("__debug__" : As))=false)(hn:X.N.length=n) :
  QS X (.Try body [.ExceptHandler (Ab (.Name x np)) (Ab nm) (b₀::suite) hpos] [] [] pos) (pT n m cs f g):=⟨hn▸KC hF (fun E pn hp=>(hb E pn ⟨hp⟩).1) (fun e=>(hs e).1) hg hm hcs hN hi hlo hdb⟩
theorem N8:ZOp X (Ci .Add) zM:=⟨GX⟩
theorem NH:ZOp X (Ci .Sub) w5:=⟨P8⟩
theorem ND:ZOp X (Ci .Mult) zT:=⟨sT⟩
theorem N9:ZOp X (Ci .FloorDiv) jU:=⟨GY⟩
theorem NC:ZOp X (Ci .Mod) vY:=⟨P6⟩
theorem NF:ZOp X (Ci .Pow) uI:=⟨P7⟩
theorem LR:ZOp X (Bj .Lt) gLt:=⟨MX⟩
theorem LQ:ZOp X (Bj .LtE) gLe:=⟨MW⟩
theorem LO:ZOp X (Bj .Gt) gGt:=⟨XX⟩
theorem LN:ZOp X (Bj .GtE) gGe:=⟨MU⟩
theorem FQ:ZOp X (Bj .Is) gIs:=⟨MV⟩
theorem FP (hr:RoomC cm k X.A):ZOp X (Bj .Eq) gEq:=⟨MT hr.units⟩
theorem FX (hr:RoomC cm k X.A):ZOp X (Bj .NotEq) gNe:=⟨MY hr.units⟩
theorem NE:ZUn X (Ms .USub) nP:=⟨FN⟩
theorem LP:ZIx X gIx:=⟨G7⟩
theorem W9:ZCall X (.builtin "isinstance") zF:=⟨cA⟩
theorem FR {cl:Aa Ad}(h:ClsK X.K cl):ZCall X (.builtin "isinstance") (zQ cl):=⟨WF h⟩
theorem WA:ZCall X (.builtin "len") zO:=⟨WG⟩
theorem NB:ZCall X (.type "int") kU:=⟨JF⟩
theorem XA:ZMt X "list.append" xY:=⟨aS⟩
theorem UU:ZMt X "list.count" bB:=⟨Z7⟩
theorem UV:ZMt X "list.index" bC:=⟨Z8⟩
theorem NG (hr:RoomC cm k X.A):ZSet X vL:=⟨F8 (hu1 hr)⟩
end
section
variable {P:A5}{w:AO}{K:Ai}{mg:As→Ak Ac}{base:AF}{cm:Ao}
theorem rE {N:Aa As}{qual:As}{scope:CS}{f:Ad}{cd:Ac}{A:A8}{outer:Aa EA}{s:Ag}{H:Hp}{E:XK}:ZPass (cxC cm P w K mg base N qual scope f cd A outer s H E):=⟨oV⟩
theorem NR {x:As}{st:Cy}{N ps:Aa As}{k:Ah}{g:DS}{body:Aa Cy}(h:Src K mg x st ps)(S:FnScope N ps (qI st))(hbd:zR st=body)
  (hbody:∀ (f:Ad) (cdv:Ac) (A:A8) (outer:Aa EA) (s:Ag) (H:Hp) (E:XK),RoomC cm k (A.deeper (Dk x (qI st) s.heap.objs.size f cdv)) →
   QB (cxC cm P w K mg base N x (qI st) f cdv A outer s H E) body g):Def P w K mg base cm (k+1) x ps.length (qP N.length g):=
 K0 h S fun f cdv A outer s H E hr=>hbd▸(hbody f cdv A outer s H E hr).1
theorem M6 {x:As}{st:Cy}{N ps:Aa As}{k:Ah}{g:DS}{body:Aa Cy}(h:Src K mg x st ps)(S:FnScope N ps (qI st))(hbd:zR st=body)
  (hbody:∀ (f:Ad) (cdv:Ac) (A:A8) (outer:Aa EA) (s:Ag) (H:Hp) (E:XK),RoomC cm k (A.deeper (Dk x (qI st) s.heap.objs.size f cdv)) →
   QB (cxC cm P w K mg base N x (qI st) f cdv A outer s H E) body g):tN P w K mg base cm (k+1) x ps (qP N.length g):=
 WV h S fun f cdv A outer s H E hr=>hbd▸(hbody f cdv A outer s H E hr).1
theorem WU {x:As}{st:Cy}{ps:Aa As}(h:Src K mg x st ps):Def P w K mg base cm 0 x ps.length fun _ _=>.bad:=by
 obtain⟨f,fd,hm,F,hb⟩:=h;exact⟨f,fd,ps,rfl,hm,F.kp,hb,tF F,⟨fun vs H Q E z=>z.1,fun A outer s H args us vs Q E _ _ _ _ z=>by obtain⟨_,_,_,_,_,_,_,z⟩:=z;exact Am z⟩⟩
end
structure QTs (X:Cx)(ifs:Aa AC)(t:DT):Prop where
 get:PTs X ifs t
section
variable {X:Cx}{elt tg iter e:AC}{ifs es:Aa AC}{scope:CS}{pos p:Cz}{N':Aa As}{cap:Aa (Ak Ah)}{fi:DI}{g:DG}{t u:DT}{fe:DE}{fa:DA}{x:As}{cm:Ao}{k n:Ah}{F:DF}
theorem U2:QTs X [] zL:=⟨Y6⟩
theorem ZT (h1:QT X e t)(h2:QTs X es u):QTs X (e::es) (w8 t u):=⟨Q7 h1.1 h2.1⟩
theorem qcO (G:Def X.prog X.w X.K X.mg X.base cm k x n F)(hr:RoomC cm k X.A)(hg:Gl X x)(ha:QA X (e::es) fa)(hdb:(x == ("__debug__" : As))=false)(he:Az (e::es) X.env=(false,eval e X.env)::Az es X.env:=by rfl)(hpl:(CP pos (Az es X.env)).any (·.1)=false:=by rfl) :
  QE X (.Call (.Name x p) (e::es) [] pos) (qN n (okO F) fa):=⟨dcO G hr hg ha.1 hdb he hpl⟩
end
def stn (o:Ak (Ah × MO))(S:Sto):Prop:=match o with
 |none=>Hf
 |some p=>S[p.1]? = Ab p.2
open Classical in
def m7 (o:Ak (Ah × MO))(S:Sto):Ao:=decide (stn o S)
open Classical in
theorem mU (S:Sto):m7 none S=true:=by unfold m7;exact Bv trivial
theorem yE {o:Ak (Ah × MO)}{S:Sto}:m7 o S=true↔stn o S:=by simp[m7]
structure ItD2 (K:Ai)(J:It)(P:Hp)(α : Aa Ad)(o:Ak (Ah × MO))(ds:Aa D):Prop where
 go:∀ i H P1 α1 S,i<ds.length→Rel K H P1 α1 S→stn o S→qH P P1→α<+:α1→J.go i H
 yld:∀ i H x H' P1 α1 S,i<ds.length→Rel K H P1 α1 S→stn o S→qH P P1→α<+:α1→J.yld i H x H'→∃ P2 d,ds[i]? = Ab d∧Rel K H' P2 α1 S∧qH P1 P2∧Rep K P2 α1 d x
 stop:∀ i H P1 α1 S,ds.length≤i→Rel K H P1 α1 S→stn o S→qH P P1→α<+:α1→J.stop i H
theorem ItD.two {K:Ai}{J:It}{P:Hp}{α : Aa Ad}{ds:Aa D}(h:ItD K J P α ds):ItD2 K J P α none ds:=
 ⟨fun i H P1 α1 S a b _ c d=>h.go i H P1 α1 S a b c d,fun i H x H' P1 α1 S a b _ c d e=>h.yld i H x H' P1 α1 S a b c d e,fun i H P1 α1 S a b _ c d=>h.stop i H P1 α1 S a b c d⟩
abbrev DI2:=qD→Sto→Res (Ak (Ah × MO) × Aa D)
inductive tDI2 (X:Cx)(f:DI2)(σ : _L.St)(H:Hp)(R:It→Hp→Prop):Prop
 |mk (P:Hp) (α : Aa Ad) (env:qD) (S:Sto) (r:Rel X.K H P α S) (re:qV X.K P α σ env) (af:qJ X P α (f env S) (fun p S'=>∀ J H' P' α',Rel X.K H' P' α' S'→qH P P'→α<+:α'→ItD2 X.K J P' α' p.1 p.2→R J H')):tDI2 X f σ H R
def xT (f:DI):DI2:=fun env S=>(f env S).bind fun ds S1=>.ok (none,ds) S1
section
variable {X:Cx}{K:Ai}{tg e:AC}{fa:DE}{pos:Cz}
theorem WZ {f:DI}(h:PI X tg e (tDI X f)):PI X tg e (tDI2 X (xT f)):=PI.weak h fun σ H R ⟨P,α,env,S,r,re,af⟩=>by
 refine⟨P,α,env,S,r,re,?_⟩;unfold xT at af;cases q:f env S with
 |bad=>rw[q] at af;exact af
 |ex c x S'=>rw[q] at af;exact af
 |ok ds S1 =>
  rw[q] at af;exact fun J H' P' α' r' e1 e2 it=>af J H' P' α' r' e1 e2 it.two
theorem YK {P:Hp}{α : Aa Ad}{a:Ad}{n:Ah}{ds:Aa D}(hα:α[n]? = Ab a):ItD2 K (Itl K a) P α (Ab (n,.lst ds)) ds where
 go:=fun i H P1 α1 S hi r st e e2=>by
  obtain⟨vs,z,t⟩:=r.at' n a _ (p5 e2 hα) st;exact⟨vs,vs[i]'(by rw[← t.length];exact hi),.of z,by simp⟩
 yld:=fun i H x H' P1 α1 S hi r st e e2 y=>by
  obtain⟨rfl,y⟩:=y;obtain⟨vs,z,t⟩:=r.at' n a _ (p5 e2 hα) st;have hx:=y vs (.of z);obtain⟨v,h1,h2⟩:=t.get (Ap hi);rw[hx] at h1;cases h1;exact⟨P1,_,Ap hi,r,qH.refl _,h2⟩
 stop:=fun i H P1 α1 S hi r st e e2=>by
  obtain⟨vs,z,t⟩:=r.at' n a _ (p5 e2 hα) st;exact⟨vs,.of z,by rw[← t.length];exact hi⟩
def itD (d:D)(S:Sto):Res (Ak (Ah × MO) × Aa D):=match d with
 |.tup xs=>.ok (none,xs) S
 |.lst xs=>.ok (none,xs) S
 |.loc n=>match S[n]? with
  |some (.lst xs)=>.ok (Ab (n,.lst xs),xs) S
  |_=>.bad
 |_=>.bad
def dIt (f:DE):DI2:=fun env S=>(f env S).bind fun d S1=>itD d S1
theorem M7 (ha:PE X e (tD X fa)):PI X tg e (tDI2 X (dIt fa)):=by
 intro pins s σ H R I h;obtain⟨P,α,env,S,r,re,af⟩:=h;refine thn (x0 ha I r re af) fun vv s1 ⟨v,H1,P1,α1,d,S1,G1,af1⟩=>?_;have seq:∀ ds,g9 d=Ab ds→(∀ J H' P' α',Rel X.K H' P' α' S1→qH P P'→α<+:α'→ItD2 X.K J P' α' none ds→R J H')→An (Ar X.prog X.w) X.A (HU vv) (PIE X pins σ tg R) X.xe s1:=fun ds e1 q =>
  nU G1.inv G1.rel G1.val G1.rep e1 fun J H' P' α' r' h1 h2 it=>q J H' P' α' r' (G1.same.trans h1) (G1.pre.trans h2) it.two
 cases d with
 |tup xs=>exact seq xs rfl af1
 |lst xs=>exact seq xs rfl af1
 |loc n =>
  obtain⟨xs,hS,af1⟩:=k9 (X:=X) (f:=fun xs=>Res.ok (Ab (n,MO.lst xs),xs) S1) af1;have rp:=G1.rep;simp only[Rep] at rp;obtain⟨a,rfl,ha⟩:=rp;cases (show vv=AY a from G1.val)
  obtain⟨vs,z,t⟩:=G1.rel.at' n a _ ha hS;obtain⟨its,rv,p,hz⟩:=G1.inv.list (SqL.of z);refine DN p.isList ?_;refine⟨s1.heap.objs.size,[s1.heap.objs.size],_,_,H1,rfl,G1.inv.kept (t':=s1.toks) fun b o e=>Al _ e,mW a _,⟨_,AN _ rfl,rfl,rfl⟩,fun b hb=>?_,af1 _ _ P1 α1 G1.rel G1.same G1.pre (YK ha)⟩;have e:b=s1.heap.objs.size:=by simpa using hb
  subst e;exact G1.inv.fpOk (Aw _) (G1.inv.hok.fresh (Aw _))
 |_=>exact Am af1
end
def zV (elt:AC)(gens:Aa Cc)(scope:CS)(pos:Cz)(k:Ah)(acc:Ac)(env:EA):Fb HS:=
 match gens[k+1]? with
 |some g'=>do
  let x ← eval g'.iter env
  IF g'.iter.pos
  let x ← Ch g'.iter env x
  let it ← holding [x] (HU x)
  let _ ← runOwn (.compStart (.ListComp elt gens scope pos) (k+1) it acc env) env
 |none=>do let _ ← call (.builtin "list.append") [acc,← eval elt env]
theorem X7 (elt target iter:AC)(ifs:Aa AC)(gens:Aa Cc)(scope:CS)(pos:Cz)(it acc:Ac)(env:EA)(k:Ah)(hg:gens[k]? = Ab ⟨target,iter,ifs,0⟩)(ha:∀ g',gens[k+1]? = Ab g'→g'.is_async=0) :
  compTurn (.ListComp elt gens scope pos) k it acc env=(do
   IF iter.pos
   match ← HT it with
   |none=>pure (.done .next)
   |some v =>
    E1 target it v
    assign target env v
    let mut ok:=true
    for c in ifs do
     if ok then ok ← isTrue c env (eval c env)
    if ok then zV elt gens scope pos k acc env
    again (.compLoop (.ListComp elt gens scope pos) k it acc env)):=by
 unfold compTurn zV;simp only[hg];cases q:gens[k+1]? with
 |none=>rfl
 |some g' =>
  have h0:=ha g' q;have e0:(g'.is_async != 0)=false:=by rw[h0];rfl
  simp only[e0,Bl,Ds,bind_assoc,pure_bind];rfl
abbrev DK:=qD→Sto→Aa D→Res (qD × Aa D)
def goL (o:Ak (Ah × MO))(g:DG)(t:DT)(k:DK):Aa D→DK
 |[],env,S,acc=>if m7 o S then .ok (env,acc) S else .bad
 |d::ds,env,S,acc=>if m7 o S then (g d env S).bind fun env1 S1=>(t env1 S1).bind fun b S2 =>
   if b then (k env1 S2 acc).bind fun p S3=>goL o g t k ds p.1 S3 p.2 else goL o g t k ds env1 S2 acc
  else .bad
def z0 (fe:DE):DK:=fun env S acc=>(fe env S).bind fun x S1=>if acc.length<lim then .ok (env,acc++[x]) S1 else .bad
def kIn (fi:DI2)(g:DG)(t:DT)(k:DK):DK:=fun env S acc=>(fi env S).bind fun p S1=>goL p.1 g t k p.2 env S1 acc
def rF (Y:Cx)(pins:Aa (Ad × AV))(P1:Hp)(α1:Aa Ad)(acc:Ad)(env:qD)(S:Sto)(ds:Aa D)(s:Ag):Prop:=
 ∃ σ H P α o,TurnSt Y pins P1 α1 [] acc env S ds s σ H P α o
def PK (Y:Cx)(step:Ac→Fb HS)(k:DK):Prop:=
 ∀ (pins:Aa (Ad × AV)) (P1:Hp) (α1:Aa Ad) (acc:Ad) (env env':qD) (S S':Sto) (ds ds':Aa D) (s:Ag),(∀ H:Hp,H acc=none→xD Y pins H acc)→rF Y pins P1 α1 acc env S ds s→k env S ds=.ok (env',ds') S' →
  An (Ar Y.prog Y.w) Y.A (step (.ref acc)) (fun _ s'=>rF Y pins P1 α1 acc env' S' ds' s') (fun _ _=>Cq) s
section
variable {Y:Cx}{elt tg iter:AC}{ifs:Aa AC}{gens:Aa Cc}{scope:CS}{pos:Cz}{k:Ah}{g:DG}{t:DT}{fe:DE}{it acc:Ad}{fp:Aa Ad}{J:It}{tn:Ah→AF→Prop}{items:Aa D}{P1:Hp}{α1:Aa Ad}{pins:Aa (Ad × AV)}
theorem cX {X:Cx}{pins:Aa (Ad × AV)}{H:Hp}{b:Ad}{fp:Aa Ad}{h:AF}(f:xD X pins H b)(hn:b ∉ fp):xD X (pins++yQ fp h) H b:=by
 obtain⟨f0,f1,f2,f3,f4,f5⟩:=f;refine⟨f0,f1,f2,f3,f4,fun p hp=>?_⟩;rcases AS.mp hp with z|z
 ·exact f5 p (Bp _ z)
 ·rcases AS.mp z with z|z
  ·exact f5 p (AJ _ z)
  ·rintro rfl
   exact hn (mS z).1
theorem Res.bind_inv {β γ:Type}{r:Res β}{f:β→Sto→Res γ}{x:γ}{S:Sto}(h:r.bind f=.ok x S):∃ b S1,r=.ok b S1∧f b S1=.ok x S:=by
 cases r with
 |ok b S1=>exact⟨b,S1,rfl,h⟩
 |_=>cases h
inductive GoC (o:Ak (Ah × MO))(g:DG)(t:DT)(k:DK)(d:D)(ds acc:Aa D)(env:qD)(S SF:Sto)(x:qD × Aa D):Prop
 |no (env1:qD) (S1 S2:Sto) (z:stn o S) (q1:g d env S=.ok env1 S1) (q2:t env1 S1=.ok false S2) (r:goL o g t k ds env1 S2 acc=.ok x SF):GoC o g t k d ds acc env S SF x
 |yes (env1:qD) (S1 S2:Sto) (env5:qD) (ds5:Aa D) (S5:Sto) (z:stn o S) (q1:g d env S=.ok env1 S1) (q2:t env1 S1=.ok true S2) (q3:k env1 S2 acc=.ok (env5,ds5) S5) (r:goL o g t k ds env5 S5 ds5=.ok x SF):GoC o g t k d ds acc env S SF x
set_option tactic.hygienic true in
theorem QR {o:Ak (Ah × MO)}{g:DG}{t:DT}{k:DK}{d:D}{ds acc:Aa D}{env:qD}{S SF:Sto}{x:qD × Aa D}(h:goL o g t k (d::ds) env S acc=.ok x SF):GoC o g t k d ds acc env S SF x:=by
 simp only[goL] at h
 split at h
 ·rename_i z
  obtain⟨env1,S1,q1,h⟩:=Res.bind_inv h;obtain⟨b,S2,q2,h⟩:=Res.bind_inv h;cases b with
  |false=>exact .no env1 S1 S2 (yE.mp z) q1 q2 h
  |true =>
   obtain⟨⟨env5,ds5⟩,S5,q3,h⟩:=Res.bind_inv h;exact .yes env1 S1 S2 env5 ds5 S5 (yE.mp z) q1 q2 q3 h
 ·cases h
set_option tactic.hygienic true in
theorem YE {o:Ak (Ah × MO)}{g:DG}{t:DT}{k:DK}{acc dsF:Aa D}{env envF:qD}{S SF:Sto}(h:goL o g t k [] env S acc=.ok (envF,dsF) SF):stn o S∧env=envF∧acc=dsF∧S=SF:=by
 simp only[goL] at h
 split at h
 ·rename_i z
  cases h;exact⟨yE.mp z,rfl,rfl,rfl⟩
 ·cases h
inductive LpI (Y:Cx)(pins:Aa (Ad × AV))(P1:Hp)(α1:Aa Ad)(fp:Aa Ad)(acc:Ad)(tn:Ah→AF→Prop)(G:Aa D→DK)(items:Aa D)(x:qD × Aa D)(SF:Sto)(n:Ah)(s:Ag):Prop
 |mk (i:Ah) (σ : _L.St) (H P:Hp) (α : Aa Ad) (o:AV) (env:qD) (S:Sto) (ds:Aa D) (hn:n=items.length-i) (hi:i≤items.length) (st:TurnSt Y pins P1 α1 fp acc env S ds s σ H P α o) (st1:tn i s.heap) (run:G (items.drop i) env S ds=.ok x SF):LpI Y pins P1 α1 fp acc tn G items x SF n s
theorem UM {M:Fl}{A:A8}{Q:Fin→Ag→Prop}{Qa Qd:Ag→Prop}{E:Ac→Ag→Prop}{s:Ag}{it acc:Ac}{en:EA}(hgk:gens[k]? = Ab ⟨tg,iter,ifs,0⟩)(has:∀ g',gens[k+1]? = Ab g'→g'.is_async=0)
  (ha:∀ s,Qa s→Q (.again (.compLoop (.ListComp elt gens scope pos) k it acc en)) s) (hd:∀ s,Qd s→Q (.done .next) s)
  (h:An M A (HT it) (fun r s1=>(r=none→Qd s1)∧∀ v,r=Ab v→An M A (E1 tg it v) (fun _ s2=>An M A (assign tg en v) (fun _ s3=>An M A (uO ifs en) (fun b s4=>(b=false→Qa s4)∧(b=true→An M A (zV elt gens scope pos k acc en) (fun _ s5=>Qa s5) E s4)) E s3) E s2) E s1) E s) :
  An M A (compTurn (.ListComp elt gens scope pos) k it acc en) Q E s:=by
 rw[X7 elt tg iter ifs gens scope pos it acc en k hgk has];refine Af (ES (Af (thn h fun r s1 ⟨h0,h1⟩=>?_)));cases r with
 |none=>exact Aq (hd _ (h0 rfl))
 |some v =>
  refine Af (thn (h1 v rfl) fun _ s2 h2=>Af (thn h2 fun _ s3 h3=>Af (thn h3 fun b s4 h4=>?_)));cases b with
  |false=>exact Aq (ha _ (h4.1 rfl))
  |true=>exact Af (thn (h4.2 rfl) fun _ s5 h5=>Aq (ha _ h5))
theorem YC (hfp:∀ H:Hp,(∀ b∈fp,H b=none)→∀ b∈fp,xD Y pins H b)(hne:acc ∉ fp)(o:AV)(H':Hp)(hn:∀ b∈fp,H' b=none):∀ b∈fp,xD Y (pins++[(acc,o)]) H' b:=fun b hb=>by
 obtain⟨f0,f1,f2,f3,f4,f5⟩:=hfp H' hn b hb;refine⟨f0,f1,f2,f3,f4,fun p hp=>?_⟩;rcases AS.mp hp with z|z
 ·exact f5 p (Bp _ z)
 ·rcases AS.mp z with z|z
  ·exact f5 p (AJ _ z)
  ·rw[Di.mp z]
   rintro rfl;exact hne hb
theorem uY {i:Ah}{h:AF}(T:Turn Y.prog Y.w Y.K tg J fp it tn)(st2:tn (i+1) h)(pl:∀ b∈fp,∃ o,h.get? b=Ab o∧∀ v,o.data≠.cell v){s5:Ag}{σ5:_L.St}{H5:Hp}(I5:Inv Y (pins++yQ fp h) σ5 H5 s5):tn (i+1) s5.heap∧(∀ b∈fp,H5 b=none):=by
 refine⟨T.keep _ _ _ st2 fun b hb o' e=>(I5.pin (b,o') (AJ _ (AJ _ (u8 hb e)))).1,fun b hb=>?_⟩;obtain⟨o',e,d'⟩:=pl b hb;exact(I5.pin (b,o') (AJ _ (AJ _ (u8 hb e)))).2.1
theorem rR {o':Ak (Ah × MO)}{kk:DK}{Qa Qd:Ag→Prop}{E:Ac→Ag→Prop}{s:Ag}{σ : _L.St}{H P:Hp}{α : Aa Ad}{env envF:qD}{S SF:Sto}{ds dsF:Aa D}{o:AV}{i:Ah}(hc:Y.calm=true)(hx:Y.xe=fun _ _=>Cq)
  (T:Turn Y.prog Y.w Y.K tg J fp it tn) (hit:ItD2 Y.K J P1 α1 o' items) (hg:PG Y tg (tDG Y g)) (ht:PTs Y ifs t) (he:PK Y (fun acc=>zV elt gens scope pos k acc Y.env) kk) (hacc:∀ H:Hp,H acc=none→xD Y pins H acc) (hfp:∀ H:Hp,(∀ b∈fp,H b=none)→∀ b∈fp,xD Y pins H b) (hne:acc ∉ fp)
  (hi:i≤items.length) (st:TurnSt Y pins P1 α1 fp acc env S ds s σ H P α o) (st1:tn i s.heap) (run:goL o' g t kk (items.drop i) env S ds=.ok (envF,dsF) SF)
  (hA:∀ s' σ' H' P' α' o1 env1 S' ds',i<items.length→TurnSt Y pins P1 α1 fp acc env1 S' ds' s' σ' H' P' α' o1→tn (i+1) s'.heap→goL o' g t kk (items.drop (i+1)) env1 S' ds'=.ok (envF,dsF) SF→Qa s')
  (hD:∀ s' σ' H' P' α' o',TurnSt Y pins P1 α1 fp acc envF SF dsF s' σ' H' P' α' o'→Qd s') :
  An (Ar Y.prog Y.w) Y.A (HT (.ref it)) (fun r s1=>(r=none→Qd s1)∧∀ v,r=Ab v→An (Ar Y.prog Y.w) Y.A (E1 tg (.ref it) v) (fun _ s2=>An (Ar Y.prog Y.w) Y.A (assign tg Y.env v) (fun _ s3=>An (Ar Y.prog Y.w) Y.A (uO ifs Y.env) (fun b s4=>(b=false→Qa s4)∧(b=true→An (Ar Y.prog Y.w) Y.A (zV elt gens scope pos k (.ref acc) Y.env) (fun _ s5=>Qa s5) E s4)) E s3) E s2) E s1) E s:=by
 have I1:=_D.Inv.pin1 st.inv (hacc H st.acn) st.at' st.acc.cell;have fp1:=YC hfp hne o;by_cases hlt:i<items.length
 ·have hdr:items.drop i=items[i]::items.drop (i+1):=CW hlt
  rw[hdr] at run;have run:=QR run;have hst:stn o' S:=by cases run with|no _ _ _ z=>exact z|yes _ _ _ _ _ _ z=>exact z
  refine kH (T.item Y rfl rfl rfl hc i _ s σ H (fun _ _=>Cq) I1 (fp1 H st.fpn) st1 (hit.go i H P α S hlt st.rel hst st.same st.pre)) fun r s1 ⟨u,hr,h1⟩=>⟨fun z=>(by rw[hr] at z;cases z),fun v hv=>?_⟩
  obtain rfl:v=u:=Be (hv.symm.trans hr);refine kH h1 fun _ s2 ⟨x,H2,I2,rx,y,st2,fr2⟩=>?_;obtain⟨P2,d,hd,r2,e2,rp⟩:=hit.yld i H x H2 P α S hlt st.rel hst st.same st.pre y;cases (Ap hlt).symm.trans hd;have pl:=T.obj _ _ st2;have I2':=I2.pinned (fp1 _ fr2) pl;have two:∀ env1 S1 b S2,g items[i] env S=.ok env1 S1→t env1 S1=.ok b S2→(∀ s4 σ3 H4 P4 α4 (I4:Inv Y (pins++yQ fp s2.heap) σ3 H4 s4),TurnSt Y pins P1 α1 fp acc env1 S2 ds s4 σ3 H4 P4 α4 o→tn (i+1) s4.heap→(b=false→Qa s4)∧(b=true→An (Ar Y.prog Y.w) Y.A (zV elt gens scope pos k (.ref acc) Y.env) (fun _ s5=>Qa s5) E s4))→An (Ar Y.prog Y.w) Y.A (assign tg Y.env v) (fun _ s3=>An (Ar Y.prog Y.w) Y.A (uO ifs Y.env) (fun b s4=>(b=false→Qa s4)∧(b=true→An (Ar Y.prog Y.w) Y.A (zV elt gens scope pos k (.ref acc) Y.env) (fun _ s5=>Qa s5) E s4)) E s3) E s2:=by
   intro env1 S1 b S2 q1 q2 next;refine kH (hx▸L7 hg I2' r2 (st.env.mono e2 (AD _)) rx rp q1) fun _ s3 ⟨σ3,H3,P3,α3,I3,r3,re3,e3,e3'⟩=>?_;refine kH (hx▸TF ht I3 r3 re3 q2) fun b' s4 ⟨hb,H4,P4,α4,I4,r4,re4,e4,e4'⟩=>?_;have I4':Inv Y (pins++yQ fp s2.heap) σ3 H4 s4:=I4.pins_of fun p hp=>I4.pin p (AJ _ ((AS.mp hp).elim (fun z=>Bp _ (Bp _ z)) fun z=>AJ _ z));have a4:=I4.pin (acc,o) (AJ _ (Bp _ (AJ _ (Di.mpr rfl))));rw[hb];exact next s4 σ3 H4 P4 α4 I4' ⟨I4'.unpinned,r4,re4,((st.same.trans e2).trans e3).trans e4,(st.pre.trans e3').trans e4',(uY T st2 pl I4').2,a4.2.1,a4.1,st.acc.mono ((e2.trans e3).trans e4) (e3'.trans e4')⟩ (uY T st2 pl I4').1
  cases run with
  |no env1 S1 S2 _ q1 q2 run=>exact two env1 S1 false S2 q1 q2 fun s4 σ3 H4 P4 α4 I4 st4 tn4=>⟨fun _=>hA s4 σ3 H4 P4 α4 o env1 S2 ds hlt st4 tn4 run,fun z=>(by cases z)⟩
  |yes env1 S1 S2 env5 ds5 S5 _ q1 q2 q3 run =>
   refine two env1 S1 true S2 q1 q2 fun s4 σ3 H4 P4 α4 I4 st4 tn4=>⟨fun z=>(by cases z),fun _=>?_⟩
   refine kH (he (pins++yQ fp s2.heap) P1 α1 acc env1 env5 S2 S5 ds ds5 s4 (fun H hn=>cX (hacc H hn) hne) ⟨σ3,H4,P4,α4,o,I4,st4.rel,st4.env,st4.same,st4.pre,fun b hb=>(by cases hb),st4.acn,st4.at',st4.acc⟩ q3) fun _ s5 ⟨σ5,H5,P5,α5,o5,T5⟩=>?_
   exact hA s5 σ5 H5 P5 α5 o5 env5 S5 ds5 hlt ⟨T5.inv.unpinned,T5.rel,T5.env,T5.same,T5.pre,(uY T st2 pl T5.inv).2,T5.acn,T5.at',T5.acc⟩ (uY T st2 pl T5.inv).1 run
 ·rw[E5 om] at run
  obtain⟨z,rfl,rfl,rfl⟩:=YE run;refine kH (T.done Y rfl rfl rfl hc i _ s σ H (fun _ _=>Cq) I1 (fp1 H st.fpn) st1 (hit.stop i H P α _ om st.rel z st.same st.pre)) fun r s1 ⟨hr,I2⟩=>⟨fun _=>?_,fun v hv=>(by rw[hr] at hv;cases hv)⟩
  have a:=_D.Inv.pinned1 I2;exact hD s1 σ H P α o ⟨I2.unpinned,st.rel,st.env,st.same,st.pre,st.fpn,a.2,a.1,st.acc⟩
theorem b5 {o':Ak (Ah × MO)}{kk:DK}{R:IU→Ag→Prop}{s:Ag}{σ : _L.St}{H P:Hp}{α : Aa Ad}{env envF:qD}{S SF:Sto}{ds0 dsF:Aa D}{o:AV}(hc:Y.calm=true)(hx:Y.xe=fun _ _=>Cq)(hgk:gens[k]? = Ab ⟨tg,iter,ifs,0⟩)(has:∀ g',gens[k+1]? = Ab g'→g'.is_async=0)
  (T:Turn Y.prog Y.w Y.K tg J fp it tn) (hit:ItD2 Y.K J P1 α1 o' items) (hg:PG Y tg (tDG Y g)) (ht:PTs Y ifs t) (he:PK Y (fun acc=>zV elt gens scope pos k acc Y.env) kk) (hacc:∀ H:Hp,H acc=none→xD Y pins H acc) (hfp:∀ H:Hp,(∀ b∈fp,H b=none)→∀ b∈fp,xD Y pins H b) (hne:acc ∉ fp)
  (st:TurnSt Y pins P1 α1 fp acc env S ds0 s σ H P α o) (st0:tn 0 s.heap) (run:goL o' g t kk items env S ds0=.ok (envF,dsF) SF)
  (hR:∀ s' σ' H' P' α' o',TurnSt Y pins P1 α1 fp acc envF SF dsF s' σ' H' P' α' o'→R (.ok .next) s') :
  Ec (Ar Y.prog Y.w) Y.A (.compLoop (.ListComp elt gens scope pos) k (.ref it) (.ref acc) Y.env) R s:=by
 refine codeAny_loop rfl (LpI Y pins P1 α1 fp acc tn (goL o' g t kk) items (envF,dsF) SF) (fun n s hI=>?_) items.length ⟨0,σ,H,P,α,o,env,S,ds0,rfl,Fe _,st,st0,run⟩;obtain⟨i,σ,H,P,α,o,env,S,ds,hn,hi,st,st1,run⟩:=hI;subst hn;refine wpAny_noted (UM hgk has (Qa:=fun s'=>∃ m,m<items.length-i∧LpI Y pins P1 α1 fp acc tn (goL o' g t kk) items (envF,dsF) SF m s') (Qd:=R (.ok .next)) (fun _ h=>⟨rfl,h⟩) (fun _ h=>h) ?_);exact rR hc hx T hit hg ht he hacc hfp hne hi st st1 run (fun s' σ' H' P' α' o1 env1 S' ds' hlt st' tn' run'=>⟨_,Nat.sub_succ_lt_self _ _ hlt,i+1,σ',H',P',α',o1,env1,S',ds',rfl,hlt,st',tn',run'⟩) hR
set_option tactic.hygienic true in
theorem VM (hx:Y.xe=fun _ _=>Cq)(hlast:gens[k+1]? = none)(he:PE Y elt (tD Y fe)):PK Y (fun acc=>zV elt gens scope pos k acc Y.env) (z0 fe):=by
 intro pins P1 α1 acc env env' S S' ds ds' s hacc ⟨σ,H,P,α,o,st⟩ run;show An _ _ (zV elt gens scope pos k (.ref acc) Y.env) _ _ s;unfold zV;rw[hlast];dsimp only;unfold z0 at run;cases q3:fe env S with
 |bad=>rw[q3] at run;cases run
 |ex c z S'=>rw[q3] at run;cases run
 |ok d5 S5 =>
  rw[q3,Res.bind_ok] at run
  split at run
  ·rename_i hlen
   cases run;have fA:=hacc H st.acn;have I1:=_D.Inv.pin1 st.inv fA st.at' st.acc.cell;refine Af (kH (hx▸L6 he I1 st.rel st.env q3) fun u5 s5 ⟨v5,H5,P5,α5,G5⟩=>?_);have J:=_D.Inv.pinned1 G5.inv;have J1:=G5.inv.unpinned;obtain⟨J4,J5⟩:=J;obtain⟨its,n5,vs,ho,rvs,rps,hz⟩:=st.acc;subst ho;have hlen':vs.length=ds.length:=rps.length.symm;have hl2:=rvs.length;refine Af (Hi Ku ⟨_,J4,rfl⟩ Ka (Jl _ _) (Md acc its.toArray n5 u5 (by rw[AB];rw[← zS];omega)) ⟨J4,?_⟩)
   have q:=Mw J4 (·.push u5)
   have fA5:=hacc H5 J5;have keep:∀ b o,b≠acc→s5.heap.get? b=Ab o→(s5.heap.update acc (Dm (·.push u5))).get? b=Ab o:=fun b o hb e=>(Bh s5.heap _ (DC hb)).trans e
   have I6:=J1.turned (t':=s5.toks) keep J5 fA5.2.1 fA5.2.2.2.1 fA5.2.2.2.2.1 fA5.2.2.2.2.2;refine Aq ⟨σ,H5,P5,α5,_,I6,G5.rel,G5.env,st.same.trans G5.same,st.pre.trans G5.pre,fun b hb=>(by simp at hb),J5,q,?_⟩
   refine⟨its++[u5],_,vs++[v5],by simp <;> rfl,rvs.append (.cons G5.val .nil),?_,by simp;omega⟩
   exact(qG.mono G5.same G5.pre _ _ rps).append (.cons G5.rep .nil)
  ·cases run
end
theorem n8 {prog:A5}{w:AO}{A:A8}{R:IU→Ag→Prop}{s:Ag}{elt:AC}{gens:Aa Cc}{scope:CS}{pos:Cz}{k:Ah}{it acc:Ac}{env:EA}{g:Cc}(hg:gens[k]? = Ab g)(ha:g.is_async=0)
  (h0:Ec (Ar prog w) A (.compLoop (.ListComp elt gens scope pos) k it acc env) R s)
  (h:An (Ar prog w) A (HU it) (fun it' s'=>Ec (Ar prog w) A (.compLoop (.ListComp elt gens scope pos) k it' acc env) R s') (notedBy (Ar prog w) A env fun x s'=>R (.error x) s') s) :
  Ec (Ar prog w) A (.compStart (.ListComp elt gens scope pos) k it acc env) R s:=by
 refine codeAny_of_tree ?_;show An _ _ ((compStart (.ListComp elt gens scope pos) k it acc env).onRaise (fun x=>do IX x env;IF theWindowsPlace)) _ _ s
 refine wpAny_notedAt ?_;have hcl:clausesOf (.ListComp elt gens scope pos)=gens:=rfl;have e0:(g.is_async != 0)=false:=by rw[ha];rfl
 unfold compStart;simp only[hcl,hg,Option.elim,e0,Bl,Ds];refine Af (wpAny_askSetting (wpAny_ite ?_))
 split
 ·exact Aq (And.intro rfl h0)
 ·refine Af (DJ ?_)
  exact Af (ES (Af (CU h (fun it' s' h'=>Aq (And.intro rfl h')) fun _ _ x=>x)))
section
variable {Y:Cx}{elt tg iter:AC}{ifs:Aa AC}{gens:Aa Cc}{scope:CS}{pos:Cz}{k:Ah}{g:DG}{t:DT}{fi:DI2}{kk:DK}
theorem cW {X:Cx}{pins pl:Aa (Ad × AV)}{H:Hp}{b:Ad}(f:xD X (pins++pl) H b):xD X pins H b:=by
 obtain⟨f0,f1,f2,f3,f4,f5⟩:=f;refine⟨f0,f1,f2,f3,f4,fun p hp=>f5 p ?_⟩;rcases AS.mp hp with z|z
 ·exact Bp _ z
 ·exact AJ _ (Bp _ z)
theorem TD (hc:Y.calm=true)(hx:Y.xe=fun _ _=>Cq)(hgk:gens[k+1]? = Ab ⟨tg,iter,ifs,0⟩)(has:∀ g',gens[k+1+1]? = Ab g'→g'.is_async=0)(hi:PI Y tg iter (tDI2 Y fi))(hg:PG Y tg (tDG Y g))(ht:PTs Y ifs t)
  (he:PK Y (fun acc=>zV elt gens scope pos (k+1) acc Y.env) kk) (hs:∀ x,Ch iter Y.env x=pure x):PK Y (fun acc=>zV elt gens scope pos k acc Y.env) (kIn fi g t kk):=by
 intro pins P1 α1 acc env env' S S' ds ds' s hacc ⟨σ,H,P,α,o,st⟩ run;show An _ _ (zV elt gens scope pos k (.ref acc) Y.env) _ _ s;unfold zV;rw[hgk];dsimp only;unfold kIn at run;cases q:fi env S with
 |bad=>rw[q] at run;cases run
 |ex c z S'=>rw[q] at run;cases run
 |ok p S1 =>
  rw[q,Res.bind_ok] at run;have fA:=hacc H st.acn;have I1:=_D.Inv.pin1 st.inv fA st.at' st.acc.cell;have key:=hi (pins++[(acc,o)]) s σ H (fun J H1=>∃ P' α',Rel Y.K H1 P' α' S1∧qH P P'∧α<+:α'∧ItD2 Y.K J P' α' p.1 p.2) I1 ⟨P,α,env,S,st.rel,st.env,by rw[q];exact fun J H' P' α' r' e1 e2 it=>⟨P',α',r',e1,e2,it⟩⟩
  rw[hx] at key;refine Af (kH key fun v s1 h1=>Af (ES ?_));rw[hs];refine Af (Aq (Af (CJ (kH h1 fun itv s2 h2=>?_))));obtain⟨it,fp,tn,J,H2,rfl,I2,T,st0,hf,P',α',r2,e1,e2,hit⟩:=h2;have a2:=_D.Inv.pinned1 I2;have hne:acc ∉ fp:=fun hm=>(hf acc hm).2.2.2.2.2 (acc,o) (AJ _ (AJ _ (by simp))) rfl
  have loop:Ec (Ar Y.prog Y.w) Y.A (.compLoop (.ListComp elt gens scope pos) (k+1) (.ref it) (.ref acc) Y.env) (fun r s'=>match r with
    |.ok f=>rF Y pins P1 α1 acc env' S' ds' s'
    |.error _=>Cq) s2:=by
   refine b5 (pins:=pins) (fp:=fp) (P1:=P') (α1:=α') (σ:=σ) (H:=H2) (P:=P') (α:=α') (o:=o) hc hx hgk has T hit hg ht he hacc (fun H hn b hb=>?_) hne
    ⟨I2.unpinned,r2,st.env.mono e1 e2,qH.refl _,AD _,fun b hb=>(hf b hb).1,a2.2,a2.1,st.acc.mono e1 e2⟩ st0 run fun s' σ' H' Pf αf o' T'=>?_
   ·obtain⟨_,g1,g2,g3,g4,g5⟩:=cW (hf b hb)
    exact⟨hn b hb,g1,g2,g3,g4,g5⟩
   ·exact⟨σ',H',Pf,αf,o',T'.inv,T'.rel,T'.env,(st.same.trans e1).trans T'.same,(st.pre.trans e2).trans T'.pre,fun b hb=>(by simp at hb),T'.acn,T'.at',T'.acc⟩
  refine Af (wpAny_runOwn (Hd (n8 hgk rfl loop (T.self Y.A 0 _ _ _ st0 loop)) fun r s' h=>?_));cases r with
  |error x=>exact Am h
  |ok f=>exact Aq h
end
def mkM (m:Ao)(r:Res (qD × Aa D)):Res D:=match r with
 |.ok p S2=>if m then .ok (.loc S2.length) (S2++[.lst p.2]) else .ok (.lst p.2) S2
 |_=>.bad
def zA (m:Ao)(cap:Aa (Ak Ah))(fi:DI2)(g:DG)(t:DT)(k:DK):DE:=fun env S=>(fi env S).bind fun p S1=>mkM m (goL p.1 g t k p.2 (zP cap env) S1 [])
section
variable {X:Cx}{elt tg iter:AC}{ifs:Aa AC}{scope:CS}{pos:Cz}{N':Aa As}{cap:Aa (Ak Ah)}{fi:DI2}{g:DG}{t:DT}{kk:DK}{rest:Aa Cc}{mm:Ao}
theorem aW {P:Hp}{α : Aa Ad}{r:Res (qD × Aa D)}{Ok:D→Sto→Prop}(h:qJ X P α (mkM mm r) Ok):∃ envF ds SF,r=.ok (envF,ds) SF∧(if mm then Ok (.loc SF.length) (SF++[.lst ds]) else Ok (.lst ds) SF):=by
 cases r with
 |ok p S =>
  obtain⟨envF,ds⟩:=p;refine⟨envF,ds,S,rfl,?_⟩;cases mm <;> exact h
 |ex c x S=>exact Am h
 |bad=>exact Am h
theorem Q8 {pins:Aa (Ad × AV)}{σ : _L.St}{P1:Hp}{α1:Aa Ad}{ds:Aa D}{SF:Sto}{acc C:Ad}{s:Ag}{Q:VK}(c:gP X pins σ P1 α1 ds SF acc C s)(ok:if mm then OkV X P1 α1 Q (.loc SF.length) (SF++[.lst ds]) else OkV X P1 α1 Q (.lst ds) SF):EP X pins σ Q (.ref acc) s:=by
 cases mm with
 |false=>exact Y7 c ok
 |true =>
  obtain⟨H',P',α',vs,I,r,hn,e1,e2,rp,_⟩:=c;exact⟨.ref acc,_,I,rfl,sS r hn rp fun v H2 P2 α2 r2 q1 q2 q3=>ok v H2 P2 α2 r2 (e1.trans q1) (e2.trans q2) q3⟩
theorem pB {o':Ak (Ah × MO)}{kk:DK}{pins:Aa (Ad × AV)}{σ : _L.St}{H2 P1:Hp}{α1:Aa Ad}{s2:Ag}{S1 SF:Sto}{env envF:qD}{ds items:Aa D}{it:Ad}{fp:Aa Ad}{tn:Ah→AF→Prop}{J:It}{E:Ac→Ag→Prop}{RR:Ac→Ad→IU→Ag→Prop}{rest:Aa Cc}
  (hc:X.calm=true) (S:CompSc X.env.scope X.N scope N' cap) (has:∀ g',(⟨tg,iter,ifs,0⟩::rest:Aa Cc)[0+1]? = Ab g'→g'.is_async=0)
  (hg:∀ cl C ex s₀ H₀,PG (qT X N' scope cl C ex s₀ H₀) tg (tDG (qT X N' scope cl C ex s₀ H₀) g))
  (ht:∀ cl C ex s₀ H₀,PTs (qT X N' scope cl C ex s₀ H₀) ifs t) (he:∀ cl C ex s₀ H₀,PK (qT X N' scope cl C ex s₀ H₀) (fun acc=>zV elt (⟨tg,iter,ifs,0⟩::rest) scope pos 0 acc (qT X N' scope cl C ex s₀ H₀).env) kk)
  (I2:Inv X pins σ H2 s2) (r:Rel X.K H2 P1 α1 S1) (re:qV X.K P1 α1 σ env) (T:Turn X.prog X.w X.K tg J fp it tn) (st0:tn 0 s2.heap) (hf:∀ b∈fp,xD X pins H2 b) (hit:ItD2 X.K J P1 α1 o' items) (run:goL o' g t kk items (zP cap env) S1 [] = .ok (envF,ds) SF)
  (hRR:∀ acc C s',s2.heap.objs.size≤acc→(∃ m,s'.heap.Ns C m)→s2.heap.objs.size≤C→acc≠C→(∀ h',CL C s'.heap h'→gP X pins σ P1 α1 ds SF acc C { s' with heap:=h' }) → RR (.ref acc) C (.ok .next) s') :
  An (Ar X.prog X.w) X.A (newList []) (fun acc s₃=>An (Ar X.prog X.w) X.A (newFunctionEnv scope X.env.globals (xS X.env.cells scope.names []) [] X.env.qual none .none (Ab X.env)) (fun cenv s₄ =>
   Ec (Ar X.prog X.w) X.A (.compStart (.ListComp elt (⟨tg,iter,ifs,0⟩::rest) scope pos) 0 (.ref it) acc { cenv with scope:=relabel scope X.env }) (RR acc cenv.locals) s₄) E s₃) E s2:=by
 have hlt:∀ b∈fp,b<s2.heap.objs.size:=fun b hb=>by
  obtain⟨o,e,_⟩:=T.obj 0 _ st0 b hb;exact Av e
 refine CV (wpAny_newFunctionEnv S.nocell (by intro y hy;simp at hy) (fun h₁ hns₁ hsb₁=>?_) S.kind)
 dsimp only at hns₁ hsb₁ ⊢;generalize hH2:s2.heap.push { cls:=.type "list",dict:=none,data:=.seq ([] : Aa Ac).toArray } = Hh at hns₁ hsb₁ ⊢;have hsz:Hh.objs.size=s2.heap.objs.size+1:=by rw[← hH2,Dc]
 have hC:s2.heap.objs.size≤Hh.objs.size:=by rw[hsz];exact Nh _
 have hne:s2.heap.objs.size≠Hh.objs.size:=by rw[hsz];exact Bm (Ni _)
 have keep:∀ b o,s2.heap.get? b=Ab o→h₁.get? b=Ab o:=fun b o e=>by
  have hb:b≠Hh.objs.size:=by rw[hsz];exact Bm (HK (Av e))
  exact hsb₁.extBut b o hb (Al _ (hH2▸Al _ e))
 have hacc:h₁.get? s2.heap.objs.size=Ab { cls:=.type "list",data:=.seq ([] : Aa Ac).toArray }:=hsb₁.extBut _ _ hne (Al _ (hH2▸AN _ rfl));have I4:∀ tk,Inv (qT X N' scope (xS X.env.cells scope.names []) Hh.objs.size fp s2 H2) [] (yT cap σ) H2 { s2 with heap:=h₁,toks:=tk }:=fun tk =>
  oU (s4:={ s2 with heap:=h₁,toks:=tk }) S I2 hf hlt hC hns₁ rfl rfl keep
 have loop:∀ tk,Ec (Ar X.prog X.w) X.A (.compLoop (.ListComp elt (⟨tg,iter,ifs,0⟩::rest) scope pos) 0 (.ref it) (.ref s2.heap.objs.size) (compEnvC scope (xS X.env.cells scope.names []) Hh.objs.size X.env)) (RR (.ref s2.heap.objs.size) Hh.objs.size) { s2 with heap:=h₁,toks:=tk }:=fun tk=>by
  refine b5 (kk:=kk) (o':=o') (Y:=qT X N' scope (xS X.env.cells scope.names []) Hh.objs.size fp s2 H2) (pins:=[]) (fp:=fp) (acc:=s2.heap.objs.size) (P1:=P1) (α1:=α1) (σ:=yT cap σ) (H:=H2) (P:=P1) (α:=α1) (o:={ cls:=.type "list",data:=.seq ([] : Aa Ac).toArray }) hc rfl rfl has T hit
   (hg _ _ _ _ _) (ht _ _ _ _ _) (he _ _ _ _ _) (fun H hn=>?_) (fun H hn b hb=>?_) (fun hm=>Cg _ (hlt _ hm)) ⟨I4 tk,r,iT re cap,qH.refl _,AD _,fun b hb=>(hf b hb).1,I2.hok.fresh (Aw _),hacc,⟨[],0,[],rfl,.nil,.nil,Fe _⟩⟩ (T.keep _ _ _ st0 fun b hb o e=>keep b o e) run fun s' σ' H' P' α' o' st=>?_
  ·refine⟨hn,hne,fun hm=>?_,.inr (Aw _),fun x c h z=>?_,fun p hp=>absurd (show p∈([]:Aa (Ad × AV)) from hp) (by simp)⟩
   ·obtain⟨_,o,ho,_⟩:=I2.stack.mem hm
    exact Cg _ (Av ho)
   ·obtain⟨v,ob,hob,_⟩:=I2.cell x c (xM S I2.ok h)
    rw[z] at hob;exact Cg _ (Av hob)
  ·obtain⟨_,h1,h2,h3,h4,h5⟩:=hf b hb
   refine⟨hn b hb,Bm (AI (hlt b hb) hC),fun hm=>?_,.inl hb,fun x c h=>h4 x c (xM S I2.ok h),fun p hp=>absurd (show p∈([]:Aa (Ad × AV)) from hp) (by simp)⟩
   rcases AL.mp (I2.stkSub b hm) with z|z
   ·exact h1 z
   ·exact h2 z
  ·obtain⟨m,hm,_⟩:=st.inv.loc
   exact hRR _ _ s' (Aw _) ⟨m,hm⟩ hC hne fun h' sb=>oT I2 hf rfl hC (Aw _) hne st sb
 exact codeAny_compStart_list (loop _) (T.self X.A 0 _ _ _ (T.keep _ _ _ st0 fun b hb o e=>keep b o e) (loop _))
theorem Q0 (hc:X.calm=true)(S:CompSc X.env.scope X.N scope N' cap)(hi:PI X tg iter (tDI2 X fi))
  (hg:∀ cl C ex s₀ H₀,PG (qT X N' scope cl C ex s₀ H₀) tg (tDG (qT X N' scope cl C ex s₀ H₀) g))
  (ht:∀ cl C ex s₀ H₀,PTs (qT X N' scope cl C ex s₀ H₀) ifs t) (has:∀ g',(⟨tg,iter,ifs,0⟩::rest:Aa Cc)[0+1]? = Ab g'→g'.is_async=0) (he:∀ cl C ex s₀ H₀,PK (qT X N' scope cl C ex s₀ H₀) (fun acc=>zV elt (⟨tg,iter,ifs,0⟩::rest) scope pos 0 acc (qT X N' scope cl C ex s₀ H₀).env) kk)
  (hs:∀ x,Ch iter X.env x=pure x:=by intro _;rfl):PE X (.ListComp elt (⟨tg,iter,ifs,0⟩::rest) scope pos) (tD X (zA mm cap fi g t kk)):=by
 intro pins s σ H Q I h;obtain⟨P,α,env,S0,r,re,af⟩:=h;rw[eval_ListComp];have af':qJ X P α ((fi env S0).bind fun p S1=>mkM mm (goL p.1 g t kk p.2 (zP cap env) S1 [])) (OkV X P α Q):=af;refine HQ (use:=none) rfl hs (dJ S I.ok) S.kind S.names ?_;refine thn (hi pins s σ H (fun J H1=>∃ (P1:Hp) (α1:Aa Ad) (p:Ak (Ah × MO) × Aa _D.D) (S1:Sto),Rel X.K H1 P1 α1 S1∧qH P P1∧α<+:α1∧ItD2 X.K J P1 α1 p.1 p.2∧qJ X P α (mkM mm (goL p.1 g t kk p.2 (zP cap env) S1 [])) (OkV X P α Q)) I ⟨P,α,env,S0,r,re,?_⟩) fun xv s1 h1=>thn h1 fun itv s2 h2=>?_
 ·cases q:fi env S0 with
  |bad=>rw[q] at af';exact af'
  |ex c x S'=>rw[q] at af';exact af'
  |ok p S1=>rw[q] at af';exact fun J H1 P1 α1 r1 e1 e2 it=>⟨P1,α1,p,S1,r1,e1,e2,it,af'⟩
 obtain⟨it,fp,tn,J,H2,rfl,I2,T,st0,hf,P1,α1,p,S1,r1,e1,e2,hit,af1⟩:=h2;obtain⟨envF,ds,SF,run,ok⟩:=aW af1;refine pB (RR:=fun acc C=>compPost (Ar X.prog X.w) X.A X.xe none (EP X pins σ Q) acc C) hc S has hg ht he I2 r1 (re.mono e1 e2) T st0 hf hit run ?_;intro acc C s' hA ⟨m,hm⟩ hC hne fin;refine⟨m,hm,fun h' sb=>Q8 (mm:=mm) (fin h' sb) ?_⟩;cases mm with
 |false=>exact fun v H3 P3 α3 r3 q1 q2 q3=>ok v H3 P3 α3 r3 (e1.trans q1) (e2.trans q2) q3
 |true=>exact fun v H3 P3 α3 r3 q1 q2 q3=>ok v H3 P3 α3 r3 (e1.trans q1) (e2.trans q2) q3
theorem Q5 {i:Ah}{y:As}{py spos:Cz}(hc:X.calm=true)(hN:X.N.Nodup)(S:CompSc X.env.scope X.N scope N' cap)(hi:PI X tg iter (tDI2 X fi))
  (hg:∀ cl C ex s₀ H₀,PG (qT X N' scope cl C ex s₀ H₀) tg (tDG (qT X N' scope cl C ex s₀ H₀) g))
  (ht:∀ cl C ex s₀ H₀,PTs (qT X N' scope cl C ex s₀ H₀) ifs t) (has:∀ g',(⟨tg,iter,ifs,0⟩::rest:Aa Cc)[0+1]? = Ab g'→g'.is_async=0) (he:∀ cl C ex s₀ H₀,PK (qT X N' scope cl C ex s₀ H₀) (fun acc=>zV elt (⟨tg,iter,ifs,0⟩::rest) scope pos 0 acc (qT X N' scope cl C ex s₀ H₀).env) kk)
  (hy:X.N[i]? = Ab y:=by rfl) (hyl:Loc X.env.scope y:=by first|exact Ox rfl|exact Mx rfl) (hf:X.fn y=true∨X.env.scope.names.lookup y=Ab .local:=by first|exact .inl rfl|exact .inr rfl|assumption)
  (hsw:Gb (.ListComp elt (⟨tg,iter,ifs,0⟩::rest) scope pos) (Ab (.Name y py)) spos.line X.env=pure true:=by rfl)
  (hs:∀ x,Ch iter X.env x=pure x:=by intro _;rfl):PS X (.Assign [.Name y py] (.ListComp elt (⟨tg,iter,ifs,0⟩::rest) scope pos) spos) (tDS X (zD (zA mm cap fi g t kk) (gNm i))):=by
 intro pins s σ H D I h;obtain⟨P,α,env,S0,r,re,af⟩:=h;have af0:=wJ af;have af':qJ X P α ((fi env S0).bind fun p S1=>mkM mm (goL p.1 g t kk p.2 (zP cap env) S1 [])) (fun d S=>qX X P α (.nx (env.set i (Ab d)) S) D):=af0;rw[exec_Assign_Name_used _ _ _ _ hsw];refine Af (ES (Af ?_));show An _ X.A (do let _ ← comprehension (.ListComp elt (⟨tg,iter,ifs,0⟩::rest) scope pos) scope X.env _ (newList []) false (eval iter X.env) (Ab (assign (.Name y py) X.env))) _ _ s
 refine Af (CU (HQ (use:=Ab (assign (.Name y py) X.env)) (Q:=fun _ s'=>SP X pins D .next s') rfl hs (dJ S I.ok) S.kind S.names ?_) (fun _ s' hq=>Aq (Aq hq)) fun _ _ e=>e);refine thn (hi pins s σ H (fun J H1=>∃ (P1:Hp) (α1:Aa Ad) (p:Ak (Ah × MO) × Aa _D.D) (S1:Sto),Rel X.K H1 P1 α1 S1∧qH P P1∧α<+:α1∧ItD2 X.K J P1 α1 p.1 p.2∧qJ X P α (mkM mm (goL p.1 g t kk p.2 (zP cap env) S1 [])) (fun d S=>qX X P α (.nx (env.set i (Ab d)) S) D)) I ⟨P,α,env,S0,r,re,?_⟩) fun xv s1 h1=>thn h1 fun itv s2 h2=>?_
 ·cases q:fi env S0 with
  |bad=>rw[q] at af';exact af'
  |ex c x S'=>rw[q] at af';exact af'
  |ok p S1=>rw[q] at af';exact fun J H1 P1 α1 r1 e1 e2 it=>⟨P1,α1,p,S1,r1,e1,e2,it,af'⟩
 obtain⟨it,fp,tn,J,H2,rfl,I2,T,st0,hfp,P1,α1,p,S1,r1,e1,e2,hit,af1⟩:=h2;obtain⟨envF,ds,SF,run,ok⟩:=aW af1;refine pB (RR:=fun acc C=>compPost (Ar X.prog X.w) X.A X.xe (Ab (assign (.Name y py) X.env)) (fun _ s'=>SP X pins D .next s') acc C) hc S has hg ht he I2 r1 (re.mono e1 e2) T st0 hfp hit run ?_;intro acc C s' hA ⟨m,hm⟩ hC hne fin;show An _ X.A (assign (.Name y py) X.env (.ref acc)) _ _ s';obtain⟨H3,P3,α3,vs,I3,r3,hn3,q1,q2,rp,hCn⟩:=fin s'.heap (Pg _ _);obtain⟨r4,e4⟩:=r3.pure (o:=.lst vs) hn3;have hCn':(upd H3 acc (.lst vs)) C=none:=by rw[qO (DC hne)];exact hCn
 have fC:=I2.fpOk hC hCn';refine Lu (mV I3 hN hy hyl (show qK (V.ref acc) (AY acc) from rfl) (fun s5 I5 ⟨a,sb,ha⟩=>?_) hf)
 have hCa:C≠a:=by
  rcases ha with rfl|ha
  ·exact fC.2.1
  ·exact fun z=>fC.2.2.2.2.1 _ _ ha z.symm
 refine⟨m,hm.sameBut sb hCa,fun h' sb'=>?_⟩;have I6:Inv X pins (σ.set i (Ab (V.ref acc))) (upd H3 acc (.lst vs)) { s5 with heap:=h' }:=I5.turned (t':=s5.toks) (fun b o hb e=>(sb'.2 b hb).trans e) hCn' fC.2.1 fC.2.2.2.1 fC.2.2.2.2.1 fC.2.2.2.2.2
 cases mm with
 |false =>
  refine⟨_,_,I6,ok _ _ (upd P3 acc (.lst vs)) α3 r4 ?_ ((e1.trans q1).trans e4) (e2.trans q2)⟩;exact((re.mono e1 e2).mono (q1.trans e4) q2).set i (fX (.inl (.inl qZ)) (qG.mono e4 (AD _) _ _ rp))
 |true =>
  have hpre:α3<+:α3++[acc]:=Fm _ _;have r5:=r3.new (o:=.lst vs) (m:=.lst ds) hn3 ⟨vs,qZ,qG.mono (qH.refl _) hpre _ _ rp⟩;refine⟨_,_,I6,ok _ _ P3 (α3++[acc]) r5 ?_ (e1.trans q1) ((e2.trans q2).trans hpre)⟩;refine((re.mono e1 e2).mono q1 (q2.trans hpre)).set i ?_;simp only[Rep];exact⟨acc,rfl,by rw[← r3.len];simp⟩
end
section
variable {prog:A5}{w:AO}{A:A8}{E:Ac→Ag→Prop}{s:Ag}
theorem cQ {tp:Ao}{e it l:Ad}{i:Ah}{xs:A4 Ac}{x old:Ac}{Q:Ac→Ag→Prop}(he:Ja s.heap e it i old)(hit:zC tp s.heap it l i)(hl:xL tp s.heap l xs)(hx:xs[i]? = Ab x)(ne:e≠it)
  (hQ:∀ g,OG g e it ((i:Aj)+1) x s.heap.objs.size→zC tp g it l (i+1)→DX g s.heap.objs.size (.int i s.toks) x→g.objs.size=s.heap.objs.size+1→(∀ b o,b≠e→b≠it→s.heap.get? b=Ab o→g.get? b=Ab o)→Q (.ref s.heap.objs.size) { s with heap:=g,toks:=s.toks+1 }) :
  An (Ar prog w) A (EK.«enumerate.__next__» ⟨[.ref e],[]⟩) (fun fin s'=>∃ v,fin=.done (.ret v)∧Q v s') E s:=by
 obtain⟨hp,gn,dr,tk,os⟩:=s;show An _ _ (field (.ref e) 2 >>= _) _ _ _;refine Af (Bx he rfl (x:=.ref it) rfl (Af (k8 hit hl hx fun g1 i1 s1=>?_)))
 replace s1:CL it hp g1:=s1
 have e1:Ja g1 e it i old:=(s1.2 e ne).trans he;show An _ _ (field (.ref e) 3 >>= _) _ _ ⟨g1,gn,dr,tk,os⟩;refine Af (Bx e1 rfl (x:=HV i) rfl ?_);show An _ _ (field (.ref e) 4 >>= _) _ _ ⟨g1,gn,dr,tk,os⟩;refine Af (Bx e1 rfl (x:=.none) rfl ?_);show An _ _ (mkInt i >>= _) _ _ ⟨g1,gn,dr,tk,os⟩;refine Af (wpAny_mkInt ?_);show An _ _ (setField (.ref e) 3 (HV ((i:Aj)+1)) >>= _) _ _ ⟨g1,gn,dr,tk+1,os⟩;refine Af (Cj e1 (by simp) fun g2 e2 s2=>?_)
 replace s2:CL e g1 g2:=s2
 replace e2:Ja g2 e it ((i:Aj)+1) old:=e2
 show An _ _ (setField (.ref e) 4 .none >>= _) _ _ ⟨g2,gn,dr,tk+1,os⟩;refine Af (Cj e2 (by simp) fun g3 e3 s3=>?_)
 replace s3:CL e g2 g3:=s3
 replace e3:Ja g3 e it ((i:Aj)+1) old:=e3
 show An _ _ (newTuple [.int i tk,x] >>= _) _ _ ⟨g3,gn,dr,tk+1,os⟩;refine Af (Ji ?_);have e4:Ja (g3.push { cls:=.type "tuple",data:=.seq #[.int i tk,x] }) e it ((i:Aj)+1) old:=Al _ e3;generalize q4:g3.push { cls:=.type "tuple",data:=.seq #[.int i tk,x] } = g4 at e4;have sz:g3.objs.size=hp.objs.size:=by rw[s3.1,s2.1,s1.1]
 have el:e<hp.objs.size:=Av he;have t4:DX g4 hp.objs.size (.int i tk) x:=by rw[← q4,← sz];exact AN _ rfl
 have z4:g4.objs.size=hp.objs.size+1:=by rw[← q4,Dc,sz]
 have k4:∀ b o,b≠e→b≠it→hp.get? b=Ab o→g4.get? b=Ab o:=fun b o b1 b2 q=>by
  rw[← q4];exact Al _ (s3.extBut b o b1 (s2.extBut b o b1 (s1.extBut b o b2 q)))
 have i4:zC tp g4 it l (i+1):=i1.keep fun o q=>by rw[← q4];exact Al _ (s3.extBut _ o ne.symm (s2.extBut _ o ne.symm q))
 show An _ _ (Cb (.ref e) >>= _) _ _ ⟨g4,gn,dr,tk+1,os⟩;rw[sz];refine Af ?_;unfold Cb;refine Af (Bx e4 rfl (x:=.none) rfl (Aq ?_));simp only[AZ];refine Af (DJ (Af (Bx e4 rfl (x:=old) rfl (Af (Cj e4 (by simp) fun g5 e5 s5=>?_)))))
 replace s5:CL e g4 g5:=s5
 replace e5:Ja g5 e it ((i:Aj)+1) x:=e5
 show An _ _ (Dd (.ref e) (.ref hp.objs.size) >>= _) _ _ ⟨g5,gn,dr,tk+1,os⟩;refine Af ?_;unfold Dd;refine Af (Cj e5 (by simp) fun g6 e6 s6=>?_)
 replace s6:CL e g5 g6:=s6
 replace e6:OG g6 e it ((i:Aj)+1) x hp.objs.size:=e6
 refine Cj e6 (by simp) fun g7 e7 s7=>?_
 replace s7:CL e g6 g7:=s7
 replace e7:OG g7 e it ((i:Aj)+1) x hp.objs.size:=e7
 have up:∀ b o,b≠e→g4.get? b=Ab o→g7.get? b=Ab o:=fun b o b1 q=>s7.extBut b o b1 (s6.extBut b o b1 (s5.extBut b o b1 q));exact Af (ED (Aq ⟨_,rfl,hQ g7 e7 (i4.keep fun o q=>up _ o ne.symm q) (up _ _ (Fp el) t4) (by rw[s7.1,s6.1,s5.1,z4]) fun b o b1 b2 q=>up b o b1 (k4 b o b1 b2 q)⟩))
set_option maxHeartbeats 4000000 in
set_option tactic.hygienic true in
theorem QD (tp:Ao)(l:Ad)(xs:A4 Ac) :
  Meets (EK.«enumerate.__new__» ⟨[.type "enumerate",.ref l],[]⟩) (fun _ R s=>(∃ n dct sl,s.heap.get? l=Ab { cls:=.type (if tp then "tuple" else "list"),dict:=dct,data:=.seq xs n,slots:=sl }) ∧ R (.ok (.ret (.ref (s.heap.push (vN tp l)).objs.size))) { s with heap:=(s.heap.push (vN tp l)).push { cls:=.type "enumerate",data:=.fields #[.none,.bool false,.ref s.heap.objs.size,HV 0,.none,.none] } }):=
 .of_wp fun prog w A R s h=>by
  obtain⟨hp,gn,dr,tk,os⟩:=s;obtain⟨⟨n,dct,sl,hl⟩,h⟩:=h;have hsub:=sub_enumerate;cases tp
  ·have L1:Na (Gn ⟨hp,gn,dr,tk,os⟩) l xs:=⟨_,hl,rfl,n,rfl⟩
   wp_walk using Dg hl
   refine Nv fun st=>Aq ?_
   split
   ·rename_i c _ _ _ _ _
    cases (c == EN "enumerate") <;> (wp_walk using Dg hl,DN L1;exact⟨_,rfl,h⟩)
   ·wp_walk using Dg hl,DN L1;exact⟨_,rfl,h⟩
  ·have L1:Ll (Gn ⟨hp,gn,dr,tk,os⟩) l xs:=⟨_,hl,rfl,n,rfl⟩
   wp_walk using Dg hl
   refine Nv fun st=>Aq ?_
   split
   ·rename_i c _ _ _ _ _
    cases (c == EN "enumerate") <;> (wp_walk using Dg hl,Ez L1;exact⟨_,rfl,h⟩)
   ·wp_walk using Dg hl,Ez L1;exact⟨_,rfl,h⟩
theorem c8 {tp:Ao}{l:Ad}{xs:A4 Ac}{Q:Ac→Ag→Prop}(hl:∃ n dct sl,s.heap.get? l=Ab { cls:=.type (if tp then "tuple" else "list"),dict:=dct,data:=.seq xs n,slots:=sl })
  (h:∀ g,Ja g (s.heap.objs.size+1) s.heap.objs.size 0 .none→zC tp g s.heap.objs.size l 0→(∀ b o,s.heap.get? b=Ab o→g.get? b=Ab o)→Q (.ref (s.heap.objs.size+1)) { s with heap:=g }) :
  An (Ar prog w) A (call (.type "enumerate") [.ref l]) Q E s:=by
 refine callType_new F.called_enumerate (by decide) (F.typeCall_enumerate_1 _) (F.newCall_enumerate_1 _) (fun obj=>F.args_object_init_2 obj _) F.entry_enumerate_new (QD tp l xs) ⟨hl,?_⟩
 have hz:(s.heap.push (vN tp l)).objs.size=s.heap.objs.size+1:=Dc ..;show _∧_;have he:((s.heap.push (vN tp l)).push { cls:=.type "enumerate",data:=.fields #[.none,.bool false,.ref s.heap.objs.size,HV 0,.none,.none] }).get? (s.heap.push (vN tp l)).objs.size=Ab _:=AN _ rfl;rw[hz] at he ⊢;exact⟨⟨_,he,rfl⟩,h _ he (jX (Al _ (AN _ rfl))) fun b o x=>Al _ (Al _ x)⟩
end
def Ite (tp:Ao)(K:Ai)(a:Ad):It:=
  ⟨fun i H=>∃ xs x,Sq tp K H a xs∧xs[i]? = Ab x,
   fun i H v H'=>∃ T x,v=.ref T∧H T=none∧H'=upd H T (.tup [.int i,x])∧∀ xs,Sq tp K H a xs→xs[i]? = Ab x,
   fun i H=>∃ xs,Sq tp K H a xs∧xs.length≤i⟩
def hW (tp:Ao)(e it l:Ad)(k:Ah)(h:AF):Prop:=∃ old,Ja h e it k old∧zC tp h it l k
theorem o4 {P:A5}{w:AO}{K:Ai}{elts:Aa AC}{x1:Ah}{tpos:Cz}{tp:Ao}{e it a:Ad}(ne:e≠it):Turn P w K (.Tuple elts x1 tpos) (Ite tp K a) [e,it] e (hW tp e it a) where
 mem:=by simp
 obj:=fun k h st c hc=>by
  obtain⟨old,s1,s2⟩:=st;simp only[AL,Bi,Du] at hc;rcases hc with rfl|rfl
  ·exact⟨_,s1,fun v y=>by cases y⟩
  ·exact s2.there
 keep:=fun k h h' st kp=>by
  obtain⟨old,s1,s2⟩:=st;exact⟨old,kp e (by simp) _ s1,s2.keep fun o q=>kp it (by simp) o q⟩
 item:=by
  intro X hP hw hK hc k pins s σ H E Iv hf st hg;subst hP hw hK;obtain⟨old,s1,s2⟩:=st;obtain⟨xs,x,qa,hx⟩:=hg;obtain⟨ia,ra,ha⟩:=qa.at Iv;obtain⟨u,hu,ru⟩:=ra.get hx;have hT:s.TypeIs (.ref e) "enumerate":=⟨_,s1,rfl⟩;unfold HT;refine Af (E6 (Ct (name:=Eu "__next__") hT EE (Dl EE hT IJ
   (cQ s1 s2 ha (by simpa using hu) ne fun h' a1 a2 a3 a4 a5=>Aq ?_) (Io _))))
  refine⟨_,rfl,wpAny_letOwnedTupleGo_enum (s:={ s with heap:=h',toks:=s.toks+1 }) a1 fun h2 b1 b2=>?_⟩
  have up:∀ c o,c≠e→h'.get? c=Ab o→h2.get? c=Ab o:=fun c o n q=>(b2.2 c n).trans q;have el:e<s.heap.objs.size:=Av s1;have T2:DX h2 s.heap.objs.size (.int k s.toks) u:=up _ _ (Fp el) a3;have st2:hW tp e it a (k+1) h2:=⟨u,b1,a2.keep fun o q=>up _ o ne.symm q⟩;refine⟨.ref s.heap.objs.size,upd H s.heap.objs.size (.tup [.int k,x]),?_,rfl,⟨_,x,rfl,Iv.hok.fresh (Aw _),rfl,fun zs qz=>by rw[qz.inj Iv qa];exact hx⟩,st2,fun c hc=>?_⟩
  ·have:=Inv.turnLay (fp:=[e,it]) (its:=[.int k s.toks,u]) (h':=h2) (xs:=[.int k,x]) Iv hf (fun c o hc q=>by
    simp only[AL,Bi,Du,O1] at hc;exact up c o hc.1 (a5 c o hc.1 hc.2 q)) (fun c hc=>by
    obtain⟨old',t1,t2⟩:=st2;simp only[AL,Bi,Du] at hc;rcases hc with rfl|rfl
    ·exact⟨_,t1⟩
    ·obtain⟨o,q,_⟩:=t2.there;exact⟨o,q⟩) (Aw _) (.cons ⟨_,rfl⟩ (.cons ru .nil)) ⟨_,T2,rfl,_,rfl⟩ (by show 2≤sizeLine;decide)
   exact this.tok (s.toks+1)
  ·have hn:=(hf c hc).1
   rw[qO ?_]
   ·exact hn
   ·rintro rfl
    obtain⟨o,q,_⟩:∃ o,s.heap.get? s.heap.objs.size=Ab o∧Hf:=by
     simp only[AL,Bi,Du] at hc;rcases hc with z|z
     ·exact⟨_,z▸s1,trivial⟩
     ·obtain⟨o,e',_⟩:=s2.there;exact⟨o,z▸e',trivial⟩
    exact absurd (Av q) (Cg _)
 done:=by
  intro X hP hw hK hc k pins s σ H E Iv hf st hg;subst hP hw hK;obtain⟨old,s1,s2⟩:=st;obtain⟨xs,qa,hend⟩:=hg;obtain⟨ia,ra,ha⟩:=qa.at Iv;have hT:s.TypeIs (.ref e) "enumerate":=⟨_,s1,rfl⟩;have l1:=ra.length;unfold HT;refine Af (E6 (Ct (name:=Eu "__next__") hT EE (Dl EE hT IJ ?_ (Io _))));show An _ _ (field (.ref e) 2 >>= _) _ _ _;refine Af (Bx s1 rfl (x:=.ref it) rfl (Af (uK (Iv.ok.hd hc) s2 ha (by simp;omega) fun h' x kp hx'=>?_)))
  obtain⟨o,ho,hcl⟩:=hx';refine Af (Nc (T:="StopIteration") (b:=true) ⟨o,ho,hcl⟩ isSubtype_stop (Aq ⟨rfl,Inv.turnL (fp:=[e,it]) Iv hf fun c o hc q=>?_⟩));simp only[AL,Bi,Du,O1] at hc;exact kp c o hc.2 q
 self:=fun _ _ _ _ _ st h=>by
  obtain⟨old,s1,_⟩:=st;exact Mk s1 h
def y7 (xs:Aa D):Aa D:=xs.mapIdx fun i x=>D.tup [.int i,x]
def XN (ds:Aa D):Ak (Aa D):=match ds with
 |[.tup xs]=>Ab (y7 xs)
 |[.lst xs]=>Ab (y7 xs)
 |_=>none
def rT (f:DA):DI:=fun env S=>(f env S).bind fun ds S1=>wH (XN ds) S1
theorem cP (xs:Aa D)(i:Ah):(y7 xs)[i]? = (xs[i]?).map fun x=>D.tup [.int i,x]:=by
 unfold y7;rw[List.getElem?_mapIdx]
theorem kS (xs:Aa D):(y7 xs).length=xs.length:=by simp[y7]
theorem QY {K:Ai}{tp:Ao}{P:Hp}{α : Aa Ad}{a:Ad}{xs:Aa D}{vs:Aa V}(qa:Sq tp K P a vs)(ta:qG K P α xs vs):ItD K (Ite tp K a) P α (y7 xs) where
 go:=fun i H P1 α1 S hi r e _=>by
  rw[kS] at hi;have h1:i<vs.length:=by rw[← ta.length];omega
  exact⟨vs,vs[i],qa.mono (e.trans r.sub),by simp⟩
 yld:=fun i H x H' P1 α1 S hi r e e2 y=>by
  obtain⟨T,u,rfl,hT,rfl,hu⟩:=y;rw[kS] at hi;obtain⟨v1,z1,p1⟩:=ta.get (Ap hi);have eu:=hu vs (qa.mono (e.trans r.sub));rw[z1] at eu;cases eu;obtain⟨r1,s1⟩:=r.pure (o:=.tup [.int i,u]) hT;refine⟨_,.tup [.int i,xs[i]],?_,r1,s1,?_⟩
  ·rw[cP,Ap hi];rfl
  ·exact fY (.of qZ) (.cons (by simp only[Rep]) (.cons (Rep.mono (e.trans s1) e2 _ _ p1) .nil))
 stop:=fun i H P1 α1 S hi r e _=>by
  rw[kS] at hi;have l1:=ta.length;exact⟨vs,qa.mono (e.trans r.sub),by omega⟩
section
variable {X:Cx}{e1:AC}{elts:Aa AC}{x1:Ah}{tpos:Cz}{f:DA}{p pos:Cz}
theorem Sq.obj {tp:Ao}{pins:Aa (Ad × AV)}{σ : _L.St}{H:Hp}{s:Ag}{a:Ad}{xs:Aa V}(I:Inv X pins σ H s)(q:Sq tp X.K H a xs):∃ its:Aa Ac,qM xs its∧∃ n dct sl,s.heap.get? a=Ab { cls:=.type (if tp then "tuple" else "list"),dict:=dct,data:=.seq its.toArray n,slots:=sl }:=by
 obtain⟨its,rv,h⟩:=q.at I;refine⟨its,rv,?_⟩;cases tp with
 |true =>
  obtain⟨o,ho,hc,n,hd⟩:=h;obtain⟨c,d,dt,sl⟩:=o;dsimp only at hc hd;subst hc;subst hd;exact⟨n,_,_,ho⟩
 |false =>
  obtain⟨o,ho,hc,n,hd⟩:=h;obtain⟨c,d,dt,sl⟩:=o;dsimp only at hc hd;subst hc;subst hd;exact⟨n,_,_,ho⟩
theorem dQ {tp:Ao}{pins:Aa (Ad × AV)}{σ : _L.St}{H P:Hp}{α : Aa Ad}{S:Sto}{s:Ag}{a:Ad}{xs:Aa D}{vs:Aa V}{R:It→Hp→Prop}(I:Inv X pins σ H s)(r:Rel X.K H P α S)(qa:Sq tp X.K P a vs)(ta:qG X.K P α xs vs)
  (q:OkI X P α R (y7 xs) S):An (Ar X.prog X.w) X.A (call (.type "enumerate") [.ref a]) (fun v s1=>An (Ar X.prog X.w) X.A (HU v) (PIE X pins σ (.Tuple elts x1 tpos) R) X.xe s1) X.xe s:=by
 obtain⟨ia,ra,ha⟩:=Sq.obj I (qa.mono r.sub);refine c8 (tp:=tp) ha fun h' z1 z2 z7=>?_;refine Mk (s:={ s with heap:=h' }) z1 ?_
 refine⟨_,[s.heap.objs.size+1,s.heap.objs.size],_,_,H,rfl,I.kept (t':=s.toks) z7,o4 (tp:=tp) (a:=a) (by intro z;simp at z),⟨_,z1,z2⟩,fun c hc=>?_,q _ _ P α r (qH.refl _) (AD _) (QY qa ta)⟩
 have hl:s.heap.objs.size≤c:=by
  simp only[AL,Bi,Du] at hc;rcases hc with rfl|rfl <;> simp
 exact I.fpOk hl (I.hok.fresh hl)
theorem bX:CK "enumerate" = Ab (.type "enumerate"):=by decide +kernel
theorem QC {ds its:Aa D}(h:XN ds=Ab its):∃ d xs,ds=[d]∧ItV d xs∧its=y7 xs:=by
 cases ds with
 |nil=>exact nn h
 |cons d ds =>
  cases ds with
  |cons _ _=>cases d <;> exact nn h
  |nil =>
   cases d with
   |tup xs=>exact⟨_,xs,rfl,.tup rfl,(Be h).symm⟩
   |lst xs=>exact⟨_,xs,rfl,.lst rfl,(Be h).symm⟩
   |_=>exact nn h
theorem WY (hg:Gl X "enumerate")(hm:X.mg "enumerate" = none)(ha:PA X [e1] (tDA X f))(hs:Az [e1] X.env=(false,eval e1 X.env)::Az [] X.env:=by rfl)(hpl:(CP pos (Az [] X.env)).any (·.1)=false:=by rfl) :
  PI X (.Tuple elts x1 tpos) (.Call (.Name "enumerate" p) [e1] [] pos) (tDI X (rT f)):=by
 intro pins s σ H R I h;obtain⟨P,α,env,S,r,re,af⟩:=h;refine Call_ (vT I hg hm bX (Do (thn (w9 ha I r re af pos) fun us s1 ⟨vs,H1,P1,α1,ds,S1,I1,rv,r1,re1,rp,e1,e2,af1⟩=>?_) hs hpl));obtain⟨its,hi,q⟩:=vE af1;obtain⟨d,xs,rfl,hd,rfl⟩:=QC hi;obtain⟨v,u,rfl,rfl,p1,q1⟩:=yR rp rv;cases hd with
 |tup ed =>
  subst ed;simp only[Rep] at p1;obtain⟨a,va,rfl,qa,ta⟩:=p1;cases (show u=AY a from q1)
  exact dQ (tp:=true) I1 r1 qa ta (q.base e1 e2)
 |lst ed =>
  subst ed;simp only[Rep] at p1;obtain⟨a,va,rfl,qa,ta⟩:=p1;cases (show u=AY a from q1)
  exact dQ (tp:=false) I1 r1 qa.l ta (q.base e1 e2)
end
section
variable {X:Cx}
def xK:D→Aa D→Sto→Res D:=fun a ds S=>match a,ds with
 |.loc n,[i,x]=>match S[n]? with
  |some (.dct kvs)=>match wT i with
   |some k=>match xJ kvs k with
    |some d=>.ok d S
    |none=>if kvs.length<lim then .ok x (S.set n (.dct (yB kvs k x))) else .bad
   |none=>.bad
  |_=>.bad
 |_,_=>.bad
theorem p9 (a b c:Ac):argsOk "dict.setdefault" ⟨[a,b,c],[]⟩:=by unfold argsOk;kernel_rfl
inductive SdV (a:D)(ds:Aa D)(S:Sto):Prop
 |bad (e:xK a ds S=.bad)
 |of (n:Ah) (i x:D) (kvs:Aa (Key × D)) (k:Key) (ea:a=.loc n) (ed:ds=[i,x]) (hS:S[n]? = Ab (.dct kvs)) (hk:wT i=Ab k) (e:xK a ds S=(match xJ kvs k with|some d=>.ok d S|none=>if kvs.length<lim then .ok x (S.set n (.dct (yB kvs k x))) else .bad))
theorem sdV (a:D)(ds:Aa D)(S:Sto):SdV a ds S:=by
 cases a with
 |loc n =>
  cases ds with
  |nil=>exact .bad rfl
  |cons i ds =>
   cases ds with
   |nil=>exact .bad rfl
   |cons x ds =>
    cases ds with
    |cons _ _=>exact .bad rfl
    |nil =>
     have z:xK (.loc n) [i,x] S=(match S[n]? with|some (.dct kvs)=>(match wT i with|some k=>(match xJ kvs k with|some d=>.ok d S|none=>if kvs.length<lim then .ok x (S.set n (.dct (yB kvs k x))) else .bad)|none=>.bad)|_=>.bad):=rfl
     cases hS:S[n]? with
     |none=>rw[hS] at z;exact .bad z
     |some m =>
      rw[hS] at z;cases m with
      |dct kvs =>
       cases hk:wT i with
       |none=>rw[hk] at z;exact .bad z
       |some k=>rw[hk] at z;exact .of n i x kvs k rfl rfl hS hk z
      |_=>exact .bad z
 |_=>exact .bad rfl
theorem aU:MtD X "dict.setdefault" xK:=by
 intro pins σ H s P α S v vv vs us a ds Q I r rv p rvs rps af;cases sdV a ds S with
 |bad e=>rw[e] at af;exact Am af
 |of n i x kvs k ea ed hS hk e =>
  rw[e] at af;subst ea ed;clear e;obtain⟨vi,vx,ui,ux,rfl,rfl,pi,px,qi,qx⟩:=kD rps rvs;simp only[Rep] at p;obtain⟨b,rfl,q⟩:=p;obtain⟨ws,z,t⟩:=r.at' n b _ q hS;cases nV hk pi;cases (show vv=AY b from rv)
  obtain⟨hz,hd,us',rel,dd⟩:=rX I.hok z;have hz':us'.length≤sizeLine:=by rw[← rel.length];exact hz
  obtain⟨k1,k2⟩:=fQ (k:=k) t;have er:=rel.val k;refine call_meetsIn Hk dd.typeIs PySem.F.entry_dict_setdefault (p9 _ _ _) (kt_meets_setdefault (zW X.prog X.w) b (gX qi) hd ux) ⟨us',dd,hz',fun v' hv'=>?_,fun hn h' dd' hs=>?_⟩
  ·cases hv:xJ kvs k with
   |none =>
    rw[k2 hv,hv'] at er;exact Am er
   |some d =>
    obtain⟨w',e1,e2⟩:=k1 d hv;rw[hv] at af;rw[e1,hv'] at er;exact⟨w',H,I.tok _,er,xr af r e2⟩
  ·cases hv:xJ kvs k with
   |some d =>
    obtain⟨w',e1,e2⟩:=k1 d hv;rw[e1,hn] at er;exact Am er
   |none =>
    rw[hv] at af;obtain⟨hl,af⟩:=wX (X:=X) af;have hl':(yC ws k vx).length≤sizeLine:=by
     have:=j6 ws k vx;have e3:=fP t;rw[← zS];omega
    have he:∃ q,h'.get? b=Ab q:=let ⟨q,_,_,hq,_⟩:=dd';⟨q,hq⟩
    have I':=f7 (t':=s.toks+1) I (by rw[z];exact Eo) hs he (cO hl' hd (rel.put k qx) dd')
    exact⟨vx,_,I',qx,af _ _ P α (r.put (m':=.dct (yB kvs k x)) q hS (by intro z;cases z) ⟨_,qZ,sF px t⟩) (qH.refl _) (AD _) px⟩
def vM:Aa D→Ak (Aa Aj)
 |[]=>Ab []
 |.int i::r=>(vM r).map (i::·)
 |_::_=>none
theorem a9 (ns:Aa Aj):vM (ns.map D.int)=Ab ns:=by
 induction ns with
 |nil=>rfl
 |cons n r ih=>exact congrArg (Option.map (n::·)) ih
theorem pN:∀ {ds:Aa D} {ns:Aa Aj},vM ds=Ab ns→ds=ns.map D.int
 |[],ns,h=>by cases h;rfl
 |d::r,ns,h=>by
  cases d with
  |int i =>
   obtain⟨m,h1,rfl⟩:=CB.mp (show (vM r).map (i::·)=Ab ns from h)
   rw[pN h1];rfl
  |_=>exact nn h
theorem kY {K:Ai}{P:Hp}{α : Aa Ad}:∀ {ns:Aa Aj} {vs:Aa V},qG K P α (ns.map D.int) vs→vs=ns.map V.int
 |[],vs,r=>by rw[r.nil_inv];rfl
 |n::ns,vs,r=>by
  obtain⟨w,ws,rfl,p,t⟩:=r.cons_inv;simp only[Rep] at p;rw[p,kY t];rfl
def D8:G2:=fun a b S=>match a,b with
 |.tup xs,.tup ys=>match vM xs,vM ys with
  |some ns,Ab ms=>.ok (.bl (_H.lexLt ns ms)) S
  |_,_=>.bad
 |_,_=>gLt a b S
def fG:G2:=fun a b S=>match a,b with
 |.tup xs,.tup ys=>match vM xs,vM ys with
  |some ns,Ab ms=>.ok (.bl (_H.lexLt ms ns)) S
  |_,_=>.bad
 |_,_=>gGt a b S
end
section
open PySem.SeqAt
open PySem.AutoSeq1 (wpAny_loadPart')
open PySem.MeetsSeq PySem.MeetsSeq2 PySem.MeetsSeq3
theorem ZY (A:A8)(s:Ag)(a:Aj)(t:Js)(c:Aj)(u:Js)(prog:A5)(w:AO)(E:Ac→Ag→Prop)(Q:Ac→Ag→Prop)(h:Q (.bool (decide (a>c))) s) :
  An (Ar prog w) A (Jb .Gt (.int a t) (.int c u)) Q E s:=
 (Kj h:An (Ar prog w) A (Bj .Gt (.int a t) (.int c u)) Q E s)
theorem t0 (l b:Ad)(items items2:A4 Ac)(n n2:Ah)(dd dd2:Ak Ad)(sl sl2:A4 (Ak Ac))(ns ms:Aa Aj)(hi:E2 items.toList ns)(hj:E2 items2.toList ms) :
  Meets (EK.«tuple.__gt__» ⟨[.ref l,.ref b],[]⟩)
   (fun _ R s=>s.heap.get? l=Ab { cls:=.type "tuple",dict:=dd,data:=.seq items n,slots:=sl } ∧ s.heap.get? b=Ab { cls:=.type "tuple",dict:=dd2,data:=.seq items2 n2,slots:=sl2 } ∧
    R (.ok (.ret (.bool (_H.lexLt ms ns)))) s):=
 .of_wp fun prog w A R s h=>by
  obtain⟨hp,g,d,tk,os⟩:=s;obtain⟨hl,hb,h⟩:=h;have f2:=Fk;have z1:items.size=ns.length:=by rw[← hi.length];simp
  have z2:items2.size=ms.length:=by rw[← hj.length];simp
  wp_walk using wpAny_loadPart' hl,wpAny_loadPart' hb,HZ _ (fun rest b s'=>b.1=none∧s'=⟨hp,g,d,tk,os⟩∧∃ (vs ws:Aa Ac) (ns' ms':Aa Aj),rest=vs.zip ws ∧
   E2 vs ns'∧E2 ws ms'∧ns'.length+items2.size=ms'.length+items.size∧R (.ok (.ret (.bool (_H.lexLt ms' ns')))) ⟨hp,g,d,tk,os⟩) _
  case turn =>
   rintro⟨y,x⟩ rest b s' ⟨hb',rfl,vs,ws,ns',ms',hz,hvi,hwi,hlen,hR⟩;cases hvi with
   |nil=>rw[List.zip_nil_left] at hz;cases hz
   |cons a t hvi' =>
    cases hwi with
    |nil=>rw[List.zip_nil_right] at hz;cases hz
    |cons c u hwi' =>
     rw[DH] at hz;injection hz with hyx hrest
     injection hyx with hy hx
     subst hy hx;rw[_H.lexLt_cons] at hR;simp only[AH] at hlen;obtain⟨e,he,hiff⟩:=_H.eqAt_int A.in1 ⟨hp,g,d,tk,os⟩ a t c u;refine Af (he prog w _ _ ?_);cases e with
     |true =>
      rw[AA (hiff.mp rfl).symm] at hR
      wp_walk
      exact⟨rfl,rfl,_,_,_,_,hrest,hvi',hwi',by omega,hR⟩
     |false =>
      rw[A0 (fun q=>absurd (hiff.mpr q.symm) Dh)] at hR;have hri:=ZY A.in1 ⟨hp,g,d,tk,os⟩ a t c u prog w
      wp_walk using hri
      exact⟨_,rfl,by simpa using hR⟩
  case fin =>
   rintro⟨b1,b2⟩ s' ⟨hb',rfl,vs,ws,ns',ms',hz,hvi,hwi,hlen,hR⟩;simp only at hb';subst hb';have hv:_H.lexLt ms' ns'=decide (items2.size<items.size):=by
    cases hvi with
    |nil =>
     cases hwi with
     |nil =>
      simp only[Bn] at hlen;rw[_H.lexLt_nil_nil];exact(Bd om).symm
     |cons c u hw =>
      simp only[Bn,AH] at hlen;rw[_H.lexLt_cons_nil];exact(Bd om).symm
    |cons a t hv =>
     cases hwi with
     |nil =>
      simp only[Bn,AH] at hlen;rw[_H.lexLt_nil_cons];exact(Bv om).symm
     |cons c u hw =>
      rw[DH] at hz;cases hz
   rw[hv] at hR
   wp_walk
   exact⟨_,rfl,by simpa [Et] using hR⟩
  case h =>
   exact⟨rfl,rfl,items.toList,items2.toList,ns,ms,rfl,hi,hj,by omega,h⟩
end
section
variable {X:Cx}
theorem eA {prog:A5}{w:AO}{A:A8}{E:Ac→Ag→Prop}{s:Ag}{l b:Ad}{items items2:A4 Ac}{ns ms:Aa Aj}{Q:Ac→Ag→Prop}(hl:Ie s.heap l items)(hb:Ie s.heap b items2)(hi:E2 items.toList ns)(hj:E2 items2.toList ms)
  (hu:A.units<CI) (h:Q (.bool (_H.lexLt ms ns)) s):An (Ar prog w) A (Bj .Gt (.ref l) (.ref b)) Q E s:=by
 obtain⟨⟨cls,dd,data,sl⟩,ho,hc,n,hd⟩:=id hl;obtain⟨⟨cls2,dd2,data2,sl2⟩,ho2,hc2,n2,hd2⟩:=id hb;simp only at hc hd hc2 hd2;subst hc hd hc2 hd2;exact Ge (op:=.Gt) ⟨_,ho,rfl⟩ ⟨_,ho2,rfl⟩ Jc IK (Ip _ _) (t0 l b items items2 n n2 dd dd2 sl sl2 ns ms hi hj)
  ⟨ho,ho2,show CN (_H.lexLt ms ns)≠Gr∧Q (.bool (_H.lexLt ms ns)) s from⟨(fun x=>nomatch x),h⟩⟩ hu
theorem lV {pins:Aa (Ad × AV)}{σ : _L.St}{H P:Hp}{α : Aa Ad}{S:Sto}{s:Ag}{xs:Aa D}{v:V}{vv:Ac}{ns:Aa Aj}(I:Inv X pins σ H s)(r:Rel X.K H P α S)(rv:qK v vv)(p:Rep X.K P α (.tup xs) v)(h:vM xs=Ab ns) :
  ∃ a its,vv=.ref a∧Ie s.heap a (List.toArray its)∧E2 its ns:=by
 have:=pN h;subst this;obtain⟨a,vs,its,rfl,q1,t1,rv1,h1,l1,_⟩:=gL I r p;have:=kY t1;subst this;exact⟨a,its,rv,h1,by simpa using bD rv1⟩
set_option tactic.hygienic true in
theorem GZ (hu:X.A.units<CI):OpD X (Bj .Gt) fG:=by
 intro pins σ H s P α S v u vv uu a b Q I r rv ru pa pb af;unfold fG at af
 split at af
 ·rename_i xs ys
  split at af
  ·rename_i ns ms h1 h2
   obtain⟨a,its,rfl,t1,i1⟩:=lV I r rv pa h1;obtain⟨b,its2,rfl,t2,i2⟩:=lV I r ru pb h2;exact eA t1 t2 (by simpa using i1) (by simpa using i2) hu ⟨.bl _,H,I,rfl,xr af r (by simp only[Rep])⟩
  ·exact Am af
 ·exact XX pins σ H s P α S v u vv uu a b Q I r rv ru pa pb af
end
section
variable {X:Cx}
def D4:DF:=fun ds S=>match ds with
 |[.int a,.int b]=>.ok (.int (if b>a then b else a)) S
 |_=>.bad
def vK:DF:=fun ds S=>match ds with
 |[.int a,.int b]=>.ok (.int (if b<a then b else a)) S
 |_=>.bad
inductive Two (ds:Aa D):Prop
 |no (h:∀ (g:Aj→Aj→Res D),(match ds with|[.int a,.int b]=>g a b|_=>.bad)=.bad)
 |of (a b:Aj) (ed:ds=[.int a,.int b])
theorem LL (ds:Aa D):Two ds:=by
 cases ds with
 |nil=>exact .no fun _=>rfl
 |cons d ds =>
  cases d with
  |int a =>
   cases ds with
   |nil=>exact .no fun _=>rfl
   |cons e ds =>
    cases e with
    |int b =>
     cases ds with
     |nil=>exact .of a b rfl
     |cons _ _=>exact .no fun _=>rfl
    |_=>exact .no fun _=>rfl
  |_=>exact .no fun _=>rfl
theorem WK (hc:X.calm=true):w6 X (.builtin "min") vK:=by
 intro pins σ H s P α S vs us ds Q I r rv rp af;cases LL ds with
 |no h=>exact(tP (X:=X) (r:=vK ds S) (h _) af).elim
 |of a b ed =>
  subst ed;obtain⟨v,w,u,x,rfl,rfl,p,p',q,q'⟩:=kD rp rv;cases xC p;cases xC p';obtain⟨t,rfl⟩:=q;obtain⟨t',rfl⟩:=q';refine min_two_ints (I.ok.hd hc) fun h' tk hk=>?_;have I':Inv X pins σ H { s with heap:=h',toks:=tk }:=I.kept (t':=tk) hk
  by_cases hb:b<a
  ·rw[AA hb]
   exact⟨.int b,H,I',⟨t',rfl⟩,xr af r (by simp only[Rep];rw[AA hb])⟩
  ·rw[A0 hb]
   exact⟨.int a,H,I',⟨t,rfl⟩,xr af r (by simp only[Rep];rw[A0 hb])⟩
end
def D3 (f:DE):DI:=fun env S=>(f env S).bind fun d S1=>match d with
 |.loc n=>match S1[n]? with
  |some (.dct kvs)=>.ok (kvs.map (·.2)) (S1.set n .dead)
  |_=>.bad
 |_=>.bad
section
variable {X:Cx}{tg o:AC}{fo:DE}{apos cpos:Cz}
theorem o6 {S:Sto}{n:Ah}{kvs:Aa (Key × D)}(h:S[n]? = Ab (.dct kvs)):tyD (.loc n) S=Ab "dict":=by
 show (match S[n]? with|some (.lst _)=>Ab "list" | some (.dct _)=>Ab "dict" | _=>none)=_
 rw[h]
end
section
variable {X:Cx}
def gW:G2:=fun a b S=>match a,b with
 |.lst xs,.int k=>if 0≤k∧k<2 ^ 62∧xs.length*k.toNat≤lim then .ok (.lst (Bg k.toNat xs).flatten) S else .bad
 |_,_=>zT a b S
theorem lO {K:Ai}{P:Hp}{α : Aa Ad}{ds:Aa D}{vs:Aa V}(r:qG K P α ds vs):∀ k:Ah,qG K P α (Bg k ds).flatten (Bg k vs).flatten
 |0=>by simpa using qG.nil
 |k+1=>by
  rw[Dt,Dt,Ee,Ee];exact r.append (lO r k)
inductive MulV (a b:D)(S:Sto):Prop
 |old (e:gW a b S=zT a b S)
 |of (xs:Aa D) (k:Aj) (ea:a=.lst xs) (eb:b=.int k)
theorem L4 (a b:D)(S:Sto):MulV a b S:=by
 cases a with
 |lst xs=>cases b with
  |int k=>exact .of xs k rfl rfl
  |_=>exact .old rfl
 |_=>exact .old rfl
theorem VA:OpD X (Ci .Mult) gW:=by
 intro pins σ H s P α S v u vv uu a b Q I r rv ru pa pb af;cases L4 a b S with
 |old e =>
  rw[e] at af;exact sT pins σ H s P α S v u vv uu a b Q I r rv ru pa pb af
 |of xs k ea eb =>
  subst ea eb;obtain⟨hk,af⟩:=wX (X:=X) af;obtain⟨h1,h2,hz⟩:=hk;obtain⟨l,vs,its,n,rfl,q1,t1,rv1,e,l1,_⟩:=vU I r pa;cases (show vv=AY l from rv)
  have:=xC pb;subst this;obtain⟨t,rfl⟩:=ru;have hl:its.length=vs.length:=rv1.length.symm;have hlen:its.toArray.size*k.toNat≤sizeLine:=by rw[AB,← l1,← zS];exact hz
  have hcap:¬ its.toArray.size*k.toNat>(2 ^ 63-1)/8:=by
   have:(sizeLine:Ah)≤(2 ^ 63-1)/8:=by decide
   omega
  have hfit:¬ (!Builtin.List.listFitsIndex k)=true:=by
   rw[fitsIndex_both om om];exact Dh
  have hlong:¬ Fj (its.toArray.size*k.toNat)=true:=by
   rw[ZG hlen];exact Dh
  have hnew:Ol (fun x1 x2=>x1++x2) #[] (Bg (if its.toArray.isEmpty=true then 0 else k.toNat) its.toArray)=(Bg k.toNat its).flatten.toArray:=by
   have f0:∀ m:Ah,Ol (fun x1 x2=>x1++x2) #[] (Bg m its.toArray)=(Bg m its).flatten.toArray:=fun m=>by
    have:=mL its m [];rw[Dv] at this;exact this
   rw[f0];cases its with
   |nil=>simp
   |cons a r'=>rw[A0 (by simp)]
  refine wpAny_binaryOp_repeat_ref (T:="list") (U:="int") (by decide) ⟨_,e,rfl⟩ (fun s'=>Oh s' k t) noFill_list_mul F.fills_int_mul Nw repeat_list F.slot_int_index.lookup
   (Hi Nw (Oh s k t) F.entry_int_rmul (F.args_int_rmul_2 _ _) (int___rmul___int_list k t l its.toArray n)
    ⟨e,rfl,⟨_,e,rfl⟩,Hi F.slot_list_mul ⟨_,e,rfl⟩ F.entry_list_mul (F.args_list_mul_2 _ _) (AutoListH.list___mul___list_int_3 l its.toArray n k t hfit hcap hlong) ⟨e,?_⟩⟩)
  rw[hnew];exact l5 I r (lO t1 k.toNat) (rv1.rep k.toNat) (by rw[V0,Lm];exact hz) af
def XG (X:Cx)(cm:Ao)(k:Ah)(f:Ad)(p:Ah × DF):Prop:=∃ fd ps,Cf X.K (.ref f)=true∧vH X.K fd ps [] ∧ FnX X.prog X.w X.K X.mg X.base cm k f fd ps (spD X.K p.1 p.2)
inductive TabL (X:Cx)(cm:Ao)(k:Ah):Aa AC→Aa (Ah × DF)→Prop
 |nil:TabL X cm k [] []
 |cons {x:As} {p:Cz} {n:Ah} {F:DF} {es:Aa AC} {Fs:Aa (Ah × DF)}:Def X.prog X.w X.K X.mg X.base cm k x n F→Gl X x→(x == ("__debug__" : As))=false→TabL X cm k es Fs→TabL X cm k (.Name x p::es) ((n,F)::Fs)
def flA:Aa Ad→DA
 |[]=>qC
 |f::fs=>qA (dC (.obj f)) (flA fs)
theorem KP (fs:Aa Ad)(env:qD)(S:Sto):flA fs env S=.ok (fs.map D.obj) S:=by
 induction fs with
 |nil=>rfl
 |cons f fs ih=>simp[flA,qA,dC,Res.bind,ih]
theorem FD {cm:Ao}{k:Ah}{es:Aa AC}{Fs:Aa (Ah × DF)}(h:TabL X cm k es Fs):∃ fs,PA X es (tDA X (flA fs))∧fs.length=Fs.length∧∀ (i:Ah) (p:Ah × DF),Fs[i]? = Ab p→∃ f,fs[i]? = Ab f∧XG X cm k f p:=by
 induction h with
 |nil=>exact⟨[],cI,rfl,fun i p e=>by simp at e⟩
 |@cons x p n F es Fs G hg hd _ ih =>
  obtain⟨fs,h1,h2,h3⟩:=ih;obtain⟨f,fd,ps,hn,hm,kp,hb,hl,G⟩:=G;refine⟨f::fs,dM (cK hg hm kp hd) h1,by simp[h2],fun i q e=>?_⟩
  cases i with
  |zero =>
   simp at e;subst e;exact⟨f,rfl,fd,ps,kp,hb,G⟩
  |succ i =>
   obtain⟨f',e1,e2⟩:=h3 i q (by simpa using e)
   exact⟨f',by simpa using e1,e2⟩
def pK (Fs:Aa (Ah × DF))(fi:DE)(fa:DA):DE:=fun env S=>(fi env S).bind fun d S1=>match d with
 |.int k=>match atI Fs k with
  |some p=>(fa env S1).bind fun ds S2=>if ds.length=p.1 then p.2 ds S2 else .bad
  |none=>.bad
 |_=>.bad
inductive TabR (X:Cx)(cm:Ao)(k:Ah)(P:Hp)(α : Aa Ad)(Q:VK)(fa:DA)(env:qD)(v:V)(H1:Hp):Prop
 |mk (P1:Hp) (α1:Aa Ad) (S1:Sto) (f:Ad) (p:Ah × DF) (r:Rel X.K H1 P1 α1 S1) (e1:qH P P1) (e2:α<+:α1) (hv:v=.ref f) (g:XG X cm k f p) (af:qJ X P α ((fa env S1).bind fun ds S2=>if ds.length=p.1 then p.2 ds S2 else .bad) (OkV X P α Q)):TabR X cm k P α Q fa env v H1
theorem JY {cm:Ao}{k:Ah}{es:Aa AC}{Fs:Aa (Ah × DF)}{ie e:AC}{rest:Aa AC}{lp sp pos:Cz}{fi:DE}{fa:DA}(T:TabL X cm k es Fs)(hr:RoomC cm k X.A)(hF:Fn1 X)(hl:Fs.length≤lim)(hi:PE X ie (tD X fi))(ha:PA X (e::rest) (tDA X fa))(hs:u9 ie:=by intro _ _;rfl)
  (he:Az (e::rest) X.env=(false,eval e X.env)::Az rest X.env:=by rfl) (hpl:(CP pos (Az rest X.env)).any (·.1)=false:=by rfl):PE X (.Call (.Subscript (.List es lp) ie sp) (e::rest) [] pos) (tD X (pK Fs fi fa)):=by
 obtain⟨fs,hpa,hfl,hgood⟩:=FD T;have key:PE X (.Subscript (.List es lp) ie sp) (tD X (d2 gIx (zZ (flA fs)) fi)):=XM G7 (cM hpa) hi hs;intro pins s σ H Q I h;obtain⟨P,α,env,S,r,re,af⟩:=h;refine Call_ (thn (key pins s σ H (TabR X cm k P α Q fa env) I ⟨P,α,env,S,r,re,?_⟩) fun vv s1 ⟨v,H1,I1,rv,P1,α1,S1,f,p,r1,e1,e2,hv,⟨fd,ps,kp,hb,G⟩,af1⟩=>?_)
 ·have hll:(fs.map D.obj).length≤lim:=by rw[A9,hfl];exact hl
  have ev:d2 gIx (zZ (flA fs)) fi env S=(fi env S).bind fun y S2=>gIx (.lst (fs.map D.obj)) y S2:=by
   simp only[d2,zZ,KP,Res.bind,hll,AZ]
  rw[ev];unfold pK at af;cases q:fi env S with
  |bad=>rw[q] at af;exact af
  |ex c x S'=>rw[q] at af;exact af
  |ok d S1 =>
   rw[q] at af;simp only[Res.bind] at af ⊢;cases d with
   |int kk =>
    simp only at af;cases hp:atI Fs kk with
    |none=>rw[hp] at af;exact Am af
    |some p =>
     rw[hp] at af;unfold atI at hp;cases hj:ixN Fs.length kk with
     |none=>rw[hj] at hp;cases hp
     |some j =>
      rw[hj] at hp;obtain⟨f,ef,gf⟩:=hgood j p hp;have ea:atI (fs.map D.obj) kk=Ab (.obj f):=by
       unfold atI;rw[A9,hfl,hj];simp[ef]
      simp only[gIx,ea,wH];intro v H' P' α' r' e1 e2 rp;simp only[Rep] at rp;exact⟨P',α',S1,f,p,r',e1,e2,rp.1,gf,af⟩
   |_=>exact Am af
 ·subst hv
  cases (show vv=AY f from rv)
  refine Hw (h₀:=X.base) I.ok.mod.kin kp (thn (w9 ha I1 r1 (re.mono e1 e2) (qJ.base' e1 e2 (fun d S ok v H' P' α' r' q1 q2 q3=>ok v H' P' α' r' (e1.trans q1) (e2.trans q2) q3) af1) pos) fun us s2 ⟨vs,H2,P2,α2,ds,S2,I2,rv2,r2,re2,rp,e3,e4,af2⟩=>⟨I2.kIn,?_⟩) he hpl;have af3:qJ X P1 α1 (if ds.length=p.1 then p.2 ds S2 else .bad) (OkV X P1 α1 Q):=af2
  by_cases hn:ds.length=p.1
  ·rw[AA hn] at af3
   exact r0 G hr hb hF I2 r2 rv2 rp hn (qU.base e3 e4 af3)
  ·rw[A0 hn] at af3;exact Am af3
def rW (ns:Aa Aj):Ah:=(ns.foldl Oo []).length
theorem kL (ns:Aa Aj):firstMet (fun i=>ns.getD i 0) ns.length=ns.foldl Oo []:=by
 unfold firstMet
 congr 1
 apply Ml;intro i;rw[CD];by_cases h:i<ns.length
 ·simp[h]
 ·simp[h]
def v7 (f:DE):DE:=fun env S=>(f env S).bind fun d S1=>match d with
 |.lst xs=>match vM xs with
  |some ns=>if ns.length<4000 then .ok (.int (rW ns)) S1 else .bad
  |none=>.bad
 |_=>.bad
theorem oN:CK "set" = Ab (.type "set"):=by decide +kernel
variable {e:AC}{fa:DE}{p1 p2 pos1 pos2:Cz}
set_option tactic.hygienic true in
theorem cL (hc:X.calm=true)(hg:Gl X "len")(hm:X.mg "len" = none)(hg2:Gl X "set")(hm2:X.mg "set" = none)(ha:PE X e (tD X fa))(he:Az [e] X.env=(false,eval e X.env)::Az [] X.env:=by rfl) :
  PE X (.Call (.Name "len" p1) [.Call (.Name "set" p2) [e] [] pos2] [] pos1) (tD X (v7 fa)):=by
 intro pins s σ H Q I h;obtain⟨P,α,env,S,r,re,af⟩:=h;refine E0 (vT I hg hm JC ?_);refine Gp ?_ rfl rfl;refine Hv ?_;refine Call_ (vT I hg2 hm2 oN (Do ?_ he rfl));rw[he];refine Hv (thn (x0 ha I r re af) fun vv s1 ⟨v,H1,P1,α1,d,S1,G1,af1⟩=>HF ?_);cases d with
 |lst xs =>
  simp only at af1
  split at af1
  ·rename_i ns hn
   split at af1
   ·rename_i hlt
    have:=pN hn;subst this;obtain⟨a,vs,its,n,rfl,q1,t1,rv1,e1,l1,_⟩:=vU G1.inv G1.rel G1.rep;cases (show vv=AY a from G1.val)
    have:=kY t1;subst this;have hi:E2 its ns:=by simpa using bD rv1
    have hlen:its.length=ns.length:=hi.length;have hsz:its.toArray.size=ns.length:=by rw[AB];exact hlen
    refine call_set_list (ns:=ns) (G1.inv.ok.hd hc) ⟨_,e1,rfl,n,rfl⟩ (by simpa using hi) (by rw[hsz];have:scanBound=4096:=rfl;omega) fun h' tk hS hk=>?_
    rw[hsz,kL] at hS;obtain⟨o,es,ep,t,ho,hex,hd,hel,hmem,hsb,hf,hes⟩:=hS;have I2:Inv X pins σ H1 { s1 with heap:=h',toks:=tk }:=G1.inv.kept fun b u eq=>hk b u (Av eq) eq
    have hdl:(ns.foldl Oo []).length≤ns.length:=by rw[← kL];exact firstMet_length_le _ _
    refine HF (call_len_set (s:={ s1 with heap:=h',toks:=tk }) ho hex hd hf (by rw[hes];omega) ?_)
    rw[hes];exact⟨.int _,H1,I2.tok _,⟨_,rfl⟩,af1 _ H1 P1 α1 G1.rel G1.same G1.pre (by simp only[Rep];rfl)⟩
   ·exact Am af1
  ·exact Am af1
 |_=>exact Am af1
end
structure QI2 (X:Cx)(tg it:AC)(f:DI2):Prop where
 get:PI X tg it (tDI2 X f)
structure QK (Y:Cx)(step:Ac→Fb HS)(k:DK):Prop where
 get:PK Y step k
structure ZTab (X:Cx)(cm:Ao)(k:Ah)(es:Aa AC)(Fs:Aa (Ah × DF)):Prop where
 get:TabL X cm k es Fs
section
variable {X Y:Cx}{tg it e o elt iter ie:AC}{es ifs rest:Aa AC}{fa fo fe fi:DE}{fA:DA}{fI:DI}{f2:DI2}{g:DG}{t:DT}{kk:DK}{p pos:Cz}{n k:Ah}{x:As}{cm:Ao}{F:DF}{f:DS}{gens grest:Aa Cc}{scope:CS}{N':Aa As}{cap:Aa (Ak Ah)}{mm:Ao}
theorem BR (h:QI X tg it fI):QI2 X tg it (xT fI):=⟨WZ h.1⟩
theorem BQ (h:QE X e fa):QI2 X tg e (dIt fa):=⟨M7 h.1⟩
theorem VW {e1:AC}{elts:Aa AC}{x1:Ah}{tpos:Cz}(hg:Gl X "enumerate")(hm:X.mg "enumerate" = none)(ha:QA X [e1] fA)(hs:Az [e1] X.env=(false,eval e1 X.env)::Az [] X.env:=by rfl)(hpl:(CP pos (Az [] X.env)).any (·.1)=false:=by rfl) :
  QI X (.Tuple elts x1 tpos) (.Call (.Name "enumerate" p) [e1] [] pos) (rT fA):=⟨WY hg hm ha.1 hs hpl⟩
theorem VY (hx:Y.xe=fun _ _=>Cq)(hlast:gens[k+1]? = none)(he:QE Y elt fe):QK Y (fun acc=>zV elt gens scope pos k acc Y.env) (z0 fe):=⟨VM hx hlast he.1⟩
theorem TL (hc:Y.calm=true)(hx:Y.xe=fun _ _=>Cq)(hgk:gens[k+1]? = Ab ⟨tg,iter,ifs,0⟩)(has:∀ g',gens[k+1+1]? = Ab g'→g'.is_async=0)(hi:QI2 Y tg iter f2)(hg:QG Y tg g)(ht:QTs Y ifs t)(he:QK Y (fun acc=>zV elt gens scope pos (k+1) acc Y.env) kk)(hs:∀ x,Ch iter Y.env x=pure x) :
  QK Y (fun acc=>zV elt gens scope pos k acc Y.env) (kIn f2 g t kk):=⟨TD hc hx hgk has hi.1 hg.1 ht.1 he.1 hs⟩
theorem ZO (hc:X.calm=true)(S:CompSc X.env.scope X.N scope N' cap)(hi:QI2 X tg iter f2)(hg:∀ cl C ex s₀ H₀,QG (qT X N' scope cl C ex s₀ H₀) tg g)(ht:∀ cl C ex s₀ H₀,QTs (qT X N' scope cl C ex s₀ H₀) ifs t)
  (has:∀ g',(⟨tg,iter,ifs,0⟩::grest:Aa Cc)[0+1]? = Ab g'→g'.is_async=0)
  (he:∀ cl C ex s₀ H₀,QK (qT X N' scope cl C ex s₀ H₀) (fun acc=>zV elt (⟨tg,iter,ifs,0⟩::grest) scope pos 0 acc (qT X N' scope cl C ex s₀ H₀).env) kk) (hs:∀ x,Ch iter X.env x=pure x) :
  QE X (.ListComp elt (⟨tg,iter,ifs,0⟩::grest) scope pos) (zA mm cap f2 g t kk):=
 ⟨Q0 hc S hi.1 (fun cl C ex s H=>(hg cl C ex s H).1) (fun cl C ex s H=>(ht cl C ex s H).1) has (fun cl C ex s H=>(he cl C ex s H).1) hs⟩
theorem ZR {m:Ah}{y:As}{py spos:Cz}(hc:X.calm=true)(hN:X.N.Nodup)(S:CompSc X.env.scope X.N scope N' cap)(hi:QI2 X tg iter f2)(hg:∀ cl C ex s₀ H₀,QG (qT X N' scope cl C ex s₀ H₀) tg g)(ht:∀ cl C ex s₀ H₀,QTs (qT X N' scope cl C ex s₀ H₀) ifs t)
  (has:∀ g',(⟨tg,iter,ifs,0⟩::grest:Aa Cc)[0+1]? = Ab g'→g'.is_async=0)
  (he:∀ cl C ex s₀ H₀,QK (qT X N' scope cl C ex s₀ H₀) (fun acc=>zV elt (⟨tg,iter,ifs,0⟩::grest) scope pos 0 acc (qT X N' scope cl C ex s₀ H₀).env) kk) (hy:X.N[m]? = Ab y) (hyl:Loc X.env.scope y) (hf:X.fn y=true∨X.env.scope.names.lookup y=Ab .local)
  (hsw:Gb (.ListComp elt (⟨tg,iter,ifs,0⟩::grest) scope pos) (Ab (.Name y py)) spos.line X.env=pure true) (hs:∀ x,Ch iter X.env x=pure x):QS X (.Assign [.Name y py] (.ListComp elt (⟨tg,iter,ifs,0⟩::grest) scope pos) spos) (zD (zA mm cap f2 g t kk) (gNm m)):=
 ⟨Q5 hc hN S hi.1 (fun cl C ex s H=>(hg cl C ex s H).1) (fun cl C ex s H=>(ht cl C ex s H).1) has (fun cl C ex s H=>(he cl C ex s H).1) hy hyl hf hsw hs⟩
theorem XF:ZTab X cm k [] []:=⟨.nil⟩
theorem o9 {Fs:Aa (Ah × DF)}(G:Def X.prog X.w X.K X.mg X.base cm k x n F)(hg:Gl X x)(hd:(x == ("__debug__" : As))=false)(h:ZTab X cm k es Fs):ZTab X cm k (.Name x p::es) ((n,F)::Fs):=⟨.cons G hg hd h.1⟩
theorem BM {Fs:Aa (Ah × DF)}{lp sp:Cz}(T:ZTab X cm k es Fs)(hr:RoomC cm k X.A)(hF:Fn1 X)(hl:Fs.length≤lim)(hi:QE X ie fi)(ha:QA X (e::rest) fA)(hs:u9 ie:=by intro _ _;rfl)
  (he:Az (e::rest) X.env=(false,eval e X.env)::Az rest X.env:=by rfl) (hpl:(CP pos (Az rest X.env)).any (·.1)=false:=by rfl):QE X (.Call (.Subscript (.List es lp) ie sp) (e::rest) [] pos) (pK Fs fi fA):=⟨JY T.1 hr hF hl hi.1 ha.1 hs he hpl⟩
theorem iJ {p1 p2 pos1 pos2:Cz}(hc:X.calm=true)(hg:Gl X "len")(hm:X.mg "len" = none)(hg2:Gl X "set")(hm2:X.mg "set" = none)(ha:QE X e fa)(he:Az [e] X.env=(false,eval e X.env)::Az [] X.env:=by rfl) :
  QE X (.Call (.Name "len" p1) [.Call (.Name "set" p2) [e] [] pos2] [] pos1) (v7 fa):=⟨cL hc hg hm hg2 hm2 ha.1 he⟩
theorem XB:ZMt X "dict.setdefault" xK:=⟨aU⟩
theorem NA (hr:RoomC cm k X.A):ZOp X (Bj .Gt) fG:=⟨GZ (by have:=hu1 hr;omega)⟩
theorem FW:ZOp X (Ci .Mult) gW:=⟨VA⟩
end
def kI (H:Hp):Aa (Ad × HO)→Hp
 |[]=>H
 |p::ps=>kI (upd H p.1 p.2) ps
theorem m9 {b:Ad}:∀ {L:Aa (Ad × HO)} {H:Hp},b ∉ L.map (·.1)→kI H L b=H b
 |[],_,_=>rfl
 |p::ps,H,h=>by
  simp only[Bk,AL,O1] at h;show kI (upd H p.1 p.2) ps b=H b;rw[m9 h.2,qO h.1]
theorem lW {b:Ad}{u:HO}:∀ {L:Aa (Ad × HO)} {H:Hp},kI H L b=Ab u→(b,u)∈L∨H b=Ab u
 |[],_,h=>.inr h
 |p::ps,H,h=>by
  rcases lW (L:=ps) (H:=upd H p.1 p.2) h with h|h
  ·exact .inl (AK _ h)
  ·by_cases hb:b=p.1
   ·subst hb
    rw[qZ] at h;cases h;exact .inl (Bu ..)
   ·rw[qO hb] at h
    exact .inr h
section
variable {X:Cx}{pins:Aa (Ad × AV)}{σ : _L.St}{H:Hp}{s:Ag}
theorem Inv.laidL {L:Aa (Ad × HO)}{h':AF}{t':Ah}(I:Inv X pins σ H s)(k:∀ b u,s.heap.get? b=Ab u→h'.get? b=Ab u)(hp:∀ p∈L,s.heap.objs.size≤p.1)(new:∀ p∈L,zJ X.prog X.w (kI H L) h' p.1 p.2) :
  Inv X pins σ (kI H L) { s with heap:=h',toks:=t' }:=by
 have old:∀ b u,H b=Ab u→kI H L b=Ab u:=fun b u e=>by
  rw[m9 (L:=L)]
  ·exact e
  ·intro hb
   obtain⟨p,hp',rfl⟩:=AE.mp hb;rw[I.hok.fresh (hp p hp')] at e;cases e
 have low:∀ b,b<s.heap.objs.size→kI H L b=H b:=fun b hb=>m9 fun hm=>by
  obtain⟨p,hp',rfl⟩:=AE.mp hm;exact absurd (AI hb (hp p hp')) (Cg _)
 refine I.un ⟨fun b u q _ _ _=>k b u q,fun b u q _ _ _=>⟨u.slots,k b u q⟩,fun b u q n _=>by rw[low b (Av q)];exact n,fun b u q _=>⟨u,k b u q⟩,fun b xs q=>old b _ q,fun b o xs q=>old b _ q,fun b ps q=>⟨#[],by rw[old b _ q];simp⟩⟩ fun b u e=>?_
 rcases lW e with hm|hb
 ·exact new (b,u) hm
 ·exact(I.hok b u hb).stay (fun c v _ q=>k c v q) (fun c q=>old c _ q) fun c xs q=>old c _ q
end
section
variable {X:Cx}{cm:Ao}{k:Ah}
theorem FV (hc:X.calm=true):ZCall X (.builtin "min") vK:=⟨WK hc⟩
end
end _D
namespace _S
open PySem
open PySem.SetTable (Probe leap runEnd turns bits)
def adv (mask:Ah)(p:OH):OH:=if p.more>0 then { p with j:=p.j+1,more:=p.more-1 } else { p with j:=(leap mask p.i p.perturb).1,more:=runEnd mask (leap mask p.i p.perturb).1-(leap mask p.i p.perturb).1,i:=(leap mask p.i p.perturb).1,perturb:=(leap mask p.i p.perturb).2 }
def it (mask:Ah):Ah→OH→OH
 |0,p=>p
 |n+1,p=>it mask n (adv mask p)
def rs (mask i pert:Ah):OH:={ j:=i,more:=runEnd mask i-i,i,perturb:=pert,dummy:=none }
def st (mask:Ah)(h:Aj):OH:=rs mask (bits h % (mask+1)) (bits h)
end _S
namespace _S
open PySem
open PySem.SetTable (Probe leap runEnd turns bits)
structure Own (mask:Ah)(owner:A4 (Ak Ah))(us:Aa Ah):Prop where
 size:owner.size=mask+1
 nd:us.Nodup
 le:∀ u∈us,u≤mask
 at':∀ j k,j≤mask→(owner.getD j (Ab 0)=Ab k↔us[k]? = Ab j)
theorem Own.none {mask:Ah}{owner:A4 (Ak Ah)}{us:Aa Ah}(O:Own mask owner us){j:Ah}(hj:j≤mask):(owner.getD j (Ab 0)).isNone=true↔j ∉ us:=by
 constructor
 ·intro h hm
  obtain⟨k,hk,e⟩:=Bq.mp hm;have:=(O.at' j k hj).mpr (by rw[Ap hk,e])
  rw[this] at h;cases h
 ·intro h
  cases q:owner.getD j (Ab 0) with
  |none=>rfl
  |some k=>exact absurd (DM ((O.at' j k hj).mp q)) h
end _S
namespace _S
open PySem
open PySem.SetTable (Probe leap runEnd turns bits)
structure Set0 {K:Type}(is:K→Ac→Prop)(hash:K→Aj)(es:A4 (Aj × Ac))(seen:Aa K):Prop where
 good:∀ e∈es.toList,∃ k,e.1=hash k∧is k e.2
 nd:es.toList.Pairwise fun a b=>∀ k,is k a.2→¬ is k b.2
 mem:∀ k,k∈seen↔∃ e∈es.toList,is k e.2
section
variable {K:Type}{is:K→Ac→Prop}{hash:K→Aj}{es es':A4 (Aj × Ac)}{seen seen':Aa K}
theorem Set0.nil:Set0 is hash #[] []:=⟨fun e he=>by simp at he,by simp,fun k=>by simp⟩
end
end _S
namespace _S
open PySem
open PySem.SetTable (Probe leap runEnd turns bits)
def Sup (h0 h:AF):Prop:=∀ b o,h0.get? b=Ab o→h.get? b=Ab o
def isT (prog:A5)(w:AO)(h0:AF)(ks:Aa Aj)(v:Ac):Prop:=∃ a,v=.ref a∧IsTupleKey (intKind prog w) h0 ks a
section
variable {prog:A5}{w:AO}{h0:AF}
theorem isT.inj {x y:Aa Aj}{v:Ac}(hx:isT prog w h0 x v)(hy:isT prog w h0 y v):x=y:=by
 obtain⟨a,rfl,h1⟩:=hx;obtain⟨b,e,h2⟩:=hy;cases e;exact h1.inj h2
variable {A:A8}{E:Ac→Ag→Prop}{s:Ag}
end
end _S
namespace _S
open PySem
open PySem.SetTable (Probe leap runEnd turns bits)
@[reducible] def setO (es:A4 (Aj × Ac))(ep:Ah)(t:SetTable):AV:={ cls:=.type "set",dict:=none,data:=.set es ep t }
end _S
namespace _S
open PySem
def itO (slot i:Ah)(S:Ad)(n ep:Ah):AV:={ cls:=.type "set_iterator",data:=.fields #[.int slot 0,.int i 0,.ref S,.int n 0,.int ep 0] }
def At (w:AO)(I S:Ad)(es:A4 (Aj × Ac))(ep:Ah)(t:SetTable)(i:Ah)(h:AF):Prop:=
 ∃ slot,h.get? I=Ab (itO slot i S es.size ep)∧h.get? S=Ab (setO es ep t)∧(w.params.followText "set-order" = true∨SetTable.below t.place slot=i)
section
variable {prog:A5}{w:AO}{A:A8}{E:Ac→Ag→Prop}{s:Ag}{S I:Ad}{es:A4 (Aj × Ac)}{ep:Ah}{t:SetTable}
theorem At.type {i:Ah}(h:At w I S es ep t i s.heap):s.TypeIs (.ref I) "set_iterator":=by
 obtain⟨slot,h,_⟩:=h;exact⟨_,h,rfl⟩
end
end _S
namespace _S
open PySem PySem.W PyProof.Rows
structure Ord {K:Type}(lt:K→K→Ao):Prop where
 irr:∀ a,lt a a=false
 tr:∀ {a b c},lt a b=true→lt b c=true→lt a c=true
 tri:∀ {a b},lt a b=false→a=b∨lt b a=true
theorem sJ:∀ a:Aa Aj,_H.lexLt a a=false
 |[]=>rfl
 |x::xs=>by rw[_H.lexLt_cons,AA rfl];exact sJ xs
theorem aJ:∀ {a b c:Aa Aj},_H.lexLt a b=true→_H.lexLt b c=true→_H.lexLt a c=true
 |_,[],[],_,h=>by cases h
 |_,_::_,[],_,h=>by cases h
 |[],_,_::_,_,_=>rfl
 |_::_,[],_::_,h,_=>by cases h
 |x::xs,y::ys,z::zs,h1,h2=>by
  rw[_H.lexLt_cons] at h1 h2 ⊢;by_cases e1:x=y
  ·subst e1
   rw[AA rfl] at h1;by_cases e2:x=z
   ·rw[AA e2] at h2 ⊢;exact aJ h1 h2
   ·rw[A0 e2] at h2 ⊢;exact h2
  ·rw[A0 e1] at h1
   have h1:=Bf h1;by_cases e2:y=z
   ·subst e2;rw[A0 e1];exact Bv h1
   ·rw[A0 e2] at h2
    have h2:=Bf h2;rw[A0 (by omega)]
    exact Bv (by omega)
theorem sK:∀ {a b:Aa Aj},_H.lexLt a b=false→a=b∨_H.lexLt b a=true
 |[],[],_=>.inl rfl
 |[],_::_,h=>by cases h
 |_::_,[],_=>.inr rfl
 |x::xs,y::ys,h=>by
  rw[_H.lexLt_cons] at h ⊢;by_cases e:x=y
  ·subst e
   rw[AA rfl] at h ⊢;rcases sK h with h|h
   ·exact .inl (by rw[h])
   ·exact .inr h
  ·rw[A0 e] at h
   have h:=of_decide_eq_false h;rw[A0 (DC e)];exact .inr (Bv (by omega))
theorem wU:Ord _H.lexLt:=⟨sJ,aJ,sK⟩
theorem mI {α : Type}{p q:α→Ao}:∀ {l:Aa α},(∀ x∈l,p x=true→q x=true)→(∃ x∈l,q x=true∧p x=false)→l.countP p<l.countP q
 |[],_,⟨x,h,_⟩=>by simp at h
 |a::l,h,⟨x,hx,h1,h2⟩=>by
  have le:l.countP p≤l.countP q:=Jd fun y hy=>h y (by simp[hy])
  rw[Nj,Nj];rcases AL.mp hx with rfl|hx
  ·rw[A0 (by rw[h2];decide),AA h1];omega
  ·have ih:=mI (l:=l) (fun y hy=>h y (by simp[hy])) ⟨x,hx,h1,h2⟩
   have:=h a (by simp)
   cases hp:p a with
   |false=>rw[A0 (by decide)];split <;> omega
   |true=>rw[AA rfl,AA (this hp)];omega
section
variable {K:Type}{lt':K→K→Ao}
def kB (lt':K→K→Ao)(ks:Aa K)(x:K):Aj:=(ks.countP (fun k=>lt' k x):Ah)
theorem lM (O:Ord lt'){ks:Aa K}{x y:K}(hx:x∈ks):lt' x y=decide (kB lt' ks x<kB lt' ks y):=by
 unfold kB;cases h:lt' x y with
 |true =>
  refine(Bv ?_).symm;have:=mI (l:=ks) (p:=fun k=>lt' k x) (q:=fun k=>lt' k y) (fun z _ hz=>O.tr hz h) ⟨x,hx,h,O.irr x⟩;omega
 |false =>
  refine(Bd ?_).symm;have:ks.countP (fun k=>lt' k y)≤ks.countP (fun k=>lt' k x):=by
   rcases O.tri h with e|h'
   ·rw[e];exact Aw _
   ·exact Jd fun z _ hz=>O.tr hz h'
  omega
def tQ (lt':K→K→Ao)(ks:Aa K)(d:K)(i j:Ah):Ao:=lt' (ks.getD i d) (ks.getD j d)
def Nf (lt':K→K→Ao)(l:Aa K):Prop:=l.Pairwise fun a b=>lt' b a=false
theorem gZ (O:Ord lt'):∀ {a b:Aa K},Nf lt' a→Nf lt' b→a.Perm b→a=b
 |[],b,_,_,p=>(List.nil_perm.mp p).symm
 |x::a,b,ha,hb,p=>by
  cases b with
  |nil=>exact absurd p.symm (by simp)
  |cons y b =>
   unfold Nf at ha hb;rw[List.pairwise_cons] at ha hb;have e:x=y:=by
    rcases AL.mp (p.mem_iff.mp (.head _)) with e|e
    ·exact e
    ·rcases AL.mp (p.mem_iff.mpr (.head _)) with e'|e'
     ·exact e'.symm
     ·have h1:=ha.1 y e'
      have h2:=hb.1 x e;rcases O.tri h1 with e|h
      ·exact e.symm
      ·rw[h2] at h;cases h
   subst e;rw[gZ O ha.2 hb.2 (List.Perm.cons_inv p)]
def pV (lt':K→K→Ao)(l:Aa K):Aa K:=l.mergeSort fun a b=>!lt' b a
theorem uX (l:Aa K):(pV lt' l).Perm l:=List.mergeSort_perm _ _
theorem m5 (O:Ord lt')(l:Aa K):Nf lt' (pV lt' l):=by
 have:=Iq (le:=fun a b=>!lt' b a) (fun a b c h1 h2=>?_) (fun a b=>?_) l
 ·exact this.imp fun h=>by simpa using h
 ·have h1:lt' b a=false:=by simpa using h1
  have h2:lt' c b=false:=by simpa using h2
  cases h3:lt' c a with
  |false=>rfl
  |true =>
   rcases O.tri h1 with e|h
   ·rw[← e] at h3;rw[h3] at h2;cases h2
   ·have:=O.tr h3 h;rw[h2] at this;cases this
 ·cases h:lt' b a with
  |false=>rfl
  |true =>
   cases h':lt' a b with
   |false=>rfl
   |true=>have:=O.tr h h';rw[O.irr] at this;cases this
end
def fL:Ao→A6→A4 A6→Ah→Ah→Ah→Kp CG Fb (Ak Ah):=sortPriv% PySem.Builtin.gallop
def ZB:A4 A6→A4 A6→Kp CG Fb (A4 A6):=sortPriv% PySem.Builtin.mergeLo
def Z9:A4 A6→A4 A6→Kp CG Fb (A4 A6):=sortPriv% PySem.Builtin.mergeHi
def nv:A6:=(Br,Br)
section
variable {M:Fl}{A:A8}{E:Ac→Ag→Prop}{s:Ag}{κ : Fg}{U:A6→Prop}{r:A6→Aj}
structure Cm (M:Fl)(A:A8)(s:Ag)(κ : Fg)(U:A6→Prop)(r:A6→Aj):Prop where
 lt:∀ {x y:A6},U x→U y→∀ {E:Ac→Ag→Prop} {Q:Ak Ao→CG→Prop} {st:CG},kindOf st=κ→Q (Ab (decide (r x<r y))) st→wpS M A E s (lt' x y) Q st
theorem qY {arr:A4 A6}{i:Ah}{Q:A6→CG→Prop}{st:CG}(h:i<arr.size)(q:Q (arr.getD i nv) st):wpS M A E s (elem' arr i) Q st:=by
 rw[elem'_eq,getElem?_pos arr i h];have e:arr.getD i nv=arr[i]:=by simp[DY,h]
 rw[e] at q;exact A3 q
theorem hJ (C:Cm M A s κ U r){left:Ao}{key:A6}{arr:A4 A6}{i:Ah}{Q:Ak Ao→CG→Prop}{st:CG}(hk:kindOf st=κ)(hi:i<arr.size)(hU:U (arr.getD i nv))(hkU:U key)
  (q:Q (Ab (if left then decide (r (arr.getD i nv)<r key) else !decide (r key<r (arr.getD i nv)))) st) :
  wpS M A E s (do let x ← elem' arr i;if left then lt' x key else (do let a ← lt' key x;pure (a.map (fun b=>!b)))) Q st:=by
 refine Au (qY hi ?_);cases left with
 |true=>exact C.lt hU hkU hk q
 |false=>exact Au (C.lt hkU hU hk (A3 q))
theorem bS (C:Cm M A s κ U r){left:Ao}{key:A6}{arr:A4 A6}{base n hint cut:Ah}{Q:Ak Ah→CG→Prop}{st:CG}(hk:kindOf st=κ)(hh:hint<n)(hb:base+n≤arr.size)(hU:∀ i,i<n→U (arr.getD (base+i) nv))(hkU:U key)(hc:cut≤n)
  (hB:∀ i,i<n→(if left then decide (r (arr.getD (base+i) nv)<r key) else !decide (r key<r (arr.getD (base+i) nv)))=decide (i<cut)) (h:Q (Ab cut) st):wpS M A E s (fL left key arr base n hint) Q st:=by
 have B:∀ {i:Ah} {E:Ac→Ag→Prop} {Q:Ak Ao→CG→Prop},i<n→Q (Ab (decide (i<cut))) st→wpS M A E s (do let x ← elem' arr (base+i);if left then lt' x key else (do let a ← lt' key x;pure (a.map (fun b=>!b)))) Q st:=by
  intro i E Q hi q;exact hJ C hk (by omega) (hU i hi) hkU (by rw[hB i hi];exact q)
 have bin:∀ {lo hi:Ah} {f:Ah→Ak (Ak Ah) × Ah × Ah→Kp CG Fb (ForInStep (Ak (Ak Ah) × Ah × Ah))},lo≤cut→cut≤hi→hi≤n →
   (∀ x a b,f x (none,a,b)=if a≥b then pure (.done (none,a,b)) else ((do let x ← elem' arr (base+(a+(b-a)/2));if left then lt' x key else (do let a ← lt' key x;pure (a.map (fun b=>!b)))) >>= fun o=>match o with
    |some more=>if more then pure (.yield (none,a+(b-a)/2+1,b)) else pure (.yield (none,a,a+(b-a)/2))
    |_=>pure (.done (Ab none,a,b))))→wpS M A E s (forIn [0:n] (none,lo,hi) f) (fun c st'=>st'=st∧∃ a,c=(none,a,cut)) st:=by
  intro lo hi f h1 h2 h3 hf;refine Cu (I:=fun x c st'=>st'=st∧∃ a b,c=(none,a,b)∧a≤cut∧cut≤b∧b≤n∧b-a≤n-x) ?_ ?_ ⟨rfl,lo,hi,rfl,h1,h2,h3,by omega⟩
  ·rintro x c st' _ hx ⟨rfl,a,b,rfl,q1,q2,q3,q4⟩
   rw[hf];by_cases g:a≥b
   ·rw[AA g];exact A3 ⟨rfl,a,by rw[show b=cut by omega]⟩
   ·rw[A0 g]
    refine Au (B (by omega) ?_)
    by_cases z:a+(b-a)/2<cut
    ·simp only[z,EF,AZ]
     exact A3 ⟨rfl,_,_,rfl,by omega,q2,q3,by omega⟩
    ·simp only[z,EL,Bl,Ds]
     exact A3 ⟨rfl,_,_,rfl,q1,by omega,by omega,by omega⟩
  ·rintro c st' ⟨rfl,a,b,rfl,q1,q2,q3,q4⟩
   exact⟨rfl,a,by rw[show b=cut by omega]⟩
 refine Au (B hh ?_);dsimp only;by_cases hr:hint<cut
 ·simp only[hr,EF,AZ]
  refine Au (Dw (Cu (I:=fun x c st'=>st'=st∧∃ a b,c=(none,a,b)∧hint+a<cut∧a<b∧x<b)
   (Q:=fun c st'=>st'=st∧∃ a b,c=(none,a,b)∧hint+a<cut∧cut≤hint+min b (n-hint)) ?_ ?_ ⟨rfl,0,1,rfl,hr,by omega,by omega⟩) ?_)
  ·rintro x c st' _ hx ⟨rfl,a,b,rfl,q1,q2,q3⟩
   dsimp only;by_cases g:b≥n-hint
   ·rw[AA g];exact A3 ⟨rfl,a,b,rfl,q1,by omega⟩
   ·rw[A0 g]
    refine Au (B (by omega) ?_)
    by_cases z:hint+b<cut
    ·simp only[z,EF,Bool.not_true,Bl,Ds]
     exact A3 ⟨rfl,_,_,rfl,z,by omega,by omega⟩
    ·simp only[z,EL,Bool.not_false,AZ]
     exact A3 ⟨rfl,a,b,rfl,q1,by omega⟩
  ·rintro c st' ⟨rfl,a,b,rfl,q1,q2,q3⟩
   exact⟨rfl,a,b,rfl,q1,by omega⟩
  ·rintro c st' ⟨rfl,a,b,rfl,q1,q2⟩
   dsimp only;refine Au (Dw (bin (lo:=hint+a+1) (hi:=hint+min b (n-hint)) (by omega) q2 (by omega) fun _ _ _=>rfl) ?_)
   rintro c st' ⟨rfl,a',rfl⟩;exact A3 h
 ·simp only[hr,EL,Bl,Ds]
  refine Au (Dw (Cu (I:=fun x c st'=>st'=st∧∃ a b,c=(none,a,b)∧cut+a≤hint∧a<b∧x<b)
   (Q:=fun c st'=>st'=st∧∃ a b,c=(none,a,b)∧cut+a≤hint∧hint+1≤cut+min b (hint+1)) ?_ ?_ ⟨rfl,0,1,rfl,by omega,by omega,by omega⟩) ?_)
  ·rintro x c st' _ hx ⟨rfl,a,b,rfl,q1,q2,q3⟩
   dsimp only;by_cases g:b≥hint+1
   ·rw[AA g];exact A3 ⟨rfl,a,b,rfl,q1,by omega⟩
   ·rw[A0 g]
    refine Au (B (by omega) ?_)
    by_cases z:hint-b<cut
    ·simp only[z,EF,AZ]
     exact A3 ⟨rfl,a,b,rfl,q1,by omega⟩
    ·simp only[z,EL,Bl,Ds]
     exact A3 ⟨rfl,_,_,rfl,by omega,by omega,by omega⟩
  ·rintro c st' ⟨rfl,a,b,rfl,q1,q2,q3⟩
   exact⟨rfl,a,b,rfl,q1,by omega⟩
  ·rintro c st' ⟨rfl,a,b,rfl,q1,q2⟩
   dsimp only;refine Au (Dw (bin (lo:=hint+1-min b (hint+1)) (hi:=hint-a) (by omega) (by omega) (by omega) fun _ _ _=>rfl) ?_)
   rintro c st' ⟨rfl,a',rfl⟩;exact A3 h
end
def Le (r:A6→Aj)(x y:A6):Prop:=r x≤r y
structure Mg (r:A6→Aj)(o A B T:Aa A6):Prop where
 p1:(o++A).Pairwise (Le r)
 p2:(o++B).Pairwise (Le r)
 pm:(o++A++B).Perm T
structure Mh (r:A6→Aj)(A B o T:Aa A6):Prop where
 p1:(A++o).Pairwise (Le r)
 p2:(B++o).Pairwise (Le r)
 pm:(A++B++o).Perm T
section
variable {r:A6→Aj}{o A B A1 A2 B1 B2 T:Aa A6}
theorem Mg.b (h:Mg r o A (B1++B2) T)(l:∀ x∈B1,∀ y∈A,Le r x y):Mg r (o++B1) A B2 T:=by
 obtain⟨p1,p2,pm⟩:=h;refine⟨?_,by rw[AQ];exact p2,?_⟩
 ·rw[AQ]
  rw[AX] at p1 p2 ⊢;refine⟨p1.1,?_,fun x hx y hy=>?_⟩
  ·rw[AX]
   exact⟨(AX.mp p2.2.1).1,p1.2.1,l⟩
  ·rcases AS.mp hy with hy|hy
   ·exact p2.2.2 x hx y (Bp _ hy)
   ·exact p1.2.2 x hx y hy
 ·refine Hb ?_ pm
  simp only[AQ];refine EG _ ?_;simp only[← AQ];exact E8 _ EH
theorem Mg.a (h:Mg r o (A1++A2) B T)(l:∀ x∈A1,∀ y∈B,Le r x y):Mg r (o++A1) A2 B T:=by
 obtain⟨p1,p2,pm⟩:=h;refine⟨by rw[AQ];exact p1,?_,by simpa only [AQ] using pm⟩
 rw[AQ];rw[AX] at p1 p2 ⊢;refine⟨p2.1,?_,fun x hx y hy=>?_⟩
 ·rw[AX]
  exact⟨(AX.mp p1.2.1).1,p2.2.1,l⟩
 ·rcases AS.mp hy with hy|hy
  ·exact p1.2.2 x hx y (Bp _ hy)
  ·exact p2.2.2 x hx y hy
theorem Mh.a (h:Mh r (A1++A2) B o T)(l:∀ x∈B,∀ y∈A2,Le r x y):Mh r A1 B (A2++o) T:=by
 obtain⟨p1,p2,pm⟩:=h;refine⟨by rw[← AQ];exact p1,?_,?_⟩
 ·rw[AQ] at p1
  rw[AX] at p1 p2 ⊢;refine⟨p2.1,p1.2.1,fun x hx y hy=>?_⟩;rcases AS.mp hy with hy|hy
  ·exact l x hx y hy
  ·exact p2.2.2 x hx y hy
 ·refine Hb ?_ pm
  simp only[AQ];refine EG _ ?_;simp only[← AQ];exact E8 _ EH
theorem Mh.b (h:Mh r A (B1++B2) o T)(l:∀ x∈A,∀ y∈B2,Le r x y):Mh r A B1 (B2++o) T:=by
 obtain⟨p1,p2,pm⟩:=h;refine⟨?_,by rw[← AQ];exact p2,by simpa only [AQ] using pm⟩
 rw[AQ] at p2;rw[AX] at p1 p2 ⊢;refine⟨p1.1,p2.2.1,fun x hx y hy=>?_⟩;rcases AS.mp hy with hy|hy
 ·exact l x hx y hy
 ·exact p1.2.2 x hx y hy
end
structure Mo (r:A6→Aj)(T:Aa A6)(m:A4 A6):Prop where
 pm:m.toList.Perm T
 up:m.toList.Pairwise (Le r)
abbrev yS (st:CG)(g:Ah):CG:=Bc (kindOf st) (arrOf st) (pendingOf st) g (failedOf st)
theorem fB {a:A4 A6}{i:Ah}(h:i<a.size):a.toList.drop i=a.getD i nv::a.toList.drop (i+1):=by
 rw[CW (by simpa using h)]
 congr 1
 simp[DY,h]
theorem zN {a:A4 A6}{i:Ah}(h:i<a.size):a.getD i nv∈a.toList:=by
 have e:a.getD i nv=a[i]:=by simp[DY,h]
 rw[e];exact Array.getElem_mem_toList h
theorem wK {r:A6→Aj}{a:A4 A6}(s:a.toList.Pairwise (Le r)){i j:Ah}(h:i≤j)(hj:j<a.size):r (a.getD i nv)≤r (a.getD j nv):=by
 rcases OQ i j with l|l
 ·have e:=EY.mp s i j (by simpa using Lf l hj) (by simpa using hj) l
  have hi:i<a.size:=Lf l hj;simpa [DY,hi,hj,Le] using e
 ·rw[Nat.le_antisymm h l];exact Fh _
theorem jZ {a:A4 A6}{i:Ah}{x:A6}(h:x∈a.toList.drop i):∃ j,i≤j∧j<a.size∧x=a.getD j nv:=by
 obtain⟨k,hk,e⟩:=Bq.mp h;rw[Mm] at e;have hk':k<a.size-i:=by simpa using hk
 refine⟨i+k,by omega,by omega,?_⟩
 have:i+k<a.size:=by omega
 simp[DY,this,← e]
theorem k7 {a:A4 A6}{n:Ah}{x:A6}(h:x∈a.toList.take n):∃ j,j<n∧j<a.size∧x=a.getD j nv:=by
 obtain⟨k,hk,e⟩:=Bq.mp h;rw[Mn] at e;have hk':k<n∧k<a.size:=by rw[DQ,AU] at hk;omega
 refine⟨k,hk'.1,hk'.2,?_⟩;simp[DY,hk'.2,← e]
theorem pL {a:A4 A6}{i k:Ah}:(a.extract i (i+k)).toList++a.toList.drop (i+k)=a.toList.drop i:=by
 rw[Ei,DD,Ew,← List.drop_drop];exact Go _ _
theorem gS {a:A4 A6}{i:Ah}:(a.extract i a.size).toList=a.toList.drop i:=by
 rw[Ei,DD];exact E9 (by simp)
theorem fS {a:A4 A6}{i k:Ah}{x:A6}(h:x∈(a.extract i (i+k)).toList):∃ j,i≤j∧j<i+k∧j<a.size∧x=a.getD j nv:=by
 rw[Ei,DD,Ew] at h;obtain⟨m,hm,e⟩:=Bq.mp h;rw[Mn,Mm] at e;have hm':m<k∧i+m<a.size:=by rw[DQ,HX,AU] at hm;omega
 refine⟨i+m,by omega,by omega,hm'.2,?_⟩
 simp[DY,hm'.2,← e]
def GL (r:A6→Aj)(a b o:A4 A6)(i j:Ah):Prop:=Mg r o.toList (a.toList.drop i) (b.toList.drop j) (a.toList++b.toList)
section
variable {r:A6→Aj}{a b o:A4 A6}{i j k:Ah}
theorem GL.pb (sa:a.toList.Pairwise (Le r))(h:GL r a b o i j)(hj:j<b.size)(l:i<a.size→r (b.getD j nv)≤r (a.getD i nv)):GL r a b (o.push (b.getD j nv)) i (j+1):=by
 have h':Mg r o.toList (a.toList.drop i) ([b.getD j nv]++b.toList.drop (j+1)) (a.toList++b.toList):=by rw[Je,← fB hj];exact h
 have:=h'.b fun x hx y hy=>by
  cases Di.mp hx;obtain⟨m,h1,h2,rfl⟩:=jZ hy;exact Cn (l (by omega)) (wK sa h1 h2)
 unfold GL;rw[Eg];exact this
theorem GL.pa (sb:b.toList.Pairwise (Le r))(h:GL r a b o i j)(hi:i<a.size)(l:j<b.size→r (a.getD i nv)≤r (b.getD j nv)):GL r a b (o.push (a.getD i nv)) (i+1) j:=by
 have h':Mg r o.toList ([a.getD i nv]++a.toList.drop (i+1)) (b.toList.drop j) (a.toList++b.toList):=by rw[Je,← fB hi];exact h
 have:=h'.a fun x hx y hy=>by
  cases Di.mp hx;obtain⟨m,h1,h2,rfl⟩:=jZ hy;exact Cn (l (by omega)) (wK sb h1 h2)
 unfold GL;rw[Eg];exact this
theorem GL.ea (sb:b.toList.Pairwise (Le r))(h:GL r a b o i j)(hj:j<b.size)(l:∀ m,m<k→r (a.getD (i+m) nv)≤r (b.getD j nv)):GL r a b (o++a.extract i (i+k)) (i+k) j:=by
 have h':Mg r o.toList ((a.extract i (i+k)).toList++a.toList.drop (i+k)) (b.toList.drop j) (a.toList++b.toList):=by rw[pL];exact h
 have:=h'.a fun x hx y hy=>by
  obtain⟨m,h1,h2,h3,rfl⟩:=fS hx;obtain⟨m',h4,h5,rfl⟩:=jZ hy;have:=l (m-i) (by omega)
  rw[show i+(m-i)=m by omega] at this
  exact Cn this (wK sb h4 h5)
 unfold GL;rw[Bw];exact this
theorem GL.eb (sa:a.toList.Pairwise (Le r))(h:GL r a b o i j)(hi:i<a.size)(l:∀ m,m<k→r (b.getD (j+m) nv)≤r (a.getD i nv)):GL r a b (o++b.extract j (j+k)) i (j+k):=by
 have h':Mg r o.toList (a.toList.drop i) ((b.extract j (j+k)).toList++b.toList.drop (j+k)) (a.toList++b.toList):=by rw[pL];exact h
 have:=h'.b fun x hx y hy=>by
  obtain⟨m,h1,h2,h3,rfl⟩:=fS hx;obtain⟨m',h4,h5,rfl⟩:=jZ hy;have:=l (m-j) (by omega)
  rw[show j+(m-j)=m by omega] at this
  exact Cn this (wK sa h4 h5)
 unfold GL;rw[Bw];exact this
theorem GL.fin (h:GL r a b o i j)(e:i=a.size∨j=b.size):Mo r (a.toList++b.toList) (o++a.extract i a.size++b.extract j b.size):=by
 refine⟨?_,?_⟩ <;> rw[Bw,Bw,gS,gS]
 ·exact h.pm
 ·rcases e with rfl|rfl
  ·rw[Gf (by simp),Dr];exact h.p2
  ·rw[Gf (l:=b.toList) (by simp),Dr];exact h.p1
theorem GL.last (h:GL r a b o i j)(e:i+1=a.size)(l:∀ x∈b.toList,Le r x (a.getD (a.size-1) nv)):Mo r (a.toList++b.toList) (o++b.extract j b.size++a.extract i a.size):=by
 have hi:i<a.size:=by omega
 have hd:a.toList.drop i=[a.getD i nv]:=by rw[fB hi,Gf (by simp;omega)]
 refine⟨?_,?_⟩ <;> rw[Bw,Bw,gS,gS]
 ·refine Hb ?_ h.pm
  rw[AQ,AQ];exact EG _ EH
 ·have p1:=h.p1
  rw[hd] at p1 ⊢;rw[AX] at p1 ⊢;refine⟨h.p2,Ir _ _,fun x hx y hy=>?_⟩;rcases AS.mp hx with hx|hx
  ·exact p1.2.2 x hx y hy
  ·cases Di.mp hy
   have:=l x (Jo hx);rw[show a.size-1=i by omega] at this
   exact this
end
theorem nB {p:Ah→Ao}:∀ (n:Ah),(∀ i j,i≤j→j<n→p j=true→p i=true)→∃ c,c≤n∧∀ i,i<n→p i=decide (i<c)
 |0,_=>⟨0,Aw _,fun i h=>by omega⟩
 |n+1,h=>by
  obtain⟨c,hc,e⟩:=nB n fun i j a b=>h i j a (by omega)
  by_cases q:p n=true
  ·refine⟨n+1,Aw _,fun i hi=>?_⟩
   rw[h i n (by omega) (by omega) q]
   simp[hi]
  ·refine⟨c,by omega,fun i hi=>?_⟩
   rcases OQ i n with l|l
   ·exact e i l
   ·have:i=n:=by omega
    subst this;have:¬ i<c:=by omega
    simp[this,q]
section
variable {M:Fl}{A:A8}{E:Ac→Ag→Prop}{s:Ag}{κ : Fg}{U:A6→Prop}{r:A6→Aj}
theorem qL {σ α:Type}{c:Prop}[IQ c]{x y:Kp σ Fb α}{Q:α→σ→Prop}{st:σ}(h1:c→wpS M A E s x Q st)(h2:¬ c→wpS M A E s y Q st):wpS M A E s (if c then x else y) Q st:=by
 by_cases h:c
 ·rw[AA h];exact h1 h
 ·rw[A0 h];exact h2 h
theorem QP (C:Cm M A s κ U r){key:A6}{arr:A4 A6}{base n hint:Ah}{Q:Ak Ah→CG→Prop}{st:CG}(hk:kindOf st=κ)(hh:hint<n)(hb:base+n≤arr.size)(hU:∀ i,i<n→U (arr.getD (base+i) nv))(hkU:U key)
  (sa:∀ i j,i≤j→j<n→r (arr.getD (base+i) nv)≤r (arr.getD (base+j) nv)) (h:∀ c,c≤n→(∀ i,i<c→r (arr.getD (base+i) nv)≤r key)→(∀ i,c≤i→i<n→r key<r (arr.getD (base+i) nv))→Q (Ab c) st):wpS M A E s (fL false key arr base n hint) Q st:=by
 obtain⟨c,hc,e⟩:=nB (p:=fun i=>!decide (r key<r (arr.getD (base+i) nv))) n fun i j a b q=>by
  have:=sa i j a b;simp only[EC,Ex] at q ⊢;omega
 refine bS C hk hh hb hU hkU hc (fun i hi=>by simpa using e i hi) (h c hc (fun i hi=>?_) fun i hi hn=>?_)
 ·have:=e i (by omega)
  simp only[hi,EF,EC,Ex] at this;omega
 ·have:=e i hn
  simp only[show ¬ i<c by omega,EL,Bool.not_eq_false',Bb] at this
  exact this
theorem QQ (C:Cm M A s κ U r){key:A6}{arr:A4 A6}{base n hint:Ah}{Q:Ak Ah→CG→Prop}{st:CG}(hk:kindOf st=κ)(hh:hint<n)(hb:base+n≤arr.size)(hU:∀ i,i<n→U (arr.getD (base+i) nv))(hkU:U key)
  (sa:∀ i j,i≤j→j<n→r (arr.getD (base+i) nv)≤r (arr.getD (base+j) nv)) (h:∀ c,c≤n→(∀ i,i<c→r (arr.getD (base+i) nv)<r key)→(∀ i,c≤i→i<n→r key≤r (arr.getD (base+i) nv))→Q (Ab c) st):wpS M A E s (fL true key arr base n hint) Q st:=by
 obtain⟨c,hc,e⟩:=nB (p:=fun i=>decide (r (arr.getD (base+i) nv)<r key)) n fun i j a b q=>by
  have:=sa i j a b;simp only[Bb] at q ⊢;omega
 refine bS C hk hh hb hU hkU hc (fun i hi=>by simpa using e i hi) (h c hc (fun i hi=>?_) fun i hi hn=>?_)
 ·have:=e i (by omega)
  simp only[hi,EF,Bb] at this;exact this
 ·have:=e i hn
  simp only[show ¬ i<c by omega,EL,Ex] at this
  omega
end
section
variable {prog:A5}{w:AO}{A:A8}{E:Ac→Ag→Prop}{s:Ag}{κ : Fg}{U:A6→Prop}{r:A6→Aj}
theorem dG (C:Cm (Ar prog w) A s κ U r){a b:A4 A6}{Q:A4 A6→CG→Prop}{st:CG}(hk:kindOf st=κ)(ua:∀ x∈a.toList,U x)(ub:∀ x∈b.toList,U x)(sa:a.toList.Pairwise (Le r))(sb:b.toList.Pairwise (Le r))
  (h:∀ m g,Mo r (a.toList++b.toList) m→Q m (yS st g)) (ha:0<a.size) (hb:0<b.size) (h0:r (b.getD 0 nv)≤r (a.getD 0 nv)) (h1:∀ x∈b.toList,Le r x (a.getD (a.size-1) nv)):wpS (Ar prog w) A E s (ZB a b) Q st:=by
 have G0:GL r a b #[] 0 0:=⟨by simpa using sa,by simpa using sb,by simp⟩
 have G1:=G0.pb sa hb fun _=>h0;refine Au (HC (DJ ⟨rfl,?_⟩));refine Au (qY hb ?_);dsimp only;refine qL (fun e=>A3 (h _ (IL st) (G1.fin (.inr (by simpa using e))))) fun e1=>?_
 refine qL (fun e=>A3 (h _ (IL st) (G1.last (by simpa using e) h1))) fun e2=>?_
 have e1:1<b.size:=by
  have:¬ 1=b.size:=by simpa using e1
  omega
 have e2:0+1<a.size:=by
  have:¬ 0+1=a.size:=by simpa using e2
  omega
 refine Au (Fv ?_);refine Au (Dw (Cu (I:=fun x c st'=>(∃ g,st'=yS st g)∧∃ o i j g,c=(none,o,i,j,g)∧GL r a b o i j∧i+1<a.size∧j<b.size∧x<i+j)
  (Q:=fun c st'=>(∃ g,st'=yS st g)∧∃ m,c.1=Ab m∧Mo r (a.toList++b.toList) m) ?_ ?_ ⟨⟨IL st,rfl⟩,_,0,1,_,rfl,G1,e2,e1,by omega⟩) ?_)
 ·rintro x c st' _ hx ⟨⟨g,rfl⟩,o,i,j,mg,rfl,G,hi,hj,hp⟩
  dsimp only;refine Au (Dw (Cu (I:=fun y c st'=>(∃ g,st'=yS st g)∧∃ o i' j' p q,c=(none,o,i',j',p,q)∧GL r a b o i' j'∧i'+1<a.size∧j'<b.size∧i+j+y≤i'+j')
   (Q:=fun c st'=>(∃ g,st'=yS st g)∧((∃ m,c.1=Ab m∧Mo r (a.toList++b.toList) m)∨∃ o i' j' p q,c=(none,o,i',j',p,q)∧GL r a b o i' j'∧i'+1<a.size∧j'<b.size∧x+1<i'+j')) ?_ ?_ ⟨⟨g,rfl⟩,o,i,j,0,0,rfl,G,hi,hj,by omega⟩) ?_)
  ·rintro y c st' _ hy ⟨⟨g,rfl⟩,o,i',j',p,q,rfl,G,hi,hj,hq⟩
   dsimp only;refine Au (qY hj (Au (qY (i:=i') (by omega) (Au (C.lt (ub _ (zN hj)) (ua _ (zN (i:=i') (by omega))) hk ?_)))))
   dsimp only;refine qL (fun l=>?_) fun l=>?_
   ·have l:r (b.getD j' nv)<r (a.getD i' nv):=by simpa using l
    have G2:=G.pb sa hj fun _=>Dz l;refine Au (qY hj ?_);refine qL (fun e=>?_) fun e=>?_
    ·exact A3 ⟨⟨g,rfl⟩,.inl ⟨_,rfl,G2.fin (.inr (by simpa using e))⟩⟩
    ·have e:¬ j'+1=b.size:=by simpa using e
     refine qL (fun _=>?_) fun _=>?_
     ·exact A3 ⟨⟨g,rfl⟩,.inr ⟨_,_,_,_,_,rfl,G2,hi,by omega,by omega⟩⟩
     ·exact A3 ⟨⟨g,rfl⟩,_,_,_,_,_,rfl,G2,hi,by omega,by omega⟩
   ·have l:¬ r (b.getD j' nv)<r (a.getD i' nv):=by simpa using l
    have G2:=G.pa sb (by omega) fun _=>Op.mp l
    refine Au (qY (i:=i') (by omega) ?_)
    refine qL (fun e=>?_) fun e=>?_
    ·exact A3 ⟨⟨g,rfl⟩,.inl ⟨_,rfl,G2.last (by simpa using e) h1⟩⟩
    ·have e:¬ i'+1+1=a.size:=by simpa using e
     refine qL (fun _=>?_) fun _=>?_
     ·exact A3 ⟨⟨g,rfl⟩,.inr ⟨_,_,_,_,_,rfl,G2,by omega,hj,by omega⟩⟩
     ·exact A3 ⟨⟨g,rfl⟩,_,_,_,_,_,rfl,G2,by omega,hj,by omega⟩
  ·rintro c st' ⟨z,o,i',j',p,q,rfl,G,hi,hj,hq⟩
   exact⟨z,.inr ⟨_,_,_,_,_,rfl,G,hi,hj,by omega⟩⟩
  ·rintro c st' ⟨⟨g,rfl⟩,⟨m,hc,hm⟩|⟨o,i',j',p,q,rfl,G,hi,hj,hq⟩⟩
   ·obtain⟨c0,c1⟩:=c
    cases hc;exact A3 ⟨⟨g,rfl⟩,m,rfl,hm⟩
   dsimp only;refine Au (HC (DJ ⟨rfl,?_⟩));refine Au (Dw (Cu (I:=fun y c st'=>(∃ g,st'=yS st g)∧∃ o i' j' p q t,c=(none,o,i',j',p,q,t)∧GL r a b o i' j'∧i'+1<a.size∧j'<b.size∧x+1<i'+j')
    (Q:=fun c st'=>(∃ g,st'=yS st g)∧((∃ m,c.1=Ab m∧Mo r (a.toList++b.toList) m)∨∃ o i' j' p q t,c=(none,o,i',j',p,q,t)∧GL r a b o i' j'∧i'+1<a.size∧j'<b.size∧x+1<i'+j')) ?_ ?_ ⟨⟨g,rfl⟩,o,i',j',_,_,_,rfl,G,hi,hj,hq⟩) ?_)
   ·rintro y c st' _ hy ⟨⟨g,rfl⟩,o,i,j,p,q,t,rfl,G,hi,hj,hq⟩
    dsimp only;refine qL (fun _=>?_) fun _=>?_
    all_goals
     refine Au (DZ ?_);refine Au (qY hj ?_);refine Au (QP C hk (by omega) (by omega) (fun i hi=>ua _ (zN (by omega))) (ub _ (zN hj)) (fun i j a b=>wK sa (by omega) (by omega)) fun k k1 k2 k3=>?_)
     dsimp only;apply qL
     case' h1 =>
      intro kp;have G2:=G.ea sb hj k2;refine qL (fun e=>A3 ⟨⟨_,rfl⟩,.inl ⟨_,rfl,G2.last (by simpa using e) h1⟩⟩) fun e3=>?_
      refine qL (fun e=>A3 ⟨⟨_,rfl⟩,.inl ⟨_,rfl,G2.fin (.inl (by simpa using e))⟩⟩) fun e4=>?_
      have e3:¬ i+k+1=a.size:=by simpa using e3
      have e4:¬ i+k=a.size:=by simpa using e4
      have hl:i+k+1<a.size:=by omega
      have hc:=k3 k (Aw _) (by omega)
      have hq:x+1<i+k+j:=by omega
     case' h2 =>
      intro kp;have G2:=G;have hl:=hi;have hc:r (b.getD j nv)<r (a.getD i nv):=k3 0 (by omega) (by omega)
     all_goals
      refine Au (qY hj ?_);have G3:=G2.pb sa hj fun _=>Dz hc;refine qL (fun e=>A3 ⟨⟨_,rfl⟩,.inl ⟨_,rfl,G3.fin (.inr (by simpa using e))⟩⟩) fun e5=>?_
      have e5:¬ j+1=b.size:=by simpa using e5
      refine Au (qY (EI hl) ?_);refine Au (QQ C hk (by omega) (by omega) (fun i hi=>ub _ (zN (by omega))) (ua _ (zN (EI hl))) (fun i j a b=>wK sb (by omega) (by omega)) fun m m1 m2 m3=>?_)
      dsimp only;apply qL
      case' h1 =>
       intro mp;have G4:=G3.eb sa (EI hl) fun i hi=>Dz (m2 i hi);refine qL (fun e=>A3 ⟨⟨_,rfl⟩,.inl ⟨_,rfl,G4.fin (.inr (by simpa using e))⟩⟩) fun e6=>?_
       have e6:¬ j+1+m=b.size:=by simpa using e6
       have hj4:j+1+m<b.size:=by omega
       have hc4:=m3 m (Aw _) (by omega)
      case' h2 =>
       intro mp;have G4:=G3;have hj4:j+1<b.size:=by omega
       have hc4:=m3 0 (by omega) (by omega)
      all_goals
       refine Au (qY (EI hl) ?_);have G5:=G4.pa sb (EI hl) fun _=>hc4;refine qL (fun e=>A3 ⟨⟨_,rfl⟩,.inl ⟨_,rfl,G5.last (by simpa using e) h1⟩⟩) fun e7=>?_
       simp only[EW] at e7;exact qL (fun _=>A3 ⟨⟨_,rfl⟩,.inr ⟨_,_,_,_,_,_,rfl,G5,by omega,by omega,by omega⟩⟩) fun _=>A3 ⟨⟨_,rfl⟩,_,_,_,_,_,_,rfl,G5,by omega,by omega,by omega⟩
   ·rintro c st' ⟨z,o,i',j',p,q,t,rfl,G,hi,hj,hq⟩
    exact⟨z,.inr ⟨_,_,_,_,_,_,rfl,G,hi,hj,by omega⟩⟩
   ·rintro c st' ⟨⟨g,rfl⟩,⟨m,hc,hm⟩|⟨o,i',j',p,q,t,rfl,G,hi,hj,hq⟩⟩
    ·obtain⟨c0,c1⟩:=c
     cases hc;exact A3 ⟨⟨g,rfl⟩,m,rfl,hm⟩
    dsimp only;refine Au (DZ ?_);exact A3 ⟨⟨_,rfl⟩,_,_,_,_,rfl,G,hi,hj,by omega⟩
 ·rintro c st' ⟨z,o,i',j',p,rfl,G,hi,hj,hq⟩
  exfalso
  omega
 ·rintro c st' ⟨⟨g,rfl⟩,m,hc,hm⟩
  obtain⟨c0,c1⟩:=c;cases hc;exact A3 (h m g hm)
end
theorem m8 {a:A4 A6}{n:Ah}(h:0<n)(hn:n≤a.size):a.toList.take n=a.toList.take (n-1)++[a.getD (n-1) nv]:=by
 obtain⟨m,rfl⟩:∃ m,n=m+1:=⟨n-1,by omega⟩
 rw[Nat.add_sub_cancel,List.take_add_one];have hm:m<a.size:=by omega
 simp[DY,hm]
theorem nN {a:A4 A6}{i n:Ah}(h:i≤n):a.toList.take i++(a.extract i n).toList=a.toList.take n:=by
 rw[Ei,DD]
 conv=>rhs;rw[show n=i+(n-i) by omega,List.take_add]
theorem jS {a:A4 A6}{n:Ah}:(a.extract 0 n).toList=a.toList.take n:=by
 rw[Ei,DD];simp
theorem k6 {a:A4 A6}{i n:Ah}{x:A6}(hn:i≤n)(h:x∈(a.extract i n).toList):∃ j,i≤j∧j<n∧j<a.size∧x=a.getD j nv:=by
 obtain⟨k,rfl⟩:∃ k,n=i+k:=⟨n-i,by omega⟩
 exact fS h
def GH (r:A6→Aj)(a b o:A4 A6)(i j:Ah):Prop:=Mh r (a.toList.take i) (b.toList.take j) o.toList.reverse (a.toList++b.toList)
section
variable {r:A6→Aj}{a b o:A4 A6}{i j k:Ah}
theorem GH.pa (sb:b.toList.Pairwise (Le r))(h:GH r a b o i j)(h1:0<i)(h2:i≤a.size)(hj:j≤b.size)(l:0<j→r (b.getD (j-1) nv)≤r (a.getD (i-1) nv)):GH r a b (o.push (a.getD (i-1) nv)) (i-1) j:=by
 have h':Mh r (a.toList.take (i-1)++[a.getD (i-1) nv]) (b.toList.take j) o.toList.reverse (a.toList++b.toList):=by rw[← m8 h1 h2];exact h
 have:=h'.a fun x hx y hy=>by
  cases Di.mp hy;obtain⟨m,q1,q2,rfl⟩:=k7 hx;exact Cn (wK sb (by omega) (by omega)) (l (by omega))
 unfold GH;rw[Eg,EZ];exact this
theorem GH.pb (sa:a.toList.Pairwise (Le r))(h:GH r a b o i j)(h1:0<j)(h2:j≤b.size)(hi:i≤a.size)(l:0<i→r (a.getD (i-1) nv)≤r (b.getD (j-1) nv)):GH r a b (o.push (b.getD (j-1) nv)) i (j-1):=by
 have h':Mh r (a.toList.take i) (b.toList.take (j-1)++[b.getD (j-1) nv]) o.toList.reverse (a.toList++b.toList):=by rw[← m8 h1 h2];exact h
 have:=h'.b fun x hx y hy=>by
  cases Di.mp hy;obtain⟨m,q1,q2,rfl⟩:=k7 hx;exact Cn (wK sa (by omega) (by omega)) (l (by omega))
 unfold GH;rw[Eg,EZ];exact this
theorem GH.ea (sb:b.toList.Pairwise (Le r))(h:GH r a b o i j)(hk:k≤i)(hj:j≤b.size)(l:0<j→∀ m,k≤m→m<i→m<a.size→r (b.getD (j-1) nv)≤r (a.getD m nv)):GH r a b (o++(a.extract k i).reverse) k j:=by
 have h':Mh r (a.toList.take k++(a.extract k i).toList) (b.toList.take j) o.toList.reverse (a.toList++b.toList):=by rw[nN hk];exact h
 have:=h'.a fun x hx y hy=>by
  obtain⟨m,q1,q2,rfl⟩:=k7 hx;obtain⟨m',q3,q4,q5,rfl⟩:=k6 hk hy;exact Cn (wK sb (by omega) (by omega)) (l (by omega) m' q3 q4 q5)
 unfold GH;rw[Bw,EM,EZ,Jp];exact this
theorem GH.eb (sa:a.toList.Pairwise (Le r))(h:GH r a b o i j)(hk:k≤j)(hi:i≤a.size)(l:0<i→∀ m,k≤m→m<j→m<b.size→r (a.getD (i-1) nv)≤r (b.getD m nv)):GH r a b (o++(b.extract k j).reverse) i k:=by
 have h':Mh r (a.toList.take i) (b.toList.take k++(b.extract k j).toList) o.toList.reverse (a.toList++b.toList):=by rw[nN hk];exact h
 have:=h'.b fun x hx y hy=>by
  obtain⟨m,q1,q2,rfl⟩:=k7 hx;obtain⟨m',q3,q4,q5,rfl⟩:=k6 hk hy;exact Cn (wK sa (by omega) (by omega)) (l (by omega) m' q3 q4 q5)
 unfold GH;rw[Bw,EM,EZ,Jp];exact this
theorem GH.fin (h:GH r a b o i j)(e:i=0∨j=0):Mo r (a.toList++b.toList) (a.extract 0 i++b.extract 0 j++o.reverse):=by
 refine⟨?_,?_⟩ <;> rw[Bw,Bw,jS,jS,EM]
 ·exact h.pm
 ·rcases e with rfl|rfl
  ·rw[Ou,Dv];exact h.p2
  ·rw[Ou,Dr];exact h.p1
theorem GH.first (h:GH r a b o i j)(e:j=1)(hb:0<b.size)(l:∀ x∈a.toList,Le r (b.getD 0 nv) x):Mo r (a.toList++b.toList) (b.extract 0 j++a.extract 0 i++o.reverse):=by
 subst e;have hd:b.toList.take 1=[b.getD 0 nv]:=by rw[m8 (by omega) (by omega)];rfl
 refine⟨?_,?_⟩ <;> rw[Bw,Bw,jS,jS,EM]
 ·refine Hb ?_ h.pm
  exact E8 _ EH
 ·have p2:=h.p2
  rw[hd] at p2 ⊢;rw[AQ];rw[AX] at p2 ⊢;refine⟨p2.1,h.p1,fun x hx y hy=>?_⟩;rcases AS.mp hy with hy|hy
  ·cases Di.mp hx
   exact l y (Jq hy)
  ·exact p2.2.2 x hx y hy
end
section
variable {prog:A5}{w:AO}{A:A8}{E:Ac→Ag→Prop}{s:Ag}{κ : Fg}{U:A6→Prop}{r:A6→Aj}
theorem dF (C:Cm (Ar prog w) A s κ U r){a b:A4 A6}{Q:A4 A6→CG→Prop}{st:CG}(hk:kindOf st=κ)(ua:∀ x∈a.toList,U x)(ub:∀ x∈b.toList,U x)(sa:a.toList.Pairwise (Le r))(sb:b.toList.Pairwise (Le r))
  (h:∀ m g,Mo r (a.toList++b.toList) m→Q m (yS st g)) (ha:0<a.size) (hb:0<b.size) (h0:∀ x∈a.toList,Le r (b.getD 0 nv) x) (h1:r (b.getD (b.size-1) nv)≤r (a.getD (a.size-1) nv)):wpS (Ar prog w) A E s (Z9 a b) Q st:=by
 have G0:GH r a b #[] a.size b.size:=by
  unfold GH;rw[E9 (by simp),E9 (by simp)]
  exact⟨by simpa using sa,by simpa using sb,by simp⟩
 have G1:=G0.pa sb ha (Aw _) (Aw _) fun _=>h1;refine Au (HC (DJ ⟨rfl,?_⟩));refine Au (qY (i:=a.size-1) (by omega) ?_)
 dsimp only;refine qL (fun e=>A3 (h _ (IL st) (G1.fin (.inl (by simpa using e))))) fun e1=>?_
 refine qL (fun e=>A3 (h _ (IL st) (G1.first (by simpa using e) hb h0))) fun e2=>?_
 have e1:¬ a.size-1=0:=by simpa using e1
 have e2:¬ b.size=1:=by simpa using e2
 refine Au (Fv ?_);refine Au (Dw (Cu (I:=fun x c st'=>(∃ g,st'=yS st g)∧∃ o i j g,c=(none,i,j,o,g)∧GH r a b o i j∧0<i∧i≤a.size∧1<j∧j≤b.size∧x+i+j<a.size+b.size)
  (Q:=fun c st'=>(∃ g,st'=yS st g)∧∃ m,c.1=Ab m∧Mo r (a.toList++b.toList) m) ?_ ?_ ⟨⟨IL st,rfl⟩,_,a.size-1,b.size,_,rfl,G1,by omega,by omega,by omega,by omega,by omega⟩) ?_)
 ·rintro x c st' _ hx ⟨⟨g,rfl⟩,o,i,j,mg,rfl,G,hi,hi2,hj,hj2,hp⟩
  dsimp only;refine Au (Dw (Cu (I:=fun y c st'=>(∃ g,st'=yS st g)∧∃ o i' j' p q,c=(none,i',j',o,p,q)∧GH r a b o i' j'∧0<i'∧i'≤a.size∧1<j'∧j'≤b.size∧i'+j'+y≤i+j)
   (Q:=fun c st'=>(∃ g,st'=yS st g)∧((∃ m,c.1=Ab m∧Mo r (a.toList++b.toList) m)∨∃ o i' j' p q,c=(none,i',j',o,p,q)∧GH r a b o i' j'∧0<i'∧i'≤a.size∧1<j'∧j'≤b.size∧x+1+i'+j'<a.size+b.size)) ?_ ?_ ⟨⟨g,rfl⟩,o,i,j,0,0,rfl,G,hi,hi2,hj,hj2,by omega⟩) ?_)
  ·rintro y c st' _ hy ⟨⟨g,rfl⟩,o,i',j',p,q,rfl,G,hi,hi2,hj,hj2,hq⟩
   dsimp only;refine Au (qY (i:=j'-1) (by omega) (Au (qY (i:=i'-1) (by omega) (Au (C.lt (ub _ (zN (i:=j'-1) (by omega))) (ua _ (zN (i:=i'-1) (by omega))) hk ?_)))))
   dsimp only;refine qL (fun l=>?_) fun l=>?_
   ·have l:r (b.getD (j'-1) nv)<r (a.getD (i'-1) nv):=by simpa using l
    have G2:=G.pa sb hi hi2 hj2 fun _=>Dz l;refine Au (qY (i:=i'-1) (by omega) ?_)
    refine qL (fun e=>A3 ⟨⟨g,rfl⟩,.inl ⟨_,rfl,G2.fin (.inl (by simpa using e))⟩⟩) fun e=>?_
    have e:¬ i'-1=0:=by simpa using e
    exact qL (fun _=>A3 ⟨⟨g,rfl⟩,.inr ⟨_,_,_,_,_,rfl,G2,by omega,by omega,hj,hj2,by omega⟩⟩) fun _=>A3 ⟨⟨g,rfl⟩,_,_,_,_,_,rfl,G2,by omega,by omega,hj,hj2,by omega⟩
   ·have l:¬ r (b.getD (j'-1) nv)<r (a.getD (i'-1) nv):=by simpa using l
    have G2:=G.pb sa (by omega) hj2 hi2 fun _=>Op.mp l
    refine Au (qY (i:=j'-1) (by omega) ?_)
    refine qL (fun e=>A3 ⟨⟨g,rfl⟩,.inl ⟨_,rfl,G2.first (by simpa using e) hb h0⟩⟩) fun e=>?_
    have e:¬ j'-1=1:=by simpa using e
    exact qL (fun _=>A3 ⟨⟨g,rfl⟩,.inr ⟨_,_,_,_,_,rfl,G2,hi,hi2,by omega,by omega,by omega⟩⟩) fun _=>A3 ⟨⟨g,rfl⟩,_,_,_,_,_,rfl,G2,hi,hi2,by omega,by omega,by omega⟩
  ·rintro c st' ⟨z,o,i',j',p,q,rfl,G,hi,hi2,hj,hj2,hq⟩
   exact⟨z,.inr ⟨_,_,_,_,_,rfl,G,hi,hi2,hj,hj2,by omega⟩⟩
  ·rintro c st' ⟨⟨g,rfl⟩,⟨m,hc,hm⟩|⟨o,i',j',p,q,rfl,G,hi,hi2,hj,hj2,hq⟩⟩
   ·obtain⟨c0,c1⟩:=c
    cases hc;exact A3 ⟨⟨g,rfl⟩,m,rfl,hm⟩
   dsimp only;refine Au (HC (DJ ⟨rfl,?_⟩));refine Au (Dw (Cu (I:=fun y c st'=>(∃ g,st'=yS st g)∧∃ o i' j' p q t,c=(none,i',j',o,p,q,t)∧GH r a b o i' j'∧0<i'∧i'≤a.size∧1<j'∧j'≤b.size∧x+1+i'+j'<a.size+b.size)
    (Q:=fun c st'=>(∃ g,st'=yS st g)∧((∃ m,c.1=Ab m∧Mo r (a.toList++b.toList) m)∨∃ o i' j' p q t,c=(none,i',j',o,p,q,t)∧GH r a b o i' j'∧0<i'∧i'≤a.size∧1<j'∧j'≤b.size∧x+1+i'+j'<a.size+b.size)) ?_ ?_ ⟨⟨g,rfl⟩,o,i',j',_,_,_,rfl,G,hi,hi2,hj,hj2,hq⟩) ?_)
   ·rintro y c st' _ hy ⟨⟨g,rfl⟩,o,i,j,p,q,t,rfl,G,hi,hi2,hj,hj2,hq⟩
    dsimp only;refine qL (fun _=>?_) fun _=>?_
    all_goals
     refine Au (DZ ?_);refine Au (qY (i:=j-1) (by omega) ?_)
     refine Au (QP C hk (by omega) (by omega) (fun i hi=>ua _ (zN (by omega))) (ub _ (zN (i:=j-1) (by omega))) (fun i j a b=>wK sa (by omega) (by omega)) fun k k1 k2 k3=>?_)
     simp only[Ln] at k2 k3;dsimp only;apply qL
     case' h1 =>
      intro kp;have G2:=G.ea sb k1 hj2 fun _ m q1 q2 _=>Dz (k3 m q1 q2);refine qL (fun e=>A3 ⟨⟨_,rfl⟩,.inl ⟨_,rfl,G2.fin (.inl (by simpa using e))⟩⟩) fun e3=>?_
      have e3:¬ k=0:=by simpa using e3
      have hl:0<k:=by omega
      have hl2:k≤a.size:=by omega
      have hc:=k2 (k-1) (by omega)
      have hq:x+1+k+j<a.size+b.size:=by omega
     case' h2 =>
      intro kp;have G2:=G;have hl:=hi;have hl2:=hi2;have hc:=k2 (i-1) (by omega)
     all_goals
      refine Au (qY (i:=j-1) (by omega) ?_)
      have G3:=G2.pb sa (by omega) hj2 hl2 fun _=>hc
      refine qL (fun e=>A3 ⟨⟨_,rfl⟩,.inl ⟨_,rfl,G3.first (by simpa using e) hb h0⟩⟩) fun e5=>?_
      have e5:¬ j-1=1:=by simpa using e5
      refine Au (qY (AI (Oq hl Nk) hl2) ?_);refine Au (QQ C hk (by omega) (by omega) (fun i hi=>ub _ (zN (by omega))) (ua _ (zN (AI (Oq hl Nk) hl2))) (fun i j a b=>wK sb (by omega) (by omega)) fun m m1 m2 m3=>?_)
      simp only[Ln] at m2 m3;dsimp only;apply qL
      case' h1 =>
       intro mp;have G4:=G3.eb sa m1 hl2 fun _ m q1 q2 _=>m3 m q1 q2;refine qL (fun e=>A3 ⟨⟨_,rfl⟩,.inl ⟨_,rfl,G4.first (by simpa using e) hb h0⟩⟩) fun e6=>?_
       refine qL (fun e=>A3 ⟨⟨_,rfl⟩,.inl ⟨_,rfl,G4.fin (.inr (by simpa using e))⟩⟩) fun e7=>?_
       have e6:¬ m=1:=by simpa using e6
       have e7:¬ m=0:=by simpa using e7
       have hj4:1<m:=by omega
       have hj5:m≤b.size:=by omega
       have hc4:=Dz (m2 (m-1) (by omega))
      case' h2 =>
       intro mp;have G4:=G3;have hj4:1<j-1:=by omega
       have hj5:j-1≤b.size:=by omega
       have hc4:=Dz (m2 (j-1-1) (by omega))
      all_goals
       refine Au (qY (AI (Oq hl Nk) hl2) ?_);have G5:=G4.pa sb hl hl2 hj5 fun _=>hc4;refine qL (fun e=>A3 ⟨⟨_,rfl⟩,.inl ⟨_,rfl,G5.fin (.inl (by simpa using e))⟩⟩) fun e7=>?_
       simp only[EW] at e7;exact qL (fun _=>A3 ⟨⟨_,rfl⟩,.inr ⟨_,_,_,_,_,_,rfl,G5,by omega,by omega,by omega,by omega,by omega⟩⟩) fun _=>A3 ⟨⟨_,rfl⟩,_,_,_,_,_,_,rfl,G5,by omega,by omega,by omega,by omega,by omega⟩
   ·rintro c st' ⟨z,o,i',j',p,q,t,rfl,G,hi,hi2,hj,hj2,hq⟩
    exact⟨z,.inr ⟨_,_,_,_,_,_,rfl,G,hi,hi2,hj,hj2,by omega⟩⟩
   ·rintro c st' ⟨⟨g,rfl⟩,⟨m,hc,hm⟩|⟨o,i',j',p,q,t,rfl,G,hi,hi2,hj,hj2,hq⟩⟩
    ·obtain⟨c0,c1⟩:=c
     cases hc;exact A3 ⟨⟨g,rfl⟩,m,rfl,hm⟩
    dsimp only;refine Au (DZ ?_);exact A3 ⟨⟨_,rfl⟩,_,_,_,_,rfl,G,hi,hi2,hj,hj2,by omega⟩
 ·rintro c st' ⟨z,o,i',j',p,rfl,G,hi,hi2,hj,hj2,hq⟩
  exfalso
  omega
 ·rintro c st' ⟨⟨g,rfl⟩,m,hc,hm⟩
  obtain⟨c0,c1⟩:=c;cases hc;exact A3 (h m g hm)
end
theorem h9:∀ (l:Aa A6) (arr:A4 A6) (o d:Ah),o+d+l.length≤arr.size→∀ k,((l.zipIdx d).foldl (fun a p=>a.setIfInBounds (o+p.2) p.1) arr)[k]? = if o+d≤k∧k<o+d+l.length then l[k-(o+d)]? else arr[k]?
 |[],arr,o,d,h,k=>by
  rw[A0 (by simp only[Bn];omega)];rfl
 |x::l,arr,o,d,h,k=>by
  rw[AH] at h;rw[HY,Eb,h9 l _ o (d+1) (by rw[Array.size_setIfInBounds];omega) k,AH]
  by_cases h1:k=o+d
  ·subst h1
   rw[A0 (by omega),AA (by omega),Lo,Array.getElem?_setIfInBounds_self_of_lt (by omega)]
   rfl
  ·by_cases h2:o+(d+1)≤k∧k<o+(d+1)+l.length
   ·rw[AA h2,AA (by omega),show k-(o+d)=(k-(o+(d+1)))+1 by omega,Ey]
   ·rw[A0 h2,A0 (by omega),Array.getElem?_setIfInBounds_ne (by omega)]
def wb (arr:A4 A6)(o:Ah)(m:A4 A6):A4 A6:=m.toList.zipIdx.foldl (fun a p=>a.setIfInBounds (o+p.2) p.1) arr
theorem UQ {arr m:A4 A6}{o:Ah}(h:o+m.size≤arr.size)(k:Ah):(wb arr o m).getD k nv=if o≤k∧k<o+m.size then m.getD (k-o) nv else arr.getD k nv:=by
 have e:=h9 m.toList arr o 0 (by simpa using h) k
 simp only[Lp,AU,CH] at e;rw[Cp,Cp,Cp];unfold wb;rw[e]
 split <;> rfl
theorem UR {arr m:A4 A6}{o:Ah}(h:o+m.size≤arr.size):(wb arr o m).toList=arr.toList.take o++(m.toList++arr.toList.drop (o+m.size)):=by
 apply Ml;intro k;have e:=h9 m.toList arr o 0 (by simpa using h) k
 simp only[Lp,AU,CH] at e;unfold wb;rw[CH,e];have lt:(arr.toList.take o).length=o:=by rw[DQ,AU];omega
 by_cases h1:k<o
 ·rw[A0 (by omega),AG (by omega),HN h1,CH]
 ·rw[Cd (by omega),lt]
  by_cases h2:k<o+m.size
  ·rw[AA (by omega),AG (by rw[AU];omega),CH]
  ·rw[A0 (by omega),Cd (by rw[AU];omega),List.getElem?_drop,AU,CH]
   congr 1
   omega
theorem US {arr m:A4 A6}{o n:Ah}(h:o+n≤arr.size)(p:m.toList.Perm (arr.extract o (o+n)).toList):(wb arr o m).toList.Perm arr.toList:=by
 have hm:m.size=n:=by
  have:=p.length_eq;rw[AU,AU,DU] at this;omega
 rw[UR (by omega),hm]
 have e:arr.toList=arr.toList.take o++((arr.extract o (o+n)).toList++arr.toList.drop (o+n)):=by rw[pL,Go]
 conv=>rhs;rw[e]
 exact EG _ (E8 _ p)
def Seg (r:A6→Aj)(a:A4 A6)(lo n:Ah):Prop:=∀ i j,lo≤i→i≤j→j<lo+n→r (a.getD i nv)≤r (a.getD j nv)
theorem r9 {r:A6→Aj}{a:A4 A6}{lo n:Ah}(h:Seg r a lo n){i k:Ah}(h1:lo≤i)(h2:i+k≤lo+n)(h3:i+k≤a.size):(a.extract i (i+k)).toList.Pairwise (Le r):=by
 rw[EY];intro x y hx hy l;have hx':x<k:=by rw[AU,DU] at hx;omega
 have hy':y<k:=by rw[AU,DU] at hy;omega
 have e:=h (i+x) (i+y) (by omega) (by omega) (by omega)
 have q1:i+x<a.size:=by omega
 have q2:i+y<a.size:=by omega
 simpa [DY,q1,q2,Le] using e
theorem nM {a:A4 A6}{i k m:Ah}(h:m<k)(h3:i+k≤a.size):(a.extract i (i+k)).getD m nv=a.getD (i+m) nv:=by
 have q1:i+m<a.size:=by omega
 have q2:m<(a.extract i (i+k)).size:=by rw[DU];omega
 have q3:m<min (i+k) a.size-i:=by omega
 simp[DY,q1,q3]
theorem QM {a:A4 A6}{i j k:Ah}(h1:i≤j)(h2:j≤k):(a.extract i j).toList++(a.extract j k).toList=(a.extract i k).toList:=by
 rw[← Bw,Array.extract_append_extract]
 congr 2 <;> omega
section
variable {prog:A5}{w:AO}{A:A8}{E:Ac→Ag→Prop}{s:Ag}{κ : Fg}{U:A6→Prop}{r:A6→Aj}
theorem UT {M:Fl}{σ : Type}{Q:PUnit→σ→Prop}{st st':σ}(h:Q ⟨⟩ st'):wpS M A E s (set st':Kp σ Fb PUnit) Q st:=by
 unfold wpS;rw[StateT.run_set];exact Aq ⟨rfl,h⟩
theorem dE (C:Cm (Ar prog w) A s κ U r){i sa na pw nb pz:Ah}{Q:Ao→CG→Prop}{arr:A4 A6}{pd:A4 (Ah × Ah × Ah)}{g:Ah}(ua:∀ x∈arr.toList,U x)(e1:pd[i]? = Ab (sa,na,pw))(e2:pd[i+1]? = Ab (sa+na,nb,pz))(p1:0<na)(p2:0<nb)(hz:sa+na+nb≤arr.size)
  (s1:Seg r arr sa na) (s2:Seg r arr (sa+na) nb)
  (h:∀ arr' g,arr'.toList.Perm arr.toList→(∀ k,k<sa∨sa+na+nb≤k→arr'.getD k nv=arr.getD k nv)→Seg r arr' sa (na+nb)→Q true (Bc κ arr' ((pd.setIfInBounds i (sa,na+nb,pw)).eraseIdxIfInBounds (i+1)) g none)) :
  wpS (Ar prog w) A E s (mergeAt' i) Q (Bc κ arr pd g none):=by
 refine Au (Fv ?_);dsimp only;rw[e1,e2];dsimp only;refine Au (UT ?_);refine Au (qY (i:=sa+na) (by omega) ?_)
 refine Au (QP C rfl (by omega) (by omega) (fun i hi=>ua _ (zN (by omega))) (ua _ (zN (by omega))) (fun i j a b=>s1 _ _ (by omega) (by omega) (by omega)) fun k k1 k2 k3=>?_)
 dsimp only;refine qL (fun e=>A3 (h arr g (Hr _) (fun _ _=>rfl) fun i j a b c=>?_)) fun e=>?_
 ·have e:na-k=0:=by simpa using e
  by_cases q1:j<sa+na
  ·exact s1 i j a b q1
  ·by_cases q2:sa+na≤i
   ·exact s2 i j q2 b (by omega)
   ·have:=k2 (i-sa) (by omega)
    rw[show sa+(i-sa)=i by omega] at this
    exact Cn this (s2 _ _ (Aw _) (by omega) (by omega))
 have e:¬ na-k=0:=by simpa using e
 refine Au (qY (i:=sa+k+(na-k)-1) (by omega) ?_)
 refine Au (QQ C rfl (by omega) (by omega) (fun i hi=>ua _ (zN (by omega))) (ua _ (zN (by omega))) (fun i j a b=>s2 _ _ (by omega) (by omega) (by omega)) fun m m1 m2 m3=>?_)
 dsimp only;rw[show sa+k+(na-k)-1=sa+na-1 by omega] at m2 m3
 have hk3:=k3 k (Aw _) (by omega)
 refine qL (fun e=>?_) fun e'=>?_
 ·exfalso
  have e:m=0:=by simpa using e
  subst e;have q1:=m3 0 (Aw _) p2;have q2:=s1 (sa+k) (sa+na-1) (by omega) (by omega) (by omega)
  rw[Lp] at q1;omega
 have e':¬ m=0:=by simpa using e'
 have ex:arr.extract (sa+k) (sa+na)=arr.extract (sa+k) (sa+k+(na-k)):=by rw[show sa+k+(na-k)=sa+na by omega]
 have zx:(arr.extract (sa+k) (sa+na)).size=na-k:=by rw[DU];omega
 have zy:(arr.extract (sa+na) (sa+na+m)).size=m:=by rw[DU];omega
 have gx:∀ i,i<na-k→(arr.extract (sa+k) (sa+na)).getD i nv=arr.getD (sa+k+i) nv:=fun i hi=>by rw[ex];exact nM hi (by omega)
 have gy:∀ i,i<m→(arr.extract (sa+na) (sa+na+m)).getD i nv=arr.getD (sa+na+i) nv:=fun i hi=>nM hi (by omega)
 have px:(arr.extract (sa+k) (sa+na)).toList.Pairwise (Le r):=by rw[ex];exact r9 s1 (by omega) (by omega) (by omega)
 have py:(arr.extract (sa+na) (sa+na+m)).toList.Pairwise (Le r):=r9 s2 (by omega) (by omega) (by omega)
 have mx:∀ x∈(arr.extract (sa+k) (sa+na)).toList,∃ j,sa+k≤j∧j<sa+na∧x=arr.getD j nv:=fun x hx=>by
  obtain⟨j,q1,q2,q3,q4⟩:=k6 (by omega) hx
  exact⟨j,q1,q2,q4⟩
 have my:∀ x∈(arr.extract (sa+na) (sa+na+m)).toList,∃ j,sa+na≤j∧j<sa+na+m∧x=arr.getD j nv:=fun x hx=>by
  obtain⟨j,q1,q2,q3,q4⟩:=k6 (by omega) hx
  exact⟨j,q1,q2,q4⟩
 have lox:∀ x∈(arr.extract (sa+k) (sa+na)).toList,r (arr.getD (sa+na) nv)≤r x∧r x≤r (arr.getD (sa+na-1) nv):=fun x hx=>by
  obtain⟨j,q1,q2,rfl⟩:=mx x hx;have:=s1 (sa+k) j (by omega) q1 q2
  exact⟨by omega,s1 j _ (by omega) (by omega) (by omega)⟩
 have loy:∀ x∈(arr.extract (sa+na) (sa+na+m)).toList,r (arr.getD (sa+na) nv)≤r x∧r x≤r (arr.getD (sa+na-1) nv):=fun x hx=>by
  obtain⟨j,q1,q2,rfl⟩:=my x hx;have:=m2 (j-(sa+na)) (by omega)
  rw[show sa+na+(j-(sa+na))=j by omega] at this
  exact⟨s2 _ _ (Aw _) q1 (by omega),by omega⟩
 have fin:∀ mg g',Mo r ((arr.extract (sa+k) (sa+na)).toList++(arr.extract (sa+na) (sa+na+m)).toList) mg→Q true (Bc κ (wb arr (sa+k) mg) ((pd.setIfInBounds i (sa,na+nb,pw)).eraseIdxIfInBounds (i+1)) g' none):=by
  intro mg g' M;have ej:(arr.extract (sa+k) (sa+na)).toList++(arr.extract (sa+na) (sa+na+m)).toList=(arr.extract (sa+k) (sa+k+(na-k+m))).toList:=by
   rw[QM (by omega) (by omega),show sa+k+(na-k+m)=sa+na+m by omega]
  have hm:mg.size=na-k+m:=by
   have:=M.pm.length_eq;rw[AW,AU,AU,AU,zx,zy] at this;exact this
  have gd:=fun j=>UQ (arr:=arr) (m:=mg) (o:=sa+k) (by omega) j
  refine h _ g' (US (n:=na-k+m) (by omega) (ej▸M.pm)) (fun j hj=>?_) fun i j a b c=>?_
  ·rw[gd,A0 (by omega)]
  ·have bd:∀ j,sa+k≤j→j<sa+na+m→r (arr.getD (sa+na) nv)≤r (mg.getD (j-(sa+k)) nv)∧r (mg.getD (j-(sa+k)) nv)≤r (arr.getD (sa+na-1) nv):=fun j h1 h2=>by
    have:=M.pm.mem_iff.mp (zN (a:=mg) (i:=j-(sa+k)) (by omega))
    rcases AS.mp this with q|q
    ·exact lox _ q
    ·exact loy _ q
   rw[gd,gd,hm];by_cases i1:i<sa+k
   ·rw[A0 (by omega)]
    have u:=k2 (i-sa) (by omega)
    rw[show sa+(i-sa)=i by omega] at u
    by_cases j1:j<sa+k
    ·rw[A0 (by omega)];exact s1 i j a b (by omega)
    ·by_cases j2:j<sa+na+m
     ·rw[AA (by omega)];exact Cn u (bd j (by omega) j2).1
     ·rw[A0 (by omega)];exact Cn u (s2 _ _ (Aw _) (by omega) (by omega))
   ·by_cases i2:i<sa+na+m
    ·rw[AA (by omega)]
     by_cases j2:j<sa+na+m
     ·rw[AA (by omega)];exact wK M.up (by omega) (by omega)
     ·rw[A0 (by omega)]
      have v:=m3 (j-(sa+na)) (by omega) (by omega)
      rw[show sa+na+(j-(sa+na))=j by omega] at v
      exact Cn (bd i (by omega) i2).2 v
    ·rw[A0 (by omega),A0 (by omega)]
     exact s2 i j (by omega) b (by omega)
 have ux:∀ x∈(arr.extract (sa+k) (sa+na)).toList,U x:=fun x hx=>by obtain⟨j,q1,q2,rfl⟩:=mx x hx;exact ua _ (zN (by omega))
 have uy:∀ x∈(arr.extract (sa+na) (sa+na+m)).toList,U x:=fun x hx=>by obtain⟨j,q1,q2,rfl⟩:=my x hx;exact ua _ (zN (by omega))
 have y0:(arr.extract (sa+na) (sa+na+m)).getD 0 nv=arr.getD (sa+na) nv:=gy 0 (by omega)
 have xl:(arr.extract (sa+k) (sa+na)).getD ((arr.extract (sa+k) (sa+na)).size-1) nv=arr.getD (sa+na-1) nv:=by rw[zx,gx _ (by omega)];congr 1;omega
 refine qL (fun _=>?_) fun _=>?_
 ·refine Au (dG C rfl ux uy px py (fun mg g' M=>?_) (by rw[zx];omega) (by rw[zy];omega) ?_ fun x hx=>?_)
  ·refine Au (DZ (Au (Fv (A3 ?_))))
   exact fin mg g' M
  ·rw[y0];exact(lox _ (zN (by rw[zx];omega))).1
  ·rw[xl];exact(loy x hx).2
 ·refine Au (dF C rfl ux uy px py (fun mg g' M=>?_) (by rw[zx];omega) (by rw[zy];omega) (fun x hx=>?_) ?_)
  ·refine Au (DZ (Au (Fv (A3 ?_))))
   exact fin mg g' M
  ·rw[y0];exact(lox x hx).1
  ·rw[xl];exact(loy _ (zN (by rw[zy];omega))).2
end
def mir (a:A4 A6)(i j:Ah):A4 A6:=mirror a i j ((j-i)/2)
theorem wF {a:A4 A6}{i j:Ah}(hj:j≤a.size)(k:Ah):(mir a i j).getD k nv=if i≤k∧k<j then a.getD (i+j-1-k) nv else a.getD k nv:=by
 rw[Cp,Cp,Cp];unfold mir;rw[getElem?_mirror_all hj]
 split <;> rfl
structure Cr (a b:A4 A6)(lo n:Ah):Prop where
 pm:b.toList.Perm a.toList
 out:∀ k,k<lo∨lo+n≤k→b.getD k nv=a.getD k nv
theorem Cr.z {a b:A4 A6}{lo n:Ah}(h:Cr a b lo n):b.size=a.size:=by
 have:=h.pm.length_eq;simpa using this
theorem Cr.rfl' {a:A4 A6}{lo n:Ah}:Cr a a lo n:=⟨Hr _,fun _ _=>rfl⟩
theorem Cr.mir {a b:A4 A6}{lo n i j:Ah}(h:Cr a b lo n)(h1:lo≤i)(h2:j≤lo+n)(h3:j≤a.size):Cr a (mir b i j) lo n:=
 ⟨(HA.mp (mirror_perm _ _ _ _)).trans h.pm,fun k hk=>by rw[wF (by rw[h.z];exact h3),A0 (by omega)];exact h.out k hk⟩
def Dsg (r:A6→Aj)(a:A4 A6)(lo n:Ah):Prop:=∀ i j,lo≤i→i≤j→j<lo+n→r (a.getD j nv)≤r (a.getD i nv)
theorem ZZ {r:A6→Aj}{a:A4 A6}{lo n:Ah}(h:Seg r a lo n)(h1:1≤n)(l:r (a.getD (lo+n-1) nv)≤r (a.getD (lo+n) nv)):Seg r a lo (n+1):=fun i j h2 h3 h4=>by
 by_cases q:j<lo+n
 ·exact h i j h2 h3 q
 ·have:j=lo+n:=by omega
  subst this;by_cases q2:i=lo+n
  ·subst q2;exact Fh _
  ·exact Cn (h i (lo+n-1) h2 (by omega) (by omega)) l
theorem uH {r:A6→Aj}{a:A4 A6}{lo n:Ah}(h:Dsg r a lo n)(h1:1≤n)(l:r (a.getD (lo+n) nv)≤r (a.getD (lo+n-1) nv)):Dsg r a lo (n+1):=fun i j h2 h3 h4=>by
 by_cases q:j<lo+n
 ·exact h i j h2 h3 q
 ·have:j=lo+n:=by omega
  subst this;by_cases q2:i=lo+n
  ·subst q2;exact Fh _
  ·exact Cn l (h i (lo+n-1) h2 (by omega) (by omega))
theorem rA {r:A6→Aj}{a:A4 A6}{lo:Ah}:Seg r a lo 1:=fun i j h2 h3 h4=>by
 have:i=j:=by omega
 subst this;exact Fh _
theorem Y5 {r:A6→Aj}{a:A4 A6}{lo:Ah}:Dsg r a lo 1:=fun i j h2 h3 h4=>by
 have:i=j:=by omega
 subst this;exact Fh _
def oC (r:A6→Aj)(a:A4 A6)(lo n q:Ah):Prop:=q+1≤n∧∀ k,lo+n-(q+1)≤k→k<lo+n→r (a.getD k nv)=r (a.getD (lo+n-1) nv)
set_option tactic.hygienic true in
theorem jR {r:A6→Aj}{a:A4 A6}{lo n q:Ah}(hn:lo+n≤a.size)(h:oC r a lo n q)(k:Ah):r ((mir a (lo+n-(q+1)) (lo+n)).getD k nv)=r (a.getD k nv):=by
 rw[wF hn];have:=h.1
 split
 ·rename_i c
  rw[h.2 k (by omega) c.2,h.2 _ (by omega) (by omega)]
 ·rfl
theorem Y4 {r:A6→Aj}{a:A4 A6}{lo n:Ah}(hn:lo+n≤a.size)(h:Dsg r a lo n):Seg r (mir a lo (lo+n)) lo n:=fun i j h2 h3 h4=>by
 rw[wF hn,wF hn,AA (by omega),AA (by omega)]
 exact h _ _ (by omega) (by omega) (by omega)
section
variable {prog:A5}{w:AO}{A:A8}{E:Ac→Ag→Prop}{s:Ag}{κ : Fg}{U:A6→Prop}{r:A6→Aj}
theorem jM (C:Cm (Ar prog w) A s κ U r){i j:Ah}{arr:A4 A6}{pd:A4 (Ah × Ah × Ah)}{g:Ah}{Q:Ak Ao→CG→Prop}(ua:∀ x∈arr.toList,U x)(hi:i<arr.size)(hj:j<arr.size)
  (q:Q (Ab (decide (r (arr.getD i nv)<r (arr.getD j nv)))) (Bc κ arr pd g none)):wpS (Ar prog w) A E s (ltAt' i j) Q (Bc κ arr pd g none):=by
 refine Au (Fv ?_);exact Au (qY hi (Au (qY hj (C.lt (ua _ (zN hi)) (ua _ (zN hj)) rfl q))))
theorem p8 {i j:Ah}{arr:A4 A6}{pd:A4 (Ah × Ah × Ah)}{g:Ah}{Q:PUnit→CG→Prop}(q:Q ⟨⟩ (Bc κ (mir arr i j) pd g none)):wpS (Ar prog w) A E s (reverseSlice' i j) Q (Bc κ arr pd g none):=DZ q
theorem t7 (C:Cm (Ar prog w) A s κ U r){lo N:Ah}{arr:A4 A6}{pd:A4 (Ah × Ah × Ah)}{g:Ah}{Q:Ak Ah→CG→Prop}(ua:∀ x∈arr.toList,U x)(h1:1≤N)(hz:lo+N≤arr.size)
  (h:∀ n b,1≤n→n≤N→Cr arr b lo N→Seg r b lo n→Q (Ab n) (Bc κ b pd g none)):wpS (Ar prog w) A E s (countRun' lo N) Q (Bc κ arr pd g none):=by
 have uc:∀ {b:A4 A6},Cr arr b lo N→∀ x∈b.toList,U x:=fun h x hx=>ua x (h.pm.mem_iff.mp hx);have asc:∀ {b:A4 A6} {n:Ah} {f:Ah→Ak (Ak Ah) × Ah→Kp CG Fb (ForInStep (Ak (Ak Ah) × Ah))},Cr arr b lo N→1≤n→n≤N→Seg r b lo n →
   (∀ x m,f x (none,m)=(ltAt' (lo+m) (lo+m-1) >>= fun o=>match o with
    |some z=>if z then pure (.done (none,m)) else pure (.yield (none,m+1))
    |_=>pure (.done (Ab none,m))))→wpS (Ar prog w) A E s (forIn [n:N] (none,n) f) (fun c st'=>st'=Bc κ b pd g none∧∃ m,c=(none,m)∧n≤m∧m≤N∧Seg r b lo m∧(m=N∨r (b.getD (lo+m) nv)<r (b.getD (lo+m-1) nv))) (Bc κ b pd g none):=by
  intro b n f cr hn hN sg hf;have zb:=cr.z;refine Cu (I:=fun x c st'=>st'=Bc κ b pd g none∧c=(none,x)∧n≤x∧Seg r b lo x) ?_ ?_ ⟨rfl,rfl,Aw _,sg⟩
  ·rintro x c st' hx1 hx ⟨rfl,rfl,hx3,sg⟩
   rw[hf];refine Au (jM C (uc cr) (by omega) (by omega) ?_)
   by_cases l:r (b.getD (lo+x) nv)<r (b.getD (lo+x-1) nv)
   ·simp only[l,EF,AZ]
    exact A3 ⟨rfl,x,rfl,hx1,by omega,sg,.inr l⟩
   ·simp only[l,EL,Bl,Ds]
    exact A3 ⟨rfl,rfl,by omega,ZZ sg (by omega) (by omega)⟩
  ·rintro c st' ⟨rfl,rfl,hx3,sg⟩
   rw[show max n N=N by omega] at sg ⊢
   exact⟨rfl,N,rfl,hN,Aw _,sg,.inl rfl⟩
 refine Au (Dw (asc Cr.rfl' (Aw 1) h1 rA fun _ _=>rfl) ?_);rintro c st' ⟨rfl,n,rfl,n1,n2,sg,nd⟩;dsimp only;refine qL (fun e=>A3 (h n arr n1 n2 Cr.rfl' sg)) fun e=>?_;have e:¬ n=N:=by simpa using e
 have nd:r (arr.getD (lo+n) nv)<r (arr.getD (lo+n-1) nv):=by omega
 apply qL
 case' h1 =>
  intro np;refine Au (jM C ua (by omega) (by omega) ?_)
  dsimp only;refine qL (fun e=>A3 (h n arr n1 n2 Cr.rfl' sg)) fun l=>?_;have l:¬ r (arr.getD lo nv)<r (arr.getD (lo+n-1) nv):=by simpa using l
  refine Au (p8 ?_);have cr:Cr arr (mir arr lo (lo+n)) lo N:=Cr.rfl'.mir (Aw _) (by omega) (by omega)
  have ds:Dsg r (mir arr lo (lo+n)) lo (n+1):=by
   refine uH (fun i j a b c=>?_) n1 ?_
   ·rw[wF (by omega),wF (by omega),AA (by omega),AA (by omega)]
    exact sg _ _ (by omega) (by omega) (by omega)
   ·rw[wF (by omega),wF (by omega),A0 (by omega),AA (by omega),show lo+(lo+n)-1-(lo+n-1)=lo by omega]
    omega
 case' h2 =>
  intro np;have cr:Cr arr arr lo N:=Cr.rfl';have ds:Dsg r arr lo (n+1):=by
   have:n=1:=by omega
   subst this;exact uH Y5 (Aw _) (Dz nd)
 all_goals
  refine Au (HC (DJ ⟨rfl,?_⟩));refine Au (Dw (Cu (I:=fun x c st'=>∃ b q,st'=Bc κ b pd g none∧c=(none,x,q)∧Cr arr b lo N∧Dsg r b lo x∧oC r b lo x q)
   (Q:=fun c st'=>∃ b m q,st'=Bc κ b pd g none∧c=(none,m,q)∧1≤m∧m≤N∧Cr arr b lo N∧Dsg r b lo m∧oC r b lo m q) ?_ ?_ ⟨_,0,rfl,rfl,cr,ds,by omega,fun k a b=>by rw[show k=lo+(n+1)-1 by omega]⟩) ?_)
  ·rintro x c st' hx1 hx ⟨b,q,rfl,rfl,cr,ds,eq⟩
   dsimp only;have zb:=cr.z;refine Au (jM C (uc cr) (by omega) (by omega) ?_)
   dsimp only;refine qL (fun l=>?_) fun l=>?_
   ·have l:r (b.getD (lo+x) nv)<r (b.getD (lo+x-1) nv):=by simpa using l
    refine qL (fun qp=>Au (p8 (A3 ⟨_,0,rfl,rfl,cr.mir (by have:=eq.1;omega) (by omega) (by omega),fun i j a c d=>?_,by omega,fun k a b=>by rw[show k=lo+(x+1)-1 by omega]⟩))) fun qp=>A3 ⟨_,0,rfl,rfl,cr,uH ds (by omega) (Dz l),by omega,fun k a b=>by rw[show k=lo+(x+1)-1 by omega]⟩
    rw[jR (by omega) eq,jR (by omega) eq]
    exact uH ds (by omega) (Dz l) i j a c d
   ·have l:¬ r (b.getD (lo+x) nv)<r (b.getD (lo+x-1) nv):=by simpa using l
    refine Au (jM C (uc cr) (by omega) (by omega) ?_)
    dsimp only;refine qL (fun l2=>A3 ⟨b,x,q,rfl,rfl,by omega,by omega,cr,ds,eq⟩) fun l2=>?_
    have l2:¬ r (b.getD (lo+x-1) nv)<r (b.getD (lo+x) nv):=by simpa using l2
    have ee:r (b.getD (lo+x) nv)=r (b.getD (lo+x-1) nv):=by omega
    refine A3 ⟨b,q+1,rfl,rfl,cr,uH ds (by omega) (by omega),by have:=eq.1;omega,fun k a c=>?_⟩
    rw[show lo+(x+1)-1=lo+x by omega]
    by_cases kx:k=lo+x
    ·rw[kx]
    ·rw[ee];exact eq.2 k (by omega) (by omega)
  ·rintro c st' ⟨b,q,rfl,rfl,cr,ds,eq⟩
   rw[show max (n+1) N=N by omega] at ds eq ⊢
   exact⟨b,N,q,rfl,rfl,h1,Aw _,cr,ds,eq⟩
  ·rintro c st' ⟨b,m,q,rfl,rfl,m1,m2,cr,ds,eq⟩
   dsimp only;have zb:=cr.z;apply qL
   case' h1 =>
    intro qp;refine Au (p8 ?_);have cr2:=cr.mir (i:=lo+m-(q+1)) (j:=lo+m) (by have:=eq.1;omega) (by omega) (by omega)
    have ds2:Dsg r (mir b (lo+m-(q+1)) (lo+m)) lo m:=fun i j a c d=>by
     rw[jR (by omega) eq,jR (by omega) eq]
     exact ds i j a c d
   case' h2 =>
    intro qp;have cr2:=cr;have ds2:=ds
   all_goals
    have z2:=cr2.z;refine Au (p8 ?_);refine Au (Dw (asc (cr2.mir (Aw _) (by omega) (by omega)) m1 m2 (Y4 (by omega) ds2) fun _ _=>rfl) ?_)
    rintro c st' ⟨rfl,n',rfl,q1,q2,q3,_⟩;exact A3 (h n' _ (by omega) q2 (cr2.mir (Aw _) (by omega) (by omega)) q3)
end
theorem tU {a:A4 A6}{src d:Ah}(hs:src<a.size)(hd:d≤src)(k:Ah):(bubble a src d).getD k nv=if k=src-d then a.getD src nv else if src-d<k∧k≤src then a.getD (k-1) nv else a.getD k nv:=by
 simp only[Cp];rw[getElem?_bubble hs d hd]
 repeat' split
 all_goals rfl
section
variable {prog:A5}{w:AO}{A:A8}{E:Ac→Ag→Prop}{s:Ag}{κ : Fg}{U:A6→Prop}{r:A6→Aj}
theorem d6 (C:Cm (Ar prog w) A s κ U r){lo n ok:Ah}{arr:A4 A6}{pd:A4 (Ah × Ah × Ah)}{g:Ah}{Q:Ao→CG→Prop}(ua:∀ x∈arr.toList,U x)(h1:ok≤n)(hz:lo+n≤arr.size)(sg:Seg r arr lo ok)
  (h:∀ b,Cr arr b lo n→Seg r b lo n→Q true (Bc κ b pd g none)):wpS (Ar prog w) A E s (binarySort' lo n ok) Q (Bc κ arr pd g none):=by
 have uc:∀ {b:A4 A6},Cr arr b lo n→∀ x∈b.toList,U x:=fun h x hx=>ua x (h.pm.mem_iff.mp hx);have sg1:Seg r arr lo (max ok 1):=by
  by_cases q:ok=0
  ·rw[q];exact rA
  ·rw[show max ok 1=ok by omega];exact sg
 refine Au (Dw (Cu (I:=fun k c st'=>c=(none,())∧∃ b,st'=Bc κ b pd g none∧Cr arr b lo n∧Seg r b lo (min k (max ok (max n 1))))
  (Q:=fun c st'=>c=(none,())∧∃ b,st'=Bc κ b pd g none∧Cr arr b lo n∧Seg r b lo n) ?_ ?_ ⟨rfl,arr,rfl,Cr.rfl',?_⟩) ?_)
 ·rintro k c st' hk hkn ⟨rfl,b,rfl,cr,sg⟩
  have zb:=cr.z;rw[show min k (max ok (max n 1))=k by omega] at sg
  dsimp only;refine Au (Dw (Cu (I:=fun x c st'=>st'=Bc κ b pd g none∧∃ l u,c=(none,l,u)∧l≤u∧u≤k∧u-l≤k-x∧(∀ i,i<l→r (b.getD (lo+i) nv)≤r (b.getD (lo+k) nv))∧∀ i,u≤i→i<k→r (b.getD (lo+k) nv)<r (b.getD (lo+i) nv))
   (Q:=fun c st'=>st'=Bc κ b pd g none∧∃ l u,c=(none,l,u)∧l≤k∧(∀ i,i<l→r (b.getD (lo+i) nv)≤r (b.getD (lo+k) nv))∧∀ i,l≤i→i<k→r (b.getD (lo+k) nv)<r (b.getD (lo+i) nv)) ?_ ?_
   ⟨rfl,0,k,rfl,by omega,by omega,by omega,fun i hi=>by omega,fun i a b=>by omega⟩) ?_)
  ·rintro x c st' _ hx ⟨rfl,l,u,rfl,q1,q2,q3,q4,q5⟩
   dsimp only;refine qL (fun e=>A3 ⟨rfl,l,u,rfl,by omega,q4,fun i a b=>q5 i (by omega) b⟩) fun e=>?_
   refine Au (jM C (uc cr) (by omega) (by omega) ?_)
   dsimp only;refine qL (fun z=>?_) fun z=>?_
   ·have z:r (b.getD (lo+k) nv)<r (b.getD (lo+(l+u)/2) nv):=by simpa using z
    exact A3 ⟨rfl,_,_,rfl,by omega,by omega,by omega,q4,fun i a c=>Int.lt_of_lt_of_le z (sg _ _ (by omega) (by omega) (by omega))⟩
   ·have z:¬ r (b.getD (lo+k) nv)<r (b.getD (lo+(l+u)/2) nv):=by simpa using z
    exact A3 ⟨rfl,_,_,rfl,by omega,by omega,by omega,fun i a=>Cn (sg _ _ (by omega) (by omega) (by omega)) (Op.mp z),q5⟩
  ·rintro c st' ⟨rfl,l,u,rfl,q1,q2,q3,q4,q5⟩
   exact⟨rfl,l,u,rfl,by omega,q4,fun i a b=>q5 i (by omega) b⟩
  ·rintro c st' ⟨rfl,l,u,rfl,q1,q4,q5⟩
   dsimp only;refine Au (DZ (A3 ⟨rfl,_,rfl,⟨(HA.mp (bubble_perm _ _ _)).trans cr.pm,fun j hj=>?_⟩,?_⟩))
   ·show (bubble b (lo+k) (lo+k-(lo+l))).getD j nv=_
    rw[tU (by omega) (by omega),A0 (by omega),A0 (by omega)]
    exact cr.out j hj
   ·rw[show min (k+1) (max ok (max n 1))=k+1 by omega]
    have e:∀ j,(bubble b (lo+k) (lo+k-(lo+l))).getD j nv=if j=lo+l then b.getD (lo+k) nv else if lo+l<j∧j≤lo+k then b.getD (j-1) nv else b.getD j nv:=fun j=>by
     rw[tU (by omega) (by omega),show lo+k-(lo+k-(lo+l))=lo+l by omega]
    intro i j a c d;show r ((bubble b (lo+k) (lo+k-(lo+l))).getD i nv)≤r ((bubble b (lo+k) (lo+k-(lo+l))).getD j nv);rw[e,e];by_cases i1:i<lo+l
    ·rw[A0 (by omega),A0 (by omega)]
     have u1:=q4 (i-lo) (by omega)
     rw[show lo+(i-lo)=i by omega] at u1
     by_cases j1:j<lo+l
     ·rw[A0 (by omega),A0 (by omega)];exact sg i j a c (by omega)
     ·by_cases j2:j=lo+l
      ·rw[AA j2];exact u1
      ·rw[A0 j2,AA (by omega)];exact sg _ _ a (by omega) (by omega)
    ·by_cases i2:i=lo+l
     ·rw[AA i2]
      by_cases j2:j=lo+l
      ·rw[AA j2];exact Fh _
      ·rw[A0 j2,AA (by omega)]
       have:=q5 (j-1-lo) (by omega) (by omega)
       rw[show lo+(j-1-lo)=j-1 by omega] at this
       exact Dz this
     ·rw[A0 i2,AA (by omega),A0 (by omega),AA (by omega)]
      exact sg _ _ (by omega) (by omega) (by omega)
 ·rintro c st' ⟨rfl,b,rfl,cr,sg⟩
  refine⟨rfl,b,rfl,cr,?_⟩;intro i j a c d;exact sg i j a c (by omega)
 ·rw[show min (max ok 1) (max ok (max n 1))=max ok 1 by omega];exact sg1
 ·rintro c st' ⟨rfl,b,rfl,cr,sg⟩
  exact A3 (h b cr sg)
end
def Rn (r:A6→Aj)(a:A4 A6):Aa (Ah × Ah × Ah)→Ah→Ah→Prop
 |[],x,y=>x=y
 |(s,n,_)::t,x,y=>s=x∧0<n∧Seg r a s n∧Rn r a t (x+n) y
section
variable {r:A6→Aj}{a b:A4 A6}
theorem Rn.app:∀ {L1 L2:Aa (Ah × Ah × Ah)} {x y:Ah},Rn r a (L1++L2) x y↔∃ m,Rn r a L1 x m∧Rn r a L2 m y
 |[],L2,x,y=>⟨fun h=>⟨x,rfl,h⟩,fun ⟨m,h1,h2⟩=>by cases h1;exact h2⟩
 |(s,n,p)::t,L2,x,y=>by
  show s=x∧0<n∧Seg r a s n∧Rn r a (t++L2) (x+n) y↔∃ m,(s=x∧0<n∧Seg r a s n∧Rn r a t (x+n) m)∧Rn r a L2 m y;rw[Rn.app];exact⟨fun ⟨h1,h2,h3,m,h4,h5⟩=>⟨m,⟨h1,h2,h3,h4⟩,h5⟩,fun ⟨m,⟨h1,h2,h3,h4⟩,h5⟩=>⟨h1,h2,h3,m,h4,h5⟩⟩
theorem Rn.le:∀ {L:Aa (Ah × Ah × Ah)} {x y:Ah},Rn r a L x y→x+L.length≤y
 |[],x,y,h=>by cases h;simp
 |(s,n,p)::t,x,y,h=>by have:=Rn.le h.2.2.2;have:=h.2.1;simp only[AH];omega
theorem Rn.congr:∀ {L:Aa (Ah × Ah × Ah)} {x y:Ah},Rn r a L x y→(∀ k,x≤k→k<y→b.getD k nv=a.getD k nv)→Rn r b L x y
 |[],x,y,h,_=>h
 |(s,n,p)::t,x,y,h,e=>by
  obtain⟨rfl,h2,h3,h4⟩:=h;have l:=Rn.le h4;refine⟨rfl,h2,fun i j a c d=>?_,Rn.congr h4 fun k h1 h2=>e k (by omega) h2⟩
  rw[e i (by omega) (by omega),e j (by omega) (by omega)]
  exact h3 i j a c d
theorem Rn.mod {f:Ah × Ah × Ah→Ah × Ah × Ah}(hf:∀ u v p,∃ p',f (u,v,p)=(u,v,p')):∀ {L:Aa (Ah × Ah × Ah)} {i x y:Ah},Rn r a L x y→Rn r a (L.modify i f) x y
 |[],i,x,y,h=>by simpa using h
 |(s,n,p)::t,0,x,y,h=>by
  obtain⟨p',e⟩:=hf s n p;rw[List.modify_zero_cons,e];exact h
 |(s,n,p)::t,i+1,x,y,h=>by
  rw[List.modify_succ_cons];exact⟨h.1,h.2.1,h.2.2.1,Rn.mod hf h.2.2.2⟩
end
theorem FJ {α : Type}{l:Aa α}{i:Ah}(h:i+1<l.length):∃ L1 x y L2,l=L1++x::y::L2∧L1.length=i:=by
 refine⟨l.take i,l[i],l[i+1],l.drop (i+2),?_,by rw[DQ];omega⟩
 rw[← CW h,← CW (by omega),Go]
section
variable {prog:A5}{w:AO}{A:A8}{E:Ac→Ag→Prop}{s:Ag}{κ : Fg}{U:A6→Prop}{r:A6→Aj}
theorem bI (C:Cm (Ar prog w) A s κ U r){i e:Ah}{Q:Ao→CG→Prop}{arr:A4 A6}{pd:A4 (Ah × Ah × Ah)}{g:Ah}(ua:∀ x∈arr.toList,U x)(hi:i+1<pd.size)(R:Rn r arr pd.toList 0 e)(he:e≤arr.size)
  (h:∀ b pd' g,b.toList.Perm arr.toList→(∀ k,e≤k→b.getD k nv=arr.getD k nv)→Rn r b pd'.toList 0 e→pd'.size+1=pd.size→Q true (Bc κ b pd' g none)):wpS (Ar prog w) A E s (mergeAt' i) Q (Bc κ arr pd g none):=by
 obtain⟨L1,⟨sa,na,pa⟩,⟨sb,nb,pb⟩,L2,el,hl⟩:=FJ (l:=pd.toList) (i:=i) (by simpa using hi)
 rw[el] at R;obtain⟨m,R1,rfl,p1,s1,rfl,p2,s2,R2⟩:=Rn.app.mp R;have l2:=Rn.le R2;have e1:pd[i]? = Ab (sa,na,pa):=by
  rw[← CH,el,← hl,Cd (Aw _),Lo];rfl
 have e2:pd[i+1]? = Ab (sa+na,nb,pb):=by
  rw[← CH,el,← hl,Cd (by omega),Ew];rfl
 refine dE C ua e1 e2 p1 p2 (by omega) s1 s2 fun b g pm out sg=>?_
 have ep:((pd.setIfInBounds i (sa,na+nb,pa)).eraseIdxIfInBounds (i+1)).toList=L1++(sa,na+nb,pa)::L2:=by
  rw[Array.toList_eraseIdxIfInBounds,Array.toList_setIfInBounds,el,← hl,List.set_append_right _ _ (Aw _),Lo,Co,List.eraseIdx_append_of_length_le (by omega),Ew]
  rfl
 refine h b _ g pm (fun k hk=>out k (by omega)) ?_ ?_
 ·rw[ep]
  refine Rn.app.mpr ⟨sa,R1.congr fun k _ hk=>out k (by omega),rfl,by omega,sg,?_⟩
  rw[← Nat.add_assoc];exact R2.congr fun k hk _=>out k (by omega)
 ·have:=congrArg Ep ep
  have q:=congrArg Ep el;simp only[AU,AW,AH] at this q;omega
theorem t8 (C:Cm (Ar prog w) A s κ U r){Q:HS→CG→Prop}{arr:A4 A6}{g:Ah}(ua:∀ x∈arr.toList,U x)(h2:0<arr.size)
  (h:∀ b pd g,b.toList.Perm arr.toList→b.toList.Pairwise (Le r)→Q () (Bc κ b pd g none)):wpS (Ar prog w) A E s sortRuns' Q (Bc κ arr #[] g none):=by
 have uc:∀ {b:A4 A6},b.toList.Perm arr.toList→∀ x∈b.toList,U x:=fun h x hx=>ua x (h.mem_iff.mp hx);have zc:∀ {b:A4 A6},b.toList.Perm arr.toList→b.size=arr.size:=fun h=>by simpa using h.length_eq
 refine Au (Fv ?_);dsimp only;refine Au (Dw (Cu (I:=fun x c st'=>∃ b pd g lo,st'=Bc κ b pd g none∧c=(none,lo)∧b.toList.Perm arr.toList∧lo≤arr.size∧min x arr.size≤lo∧Rn r b pd.toList 0 lo)
  (Q:=fun c st'=>∃ b pd g,st'=Bc κ b pd g none∧c=(none,arr.size)∧b.toList.Perm arr.toList∧Rn r b pd.toList 0 arr.size) ?_ ?_ ⟨arr,#[],g,0,rfl,rfl,Hr _,by omega,by omega,rfl⟩) ?_)
 ·rintro x c st' _ hx ⟨b,pd,g,lo,rfl,rfl,pm,lo1,lo2,R⟩
  have zb:=zc pm;dsimp only;refine qL (fun e=>A3 ⟨b,pd,g,rfl,by rw[show lo=arr.size by omega],pm,by rw[show arr.size=lo by omega];exact R⟩) fun e=>?_
  refine Au (t7 C (uc pm) (by omega) (by omega) fun n b2 n1 n2 cr sg=>?_)
  have R2:Rn r b2 pd.toList 0 lo:=R.congr fun k _ hk=>cr.out k (.inl hk);have pm2:=cr.pm.trans pm;have z2:=zc pm2;dsimp only;apply qL
  case' h1 =>
   intro lt;refine Au (HC (DJ ⟨rfl,?_⟩));refine Au (d6 C (uc pm2) (by omega) (by omega) sg fun b3 cr3 sg3=>?_)
   have R3:Rn r b3 pd.toList 0 lo:=R2.congr fun k _ hk=>cr3.out k (.inl hk);have pm3:=cr3.pm.trans pm2;refine qL (fun e=>by simp at e) fun _=>?_
   have n3:lo+min (arr.size-lo) ((sortPriv% PySem.Builtin.minRun) arr.size arr.size 0)≤arr.size:=by omega
   have n4:0<min (arr.size-lo) ((sortPriv% PySem.Builtin.minRun) arr.size arr.size 0):=by omega
  case' h2 =>
   intro lt;have R3:=R2;have pm3:=pm2;have sg3:=sg;have n3:lo+n≤arr.size:=by omega
   have n4:0<n:=n1
  all_goals
   refine Au (Fv ?_);dsimp only;rcases hb:pd.back? with _|⟨s1,l1,p1⟩
   ·dsimp only
    refine Au (DZ (A3 ⟨_,_,_,_,rfl,rfl,pm3,n3,by omega,?_⟩))
    show Rn r _ (pd.push _).toList 0 _;rw[Eg];exact Rn.app.mpr ⟨lo,R3,rfl,n4,sg3,rfl⟩
   ·dsimp only
    refine Au (Dw (Cu (I:=fun _ c st'=>c=(none,())∧∃ b pd g,st'=Bc κ b pd g none∧b.toList.Perm arr.toList∧Rn r b pd.toList 0 lo∧Seg r b lo _)
     (Q:=fun c st'=>c=(none,())∧∃ b pd g,st'=Bc κ b pd g none∧b.toList.Perm arr.toList∧Rn r b pd.toList 0 lo∧Seg r b lo _) ?_ (fun _ _ z=>z) ⟨rfl,_,pd,g,rfl,pm3,R3,sg3⟩) ?_)
    ·rintro y c st' _ hy ⟨rfl,b,pd,g,rfl,pm,R,sg⟩
     have zb:=zc pm;refine Au (Fv ?_);dsimp only;by_cases hp:pd.size>1
     ·rw[AA hp]
      rcases hq:pd[pd.size-2]? with _|⟨u,v,old⟩
      ·exact A3 ⟨rfl,b,pd,g,rfl,pm,R,sg⟩
      ·dsimp only
       refine qL (fun _=>A3 ⟨rfl,b,pd,g,rfl,pm,R,sg⟩) fun _=>?_;refine Au (bI C (uc pm) (by omega) R (by omega) fun b' pd' g' p' out R' _=>?_)
       refine qL (fun e=>by simp at e) fun _=>A3 ⟨rfl,b',pd',g',rfl,p'.trans pm,R',fun i j a c d=>?_⟩
       rw[out i a,out j (by omega)]
       exact sg i j a c d
     ·rw[A0 hp]
      exact A3 ⟨rfl,b,pd,g,rfl,pm,R,sg⟩
    ·rintro c st' ⟨rfl,b,pd,g,rfl,pm,R,sg⟩
     dsimp only;refine Au (DZ (Au (DZ (A3 ⟨_,_,_,_,rfl,rfl,pm,n3,by omega,?_⟩))))
     show Rn r b ((pd.modify (pd.size-1) _).push _).toList 0 _;rw[Eg,Array.toList_modify];exact Rn.app.mpr ⟨lo,Rn.mod (fun _ _ _=>⟨_,rfl⟩) R,rfl,n4,sg,rfl⟩
 ·rintro c st' ⟨b,pd,g,lo,rfl,rfl,pm,lo1,lo2,R⟩
  have:lo=arr.size:=by omega
  subst this;exact⟨b,pd,g,rfl,rfl,pm,R⟩
 ·rintro c st' ⟨b,pd,g,rfl,rfl,pm,R⟩
  dsimp only;have hl:=R.le;rw[AU] at hl;refine Au (Dw (Cu (I:=fun x c st'=>c=(none,())∧∃ b pd g,st'=Bc κ b pd g none∧b.toList.Perm arr.toList∧Rn r b pd.toList 0 arr.size∧(pd.size≤1∨pd.size+x≤arr.size))
   (Q:=fun c st'=>c=(none,())∧∃ b pd g,st'=Bc κ b pd g none∧b.toList.Perm arr.toList∧Rn r b pd.toList 0 arr.size∧pd.size≤1) ?_ ?_ ⟨rfl,b,pd,g,rfl,pm,R,by omega⟩) ?_)
  ·rintro x c st' _ hx ⟨rfl,b,pd,g,rfl,pm,R,hs⟩
   have zb:=zc pm;refine Au (Fv ?_);dsimp only;refine qL (fun e=>A3 ⟨rfl,b,pd,g,rfl,pm,R,e⟩) fun e=>?_;refine Au (bI C (uc pm) ?_ R (by omega) fun b' pd' g' p' out R' z'=>?_)
   ·have e:¬ pd.size≤1:=e
    have q:∀ (c:Prop) [IQ c],(if c then pd.size-2-1 else pd.size-2)+1<pd.size:=fun c _=>by split <;> omega
    exact q _
   exact qL (fun e=>by simp at e) fun _=>A3 ⟨rfl,b',pd',g',rfl,p'.trans pm,R',by omega⟩
  ·rintro c st' ⟨rfl,b,pd,g,rfl,pm,R,hs⟩
   exact⟨rfl,b,pd,g,rfl,pm,R,by omega⟩
  ·rintro c st' ⟨rfl,b,pd,g,rfl,pm,R,hs⟩
   have zb:=zc pm;refine A3 (h b pd g pm ?_);have hs:pd.toList.length≤1:=by simpa using hs
   revert R hs
   cases pd.toList with
   |nil=>intro R;have:0=arr.size:=R;omega
   |cons q t =>
    obtain⟨s0,n0,p0⟩:=q;intro R hs;have:t=[]:=by cases t with|nil=>rfl|cons _ _=>simp at hs
    subst this;obtain⟨rfl,_,sg,e⟩:=R;have e:n0=arr.size:=by have:0+n0=arr.size:=e;omega
    subst e;rw[EY];intro i j hi hj l;have hi':i<b.size:=by simpa using hi
    have hj':j<b.size:=by simpa using hj
    have:=sg i j (by omega) (by omega) (by omega)
    simpa [DY,hi',hj',Le] using this
end
structure Cmps (prog:A5)(w:AO)(h0:AF)(vs:Aa Ac)(f:Ah→Ah→Ao):Prop where
 ex:∃ κ,∀ (A:A8),A.units+8<CI→∀ (s:Ag),Sup h0 s.heap→(∀ (Q:Fg→Ag→Prop) (E:Ac→Ag→Prop),Q κ s→An (Ar prog w) A (keyKind' vs.toArray) Q E s)∧∀ i j (C:Ao→Ag→Prop),i<vs.length→j<vs.length→C (f i j) s→kas_ask prog w A κ vs i j C s
open Classical in
def kV {K:Type}(is:K→Ac→Prop)(d:K)(v:Ac):K:=if h:∃ k,is k v then choose h else d
open Classical in
theorem gX {K:Type}{is:K→Ac→Prop}{d:K}{v:Ac}(h:∃ k,is k v):is (kV is d v) v:=by
 unfold kV;rw[dif_pos h];exact choose_spec h
section
variable {prog:A5}{w:AO}{A:A8}{E:Ac→Ag→Prop}{s:Ag}
theorem MN {K:Type}{is:K→Ac→Prop}{lt':K→K→Ao}{d:K}(O:Ord lt')(inj:∀ {k k':K} {v:Ac},is k v→is k' v→k=k'){a:Ad}{vs:Aa Ac}{ks:Aa K}{n:Ah}{h0:AF}{P:PySem.Fin→Ag→Prop}(hlen:vs.length=ks.length)(hks:∀ i v,vs[i]? = Ab v→is (ks.getD i d) v)(ho:s.heap.get? a=Ab (De "list" vs.toArray n))(hu:A.units+8<CI)(hz:vs.length≤100000)(c:2≤vs.length→Cmps prog w h0 vs (tQ lt' ks d))(hS:Sup h0 s.heap)(ha:h0.get? a=none)
  (h:∀ ps:Aa (K × Ac),ps.Perm (ks.zip vs)→Nf lt' (ps.map (·.1))→P (.done (.ret .none)) { s with heap:=sortedHeap s.heap a vs (ps.map (·.2)).toArray }) : An (Ar prog w) A (EK.«list.sort» ⟨[.ref a],[]⟩) P E s:=by
 rw[list_sort_plain];have hb:a<s.heap.objs.size:=Av ho;have hsz:vs.toArray.size=vs.length:=by simp
 refine Af (listItems_at ho rfl (Af (listUpdate_at ho rfl ?_ (by rw[hsz,Dn];omega) (Fe _))))
 obtain⟨e1,ho1⟩:∃ e1,(s.heap.update a (Dm fun _=>#[])).get? a=Ab (De "list" #[] e1):=⟨_,IM ho (fun _=>#[])⟩;refine Af (seqEpoch_at ho1 rfl (Af (Ji (Af (wpAny_newList (CJ ?_) (Fe _))) (by show vs.length≤_;rw[Dn];omega))))
 have ho6:(((s.heap.update a (Dm fun _=>#[])).push (De "tuple" vs.toArray 0)).push (De "list" #[] 0)).get? a=Ab (De "list" #[] e1):=
  Al _ (Al _ ho1)
 have S6:Sup h0 (((s.heap.update a (Dm fun _=>#[])).push (De "tuple" vs.toArray 0)).push (De "list" #[] 0)):=fun b o e =>
  Al _ (Al _ ((Bh _ _ (fun z:a=b=>by rw[← z,ha] at e;cases e)).trans (hS b o e)))
 show An (Ar prog w) A _ P E { s with heap:=((s.heap.update a (Dm fun _=>#[])).push (De "tuple" vs.toArray 0)).push (De "list" #[] 0) }
 dsimp only;have fin:∀ (st':CG) (ps:Aa (K × Ac)),(arrOf st').map (·.2)=(ps.map (·.2)).toArray→failedOf st'=none→ps.Perm (ks.zip vs)→Nf lt' (ps.map (·.1))→An (Ar prog w) A (do
   let touched:=(← seqEpoch a) != e1
   OR (.ref a) fun _=>(arrOf st').map (·.2)
   if let Ab e:=failedOf st' then rule "list.sort.comparison-raised";throw e
   if touched then rule "list.sort.modified";raiseError "ValueError" "list modified during sort"
   ret .none) P E { s with heap:=((s.heap.update a (Dm fun _=>#[])).push (De "tuple" vs.toArray 0)).push (De "list" #[] 0) }:=by
  intro st' ps h1 h2 h3 h4;have hl:(ps.map (·.2)).length=vs.length:=by rw[A9,h3.length_eq,Ny,hlen,Ik]
  refine Af (seqEpoch_at ho6 rfl ?_);rw[h1];refine Af (listUpdate_at ho6 rfl ?_ (Fe _) (by show (ps.map (·.2)).toArray.size≤_;rw[AB,hl,Dn];omega))
  rw[h2];simp only[bne_self_eq_false,Bl,Ds];exact Aq (h ps h3 h4)
 by_cases h2:vs.toArray.size<2
 ·rw[AA h2,AA h2]
  refine Af (Aq ?_);rw[StateT.run_pure];refine Af (Aq ?_);refine fin (Bc general' (vs.toArray.zip vs.toArray) #[] 7 none) (ks.zip vs) ?_ rfl (Hr _) ?_
  ·show (vs.toArray.zip vs.toArray).map (·.2)=_
   apply Nl.mp;simp[List.map_snd_zip,hlen]
  ·rw[Nm (by omega)]
   match ks,hlen with
   |[],_=>exact Me
   |[_],_=>exact Ir _ _
   |_::_::_,e=>simp at e h2;omega
 ·rw[A0 h2,A0 h2]
  have h2':2≤vs.length:=by omega
  obtain⟨κ,C⟩:=c h2';obtain⟨k1,k2⟩:=C A hu { s with heap:=((s.heap.update a (Dm fun _=>#[])).push (De "tuple" vs.toArray 0)).push (De "list" #[] 0) } S6
  have kv:∀ i,i<vs.length→kV is d (vs.getD i Br)=ks.getD i d:=fun i hi=>by
   have q:=hks i (vs.getD i Br) (by rw[Cw,Ap hi];rfl)
   exact inj (gX ⟨_,q⟩) q
  have km:∀ i,i<vs.length→ks.getD i d∈ks:=fun i hi=>by
   have:i<ks.length:=by omega
   simp[EX,this]
  have cm:Cm (Ar prog w) A { s with heap:=((s.heap.update a (Dm fun _=>#[])).push (De "tuple" vs.toArray 0)).push (De "list" #[] 0) } κ (fun x=>∃ i,i<vs.length∧x=(vs.getD i Br,vs.getD i Br)) (fun x=>kB lt' ks (kV is d x.1)):=by
   refine⟨?_⟩;rintro x y ⟨i,hi,rfl⟩ ⟨j,hj,rfl⟩ E Q st hk q;rw[lt'_eq];refine Au (Fv ?_);rw[hk];rw[kv i hi,kv j hj,← lM O (km i hi)] at q;refine Au (HC (E6 (CU (k2 i j (fun b s'=>s'=_∧b=tQ lt' ks d i j) hi hj ⟨rfl,rfl⟩) ?_ fun _ _ e=>e.elim)));rintro b s' ⟨rfl,rfl⟩;exact⟨rfl,A3 q⟩
  have pl:(vs.toArray.zip vs.toArray).toList=(By vs.length).map fun i=>(vs.getD i Br,vs.getD i Br):=by
   apply Ia
   ·simp
   ·intro i h1 h2
    have:i<vs.length:=by simpa using h2
    simp[this]
  refine Af (k1 _ _ ?_);refine Af (CU (t8 (E:=E) (Q:=fun _ st'=>∃ b pd g,st'=Bc κ b pd g none∧b.toList.Perm (vs.toArray.zip vs.toArray).toList∧b.toList.Pairwise (Le fun x=>kB lt' ks (kV is d x.1))) cm (arr:=vs.toArray.zip vs.toArray) (g:=7) ?_ ?_ fun b pd g p q=>⟨b,pd,g,rfl,p,q⟩) ?_ fun _ _ e=>e)
  ·intro x hx
   rw[pl] at hx;obtain⟨i,hi,rfl⟩:=AE.mp hx;exact⟨i,DR.mp hi,rfl⟩
  ·simp;omega
  ·rintro⟨⟨⟩,st'⟩ s' ⟨rfl,b,pd,g,rfl,pm,up⟩
   refine fin _ (b.toList.map fun x=>(kV is d x.1,x.2)) ?_ rfl ?_ ?_
   ·show b.map (·.2)=_
    apply Nl.mp;simp
   ·refine(pm.map _).trans ?_
    rw[pl,DB];have:ks.zip vs=(By vs.length).map fun i=>(ks.getD i d,vs.getD i Br):=by
     apply Ia
     ·simp[hlen]
     ·intro i h1 h2
      have h3:i<vs.length:=by simpa using h2
      have h4:i<ks.length:=by omega
      simp[h3,h4]
    rw[this];refine List.Perm.of_eq (Fa fun i hi=>?_);show (kV is d (vs.getD i Br),_)=_;rw[kv i (DR.mp hi)]
   ·unfold Nf
    rw[DB,CY];refine up.imp_of_mem fun {x y} hx hy h=>?_;have hx:=pm.mem_iff.mp hx;have hy:=pm.mem_iff.mp hy;rw[pl] at hx hy;obtain⟨i,hi,rfl⟩:=AE.mp hx;obtain⟨j,hj,rfl⟩:=AE.mp hy;have h:kB lt' ks (kV is d (vs.getD i Br))≤kB lt' ks (kV is d (vs.getD j Br)):=h;show lt' (kV is d (vs.getD j Br)) (kV is d (vs.getD i Br))=false;have hj:=DR.mp hj;rw[lM O (ks:=ks) (by rw[kv j hj];exact km j hj)]
    exact Bd (by omega)
end
section
variable {K:Type}{lt':K→K→Ao}
theorem FY {α : Type}{ks:Aa K}{vs:Aa α}{d:K}(hl:vs.length=ks.length){p:K × α}(h:p∈ks.zip vs):∃ i,vs[i]? = Ab p.2∧ks.getD i d=p.1:=by
 obtain⟨i,hi,e⟩:=Bq.mp h;have h1:i<ks.length:=by rw[Ny] at hi;omega
 have h2:i<vs.length:=by omega
 rw[List.getElem_zip] at e;subst e;exact⟨i,Ap h2,by simp[h1]⟩
end
structure Kind (prog:A5)(w:AO){K:Type}(is:K→Ac→Prop)(hash:K→Aj)(lt':K→K→Ao)(d:K)(Fit:K→Prop)(h0:AF):Prop where
 ord:Ord lt'
 inj:∀ {k k':K} {v:Ac},is k v→is k' v→k=k'
 cmps:∀ {vs:Aa Ac} {ks:Aa K},vs.length=ks.length→(∀ i v,vs[i]? = Ab v→is (ks.getD i d) v)→(∀ k∈ks,Fit k)→2≤vs.length→Cmps prog w h0 vs (tQ lt' ks d)
end _S
namespace _D
open PySem PySem.Spec PyProof.Rows _L
def X0:D→Ak (Aa D)
 |.lst xs=>Ab xs
 |.tup xs=>Ab xs
 |_=>none
section
variable {X:Cx}{e:AC}{fa:DE}{p1 p2 pos1 pos2:Cz}
theorem F7 {pins:Aa (Ad × AV)}{σ : _L.St}{H P:Hp}{α : Aa Ad}{S:Sto}{s:Ag}{d:D}{xs:Aa D}{v:V}{vv:Ac}(I:Inv X pins σ H s)(r:Rel X.K H P α S)(p:Rep X.K P α d v)(q:qK v vv)(h:X0 d=Ab xs) :
  ∃ a vs its,vv=.ref a∧qG X.K P α xs vs∧qM vs its∧(s.heap.IsList a its.toArray∨s.heap.IsTuple a its.toArray)∧xs.length=its.length:=by
 cases d with
 |lst ys =>
  cases h;obtain⟨a,vs,its,n,rfl,_,t,rv,e,l,_⟩:=vU I r p;exact⟨a,vs,its,q,t,rv,.inl ⟨_,e,rfl,n,rfl⟩,l⟩
 |tup ys =>
  cases h;obtain⟨a,vs,its,rfl,_,t,rv,⟨o,e,hc,n,hd⟩,l,_⟩:=gL I r p;exact⟨a,vs,its,q,t,rv,.inr ⟨o,e,hc,n,hd⟩,l⟩
 |_=>cases h
end
end _D
namespace _S
open PySem PySem.W PyProof.Rows
section
variable {prog:A5}{w:AO}{A:A8}{E:Ac→Ag→Prop}{s:Ag}{K:Type}{is:K→Ac→Prop}{hash:K→Aj}{lt':K→K→Ao}{d:K}{Fit:K→Prop}{h0:AF}
theorem eS {Q:Ac→Ag→Prop}(kd:Kind prog w is hash lt' d Fit h0)(hu:A.units+16<CI)(hS:Sup h0 s.heap){l:Ad}{vs:Aa Ac}(hl:s.heap.IsList l vs.toArray∨s.heap.IsTuple l vs.toArray)(ks:Aa K)(hlen:vs.length=ks.length)(hks:∀ i v,vs[i]? = Ab v→is (ks.getD i d) v)(hf:∀ k∈ks,Fit k)(hoel:vs.length≤100000)
  (h:∀ (h1 h':AF) (tk:Ah) (D:Ad) (c:Ah) (ps:Aa (K × Ac)),(∀ b o,s.heap.get? b=Ab o→h1.get? b=Ab o)→(∀ b o,h1.get? b=Ab o→h'.get? b=Ab o)→h1.objs.size≤D→h'.get? D=Ab (De "list" (ps.map (·.2)).toArray c)→ps.map (·.1)=pV lt' ks→(∀ p∈ps,is p.1 p.2∧p.2∈vs)→ps.length=ks.length→Q (.ref D) { s with heap:=h',toks:=tk }) :
  An (Ar prog w) A (call (.builtin "sorted") [.ref l]) Q E s:=by
 refine Calls.call_function_entry kind_sorted plain_sorted entry_sorted (args_sorted1 _) ?_;unfold EK.«sorted»;refine Af (m:=checkCount "sorted" 1 1 _) (Aq ?_);have hcol:∀ {R:Aa Ac→Ag→Prop},(∀ h1:AF,(∀ b o,s.heap.get? b=Ab o→h1.get? b=Ab o)→R vs { s with heap:=h1 }) → An (Ar prog w) A.in1 (collect (.ref l)) R E s:=fun {R} hR=>by
  have e:vs.toArray.toList=vs:=by simp
  rcases hl with⟨o,ho,hc,n,hd⟩|⟨o,ho,hc,n,hd⟩
  ·exact Mp l (.inl rfl) ho hc hd (fun h' hk=>by rw[e];exact hR h' hk) (by rw[AB,Dn];omega)
  ·exact Mp l (.inr rfl) ho hc hd (fun h' hk=>by rw[e];exact hR h' hk) (by rw[AB,Dn];omega)
 refine Af (hcol fun h1 kp1=>?_);refine Af (wpAny_newList ?_ (by rw[Dn];omega))
 have hD:(h1.push (De "list" vs.toArray 0)).get? h1.objs.size=Ab (De "list" vs.toArray 0):=AN _ rfl;have n0:h0.get? h1.objs.size=none:=by
  cases q:h0.get? h1.objs.size with
  |none=>rfl
  |some o=>exact absurd (Av (kp1 _ _ (hS _ _ q))) (Cg _)
 show An _ _ _ _ _ { s with heap:=h1.push (De "list" vs.toArray 0),toks:=s.toks }
 refine Af (CJ (Dl slot_list_sort ⟨_,hD,rfl⟩ entry_list_sort (MN (h0:=h0) (is:=is) kd.ord kd.inj (d:=d) (vs:=vs) hlen hks hD (by show A.units+2+8<CI;omega) hoel (fun h2=>kd.cmps hlen hks hf h2) (fun b o e=>Al _ (kp1 b o (hS b o e))) n0 fun ps pm nf=>⟨_,rfl,?_⟩) (args_list_sort _)))
 refine Aq ⟨_,rfl,?_⟩;have hz:(h1.push (De "list" vs.toArray 0)).objs.size=h1.objs.size+1:=size_push' ..;have old:∀ b o,b≠h1.objs.size→(h1.push (De "list" vs.toArray 0)).get? b=Ab o→((((h1.push (De "list" vs.toArray 0)).update h1.objs.size (Dm fun _=>#[])).push (De "tuple" vs.toArray 0)).push (De "list" #[] 0)).get? b=Ab o:=fun b o hb e =>
  Al _ (Al _ ((Bh _ _ (DC hb)).trans e))
 obtain⟨e1,he1⟩:∃ e1,((h1.push (De "list" vs.toArray 0)).update h1.objs.size (Dm fun _=>#[])).get? h1.objs.size=Ab (De "list" #[] e1):=⟨_,IM hD (fun _=>#[])⟩;have he6:=IM (Al (De "list" #[] 0) (Al (De "tuple" vs.toArray 0) he1)) (fun _=>(ps.map (·.2)).toArray)
 have pk:(ps.map (·.1)).Perm ks:=by
  have:=pm.map (·.1)
  rwa [Nm (by omega)] at this
 refine h h1 _ s.toks h1.objs.size _ ps kp1 (fun b o e=>?_) (Aw _) he6 (gZ kd.ord nf (m5 kd.ord ks) (pk.trans (uX ks).symm)) (fun p hp=>?_) (by have:=pk.length_eq;rwa [A9] at this)
 ·have hb:b≠h1.objs.size:=fun z=>by
   subst z;exact absurd (Av e) (Cg _)
  exact(Bh _ _ (DC hb)).trans (old b o hb (Al _ e))
 ·obtain⟨i,e1,e2⟩:=FY (d:=d) hlen (pm.mem_iff.mp hp)
  exact⟨e2▸hks i _ e1,DM e1⟩
end
end _S
namespace _D
open PySem PySem.Spec PyProof.Rows _L
section
variable {X:Cx}{pins:Aa (Ad × AV)}{σ : _L.St}{H P:Hp}{α : Aa Ad}{S:Sto}{s:Ag}
inductive NewR (X:Cx)(pins:Aa (Ad × AV))(σ : _L.St)(H P:Hp)(α : Aa Ad)(ys:Aa D)(u:Ac)(s':Ag):Prop
 |mk (D:Ad) (vs:Aa V) (e:u=.ref D) (hn:H D=none) (I:Inv X pins σ (upd H D (.lst vs)) s') (rp:qG X.K P α ys vs):NewR X pins σ H P α ys u s'
theorem iZ {K:Type}{is:K→Ac→Prop}{hash:K→Aj}{lt':K→K→Ao}{d:K}{Fit:K→Prop}(kd:_S.Kind X.prog X.w is hash lt' d Fit s.heap)(hu:X.A.units+64<CI)(I:Inv X pins σ H s)(r:Rel X.K H P α S){a:Ad}{its:Aa Ac}
  (ha:s.heap.IsList a its.toArray∨s.heap.IsTuple a its.toArray) (ks:Aa K) (hl:ks.length=its.length) (hk:∀ i v,its[i]? = Ab v→is (ks.getD i d) v) (hn:ks.length≤100000) (hf:∀ k∈ks,Fit k) (enc:K→D)
  (back:∀ k v,is k v→v∈its→∃ vv,qK vv v∧Rep X.K P α (enc k) vv) {E:Ac→Ag→Prop} :
  An (Ar X.prog X.w) X.A (call (.builtin "sorted") [.ref a]) (NewR X pins σ H P α ((_S.pV lt' ks).map enc)) E s:=by
 refine _S.eS kd om (fun _ _ e=>e) ha ks hl.symm hk hf om fun h1 h2 tk2 D c ps kp1 kp2 hD hob hps hp hpl=>?_;have I1:Inv X pins σ H { s with heap:=h1,toks:=s.toks }:=I.kept kp1
 have vv:∀ (ps:Aa (K × Ac)),(∀ p∈ps,is p.1 p.2∧p.2∈its)→∃ vs,qM vs (ps.map (·.2))∧qG X.K P α ((ps.map (·.1)).map enc) vs:=by
  intro ps
  induction ps with
  |nil=>exact fun _=>⟨[],.nil,.nil⟩
  |cons p ps ih =>
   intro h;obtain⟨vs,a1,a2⟩:=ih fun q hq=>h q (by simp[hq])
   obtain⟨v,b1,b2⟩:=back p.1 p.2 (h p (by simp)).1 (h p (by simp)).2
   exact⟨v::vs,.cons b1 a1,.cons b2 a2⟩
 obtain⟨vs,a1,a2⟩:=vv ps hp;rw[hps] at a2;have nd:([(D,HO.lst vs)].map (·.1)).Nodup:=by simp
 have I2:Inv X pins σ (kI H [(D,HO.lst vs)]) { s with heap:=h2,toks:=tk2 }:=Inv.laidL (s:={ s with heap:=h1,toks:=s.toks }) (L:=[(D,HO.lst vs)]) (t':=tk2) I1 kp2 (fun p hpm=>by
  have:p=(D,HO.lst vs):=by simpa using hpm
  subst this;exact hD) fun p hpm=>by
  have:p=(D,HO.lst vs):=by simpa using hpm
  subst this;refine⟨?_,ps.map (·.2),c,a1,hob⟩
  have:=a1.length;rw[A9] at this;rw[this,Dn];omega
 exact⟨D,vs,rfl,I1.hok.fresh hD,I2,a2⟩
end
theorem nO:∀ (ns:Aa Aj) (i:Aj),ns.foldl max i∈i::ns∧∀ a∈i::ns,a≤ns.foldl max i
 |[],i=>⟨by simp,fun a ha=>by simp at ha;subst ha;exact Fh _⟩
 |n::ns,i=>by
  obtain⟨h1,h2⟩:=nO ns (max i n);refine⟨?_,fun a ha=>?_⟩
  ·rcases AL.mp h1 with h|h
   ·rcases Int.le_total i n with z|z
    ·rw[Eb,h,Int.max_eq_right z];simp
    ·rw[Eb,h,Int.max_eq_left z];simp
   ·exact AK _ (AK _ h)
  ·have h3:=h2 (max i n) (by simp)
   rcases AL.mp ha with rfl|ha
   ·exact Cn (Int.le_max_left _ _) h3
   ·rcases AL.mp ha with rfl|ha
    ·exact Cn (Int.le_max_right _ _) h3
    ·exact h2 a (AK _ ha)
theorem FA {K:Ai}{h:AF}{mg:As→Ak Ac}(X:K.In h)(G:h.Ns AT mg){x:As}{st:Cy}{ps:Aa As}{f:Ad}{oc:Ac}{od an:Ak Ad}{osl:A4 (Ak Ac)}{kV doc pm cdv ct:Ac}
  (a:Bs K AT x=Ab (Ab (.ref f)))
  (l:K.lookup f=Ab ⟨oc,od,.func (Dy x x (wL st) (zR st) (qI st) .none kV doc pm an cdv ct),osl⟩) (c:Fy K cdv x=true) (k:Cf K (.ref f)=true)
  (hb:∀ (kV doc pm:Ac) (an:Ak Ad) (cdv ct:Ac) (us:Aa Ac),us.length=ps.length→Nq (Dy x x (wL st) (zR st) (qI st) .none kV doc pm an cdv ct) ⟨us,[]⟩=pure (ps.zip us)):Src K mg x st ps:=
 have F:=KS (st:=st) l c k
 ⟨f,_,Kk X G a,F,F.binds hb⟩
def tZ (K:Ai)(C:Ad):Ao:=
 decide (Fx K (.ref C) "__getattribute__" = Ab (Ab (.builtin "BaseException.__getattribute__")))&&decide (Fx K (.ref C) "__getattr__" = Ab none)
 && decide (Fx K (.ref C) "__class__" = Ab (Ab (.builtin "object.__class__")))&&decide (Jv K C (.type "object")=Ab true)&&decide (Jv K C (.type "BaseException")=Ab true)
 && (PySem.W.clsIn K C).isSome&&decide (EJ K (.ref C) (.type "ValueError")=Ab true)
def oS (K:Ai):Ao:=
 decide (Ly K (.builtin "object.__class__") "__get__" = Ab (Ab (.builtin "getset_descriptor.__get__")))&&decide (Np K (.builtin "object.__class__")=Ab true)
def JH (K:Ai)(cl:Aa Ad):Ao:=cl.all fun C=>cl.all fun B=>decide (EJ K (.ref C) (.ref B)=Ab (C == B))
theorem JI {K:Ai}{cl:Aa Ad}(h1:cl.all (tZ K)=true)(h2:oS K=true)(h3:JH K cl=true):ClsK K cl:=by
 have g:=h2;unfold oS at g;simp only[Ax,Bb] at g;have k1:∀ C∈cl,tZ K C=true:=AR.mp h1;refine⟨fun C hC=>?_,fun C hC B hB=>?_,fun C hC=>?_⟩
 ·have e:=k1 C hC
  unfold tZ at e;simp only[Ax,Bb] at e;obtain⟨⟨⟨⟨⟨⟨e1,e2⟩,e3⟩,e4⟩,e5⟩,e6⟩,e7⟩:=e;exact⟨e1,e2,e3,g.1,g.2,e4,e5,e6⟩
 ·have e:=AR.mp (AR.mp h3 C hC) B hB
  exact Bf e
 ·have e:=k1 C hC
  unfold tZ at e;simp only[Ax,Bb] at e;exact e.2
def NQ (K:Ai)(cs:Aa Ac)(A:Ad):Ao:=cs.all fun v=>decide (Ek K v (.ref A)=Ab true)
def NO (K:Ai)(cs:Aa Ad)(A:Ad):Ao:=cs.all fun C=>pH K C A
def NP (K:Ai)(cs:Aa Ad):Ao:=cs.all fun C=>Cf K (.ref C)
def tL (K:Ai):Sp:=fun vs H Q E=>∃ a ns,vs=[.ref a]∧SqX K H a (List.map V.int ns)∧ns.length≤63∧∀ H',Q (.bl true) H'
theorem lN {K:Ai}{P:Hp}{α : Aa Ad}:∀ ns:Aa Aj,qG K P α (ns.map D.int) (ns.map V.int)
 |[]=>.nil
 |n::ns=>.cons (by simp only[Rep]) (lN ns)
theorem YX {P:A5}{w:AO}{K:Ai}{mg:As→Ak Ac}{fa:Ad}{st:Cy}{k:Ah}{x:As}(hs:Src K mg "law" st [x])(hfa:mg "law" = Ab (.ref fa))
  (hbd:∀ (kV doc pm:Ac) (an:Ak Ad) (cdv ct:Ac) (s:Ag) (v:Ac),Hg s (Dy "law" "law" (wL st) (zR st) (qI st) .none kV doc pm an cdv ct) ⟨[v],[]⟩ [(x,v)])
  (hall:∀ base:AF,∃ F,tN P w K mg base true k "law" [x] F∧∀ ns:Aa Aj,ns.length≤63→∃ S,F [.lst (ns.map D.int)] [] = .ok (.bl true) S) :
  ∃ fd:CM,(∀ (s:Ag) (v:Ac),Hg s fd ⟨[v],[]⟩ [(x,v)])∧∀ base:AF,K.In base→base.Ns AT mg→FnOk P w K mg base (CXd P w) k fa fd [x] (tL K):=by
 obtain⟨f,fd,hm,F,hb⟩:=hs;cases hfa.symm.trans hm;refine⟨fd,?_,fun base _ _=>?_⟩
 ·obtain⟨oc,od,kV,doc,pm,an,cdv,ct,osl,rfl,_,_⟩:=F.ex
  exact hbd kV doc pm an cdv ct
 ·obtain⟨G,⟨f',fd',hm',_,hb',hl,X⟩,hG⟩:=hall base
  cases hm.symm.trans hm';cases hl.one (tF F);refine(X.imp fun vs H Q E h=>?_).ok;obtain⟨a,ns,rfl,hS,hl,k⟩:=h;obtain⟨S,e⟩:=hG ns hl;refine⟨rfl,H,[],[.lst (ns.map D.int)],[],⟨qH.refl _,rfl,.nil,by simp,by simp,by simp⟩,.cons (fX hS (lN ns)) .nil,?_⟩
  rw[e];intro v H' P' α' _ _ _ rv;simp only[Rep] at rv;subst rv;exact k H'
theorem N6 {l:Nr}{q:A5}{loose:Aa As}{XP:(As→Ak Ac)→AF→Prop}{YP:AO→AF→Prop}{d:DefRec}{K:Ow→Ai}{k:Ah}{x:As}(hn:l.most=Ab 63)(hdf:d.params.defaults=[])(hr:Room k HH)
  (hY:∀ (w:AO) (h:AF),YP w h→(K w.params).In h)
  (F:∀ (w:AO) (mg:As→Ak Ac) (fa:Ad) (h:AF),(K w.params).In h→h.Ns AT mg→mg d.name=Ab (.ref fa) →
   ∃ fd:CM,(∀ (s:Ag) (u:Ac),Hg s fd ⟨[u],[]⟩ [(x,u)])∧∀ base:AF,(K w.params).In base→base.Ns AT mg→FnOk l.prog w (K w.params) mg base (CXd l.prog w) k fa fd [x] (tL (K w.params))) :
  Kc q loose XP YP l.row.toRowW d [] (fun f vs=>Om f vs):=
 _L.UP (n:=63) (k:=k) (x:=x) (CX:=fun w=>CXd l.prog w) (sp:=fun w=>tL (K w.params)) hn (by decide) hdf hr hY F (fun _ _ a ns hl _ hS=>⟨a,ns,rfl,hS,hl,fun _=>rfl⟩) fun w H s e s' h=>by
  obtain⟨_,_,_,_,_,_,_,_,_,_,_,_,z⟩:=h;exact z
end _D
namespace _D
open PySem
theorem us0 {us:Aa Ac}(h:us.length=0):us=[]:=List.eq_nil_of_length_eq_zero h
theorem usS {us:Aa Ac}{n:Ah}(h:us.length=n+1):∃ a vs,us=a::vs∧vs.length=n:=by
 cases us with
 |nil=>exact absurd h (by simp)
 |cons a vs=>exact⟨a,vs,rfl,by simpa using h⟩
theorem us1 {us:Aa Ac}(h:us.length=1):∃ a,us=[a]:=by
 obtain⟨a,vs,rfl,h'⟩:=usS h;exact⟨a,by rw[us0 h']⟩
theorem us2 {us:Aa Ac}(h:us.length=2):∃ a b,us=[a,b]:=by
 obtain⟨a,vs,rfl,h'⟩:=usS h;obtain⟨b,rfl⟩:=us1 h';exact⟨a,b,rfl⟩
theorem us3 {us:Aa Ac}(h:us.length=3):∃ a b c,us=[a,b,c]:=by
 obtain⟨a,vs,rfl,h'⟩:=usS h;obtain⟨b,c,rfl⟩:=us2 h';exact⟨a,b,c,rfl⟩
theorem us4 {us:Aa Ac}(h:us.length=4):∃ a b c d,us=[a,b,c,d]:=by
 obtain⟨a,vs,rfl,h'⟩:=usS h;obtain⟨b,c,d,rfl⟩:=us3 h';exact⟨a,b,c,d,rfl⟩
end _D
namespace _D
open PySem PySem.Spec PyProof.Rows _L
theorem W6 (F:DF):∃ G:DF,G=F:=⟨F,rfl⟩
def sh (F:DF):DF:=Ng (W6 F)
theorem zU (F:DF):sh F=F:=IZ (W6 F)
def isV:Ak Ea→Ao
 |some .local => true
 |some .cell=>true
 |some .free=>true
 |_=>false
def isL:Ak Ea→Ao
 |some .local => true
 |some .cell=>true
 |_=>false
def isG:Ak Ea→Ao
 |some .globalImplicit=>true
 |_=>false
def okN (x:As):Ao:=!(x == ("__debug__" : As))&&(!(x == ("__classdict__" : As))&&!decide (x = "__name__"))
def okG (X:Cx)(x:As):Ao:=isG (X.env.kindOf x)&&okN x
def okB (v:Ac)(x:As):Ao:=decide (CK x=Ab v)
def fR (sc:CS):Aa As:=sc.names.filterMap fun y=>if isL (Ab y.2) then Ab y.1 else none
def y8 (sc:CS):Aa As:=(sc.names.filterMap fun y=>if isL (Ab y.2)&&!(y.1 == (".0" : As)) then Ab y.1 else none)++sc.names.filterMap fun y=>if y.2 == .free then Ab y.1 else none
def Ck (b:Ao):Prop:=b=true
theorem ck {b:Ao}(h:b=true:=by kernel_rfl):Ck b:=h
structure DfS (F:DF)(P:A5)(w:AO)(K:Ai)(mg:As→Ak Ac)(base:AF)(cm:Ao)(k:Ah)(x:As)(n:Ah):Prop where
 get:Def P w K mg base cm k x n F
def okT (X:Cx)(m:Ah)(x:As):Ao:=decide (X.N[m]? = Ab x)&&(isL (X.env.scope.names.lookup x)&&(decide X.N.Nodup&&(X.fn x||decide (X.env.scope.names.lookup x=Ab .local))))
def okP (X:Cx)(m:Ah)(x:As):Ao:=decide (X.N[m]? = Ab x)&&decide (X.env.scope.names.lookup x=Ab .local)
def t9 (scX:CS)(NX:Aa As)(scope:CS)(cap:Aa (Ak Ah)):Ao:=
 decide (scope.kind=.function)&&(decide (∀ y∈scope.names,y.2=.local → scope.names.lookup y.1=Ab .local)&&(decide (∀ y∈scope.names,y.2≠.cell)&&(decide (∀ y∈scope.names,y.2=.free→scX.names.lookup y.1=Ab .cell∨scX.names.lookup y.1=Ab .free)
 && (decide (∀ y∈scope.names,y.2=.free→scope.names.lookup y.1=Ab .free)&&(decide (cap.length=(y8 scope).length)&&(((cap.zip (y8 scope)).all fun p=>match p.1 with|none=>true|some i=>NX[i]? == Ab p.2&&scope.names.lookup p.2 == Ab .free)&&decide (y8 scope).Nodup))))))
def fnB (N P:Aa As)(sc:CS):Ao:=
 decide (sc.kind=.function)&&(decide (sc.isCoroutine=false)&&(decide (sc.isGenerator=false)&&(decide N.Nodup&&(decide (N.take P.length=P)&&(decide (∀ x∈P,sc.names.lookup x=Ab .local ∨ sc.names.lookup x=Ab .cell)&&decide (∀ y∈sc.names,y.2≠.free))))))
theorem n6 {scX:CS}{NX:Aa As}{scope:CS}{cap:Aa (Ak Ah)}(h:t9 scX NX scope cap=true):CompSc scX NX scope (y8 scope) cap:=by
 simp only[t9,Ax,Bb] at h;obtain⟨a,b,c,d,e,f,g,k⟩:=h;exact⟨a,b,c,d,e,f,g,k⟩
theorem cV {N P:Aa As}{sc:CS}(h:fnB N P sc=true):FnScope N P sc:=by
 simp only[fnB,Ax,Bb] at h;obtain⟨a,b,c,d,e,f,g⟩:=h;exact⟨a,b,c,d,e,f,g⟩
section
variable {X:Cx}{a b c e o elt tg iter:AC}{ifs rest:Aa AC}{f g:DS}{fa:DE}{f2:DI2}{dg:DG}{t:DT}{kk:DK}{gens grest:Aa Cc}{scope:CS}{cap:Aa (Ak Ah)}{mm:Ao}{l q:Ah}{y z:As}{G2':G2}{es:Aa AC}{fA:DA}{x:As}{p pos:Cz}{cm:Ao}{k n m:Ah}{F:DF}
theorem YI {sc:CS}(h:isV (sc.names.lookup x)=true):Vis sc x:=by
 unfold Vis
 revert h
 cases sc.names.lookup x with
 |none=>intro h;cases h
 |some y=>cases y <;> intro h <;> first|cases h;done|exact .inl rfl|exact .inr (.inl rfl)|exact .inr (.inr rfl)
theorem YH {sc:CS}(h:isL (sc.names.lookup x)=true):_L.Loc sc x:=by
 unfold _L.Loc
 revert h
 cases sc.names.lookup x with
 |none=>intro h;cases h
 |some y=>cases y <;> intro h <;> first|cases h;done|exact .inl rfl|exact .inr rfl
theorem bK (h:okN x=true):(x == ("__debug__" : As))=false∧(x == ("__classdict__" : As))=false∧x ≠ "__name__":=by
 unfold okN at h;rw[Ax,Ax] at h;exact⟨by simpa using h.1,by simpa using h.2.1,by simpa using h.2.2⟩
theorem xW (h:okG X x=true):Gl X x∧(x == ("__debug__" : As))=false∧x ≠ "__name__":=by
 have h:=(Ax _ _).mp h;refine⟨?_,(bK h.2).1,(bK h.2).2.2⟩;have z:=h.1;unfold Gl
 revert z
 cases X.env.kindOf x with
 |none=>intro z;cases z
 |some y=>cases y <;> intro z <;> first|cases z;done|rfl
theorem lD (h:okT X m x=true):X.N[m]? = Ab x∧_L.Loc X.env.scope x∧X.N.Nodup∧(X.fn x=true∨X.env.scope.names.lookup x=Ab .local):=by
 simp only[okT,Ax,Bb,Nt] at h;exact⟨h.1,YH h.2.1,h.2.2⟩
theorem jI (h:okP X m x=true):X.N[m]? = Ab x∧X.env.scope.names.lookup x=Ab .local:=by
 simp only[okP,Ax,Bb] at h;exact h
theorem XS (h:Ck (okG X x)):Gl X x:=(xW h).1
theorem aV (h:Ck (decide (X.N[m]? = Ab x)&&(isV (X.env.scope.names.lookup x)&&okN x))):QE X (.Name x pos) (qB m):=by
 unfold Ck at h;simp only[Ax,Bb] at h;exact BO m h.1 (YI h.2.1) (bK h.2.2).1 (bK h.2.2).2.1
theorem aBt {nm:Bo}(h:Ck (okG X x))(hm:X.mg x=none)(hb:Ck (okB (.type nm) x)):QE X (.Name x pos) (dC (.ty nm)):=
 have h:=xW h
 VR h.1 hm (Bf hb) h.2.2 h.2.1
theorem aCl {C:Ad}(h:Ck (okG X x))(hm:X.mg x=Ab (.ref C)∧Cf X.K (.ref C)=true):QE X (.Name x pos) (dC (.obj C)):=
 have h:=xW h
 BE h.1 hm.1 hm.2 h.2.1
theorem aGi {v:Aj}(h:Ck (okG X x))(hm:∃ t,X.mg x=Ab (.int v t)):QE X (.Name x pos) (dC (.int v)):=
 have h:=xW h
 VS h.1 hm h.2.1
abbrev St1 (X:Cx)(e:AC)(es:Aa AC)(pos:Cz):Prop:=Az (e::es) X.env=(false,eval e X.env)::Az es X.env∧(CP pos (Az es X.env)).any (·.1)=false
theorem aN (G:DfS F X.prog X.w X.K X.mg X.base cm k x n)(hr:RoomC cm k X.A)(hF:Fn1 X)(h:Ck (okG X x))(ha:QA X (e::es) fA)(s:St1 X e es pos):QE X (.Call (.Name x p) (e::es) [] pos) (qN n F fA):=
 have h:=xW h
 qcN G.1 hr hF h.1 ha h.2.1 s.1 s.2
theorem aO (G:DfS F X.prog X.w X.K X.mg X.base cm k x n)(hr:RoomC cm k X.A)(h:Ck (okG X x))(ha:QA X (e::es) fA)(s:St1 X e es pos):QE X (.Call (.Name x p) (e::es) [] pos) (qN n (okO F) fA):=
 have h:=xW h
 qcO G.1 hr h.1 ha h.2.1 s.1 s.2
theorem aB {id:Bo}(hc:ZCall X (.builtin id) F)(h:Ck (okG X x))(hm:X.mg x=none)(hb:Ck (okB (.builtin id) x))(ha:QA X (e::es) fA)(s:St1 X e es pos):QE X (.Call (.Name x p) (e::es) [] pos) (qE F fA):=
 have h:=xW h
 ZM hc h.1 hm (Bf hb) ha h.2.2 h.2.1 s.1 s.2
theorem aT {T:Bo}(hc:ZCall X (.type T) F)(h:Ck (okG X x))(hm:X.mg x=none)(hb:Ck (okB (.type T) x))(ha:QA X (e::es) fA)(s:St1 X e es pos):QE X (.Call (.Name x p) (e::es) [] pos) (qE F fA):=
 have h:=xW h
 iH hc h.1 hm (Bf hb) ha h.2.2 h.2.1 s.1 s.2
theorem aC (S:Ck (t9 X.env.scope X.N scope cap))(hc:X.calm=true)(hi:QI2 X tg iter f2)(hg:∀ cl C ex s₀ H₀,QG (qT X (y8 scope) scope cl C ex s₀ H₀) tg dg)(ht:∀ cl C ex s₀ H₀,QTs (qT X (y8 scope) scope cl C ex s₀ H₀) ifs t)
  (has:∀ g',(⟨tg,iter,ifs,0⟩::grest:Aa Cc)[0+1]? = Ab g'→g'.is_async=0)
  (he:∀ cl C ex s₀ H₀,QK (qT X (y8 scope) scope cl C ex s₀ H₀) (fun acc=>zV elt (⟨tg,iter,ifs,0⟩::grest) scope pos 0 acc (qT X (y8 scope) scope cl C ex s₀ H₀).env) kk) (hs:∀ x,Ch iter X.env x=pure x) :
  QE X (.ListComp elt (⟨tg,iter,ifs,0⟩::grest) scope pos) (zA mm cap f2 dg t kk):=ZO hc (n6 S) hi hg ht has he hs
theorem aCs {py spos:Cz}(hsw:Gb (.ListComp elt (⟨tg,iter,ifs,0⟩::grest) scope pos) (Ab (.Name y py)) spos.line X.env=pure true)(S:Ck (t9 X.env.scope X.N scope cap))(hN:Ck (okT X m y))(hc:X.calm=true)(hi:QI2 X tg iter f2)(hg:∀ cl C ex s₀ H₀,QG (qT X (y8 scope) scope cl C ex s₀ H₀) tg dg)(ht:∀ cl C ex s₀ H₀,QTs (qT X (y8 scope) scope cl C ex s₀ H₀) ifs t)
  (has:∀ g',(⟨tg,iter,ifs,0⟩::grest:Aa Cc)[0+1]? = Ab g'→g'.is_async=0)
  (he:∀ cl C ex s₀ H₀,QK (qT X (y8 scope) scope cl C ex s₀ H₀) (fun acc=>zV elt (⟨tg,iter,ifs,0⟩::grest) scope pos 0 acc (qT X (y8 scope) scope cl C ex s₀ H₀).env) kk) (hs:∀ x,Ch iter X.env x=pure x) :
  QS X (.Assign [.Name y py] (.ListComp elt (⟨tg,iter,ifs,0⟩::grest) scope pos) spos) (zD (zA mm cap f2 dg t kk) (gNm m)):=
 have h:=lD hN
 ZR hc h.2.2.1 (n6 S) hi hg ht has he h.1 h.2.1 h.2.2.2 hsw hs
theorem aNm (h:Ck (okT X m x)):QG X (.Name x pos) (gNm m):=
 have h:=lD h
 VV h.2.2.1 h.1 h.2.1 h.2.2.2
theorem aSt {pos':Cz}(hs:Gb e (Ab (.Name x pos')) pos.line X.env=pure false)(he:QE X e fa)(h:Ck (okT X m x)):QS X (.Assign [.Name x pos'] e pos) (zD fa (gNm m)):=
 have h:=lD h
 BW h.2.2.1 he h.1 h.2.1 hs h.2.2.2
theorem aP2 {px py pt:Cz} {kt k2 pt2} (h:Ck (decide X.N.Nodup&&(okP X m x&&(okP X l y&&!decide (m=l))))) (hc:X.calm=true) (ha:QA X [a,b] fA)
  (hw:EQ [.Tuple [.Name x px,.Name y py] kt pt] (.Tuple [a,b] k2 pt2) X.env=pure (Ab [x,y])) (hs:ER [.Tuple [.Name x px,.Name y py] kt pt] (.Tuple [a,b] k2 pt2) pos.line X.env=pure false) :
  QS X (.Assign [.Tuple [.Name x px,.Name y py] kt pt] (.Tuple [a,b] k2 pt2) pos) (m4 m l fA):=by
 unfold Ck at h;simp only[Ax,Bb,EC,Ex] at h;exact BV hc h.1 ha (jI h.2.1).1 (jI h.2.2.1).1 h.2.2.2 (jI h.2.1).2 (jI h.2.2.1).2 hw hs
theorem aRs {C:Ad}{np cpos:Cz}(h:Ck (okG X x))(hc:X.calm=true)(hF:Fn1 X)(hm:∃ Ae,X.mg x=Ab (.ref C)∧pH X.K C Ae=true)(ha:QA X (e::rest) fA)(s:St1 X e rest cpos) :
  QS X (.Raise (Ab (.Call (.Name x np) (e::rest) [] cpos)) none pos) (gI (.ref C) fA):=
 have h:=xW h
 let ⟨_,hm,hx⟩:=hm
 ZS hc hF h.1 hm hx ha h.2.1 s.1 s.2
theorem aTr {nm:As}{body:Aa Cy}{b₀:Cy}{suite:Aa Cy}{np hpos:Cz}{cs:Aa Ac}(h:Ck (okG X x&&(okP X m nm&&(decide X.N.Nodup&&decide (X.N.length=n)))))(hF:Fn1 X)(hm:∃ C0,X.mg x=Ab (.ref C0)∧∀ c∈cs,Ek X.K c (.ref C0)=Ab true)(hb:∀ E pn,ZPass (Cx.tryIn X E pn)→QB (Cx.tryIn X E pn) body f)(hs:∀ e,QB (Cx.suite X e) (b₀::suite) g) :
  QS X (.Try body [.ExceptHandler (Ab (.Name x np)) (Ab nm) (b₀::suite) hpos] [] [] pos) (pT n m cs f g):=by
 unfold Ck at h;simp only[Ax,Bb] at h;obtain⟨C0,hm,hcs⟩:=hm;exact BX hF hb hs (xW h.1).1 hm hcs h.2.2.1 (jI h.2.1).1 (jI h.2.1).2 (xW h.1).2.1 h.2.2.2
theorem aTb {ie:AC}{fi:DE}{Fs:Aa (Ah × DF)}{lp sp:Cz}(hr:RoomC cm k X.A)(T:ZTab X cm k es Fs)(hF:Fn1 X)(hl:Ck (decide (Fs.length≤lim)))(hi:QE X ie fi)(ha:QA X (e::rest) fA)(hs:u9 ie)(s:St1 X e rest pos) :
  QE X (.Call (.Subscript (.List es lp) ie sp) (e::rest) [] pos) (pK Fs fi fA):=BM T hr hF (Bf hl) hi ha hs s.1 s.2
theorem aZt {j:Ah}{Fs:Aa (Ah × DF)}(G:DfS F X.prog X.w X.K X.mg X.base cm j x n)(hj:j≤k)(h:Ck (okG X x))(t:ZTab X cm k es Fs):ZTab X cm k (.Name x p::es) ((n,F)::Fs):=
 have h:=xW h
 o9 (G.1.mono hj) h.1 h.2.1 t
end
structure TxS (K:Ai)(mg:As→Ak Ac)(tp:Ah→Cy)(tab:Aa (As × Ah × Aa As))(bl:Aa As)(clt plt:Aa (As × Ad))(cs:Aa Ac)(exl:Aa Ad)(cst:Aa (As × Aj)):Prop where
 src:∀ (j:Ah) {x:As} {i:Ah} {ps:Aa As},tab[j]? = Ab (x,i,ps)→Src K mg x (tp i) ps
 nb:∀ {x:As},Ck (bl.contains x)→mg x=none
 cl:∀ {x:As} {C:Ad},clt.lookup x=Ab C→mg x=Ab (.ref C)∧Cf K (.ref C)=true
 rz:∀ {x:As} {C:Ad},plt.lookup x=Ab C→∃ Ae,mg x=Ab (.ref C)∧pH K C Ae=true
 ct:∃ C0,mg "FarError" = Ab (.ref C0)∧∀ c∈cs,Ek K c (.ref C0)=Ab true
 cls:ClsK K exl
 gi:∀ {x:As} {v:Aj},cst.lookup x=Ab v→∃ t,mg x=Ab (.int v t)
section
variable {K:Ai}{mg:As→Ak Ac}{cm:Ao}{tp:Ah→Cy}{tab:Aa (As × Ah × Aa As)}{bl:Aa As}{clt plt:Aa (As × Ad)}{cs:Aa Ac}{exl:Aa Ad}{cst:Aa (As × Aj)}{x:As}{i m:Ah}{ps:Aa As}{F:DF}{g:DS}
theorem dq (P:A5)(w:AO)(base:AF)(k j:Ah)(T:TxS K mg tp tab bl clt plt cs exl cst)(hj:tab[j]? = Ab (x,i,ps))(h:Ck (fnB (fR (qI (tp i))) ps (qI (tp i))&&decide ((fR (qI (tp i))).length=m)))(hF:F=qP m g)
  (hb:∀ (f:Ad) (cdv:Ac) (A:A8) (outer:Aa EA) (s:Ag) (H:Hp) (E:XK),RoomC cm k (A.deeper (Dk x (qI (tp i)) s.heap.objs.size f cdv)) →
   QB (cxC cm P w K mg base (fR (qI (tp i))) x (qI (tp i)) f cdv A outer s H E) (zR (tp i)) g):DfS F P w K mg base cm (k+1) x ps.length:=by
 unfold Ck at h;simp only[Ax,Bb] at h;obtain⟨h,rfl⟩:=h;exact⟨hF▸NR (T.src j hj) (cV h) rfl hb⟩
theorem dqP {P:A5}{w:AO}{base:AF}(k j:Ah)(T:TxS K mg tp tab bl clt plt cs exl cst)(hj:tab[j]? = Ab (x,i,ps))(h:Ck (fnB (fR (qI (tp i))) ps (qI (tp i))&&decide ((fR (qI (tp i))).length=m)))
  (hb:∀ (f:Ad) (cdv:Ac) (A:A8) (outer:Aa EA) (s:Ag) (H:Hp) (E:XK),RoomC cm k (A.deeper (Dk x (qI (tp i)) s.heap.objs.size f cdv)) →
   QB (cxC cm P w K mg base (fR (qI (tp i))) x (qI (tp i)) f cdv A outer s H E) (zR (tp i)) g):tN P w K mg base cm (k+1) x ps (qP m g):=by
 unfold Ck at h;simp only[Ax,Bb] at h;obtain⟨h,rfl⟩:=h;exact M6 (T.src j hj) (cV h) rfl hb
end
theorem hv {a b:Prop}(f:a→b)(h:a):b:=f h
inductive SrcF (K:Ai)(x:As)(st:Cy)(ps:Aa As):Prop
 |mk {f:Ad} {oc:Ac} {od an:Ak Ad} {osl:A4 (Ak Ac)} {kV doc pm cdv ct:Ac} (a:Bs K AT x=Ab (Ab (.ref f)))
  (l:K.lookup f=Ab ⟨oc,od,.func (Dy x x (wL st) (zR st) (qI st) .none kV doc pm an cdv ct),osl⟩) (c:Fy K cdv x=true) (k:Cf K (.ref f)=true):SrcF K x st ps
def rL (K:Ai)(tp:Ah→Cy):Aa (As × Ah × Aa As)→Prop
 |[]=>Hf
 |(x,i,ps)::t=>SrcF K x (tp i) ps∧rL K tp t
def BdF (tp:Ah→Cy):Aa (As × Ah × Aa As)→Prop
 |[]=>Hf
 |(x,i,ps)::t=>(∀ (kV doc pm:Ac) (an:Ak Ad) (cdv ct:Ac) (us:Aa Ac),us.length=ps.length→Nq (Dy x x (wL (tp i)) (zR (tp i)) (qI (tp i)) .none kV doc pm an cdv ct) ⟨us,[]⟩=pure (ps.zip us))∧BdF tp t
def rG (K:Ai):Aa (As × Ad)→Prop
 |[]=>Hf
 |(x,C)::t=>Bs K AT x=Ab (Ab (.ref C))∧rG K t
def rH (K:Ai):Aa (As × Aj)→Prop
 |[]=>Hf
 |(x,v)::t=>(∃ k,Bs K AT x=Ab (Ab (.int v k)))∧rH K t
def NY:Ak (Ak Ac)→Ao
 |some none=>true
 |_=>false
section
variable {K:Ai}{h:AF}{mg:As→Ak Ac}{tp:Ah→Cy}
theorem rC (X:K.In h)(G:h.Ns AT mg):∀ (tab:Aa (As × Ah × Aa As)),rL K tp tab→BdF tp tab→∀ (j:Ah) {x:As} {i:Ah} {ps:Aa As},tab[j]? = Ab (x,i,ps)→Src K mg x (tp i) ps
 |[],_,_,_,_,_,_,e=>by cases e
 |(x,i,ps)::t,H,B,0,_,_,_,e=>by
  cases e;obtain⟨a,l,c,k⟩:=H.1;exact FA X G a l c k B.1
 |(x,i,ps)::t,H,B,j+1,_,_,_,e=>rC X G t H.2 B.2 j e
theorem wC {β : Type}{p:As→β→Prop}{x:As}{C:β}:∀ {l:Aa (As × β)},(∀ y∈l,p y.1 y.2)→l.lookup x=Ab C→p x C
 |[],_,e=>by cases e
 |(y,b)::t,H,e=>by
  rw[Er] at e;cases q:x == y with
  |true =>
   rw[q] at e;cases e;rw[eq_of_beq q];exact H (y,_) (.head _)
  |false =>
   rw[q] at e;exact wC (fun z hz=>H z (.tail _ hz)) e
theorem gQ (X:K.In h)(G:h.Ns AT mg):∀ {l:Aa (As × Ad)},rG K l→∀ y∈l,mg y.1=Ab (.ref y.2)
 |(x,C)::t,H,y,hy=>by
  rcases AL.mp hy with rfl|hy
  ·exact Kk X G H.1
  ·exact gQ X G H.2 y hy
theorem dL (X:K.In h)(G:h.Ns AT mg):∀ {l:Aa (As × Aj)},rH K l→∀ y∈l,∃ k,mg y.1=Ab (.int y.2 k)
 |(x,C)::t,H,y,hy=>by
  rcases AL.mp hy with rfl|hy
  ·obtain⟨k,e⟩:=H.1
   exact⟨k,Kk X G e⟩
  ·exact dL X G H.2 y hy
theorem N4 {tab:Aa (As × Ah × Aa As)}{bl:Aa As}{clt plt:Aa (As × Ad)}{cs:Aa Ac}{exl:Aa Ad}{cst:Aa (As × Aj)}{far:Ad}(B:BdF tp tab)(hp:∀ y∈plt,y∈clt)(hf:clt.lookup ("FarError" : As)=Ab far)(X:K.In h)(G:h.Ns AT mg)
  (s:rL K tp tab) (z:(bl.all fun x=>NY (Bs K AT x))=true) (q:rG K clt) (g:rH K cst) (e1:exl.all (tZ K)=true) (e2:oS K=true) (e3:JH K exl=true) (e4:NQ K cs far=true) (e5:NO K (plt.map (·.2)) far=true) (e6:NP K (clt.map (·.2))=true):TxS K mg tp tab bl clt plt cs exl cst where
 src:=rC X G tab s B
 nb:=fun {x} hx=>by
  have e:=AR.mp z x (by simpa using CF.mp hx)
  refine PySem.W.mg_none_of X G ?_
  revert e
  cases Bs K AT x with
  |none=>intro e;cases e
  |some y=>cases y with
   |none=>intro _;rfl
   |some y=>intro e;cases e
 cl:=fun h=>⟨wC (p:=fun x C=>mg x=Ab (.ref C)) (gQ X G q) h,wC (p:=fun _ C=>Cf K (.ref C)=true) (fun y hy=>AR.mp e6 y.2 (Kl hy)) h⟩
 rz:=fun h=>⟨far,wC (p:=fun x C=>mg x=Ab (.ref C)) (fun y hy=>gQ X G q y (hp y hy)) h,wC (p:=fun _ C=>pH K C far=true) (fun y hy=>AR.mp e5 y.2 (Kl hy)) h⟩
 ct:=⟨far,wC (p:=fun x C=>mg x=Ab (.ref C)) (gQ X G q) hf,fun v hv=>Bf (AR.mp e4 v hv)⟩
 cls:=JI e1 e2 e3
 gi:=fun h=>wC (p:=fun x v=>∃ k,mg x=Ab (.int v k)) (dL X G g) h
end
theorem N7 {q:A5}{loose:Aa As}{XP:(As→Ak Ac)→AF→Prop}{r:PySem.W.RowW}{d:DefRec}{kwd:Aa (As × AC)}{run:Ac→Aa Ac→Fb Ac}{K:Ow→Ai}{as:Aa Ad}{n t:Ah}(e:∀ P,as=(K P).map (·.1))
  (h:Kc q loose XP (fun w h=>(K w.params).In h) r d kwd run):PySem.W.WalkX q loose XP (PySem.W.X.obsZ as) (PySem.W.X.valZ K n t) r d kwd run:=
 fun w s₀ s₁ mg mb G Y a o pm cd doc dV kV h1 h2 h3 h4 h5 h6 args vals as' L=>h w s₀ s₁ mg mb G (PySem.W.InK.keeps w _ _ (PySem.W.X.z_facts e Y).2.1 L.keeps) a o pm cd doc dV kV h1 h2 h3 h4 h5 h6 args vals as'
end _D
section
namespace _D
open PySem PySem.Spec PyProof.Rows _L
mutual
def zB:D→Aa Aj
 |.int n=>[1,n]
 |.tup xs=>2::qR xs
 |_=>[]
def qR:Aa D→Aa Aj
 |[]=>[0]
 |x::xs=>zB x++qR xs
end
mutual
def xE:D→D→Ao
 |.int _,.int _=>true
 |.tup xs,.tup ys=>xA xs ys
 |_,_=>false
def xA:Aa D→Aa D→Ao
 |x::xs,y::ys=>xE x y&&xA xs ys
 |_,_=>true
end
def ltN (a b:D):Ao:=_H.lexLt (zB a) (zB b)
def trb:Ah→D→Ao
 |_,.int _=>true
 |n+1,.tup xs=>xs.all (trb n)
 |_,_=>false
inductive Tr:Ah→D→Prop
 |int (n:Ah) (i:Aj):Tr n (.int i)
 |tup (n:Ah) (xs:Aa D) (h:∀ x∈xs,Tr n x):Tr (n+1) (.tup xs)
theorem N2:∀ {n:Ah} {d:D},trb n d=true→Tr n d:=by
 intro n
 induction n with
 |zero=>intro d h;cases d <;> first|exact .int _ _|exact AM h
 |succ n ih =>
  intro d h;cases d with
  |int i=>exact .int _ i
  |tup xs=>exact .tup n xs fun x hx=>ih (AR.mp (show xs.all (trb n)=true from h) x hx)
  |_=>exact AM h
theorem xX {n:Ah}{d:D}(h:Tr n d):∃ k r,zB d=k::r∧0<k:=by
 cases h with
 |int _ i=>exact⟨1,[i],rfl,by decide⟩
 |tup n xs=>exact⟨2,qR xs,rfl,by decide⟩
theorem zK (x:D)(xs:Aa D):qR (x::xs)=zB x++qR xs:=rfl
theorem mQ:∀ {xs ys:Aa D} {n m:Ah},(∀ x∈xs,Tr n x)→(∀ y∈ys,Tr m y)→(∀ x∈xs,∀ y∈ys,xE x y=true→∀ r r':Aa Aj,_H.lexLt (zB x++r) (zB y++r')=if eqD x y=true then _H.lexLt r r' else ltN x y)→xA xs ys=true →
  ∀ r r':Aa Aj,_H.lexLt (qR xs++r) (qR ys++r')=if xH xs ys=true then _H.lexLt r r' else _H.lexLt (qR xs) (qR ys)
 |[],[],_,_,_,_,_,_,r,r'=>rfl
 |[],y::ys,_,_,_,h2,_,_,r,r'=>by
  obtain⟨k,t,e,p⟩:=xX (h2 y (by simp))
  rw[A0 (by intro z;cases z),zK,e]
  show _H.lexLt (0::r) (k::_)=_H.lexLt [0] (k::_);rw[_H.lexLt_cons,_H.lexLt_cons,A0 om,A0 om]
 |x::xs,[],_,_,h1,_,_,_,r,r'=>by
  obtain⟨k,t,e,p⟩:=xX (h1 x (by simp))
  rw[A0 (by intro z;cases z),zK,e]
  show _H.lexLt (k::_) (0::r')=_H.lexLt (k::_) [0];rw[_H.lexLt_cons,_H.lexLt_cons,A0 om,A0 om]
 |x::xs,y::ys,_,_,h1,h2,h3,hc,r,r'=>by
  have hc':(xE x y&&xA xs ys)=true:=hc;rw[Ax] at hc';have ih:=mQ (fun z hz=>h1 z (by simp[hz])) (fun z hz=>h2 z (by simp[hz])) (fun z hz y' hy=>h3 z (by simp[hz]) y' (by simp[hy])) hc'.2
  rw[zK,zK,AQ,AQ,h3 x (by simp) y (by simp) hc'.1,h3 x (by simp) y (by simp) hc'.1,ih,kT]
  cases eqD x y <;> cases xH xs ys <;> simp
theorem Z4 {n:Ah}{a:D}(ha:Tr n a):∀ {m:Ah} {b:D},Tr m b→xE a b=true→∀ r r':Aa Aj,_H.lexLt (zB a++r) (zB b++r')=if eqD a b=true then _H.lexLt r r' else ltN a b:=by
 induction ha with
 |int n i =>
  intro m b hb hc r r';cases hb with
  |int _ j =>
   show _H.lexLt (1::i::r) (1::j::r')=if (i == j)=true then _ else _H.lexLt [1,i] [1,j]
   simp only[_H.lexLt_cons,AZ,EW]
   split <;> rfl
  |tup _ ys=>exact AM hc
 |tup n xs hx ih =>
  intro m b hb hc r r';cases hb with
  |int _ j=>exact AM hc
  |tup m ys hy =>
   have h:=mQ hx hy (fun x hx' y hy' hc'=>ih x hx' (hy y hy') hc') hc r r';show _H.lexLt (2::(qR xs++r)) (2::(qR ys++r'))=if xH xs ys=true then _ else _H.lexLt (2::qR xs) (2::qR ys)
   rw[_H.lexLt_cons,_H.lexLt_cons,AA rfl,AA rfl,h]
theorem uC {xs ys:Aa D}:ltN (.tup xs) (.tup ys)=_H.lexLt (qR xs) (qR ys):=by
 show _H.lexLt (2::_) (2::_)=_;rw[_H.lexLt_cons,AA rfl]
theorem wE {n m:Ah}{x y:D}{xs ys:Aa D}(hx:Tr n x)(hy:Tr m y)(hc:xE x y=true):_H.lexLt (qR (x::xs)) (qR (y::ys))=if eqD x y=true then _H.lexLt (qR xs) (qR ys) else ltN x y:=Z4 hx hy hc _ _
set_option tactic.hygienic true in
theorem uB (i j:Aj):ltN (.int i) (.int j)=decide (i<j):=by
 show _H.lexLt [1,i] [1,j]=_;rw[_H.lexLt_cons,AA rfl,_H.lexLt_cons]
 split
 ·rename_i h;subst h;simp[_H.lexLt_nil_nil]
 ·rfl
theorem mH:∀ {xs ys:Aa D} {n m:Ah},(∀ x∈xs,Tr n x)→(∀ y∈ys,Tr m y)→(∀ x∈xs,∀ y∈ys,∀ r r':Aa Aj,zB x++r=zB y++r'→x=y∧r=r')→∀ r r':Aa Aj,qR xs++r=qR ys++r'→xs=ys∧r=r'
 |[],[],_,_,_,_,_,r,r',e=>⟨rfl,by injection e⟩
 |[],y::ys,_,_,_,h2,_,r,r',e=>by
  obtain⟨k,t,e',p⟩:=xX (h2 y (by simp))
  rw[zK,e'] at e;injection e with e1 e2
  omega
 |x::xs,[],_,_,h1,_,_,r,r',e=>by
  obtain⟨k,t,e',p⟩:=xX (h1 x (by simp))
  rw[zK,e'] at e;injection e with e1 e2
  omega
 |x::xs,y::ys,_,_,h1,h2,h3,r,r',e=>by
  rw[zK,zK,AQ,AQ] at e;obtain⟨e1,e2⟩:=h3 x (by simp) y (by simp) _ _ e
  obtain⟨e3,e4⟩:=mH (fun z hz=>h1 z (by simp[hz])) (fun z hz=>h2 z (by simp[hz])) (fun z hz y' hy=>h3 z (by simp[hz]) y' (by simp[hy])) _ _ e2
  exact⟨by rw[e1,e3],e4⟩
theorem cD {n:Ah}{a:D}(ha:Tr n a):∀ {m:Ah} {b:D},Tr m b→∀ r r':Aa Aj,zB a++r=zB b++r'→a=b∧r=r':=by
 induction ha with
 |int n i =>
  intro m b hb r r' e;cases hb with
  |int _ j=>injection e with _ e;injection e with e1 e2;exact⟨by rw[e1],e2⟩
  |tup _ ys=>injection e with e _;cases e
 |tup n xs hx ih =>
  intro m b hb r r' e;cases hb with
  |int _ j=>injection e with e _;cases e
  |tup m ys hy =>
   injection e with _ e
   obtain⟨e1,e2⟩:=mH hx hy (fun x hx' y hy'=>ih x hx' (hy y hy')) r r' e;exact⟨by rw[e1],e2⟩
theorem pJ {n m:Ah}{a b:D}(ha:Tr n a)(hb:Tr m b)(e:zB a=zB b):a=b:=(cD ha hb [] [] (by rw[e])).1
theorem KK {n:Ah}{a:D}(ha:Tr n a):eqD a a=true:=by
 induction ha with
 |int n i=>show (i == i)=true;simp
 |tup n xs _ ih =>
  show xH xs xs=true;rw[v8];simp only[Ik,Pa,Kh,AR,DR];intro j hj;exact ih _ (by simp[EX,hj])
theorem v4:∀ {xs ys:Aa D},xA xs ys=true→∀ {j:Ah} {x y:D},xs[j]? = Ab x→ys[j]? = Ab y→xE x y=true
 |[],_,_,j,x,y,e,_=>by simp at e
 |_::_,[],_,j,x,y,_,e=>by simp at e
 |a::xs,b::ys,h,j,x,y,e1,e2=>by
  have h':(xE a b&&xA xs ys)=true:=h;rw[Ax] at h';cases j with
  |zero=>cases e1;cases e2;exact h'.1
  |succ j=>exact v4 h'.2 (j:=j) (by simpa using e1) (by simpa using e2)
theorem GK {a b c:D}(h1:ltN a b=false)(h2:ltN b c=false):ltN a c=false:=by
 cases h:ltN a c with
 |false=>rfl
 |true =>
  rcases _S.wU.tri h2 with e|e
  ·exact absurd (show ltN a b=true by unfold ltN at *;rw[e];exact h) (by rw[h1];simp)
  ·exact absurd (show ltN a b=true from _S.wU.tr h e) (by rw[h1];simp)
def gJ (xs:Aa D):Aa D:=_S.pV ltN xs
theorem gK (xs:Aa D):(gJ xs).Perm xs:=_S.uX xs
theorem mT (xs:Aa D):(gJ xs).map zB=_S.pV _H.lexLt (xs.map zB):=by
 refine _S.gZ _S.wU ?_ (_S.m5 _S.wU _) (((gK xs).map zB).trans (_S.uX _).symm);unfold _S.Nf;rw[CY];have:=Iq (le:=fun a b=>!ltN b a) (fun a b c h1 h2=>?_) (fun a b=>?_) xs
 ·exact this.imp fun {a b} h=>show ltN b a=false by simpa using h
 ·simp only[EC] at *
  exact GK h2 h1
 ·cases h:ltN b a with
  |false=>simp
  |true =>
   cases h':ltN a b with
   |false=>simp[h']
   |true=>exact absurd (_S.wU.tr h h') (by rw[_S.wU.irr];simp)
theorem V4 {xs ys:Aa D}(h:∀ x∈xs,∀ y∈ys,zB x=zB y→x=y)(e:xs.map zB=ys.map zB):xs=ys:=by
 induction xs generalizing ys with
 |nil=>cases ys with
  |nil=>rfl
  |cons y ys=>cases e
 |cons x xs ih =>
  cases ys with
  |nil=>cases e
  |cons y ys =>
   injection e with e1 e2
   rw[h x (by simp) y (by simp) e1,ih (fun a ha b hb=>h a (by simp[ha]) b (by simp[hb])) e2]
theorem UG {n:Ah}{xs ys:Aa D}(h:∀ x∈xs,Tr n x)(p:ys.Perm xs)(s:ys.Pairwise fun a b=>ltN b a=false):gJ xs=ys:=by
 refine V4 (fun a ha b hb=>pJ (h a ((gK xs).mem_iff.mp ha)) (h b (p.mem_iff.mp hb))) ?_;rw[mT];refine _S.gZ _S.wU (_S.m5 _S.wU _) ?_ ((_S.uX _).trans (p.map zB).symm);unfold _S.Nf;rw[CY];exact s
end _D
end
namespace _D
open PySem PySem.Spec PyProof.Rows _L PySem.SeqAt
def rK (A:A8)(s:Ag)(u v:Ac)(c:Ao):Prop:=∀ (prog:A5) (w:AO) (E:Ac→Ag→Prop) (Q:Ac→Ag→Prop),Q (.bool c) s→An (Ar prog w) A (Jb .Lt u v) Q E s
inductive LexV (A:A8)(s:Ag):Aa Ac→Aa Ac→Ao→Prop
 |nn:LexV A s [] [] false
 |nc (v:Ac) (vs:Aa Ac):LexV A s [] (v::vs) true
 |cn (u:Ac) (us:Aa Ac):LexV A s (u::us) [] false
 |eq (u v:Ac) (us vs:Aa Ac) (b:Ao) (he:Lj A s u v true) (h:LexV A s us vs b):LexV A s (u::us) (v::vs) b
 |ne (u v:Ac) (us vs:Aa Ac) (b:Ao) (he:Lj A s u v false) (h:rK A s u v b):LexV A s (u::us) (v::vs) b
section
open PySem.SeqAt
open PySem.AutoSeq1 (wpAny_loadPart')
open PySem.MeetsSeq PySem.MeetsSeq2 PySem.MeetsSeq3
theorem eW (l b:Ad)(items items2:A4 Ac)(n n2:Ah)(dd dd2:Ak Ad)(sl sl2:A4 (Ak Ac))(r:Ao) :
  Meets (EK.«tuple.__lt__» ⟨[.ref l,.ref b],[]⟩)
   (fun A R s=>s.heap.get? l=Ab { cls:=.type "tuple",dict:=dd,data:=.seq items n,slots:=sl } ∧ s.heap.get? b=Ab { cls:=.type "tuple",dict:=dd2,data:=.seq items2 n2,slots:=sl2 } ∧
    LexV A.in1 s items.toList items2.toList r∧R (.ok (.ret (.bool r))) s):=
 .of_wp fun prog w A R s h=>by
  obtain⟨hp,g,d,tk,os⟩:=s;obtain⟨hl,hb,hx,h⟩:=h;have f2:=Fk
  wp_walk using wpAny_loadPart' hl,wpAny_loadPart' hb,HZ _ (fun rest b s'=>b.1=none∧s'=⟨hp,g,d,tk,os⟩∧∃ (us vs:Aa Ac),rest=us.zip vs∧LexV A.in1 ⟨hp,g,d,tk,os⟩ us vs r∧us.length+items2.size=vs.length+items.size) _
  case turn =>
   rintro⟨y,x⟩ rest b s' ⟨hb',rfl,us,vs,hz,hx',hlen⟩;cases hx' with
   |nn=>cases hz
   |nc v vs=>cases hz
   |cn u us=>cases hz
   |eq u v us vs _ he h' =>
    rw[DH] at hz;injection hz with hyx hrest
    injection hyx with hy hx
    subst hy hx;refine Af (he prog w _ _ ?_)
    wp_walk
    exact⟨rfl,rfl,_,_,hrest,h',by simp only[AH] at hlen;omega⟩
   |ne u v us vs _ he h' =>
    rw[DH] at hz;injection hz with hyx hrest
    injection hyx with hy hx
    subst hy hx;refine Af (he prog w _ _ ?_);have hri:=h' prog w
    wp_walk using hri
    exact⟨_,rfl,by simpa using h⟩
  case fin =>
   rintro⟨b1,b2⟩ s' ⟨hb',rfl,us,vs,hz,hx',hlen⟩;simp only at hb';subst hb';have hv:r=decide (items.size<items2.size):=by
    cases hx' with
    |nn=>simp only[Bn] at hlen;exact(Bd om).symm
    |nc v vs=>simp only[Bn,AH] at hlen;exact(Bv om).symm
    |cn u us=>simp only[Bn,AH] at hlen;exact(Bd om).symm
    |eq u v us vs _ he h'=>cases hz
    |ne u v us vs _ he h'=>cases hz
   rw[hv] at h
   wp_walk
   exact⟨_,rfl,by simpa [Et] using h⟩
  case h =>
   exact⟨rfl,rfl,items.toList,items2.toList,rfl,hx,by simp;omega⟩
end
theorem Z6 {A:A8}{s:Ag}{l b:Ad}{items items2:A4 Ac}{r:Ao}(hl:s.heap.IsTuple l items)(hb:s.heap.IsTuple b items2)(hu:A.units<CI)(h:LexV A.in1 s items.toList items2.toList r):rK A s (.ref l) (.ref b) r:=by
 intro prog w E Q hQ;obtain⟨⟨cls,dd,data,sl⟩,ho,hc,n,hd⟩:=id hl;obtain⟨⟨cls2,dd2,data2,sl2⟩,ho2,hc2,n2,hd2⟩:=id hb;simp only at hc hd hc2 hd2;subst hc hd hc2 hd2;exact Ge (op:=.Lt) ⟨_,ho,rfl⟩ ⟨_,ho2,rfl⟩ PySem.F.slot_tuple_lt PySem.F.entry_tuple_lt (PySem.F.args_tuple_lt_2 _ _) (eW l b items items2 n n2 dd dd2 sl sl2 r)
  ⟨ho,ho2,h,show CN r≠Gr∧Q (.bool r) s from⟨(fun x=>nomatch x),hQ⟩⟩ hu
inductive TrV (h:AF):Ah→D→Ac→Prop
 |int (n:Ah) (i:Aj) (t:Js):TrV h n (.int i) (.int i t)
 |tup (n:Ah) (a:Ad) (xs:Aa D) (its:Aa Ac) (ht:h.IsTuple a its.toArray) (hl:xs.length=its.length) (hs:∀ (j:Ah) (x:D) (v:Ac),xs[j]? = Ab x→its[j]? = Ab v→TrV h n x v):TrV h (n+1) (.tup xs) (.ref a)
theorem TrV.tr {h:AF}{n:Ah}{d:D}{v:Ac}(t:TrV h n d v):Tr n d:=by
 induction t with
 |int n i t=>exact .int n i
 |tup n a xs its ht hl hs ih =>
  refine .tup n xs fun x hx=>?_;obtain⟨j,hj,e⟩:=Bq.mp hx;exact ih j x (its[j]' om) (by rw[Ap hj,e]) (Ap om)
theorem TrV.sup {h h':AF}(S:_S.Sup h h'){n:Ah}{d:D}{v:Ac}(t:TrV h n d v):TrV h' n d v:=by
 induction t with
 |int n i t=>exact .int n i t
 |tup n a xs its ht hl hs ih =>
  obtain⟨o,ho,r⟩:=ht;exact .tup n a xs its ⟨o,S _ _ ho,r⟩ hl ih
theorem TrV.det {h:AF}{n:Ah}{d:D}{v:Ac}(t:TrV h n d v):∀ {m:Ah} {d':D},TrV h m d' v→d=d':=by
 induction t with
 |int n i t=>intro m d' t';cases t' with|int _ _ _=>rfl
 |tup n a xs its ht hl hs ih =>
  intro m d' t';cases t' with
  |tup m _ ys its2 ht2 hl2 hs2 =>
   have e:=sC ht ht2;have e':its=its2:=by simpa using congrArg La e
   subst e';have:xs=ys:=Ia om fun j h1 h2=>ih j _ (its[j]' om) (Ap h1) (Ap om) (hs2 j _ _ (Ap h2) (Ap om));rw[this]
theorem TrV.eq {s:Ag}{n:Ah}{a:D}{u:Ac}(t:TrV s.heap n a u):∀ {m:Ah} {b:D} {v:Ac} {A:A8},TrV s.heap m b v→xE a b=true→A.units+n<CI→Lj A s u v (eqD a b):=by
 induction t with
 |int n i t =>
  intro m b v A t' hc hu;cases t' with
  |int _ j t'=>exact OO i t j t'
  |tup _ _ _ _ _ _ _=>exact AM hc
 |tup n a xs its ht hl hs ih =>
  intro m b v A t' hc hu;cases t' with
  |int _ j t'=>exact AM hc
  |tup m b ys its2 ht2 hl2 hs2 =>
   refine(XQ om ht ht2 hl hl2 (fun j h1 h2=>?_) fun e=>?_).eq
   ·have h1':j<its.length:=by simpa using h1
    have h2':j<its2.length:=by simpa using h2
    have e1:xs[j]? = Ab (xs.getD j .non):=by simp[EX,show j<xs.length by omega]
    have e2:ys[j]? = Ab (ys.getD j .non):=by simp[EX,show j<ys.length by omega]
    have f1:its[j]? = Ab its.toArray[j]:=by simp[h1']
    have f2:its2[j]? = Ab its2.toArray[j]:=by simp[h2']
    exact ih j _ _ e1 f1 (hs2 j _ _ e2 f2) (v4 hc e1 e2) (by show A.units+1+n<CI;omega)
   ·subst e
    have:=TrV.det (.tup n a xs its ht hl hs) (.tup m a ys its2 ht2 hl2 hs2);injection this with this
    subst this;exact KK (TrV.tr (.tup n a xs its ht hl hs))
theorem sH {A:A8}{s:Ag}:∀ {xs ys:Aa D} {us vs:Aa Ac} {n m:Ah},xs.length=us.length→ys.length=vs.length→(∀ x∈xs,Tr n x)→(∀ y∈ys,Tr m y)→xA xs ys=true →
  (∀ (j:Ah) (x y:D) (u v:Ac),xs[j]? = Ab x→ys[j]? = Ab y→us[j]? = Ab u→vs[j]? = Ab v→Lj A s u v (eqD x y)∧rK A s u v (ltN x y))→LexV A s us vs (_H.lexLt (qR xs) (qR ys))
 |[],[],[],[],_,_,_,_,_,_,_,_=>.nn
 |[],y::ys,[],v::vs,_,_,_,_,_,h2,_,_=>by
  obtain⟨k,t,e,p⟩:=xX (h2 y (by simp))
  have:_H.lexLt (qR []) (qR (y::ys))=true:=by
   rw[zK,e];show _H.lexLt [0] (k::_)=_;rw[_H.lexLt_cons,A0 om];exact Bv p
  rw[this];exact .nc v vs
 |x::xs,[],u::us,[],_,_,_,_,h1,_,_,_=>by
  obtain⟨k,t,e,p⟩:=xX (h1 x (by simp))
  have:_H.lexLt (qR (x::xs)) (qR []) = false:=by
   rw[zK,e];show _H.lexLt (k::_) [0]=_;rw[_H.lexLt_cons,A0 om];exact Bd om
  rw[this];exact .cn u us
 |x::xs,y::ys,u::us,v::vs,_,_,l1,l2,h1,h2,hc,h=>by
  have hc':(xE x y&&xA xs ys)=true:=hc;rw[Ax] at hc';obtain⟨e1,e2⟩:=h 0 x y u v rfl rfl rfl rfl;rw[wE (h1 x (by simp)) (h2 y (by simp)) hc'.1]
  cases hq:eqD x y with
  |true =>
   rw[hq] at e1;exact .eq u v us vs _ e1 (sH (by simpa using l1) (by simpa using l2) (fun z hz=>h1 z (by simp[hz])) (fun z hz=>h2 z (by simp[hz])) hc'.2 fun j a b c d q1 q2 q3 q4=>h (j+1) a b c d (by simpa using q1) (by simpa using q2) (by simpa using q3) (by simpa using q4))
  |false =>
   rw[hq] at e1;exact .ne u v us vs _ e1 e2
 |[],_,_::_,_,_,_,l1,_,_,_,_,_=>by simp at l1
 |_::_,_,[],_,_,_,l1,_,_,_,_,_=>by simp at l1
 |_,[],_,_::_,_,_,_,l2,_,_,_,_=>by simp at l2
 |_,_::_,_,[],_,_,_,l2,_,_,_,_=>by simp at l2
theorem TrV.lt {s:Ag}{n:Ah}{a:D}{u:Ac}(t:TrV s.heap n a u):∀ {m:Ah} {b:D} {v:Ac} {A:A8},TrV s.heap m b v→xE a b=true→A.units+n<CI→rK A s u v (ltN a b):=by
 induction t with
 |int n i t =>
  intro m b v A t' hc hu;cases t' with
  |int _ j t' =>
   intro prog w E Q hQ;rw[uB] at hQ;exact(Pb hQ:An (Ar prog w) A (Bj .Lt (.int i t) (.int j t')) Q E s)
  |tup _ _ _ _ _ _ _=>exact AM hc
 |tup n a xs its ht hl hs ih =>
  intro m b v A t' hc hu;cases t' with
  |int _ j t'=>exact AM hc
  |tup m b ys its2 ht2 hl2 hs2 =>
   have t1:=TrV.tr (.tup n a xs its ht hl hs);have t2:=TrV.tr (.tup m b ys its2 ht2 hl2 hs2);cases t1 with
   |tup _ _ t1 =>
    cases t2 with
    |tup _ _ t2 =>
     refine Z6 ht ht2 om ?_;rw[uC];refine sH (by simpa using hl) (by simpa using hl2) t1 t2 hc fun j x y u v e1 e2 e3 e4=>?_
     have hu':A.in1.units+n<CI:=by show A.units+1+n<CI;omega
     have e3':its[j]? = Ab u:=by simpa using e3
     have e4':its2[j]? = Ab v:=by simpa using e4
     exact⟨(hs j x u e1 e3').eq (hs2 j y v e2 e4') (v4 hc e1 e2) hu',ih j x u e1 e3' (hs2 j y v e2 e4') (v4 hc e1 e2) hu'⟩
section
variable {X:Cx}{pins:Aa (Ad × AV)}{σ : _L.St}{H P:Hp}{α : Aa Ad}{S:Sto}{s:Ag}
theorem o3 (I:Inv X pins σ H s)(r:Rel X.K H P α S):∀ (n:Ah) {d:D} {v:V} {u:Ac},trb n d=true→Rep X.K P α d v→qK v u→TrV s.heap n d u:=by
 intro n
 induction n with
 |zero =>
  intro d v u h p q;cases d with
  |int i=>simp only[Rep] at p;subst p;obtain⟨t,rfl⟩:=q;exact .int _ i t
  |_=>exact AM h
 |succ n ih =>
  intro d v u h p q;cases d with
  |int i=>simp only[Rep] at p;subst p;obtain⟨t,rfl⟩:=q;exact .int _ i t
  |tup xs =>
   obtain⟨a,vs,its,rfl,q1,t1,rv1,h1,l1,_⟩:=gL I r p;cases (show u=AY a from q)
   have la:=t1.length;have lb:=rv1.length;refine .tup n a xs its h1 om fun j x w e1 e2=>?_;obtain⟨y,f1,f2⟩:=t1.get e1;obtain⟨z,g1,g2⟩:=rv1.get f1;cases g1.symm.trans e2;exact ih (AR.mp (show xs.all (trb n)=true from h) x (DM e1)) f2 g2
  |_=>exact AM h
end
def neT:D→Ao
 |.tup (_::_)=>true
 |_=>false
def sOk (xs:Aa D):Ao:=xs.all fun a=>neT a&&trb 6 a&&xs.all fun b=>xE a b
theorem vW {xs:Aa D}(h:sOk xs=true){x:D}(hx:x∈xs):neT x=true∧Tr 6 x∧∀ y∈xs,xE x y=true:=by
 have:=AR.mp h x hx;simp only[Ax] at this;exact⟨this.1.1,N2 this.1.2,fun y hy=>AR.mp this.2 y hy⟩
def tyF:D→Ac
 |.tup (.int _::_)=>.type "int"
 |_=>.type "tuple"
def isN (h:AF)(k:Aa Aj)(v:Ac):Prop:=∃ d,TrV h 6 d v∧zB d=k
section
open PySem.W
variable {prog:A5}{w:AO}{h0:AF}
theorem l9 {A:A8}{s:Ag}{b:Ao}{Q:Ao→Ag→Prop}:∀ {xs ys:Aa D} {us vs:Aa Ac} {n m i N M:Ah},xs.length=us.length→ys.length=vs.length →
  (∀ (j:Ah) (x:D) (u:Ac),xs[j]? = Ab x→us[j]? = Ab u→TrV s.heap n x u)→(∀ (j:Ah) (x:D) (u:Ac),ys[j]? = Ab x→vs[j]? = Ab u→TrV s.heap m x u)→xA xs ys=true→A.units+n<CI→((b&&i == 0)=true→∀ x,xs[0]? = Ab x→∃ j,x=.int j) →
  N+vs.length=M+us.length→Q (_H.lexLt (qR xs) (qR ys)) s→KatLex prog w A b (decide (N<M)) Q (us.zip vs) i s
 |[],[],[],[],_,_,_,N,M,_,_,_,_,_,_,_,hl,h=>by
  have:decide (N<M)=false:=Bd (by simp at hl;omega)
  rw[this];exact h
 |[],y::ys,[],v::vs,_,_,_,N,M,_,_,_,h2,_,_,_,hl,h=>by
  have:decide (N<M)=true:=Bv (by simp at hl;omega)
  rw[this];obtain⟨k,t,e,p⟩:=xX (h2 0 y v rfl rfl).tr;rw[zK,e] at h;have q:_H.lexLt (qR []) (k::t++qR ys)=true:=by
   show _H.lexLt [0] (k::_)=_;rw[_H.lexLt_cons,A0 om];exact Bv p
  rw[q] at h;exact h
 |x::xs,[],u::us,[],_,_,_,N,M,_,_,h1,_,_,_,_,hl,h=>by
  have:decide (N<M)=false:=Bd (by simp at hl;omega)
  rw[this];obtain⟨k,t,e,p⟩:=xX (h1 0 x u rfl rfl).tr;rw[zK,e] at h;have q:_H.lexLt (k::t++qR xs) (qR []) = false:=by
   show _H.lexLt (k::_) [0]=_;rw[_H.lexLt_cons,A0 om];exact Bd om
  rw[q] at h;exact h
 |x::xs,y::ys,u::us,v::vs,n,m,i,N,M,l1,l2,h1,h2,hc,hu,hb,hl,h=>by
  have hc':(xE x y&&xA xs ys)=true:=hc;rw[Ax] at hc';have t1:=h1 0 x u rfl rfl;have t2:=h2 0 y v rfl rfl;rw[wE t1.tr t2.tr hc'.1] at h;rw[DH];refine kat_cons (t1.eq t2 hc'.1 hu prog w _ _ ?_);refine kat_go (fun e=>kat_yes ?_) fun e=>kat_no ?_
  ·rw[AA e] at h
   refine l9 (n:=n) (m:=m) (by simpa using l1) (by simpa using l2) (fun j a b e1 e2=>h1 (j+1) a b (by simpa using e1) (by simpa using e2)) (fun j a b e1 e2=>h2 (j+1) a b (by simpa using e1) (by simpa using e2)) hc'.2 hu (fun z=>?_) (by simp at hl;omega) h
   simp at z
  ·rw[A0 (by rw[e];simp)] at h
   cases hq:b&&i == 0 with
   |true =>
    obtain⟨j,rfl⟩:=hb hq x rfl;cases t1 with
    |int _ _ t =>
     cases t2 with
     |int _ k t' =>
      rw[uB] at h;exact oneLt_int h
     |tup _ _ _ _ _ _ _=>exact AM hc'.1
   |false=>exact kat_one _ _ (t1.lt t2 hc'.1 hu prog w _ _ h)
 |[],_,_::_,_,_,_,_,_,_,l1,_,_,_,_,_,_,_,_=>by simp at l1
 |_::_,_,[],_,_,_,_,_,_,l1,_,_,_,_,_,_,_,_=>by simp at l1
 |_,[],_,_::_,_,_,_,_,_,_,l2,_,_,_,_,_,_,_=>by simp at l2
 |_,_::_,_,[],_,_,_,_,_,_,l2,_,_,_,_,_,_,_=>by simp at l2
theorem UN {xs ys:Aa D}(hc:xE (.tup xs) (.tup ys)=true)(h1:xs≠[])(h2:ys≠[]){n m:Ah}(t1:Tr n (.tup xs))(t2:Tr m (.tup ys)):tyF (.tup xs)=tyF (.tup ys):=by
 cases xs with
 |nil=>exact absurd rfl h1
 |cons x xs =>
  cases ys with
  |nil=>exact absurd rfl h2
  |cons y ys =>
   have hc':(xE x y&&xA xs ys)=true:=hc;rw[Ax] at hc';cases t1 with
   |tup _ _ t1 =>
    cases t2 with
    |tup _ _ t2 =>
     have a1:=t1 x (by simp)
     have a2:=t2 y (by simp)
     cases a1 with
     |int _ i=>cases a2 with
      |int _ j=>rfl
      |tup _ _ _=>exact AM hc'.1
     |tup _ _ _=>cases a2 with
      |int _ j=>exact AM hc'.1
      |tup _ _ _=>rfl
theorem W7 {M:Fl}{h:AF}{T:Ac}:∀ {vs:Aa Ac},(∀ v∈vs,∃ d,TrV h 6 d v∧neT d=true∧tyF d=T)→∃ fs,KatTups h vs fs∧fs.length=vs.length∧∀ f∈fs,Looks M h (typeOf f) T
 |[],_=>⟨[],trivial,rfl,fun f hf=>by simp at hf⟩
 |v::vs,hv=>by
  obtain⟨fs,a1,a2,a3⟩:=W7 (M:=M) (vs:=vs) fun u hu=>hv u (by simp[hu])
  obtain⟨d,t,hn,ht⟩:=hv v (by simp)
  cases t with
  |int _ _ _=>cases hn
  |tup n a xs its hi hl hs =>
   cases xs with
   |nil=>cases hn
   |cons x xs =>
    cases its with
    |nil=>simp at hl
    |cons f its =>
     obtain⟨o,ho,hc,k,hd⟩:=hi;refine⟨f::fs,KatTups.cons ho hc hd rfl a1,by simp[a2],fun g hg=>?_⟩
     rcases AL.mp hg with rfl|hg
     ·have q:=hs 0 x g rfl rfl
      cases q with
      |int _ i tk =>
       rw[← ht];exact Looks.of_pure rfl
      |tup _ b ys jts hi2 _ _ =>
       obtain⟨o2,ho2,hc2,_⟩:=hi2;rw[← ht,show tyF (.tup (.tup ys::xs))=o2.cls from hc2.symm]
       exact(Looks.ld ho2).andThen .now
     ·exact a3 g hg
theorem JK {xs:Aa D}(ok:sOk xs=true){vs:Aa Ac}{ks:Aa (Aa Aj)}(hl:vs.length=ks.length)(hv:∀ i v,vs[i]? = Ab v→isN h0 (ks.getD i []) v)(hf:∀ k∈ks,∃ x∈xs,zB x=k)(h2:2≤vs.length):_S.Cmps prog w h0 vs (_S.tQ _H.lexLt ks []):=by
 have at':∀ i (hi:i<vs.length),∃ d,d∈xs∧TrV h0 6 d (vs.getD i Br)∧zB d=ks.getD i []:=fun i hi=>by
  obtain⟨d,t,e⟩:=hv i vs[i] (Ap hi);obtain⟨x,hx,e2⟩:=hf (ks.getD i []) (by simp[EX,show i<ks.length by omega])
  have:=pJ t.tr (vW ok hx).2.1 (e.trans e2.symm);subst this;exact⟨d,hx,by simpa [EX,hi] using t,e⟩
 obtain⟨d0,hd0,_,_⟩:=at' 0 om;have ty:∀ d∈xs,tyF d=tyF d0:=fun d hd=>by
  obtain⟨n1,t1,c1⟩:=vW ok hd;obtain⟨n2,t2,_⟩:=vW ok hd0;have c:=c1 d0 hd0;cases d with
  |tup as =>
   cases d0 with
   |tup bs=>exact UN c (fun z=>by subst z;cases n1) (fun z=>by subst z;cases n2) t1 t2
   |_=>cases n2
  |_=>cases n1
 refine⟨tuples' (tyF d0 != EN "tuple"),fun A hu s hS=>⟨fun Q E h=>?_,fun i j C hi hj h=>?_⟩⟩
 ·obtain⟨fs,a1,a2,a3⟩:=W7 (M:=Ar prog w) (h:=s.heap) (T:=tyF d0) (vs:=vs) fun v hm=>by
   obtain⟨i,hi,e⟩:=Bq.mp hm;obtain⟨d,q1,q2,_⟩:=at' i hi;have:vs.getD i Br=v:=by simp[EX,hi,e]
   rw[this] at q2;exact⟨d,q2.sup hS,(vW ok q1).1,ty d q1⟩
  refine kat_kind a1 om a3 ?_ h;unfold tyF
  split <;> decide
 ·obtain⟨a,a1,a2,a3⟩:=at' i hi
  obtain⟨b,b1,b2,b3⟩:=at' j hj;unfold _S.tQ at h;unfold kas_ask;rw[← a3,← b3] at h;have t1:=a2.sup hS;have t2:=b2.sup hS;obtain⟨n1,_,c1⟩:=vW ok a1;obtain⟨n2,_,_⟩:=vW ok b1;have tya:=ty a a1;have c:=c1 b b1;generalize vs.getD i Br=u at *;generalize vs.getD j Br=v at *;cases t1 with
  |int _ _ _=>cases n1
  |tup n p ps its hi1 l1 s1 =>
   cases t2 with
   |int _ _ _=>cases n2
   |tup m q qs jts hi2 l2 s2 =>
    obtain⟨o1,ho1,_,k1,d1⟩:=hi1;obtain⟨o2,ho2,_,k2,d2⟩:=hi2;have h':C (_H.lexLt (qR ps) (qR qs)) s:=by
     have:=@uC ps qs;unfold ltN at this;rw[this] at h;exact h
    refine kat_lt ho1 d1 ho2 d2 (l9 (n:=5) (m:=5) l1 l2 s1 s2 c om (fun z x hx=>?_) (by simp;omega) h')
    rw[← tya] at z;cases ps with
    |nil=>cases hx
    |cons x' ps =>
     cases hx;cases x with
     |int i=>exact⟨i,rfl⟩
     |_=>exact absurd z (by simp[tyF])
theorem MK {xs:Aa D}(ok:sOk xs=true):_S.Kind prog w (isN h0) (fun _=>0) _H.lexLt [] (fun k=>∃ x∈xs,zB x=k) h0:=
 ⟨_S.wU,fun {k k' v} ⟨d,t,e⟩ ⟨d',t',e'⟩=>by rw[← e,← e',t.det t'],fun h1 h2 h3 h4=>JK ok h1 h2 h3 h4⟩
end
def rV (xs:Aa D)(k:Aa Aj):D:=(xs.find? fun x=>zB x == k).getD .non
theorem dO {xs:Aa D}(ok:sOk xs=true){x:D}(hx:x∈xs):rV xs (zB x)=x:=by
 unfold rV;cases h:xs.find? fun y=>zB y == zB x with
 |none=>exact absurd (Ky.mp h x hx) (by simp)
 |some y =>
  have:=Nz h;exact pJ (vW ok (HL h)).2.1 (vW ok hx).2.1 (by simpa using this)
def kW:DF:=fun ds S=>match ds with
 |[d]=>match X0 d with
  |some xs=>if (decide (xs.length≤100000)&&sOk xs)=true then .ok (.lst (gJ xs)) S else .bad
  |none=>.bad
 |_=>.bad
section
variable {X:Cx}{pins:Aa (Ad × AV)}{σ : _L.St}{H P:Hp}{α : Aa Ad}{S:Sto}{s:Ag}
theorem oR (hu:X.A.units+64<CI):w6 X (.builtin "sorted") kW:=by
 intro pins σ H s P α S vs us ds Q I r rv rp af
 match ds,af,rp with
 |[],af,_=>exact Am af
 |_::_::_,af,_=>exact Am af
 |[d],af,rp =>
  simp only[kW] at af;cases hd:X0 d with
  |none=>rw[hd] at af;exact Am af
  |some xs =>
   rw[hd] at af;dsimp only at af;obtain⟨hl,af⟩:=wX (X:=X) af;rw[Ax,Bb] at hl;obtain⟨hl,ok⟩:=hl;obtain⟨v,u,rfl,rfl,p,q⟩:=yR rp rv;obtain⟨a,vs,its,rfl,t1,rv1,e1,l1⟩:=F7 I r p q hd;have at':∀ (i:Ah) (u:Ac),its[i]? = Ab u→∃ x vv,xs[i]? = Ab x∧TrV s.heap 6 x u∧qK vv u∧Rep X.K P α x vv:=fun i u hi=>by
    have hii:i<its.length:=(Ay.mp hi).1;have hx:xs[i]? = Ab xs[i]:=Ap om;obtain⟨y,f1,f2⟩:=t1.get hx;obtain⟨z,g1,g2⟩:=rv1.get f1;cases g1.symm.trans hi;refine⟨_,y,hx,o3 I r 6 ?_ f2 g2,g2,f2⟩;have:=AR.mp ok _ (Es (by omega:i<xs.length))
    simp only[Ax] at this;exact this.1.2
   have e:(_S.pV _H.lexLt (xs.map zB)).map (rV xs)=gJ xs:=by
    rw[← mT,DB]
    conv=>rhs;rw[← List.map_id (gJ xs)]
    exact Fa fun y hy=>dO ok ((gK xs).mem_iff.mp hy)
   have G:=iZ (X:=X) (pins:=pins) (σ:=σ) (H:=H) (P:=P) (α:=α) (S:=S) (E:=X.xe) (d:=[]) (MK (prog:=X.prog) (w:=X.w) (h0:=s.heap) ok) hu I r e1 (xs.map zB) (by simpa using l1) (fun i u hi=>by
     obtain⟨x,vv,q1,q2,_⟩:=at' i u hi;exact⟨x,q2,by simp[EX,q1]⟩) (by simpa using hl) (fun k hk=>by
     obtain⟨x,hx,e⟩:=AE.mp hk;exact⟨x,hx,e⟩) (rV xs) fun k u hk hm=>by
    obtain⟨i,hi,e⟩:=Bq.mp hm;obtain⟨x,vv,q1,q2,q3,q4⟩:=at' i u (by rw[Ap hi,e])
    obtain⟨d',t',e'⟩:=hk;have:=t'.det q2;subst this;rw[← e',dO ok (DM q1)];exact⟨vv,q3,q4⟩
   rw[e] at G;refine thn G fun u' s3 ⟨D,vs',e,hn,I',rp'⟩=>?_;subst e;exact⟨.ref D,_,I',rfl,vD r hn rp' af⟩
end
end _D
namespace _D
open PySem PySem.Spec PyProof.Rows _L
def yM (d:D)(S:Sto):Ak (Aa (Key × D)):=match d with
 |.loc n=>match S[n]? with
  |some (.dct kvs)=>Ab kvs
  |_=>none
 |_=>none
def gT:DF:=fun ds S=>match ds with
 |[d]=>match yM d S with
  |some kvs=>.ok (.int kvs.length) S
  |none=>.bad
 |_=>.bad
def fH:G2:=fun a b S=>match yM a S,wT b with
 |some kvs,Ab k=>match xJ kvs k with
  |some d=>.ok d S
  |none=>.bad
 |_,_=>.bad
def uS:Aa (Key × D)→Ak (Aa Aj)
 |[]=>Ab []
 |(.inl i,_)::r=>(uS r).map (i::·)
 |_::_=>none
theorem nS:∀ {kvs:Aa (Key × D)} {ns:Aa Aj},uS kvs=Ab ns→kvs.map (·.1)=ns.map DL
 |[],ns,h=>by cases h;rfl
 |(.inl i,d)::r,ns,h=>by
  obtain⟨m,h1,rfl⟩:=CB.mp (show (uS r).map (i::·)=Ab ns from h)
  rw[Bk,nS h1];rfl
 |(.inr x,d)::r,ns,h=>by cases h
theorem nZ {K:Ai}{P:Hp}{α : Aa Ad}:∀ {kvs:Aa (Key × D)} {vs:Aa (Key × V)},KVs K P α kvs vs→kvs.map (·.1)=vs.map (·.1)
 |_,_,.nil=>rfl
 |_,_,.cons z t=>by rw[Bk,Bk,z.1,nZ t]
theorem nW {prog:A5}{w:AO}{m:Aj}{v:Ac}(h:(zW prog w).is (.inl m) v=true):∃ t,v=.int m t:=by
 cases v with
 |int n t=>exact⟨t,by have:(n == m)=true:=h;rw[eq_of_beq this]⟩
 |_=>cases h
section
variable {X:Cx}{pins:Aa (Ad × AV)}{σ : _L.St}{H P:Hp}{α : Aa Ad}{S:Sto}{s:Ag}
set_option tactic.hygienic true in
theorem nG (r:Rel X.K H P α S){d:D}{kvs:Aa (Key × D)}{v:V}(h:yM d S=Ab kvs)(p:Rep X.K P α d v):∃ a ws,v=.ref a∧H a=Ab (.dK ws)∧KVs X.K P α kvs ws:=by
 unfold yM at h
 split at h
 ·split at h
  ·rename_i hS
   cases h;simp only[Rep] at p;obtain⟨b,rfl,q⟩:=p;obtain⟨ws,z,t⟩:=r.at' _ b _ q hS;exact⟨b,ws,rfl,z,t⟩
  ·cases h
 ·cases h
theorem WH:w6 X (.builtin "len") gT:=by
 intro pins σ H s P α S vs us ds Q I r rv rp af
 match ds,af,rp with
 |[],af,_=>exact Am af
 |_::_::_,af,_=>exact Am af
 |[d],af,rp =>
  simp only[gT] at af;cases hd:yM d S with
  |none=>rw[hd] at af;exact Am af
  |some kvs =>
   rw[hd] at af;obtain⟨v,u,rfl,rfl,p,q⟩:=yR rp rv;obtain⟨a,ws,rfl,z,t⟩:=nG r hd p;cases (show u=AY a from q)
   refine M1 I (.inl z) fun tk s' I'=>⟨.int ws.length,H,I',⟨tk,rfl⟩,xr af r ?_⟩;simp only[Rep];rw[fP t]
set_option tactic.hygienic true in
theorem JT {o i:AC}{fo fi:DE}{pos:Cz}(hu:X.A.units+1<CI)(ho:PE X o (tD X fo))(hi:PE X i (tD X fi))(hs:oE i:=by intro _ _;rfl):PE X (.Subscript o i pos) (tD X (d2 fH fo fi)):=by
 intro pins s σ H Q I h;obtain⟨P,α,env,S,r,re,af⟩:=h;refine UI PySem.F.slot_dict_getitem.lookup hs (thn (x0 ho I r re af) fun vv s1 ⟨v,H1,P1,α1,a,S1,G1,af1⟩=>?_);refine thn (x0 hi G1.inv G1.rel G1.env (P:=P1) (α:=α1) (Ok:=OkV X P1 α1 Q) (g:=fun y S2=>fH a y S2) (qU.base G1.same G1.pre af1)) fun uu s2 ⟨u,H2,P2,α2,b,S2,G2,af2⟩=>?_;have pa:=Rep.mono G2.same G2.pre _ _ G1.rep;have pb:=G2.rep;have I2:=G2.inv;have r2:=G2.rel;have af3:=qU.base G2.same G2.pre af2;unfold fH at af3
 split at af3
 ·rename_i kvs k hd hk
  split at af3
  ·rename_i d hv
   obtain⟨p,ws,rfl,z,t⟩:=nG r2 hd pa;have ei:=nV hk pb;subst ei;cases (show vv=AY p from G1.val)
   obtain⟨w,h1,h2⟩:=(fQ t).1 d hv;have g:pF H2 p (kV k) (Ab w):=.inl ⟨_,k,.inl z,rfl,h1.symm⟩;exact⟨d8 I2 g,cG hu I2 g G2.val fun w' s3 I3 rw'=>⟨w,H2,I3,rw',xr af3 r2 h2⟩⟩
  ·exact Am af3
 ·exact Am af3
end
def mOk (xs:Aa D):Ao:=xs.all fun a=>trb 6 a&&xs.all fun b=>xE a b
def lsD (d:D)(S:Sto):Ak (Aa D):=match d with
 |.lst xs=>Ab xs
 |.loc n=>match S[n]? with
  |some (.lst xs)=>Ab xs
  |_=>none
 |_=>none
section
variable {prog:A5}{w:AO}{A:A8}{R:IU→Ag→Prop}{I:Ad}{fp wr:Aa Ad}{n:Ah}{P:Ah→Ac→Prop}{St:Ah→AF→Prop}{bt:Ah→Ah→Ao}{S:Ad}{h0:AF}{kw:Aa (As × Ac)}
def oB (prog:A5)(w:AO)(A:A8)(h0:AF)(op:Lw)(P:Ah→Ac→Prop)(bt:Ah→Ah→Ao):Prop:=
 ∀ i j vi vj (s:Ag) (Q:Ac→Ag→Prop) (E:Ac→Ag→Prop),_S.Sup h0 s.heap→P i vi→P j vj→Q (.bool (bt i j)) s→An (Ar prog w) A (Jb op vi vj) Q E s
end
section
variable {X:Cx}{pins:Aa (Ad × AV)}{σ : _L.St}{H P:Hp}{α : Aa Ad}{S:Sto}{s:Ag}
set_option tactic.hygienic true in
theorem MM (I:Inv X pins σ H s)(r:Rel X.K H P α S){d:D}{xs:Aa D}{v:V}(h:lsD d S=Ab xs)(p:Rep X.K P α d v):∃ a vs its,v=.ref a∧qG X.K P α xs vs∧qM vs its∧s.heap.IsList a its.toArray∧xs.length=its.length:=by
 unfold lsD at h
 split at h
 ·cases h
  obtain⟨a,ws,its,n,rfl,_,t,rvi,e,l,_⟩:=vU I r p;exact⟨a,ws,its,rfl,t,rvi,⟨_,e,rfl,n,rfl⟩,l⟩
 ·split at h
  ·rename_i hS
   cases h;simp only[Rep] at p;obtain⟨b,rfl,q⟩:=p;obtain⟨ws,z,t⟩:=r.at' _ b _ q hS;obtain⟨its,rvi,pl,_⟩:=I.list (.inl (.inl z));exact⟨b,ws,its,rfl,t,rvi,pl.isList,by rw[t.length,rvi.length]⟩
  ·cases h
 ·cases h
theorem aQ {xs:Aa D}(h:mOk xs=true){x:D}(hx:x∈xs):trb 6 x=true∧∀ y∈xs,xE x y=true:=by
 have:=AR.mp h x hx;simp only[Ax] at this;exact⟨this.1,fun y hy=>AR.mp this.2 y hy⟩
end
section
variable {X:Cx}{cm:Ao}{k:Ah}{o i:AC}{fo fi:DE}{pos:Cz}
theorem UW (hr:RoomC cm k X.A):ZCall X (.builtin "sorted") kW:=⟨oR hr.units⟩
theorem FS:ZCall X (.builtin "len") gT:=⟨WH⟩
theorem BI (hr:RoomC cm k X.A)(ho:QE X o fo)(hi:QE X i fi)(hs:oE i:=by intro _ _;rfl):QE X (.Subscript o i pos) (d2 fH fo fi):=⟨JT (hu1 hr) ho.1 hi.1 hs⟩
end
end _D
namespace _D
open PySem PySem.Spec PyProof.Rows _L PySem.SeqAt
theorem dR {n:Ah}{a:D}(ha:Tr n a):∀ {m:Ah} {b:D},Tr m b→(eqD a b=true↔a=b):=by
 induction ha with
 |int n i =>
  intro m b hb;cases hb with
  |int _ j=>show (i == j)=true↔_;simp
  |tup _ ys _=>exact⟨fun h=>AM h,fun h=>by cases h⟩
 |tup n xs hx ih =>
  intro m b hb;cases hb with
  |int _ j=>exact⟨fun h=>AM h,fun h=>by cases h⟩
  |tup _ ys hy =>
   show xH xs ys=true↔_;have key:∀ (as bs:Aa D),(∀ a∈as,a∈xs)→(∀ b∈bs,b∈ys)→(xH as bs=true↔as=bs):=by
    intro as
    induction as with
    |nil=>intro bs _ _;cases bs with
     |nil=>exact⟨fun _=>rfl,fun _=>rfl⟩
     |cons b bs=>exact⟨fun h=>AM h,fun h=>by cases h⟩
    |cons a as ih2=>intro bs h1 h2;cases bs with
     |nil=>exact⟨fun h=>AM h,fun h=>by cases h⟩
     |cons b bs =>
      rw[kT,Ax,ih a (h1 a (by simp)) (hy b (h2 b (by simp))),ih2 bs (fun c hc=>h1 c (by simp[hc])) (fun c hc=>h2 c (by simp[hc])),List.cons.injEq]
   rw[key xs ys (fun _ h=>h) (fun _ h=>h),D.tup.injEq]
theorem QF {n m:Ah}{a b:D}(ha:Tr n a)(hb:Tr m b):eqD a b=eqD b a:=by
 rw[Oa,dR ha hb,dR hb ha];exact⟨Eq.symm,Eq.symm⟩
theorem cC {n:Ah}{a:D}(ha:Tr n a):∀ {m:Ah} {b:D},Tr m b→xE a b=true→xE b a=true:=by
 induction ha with
 |int n i =>
  intro m b hb h;cases hb with
  |int _ j=>rfl
  |tup _ ys _=>exact AM h
 |tup n xs hx ih =>
  intro m b hb h;cases hb with
  |int _ j=>exact AM h
  |tup _ ys hy =>
   have key:∀ (as bs:Aa D),(∀ a∈as,a∈xs)→(∀ b∈bs,b∈ys)→xA as bs=true→xA bs as=true:=by
    intro as
    induction as with
    |nil=>intro bs _ _ _;cases bs <;> rfl
    |cons a as ih2=>intro bs h1 h2 h;cases bs with
     |nil=>rfl
     |cons b bs =>
      have h':(xE a b&&xA as bs)=true:=h;rw[Ax] at h';show (xE b a&&xA bs as)=true;rw[ih a (h1 a (by simp)) (hy b (h2 b (by simp))) h'.1,ih2 bs (fun c hc=>h1 c (by simp[hc])) (fun c hc=>h2 c (by simp[hc])) h'.2]
      rfl
   exact key xs ys (fun _ h=>h) (fun _ h=>h) h
def rJ (A:A8)(s:Ag)(u v:Ac)(c:Ao):Prop:=∀ (prog:A5) (w:AO) (E:Ac→Ag→Prop) (Q:Ac→Ag→Prop),Q (.bool c) s→An (Ar prog w) A (Jb .Gt u v) Q E s
inductive LexW (A:A8)(s:Ag):Aa Ac→Aa Ac→Ao→Prop
 |nn:LexW A s [] [] false
 |nc (v:Ac) (vs:Aa Ac):LexW A s [] (v::vs) false
 |cn (u:Ac) (us:Aa Ac):LexW A s (u::us) [] true
 |eq (u v:Ac) (us vs:Aa Ac) (b:Ao) (he:Lj A s u v true) (h:LexW A s us vs b):LexW A s (u::us) (v::vs) b
 |ne (u v:Ac) (us vs:Aa Ac) (b:Ao) (he:Lj A s u v false) (h:rJ A s u v b):LexW A s (u::us) (v::vs) b
section
open PySem.SeqAt
open PySem.AutoSeq1 (wpAny_loadPart')
open PySem.MeetsSeq PySem.MeetsSeq2 PySem.MeetsSeq3
theorem eV (l b:Ad)(items items2:A4 Ac)(n n2:Ah)(dd dd2:Ak Ad)(sl sl2:A4 (Ak Ac))(r:Ao) :
  Meets (EK.«tuple.__gt__» ⟨[.ref l,.ref b],[]⟩)
   (fun A R s=>s.heap.get? l=Ab { cls:=.type "tuple",dict:=dd,data:=.seq items n,slots:=sl } ∧ s.heap.get? b=Ab { cls:=.type "tuple",dict:=dd2,data:=.seq items2 n2,slots:=sl2 } ∧
    LexW A.in1 s items.toList items2.toList r∧R (.ok (.ret (.bool r))) s):=
 .of_wp fun prog w A R s h=>by
  obtain⟨hp,g,d,tk,os⟩:=s;obtain⟨hl,hb,hx,h⟩:=h;have f2:=Fk
  wp_walk using wpAny_loadPart' hl,wpAny_loadPart' hb,HZ _ (fun rest b s'=>b.1=none∧s'=⟨hp,g,d,tk,os⟩∧∃ (us vs:Aa Ac),rest=us.zip vs∧LexW A.in1 ⟨hp,g,d,tk,os⟩ us vs r∧us.length+items2.size=vs.length+items.size) _
  case turn =>
   rintro⟨y,x⟩ rest b s' ⟨hb',rfl,us,vs,hz,hx',hlen⟩;cases hx' with
   |nn=>cases hz
   |nc v vs=>cases hz
   |cn u us=>cases hz
   |eq u v us vs _ he h' =>
    rw[DH] at hz;injection hz with hyx hrest
    injection hyx with hy hx
    subst hy hx;refine Af (he prog w _ _ ?_)
    wp_walk
    exact⟨rfl,rfl,_,_,hrest,h',by simp only[AH] at hlen;omega⟩
   |ne u v us vs _ he h' =>
    rw[DH] at hz;injection hz with hyx hrest
    injection hyx with hy hx
    subst hy hx;refine Af (he prog w _ _ ?_);have hri:=h' prog w
    wp_walk using hri
    exact⟨_,rfl,by simpa using h⟩
  case fin =>
   rintro⟨b1,b2⟩ s' ⟨hb',rfl,us,vs,hz,hx',hlen⟩;simp only at hb';subst hb';have hv:r=decide (items2.size<items.size):=by
    cases hx' with
    |nn=>simp only[Bn] at hlen;exact(Bd om).symm
    |nc v vs=>simp only[Bn,AH] at hlen;exact(Bd om).symm
    |cn u us=>simp only[Bn,AH] at hlen;exact(Bv om).symm
    |eq u v us vs _ he h'=>cases hz
    |ne u v us vs _ he h'=>cases hz
   rw[hv] at h
   wp_walk
   exact⟨_,rfl,by simpa [Et] using h⟩
  case h =>
   exact⟨rfl,rfl,items.toList,items2.toList,rfl,hx,by simp;omega⟩
end
theorem QU {A:A8}{s:Ag}{l b:Ad}{items items2:A4 Ac}{r:Ao}(hl:s.heap.IsTuple l items)(hb:s.heap.IsTuple b items2)(hu:A.units<CI)(h:LexW A.in1 s items.toList items2.toList r):rJ A s (.ref l) (.ref b) r:=by
 intro prog w E Q hQ;obtain⟨⟨cls,dd,data,sl⟩,ho,hc,n,hd⟩:=id hl;obtain⟨⟨cls2,dd2,data2,sl2⟩,ho2,hc2,n2,hd2⟩:=id hb;simp only at hc hd hc2 hd2;subst hc hd hc2 hd2;exact Ge (op:=.Gt) ⟨_,ho,rfl⟩ ⟨_,ho2,rfl⟩ Jc IK (Ip _ _) (eV l b items items2 n n2 dd dd2 sl sl2 r)
  ⟨ho,ho2,h,show CN r≠Gr∧Q (.bool r) s from⟨(fun x=>nomatch x),hQ⟩⟩ hu
theorem sI {A:A8}{s:Ag}:∀ {xs ys:Aa D} {us vs:Aa Ac} {n m:Ah},xs.length=us.length→ys.length=vs.length→(∀ x∈xs,Tr n x)→(∀ y∈ys,Tr m y)→xA xs ys=true →
  (∀ (j:Ah) (x y:D) (u v:Ac),xs[j]? = Ab x→ys[j]? = Ab y→us[j]? = Ab u→vs[j]? = Ab v→Lj A s u v (eqD x y)∧rJ A s u v (ltN y x))→LexW A s us vs (_H.lexLt (qR ys) (qR xs))
 |[],[],[],[],_,_,_,_,_,_,_,_=>.nn
 |[],y::ys,[],v::vs,_,_,_,_,_,h2,_,_=>by
  obtain⟨k,t,e,p⟩:=xX (h2 y (by simp))
  have:_H.lexLt (qR (y::ys)) (qR []) = false:=by
   rw[zK,e];show _H.lexLt (k::_) [0]=_;rw[_H.lexLt_cons,A0 om];exact Bd om
  rw[this];exact .nc v vs
 |x::xs,[],u::us,[],_,_,_,_,h1,_,_,_=>by
  obtain⟨k,t,e,p⟩:=xX (h1 x (by simp))
  have:_H.lexLt (qR []) (qR (x::xs))=true:=by
   rw[zK,e];show _H.lexLt [0] (k::_)=_;rw[_H.lexLt_cons,A0 om];exact Bv p
  rw[this];exact .cn u us
 |x::xs,y::ys,u::us,v::vs,_,_,l1,l2,h1,h2,hc,h=>by
  have hc':(xE x y&&xA xs ys)=true:=hc;rw[Ax] at hc';obtain⟨e1,e2⟩:=h 0 x y u v rfl rfl rfl rfl;rw[wE (h2 y (by simp)) (h1 x (by simp)) (cC (h1 x (by simp)) (h2 y (by simp)) hc'.1),← QF (h1 x (by simp)) (h2 y (by simp))]
  cases hq:eqD x y with
  |true =>
   rw[hq] at e1;exact .eq u v us vs _ e1 (sI (by simpa using l1) (by simpa using l2) (fun z hz=>h1 z (by simp[hz])) (fun z hz=>h2 z (by simp[hz])) hc'.2 fun j a b c d q1 q2 q3 q4=>h (j+1) a b c d (by simpa using q1) (by simpa using q2) (by simpa using q3) (by simpa using q4))
  |false =>
   rw[hq] at e1;exact .ne u v us vs _ e1 e2
 |[],_,_::_,_,_,_,l1,_,_,_,_,_=>by simp at l1
 |_::_,_,[],_,_,_,l1,_,_,_,_,_=>by simp at l1
 |_,[],_,_::_,_,_,_,l2,_,_,_,_=>by simp at l2
 |_,_::_,_,[],_,_,_,l2,_,_,_,_=>by simp at l2
theorem TrV.gt {s:Ag}{n:Ah}{a:D}{u:Ac}(t:TrV s.heap n a u):∀ {m:Ah} {b:D} {v:Ac} {A:A8},TrV s.heap m b v→xE a b=true→A.units+n<CI→rJ A s u v (ltN b a):=by
 induction t with
 |int n i t =>
  intro m b v A t' hc hu;cases t' with
  |int _ j t' =>
   intro prog w E Q hQ;rw[uB] at hQ;exact(Kj hQ:An (Ar prog w) A (Bj .Gt (.int i t) (.int j t')) Q E s)
  |tup _ _ _ _ _ _ _=>exact AM hc
 |tup n a xs its ht hl hs ih =>
  intro m b v A t' hc hu;cases t' with
  |int _ j t'=>exact AM hc
  |tup m b ys its2 ht2 hl2 hs2 =>
   have t1:=TrV.tr (.tup n a xs its ht hl hs);have t2:=TrV.tr (.tup m b ys its2 ht2 hl2 hs2);cases t1 with
   |tup _ _ t1 =>
    cases t2 with
    |tup _ _ t2 =>
     refine QU ht ht2 om ?_;rw[uC];refine sI (by simpa using hl) (by simpa using hl2) t1 t2 hc fun j x y u v e1 e2 e3 e4=>?_
     have hu':A.in1.units+n<CI:=by show A.units+1+n<CI;omega
     have e3':its[j]? = Ab u:=by simpa using e3
     have e4':its2[j]? = Ab v:=by simpa using e4
     exact⟨(hs j x u e1 e3').eq (hs2 j y v e2 e4') (v4 hc e1 e2) hu',ih j x u e1 e3' (hs2 j y v e2 e4') (v4 hc e1 e2) hu'⟩
def gU:DF:=fun ds S=>match ds with
 |[d]=>match (yM d S).bind uS with
  |some (i::ns)=>.ok (.int (ns.foldl max i)) S
  |_=>.bad
 |_=>.bad
section
variable {X:Cx}
theorem WI (hc:X.calm=true):w6 X (.builtin "max") gU:=by
 intro pins σ H s P α S vs us ds Q I r rv rp af
 match ds,af,rp with
 |[],af,_=>exact Am af
 |_::_::_,af,_=>exact Am af
 |[d],af,rp =>
  simp only[gU] at af;cases hb:(yM d S).bind uS with
  |none=>rw[hb] at af;exact Am af
  |some ms =>
   rw[hb] at af;obtain⟨kvs,hd,hi⟩:=DP.mp hb;cases ms with
   |nil=>exact Am af
   |cons i ns =>
    obtain⟨v,u,rfl,rfl,p,q⟩:=yR rp rv;obtain⟨a,ws,rfl,z,t⟩:=nG r hd p;cases (show u=AY a from q)
    obtain⟨hz,hm,us,rel,dd⟩:=rX I.hok z;obtain⟨ep,da⟩:=dd.dictAt;have hks:us.map (·.1)=(i::ns).map DL:=by rw[← rel.keys,← nZ t,nS hi]
    have hul:us.length=ns.length+1:=by simpa using congrArg Ep hks
    have old:a<s.heap.objs.size:=by obtain⟨o,_,ho,_⟩:=da;exact Av ho
    have W:=Walks.dictKeys (knd:=zW X.prog X.w) (A:=X.A.in1) (I.ok.hd hc) s.heap.objs.size a (Bm old) us ep;refine call_max_walk (wpAny_pyIter_dict hm da ⟨s.heap.objs.size,_,_,_,_,_,fun i' j'=>decide ((i::ns).getD i' 0>(i::ns).getD j' 0),rfl,W,⟨⟨_,AN _ rfl,rfl,rfl⟩,da.at' fun o e=>Al _ e⟩,fun b hb'=>?_,by omega,CmpOf.ints_gt _ fun j v hj=>?_,fun v h' tk hv hk=>?_⟩)
    ·show b<(s.heap.push _).objs.size
     rw[Dc];simp only[AL,Bi,Du] at hb';rcases hb' with rfl|rfl
     ·exact Ni _
     ·exact HK old
    ·obtain⟨k,x,e,hkk⟩:=hj
     have e2:(us.map (·.1))[j]? = Ab k:=by rw[CD,e];rfl
     rw[hks,CD] at e2;obtain⟨m,e3,e4⟩:=CB.mp e2;subst e4;have:(i::ns).getD j 0=m:=by rw[Cw,e3];rfl
     rw[this];exact nW hkk
    ·obtain⟨k,x,e,hkk⟩:=hv
     obtain⟨b1,b2⟩:=argBest_gt (fun j=>(i::ns).getD j 0) (us.length-1);generalize Eh (fun i' j'=>decide ((i::ns).getD i' 0>(i::ns).getD j' 0)) (us.length-1)=m at b1 b2 e;have e2:(us.map (·.1))[m]? = Ab k:=by rw[CD,e];rfl
     rw[hks,CD] at e2;obtain⟨y,e3,e4⟩:=CB.mp e2;subst e4;obtain⟨t',rfl⟩:=nW hkk;have hy:(i::ns).getD m 0=y:=by rw[Cw,e3];rfl
     rw[hy] at b2;obtain⟨f1,f2⟩:=nO ns i;have hM:y=ns.foldl max i:=by
      refine Ob (f2 _ (DM e3)) ?_;obtain⟨j,hj,ej⟩:=Bq.mp f1;have:=b2 j (by simp at hj;omega)
      rw[← ej];rw[Cw,Ap hj] at this;exact this
     refine⟨.int y,H,I.kept (t':=tk) fun b o e=>hk b o (fun hm'=>?_) (Al _ e),⟨t',rfl⟩,xr af r (by simp only[Rep];rw[hM])⟩
     simp only[AL,Bi,Du] at hm';subst hm';exact absurd (Av e) (Cg _)
end
def btX (xs:Aa D)(i j:Ah):Ao:=ltN (xs.getD j .non) (xs.getD i .non)
def lB (xs:Aa D):D:=xs.getD (Eh (btX xs) (xs.length-1)) .non
theorem J7 (xs:Aa D):∀ k,Eh (btX xs) k≤k∧∀ j,j≤k→btX xs j (Eh (btX xs) k)=false
 |0=>⟨Aw _,fun j hj=>by
  have:j=0:=by omega
  subst this;exact _S.wU.irr _⟩
 |k+1=>by
  obtain⟨h1,h2⟩:=J7 xs k;rw[Eh];cases h:btX xs (k+1) (Eh (btX xs) k) with
  |true =>
   rw[AA rfl];refine⟨Aw _,fun j hj=>?_⟩;cases q:btX xs j (k+1) with
   |false=>rfl
   |true =>
    by_cases hk:j=k+1
    ·subst hk;exact absurd (_S.wU.irr _) (by unfold btX ltN at q;rw[q];simp)
    ·exact absurd (show btX xs j (Eh (btX xs) k)=true from _S.wU.tr h q) (by rw[h2 j om];simp)
  |false =>
   rw[A0 (by simp)]
   refine⟨by omega,fun j hj=>?_⟩
   by_cases hk:j=k+1
   ·subst hk;exact h
   ·exact h2 j om
theorem aR {xs:Aa D}(h:0<xs.length):lB xs∈xs∧∀ y∈xs,ltN (lB xs) y=false:=by
 obtain⟨h1,h2⟩:=J7 xs (xs.length-1);have hm:Eh (btX xs) (xs.length-1)<xs.length:=by omega
 refine⟨by unfold lB;rw[Cw,Ap hm];exact Es _,fun y hy=>?_⟩
 obtain⟨j,hj,e⟩:=Bq.mp hy;have:=h2 j om;unfold btX at this;rw[show xs.getD j D.non=xs[j] by rw[Cw,Ap hj];rfl] at this
 rw[← e];exact this
section
variable {prog:A5}{w:AO}{A:A8}{R:IU→Ag→Prop}{I:Ad}{fp wr:Aa Ad}{n:Ah}{P:Ah→Ac→Prop}{St:Ah→AF→Prop}{bt:Ah→Ah→Ao}{S:Ad}{h0:AF}{kw:Aa (As × Ac)}
theorem bJ:(toString "max" ++ toString ".loop" : Bo) = "max.loop":=by decide
theorem ZD (W:Walks prog w A.in1 I fp wr n P St)(hcmp:oB prog w A.in1 h0 .Gt P bt)(hf:S ∉ fp)(hS0:h0.get? S=none)(hw0:∀ b∈wr,h0.get? b=none) :
  ∀ (k j:Ah) (s:Ag) (u:Ac) (c:Ah),j+1+k=n→_S.Sup h0 s.heap→St (j+1) s.heap→P (Eh bt j) u→s.heap.get? S=Ab { cls:=.type "list",dict:=none,data:=.seq #[u,u] c,slots:=#[] } →
  (∀ v h' tk,P (Eh bt (n-1)) v→(∀ b o,b ∉ wr→b≠S→s.heap.get? b=Ab o→h'.get? b=Ab o)→R (.ok (.ret v)) { s with heap:=h',toks:=tk }) →
  Ec (Ar prog w) A (.builtin "max.loop" ⟨[.ref I,.none,.ref S],kw⟩) R s:=by
 have hw:S ∉ wr:=fun z=>hf (W.sub _ z);intro k
 induction k with
 |zero =>
  intro j s u c hk hs st hu hS hR;have hn:j+1=n:=by omega
  subst hn;refine Gz Gg ?_;rw[Gs CT _];refine Af (CZ hS rfl ?_);refine Af (Hs (W.done s _ _ st fun h' tk q=>?_));refine Af ?_;exact IN (q S _ hw hS) rfl (Af (ED (Aq (hR u _ tk hu fun b o z1 z2 e=>(Bh _ _ (DC z2)).trans (q b o z1 e)))))
 |succ k ih =>
  intro j s u c hk hs st hu hS hR;refine Gz Gg ?_;rw[Gs CT _];refine Af (CZ hS rfl ?_);refine Af (Hs (W.item (j+1) s _ _ om st fun v h' tk hv st' q=>?_));have hS':=q S _ hw hS;have hs':_S.Sup h0 h':=fun b o e=>q b o (fun z=>by rw[hw0 b z] at e;cases e) (hs b o e)
  refine Af (Aq ?_);refine Af (Hs (CJ (Af (hcmp (j+1) (Eh bt j) v u _ _ _ hs' hv hu ?_))));refine Af (CJ (Lx ?_));refine Af (ED (Aq ?_));cases hb:bt (j+1) (Eh bt j) with
  |true =>
   rw[AA rfl];refine Af ?_;refine IN hS' rfl (Af (ED ?_));rw[bJ];refine Aq ⟨HM CT _,ih (j+1) _ v _ om (fun b o e=>(Bh _ _ fun y:S=b=>by rw[← y,hS0] at e;cases e).trans (hs' b o e)) (W.frame _ _ _ st' fun b z o e=>(Bh _ _ fun y:S=b=>hf (y▸z)).trans e) ?_ (EB _ hS' rfl) fun v' h2 tk2 p2 q2=>hR v' h2 tk2 p2 fun b o z1 z2 e=>q2 b o z1 z2 ((Bh _ _ (DC z2)).trans (q b o z1 e))⟩
   rw[Eh,AA hb];exact hv
  |false =>
   rw[A0 (by simp)]
   refine Af (ED ?_);rw[bJ];refine Aq ⟨HM CT _,ih (j+1) _ u c om hs' st' ?_ hS' fun v' h2 tk2 p2 q2=>hR v' h2 tk2 p2 fun b o z1 z2 e=>q2 b o z1 z2 (q b o z1 e)⟩;rw[Eh,A0 (by rw[hb];simp)]
   exact hu
theorem i0 (W:Walks prog w A.in1 I fp wr n P St)(hcmp:oB prog w A.in1 h0 .Gt P bt)(hf:S ∉ fp)(hS0:h0.get? S=none)(hw0:∀ b∈wr,h0.get? b=none){s:Ag}{c:Ah}(hs:_S.Sup h0 s.heap)(st:St 0 s.heap)(hn:0<n)(hS:s.heap.get? S=Ab { cls:=.type "list",dict:=none,data:=.seq #[] c,slots:=#[] })
  (hR:∀ v h' tk,P (Eh bt (n-1)) v→(∀ b o,b ∉ wr→b≠S→s.heap.get? b=Ab o→h'.get? b=Ab o)→R (.ok (.ret v)) { s with heap:=h',toks:=tk }) :
  Ec (Ar prog w) A (.builtin "max.loop" ⟨[.ref I,.none,.ref S],kw⟩) R s:=by
 have hw:S ∉ wr:=fun z=>hf (W.sub _ z);refine Gz Gg ?_;rw[Gs CT _];refine Af (CZ hS rfl ?_);refine Af (Hs (W.item 0 s _ _ hn st fun v h' tk hv st' q=>?_));have hS':=q S _ hw hS;have hs':_S.Sup h0 h':=fun b o e=>q b o (fun z=>by rw[hw0 b z] at e;cases e) (hs b o e)
 refine Af (Aq ?_);refine Af ?_;refine IN hS' rfl ?_;rw[bJ];refine Aq ⟨HM CT _,ZD W hcmp hf hS0 hw0 (n-1) 0 _ v _ om (fun b o e=>(Bh _ _ fun y:S=b=>by rw[← y,hS0] at e;cases e).trans (hs' b o e)) (W.frame _ _ _ st' fun b z o e=>(Bh _ _ fun y:S=b=>hf (y▸z)).trans e) hv (EB _ hS' rfl) fun v' h2 tk2 p2 q2=>hR v' h2 tk2 p2 fun b o z1 z2 e=>q2 b o z1 z2 ((Bh _ _ (DC z2)).trans (q b o z1 e))⟩
end
section
variable {prog:A5}{w:AO}{A:A8}{E:Ac→Ag→Prop}{s:Ag}{l:Ad}{its:A4 Ac}
theorem ZC {bt:Ah→Ah→Ao}{Q:Ac→Ag→Prop}(hh:A.handled=none)(hl:s.heap.IsList l its)(hn:0<its.size)(hcmp:oB prog w A.in1 s.heap .Gt (fun i v=>its[i]? = Ab v) bt)
  (h:∀ v h' tk,its[Eh bt (its.size-1)]? = Ab v→(∀ b o,s.heap.get? b=Ab o→h'.get? b=Ab o)→Q v { s with heap:=h',toks:=tk }) : An (Ar prog w) A (call (.builtin "max") [.ref l]) Q E s:=by
 have hlt:l<s.heap.objs.size:=by obtain⟨_,e,_⟩:=hl;exact Av e
 have none_at:∀ b,s.heap.objs.size≤b→s.heap.get? b=none:=fun b hb=>by
  cases q:s.heap.get? b with
  |none=>rfl
  |some o=>exact absurd (Av q) (Ke.mpr hb)
 refine call_function_tree PySem.F.kind_max PySem.F.plain_max PySem.F.entry_max (PySem.F.args_max1 _) ?_;refine Af (IY (show Ov "max" ["key","default"] 0 ⟨[],[]⟩ = pure [none,none] from rfl) ?_)
 refine Af (Aq ?_);refine Af (DN hl ?_);refine Af (CV ?_);have W:=Walks.list (prog:=prog) (w:=w) (A:=A.in1) hh s.heap.objs.size l (Bm hlt) its;rw[bJ];have sz:(s.heap.push { cls:=.type "list_iterator",data:=.fields #[.ref l,.int 0 0] }).objs.size=s.heap.objs.size+1:=Dc ..;refine Aq ⟨HM CT _,i0 (h0:=s.heap) W hcmp ?_ (none_at _ (by rw[sz];exact Nh _)) (fun b hb=>?_) (fun b o e=>Al _ (Al _ e)) (W.frame _ _ _ ⟨⟨_,AN _ rfl,rfl,rfl⟩,hl.push _⟩ fun b _ o e=>Al _ e) hn (AN _ rfl) fun v h' tk hv q=>?_⟩
 ·rw[sz]
  simp only[AL,Bi,Du,O1];exact⟨Nat.succ_ne_self _,DC (Bm (HK hlt))⟩
 ·simp only[AL,Bi,Du] at hb
  subst hb;exact none_at _ (Aw _)
 ·refine h v h' tk hv fun b o e=>q b o (fun hm=>?_) (fun hm=>?_) (Al _ (Al _ e))
  ·simp only[AL,Bi,Du] at hm
   subst hm;exact absurd (Av e) (Cg _)
  ·subst hm
   exact absurd (Av e) (by rw[sz];exact Ke.mpr (Nh _))
end
def b9:DF:=fun ds S=>match ds with
 |[d]=>match lsD d S with
  |some (x::xs)=>if mOk (x::xs)=true then .ok (lB (x::xs)) S else .bad
  |_=>.bad
 |_=>.bad
section
variable {X:Cx}{pins:Aa (Ad × AV)}{σ : _L.St}{H P:Hp}{α : Aa Ad}{S:Sto}{s:Ag}
theorem WJ (hc:X.calm=true)(hu:X.A.units+64<CI):w6 X (.builtin "max") b9:=by
 intro pins σ H s P α S vs us ds Q I r rv rp af
 match ds,af,rp with
 |[],af,_=>exact Am af
 |_::_::_,af,_=>exact Am af
 |[d],af,rp =>
  simp only[b9] at af;cases hd:lsD d S with
  |none=>rw[hd] at af;exact Am af
  |some xs =>
   rw[hd] at af;cases xs with
   |nil=>exact Am af
   |cons x xs =>
    dsimp only at af;obtain⟨ok,af⟩:=wX (X:=X) af;obtain⟨v,u,rfl,rfl,p,q⟩:=yR rp rv;obtain⟨a,ws,its,rfl,t,rvi,hl,ll⟩:=MM I r hd p;cases (show u=AY a from q)
    have at':∀ (i:Ah) (u:Ac),its.toArray[i]? = Ab u→∃ vv,TrV s.heap 6 ((x::xs).getD i .non) u∧qK vv u∧Rep X.K P α ((x::xs).getD i .non) vv∧(x::xs).getD i .non∈x::xs:=fun i u hi=>by
     have hi':its[i]? = Ab u:=by simpa using hi
     have hii:i<its.length:=(Ay.mp hi').1;have hx:(x::xs)[i]? = Ab ((x::xs)[i]' om):=Ap om;obtain⟨y,f1,f2⟩:=t.get hx;obtain⟨z,g1,g2⟩:=rvi.get f1;cases g1.symm.trans hi';have e:(x::xs).getD i .non=(x::xs)[i]' om:=by rw[Cw,hx];rfl
     rw[e];exact⟨y,o3 I r 6 (aQ ok (Es _)).1 f2 g2,g2,f2,Es _⟩
    have hz:its.toArray.size=xs.length+1:=by simp only[AB];rw[← ll];rfl
    refine ZC (bt:=btX (x::xs)) (I.ok.hd hc) hl om (fun i j vi vj s' Q' E' hs hi hj hQ=>?_) fun v h' tk hv hk=>?_
    ·obtain⟨_,t1,_,_,m1⟩:=at' i vi hi
     obtain⟨_,t2,_,_,m2⟩:=at' j vj hj;exact(t1.sup hs).gt (t2.sup hs) ((aQ ok m1).2 _ m2) (by show X.A.units+1+6<CI;omega) _ _ _ _ hQ
    ·obtain⟨vv,_,rv',rp',_⟩:=at' _ v hv
     rw[hz] at rp';exact⟨vv,H,I.kept (t':=tk) hk,rv',xr af r rp'⟩
end
end _D
namespace _D
open PySem PySem.Spec PyProof.Rows _L
section
variable {X:Cx}{cm:Ao}{k:Ah}
theorem FT (hc:X.calm=true):ZCall X (.builtin "max") gU:=⟨WI hc⟩
theorem FU (hc:X.calm=true)(hr:RoomC cm k X.A):ZCall X (.builtin "max") b9:=⟨WJ hc hr.units⟩
end
end _D
namespace _D
open PySem
def Nx (o:Out)(Q:qD→Sto→Prop):Prop:=∃ env S,o=.nx env S∧Q env S
def Rt (o:Out)(Q:D→Sto→Prop):Prop:=∃ d S,o=.rt d S∧Q d S
def Ok {β : Type}(r:Res β)(Q:β→Sto→Prop):Prop:=∃ d S,r=.ok d S∧Q d S
theorem yO {o:Out}{Q:qD→Sto→Prop}{env:qD}{S:Sto}(h:o=.nx env S)(q:Q env S):Nx o Q:=⟨env,S,h,q⟩
theorem TW {o:Out}{Q:D→Sto→Prop}{d:D}{S:Sto}(h:o=.rt d S)(q:Q d S):Rt o Q:=⟨d,S,h,q⟩
theorem zG {β : Type}{r:Res β}{Q:β→Sto→Prop}{d:β}{S:Sto}(h:r=.ok d S)(q:Q d S):Ok r Q:=⟨d,S,h,q⟩
theorem yP {f g:DS}{env:qD}{S:Sto}{Q:qD→Sto→Prop}(h:Nx (f env S) fun env1 S1=>Nx (g env1 S1) Q):Nx (qQ f g env S) Q:=by
 obtain⟨env1,S1,e,env2,S2,e2,q⟩:=h;exact⟨env2,S2,by unfold qQ;rw[e];exact e2,q⟩
theorem zI {f g:DS}{env:qD}{S:Sto}{Q:D→Sto→Prop}(h:Nx (f env S) fun env1 S1=>Rt (g env1 S1) Q):Rt (qQ f g env S) Q:=by
 obtain⟨env1,S1,e,env2,S2,e2,q⟩:=h;exact⟨env2,S2,by unfold qQ;rw[e];exact e2,q⟩
theorem uV {t:DT}{f g:DS}{env:qD}{S S1:Sto}{b:Ao}{Q:qD→Sto→Prop}(h:t env S=.ok b S1)(k:Nx ((if b then f else g) env S1) Q):Nx (sIf t f g env S) Q:=by
 obtain⟨env2,S2,e2,q⟩:=k;refine⟨env2,S2,?_,q⟩;unfold sIf;rw[h];cases b <;> exact e2
theorem x6 {f:DE}{i:Ah}{env:qD}{S:Sto}{Q:qD→Sto→Prop}(h:Ok (f env S) fun d S1=>Q (env.set i (Ab d)) S1):Nx (zD f (gNm i) env S) Q:=by
 obtain⟨d,S1,e,q⟩:=h;exact⟨_,S1,by unfold zD gNm;rw[e];rfl,q⟩
theorem jH {f:DE}{env:qD}{S:Sto}{Q:qD→Sto→Prop}(h:Ok (f env S) fun _ S1=>Q env S1):Nx (wQ f env S) Q:=by
 obtain⟨d,S1,e,q⟩:=h;exact⟨_,S1,by unfold wQ;rw[e];rfl,q⟩
theorem vV {f:DE}{env:qD}{S:Sto}{Q:D→Sto→Prop}(h:Ok (f env S) Q):Rt (qS f env S) Q:=by
 obtain⟨d,S1,e,q⟩:=h;exact⟨_,S1,by unfold qS;rw[e];rfl,q⟩
theorem wY {fi:DI}{g:DG}{f:DS}{env:qD}{S S1:Sto}{ds:Aa D}{Q:qD→Sto→Prop}(h:fi env S=.ok ds S1)(k:Nx (vO g f ds env S1) Q):Nx (yD fi g f env S) Q:=by
 obtain⟨env2,S2,e2,q⟩:=k;exact⟨env2,S2,by unfold yD;rw[h];exact e2,q⟩
theorem xZ {g:DG}{f:DS}{Q:qD→Sto→Prop}(I:Aa D→qD→Sto→Prop)(turn:∀ d ds env S,I (d::ds) env S→∃ env1 S1,g d env S=.ok env1 S1∧Nx (f env1 S1) (I ds))(last:∀ env S,I [] env S→Q env S) :
  ∀ {ds:Aa D} {env:qD} {S:Sto},I ds env S→Nx (vO g f ds env S) Q
 |[],env,S,h=>⟨env,S,rfl,last env S h⟩
 |d::ds,env,S,h=>by
  obtain⟨env1,S1,e1,env2,S2,e2,h2⟩:=turn d ds env S h;obtain⟨env3,S3,e3,q⟩:=xZ I turn last (ds:=ds) h2;refine⟨env3,S3,?_,q⟩;unfold vO;simp only[e1,Res.toS,e2];exact e3
theorem jD {o:Ak (Ah × MO)}{g:DG}{t:DT}{k:DK}(out:D→Aa D)(C:qD→Sto→Prop)(hC:∀ env S,C env S→stn o S) :
  ∀ (items:Aa D) (env:qD) (S:Sto) (acc:Aa D),C env S→acc.length+(items.flatMap out).length≤lim →
  (∀ d∈items,∀ env S acc,C env S→acc.length+(out d).length≤lim→∃ env1 S1 b S2,g d env S=.ok env1 S1∧t env1 S1=.ok b S2∧((b=false∧out d=[]∧C env1 S2)∨(b=true∧∃ env3 S3,k env1 S2 acc=.ok (env3,acc++out d) S3∧C env3 S3))) →
  ∃ env' S',goL o g t k items env S acc=.ok (env',acc++items.flatMap out) S'∧C env' S'
 |[],env,S,acc,h,hl,_=>⟨env,S,by simp[goL,yE.mpr (hC _ _ h)],h⟩
 |d::ds,env,S,acc,h,hl,step=>by
  rw[Dp,AW] at hl;obtain⟨env1,S1,b,S2,e1,e2,r⟩:=step d (Bu ..) env S acc h om;have hst:=yE.mpr (hC _ _ h);rcases r with⟨rfl,h0,h2⟩|⟨rfl,env3,S3,e3,h3⟩
  ·obtain⟨env',S',e,q⟩:=jD out C hC ds env1 S2 acc h2 om fun d hd=>step d (AK _ hd)
   refine⟨env',S',?_,q⟩;simp only[goL,hst,AZ,e1,e2,Res.bind,Bl,Ds,Dp,h0,Dv];exact e
  ·obtain⟨env',S',e,q⟩:=jD out C hC ds env3 S3 (acc++out d) h3 (by rw[AW];omega) fun d hd=>step d (AK _ hd)
   refine⟨env',S',?_,q⟩;simp only[goL,hst,AZ,e1,e2,Res.bind,e3,Dp];rw[e,AQ]
theorem uJ {fe:DE}{env:qD}{S S1:Sto}{acc:Aa D}{x:D}(h:fe env S=.ok x S1)(hl:acc.length<lim):z0 fe env S acc=.ok (env,acc++[x]) S1:=by
 unfold z0;rw[h];simp[Res.bind,hl]
theorem vR {cap:Aa (Ak Ah)}{fi:DI2}{g:DG}{t:DT}{k:DK}{env env':qD}{S S1 S':Sto}{o:Ak (Ah × MO)}{items ds:Aa D}(h:fi env S=.ok (o,items) S1)(e:goL o g t k items (zP cap env) S1 [] = .ok (env',ds) S'):zA false cap fi g t k env S=.ok (.lst ds) S':=by
 unfold zA;rw[h];simp only[Res.bind,e,mkM];rfl
theorem vF {n:Ah}{f:DE}{ds:Aa D}{S S':Sto}{d:D}{env:qD}(hs:wI n ds=env)(h:f env S=.ok d S'):qP n (qS f) ds S=.ok d S':=by
 subst hs;unfold qP qS;rw[h];rfl
theorem wZ {n:Ah}{g:DS}{ds:Aa D}{S S':Sto}{d:D}{env:qD}(hs:wI n ds=env)(h:g env S=.rt d S'):qP n g ds S=.ok d S':=by
 subst hs;unfold qP;rw[h];rfl
theorem dX {S S':Sto}{i:Ah}{m:MO}(h:S[i]? = Ab m)(e:S<+:S'):S'[i]? = Ab m:=by
 obtain⟨r,rfl⟩:=e;rw[AG (Ay.mp h).1];exact h
theorem yH {α β:Type}(sel:α→Ao)(val:α→β)(l:Aa α) : (l.flatMap fun d=>if sel d then [val d] else []) = (l.filter sel).map val:=by
 induction l with
 |nil=>rfl
 |cons d l ih =>
  rw[Dp,ih];cases h:sel d <;> simp[h]
theorem d9 {α β:Type}(f:α→Aa β)(n:Ah)(l:Aa α)(h:∀ x∈l,(f x).length≤n):(l.flatMap f).length≤l.length*n:=by
 induction l with
 |nil=>simp
 |cons d l ih =>
  rw[Dp,AW,AH,Ig];have h1:=h d (Bu ..);have h2:=ih fun x hx=>h x (AK _ hx);omega
section
variable {cap:Aa (Ak Ah)}{fi:DI2}{g:DG}{t:DT}{fe:DE}{env:qD}{S S0:Sto}{o:Ak (Ah × MO)}{items:Aa D}
theorem NV (hst:stn o S)(sel:D→Ao)(val:D→D)(C:qD→Prop)(h0:C env)(hl:items.length≤lim)
  (step:∀ d∈items,∀ env,C env→∃ env1,g d env S=.ok env1 S∧C env1∧t env1 S=.ok (sel d) S∧(sel d=true→fe env1 S=.ok (val d) S)) :
  ∃ env',goL o g t (z0 fe) items env S [] = .ok (env',(items.filter sel).map val) S:=by
 have lf:(items.flatMap fun d=>if sel d then [val d] else []).length≤lim:=by
  rw[yH,A9];exact Ce (Df _ _) hl
 obtain⟨env',S',e,_,q⟩:=jD (o:=o) (g:=g) (t:=t) (k:=z0 fe) (fun d=>if sel d then [val d] else []) (fun env S'=>C env∧S'=S) (fun _ _ h=>h.2▸hst) items env S [] ⟨h0,rfl⟩ (by simpa using lf) (fun d hd env S' acc hC hl=>by
  obtain⟨hc,rfl⟩:=hC;obtain⟨env1,e1,c1,e2,k⟩:=step d hd env hc;refine⟨env1,S',sel d,S',e1,e2,?_⟩;cases hs:sel d with
  |false=>exact .inl ⟨rfl,by simp,c1,rfl⟩
  |true =>
   refine .inr ⟨rfl,env1,S',?_,c1,rfl⟩;simp only[AZ];exact uJ (k hs) (by simp only[hs,AZ,DV] at hl;omega))
 subst q;refine⟨env',?_⟩;rw[e,Dv,yH]
theorem cE (h:fi env S=.ok (o,items) S)(hst:stn o S)(sel:D→Ao)(val:D→D)(C:qD→Prop)(h0:C (zP cap env))(hl:items.length≤lim)
  (step:∀ d∈items,∀ env,C env→∃ env1,g d env S=.ok env1 S∧C env1∧t env1 S=.ok (sel d) S∧(sel d=true→fe env1 S=.ok (val d) S)) :
  zA false cap fi g t (z0 fe) env S=.ok (.lst ((items.filter sel).map val)) S:=by
 obtain⟨env',e⟩:=NV hst sel val C h0 hl step;exact vR h e
theorem JL {fi2:DI2}{g2:DG}{t2:DT}{o2:Ak (Ah × MO)}(h:fi env S=.ok (o,items) S)(hst:stn o S)(hst2:stn o2 S)(its2:D→Aa D)(sel:D→D→Ao)(val:D→D→D)(C:qD→Prop)(C2:D→qD→Prop)(h0:C (zP cap env))(hC2:∀ d env,C2 d env→C env)
  (hl:(items.flatMap fun d=>((its2 d).filter (sel d)).map (val d)).length≤lim)
  (step:∀ d∈items,∀ env,C env→∃ env1,g d env S=.ok env1 S∧C2 d env1∧t env1 S=.ok true S∧fi2 env1 S=.ok (o2,its2 d) S)
  (step2:∀ d∈items,∀ x∈its2 d,∀ env,C2 d env→∃ env1,g2 x env S=.ok env1 S∧C2 d env1∧t2 env1 S=.ok (sel d x) S∧(sel d x=true→fe env1 S=.ok (val d x) S)) :
  zA false cap fi g t (kIn fi2 g2 t2 (z0 fe)) env S=.ok (.lst (items.flatMap fun d=>((its2 d).filter (sel d)).map (val d))) S:=by
 obtain⟨env',S',e,_,q⟩:=jD (o:=o) (g:=g) (t:=t) (k:=kIn fi2 g2 t2 (z0 fe)) (fun d=>((its2 d).filter (sel d)).map (val d)) (fun env S'=>C env∧S'=S) (fun _ _ h=>h.2▸hst) items (zP cap env) S [] ⟨h0,rfl⟩ (by simpa using hl) (fun d hd env S' acc hC hl=>by
  obtain⟨hc,rfl⟩:=hC;obtain⟨env1,e1,c1,e2,e3⟩:=step d hd env hc;obtain⟨env2,S2,e4,q,r⟩:=jD (o:=o2) (g:=g2) (t:=t2) (k:=z0 fe) (fun x=>if sel d x then [val d x] else []) (fun env S''=>C2 d env∧S''=S') (fun _ _ h=>h.2▸hst2) (its2 d) env1 S' acc ⟨c1,rfl⟩ (by rw[yH];exact hl) (fun x hx env S'' acc hC hl=>by
   obtain⟨hc,rfl⟩:=hC;obtain⟨env3,f1,f2,f3,f4⟩:=step2 d hd x hx env hc;refine⟨env3,S'',sel d x,S'',f1,f3,?_⟩;cases hs:sel d x with
   |false=>exact .inl ⟨rfl,by simp,f2,rfl⟩
   |true =>
    refine .inr ⟨rfl,env3,S'',?_,f2,rfl⟩;simp only[AZ];exact uJ (f4 hs) (by simp only[hs,AZ,DV] at hl;omega))
  subst r;refine⟨env1,S2,true,S2,e1,e2,.inr ⟨rfl,env2,S2,?_,hC2 d _ q,rfl⟩⟩;unfold kIn;rw[e3];simp only[Res.bind];rw[e4,yH])
 subst q;have:=vR (cap:=cap) h e
 rwa [Dv] at this
end
theorem goT {α : Type}{enc:α→D}{o:Ak (Ah × MO)}{g:DG}{t:DT}{k:DK}(out:α→Aa D)(C:qD→Sto→Prop)(hC:∀ env S,C env S→stn o S) :
  ∀ (xs:Aa α) (env:qD) (S:Sto) (acc:Aa D),C env S→acc.length+(xs.flatMap out).length≤lim →
  (∀ x∈xs,∀ env S acc,C env S→acc.length+(out x).length≤lim→∃ env1 S1 b S2,g (enc x) env S=.ok env1 S1∧t env1 S1=.ok b S2∧((b=false∧out x=[]∧C env1 S2)∨(b=true∧∃ env3 S3,k env1 S2 acc=.ok (env3,acc++out x) S3∧C env3 S3))) →
  ∃ env' S',goL o g t k (xs.map enc) env S acc=.ok (env',acc++xs.flatMap out) S'∧C env' S'
 |[],env,S,acc,h,hl,_=>⟨env,S,by simp[goL,yE.mpr (hC _ _ h)],h⟩
 |x::xs,env,S,acc,h,hl,step=>by
  rw[Dp,AW] at hl;obtain⟨env1,S1,b,S2,e1,e2,r⟩:=step x (Bu ..) env S acc h om;have hst:=yE.mpr (hC _ _ h);rcases r with⟨rfl,h0,h2⟩|⟨rfl,env3,S3,e3,h3⟩
  ·obtain⟨env',S',e,q⟩:=goT out C hC xs env1 S2 acc h2 om fun d hd=>step d (AK _ hd)
   refine⟨env',S',?_,q⟩;simp only[Bk,goL,hst,AZ,e1,e2,Res.bind,Bl,Ds,Dp,h0,Dv];exact e
  ·obtain⟨env',S',e,q⟩:=goT out C hC xs env3 S3 (acc++out x) h3 (by rw[AW];omega) fun d hd=>step d (AK _ hd)
   refine⟨env',S',?_,q⟩;simp only[Bk,goL,hst,AZ,e1,e2,Res.bind,e3,Dp];rw[e,AQ]
section
variable {α β:Type}{enc:α→D}{enc2:β→D}{cap:Aa (Ak Ah)}{fi:DI2}{g:DG}{t:DT}{fe:DE}{env:qD}{S S0:Sto}{o:Ak (Ah × MO)}{xs:Aa α}
theorem MF (hst:stn o S)(sel:α→Ao)(val:α→D)(C:qD→Prop)(h0:C env)(hl:xs.length≤lim)
  (step:∀ x∈xs,∀ env,C env→∃ env1,g (enc x) env S=.ok env1 S∧C env1∧t env1 S=.ok (sel x) S∧(sel x=true→fe env1 S=.ok (val x) S)) :
  ∃ env',goL o g t (z0 fe) (xs.map enc) env S [] = .ok (env',(xs.filter sel).map val) S:=by
 have lf:(xs.flatMap fun d=>if sel d then [val d] else []).length≤lim:=by
  rw[yH,A9];exact Ce (Df _ _) hl
 obtain⟨env',S',e,_,q⟩:=goT (enc:=enc) (o:=o) (g:=g) (t:=t) (k:=z0 fe) (fun d=>if sel d then [val d] else []) (fun env S'=>C env∧S'=S) (fun _ _ h=>h.2▸hst) xs env S [] ⟨h0,rfl⟩ (by simpa using lf) (fun d hd env S' acc hC hl=>by
  obtain⟨hc,rfl⟩:=hC;obtain⟨env1,e1,c1,e2,k⟩:=step d hd env hc;refine⟨env1,S',sel d,S',e1,e2,?_⟩;cases hs:sel d with
  |false=>exact .inl ⟨rfl,by simp,c1,rfl⟩
  |true =>
   refine .inr ⟨rfl,env1,S',?_,c1,rfl⟩;simp only[AZ];exact uJ (k hs) (by simp only[hs,AZ,DV] at hl;omega))
 subst q;refine⟨env',?_⟩;rw[e,Dv,yH]
theorem v6 (h:fi env S=.ok (o,xs.map enc) S)(hst:stn o S)(sel:α→Ao)(val:α→D)(C:qD→Prop)(h0:C (zP cap env))(hl:xs.length≤lim)
  (step:∀ x∈xs,∀ env,C env→∃ env1,g (enc x) env S=.ok env1 S∧C env1∧t env1 S=.ok (sel x) S∧(sel x=true→fe env1 S=.ok (val x) S)) :
  zA false cap fi g t (z0 fe) env S=.ok (.lst ((xs.filter sel).map val)) S:=by
 obtain⟨env',e⟩:=MF hst sel val C h0 hl step;exact vR h e
theorem WM {fi2:DI2}{g2:DG}{t2:DT}{o2:Ak (Ah × MO)}(h:fi env S=.ok (o,xs.map enc) S)(hst:stn o S)(hst2:stn o2 S)(ys:α→Aa β)(sel:α→β→Ao)(val:α→β→D)(C:qD→Prop)(C2:α→qD→Prop)(h0:C (zP cap env))(hC2:∀ x env,C2 x env→C env)
  (hl:(xs.flatMap fun x=>((ys x).filter (sel x)).map (val x)).length≤lim)
  (step:∀ x∈xs,∀ env,C env→∃ env1,g (enc x) env S=.ok env1 S∧C2 x env1∧t env1 S=.ok true S∧fi2 env1 S=.ok (o2,(ys x).map enc2) S)
  (step2:∀ x∈xs,∀ y∈ys x,∀ env,C2 x env→∃ env1,g2 (enc2 y) env S=.ok env1 S∧C2 x env1∧t2 env1 S=.ok (sel x y) S∧(sel x y=true→fe env1 S=.ok (val x y) S)) :
  zA false cap fi g t (kIn fi2 g2 t2 (z0 fe)) env S=.ok (.lst (xs.flatMap fun x=>((ys x).filter (sel x)).map (val x))) S:=by
 obtain⟨env',S',e,_,q⟩:=goT (enc:=enc) (o:=o) (g:=g) (t:=t) (k:=kIn fi2 g2 t2 (z0 fe)) (fun x=>((ys x).filter (sel x)).map (val x)) (fun env S'=>C env∧S'=S) (fun _ _ h=>h.2▸hst) xs (zP cap env) S [] ⟨h0,rfl⟩ (by simpa using hl) (fun d hd env S' acc hC hl=>by
  obtain⟨hc,rfl⟩:=hC;obtain⟨env1,e1,c1,e2,e3⟩:=step d hd env hc;obtain⟨env2,S2,e4,q,r⟩:=goT (enc:=enc2) (o:=o2) (g:=g2) (t:=t2) (k:=z0 fe) (fun x=>if sel d x then [val d x] else []) (fun env S''=>C2 d env∧S''=S') (fun _ _ h=>h.2▸hst2) (ys d) env1 S' acc ⟨c1,rfl⟩ (by rw[yH];exact hl) (fun x hx env S'' acc hC hl=>by
   obtain⟨hc,rfl⟩:=hC;obtain⟨env3,f1,f2,f3,f4⟩:=step2 d hd x hx env hc;refine⟨env3,S'',sel d x,S'',f1,f3,?_⟩;cases hs:sel d x with
   |false=>exact .inl ⟨rfl,by simp,f2,rfl⟩
   |true =>
    refine .inr ⟨rfl,env3,S'',?_,f2,rfl⟩;simp only[AZ];exact uJ (f4 hs) (by simp only[hs,AZ,DV] at hl;omega))
  subst r;refine⟨env1,S2,true,S2,e1,e2,.inr ⟨rfl,env2,S2,?_,hC2 d _ q,rfl⟩⟩;unfold kIn;rw[e3];simp only[Res.bind];rw[e4,yH])
 subst q;have:=vR (cap:=cap) h e
 rwa [Dv] at this
end
theorem xB {o:G2}{f g:DE}{env:qD}{S S1 S2:Sto}{a b:D}(h1:f env S=.ok a S1)(h2:g env S1=.ok b S2):d2 o f g env S=o a b S2:=by
 unfold d2;rw[h1];simp only[Res.bind];rw[h2]
theorem rQ {F:DF}{f1:DE}{env:qD}{S S1:Sto}{a:D}(h1:f1 env S=.ok a S1):qN 1 F (qA f1 (qC)) env S=F [a] S1:=by
 simp only[qN,qA,qC,h1,Res.bind,AH,Bn,AZ]
theorem jP {F:DF}{f1 f2:DE}{env:qD}{S S1 S2:Sto}{a b:D}(h1:f1 env S=.ok a S1)(h2:f2 env S1=.ok b S2):qN 2 F (qA f1 (qA f2 (qC))) env S=F [a,b] S2:=by
 simp only[qN,qA,qC,h1,h2,Res.bind,AH,Bn,AZ]
theorem xG {F:DF}{f1 f2 f3:DE}{env:qD}{S S1 S2 S3:Sto}{a b c:D}(h1:f1 env S=.ok a S1)(h2:f2 env S1=.ok b S2)(h3:f3 env S2=.ok c S3):qN 3 F (qA f1 (qA f2 (qA f3 (qC)))) env S=F [a,b,c] S3:=by
 simp only[qN,qA,qC,h1,h2,h3,Res.bind,AH,Bn,AZ]
theorem wW {F:DF}{f1:DE}{env:qD}{S S1:Sto}{a:D}(h1:f1 env S=.ok a S1):qE F (qA f1 (qC)) env S=F [a] S1:=by
 simp only[qE,qA,qC,h1,Res.bind]
theorem c7 {F:DF}{f1 f2:DE}{env:qD}{S S1 S2:Sto}{a b:D}(h1:f1 env S=.ok a S1)(h2:f2 env S1=.ok b S2):qE F (qA f1 (qA f2 (qC))) env S=F [a,b] S2:=by
 simp only[qE,qA,qC,h1,h2,Res.bind]
theorem eT {f:DE}{env:qD}{S S1:Sto}{b:Ao}(h:f env S=.ok (.bl b) S1):dTr f env S=.ok b S1:=by
 unfold dTr;rw[h];rfl
theorem GU {f:DT}{env:qD}{S S1:Sto}{b:Ao}(h:f env S=.ok b S1):yL f env S=.ok (!b) S1:=by
 unfold yL;rw[h];rfl
theorem b8 {f1:DE}{env:qD}{S S1:Sto}{a:D}(h1:f1 env S=.ok a S1):qA f1 (qC) env S=.ok [a] S1:=by
 simp only[qA,qC,h1,Res.bind]
theorem vS {f1 f2:DE}{env:qD}{S S1 S2:Sto}{a b:D}(h1:f1 env S=.ok a S1)(h2:f2 env S1=.ok b S2):qA f1 (qA f2 (qC)) env S=.ok [a,b] S2:=by
 simp only[qA,qC,h1,h2,Res.bind]
theorem uR {f:DE}{g:DA}{env:qD}{S S1 S2:Sto}{a:D}{as:Aa D}(h:f env S=.ok a S1)(k:g env S1=.ok as S2):qA f g env S=.ok (a::as) S2:=by
 simp only[qA,h,k,Res.bind]
theorem gE {g:DA}{env:qD}{S S1:Sto}{as:Aa D}(k:g env S=.ok as S1)(h:as.length≤lim):zZ g env S=.ok (.lst as) S1:=by
 simp only[zZ,k,Res.bind,h,AZ]
theorem gM {g:DA}{env:qD}{S S1:Sto}{as:Aa D}(k:g env S=.ok as S1)(h:as.length≤lim):zH g env S=.ok (.tup as) S1:=by
 simp only[zH,k,Res.bind,h,AZ]
theorem yU {env:qD}{i:Ah}{d:D}{S:Sto}(h:env[i]? = Ab (Ab d)):qB i env S=.ok d S:=by simp only[qB,h]
theorem xR {α : Type}(l:Aa α) : l.filter (fun _=>true)=l:=by simp
theorem GV {i j:Ah}{f1 f2:DE}{env:qD}{S S1 S2:Sto}{a b:D}{Q:qD→Sto→Prop}(h1:f1 env S=.ok a S1)(h2:f2 env S1=.ok b S2)(q:Q ((env.set i (Ab a)).set j (Ab b)) S2):Nx (m4 i j (qA f1 (qA f2 (qC))) env S) Q:=by
 unfold m4;rw[vS h1 h2];exact yO rfl q
theorem V8 {f:DE}{g:DG}{env env1:qD}{S S1 S2:Sto}{d:D}{Q:qD→Sto→Prop}(h1:f env S=.ok d S1)(h2:g d env S1=.ok env1 S2)(q:Q env1 S2):Nx (zD f g env S) Q:=by
 unfold zD;rw[h1];simp only[Res.toS];rw[h2];exact yO rfl q
end _D
namespace _K
open PySem _D
theorem FI (b:Ao)(S:Sto):wV (.bl b) S=Ab b:=rfl
theorem LV (i:Aj)(S:Sto):wV (.int i) S=Ab (i != 0):=rfl
theorem LY (i:Aj)(S:Sto):tyD (.int i) S=Ab "int":=rfl
theorem D6 (b:Ao)(S:Sto):tyD (.bl b) S=Ab "bool":=rfl
theorem D0 (S:Sto):tyD .non S=Ab "NoneType":=rfl
theorem D1 (x:As)(S:Sto):tyD (.str x) S=Ab "str":=rfl
theorem D2 (x:Aa D)(S:Sto):tyD (.tup x) S=Ab "tuple":=rfl
theorem LZ (x:Aa D)(S:Sto):tyD (.lst x) S=Ab "list":=rfl
theorem LS (x:Aa D):g9 (.tup x)=Ab x:=rfl
theorem YN (x:Aa D):g9 (.lst x)=Ab x:=rfl
theorem VE (d:D)(S:Sto):eN (.rt d S)=.ok d S:=rfl
theorem LU (e:qD)(S:Sto):eN (.nx e S)=.ok .non S:=rfl
theorem VD (c:Ac)(x:D)(e:qD)(S:Sto):eN (.ex c x e S)=.ex c x S:=rfl
theorem L5 (i j:Ah)(env:qD)(S:Sto)(x y:D):lG i j env S [x,y]=.nx ((env.set i (Ab x)).set j (Ab y)) S:=rfl
theorem LW (C:Aj→Aj→Ao)(f:Aj→Aj→D)(i j:Aj)(S:Sto):i2 C f (.int i) (.int j) S=if C i j=true then .ok (f i j) S else .bad:=rfl
theorem dU (b:Ao)(S:Sto):kU [.bl b] S=.ok (.int (b01 b)) S:=rfl
theorem fJ {xs:Aa D}{k:Aj}{d:D}(h:_L.atI xs k=Ab d)(S:Sto):gIx (.lst xs) (.int k) S=.ok d S:=by
 show _D.wH (_L.atI xs k) S=_;rw[h];rfl
end _K
open PySem _D _K
namespace _K
open PySem PySem.Spec PyProof.Rows _L _D
def top (i:Ah):Cy:=PySem.Challenge.pw_fewdistances_k21_most_fars_on_boards.main.body.getD i (.Pass ⟨0,0,0,0⟩)
structure Cl where
 (FarError NoPoint NoLot NoNumber NoCircle NoMarks NoFars NoText NoLine NoDeed Alike TooMany:Ad)
def xI (c:Cl):Aa Ad:=[c.NoPoint,c.NoLot,c.NoNumber,c.NoCircle,c.NoMarks,c.NoFars,c.NoText,c.NoLine,c.NoDeed,c.Alike,c.TooMany]
def b0 (c:Cl):Aa Ac:=[.ref c.NoPoint,.ref c.NoLot,.ref c.NoNumber,.ref c.NoCircle,.ref c.NoMarks,.ref c.NoFars,.ref c.NoText,.ref c.NoLine,.ref c.NoDeed]
abbrev clt (c:Cl):Aa (As × Ad):=[("FarError",c.FarError),("NoPoint",c.NoPoint),("NoLot",c.NoLot),("NoNumber",c.NoNumber),("NoCircle",c.NoCircle),("NoMarks",c.NoMarks),("NoFars",c.NoFars),("NoText",c.NoText),("NoLine",c.NoLine),("NoDeed",c.NoDeed),("Alike",c.Alike),("TooMany",c.TooMany)]
abbrev plt (c:Cl):Aa (As × Ad):=[("NoPoint",c.NoPoint),("NoLot",c.NoLot),("NoNumber",c.NoNumber),("NoCircle",c.NoCircle),("NoMarks",c.NoMarks),("NoFars",c.NoFars),("NoText",c.NoText),("NoLine",c.NoLine),("NoDeed",c.NoDeed)]
abbrev cst:Aa (As × Aj):=[("MOST_SIDE",4),("MOST_POINTS",6)]
abbrev bl:Aa As:=["ValueError","bool","enumerate","int","isinstance","len","list","max","min","range","set","sorted","str","tuple","zip"]
abbrev tab:Aa (As × Ah × Aa As):=[("board_points",1,["w","h"]),("grown",2,["lots","points"]),("lots_of",3,["points","n"]),("is_whole",18,["thing"]),("is_within",19,["thing","least","most"]),("need_within",20,["thing","least","most"]),("far_between",22,["one","other"]),("pairs_by_far",23,["points"]),("lots_by_fars",27,["w","h","n"]),("most_fars",28,["w","h","n"]),("lots_of_most",29,["w","h","n"]),("many_lots",30,["w","h","n"]),("first_many",31,["w","h","n"]),("_law_cell",33,["_law_script","_law_k"]),("_law_pen",34,["_law_cell_here"]),("_law_draw",35,["_law_pen_here","_law_many"]),("_law_same",36,["_law_found","_law_due"]),("_law_kind_of",37,["_law_e"]),("_law_no_number",38,["_law_pen_here","_law_low","_law_high"]),("_law_far",39,["_law_one","_law_other"]),("_law_pairs",40,["_law_lot"]),("_law_fars",41,["_law_lot"]),("_law_board",42,["_law_w","_law_h"]),("_law_chosen",43,["_law_points","_law_n"]),("_law_came",44,["_law_way","_law_w","_law_h","_law_n"]),("law",45,["_law_script"])]
abbrev Txt (K:Ai)(mg:As→Ak Ac)(c:Cl):Prop:=TxS K mg top tab bl (clt c) (plt c) (b0 c) (xI c) cst
@[reducible] def b_board_points:DS:=qS (zA false [none,none,Ab 1] (xT (xO (qA (qB 0) (qC)))) (gNm 0) (zL) (kIn (xT (xO (qA (qB 2) (qC)))) (gNm 1) (zL) (z0 (zH (qA (qB 0) (qA (qB 1) (qC)))))))
@[irreducible] def S_board_points:DF:=sh (qP 2 b_board_points)
theorem u0:S_board_points=qP 2 b_board_points:=by delta S_board_points;exact zU _
@[reducible] def b_grown:DS:=qS (zA false [none,none,Ab 1] (dIt (qB 0)) (gNm 0) (zL) (kIn (dIt (qB 2)) (gNm 1) (w8 (dTr (d2 fG (qB 1) (d2 gIx (qB 0) (d1 nP (dC (.int 1)))))) (zL)) (z0 (d2 zM (qB 0) (zH (qA (qB 1) (qC)))))))
@[irreducible] def S_grown:DF:=sh (qP 2 b_grown)
theorem pZ:S_grown=qP 2 b_grown:=by delta S_grown;exact zU _
@[reducible] def b_lots_of:DS:=qQ (zD (zA false [none] (dIt (qB 0)) (gNm 0) (zL) (z0 (zH (qA (qB 0) (qC))))) (gNm 2)) (qQ (yD (xO (qA (d2 w5 (qB 1) (dC (.int 1))) (qC))) (gNm 3) (zD (qN 2 S_grown (qA (qB 2) (qA (qB 0) (qC)))) (gNm 2))) (qS (qB 2)))
@[irreducible] def S_lots_of:DF:=sh (qP 4 b_lots_of)
theorem kO:S_lots_of=qP 4 b_lots_of:=by delta S_lots_of;exact zU _
@[reducible] def b_is_whole:DS:=qS (uZ (qE zF (qA (qB 0) (qA (dC (.ty "int")) (qC)))) (oW (qE zF (qA (qB 0) (qA (dC (.ty "bool")) (qC))))))
@[irreducible] def S_is_whole:DF:=sh (qP 1 b_is_whole)
theorem vX:S_is_whole=qP 1 b_is_whole:=by delta S_is_whole;exact zU _
@[reducible] def b_is_within:DS:=qS (uZ (qN 1 S_is_whole (qA (qB 0) (qC))) (nE gLe gLe (qB 1) (qB 0) (qB 2)))
@[irreducible] def S_is_within:DF:=sh (qP 3 b_is_within)
theorem yY:S_is_within=qP 3 b_is_within:=by delta S_is_within;exact zU _
@[reducible] def b_need_within (c:Cl):DS:=sIf (yL (dTr (qN 3 S_is_within (qA (qB 0) (qA (qB 1) (qA (qB 2) (qC))))))) (gI (.ref c.NoNumber) (qA (tB [dC (.str "a whole number from "),d1 j0 (qB 1),dC (.str " to "),d1 j0 (qB 2),dC (.str " is needed")]) (qC))) (x5)
@[irreducible] def S_need_within (c:Cl):DF:=sh (qP 3 (b_need_within c))
theorem yA (c:Cl):S_need_within c=qP 3 (b_need_within c):=by delta S_need_within;exact zU _
@[reducible] def b_far_between:DS:=qQ (zD (d2 w5 (d2 gIx (qB 0) (dC (.int 0))) (d2 gIx (qB 1) (dC (.int 0)))) (gNm 2)) (qQ (zD (d2 w5 (d2 gIx (qB 0) (dC (.int 1))) (d2 gIx (qB 1) (dC (.int 1)))) (gNm 3)) (qS (d2 zM (d2 zT (qB 2) (qB 2)) (d2 zT (qB 3) (qB 3)))))
@[irreducible] def S_far_between:DF:=sh (qP 4 b_far_between)
theorem uE:S_far_between=qP 4 b_far_between:=by delta S_far_between;exact zU _
@[reducible] def b_pairs_by_far:DS:=qQ (zD (rS) (gNm 1)) (qQ (yD (rT (qA (qB 0) (qC))) (gTp 2 (zE (gNm 2) (zE (gNm 3) (wN)))) (yD (xN (dSl (qB 0) (wA (d2 zM (qB 2) (dC (.int 1)))) (jC))) (gNm 4) (wQ (dBm "list" xY (dBm "dict" xK (qB 1) (qA (qN 2 S_far_between (qA (qB 3) (qA (qB 4) (qC)))) (qA (gR (qC)) (qC)))) (qA (zH (qA (qB 3) (qA (qB 4) (qC)))) (qC)))))) (qS (qB 1)))
@[irreducible] def S_pairs_by_far:DF:=sh (qP 5 b_pairs_by_far)
theorem u4:S_pairs_by_far=qP 5 b_pairs_by_far:=by delta S_pairs_by_far;exact zU _
@[reducible] def b_lots_by_fars (c:Cl):DS:=qQ (wQ (qN 3 (S_need_within c) (qA (qB 0) (qA (dC (.int 1)) (qA (dC (.int (4))) (qC)))))) (qQ (wQ (qN 3 (S_need_within c) (qA (qB 1) (qA (dC (.int 1)) (qA (dC (.int (4))) (qC)))))) (qQ (wQ (qN 3 (S_need_within c) (qA (qB 2) (qA (dC (.int 1)) (qA (qE vK (qA (dC (.int (6))) (qA (d2 zT (qB 0) (qB 1)) (qC)))) (qC)))))) (qQ (zD (rS) (gNm 3)) (qQ (yD (xN (qN 2 S_lots_of (qA (qN 2 S_board_points (qA (qB 0) (qA (qB 1) (qC)))) (qA (qB 2) (qC))))) (gNm 4) (wQ (dBm "list" xY (dBm "dict" xK (qB 3) (qA (qE gT (qA (qN 1 S_pairs_by_far (qA (qB 4) (qC))) (qC))) (qA (gR (qC)) (qC)))) (qA (qB 4) (qC))))) (qS (qB 3))))))
@[irreducible] def S_lots_by_fars (c:Cl):DF:=sh (qP 5 (b_lots_by_fars c))
theorem wR (c:Cl):S_lots_by_fars c=qP 5 (b_lots_by_fars c):=by delta S_lots_by_fars;exact zU _
@[reducible] def b_most_fars (c:Cl):DS:=qS (qE gU (qA (qN 3 (S_lots_by_fars c) (qA (qB 0) (qA (qB 1) (qA (qB 2) (qC))))) (qC)))
@[irreducible] def S_most_fars (c:Cl):DF:=sh (qP 3 (b_most_fars c))
theorem v3 (c:Cl):S_most_fars c=qP 3 (b_most_fars c):=by delta S_most_fars;exact zU _
@[reducible] def b_lots_of_most (c:Cl):DS:=qQ (zD (qN 3 (S_lots_by_fars c) (qA (qB 0) (qA (qB 1) (qA (qB 2) (qC))))) (gNm 3)) (qS (d2 fH (qB 3) (qE gU (qA (qB 3) (qC)))))
@[irreducible] def S_lots_of_most (c:Cl):DF:=sh (qP 4 (b_lots_of_most c))
theorem wS (c:Cl):S_lots_of_most c=qP 4 (b_lots_of_most c):=by delta S_lots_of_most;exact zU _
@[reducible] def b_many_lots (c:Cl):DS:=qS (qE zO (qA (qN 3 (S_lots_of_most c) (qA (qB 0) (qA (qB 1) (qA (qB 2) (qC))))) (qC)))
@[irreducible] def S_many_lots (c:Cl):DF:=sh (qP 3 (b_many_lots c))
theorem yZ (c:Cl):S_many_lots c=qP 3 (b_many_lots c):=by delta S_many_lots;exact zU _
@[reducible] def b_first_many (c:Cl):DS:=qS (d2 gIx (qN 3 (S_lots_of_most c) (qA (qB 0) (qA (qB 1) (qA (qB 2) (qC))))) (dC (.int 0)))
@[irreducible] def S_first_many (c:Cl):DF:=sh (qP 3 (b_first_many c))
theorem yI (c:Cl):S_first_many c=qP 3 (b_first_many c):=by delta S_first_many;exact zU _
@[reducible] def b__law_cell:DS:=qQ (sIf (dTr (d2 gLt (qB 1) (qE zO (qA (qB 0) (qC))))) (qS (d2 gIx (qB 0) (qB 1))) (x5)) (qS (dC (.int 0)))
@[irreducible] def S__law_cell:DF:=sh (qP 2 b__law_cell)
theorem j8:S__law_cell=qP 2 b__law_cell:=by delta S__law_cell;exact zU _
@[reducible] def b__law_pen:DS:=qS (gR (qA (qB 0) (qA (qE kU (qA (d2 gGe (qB 0) (d2 uI (dC (.int 10)) (dC (.int 18)))) (qC))) (qC))))
@[irreducible] def S__law_pen:DF:=sh (qP 1 b__law_pen)
theorem kK:S__law_pen=qP 1 b__law_pen:=by delta S__law_pen;exact zU _
@[reducible] def b__law_draw:DS:=qQ (sIf (dTr (d2 gEq (d2 gIx (qB 0) (dC (.int 1))) (dC (.int 1)))) (qQ (zD (d2 vY (d2 gIx (qB 0) (dC (.int 0))) (qB 1)) (gNm 2)) (qQ (zD (d2 jU (d2 gIx (qB 0) (dC (.int 0))) (qB 1)) (gSb (qB 0) (dC (.int 0)) vL)) (qS (qB 2)))) (x5)) (qQ (zD (d2 vY (d2 zM (d2 zT (d2 vY (d2 gIx (qB 0) (dC (.int 0))) (dC (.int 2147483629))) (dC (.int 48271))) (dC (.int 11))) (dC (.int 2147483629))) (gSb (qB 0) (dC (.int 0)) vL)) (qS (d2 vY (d2 jU (d2 vY (d2 zM (d2 zT (d2 gIx (qB 0) (dC (.int 0))) (d2 gIx (qB 0) (dC (.int 0)))) (d2 zT (dC (.int 40692)) (d2 gIx (qB 0) (dC (.int 0))))) (dC (.int 2147483647))) (dC (.int 8))) (qB 1))))
@[irreducible] def S__law_draw:DF:=sh (qP 3 b__law_draw)
theorem j9:S__law_draw=qP 3 b__law_draw:=by delta S__law_draw;exact zU _
@[reducible] def b__law_same (S__law_same:DF):DS:=qQ (sIf (dTr (d2 gIs (qB 1) (dC .non))) (qS (d2 gIs (qB 0) (dC .non))) (x5)) (qQ (sIf (uF (dTr (qE zF (qA (qB 1) (qA (dC (.ty "tuple")) (qC))))) (dTr (qE zF (qA (qB 1) (qA (dC (.ty "list")) (qC)))))) (qQ (sIf (uF (dTr (d2 gNe (qE zF (qA (qB 0) (qA (dC (.ty "tuple")) (qC)))) (qE zF (qA (qB 1) (qA (dC (.ty "tuple")) (qC)))))) (dTr (d2 gNe (qE zF (qA (qB 0) (qA (dC (.ty "list")) (qC)))) (qE zF (qA (qB 1) (qA (dC (.ty "list")) (qC))))))) (qS (dC (.bl false))) (x5)) (qQ (sIf (dTr (d2 gNe (qE zO (qA (qB 0) (qC))) (qE zO (qA (qB 1) (qC))))) (qS (dC (.bl false))) (x5)) (qQ (yD (nF (qA (qB 0) (qA (qB 1) (qC)))) (gTp 2 (zE (gNm 2) (zE (gNm 3) (wN)))) (sIf (yL (dTr (qN 2 S__law_same (qA (qB 2) (qA (qB 3) (qC)))))) (qS (dC (.bl false))) (x5))) (qS (dC (.bl true)))))) (x5)) (qQ (sIf (dTr (qE zF (qA (qB 1) (qA (dC (.ty "str")) (qC))))) (qS (uZ (qE zF (qA (qB 0) (qA (dC (.ty "str")) (qC)))) (d2 gEq (qB 0) (qB 1)))) (x5)) (qS (uZ (d2 gEq (qE zF (qA (qB 0) (qA (dC (.ty "bool")) (qC)))) (qE zF (qA (qB 1) (qA (dC (.ty "bool")) (qC))))) (uZ (qE zF (qA (qB 0) (qA (dC (.ty "int")) (qC)))) (d2 gEq (qB 0) (qB 1)))))))
def kG:Ah→DF
 |0=>fun _ _=>.bad
 |n+1=>qP 4 (b__law_same (kG n))
@[irreducible] def S__law_same:DF:=sh (kG 6)
theorem jB:S__law_same=kG 6:=by delta S__law_same;exact zU _
@[reducible] def b__law_kind_of (c:Cl):DS:=qQ (zD (zZ (qA (qE (zQ (xI c)) (qA (qB 0) (qA (dC (.obj c.NoPoint)) (qC)))) (qA (qE (zQ (xI c)) (qA (qB 0) (qA (dC (.obj c.NoLot)) (qC)))) (qA (qE (zQ (xI c)) (qA (qB 0) (qA (dC (.obj c.NoNumber)) (qC)))) (qA (qE (zQ (xI c)) (qA (qB 0) (qA (dC (.obj c.NoCircle)) (qC)))) (qC)))))) (gNm 1)) (qQ (zD (d2 zM (qB 1) (zZ (qA (qE (zQ (xI c)) (qA (qB 0) (qA (dC (.obj c.NoMarks)) (qC)))) (qA (qE (zQ (xI c)) (qA (qB 0) (qA (dC (.obj c.NoFars)) (qC)))) (qA (qE (zQ (xI c)) (qA (qB 0) (qA (dC (.obj c.NoText)) (qC)))) (qA (qE (zQ (xI c)) (qA (qB 0) (qA (dC (.obj c.NoLine)) (qC)))) (qC))))))) (gNm 1)) (qQ (zD (d2 zM (qB 1) (zZ (qA (qE (zQ (xI c)) (qA (qB 0) (qA (dC (.obj c.NoDeed)) (qC)))) (qA (qE (zQ (xI c)) (qA (qB 0) (qA (dC (.obj c.Alike)) (qC)))) (qA (qE (zQ (xI c)) (qA (qB 0) (qA (dC (.obj c.TooMany)) (qC)))) (qC)))))) (gNm 1)) (qQ (sIf (uF (yL (dTr (qE (zQ (xI c)) (qA (qB 0) (qA (dC (.ty "ValueError")) (qC)))))) (dTr (d2 gNe (dBm "list" bB (qB 1) (qA (dC (.bl true)) (qC))) (dC (.int 1))))) (qS (dC (.str "other"))) (x5)) (qQ (sIf (dTr (qE (zQ (xI c)) (qA (qB 0) (qA (dC (.obj c.Alike)) (qC))))) (qS (zZ (qA (dC (.str "alike")) (qA (kR) (qA (kR) (qA (kR) (qA (kR) (qC)))))))) (x5)) (qQ (sIf (dTr (qE (zQ (xI c)) (qA (qB 0) (qA (dC (.obj c.TooMany)) (qC))))) (qS (zZ (qA (dC (.str "many")) (qA (kR) (qA (kR) (qC)))))) (x5)) (qQ (zD (zZ (qA (dC (.str "point")) (qA (dC (.str "lot")) (qA (dC (.str "number")) (qA (dC (.str "circle")) (qA (dC (.str "marks")) (qA (dC (.str "fars")) (qA (dC (.str "text")) (qA (dC (.str "line")) (qA (dC (.str "deed")) (qC))))))))))) (gNm 2)) (qS (d2 gIx (qB 2) (dBm "list" bC (qB 1) (qA (dC (.bl true)) (qC)))))))))))
@[irreducible] def S__law_kind_of (c:Cl):DF:=sh (qP 3 (b__law_kind_of c))
theorem vZ (c:Cl):S__law_kind_of c=qP 3 (b__law_kind_of c):=by delta S__law_kind_of;exact zU _
@[reducible] def b__law_no_number:DS:=qQ (zD (zZ (qA (d2 w5 (qB 1) (dC (.int 1))) (qA (d2 zM (qB 2) (dC (.int 1))) (qA (dC .non) (qA (dC (.bl true)) (qA (dC (.str "0")) (qA (zH (qA (qB 1) (qC))) (qA (zZ (qA (qB 1) (qC))) (qA (d2 uI (dC (.int 10)) (dC (.int 29))) (qA (d2 w5 (dC (.int 0)) (d2 uI (dC (.int 10)) (dC (.int 29)))) (qA (dC (.bl false)) (qA (d2 zM (qB 2) (dC (.int 2))) (qC))))))))))))) (gNm 3)) (qS (d2 gIx (qB 3) (qN 2 S__law_draw (qA (qB 0) (qA (dC (.int 11)) (qC))))))
@[irreducible] def S__law_no_number:DF:=sh (qP 4 b__law_no_number)
theorem yV:S__law_no_number=qP 4 b__law_no_number:=by delta S__law_no_number;exact zU _
@[reducible] def b__law_far:DS:=qS (d2 zM (d2 uI (d2 w5 (d2 gIx (qB 0) (dC (.int 0))) (d2 gIx (qB 1) (dC (.int 0)))) (dC (.int 2))) (d2 uI (d2 w5 (d2 gIx (qB 0) (dC (.int 1))) (d2 gIx (qB 1) (dC (.int 1)))) (dC (.int 2))))
@[irreducible] def S__law_far:DF:=sh (qP 2 b__law_far)
theorem kJ:S__law_far=qP 2 b__law_far:=by delta S__law_far;exact zU _
@[reducible] def b__law_pairs:DS:=qQ (zD (zZ (qC)) (gNm 1)) (qQ (yD (xO (qA (qE zO (qA (qB 0) (qC))) (qC))) (gNm 2) (zD (d2 zM (qB 1) (zA false [none,Ab 2,Ab 0] (dIt (dSl (qB 0) (wA (d2 zM (qB 2) (dC (.int 1)))) (jC))) (gNm 0) (zL) (z0 (zH (qA (d2 gIx (qB 2) (qB 1)) (qA (qB 0) (qC))))))) (gNm 1))) (qS (qB 1)))
@[irreducible] def S__law_pairs:DF:=sh (qP 3 b__law_pairs)
theorem uQ:S__law_pairs=qP 3 b__law_pairs:=by delta S__law_pairs;exact zU _
@[reducible] def b__law_fars:DS:=qS (zA false [none,none] (dIt (qN 1 S__law_pairs (qA (qB 0) (qC)))) (gTp 2 (zE (gNm 0) (zE (gNm 1) (wN)))) (zL) (z0 (qN 2 (okO S__law_far) (qA (qB 0) (qA (qB 1) (qC))))))
@[irreducible] def S__law_fars:DF:=sh (qP 1 b__law_fars)
theorem jA:S__law_fars=qP 1 b__law_fars:=by delta S__law_fars;exact zU _
@[reducible] def b__law_board:DS:=qS (zA false [none,Ab 1] (xT (xO (qA (d2 zT (qB 0) (qB 1)) (qC)))) (gNm 0) (zL) (z0 (zH (qA (d2 jU (qB 0) (qB 1)) (qA (d2 vY (qB 0) (qB 1)) (qC))))))
@[irreducible] def S__law_board:DF:=sh (qP 2 b__law_board)
theorem uP:S__law_board=qP 2 b__law_board:=by delta S__law_board;exact zU _
@[reducible] def b__law_chosen:DS:=qQ (zD (zZ (qA (zH (qC)) (qC))) (gNm 2)) (qQ (yD (xN (qB 0)) (gNm 3) (zD (d2 zM (qB 2) (zA false [none,Ab 1,Ab 3] (dIt (qB 2)) (gNm 0) (w8 (dTr (d2 gLt (qE zO (qA (qB 0) (qC))) (qB 1))) (zL)) (z0 (d2 zM (qB 0) (zH (qA (qB 2) (qC))))))) (gNm 2))) (qS (qE kW (qA (zA false [none,Ab 1] (dIt (qB 2)) (gNm 0) (w8 (dTr (d2 gEq (qE zO (qA (qB 0) (qC))) (qB 1))) (zL)) (z0 (qB 0))) (qC)))))
@[irreducible] def S__law_chosen:DF:=sh (qP 4 b__law_chosen)
theorem uD:S__law_chosen=qP 4 b__law_chosen:=by delta S__law_chosen;exact zU _
@[reducible] def b__law_came (c:Cl):DS:=pT 5 4 (b0 c) (qS (pK [(3,(S_most_fars c)),(3,(S_many_lots c)),(3,(S_first_many c))] (qB 0) (qA (qB 1) (qA (qB 2) (qA (qB 3) (qC)))))) (qS (qN 1 (S__law_kind_of c) (qA (qB 4) (qC))))
@[irreducible] def S__law_came (c:Cl):DF:=sh (qP 5 (b__law_came c))
theorem yX (c:Cl):S__law_came c=qP 5 (b__law_came c):=by delta S__law_came;exact zU _
@[reducible] def b_law (c:Cl):DS:=qQ (yD (xN (d2 zM (zZ (qA (qN 2 S__law_cell (qA (qB 0) (qA (dC (.int 0)) (qC)))) (qC))) (dSl (qB 0) (wA (dC (.int 1))) (wA (dC (.int 2)))))) (gNm 1) (qQ (zD (qN 1 S__law_pen (qA (qB 1) (qC))) (gNm 2)) (qQ (zD (zH (qA (d2 w5 (dC (.int 4)) (qN 2 S__law_draw (qA (qB 2) (qA (dC (.int 4)) (qC))))) (qA (d2 w5 (dC (.int 4)) (qN 2 S__law_draw (qA (qB 2) (qA (dC (.int 4)) (qC))))) (qC)))) (gTp 2 (zE (gNm 3) (zE (gNm 4) (wN))))) (qQ (zD (d2 zM (dC (.int 1)) (qN 2 S__law_draw (qA (qB 2) (qA (qE vK (qA (d2 w5 (dC (.int 6)) (qE kU (qA (d2 gGt (d2 zT (qB 3) (qB 4)) (dC (.int 12))) (qC)))) (qA (d2 zT (qB 3) (qB 4)) (qC)))) (qC))))) (gNm 5)) (qQ (zD (zA false [none] (dIt (qN 2 S__law_chosen (qA (qN 2 S__law_board (qA (qB 3) (qA (qB 4) (qC)))) (qA (qB 5) (qC))))) (gNm 0) (zL) (z0 (zH (qA (v7 (qN 1 (okO S__law_fars) (qA (qB 0) (qC)))) (qA (qB 0) (qC)))))) (gNm 6)) (qQ (zD (d2 gIx (qE b9 (qA (qB 6) (qC))) (dC (.int 0))) (gNm 7)) (qQ (zD (zA false [none,none,Ab 7] (dIt (qB 6)) (gTp 2 (zE (gNm 0) (zE (gNm 1) (wN)))) (w8 (dTr (d2 gEq (qB 0) (qB 2))) (zL)) (z0 (qB 1))) (gNm 9)) (qQ (yD (xO (qA (dC (.int 2)) (qC))) (gNm 10) (sIf (yL (dTr (qN 2 S__law_same (qA (zA false [none,Ab 4,Ab 5,Ab 3] (xT (xO (qA (dC (.int 3)) (qC)))) (gNm 0) (zL) (z0 (qN 4 (okO (S__law_came c)) (qA (qB 0) (qA (qB 3) (qA (qB 1) (qA (qB 2) (qC)))))))) (qA (zZ (qA (qB 7) (qA (qE zO (qA (qB 9) (qC))) (qA (d2 gIx (qB 9) (dC (.int 0))) (qC))))) (qC)))))) (qS (dC (.bl false))) (x5))) (qQ (m4 11 12 (qA (qN 3 S__law_no_number (qA (qB 2) (qA (dC (.int 1)) (qA (dC (.int 4)) (qC))))) (qA (qN 3 S__law_no_number (qA (qB 2) (qA (dC (.int 1)) (qA (qE vK (qA (dC (.int 6)) (qA (d2 zT (qB 3) (qB 4)) (qC)))) (qC))))) (qC)))) (qQ (zD (zZ (qA (zH (qA (qB 11) (qA (qB 4) (qA (qB 5) (qC))))) (qA (zH (qA (qB 3) (qA (qB 11) (qA (qB 5) (qC))))) (qA (zH (qA (qB 3) (qA (qB 4) (qA (qB 12) (qC))))) (qA (zH (qA (qB 11) (qA (qB 12) (qA (qB 12) (qC))))) (qA (zH (qA (qB 3) (qA (qB 4) (qA (d2 zM (d2 zT (qB 3) (qB 4)) (dC (.int 1))) (qC))))) (qA (zH (qA (qB 3) (qA (qB 4) (qA (dC (.int 7)) (qC))))) (qA (zH (qA (qB 3) (qA (qB 4) (qA (dC (.int 0)) (qC))))) (qC))))))))) (gNm 13)) (yD (xN (d2 zM (qB 13) (zZ (qA (zH (qA (dC (.int 1)) (qA (dC (.int 3)) (qA (dC (.int 4)) (qC))))) (qA (zH (qA (dC (.int 4)) (qA (dC (.int 5)) (qA (dC (.int 1)) (qC))))) (qA (zH (qA (dC (.int 0)) (qA (dC (.int 1)) (qA (dC (.int 1)) (qC))))) (qC))))))) (gTp 3 (zE (gNm 14) (zE (gNm 15) (zE (gNm 8) (wN))))) (sIf (dTr (d2 gNe (zA false [none,Ab 8,Ab 14,Ab 15] (xT (xO (qA (dC (.int 3)) (qC)))) (gNm 0) (zL) (z0 (qN 4 (okO (S__law_came c)) (qA (qB 0) (qA (qB 2) (qA (qB 3) (qA (qB 1) (qC)))))))) (d2 gW (zZ (qA (dC (.str "number")) (qC))) (dC (.int 3))))) (qS (dC (.bl false))) (x5))))))))))))) (qS (dC (.bl true)))
end _K
namespace _K
open PySem _D
theorem gV (i j:Aj)(S:Sto):gEq (.int i) (.int j) S=.ok (.bl (decide (i=j))) S:=by kernel_rfl!
theorem YD (i j:Aj)(S:Sto):gNe (.int i) (.int j) S=.ok (.bl (decide (i≠j))) S:=by
 have h:gNe (.int i) (.int j) S=.ok (.bl (!decide (i=j))) S:=by kernel_rfl!
 rw[h,← decide_not]
theorem wM (i j:Aj)(S:Sto)(h : -(2 ^ 64)<i∧i<2 ^ 64):zT (.int i) (.int j) S=.ok (.int (i*j)) S:=by
 unfold zT i2;rw[tW];unfold tV;simp only[h,and_self,EF,OL,AZ]
theorem wB (i j:Aj)(S:Sto):zM (.int i) (.int j) S=.ok (.int (i+j)) S:=rfl
theorem jT {xs ys:Aa D}(h:xs.length+ys.length≤lim)(S:Sto):zM (.lst xs) (.lst ys) S=.ok (.lst (xs++ys)) S:=AA h
theorem W8 {S:Sto}{j:Ah}{xs:Aa D}(h:S[j]? = Ab (.lst xs)):tyD (.loc j) S=Ab "list":=by
 show (match S[j]? with|some (.lst _)=>Ab "list" | some (.dct _)=>Ab "dict" | _=>none)=_
 rw[h]
theorem hX {S:Sto}{j:Ah}{xs:Aa D}(h:S[j]? = Ab (.lst xs))(hl:xs.length<lim)(d:D):xY (.loc j) [d] S=.ok .non (S.set j (.lst (xs++[d]))):=by
 show (match S[j]? with|some (.lst xs)=>(if xs.length<lim then Res.ok D.non (S.set j (.lst (xs++[d]))) else .bad)|_=>.bad)=_
 rw[h];exact AA hl
theorem aA (d:D)(b a:Bo)(S:Sto)(ho:vC b=true)(h:tyD d S=Ab a):zF [d,.ty b] S=.ok (.bl (u7 a b)) S:=by
 unfold zF;simp[ho,h]
theorem pO (xs:Aa D)(S:Sto):zO [.lst xs] S=.ok (.int xs.length) S:=rfl
theorem l6 (xs:Aa D)(S:Sto):zO [.tup xs] S=.ok (.int xs.length) S:=rfl
theorem sU:vC "int" = true∧vC "bool" = true∧vC "tuple" = true∧vC "list" = true∧vC "str" = true:=kd
theorem uA (i j:Aj)(S:Sto)(h:0<j):vY (.int i) (.int j) S=.ok (.int (i % j)) S:=by
 unfold vY i2;simp[h]
theorem fF (i j:Aj)(S:Sto)(h:0<j∧j<1073741824):jU (.int i) (.int j) S=.ok (.int (i/j)) S:=by
 unfold jU i2 JD;simp[h]
def vP (d:D):Prop:=∀ S,tyD d S=Ab "NoneType" ∨ tyD d S=Ab "bool" ∨ tyD d S=Ab "str" ∨ tyD d S=Ab "tuple" ∨ tyD d S=Ab "list" ∨ tyD d S=Ab "dict"
theorem fW (i:Aj)(S:Sto):S_is_whole [.int i] S=.ok (.bl true) S:=by
 rw[vX]
 kernel_rfl!
theorem mY (d:D)(S:Sto)(h:vP d):S_is_whole [d] S=.ok (.bl false) S:=by
 rw[vX];unfold b_is_whole;rcases h S with h|h|h|h|h|h <;> simp[qP,wI,VE,LU,VD,qQ,sIf,qS,x5,wQ,zD,gNm,gSb,gTp,zE,wN,m4,L5,D9,dC,qB,d1,d2,qA,qC,qE,qN,dTr,yL,uF,w8,zL,uZ,oW,nE,zH,zZ,gR,dBm,dSl,wA,jC,xN,xO,Res.bind,Res.toS,_D.gH,_D.wH,FI,LV,LY,D6,D0,D1,D2,LZ,LS,YN,LW,gLt,gLe,gGt,gGe,_D.w5,D5,aA _ _ _ _ sU.1 h,aA _ _ _ _ sU.2.1 h,u7]
theorem lK (i a b:Aj)(S:Sto):S_is_within [.int i,.int a,.int b] S=.ok (.bl (decide (a≤i∧i≤b))) S:=by
 rw[yY];unfold b_is_within;simp[qP,wI,VE,LU,VD,qQ,sIf,qS,x5,wQ,zD,gNm,gSb,gTp,zE,wN,m4,L5,D9,dC,qB,d1,d2,qA,qC,qE,qN,dTr,yL,uF,w8,zL,uZ,oW,nE,zH,zZ,gR,dBm,dSl,wA,jC,xN,xO,Res.bind,Res.toS,_D.gH,_D.wH,FI,LV,LY,D6,D0,D1,D2,LZ,LS,YN,LW,gLt,gLe,gGt,gGe,_D.w5,D5,fW];by_cases h:a≤i <;> simp[h,VE]
theorem dD (d:D)(a b:Aj)(S:Sto)(h:vP d):S_is_within [d,.int a,.int b] S=.ok (.bl false) S:=by
 rw[yY];unfold b_is_within;simp[qP,wI,VE,LU,VD,qQ,sIf,qS,x5,wQ,zD,gNm,gSb,gTp,zE,wN,m4,L5,D9,dC,qB,d1,d2,qA,qC,qE,qN,dTr,yL,uF,w8,zL,uZ,oW,nE,zH,zZ,gR,dBm,dSl,wA,jC,xN,xO,Res.bind,Res.toS,_D.gH,_D.wH,FI,LV,LY,D6,D0,D1,D2,LZ,LS,YN,LW,gLt,gLe,gGt,gGe,_D.w5,D5,mY d S h]
def vJ (a b:Aj)(d:D):Prop:=∀ S:Sto,S_is_within [d,.int a,.int b] S=.ok (.bl false) S
theorem wG {a b i:Aj}(h:i<a∨b<i):vJ a b (.int i):=fun S=>by
 rw[lK];have:¬ (a≤i∧i≤b):=by omega
 simp[this]
theorem p4 {a b:Aj}{d:D}(h:vP d):vJ a b d:=fun S=>dD _ _ _ S h
theorem GR:vP .non:=fun _=>.inl rfl
theorem XV (b:Ao):vP (.bl b):=fun _=>.inr (.inl rfl)
theorem GS (x:As):vP (.str x):=fun _=>.inr (.inr (.inl rfl))
theorem GT (x:Aa D):vP (.tup x):=fun _=>.inr (.inr (.inr (.inl rfl)))
theorem GQ (x:Aa D):vP (.lst x):=fun _=>.inr (.inr (.inr (.inr (.inl rfl))))
theorem jK (i a b:Aj)(S:Sto)(c:Cl)(h:a≤i∧i≤b):S_need_within c [.int i,.int a,.int b] S=.ok .non S:=by
 rw[yA];unfold b_need_within;simp[qP,wI,VE,LU,VD,qQ,sIf,qS,x5,wQ,zD,gNm,gSb,gTp,zE,wN,m4,L5,D9,dC,qB,d1,d2,qA,qC,qE,qN,dTr,yL,uF,w8,zL,uZ,oW,nE,zH,zZ,gR,dBm,dSl,wA,jC,xN,xO,Res.bind,Res.toS,_D.gH,_D.wH,FI,LV,LY,D6,D0,D1,D2,LZ,LS,YN,LW,gLt,gLe,gGt,gGe,_D.w5,D5,lK,h]
theorem cU (a:Aj)(S:Sto)(h:a.natAbs.log2<1920):j0 (.int a) S=.ok (.str (toString a)) S:=by
 unfold j0;simp only[h,AZ]
def GP (a b:Aj):Aa As:=[EU++("a whole number from " : As),EU++("a whole number from " : As)++((toString a:Bo):As),EU++("a whole number from " : As)++((toString a:Bo):As)++(" to " : As),EU++("a whole number from " : As)++((toString a:Bo):As)++(" to " : As)++((toString b:Bo):As),EU++("a whole number from " : As)++((toString a:Bo):As)++(" to " : As)++((toString b:Bo):As)++(" is needed" : As)]
def tG (a b:Aj):Ao:=decide (a.natAbs.log2<1920)&&decide (b.natAbs.log2<1920)&&(GP a b).all fun m=>decide (m.length≤lim)
theorem gA {out y:As}{p:DE}{ps:Aa DE}{env:qD}{S S1:Sto}(h:p env S=.ok (.str y) S1)(hl:(out++y).length≤lim):jY out (p::ps) env S=jY (out++y) ps env S1:=by
 show ((p env S).bind fun d S1=>match d with|.str y=>if (out++y).length≤lim then jY (out++y) ps env S1 else .bad|_=>.bad)=_
 rw[h];exact AA hl
theorem gG (d:D)(a b:Aj)(S:Sto)(c:Cl)(hm:tG a b=true)(h:vJ a b d):S_need_within c [d,.int a,.int b] S=.ex (.ref c.NoNumber) .non S:=by
 rw[yA];unfold b_need_within;simp only[tG,GP,OC,List.all_nil,Ax,Kh,Bb] at hm;obtain⟨⟨la,lb⟩,j1,j2,j3,j4,j5⟩:=hm;have hj:tB [dC (.str "a whole number from "),d1 j0 (qB 1),dC (.str " to "),d1 j0 (qB 2),dC (.str " is needed")] [Ab d,Ab (.int a),Ab (.int b)] S=.ok (.str (EU++("a whole number from " : As)++((toString a:Bo):As)++(" to " : As)++((toString b:Bo):As)++(" is needed" : As))) S:=
  (gA rfl j1).trans ((gA (cU a S la) j2).trans ((gA rfl j3).trans ((gA (cU b S lb) j4).trans ((gA rfl j5).trans (AA j5)))))
 have l1:∀ x:D,[x].length≤lim:=fun x=>by show 1≤lim;decide
 simp[qP,wI,VE,LU,VD,qQ,sIf,qS,x5,wQ,zD,gNm,gSb,gTp,zE,wN,m4,L5,D9,dC,qB,d1,d2,qA,qC,qE,qN,dTr,yL,uF,w8,zL,uZ,oW,nE,zH,zZ,gR,dBm,dSl,wA,jC,xN,xO,Res.bind,Res.toS,_D.gH,_D.wH,FI,LV,LY,D6,D0,D1,D2,LZ,LS,YN,LW,gLt,gLe,gGt,gGe,_D.w5,D5,h S,gI];simp only[hj,l1,AZ,VD]
def y6 (S:Sto)(p:Ah):Prop:=∃ v f:Aj,S[p]? = Ab (.lst [.int v,.int f])
theorem bG (p:Ah)(k:Aj)(xs:Aa D)(d:D)(S:Sto)(h:S[p]? = Ab (.lst xs))(hk:_L.atI xs k=Ab d):gIx (.loc p) (.int k) S=.ok d S:=by
 show (match S[p]? with|some (.lst xs)=>_D.wH (_L.atI xs k) S|_=>.bad)=_
 rw[h];show _D.wH (_L.atI xs k) S=_;rw[hk];rfl
theorem XZ (v f:Aj):_L.atI [D.int v,D.int f] 0=Ab (.int v):=rfl
theorem TC (v f:Aj):_L.atI [D.int v,D.int f] 1=Ab (.int f):=rfl
theorem sV (p:Ah)(v f w:Aj)(S:Sto)(h:S[p]? = Ab (.lst [.int v,.int f])):vL (.loc p) (.int 0) (.int w) S=.ok () (S.set p (.lst [.int w,.int f])):=by
 simp[vL,fK,h,_L.ixN]
theorem lI (S:Sto)(p:Ah)(m:Aj)(h:y6 S p)(hm:0<m∧m<1073741824):∃ r v f:Aj,S__law_draw [.loc p,.int m] S=.ok (.int r) (S.set p (.lst [.int v,.int f]))∧0≤r∧r<m:=by
 obtain⟨v,f,hp⟩:=h;have hpl:=(Ay.mp hp).1;have g0:=bG p 0 _ _ S hp (XZ v f);have g1:=bG p 1 _ _ S hp (TC v f);rw[j9];unfold b__law_draw;by_cases hf:f=1
 ·refine⟨v % m,v/m,f,?_,Hc _ om,Fn _ hm.1⟩
  subst hf;simp[qP,wI,VE,LU,VD,qQ,sIf,qS,x5,wQ,zD,gNm,gSb,gTp,zE,wN,m4,L5,D9,dC,qB,d1,d2,qA,qC,qE,qN,dTr,yL,uF,w8,zL,uZ,oW,nE,zH,zZ,gR,dBm,dSl,wA,jC,xN,xO,Res.bind,Res.toS,_D.gH,_D.wH,FI,LV,LY,D6,D0,D1,D2,LZ,LS,YN,LW,gLt,gLe,gGt,gGe,_D.w5,D5,g0,g1,gV,uA v m S hm.1,fF v m S hm,sV p v 1 (v/m) S hp]
 ·obtain⟨w,hw⟩:∃ w:Aj,w=(v % 2147483629*48271+11) % 2147483629:=⟨_,rfl⟩
  have hw1:0≤w∧w<2147483629:=by rw[hw];exact⟨Hc _ om,Fn _ om⟩
  have hv1:0≤v % 2147483629∧v % 2147483629<2147483629:=⟨Hc _ om,Fn _ om⟩;have hp':(S.set p (MO.lst [.int w,.int f]))[p]? = Ab (.lst [.int w,.int f]):=by simp[hpl]
  have k0:=bG p 0 _ _ (S.set p (MO.lst [.int w,.int f])) hp' (XZ w f);have m1:=wM (v % 2147483629) 48271 S ⟨by omega,by omega⟩
  have m2:=wM w w (S.set p (MO.lst [.int w,.int f])) ⟨by omega,by omega⟩
  have m3:=wM 40692 w (S.set p (MO.lst [.int w,.int f])) ⟨by omega,by omega⟩
  have d1:=uA v 2147483629 S om;have d2':=uA (v % 2147483629*48271+11) 2147483629 S om;rw[← hw] at d2';have d3:=uA (w*w+40692*w) 2147483647 (S.set p (MO.lst [.int w,.int f])) om;have d4:=fF ((w*w+40692*w) % 2147483647) 8 (S.set p (MO.lst [.int w,.int f])) om;have d5:=uA ((w*w+40692*w) % 2147483647/8) m (S.set p (MO.lst [.int w,.int f])) hm.1;refine⟨(w*w+40692*w) % 2147483647/8 % m,w,f,?_,Hc _ om,Fn _ hm.1⟩;simp[qP,wI,VE,LU,VD,qQ,sIf,qS,x5,wQ,zD,gNm,gSb,gTp,zE,wN,m4,L5,D9,dC,qB,d1,d2,qA,qC,qE,qN,dTr,yL,uF,w8,zL,uZ,oW,nE,zH,zZ,gR,dBm,dSl,wA,jC,xN,xO,Res.bind,Res.toS,_D.gH,_D.wH,FI,LV,LY,D6,D0,D1,D2,LZ,LS,YN,LW,gLt,gLe,gGt,gGe,_D.w5,D5,g0,g1,gV,hf,d1,m1,wB,d2',sV p v f w S hp,k0,m2,m3,d3,d4,d5]
theorem pR {S:Sto}{p:Ah}(h:y6 S p)(v f:Aj):y6 (S.set p (.lst [.int v,.int f])) p:=by
 obtain⟨v0,f0,hp⟩:=h;have hpl:=(Ay.mp hp).1;exact⟨v,f,by simp[hpl]⟩
theorem VH {S S':Sto}{p:Ah}(h:y6 S p)(e:S<+:S'):y6 S' p:=by
 obtain⟨v0,f0,hp⟩:=h;obtain⟨r,rfl⟩:=e;exact⟨v0,f0,by rw[AG (Ay.mp hp).1];exact hp⟩
theorem B7 (S:Sto):uI (.int 10) (.int 18) S=.ok (.int 1000000000000000000) S:=rfl
theorem B8 (S:Sto):uI (.int 10) (.int 29) S=.ok (.int 100000000000000000000000000000) S:=rfl
theorem TQ (x:Aj)(S:Sto):∃ f:Aj,S__law_pen [.int x] S=.ok (.loc S.length) (S++[.lst [.int x,.int f]]):=by
 refine⟨b01 (decide (1000000000000000000≤x)),?_⟩;have l2:2≤lim:=by decide
 rw[kK];unfold b__law_pen;simp[qP,wI,VE,LU,VD,qQ,sIf,qS,x5,wQ,zD,gNm,gSb,gTp,zE,wN,m4,L5,D9,dC,qB,d1,d2,qA,qC,qE,qN,dTr,yL,uF,w8,zL,uZ,oW,nE,zH,zZ,gR,dBm,dSl,wA,jC,xN,xO,Res.bind,Res.toS,_D.gH,_D.wH,FI,LV,LY,D6,D0,D1,D2,LZ,LS,YN,LW,gLt,gLe,gGt,gGe,_D.w5,D5,B7,dU,l2]
theorem BY (ns:Aa Aj)(S:Sto):∃ x:Aj,S__law_cell [.lst (ns.map D.int),.int 0] S=.ok (.int x) S:=by
 rw[j8];unfold b__law_cell;cases ns with
 |nil=>exact⟨0,by simp[qP,wI,VE,LU,VD,qQ,sIf,qS,x5,wQ,zD,gNm,gSb,gTp,zE,wN,m4,L5,D9,dC,qB,d1,d2,qA,qC,qE,qN,dTr,yL,uF,w8,zL,uZ,oW,nE,zH,zZ,gR,dBm,dSl,wA,jC,xN,xO,Res.bind,Res.toS,_D.gH,_D.wH,FI,LV,LY,D6,D0,D1,D2,LZ,LS,YN,LW,gLt,gLe,gGt,gGe,_D.w5,D5,pO]⟩
 |cons n ns =>
  refine⟨n,?_⟩;have h:(0:Aj)<(ns.length:Aj)+1:=by omega
  have a:_L.atI (D.int n::ns.map D.int) 0=Ab (.int n):=by simp[_L.atI,_L.ixN,h]
  simp[qP,wI,VE,LU,VD,qQ,sIf,qS,x5,wQ,zD,gNm,gSb,gTp,zE,wN,m4,L5,D9,dC,qB,d1,d2,qA,qC,qE,qN,dTr,yL,uF,w8,zL,uZ,oW,nE,zH,zZ,gR,dBm,dSl,wA,jC,xN,xO,Res.bind,Res.toS,_D.gH,_D.wH,FI,LV,LY,D6,D0,D1,D2,LZ,LS,YN,LW,gLt,gLe,gGt,gGe,_D.w5,D5,pO,fJ a,h]
theorem J9 (xs:Aa D)(r:Aj)(h:0≤r∧r<xs.length):∃ d,_L.atI xs r=Ab d∧d∈xs:=by
 have e:_L.ixN xs.length r=Ab r.toNat:=by simp[_L.ixN,h]
 have hl:r.toNat<xs.length:=by omega
 exact⟨xs[r.toNat],by simp[_L.atI,e,hl],Es hl⟩
theorem WO (ns:Aa Aj)(lo hi:Ak Aj):∃ ms:Aa Aj,yK (ns.map D.int) lo hi=ms.map D.int∧ms.length≤ns.length:=by
 unfold yK;rw[← Km,← List.map_take];exact⟨_,rfl,by simp;omega⟩
def rP (a b:Aj):Aa D:=[.int (a-1),.int (b+1),.non,.bl true,.str "0",.tup [.int a],.lst [.int a],.int 100000000000000000000000000000,.int (-100000000000000000000000000000),.bl false,.int (b+2)]
theorem WD (a b:Aj)(ha : -10000000000000000000000000000<a∧a≤b∧b<10000000000000000000000000000):∀ d∈rP a b,vJ a b d:=by
 intro d hd;simp only[rP,AL,Bi,Du] at hd;rcases hd with rfl|rfl|rfl|rfl|rfl|rfl|rfl|rfl|rfl|rfl|rfl
 ·exact wG om
 ·exact wG om
 ·exact p4 GR
 ·exact p4 (XV _)
 ·exact p4 (GS _)
 ·exact p4 (GT _)
 ·exact p4 (GQ _)
 ·exact wG om
 ·exact wG om
 ·exact p4 (XV _)
 ·exact wG om
theorem pD (S:Sto)(p:Ah)(a b:Aj)(h:y6 S p)(ha : -10000000000000000000000000000<a∧a≤b∧b<10000000000000000000000000000):∃ (d:D) (v f:Aj),S__law_no_number [.loc p,.int a,.int b] S=.ok d (S.set p (.lst [.int v,.int f]))∧vJ a b d:=by
 obtain⟨r,v,f,e,h0,h1⟩:=lI S p 11 h om;obtain⟨d,hd,hm⟩:=J9 (rP a b) r ⟨h0,h1⟩;refine⟨d,v,f,?_,WD a b ha d hm⟩;unfold rP at hd;have l1:1≤lim:=by decide
 have l11:11≤lim:=by decide
 rw[yV];unfold b__law_no_number;simp[qP,wI,VE,LU,VD,qQ,sIf,qS,x5,wQ,zD,gNm,gSb,gTp,zE,wN,m4,L5,D9,dC,qB,d1,d2,qA,qC,qE,qN,dTr,yL,uF,w8,zL,uZ,oW,nE,zH,zZ,gR,dBm,dSl,wA,jC,xN,xO,Res.bind,Res.toS,_D.gH,_D.wH,FI,LV,LY,D6,D0,D1,D2,LZ,LS,YN,LW,gLt,gLe,gGt,gGe,_D.w5,D5,B8,wB,l1,l11,e,fJ hd]
def nR:DG:=gTp 2 (zE (gNm 2) (zE (gNm 3) (wN)))
def bA (S:DF):DS:=sIf (yL (dTr (qN 2 S (qA (qB 2) (qA (qB 3) (qC)))))) (qS (dC (.bl false))) (x5)
theorem JA (S:DF):b__law_same S=qQ (sIf (dTr (d2 gIs (qB 1) (dC .non))) (qS (d2 gIs (qB 0) (dC .non))) (x5)) (qQ (sIf (uF (dTr (qE zF (qA (qB 1) (qA (dC (.ty "tuple")) (qC))))) (dTr (qE zF (qA (qB 1) (qA (dC (.ty "list")) (qC)))))) (qQ (sIf (uF (dTr (d2 gNe (qE zF (qA (qB 0) (qA (dC (.ty "tuple")) (qC)))) (qE zF (qA (qB 1) (qA (dC (.ty "tuple")) (qC)))))) (dTr (d2 gNe (qE zF (qA (qB 0) (qA (dC (.ty "list")) (qC)))) (qE zF (qA (qB 1) (qA (dC (.ty "list")) (qC))))))) (qS (dC (.bl false))) (x5)) (qQ (sIf (dTr (d2 gNe (qE zO (qA (qB 0) (qC))) (qE zO (qA (qB 1) (qC))))) (qS (dC (.bl false))) (x5)) (qQ (yD (nF (qA (qB 0) (qA (qB 1) (qC)))) nR (bA S)) (qS (dC (.bl true)))))) (x5)) (qQ (sIf (dTr (qE zF (qA (qB 1) (qA (dC (.ty "str")) (qC))))) (qS (uZ (qE zF (qA (qB 0) (qA (dC (.ty "str")) (qC)))) (d2 gEq (qB 0) (qB 1)))) (x5)) (qS (uZ (d2 gEq (qE zF (qA (qB 0) (qA (dC (.ty "bool")) (qC)))) (qE zF (qA (qB 1) (qA (dC (.ty "bool")) (qC))))) (uZ (qE zF (qA (qB 0) (qA (dC (.ty "int")) (qC)))) (d2 gEq (qB 0) (qB 1))))))):=rfl
theorem aL (F:DF)(x y:Ak D)(S:Sto):∀ (ws:Aa D),(∀ d∈ws,F [d,d] S=.ok (.bl true) S)→∀ u v,∃ u' v',vO nR (bA F) (yG ws ws) [x,y,u,v] S=.nx [x,y,u',v'] S:=by
 intro ws
 induction ws with
 |nil=>exact fun _ u v=>⟨u,v,rfl⟩
 |cons w ws ih =>
  intro h u v;obtain⟨u',v',e⟩:=ih (fun d hd=>h d (AK _ hd)) (Ab w) (Ab w);refine⟨u',v',?_⟩;have hw:=h w (Bu ..);have hg:nR (.tup [w,w]) [x,y,u,v] S=.ok [x,y,Ab w,Ab w] S:=rfl;have hf:bA F [x,y,Ab w,Ab w] S=.nx [x,y,Ab w,Ab w] S:=by
   unfold bA;simp[qP,wI,VE,LU,VD,qQ,sIf,qS,x5,wQ,zD,gNm,gSb,gTp,zE,wN,m4,L5,D9,dC,qB,d1,d2,qA,qC,qE,qN,dTr,yL,uF,w8,zL,uZ,oW,nE,zH,zZ,gR,dBm,dSl,wA,jC,xN,xO,Res.bind,Res.toS,_D.gH,_D.wH,FI,LV,LY,D6,D0,D1,D2,LZ,LS,YN,LW,gLt,gLe,gGt,gGe,_D.w5,D5,hw]
  have hz:yG (w::ws) (w::ws)=D.tup [w,w]::yG ws ws:=rfl;rw[hz];unfold vO;simp only[hg,Res.toS,hf];exact e
def okD:Ah→D→Prop
 |n+1,.tup xs=>∀ x∈xs,okD n x
 |n+1,.lst xs=>∀ x∈xs,okD n x
 |_,.int _=>Hf
 |_,.bl _=>Hf
 |_,.non=>Hf
 |_,_=>Cq
theorem PB:∀ (n:Ah) (d:D),okD n d→okD (n+1) d:=by
 intro n
 induction n with
 |zero =>
  intro d h;cases d with
  |int _=>trivial
  |bl _=>trivial
  |non=>trivial
  |_=>exact Am h
 |succ n ih =>
  intro d h;cases d with
  |int _=>trivial
  |bl _=>trivial
  |non=>trivial
  |tup xs=>exact fun x hx=>ih x (h x hx)
  |lst xs=>exact fun x hx=>ih x (h x hx)
  |_=>exact Am h
theorem P9 {n m:Ah}(h:n≤m){d:D}(k:okD n d):okD m d:=by
 induction h with
 |refl=>exact k
 |step _ ih=>exact PB _ _ ih
theorem F5 {t:DT}{f g:DS}{env:qD}{S S1:Sto}{b:Ao}{Q:D→Sto→Prop}(h:t env S=.ok b S1)(k:Rt ((if b then f else g) env S1) Q):Rt (sIf t f g env S) Q:=by
 obtain⟨d,S2,e2,q⟩:=k;refine⟨d,S2,?_,q⟩;unfold sIf;rw[h];cases b <;> exact e2
theorem UC {f g:DS}{env:qD}{S:Sto}{Q:D→Sto→Prop}(h:Rt (f env S) Q):Rt (qQ f g env S) Q:=by
 obtain⟨d,S2,e2,q⟩:=h;exact⟨d,S2,by unfold qQ;rw[e2],q⟩
theorem iW {n:Ah}{g:DS}{ds:Aa D}{S S':Sto}{d:D}{env:qD}(hs:wI n ds=env)(h:Rt (g env S) fun d' S1=>d'=d∧S1=S'):qP n g ds S=.ok d S':=by
 obtain⟨d',S1,e,rfl,rfl⟩:=h;exact wZ hs e
theorem lQ (F:DF)(d:D)(ws:Aa D)(S:Sto)(h1:gIs d .non S=.ok (.bl false) S)(h2:uF (dTr (qE zF (qA (qB 1) (qA (dC (.ty "tuple")) (qC))))) (dTr (qE zF (qA (qB 1) (qA (dC (.ty "list")) (qC))))) [Ab d,Ab d,none,none] S=.ok true S)
  (h3:uF (dTr (d2 gNe (qE zF (qA (qB 0) (qA (dC (.ty "tuple")) (qC)))) (qE zF (qA (qB 1) (qA (dC (.ty "tuple")) (qC)))))) (dTr (d2 gNe (qE zF (qA (qB 0) (qA (dC (.ty "list")) (qC)))) (qE zF (qA (qB 1) (qA (dC (.ty "list")) (qC)))))) [Ab d,Ab d,none,none] S=.ok false S)
  (h4:zO [d] S=.ok (.int ws.length) S) (h5:hV [d,d]=Ab (yG ws ws)) (ih:∀ x∈ws,F [x,x] S=.ok (.bl true) S):qP 4 (b__law_same F) [d,d] S=.ok (.bl true) S:=by
 rw[JA];obtain⟨u',v',e⟩:=aL F (Ab d) (Ab d) S ws ih none none;have h1':dTr (d2 gIs (qB 1) (dC .non)) [Ab d,Ab d,none,none] S=.ok false S:=by
  show (Res.bind (gIs d .non S) fun d S1=>gH (wV d S1) S1)=_;rw[h1];rfl
 have h4':dTr (d2 gNe (qE zO (qA (qB 0) (qC))) (qE zO (qA (qB 1) (qC)))) [Ab d,Ab d,none,none] S=.ok false S:=by
  show (Res.bind (Res.bind (zO [d] S) fun a S1=>Res.bind (zO [d] S1) fun b S2=>gNe a b S2) fun d S1=>gH (wV d S1) S1)=_;rw[h4];show (Res.bind (Res.bind (zO [d] S) fun b S2=>gNe (.int ws.length) b S2) fun d S1=>gH (wV d S1) S1)=_;rw[h4];show (Res.bind (gNe (.int ws.length) (.int ws.length) S) fun d S1=>gH (wV d S1) S1)=_;rw[YD,Bd (fun h=>h rfl)];rfl
 have h5':nF (qA (qB 0) (qA (qB 1) (qC))) [Ab d,Ab d,none,none] S=.ok (yG ws ws) S:=by
  show _D.wH (hV [d,d]) S=_;rw[h5];rfl
 exact iW rfl (zI (uV h1' (yO rfl (UC (F5 h2 (zI (uV h3 (yO rfl (zI (uV h4' (yO rfl (zI (wY h5' (yO e (vV (zG rfl ⟨rfl,rfl⟩))))))))))))))))
theorem lR (F:DF)(i:Aj)(S:Sto):qP 4 (b__law_same F) [.int i,.int i] S=.ok (.bl true) S:=by
 have h:qP 4 (b__law_same F) [.int i,.int i] S=.ok (.bl (i == i)) S:=by kernel_rfl!
 rw[h,CQ]
theorem r6 (F:DF)(b:Ao)(S:Sto):qP 4 (b__law_same F) [.bl b,.bl b] S=.ok (.bl true) S:=by
 cases b <;> kernel_rfl!
theorem lS (F:DF)(S:Sto):qP 4 (b__law_same F) [.non,.non] S=.ok (.bl true) S:=by kernel_rfl!
theorem iX:∀ (n:Ah) (d:D) (S:Sto),okD n d→kG (n+1) [d,d] S=.ok (.bl true) S:=by
 intro n
 induction n with
 |zero =>
  intro d S h;cases d with
  |int i=>exact lR _ i S
  |bl b=>exact r6 _ b S
  |non=>exact lS _ S
  |_=>exact Am h
 |succ n ih =>
  intro d S h;cases d with
  |tup ws=>exact lQ (kG (n+1)) (.tup ws) ws S rfl (by kernel_rfl!) (by kernel_rfl!) rfl rfl fun x hx=>ih x S (h x hx)
  |lst ws=>exact lQ (kG (n+1)) (.lst ws) ws S rfl (by kernel_rfl!) (by kernel_rfl!) rfl rfl fun x hx=>ih x S (h x hx)
  |int i=>exact lR _ i S
  |bl b=>exact r6 _ b S
  |non=>exact lS _ S
  |_=>exact Am h
theorem QX {cl:Aa Ad}{C B:Ad}(hC:C∈cl)(hB:B∈cl)(S:Sto):zQ cl [.exn (.ref C),.obj B] S=.ok (.bl (C == B)) S:=by
 show (if (cl.contains C&&cl.contains B)=true then Res.ok (D.bl (C == B)) S else .bad)=_
 rw[CF.mpr hC,CF.mpr hB];rfl
theorem YJ {cl:Aa Ad}{C:Ad}(hC:C∈cl)(S:Sto):zQ cl [.exn (.ref C),.ty "ValueError"] S=.ok (.bl true) S:=by
 show (if (cl.contains C&&(("ValueError" : Bo) == "ValueError"))=true then Res.ok (D.bl true) S else .bad)=_
 rw[CF.mpr hC];rfl
theorem y9 {cl:Aa Ad}(nd:cl.Nodup){i j:Ah}{a b:Ad}(ha:cl[i]? = Ab a)(hb:cl[j]? = Ab b)(h:i≠j):(a == b)=false:=by
 rw[Em];rintro rfl;obtain⟨h1,e1⟩:=Ay.mp ha;obtain⟨h2,e2⟩:=Ay.mp hb;exact h ((Gi nd).mp (e1.trans e2.symm))
theorem wO {cl:Aa Ad}{env:qD}{S:Sto}{C B:Ad}{b:Ao}(h0:env[0]? = Ab (Ab (.exn (.ref C))))(hC:C∈cl)(hB:B∈cl)(e:(C == B)=b):qE (zQ cl) (qA (qB 0) (qA (dC (.obj B)) (qC))) env S=.ok (.bl b) S:=by
 unfold qE qA qB;rw[h0];exact(QX hC hB S).trans (e▸rfl)
theorem MJ {cl:Aa Ad}{env:qD}{S:Sto}{C:Ad}(h0:env[0]? = Ab (Ab (.exn (.ref C))))(hC:C∈cl):qE (zQ cl) (qA (qB 0) (qA (dC (.ty "ValueError")) (qC))) env S=.ok (.bl true) S:=by
 unfold qE qA qB;rw[h0];exact YJ hC S
theorem uG {f:DE}{g:DA}{env:qD}{S:Sto}{a:D}{as:Aa D}(h:f env S=.ok a S)(k:g env S=.ok as S):qA f g env S=.ok (a::as) S:=by
 unfold qA;rw[h,Res.bind_ok,k];rfl
theorem oX {g:DA}{env:qD}{S:Sto}{as:Aa D}(k:g env S=.ok as S)(h:as.length≤lim):zZ g env S=.ok (.lst as) S:=by
 unfold zZ;rw[k,Res.bind_ok,AA h]
theorem G9 {o:G2}{f g:DE}{env:qD}{S:Sto}{a b:D}(h1:f env S=.ok a S)(h2:g env S=.ok b S):d2 o f g env S=o a b S:=by
 unfold d2;rw[h1,Res.bind_ok,h2];rfl
theorem X6 {f:DE}{env:qD}{S:Sto}{b:Ao}(h:f env S=.ok (.bl b) S):dTr f env S=.ok b S:=by
 unfold dTr;rw[h];rfl
theorem MS {f:DT}{env:qD}{S:Sto}{b:Ao}(h:f env S=.ok b S):yL f env S=.ok (!b) S:=by
 unfold yL;rw[h];rfl
theorem T7 {f g:DT}{env:qD}{S:Sto}(h:f env S=.ok false S)(k:g env S=.ok false S):uF f g env S=.ok false S:=by
 unfold uF;rw[h];exact k
theorem bP (c:Cl)(nd:(xI c).Nodup)(S:Sto):S__law_kind_of c [.exn (.ref c.NoNumber)] S=.ok (.str "number") S:=by
 have mN:c.NoNumber∈xI c:=.tail _ (.tail _ (.head _));rw[vZ];refine iW (env:=[Ab (.exn (.ref c.NoNumber)),none,none]) rfl ?_;refine zI (x6 (zG (oX (uG (wO (env:=[Ab (.exn (.ref c.NoNumber)),none,none]) rfl mN (.head _) (y9 (i:=2) (j:=0) nd rfl rfl (by decide))) (uG (wO (env:=[Ab (.exn (.ref c.NoNumber)),none,none]) rfl mN (.tail _ (.head _)) (y9 (i:=2) (j:=1) nd rfl rfl (by decide))) (uG (wO (env:=[Ab (.exn (.ref c.NoNumber)),none,none]) rfl mN (.tail _ (.tail _ (.head _))) (CQ _)) (uG (wO (env:=[Ab (.exn (.ref c.NoNumber)),none,none]) rfl mN (.tail _ (.tail _ (.tail _ (.head _)))) (y9 (i:=2) (j:=3) nd rfl rfl (by decide))) rfl)))) (by decide)) ?_))
 refine zI (x6 (zG ((G9 (a:=.lst [.bl false,.bl false,.bl true,.bl false]) rfl (oX (uG (wO (env:=[Ab (.exn (.ref c.NoNumber)),Ab (.lst [.bl false,.bl false,.bl true,.bl false]),none]) rfl mN (.tail _ (.tail _ (.tail _ (.tail _ (.head _))))) (y9 (i:=2) (j:=4) nd rfl rfl (by decide))) (uG (wO (env:=[Ab (.exn (.ref c.NoNumber)),Ab (.lst [.bl false,.bl false,.bl true,.bl false]),none]) rfl mN (.tail _ (.tail _ (.tail _ (.tail _ (.tail _ (.head _)))))) (y9 (i:=2) (j:=5) nd rfl rfl (by decide))) (uG (wO (env:=[Ab (.exn (.ref c.NoNumber)),Ab (.lst [.bl false,.bl false,.bl true,.bl false]),none]) rfl mN (.tail _ (.tail _ (.tail _ (.tail _ (.tail _ (.tail _ (.head _))))))) (y9 (i:=2) (j:=6) nd rfl rfl (by decide))) (uG (wO (env:=[Ab (.exn (.ref c.NoNumber)),Ab (.lst [.bl false,.bl false,.bl true,.bl false]),none]) rfl mN (.tail _ (.tail _ (.tail _ (.tail _ (.tail _ (.tail _ (.tail _ (.head _)))))))) (y9 (i:=2) (j:=7) nd rfl rfl (by decide))) rfl)))) (by decide))).trans (c:=.ok (.lst [.bl false,.bl false,.bl true,.bl false,.bl false,.bl false,.bl false,.bl false]) S) (by kernel_rfl!)) ?_))
 refine zI (x6 (zG ((G9 (a:=.lst [.bl false,.bl false,.bl true,.bl false,.bl false,.bl false,.bl false,.bl false]) rfl (oX (uG (wO (env:=[Ab (.exn (.ref c.NoNumber)),Ab (.lst [.bl false,.bl false,.bl true,.bl false,.bl false,.bl false,.bl false,.bl false]),none]) rfl mN (.tail _ (.tail _ (.tail _ (.tail _ (.tail _ (.tail _ (.tail _ (.tail _ (.head _))))))))) (y9 (i:=2) (j:=8) nd rfl rfl (by decide))) (uG (wO (env:=[Ab (.exn (.ref c.NoNumber)),Ab (.lst [.bl false,.bl false,.bl true,.bl false,.bl false,.bl false,.bl false,.bl false]),none]) rfl mN (.tail _ (.tail _ (.tail _ (.tail _ (.tail _ (.tail _ (.tail _ (.tail _ (.tail _ (.head _)))))))))) (y9 (i:=2) (j:=9) nd rfl rfl (by decide))) (uG (wO (env:=[Ab (.exn (.ref c.NoNumber)),Ab (.lst [.bl false,.bl false,.bl true,.bl false,.bl false,.bl false,.bl false,.bl false]),none]) rfl mN (.tail _ (.tail _ (.tail _ (.tail _ (.tail _ (.tail _ (.tail _ (.tail _ (.tail _ (.tail _ (.head _))))))))))) (y9 (i:=2) (j:=10) nd rfl rfl (by decide))) rfl))) (by decide))).trans (c:=.ok (.lst [.bl false,.bl false,.bl true,.bl false,.bl false,.bl false,.bl false,.bl false,.bl false,.bl false,.bl false]) S) (by kernel_rfl!)) ?_))
 refine zI (uV (b:=false) (S1:=S) (T7 (MS (X6 (MJ (env:=[Ab (.exn (.ref c.NoNumber)),Ab (.lst [.bl false,.bl false,.bl true,.bl false,.bl false,.bl false,.bl false,.bl false,.bl false,.bl false,.bl false]),none]) rfl mN))) (by kernel_rfl!)) (yO (env:=[Ab (.exn (.ref c.NoNumber)),Ab (.lst [.bl false,.bl false,.bl true,.bl false,.bl false,.bl false,.bl false,.bl false,.bl false,.bl false,.bl false]),none]) (S:=S) rfl ?_))
 refine zI (uV (X6 (wO (env:=[Ab (.exn (.ref c.NoNumber)),Ab (.lst [.bl false,.bl false,.bl true,.bl false,.bl false,.bl false,.bl false,.bl false,.bl false,.bl false,.bl false]),none]) rfl mN (.tail _ (.tail _ (.tail _ (.tail _ (.tail _ (.tail _ (.tail _ (.tail _ (.tail _ (.head _)))))))))) (y9 (i:=2) (j:=9) nd rfl rfl (by decide)))) (yO (env:=[Ab (.exn (.ref c.NoNumber)),Ab (.lst [.bl false,.bl false,.bl true,.bl false,.bl false,.bl false,.bl false,.bl false,.bl false,.bl false,.bl false]),none]) (S:=S) rfl ?_))
 refine zI (uV (X6 (wO (env:=[Ab (.exn (.ref c.NoNumber)),Ab (.lst [.bl false,.bl false,.bl true,.bl false,.bl false,.bl false,.bl false,.bl false,.bl false,.bl false,.bl false]),none]) rfl mN (.tail _ (.tail _ (.tail _ (.tail _ (.tail _ (.tail _ (.tail _ (.tail _ (.tail _ (.tail _ (.head _))))))))))) (y9 (i:=2) (j:=10) nd rfl rfl (by decide)))) (yO (env:=[Ab (.exn (.ref c.NoNumber)),Ab (.lst [.bl false,.bl false,.bl true,.bl false,.bl false,.bl false,.bl false,.bl false,.bl false,.bl false,.bl false]),none]) (S:=S) rfl ?_))
 exact TW (d:=.str "number") (S:=S) (by kernel_rfl!) ⟨rfl,rfl⟩
abbrev Pt:=Aj × Aj
def ptD (p:Pt):D:=.tup [.int p.1,.int p.2]
def qF (l:Aa Pt):D:=.tup (l.map ptD)
def far (p q:Pt):Aj:=(p.1-q.1)*(p.1-q.1)+(p.2-q.2)*(p.2-q.2)
def jN (p:Pt):Prop:=-2000≤p.1∧p.1≤2000 ∧ -2000≤p.2∧p.2≤2000
theorem aE (p:Pt)(S:Sto):gIx (ptD p) (.int 0) S=.ok (.int p.1) S:=rfl
theorem aF (p:Pt)(S:Sto):gIx (ptD p) (.int 1) S=.ok (.int p.2) S:=rfl
theorem TN (p q:Pt)(S:Sto)(hp:jN p)(hq:jN q):S_far_between [ptD p,ptD q] S=.ok (.int (far p q)) S:=by
 obtain⟨a1,a2,a3,a4⟩:=hp;obtain⟨b1,b2,b3,b4⟩:=hq;have m1:=wM (p.1-q.1) (p.1-q.1) S ⟨by omega,by omega⟩
 have m2:=wM (p.2-q.2) (p.2-q.2) S ⟨by omega,by omega⟩
 rw[uE];unfold b_far_between;simp[qP,wI,VE,LU,VD,qQ,sIf,qS,x5,wQ,zD,gNm,gSb,gTp,zE,wN,m4,L5,D9,dC,qB,d1,d2,qA,qC,qE,qN,dTr,yL,uF,w8,zL,uZ,oW,nE,zH,zZ,gR,dBm,dSl,wA,jC,xN,xO,Res.bind,Res.toS,_D.gH,_D.wH,FI,LV,LY,D6,D0,D1,D2,LZ,LS,YN,LW,gLt,gLe,gGt,gGe,_D.w5,D5,aE,aF,m1,m2,wB,far]
theorem F0 (p q:Pt)(S:Sto)(hp:jN p)(hq:jN q):S__law_far [ptD p,ptD q] S=.ok (.int (far p q)) S:=by
 obtain⟨a1,a2,a3,a4⟩:=hp;obtain⟨b1,b2,b3,b4⟩:=hq;have pw:∀ i:Aj,-4000≤i→i≤4000→uI (.int i) (.int 2) S=.ok (.int (i*i)) S:=fun i h1 h2=>by
  unfold uI i2 JE;have:i.natAbs<2 ^ 64:=by omega
  have e:i ^ (2:Ah)=i*i:=by rw[OS,OS];simp
  simp[this,e]
 rw[kJ];unfold b__law_far;simp[qP,wI,VE,LU,VD,qQ,sIf,qS,x5,wQ,zD,gNm,gSb,gTp,zE,wN,m4,L5,D9,dC,qB,d1,d2,qA,qC,qE,qN,dTr,yL,uF,w8,zL,uZ,oW,nE,zH,zZ,gR,dBm,dSl,wA,jC,xN,xO,Res.bind,Res.toS,_D.gH,_D.wH,FI,LV,LY,D6,D0,D1,D2,LZ,LS,YN,LW,gLt,gLe,gGt,gGe,_D.w5,D5,aE,aF,pw (p.1-q.1) om om,pw (p.2-q.2) om om,wB,far]
def iD (n:Ah):D:=.int (n:Aj)
def pt (x y:Ah):Pt:=((x:Aj),(y:Aj))
def x8 (w h:Ah):Aa Pt:=(By w).flatMap fun (x:Ah)=>(By h).map fun (y:Ah)=>pt x y
theorem vQ (w h:Ah):(x8 w h).length=w*h:=by
 unfold x8
 induction w with
 |zero=>simp
 |succ w ih=>rw[Oc,Kn,AW,ih];simp[Ig]
theorem c6 {w h:Ah}{p:Pt}(m:p∈x8 w h):0≤p.1∧p.1<w∧0≤p.2∧p.2<h:=by
 unfold x8 at m;obtain⟨x,hx,m⟩:=Ib.mp m;obtain⟨y,hy,rfl⟩:=AE.mp m;simp at hx hy;unfold pt;refine⟨?_,?_,?_,?_⟩ <;> dsimp only <;> omega
theorem oM {w h:Ah}(hw:w≤12)(hh:h≤12){p:Pt}(m:p∈x8 w h):jN p:=by
 have:=c6 m;unfold jN;omega
theorem TV (n:Ah)(h:n≤1000000):kE [.int (n:Aj)]=Ab (xQ 0 (n:Aj).toNat):=by
 unfold kE;have : -(2 ^ 62)≤(n:Aj)∧(n:Aj)<2 ^ 62:=⟨by omega,by omega⟩
 exact AA this
theorem ZX (n:Ah):xQ 0 (n:Aj).toNat=(By n).map iD:=by
 unfold xQ;rw[Fz]
 congr 1
 funext i
 unfold iD;rw[Int.zero_add]
theorem UA (n:Ah)(h:n≤1000000):kE [.int (n:Aj)]=Ab ((By n).map iD):=by
 rw[TV n h,ZX]
theorem iV {β : Type}(b:β)(S:Sto):_D.wH (Ab b) S=.ok b S:=rfl
theorem fO (f:DE)(n:Ah)(env:qD)(S:Sto)(h:n≤1000000)(e:f env S=.ok (.int (n:Aj)) S):xO (qA f qC) env S=.ok ((By n).map iD) S:=by
 have e1:qA f qC env S=.ok [.int (n:Aj)] S:=by unfold qA qC;rw[e];rfl
 unfold xO;rw[e1,Res.bind_ok,UA n h,iV]
theorem kZ (f:DE)(n:Ah)(env:qD)(S:Sto)(h:n≤1000000)(e:f env S=.ok (.int (n:Aj)) S):xT (xO (qA f qC)) env S=.ok (none,(By n).map iD) S:=by
 unfold xT;rw[fO f n env S h e,Res.bind_ok]
theorem xR {α : Type}(l:Aa α) : l.filter (fun _=>true)=l:=by simp
theorem U4 (w h:Ah)(S:Sto)(hw:w≤12)(hh:h≤12):S_board_points [.int (w:Aj),.int (h:Aj)] S=.ok (.lst ((x8 w h).map ptD)) S:=by
 have eq:((By w).map iD).flatMap (fun d=>(((By h).map iD).filter (fun _=>true)).map (fun e=>D.tup [d,e]))=(x8 w h).map ptD:=by
  rw[List.flatMap_map];unfold x8;rw[Nn]
  congr 1
  funext x
  rw[xR,DB,DB];rfl
 have hl:((x8 w h).map ptD).length≤lim:=by
  rw[A9,vQ];have:w*h≤12*12:=El hw hh;unfold lim;omega
 have hc:=JL (cap:=[none,none,Ab 1]) (fi:=xT (xO (qA (qB 0) (qC)))) (g:=gNm 0) (t:=zL) (fi2:=xT (xO (qA (qB 2) (qC)))) (g2:=gNm 1) (t2:=zL) (fe:=zH (qA (qB 0) (qA (qB 1) (qC)))) (env:=[Ab (.int (w:Aj)),Ab (.int (h:Aj))]) (S:=S) (o:=none) (o2:=none) (items:=(By w).map iD)
  (kZ _ w _ S om rfl) trivial trivial (fun _=>(By h).map iD) (fun _ _=>true) (fun d e=>D.tup [d,e]) (fun env=>∃ a b,env=[a,b,Ab (.int (h:Aj))]) (fun d env=>∃ b,env=[Ab d,b,Ab (.int (h:Aj))]) ⟨none,none,rfl⟩ (fun d env ⟨b,e⟩=>⟨_,_,e⟩) (by rw[eq];exact hl)
  (fun d hd env ⟨a,b,e⟩=>by
   subst e;exact⟨[Ab d,b,Ab (.int (h:Aj))],rfl,⟨b,rfl⟩,rfl,kZ _ h _ S om rfl⟩)
  (fun d hd x hx env ⟨b,e⟩=>by
   subst e;have l2:2≤lim:=by decide
   exact⟨[Ab d,Ab x,Ab (.int (h:Aj))],rfl,⟨_,rfl⟩,rfl,fun _=>by simp[qP,wI,VE,LU,VD,qQ,sIf,qS,x5,wQ,zD,gNm,gSb,gTp,zE,wN,m4,L5,D9,dC,qB,d1,d2,qA,qC,qE,qN,dTr,yL,uF,w8,zL,uZ,oW,nE,zH,zZ,gR,dBm,dSl,wA,jC,xN,xO,Res.bind,Res.toS,_D.gH,_D.wH,FI,LV,LY,D6,D0,D1,D2,LZ,LS,YN,LW,gLt,gLe,gGt,gGe,_D.w5,D5,l2]⟩)
 rw[eq] at hc;rw[u0];exact vF rfl hc
theorem cN (h:Ah)(hh:0<h):∀ w:Ah,(By (w*h)).map (fun i=>pt (i/h) (i % h))=x8 w h:=by
 intro w
 induction w with
 |zero=>simp[x8]
 |succ w ih =>
  have e1:x8 (w+1) h=x8 w h++(By h).map fun y=>pt w y:=by
   unfold x8;rw[Oc,Kn];simp
  rw[e1,← ih,Ig,List.range_add,Dx,DB]
  congr 1
  apply Fa;intro y hy;have hy:y<h:=DR.mp hy;show pt ((w*h+y)/h) ((w*h+y) % h)=pt w y;have e2:(w*h+y)/h=w:=by rw[Lm,Nat.mul_add_div hh,Nat.div_eq_of_lt hy];simp
  have e3:(w*h+y) % h=y:=by rw[Lm,Nat.mul_add_mod,Nat.mod_eq_of_lt hy]
  rw[e2,e3]
theorem J8 (i j:Aj)(S:Sto)(hj:0<j∧j≤12):zH (qA (d2 jU (qB 0) (qB 1)) (qA (d2 vY (qB 0) (qB 1)) (qC))) [Ab (.int i),Ab (.int j)] S=.ok (D.tup [.int (i/j),.int (i % j)]) S:=by
 have l2:2≤lim:=by decide
 have d1:=fF i j S ⟨by omega,by omega⟩
 have d2':=uA i j S om;simp[qP,wI,VE,LU,VD,qQ,sIf,qS,x5,wQ,zD,gNm,gSb,gTp,zE,wN,m4,L5,D9,dC,qB,d1,d2,qA,qC,qE,qN,dTr,yL,uF,w8,zL,uZ,oW,nE,zH,zZ,gR,dBm,dSl,wA,jC,xN,xO,Res.bind,Res.toS,_D.gH,_D.wH,FI,LV,LY,D6,D0,D1,D2,LZ,LS,YN,LW,gLt,gLe,gGt,gGe,_D.w5,D5,l2,d1,d2']
theorem WB (w h:Ah)(S:Sto)(hwh:w*h≤144)(hw:w≤12):xT (xO (qA (d2 zT (qB 0) (qB 1)) (qC))) [Ab (.int (w:Aj)),Ab (.int (h:Aj))] S=.ok (none,(By (w*h)).map iD) S:=by
 have m1:=wM (w:Aj) (h:Aj) S ⟨by omega,by omega⟩
 have e:(w:Aj)*(h:Aj)=((w*h:Ah):Aj):=by push_cast;rfl
 rw[e] at m1;refine kZ _ (w*h) _ S om ?_;exact m1
theorem ZV (w h:Ah)(S:Sto)(hw:w≤12)(hh:0<h∧h≤12):S__law_board [.int (w:Aj),.int (h:Aj)] S=.ok (.lst ((x8 w h).map ptD)) S:=by
 have hwh:w*h≤144:=El hw hh.2;have hc:=cE (cap:=[none,Ab 1]) (g:=gNm 0) (t:=zL) (fe:=zH (qA (d2 jU (qB 0) (qB 1)) (qA (d2 vY (qB 0) (qB 1)) (qC)))) (WB w h S hwh hw) trivial (fun _=>true) (fun d=>match d with|.int i=>D.tup [.int (i/h),.int (i % h)]|_=>.non) (fun env=>∃ a,env=[a,Ab (.int (h:Aj))]) ⟨none,rfl⟩ (by simp;unfold lim;omega)
  (fun d hd env ⟨a,e⟩=>by
   subst e;obtain⟨i,_,rfl⟩:=AE.mp hd;exact⟨[Ab (iD i),Ab (.int (h:Aj))],rfl,⟨_,rfl⟩,rfl,fun _=>J8 (i:Aj) (h:Aj) S ⟨by omega,by omega⟩⟩)
 have eq:(((By (w*h)).map iD).filter (fun _=>true)).map (fun d=>match d with|.int i=>D.tup [.int (i/h),.int (i % h)]|_=>.non)=(x8 w h).map ptD:=by
  rw[xR,DB,← cN h hh.1 w,DB];apply Fa;intro i _;show D.tup [.int ((i:Aj)/h),.int ((i:Aj) % h)]=ptD (pt (i/h) (i % h));unfold ptD pt;simp
 rw[eq] at hc;rw[uP];exact vF rfl hc
theorem n9 (xs:Aa D)(i:Ah):yK xs (Ab ((i:Aj)+1)) none=xs.drop (i+1):=by
 unfold yK;have e1:_H.sIx xs.length 0 (Ab ((i:Aj)+1))=min (i+1) xs.length:=by
  have:((i:Aj)+1)=((i+1:Ah):Aj):=by omega
  rw[this,_H.sIx_nat]
 rw[e1,_H.sIx_none];by_cases h:i+1≤xs.length
 ·rw[Nat.min_eq_left h,E9 (by simp)]
 ·have:xs.drop (i+1)=[]:=E5 om
  rw[this,Nat.min_eq_right om];simp
def eL:Ah→Aa D→Aa D
 |_,[]=>[]
 |k,x::xs=>D.tup [.int (k:Aj),x]::eL (k+1) xs
theorem Q9 (xs:Aa D):y7 xs=eL 0 xs:=by
 have key:∀ (xs:Aa D) (k:Ah),(xs.mapIdx fun i x=>D.tup [.int ((i+k:Ah):Aj),x])=eL k xs:=by
  intro xs
  induction xs with
  |nil=>intro k;rfl
  |cons x xs ih =>
   intro k;rw[List.mapIdx_cons];show _::_=D.tup [.int (k:Aj),x]::eL (k+1) xs
   congr 1
   ·simp
   ·rw[← ih (k+1)]
    congr 1
    funext i y
    congr 4
    omega
 have:=key xs 0;simpa [y7] using this
def zX:Aa Pt→Aa (Pt × Pt)
 |[]=>[]
 |p::ps=>ps.map (fun q=>(p,q))++zX ps
def kX (x:Pt × Pt):Aj:=far x.1 x.2
def fars (l:Aa Pt):Aa Aj:=(zX l).map kX
def prD (x:Pt × Pt):D:=.tup [ptD x.1,ptD x.2]
structure GI {β : Type}(key:β→Aj)(enc:β→D)(n:Ah)(prs:Aa β)(kvs:Aa (_L.Key × D))(S:Sto):Prop where
 dict:S[n]? = Ab (.dct kvs)
 lists:∀ kv∈kvs,∃ (f:Aj) (j:Ah),kv=(.inl f,.loc j)∧n<j∧S[j]? = Ab (.lst ((prs.filter fun x=>key x == f).map enc))
 nd:(kvs.map (·.2)).Nodup
 keys:kvs.map (·.1)=((prs.map key).foldl A7 []).map DL
set_option tactic.hygienic true in
theorem X2 {l:Aa Aj}{k x:Aj}:x∈A7 l k↔x∈l∨x=k:=by
 unfold A7
 split
 ·rename_i h
  simp at h;constructor
  ·exact fun z=>.inl z
  ·rintro (z|rfl)
   ·exact z
   ·exact h
 ·simp
theorem UH {l:Aa Aj}{k:Aj}(h:k∈l):A7 l k=l:=by
 unfold A7;rw[AA (by simpa using h)]
theorem X3 {l:Aa Aj}{k:Aj}(h:k ∉ l):A7 l k=l++[k]:=by
 unfold A7;rw[A0 (by simpa using h)]
theorem v9 {ks:Aa Aj}:∀ {l:Aa Aj} {x:Aj},x∈ks.foldl A7 l↔x∈l∨x∈ks:=by
 induction ks with
 |nil=>intro l x;simp
 |cons k ks ih =>
  intro l x;rw[Eb,ih,X2,AL];constructor
  ·rintro ((h|h)|h)
   ·exact .inl h
   ·exact .inr (.inl h)
   ·exact .inr (.inr h)
  ·rintro (h|h|h)
   ·exact .inl (.inl h)
   ·exact .inl (.inr h)
   ·exact .inr h
theorem QN {ks:Aa Aj}:∀ {l:Aa Aj},(ks.foldl A7 l).length≤l.length+ks.length:=by
 induction ks with
 |nil=>intro l;simp
 |cons k ks ih =>
  intro l;rw[Eb];have h1:=ih (l:=A7 l k);have h2:(A7 l k).length≤l.length+1:=by
   unfold A7
   split <;> simp
  rw[AH];omega
theorem lZ {kvs:Aa (_L.Key × D)}{k:_L.Key}{d:D}(h:xJ kvs k=Ab d):(k,d)∈kvs:=by
 unfold xJ at h;obtain⟨kv,h1,rfl⟩:=CB.mp h;have h2:=Nz h1;have h3:=HL h1;have h4:kv.1=k:=by simpa using h2
 subst h4;exact h3
theorem lY {kvs:Aa (_L.Key × D)}{k:_L.Key}(h:xJ kvs k=none):∀ kv∈kvs,kv.1≠k:=by
 unfold xJ at h;have h1:=Option.map_eq_none_iff.mp h;intro kv hk e;have:=Ky.mp h1 kv hk;simp[e] at this
theorem W5 {n:Ah}{kvs:Aa (_L.Key × D)}{S:Sto}{i x:D}{k:_L.Key}(hd:S[n]? = Ab (.dct kvs))(hk:wT i=Ab k):xK (.loc n) [i,x] S=(match xJ kvs k with|some d=>.ok d S|none=>if kvs.length<lim then .ok x (S.set n (.dct (yB kvs k x))) else .bad):=by
 show (match S[n]? with|some (.dct kvs)=>(match wT i with|some k=>(match xJ kvs k with|some d=>Res.ok d S|none=>if kvs.length<lim then .ok x (S.set n (.dct (yB kvs k x))) else .bad)|none=>.bad)|_=>.bad)=_
 rw[hd,hk]
theorem UF {n:Ah}{kvs:Aa (_L.Key × D)}{S:Sto}{i x d:D}{k:_L.Key}(hd:S[n]? = Ab (.dct kvs))(hk:wT i=Ab k)(hv:xJ kvs k=Ab d):xK (.loc n) [i,x] S=.ok d S:=by
 rw[W5 hd hk,hv]
theorem UE {n:Ah}{kvs:Aa (_L.Key × D)}{S:Sto}{i x:D}{k:_L.Key}(hd:S[n]? = Ab (.dct kvs))(hk:wT i=Ab k)(hv:xJ kvs k=none)(hl:kvs.length<lim):xK (.loc n) [i,x] S=.ok x (S.set n (.dct (yB kvs k x))):=by
 rw[W5 hd hk,hv];exact AA hl
theorem i3 {β γ:Type}{l:Aa β}{f:β→γ}(nd:(l.map f).Nodup){x y:β}(hx:x∈l)(hy:y∈l)(e:f x=f y):x=y:=by
 obtain⟨a,ha,rfl⟩:=Bq.mp hx;obtain⟨b,hb,rfl⟩:=Bq.mp hy;have:a=b:=(Gi nd (h₀:=by simpa using ha) (h₁:=by simpa using hb)).mp (by simpa using e)
 subst this;rfl
set_option tactic.hygienic true in
theorem YB:∀ (ks l:Aa Aj),l.Nodup→(ks.foldl A7 l).Nodup:=by
 intro ks
 induction ks with
 |nil=>exact fun l h=>h
 |cons k ks ih =>
  intro l h;rw[Eb];apply ih;unfold A7
  split
  ·exact h
  ·rename_i hn
   rw[Ga];refine⟨h,by simp,?_⟩
   intro a ha b hb hab;simp at hb hn;subst hb;subst hab;exact hn ha
theorem YQ {kvs:Aa (_L.Key × D)}{ks:Aa Aj}(h:kvs.map (·.1)=(ks.foldl A7 []).map DL):(kvs.map (·.1)).Nodup:=by
 rw[h,Pc,CY];exact(YB ks [] Jj).imp fun hne e=>hne (IR e)
theorem dY {β : Type}{key:β→Aj}{enc:β→D}{n:Ah}{prs:Aa β}{kvs:Aa (_L.Key × D)}{S:Sto}(I:GI key enc n prs kvs S)(x:β)(hl:prs.length<lim) :
  ∃ (j:Ah) (S1 S2:Sto) (kvs':Aa (_L.Key × D)),xK (.loc n) [.int (key x),.loc S.length] (S++[.lst []]) = .ok (.loc j) S1∧tyD (.loc j) S1=Ab "list" ∧ xY (.loc j) [enc x] S1=.ok .non S2∧GI key enc n (prs++[x]) kvs' S2∧∀ m,m<n→S2[m]? = S[m]?:=by
 have hnS:n<S.length:=(Ay.mp I.dict).1;have hd:(S++[MO.lst []])[n]? = Ab (.dct kvs):=by rw[AG hnS];exact I.dict
 have hkl:kvs.length≤prs.length:=by
  have h1:kvs.length=(kvs.map (·.1)).length:=by simp
  rw[h1,I.keys,A9];have:=QN (ks:=prs.map key) (l:=[]);simpa using this
 have hlim:kvs.length<lim:=by omega
 have jlt:∀ {f:Aj} {j:Ah},((DL f:_L.Key),D.loc j)∈kvs→n<j∧j<S.length∧S[j]? = Ab (.lst ((prs.filter fun x=>key x == f).map enc)):=by
  intro f j hm;obtain⟨f',j',e,h1,h2⟩:=I.lists _ hm;cases e;exact⟨h1,(Ay.mp h2).1,h2⟩
 cases hv:xJ kvs (.inl (key x)) with
 |some d =>
  have hm:=lZ hv;obtain⟨f,j,e,h1,h2⟩:=I.lists _ hm;have e1:f=key x:=by
   have:=congrArg Prod.fst e;exact(IR this).symm
  have e2:d=.loc j:=congrArg Prod.snd e;subst e1;subst e2;have hjS:=(Ay.mp h2).1;have h2':(S++[MO.lst []])[j]? = Ab (.lst ((prs.filter fun y=>key y == key x).map enc)):=by rw[AG hjS];exact h2
  have hll:((prs.filter fun y=>key y == key x).map enc).length<lim:=by
   rw[A9];have:=Df (fun y=>key y == key x) prs;omega
  refine⟨j,S++[MO.lst []],(S++[MO.lst []]).set j (.lst ((prs.filter fun y=>key y == key x).map enc++[enc x])),kvs,?_,?_,?_,⟨?_,?_,I.nd,?_⟩,?_⟩
  ·exact UF hd rfl hv
  ·exact W8 h2'
  ·exact hX h2' hll _
  ·rw[Ba om];exact hd
  ·intro kv hk
   obtain⟨f',j',rfl,h3,h4⟩:=I.lists kv hk;refine⟨f',j',rfl,h3,?_⟩;have hj':=(Ay.mp h4).1;by_cases hjj:j=j'
   ·subst hjj
    have hff:f'=key x:=IR (congrArg Prod.fst (i3 (f:=(·.2)) I.nd hk hm rfl))
    subst hff;rw[Bz (by simp;omega)]
    rw[Fo];simp
   ·rw[Ba hjj,AG hj',h4]
    have hne:(key x == f')=false:=by
     rw[Em];rintro rfl;exact hjj (D.loc.inj (congrArg Prod.snd (i3 (f:=(·.1)) (YQ I.keys) hm hk rfl)))
    rw[Fo];simp[hne]
  ·rw[Dx,Mq]
   show _=(A7 ((prs.map key).foldl A7 []) (key x)).map DL;have hin:key x∈(prs.map key).foldl A7 []:=by
    have:(DL (key x):_L.Key)∈kvs.map (·.1):=AE.mpr ⟨_,hm,rfl⟩
    rw[I.keys] at this;obtain⟨y,hy,e⟩:=AE.mp this;cases e;exact hy
   rw[UH hin];exact I.keys
  ·intro m hm
   rw[Ba om,AG om]
 |none =>
  have hno:=lY hv;have hput:yB kvs (.inl (key x)) (.loc S.length)=kvs++[(.inl (key x),.loc S.length)]:=by
   unfold yB;rw[A0];rw[List.any_eq_true];rintro⟨kv,hk,e⟩;exact hno kv hk (by simpa using e)
  have hfn:key x ∉ prs.map key:=by
   intro hin;have:(DL (key x):_L.Key)∈kvs.map (·.1):=by
    rw[I.keys];exact AE.mpr ⟨_,v9.mpr (.inr hin),rfl⟩
   obtain⟨kv,hk,e⟩:=AE.mp this;exact hno kv hk e
  have hS1:((S++[MO.lst []]).set n (.dct (kvs++[(DL (key x),.loc S.length)])))[S.length]? = Ab (.lst []):=by
   rw[Ba om];simp
  refine⟨S.length,(S++[MO.lst []]).set n (.dct (kvs++[(.inl (key x),.loc S.length)])),((S++[MO.lst []]).set n (.dct (kvs++[(.inl (key x),.loc S.length)]))).set S.length (.lst [enc x]),kvs++[(.inl (key x),.loc S.length)],?_,?_,?_,⟨?_,?_,?_,?_⟩,?_⟩
  ·rw[← hput]
   exact UE hd rfl hv hlim
  ·exact W8 hS1
  ·have:(0:Ah)<lim:=by decide
   exact hX hS1 this _
  ·rw[Ba om,Bz (by simp;omega)]
  ·intro kv hk
   rcases AS.mp hk with hk|hk
   ·obtain⟨f',j',rfl,h3,h4⟩:=I.lists kv hk
    have hj':=(Ay.mp h4).1;refine⟨f',j',rfl,h3,?_⟩;rw[Ba om,Ba om,AG hj',h4];have hne:(key x == f')=false:=by
     rw[Em];intro e;exact hno _ hk (by rw[e])
    rw[Fo];simp[hne]
   ·have:kv=(.inl (key x),.loc S.length):=by simpa using hk
    subst this;refine⟨key x,S.length,rfl,hnS,?_⟩;rw[Bz (by simp)]
    have:(prs.filter fun y=>key y == key x)=[]:=by
     rw[List.filter_eq_nil_iff];intro y hy e;exact hfn (by rw[← (by simpa using e:key y=key x)];exact AE.mpr ⟨y,hy,rfl⟩)
    rw[Fo,this];simp
  ·rw[Dx,Ga]
   refine⟨I.nd,by simp,?_⟩
   intro a ha b hb hab;simp at hb;subst hb;subst hab;obtain⟨kv,hk,e⟩:=AE.mp ha;obtain⟨f',j',rfl,h3,h4⟩:=I.lists kv hk;have hj':=(Ay.mp h4).1;have:j'=S.length:=D.loc.inj e;omega
  ·rw[Dx,I.keys,Dx,Mq]
   show _=(A7 ((prs.map key).foldl A7 []) (key x)).map DL;have hin:key x ∉ (prs.map key).foldl A7 []:=by
    intro h;rcases v9.mp h with h|h
    ·simp at h
    ·exact hfn h
   rw[X3 hin,Dx];rfl
  ·intro m hm
   rw[Ba om,Ba om,AG om]
theorem oH (l:Aa Pt):(zX l).length≤l.length*l.length:=by
 induction l with
 |nil=>simp[zX]
 |cons p l ih =>
  have e:(p::l).length*(p::l).length=l.length*l.length+l.length+l.length+1:=by
   simp only[AH,Nat.add_mul,Nat.mul_add];omega
  rw[e];simp only[zX,AW,A9];omega
theorem iC {S S':Sto}(h:∀ m,m<S.length→S'[m]? = S[m]?):S<+:S':=by
 rw[List.prefix_iff_getElem?];intro i hi;rw[h i hi,Ap hi]
theorem oI {l:Aa Pt}{x:Pt × Pt}(h:x∈zX l):x.1∈l∧x.2∈l:=by
 induction l with
 |nil=>simp[zX] at h
 |cons p l ih =>
  simp only[zX,AS,AE] at h;rcases h with⟨q,hq,rfl⟩|h
  ·exact⟨Bu ..,AK _ hq⟩
  ·exact⟨AK _ (ih h).1,AK _ (ih h).2⟩
theorem tH {l:Aa Pt}(h:l.length≤41):(zX l).length<4000:=by
 have h1:=oH l;have h2:l.length*l.length≤41*41:=El h h;omega
inductive IvG1 (l:Aa Pt)(S:Sto)(ds:Aa D)(env:qD)(S':Sto):Prop
 |mk (i:Ah) (e2 e3 e4:Ak D) (done:Aa (Pt × Pt)) (kvs:Aa (_L.Key × D)) (h_0:env=[Ab (qF l),Ab (.loc S.length),e2,e3,e4]) (h_1:ds=eL i ((l.drop i).map ptD)) (h_2:GI kX prD S.length done kvs S') (h_3:done++zX (l.drop i)=zX l) (h_4:∀ m,m<S.length→S'[m]? = S[m]?):IvG1 l S ds env S'
inductive IvG2 (l:Aa Pt)(S:Sto)(i:Ah)(p:Pt)(rest:Aa Pt)(ds:Aa D)(env:qD)(S':Sto):Prop
 |mk (r:Aa Pt) (e4:Ak D) (done:Aa (Pt × Pt)) (kvs:Aa (_L.Key × D)) (h_0:env=[Ab (qF l),Ab (.loc S.length),Ab (.int (i:Aj)),Ab (ptD p),e4]) (h_1:ds=r.map ptD) (h_2:(∀ q∈r,q∈l)) (h_3:GI kX prD S.length done kvs S') (h_4:done++(r.map (fun q=>(p,q))++zX rest)=zX l) (h_5:∀ m,m<S.length→S'[m]? = S[m]?):IvG2 l S i p rest ds env S'
theorem U8 (l:Aa Pt)(S:Sto)(hok:∀ p∈l,jN p)(hl:l.length≤41):∃ (kvs:Aa (_L.Key × D)) (S':Sto),S_pairs_by_far [qF l] S=.ok (.loc S.length) S'∧GI kX prD S.length (zX l) kvs S'∧∀ m,m<S.length→S'[m]? = S[m]?:=by
 have key:Rt (b_pairs_by_far [Ab (qF l),none,none,none,none] S) fun d S'=>d=.loc S.length∧∃ kvs,GI kX prD S.length (zX l) kvs S'∧∀ m,m<S.length→S'[m]? = S[m]?:=by
  unfold b_pairs_by_far;refine zI (x6 (zG rfl ?_));refine zI (wY (ds:=y7 (l.map ptD)) (S1:=S++[.dct []]) rfl ?_);refine xZ (IvG1 l S) ?_ ?_ ?_
  ·rintro d ds env S' ⟨i,e2,e3,e4,done,kvs,rfl,hds,G,hall,hpre⟩
   cases hdr:l.drop i with
   |nil=>rw[hdr] at hds;cases hds
   |cons p rest =>
    rw[hdr] at hds hall;simp only[Bk,eL] at hds;injection hds with h1 h2
    subst h1 h2;have hrest:l.drop (i+1)=rest:=by
     have:=congrArg List.tail hdr;simpa [List.tail_drop] using this
    have hmem:∀ q∈p::rest,q∈l:=fun q hq=>Jo (hdr▸hq);refine⟨[Ab (qF l),Ab (.loc S.length),Ab (.int (i:Aj)),Ab (ptD p),e4],S',rfl,?_⟩;have hsl:xN (dSl (qB 0) (wA (d2 zM (qB 2) (dC (.int 1)))) (jC)) [Ab (qF l),Ab (.loc S.length),Ab (.int (i:Aj)),Ab (ptD p),e4] S'=.ok (rest.map ptD) S':=by
     have e1:gSl (qF l) (Ab ((i:Aj)+1)) none S'=.ok (.tup (rest.map ptD)) S':=by
      show Res.ok (D.tup (yK (l.map ptD) (Ab ((i:Aj)+1)) none)) S'=_;rw[n9,← Km,hrest]
     simp[qP,wI,VE,LU,VD,qQ,sIf,qS,x5,wQ,zD,gNm,gSb,gTp,zE,wN,m4,L5,D9,dC,qB,d1,d2,qA,qC,qE,qN,dTr,yL,uF,w8,zL,uZ,oW,nE,zH,zZ,gR,dBm,dSl,wA,jC,xN,xO,Res.bind,Res.toS,_D.gH,_D.wH,FI,LV,LY,D6,D0,D1,D2,LZ,LS,YN,LW,gLt,gLe,gGt,gGe,_D.w5,D5,wB,e1]
    refine wY hsl ?_;refine xZ (IvG2 l S i p rest) ?_ ?_ ?_
    ·rintro d ds env S' ⟨r,e4,done,kvs,rfl,hds,hr,G,hall,hpre⟩
     cases r with
     |nil=>cases hds
     |cons q r =>
      injection hds with h1 h2
      subst h1 h2;have hdl:done.length<lim:=by
       unfold lim;have:=congrArg Ep hall;have h3:=tH hl;simp only[AW] at this;omega
      obtain⟨j,S1,S2,kvs',f1,f2,f3,G',hp'⟩:=dY G (p,q) hdl;refine⟨[Ab (qF l),Ab (.loc S.length),Ab (.int (i:Aj)),Ab (ptD p),Ab (ptD q)],S',rfl,?_⟩;refine jH ?_;have hfar:=TN p q S' (hok p (hmem p (Bu ..))) (hok q (hr q (Bu ..)));have hty:tyD (.loc S.length) S'=Ab "dict":=o6 G.dict;have l2:2≤lim:=by decide
      have l0:0≤lim:=by decide
      have f1':xK (.loc S.length) [.int (far p q),.loc S'.length] (S'++[MO.lst []]) = .ok (.loc j) S1:=f1;have f3':xY (.loc j) [.tup [ptD p,ptD q]] S1=.ok .non S2:=f3;refine zG (d:=.non) (S:=S2) ?_ ?_
      ·simp[qP,wI,VE,LU,VD,qQ,sIf,qS,x5,wQ,zD,gNm,gSb,gTp,zE,wN,m4,L5,D9,dC,qB,d1,d2,qA,qC,qE,qN,dTr,yL,uF,w8,zL,uZ,oW,nE,zH,zZ,gR,dBm,dSl,wA,jC,xN,xO,Res.bind,Res.toS,_D.gH,_D.wH,FI,LV,LY,D6,D0,D1,D2,LZ,LS,YN,LW,gLt,gLe,gGt,gGe,_D.w5,D5,hfar,hty,l2,l0,f1',f2,f3']
      ·refine⟨r,_,done++[(p,q)],kvs',rfl,rfl,fun q' hq=>hr q' (AK _ hq),G',?_,fun m hm=>(hp' m hm).trans (hpre m hm)⟩
       rw[← hall];simp
    ·rintro env S' ⟨r,e4,done,kvs,rfl,hds,hr,G,hall,hpre⟩
     cases r with
     |cons _ _=>cases hds
     |nil =>
      refine⟨i+1,_,_,_,done,kvs,rfl,?_,G,?_,hpre⟩
      ·rw[hrest]
      ·rw[hrest];simpa using hall
    ·exact⟨rest,e4,done,kvs,rfl,rfl,fun q hq=>hmem q (AK _ hq),G,by simpa [zX] using hall,hpre⟩
  ·rintro env S' ⟨i,e2,e3,e4,done,kvs,rfl,hds,G,hall,hpre⟩
   refine vV (zG rfl ⟨rfl,kvs,?_,hpre⟩);cases hdr:l.drop i with
   |cons _ _=>rw[hdr] at hds;cases hds
   |nil =>
    rw[hdr] at hall;have:done=zX l:=by simpa [zX] using hall
    rw[← this];exact G
  ·refine⟨0,none,none,none,[],[],rfl,?_,⟨?_,?_,Jj,rfl⟩,rfl,?_⟩
   ·rw[Q9];rfl
   ·simp
   ·intro kv hk;simp at hk
   ·intro m hm;rw[AG hm]
 obtain⟨d,S',e,rfl,kvs,G,hp⟩:=key;exact⟨kvs,S',by rw[u4];exact wZ rfl e,G,hp⟩
theorem tR (xs:Aa D)(i:Ah)(d:D)(h:xs[i]? = Ab d):_L.atI xs (i:Aj)=Ab d:=by
 have hl:=(Ay.mp h).1;have e:_L.ixN xs.length (i:Aj)=Ab i:=by
  unfold _L.ixN;have:(0:Aj)≤(i:Aj)∧(i:Aj)<xs.length:=⟨by omega,by omega⟩
  simp[hl]
 unfold _L.atI;rw[e];exact h
inductive IvP (l:Aa Pt)(S:Sto)(ds:Aa D)(env:qD)(S':Sto):Prop
 |mk (i:Ah) (e2:Ak D) (done:Aa (Pt × Pt)) (h_0:S'=S) (h_1:env=[Ab (qF l),Ab (.lst (done.map prD)),e2]) (h_2:ds=(HB i (l.length-i)).map iD) (h_3:done++zX (l.drop i)=zX l):IvP l S ds env S'
theorem ZW (l:Aa Pt)(S:Sto)(hl:l.length≤41):S__law_pairs [qF l] S=.ok (.lst ((zX l).map prD)) S:=by
 have key:Rt (b__law_pairs [Ab (qF l),none,none] S) fun d S'=>d=.lst ((zX l).map prD)∧S'=S:=by
  unfold b__law_pairs;have l0:0≤lim:=by decide
  refine zI (x6 (zG (d:=.lst []) (S:=S) (by simp[qP,wI,VE,LU,VD,qQ,sIf,qS,x5,wQ,zD,gNm,gSb,gTp,zE,wN,m4,L5,D9,dC,qB,d1,d2,qA,qC,qE,qN,dTr,yL,uF,w8,zL,uZ,oW,nE,zH,zZ,gR,dBm,dSl,wA,jC,xN,xO,Res.bind,Res.toS,_D.gH,_D.wH,FI,LV,LY,D6,D0,D1,D2,LZ,LS,YN,LW,gLt,gLe,gGt,gGe,_D.w5,D5,l0]) ?_))
  have hr:xO (qA (qE zO (qA (qB 0) (qC))) (qC)) [Ab (qF l),Ab (.lst []),none] S=.ok ((By l.length).map iD) S:=by
   refine fO _ l.length _ S om ?_;have:zO [qF l] S=.ok (.int (l.length:Aj)) S:=by unfold qF;rw[l6,A9]
   simp[qP,wI,VE,LU,VD,qQ,sIf,qS,x5,wQ,zD,gNm,gSb,gTp,zE,wN,m4,L5,D9,dC,qB,d1,d2,qA,qC,qE,qN,dTr,yL,uF,w8,zL,uZ,oW,nE,zH,zZ,gR,dBm,dSl,wA,jC,xN,xO,Res.bind,Res.toS,_D.gH,_D.wH,FI,LV,LY,D6,D0,D1,D2,LZ,LS,YN,LW,gLt,gLe,gGt,gGe,_D.w5,D5,this]
  refine zI (wY hr ?_);refine xZ (IvP l S) ?_ ?_ ?_
  ·rintro d ds env S' ⟨i,e2,done,rfl,rfl,hds,hall⟩
   by_cases hi:i<l.length
   ·have hr':HB i (l.length-i)=i::HB (i+1) (l.length-(i+1)):=by
     have:l.length-i=(l.length-(i+1))+1:=by omega
     rw[this,No]
    rw[hr',Bk] at hds;injection hds with h1 h2
    subst h1 h2;have hdr:l.drop i=l[i]::l.drop (i+1):=CW hi;refine⟨[Ab (qF l),Ab (.lst (done.map prD)),Ab (.int (i:Aj))],S',rfl,?_⟩;have hsl:gSl (qF l) (Ab ((i:Aj)+1)) none S'=.ok (.tup ((l.drop (i+1)).map ptD)) S':=by
     show Res.ok (D.tup (yK (l.map ptD) (Ab ((i:Aj)+1)) none)) S'=_;rw[n9,← Km]
    have hit:dIt (dSl (qB 0) (wA (d2 zM (qB 2) (dC (.int 1)))) (jC)) [Ab (qF l),Ab (.lst (done.map prD)),Ab (.int (i:Aj))] S'=.ok (none,(l.drop (i+1)).map ptD) S':=by
     unfold dIt;simp[qP,wI,VE,LU,VD,qQ,sIf,qS,x5,wQ,zD,gNm,gSb,gTp,zE,wN,m4,L5,D9,dC,qB,d1,d2,qA,qC,qE,qN,dTr,yL,uF,w8,zL,uZ,oW,nE,zH,zZ,gR,dBm,dSl,wA,jC,xN,xO,Res.bind,Res.toS,_D.gH,_D.wH,FI,LV,LY,D6,D0,D1,D2,LZ,LS,YN,LW,gLt,gLe,gGt,gGe,_D.w5,D5,wB,hsl,itD]
    have hix:gIx (qF l) (.int (i:Aj)) S'=.ok (ptD l[i]) S':=by
     have:_L.atI (l.map ptD) (i:Aj)=Ab (ptD l[i]):=tR _ i _ (by simp[hi])
     show _D.wH (_L.atI (l.map ptD) (i:Aj)) S'=_;rw[this];rfl
    have hc:=cE (cap:=[none,Ab 2,Ab 0]) (g:=gNm 0) (t:=zL) (fe:=zH (qA (d2 gIx (qB 2) (qB 1)) (qA (qB 0) (qC)))) hit trivial (fun _=>true) (fun d=>D.tup [ptD l[i],d]) (fun env=>∃ a,env=[a,Ab (.int (i:Aj)),Ab (qF l)]) ⟨none,rfl⟩ (by simp;unfold lim;omega)
     (fun d hd env ⟨a,e⟩=>by
      subst e;refine⟨[Ab d,Ab (.int (i:Aj)),Ab (qF l)],rfl,⟨_,rfl⟩,rfl,fun _=>?_⟩;have l2:2≤lim:=by decide
      simp[qP,wI,VE,LU,VD,qQ,sIf,qS,x5,wQ,zD,gNm,gSb,gTp,zE,wN,m4,L5,D9,dC,qB,d1,d2,qA,qC,qE,qN,dTr,yL,uF,w8,zL,uZ,oW,nE,zH,zZ,gR,dBm,dSl,wA,jC,xN,xO,Res.bind,Res.toS,_D.gH,_D.wH,FI,LV,LY,D6,D0,D1,D2,LZ,LS,YN,LW,gLt,gLe,gGt,gGe,_D.w5,D5,hix,l2])
    rw[xR] at hc;have eq:((l.drop (i+1)).map ptD).map (fun d=>D.tup [ptD l[i],d])=((l.drop (i+1)).map fun q=>(l[i],q)).map prD:=by simp[prD,Function.comp_def]
    rw[eq] at hc;have hlen:(done.map prD).length+(((l.drop (i+1)).map fun q=>(l[i],q)).map prD).length≤lim:=by
     have h3:=tH hl;have h4:=congrArg Ep hall;rw[hdr] at h4;simp only[zX,AW,A9] at h4 ⊢;unfold lim;omega
    have hadd:zM (.lst (done.map prD)) (.lst (((l.drop (i+1)).map fun q=>(l[i],q)).map prD)) S'=.ok (.lst ((done++(l.drop (i+1)).map fun q=>(l[i],q)).map prD)) S':=by
     rw[Dx];exact jT hlen S'
    refine x6 (zG (d:=.lst ((done++(l.drop (i+1)).map fun q=>(l[i],q)).map prD)) (S:=S') ?_ ?_)
    ·simp only[d2,qB,Fw,Ey,Res.bind,hc,hadd]
    ·refine⟨i+1,_,_,rfl,rfl,rfl,?_⟩
     rw[← hall,hdr];simp[zX]
   ·have:l.length-i=0:=by omega
    rw[this] at hds;cases hds
  ·rintro env S' ⟨i,e2,done,rfl,rfl,hds,hall⟩
   by_cases hi:i<l.length
   ·have hr':HB i (l.length-i)=i::HB (i+1) (l.length-(i+1)):=by
     have:l.length-i=(l.length-(i+1))+1:=by omega
     rw[this,No]
    rw[hr'] at hds;cases hds
   ·have:l.drop i=[]:=E5 om
    rw[this] at hall;have:done=zX l:=by simpa [zX] using hall
    subst this;exact vV (zG rfl ⟨rfl,rfl⟩)
  ·exact⟨0,none,[],rfl,rfl,by simp[List.range_eq_range'],rfl⟩
 obtain⟨d,S',e,rfl,rfl⟩:=key;rw[uQ];exact wZ rfl e
theorem oJ (F:DF)(a b d:D)(S:Sto)(h:F [a,b] S=.ok d S):qN 2 F (qA (qB 0) (qA (qB 1) (qC))) [Ab a,Ab b] S=.ok d S:=by
 simp[qP,wI,VE,LU,VD,qQ,sIf,qS,x5,wQ,zD,gNm,gSb,gTp,zE,wN,m4,L5,D9,dC,qB,d1,d2,qA,qC,qE,qN,dTr,yL,uF,w8,zL,uZ,oW,nE,zH,zZ,gR,dBm,dSl,wA,jC,xN,xO,Res.bind,Res.toS,_D.gH,_D.wH,FI,LV,LY,D6,D0,D1,D2,LZ,LS,YN,LW,gLt,gLe,gGt,gGe,_D.w5,D5,h]
theorem U7 (l:Aa Pt)(S:Sto)(hok:∀ p∈l,jN p)(hl:l.length≤41):S__law_fars [qF l] S=.ok (.lst ((fars l).map D.int)) S:=by
 have h1:=ZW l S hl;have hit:dIt (qN 1 S__law_pairs (qA (qB 0) (qC))) [Ab (qF l)] S=.ok (none,(zX l).map prD) S:=by
  unfold dIt;simp[qP,wI,VE,LU,VD,qQ,sIf,qS,x5,wQ,zD,gNm,gSb,gTp,zE,wN,m4,L5,D9,dC,qB,d1,d2,qA,qC,qE,qN,dTr,yL,uF,w8,zL,uZ,oW,nE,zH,zZ,gR,dBm,dSl,wA,jC,xN,xO,Res.bind,Res.toS,_D.gH,_D.wH,FI,LV,LY,D6,D0,D1,D2,LZ,LS,YN,LW,gLt,gLe,gGt,gGe,_D.w5,D5,h1,itD]
 have hc:=v6 (enc:=prD) (cap:=[none,none]) (g:=gTp 2 (zE (gNm 0) (zE (gNm 1) (wN)))) (t:=zL) (fe:=qN 2 (okO S__law_far) (qA (qB 0) (qA (qB 1) (qC)))) hit trivial (fun _=>true)
  (fun x=>.int (kX x)) (fun env=>∃ a b,env=[a,b]) ⟨none,none,rfl⟩ (by have:=tH hl;unfold lim;omega)
  (fun x hx env ⟨a,b,e⟩=>by
   subst e;obtain⟨m1,m2⟩:=oI hx;have hf:=bL (F0 x.1 x.2 S (hok _ m1) (hok _ m2));exact⟨[Ab (ptD x.1),Ab (ptD x.2)],rfl,⟨_,_,rfl⟩,rfl,fun _=>oJ _ _ _ _ _ hf⟩)
 rw[xR] at hc;have eq:((zX l).map fun x=>D.int (kX x))=(fars l).map D.int:=by
  unfold fars;rw[DB];rfl
 rw[eq] at hc;rw[jA];unfold b__law_fars;exact vF rfl hc
theorem c5 (f:DE)(ns:Aa Aj)(env:qD)(S S':Sto)(h:f env S=.ok (.lst (ns.map D.int)) S')(hl:ns.length<4000):v7 f env S=.ok (.int (rW ns)) S':=by
 unfold v7;rw[h];simp only[Res.bind,a9,hl,AZ]
def ltP (p q:Pt):Ao:=_H.lexLt [p.1,p.2] [q.1,q.2]
def uU (l:Aa Pt):Pt:=l.getLastD (0,0)
def grow (pts:Aa Pt)(L:Aa (Aa Pt)):Aa (Aa Pt):=L.flatMap fun lot=>(pts.filter fun p=>ltP (uU lot) p).map fun p=>lot++[p]
def ltL:Aa Pt→Aa Pt→Ao
 |[],[]=>false
 |[],_::_=>true
 |_::_,[]=>false
 |p::ps,q::qs=>if p=q then ltL ps qs else ltP p q
theorem V2 (p:Pt):ltP p p=false:=_S.wU.irr _
theorem aP {p q r:Pt}(h1:ltP p q=true)(h2:ltP q r=true):ltP p r=true:=_S.wU.tr h1 h2
theorem bH {p q:Pt}(h:ltP p q=true):p≠q:=fun e=>by subst e;rw[V2] at h;cases h
theorem KJ (p q:Pt):eqD (ptD p) (ptD q)=decide (p=q):=by
 show (p.1 == q.1&&(p.2 == q.2&&true))=_;rw[Oa];simp[Prod.ext_iff]
theorem eU (n:Ah)(p:Pt):Tr (n+1) (ptD p):=.tup n _ fun x hx=>by
 simp only[AL,Bi,Du] at hx;rcases hx with rfl|rfl <;> exact .int _ _
theorem FE (n:Ah)(l:Aa Pt):Tr (n+2) (qF l):=.tup _ _ fun x hx=>by
 obtain⟨p,_,rfl⟩:=AE.mp hx;exact eU n p
theorem FF (n:Ah)(p:Pt):trb (n+1) (ptD p)=true:=by cases n <;> rfl
theorem rD (n:Ah)(l:Aa Pt):trb (n+2) (qF l)=true:=AR.mpr fun x hx=>by
 obtain⟨p,_,rfl⟩:=AE.mp hx;exact FF n p
theorem pI:∀ a b:Aa Pt,xA (a.map ptD) (b.map ptD)=true
 |[],_=>rfl
 |_::_,[]=>rfl
 |p::a,q::b=>by
  show (xE (ptD p) (ptD q)&&xA (a.map ptD) (b.map ptD))=true;rw[pI a b];rfl
theorem GJ (p q:Pt):ltN (ptD p) (ptD q)=ltP p q:=by
 have h1:=@wE 0 0 (.int p.1) (.int q.1) [.int p.2] [.int q.2] (.int _ _) (.int _ _) rfl;have h2:=@wE 0 0 (.int p.2) (.int q.2) [] [] (.int _ _) (.int _ _) rfl;unfold ptD;rw[uC,h1,h2,uB,uB];unfold ltP;rw[_H.lexLt_cons,_H.lexLt_cons];show (if (p.1 == q.1)=true then if (p.2 == q.2)=true then _ else _ else _)=_
 simp only[EW];rfl
theorem sQ (a b:Aa Pt):ltN (qF a) (qF b)=ltL a b:=by
 unfold qF;rw[uC]
 induction a generalizing b with
 |nil=>cases b with
  |nil=>rfl
  |cons q b=>exact(by rfl:_H.lexLt [0] (2::_)=true)
 |cons p a ih=>cases b with
  |nil=>exact(by rfl:_H.lexLt (2::_) [0]=false)
  |cons q b =>
   rw[Bk,Bk,wE (eU 0 p) (eU 0 q) rfl,ih,KJ,GJ];simp[ltL]
theorem aM {a b:Aa Pt}(h:ltL a b=true):ltL b a=false:=by
 rw[← sQ] at *;cases q:ltN (qF b) (qF a) with
 |false=>rfl
 |true=>exact absurd (_S.wU.tr h q) (by rw[_S.wU.irr];simp)
set_option tactic.hygienic true in
theorem sM:∀ {a b:Aa Pt} (c d:Aa Pt),ltL a b=true→a.length=b.length→ltL (a++c) (b++d)=true
 |[],[],_,_,h,_=>by cases h
 |[],_::_,_,_,_,l=>by simp at l
 |_::_,[],_,_,h,_=>by cases h
 |p::a,q::b,c,d,h,l=>by
  simp only[Ic,ltL] at *
  split
  ·rename_i e
   rw[AA e] at h;exact sM c d h (by simpa using l)
  ·rename_i e
   rw[A0 e] at h;exact h
theorem sO {c d:Aa Pt}(h:ltL c d=true):∀ a:Aa Pt,ltL (a++c) (a++d)=true
 |[]=>h
 |p::a=>by
  simp only[Ic,ltL,AZ];exact sO h a
theorem sN {p q:Pt}(h:ltP p q=true):ltL [p] [q]=true:=by
 simp only[ltL,A0 (bH h)];exact h
def zY (pts:Aa Pt):Ah→Aa (Aa Pt)
 |0=>pts.map fun p=>[p]
 |k+1=>grow pts (zY pts k)
theorem jF {α : Type}(l:Aa α) : l=[]∨∃ l' b,l=l'++[b]:=by simpa only [List.concat_eq_append] using List.eq_nil_or_concat l
theorem gB (l:Aa Pt)(p:Pt):uU (l++[p])=p:=by simp[uU]
abbrev Up (l:Aa Pt):Prop:=l.Pairwise fun p q=>ltP p q=true
theorem UO {l:Aa Pt}{p:Pt}(h:Up l)(hl:ltP (uU l) p=true):∀ x∈l,ltP x p=true:=by
 intro x hx;rcases jF l with rfl|⟨l',q,rfl⟩
 ·cases hx
 ·rw[gB] at hl
  rcases AS.mp hx with hx|hx
  ·exact aP ((AX.mp h).2.2 x hx q (by simp)) hl
  ·have:x=q:=by simpa using hx
   subst this;exact hl
theorem wD (pts:Aa Pt):∀ (k:Ah) (l:Aa Pt),l∈zY pts k↔l.length=k+1∧Up l∧∀ x∈l,x∈pts
 |0,l=>by
  constructor
  ·intro h
   obtain⟨p,hp,rfl⟩:=AE.mp h;refine⟨rfl,by simp,fun x hx=>?_⟩
   have:x=p:=by simpa using hx
   subst this;exact hp
  ·rintro⟨h1,_,h3⟩
   match l,h1 with
   |[p],_=>exact AE.mpr ⟨p,h3 p (by simp),rfl⟩
 |k+1,l=>by
  constructor
  ·intro h
   obtain⟨l0,h0,h⟩:=Ib.mp h;obtain⟨p,hp,rfl⟩:=AE.mp h;obtain⟨hp1,hp2⟩:=Dq.mp hp;obtain⟨a1,a2,a3⟩:=(wD pts k l0).mp h0;refine⟨by simp[a1],?_,fun x hx=>?_⟩
   ·exact AX.mpr ⟨a2,by simp,fun x hx y hy=>by
     have:y=p:=by simpa using hy
     subst this;exact UO a2 hp2 x hx⟩
   ·rcases AS.mp hx with hx|hx
    ·exact a3 x hx
    ·have:x=p:=by simpa using hx
     subst this;exact hp1
  ·rintro⟨h1,h2,h3⟩
   rcases jF l with rfl|⟨l0,p,rfl⟩
   ·cases h1
   ·have hl:l0.length=k+1:=by simpa using h1
    obtain⟨b1,_,b3⟩:=AX.mp h2;refine Ib.mpr ⟨l0,(wD pts k l0).mpr ⟨hl,b1,fun x hx=>h3 x (by simp[hx])⟩,AE.mpr ⟨p,Dq.mpr ⟨h3 p (by simp),?_⟩,rfl⟩⟩
    rcases jF l0 with rfl|⟨l1,q,rfl⟩
    ·cases hl
    ·rw[gB]
     exact b3 q (by simp) p (by simp)
theorem sL {pts:Aa Pt}(hs:Up pts):∀ k:Ah,(zY pts k).Pairwise fun a b=>ltL a b=true
 |0=>by
  show (pts.map fun p=>[p]).Pairwise _;rw[CY];exact hs.imp fun h=>sN h
 |k+1=>by
  show (grow pts (zY pts k)).Pairwise _;unfold grow;rw[Jf];refine⟨fun lot _=>?_,?_⟩
  ·rw[CY]
   exact(hs.filter _).imp fun h=>sO (sN h) lot
  ·refine(sL hs k).imp_of_mem fun {a b} ha hb h x hx y hy=>?_
   obtain⟨p,_,rfl⟩:=AE.mp hx;obtain⟨q,_,rfl⟩:=AE.mp hy;refine sM _ _ h ?_;rw[((wD pts k a).mp ha).1,((wD pts k b).mp hb).1]
def chS (n:Ah)(acc:Aa (Aa Pt))(p:Pt):Aa (Aa Pt):=acc++(acc.filter fun l=>decide (l.length<n)).map fun l=>l++[p]
def chF (n:Ah)(ps:Aa Pt):Aa (Aa Pt):=ps.foldl (chS n) [[]]
theorem tY (n:Ah):∀ (k:Ah) (ps:Aa Pt),ps.length=k→Up ps→(∀ l,l∈chF n ps↔l.length≤n∧Up l∧∀ x∈l,x∈ps)∧(chF n ps).Nodup∧(chF n ps).length≤2 ^ k
 |0,ps,hk,_=>by
  have:ps=[]:=Ev.mp hk;subst this;refine⟨fun l=>?_,by simp[chF],by simp[chF]⟩
  constructor
  ·intro h
   have:l=[]:=by simpa [chF] using h
   subst this;simp
  ·rintro⟨_,_,h⟩
   cases l with
   |nil=>simp[chF]
   |cons x l=>exact absurd (h x (by simp)) (by simp)
 |k+1,ps,hk,hu=>by
  rcases jF ps with rfl|⟨ps,p,rfl⟩
  ·cases hk
  ·obtain⟨u1,_,u3⟩:=AX.mp hu
   have lt:∀ x∈ps,ltP x p=true:=fun x hx=>u3 x hx p (by simp)
   obtain⟨ih,nd,ln⟩:=tY n k ps (by simpa using hk) u1
   have e:chF n (ps++[p])=chS n (chF n ps) p:=by simp[chF]
   rw[e];generalize chF n ps=F at ih nd ln;refine⟨fun l=>?_,?_,?_⟩
   ·unfold chS
    rw[AS];constructor
    ·rintro (h|h)
     ·obtain⟨a1,a2,a3⟩:=(ih l).mp h
      exact⟨a1,a2,fun x hx=>by simp[a3 x hx]⟩
     ·obtain⟨l0,h0,rfl⟩:=AE.mp h
      obtain⟨h0,hn⟩:=Dq.mp h0;obtain⟨a1,a2,a3⟩:=(ih l0).mp h0;have hn':l0.length<n:=by simpa using hn
      refine⟨by simp;omega,?_,fun x hx=>?_⟩
      ·exact AX.mpr ⟨a2,by simp,fun x hx y hy=>by
        have:y=p:=by simpa using hy
        subst this;exact lt x (a3 x hx)⟩
      ·rcases AS.mp hx with hx|hx
       ·simp[a3 x hx]
       ·simp at hx;simp[hx]
    ·rintro⟨h1,h2,h3⟩
     rcases jF l with rfl|⟨l0,q,rfl⟩
     ·exact .inl ((ih []).mpr ⟨by simp,by simp,by simp⟩)
     ·obtain⟨b1,_,b3⟩:=AX.mp h2
      have hlt:∀ x∈l0,ltP x q=true:=fun x hx=>b3 x hx q (by simp)
      by_cases hq:q=p
      ·subst hq
       refine .inr (AE.mpr ⟨l0,Dq.mpr ⟨(ih l0).mpr ⟨by simp at h1;omega,b1,fun x hx=>?_⟩,Bv (by simp at h1;omega)⟩,rfl⟩)
       rcases AS.mp (h3 x (by simp[hx])) with h|h
       ·exact h
       ·have:x=q:=by simpa using h
        exact absurd this (bH (hlt x hx))
      ·have hq':q∈ps:=by
        rcases AS.mp (h3 q (by simp)) with h|h
        ·exact h
        ·exact absurd (by simpa using h) hq
       refine .inl ((ih _).mpr ⟨h1,h2,fun x hx=>?_⟩);rcases AS.mp (h3 x hx) with h|h
       ·exact h
       ·have hxp:x=p:=by simpa using h
        rcases AS.mp hx with hx|hx
        ·have:=aP (hlt x hx) (lt q hq')
         exact absurd hxp (bH this)
        ·have:x=q:=by simpa using hx
         rw[this];exact hq'
   ·unfold chS
    rw[Ga];refine⟨nd,?_,fun a ha b hb hab=>?_⟩
    ·unfold Pc
     rw[CY];exact(nd.filter _).imp fun h e=>h (List.append_cancel_right e)
    ·subst hab
     obtain⟨l0,h0,rfl⟩:=AE.mp hb;have:=((ih _).mp ha).2.2 p (by simp)
     exact absurd rfl (bH (lt p this))
   ·unfold chS
    rw[AW,A9,Lq];have:=Df (fun l=>decide (l.length<n)) F;omega
theorem cB {pts:Aa Pt}(hu:Up pts)(k:Ah):gJ (((chF (k+1) pts).filter fun l=>decide (l.length=k+1)).map qF)=(zY pts k).map qF:=by
 obtain⟨h1,h2,_⟩:=tY (k+1) pts.length pts rfl hu;have up:=sL hu k;refine UG (n:=2) (fun x hx=>?_) (List.Perm.map _ ((List.perm_ext_iff_of_nodup ?_ ?_).mpr fun l=>?_)) ?_
 ·obtain⟨l,_,rfl⟩:=AE.mp hx
  exact FE 0 l
 ·exact up.imp fun {a b} h e=>by
   subst e;rw[aM h] at h;cases h
 ·exact h2.filter _
 ·rw[wD,Dq,h1]
  constructor
  ·rintro⟨a,b,c⟩
   exact⟨⟨by omega,b,c⟩,by simpa using a⟩
  ·rintro⟨⟨a,b,c⟩,d⟩
   exact⟨by simpa using d,b,c⟩
 ·rw[CY]
  exact up.imp fun h=>by rw[sQ];exact aM h
theorem tT (w h:Ah):Up (x8 w h):=by
 unfold Up x8;rw[Jf];refine⟨fun x _=>?_,?_⟩
 ·rw[CY]
  exact IP.imp fun {a b} hab=>by
   show _H.lexLt [(x:Aj),(a:Aj)] [(x:Aj),(b:Aj)]=true;rw[_H.lexLt_cons,AA rfl,_H.lexLt_cons,A0 om];exact Bv om
 ·refine IP.imp fun {a b} hab p hp q hq=>?_
  obtain⟨y,_,rfl⟩:=AE.mp hp;obtain⟨z,_,rfl⟩:=AE.mp hq;show _H.lexLt [(a:Aj),(y:Aj)] [(b:Aj),(z:Aj)]=true;rw[_H.lexLt_cons,A0 om];exact Bv om
theorem MG (p q:Pt)(S:Sto):fG (ptD p) (ptD q) S=.ok (.bl (ltP q p)) S:=rfl
theorem c9 (lot:Aa Pt)(p:Pt)(S:Sto)(h:lot.length≤50):zM (qF lot) (.tup [ptD p]) S=.ok (qF (lot++[p])) S:=by
 have hl:(lot.map ptD).length+1≤lim:=by
  rw[A9];unfold lim;omega
 have e:zM (.tup (lot.map ptD)) (.tup [ptD p]) S=.ok (.tup (lot.map ptD++[ptD p])) S:=AA hl;unfold qF;rw[e,Dx];rfl
theorem YO (lot:Aa Pt)(S:Sto)(h:lot≠[]):gIx (qF lot) (.int (-1)) S=.ok (ptD (uU lot)) S:=by
 rcases jF lot with rfl|⟨l,p,rfl⟩
 ·exact absurd rfl h
 ·rw[gB]
  have e:_L.atI ((l++[p]).map ptD) (-1)=Ab (ptD p):=by
   have hn:_L.ixN ((l++[p]).map ptD).length (-1)=Ab l.length:=by
    unfold _L.ixN;simp;omega
   unfold _L.atI;rw[hn];simp
  show _D.wH (_L.atI ((l++[p]).map ptD) (-1)) S=_;rw[e];rfl
theorem l8 (pts:Aa Pt)(L:Aa (Aa Pt)):(grow pts L).length≤L.length*pts.length:=by
 refine d9 _ pts.length L fun lot _=>?_;rw[A9];exact Df _ _
theorem MR (env:qD)(S:Sto):d1 nP (dC (.int 1)) env S=.ok (.int (-1)) S:=rfl
theorem U6 (pts:Aa Pt)(L:Aa (Aa Pt))(S:Sto)(hL:∀ lot∈L,lot≠[]∧lot.length≤50)(hb:L.length*pts.length≤lim):S_grown [.lst (L.map qF),.lst (pts.map ptD)] S=.ok (.lst ((grow pts L).map qF)) S:=by
 have eq:(L.flatMap fun lot=>(pts.filter fun p=>ltP (uU lot) p).map fun p=>qF (lot++[p]))=(grow pts L).map qF:=by
  unfold grow;rw[Nn]
  congr 1
  funext lot
  rw[DB];rfl
 have hl:((grow pts L).map qF).length≤lim:=by
  rw[A9];exact Ce (l8 pts L) hb
 have hit:dIt (qB 0) [Ab (.lst (L.map qF)),Ab (.lst (pts.map ptD))] S=.ok (none,L.map qF) S:=rfl;have l1:1≤lim:=by decide
 have hc:=WM (enc:=qF) (enc2:=ptD) (cap:=[none,none,Ab 1]) (g:=gNm 0) (t:=zL) (fi2:=dIt (qB 2)) (g2:=gNm 1) (t2:=w8 (dTr (d2 fG (qB 1) (d2 gIx (qB 0) (d1 nP (dC (.int 1)))))) (zL)) (fe:=d2 zM (qB 0) (zH (qA (qB 1) (qC)))) (o2:=none) hit trivial trivial (fun _=>pts) (fun lot p=>ltP (uU lot) p) (fun lot p=>qF (lot++[p]))
  (fun env=>∃ a b,env=[a,b,Ab (.lst (pts.map ptD))]) (fun lot env=>∃ b,env=[Ab (qF lot),b,Ab (.lst (pts.map ptD))]) ⟨none,none,rfl⟩ (fun lot env ⟨b,e⟩=>⟨_,_,e⟩) (by rw[eq];exact hl)
  (fun lot hlot env ⟨a,b,e⟩=>by
   subst e;exact⟨[Ab (qF lot),b,Ab (.lst (pts.map ptD))],rfl,⟨_,rfl⟩,rfl,rfl⟩)
  (fun lot hlot p hp env ⟨b,e⟩=>by
   subst e;obtain⟨n1,n2⟩:=hL lot hlot;have x1:=YO lot S n1;have c1:=c9 lot p S n2;refine⟨[Ab (qF lot),Ab (ptD p),Ab (.lst (pts.map ptD))],rfl,⟨_,rfl⟩,?_,fun _=>?_⟩
   ·simp only[w8,dTr,d2,qB,Fw,Ey,Res.bind,MR,x1,MG,FI,_D.gH,zL]
    cases ltP (uU lot) p <;> rfl
   ·simp[qP,wI,VE,LU,VD,qQ,sIf,qS,x5,wQ,zD,gNm,gSb,gTp,zE,wN,m4,L5,D9,dC,qB,d1,d2,qA,qC,qE,qN,dTr,yL,uF,w8,zL,uZ,oW,nE,zH,zZ,gR,dBm,dSl,wA,jC,xN,xO,Res.bind,Res.toS,_D.gH,_D.wH,FI,LV,LY,D6,D0,D1,D2,LZ,LS,YN,LW,gLt,gLe,gGt,gGe,_D.w5,D5,l1,c1])
 rw[eq] at hc;rw[pZ];exact vF rfl hc
theorem PF (p:Pt):qF [p]=.tup [ptD p]:=rfl
theorem pP {pts:Aa Pt}(hp:pts.length≤16):∀ k:Ah,(zY pts k).length≤16 ^ (k+1)
 |0=>by simpa [zY] using hp
 |k+1=>by
  show (grow pts (zY pts k)).length≤_;refine Ce (l8 _ _) ?_;rw[Lq 16 (k+1)];exact El (pP hp k) hp
theorem iB {k:Ah}(h:k≤5):16 ^ k*16≤lim:=by
 have:16 ^ k≤16 ^ 5:=Jr om h;unfold lim;omega
inductive IvL (pts:Aa Pt)(n:Aj)(K:Ah)(S:Sto)(ds:Aa D)(env:qD)(S':Sto):Prop
 |mk (k:Ah) (e3:Ak D) (h_0:S'=S) (h_1:env=[Ab (.lst (pts.map ptD)),Ab (.int n),Ab (.lst ((zY pts k).map qF)),e3]) (h_2:k+ds.length=K):IvL pts n K S ds env S'
theorem F1 (pts:Aa Pt)(hp:pts.length≤16)(k:Ah)(hk:k≤5)(S:Sto):S_lots_of [.lst (pts.map ptD),.int ((k:Aj)+1)] S=.ok (.lst ((zY pts k).map qF)) S:=by
 have key:Rt (b_lots_of [Ab (.lst (pts.map ptD)),Ab (.int ((k:Aj)+1)),none,none] S) fun d S'=>d=.lst ((zY pts k).map qF)∧S'=S:=by
  unfold b_lots_of;have l1:1≤lim:=by decide
  have hc:=v6 (enc:=ptD) (cap:=[none]) (fi:=dIt (qB 0)) (g:=gNm 0) (t:=zL) (fe:=zH (qA (qB 0) (qC))) (env:=[Ab (.lst (pts.map ptD)),Ab (.int ((k:Aj)+1)),none,none]) (S:=S) (o:=none) rfl trivial (fun _=>true) (fun p=>qF [p]) (fun env=>∃ a,env=[a]) ⟨none,rfl⟩ (by unfold lim;omega)
   (fun p hp env ⟨a,e⟩=>by
    subst e;exact⟨[Ab (ptD p)],rfl,⟨_,rfl⟩,rfl,fun _=>by simp[qP,wI,VE,LU,VD,qQ,sIf,qS,x5,wQ,zD,gNm,gSb,gTp,zE,wN,m4,L5,D9,dC,qB,d1,d2,qA,qC,qE,qN,dTr,yL,uF,w8,zL,uZ,oW,nE,zH,zZ,gR,dBm,dSl,wA,jC,xN,xO,Res.bind,Res.toS,_D.gH,_D.wH,FI,LV,LY,D6,D0,D1,D2,LZ,LS,YN,LW,gLt,gLe,gGt,gGe,_D.w5,D5,l1,PF]⟩)
  rw[xR] at hc;have e0:(pts.map fun p=>qF [p])=(zY pts 0).map qF:=by simp[zY]
  rw[e0] at hc;refine zI (x6 (zG hc ?_));clear hc e0;simp only[CA,Co];have hr:xO (qA (d2 w5 (qB 1) (dC (.int 1))) (qC)) [Ab (.lst (pts.map ptD)),Ab (.int ((k:Aj)+1)),Ab (.lst ((zY pts 0).map qF)),none] S=.ok ((By k).map iD) S:=fO _ k _ S om (by
   have:w5 (.int ((k:Aj)+1)) (.int 1) S=.ok (.int (k:Aj)) S:=by
    show Res.ok (D.int ((k:Aj)+1-1)) S=_;rw[Int.add_sub_cancel]
   exact(xB (a:=.int ((k:Aj)+1)) (b:=.int 1) rfl rfl).trans this)
  refine zI (wY hr ?_);refine xZ (IvL pts ((k:Aj)+1) k S) ?_ ?_ ⟨0,none,rfl,rfl,by simp⟩
  ·rintro d ds env S' ⟨j,e3,rfl,rfl,hj⟩
   refine⟨[Ab (.lst (pts.map ptD)),Ab (.int ((k:Aj)+1)),Ab (.lst ((zY pts j).map qF)),Ab d],S',rfl,?_⟩;simp only[AH] at hj;have hg:=U6 pts (zY pts j) S' (fun lot hl=>by
    have:=((wD pts j lot).mp hl).1;exact⟨fun e=>(by subst e;cases this),by omega⟩) (by
    refine Ce (El (pP hp j) hp) (iB om))
   exact x6 (zG ((jP (a:=.lst ((zY pts j).map qF)) (b:=.lst (pts.map ptD)) rfl rfl).trans hg) ⟨j+1,Ab d,rfl,rfl,by omega⟩)
  ·rintro env S' ⟨j,e3,rfl,rfl,hj⟩
   have:j=k:=by simpa using hj
   subst this;exact vV (zG rfl ⟨rfl,rfl⟩)
 obtain⟨d,S',e,rfl,rfl⟩:=key;rw[kO];exact wZ rfl e
inductive IvH (pts:Aa Pt)(n:Ah)(S:Sto)(ds:Aa D)(env:qD)(S':Sto):Prop
 |mk (ps qs:Aa Pt) (e3:Ak D) (h_0:S'=S) (h_1:env=[Ab (.lst (pts.map ptD)),Ab (.int (n:Aj)),Ab (.lst ((chF n ps).map qF)),e3]) (h_2:ps++qs=pts) (h_3:ds=qs.map ptD):IvH pts n S ds env S'
theorem WL (n:Ah)(ps:Aa Pt)(p:Pt):chF n (ps++[p])=chS n (chF n ps) p:=by simp[chF]
theorem GM (a b:Ah)(S:Sto):gLt (.int (a:Aj)) (.int (b:Aj)) S=.ok (.bl (decide (a<b))) S:=by
 show Res.ok (D.bl (decide ((a:Aj)<b))) S=_;simp
theorem KL (a b:Ah)(S:Sto):gEq (.int (a:Aj)) (.int (b:Aj)) S=.ok (.bl (decide (a=b))) S:=by
 rw[gV,(decide_eq_decide.mpr ⟨fun h=>by omega,fun h=>by omega⟩:decide ((a:Aj)=b)=decide (a=b))]
theorem sG (l:Aa Pt)(S:Sto):zO [qF l] S=.ok (.int (l.length:Aj)) S:=by
 unfold qF;rw[l6,A9]
theorem bV {f:DE}{env:qD}{S:Sto}{b:Ao}(h:f env S=.ok (.bl b) S):w8 (dTr f) zL env S=.ok b S:=by
 unfold w8;rw[eT h];cases b <;> rfl
theorem ZU (pts:Aa Pt)(hp:pts.length≤16)(hu:Up pts)(k:Ah)(hk:k≤5)(S:Sto):S__law_chosen [.lst (pts.map ptD),.int ((k+1:Ah):Aj)] S=.ok (.lst ((zY pts k).map qF)) S:=by
 have big:∀ ps qs,ps++qs=pts→(chF (k+1) ps).length≤65536∧∀ l∈chF (k+1) ps,l.length≤50:=fun ps qs e=>by
  have hl:ps.length≤16:=by have:=congrArg Ep e;simp at this;omega
  have up:Up ps:=by rw[← e] at hu;exact(AX.mp hu).1
  obtain⟨a,_,c⟩:=tY (k+1) ps.length ps rfl up;refine⟨Ce c ?_,fun l hl=>?_⟩
  ·exact Ce (Jr om hl) (by decide)
  ·have:=((a l).mp hl).1
   omega
 have key:Rt (b__law_chosen [Ab (.lst (pts.map ptD)),Ab (.int ((k+1:Ah):Aj)),none,none] S) fun d S'=>d=.lst ((zY pts k).map qF)∧S'=S:=by
  unfold b__law_chosen;have l1:1≤lim:=by decide
  have l0:0≤lim:=by decide
  refine zI (x6 (zG (d:=.lst [qF []]) (gE (b8 (gM (as:=[]) rfl l0)) l1) ?_));simp only[CA,Co];refine zI (wY (ds:=pts.map ptD) (S1:=S) rfl ?_);refine xZ (IvH pts (k+1) S) ?_ ?_ ⟨[],pts,none,rfl,rfl,rfl,rfl⟩
  ·rintro d ds env S' ⟨ps,qs,e3,rfl,rfl,hpq,hds⟩
   cases qs with
   |nil=>cases hds
   |cons q qs =>
    injection hds with h1 h2
    subst h1 h2;refine⟨[Ab (.lst (pts.map ptD)),Ab (.int ((k+1:Ah):Aj)),Ab (.lst ((chF (k+1) ps).map qF)),Ab (ptD q)],S',rfl,?_⟩;obtain⟨b1,b2⟩:=big ps _ hpq;have hc:=v6 (enc:=qF) (cap:=[none,Ab 1,Ab 3]) (fi:=dIt (qB 2)) (g:=gNm 0) (t:=w8 (dTr (d2 gLt (qE zO (qA (qB 0) (qC))) (qB 1))) (zL)) (fe:=d2 zM (qB 0) (zH (qA (qB 2) (qC)))) (env:=[Ab (.lst (pts.map ptD)),Ab (.int ((k+1:Ah):Aj)),Ab (.lst ((chF (k+1) ps).map qF)),Ab (ptD q)]) (S:=S') (o:=none) rfl trivial (fun l=>decide (l.length<k+1)) (fun l=>qF (l++[q])) (fun env=>∃ a,env=[a,Ab (.int ((k+1:Ah):Aj)),Ab (ptD q)]) ⟨none,rfl⟩ (by unfold lim;omega)
     (fun l hl env ⟨a,e⟩=>by
      subst e;refine⟨[Ab (qF l),Ab (.int ((k+1:Ah):Aj)),Ab (ptD q)],rfl,⟨_,rfl⟩,bV ((xB ((wW (a:=qF l) rfl).trans (sG l S')) rfl).trans (GM _ _ _)),fun _=>?_⟩;exact(xB (a:=qF l) rfl (gM (b8 (a:=ptD q) rfl) l1)).trans (c9 l q S' (b2 l hl)))
    have e:(chF (k+1) ps).map qF++((chF (k+1) ps).filter fun l=>decide (l.length<k+1)).map (fun l=>qF (l++[q]))=(chF (k+1) (ps++[q])).map qF:=by
     rw[WL];unfold chS;rw[Dx,DB];rfl
    have hq:((chF (k+1) ps).map qF).length+(((chF (k+1) ps).filter fun l=>decide (l.length<k+1)).map (fun l=>qF (l++[q]))).length≤lim:=by
     rw[A9,A9];have:=Df (fun l=>decide (l.length<k+1)) (chF (k+1) ps);unfold lim;omega
    refine x6 (zG ((xB (a:=.lst ((chF (k+1) ps).map qF)) rfl hc).trans (jT hq S')) ?_);rw[e];exact⟨ps++[q],qs,Ab (ptD q),rfl,rfl,by rw[← hpq];simp,rfl⟩
  ·rintro env S' ⟨ps,qs,e3,rfl,rfl,hpq,hds⟩
   cases qs with
   |cons _ _=>cases hds
   |nil =>
    have:ps=pts:=by simpa using hpq
    subst this;obtain⟨b1,b2⟩:=big ps [] (by simp)
    have hc:=v6 (enc:=qF) (cap:=[none,Ab 1]) (fi:=dIt (qB 2)) (g:=gNm 0) (t:=w8 (dTr (d2 gEq (qE zO (qA (qB 0) (qC))) (qB 1))) (zL)) (fe:=qB 0) (env:=[Ab (.lst (ps.map ptD)),Ab (.int ((k+1:Ah):Aj)),Ab (.lst ((chF (k+1) ps).map qF)),e3]) (S:=S') (o:=none) rfl trivial (fun l=>decide (l.length=k+1)) qF (fun env=>∃ a,env=[a,Ab (.int ((k+1:Ah):Aj))]) ⟨none,rfl⟩ (by unfold lim;omega)
     (fun l hl env ⟨a,e⟩=>by
      subst e;exact⟨[Ab (qF l),Ab (.int ((k+1:Ah):Aj))],rfl,⟨_,rfl⟩,bV ((xB ((wW (a:=qF l) rfl).trans (sG l S')) rfl).trans (KL _ _ _)),fun _=>rfl⟩)
    refine vV (zG (d:=.lst ((zY ps k).map qF)) (S:=S') ((wW hc).trans ?_) ⟨rfl,rfl⟩);have hs:kW [.lst (((chF (k+1) ps).filter fun l=>decide (l.length=k+1)).map qF)] S'=.ok (.lst (gJ (((chF (k+1) ps).filter fun l=>decide (l.length=k+1)).map qF))) S':=by
     refine AA ?_;rw[Ax,Bb];refine⟨?_,?_⟩
     ·rw[A9]
      have:=Df (fun l=>decide (l.length=k+1)) (chF (k+1) ps);omega
     ·refine AR.mpr fun x hx=>?_
      obtain⟨l,hl,rfl⟩:=AE.mp hx;have ll:l.length=k+1:=by simpa using (Dq.mp hl).2
      rw[Ax,Ax];refine⟨⟨?_,rD 4 l⟩,AR.mpr fun y hy=>?_⟩
      ·cases l with
       |nil=>cases ll
       |cons _ _=>rfl
      ·obtain⟨m,_,rfl⟩:=AE.mp hy
       exact pI l m
    rw[hs,cB hu]
 obtain⟨d,S',e,rfl,rfl⟩:=key;rw[uD];exact wZ rfl e
def xF (l:Aa Pt):Aj:=(rW (fars l):Aj)
def mxL:Aa Aj→Aj
 |[]=>0
 |i::ns=>ns.foldl max i
theorem aZ {ds:Aa Aj}(h:ds≠[]):mxL ds∈ds∧∀ x∈ds,x≤mxL ds:=by
 cases ds with
 |nil=>exact absurd rfl h
 |cons i ns=>exact nO ns i
theorem aY {ds:Aa Aj}{m:Aj}(h1:m∈ds)(h2:∀ x∈ds,x≤m):mxL ds=m:=by
 obtain⟨a,b⟩:=aZ (ds:=ds) (fun e=>by subst e;cases h1)
 exact Ob (h2 _ a) (b m h1)
def mx (L:Aa (Aa Pt)):Aj:=mxL (L.map xF)
def good (L:Aa (Aa Pt)):Aa (Aa Pt):=L.filter fun l=>xF l == mx L
theorem eJ {L:Aa (Aa Pt)}(h:L≠[]):mx L∈L.map xF∧∀ x∈L.map xF,x≤mx L:=aZ (by simpa using h)
theorem sA {L:Aa (Aa Pt)}(h:L≠[]):good L≠[]:=by
 obtain⟨l,hl,e⟩:=AE.mp (eJ h).1;intro z;have:l∈good L:=Dq.mpr ⟨hl,by rw[e];simp⟩
 rw[z] at this;cases this
theorem V1 {pts:Aa Pt}(hu:Up pts){k:Ah}(h:k+1≤pts.length):zY pts k≠[]:=by
 intro z;have:pts.take (k+1)∈zY pts k:=(wD pts k _).mpr ⟨by simp;omega,hu.sublist (Ma _ _),fun x hx=>Jq hx⟩
 rw[z] at this;cases this
theorem XH {ty:Bo}{g:D→Aa D→Sto→Res D}{fo:DE}{fa:DA}{env:qD}{S S1 S2:Sto}{o:D}{ds:Aa D}(h1:fo env S=.ok o S1)(ht:tyD o S1=Ab ty)(h2:fa env S1=.ok ds S2):dBm ty g fo fa env S=g o ds S2:=by
 unfold dBm;rw[h1,Res.bind_ok,ht,AA (by simp),h2,Res.bind_ok]
theorem GI.pre {β : Type}{key:β→Aj}{enc:β→D}{n:Ah}{prs:Aa β}{kvs:Aa (_L.Key × D)}{S S':Sto}(G:GI key enc n prs kvs S)(e:S<+:S'):GI key enc n prs kvs S':=
 ⟨dX G.dict e,fun kv hk=>by
  obtain⟨f,j,h1,h2,h3⟩:=G.lists kv hk;exact⟨f,j,h1,h2,dX h3 e⟩,G.nd,G.keys⟩
theorem f8 {S:Sto}{n:Ah}{kvs:Aa (_L.Key × D)}(h:S[n]? = Ab (.dct kvs)):yM (.loc n) S=Ab kvs:=by
 show (match S[n]? with|some (.dct kvs)=>Ab kvs|_=>none)=_
 rw[h]
theorem YY {S:Sto}{n:Ah}{kvs:Aa (_L.Key × D)}(h:S[n]? = Ab (.dct kvs)):gT [.loc n] S=.ok (.int kvs.length) S:=by
 show (match yM (.loc n) S with|some kvs=>Res.ok (D.int kvs.length) S|none=>.bad)=_
 rw[f8 h]
theorem KU {l:Aa Pt}{n:Ah}{kvs:Aa (_L.Key × D)}{S:Sto}(G:GI kX prD n (zX l) kvs S):(kvs.length:Aj)=xF l:=by
 have:=congrArg Ep G.keys;rw[A9,A9] at this;unfold xF rW fars;rw[this]
theorem nT:∀ {kvs:Aa (_L.Key × D)} {ns:Aa Aj},kvs.map (·.1)=ns.map DL→uS kvs=Ab ns
 |[],[],_=>rfl
 |[],_::_,h=>by cases h
 |(.inl i,d)::r,[],h=>by cases h
 |(.inr x,d)::r,[],h=>by cases h
 |(.inr x,d)::r,n::ns,h=>by injection h with h1 _;cases h1
 |(.inl i,d)::r,n::ns,h=>by
  injection h with h1 h2
  cases h1;show (uS r).map (i::·)=_
  rw[nT h2];rfl
structure Ok3 (w h k:Ah):Prop where
 hw:1≤w∧w≤4
 hh:1≤h∧h≤4
 hk:k+1≤w*h∧k≤5
theorem Ok3.wh {w h k:Ah}(o:Ok3 w h k):1≤w*h∧w*h≤16:=by
 refine⟨by have:=o.hk;omega,?_⟩
 exact El o.hw.2 o.hh.2
def m6 (a b:Aj):Aj:=if a*b<6 then a*b else 6
theorem fT {env:qD}{S:Sto}{i j:Ah}{a b:Aj}(h0:env[i]? = Ab (Ab (.int a)))(h1:env[j]? = Ab (Ab (.int b)))(ha : -100≤a∧a≤100):qE vK (qA (dC (.int 6)) (qA (d2 zT (qB i) (qB j)) (qC))) env S=.ok (.int (m6 a b)) S:=
 c7 (a:=.int 6) (b:=.int (a*b)) rfl ((xB (yU h0) (yU h1)).trans (wM a b S ⟨by omega,by omega⟩))
abbrev z9 (w h k:Ah):Aa (Aa Pt):=zY (x8 w h) k
theorem lA {w h k:Ah}(o:Ok3 w h k){l:Aa Pt}(hl:l∈z9 w h k):(∀ p∈l,jN p)∧l.length≤41:=by
 obtain⟨a,_,b⟩:=(wD _ _ l).mp hl;exact⟨fun p hp=>oM (by have:=o.hw;omega) (by have:=o.hh;omega) (b p hp),by have:=o.hk;omega⟩
theorem vB {w h k:Ah}(o:Ok3 w h k):z9 w h k≠[]:=V1 (tT w h) (by rw[vQ];exact o.hk.1)
theorem gD {w h k:Ah}(o:Ok3 w h k):(z9 w h k).length≤lim:=by
 refine Ce (pP (by rw[vQ];exact o.wh.2) k) ?_
 rw[Lq];exact iB o.hk.2
inductive IvK (w h k:Ah)(S:Sto)(ds:Aa D)(env:qD)(S':Sto):Prop
 |mk (done rest:Aa (Aa Pt)) (kvs:Aa (_L.Key × D)) (e4:Ak D) (h_0:env=[Ab (.int (w:Aj)),Ab (.int (h:Aj)),Ab (.int ((k:Aj)+1)),Ab (.loc S.length),e4]) (h_1:ds=rest.map qF) (h_2:done++rest=z9 w h k) (h_3:GI xF qF S.length done kvs S') (h_4:∀ m,m<S.length→S'[m]? = S[m]?):IvK w h k S ds env S'
theorem lJ (c:Cl){w h k:Ah}(o:Ok3 w h k)(S:Sto):∃ (kvs:Aa (_L.Key × D)) (S':Sto),S_lots_by_fars c [.int (w:Aj),.int (h:Aj),.int ((k:Aj)+1)] S=.ok (.loc S.length) S'∧GI xF qF S.length (z9 w h k) kvs S'∧S<+:S':=by
 have hw:=o.hw;have hh:=o.hh;have hk:=o.hk;have hwh:=o.wh;have key:Rt (b_lots_by_fars c [Ab (.int (w:Aj)),Ab (.int (h:Aj)),Ab (.int ((k:Aj)+1)),none,none] S) fun d S'=>d=.loc S.length∧∃ kvs,GI xF qF S.length (z9 w h k) kvs S'∧S<+:S':=by
  unfold b_lots_by_fars;have n1:=jK (w:Aj) 1 4 S c ⟨by omega,by omega⟩
  have n2:=jK (h:Aj) 1 4 S c ⟨by omega,by omega⟩
  have e6:((k:Aj)+1≤m6 (w:Aj) (h:Aj)):=by
   unfold m6;have e:(w:Aj)*(h:Aj)=((w*h:Ah):Aj):=by push_cast;rfl
   rw[e]
   split <;> omega
  have n3:=jK ((k:Aj)+1) 1 (m6 (w:Aj) (h:Aj)) S c ⟨by omega,e6⟩
  refine zI (jH (zG (d:=.non) (S:=S) ((xG (a:=.int (w:Aj)) (b:=.int 1) (c:=.int 4) rfl rfl rfl).trans n1) ?_));refine zI (jH (zG (d:=.non) (S:=S) ((xG (a:=.int (h:Aj)) (b:=.int 1) (c:=.int 4) rfl rfl rfl).trans n2) ?_));refine zI (jH (zG (d:=.non) (S:=S) ((xG (a:=.int ((k:Aj)+1)) (b:=.int 1) rfl rfl (fT rfl rfl ⟨by omega,by omega⟩)).trans n3) ?_))
  refine zI (x6 (zG rfl ?_));simp only[CA,Co];have hb:=U4 w h (S++[.dct []]) om om;have hl:=F1 (x8 w h) (by rw[vQ];exact hwh.2) k hk.2 (S++[.dct []])
  have hit:xN (qN 2 S_lots_of (qA (qN 2 S_board_points (qA (qB 0) (qA (qB 1) (qC)))) (qA (qB 2) (qC)))) [Ab (.int (w:Aj)),Ab (.int (h:Aj)),Ab (.int ((k:Aj)+1)),Ab (.loc S.length),none] (S++[.dct []]) = .ok ((z9 w h k).map qF) (S++[.dct []]):=by
   unfold xN;rw[(jP ((jP (a:=.int (w:Aj)) (b:=.int (h:Aj)) rfl rfl).trans hb) (b:=.int ((k:Aj)+1)) rfl).trans hl];rfl
  refine zI (wY hit ?_);clear hit hl hb n1 n2 n3 e6;refine xZ (IvK w h k S) ?_ ?_ ⟨[],z9 w h k,[],none,rfl,rfl,rfl,⟨by simp,fun kv hk=>(by cases hk),Jj,rfl⟩,fun m hm=>AG hm⟩
  ·rintro d ds env S' ⟨done,rest,kvs,e4,rfl,hds,hall,G,hpre⟩
   cases rest with
   |nil=>cases hds
   |cons l rest =>
    injection hds with h1 h2
    subst h1 h2;refine⟨[Ab (.int (w:Aj)),Ab (.int (h:Aj)),Ab (.int ((k:Aj)+1)),Ab (.loc S.length),Ab (qF l)],S',rfl,?_⟩;have hml:l∈z9 w h k:=by rw[← hall];simp
    obtain⟨p1,p2⟩:=lA o hml;obtain⟨kv1,S1,c1,G1,pre1⟩:=U8 l S' p1 p2;have q1:S'<+:S1:=iC pre1;have hlen:=(wW (F:=gT) ((rQ (f1:=qB 4) (env:=[Ab (.int (w:Aj)),Ab (.int (h:Aj)),Ab (.int ((k:Aj)+1)),Ab (.loc S.length),Ab (qF l)]) (a:=qF l) rfl).trans c1)).trans (YY G1.dict);rw[KU G1] at hlen;have Gx:=G.pre q1;have hdl:done.length<lim:=by
     have:=congrArg Ep hall;have:=gD o;simp only[AW,AH] at *;omega
    obtain⟨j,T1,T2,kvs',f1,f2,f3,G',hp'⟩:=dY Gx l hdl;have l0:0≤lim:=by decide
    have hs1:S.length<S1.length:=(Ay.mp Gx.dict).1;have hm0:gR (qC) [Ab (.int (w:Aj)),Ab (.int (h:Aj)),Ab (.int ((k:Aj)+1)),Ab (.loc S.length),Ab (qF l)] S1=.ok (.loc S1.length) (S1++[.lst []]):=rfl;refine jH (zG ((XH ((XH (o:=.loc S.length) rfl (o6 G.dict) (vS hlen hm0)).trans f1) f2 (b8 (a:=qF l) rfl)).trans f3) ?_);exact⟨done++[l],rest,kvs',_,rfl,rfl,by rw[← hall];simp,G',fun m hm=>((hp' m hm).trans (pre1 m (by have:=(Ay.mp G.dict).1;omega))).trans (hpre m hm)⟩
  ·rintro env S' ⟨done,rest,kvs,e4,rfl,hds,hall,G,hpre⟩
   cases rest with
   |cons _ _=>cases hds
   |nil =>
    have:done=z9 w h k:=by simpa using hall
    rw[← this];exact vV (zG rfl ⟨rfl,kvs,G,iC hpre⟩)
 obtain⟨d,S',e,rfl,kvs,G,p⟩:=key;refine⟨kvs,S',?_,G,p⟩;rw[wR];exact wZ rfl e
theorem sR {L:Aa (Aa Pt)}(hL:L≠[]){n:Ah}{kvs:Aa (_L.Key × D)}{S:Sto}(G:GI xF qF n L kvs S):gU [.loc n] S=.ok (.int (mx L)) S:=by
 have e:=nT G.keys;show (match (yM (.loc n) S).bind uS with|some (i::ns)=>Res.ok (D.int (ns.foldl max i)) S|_=>.bad)=_
 rw[f8 G.dict,Option.bind_some,e];have m:=eJ hL;have hm:mxL ((L.map xF).foldl A7 []) = mx L:=aY (v9.mpr (.inr m.1)) fun x hx=>by
  rcases v9.mp hx with h|h
  ·cases h
  ·exact m.2 x h
 cases hc:(L.map xF).foldl A7 [] with
 |nil =>
  have:mx L∈(L.map xF).foldl A7 []:=v9.mpr (.inr m.1);rw[hc] at this;cases this
 |cons i ns =>
  rw[hc] at hm;dsimp only;rw[show ns.foldl max i=mx L from hm]
theorem G6 {L:Aa (Aa Pt)}(hL:L≠[]){n:Ah}{kvs:Aa (_L.Key × D)}{S:Sto}(G:GI xF qF n L kvs S):∃ j,fH (.loc n) (.int (mx L)) S=.ok (.loc j) S∧n<j∧S[j]? = Ab (.lst ((good L).map qF)):=by
 have m:=eJ hL;have hin:(DL (mx L):_L.Key)∈kvs.map (·.1):=by
  rw[G.keys];exact AE.mpr ⟨_,v9.mpr (.inr m.1),rfl⟩
 cases hv:xJ kvs (.inl (mx L)) with
 |none =>
  obtain⟨kv,hk,e⟩:=AE.mp hin;exact absurd e (lY hv kv hk)
 |some d =>
  obtain⟨f,j,e,h1,h2⟩:=G.lists _ (lZ hv);injection e with e1 e2
  injection e1 with e1
  subst e1 e2;refine⟨j,?_,h1,h2⟩;show (match yM (.loc n) S,wT (.int (mx L)) with|some kvs,Ab k=>(match xJ kvs k with|some d=>Res.ok d S|none=>.bad)|_,_=>.bad)=_
  rw[f8 G.dict];show (match xJ kvs (.inl (mx L)) with|some d=>Res.ok d S|none=>.bad)=_
  rw[hv]
theorem F3 (c:Cl){w h k:Ah}(o:Ok3 w h k)(S:Sto):∃ S',S_most_fars c [.int (w:Aj),.int (h:Aj),.int ((k:Aj)+1)] S=.ok (.int (mx (z9 w h k))) S'∧S<+:S':=by
 obtain⟨kvs,S',e,G,p⟩:=lJ c o S;refine⟨S',?_,p⟩;rw[v3];exact vF rfl ((wW ((xG (a:=.int (w:Aj)) (b:=.int (h:Aj)) (c:=.int ((k:Aj)+1)) rfl rfl rfl).trans e)).trans (sR (vB o) G))
theorem W3 (c:Cl){w h k:Ah}(o:Ok3 w h k)(S:Sto):∃ (j:Ah) (S':Sto),S_lots_of_most c [.int (w:Aj),.int (h:Aj),.int ((k:Aj)+1)] S=.ok (.loc j) S'∧S'[j]? = Ab (.lst ((good (z9 w h k)).map qF))∧S.length≤j∧S<+:S':=by
 obtain⟨kvs,S',e,G,p⟩:=lJ c o S;obtain⟨j,e2,h1,h2⟩:=G6 (vB o) G;refine⟨j,S',?_,h2,by omega,p⟩
 have key:Rt (b_lots_of_most c [Ab (.int (w:Aj)),Ab (.int (h:Aj)),Ab (.int ((k:Aj)+1)),none] S) fun d S1=>d=.loc j∧S1=S':=by
  unfold b_lots_of_most;refine zI (x6 (zG ((xG (a:=.int (w:Aj)) (b:=.int (h:Aj)) (c:=.int ((k:Aj)+1)) rfl rfl rfl).trans e) ?_));exact vV (zG ((xB (a:=.loc S.length) rfl ((wW (a:=.loc S.length) rfl).trans (sR (vB o) G))).trans e2) ⟨rfl,rfl⟩)
 obtain⟨d,S1,e3,rfl,rfl⟩:=key;rw[wS];exact wZ rfl e3
theorem oK {S:Sto}{j:Ah}{L:Aa (Aa Pt)}(hj:S[j]? = Ab (.lst (L.map qF)))(h:L≠[]):gIx (.loc j) (.int 0) S=.ok (qF (L.headD [])) S:=by
 cases L with
 |nil=>exact absurd rfl h
 |cons l L=>exact bG j 0 _ _ S hj (tR _ 0 _ rfl)
theorem YZ {S:Sto}{j:Ah}{xs:Aa D}(h:S[j]? = Ab (.lst xs)):zO [.loc j] S=.ok (.int xs.length) S:=by
 show pM [.loc j] S=_;simp only[pM,Z3,h]
theorem F2 (c:Cl){w h k:Ah}(o:Ok3 w h k)(S:Sto):∃ S',S_many_lots c [.int (w:Aj),.int (h:Aj),.int ((k:Aj)+1)] S=.ok (.int ((good (z9 w h k)).length:Aj)) S'∧S<+:S':=by
 obtain⟨j,S',e,h1,_,p⟩:=W3 c o S;refine⟨S',?_,p⟩;rw[yZ];have:=YZ h1;rw[A9] at this;exact vF rfl ((wW ((xG (a:=.int (w:Aj)) (b:=.int (h:Aj)) (c:=.int ((k:Aj)+1)) rfl rfl rfl).trans e)).trans this)
theorem U5 (c:Cl){w h k:Ah}(o:Ok3 w h k)(S:Sto):∃ S',S_first_many c [.int (w:Aj),.int (h:Aj),.int ((k:Aj)+1)] S=.ok (qF ((good (z9 w h k)).headD [])) S'∧S<+:S':=by
 obtain⟨j,S',e,h1,_,p⟩:=W3 c o S;refine⟨S',?_,p⟩;rw[yI];exact vF rfl ((xB ((xG (a:=.int (w:Aj)) (b:=.int (h:Aj)) (c:=.int ((k:Aj)+1)) rfl rfl rfl).trans e) rfl).trans (oK h1 (sA (vB o))))
inductive No3 (a b n:D):Prop
 |one (h:vJ 1 4 a)
 |two (w:Aj) (ea:a=.int w) (hw:1≤w∧w≤4) (h:vJ 1 4 b)
 |three (w h:Aj) (ea:a=.int w) (eb:b=.int h) (hw:1≤w∧w≤4) (hh:1≤h∧h≤4) (hn:vJ 1 (m6 w h) n)
theorem eG (w h:Aj)(hw:1≤w∧w≤4)(hh:1≤h∧h≤4):1≤m6 w h∧m6 w h≤6∧m6 w h≤w*h:=by
 have h1:1*1≤w*h:=Int.mul_le_mul hw.1 hh.1 om om;unfold m6
 split <;> omega
theorem XU:tG 1 4=true:=kd
theorem MP {m:Aj}(h:1≤m∧m≤6):tG 1 m=true:=by
 have:m=1∨m=2∨m=3∨m=4∨m=5∨m=6:=by omega
 rcases this with rfl|rfl|rfl|rfl|rfl|rfl <;> decide +kernel
theorem nJ {f:DE}{g:DS}{env:qD}{S S':Sto}{v:Ac}{x:D}(h:f env S=.ex v x S'):qQ (wQ f) g env S=.ex v x env S':=by
 simp only[qQ,wQ,h,Res.toS]
theorem lE {f:DE}{g:DS}{env:qD}{S S':Sto}{x:D}(h:f env S=.ok x S'):qQ (wQ f) g env S=g env S':=by
 simp only[qQ,wQ,h,Res.toS]
theorem lP {n:Ah}{g:DS}{ds:Aa D}{S S':Sto}{v:Ac}{x:D}{env env':qD}(hs:wI n ds=env)(h:g env S=.ex v x env' S'):qP n g ds S=.ex v x S':=by
 subst hs;unfold qP;rw[h];rfl
theorem mR (c:Cl)(a b n:D)(S:Sto)(h:No3 a b n):S_lots_by_fars c [a,b,n] S=.ex (.ref c.NoNumber) .non S:=by
 rw[wR];refine lP (env:=[Ab a,Ab b,Ab n,none,none]) (env':=[Ab a,Ab b,Ab n,none,none]) rfl ?_;unfold b_lots_by_fars;cases h with
 |one h=>exact nJ ((xG (a:=a) (b:=.int 1) (c:=.int 4) rfl rfl rfl).trans (gG a 1 4 S c XU h))
 |two w ea hw h =>
  subst ea;rw[lE ((xG (a:=.int w) (b:=.int 1) (c:=.int 4) rfl rfl rfl).trans (jK w 1 4 S c hw))];exact nJ ((xG (a:=b) (b:=.int 1) (c:=.int 4) rfl rfl rfl).trans (gG b 1 4 S c XU h))
 |three w h ea eb hw hh hn =>
  subst ea eb;obtain⟨q1,q2,_⟩:=eG w h hw hh;rw[lE ((xG (a:=.int w) (b:=.int 1) (c:=.int 4) rfl rfl rfl).trans (jK w 1 4 S c hw)),lE ((xG (a:=.int h) (b:=.int 1) (c:=.int 4) rfl rfl rfl).trans (jK h 1 4 S c hh))];exact nJ ((xG (a:=n) (b:=.int 1) rfl rfl (fT rfl rfl ⟨by omega,by omega⟩)).trans (gG n 1 (m6 w h) S c (MP ⟨q1,q2⟩) hn))
theorem nI {n:Ah}{f:DE}{ds:Aa D}{S S':Sto}{v:Ac}{x:D}{env:qD}(hs:wI n ds=env)(h:f env S=.ex v x S'):qP n (qS f) ds S=.ex v x S':=lP (env':=env) hs (by simp only[qS,h,Res.toS])
theorem XR {F:DF}{f1:DE}{env:qD}{S S':Sto}{v:Ac}{x:D}(h:f1 env S=.ex v x S'):qE F (qA f1 (qC)) env S=.ex v x S':=by
 simp only[qE,qA,h,Res.bind]
theorem NS {o:G2}{f g:DE}{env:qD}{S S':Sto}{v:Ac}{x:D}(h:f env S=.ex v x S'):d2 o f g env S=.ex v x S':=by
 simp only[d2,h,Res.bind]
theorem KM {f:DE}{i:Ah}{g:DS}{env:qD}{S S':Sto}{v:Ac}{x:D}(h:f env S=.ex v x S'):qQ (zD f (gNm i)) g env S=.ex v x env S':=by
 simp only[qQ,zD,h,Res.bind,Res.toS]
theorem V6 (c:Cl)(a b n:D)(S:Sto)(h:No3 a b n):S_most_fars c [a,b,n] S=.ex (.ref c.NoNumber) .non S:=by
 rw[v3];exact nI rfl (XR ((xG (a:=a) (b:=b) (c:=n) rfl rfl rfl).trans (mR c a b n S h)))
theorem i7 (c:Cl)(a b n:D)(S:Sto)(h:No3 a b n):S_lots_of_most c [a,b,n] S=.ex (.ref c.NoNumber) .non S:=by
 rw[wS];exact lP rfl (KM ((xG (a:=a) (b:=b) (c:=n) rfl rfl rfl).trans (mR c a b n S h)))
theorem V5 (c:Cl)(a b n:D)(S:Sto)(h:No3 a b n):S_many_lots c [a,b,n] S=.ex (.ref c.NoNumber) .non S:=by
 rw[yZ];exact nI rfl (XR ((xG (a:=a) (b:=b) (c:=n) rfl rfl rfl).trans (i7 c a b n S h)))
theorem ZF (c:Cl)(a b n:D)(S:Sto)(h:No3 a b n):S_first_many c [a,b,n] S=.ex (.ref c.NoNumber) .non S:=by
 rw[yI];exact nI rfl (NS ((xG (a:=a) (b:=b) (c:=n) rfl rfl rfl).trans (i7 c a b n S h)))
abbrev X9 (c:Cl):Aa (Ah × DF):=[(3,S_most_fars c),(3,S_many_lots c),(3,S_first_many c)]
theorem o0 (Fs:Aa (Ah × DF))(F:DF)(k:Aj)(a b n:D)(S:Sto)(h:_L.atI Fs k=Ab (3,F)):pK Fs (qB 0) (qA (qB 1) (qA (qB 2) (qA (qB 3) (qC)))) [Ab (.int k),Ab a,Ab b,Ab n,none] S=F [a,b,n] S:=by
 simp only[pK,qB,qA,qC,Fw,Ey,Res.bind,h,AH,Bn,AZ]
theorem WE (c:Cl)(k:Aj)(a b n d:D)(S S':Sto)(F:DF)(hk:_L.atI (X9 c) k=Ab (3,F))(h:F [a,b,n] S=.ok d S'):S__law_came c [.int k,a,b,n] S=.ok d S':=by
 rw[yX];unfold b__law_came;refine wZ (env:=[Ab (.int k),Ab a,Ab b,Ab n,none]) rfl ?_;have e:=o0 _ F k a b n S hk;rw[h] at e;simp only[pT,qS,e,Res.toS]
theorem bY (c:Cl)(nd:(xI c).Nodup)(k:Aj)(a b n:D)(S S':Sto)(F:DF)(hk:_L.atI (X9 c) k=Ab (3,F))(h:F [a,b,n] S=.ex (.ref c.NoNumber) .non S'):S__law_came c [.int k,a,b,n] S=.ok (.str "number") S':=by
 rw[yX];unfold b__law_came;refine wZ (env:=[Ab (.int k),Ab a,Ab b,Ab n,none]) rfl ?_;have e:=o0 _ F k a b n S hk;rw[h] at e;have hc:(b0 c).contains (.ref c.NoNumber)=true:=by
  rw[CF];simp[b0]
 have hk2:=bP c nd S';simp only[pT,qS,e,Res.toS,hc,AZ];simp[qP,wI,VE,LU,VD,qQ,sIf,qS,x5,wQ,zD,gNm,gSb,gTp,zE,wN,m4,L5,D9,dC,qB,d1,d2,qA,qC,qE,qN,dTr,yL,uF,w8,zL,uZ,oW,nE,zH,zZ,gR,dBm,dSl,wA,jC,xN,xO,Res.bind,Res.toS,_D.gH,_D.wH,FI,LV,LY,D6,D0,D1,D2,LZ,LS,YN,LW,gLt,gLe,gGt,gGe,_D.w5,D5,hk2]
theorem oQ (c:Cl)(nd:(xI c).Nodup)(k:Ah)(hk:k<3)(a b n:D)(S:Sto)(h:No3 a b n):S__law_came c [.int (k:Aj),a,b,n] S=.ok (.str "number") S:=by
 have:k=0∨k=1∨k=2:=by omega
 rcases this with rfl|rfl|rfl
 ·exact bY c nd 0 a b n S S _ rfl (V6 c a b n S h)
 ·exact bY c nd 1 a b n S S _ rfl (V5 c a b n S h)
 ·exact bY c nd 2 a b n S S _ rfl (ZF c a b n S h)
theorem XL {F:DF}{f1 f2 f3 f4:DE}{env:qD}{S:Sto}{a b c d:D}(h1:f1 env S=.ok a S)(h2:f2 env S=.ok b S)(h3:f3 env S=.ok c S)(h4:f4 env S=.ok d S):qN 4 F (qA f1 (qA f2 (qA f3 (qA f4 (qC))))) env S=F [a,b,c,d] S:=by
 simp only[qN,qA,qC,h1,h2,h3,h4,Res.bind,AH,Bn,AZ]
theorem fM {g:DG}{t:DT}{fe:DE}{d x:D}{ds acc:Aa D}{env env1:qD}{S S1:Sto}{r:Res (qD × Aa D)}(hg:g d env S=.ok env1 S)(ht:t env1 S=.ok true S)(hf:fe env1 S=.ok x S1)(hl:acc.length<lim)(k:goL none g t (z0 fe) ds env1 S1 (acc++[x])=r):goL none g t (z0 fe) (d::ds) env S acc=r:=by
 simp only[goL,mU,AZ,hg,ht,Res.bind,uJ hf hl];exact k
theorem KW {g:DG}{t:DT}{k:DK}{acc:Aa D}{env:qD}{S:Sto}:goL none g t k [] env S acc=.ok (env,acc) S:=by
 simp only[goL,mU,AZ]
theorem X4 (c:Cl){w h k:Ah}(o:Ok3 w h k)(env:qD)(S:Sto)(h3:env[3]? = Ab (Ab (.int (w:Aj))))(h4:env[4]? = Ab (Ab (.int (h:Aj))))(h5:env[5]? = Ab (Ab (.int ((k:Aj)+1)))) :
  ∃ (T:Sto),zA false [none,Ab 4,Ab 5,Ab 3] (xT (xO (qA (dC (.int 3)) (qC)))) (gNm 0) (zL) (z0 (qN 4 (okO (S__law_came c)) (qA (qB 0) (qA (qB 3) (qA (qB 1) (qA (qB 2) (qC))))))) env S=.ok (.lst [.int (mx (z9 w h k)),.int ((good (z9 w h k)).length:Aj),qF ((good (z9 w h k)).headD [])]) T∧S<+:T:=by
 obtain⟨S1,e1,q1⟩:=F3 c o S;obtain⟨S2,e2,q2⟩:=F2 c o S1;obtain⟨S3,e3,q3⟩:=U5 c o S2;have l0:(0:Ah)<lim:=by decide
 have l1:(1:Ah)<lim:=by decide
 have l2:(2:Ah)<lim:=by decide
 have hs:zP [none,Ab 4,Ab 5,Ab 3] env=[none,Ab (.int (h:Aj)),Ab (.int ((k:Aj)+1)),Ab (.int (w:Aj))]:=by
  simp[zP,h3,h4,h5]
 have hi:=kZ (dC (.int 3)) 3 env S om rfl;refine⟨S3,vR hi (env':=[Ab (.int 2),Ab (.int (h:Aj)),Ab (.int ((k:Aj)+1)),Ab (.int (w:Aj))]) ?_,(q1.trans q2).trans q3⟩;rw[hs];have kk:∀ (v:Ah) (F:DF) (x:D) (S S':Sto),_L.atI (X9 c) (v:Aj)=Ab (3,F)→F [.int (w:Aj),.int (h:Aj),.int ((k:Aj)+1)] S=.ok x S'→qN 4 (okO (S__law_came c)) (qA (qB 0) (qA (qB 3) (qA (qB 1) (qA (qB 2) (qC))))) [Ab (.int (v:Aj)),Ab (.int (h:Aj)),Ab (.int ((k:Aj)+1)),Ab (.int (w:Aj))] S=.ok x S':=fun v F x S S' hF h' =>
  (XL (a:=.int (v:Aj)) (b:=.int (w:Aj)) (c:=.int (h:Aj)) (d:=.int ((k:Aj)+1)) rfl rfl rfl rfl).trans (bL (WE c v _ _ _ _ _ _ F hF h'))
 exact fM (env1:=[Ab (.int ((0:Ah):Aj)),Ab (.int (h:Aj)),Ab (.int ((k:Aj)+1)),Ab (.int (w:Aj))]) rfl rfl (kk 0 _ _ _ _ rfl e1) l0 (fM (env1:=[Ab (.int ((1:Ah):Aj)),Ab (.int (h:Aj)),Ab (.int ((k:Aj)+1)),Ab (.int (w:Aj))]) rfl rfl (kk 1 _ _ _ _ rfl e2) l1 (fM (env1:=[Ab (.int ((2:Ah):Aj)),Ab (.int (h:Aj)),Ab (.int ((k:Aj)+1)),Ab (.int (w:Aj))]) rfl rfl (kk 2 _ _ _ _ rfl e3) l2 KW))
theorem JB (c:Cl)(nd:(xI c).Nodup){a b n:D}(hb:No3 a b n)(env:qD)(S:Sto)(h8:env[8]? = Ab (Ab n))(h17:env[14]? = Ab (Ab a))(h13:env[15]? = Ab (Ab b)) :
  zA false [none,Ab 8,Ab 14,Ab 15] (xT (xO (qA (dC (.int 3)) (qC)))) (gNm 0) (zL) (z0 (qN 4 (okO (S__law_came c)) (qA (qB 0) (qA (qB 2) (qA (qB 3) (qA (qB 1) (qC))))))) env S=.ok (.lst [.str "number",.str "number",.str "number"]) S:=by
 have hs:zP [none,Ab 8,Ab 14,Ab 15] env=[none,Ab n,Ab a,Ab b]:=by
  simp[zP,h8,h17,h13]
 have hc:=v6 (enc:=iD) (cap:=[none,Ab 8,Ab 14,Ab 15]) (g:=gNm 0) (t:=zL) (fe:=qN 4 (okO (S__law_came c)) (qA (qB 0) (qA (qB 2) (qA (qB 3) (qA (qB 1) (qC)))))) (kZ (dC (.int 3)) 3 env S om rfl) trivial (fun _=>true) (fun _=>D.str "number") (fun env=>∃ x,env=[x,Ab n,Ab a,Ab b]) ⟨none,hs⟩ (by show 3≤lim;decide)
  (fun v hv env ⟨x,q⟩=>by
   subst q;have hv:=DR.mp hv;exact⟨[Ab (iD v),Ab n,Ab a,Ab b],rfl,⟨_,rfl⟩,rfl,fun _=>(XL (a:=.int (v:Aj)) (b:=a) (c:=b) (d:=n) rfl rfl rfl rfl).trans (bL (oQ c nd v hv a b n S hb))⟩)
 rw[xR] at hc;exact hc
theorem UL (env:qD)(S:Sto):d2 gW (zZ (qA (dC (.str "number")) (qC))) (dC (.int 3)) env S=.ok (.lst [.str "number",.str "number",.str "number"]) S:=by
 have h:(0:Aj)≤3∧(3:Aj)<2 ^ 62∧[D.str "number"].length*(3:Aj).toNat≤lim:=⟨by omega,by omega,by decide⟩
 have l1:1≤lim:=by decide
 refine(xB (gE (b8 (a:=.str "number") rfl) l1) rfl).trans ?_;simp only[gW];rw[AA h];rfl
theorem X5 (S:Sto):gNe (.lst [.str "number",.str "number",.str "number"]) (.lst [.str "number",.str "number",.str "number"]) S=.ok (.bl false) S:=by
 have h1:pl yN (.lst [.str "number",.str "number",.str "number"])=true:=rfl;have h2:eqD (.lst [.str "number",.str "number",.str "number"]) (.lst [.str "number",.str "number",.str "number"])=true:=kd;simp only[gNe,h1,h2,Bool.and_self,AZ];rfl
def sm (l:Aa Pt):D:=.tup [.int (xF l),qF l]
theorem JJ (a b:Aa Pt):xE (sm a) (sm b)=true:=by
 show (true&&(xA (a.map ptD) (b.map ptD)&&true))=true;rw[pI];rfl
theorem FG (l:Aa Pt):trb 6 (sm l)=true:=by
 show (true&&(trb 5 (qF l)&&true))=true;rw[rD 3 l];rfl
theorem TZ {a b:Aa Pt}(h:xF a<xF b):ltN (sm a) (sm b)=true:=by
 unfold sm;rw[uC,wE (n:=0) (m:=0) (.int _ _) (.int _ _) rfl,A0,uB]
 ·exact Bv h
 ·show ¬ (xF a == xF b)=true
  simp;omega
theorem GN {L:Aa (Aa Pt)}(hL:L≠[])(S:Sto):∃ d,b9 [.lst (L.map sm)] S=.ok d S∧gIx d (.int 0) S=.ok (.int (mx L)) S:=by
 have hz:0<(L.map sm).length:=by
  rw[A9];exact List.length_pos_iff.mpr hL
 obtain⟨m1,m2⟩:=aR hz;obtain⟨l,hl,e⟩:=AE.mp m1;refine⟨lB (L.map sm),?_,?_⟩
 ·have ok:mOk (L.map sm)=true:=AR.mpr fun x hx=>by
   obtain⟨a,_,rfl⟩:=AE.mp hx;rw[FG,Bool.true_and];exact AR.mpr fun y hy=>by
    obtain⟨b,_,rfl⟩:=AE.mp hy;exact JJ a b
  generalize L.map sm=xs at hz ok;cases xs with
  |nil=>cases hz
  |cons x xs=>exact AA ok
 ·rw[← e]
  have:xF l=mx L:=(aY (AE.mpr ⟨l,hl,rfl⟩) fun x hx=>by
   obtain⟨b,hb,rfl⟩:=AE.mp hx;have:=m2 (sm b) (AE.mpr ⟨b,hb,rfl⟩);rw[← e] at this;rcases Int.lt_or_le (xF l) (xF b) with z|z
   ·rw[TZ z] at this;cases this
   ·exact z).symm
  rw[← this];rfl
theorem F4 {w h k:Ah}(o:Ok3 w h k)(env:qD)(S:Sto)(h3:env[3]? = Ab (Ab (.int (w:Aj))))(h4:env[4]? = Ab (Ab (.int (h:Aj))))(h5:env[5]? = Ab (Ab (.int ((k:Aj)+1)))) :
  zA false [none] (dIt (qN 2 S__law_chosen (qA (qN 2 S__law_board (qA (qB 3) (qA (qB 4) (qC)))) (qA (qB 5) (qC))))) (gNm 0) (zL) (z0 (zH (qA (v7 (qN 1 (okO S__law_fars) (qA (qB 0) (qC)))) (qA (qB 0) (qC))))) env S=.ok (.lst ((z9 w h k).map sm)) S:=by
 have hb:=ZV w h S (by have:=o.hw;omega) (by have:=o.hh;omega)
 have hc:=ZU (x8 w h) (by rw[vQ];exact o.wh.2) (tT w h) k o.hk.2 S
 have ek:((k+1:Ah):Aj)=(k:Aj)+1:=by omega
 rw[ek] at hc;have hit:dIt (qN 2 S__law_chosen (qA (qN 2 S__law_board (qA (qB 3) (qA (qB 4) (qC)))) (qA (qB 5) (qC)))) env S=.ok (none,(z9 w h k).map qF) S:=by
  unfold dIt;rw[(jP ((jP (yU h3) (yU h4)).trans hb) (yU h5)).trans hc];rfl
 have l2:2≤lim:=by decide
 have hr:=v6 (enc:=qF) (cap:=[none]) (g:=gNm 0) (t:=zL) (fe:=zH (qA (v7 (qN 1 (okO S__law_fars) (qA (qB 0) (qC)))) (qA (qB 0) (qC)))) hit trivial (fun _=>true) sm (fun env=>∃ a,env=[a]) ⟨none,rfl⟩ (gD o)
  (fun l hl env ⟨a,e⟩=>by
   subst e;obtain⟨p1,p2⟩:=lA o hl;have hf:=bL (U7 l S p1 p2);refine⟨[Ab (qF l)],rfl,⟨_,rfl⟩,rfl,fun _=>?_⟩;refine gM (vS (c5 _ (fars l) _ S S ((rQ (a:=qF l) rfl).trans hf) ?_) rfl) l2;unfold fars;rw[A9];exact tH p2)
 rw[xR] at hr;exact hr
theorem BZ (L:Aa (Aa Pt))(hl:L.length≤lim)(env:qD)(S:Sto)(h6:env[6]? = Ab (Ab (.lst (L.map sm))))(h7:env[7]? = Ab (Ab (.int (mx L)))) :
  zA false [none,none,Ab 7] (dIt (qB 6)) (gTp 2 (zE (gNm 0) (zE (gNm 1) (wN)))) (w8 (dTr (d2 gEq (qB 0) (qB 2))) (zL)) (z0 (qB 1)) env S=.ok (.lst ((good L).map qF)) S:=by
 have hs:zP [none,none,Ab 7] env=[none,none,Ab (.int (mx L))]:=by
  simp[zP,h7]
 have hit:dIt (qB 6) env S=.ok (none,L.map sm) S:=by
  unfold dIt;rw[yU h6];rfl
 exact v6 (enc:=sm) (cap:=[none,none,Ab 7]) (g:=gTp 2 (zE (gNm 0) (zE (gNm 1) (wN)))) (t:=w8 (dTr (d2 gEq (qB 0) (qB 2))) (zL)) (fe:=qB 1) hit trivial (fun l=>xF l == mx L) qF (fun env=>∃ a b,env=[a,b,Ab (.int (mx L))]) ⟨none,none,hs⟩ hl
  (fun l hl env ⟨a,b,e⟩=>by
   subst e;refine⟨[Ab (.int (xF l)),Ab (qF l),Ab (.int (mx L))],rfl,⟨_,_,rfl⟩,bV ((xB (a:=.int (xF l)) (b:=.int (mx L)) rfl rfl).trans ?_),fun _=>rfl⟩;rw[gV];rfl)
theorem MZ (p:Pt):okD 1 (ptD p):=by
 intro x hx;simp at hx;rcases hx with rfl|rfl <;> trivial
theorem PC (l:Aa Pt):okD 2 (qF l):=by
 intro x hx;obtain⟨p,_,rfl⟩:=AE.mp hx;exact MZ p
theorem nQ (i j:Aj)(S:Sto):w5 (.int i) (.int j) S=.ok (.int (i-j)) S:=rfl
theorem dP (S:Sto)(p:Ah)(m:Aj)(env:qD)(he:env[2]? = Ab (Ab (.loc p)))(h:y6 S p)(hm:0<m∧m<1073741824):∃ (n:Ah) (S':Sto),d2 w5 (dC (.int m)) (qN 2 S__law_draw (qA (qB 2) (qA (dC (.int m)) (qC)))) env S=.ok (.int (n:Aj)) S'∧y6 S' p∧1≤n∧(n:Aj)≤m:=by
 obtain⟨r,v,f,e,h1,h2⟩:=lI S p m h hm;obtain⟨n,hn⟩:=Iu (show 0≤m-r by omega)
 refine⟨n,_,?_,pR h v f,by omega,by omega⟩
 simp only[d2,dC,qN,qA,qC,qB,he,Res.bind,AH,Bn,AZ,e,nQ,hn]
theorem vA (ns:Aa Aj)(hl:ns.length≤63)(env:qD)(S:Sto)(h0:env[0]? = Ab (Ab (.lst (ns.map D.int)))):∃ ms:Aa Aj,xN (d2 zM (zZ (qA (qN 2 S__law_cell (qA (qB 0) (qA (dC (.int 0)) (qC)))) (qC))) (dSl (qB 0) (wA (dC (.int 1))) (wA (dC (.int 2))))) env S=.ok (ms.map D.int) S:=by
 obtain⟨x,hx⟩:=BY ns S;obtain⟨ms,hm,hml⟩:=WO ns (Ab 1) (Ab 2);refine⟨x::ms,?_⟩;have l1:1≤lim:=by decide
 have hs:gSl (.lst (ns.map D.int)) (Ab 1) (Ab 2) S=.ok (.lst (ms.map D.int)) S:=by rw[← hm];rfl
 have ha:zM (.lst [.int x]) (.lst (ms.map D.int)) S=.ok (.lst (.int x::ms.map D.int)) S:=by
  have:[D.int x].length+(ms.map D.int).length≤lim:=by
   rw[A9];show 1+ms.length≤lim;unfold lim;omega
  exact jT this S
 simp only[xN,d2,zZ,qN,qA,qC,qB,h0,dC,Res.bind,AH,Bn,Ln,l1,AZ,hx,dSl,wA,hs,ha,YN];rfl
theorem WC (env:qD)(S:Sto):xO (qA (dC (.int 2)) (qC)) env S=.ok [.int 0,.int 1] S:=by
 have h:kE [.int 2]=Ab [.int 0,.int 1]:=rfl;simp[qP,wI,VE,LU,VD,qQ,sIf,qS,x5,wQ,zD,gNm,gSb,gTp,zE,wN,m4,L5,D9,dC,qB,d1,d2,qA,qC,qE,qN,dTr,yL,uF,w8,zL,uZ,oW,nE,zH,zZ,gR,dBm,dSl,wA,jC,xN,xO,Res.bind,Res.toS,_D.gH,_D.wH,FI,LV,LY,D6,D0,D1,D2,LZ,LS,YN,LW,gLt,gLe,gGt,gGe,_D.w5,D5,h]
theorem eR (S:Sto)(n m:Aj)(l:Aa Pt):S__law_same [.lst [.int n,.int m,qF l],.lst [.int n,.int m,qF l]] S=.ok (.bl true) S:=by
 rw[jB];refine iX 5 _ S (P9 (n:=3) om ?_);intro x hx;simp only[AL,Bi,Du] at hx;rcases hx with rfl|rfl|rfl
 ·trivial
 ·trivial
 ·exact PC l
def trD (x:D × D × D):D:=.tup [x.1,x.2.1,x.2.2]
def kF (w h n:Aj)(d e:D):Aa (D × D × D):=[(d,.int h,.int n),(.int w,d,.int n),(.int w,.int h,e),(d,e,e),(.int w,.int h,.int (w*h+1)),(.int w,.int h,.int 7),(.int w,.int h,.int 0)]
def eQ:Aa (D × D × D):=[(.int 1,.int 3,.int 4),(.int 4,.int 5,.int 1),(.int 0,.int 1,.int 1)]
theorem UB (w h n:Aj)(d e:D)(hw:1≤w∧w≤4)(hh:1≤h∧h≤4)(hd:vJ 1 4 d)(he:vJ 1 (m6 w h) e):∀ x∈kF w h n d e++eQ,No3 x.1 x.2.1 x.2.2:=by
 obtain⟨q1,q2,q3⟩:=eG w h hw hh;intro x hx;simp only[kF,eQ,Ic,Dv,AL,Bi,Du] at hx;rcases hx with rfl|rfl|rfl|rfl|rfl|rfl|rfl|rfl|rfl|rfl
 ·exact .one hd
 ·exact .two w rfl hw hd
 ·exact .three w h rfl rfl hw hh he
 ·exact .one hd
 ·exact .three w h rfl rfl hw hh (wG om)
 ·exact .three w h rfl rfl hw hh (wG om)
 ·exact .three w h rfl rfl hw hh (wG om)
 ·exact .three 1 3 rfl rfl om om (wG (by decide))
 ·exact .two 4 rfl om (wG om)
 ·exact .one (wG om)
theorem t3 {f1 f2 f3:DE}{env:qD}{S:Sto}{a b c:D}(h1:f1 env S=.ok a S)(h2:f2 env S=.ok b S)(h3:f3 env S=.ok c S):zH (qA f1 (qA f2 (qA f3 (qC)))) env S=.ok (trD (a,b,c)) S:=by
 have l3:3≤lim:=by decide
 exact gM (uR h1 (vS h2 h3)) l3
theorem gt3 (i j k:Ah)(a b c:D)(env:qD)(S:Sto):gTp 3 (zE (gNm i) (zE (gNm j) (zE (gNm k) (wN)))) (trD (a,b,c)) env S=.ok (((env.set i (Ab a)).set j (Ab b)).set k (Ab c)) S:=rfl
theorem V3 (env:qD)(S:Sto)(p w h:Ah)(hp:y6 S p)(hw:1≤w∧w≤4)(hh:1≤h∧h≤4)(h2:env[2]? = Ab (Ab (.loc p)))(h3:env[3]? = Ab (Ab (.int (w:Aj))))(h4:env[4]? = Ab (Ab (.int (h:Aj)))) :
  ∃ (k:Ah) (S':Sto),d2 zM (dC (.int 1)) (qN 2 S__law_draw (qA (qB 2) (qA (qE vK (qA (d2 w5 (dC (.int 6)) (qE kU (qA (d2 gGt (d2 zT (qB 3) (qB 4)) (dC (.int 12))) (qC)))) (qA (d2 zT (qB 3) (qB 4)) (qC)))) (qC)))) env S=.ok (.int ((k:Aj)+1)) S'∧y6 S' p∧Ok3 w h k:=by
 have hm:d2 zT (qB 3) (qB 4) env S=.ok (.int ((w*h:Ah):Aj)) S:=by
  refine((xB (yU h3) (yU h4)).trans (wM (w:Aj) (h:Aj) S ⟨by omega,by omega⟩)).trans ?_
  rw[Int.natCast_mul]
 have hwh:1≤w*h:=El hw.1 hh.1;have hb:qE kU (qA (d2 gGt (d2 zT (qB 3) (qB 4)) (dC (.int 12))) (qC)) env S=.ok (.int (b01 (decide (((w*h:Ah):Aj)>12)))) S:=(wW ((xB (b:=.int 12) hm rfl).trans (rfl:gGt (.int ((w*h:Ah):Aj)) (.int 12) S=.ok (.bl (decide (((w*h:Ah):Aj)>12))) S))).trans (dU _ S);have hs:=(xB (f:=dC (.int 6)) (a:=.int 6) rfl hb).trans (nQ _ _ S);generalize hc:b01 (decide (((w*h:Ah):Aj)>12))=c at *;have hc':0≤c∧c≤1:=by
  rw[← hc];unfold b01
  split <;> omega
 have hM:=c7 (F:=vK) hs hm;generalize hM':(if ((w*h:Ah):Aj)<6-c then ((w*h:Ah):Aj) else 6-c)=M at *
 have hMM:1≤M∧M≤6∧M≤((w*h:Ah):Aj):=by
  rw[← hM']
  split <;> omega
 have hM2:vK [.int (6-c),.int ((w*h:Ah):Aj)] S=.ok (.int M) S:=by rw[← hM'];rfl
 obtain⟨r,v,f,e,r1,r2⟩:=lI S p M hp ⟨by omega,by omega⟩
 obtain⟨k,hk⟩:=Iu r1;subst hk;refine⟨k,_,?_,pR hp v f,⟨hw,hh,by omega⟩⟩
 refine((xB (f:=dC (.int 1)) (a:=.int 1) rfl ((jP (yU h2) (hM.trans hM2)).trans e)).trans (wB _ _ _)).trans ?_;rw[Int.add_comm]
inductive IvA (ns:Aa Aj)(ds:Aa D)(env:qD)(S:Sto):Prop
 |mk (ms:Aa Aj) (e1 e2 e3 e4 e5 e6 e7 e8 e9 e10 e11 e12 e13 e14 e15:Ak D) (h_0:ds=ms.map D.int) (h_1:env=[Ab (.lst (ns.map D.int)),e1,e2,e3,e4,e5,e6,e7,e8,e9,e10,e11,e12,e13,e14,e15]):IvA ns ds env S
abbrev eB (ns:Aa Aj)(y:Aj)(p w h k:Ah)(e8 e10 e11 e12 e13 e14 e15:Ak D):qD:=[Ab (.lst (ns.map D.int)),Ab (.int y),Ab (.loc p),Ab (.int (w:Aj)),Ab (.int (h:Aj)),Ab (.int ((k:Aj)+1)),Ab (.lst ((z9 w h k).map sm)),Ab (.int (mx (z9 w h k))),e8,Ab (.lst ((good (z9 w h k)).map qF)),e10,e11,e12,e13,e14,e15]
inductive IvB (ns:Aa Aj)(y:Aj)(p w h k:Ah)(e8 e11 e12 e13 e14 e15:Ak D)(ds:Aa D)(env:qD)(S:Sto):Prop
 |mk (e10:Ak D) (h_0:env=eB ns y p w h k e8 e10 e11 e12 e13 e14 e15) (h_1:y6 S p):IvB ns y p w h k e8 e11 e12 e13 e14 e15 ds env S
inductive IvC (ns:Aa Aj)(y:Aj)(p w h k:Ah)(e10 e11 e12 e13:Ak D)(ds:Aa D)(env:qD)(S:Sto):Prop
 |mk (xs:Aa (D × D × D)) (e8 e14 e15:Ak D) (h_0:ds=xs.map trD) (h_1:∀ x∈xs,No3 x.1 x.2.1 x.2.2) (h_2:env=eB ns y p w h k e8 e10 e11 e12 e13 e14 e15):IvC ns y p w h k e10 e11 e12 e13 ds env S
theorem Z2 (c:Cl)(nd:(xI c).Nodup)(ns:Aa Aj)(hl:ns.length≤63):∃ S,qP 16 (b_law c) [.lst (ns.map D.int)] [] = .ok (.bl true) S:=by
 have key:Rt (b_law c [Ab (.lst (ns.map D.int)),none,none,none,none,none,none,none,none,none,none,none,none,none,none,none] []) fun d _=>d=.bl true:=by
  unfold b_law;obtain⟨ms,hms⟩:=vA ns hl [Ab (.lst (ns.map D.int)),none,none,none,none,none,none,none,none,none,none,none,none,none,none,none] [] rfl;refine zI (wY hms ?_);refine xZ (IvA ns) ?_ ?_ ⟨ms,none,none,none,none,none,none,none,none,none,none,none,none,none,none,none,rfl,rfl⟩
  ·rintro d ds env S ⟨ms,e1,e2,e3,e4,e5,e6,e7,e8,e9,e10,e11,e12,e13,e14,e15,hds,rfl⟩
   cases ms with
   |nil=>cases hds
   |cons y ms =>
    injection hds with h1 h2
    subst h1 h2;refine⟨[Ab (.lst (ns.map D.int)),Ab (.int y),e2,e3,e4,e5,e6,e7,e8,e9,e10,e11,e12,e13,e14,e15],S,rfl,?_⟩;obtain⟨f,hpen⟩:=TQ y S;refine yP (x6 (zG ((rQ (a:=.int y) rfl).trans hpen) ?_));have p0:y6 (S++[.lst [.int y,.int f]]) S.length:=⟨y,f,by simp⟩
    generalize S++[.lst [.int y,.int f]]=S0 at p0;generalize S.length=p at p0;simp only[CA,Co];have l2:2≤lim:=by decide
    have l3:3≤lim:=by decide
    obtain⟨w,S1,c1,p1,w1,w2⟩:=dP S0 p 4 [Ab (.lst (ns.map D.int)),Ab (.int y),Ab (.loc p),e3,e4,e5,e6,e7,e8,e9,e10,e11,e12,e13,e14,e15] rfl p0 om;obtain⟨h,S2,c2,p2,h1,h2⟩:=dP S1 p 4 [Ab (.lst (ns.map D.int)),Ab (.int y),Ab (.loc p),e3,e4,e5,e6,e7,e8,e9,e10,e11,e12,e13,e14,e15] rfl p1 om;refine yP (V8 (env1:=[Ab (.lst (ns.map D.int)),Ab (.int y),Ab (.loc p),Ab (.int (w:Aj)),Ab (.int (h:Aj)),e5,e6,e7,e8,e9,e10,e11,e12,e13,e14,e15]) (S2:=S2) (gM (vS c1 c2) l2) rfl ?_);have hw:1≤w∧w≤4:=by omega
    have hh:1≤h∧h≤4:=by omega
    clear c1 c2 p0 p1 w1 w2 h1 h2 hpen hms;obtain⟨k,S3,c3,p3,o⟩:=V3 [Ab (.lst (ns.map D.int)),Ab (.int y),Ab (.loc p),Ab (.int (w:Aj)),Ab (.int (h:Aj)),e5,e6,e7,e8,e9,e10,e11,e12,e13,e14,e15] S2 p w h p2 hw hh rfl rfl rfl;refine yP (x6 (zG c3 ?_));clear c3;simp only[CA,Co];have hs:=F4 o [Ab (.lst (ns.map D.int)),Ab (.int y),Ab (.loc p),Ab (.int (w:Aj)),Ab (.int (h:Aj)),Ab (.int ((k:Aj)+1)),e6,e7,e8,e9,e10,e11,e12,e13,e14,e15] S3 rfl rfl rfl;refine yP (x6 (zG hs ?_));clear hs;simp only[CA,Co];obtain⟨d,m1,m2⟩:=GN (vB o) S3;refine yP (x6 (zG ((xB ((wW (a:=.lst ((z9 w h k).map sm)) rfl).trans m1) rfl).trans m2) ?_));clear m1 m2;simp only[CA,Co];have hg:=BZ (z9 w h k) (gD o) [Ab (.lst (ns.map D.int)),Ab (.int y),Ab (.loc p),Ab (.int (w:Aj)),Ab (.int (h:Aj)),Ab (.int ((k:Aj)+1)),Ab (.lst ((z9 w h k).map sm)),Ab (.int (mx (z9 w h k))),e8,e9,e10,e11,e12,e13,e14,e15] S3 rfl rfl;refine yP (x6 (zG hg ?_));clear hg;simp only[CA,Co];have hgn:=sA (vB o);have hfst:∀ S:Sto,gIx (.lst ((good (z9 w h k)).map qF)) (.int 0) S=.ok (qF ((good (z9 w h k)).headD [])) S:=fun S=>fJ (by
     cases hc:good (z9 w h k) with
     |nil=>exact absurd hc hgn
     |cons l L=>exact tR _ 0 _ rfl) S
    have hlen:∀ S:Sto,zO [.lst ((good (z9 w h k)).map qF)] S=.ok (.int ((good (z9 w h k)).length:Aj)) S:=fun S=>by rw[pO,A9]
    refine yP (wY (WC _ _) ?_);refine xZ (IvB ns y p w h k e8 e11 e12 e13 e14 e15) ?_ ?_ ⟨e10,rfl,p3⟩
    ·rintro d ds env S ⟨e10,rfl,hp⟩
     refine⟨eB ns y p w h k e8 (Ab d) e11 e12 e13 e14 e15,S,rfl,?_⟩;obtain⟨T,e,pre⟩:=X4 c o (eB ns y p w h k e8 (Ab d) e11 e12 e13 e14 e15) S rfl rfl rfl;exact uV (GU (eT ((jP e (gE (uR (a:=.int (mx (z9 w h k))) rfl (vS ((wW (a:=.lst ((good (z9 w h k)).map qF)) rfl).trans (hlen T)) ((xB (a:=.lst ((good (z9 w h k)).map qF)) (b:=.int 0) rfl rfl).trans (hfst T)))) l3)).trans (eR T _ _ _)))) (yO rfl ⟨_,rfl,VH hp pre⟩)
    ·rintro env S2 ⟨e10,rfl,hp2⟩
     obtain⟨d1,v1,f1,n1,nn1⟩:=pD S2 p 1 4 hp2 om;have hp3:=pR hp2 v1 f1;generalize S2.set p (.lst [.int v1,.int f1])=S3 at n1 hp3;obtain⟨q1',q2',q3'⟩:=eG (w:Aj) (h:Aj) om om;obtain⟨d2',v2,f2,n2,nn2⟩:=pD S3 p 1 (m6 (w:Aj) (h:Aj)) hp3 om;generalize S3.set p (.lst [.int v2,.int f2])=S4 at n2;refine yP (GV ((xG (a:=.loc p) (b:=.int 1) (c:=.int 4) rfl rfl rfl).trans n1) ((xG (a:=.loc p) (b:=.int 1) rfl rfl (fT rfl rfl ⟨by omega,by omega⟩)).trans n2) ?_)
     clear n1 n2 hp2 hp3;simp only[CA,Co];have hm:d2 zM (d2 zT (qB 3) (qB 4)) (dC (.int 1)) (eB ns y p w h k e8 e10 (Ab d1) (Ab d2') e13 e14 e15) S4=.ok (.int ((w:Aj)*(h:Aj)+1)) S4:=(xB ((xB (a:=.int (w:Aj)) (b:=.int (h:Aj)) rfl rfl).trans (wM (w:Aj) (h:Aj) S4 ⟨by omega,by omega⟩)) (b:=.int 1) rfl).trans (wB _ _ _)
     have l7:7≤lim:=by decide
     have hr:=gE (uR (t3 (env:=eB ns y p w h k e8 e10 (Ab d1) (Ab d2') e13 e14 e15) (S:=S4) (f1:=qB 11) (f2:=qB 4) (f3:=qB 5) (a:=d1) (b:=.int (h:Aj)) (c:=.int ((k:Aj)+1)) rfl rfl rfl) (uR (t3 (f1:=qB 3) (f2:=qB 11) (f3:=qB 5) (a:=.int (w:Aj)) (b:=d1) (c:=.int ((k:Aj)+1)) rfl rfl rfl) (uR (t3 (f1:=qB 3) (f2:=qB 4) (f3:=qB 12) (a:=.int (w:Aj)) (b:=.int (h:Aj)) (c:=d2') rfl rfl rfl) (uR (t3 (f1:=qB 11) (f2:=qB 12) (f3:=qB 12) (a:=d1) (b:=d2') (c:=d2') rfl rfl rfl) (uR (t3 (f1:=qB 3) (f2:=qB 4) (a:=.int (w:Aj)) (b:=.int (h:Aj)) rfl rfl hm) (vS (t3 (f1:=qB 3) (f2:=qB 4) (f3:=dC (.int 7)) (a:=.int (w:Aj)) (b:=.int (h:Aj)) (c:=.int 7) rfl rfl rfl) (t3 (f1:=qB 3) (f2:=qB 4) (f3:=dC (.int 0)) (a:=.int (w:Aj)) (b:=.int (h:Aj)) (c:=.int 0) rfl rfl rfl))))))) l7;refine yP (x6 (zG hr ?_));clear hr hm;simp only[CA,Co];have hit:xN (d2 zM (qB 13) (zZ (qA (zH (qA (dC (.int 1)) (qA (dC (.int 3)) (qA (dC (.int 4)) (qC))))) (qA (zH (qA (dC (.int 4)) (qA (dC (.int 5)) (qA (dC (.int 1)) (qC))))) (qA (zH (qA (dC (.int 0)) (qA (dC (.int 1)) (qA (dC (.int 1)) (qC))))) (qC)))))) (eB ns y p w h k e8 e10 (Ab d1) (Ab d2') (Ab (.lst ((kF (w:Aj) (h:Aj) ((k:Aj)+1) d1 d2').map trD))) e14 e15) S4=.ok ((kF (w:Aj) (h:Aj) ((k:Aj)+1) d1 d2'++eQ).map trD) S4:=by
      unfold xN;rw[(xB (a:=.lst ((kF (w:Aj) (h:Aj) ((k:Aj)+1) d1 d2').map trD)) rfl (gE (uR (t3 (a:=.int 1) (b:=.int 3) (c:=.int 4) rfl rfl rfl) (vS (t3 (a:=.int 4) (b:=.int 5) (c:=.int 1) rfl rfl rfl) (t3 (a:=.int 0) (b:=.int 1) (c:=.int 1) rfl rfl rfl))) l3)).trans (jT (by show 7+3≤lim;decide) S4)]
      rfl
     refine wY hit ?_;clear hit;refine xZ (IvC ns y p w h k e10 (Ab d1) (Ab d2') (Ab (.lst ((kF (w:Aj) (h:Aj) ((k:Aj)+1) d1 d2').map trD)))) ?_ ?_ ⟨_,e8,e14,e15,rfl,UB (w:Aj) (h:Aj) ((k:Aj)+1) d1 d2' om om nn1 nn2,rfl⟩
     ·rintro d ds env S ⟨xs,e8,e14,e15,hds,hx,rfl⟩
      cases xs with
      |nil=>cases hds
      |cons x xs =>
       injection hds with h1 h2
       subst h1 h2;obtain⟨a,b,n⟩:=x;refine⟨eB ns y p w h k (Ab n) e10 (Ab d1) (Ab d2') (Ab (.lst ((kF (w:Aj) (h:Aj) ((k:Aj)+1) d1 d2').map trD))) (Ab a) (Ab b),S,gt3 14 15 8 a b n _ _,?_⟩;exact uV (eT ((xB (JB c nd (hx _ (Bu ..)) _ S rfl rfl rfl) (UL _ S)).trans (X5 S))) (yO rfl ⟨xs,_,_,_,rfl,fun x hx'=>hx x (AK _ hx'),rfl⟩)
     ·rintro env S ⟨xs,e8,e14,e15,hds,hx,rfl⟩
      exact⟨ms,_,_,_,_,_,_,_,_,_,_,_,_,_,_,_,rfl,rfl⟩
  ·rintro env S ⟨ms,e1,e2,e3,e4,e5,e6,e7,e8,e9,e10,e11,e12,e13,e14,e15,_,rfl⟩
   exact vV (zG (d:=.bl true) (S:=S) rfl rfl)
 obtain⟨d,S',e,rfl⟩:=key;exact⟨S',wZ rfl e⟩
end _K
namespace _K
open PySem PySem.Spec PyProof.Rows _L _D
theorem xP {P:A5}{w:AO}{K:Ai}{mg:As→Ak Ac}{base:AF}{c:Cl}(T:Txt K mg c){k:Ah}{F:DF}(d:DfS F P w K mg base true k "_law_same" 2):DfS (qP 4 (b__law_same F)) P w K mg base true (k+1) "_law_same" 2:=by
 refine dq P w base k 16 T rfl ck rfl ?_;intro _ _ _ _ _ _ _ hr
 repeat' first
  |with_reducible exact ck
  |((with_reducible show QE _ _ _);with_reducible first|apply aV|apply W0|apply iK|apply aBt|apply aN|(apply aB;first|apply WA|apply W9)|apply iI|apply iL|apply iG)
  |((with_reducible show _=_);first|exact T.nb ck|exact jG _|exact rfl|with_unfolding_all rfl)
  |((with_reducible show ZOp _ _ _);with_reducible first|apply FP|apply FX|apply FQ)
  |((with_reducible show RoomC _ _ _);first|assumption|exact RoomC.mono (by assumption)|exact RoomC.mono (RoomC.any (by assumption))|exact RoomC.mark (by assumption) _|exact RoomC.mono (RoomC.mark (by assumption) _))
  |((with_reducible show St1 _ _ _ _);exact⟨rfl,rfl⟩)
  |((with_reducible show DfS _ _ _ _ _ _ _ _ _ _);assumption)
  |with_reducible first|apply iF|apply bN|apply p6|apply sW|apply iE|apply iR|apply iQ|(apply W2;first|apply bO|apply tK)|apply iS|apply bO|apply tK|apply aNm|apply iM|apply lH|apply sX|apply iN|apply iP|apply W1|apply iO|apply XS
  |((with_reducible apply aSt);case hs=>exact rfl)
  |((with_reducible show ZPass _);first|assumption|exact rE)
  |exact⟨rfl,rfl⟩
  |exact⟨rfl,rfl,rfl⟩
  |apply bN
  |apply p6
  |(intros;rfl)
  |(intro _ h;cases h <;> rfl)
  |intro _
theorem YW {P:A5}{w:AO}{K:Ai}{mg:As→Ak Ac}{base:AF}{c:Cl}(T:Txt K mg c)(nd:(xI c).Nodup):∃ F,tN P w K mg base true 8 "law" ["_law_script"] F∧∀ ns:Aa Aj,ns.length≤63→∃ S,F [.lst (ns.map D.int)] [] = .ok (.bl true) S:=by
 refine hv (fun _=>?_) (dq (cm:=true) P w base 0 0 T rfl ck (u0) ?_);refine hv (fun _=>?_) (dq (cm:=true) P w base 0 1 T rfl ck (pZ) ?_);refine hv (fun _=>?_) (dq (cm:=true) P w base 1 2 T rfl ck (kO) ?_);refine hv (fun _=>?_) (dq (cm:=true) P w base 0 3 T rfl ck (vX) ?_);refine hv (fun _=>?_) (dq (cm:=true) P w base 1 4 T rfl ck (yY) ?_);refine hv (fun _=>?_) (dq (cm:=true) P w base 2 5 T rfl ck (yA c) ?_);refine hv (fun _=>?_) (dq (cm:=true) P w base 0 6 T rfl ck (uE) ?_);refine hv (fun _=>?_) (dq (cm:=true) P w base 1 7 T rfl ck (u4) ?_);refine hv (fun _=>?_) (dq (cm:=true) P w base 3 8 T rfl ck (wR c) ?_);refine hv (fun _=>?_) (dq (cm:=true) P w base 4 9 T rfl ck (v3 c) ?_);refine hv (fun _=>?_) (dq (cm:=true) P w base 4 10 T rfl ck (wS c) ?_);refine hv (fun _=>?_) (dq (cm:=true) P w base 5 11 T rfl ck (yZ c) ?_);refine hv (fun _=>?_) (dq (cm:=true) P w base 5 12 T rfl ck (yI c) ?_);refine hv (fun _=>?_) (dq (cm:=true) P w base 0 13 T rfl ck (j8) ?_);refine hv (fun _=>?_) (dq (cm:=true) P w base 0 14 T rfl ck (kK) ?_);refine hv (fun _=>?_) (dq (cm:=true) P w base 0 15 T rfl ck (j9) ?_);have s0:DfS (kG 0) P w K mg base true 0 "_law_same" 2:=⟨WU (T.src 16 rfl)⟩;have d__law_same:DfS S__law_same P w K mg base true 6 "_law_same" 2:=jB▸xP T (xP T (xP T (xP T (xP T (xP T s0)))));refine hv (fun _=>?_) (dq (cm:=false) P w base 0 17 T rfl ck (vZ c) ?_);refine hv (fun _=>?_) (dq (cm:=true) P w base 1 18 T rfl ck (yV) ?_);refine hv (fun _=>?_) (dq (cm:=true) P w base 0 19 T rfl ck (kJ) ?_);refine hv (fun _=>?_) (dq (cm:=true) P w base 0 20 T rfl ck (uQ) ?_);refine hv (fun _=>?_) (dq (cm:=true) P w base 1 21 T rfl ck (jA) ?_);refine hv (fun _=>?_) (dq (cm:=true) P w base 0 22 T rfl ck (uP) ?_);refine hv (fun _=>?_) (dq (cm:=true) P w base 0 23 T rfl ck (uD) ?_);refine hv (fun _=>?_) (dq (cm:=true) P w base 6 24 T rfl ck (yX c) ?_);refine⟨_,dqP 7 25 T rfl ck ?_,Z2 c nd⟩
 all_goals
  intro _ _ _ _ _ _ _ hr
  repeat' first
   |with_reducible exact ck
   |((with_reducible show QE _ _ _);with_reducible first|apply aV|apply BH|apply W0|apply BL|apply iK|apply aBt|apply aGi|apply aCl|apply aO|apply aN|(apply aB;first|apply WA|apply W9|apply FV|apply UW|apply FS|apply FT|apply FU|apply FR)|(apply aT;first|apply NB)|apply aC|apply BN|apply BJ|apply VU|apply BI|apply TH|apply ZP|apply TJ|apply iI|apply ZN|apply BK|apply TK|apply iL|apply iG|apply VT|apply BG|apply BF|apply iJ|apply aTb|(apply tJ;(case slot=>apply Hk);(case' hm=>first|apply XB))|(apply tJ;(case slot=>apply PySem.F.slot_list_append);(case' hm=>first|apply XA))|(apply tJ;(case slot=>apply Il);(case' hm=>first|apply UU))|(apply tJ;(case slot=>apply Im);(case' hm=>first|apply UV))|apply BD)
   |((with_reducible show _=_);first|exact T.nb ck|with_reducible apply Iw|with_reducible apply Ix|with_reducible apply Hl|with_reducible apply HR|with_reducible apply Iy|with_reducible apply I0|exact jG _|exact rfl|with_unfolding_all rfl)
   |((with_reducible show ZOp _ _ _);with_reducible first|apply N8|apply NH|apply FW|apply ND|apply N9|apply NC|apply NF|apply LR|apply LQ|apply LO|apply LN|apply FP|apply FX|apply FQ|apply NA)
   |((with_reducible show RoomC _ _ _);first|assumption|exact RoomC.mono (by assumption)|exact RoomC.mono (RoomC.any (by assumption))|exact RoomC.mark (by assumption) _|exact RoomC.mono (RoomC.mark (by assumption) _))
   |((with_reducible show St1 _ _ _ _);exact⟨rfl,rfl⟩)
   |((with_reducible show DfS _ _ _ _ _ _ _ _ _ _);assumption)
   |with_reducible first|apply iF|apply bN|apply p6|apply sW|apply iE|apply aZt|apply XF|apply VZ|apply U0|apply VX|apply BT|apply iR|apply iQ|(apply W2;first|apply bO|apply tK)|apply iS|apply bO|apply tK|apply aNm|apply iM|apply BP|apply lH|apply sX|apply BS|apply ZQ|apply iN|apply VW|apply BR|apply BQ|apply U2|apply ZT|apply VY|apply TL|apply iP|apply W1|apply U1|apply iO|apply aP2|apply aRs|apply aTr|apply NE|apply LP|apply NG|apply XS|apply Iw|apply Ix|apply Hl|apply HR|apply Iy|apply I0
   |((with_reducible apply aCs);case hsw=>exact rfl)
   |((with_reducible apply aSt);case hs=>exact rfl)
   |with_reducible apply BU
   |exact T.cls
   |exact T.cl (by kernel_rfl)
   |exact T.rz (by kernel_rfl)
   |exact T.ct
   |exact T.gi (by kernel_rfl)
   |((with_reducible show ZPass _);first|assumption|exact rE)
   |exact⟨rfl,rfl⟩
   |exact⟨rfl,rfl,rfl⟩
   |apply bN
   |apply p6
   |decide
   |(intros;rfl)
   |(intro _ h;cases h <;> rfl)
   |intro _
end _K
namespace _K
open PySem PySem.Spec PyProof.Rows _L _D
theorem bdf:BdF top tab:=by
 repeat (refine⟨?_,?_⟩;(intro _ _ _ _ _ _ us h;first|(obtain⟨_,rfl⟩:=us1 h;rfl)|(obtain⟨_,_,rfl⟩:=us2 h;rfl)|(obtain⟨_,_,_,rfl⟩:=us3 h;rfl)|(obtain⟨_,_,_,_,rfl⟩:=us4 h;rfl)))
 exact trivial
theorem FZ {K:Ai}{C0 C1 C2 C3 C4 C5 C6 C7 C8 C9 C10 C11:Ad}(q0:Bs K AT "FarError" = Ab (Ab (.ref C0)))(q1:Bs K AT "NoPoint" = Ab (Ab (.ref C1)))(q2:Bs K AT "NoLot" = Ab (Ab (.ref C2)))(q3:Bs K AT "NoNumber" = Ab (Ab (.ref C3)))(q4:Bs K AT "NoCircle" = Ab (Ab (.ref C4)))(q5:Bs K AT "NoMarks" = Ab (Ab (.ref C5)))(q6:Bs K AT "NoFars" = Ab (Ab (.ref C6)))(q7:Bs K AT "NoText" = Ab (Ab (.ref C7)))(q8:Bs K AT "NoLine" = Ab (Ab (.ref C8)))(q9:Bs K AT "NoDeed" = Ab (Ab (.ref C9)))(q10:Bs K AT "Alike" = Ab (Ab (.ref C10)))(q11:Bs K AT "TooMany" = Ab (Ab (.ref C11))):rG K (clt ⟨C0,C1,C2,C3,C4,C5,C6,C7,C8,C9,C10,C11⟩):=⟨q0,q1,q2,q3,q4,q5,q6,q7,q8,q9,q10,q11,trivial⟩
theorem M0 {K:Ai}{k0 k1:Js}(g0:Bs K AT "MOST_SIDE" = Ab (Ab (.int (4) k0)))(g1:Bs K AT "MOST_POINTS" = Ab (Ab (.int (6) k1))):rH K cst:=⟨⟨_,g0⟩,⟨_,g1⟩,trivial⟩
theorem GF {P:A5}{w:AO}{K:Ai}{mg:As→Ak Ac}{c:Cl}{fa:Ad}(T:Txt K mg c)(nd:(xI c).Nodup)(hfa:mg "law" = Ab (.ref fa)) :
  ∃ fd:CM,(∀ (s:Ag) (v:Ac),Hg s fd ⟨[v],[]⟩ [("_law_script",v)])∧∀ base:AF,K.In base→base.Ns AT mg→FnOk P w K mg base (CXd P w) 8 fa fd ["_law_script"] (tL K):=
 YX (T.src 25 rfl) hfa (fun kV doc pm an cdv ct s v=>.of_eq rfl) fun base=>YW T nd
end _K
theorem PySem.W.Fast.tw8142350209253772145 : True := trivial
theorem PySem.W.Fast.tw16846174188654591051 : True := trivial
theorem PySem.W.Fast.tw17517151385736678224 : True := trivial
theorem PySem.W.Fast.tw12501089087411832938 : True := trivial
theorem PySem.W.Fast.tw15663352591698464315 : True := trivial
theorem PySem.W.Fast.tw8318868948430081696 : True := trivial
theorem PySem.W.Fast.tw17515147990822019384 : True := trivial
theorem PySem.W.Fast.tw14975765412272355320 : True := trivial
theorem PySem.W.Fast.tw3263231541857612871 : True := trivial
theorem PySem.W.Fast.tw14679125786667602365 : True := trivial
theorem PySem.W.Fast.tw11748944673877759376 : True := trivial
theorem PySem.W.Fast.tw866085146402524095 : True := trivial
theorem PySem.W.Fast.tw14051594519039511959 : True := trivial
theorem PySem.W.Fast.tw17388370559232969198 : True := trivial
theorem PySem.W.Fast.tw15706185384663258377 : True := trivial
theorem PySem.W.Fast.tw16237400148376561640 : True := trivial
theorem PySem.W.Fast.tw4065070695129767145 : True := trivial
theorem PySem.W.Fast.tw7802749191833020641 : True := trivial
theorem PySem.W.Fast.tw8683602041623432616 : True := trivial
theorem PySem.W.Fast.tw18028601038418512859 : True := trivial
theorem PySem.W.Fast.tw6833594370455477856 : True := trivial
theorem PySem.W.Fast.tw8664099177059246266 : True := trivial
theorem PySem.W.Fast.tw2091110872113165368 : True := trivial
theorem PySem.W.Fast.tw2506775031909852675 : True := trivial
theorem PySem.W.Fast.tw4976628074294347489 : True := trivial
theorem PySem.W.Fast.tw8751539092609214077 : True := trivial
theorem PySem.W.Fast.tw8871954861074912465 : True := trivial
theorem PySem.W.Fast.tw11903146847152398914 : True := trivial
theorem PySem.W.Fast.tw17372909093182732039 : True := trivial
theorem PySem.W.Fast.tw9366597197507647122 : True := trivial
theorem PySem.W.Fast.tw7382007823819348570 : True := trivial
theorem PySem.W.Fast.tw9556350551561142479 : True := trivial
theorem PySem.W.Fast.tw17307353989372881128 : True := trivial
theorem PySem.W.Fast.tw3101392071609785937 : True := trivial
theorem PySem.W.Fast.tw229170694886881711 : True := trivial
theorem PySem.W.Fast.tw8001800415308484674 : True := trivial
theorem PySem.W.Fast.tw4584570840217677853 : True := trivial
theorem PySem.W.Fast.tw8729663402916947469 : True := trivial
theorem PySem.W.Fast.tw5795240210023630663 : True := trivial
theorem PySem.W.Fast.tw15164751215440712378 : True := trivial
theorem PySem.W.Fast.tw10420873955744248025 : True := trivial
theorem PySem.W.Fast.tw6729548935902561688 : True := trivial
theorem PySem.W.Fast.tw10863183842613343108 : True := trivial
theorem PySem.W.Fast.tw10031691107131707904 : True := trivial
theorem PySem.W.Fast.tw11467111714885422493 : True := trivial
theorem PySem.W.Fast.tw17564791588013701972 : True := trivial
theorem PySem.W.Fast.tw4900882422048654795 : True := trivial
theorem PySem.W.Fast.tw10948314758067675370 : True := trivial
theorem PySem.W.Fast.tw11629574805457399740 : True := trivial
theorem PySem.W.Fast.tw13880493517841841774 : True := trivial
theorem PySem.W.Fast.tw15036696796337203797 : True := trivial
theorem PySem.W.Fast.tw4268715593842827681 : True := trivial
theorem PySem.W.Fast.tw664399752864271304 : True := trivial
theorem PySem.W.Fast.tw13373340058338265969 : True := trivial
theorem PySem.W.Fast.tw8135162397144669222 : True := trivial
theorem PySem.W.Fast.tw11693279122837703180 : True := trivial
theorem PySem.W.Fast.tw6876404512544129860 : True := trivial
theorem PySem.W.Fast.tw9323380919754669506 : True := trivial
theorem PySem.W.Fast.tw13530685130053338746 : True := trivial
theorem PySem.W.Fast.tw3492318683393680745 : True := trivial
theorem PySem.W.Fast.tw2124876922235119674 : True := trivial
theorem PySem.W.Fast.tw17344230269274842507 : True := trivial
theorem PySem.W.Fast.tw5197106748452880078 : True := trivial
theorem PySem.W.Fast.tw5998455995294200980 : True := trivial
theorem PySem.W.Fast.tw106230202104434465 : True := trivial
theorem PySem.W.Fast.tw10312577124823987245 : True := trivial
theorem PySem.W.Fast.tw2643058801281740404 : True := trivial
theorem PySem.W.Fast.tw10206617146154194519 : True := trivial
theorem PySem.W.Fast.tw4577702169245618358 : True := trivial
theorem PySem.W.Fast.tw11516455862333048790 : True := trivial
theorem PySem.W.Fast.tw13231237149473660134 : True := trivial
theorem PySem.W.Fast.tw4633981959632256149 : True := trivial
theorem PySem.W.Fast.tw556316973554529754 : True := trivial
theorem PySem.W.Fast.tw7256658895458241672 : True := trivial
theorem PySem.W.Fast.tw1642189885579745429 : True := trivial
theorem PySem.W.Fast.tw13763766092010013800 : True := trivial
theorem PySem.W.Fast.tw568441730690560200 : True := trivial
theorem PySem.W.Fast.tw5903335521915135199 : True := trivial
theorem PySem.W.Fast.tw3680584454930471018 : True := trivial
theorem PySem.W.Fast.tw14327250081838450106 : True := trivial
theorem PySem.W.Fast.tw1100091108902598427 : True := trivial
theorem PySem.W.Fast.tw5934165225285567677 : True := trivial
theorem PySem.W.Fast.tw14559612183280278862 : True := trivial
theorem PySem.W.Fast.tw3505619227160224573 : True := trivial
theorem PySem.W.Fast.tw177790987023721732 : True := trivial
theorem PySem.W.Fast.tw18316536191913125374 : True := trivial
open PySem PySem.W PyProof.Rows
set_option maxRecDepth 100000 in
set_option maxHeartbeats 0 in
theorem PySem.Challenge.cw_fewdistances_k21_most_fars_on_boards_holds : PySem.Challenge.rw_fewdistances_k21_most_fars_on_boards.Holds := by
 w_on;o_law;z_head;(case hw=>w_witness2)
 refine _D.N7 (fun _=>by kernel_rfl) ?_
 refine _D.N6 (l:=PySem.Challenge.rw_fewdistances_k21_most_fars_on_boards) (k:=8) (x:="_law_script") rfl rfl ⟨rfl,by decide,by decide,rfl⟩ (fun w h Y=>Y) ?F
 case F =>
  intro w mg fa h KX G hmg
  refine' _K.GF (_D.N4 _K.bdf ?hp rfl KX G ?s ?z (_K.FZ ?q0 ?q1 ?q2 ?q3 ?q4 ?q5 ?q6 ?q7 ?q8 ?q9 ?q10 ?q11) (_K.M0 ?gi0 ?gi1) ?e1 ?e2 ?e3 ?e4 ?e5 ?e6) ?nd hmg
  (case s=>(repeat (refine' ⟨_D.SrcF.mk ?a ?l ?c ?k,?_⟩;(case a=>k_is);(case l=>k_is);(case c=>k_is);(case k=>k_is)));exact trivial)
  (case z=>rfl)
  (case q0=>k_is)
  (case q1=>k_is)
  (case q2=>k_is)
  (case q3=>k_is)
  (case q4=>k_is)
  (case q5=>k_is)
  (case q6=>k_is)
  (case q7=>k_is)
  (case q8=>k_is)
  (case q9=>k_is)
  (case q10=>k_is)
  (case q11=>k_is)
  (case gi0=>k_is)
  (case gi1=>k_is)
  (case hp=>intro y hy;revert hy;simp;grind)
  (case e1=>rfl)
  (case e2=>rfl)
  (case e3=>rfl)
  (case e4=>rfl)
  (case e5=>rfl)
  (case e6=>rfl)
  (case nd=>decide)
