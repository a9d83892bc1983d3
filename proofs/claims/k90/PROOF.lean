import PyProof.Rows.All
import Wide.All
import OpenK.AllK
import Wide.FinOn
import Lean
import PyProof.EqAt
import PyProof.EqKinds
import PyProof.TupleCall
import KE.KLam
import KE.KTryMore
import KE.KIsAll
import PyProof.NeKinds
import PyProof.Rows.CountFlat
import PyProof.Rows.FStr
import PyProof.ZipIter
import PyProof.EnumMake
import PyProof.EnumStmt
import KE.KDictLaws
import PyProof.DictWalks
import PyProof.Rows.SetFrom
import PyProof.SumWalkG
import PyProof.Rows.SumGenD
import PyProof.SeqI2
import KE.KItemsList
import PyProof.SetKind
import PyProof.TupleKey
import KE.KSortTup
import PyProof.ReprRoads
import PyProof.ReprBulk
import PyProof.TupleOfSeq
import PyProof.WalkInts
import PyProof.SeqI3
import PyProof.Rows.RuleDivmod
import KE.KPairComp
import KE.KMinKey
import PyProof.Rows.CallKwBuiltin
import PySem.Challenge.RW_fewdistances_k90_bars_by_hulls_and_by_pa
set_option Elab.async false
set_option linter.all false
set_option maxRecDepth 100000
set_option maxHeartbeats 0
set_option tactic.hygienic false
set_option bootstrap.genMatcherCode false
set_option genSizeOf false
set_option compiler.extract_closed false
theorem kd {p:Prop}[Decidable p](h:p:=by decide +kernel):p:=h
section
namespace _L
open PySem PySem.Spec PyProof.Rows
abbrev Key:=Sum Int Str
def jV:Key→Value→Bool
 |.inl k,v=>Value.isInt k v
 |.inr x,v=>Value.isStrOf x v
def KP (w:World):Key→Int
 |.inl k=>hashInt k
 |.inr x=>hashStr w x
theorem zN:∀ {k:Key} {v:Value},jV k v=true→(∃ i t,k=Sum.inl i∧v=Value.int i t)∨(∃ x t,k=Sum.inr x∧v=Value.str x t)
 |.inl i,v,h=>by
  obtain⟨t,e⟩:=Value.isInt_shape (k:=i) (v:=v) h
  exact .inl ⟨i,t,rfl,e⟩
 |.inr x,v,h=>by
  obtain⟨t,e⟩:=Value.isStrOf_shape (x:=x) (v:=v) h
  exact .inr ⟨x,t,rfl,e⟩
theorem dA (i:Int)(t:Tok):jV (.inl i) (.int i t)=true:=by simp[jV,Value.isInt]
theorem dB (x:Str)(t:Tok):jV (.inr x) (.str x t)=true:=by simp[jV,Value.isStrOf]
theorem XY (a b:Int):decide ((Sum.inl a:Key)=Sum.inl b)=(a == b):=by
 by_cases e:a=b
 ·subst e;simp
 ·have h:¬ (Sum.inl a:Key)=Sum.inl b:=fun q=>e (Sum.inl.inj q)
  rw[decide_eq_false h]
  exact(beq_eq_false_iff_ne.mpr e).symm
theorem W1 (a b:Str):decide ((Sum.inr a:Key)=Sum.inr b)=decide (a=b):=by
 by_cases e:a=b
 ·subst e;simp
 ·have h:¬ (Sum.inr a:Key)=Sum.inr b:=fun q=>e (Sum.inr.inj q)
  rw[decide_eq_false h,decide_eq_false e]
theorem XZ (a:Int)(b:Str):decide ((Sum.inl a:Key)=Sum.inr b)=false:=decide_eq_false (fun q=>nomatch q)
theorem W0 (a:Str)(b:Int):decide ((Sum.inr a:Key)=Sum.inl b)=false:=decide_eq_false (fun q=>nomatch q)
def zQ (prog:Program)(w:World):PySem.KeyKind prog w Key where
 is:=jV
 hash:=KP w
 inj:=fun v a b ha hb=>by
  rcases zN ha with⟨i,t,rfl,rfl⟩|⟨x,t,rfl,rfl⟩
  ·rcases zN hb with⟨j,u,rfl,e⟩|⟨y,u,rfl,e⟩
   ·injection e with e1 _;rw[e1]
   ·exact nomatch e
  ·rcases zN hb with⟨j,u,rfl,e⟩|⟨y,u,rfl,e⟩
   ·exact nomatch e
   ·injection e with e1 _;rw[e1]
 byValue:=fun k v h=>by
  rcases zN h with⟨i,t,rfl,rfl⟩|⟨x,t,rfl,rfl⟩ <;> rfl
 pyHash:=fun hv h=>by
  rcases zN hv with⟨i,t,rfl,rfl⟩|⟨x,t,rfl,rfl⟩
  ·exact wpAny_pyHash_int h
  ·exact wpAny_pyHash_str h
 eqBool:=fun hu hv h=>by
  rcases zN hu with⟨i,t,rfl,rfl⟩|⟨x,t,rfl,rfl⟩
  ·rcases zN hv with⟨j,u,rfl,rfl⟩|⟨y,u,rfl,rfl⟩
   ·rw[XY] at h;exact wpAny_eqBool_int h
   ·rw[XZ] at h;exact SeqAt.EqAt.int_str i t y u _ _ _ _ h
  ·rcases zN hv with⟨j,u,rfl,rfl⟩|⟨y,u,rfl,rfl⟩
   ·rw[W0] at h;exact SeqAt.EqAt.str_int x t j u _ _ _ _ h
   ·rw[W1] at h;exact wpAny_eqBool_str h
 «strs»:=fun k x t v h=>by
  rcases zN h with⟨i,u,rfl,e⟩|⟨y,u,rfl,e⟩
  ·exact nomatch e
  ·injection e with e1 _
   subst e1
   cases v <;> rfl
theorem mI (prog:Program)(w:World)(i:Int)(t:Tok):(zQ prog w).is (.inl i) (.int i t)=true:=dA i t
theorem mJ (prog:Program)(w:World)(x:Str)(t:Tok):(zQ prog w).is (.inr x) (.str x t)=true:=dB x t
end _L
namespace _L
open PySem PySem.Spec PyProof.Rows
inductive V where
 |non|bl (b:Bool)|int (i:Int)|str (x:Str)|byt (b:Array UInt8)|flt (b:UInt64)|ref (a:Addr)|ty (n:String)
 deriving DecidableEq
def qK:V→Value→Prop
 |.non,u=>u=Value.none
 |.bl b,u=>u=Value.bool b
 |.int i,u=>∃ t,u=Value.int i t
 |.str x,u=>∃ t,u=Value.str x t
 |.byt b,u=>∃ t,u=Value.bytes b t
 |.flt b,u=>∃ t,u=Value.float b t
 |.ref a,u=>u=Value.ref a
 |.ty n,u=>u=Value.type n
abbrev qL:List V→List Value→Prop:=Paired qK
theorem qL.length {xs:List V}{us:List Value}(r:qL xs us):xs.length=us.length:=Paired.length r
theorem qL.get:∀ {xs:List V} {us:List Value} {i:Nat} {x:V},qL xs us→xs[i]? = some x→∃ u,us[i]? = some u∧qK x u
 |_,_,_,_,.nil,e=>by simp at e
 |_,_,0,_,.cons r _,e=>by simp at e;subst e;exact⟨_,rfl,r⟩
 |_,_,i+1,x,.cons _ t,e=>by
  obtain⟨u,h1,h2⟩:=qL.get (i:=i) (x:=x) t (by simpa using e)
  exact⟨u,by simpa using h1,h2⟩
theorem qL.set {x:V}{u:Value}(r:qK x u):∀ {xs:List V} {us:List Value} (i:Nat),qL xs us→qL (xs.set i x) (us.set i u)
 |_,_,_,.nil=>.nil
 |_,_,0,.cons _ t=>.cons r t
 |_,_,i+1,.cons q t=>.cons q (qL.set r i t)
theorem qL.append {xs ys:List V}{us ws:List Value}(h:qL xs us)(s:qL ys ws):qL (xs++ys) (us++ws):=by
 induction h with
 |nil=>exact s
 |cons r t ih=>exact .cons r ih
theorem qL.take:∀ {xs:List V} {us:List Value} (n:Nat),qL xs us→qL (xs.take n) (us.take n)
 |_,_,0,_=>.nil
 |_,_,_+1,.nil=>.nil
 |_,_,n+1,.cons r t=>.cons r (qL.take n t)
theorem qL.drop:∀ {xs:List V} {us:List Value} (n:Nat),qL xs us→qL (xs.drop n) (us.drop n)
 |_,_,0,r=>r
 |_,_,_+1,.nil=>.nil
 |_,_,n+1,.cons _ t=>qL.drop n t
def j7:Option V→Option Value→Prop
 |some v,some u=>qK v u
 |none,none=>True
 |_,_=>False
def KV {κ : Type}:List (κ × V)→List (κ × Value)→Prop:=Paired fun (p:κ × V) (q:κ × Value)=>p.1=q.1∧qK p.2 q.2
def kV:Key→V
 |.inl i=>.int i
 |.inr x=>.str x
inductive HO where
  |lst (xs:List V)
  |tup (xs:List V)
  |dK (kvs:List (Key × V))|dT (kvs:List (List Key × V))
  |set (S:Int→Bool) (n:Nat)
  |ins (C dx:Addr) (fs:List (Str × V))
  |own (x:Addr)
  |xd (fs:List (Str × V))
  |met (f x:Addr)
  |rng (lo hi:Int)
  |frz (o:Obj) (u:HO)
  |tbl (ps:Array Value)
  |ext (φ : Heap→Prop)
abbrev Hp:=Addr→Option HO
def upd (H:Hp)(a:Addr)(o:HO):Hp:=fun b=>if b=a then some o else H b
theorem qV {H:Hp}{a:Addr}{o:HO}:upd H a o a=some o:=by unfold upd;rw[if_pos rfl]
theorem qI {H:Hp}{a b:Addr}{o:HO}(h:b≠a):upd H a o b=H b:=by unfold upd;rw[if_neg h]
theorem UG {H:Hp}{a b:Addr}{o u:HO}(h:H a=some o)(h':H b=some u)(d:o≠u):a≠b:=by
 intro e;subst e;rw[h] at h';exact d (Option.some.inj h')
theorem qO {H:Hp}{a b:Addr}{o:HO}(h:H a=some o)(h':H b=none):a≠b:=by
 intro e;subst e;rw[h] at h';cases h'
section
variable (P:Program)(w:World)
def qY (H:Hp)(h:Heap)(a:Addr):HO→Prop
 |.lst xs=>xs.length≤sizeLine∧∃ (its:List Value) (n:Nat),qL xs its∧h.get? a=some { cls:=.type "list",data:=.seq its.toArray n }
 |.tup xs=>xs.length≤sizeLine∧∃ its:List Value,qL xs its∧IsTup h a its.toArray
 |.dK kvs=>kvs.length≤sizeLine∧(a == sysModules)=false∧∃ vs,KV kvs vs∧h.DictOf (zQ P w) a vs
 |.dT kvs=>kvs.length≤sizeLine∧(a == sysModules)=false∧∃ xs:List (List Key × Addr × Value),
   Paired (fun (p:List Key × V) (q:List Key × Addr × Value)=>p.1=q.1∧H q.2.1=some (.tup (p.1.map kV))∧qK p.2 q.2.2) kvs xs ∧
   ∃ o es ep,h.get? a=some o∧o.ExactDict∧o.data=.dict es ep∧es.toList=xs.map (entryOfKey (tupleKind (zQ P w)))∧(xs.map (·.1)).Nodup
 |.set S n=>h.SetOf (intKind P w) a S n
 |.ins C dx fs=>H dx=some (.own a)∧fs.length≤1000∧dx≠a∧h.get? a=some (PySem.W.instObj C dx) ∧
   ∃ mA,h.Ns1 dx mA∧(∀ f,j7 (fs.lookup f) (mA f))∧PySem.Within mA (fs.map (·.1))
 |.own _=>∃ o,h.get? a=some o
 |.xd fs=>∃ mA,h.Ns1 a mA∧∀ f,j7 (fs.lookup f) (mA f)
 |.rng lo hi=>∃ t u v,h.get? a=some { cls:=.type "range",data:=.fields #[.int lo t,.int hi u,.int 1 v] }
 |.frz o u=>h.get? a=some o∧qY H h a u
 |.tbl ps=>h.get? a=some { cls:=.none,data:=.fields ps }
 |.met f x=>h.get? a=some (PySem.W.methodObj (.ref f) (.ref x))
 |.ext φ => φ h∧(∃ o,h.get? a=some o)∧∀ h1 h2:Heap,φ h1→(∀ o,h1.get? a=some o→h2.get? a=some o)→φ h2
def HOk (H:Hp)(h:Heap):Prop:=∀ a o,H a=some o→qY P w H h a o
end
section
variable {P:Program}{w:World}{H H':Hp}{h h':Heap}{a:Addr}{o:HO}
theorem qY.lt (x:qY P w H h a o):a<h.objs.size:=by
 cases o with
 |lst xs=>obtain⟨_,_,_,_,e⟩:=x;exact Heap.lt_size e
 |tup xs=>obtain⟨_,_,_,p⟩:=x;exact p.lt
 |dK kvs=>obtain⟨_,_,_,_,o,_,_,e,_⟩:=x;exact Heap.lt_size e
 |dT kvs=>obtain⟨_,_,_,_,o,_,_,e,_⟩:=x;exact Heap.lt_size e
 |set S n=>obtain⟨o,_,_,_,e,_⟩:=x;exact Heap.lt_size e
 |ins C dx fs=>obtain⟨_,_,_,e,_⟩:=x;exact Heap.lt_size e
 |own y=>obtain⟨_,e⟩:=x;exact Heap.lt_size e
 |xd fs=>obtain⟨_,⟨_,_,_,e,_⟩,_⟩:=x;exact Heap.lt_size e
 |rng lo hi=>obtain⟨_,_,_,e⟩:=x;exact Heap.lt_size e
 |frz ob u=>obtain⟨e,_⟩:=x;exact Heap.lt_size e
 |tbl ps=>exact Heap.lt_size (show h.get? a=some _ from x)
 |met f y=>exact Heap.lt_size (show h.get? a=some _ from x)
 |ext φ => obtain⟨_,⟨_,e⟩,_⟩:=x;exact Heap.lt_size e
theorem Paired.mapP {α β:Type}{F G:α→β→Prop}{l₁:List α}{l₂:List β}(h:Paired F l₁ l₂)(f:∀ a b,F a b→G a b):Paired G l₁ l₂:=by
 induction h with
 |nil=>exact .nil
 |cons r t ih=>exact .cons (f _ _ r) ih
theorem qY.stay (x:qY P w H h a o)(k:∀ b u,(b=a∨H b=some (.own a))→h.get? b=some u→h'.get? b=some u)
  (ho:∀ b,H b=some (.own a)→H' b=some (.own a)) (ht:∀ b xs,H b=some (.tup xs)→H' b=some (.tup xs)):qY P w H' h' a o:=by
 induction o with
 |lst xs=>obtain⟨z,its,n,r,e⟩:=x;exact⟨z,its,n,r,k _ _ (.inl rfl) e⟩
 |tup xs=>obtain⟨z,its,r,ob,e,c⟩:=x;exact⟨z,its,r,ob,k _ _ (.inl rfl) e,c⟩
 |dK kvs=>obtain⟨z,y,vs,r,ob,es,ep,e,c⟩:=x;exact⟨z,y,vs,r,ob,es,ep,k _ _ (.inl rfl) e,c⟩
 |dT kvs =>
  obtain⟨z,y,xs,r,ob,es,ep,e,c⟩:=x
  exact⟨z,y,xs,Paired.mapP r fun p q z=>⟨z.1,ht _ _ z.2.1,z.2.2⟩,ob,es,ep,k _ _ (.inl rfl) e,c⟩
 |set S n=>obtain⟨ob,es,ep,t,e,c⟩:=x;exact⟨ob,es,ep,t,k _ _ (.inl rfl) e,c⟩
 |ins C dx fs =>
  obtain⟨d,z,ne,e,mA,⟨od,es,ep,e2,c⟩,r⟩:=x
  exact⟨ho _ d,z,ne,k _ _ (.inl rfl) e,mA,⟨od,es,ep,k _ _ (.inr d) e2,c⟩,r⟩
 |own y=>obtain⟨ob,e⟩:=x;exact⟨ob,k _ _ (.inl rfl) e⟩
 |xd fs=>obtain⟨mA,⟨od,es,ep,e,c⟩,r⟩:=x;exact⟨mA,⟨od,es,ep,k _ _ (.inl rfl) e,c⟩,r⟩
 |rng lo hi=>obtain⟨t,u,v,e⟩:=x;exact⟨t,u,v,k _ _ (.inl rfl) e⟩
 |frz ob u ih=>obtain⟨e,q⟩:=x;exact⟨k _ _ (.inl rfl) e,ih q⟩
 |tbl ps =>
  have e:h.get? a=some { cls:=.none,data:=.fields ps }:=x
  show h'.get? a=some { cls:=.none,data:=.fields ps }
  exact k a _ (.inl rfl) e
 |met f y =>
  have e:h.get? a=some (PySem.W.methodObj (.ref f) (.ref y)):=x
  show h'.get? a=some (PySem.W.methodObj (.ref f) (.ref y))
  exact k a _ (.inl rfl) e
 |ext φ => obtain⟨p,⟨o,e⟩,st⟩:=x;exact⟨st _ _ p fun o q=>k _ _ (.inl rfl) q,⟨o,k _ _ (.inl rfl) e⟩,st⟩
theorem HOk.lt (x:HOk P w H h)(e:H a=some o):a<h.objs.size:=(x a o e).lt
theorem HOk.fresh (x:HOk P w H h)(e:h.objs.size≤a):H a=none:=by
 cases q:H a with
 |none=>rfl
 |some u=>exact absurd (Nat.lt_of_lt_of_le (x.lt q) e) (Nat.lt_irrefl _)
theorem HOk.kept (x:HOk P w H h)(k:∀ b u,h.get? b=some u→h'.get? b=some u):HOk P w H h':=fun a o e =>
 (x a o e).stay (fun b u _ q=>k b u q) (fun _ q=>q) fun _ _ q=>q
theorem HOk.laid (x:HOk P w H h)(k:∀ b u,h.get? b=some u→h'.get? b=some u)(hp:h.objs.size≤a)(new:qY P w (upd H a o) h' a o):HOk P w (upd H a o) h':=fun b u e=>by
 have hn:=x.fresh hp
 by_cases hb:b=a
 ·subst hb;rw[qV] at e;cases e;exact new
 ·rw[qI hb] at e
  exact(x b u e).stay (fun c v _ q=>k c v q) (fun c q=>by rw[qI (qO q hn)];exact q) fun c xs q=>by rw[qI (qO q hn)];exact q
end
def Rd (H:Hp)(a:Addr)(u:HO):Prop:=H a=some u∨∃ o,H a=some (.frz o u)
theorem Rd.of {H:Hp}{a:Addr}{u:HO}(h:H a=some u):Rd H a u:=.inl h
theorem Rd.ok {P:Program}{w:World}{H:Hp}{h:Heap}{a:Addr}{u:HO}(r:Rd H a u)(x:HOk P w H h):qY P w H h a u:=by
 rcases r with r|⟨o,r⟩
 ·exact x a u r
 ·obtain⟨_,q⟩:=x a _ r
  exact q
def Mut:Option HO→Prop
 |some (.lst _)=>True
 |some (.dK _)=>True
 |some (.dT _)=>True
 |some (.set _ _)=>True
 |some (.ins _ _ _)=>True
 |some (.ext _)=>True
 |_=>False
section
variable {P:Program}{w:World}{H:Hp}{h h':Heap}{x e:Addr}{o':HO}
theorem HOk.write (ok:HOk P w H h)(mu:Mut (H x))(he:e=x∨H e=some (.own x))(k:∀ b u,b≠e→h.get? b=some u→h'.get? b=some u)(heo:∃ u,h'.get? e=some u)
  (new:qY P w (upd H x o') h' x o'):HOk P w (upd H x o') h':=fun b u q=>by
 have nown:∀ c y,H c=some (.own y)→c≠x:=fun c y r z=>by subst z;rw[r] at mu;exact mu
 have ntup:∀ c xs,H c=some (.tup xs)→c≠x:=fun c xs r z=>by subst z;rw[r] at mu;exact mu
 by_cases hb:b=x
 ·subst hb;rw[qV] at q;cases q;exact new
 ·rw[qI hb] at q
  by_cases hbe:b=e
  ·have q':H b=some (.own x):=by
    rcases he with z|z
    ·exact absurd (hbe.trans z) hb
    ·rw[hbe];exact z
   rw[q] at q';cases q'
   obtain⟨v,hv⟩:=heo
   exact⟨v,by rw[hbe];exact hv⟩
  ·refine(ok b u q).stay (fun c v hc r=>k c v ?_ r) (fun c r=>by rw[qI (nown c b r)];exact r) fun c xs r=>by rw[qI (ntup c xs r)];exact r
   rcases hc with rfl|hc
   ·exact hbe
   ·rintro rfl
    rcases he with z|z
    ·exact nown c b hc z
    ·rw[hc] at z;cases z;exact hb rfl
end
structure Un (fs ex:List Addr)(H H':Hp)(h h':Heap):Prop where
 keep:∀ b o,h.get? b=some o→H b=none→b ∉ fs→b ∉ ex→h'.get? b=some o
 slot:∀ b o,h.get? b=some o→H b=none→b∈fs→b ∉ ex→∃ sl,h'.get? b=some { o with slots:=sl }
 free:∀ b o,h.get? b=some o→H b=none→b ∉ ex→H' b=none
 there:∀ b o,h.get? b=some o→b ∉ ex→∃ o',h'.get? b=some o'
 tups:∀ b xs,H b=some (.tup xs)→H' b=some (.tup xs)
 frzs:∀ b o u,H b=some (.frz o u)→H' b=some (.frz o u)
 tbls:∀ b ps,H b=some (.tbl ps)→∃ more,H' b=some (.tbl (ps++more))
section
variable {fs fs' ex ex':List Addr}{H H1 H2:Hp}{h h1 h2 h':Heap}{a x e:Addr}{o:HO}
theorem Un.any (u:Un fs ex H H1 h h1){b:Addr}{ob:Obj}(q:h.get? b=some ob)(n:H b=none)(hx:b ∉ ex):∃ sl,h1.get? b=some { ob with slots:=sl }:=by
 by_cases hb:b∈fs
 ·exact u.slot b ob q n hb hx
 ·exact⟨ob.slots,u.keep b ob q n hb hx⟩
theorem Un.kept (k:∀ b u,h.get? b=some u→h'.get? b=some u):Un fs ex H H h h':=
 ⟨fun b ob q _ _ _=>k b ob q,fun b ob q _ _ _=>⟨ob.slots,k b ob q⟩,fun _ _ _ n _=>n,fun b ob q _=>⟨ob,k b ob q⟩,fun _ _ q=>q,fun _ _ _ q=>q,fun _ ps q=>⟨#[],by rw[q];simp⟩⟩
theorem Un.refl:Un fs ex H H h h:=Un.kept fun _ _ q=>q
theorem Un.laid (k:∀ b u,h.get? b=some u→h'.get? b=some u)(hp:h.objs.size≤a)(hn:H a=none):Un fs ex H (upd H a o) h h' where
 keep:=fun b u q _ _ _=>k b u q
 slot:=fun b u q _ _ _=>⟨u.slots,k b u q⟩
 free:=fun b u q n _=>by rw[qI (Nat.ne_of_lt (Nat.lt_of_lt_of_le (Heap.lt_size q) hp))];exact n
 there:=fun b u q _=>⟨u,k b u q⟩
 tups:=fun b xs q=>by rw[qI (qO q hn)];exact q
 frzs:=fun b u xs q=>by rw[qI (qO q hn)];exact q
 tbls:=fun b ps q=>⟨#[],by rw[qI (qO q hn),q];simp⟩
theorem Un.write (mu:Mut (H x))(he:e=x∨H e=some (.own x))(k:∀ b u,b≠e→h.get? b=some u→h'.get? b=some u)(heo:∃ u,h'.get? e=some u):Un fs ex H (upd H x o) h h':=by
 have hx:∀ b,H b=none→b≠x:=fun b n z=>by subst z;rw[n] at mu;exact mu
 have hb:∀ b,H b=none→b≠e:=fun b n z=>by
  subst z
  rcases he with r|r
  ·exact hx b n r
  ·rw[n] at r;cases r
 have hm:∀ b u,H b=some u→¬ Mut (some u)→b≠x:=fun b u q nm z=>by subst z;rw[q] at mu;exact nm mu
 refine⟨fun b u q n _ _=>k b u (hb b n) q,fun b u q n _ _=>⟨u.slots,k b u (hb b n) q⟩,fun b u q n _=>by rw[qI (hx b n)];exact n,fun b u q _=>?_,
  fun b xs q=>by rw[qI (hm b _ q fun z=>z)];exact q,fun b u xs q=>by rw[qI (hm b _ q fun z=>z)];exact q,fun b ps q=>⟨#[],by rw[qI (hm b _ q fun z=>z),q];simp⟩⟩
 by_cases hbe:b=e
 ·subst hbe;exact heo
 ·exact⟨u,k b u hbe q⟩
end
def trk (h:Heap)(H:Hp):List Addr:=(List.range h.objs.size).filter fun a=>(H a).isSome
def uO (h:Heap)(H:Hp):Heap:=PySem.W.hideAll h (trk h H)
theorem d0 (h:Heap)(H:Hp):(uO h H).objs.size=h.objs.size:=PySem.W.hideAll_size _ _
theorem rU {h:Heap}{H:Hp}{b:Addr}{o:Obj}(e:h.get? b=some o)(n:H b=none):(uO h H).get? b=some o:=
 PySem.W.hideAll_get _ e fun hm=>by
  have q:(H b).isSome=true:=(List.mem_filter.mp hm).2
  rw[n] at q;simp at q
theorem oI {h:Heap}{H:Hp}{b:Addr}{o:Obj}(e:(uO h H).get? b=some o):h.get? b=some o∧H b=none:=by
 have e':h.get? b=some o:=PySem.W.of_hideAll (trk h H) e
 refine⟨e',?_⟩
 cases q:H b with
 |none=>rfl
 |some x =>
  have hm:b∈trk h H:=List.mem_filter.mpr ⟨List.mem_range.mpr (Heap.lt_size e'),by simp[q]⟩
  have z:(uO h H).get? b=none:=PySem.W.hideAll_none (trk h H) hm
  rw[z] at e;cases e
end _L
namespace _L
open PySem PySem.Spec PyProof.Rows
def xJ:List Str:=["law","_law_right","by_hull","pair_bound"]
def QQ (mg:Str→Option Value)(h:Heap):Prop:=∃ bm o,mg "__builtins__" = some (.ref bm)∧bm≠builtinsNs∧h.get? bm=some o∧o.cls=.type "module" ∧ o.dict=some builtinsNs∧o.data=.plain
structure Mod (K:PySem.W.Frag)(mg:Str→Option Value)(base:Heap):Prop where
 kin:K.In base
 glob:base.Ns mainGlobals mg
 blt:∃ mb,base.Ns builtinsNs mb∧∀ x:Str,x ≠ "__name__" → mb x=bootBuiltins x
 nolimit:base.NoLimit
 bm:QQ mg base
 code:∀ x∈xJ,∀ c T,PySem.W.tabIn K x=some (c,T)→PySem.W.CodeHd base c T
 inj:∀ x∈xJ,∀ y∈xJ,∀ c d T,PySem.W.tabIn K x=some (c,T)→PySem.W.tabIn K y=some (d,T)→x=y
structure Cx where
 prog:Program
 w:World
 K:PySem.W.Frag
 mg:Str→Option Value
 base:Heap
 A:Around
 N:List Str
 s₀:Shared
 H₀:Hp
 env:Env
 outer:List Env
 stack:List Env
 ex:List Addr
 fn:Str→Bool
 calm:Bool
 pn:List (Addr × Obj)
 xe:Value→Shared→Prop
def frs (l:List Env):List Addr:=l.filterMap (·.frame)
abbrev Cx.fs (X:Cx):List Addr:=frs X.outer
def Vis (sc:Scope)(x:Str):Prop:=sc.names.lookup x=some .local ∨ sc.names.lookup x=some .cell∨sc.names.lookup x=some .free
def Loc (sc:Scope)(x:Str):Prop:=sc.names.lookup x=some .local ∨ sc.names.lookup x=some .cell
def QV (env:Env)(h:Heap)(m:Str→Option Value)(x:Str)(u:Value):Prop:=
 (env.kindOf x=some .local ∧ m x=some u)∨((env.kindOf x=some .cell∨env.kindOf x=some .free)∧∃ c,env.cells.lookup x=some c∧h.IsCell c (some u))
structure Cx.Ok (X:Cx):Prop where
 mod:Mod X.K X.mg X.base
 kind:X.env.scope.kind=.function
 glob:X.env.globals=mainGlobals
 blt:X.env.builtins=builtinsNs
 above:X.s₀.heap.objs.size≤X.env.locals
 inj:∀ x y c,X.env.cells.lookup x=some c→X.env.cells.lookup y=some c→x=y
 has:∀ x,(X.env.kindOf x=some .cell∨X.env.kindOf x=some .free)→∃ c,X.env.cells.lookup x=some c
 cab:∀ x c,X.fn x=true→X.env.cells.lookup x=some c→X.s₀.heap.objs.size≤c
 hd:X.calm=true→X.A.handled=none
 frames:X.A.frames=some X.stack
 stk:X.stack=X.outer∨(X.stack=X.env::X.outer∧X.env.frame=some X.env.locals)
 exf:∀ b∈X.ex,b≠X.env.locals∧∀ x c,X.env.cells.lookup x=some c→c≠b
 bs:∀ b o,X.base.get? b=some o→X.s₀.heap.get? b=some o∧X.H₀ b=none
 bsz:X.base.objs.size≤X.s₀.heap.objs.size
 noex:∀ b o,X.base.get? b=some o→b ∉ X.ex
 exfs:∀ b∈X.ex,b ∉ X.fs
 funs:X.s₀.heap.FunFrames X.base X.outer
 frf:∀ b∈X.fs,X.H₀ b=none
structure Inv (X:Cx)(pins:List (Addr × Obj))(σ : List (Option V))(H:Hp)(s:Shared):Prop where
 ok:X.Ok
 os:s.os=X.s₀.os
 bare:AllBare s.gens
 base:Un X.fs X.ex X.H₀ H X.s₀.heap s.heap
 loc:∃ m,s.heap.Ns X.env.locals m∧∀ (i:Nat) (x:Str) (v:V),X.N[i]? = some x→σ[i]? = some (some v)→Vis X.env.scope x→∃ u,qK v u∧QV X.env s.heap m x u
 cell:∀ x c,X.env.cells.lookup x=some c→∃ v,s.heap.IsCell c v
 free:H X.env.locals=none
 freeC:∀ x c,X.env.cells.lookup x=some c→H c=none
 pin:∀ p∈X.pn++pins,s.heap.get? p.1=some p.2∧H p.1=none∧p.1≠X.env.locals∧p.1 ∉ X.fs∧∀ v,p.2.data≠.cell v
 hok:HOk X.prog X.w H s.heap
 len:σ.length=X.N.length
section
variable {X:Cx}{pins:List (Addr × Obj)}{σ : List (Option V)}{H H':Hp}{s:Shared}{h':Heap}
theorem Cx.Ok.nofr (ok:X.Ok){b:Addr}{o:Obj}(e:X.base.get? b=some o):b ∉ X.fs:=fun hb=>by
 have:=(ok.funs.mem hb).1
 rw[e] at this;cases this
theorem Inv.bs (I:Inv X pins σ H s):∀ b o,X.base.get? b=some o→s.heap.get? b=some o∧H b=none:=fun b o e =>
 ⟨I.base.keep b o (I.ok.bs b o e).1 (I.ok.bs b o e).2 (I.ok.nofr e) (I.ok.noex b o e),I.base.free b o (I.ok.bs b o e).1 (I.ok.bs b o e).2 (I.ok.noex b o e)⟩
theorem Inv.bk (I:Inv X pins σ H s):∀ b o,X.base.get? b=some o→s.heap.get? b=some o:=fun b o e=>(I.bs b o e).1
theorem Inv.mod (I:Inv X pins σ H s):Mod X.K X.mg X.base:=I.ok.mod
theorem Inv.kIn (I:Inv X pins σ H s):X.K.In s.heap:=I.ok.mod.kin.keeps I.bk
theorem Inv.nolimit (I:Inv X pins σ H s):s.heap.NoLimit:=I.ok.mod.nolimit.keeps I.bk
theorem Inv.lt (I:Inv X pins σ H s):X.env.locals<s.heap.objs.size:=let ⟨_,hn,_⟩:=I.loc;hn.lt
theorem Inv.sz (I:Inv X pins σ H s):X.s₀.heap.objs.size≤s.heap.objs.size:=Nat.le_trans I.ok.above (Nat.le_of_lt I.lt)
theorem Inv.nofs (I:Inv X pins σ H s){a:Addr}(h:s.heap.objs.size≤a):a ∉ X.fs:=fun hb=>by
 obtain⟨_,o,ho,_⟩:=I.ok.funs.mem hb
 exact absurd (Nat.lt_of_lt_of_le (Heap.lt_size ho) (Nat.le_trans I.sz h)) (Nat.lt_irrefl _)
theorem Inv.cne (I:Inv X pins σ H s):∀ x c,X.env.cells.lookup x=some c→c≠X.env.locals:=fun x c e z=>by
 obtain⟨v,o,ho,hd⟩:=I.cell x c e
 obtain⟨m,⟨o',es,ep,ho',hd',_⟩,_⟩:=I.loc
 rw[z,ho'] at ho;cases ho;rw[hd'] at hd;cases hd
theorem Inv.funs (I:Inv X pins σ H s):s.heap.FunFrames X.base X.outer:=by
 have all:∀ (l:List Env),(∀ b∈frs l,b∈X.fs)→X.s₀.heap.FunFrames X.base l→s.heap.FunFrames X.base l:=by
  intro l
  induction l with
  |nil=>intro _ _;trivial
  |cons env r ih =>
   intro hs hl
   obtain⟨hk,⟨L,o,hf,hn,ho,hd⟩,hr⟩:=hl
   have hL:L∈X.fs:=hs L (by unfold frs;rw[List.filterMap_cons,hf];exact List.mem_cons_self)
   obtain⟨sl,e⟩:=I.base.slot L o ho (I.ok.frf L hL) hL fun z=>I.ok.exfs L z hL
   exact⟨hk,⟨L,_,hf,hn,e,hd⟩,ih (fun b hb=>hs b (by unfold frs;rw[List.filterMap_cons,hf];exact List.mem_cons_of_mem _ hb)) hr⟩
 exact all X.outer (fun _ hb=>hb) I.ok.funs
theorem Inv.stack (I:Inv X pins σ H s):s.heap.FunFrames X.base X.stack:=by
 rcases I.ok.stk with e|⟨e,hf⟩
 ·rw[e];exact I.funs
 ·rw[e]
  obtain⟨m,hn,_⟩:=I.loc
  refine .cons (by rw[I.ok.kind];decide) hf hn ?_ I.funs
  exact Heap.get?_none_of_le (Nat.le_trans I.ok.bsz I.ok.above)
theorem Inv.stkSub (I:Inv X pins σ H s):∀ b∈frs X.stack,b∈X.env.locals::X.fs:=fun b hb=>by
 rcases I.ok.stk with e|⟨e,hf⟩
 ·rw[e] at hb;exact List.mem_cons_of_mem _ hb
 ·rw[e] at hb
  unfold frs at hb
  rw[List.filterMap_cons,hf] at hb
  exact hb
theorem Inv.stkFree (I:Inv X pins σ H s):∀ b∈frs X.stack,H b=none:=fun b hb=>by
 rcases List.mem_cons.mp (I.stkSub b hb) with e|hb
 ·rw[e];exact I.free
 ·obtain⟨_,o,ho,_⟩:=I.ok.funs.mem hb
  exact I.base.free b o ho (I.ok.frf b hb) fun z=>I.ok.exfs b z hb
theorem Inv.step {g':Array GenState}{t':Nat}{d':Drawn}{ch:List Addr}(I:Inv X pins σ H s)
  (hch:∀ b∈ch,(b∈X.ex∨X.s₀.heap.objs.size≤b)∧b≠X.env.locals∧(∀ x c,X.env.cells.lookup x=some c→c≠b)∧∀ p∈X.pn++pins,p.1≠b)
  (keep:∀ b o,b≠X.env.locals→b ∉ X.fs→b ∉ ch→s.heap.get? b=some o→H b=none→h'.get? b=some o)
  (slot:∀ b o,b≠X.env.locals→b∈X.fs→b ∉ ch→s.heap.get? b=some o→H b=none→∃ sl,h'.get? b=some { o with slots:=sl }) (free:∀ b o,b ∉ ch→s.heap.get? b=some o→H b=none→H' b=none)
  (there:∀ b o,b ∉ ch→s.heap.get? b=some o→∃ o',h'.get? b=some o')
  (tups:∀ b xs,H b=some (.tup xs)→H' b=some (.tup xs)) (frzs:∀ b o u,H b=some (.frz o u)→H' b=some (.frz o u)) (tbls:∀ b ps,H b=some (.tbl ps)→∃ more,H' b=some (.tbl (ps++more)))
  (ns:∀ m,s.heap.Ns X.env.locals m→h'.Ns X.env.locals m) (hok:HOk X.prog X.w H' h') (hg:AllBare g') :
  Inv X pins σ H' { s with heap:=h',gens:=g',drawn:=d',toks:=t' }:=by
 have neL:∀ b o,X.s₀.heap.get? b=some o→b≠X.env.locals:=fun b o e=>Nat.ne_of_lt (Nat.lt_of_lt_of_le (Heap.lt_size e) I.ok.above)
 have neC:∀ b o,X.s₀.heap.get? b=some o→b ∉ X.ex→b ∉ ch:=fun b o e hx hb=>by
  rcases (hch b hb).1 with z|z
  ·exact hx z
  ·exact absurd (Nat.lt_of_lt_of_le (Heap.lt_size e) z) (Nat.lt_irrefl _)
 have cellK:∀ x c,X.env.cells.lookup x=some c→∀ v,s.heap.IsCell c v→h'.IsCell c v:=fun x c e v ⟨o,ho,hd⟩=>by
  have nch:c ∉ ch:=fun z=>(hch c z).2.2.1 x c e rfl
  by_cases hc:c∈X.fs
  ·obtain⟨sl,q⟩:=slot c o (I.cne x c e) hc nch ho (I.freeC x c e)
   exact⟨_,q,hd⟩
  ·exact⟨o,keep c o (I.cne x c e) hc nch ho (I.freeC x c e),hd⟩
 refine⟨I.ok,I.os,hg,⟨fun b o e n hb hx=>?_,fun b o e n hb hx=>?_,fun b o e n hx=>?_,fun b o e hx=>?_,fun b xs e=>tups b xs (I.base.tups b xs e),fun b o xs e=>frzs b o xs (I.base.frzs b o xs e),fun b ps e=>?_⟩,?_,fun x c e=>?_,?_,fun x c e=>?_,fun p hp=>?_,hok,I.len⟩
 ·exact keep b o (neL b o e) hb (neC b o e hx) (I.base.keep b o e n hb hx) (I.base.free b o e n hx)
 ·obtain⟨sl,e1⟩:=I.base.slot b o e n hb hx
  obtain⟨sl',e2⟩:=slot b _ (neL b o e) hb (neC b o e hx) e1 (I.base.free b o e n hx)
  exact⟨sl',e2⟩
 ·obtain⟨o',e1⟩:=I.base.there b o e hx
  exact free b o' (neC b o e hx) e1 (I.base.free b o e n hx)
 ·obtain⟨o',e1⟩:=I.base.there b o e hx
  exact there b o' (neC b o e hx) e1
 ·obtain⟨m1,e1⟩:=I.base.tbls b ps e
  obtain⟨m2,e2⟩:=tbls b _ e1
  exact⟨m1++m2,by rw[e2,Array.append_assoc]⟩
 ·obtain⟨m,hn,hl⟩:=I.loc
  refine⟨m,ns m hn,fun i x v e1 e2 e3=>?_⟩
  obtain⟨u,r,l⟩:=hl i x v e1 e2 e3
  refine⟨u,r,?_⟩
  rcases l with l|⟨k,c,e,z⟩
  ·exact .inl l
  ·exact .inr ⟨k,c,e,cellK x c e _ z⟩
 ·obtain⟨v,z⟩:=I.cell x c e
  exact⟨v,cellK x c e v z⟩
 ·obtain⟨m,⟨o,_,_,ho,_⟩,_⟩:=I.loc
  exact free _ o (fun z=>(hch _ z).2.1 rfl) ho I.free
 ·obtain⟨v,o,ho,hd⟩:=I.cell x c e
  exact free c o (fun z=>(hch c z).2.2.1 x c e rfl) ho (I.freeC x c e)
 ·obtain⟨e,n,ne,nf,d⟩:=I.pin p hp
  have nch:p.1 ∉ ch:=fun z=>(hch p.1 z).2.2.2 p hp rfl
  exact⟨keep p.1 p.2 ne nf nch e n,free p.1 p.2 nch e n,ne,nf,d⟩
theorem Inv.un {t':Nat}(I:Inv X pins σ H s)(u:Un X.fs [] H H' s.heap h')(hok:HOk X.prog X.w H' h'):Inv X pins σ H' { s with heap:=h',toks:=t' }:=by
 obtain⟨m,⟨o,es,ep,ho,r⟩,_⟩:=id I.loc
 obtain⟨sl,hL⟩:=u.any ho I.free (by simp)
 exact I.step (g':=s.gens) (d':=s.drawn) (ch:=[]) (fun _ z=>nomatch z) (fun b o _ hb _ e n=>u.keep b o e n hb (by simp)) (fun b o _ hb _ e n=>u.slot b o e n hb (by simp)) (fun b o _ e n=>u.free b o e n (by simp)) (fun b o _ e=>u.there b o e (by simp)) u.tups u.frzs u.tbls (fun m' hm=>by
  obtain⟨o',es',ep',ho',r'⟩:=hm
  rw[ho] at ho';cases ho'
  exact⟨_,es',ep',hL,r'⟩) hok I.bare
theorem Inv.call {g':Array GenState}{t':Nat}{d':Drawn}{ch:List Addr}(I:Inv X pins σ H s)(u:Un (frs X.stack) ch H H' s.heap h')(hok:HOk X.prog X.w H' h')(hg:AllBare g')
  (hch:∀ b∈ch,(b∈X.ex∨X.s₀.heap.objs.size≤b)∧b≠X.env.locals∧(∀ x c,X.env.cells.lookup x=some c→c≠b)∧∀ p∈X.pn++pins,p.1≠b) :
  Inv X pins σ H' { s with heap:=h',gens:=g',drawn:=d',toks:=t' }:=by
 obtain⟨m,⟨o,es,ep,ho,r⟩,_⟩:=id I.loc
 obtain⟨sl,hL⟩:=u.any ho I.free fun z=>(hch _ z).2.1 rfl
 exact I.step (ch:=ch) hch (fun b o hL hb hc e n=>u.keep b o e n (fun z=>(List.mem_cons.mp (I.stkSub b z)).elim hL hb) hc) (fun b o _ _ hc e n=>u.any e n hc) (fun b o hc e n=>u.free b o e n hc) (fun b o hc e=>u.there b o e hc) u.tups u.frzs u.tbls (fun m' hm=>by
  obtain⟨o',es',ep',ho',r'⟩:=hm
  rw[ho] at ho';cases ho'
  exact⟨_,es',ep',hL,r'⟩) hok hg
theorem Inv.turned {t':Nat}{it:Addr}(I:Inv X pins σ H s)(k:∀ b o,b≠it→s.heap.get? b=some o→h'.get? b=some o)(hn:H it=none)(hL:it≠X.env.locals)
  (h1:it∈X.ex∨X.s₀.heap.objs.size≤it) (h2:∀ x c,X.env.cells.lookup x=some c→c≠it) (h3:∀ p∈X.pn++pins,p.1≠it):Inv X pins σ H { s with heap:=h',toks:=t' }:=by
 have nit:∀ b u,H b=some u→b≠it:=fun b u e z=>by rw[z,hn] at e;cases e
 refine I.step (g':=s.gens) (d':=s.drawn) (ch:=[it]) (fun b hb=>?_) (fun b o _ _ hc e _=>k b o (fun z=>hc (by simp[z])) e) (fun b o _ _ hc e _=>⟨o.slots,k b o (fun z=>hc (by simp[z])) e⟩) (fun _ _ _ _ n=>n)
  (fun b o hc e=>⟨o,k b o (fun z=>hc (by simp[z])) e⟩) (fun _ _ e=>e) (fun _ _ _ e=>e) (fun b ps e=>⟨#[],by rw[e];simp⟩) (fun m hm=>?_) (fun b u e=>?_) I.bare
 ·have e:b=it:=by simpa using hb
  subst e
  exact⟨h1,hL,h2,h3⟩
 ·obtain⟨o,es,ep,ho,r⟩:=hm
  exact⟨o,es,ep,k _ o (Ne.symm hL) ho,r⟩
 ·refine(I.hok b u e).stay (fun c v hc q=>k c v ?_ q) (fun _ q=>q) fun _ _ q=>q
  rcases hc with z|z
  ·rw[z];exact nit b u e
  ·exact nit c _ z
theorem Inv.tok (I:Inv X pins σ H s)(t:Nat):Inv X pins σ H { s with toks:=t }:=I.un (h':=s.heap) (t':=t) Un.refl I.hok
theorem Inv.kept {t':Nat}(I:Inv X pins σ H s)(k:∀ b u,s.heap.get? b=some u→h'.get? b=some u):Inv X pins σ H { s with heap:=h',toks:=t' }:=I.un (Un.kept k) (I.hok.kept k)
theorem Inv.laid {a:Addr}{o:HO}{t':Nat}(I:Inv X pins σ H s)(k:∀ b u,s.heap.get? b=some u→h'.get? b=some u)(hp:s.heap.objs.size≤a)(new:qY X.prog X.w (upd H a o) h' a o) :
  Inv X pins σ (upd H a o) { s with heap:=h',toks:=t' }:=I.un (Un.laid k hp (I.hok.fresh hp)) (I.hok.laid k hp new)
theorem Inv.write {x e:Addr}{o:HO}{t':Nat}(I:Inv X pins σ H s)(mu:Mut (H x))(he:e=x∨H e=some (.own x))(k:∀ b u,b≠e→s.heap.get? b=some u→h'.get? b=some u)(heo:∃ u,h'.get? e=some u)
  (new:qY X.prog X.w (upd H x o) h' x o):Inv X pins σ (upd H x o) { s with heap:=h',toks:=t' }:=I.un (Un.write mu he k heo) (I.hok.write mu he k heo new)
theorem Inv.pins_of {pins':List (Addr × Obj)}(I:Inv X pins σ H s)(h:∀ p∈pins',s.heap.get? p.1=some p.2∧H p.1=none∧p.1≠X.env.locals∧p.1 ∉ X.fs∧∀ v,p.2.data≠.cell v):Inv X pins' σ H s:=
 ⟨I.ok,I.os,I.bare,I.base,I.loc,I.cell,I.free,I.freeC,fun p hp=>(List.mem_append.mp hp).elim (fun z=>I.pin p (List.mem_append_left _ z)) (h p),I.hok,I.len⟩
theorem kK {N:List Str}(hN:N.Nodup){i j:Nat}{x:Str}(a:N[i]? = some x)(b:N[j]? = some x):i=j:=by
 obtain⟨h1,e1⟩:=List.getElem?_eq_some_iff.mp a
 obtain⟨h2,e2⟩:=List.getElem?_eq_some_iff.mp b
 exact(List.getElem_inj hN).mp (e1.trans e2.symm)
theorem sO {M:Model}{A:Around}{E:Value→Shared→Prop}{i:Nat}{x:Str}{v:V}{u:Value}{Q:Unit→Shared→Prop}(I:Inv X pins σ H s)(hN:X.N.Nodup)(hi:X.N[i]? = some x)(hx:Loc X.env.scope x)(r:qK v u)
  (h:∀ s',Inv X pins (σ.set i (some v)) H s'→(∃ a,Heap.SameBut a s.heap s'.heap∧(a=X.env.locals∨X.env.cells.lookup x=some a))→Q () s') (hf:X.fn x=true∨X.env.scope.names.lookup x=some .local:=by first|exact .inl rfl|exact .inr rfl|assumption):wpAny M A (storeName X.env x u) Q E s:=by
 obtain⟨m,hn,hl⟩:=id I.loc
 have hcls:(X.env.scope.kind == .class||(X.env.scope.kind == .module&&X.env.locals != X.env.globals))=false:=by rw[I.ok.kind];rfl
 have hiσ:i<σ.length:=by rw[I.len];exact(List.getElem?_eq_some_iff.mp hi).1
 have cne:=I.cne
 have tracked:∀ {a:Addr} {h':Heap},(∃ o,s.heap.get? a=some o∧H a=none)→Heap.SameBut a s.heap h'→HOk X.prog X.w H h':=fun {a h'} ha hs b ob e=>by
  obtain⟨_,_,hfree⟩:=ha
  refine(I.hok b ob e).stay (fun c w' hc q=>(hs.2 c ?_).trans q) (fun _ q=>q) fun _ _ q=>q
  rintro rfl
  rcases hc with rfl|hc
  ·rw[hfree] at e;cases e
  ·rw[hfree] at hc;cases hc
 rcases hx with hk|hk
 ·refine wpAny_storeName_local hk hn (fun h' hn' hs=>?_) hcls
  obtain⟨oL,_,_,hoL,_⟩:=id hn
  refine h _ ⟨I.ok,I.os,I.bare,⟨fun b o e n hb hx=>?_,fun b o e n hb hx=>?_,I.base.free,fun b o e hx=>?_,I.base.tups,I.base.frzs,I.base.tbls⟩,⟨_,hn',fun j y v' e1 e2 e3=>?_⟩,fun y c e=>?_,I.free,I.freeC,fun p hp=>?_,tracked ⟨oL,hoL,I.free⟩ hs,by simpa using I.len⟩ ⟨_,hs,.inl rfl⟩
  ·exact(hs.2 b (Nat.ne_of_lt (Nat.lt_of_lt_of_le (Heap.lt_size e) I.ok.above))).trans (I.base.keep b o e n hb hx)
  ·obtain⟨sl,e1⟩:=I.base.slot b o e n hb hx
   exact⟨sl,(hs.2 b (Nat.ne_of_lt (Nat.lt_of_lt_of_le (Heap.lt_size e) I.ok.above))).trans e1⟩
  ·obtain⟨o',e1⟩:=I.base.there b o e hx
   exact⟨o',(hs.2 b (Nat.ne_of_lt (Nat.lt_of_lt_of_le (Heap.lt_size e) I.ok.above))).trans e1⟩
  ·by_cases hj:j=i
   ·subst hj
    rw[hi] at e1;cases e1
    rw[List.getElem?_set_self hiσ] at e2
    cases e2
    exact⟨u,r,.inl ⟨hk,by simp⟩⟩
   ·rw[List.getElem?_set_ne (Ne.symm hj)] at e2
    obtain⟨u',r',q⟩:=hl j y v' e1 e2 e3
    refine⟨u',r',?_⟩
    rcases q with⟨k,e⟩|⟨k,c,e,z⟩
    ·refine .inl ⟨k,?_⟩
     have:y≠x:=fun e=>hj (kK hN e1 (e▸hi))
     simp[this,e]
    ·exact .inr ⟨k,c,e,z.sameBut hs (cne y c e)⟩
  ·obtain⟨w',z⟩:=I.cell y c e
   exact⟨w',z.sameBut hs (cne y c e)⟩
  ·obtain⟨e,n,ne,nf,d⟩:=I.pin p hp
   exact⟨(hs.2 p.1 ne).trans e,n,ne,nf,d⟩
 ·have hfn:X.fn x=true:=by
   rcases hf with z|z
   ·exact z
   ·rw[z] at hk;cases hk
  obtain⟨c,hc⟩:=I.ok.has x (.inl hk)
  obtain⟨w',z⟩:=I.cell x c hc
  refine wpAny_storeName_cell I.ok.kind hk hc z (fun h' hc' hs=>?_)
  obtain⟨oc,hoc,hocd⟩:=id z
  refine h { s with heap:=h' } ⟨I.ok,I.os,I.bare,⟨fun b o e n hb hx=>?_,fun b o e n hb hx=>?_,I.base.free,fun b o e hx=>?_,I.base.tups,I.base.frzs,I.base.tbls⟩,⟨m,hn.sameBut hs (Ne.symm (cne x c hc)),fun j y v' e1 e2 e3=>?_⟩,fun y c' e=>?_,I.free,I.freeC,fun p hp=>?_,tracked ⟨oc,hoc,I.freeC x c hc⟩ hs,by simpa using I.len⟩ ⟨c,hs,.inr hc⟩
  ·exact(hs.2 b (Nat.ne_of_lt (Nat.lt_of_lt_of_le (Heap.lt_size e) (I.ok.cab x c hfn hc)))).trans (I.base.keep b o e n hb hx)
  ·obtain⟨sl,e1⟩:=I.base.slot b o e n hb hx
   exact⟨sl,(hs.2 b (Nat.ne_of_lt (Nat.lt_of_lt_of_le (Heap.lt_size e) (I.ok.cab x c hfn hc)))).trans e1⟩
  ·obtain⟨o',e1⟩:=I.base.there b o e hx
   exact⟨o',(hs.2 b (Nat.ne_of_lt (Nat.lt_of_lt_of_le (Heap.lt_size e) (I.ok.cab x c hfn hc)))).trans e1⟩
  ·by_cases hj:j=i
   ·subst hj
    rw[hi] at e1;cases e1
    rw[List.getElem?_set_self hiσ] at e2
    cases e2
    exact⟨u,r,.inr ⟨.inl hk,c,hc,hc'⟩⟩
   ·rw[List.getElem?_set_ne (Ne.symm hj)] at e2
    obtain⟨u',r',q⟩:=hl j y v' e1 e2 e3
    refine⟨u',r',?_⟩
    rcases q with q|⟨k,c',e,z'⟩
    ·exact .inl q
    ·refine .inr ⟨k,c',e,z'.sameBut hs ?_⟩
     rintro rfl
     exact hj (kK hN e1 (I.ok.inj _ _ _ e hc▸hi))
  ·by_cases hcc:c'=c
   ·subst hcc;exact⟨_,hc'⟩
   ·obtain⟨w2,z2⟩:=I.cell y c' e
    exact⟨w2,z2.sameBut hs hcc⟩
  ·obtain⟨e,n,ne,nf,d⟩:=I.pin p hp
   refine⟨(hs.2 p.1 ?_).trans e,n,ne,nf,d⟩
   intro q
   rw[q,hoc] at e
   have q':oc=p.2:=Option.some.inj e
   exact d w' (by rw[← q'];exact hocd)
theorem w5 {M:Model}{A:Around}{E:Value→Shared→Prop}{i:Nat}{x:Str}{v:V}{u:Value}{Q:Unit→Shared→Prop}(I:Inv X pins σ H s)(hN:X.N.Nodup)(hi:X.N[i]? = some x)(hx:Loc X.env.scope x)(r:qK v u)
  (h:∀ s',Inv X pins (σ.set i (some v)) H s'→Q () s') (hf:X.fn x=true∨X.env.scope.names.lookup x=some .local:=by first|exact .inl rfl|exact .inr rfl|assumption):wpAny M A (storeName X.env x u) Q E s:=
 sO I hN hi hx r (fun s' I' _=>h s' I') hf
theorem Inv.call' {s':Shared}{ch:List Addr}(I:Inv X pins σ H s)(ho:s'.os=s.os)(u:Un (frs X.stack) ch H H' s.heap s'.heap)(hok:HOk X.prog X.w H' s'.heap)(hg:AllBare s'.gens)
  (hch:∀ b∈ch,(b∈X.ex∨X.s₀.heap.objs.size≤b)∧b≠X.env.locals∧(∀ x c,X.env.cells.lookup x=some c→c≠b)∧∀ p∈X.pn++pins,p.1≠b):Inv X pins σ H' s':=by
 obtain⟨h',g',d',t',o'⟩:=s'
 have e:o'=s.os:=ho
 subst e
 exact I.call (g':=g') (t':=t') (d':=d') u hok hg hch
end
abbrev XK:=Value→Option Addr→Hp→Prop
abbrev St:=List (Option V)
abbrev VK:=V→Hp→Prop
abbrev TE:=St→Hp→VK→Prop
abbrev TT:=St→Hp→(Bool→Hp→Prop)→Prop
abbrev TA:=St→Hp→(List V→Hp→Prop)→Prop
structure Ends where
 nx:St→Hp→Prop
 rt:VK
 bk:St→Hp→Prop:=fun _ _=>False
 ct:St→Hp→Prop:=fun _ _=>False
abbrev TS:=Ends→St→Hp→Prop
inductive EP (X:Cx)(pins:List (Addr × Obj))(σ : St)(Q:VK)(u:Value)(s':Shared):Prop
 |mk (v:V) (H':Hp) (I:Inv X pins σ H' s') (r:qK v u) (q:Q v H'):EP X pins σ Q u s'
inductive TP (X:Cx)(pins:List (Addr × Obj))(σ : St)(Q:Bool→Hp→Prop)(b:Bool)(s':Shared):Prop
 |mk (H':Hp) (I:Inv X pins σ H' s') (q:Q b H'):TP X pins σ Q b s'
inductive AP (X:Cx)(pins:List (Addr × Obj))(σ : St)(Q:List V→Hp→Prop)(us:List Value)(s':Shared):Prop
 |mk (vs:List V) (H':Hp) (I:Inv X pins σ H' s') (r:qL vs us) (q:Q vs H'):AP X pins σ Q us s'
def SP (X:Cx)(pins:List (Addr × Obj))(D:Ends)(f:Flow)(s':Shared):Prop:=
 match f with
 |.next=>∃ σ' H',Inv X pins σ' H' s'∧D.nx σ' H'
 |.brk=>∃ σ' H',Inv X pins σ' H' s'∧D.bk σ' H'
 |.cont=>∃ σ' H',Inv X pins σ' H' s'∧D.ct σ' H'
 |.ret u=>∃ v σ' H',Inv X pins σ' H' s'∧qK v u∧D.rt v H'
def PE (X:Cx)(e:Expr)(t:TE):Prop:=
 ∀ (pins:List (Addr × Obj)) (s:Shared) (σ : St) (H:Hp) (Q:VK),Inv X pins σ H s→t σ H Q→wpAny (model X.prog X.w) X.A (eval e X.env) (EP X pins σ Q) X.xe s
def PT (X:Cx)(e:Expr)(t:TT):Prop:=
 ∀ (pins:List (Addr × Obj)) (s:Shared) (σ : St) (H:Hp) (Q:Bool→Hp→Prop),Inv X pins σ H s→t σ H Q→wpAny (model X.prog X.w) X.A (isTrue e X.env (eval e X.env)) (TP X pins σ Q) X.xe s
def PW (X:Cx)(e:Expr)(t:TT):Prop:=
 ∀ (whole:Sem Value) (pins:List (Addr × Obj)) (s:Shared) (σ : St) (H:Hp) (Q:Bool→Hp→Prop),Inv X pins σ H s→t σ H Q→wpAny (model X.prog X.w) X.A (isTrue e X.env whole) (TP X pins σ Q) X.xe s
def PA (X:Cx)(es:List Expr)(t:TA):Prop:=
 ∀ (pos:Pos) (pins:List (Addr × Obj)) (s:Shared) (σ : St) (H:Hp) (Q:List V→Hp→Prop),Inv X pins σ H s→t σ H Q→wpAny (model X.prog X.w) X.A (spliced (backTo pos (starEach es X.env))) (AP X pins σ Q) X.xe s
def PS (X:Cx)(st:Stmt)(t:TS):Prop:=
 ∀ (pins:List (Addr × Obj)) (s:Shared) (σ : St) (H:Hp) (D:Ends),Inv X pins σ H s→t D σ H→wpAny (model X.prog X.w) X.A (exec st X.env) (SP X pins D) X.xe s
def PSs (X:Cx)(st:List Stmt)(t:TS):Prop:=
 ∀ (pins:List (Addr × Obj)) (s:Shared) (σ : St) (H:Hp) (D:Ends),Inv X pins σ H s→t D σ H→wpAny (model X.prog X.w) X.A (execs st X.env) (SP X pins D) X.xe s
theorem thn {α : Type}{t:Sem α}{Q Q':α→Shared→Prop}{M:Model}{A:Around}{E:Value→Shared→Prop}{s:Shared}(h:wpAny M A t Q E s)(hQ:∀ a s,Q a s→Q' a s):wpAny M A t Q' E s:=wpAny_mono h hQ fun _ _ x=>x
end _L
namespace _L
open PySem PySem.Spec PyProof.Rows
section
variable {X:Cx}
theorem bin {a b:Expr}{ta tb:TE}(ha:PE X a ta)(hb:PE X b tb){pins:List (Addr × Obj)}{s:Shared}{σ : St}{H:Hp}{R:V→V→Hp→Prop}(I:Inv X pins σ H s)(h:ta σ H fun x H1=>tb σ H1 fun y H2=>R x y H2)
  {α:Type} {Q:α→Shared→Prop} {f:Value→Value→Sem α}
  (hf:∀ v u s2 x y H2,Inv X pins σ H2 s2→qK x v→qK y u→R x y H2→wpAny (model X.prog X.w) X.A (f v u) Q X.xe s2) :
  wpAny (model X.prog X.w) X.A (eval a X.env) (fun v s₁=>wpAny (model X.prog X.w) X.A (eval b X.env) (fun u s₂=>wpAny (model X.prog X.w) X.A (f v u) Q X.xe s₂) X.xe s₁) X.xe s:=by
 refine thn (ha pins s σ H _ I h) fun v s1 ⟨x,H1,I1,r1,q1⟩=>?_
 refine thn (hb pins s1 σ H1 _ I1 q1) fun u s2 ⟨y,H2,I2,r2,q2⟩=>?_
 exact hf v u s2 x y H2 I2 r1 r2 q2
def V7 (i:Nat):TE:=fun σ H Q=>∃ v,σ[i]? = some (some v)∧Q v H
def tC (v:V):TE:=fun _ H Q=>Q v H
theorem fR {i:Nat}{x:Str}{pos:Pos}(hN:X.N[i]? = some x)(hv:Vis X.env.scope x)(hd:(x == ("__debug__" : Str))=false:=by decide)(hcd:(x == ("__classdict__" : Str))=false:=by decide):PE X (.Name x pos) (V7 i):=by
 intro pins s σ H Q I h
 obtain⟨v,e,h⟩:=h
 obtain⟨m,hn,hl⟩:=I.loc
 obtain⟨u,r,l⟩:=hl i x v hN e hv
 have fin:EP X pins σ Q u s:=⟨v,H,I,r,h⟩
 rcases l with⟨hk,hm⟩|⟨hk,c,hc,hcell⟩
 ·exact wpAny_Name (wpAny_loadName_local I.ok.kind hk hn hm fin) hd
 ·rcases hk with hk|hk
  ·exact wpAny_Name (wpAny_loadName_cell I.ok.kind hk hc hcell fin) hd
  ·exact wpAny_Name (wpAny_loadName_free I.ok.kind hk hc hcell fin hcd) hd
theorem Y2 {i j pos}:PE X (.Constant (.int i) j pos) (tC (.int i)):=fun _ _ _ H _ I h=>wpAny_Constant_int ⟨.int i,H,I.tok _,⟨_,rfl⟩,h⟩
theorem UV {b j pos}:PE X (.Constant (.bool b) j pos) (tC (.bl b)):=fun _ _ _ H _ I h=>Constant_bool ⟨.bl b,H,I,rfl,h⟩
theorem Y3 {j pos}:PE X (.Constant .none j pos) (tC .non):=fun _ _ _ H _ I h=>Constant_none ⟨.non,H,I,rfl,h⟩
theorem Y5 {x j pos}:PE X (.Constant (.str x) j pos) (tC (.str x)):=fun _ _ _ H _ I h=>Calls.Constant_str ⟨.str x,H,I.tok _,⟨_,rfl⟩,h⟩
def Gl (X:Cx)(x:Str):Prop:=X.env.kindOf x=some .globalImplicit
theorem yT {E:Value→Shared→Prop}{pins:List (Addr × Obj)}{s:Shared}{σ : St}{H:Hp}{x:Str}{u:Value}{pos:Pos}{Q:Value→Shared→Prop}(I:Inv X pins σ H s)(hg:Gl X x)(hm:X.mg x=some u)(h:Q u s)
  (hd:(x == ("__debug__" : Str))=false:=by decide):wpAny (model X.prog X.w) X.A (eval (.Name x pos) X.env) Q E s:=
 Calls.Name_function_global I.ok.kind hg (Calls.loadGlobal_global (by rw[I.ok.glob];exact I.mod.glob.keeps I.bk) hm h) hd
theorem jG {E:Value→Shared→Prop}{pins:List (Addr × Obj)}{s:Shared}{σ : St}{H:Hp}{x:Str}{u:Value}{pos:Pos}{Q:Value→Shared→Prop}(I:Inv X pins σ H s)(hg:Gl X x)(hm:X.mg x=none)(hv:bootBuiltins x=some u)(h:Q u s)
  (hn:x ≠ "__name__":=by decide) (hd:(x == ("__debug__" : Str))=false:=by decide):wpAny (model X.prog X.w) X.A (eval (.Name x pos) X.env) Q E s:=by
 obtain⟨mb,h1,h2⟩:=I.mod.blt
 exact Calls.Name_function_global I.ok.kind hg (Calls.loadGlobal_builtin (by rw[I.ok.glob];exact I.mod.glob.keeps I.bk) hm (by rw[I.ok.blt];exact h1.keeps I.bk) ((h2 x hn).trans hv) h) hd
theorem oP {x:Str}{v:V}{u:Value}{pos:Pos}(hg:Gl X x)(hm:X.mg x=some u)(r:qK v u)(hd:(x == ("__debug__" : Str))=false:=by decide):PE X (.Name x pos) (tC v):=
 fun _ _ _ H _ I h=>yT I hg hm ⟨v,H,I,r,h⟩ hd
theorem oO {x:Str}{v:V}{u:Value}{pos:Pos}(hg:Gl X x)(hm:X.mg x=none)(hv:bootBuiltins x=some u)(r:qK v u)(hn:x ≠ "__name__":=by decide)(hd:(x == ("__debug__" : Str))=false:=by decide):PE X (.Name x pos) (tC v):=
 fun _ _ _ H _ I h=>jG I hg hm hv ⟨v,H,I,r,h⟩ hn hd
variable {a b:Expr}{ta tb:TE}{pos:Pos}
variable {tA tB':TT}{rest:List Expr}
theorem oX (ha:PT X a tA):PW X (.BoolOp .And [a] pos) tA:=by
 intro wh pins s σ H Q I h
 refine isTrue_and (thn (ha pins s σ H Q I h) fun c s1 e=>?_)
 cases c with
 |true=>exact isTrue_and_nil e
 |false=>exact e
theorem YD (ha:PT X a tA):PW X (.BoolOp .Or [a] pos) tA:=by
 intro wh pins s σ H Q I h
 refine isTrue_or (thn (ha pins s σ H Q I h) fun c s1 e=>?_)
 cases c with
 |false=>exact isTrue_or_nil e
 |true=>exact e
theorem Y4 {op}{t:TE}(h:PE X a t):PE X (.BoolOp op [a] pos) t:=fun pins s σ H Q I hw=>BoolOp_one (h pins s σ H Q I hw)
end
end _L
namespace _L
open PySem PySem.Spec PyProof.Rows
def SqL (K:PySem.W.Frag)(H:Hp)(a:Addr)(xs:List V):Prop:=
 Rd H a (.lst xs) ∨
  ∃ (o:Obj) (its:Array Value) (n:Nat),K.lookup a=some o∧o.cls=.type "list" ∧ o.dict=none∧o.data=.seq its n∧its.size≤sizeLine∧qL xs its.toList
def SqT (K:PySem.W.Frag)(H:Hp)(a:Addr)(xs:List V):Prop:=
 Rd H a (.tup xs) ∨
  ∃ (o:Obj) (its:Array Value) (n:Nat),K.lookup a=some o∧o.cls=.type "tuple" ∧ o.data=.seq its n∧its.size≤sizeLine∧qL xs its.toList
def K1:Value→Option V
 |.none=>some .non
 |.bool b=>some (.bl b)
 |.int i _=>some (.int i)
 |.str x _=>some (.str x)
 |.bytes b _=>some (.byt b)
 |.float b _=>some (.flt b)
 |.ref a=>some (.ref a)
 |.type n=>some (.ty n)
 |_=>none
theorem qK.abs {x:V}{u:Value}(r:qK x u):K1 u=some x:=by
 cases x with
 |non=>cases r;rfl
 |bl _=>cases r;rfl
 |int _=>obtain⟨t,rfl⟩:=r;rfl
 |str _=>obtain⟨t,rfl⟩:=r;rfl
 |byt _=>obtain⟨t,rfl⟩:=r;rfl
 |flt _=>obtain⟨t,rfl⟩:=r;rfl
 |ref _=>cases r;rfl
 |ty _=>cases r;rfl
theorem qK.inj {x y:V}{u:Value}(r:qK x u)(q:qK y u):x=y:=Option.some.inj (r.abs.symm.trans q.abs)
theorem qL.inj {xs ys:List V}{us:List Value}(h:qL xs us)(k:qL ys us):xs=ys:=by
 induction h generalizing ys with
 |nil=>cases k;rfl
 |cons r t ih =>
  cases k with
  |cons r' t'=>rw[r.inj r',ih t']
section
variable {X:Cx}{pins:List (Addr × Obj)}{σ : St}{H:Hp}{s:Shared}{a:Addr}{xs ys:List V}
theorem SqL.of {K:PySem.W.Frag}(h:H a=some (.lst xs)):SqL K H a xs:=.inl (.inl h)
theorem SqT.of {K:PySem.W.Frag}(h:H a=some (.tup xs)):SqT K H a xs:=.inl (.inl h)
theorem Inv.list (I:Inv X pins σ H s)(h:SqL X.K H a xs):∃ its:List Value,qL xs its∧PlainL s.heap a its.toArray∧xs.length≤sizeLine:=by
 rcases h with h|⟨o,its,n,hk,hc,hd,hs,hz,r⟩
 ·obtain⟨z,its,n,r,e⟩:=h.ok I.hok
  exact⟨its,r,⟨_,n,e,rfl,rfl,rfl⟩,z⟩
 ·refine⟨its.toList,r,⟨o,n,I.kIn a o hk,hc,hd,by simpa using hs⟩,?_⟩
  have e:=r.length
  simp only[Array.length_toList] at e
  omega
theorem Inv.tuple (I:Inv X pins σ H s)(h:SqT X.K H a xs):∃ its:List Value,qL xs its∧IsTup s.heap a its.toArray∧xs.length≤sizeLine:=by
 rcases h with h|⟨o,its,n,hk,hc,hs,hz,r⟩
 ·obtain⟨z,its,r,p⟩:=h.ok I.hok
  exact⟨its,r,p,z⟩
 ·refine⟨its.toList,r,⟨o,I.kIn a o hk,hc,n,by simpa using hs⟩,?_⟩
  have e:=r.length
  simp only[Array.length_toList] at e
  omega
theorem Inv.list_inj (I:Inv X pins σ H s)(h:SqL X.K H a xs)(h':SqL X.K H a ys):xs=ys:=by
 obtain⟨its,r,⟨o,n,e,_,_,d⟩,_⟩:=I.list h
 obtain⟨its',r',⟨o',n',e',_,_,d'⟩,_⟩:=I.list h'
 rw[e] at e';cases e'
 rw[d] at d'
 injection d' with d1 _
 have:its=its':=by simpa using congrArg Array.toList d1
 subst this
 exact r.inj r'
theorem Inv.tuple_inj (I:Inv X pins σ H s)(h:SqT X.K H a xs)(h':SqT X.K H a ys):xs=ys:=by
 obtain⟨its,r,⟨o,e,_,n,d⟩,_⟩:=I.tuple h
 obtain⟨its',r',⟨o',e',_,n',d'⟩,_⟩:=I.tuple h'
 rw[e] at e';cases e'
 rw[d] at d'
 injection d' with d1 _
 have:its=its':=by simpa using congrArg Array.toList d1
 subst this
 exact r.inj r'
end
abbrev Cx.wish (X:Cx)(E:Value→Shared→Prop):Cx:={ X with xe:=E }
abbrev Cx.nox (X:Cx):Cx:=X.wish fun _ _=>False
theorem Cx.Ok.wish {X:Cx}(ok:X.Ok)(E:Value→Shared→Prop):(X.wish E).Ok:=
 ⟨ok.mod,ok.kind,ok.glob,ok.blt,ok.above,ok.inj,ok.has,ok.cab,ok.hd,ok.frames,ok.stk,ok.exf,ok.bs,ok.bsz,ok.noex,ok.exfs,ok.funs,ok.frf⟩
theorem Cx.Ok.unwish {X:Cx}{E:Value→Shared→Prop}(ok:(X.wish E).Ok):X.Ok:=
 ⟨ok.mod,ok.kind,ok.glob,ok.blt,ok.above,ok.inj,ok.has,ok.cab,ok.hd,ok.frames,ok.stk,ok.exf,ok.bs,ok.bsz,ok.noex,ok.exfs,ok.funs,ok.frf⟩
section
variable {X:Cx}{pins:List (Addr × Obj)}{σ : St}{H:Hp}{s:Shared}{E:Value→Shared→Prop}
theorem Inv.wish (I:Inv X pins σ H s)(E:Value→Shared→Prop):Inv (X.wish E) pins σ H s:=⟨I.ok.wish E,I.os,I.bare,I.base,I.loc,I.cell,I.free,I.freeC,I.pin,I.hok,I.len⟩
theorem Inv.unwish (I:Inv (X.wish E) pins σ H s):Inv X pins σ H s:=⟨I.ok.unwish,I.os,I.bare,I.base,I.loc,I.cell,I.free,I.freeC,I.pin,I.hok,I.len⟩
theorem SP.unwish {D:Ends}{f:Flow}{s':Shared}(h:SP (X.wish E) pins D f s'):SP X pins D f s':=by
 cases f with
 |next=>obtain⟨σ',H',I,q⟩:=h;exact⟨σ',H',I.unwish,q⟩
 |brk=>obtain⟨σ',H',I,q⟩:=h;exact⟨σ',H',I.unwish,q⟩
 |cont=>obtain⟨σ',H',I,q⟩:=h;exact⟨σ',H',I.unwish,q⟩
 |ret u=>obtain⟨v,σ',H',I,r,q⟩:=h;exact⟨v,σ',H',I.unwish,r,q⟩
theorem PE.nox {e:Expr}{t:TE}(h:PE X.nox e t):PE X e t:=fun pins s σ H Q I hw =>
 wpAny_mono (h pins s σ H Q (I.wish _) hw) (fun _ _ ⟨v,H',I',r,q⟩=>⟨v,H',I'.unwish,r,q⟩) fun _ _ z=>False.elim z
theorem PT.nox {e:Expr}{t:TT}(h:PT X.nox e t):PT X e t:=fun pins s σ H Q I hw =>
 wpAny_mono (h pins s σ H Q (I.wish _) hw) (fun _ _ ⟨H',I',q⟩=>⟨H',I'.unwish,q⟩) fun _ _ z=>False.elim z
theorem PSs.nox {st:List Stmt}{t:TS}(h:PSs X.nox st t):PSs X st t:=fun pins s σ H D I hw =>
 wpAny_mono (h pins s σ H D (I.wish _) hw) (fun _ _ q=>q.unwish) fun _ _ z=>False.elim z
end
section
variable {X:Cx}{st:Stmt}{rest:List Stmt}{t u:TS}{e:Expr}{te:TE}{pos:Pos}
def JI:TS:=fun D σ H=>D.nx σ H
def GC (t u:TS):TS:=fun D σ H=>t { D with nx:=u D } σ H
theorem oV:PSs X [] JI:=fun _ _ σ H _ I h=>wpAny_execs_nil ⟨σ,H,I,h⟩
theorem eW (h1:PS X st t)(h2:PSs X rest u):PSs X (st::rest) (GC t u):=by
 intro pins s σ H D I h
 refine wpAny_execs_cons (thn (h1 pins s σ H { D with nx:=u D } I h) fun f s1 q=>?_)
 cases f with
 |next =>
  obtain⟨σ',H',I',q⟩:=q
  exact h2 pins s1 σ' H' D I' q
 |ret v=>exact q
 |brk=>exact q
 |cont=>exact q
theorem oW (h1:PS X st t):PSs X [st] t:=by
 intro pins s σ H D I h
 refine wpAny_execs_cons (thn (h1 pins s σ H D I h) fun f s1 q=>?_)
 cases f with
 |next=>exact wpAny_execs_nil q
 |ret v=>exact q
 |brk=>exact q
 |cont=>exact q
theorem Inv.quiet {pins:List (Addr × Obj)}{σ : St}{H:Hp}{s:Shared}(I:Inv X pins σ H s):interactive X.env=false:=by simp[interactive,I.ok.kind]
end
abbrev TG:=V→St→Hp→(St→Hp→Prop)→Prop
abbrev TGs:=List V→St→Hp→(St→Hp→Prop)→Prop
def PG (X:Cx)(target:Expr)(t:TG):Prop:=
 ∀ (pins:List (Addr × Obj)) (s:Shared) (σ : St) (H:Hp) (v:V) (u:Value) (Q:St→Hp→Prop),Inv X pins σ H s→qK v u→t v σ H Q →
  wpAny (model X.prog X.w) X.A (assign target X.env u) (fun _ s'=>∃ σ' H',Inv X pins σ' H' s'∧Q σ' H') X.xe s
def PGs (X:Cx)(ts:List Expr)(t:TGs):Prop:=
 ∀ (pins:List (Addr × Obj)) (s:Shared) (σ : St) (H:Hp) (vs:List V) (us:List Value) (Q:St→Hp→Prop),Inv X pins σ H s→qL vs us→t vs σ H Q →
  wpAny (model X.prog X.w) X.A (assignInOrder ((assignEach ts X.env).map (·.2)) us) (fun _ s'=>∃ σ' H',Inv X pins σ' H' s'∧Q σ' H') X.xe s
abbrev sX:=V→V→V→Hp→(Hp→Prop)→Prop
def bO (X:Cx)(t:sX):Prop:=
 ∀ (pins:List (Addr × Obj)) (s:Shared) (σ : St) (H:Hp) (o i v:V) (ov iv u:Value) (Q:Hp→Prop),Inv X pins σ H s→qK o ov→qK i iv→qK v u→t o i v H Q →
  wpAny (model X.prog X.w) X.A (setItem ov iv u) (fun _ s'=>∃ H',Inv X pins σ H' s'∧Q H') X.xe s
section
variable {X:Cx}{pos:Pos}
def U7 (i:Nat):TG:=fun v σ H Q=>Q (σ.set i (some v)) H
theorem oQ {i:Nat}{x:Str}(hN:X.N.Nodup)(hi:X.N[i]? = some x)(hx:Loc X.env.scope x)(hf:X.fn x=true∨X.env.scope.names.lookup x=some .local:=by first|exact .inl rfl|exact .inr rfl|assumption):PG X (.Name x pos) (U7 i):=by
 intro pins s σ H v u Q I r h
 exact wpAny_assign_Name (w5 I hN hi hx r (fun s' I'=>⟨_,H,I',h⟩) hf)
def KD:TGs:=fun vs σ H Q=>vs=[]∧Q σ H
def U6 (t:TG)(u:TGs):TGs:=fun vs σ H Q=>∃ v r,vs=v::r∧t v σ H fun σ' H'=>u r σ' H' Q
theorem oR:PGs X [] KD:=by
 intro pins s σ H vs us Q I r h
 obtain⟨e,h⟩:=h
 subst e
 cases r
 exact assignInOrder_nil ⟨σ,H,I,h⟩
theorem eS {e:Expr}{es:List Expr}{t:TG}{u:TGs}(h1:PG X e t)(h2:PGs X es u)
  (hs:(assignEach (e::es) X.env).map (·.2)=assign e X.env::(assignEach es X.env).map (·.2):=by rfl):PGs X (e::es) (U6 t u):=by
 intro pins s σ H vs us Q I r h
 obtain⟨v,vr,e1,h⟩:=h
 subst e1
 cases r with
 |cons r rr =>
  rw[hs]
  refine assignInOrder_cons (thn (h1 pins s σ H _ _ _ I r h) fun _ s1 ⟨σ1,H1,I1,q1⟩=>?_)
  exact h2 pins s1 σ1 H1 _ _ Q I1 rr q1
def KE (K:PySem.W.Frag)(n:Nat)(t:TGs):TG:=fun v σ H Q=>∃ a xs,v=.ref a∧SqT K H a xs∧xs.length=n∧t xs σ H Q
theorem Y7 {es:List Expr}{k:Nat}{t:TGs}{n:Nat}(hc:X.calm=true)(h:PGs X es t)
  (hn:(assignEach es X.env).length=n:=by rfl) (hst:(assignEach es X.env).findIdx? (·.1)=none:=by rfl):PG X (.Tuple es k pos) (KE X.K n t):=by
 intro pins s σ H v u Q I r hw
 obtain⟨a,xs,e1,hq,hl,hw⟩:=hw
 subst e1
 cases r
 obtain⟨its,rv,ht,hz⟩:=I.tuple hq
 refine assign_Tuple_tuple (I.ok.hd hc) ht (by simp[hn,← hl,rv.length]) hst fun h' hx=>?_
 have I1:Inv X pins σ H { s with heap:=h' }:=I.kept (t':=s.toks) fun b o e=>hx b o (Nat.ne_of_lt (Heap.lt_size e)) e
 exact h pins _ σ H xs _ Q I1 (by simpa using rv) hw
def zL (to ti:TE)(t:sX):TG:=fun v σ H Q=>to σ H fun o H1=>ti σ H1 fun i H2=>t o i v H2 fun H3=>Q σ H3
def GB (i j:Nat)(ta:TA):TS:=fun D σ H=>ta σ H fun vs H1=>∃ v w,vs=[v,w]∧D.nx ((σ.set i (some v)).set j (some w)) H1
theorem YB {i j:Nat}{x y:Str}{a b:Expr}{ta:TA}{px py pt:Pos} {kt k2 pt2} (hc:X.calm=true) (hN:X.N.Nodup) (hi:X.N[i]? = some x) (hj:X.N[j]? = some y) (hij:i≠j)
  (hx:X.env.scope.names.lookup x=some .local) (hy:X.env.scope.names.lookup y=some .local) (ha:PA X [a,b] ta)
  (hw:swappedStores [.Tuple [.Name x px,.Name y py] kt pt] (.Tuple [a,b] k2 pt2) X.env=pure (some [x,y]))
  (hs:swapsWithSole [.Tuple [.Name x px,.Name y py] kt pt] (.Tuple [a,b] k2 pt2) pos.line X.env=pure false:=by rfl) :
  PS X (.Assign [.Tuple [.Name x px,.Name y py] kt pt] (.Tuple [a,b] k2 pt2) pos) (GB i j ta):=by
 intro pins s σ H D I h
 rw[exec_Assign_arm]
 refine wpAny_bind (wpAny_standAt ?_)
 rw[hs]
 refine wpAny_bind (wpAny_pure ?_)
 rw[if_neg (by decide)]
 refine wpAny_bind (Tuple_ (thn (ha _ pins s σ H _ I h) fun us s1 ⟨vs,H1,I1,r1,q1⟩=>?_))
 obtain⟨v,w,e1,q1⟩:=q1
 subst e1
 obtain⟨u1,u2,rfl,rv,rw'⟩:∃ u1 u2,us=[u1,u2]∧qK v u1∧qK w u2:=by
  cases r1 with
  |cons p q =>
   cases q with
   |cons p' q' =>
    cases q'
    exact⟨_,_,rfl,p,p'⟩
 refine wpAny_newObj_type ?_ (by show 2≤sizeLine;decide)
 have I2:Inv X pins σ H1 { s1 with heap:=s1.heap.push { cls:=.type "tuple",data:=.seq [u1,u2].toArray } }:=I1.kept (t':=s1.toks) fun b o e=>Heap.get?_push_of_some _ e
 rw[hw]
 refine wpAny_bind (wpAny_pure ?_)
 show wpAny (model X.prog X.w) X.A (do rule "assign.swapped-stores";let items ← unpackItems (.ref s1.heap.objs.size) 2 none;assignInOrder [fun v=>bindName X.env y v,fun v=>bindName X.env x v] items.reverse;pure Flow.next) _ _ _
 refine wpAny_bind (wpAny_rule (wpAny_bind (unpackItems_tuple (items:=#[u1,u2]) (I.ok.hd hc) (IsTup.new s1.heap _) fun h' hx'=>?_)))
 have I3:=I2.kept (h':=h') (t':=s1.toks) fun b o e=>hx' b o (Nat.ne_of_lt (Heap.lt_size e)) e
 show wpAny _ _ (assignInOrder [fun v=>bindName X.env y v,fun v=>bindName X.env x v] [u2,u1] >>= fun _=>pure Flow.next) _ _ _
 refine wpAny_bind (assignInOrder_cons (wpAny_bindName (w5 I3 hN hj (.inl hy) rw' (fun s2 I4=>?_) (.inr hy))))
 refine assignInOrder_cons (wpAny_bindName (w5 I4 hN hi (.inl hx) rv (fun s3 I5=>assignInOrder_nil (wpAny_pure ?_)) (.inr hx)))
 rw[List.set_comm _ _ (Ne.symm hij)] at I5
 exact⟨_,H1,I5,q1⟩
end
section
variable {X:Cx}{pos:Pos}
def V8 (c:TT)(tb:TS):TS:=fun D σ H=>∃ W:Nat→St→Hp→Prop,(∃ m,W m σ H)∧∀ m σ H,W m σ H →
 c σ H fun b H1=>if b=true then ∃ N:St→Hp→Prop,(∀ σ' H',N σ' H'→∃ m',m'<m∧W m' σ' H')∧tb { D with nx:=N,ct:=N,bk:=D.nx } σ H1 else D.nx σ H1
theorem eV {c:Expr}{body:List Stmt}{tc:TT}{tb:TS}(hp:PassesOwn (model X.prog X.w) X.A X.env X.xe)(hc:PT X c tc)(hb:PSs X body tb):PS X (.While c body [] pos) (V8 tc tb):=by
 intro pins s σ H D I h
 obtain⟨W,⟨m0,w0⟩,turn⟩:=h
 refine wpAny_While (codeAny_whileLoop (fun n s'=>∃ σ' H',Inv X pins σ' H' s'∧W n σ' H') ?_ m0 ⟨σ,H,I,w0⟩)
 rintro n s1 ⟨σ1,H1,I1,w1⟩
 refine wpAny_passesOwn hp (thn (hc pins s1 σ1 H1 _ I1 (turn n σ1 H1 w1)) fun b s2 ⟨H2,I2,q2⟩=>?_)
 cases b with
 |true =>
  obtain⟨N,hN,q2⟩:=q2
  rw[if_pos rfl]
  refine wpAny_passesOwn hp (thn (hb pins s2 σ1 H2 _ I2 q2) fun f s3 q3=>?_)
  cases f with
  |next =>
   obtain⟨σ3,H3,I3,n3⟩:=q3
   obtain⟨m',hm,w3⟩:=hN σ3 H3 n3
   exact⟨m',hm,σ3,H3,I3,w3⟩
  |cont =>
   obtain⟨σ3,H3,I3,n3⟩:=q3
   obtain⟨m',hm,w3⟩:=hN σ3 H3 n3
   exact⟨m',hm,σ3,H3,I3,w3⟩
  |brk=>exact q3
  |ret v=>exact q3
 |false =>
  rw[if_neg Bool.false_ne_true]
  exact wpAny_execs_nil ⟨σ1,H2,I2,q2⟩
end
structure It where
 go:Nat→Hp→Prop
 yld:Nat→Hp→V→Hp→Prop
 stop:Nat→Hp→Prop
def zV (X:Cx)(pins:List (Addr × Obj))(H:Hp)(b:Addr):Prop:=
 H b=none∧b≠X.env.locals∧b ∉ X.fs∧(b∈X.ex∨X.s₀.heap.objs.size≤b)∧(∀ x c,X.env.cells.lookup x=some c→c≠b)∧∀ p∈X.pn++pins,p.1≠b
theorem Inv.fpOk {X:Cx}{pins:List (Addr × Obj)}{σ : St}{H H':Hp}{s:Shared}{b:Addr}(I:Inv X pins σ H s)(hb:s.heap.objs.size≤b)(hn:H' b=none):zV X pins H' b:=by
 refine⟨hn,Nat.ne_of_gt (Nat.lt_of_lt_of_le I.lt hb),I.nofs hb,.inr (Nat.le_trans I.sz hb),fun x c e z=>?_,fun p hp z=>?_⟩
 ·obtain⟨v,q⟩:=I.cell x c e
  exact absurd (Nat.lt_of_lt_of_le q.lt (by rw[z];exact hb)) (Nat.lt_irrefl _)
 ·exact absurd (Nat.lt_of_lt_of_le (Heap.lt_size (I.pin p hp).1) (by rw[z];exact hb)) (Nat.lt_irrefl _)
structure Turn (P:Program)(w:World)(K:PySem.W.Frag)(tg:Expr)(J:It)(fp:List Addr)(it:Addr)(tn:Nat→Heap→Prop):Prop where
 mem:it∈fp
 obj:∀ i h,tn i h→∀ b∈fp,∃ o,h.get? b=some o∧∀ v,o.data≠.cell v
 keep:∀ i h h',tn i h→(∀ b∈fp,∀ o,h.get? b=some o→h'.get? b=some o)→tn i h'
 item:∀ (X:Cx),X.prog=P→X.w=w→X.K=K→X.calm=true→∀ (i:Nat) (pins:List (Addr × Obj)) (s:Shared) (σ : St) (H:Hp) (E:Value→Shared→Prop),Inv X pins σ H s→(∀ b∈fp,zV X pins H b)→tn i s.heap→J.go i H →
  wpAny (model P w) X.A (pyNext (.ref it)) (fun r s1=>∃ u,r=some u ∧
   wpAny (model P w) X.A (letOwnedTupleGo tg (.ref it) u) (fun _ s2=>∃ x H',Inv X pins σ H' s2∧qK x u∧J.yld i H x H'∧tn (i+1) s2.heap∧∀ b∈fp,H' b=none) E s1) E s
 done:∀ (X:Cx),X.prog=P→X.w=w→X.K=K→X.calm=true→∀ (i:Nat) (pins:List (Addr × Obj)) (s:Shared) (σ : St) (H:Hp) (E:Value→Shared→Prop),Inv X pins σ H s→(∀ b∈fp,zV X pins H b)→tn i s.heap→J.stop i H →
  wpAny (model P w) X.A (pyNext (.ref it)) (fun r s1=>r=none∧Inv X pins σ H s1) E s
 self:∀ (A:Around) (i:Nat) (s:Shared) (Q:Value→Shared→Prop) (E:Value→Shared→Prop),tn i s.heap→Q (.ref it) s→wpAny (model P w) A (pyIter (.ref it)) Q E s
abbrev TI:=St→Hp→(It→Hp→Prop)→Prop
inductive PIE (X:Cx)(pins:List (Addr × Obj))(σ : St)(tg:Expr)(R:It→Hp→Prop)(itv:Value)(s2:Shared):Prop
 |mk (it:Addr) (fp:List Addr) (tn:Nat→Heap→Prop) (J:It) (H':Hp) (e:itv=.ref it) (I:Inv X pins σ H' s2) (t:Turn X.prog X.w X.K tg J fp it tn) (z:tn 0 s2.heap) (f:∀ b∈fp,zV X pins H' b) (q:R J H'):PIE X pins σ tg R itv s2
def PI (X:Cx)(tg iter:Expr)(wi:TI):Prop:=
 ∀ (pins:List (Addr × Obj)) (s:Shared) (σ : St) (H:Hp) (R:It→Hp→Prop),Inv X pins σ H s→wi σ H R →
  wpAny (model X.prog X.w) X.A (eval iter X.env) (fun v s1=>wpAny (model X.prog X.w) X.A (pyIter v) (PIE X pins σ tg R) X.xe s1) X.xe s
theorem nR {M:Model}{A:Around}{E:Value→Shared→Prop}{s:Shared}{tg:Expr}{it:Addr}{u:Value}{o:Obj}{n:String}{vs:Array Value}{Q:Unit→Shared→Prop}(ho:s.heap.get? it=some o)(hc:o.cls=.type n)(hd:o.data=.fields vs)
    (hn:["enumerate","zip","dict_itemiterator","dict_reverseitemiterator","odict_iterator","itertools.zip_longest","itertools.pairwise"].contains n=false) (hQ:Q () s):wpAny M A (letOwnedTupleGo tg (.ref it) u) Q E s:=by
  unfold letOwnedTupleGo
  cases tg <;> first
    |exact wpAny_pure hQ
    |(cases u <;> first
        |exact wpAny_pure hQ
        | (refine wpAny_bind (wpAny_load ho ?_)
           rw[hc,hd]
           show wpAny M A (if (["enumerate","zip","dict_itemiterator","dict_reverseitemiterator","odict_iterator","itertools.zip_longest","itertools.pairwise"].contains n&&vs[0]? == some (rawInt _))=true then _ else _) Q E s
           rw[if_neg (by intro h;rw[hn,Bool.false_and] at h;cases h)]
           exact wpAny_pure hQ))
def Itl (K:PySem.W.Frag)(a:Addr):It:=
 ⟨fun i H=>∃ xs x,SqL K H a xs∧xs[i]? = some x,fun i H x H'=>H'=H∧∀ xs,SqL K H a xs→xs[i]? = some x,fun i H=>∃ xs,SqL K H a xs∧xs.length≤i⟩
def Itt (K:PySem.W.Frag)(a:Addr):It:=
 ⟨fun i H=>∃ xs x,SqT K H a xs∧xs[i]? = some x,fun i H x H'=>H'=H∧∀ xs,SqT K H a xs→xs[i]? = some x,fun i H=>∃ xs,SqT K H a xs∧xs.length≤i⟩
def Itr (lo:Int)(n:Nat):It:=⟨fun i _=>i<n,fun i H x H'=>H'=H∧x=.int (lo+i),fun i _=>n≤i⟩
theorem b9 {P:Program}{w:World}{K:PySem.W.Frag}{tg:Expr}(a it:Addr):Turn P w K tg (Itl K a) [it] it (fun i h=>h.IsListIter it a i) where
 mem:=by simp
 obj:=fun i h st b hb=>by
  have e:b=it:=by simpa using hb
  subst e
  obtain⟨o,e,c,d⟩:=st
  exact⟨o,e,fun v z=>by rw[d] at z;cases z⟩
 keep:=fun i h h' st k=>st.at fun o e=>k it (by simp) o e
 item:=by
  intro X hP hw hK hc i pins s σ H E I hf st hg
  subst hP hw hK
  obtain⟨xs,x,hq,hx⟩:=hg
  obtain⟨its,rv,p,hz⟩:=I.list hq
  obtain⟨u,hu,ru⟩:=rv.get hx
  obtain⟨f0,f1,f2,f3,f4,f5⟩:=hf it (by simp)
  refine wpAny_pyNext_list_item st p.isList (x:=u) (by simpa using hu) fun h' st' sb=>?_
  have I1:Inv X pins σ H { s with heap:=h' }:=I.turned (t':=s.toks) (fun b o hb e=>(sb.2 b hb).trans e) f0 f1 f3 f4 f5
  obtain⟨o,e,c,d⟩:=id st'
  exact⟨u,rfl,nR (s:={ s with heap:=h' }) e c d (by decide) ⟨x,H,I1,ru,⟨rfl,fun ys hy=>by rw[I.list_inj hy hq];exact hx⟩,st',fun b hb=>(hf b hb).1⟩⟩
 done:=by
  intro X hP hw hK hc i pins s σ H E I hf st hg
  subst hP hw hK
  obtain⟨xs,hq,hx⟩:=hg
  obtain⟨its,rv,p,hz⟩:=I.list hq
  obtain⟨f0,f1,f2,f3,f4,f5⟩:=hf it (by simp)
  have hl:=rv.length
  exact wpAny_pyNext_list_end (I.ok.hd hc) st p.isList (by simp;omega) fun h' eb=>⟨rfl,I.turned (t':=s.toks) (fun b o hb e=>eb b o hb e) f0 f1 f3 f4 f5⟩
 self:=fun _ _ _ _ _ st h=>wpAny_pyIter_listiter st h
theorem lE {P:Program}{w:World}{K:PySem.W.Frag}{tg:Expr}(a it:Addr):Turn P w K tg (Itt K a) [it] it (fun i h=>h.IsTupleIter it a i) where
 mem:=by simp
 obj:=fun i h st b hb=>by
  have e:b=it:=by simpa using hb
  subst e
  obtain⟨o,e,c,d⟩:=st
  exact⟨o,e,fun v z=>by rw[d] at z;cases z⟩
 keep:=fun i h h' st k=>st.at fun o e=>k it (by simp) o e
 item:=by
  intro X hP hw hK hc i pins s σ H E I hf st hg
  subst hP hw hK
  obtain⟨xs,x,hq,hx⟩:=hg
  obtain⟨its,rv,p,hz⟩:=I.tuple hq
  obtain⟨u,hu,ru⟩:=rv.get hx
  obtain⟨f0,f1,f2,f3,f4,f5⟩:=hf it (by simp)
  refine wpAny_pyNext_tuple_item st (show s.heap.IsTuple a its.toArray from p) (x:=u) (by simpa using hu) fun h' st' sb=>?_
  have I1:Inv X pins σ H { s with heap:=h' }:=I.turned (t':=s.toks) (fun b o hb e=>(sb.2 b hb).trans e) f0 f1 f3 f4 f5
  obtain⟨o,e,c,d⟩:=id st'
  exact⟨u,rfl,nR (s:={ s with heap:=h' }) e c d (by decide) ⟨x,H,I1,ru,⟨rfl,fun ys hy=>by rw[I.tuple_inj hy hq];exact hx⟩,st',fun b hb=>(hf b hb).1⟩⟩
 done:=by
  intro X hP hw hK hc i pins s σ H E I hf st hg
  subst hP hw hK
  obtain⟨xs,hq,hx⟩:=hg
  obtain⟨its,rv,p,hz⟩:=I.tuple hq
  obtain⟨f0,f1,f2,f3,f4,f5⟩:=hf it (by simp)
  have hl:=rv.length
  exact wpAny_pyNext_tuple_end (I.ok.hd hc) st (show s.heap.IsTuple a its.toArray from p) (by simp;omega) fun h' eb=>⟨rfl,I.turned (t':=s.toks) (fun b o hb e=>eb b o hb e) f0 f1 f3 f4 f5⟩
 self:=fun _ _ _ _ _ st h=>wpAny_pyIter_tupleiter st h
theorem lD {P:Program}{w:World}{K:PySem.W.Frag}{tg:Expr}(it:Addr)(lo:Int)(n:Nat):Turn P w K tg (Itr lo n) [it] it (fun i h=>IsRangeIter h it (lo+(i:Nat)*1) ((n:Int)-(i:Nat)) 1) where
 mem:=by simp
 obj:=fun i h st b hb=>by
  have e:b=it:=by simpa using hb
  subst e
  exact⟨_,st,fun v z=>by
   have z':Data.fields _=Data.cell v:=z
   cases z'⟩
 keep:=fun i h h' st k=>k it (by simp) _ st
 item:=by
  intro X hP hw hK hc i pins s σ H E I hf st hg
  subst hP hw hK
  obtain⟨f0,f1,f2,f3,f4,f5⟩:=hf it (by simp)
  have W:=Walks.range (prog:=X.prog) (w:=X.w) (I.ok.hd hc) it lo 1 n
  refine W.item i s _ _ hg st fun v h' tk hv st' kk=>?_
  obtain⟨t,rfl⟩:=hv
  have I1:Inv X pins σ H { s with heap:=h',toks:=tk }:=I.turned (fun b o hb e=>kk b o (by simpa using hb) e) f0 f1 f3 f4 f5
  refine⟨_,rfl,nR (s:={ s with heap:=h',toks:=tk }) (n:="range_iterator") st' rfl rfl (by decide) ⟨.int (lo+i),H,I1,⟨t,?_⟩,⟨rfl,rfl⟩,st',fun b hb=>(hf b hb).1⟩⟩
  rw[Int.mul_one]
 done:=by
  intro X hP hw hK hc i pins s σ H E I hf st hg
  subst hP hw hK
  obtain⟨f0,f1,f2,f3,f4,f5⟩:=hf it (by simp)
  exact wpAny_pyNext_range_end (I.ok.hd hc) st (by have:n≤i:=hg;omega) fun h' eb=>⟨rfl,I.turned (t':=s.toks) (fun b o hb e=>eb b o hb e) f0 f1 f3 f4 f5⟩
 self:=fun _ _ _ _ _ st h=>wpAny_pyIter_rangeiter st h
end _L
namespace _L
open PySem PySem.Spec PyProof.Rows
section
variable {X:Cx}{tg:Expr}
theorem fX {pins:List (Addr × Obj)}{σ : St}{H:Hp}{s:Shared}{R:It→Hp→Prop}{E:Value→Shared→Prop}{lo hi:Int}{t u v:Tok}{tk:Nat}(I:Inv X pins σ H s)(h1 : -(2 ^ 62)≤lo)(h2:lo<2 ^ 62)(h3 : -(2 ^ 62)≤hi)(h4:hi<2 ^ 62)
  (q:R (Itr lo (hi-lo).toNat) H):wpAny (model X.prog X.w) X.A (pyIter (.ref s.heap.objs.size)) (PIE X pins σ tg R) E { s with heap:=s.heap.push { cls:=.type "range",data:=.fields #[.int lo t,.int hi u,.int 1 v] },toks:=tk }:=by
 refine wpAny_pyIter_range (IsRange.new ..) (small_one h1 h2 h3 h4) ?_
 have I1:Inv X pins σ H { s with heap:=s.heap.push { cls:=.type "range",data:=.fields #[.int lo t,.int hi u,.int 1 v] },toks:=tk }:=I.kept fun b o e=>Heap.get?_push_of_some _ e
 refine⟨(s.heap.push { cls:=.type "range",data:=.fields #[.int lo t,.int hi u,.int 1 v] }).objs.size,[(s.heap.push { cls:=.type "range",data:=.fields #[.int lo t,.int hi u,.int 1 v] }).objs.size],_,_,H,rfl,
  I1.kept (t':=tk) fun b o e=>Heap.get?_push_of_some _ e,lD _ lo (hi-lo).toNat,?_,fun b hb=>?_,q⟩
 ·have e1:lo+((0:Nat):Int)*1=lo:=by simp
  have e2:(((hi-lo).toNat:Nat):Int)-((0:Nat):Int)=Builtin.Range.rangeSize lo hi 1:=by rw[rangeSize_one];split <;> omega
  show IsRangeIter _ _ (lo+((0:Nat):Int)*1) ((((hi-lo).toNat:Nat):Int)-((0:Nat):Int)) 1
  rw[e1,e2]
  exact Heap.get?_push_size _ rfl
 ·have e:b=(s.heap.push { cls:=.type "range",data:=.fields #[.int lo t,.int hi u,.int 1 v] }).objs.size:=by simpa using hb
  subst e
  exact I1.fpOk (Nat.le_refl _) (I1.hok.fresh (Nat.le_refl _))
def G8 (wi:TI)(g:TG)(tb:TS):TS:=fun D σ H=>wi σ H fun J H1=>∃ W:Nat→Nat→St→Hp→Prop,(∃ m,W 0 m σ H1)∧∀ i m σ H,W i m σ H →
 (J.stop i H∧D.nx σ H)∨(J.go i H∧∃ N:St→Hp→Prop,(∀ σ' H',N σ' H'→∃ m',m'<m∧W (i+1) m' σ' H')∧∀ x H',J.yld i H x H'→g x σ H' fun σ2 H2=>tb { D with nx:=N,ct:=N,bk:=D.nx } σ2 H2)
def y0 (fp:List Addr)(h:Heap):List (Addr × Obj):=fp.filterMap fun b=>(h.get? b).map fun o=>(b,o)
theorem yR {fp:List Addr}{h:Heap}{b:Addr}{o:Obj}(hb:b∈fp)(e:h.get? b=some o):(b,o)∈y0 fp h:=List.mem_filterMap.mpr ⟨b,hb,by rw[e];rfl⟩
theorem pZ {fp:List Addr}{h:Heap}{p:Addr × Obj}(hp:p∈y0 fp h):p.1∈fp∧h.get? p.1=some p.2:=by
 obtain⟨b,hb,e⟩:=List.mem_filterMap.mp hp
 cases q:h.get? b with
 |none=>rw[q] at e;cases e
 |some o =>
  rw[q] at e
  have e':(b,o)=p:=Option.some.inj e
  subst e'
  exact⟨hb,q⟩
theorem Inv.pinned {pins:List (Addr × Obj)}{σ : St}{H:Hp}{s:Shared}{fp:List Addr}(I:Inv X pins σ H s)(hf:∀ b∈fp,zV X pins H b)(ho:∀ b∈fp,∃ o,s.heap.get? b=some o∧∀ v,o.data≠.cell v):Inv X (pins++y0 fp s.heap) σ H s:=
 I.pins_of fun p hp=>(List.mem_append.mp hp).elim (fun z=>I.pin p (List.mem_append_right _ z)) fun z=>by
  obtain⟨hb,e⟩:=pZ z
  obtain⟨f0,f1,f2,_⟩:=hf p.1 hb
  obtain⟨o,e',d⟩:=ho p.1 hb
  rw[e] at e';cases e'
  exact⟨e,f0,f1,f2,d⟩
theorem Inv.unpinned {pins pl:List (Addr × Obj)}{σ : St}{H:Hp}{s:Shared}(I:Inv X (pins++pl) σ H s):Inv X pins σ H s:=I.pins_of fun p hp=>I.pin p (List.mem_append_right _ (List.mem_append_left _ hp))
inductive ForI (X:Cx)(pins:List (Addr × Obj))(fp:List Addr)(tn:Nat→Heap→Prop)(W:Nat→Nat→St→Hp→Prop)(n:Nat)(s':Shared):Prop
 |mk (i:Nat) (σ' : St) (H':Hp) (I:Inv X pins σ' H' s') (t:tn i s'.heap) (f:∀ b∈fp,H' b=none) (w:W i n σ' H'):ForI X pins fp tn W n s'
theorem YA {iter:Expr}{body:List Stmt}{wi:TI}{g:TG}{tb:TS}{pos:Pos}(hp:PassesOwn (model X.prog X.w) X.A X.env X.xe)(hc:X.calm=true)(hi:PI X tg iter wi)(hg:PG X tg g)(hb:PSs X body tb)
  (hs:∀ x,foldedSetIterable iter X.env x=pure x:=by intro _;rfl):PS X (.For tg iter body [] pos) (G8 wi g tb):=by
 intro pins s σ H D I h
 refine wpAny_For (thn (hi pins s σ H _ I h) fun v s1 h1=>thn h1 fun itv s2 h2=>?_) hs
 obtain⟨it,fp,tn,J,H2,e,I2,T,st2,f2,W,⟨m0,w0⟩,turn⟩:=h2
 subst e
 have stat:∀ {H':Hp},(∀ b∈fp,H' b=none)→∀ b∈fp,zV X pins H' b:=fun hn b hb=>⟨hn b hb,(f2 b hb).2⟩
 refine codeAny_forLoop_any (ForI X pins fp tn W) ?_ m0 ⟨0,σ,H2,I2,st2,fun b hb=>(f2 b hb).1,w0⟩
 rintro n s3 ⟨i,σ3,H3,I3,st3,fr3,w3⟩
 rcases turn i n σ3 H3 w3 with⟨stop,qn⟩|⟨go,N,hN,step⟩
 ·refine wpAny_passesOwn hp (thn (T.done X rfl rfl rfl hc i pins s3 σ3 H3 X.xe I3 (stat fr3) st3 stop) fun r s4 ⟨hr,I4⟩=>?_)
  subst hr
  exact wpAny_execs_nil ⟨σ3,H3,I4,qn⟩
 ·refine wpAny_passesOwn hp (thn (T.item X rfl rfl rfl hc i pins s3 σ3 H3 X.xe I3 (stat fr3) st3 go) fun r s4 ⟨u,hr,h4⟩=>?_)
  subst hr
  refine wpAny_passesOwn hp (thn h4 fun _ s5 ⟨x,H5,I5,r5,y5,st5,fr5⟩=>?_)
  have I5':=I5.pinned (stat fr5) (T.obj _ _ st5)
  refine wpAny_passesOwn hp (thn (hg _ s5 σ3 H5 x u _ I5' r5 (step x H5 y5)) fun _ s6 ⟨σ6,H6,I6,q6⟩=>?_)
  refine wpAny_passesOwn hp (thn (hb _ s6 σ6 H6 _ I6 q6) fun f s7 q7=>?_)
  have again:∀ {σ7:St} {H7:Hp},Inv X (pins++y0 fp s5.heap) σ7 H7 s7→N σ7 H7→∃ m,m<n∧ForI X pins fp tn W m s7:=fun {σ7 H7} I7 n7=>by
   obtain⟨m',hm,w7⟩:=hN σ7 H7 n7
   refine⟨m',hm,i+1,σ7,H7,I7.unpinned,T.keep _ _ _ st5 fun b hb o e=>(I7.pin (b,o) (List.mem_append_right _ (List.mem_append_right _ (yR hb e)))).1,fun b hb=>?_,w7⟩
   obtain⟨o,e,d⟩:=T.obj _ _ st5 b hb
   exact(I7.pin (b,o) (List.mem_append_right _ (List.mem_append_right _ (yR hb e)))).2.1
  cases f with
  |next=>obtain⟨σ7,H7,I7,n7⟩:=q7;exact again I7 n7
  |cont=>obtain⟨σ7,H7,I7,n7⟩:=q7;exact again I7 n7
  |brk=>obtain⟨σ7,H7,I7,q7⟩:=q7;exact⟨σ7,H7,I7.unpinned,q7⟩
  |ret v=>obtain⟨x7,σ7,H7,I7,r7,q7⟩:=q7;exact⟨x7,σ7,H7,I7.unpinned,r7,q7⟩
end
end _L
namespace _L
open PySem PySem.Spec PyProof.Rows
abbrev R2:=V→V→Hp→VK→Prop
def OpR (X:Cx)(f:Value→Value→Sem Value)(r:R2):Prop:=
 ∀ (pins:List (Addr × Obj)) (s:Shared) (σ : St) (H:Hp) (x y:V) (v u:Value) (Q:VK),Inv X pins σ H s→qK x v→qK y u→r x y H Q →
  wpAny (model X.prog X.w) X.A (f v u) (EP X pins σ Q) X.xe s
def jQ (X:Cx)(f:Value)(r:List V→Hp→VK→Prop):Prop:=
 ∀ (pins:List (Addr × Obj)) (s:Shared) (σ : St) (H:Hp) (xs:List V) (us:List Value) (Q:VK),Inv X pins σ H s→qL xs us→r xs H Q →
  wpAny (model X.prog X.w) X.A (call f us) (EP X pins σ Q) X.xe s
def JY (X:Cx)(r:V→Hp→(Bool→Hp→Prop)→Prop):Prop:=
 ∀ (pins:List (Addr × Obj)) (s:Shared) (σ : St) (H:Hp) (x:V) (v:Value) (Q:Bool→Hp→Prop),Inv X pins σ H s→qK x v→r x H Q →
  wpAny (model X.prog X.w) X.A (truthy v) (TP X pins σ Q) X.xe s
def tOp (r:R2)(ta tb:TE):TE:=fun σ H Q=>ta σ H fun x H1=>tb σ H1 fun y H2=>r x y H2 Q
def rI (C:Int→Int→Prop)(g:Int→Int→V):R2:=fun x y H Q=>∃ i j,x=.int i∧y=.int j∧C i j∧Q (g i j) H
def rI0 (g:Int→Int→V):R2:=fun x y H Q=>∃ i j,x=.int i∧y=.int j∧Q (g i j) H
section
variable {X:Cx}{a b c:Expr}{ta tb tc:TE}{pos:Pos}
theorem K3 (ha:PE X a ta)(hb:PE X b tb){pins:List (Addr × Obj)}{s:Shared}{σ : St}{H:Hp}{R:V→V→Hp→Prop}(I:Inv X pins σ H s)
  (h:ta σ H fun x H1=>tb σ H1 fun y H2=>R x y H2) {Q:Value→Shared→Prop} {f:Value→Value→Sem Value}
  (hf:∀ v u s2 x y H2,Inv X pins σ H2 s2→qK x v→qK y u→R x y H2→wpAny (model X.prog X.w) X.A (f v u) Q X.xe s2) :
  wpAny (model X.prog X.w) X.A (eval a X.env) (fun v s₁=>wpAny (model X.prog X.w) X.A (eval b X.env) (fun u s₂=>wpAny (model X.prog X.w) X.A (f v u) Q X.xe s₂) X.xe s₁) X.xe s:=by
 refine thn (ha pins s σ H _ I h) fun v s1 ⟨x,H1,I1,r1,q1⟩=>?_
 refine thn (hb pins s1 σ H1 _ I1 q1) fun u s2 ⟨y,H2,I2,r2,q2⟩=>?_
 exact hf v u s2 x y H2 I2 r1 r2 q2
theorem opI {f:Value→Value→Sem Value}{C:Int→Int→Prop}{g:Int→Int→Int}
  (rule:∀ (i j:Int) (t u:Tok) (s:Shared) (Q:Value→Shared→Prop) (E:Value→Shared→Prop),C i j→Q (.int (g i j) s.toks) { s with toks:=s.toks+1 } → wpAny (model X.prog X.w) X.A (f (.int i t) (.int j u)) Q E s) :
  OpR X f (rI C fun i j=>.int (g i j)):=by
 intro pins s σ H x y v u Q I rx ry h
 obtain⟨i,j,rfl,rfl,hc,q⟩:=h
 obtain⟨t,rfl⟩:=rx
 obtain⟨t',rfl⟩:=ry
 exact rule i j t t' s _ _ hc ⟨.int (g i j),H,I.tok _,⟨_,rfl⟩,q⟩
theorem WT {f:Value→Value→Sem Value}{g:Int→Int→Int}
  (rule:∀ (i j:Int) (t u:Tok) (s:Shared) (Q:Value→Shared→Prop) (E:Value→Shared→Prop),Q (.int (g i j) s.toks) { s with toks:=s.toks+1 } → wpAny (model X.prog X.w) X.A (f (.int i t) (.int j u)) Q E s) :
  OpR X f (rI0 fun i j=>.int (g i j)):=by
 intro pins s σ H x y v u Q I rx ry h
 obtain⟨i,j,rfl,rfl,q⟩:=h
 obtain⟨t,rfl⟩:=rx
 obtain⟨t',rfl⟩:=ry
 exact rule i j t t' s _ _ ⟨.int (g i j),H,I.tok _,⟨_,rfl⟩,q⟩
theorem l0 {f:Value→Value→Sem Value}{g:Int→Int→Bool}
  (rule:∀ (i j:Int) (t u:Tok) (s:Shared) (Q:Value→Shared→Prop) (E:Value→Shared→Prop),Q (.bool (g i j)) s→wpAny (model X.prog X.w) X.A (f (.int i t) (.int j u)) Q E s) :
  OpR X f (rI0 fun i j=>.bl (g i j)):=by
 intro pins s σ H x y v u Q I rx ry h
 obtain⟨i,j,rfl,rfl,q⟩:=h
 obtain⟨t,rfl⟩:=rx
 obtain⟨t',rfl⟩:=ry
 exact rule i j t t' s _ _ ⟨.bl (g i j),H,I,rfl,q⟩
def JV (i j:Int):Prop:=0<j∧j<1073741824
def JW (i j:Int):Prop:=0≤j∧j≤1000000∧i.natAbs<2 ^ 64
def sV (i j:Int):Prop:=(-(2 ^ 64)<i∧i<2 ^ 64)∨(-(2 ^ 64)<j∧j<2 ^ 64)
theorem sV.ok {i j:Int}(h:sV i j):IntMulOk i j:=by
 rcases h with⟨h1,h2⟩|⟨h1,h2⟩
 ·exact .of_left (intBits_le_64 h1 h2)
 ·exact .of_right (intBits_le_64 h1 h2)
theorem WV:OpR X (binaryOp .Add) (rI0 fun i j=>.int (i+j)):=WT fun _ _ _ _ _ _ _ q=>add_int q
theorem Y0:OpR X (binaryOp .Sub) (rI0 fun i j=>.int (i-j)):=WT fun _ _ _ _ _ _ _ q=>sub_int q
theorem WY:OpR X (binaryOp .Mult) (rI sV fun i j=>.int (i*j)):=opI fun _ _ _ _ _ _ _ hc q=>mul_int q hc.ok
theorem oJ:OpR X (binaryOp .FloorDiv) (rI JV fun i j=>.int (i/j)):=opI fun i j _ _ _ _ _ hc q=>by
 have h1:(0:Int)<j:=hc.1
 have h2:j<1073741824:=hc.2
 exact floordiv_int (by omega) (by rw[Int.fdiv_eq_ediv_of_nonneg i (by omega)];exact q) (.inl (PyProof.noPylong_small (by omega)))
theorem WX:OpR X (binaryOp .Mod) (rI (fun _ j=>0<j) fun i j=>.int (i % j)):=opI fun i j _ _ _ _ _ hc q=>by
 have h1:(0:Int)<j:=hc
 exact mod_int' (by omega) (by rw[Int.fmod_eq_emod_of_nonneg i (by omega)];exact q)
theorem WZ:OpR X (binaryOp .Pow) (rI JW fun i j=>.int (i ^ j.toNat)):=opI fun _ _ _ _ _ _ _ hc q=>pow_int_small hc.1 hc.2.1 hc.2.2 q
end
section
variable {X:Cx}{a b c:Expr}{ta tb tc:TE}{pos:Pos}
theorem XJ {pins:List (Addr × Obj)}{σ : St}{H:Hp}{s:Shared}{Q:VK}{k k':Bool}(I:Inv X pins σ H s)(q:Q (.bl k) H)(e:k=k'):EP X pins σ Q (.bool k') s:=by
 subst e
 exact⟨.bl k,H,I,rfl,q⟩
theorem US:OpR X (compareOp .Lt) (rI0 fun i j=>.bl (decide (i<j))):=l0 fun _ _ _ _ _ _ _ q=>lt_int q
theorem UR:OpR X (compareOp .LtE) (rI0 fun i j=>.bl (decide (i≤j))):=l0 fun _ _ _ _ _ _ _ q=>le_int q
theorem UQ:OpR X (compareOp .Gt) (rI0 fun i j=>.bl (decide (j<i))):=l0 fun _ _ _ _ _ _ _ q=>gt_int q
theorem UP:OpR X (compareOp .GtE) (rI0 fun i j=>.bl (decide (j≤i))):=l0 fun _ _ _ _ _ _ _ q=>ge_int q
theorem WW:OpR X (compareOp .Is) (fun x y H Q=>y=.non∧Q (.bl (decide (x=.non))) H):=by
 intro pins s σ H x y v u Q I rx ry h
 obtain⟨rfl,q⟩:=h
 cases ry
 refine is_none_gen (XJ I q ?_)
 cases x <;> first
  |(cases rx;rfl)
  |(obtain⟨t,rfl⟩:=rx;rfl)
theorem OpR.or {f:Value→Value→Sem Value}{r r':R2}(h:OpR X f r)(h':OpR X f r'):OpR X f (fun x y H Q=>r x y H Q∨r' x y H Q):=by
 intro pins s σ H x y v u Q I rx ry q
 rcases q with q|q
 ·exact h pins s σ H x y v u Q I rx ry q
 ·exact h' pins s σ H x y v u Q I rx ry q
theorem uD (b:Expr){op:CmpOp}(h:op≠.In:=by decide)(h2:op≠.NotIn:=by decide):behindInMarks op b=false:=by
 have e1:(op == CmpOp.In)=false:=by cases op <;> first|rfl|exact absurd rfl h
 have e2:(op == CmpOp.NotIn)=false:=by cases op <;> first|rfl|exact absurd rfl h2
 cases b <;> simp[behindInMarks,e1,e2]
def nD (K:PySem.W.Frag)(x:V)(H:Hp)(k:Bool):Prop:=
 match x with
 |.non=>k=false
 |.bl b=>k=b
 |.int i=>k=(i != 0)
 |.str y=>y.length≤sizeLine∧k=((y.length:Int) != 0)
 |.byt y=>y.size≤sizeLine∧k=((y.size:Int) != 0)
 |.ref p=>(∃ xs,SqL K H p xs∧k=!xs.isEmpty)∨(∃ xs,SqT K H p xs∧k=!xs.isEmpty)∨∃ kvs,H p=some (.dK kvs)∧k=!kvs.isEmpty
 |_=>False
theorem nU {κ : Type}{kvs:List (κ × V)}{vs:List (κ × Value)}(r:KV kvs vs):(!vs.isEmpty)=!kvs.isEmpty:=by
 cases r <;> rfl
theorem gF {xs:List V}{its:List Value}(r:qL xs its):(!its.toArray.isEmpty)=!xs.isEmpty:=by
 cases r <;> simp
theorem jH:(sizeLine:Nat)<2 ^ 63:=by rw[sizeLine_eq];decide
theorem gP:JY X (fun x H Q=>∃ k,nD X.K x H k∧Q k H):=by
 intro pins s σ H x v Q I rx h
 obtain⟨k,e,q⟩:=h
 have hl:=jH
 have hs:sizeLine=16777216:=sizeLine_eq
 cases x with
 |non =>
  cases rx
  have e':k=false:=e
  subst e'
  exact truthy_none ⟨H,I,q⟩
 |bl b =>
  cases rx
  have e':k=b:=e
  subst e'
  exact wpAny_truthy_bool ⟨H,I,q⟩
 |int i =>
  obtain⟨t,rfl⟩:=rx
  have e':k=(i != 0):=e
  subst e'
  exact PySem.P.truthy_int ⟨H,I,q⟩
 |str y =>
  obtain⟨t,rfl⟩:=rx
  obtain⟨hy,e'⟩:y.length≤sizeLine∧k=((y.length:Int) != 0):=e
  subst e'
  exact PySem.P.truthy_str (by omega) ⟨H,I.tok _,q⟩
 |byt y =>
  obtain⟨t,rfl⟩:=rx
  obtain⟨hy,e'⟩:y.size≤sizeLine∧k=((y.size:Int) != 0):=e
  subst e'
  exact PySem.W.truthy_bytes (by omega) ⟨H,I.tok _,q⟩
 |ref p =>
  cases rx
  have e':(∃ xs,SqL X.K H p xs∧k=!xs.isEmpty)∨(∃ xs,SqT X.K H p xs∧k=!xs.isEmpty)∨∃ kvs,H p=some (.dK kvs)∧k=!kvs.isEmpty:=e
  rcases e' with⟨xs,hx,e'⟩|⟨xs,hx,e'⟩|⟨kvs,hx,e'⟩
  ·subst e'
   obtain⟨its,r,pl,hz⟩:=I.list hx
   have hlen:=r.length
   exact wpAny_truthy_list pl.isList (by simp only[List.size_toArray];omega) ⟨H,I.tok _,by rw[gF r];exact q⟩
  ·subst e'
   obtain⟨its,r,pl,hz⟩:=I.tuple hx
   have hlen:=r.length
   exact truthy_tuple pl (by simp only[List.size_toArray];omega) ⟨H,I.tok _,by rw[gF r];exact q⟩
  ·subst e'
   obtain⟨hz,hS,vs,r,m⟩:kvs.length≤sizeLine∧(p == sysModules)=false∧∃ vs,KV kvs vs∧s.heap.DictOf (zQ X.prog X.w) p vs:=I.hok p _ hx
   have hlen:kvs.length=vs.length:=Paired.length r
   exact wpAny_truthy_dict hS m (by omega) ⟨H,I.tok _,by rw[nU r];exact q⟩
 |_=>exact(show False from e).elim
theorem l7:OpR X (binaryOp .Add) (fun x y H Q=>∃ i j,x=.str i∧y=.str j∧i.length+j.length≤sizeLine∧Q (.str (i++j)) H):=by
 intro pins s σ H x y v u Q I rx ry h
 obtain⟨i,j,rfl,rfl,hz,q⟩:=h
 obtain⟨t,rfl⟩:=rx
 obtain⟨t',rfl⟩:=ry
 exact add_str (fun t' tk=>⟨.str (i++j),H,I.tok _,⟨_,rfl⟩,q⟩) hz
theorem k9 {x:V}{us:List Value}(r:qL [x] us):∃ u,us=[u]∧qK x u:=by
 cases r with
 |cons r1 r2=>cases r2;exact⟨_,rfl,r1⟩
theorem bM {x y:V}{us:List Value}(r:qL [x,y] us):∃ u w',us=[u,w']∧qK x u∧qK y w':=by
 cases r with
 |cons r1 r2 =>
  cases r2 with
  |cons r3 r4=>cases r4;exact⟨_,_,rfl,r1,r3⟩
theorem pQ:jQ X (.type "int") (fun xs H Q=>(∃ i,xs=[.int i]∧Q (.int i) H)∨∃ k,xs=[.bl k]∧Q (.int (if k then 1 else 0)) H):=by
 intro pins s σ H xs us Q I r h
 rcases h with⟨i,rfl,q⟩|⟨k,rfl,q⟩
 ·obtain⟨u,rfl,t,rfl⟩:=k9 r
  exact call_int_int ⟨.int i,H,I,⟨_,rfl⟩,q⟩
 ·obtain⟨u,rfl,r1⟩:=k9 r
  cases r1
  exact call_int_bool ⟨.int (if k then 1 else 0),H,I.tok _,⟨_,rfl⟩,q⟩
def QU (K:PySem.W.Frag)(x:V)(H:Hp)(n:Nat):Prop:=
 match x with
 |.str y=>y.length≤sizeLine∧n=y.length
 |.byt y=>y.size≤sizeLine∧n=y.size
 |.ref p=>(∃ xs,SqL K H p xs∧n=xs.length)∨∃ xs,SqT K H p xs∧n=xs.length
 |_=>False
theorem sY:jQ X (.builtin "len") (fun xs H Q=>∃ x n,xs=[x]∧QU X.K x H n∧Q (.int n) H):=by
 intro pins s σ H xs us Q I r h
 obtain⟨x,n,rfl,e,q⟩:=h
 obtain⟨u,rfl,rx⟩:=k9 r
 have hl:=jH
 have hs:sizeLine=16777216:=sizeLine_eq
 cases x with
 |str y =>
  obtain⟨t,rfl⟩:=rx
  obtain⟨hy,e'⟩:y.length≤sizeLine∧n=y.length:=e
  subst e'
  exact len_str (by omega) ⟨.int _,H,I.tok _,⟨_,rfl⟩,q⟩
 |byt y =>
  obtain⟨t,rfl⟩:=rx
  obtain⟨hy,e'⟩:y.size≤sizeLine∧n=y.size:=e
  subst e'
  exact PySem.W.len_bytes (by omega) ⟨.int _,H,I.tok _,⟨_,rfl⟩,q⟩
 |ref p =>
  cases rx
  have e':(∃ xs,SqL X.K H p xs∧n=xs.length)∨∃ xs,SqT X.K H p xs∧n=xs.length:=e
  rcases e' with⟨xs,hx,e'⟩|⟨xs,hx,e'⟩
  ·subst e'
   obtain⟨its,r',pl,hz⟩:=I.list hx
   have hlen:=r'.length
   exact Calls.call_len_list pl.isList (by simp only[List.size_toArray];omega) ⟨.int xs.length,H,I.tok _,⟨_,by simp only[List.size_toArray];rw[hlen]⟩,q⟩
  ·subst e'
   obtain⟨its,r',pl,hz⟩:=I.tuple hx
   have hlen:=r'.length
   exact len_tuple pl (by simp only[List.size_toArray];omega) ⟨.int xs.length,H,I.tok _,⟨_,by simp only[List.size_toArray];rw[hlen]⟩,q⟩
 |_=>exact(show False from e).elim
end
end _L
namespace _L
open PySem PySem.Spec PyProof.Rows
structure ObjM (h:Heap)(x dx C:Addr)(mA:Str→Option Value):Prop where
 obj:h.get? x=some (PySem.W.instObj C dx)
 ns:h.Ns1 dx mA
 ne:dx≠x
set_option tactic.hygienic true in
theorem dI {h:Heap}{dx:Addr}{mA:Str→Option Value}(n:h.Ns1 dx mA):∃ od,h.get? dx=some od∧∀ name,PySem.W.lookIn name od=some (mA name):=by
 obtain⟨o,es,ep,ho,hd,hk,_,hm⟩:=n
 refine⟨o,ho,fun name=>?_⟩
 have e:=hm name
 unfold nsFind findBy at e
 rw[← Array.find?_toList] at e
 unfold PySem.W.lookIn
 rw[hd]
 dsimp only
 split
 ·rename_i y q
  rw[q] at e
  exact congrArg some e
 ·rename_i q
  rw[q] at e
  have a:es.toList.any (·.refKey)=false:=by
   rw[List.any_eq_false]
   intro y hy
   obtain⟨z,t,hkey⟩:=hk y (Array.mem_toList_iff.mp hy)
   simp[DictEntry.refKey,hkey]
  have a':¬ es.toList.any (·.refKey)=true:=by rw[a];exact Bool.false_ne_true
  rw[if_neg a']
  exact congrArg some e
theorem ObjM.look {h:Heap}{x dx C:Addr}{mA:Str→Option Value}(I:ObjM h x dx C mA):∃ od,PySem.W.InstAt h x (PySem.W.instObj C dx) C (some od)∧∀ name,PySem.W.lookIn name od=some (mA name):=
 let ⟨od,ho,hl⟩:=dI I.ns
 ⟨od,⟨I.obj,rfl,rfl,ho⟩,hl⟩
section
variable {P:Program}{w:World}{H H':Hp}{h h':Heap}{a C dx:Addr}{fs fs':List (Str × V)}
theorem iS (hok:HOk P w H h)(e:H a=some (.ins C dx fs)):∃ mA,ObjM h a dx C mA∧(∀ f,j7 (fs.lookup f) (mA f))∧PySem.Within mA (fs.map (·.1))∧fs.length≤1000∧H dx=some (.own a):=by
 obtain⟨d,z,ne,ob,mA,n,r,q⟩:=(show qY P w H h a (.ins C dx fs) from hok a _ e)
 exact⟨mA,⟨ob,n,ne⟩,r,q,z,d⟩
end
structure Cls (K:PySem.W.Frag)(C:Addr):Prop where
 pg:PySem.W.plainGet K C Str.empty=true
 hd:PySem.W.hasDictIn K C=true
 po:PySem.W.plainOver K C=true
 sa:PySem.W.findIn K (.ref C) "__setattr__" = some (some (.builtin "object.__setattr__"))
theorem Cls.get {K:PySem.W.Frag}{C:Addr}(c:Cls K C)(f:Str):PySem.W.plainGet K C f=true:=c.pg
section
variable {X:Cx}{pins:List (Addr × Obj)}{σ : St}{H:Hp}{s:Shared}{A:Around}{E:Value→Shared→Prop}{Q:Value→Shared→Prop}{c:Value}{b:Bool}
inductive TyOf (K:PySem.W.Frag)(H:Hp):V→Value→Prop where
 |non:TyOf K H .non (.type "NoneType")
 |bl (x:Bool):TyOf K H (.bl x) (.type "bool")
 |int (i:Int):TyOf K H (.int i) (.type "int")
 |str (x:Str):TyOf K H (.str x) (.type "str")
 |flt (x:UInt64):TyOf K H (.flt x) (.type "float")
 |lst {a:Addr} {xs:List V} (e:H a=some (.lst xs)):TyOf K H (.ref a) (.type "list")
 |frz {a:Addr} {o:Obj} {xs:List V} (e:H a=some (.frz o (.lst xs))):TyOf K H (.ref a) (.type "list")
 |tup {a:Addr} {xs:List V} (e:H a=some (.tup xs)):TyOf K H (.ref a) (.type "tuple")
 |dK {a:Addr} {kvs:List (Key × V)} (e:H a=some (.dK kvs)):TyOf K H (.ref a) (.type "dict")
 |dT {a:Addr} {kvs:List (List Key × V)} (e:H a=some (.dT kvs)):TyOf K H (.ref a) (.type "dict")
 |ins {a C dx:Addr} {fs:List (Str × V)} (e:H a=some (.ins C dx fs)) (cl:Cls K C) (ha:PySem.W.findIn K (.ref C) "__class__" = some (some (.builtin "object.__class__")))
   (hn:PySem.W.specialIn K (.builtin "object.__class__") "__get__" = some (some (.builtin "getset_descriptor.__get__"))) (htk:PySem.W.takesIn K (.builtin "object.__class__")=some true)
   (hm:PySem.W.mroIn K C (.type "object")=some true):TyOf K H (.ref a) (.ref C)
theorem d8 {x:V}{u t:Value}(I:Inv X pins σ H s)(rx:qK x u)(ty:TyOf X.K H x t)(e:PySem.W.kitOne X.K t c=some b)(h:∀ tk,Q (.bool b) { s with toks:=tk }) :
  wpAny (model X.prog X.w) A (call (.builtin "isinstance") [u,c]) Q E s:=by
 cases ty with
 |non=>cases (show u=Value.none from rx);exact PySem.W.kia_one PySem.W.kitx_none I.kIn True.intro e (fun z=>nomatch z) h
 |bl y=>cases (show u=Value.bool y from rx);exact PySem.W.kia_one PySem.W.kitx_bool I.kIn True.intro e (fun z=>nomatch z) h
 |int i=>obtain⟨t,q⟩:=(show ∃ t,u=Value.int i t from rx);cases q;exact PySem.W.kia_one PySem.W.kitx_int I.kIn True.intro e (fun z=>nomatch z) h
 |str y=>obtain⟨t,q⟩:=(show ∃ t,u=Value.str y t from rx);cases q;exact PySem.W.kia_one PySem.W.kitx_str I.kIn True.intro e (fun z=>nomatch z) h
 |flt y=>obtain⟨t,q⟩:=(show ∃ t,u=Value.float y t from rx);cases q;exact PySem.W.kia_one PySem.W.kitx_float I.kIn True.intro e (fun z=>nomatch z) h
 |@lst a xs ea =>
  cases (show u=Value.ref a from rx)
  obtain⟨_,_,n,_,h1⟩:=(show qY X.prog X.w H s.heap a (.lst xs) from I.hok a _ ea)
  exact PySem.W.kia_one PySem.W.kitx_list I.kIn ⟨_,h1,rfl⟩ e (fun z=>nomatch z) h
 |@frz a ob xs ea =>
  cases (show u=Value.ref a from rx)
  obtain⟨_,_,_,n,_,h1⟩:=(show qY X.prog X.w H s.heap a (.frz ob (.lst xs)) from I.hok a _ ea)
  exact PySem.W.kia_one PySem.W.kitx_list I.kIn ⟨_,h1,rfl⟩ e (fun z=>nomatch z) h
 |@tup a xs ea =>
  cases (show u=Value.ref a from rx)
  obtain⟨_,_,_,p⟩:=(show qY X.prog X.w H s.heap a (.tup xs) from I.hok a _ ea)
  obtain⟨o,h1,h2,_⟩:=p
  exact PySem.W.kia_one PySem.W.kitx_tuple I.kIn ⟨o,h1,h2⟩ e (fun z=>nomatch z) h
 |@dK a kvs ea =>
  cases (show u=Value.ref a from rx)
  obtain⟨_,_,vs,_,p⟩:=(show qY X.prog X.w H s.heap a (.dK kvs) from I.hok a _ ea)
  obtain⟨o,es,ep,h1,h2,_⟩:=p
  exact PySem.W.kia_one PySem.W.kitx_dict I.kIn ⟨o,h1,h2.1⟩ e (fun z=>nomatch z) h
 |@dT a kvs ea =>
  cases (show u=Value.ref a from rx)
  obtain⟨_,_,xs,_,o,es,ep,h1,h2,_⟩:=(show qY X.prog X.w H s.heap a (.dT kvs) from I.hok a _ ea)
  exact PySem.W.kia_one PySem.W.kitx_dict I.kIn ⟨o,h1,h2.1⟩ e (fun z=>nomatch z) h
 |@ins a C dx fs ea cl ha hn htk hm =>
  cases (show u=Value.ref a from rx)
  obtain⟨mA,O,_⟩:=iS I.hok ea
  obtain⟨od,J,_⟩:=O.look
  exact PySem.W.kia_one (PySem.W.kitx_own (cl.get _) cl.hd ha hn htk hm) I.kIn J e (fun z=>nomatch z) h
end
end _L
namespace _L
open PySem PySem.Spec PyProof.Rows
structure Room (k:Nat)(A:Around):Prop where
 hd:A.handled=none
 dp:A.depth+3*k+5<recursionLimit
 un:A.units+16*k+200<cLine
 gd:A.guards=some []
theorem Room.deeper {k:Nat}{A:Around}(r:Room (k+1) A)(env:Env):Room k (A.deeper env):=
 ⟨r.hd,by have:=r.dp;show A.depth+1+3*k+5<_;omega,by have:=r.un;show A.units+3+16*k+200<_;omega,r.gd⟩
theorem Room.depth {k:Nat}{A:Around}(r:Room k A):A.depth<recursionLimit:=by have:=r.dp;omega
theorem Room.units {k:Nat}{A:Around}(r:Room k A):A.units+64<cLine:=by have:=r.un;omega
def GA:TA:=fun _ H Q=>Q [] H
section
variable {X:Cx}{e:Expr}{es:List Expr}{te:TE}{t:TA}{pos:Pos}
theorem Y1:PA X [] GA:=fun _ _ _ _ H Q I h=>Calls.spliced_nil ⟨[],H,I,.nil,h⟩
def GD (t:TA):TE:=fun σ H Q=>t σ H fun xs H1=>xs.length≤sizeLine∧∀ p,H1 p=none→Q (.ref p) (upd H1 p (.tup xs))
def G9 (t:TA):TE:=fun σ H Q=>t σ H fun xs H1=>xs.length≤sizeLine∧∀ p,H1 p=none→Q (.ref p) (upd H1 p (.lst xs))
theorem Y6 {x1} (h:PA X es t):PE X (.Tuple es x1 pos) (GD t):=by
 intro pins s σ H Q I hq
 refine wpAny_Tuple_spliced (thn (h pos pins s σ H _ I hq) fun us s1 ⟨xs,H1,I1,r,z,q⟩=>⟨by rw[← r.length];exact z,?_⟩)
 have hf:H1 s1.heap.objs.size=none:=I1.hok.fresh (Nat.le_refl _)
 refine⟨.ref s1.heap.objs.size,upd H1 s1.heap.objs.size (.tup xs),I1.laid (t':=s1.toks) (fun b u e=>Heap.get?_push_of_some _ e) (Nat.le_refl _) ?_,rfl,q _ hf⟩
 exact⟨z,us,r,⟨_,Heap.get?_push_size _ rfl,rfl,_,rfl⟩⟩
theorem dQ (h:PA X es t):PE X (.List es pos) (G9 t):=by
 intro pins s σ H Q I hq
 refine wpAny_List_spliced (thn (h pos pins s σ H _ I hq) fun us s1 ⟨xs,H1,I1,r,z,q⟩=>⟨by rw[← r.length];exact z,?_⟩)
 have hf:H1 s1.heap.objs.size=none:=I1.hok.fresh (Nat.le_refl _)
 refine⟨.ref s1.heap.objs.size,upd H1 s1.heap.objs.size (.lst xs),I1.laid (t':=s1.toks) (fun b u e=>Heap.get?_push_of_some _ e) (Nat.le_refl _) ?_,rfl,q _ hf⟩
 exact⟨z,us,0,r,Heap.get?_push_size _ rfl⟩
end
abbrev Sp:=List V→Hp→VK→XK→Prop
abbrev CXT:=List Env→Hp→Shared→XK→Value→Shared→Prop
structure Env0 (P:Program)(w:World)(K:PySem.W.Frag)(mg:Str→Option Value)(base:Heap)(A:Around)(outer:List Env)(s:Shared)(H:Hp):Prop where
 frames:A.frames=some outer
 mod:Mod K mg base
 bs:∀ b o,base.get? b=some o→s.heap.get? b=some o∧H b=none
 bsz:base.objs.size≤s.heap.objs.size
 funs:s.heap.FunFrames base outer
 frf:∀ b∈frs outer,H b=none
 hok:HOk P w H s.heap
 bare:AllBare s.gens
def CE (outer:List Env)(P:Program)(w:World)(H:Hp)(s:Shared)(Q:VK)(u:Value)(s':Shared):Prop:=
 ∃ v H',s'.os=s.os∧AllBare s'.gens∧Un (frs outer) [] H H' s.heap s'.heap∧HOk P w H' s'.heap∧qK v u∧Q v H'
def CR (CX:CXT)(outer:List Env)(P:Program)(w:World)(H:Hp)(s:Shared)(Q:VK)(E:XK)(r:Result)(s':Shared):Prop:=
 match r with
 |.ok (.ret u)=>CE outer P w H s Q u s'
 |.ok _=>False
 |.error e=>CX outer H s E e s'
structure FnOk (P:Program)(w:World)(K:PySem.W.Frag)(mg:Str→Option Value)(base:Heap)(CX:CXT)(k:Nat)(f:Addr)(fd:FuncData)(ps:List Str)(sp:Sp):Prop where
 len:∀ vs H Q E,sp vs H Q E→vs.length=ps.length
 run:∀ (A:Around) (outer:List Env) (s:Shared) (H:Hp) (args:Args) (us:List Value) (vs:List V) (Q:VK) (E:XK),Room k A→Env0 P w K mg base A outer s H→BindsTo s fd args (ps.zip us)→qL vs us→sp vs H Q E →
  codeAny (model P w) A (.call (.ref f) args) (CR CX outer P w H s Q E) s
section
variable {X:Cx}{pins:List (Addr × Obj)}{σ : St}{H:Hp}{s s':Shared}
theorem Inv.env0 (I:Inv X pins σ H s):Env0 X.prog X.w X.K X.mg X.base X.A X.stack s H:=
 ⟨I.ok.frames,I.ok.mod,I.bs,Nat.le_trans I.ok.bsz I.sz,I.stack,I.stkFree,I.hok,I.bare⟩
theorem Inv.after {Q:VK}{u:Value}(I:Inv X pins σ H s)(h:CE X.stack X.prog X.w H s Q u s'):EP X pins σ Q u s':=by
 obtain⟨v,H',os,bare,un,hok,r,q⟩:=h
 obtain⟨hh,g,d,t,os'⟩:=s'
 obtain rfl:os'=s.os:=os
 exact⟨v,H',I.call (h':=hh) (g':=g) (d':=d) (t':=t) (ch:=[]) un hok bare (fun b z=>absurd z (by simp)),r,q⟩
end
def yF (K:PySem.W.Frag)(fd:FuncData)(ps:List Str)(ds:List Value):Prop:=
 ∀ (s:Shared) (us:List Value),K.In s.heap→(us++ds).length=ps.length→BindsTo s fd ⟨us,[]⟩ (ps.zip (us++ds))
theorem yF.all {K:PySem.W.Frag}{fd:FuncData}{ps:List Str}(h:∀ us:List Value,us.length=ps.length→bindArgs fd ⟨us,[]⟩=pure (ps.zip us)):yF K fd ps []:=fun s us _ hl=>by
 rw[List.append_nil] at hl ⊢
 exact .of_eq (h us hl)
structure FnScope (N P:List Str)(sc:Scope):Prop where
 kind:sc.kind=.function
 co:sc.isCoroutine=false
 gen:sc.isGenerator=false
 nd:N.Nodup
 pre:N.take P.length=P
 par:∀ x∈P,sc.names.lookup x=some .local ∨ sc.names.lookup x=some .cell
 nofree:∀ y∈sc.names,y.2≠.free
theorem pO {kindOf:Str→Option NameKind}{x:Str}:∀ {binds:List (Str × Value)} {m:Str→Option Value},(∀ v,(x,v) ∉ binds)→bindL kindOf binds m x=m x
 |[],_,_=>rfl
 |(n,v)::r,m,h=>by
  unfold bindL
  rw[pO fun w hw=>h w (List.mem_cons_of_mem _ hw)]
  split
  ·have:x≠n:=by rintro rfl;exact h v List.mem_cons_self
   simp[this]
  ·rfl
theorem pM {kindOf:Str→Option NameKind}{x:Str}:∀ {binds:List (Str × Value)} {m:Str→Option Value},(∀ v,(x,v) ∉ binds)→bindC kindOf binds m x=m x
 |[],_,_=>rfl
 |(n,v)::r,m,h=>by
  unfold bindC
  rw[pM fun w hw=>h w (List.mem_cons_of_mem _ hw)]
  split
  ·rfl
  ·have:x≠n:=by rintro rfl;exact h v List.mem_cons_self
   simp[this]
theorem pN {kindOf:Str→Option NameKind}{x:Str}{v:Value}:∀ {P:List Str} {vs:List Value} {i:Nat} {m:Str→Option Value},P.Nodup→P[i]? = some x→vs[i]? = some v→kindOf x=some .local →
  bindL kindOf (P.zip vs) m x=some v
 |[],_,_,_,_,h,_,_=>by simp at h
 |_::_,[],_,_,_,_,h,_=>by simp at h
 |p::P,w::vs,0,m,nd,h1,h2,hk=>by
  simp at h1 h2;subst h1;subst h2
  show bindL kindOf ((p,w)::P.zip vs) m p=_
  unfold bindL
  rw[pO fun v hv=>(List.nodup_cons.mp nd).1 (List.of_mem_zip hv).1,if_pos hk]
  simp
 |p::P,w::vs,i+1,m,nd,h1,h2,hk=>by
  show bindL kindOf ((p,w)::P.zip vs) m x=_
  unfold bindL
  exact pN (i:=i) (List.nodup_cons.mp nd).2 (by simpa using h1) (by simpa using h2) hk
theorem pL {kindOf:Str→Option NameKind}{x:Str}{v:Value}:∀ {P:List Str} {vs:List Value} {i:Nat} {m:Str→Option Value},P.Nodup→P[i]? = some x→vs[i]? = some v→kindOf x≠some .local →
  bindC kindOf (P.zip vs) m x=some v
 |[],_,_,_,_,h,_,_=>by simp at h
 |_::_,[],_,_,_,_,h,_=>by simp at h
 |p::P,w::vs,0,m,nd,h1,h2,hk=>by
  simp at h1 h2;subst h1;subst h2
  show bindC kindOf ((p,w)::P.zip vs) m p=_
  unfold bindC
  rw[pM fun v hv=>(List.nodup_cons.mp nd).1 (List.of_mem_zip hv).1,if_neg hk]
  simp
 |p::P,w::vs,i+1,m,nd,h1,h2,hk=>by
  show bindC kindOf ((p,w)::P.zip vs) m x=_
  unfold bindC
  exact pL (i:=i) (List.nodup_cons.mp nd).2 (by simpa using h1) (by simpa using h2) hk
def xA (N:List Str)(vs:List V):St:=vs.map some++List.replicate (N.length-vs.length) none
def gW (CX:CXT)(P:Program)(w:World)(K:PySem.W.Frag)(mg:Str→Option Value)(base:Heap)(N:List Str)(qual:Str)(scope:Scope)(f:Addr)(cd:Value)(A:Around)(outer:List Env)(s:Shared)(H:Hp)(E:XK):Cx where
 prog:=P
 w:=w
 K:=K
 mg:=mg
 base:=base
 A:=A.deeper (envOfC qual scope s.heap.objs.size f cd)
 N:=N
 s₀:=s
 H₀:=H
 env:=envOfC qual scope s.heap.objs.size f cd
 outer:=outer
 stack:=envOfC qual scope s.heap.objs.size f cd::outer
 ex:=[]
 calm:=true
 fn:=fun _=>true
 pn:=[]
 xe:=fun e s'=>wpAny (model P w) (A.deeper (envOfC qual scope s.heap.objs.size f cd)) (leaving (envOfC qual scope s.heap.objs.size f cd) e) (fun _ s''=>CX outer H s E e s'') (fun e' s''=>CX outer H s E e' s'') s'
theorem bV {sc:Scope}{n:Nat}{x:Str}(h:sc.names.lookup x=some .cell):∃ c,(cellsFrom n sc.names []).lookup x=some c:=by
 have q:=PySem.W.cellsFrom_some sc.names n [] (.inl h)
 exact Option.isSome_iff_exists.mp q
theorem pV {CX:CXT}{P:Program}{w:World}{K:PySem.W.Frag}{mg:Str→Option Value}{base:Heap}{N ps:List Str}{qual:Str}{scope:Scope}{f:Addr}{cd:Value}{A:Around}{outer:List Env}{s s1:Shared}{H:Hp}{E:XK}{us:List Value}{vs:List V}
  (S:FnScope N ps scope) (hd:A.handled=none) (e0:Env0 P w K mg base A outer s H) (hl:vs.length=ps.length) (r:qL vs us)
  (x:InCallC s s.heap.objs.size (bindL (envOfC qual scope s.heap.objs.size f cd).kindOf (ps.zip us) fun _=>none) (cellsFrom (s.heap.objs.size+1) scope.names []) (bindC (envOfC qual scope s.heap.objs.size f cd).kindOf (ps.zip us) fun _=>none) s1) :
  Inv (gW CX P w K mg base N qual scope f cd A outer s H E) [] (xA N vs) H s1:=by
 have hpl:ps.length≤N.length:=by have:=congrArg List.length S.pre;rw[List.length_take] at this;omega
 obtain⟨h1,tk,rfl,hk⟩:=x.done
 have noA:∀ b:Addr,b ∉ (gW CX P w K mg base N qual scope f cd A outer s H E).ex:=fun b z=>absurd (show b∈([]:List Addr) from z) (by simp)
 refine⟨⟨e0.mod,S.kind,rfl,rfl,Nat.le_refl _,fun y z c h1 h2=>?_,fun y hy=>?_,fun y c _ h=>?_,fun _=>hd,Around.frames_deeper e0.frames,.inr ⟨rfl,rfl⟩,fun b z=>absurd z (noA b),e0.bs,e0.bsz,fun b _ _=>noA b,fun b z=>absurd z (noA b),e0.funs,e0.frf⟩,
  rfl,e0.bare,Un.kept hk,⟨_,x.toInCall.ns,fun i y v h1 h2 h3=>?_⟩,fun y c h=>⟨_,x.cell y c h⟩,e0.hok.fresh (Nat.le_refl _),fun y c h=>?_,fun p hp=>absurd (show p∈([]:List (Addr × Obj)) from hp) (by simp),e0.hok.kept hk,?_⟩
 ·exact name_of_addr x.apart (PySem.mem_of_lookup h1) (PySem.mem_of_lookup h2)
 ·have hy:scope.names.lookup y=some .cell∨scope.names.lookup y=some .free:=hy
  rcases hy with hy|hy
  ·exact bV hy
  ·exact absurd rfl (S.nofree _ (PySem.mem_of_lookup hy))
 ·exact Nat.le_of_lt (x.above y c (PySem.mem_of_lookup h))
 ·have hi:i<vs.length:=by
   unfold xA at h2
   by_cases hi:i<vs.length
   ·exact hi
   ·rw[List.getElem?_append_right (by simpa using hi)] at h2
    rw[List.getElem?_replicate] at h2
    split at h2 <;> cases h2
  have ha:vs[i]? = some v:=by
   unfold xA at h2
   rw[List.getElem?_append_left (by simpa using hi),List.getElem?_map] at h2
   cases e:vs[i]? with
   |none=>rw[e] at h2;cases h2
   |some a=>rw[e] at h2;cases h2;rfl
  obtain⟨u,hu,rv⟩:=r.get ha
  have hp:ps[i]? = some y:=by
   rw[← S.pre,List.getElem?_take_of_lt (by omega)];exact h1
  have ndP:ps.Nodup:=by rw[← S.pre];exact S.nd.sublist (List.take_sublist _ _)
  refine⟨u,rv,?_⟩
  rcases S.par y (List.mem_of_getElem? hp) with k|k
  ·exact .inl ⟨k,pN ndP hp hu k⟩
  ·obtain⟨c,e⟩:=bV (n:=s.heap.objs.size+1) k
   refine .inr ⟨.inl k,c,e,?_⟩
   have q:=x.cell y c e
   rw[pL ndP hp hu (by show scope.names.lookup y≠_;rw[k];decide)] at q
   exact q
 ·exact e0.hok.fresh (Nat.le_of_lt (x.above y c (PySem.mem_of_lookup h)))
 ·unfold xA
  show _=N.length
  rw[List.length_append,List.length_map,List.length_replicate]
  omega
theorem U5 {CX:CXT}{P:Program}{w:World}{K:PySem.W.Frag}{mg:Str→Option Value}{base:Heap}{k:Nat}{f:Addr}{name qual:Str}{params:Arguments}{body:List Stmt}{scope:Scope}{dV kV doc pm cdv ct oc:Value}{an od:Option Addr}
  {osl:Array (Option Value)} {N ps:List Str} {sp:Sp} (lk:K.lookup f=some ⟨oc,od,.func (PySem.W.fnOf name qual params body scope dV kV doc pm an cdv ct),osl⟩) (hcd:PySem.W.codeIn K cdv qual=true) (S:FnScope N ps scope)
  (len:∀ vs H Q E,sp vs H Q E→vs.length=ps.length)
  (hbody:∀ (A:Around) (outer:List Env) (s:Shared) (H:Hp) (vs:List V) (Q:VK) (E:XK),Room k (A.deeper (envOfC qual scope s.heap.objs.size f cdv))→sp vs H Q E →
   ∃ t,PSs (gW CX P w K mg base N qual scope f cdv A outer s H E) body t∧t { nx:=fun _ H'=>Q .non H',rt:=Q } (xA N vs) H) :
  FnOk P w K mg base CX (k+1) f (PySem.W.fnOf name qual params body scope dV kV doc pm an cdv ct) ps sp:=by
 refine⟨len,fun A outer s H args us vs Q E hr e0 hb r hsp=>?_⟩
 have hl:=len _ _ _ _ hsp
 have KX:K.In s.heap:=e0.mod.kin.keeps fun b o e=>(e0.bs b o e).1
 have lim:s.heap.NoLimit:=e0.mod.nolimit.keeps fun b o e=>(e0.bs b o e).1
 have hkind:∀ y∈ps.zip us,scope.names.lookup y.1=some .local ∨ (scope.names.lookup y.1=some .cell∧((cellsFrom (s.heap.objs.size+1) scope.names []).lookup y.1).isSome=true):=fun ⟨n,v⟩ hy=>by
  rcases S.par n (List.of_mem_zip hy).1 with q|q
  ·exact .inl q
  ·exact .inr ⟨q,PySem.W.cellsFrom_some _ _ _ (.inl q)⟩
 refine codeAny_call_function hr.depth (KX _ _ lk) rfl S.co S.gen rfl (PySem.W.codeRec_of KX hcd) (hb _ _ _ _ ?_)
 refine wpAny_newFunctionEnv_cells S.kind hkind fun env he s1 x=>?_
 subst he
 refine⟨lim.keeps x.toInCall.keep,codeAny_func ?_⟩
 obtain⟨t,ht,hq⟩:=hbody A outer s H vs Q E (hr.deeper _) hsp
 have I:Inv (gW CX P w K mg base N qual scope f cdv A outer s H E) [] (xA N vs) H s1:=pV S hr.hd e0 hl r x
 refine wpAny_mono (ht [] s1 (xA N vs) H _ I hq) (fun fl s' hs=>?_) fun e s' hs=>hs
 have fin:∀ {σ' : St} {H':Hp} {v:V} {u:Value},Inv (gW CX P w K mg base N qual scope f cdv A outer s H E) [] σ' H' s'→qK v u→Q v H'→CE outer P w H s Q u s':=
  fun {σ' H' v u} J rv q=>⟨v,H',J.os,J.bare,J.base,J.hok,rv,q⟩
 cases fl with
 |ret u =>
  obtain⟨v,σ',H',J,rv,q⟩:=hs
  exact fin J rv q
 |next =>
  obtain⟨σ',H',J,q⟩:=hs
  exact fin (v:=V.non) (u:=Value.none) J rfl q
 |brk =>
  obtain⟨_,_,_,q⟩:=hs
  exact False.elim q
 |cont =>
  obtain⟨_,_,_,q⟩:=hs
  exact False.elim q
end _L
namespace _H
open PySem PyProof.Rows
section
variable {prog:Program}{w:World}{A:Around}{E:Value→Shared→Prop}{s:Shared}
theorem cat_tup {t b:Addr}{vs ws:List Value}{Q:Value→Shared→Prop}(ht:IsTup s.heap t vs.toArray)(hb:IsTup s.heap b ws.toArray)(hv:vs≠[])
  (h1:ws=[]→Q (.ref t) s) (h2:ws≠[]→Q (.ref s.heap.objs.size) { s with heap:=s.heap.push { cls:=.type "tuple",data:=.seq (vs++ws).toArray } })
  (hsz:vs.length+ws.length≤sizeLine):wpAny (model prog w) A (binaryOp .Add (.ref t) (.ref b)) Q E s:=by
 obtain⟨⟨cls,dd,data,sl⟩,ho,hc,n,hd⟩:=id ht
 obtain⟨⟨cls2,dd2,data2,sl2⟩,ho2,hc2,n2,hd2⟩:=id hb
 simp only at hc hd hc2 hd2
 subst hc hd hc2 hd2
 have e:vs.toArray++ws.toArray=(vs++ws).toArray:=by simp
 by_cases hw:ws=[]
 ·exact concat_meets ⟨_,ho,rfl⟩ ⟨_,ho2,rfl⟩ noFill_tuple_add seq_tuple_add PySem.F.slot_tuple_add PySem.F.entry_tuple_add (PySem.F.args_tuple_add_2 _ _)
   (tuple_addW1 t b vs.toArray ws.toArray n n2 dd dd2 sl sl2 (by simpa using hv) (by simp[hw])) ⟨ho,ho2,h1 hw⟩
 ·refine concat_meets ⟨_,ho,rfl⟩ ⟨_,ho2,rfl⟩ noFill_tuple_add seq_tuple_add PySem.F.slot_tuple_add PySem.F.entry_tuple_add (PySem.F.args_tuple_add_2 _ _)
   (tuple_addW2 t b vs.toArray ws.toArray n n2 dd dd2 sl sl2 (by simpa using hv) (by simpa using hw) (by rw[List.size_toArray,List.size_toArray];exact hsz)) ⟨ho,ho2,?_⟩
  rw[e]
  exact h2 hw
def sIx (n d:Nat):Option Int→Nat
 |none=>d
 |some v=>if v<0 then (v+(n:Int)).toNat else min v.toNat n
theorem V2 (n d:Nat)(hd:d≤n)(o:Option Int):sIx n d o≤n:=by
 cases o with
 |none=>exact hd
 |some v =>
  show (if v<0 then (v+(n:Int)).toNat else min v.toNat n)≤n
  by_cases hv:v<0
  ·rw[if_pos hv];omega
  ·rw[if_neg hv];exact Nat.min_le_right _ _
theorem mQ (v:Int)(n d:Nat):(if v<0 then max (v+(n:Int)) 0 else min v (n:Int))=((sIx n d (some v):Nat):Int):=by
 show (if v<0 then max (v+(n:Int)) 0 else min v (n:Int))=(((if v<0 then (v+(n:Int)).toNat else min v.toNat n):Nat):Int)
 by_cases hv:v<0
 ·simp only[if_pos hv];omega
 ·simp only[if_neg hv];omega
theorem nF (lo hi:Option Int)(n:Nat):Builtin.Slice.sliceAdjust lo hi 1 (n:Int)=(((sIx n 0 lo:Nat):Int),((sIx n n hi:Nat):Int)):=by
 have h1:¬ ((1:Int)<0):=by omega
 unfold Builtin.Slice.sliceAdjust
 simp only[h1,if_false]
 refine Prod.ext ?_ ?_
 ·cases lo with
  |none=>rfl
  |some v=>exact mQ v n 0
 ·cases hi with
  |none=>rfl
  |some v=>exact mQ v n n
theorem l8 (i j:Nat):Builtin.Slice.slicePlaces (i:Int) (j:Int) 1=j-i:=by
 unfold Builtin.Slice.slicePlaces
 have h1:(1:Int)>0:=by omega
 simp only[h1,if_true,Int.ediv_one]
 split <;> omega
theorem gO {v:Value}{o:Option Int}{Q:Option Int→Shared→Prop}(p:IsPart v o)(h:Q o s):wpAny (model prog w) A (Builtin.Slice.slicePartIndex v) Q E s:=by
 cases p with
 |none=>exact slicePart_none h
 |int i t=>exact slicePart_int h
theorem vC {sl:Addr}{vl vu:Value}{lo hi:Option Int}{n:Nat}{Q:Int × Int × Nat→Shared→Prop}(hs:s.heap.IsSliceOf sl vl vu .none)(pl:IsPart vl lo)(pu:IsPart vu hi)
  (h:Q (((sIx n 0 lo:Nat):Int),1,sIx n n hi-sIx n 0 lo) s):wpAny (model prog w) A (Builtin.Slice.sliceApplied (.ref sl) (pure (n:Int))) Q E s:=by
 obtain⟨os,hos,hcs,hds⟩:=id hs
 unfold Builtin.Slice.sliceApplied Builtin.Slice.sliceFields
 refine wpAny_bind (wpAny_bind (wpAny_field hos hds (x:=vl) rfl (wpAny_bind (wpAny_field hos hds (x:=vu) rfl (wpAny_bind (wpAny_field hos hds (x:=.none) rfl (wpAny_pure ?_)))))))
 refine wpAny_bind (slicePart_none ?_)
 show wpAny _ _ (if ((1:Int) == 0)=true then _ else _) _ _ s
 rw[if_neg (by decide)]
 refine wpAny_bind (gO pl (wpAny_bind (gO pu (wpAny_bind (wpAny_pure ?_)))))
 show wpAny _ _ (match Builtin.Slice.sliceAdjust lo hi 1 (n:Int) with|(lo,hi)=>pure (lo,(1:Int),Builtin.Slice.slicePlaces lo hi 1)) _ _ s
 rw[nF lo hi n]
 show wpAny _ _ (pure (((sIx n 0 lo:Nat):Int),(1:Int),Builtin.Slice.slicePlaces ((sIx n 0 lo:Nat):Int) ((sIx n n hi:Nat):Int) 1)) _ _ s
 rw[l8]
 exact wpAny_pure h
theorem eU (xs:Array Value)(i k:Nat):((List.range k).filterMap fun (m:Nat)=>xs[((i:Int)+(m:Int)*1).toNat]?).toArray=((xs.toList.drop i).take k).toArray:=by
 have e:(fun (m:Nat)=>xs[((i:Int)+(m:Int)*1).toNat]?)=fun m=>xs[i+m]?:=by
  funext m
  have:((i:Int)+(m:Int)*1).toNat=i+m:=by omega
  rw[this]
 rw[e]
 have:=pick_run xs i k
 rw[List.filterMap_map] at this
 have e2:((fun x=>xs[x]?)∘fun x=>i+x)=fun m=>xs[i+m]?:=rfl
 rw[e2] at this
 rw[this]
theorem getItem_tuple_cut {t sl:Addr}{items:Array Value}{vl vu:Value}{lo hi:Option Int}{Q:Value→Shared→Prop}(ht:IsTup s.heap t items)(hs:s.heap.IsSliceOf sl vl vu .none)(pl:IsPart vl lo)(pu:IsPart vu hi)
  (hw:¬ (sIx items.size 0 lo=0∧sIx items.size items.size hi=items.size))
  (h:Q (.ref s.heap.objs.size) { s with heap:=s.heap.push { cls:=.type "tuple",data:=.seq ((items.toList.drop (sIx items.size 0 lo)).take (sIx items.size items.size hi-sIx items.size 0 lo)).toArray } })
  (hsz:items.size≤sizeLine):wpAny (model prog w) A (getItem (.ref t) (.ref sl)) Q E s:=by
 have htake:sizeOk (.seq ((items.toList.drop (sIx items.size 0 lo)).take (sIx items.size items.size hi-sIx items.size 0 lo)).toArray):=by
  show ((items.toList.drop (sIx items.size 0 lo)).take (sIx items.size items.size hi-sIx items.size 0 lo)).toArray.size≤sizeLine
  rw[List.size_toArray,List.length_take,List.length_drop,Array.length_toList]
  omega
 have hj:sIx items.size items.size hi≤items.size:=V2 _ _ (Nat.le_refl _) hi
 obtain⟨os,hos,hcs,hds⟩:=id hs
 have hTs:s.TypeIs (.ref sl) "slice":=⟨os,hos,hcs⟩
 unfold getItem
 try with_reducible refine wpAny_holding ?_
 first|refine wpAny_bind (wpAny_pure ?_)|skip
 refine wpAny_bind (wpAny_sequenceKey ht.typeIs (by decide) ?_)
 refine wpAny_bind (wpAny_callSpecial?_slot (name:=Str.ofString "__getitem__") ht.typeIs PyProof.Rows.slot_tuple_getitem
  (wpAny_call_entry PyProof.Rows.slot_tuple_getitem ht.typeIs entry_tuple_getitem ?_ (args_tuple_getitem _ _)))
 show wpAny _ _ (Builtin.Tuple.tupleItemsOf (.ref t) >>= _) _ _ s
 refine wpAny_bind (tupleItemsOf_ ht ?_)
 refine wpAny_bind (wpAny_typeOf hTs ?_)
 rw[if_pos (by decide)]
 refine wpAny_bind (vC hs pl pu ?_)
 have hno:¬ ((((sIx items.size 0 lo:Nat):Int) == 0&&(1:Int) == 1&&(sIx items.size items.size hi-sIx items.size 0 lo) == items.size)=true):=by
  intro q
  rw[Bool.and_eq_true,Bool.and_eq_true] at q
  have q1:((sIx items.size 0 lo:Nat):Int)=0:=eq_of_beq q.1.1
  have q2:sIx items.size items.size hi-sIx items.size 0 lo=items.size:=eq_of_beq q.2
  exact hw ⟨by omega,by omega⟩
 show wpAny _ _ (if (((sIx items.size 0 lo:Nat):Int) == 0&&(1:Int) == 1&&(sIx items.size items.size hi-sIx items.size 0 lo) == items.size)=true then _ else _) _ _ s
 rw[if_neg hno,eU]
 first
  |exact wpAny_bind (m:=Builtin.Tuple.tupleExact _) (wpAny_newObj_type (wpAny_pure ⟨_,rfl,wpAny_pure h⟩) htake)
  |exact wpAny_bind (m:=Builtin.Tuple.tupleExact _) (wpAny_newObj_type (wpAny_bind (wpAny_pure (wpAny_pure ⟨_,rfl,wpAny_pure h⟩))) htake)
  |exact wpAny_bind (wpAny_bind (m:=Builtin.Tuple.tupleExact _) (wpAny_newObj_type (wpAny_pure (wpAny_pure ⟨_,rfl,wpAny_pure h⟩)) htake))
  |exact wpAny_bind (wpAny_bind (m:=Builtin.Tuple.tupleExact _) (wpAny_newObj_type (wpAny_pure ⟨_,rfl,wpAny_pure h⟩) htake))
end
end _H
namespace _L
open PySem PySem.Spec PyProof.Rows
abbrev TO:=St→Hp→(Option Int→Hp→Prop)→Prop
def PO (X:Cx)(e:Option Expr)(t:TO):Prop:=
 ∀ (pins:List (Addr × Obj)) (s:Shared) (σ : St) (H:Hp) (Q:Option Int→Hp→Prop),Inv X pins σ H s→t σ H Q →
  wpAny (model X.prog X.w) X.A (evalPart e X.env) (fun u s'=>∃ o H',Inv X pins σ H' s'∧IsPart u o∧Q o H') X.xe s
def JJ (t:TE):TO:=fun σ H Q=>t σ H fun x H1=>∃ i,x=.int i∧Q (some i) H1
section
variable {X:Cx}{e:Expr}{te:TE}{lo hi:Option Expr}{tl th:TO}{pos p2:Pos}
theorem oU (h:PE X e te):PO X (some e) (JJ te):=by
 intro pins s σ H Q I hw
 rw[evalPart_some]
 refine thn (h pins s σ H _ I hw) fun u s1 ⟨x,H1,I1,r1,q1⟩=>?_
 obtain⟨i,rfl,q⟩:=q1
 obtain⟨t,rfl⟩:=r1
 exact⟨some i,H1,I1,.int i t,q⟩
def SlR (X:Cx)(r:V→Option Int→Option Int→Hp→VK→Prop):Prop:=
 ∀ (pins:List (Addr × Obj)) (s:Shared) (σ : St) (H:Hp) (x:V) (v vl vu:Value) (lo hi:Option Int) (sl:Addr) (Q:VK),Inv X pins σ H s→qK x v→s.heap.IsSliceOf sl vl vu .none→IsPart vl lo→IsPart vu hi→r x lo hi H Q →
  ∃ T id,typeLookup (.type T) "__getitem__" = pure (some (.builtin id))∧s.TypeIs v T∧wpAny (model X.prog X.w) X.A (getItem v (.ref sl)) (EP X pins σ Q) X.xe s
theorem SlR.or {r r':V→Option Int→Option Int→Hp→VK→Prop}(h:SlR X r)(h':SlR X r'):SlR X (fun x lo hi H Q=>r x lo hi H Q∨r' x lo hi H Q):=by
 intro pins s σ H x v vl vu lo hi sl Q I rx hs pl pu q
 rcases q with q|q
 ·exact h pins s σ H x v vl vu lo hi sl Q I rx hs pl pu q
 ·exact h' pins s σ H x v vl vu lo hi sl Q I rx hs pl pu q
def tSl (r:V→Option Int→Option Int→Hp→VK→Prop)(te:TE)(tl th:TO):TE:=fun σ H Q=>te σ H fun x H1=>tl σ H1 fun l H2=>th σ H2 fun u H3=>r x l u H3 Q
theorem eR {r:V→Option Int→Option Int→Hp→VK→Prop}(hr:SlR X r)(he:PE X e te)(hl:PO X lo tl)(hu:PO X hi th):PE X (.Subscript e (.Slice lo hi none p2) pos) (tSl r te tl th):=by
 intro pins s σ H Q I h
 refine Subscript_ (thn (he pins s σ H _ I h) fun v s1 ⟨x,H1,I1,r1,q1⟩=>?_)
 refine wpAny_Slice (thn (hl pins s1 σ H1 _ I1 q1) fun vl s2 ⟨l,H2,I2,pl,q2⟩=>thn (hu pins s2 σ H2 _ I2 q2) fun vu s3 ⟨u,H3,I3,pu,q3⟩=>?_)
 rw[evalPart_none]
 refine wpAny_pure ?_
 have I4:Inv X pins σ H3 { s3 with heap:=s3.heap.push { cls:=.type "slice",data:=.fields #[vl,vu,.none] } }:=I3.kept (t':=s3.toks) fun b ob q=>Heap.get?_push_of_some _ q
 obtain⟨T,id,hT,ht,hg⟩:=hr pins { s3 with heap:=s3.heap.push { cls:=.type "slice",data:=.fields #[vl,vu,.none] } } σ H3 x v vl vu l u s3.heap.objs.size Q I4 r1 (Heap.IsSliceOf.new ..) pl pu q3
 show wpAny (model X.prog X.w) X.A (subscriptTail e (.Slice lo hi none p2) v (.ref s3.heap.objs.size)) (EP X pins σ Q) X.xe { s3 with heap:=s3.heap.push { cls:=.type "slice",data:=.fields #[vl,vu,.none] } }
 exact tail_any (ops:=[.ref s3.heap.objs.size,v]) ht hT hg (by with_unfolding_all rfl)
def jB (xs:List V)(lo hi:Option Int):List V:=(xs.drop (_H.sIx xs.length 0 lo)).take (_H.sIx xs.length xs.length hi-_H.sIx xs.length 0 lo)
theorem kA (xs:List V)(lo hi:Option Int):(jB xs lo hi).length≤xs.length:=by
 unfold jB
 rw[List.length_take,List.length_drop]
 omega
def G6 (K:PySem.W.Frag):V→Option Int→Option Int→Hp→VK→Prop:=fun x lo hi H Q=>∃ a xs,x=.ref a∧SqT K H a xs ∧
 ¬ (_H.sIx xs.length 0 lo=0∧_H.sIx xs.length xs.length hi=xs.length)∧∀ p,H p=none→Q (.ref p) (upd H p (.tup (jB xs lo hi)))
theorem V4:SlR X (G6 X.K):=by
 intro pins s σ H x v vl vu lo hi sl Q I rx hs pl pu h
 obtain⟨a,xs,rfl,hx,hw,q⟩:=h
 cases rx
 obtain⟨its,r,ht,hz⟩:=I.tuple hx
 have hlen:its.toArray.size=xs.length:=by rw[List.size_toArray];exact r.length.symm
 refine⟨"tuple",_,PyProof.Rows.slot_tuple_getitem.lookup,ht.typeIs,?_⟩
 refine _H.getItem_tuple_cut ht hs pl pu (by rw[hlen];exact hw) ?_ (by rw[hlen];exact hz)
 rw[hlen]
 refine⟨.ref s.heap.objs.size,_,I.laid (t':=s.toks) (o:=.tup (jB xs lo hi)) (fun b ob q=>Heap.get?_push_of_some _ q) (Nat.le_refl _) ?_,rfl,q _ (I.hok.fresh (Nat.le_refl _))⟩
 exact⟨Nat.le_trans (kA xs lo hi) hz,_,(r.drop (_H.sIx xs.length 0 lo)).take (_H.sIx xs.length xs.length hi-_H.sIx xs.length 0 lo),IsTup.new _ _⟩
end
end _L
namespace _L
open PySem PySem.Spec PyProof.Rows
def ixN (n:Nat)(i:Int):Option Nat:=if 0≤i then (if i<n then some i.toNat else none) else if -(n:Int)≤i then some (i+n).toNat else none
def atI {α : Type}(xs:List α)(i:Int):Option α:=(ixN xs.length i).bind fun j=>xs[j]?
theorem tE {n:Nat}{i:Int}{j:Nat}(h:ixN n i=some j):seqIndex? i n=some j∧j<n ∧ -(n:Int)≤i∧i<n:=by
 unfold ixN at h
 by_cases h0:0≤i
 ·rw[if_pos h0] at h
  by_cases h1:i<n
  ·rw[if_pos h1] at h
   have e:i.toNat=j:=Option.some.inj h
   exact⟨by rw[seqIndex_of h0 h1,e],by omega,by omega,h1⟩
  ·rw[if_neg h1] at h;cases h
 ·rw[if_neg h0] at h
  by_cases h1 : -(n:Int)≤i
  ·rw[if_pos h1] at h
   have e:(i+n).toNat=j:=Option.some.inj h
   exact⟨by rw[seqIndex_neg (by omega) h1,e],by omega,h1,by omega⟩
  ·rw[if_neg h1] at h;cases h
theorem mO {α : Type}{xs:List α}{i:Int}{v:α}(h:atI xs i=some v):∃ j,seqIndex? i xs.length=some j∧xs[j]? = some v∧j<xs.length ∧ -(xs.length:Int)≤i∧i<xs.length:=by
 unfold atI at h
 cases e:ixN xs.length i with
 |none=>rw[e] at h;cases h
 |some j =>
  rw[e] at h
  obtain⟨h1,h2,h3,h4⟩:=tE e
  exact⟨j,h1,h,h2,h3,h4⟩
def gT (b:Expr):Prop:=∀ o i,subscripted b false o i=operate [o,i] (getItem o i)
def IxR (X:Cx)(r:R2):Prop:=
 ∀ (value slice:Expr) (pins:List (Addr × Obj)) (s:Shared) (σ : St) (H:Hp) (x y:V) (v u:Value) (Q:VK),Inv X pins σ H s→qK x v→qK y u→r x y H Q →
  subscripted slice false v u=operate [v,u] (getItem v u)→wpAny (model X.prog X.w) X.A (subscriptTail value slice v u) (EP X pins σ Q) X.xe s
def MtR (X:Cx)(id:String)(r:V→List V→Hp→VK→Prop):Prop:=
 ∀ (pins:List (Addr × Obj)) (s:Shared) (σ : St) (H:Hp) (x:V) (xs:List V) (v:Value) (us:List Value) (Q:VK),Inv X pins σ H s→qK x v→qL xs us→r x xs H Q →
  wpAny (model X.prog X.w) X.A (call (.builtin id) (v::us)) (EP X pins σ Q) X.xe s
section
variable {X:Cx}{a b:Expr}{ta tb:TE}{pos:Pos}
theorem IxR.or {r r':R2}(h:IxR X r)(h':IxR X r'):IxR X (fun x y H Q=>r x y H Q∨r' x y H Q):=by
 intro value slice pins s σ H x y v u Q I rx ry q hs
 rcases q with q|q
 ·exact h value slice pins s σ H x y v u Q I rx ry q hs
 ·exact h' value slice pins s σ H x y v u Q I rx ry q hs
theorem MtR.or {id:String}{r r':V→List V→Hp→VK→Prop}(h:MtR X id r)(h':MtR X id r'):MtR X id (fun x xs H Q=>r x xs H Q∨r' x xs H Q):=by
 intro pins s σ H x xs v us Q I rx rs q
 rcases q with q|q
 ·exact h pins s σ H x xs v us Q I rx rs q
 ·exact h' pins s σ H x xs v us Q I rx rs q
theorem UW {r:R2}(hr:IxR X r)(ha:PE X a ta)(hb:PE X b tb)(hs:gT b):PE X (.Subscript a b pos) (tOp r ta tb):=by
 intro pins s σ H Q I h
 exact Subscript_ (K3 ha hb I h fun v u s2 x y H2 I2 rx ry q=>hr a b pins s2 σ H2 x y v u Q I2 rx ry q (hs _ _))
def KY (K:PySem.W.Frag):R2:=fun x y H Q=>∃ p xs i v,x=.ref p∧y=.int i∧SqL K H p xs∧atI xs i=some v∧Q v H
def KZ (K:PySem.W.Frag):R2:=fun x y H Q=>∃ p xs i v,x=.ref p∧y=.int i∧SqT K H p xs∧atI xs i=some v∧Q v H
theorem tF:IxR X (KY X.K):=by
 intro value slice pins s σ H x y v u Q I rx ry h hs
 obtain⟨p,xs,i,z,rfl,rfl,hq,he,q⟩:=h
 cases rx
 obtain⟨t,rfl⟩:=ry
 obtain⟨its,r,pl,hz⟩:=I.list hq
 obtain⟨j,h1,h2,h3,h4,h5⟩:=mO he
 obtain⟨w,ew,rw'⟩:=r.get h2
 have hl:=r.length
 have hn:=jH
 have fin:EP X pins σ Q w s:=⟨z,H,I,rw',q⟩
 by_cases h0:0≤i
 ·have hj:i.toNat=j:=by
   rw[seqIndex_of h0 h5] at h1
   exact Option.some.inj h1
  exact item_listR pl.isList h0 (by omega) (by rw[hj];simpa using ew) fin hs
 ·have hj:(i+(its.toArray.size:Int)).toNat=j:=by
   rw[seqIndex_neg (by omega) h4] at h1
   rw[List.size_toArray,← hl]
   exact Option.some.inj h1
  exact subscriptTail_builtinR (x:=w) pl.isList.typeIs slot_list_getitem.lookup
   (wpAny_getItem_list_neg (Q:=fun r s'=>r=w∧EP X pins σ Q r s') pl.isList (by omega) (by rw[List.size_toArray] <;> omega) (by omega) (by rw[hj];simpa using ew) ⟨rfl,fin⟩) hs
theorem XW:IxR X (KZ X.K):=by
 intro value slice pins s σ H x y v u Q I rx ry h hs
 obtain⟨p,xs,i,z,rfl,rfl,hq,he,q⟩:=h
 cases rx
 obtain⟨t,rfl⟩:=ry
 obtain⟨its,r,pl,hz⟩:=I.tuple hq
 obtain⟨j,h1,h2,h3,h4,h5⟩:=mO he
 obtain⟨w,ew,rw'⟩:=r.get h2
 have hl:=r.length
 have hn:=jH
 have fin:EP X pins σ Q w s:=⟨z,H,I,rw',q⟩
 exact subscriptTail_builtinR (x:=w) pl.typeIs slot_tuple_getitem.lookup
  (getItem_tuple (j:=j) (Q:=fun r s'=>r=w∧EP X pins σ Q r s') pl (by omega) (by omega) (by rw[List.size_toArray,← hl];exact h1) (by simpa using ew) ⟨rfl,fin⟩) hs
theorem nZ (its:List Value)(n j:Nat)(u:Value):Obj.mapSeq (·.setIfInBounds j u) { cls:=.type "list",data:=.seq its.toArray n } = { cls:=.type "list",data:=.seq (its.set j u).toArray n }:=by
 simp[Obj.mapSeq]
theorem Inv.lst {pins:List (Addr × Obj)}{σ : St}{H:Hp}{s:Shared}{p:Addr}{xs:List V}(I:Inv X pins σ H s)(h:H p=some (.lst xs)) :
  ∃ (its:List Value) (n:Nat),qL xs its∧s.heap.get? p=some { cls:=.type "list",data:=.seq its.toArray n } ∧ xs.length≤sizeLine:=by
 obtain⟨z,its,n,r,e⟩:=I.hok p _ h
 exact⟨its,n,r,e,z⟩
theorem Inv.lstUpd {pins:List (Addr × Obj)}{σ : St}{H:Hp}{s:Shared}{p:Addr}{xs ys:List V}{its its':List Value}{n n':Nat}{f:Obj→Obj}(I:Inv X pins σ H s)(h:H p=some (.lst xs))
  (ho:s.heap.get? p=some { cls:=.type "list",data:=.seq its.toArray n }) (hf:f { cls:=.type "list",data:=.seq its.toArray n } = { cls:=.type "list",data:=.seq its'.toArray n' }) (r:qL ys its') (hz:ys.length≤sizeLine) (t:Nat) :
  Inv X pins σ (upd H p (.lst ys)) { s with heap:=s.heap.update p f,toks:=t }:=by
 have e:(s.heap.update p f).get? p=some { cls:=.type "list",data:=.seq its'.toArray n' }:=by
  rw[Heap.get?_update_self f ho (by rw[hf] <;> rfl),hf]
 refine I.write (x:=p) (e:=p) (by rw[h];trivial) (.inl rfl) (fun b u hb q=>(Heap.get?_update_other _ _ (Ne.symm hb)).trans q) ⟨_,e⟩ ?_
 exact⟨hz,its',n',r,e⟩
def J7:V→V→V→Hp→(Hp→Prop)→Prop:=fun o i v H Q=>∃ p xs k j,o=.ref p∧i=.int k∧H p=some (.lst xs)∧ixN xs.length k=some j∧Q (upd H p (.lst (xs.set j v)))
theorem c0:bO X J7:=by
 intro pins s σ H o i v ov iv u Q I ro ri rv h
 obtain⟨p,xs,k,j,rfl,rfl,hp,hj,q⟩:=h
 cases ro
 obtain⟨t,rfl⟩:=ri
 obtain⟨its,n,r,ho,hz⟩:=I.lst hp
 obtain⟨h1,h2,h3,h4⟩:=tE hj
 have hl:=r.length
 have hn:=jH
 have I':Inv X pins σ (upd H p (.lst (xs.set j v))) { s with heap:=s.heap.update p (Obj.mapSeq (·.setIfInBounds j u)) }:=
  I.lstUpd hp ho (nZ its n j u) (r.set rv j) (by rw[List.length_set];exact hz) s.toks
 by_cases h0:0≤k
 ·have hk:k.toNat=j:=by
   rw[seqIndex_of h0 h4] at h1
   exact Option.some.inj h1
  exact PySem.W.ki_setAt ho h0 (by omega) (by rw[List.size_toArray,← hl];exact h4) (by rw[hk];exact⟨_,I',q⟩)
 ·have hk:(k+(its.toArray.size:Int)).toNat=j:=by
   rw[seqIndex_neg (by omega) h3] at h1
   rw[List.size_toArray,← hl]
   exact Option.some.inj h1
  exact PySem.W.ki_setBack ho (by omega) (by rw[List.size_toArray,← hl];exact h3) (by omega) (by rw[hk];exact⟨_,I',q⟩)
theorem m6 (lo hi:Option Int)(n:Nat):(sliceBounds lo hi none n).1=((_H.sIx n 0 lo:Nat):Int)∧(sliceBounds lo hi none n).2.1=((_H.sIx n n hi:Nat):Int)∧(sliceBounds lo hi none n).2.2=1:=by
 refine⟨?_,?_,rfl⟩
 ·cases lo with
  |none=>simp[sliceBounds,_H.sIx]
  |some i =>
   simp only[sliceBounds,_H.sIx,Option.getD_none,show (1:Int)>0 by decide,if_true]
   by_cases h:i<0
   ·simp only[h,if_true] <;> omega
   ·simp only[h,if_false] <;> omega
 ·cases hi with
  |none=>simp[sliceBounds,_H.sIx]
  |some i =>
   simp only[sliceBounds,_H.sIx,Option.getD_none,show (1:Int)>0 by decide,if_true]
   by_cases h:i<0
   ·simp only[h,if_true] <;> omega
   ·simp only[h,if_false] <;> omega
theorem bB (its:List Value)(lo hi:Option Int):slicePick its.toArray lo hi none=((its.drop (_H.sIx its.length 0 lo)).take (_H.sIx its.length its.length hi-_H.sIx its.length 0 lo)).toArray:=by
 obtain⟨h1,h2,h3⟩:=m6 lo hi its.toArray.size
 unfold slicePick
 rw[h1,h2,h3]
 simp only[sliceRange_one,pick_run,List.size_toArray] <;> rfl
def G4 (K:PySem.W.Frag):V→Option Int→Option Int→Hp→VK→Prop:=fun x lo hi H Q=>∃ a xs,x=.ref a∧SqL K H a xs∧∀ p,H p=none→Q (.ref p) (upd H p (.lst (jB xs lo hi)))
theorem tW:SlR X (G4 X.K):=by
 intro pins s σ H x v vl vu lo hi sl Q I rx hs pl pu h
 obtain⟨a,xs,rfl,hx,q⟩:=h
 cases rx
 obtain⟨its,r,ht,hz⟩:=I.list hx
 have hlen:=r.length
 refine⟨"list",_,slot_list_getitem.lookup,ht.isList.typeIs,?_⟩
 refine wpAny_getItem_list_slice ht.isList hs pl pu .none (by simp) ?_ (by rw[List.size_toArray] <;> omega)
 rw[bB,← hlen]
 refine⟨.ref s.heap.objs.size,_,I.laid (t':=s.toks) (o:=.lst (jB xs lo hi)) (fun b ob q=>Heap.get?_push_of_some _ q) (Nat.le_refl _) ?_,rfl,q _ (I.hok.fresh (Nat.le_refl _))⟩
 exact⟨Nat.le_trans (kA xs lo hi) hz,_,0,(r.drop (_H.sIx xs.length 0 lo)).take (_H.sIx xs.length xs.length hi-_H.sIx xs.length 0 lo),Heap.get?_push_size _ rfl⟩
theorem jQ.or {f:Value}{r r':List V→Hp→VK→Prop}(h:jQ X f r)(h':jQ X f r'):jQ X f (fun xs H Q=>r xs H Q∨r' xs H Q):=by
 intro pins s σ H xs us Q I rs q
 rcases q with q|q
 ·exact h pins s σ H xs us Q I rs q
 ·exact h' pins s σ H xs us Q I rs q
def tyV (K:PySem.W.Frag)(T:String)(x:V)(H:Hp):Prop:=match x with
 |.str _=>T = "str"
 |.int _=>T = "int"
 |.ref p=>(T = "list" ∧ ∃ xs,SqL K H p xs)∨(T = "tuple" ∧ ∃ o,K.lookup p=some o∧o.cls=.type "tuple" ∧ o.dict=none) ∨
   (T = "dict" ∧ ((∃ kvs,H p=some (.dK kvs))∨∃ kvs,H p=some (.dT kvs)))∨(T = "set" ∧ ∃ S n,H p=some (.set S n))
 |_=>False
theorem VA {pins:List (Addr × Obj)}{σ : St}{H:Hp}{s:Shared}{T:String}{x:V}{v:Value}(I:Inv X pins σ H s)(r:qK x v)(ty:tyV X.K T x H) :
  s.TypeIs v T∧∀ a,v=.ref a→∃ ob,s.heap.get? a=some ob∧ob.dict=none:=by
 cases x with
 |str z =>
  obtain⟨t,rfl⟩:=r
  cases (show T = "str" from ty)
  exact⟨typeIs_str s z t,fun _ e=>nomatch e⟩
 |int i =>
  obtain⟨t,rfl⟩:=r
  cases (show T = "int" from ty)
  exact⟨typeIs_int s i t,fun _ e=>nomatch e⟩
 |ref p =>
  cases r
  rcases ty with⟨rfl,xs,hq⟩|⟨rfl,o,hk,hc,hd⟩|⟨rfl,hk⟩|⟨rfl,S,n,hk⟩
  ·obtain⟨its,_,pl,_⟩:=I.list hq
   refine⟨pl.isList.typeIs,fun a e=>?_⟩
   cases e
   obtain⟨o,n,e,c,hd,_⟩:=pl
   exact⟨o,e,hd⟩
  ·refine⟨⟨o,I.kIn p o hk,hc⟩,fun a e=>?_⟩
   cases e
   exact⟨o,I.kIn _ o hk,hd⟩
  ·have z:∃ o,s.heap.get? p=some o∧o.ExactDict:=by
    rcases hk with⟨kvs,hk⟩|⟨kvs,hk⟩
    ·obtain⟨_,_,_,_,o,_,_,e,ex,_⟩:=I.hok p _ hk
     exact⟨o,e,ex⟩
    ·obtain⟨_,_,_,_,o,_,_,e,ex,_⟩:=I.hok p _ hk
     exact⟨o,e,ex⟩
   obtain⟨o,e,ex⟩:=z
   refine⟨⟨o,e,ex.1⟩,fun a e2=>?_⟩
   cases e2
   exact⟨o,e,ex.2.1⟩
  ·obtain⟨o,_,_,_,e,ex,_⟩:=I.hok p _ hk
   refine⟨⟨o,e,ex.1⟩,fun a e2=>?_⟩
   cases e2
   exact⟨o,e,ex.2.1⟩
 |_=>exact False.elim ty
variable {o e:Expr}{es:List Expr}{to:TE}{t:TA}{name:Str}{apos cpos:Pos}{T id:String}{r:V→List V→Hp→VK→Prop}
/- xs.append(e),list.index on a module's tuple .. are MtR facts of 06m -/
end
end _L
namespace _L
open PySem PySem.Spec PyProof.Rows
theorem qL.one {x:V}{us:List Value}(h:qL [x] us):∃ u,us=[u]∧qK x u:=k9 h
theorem qL.two {x y:V}{us:List Value}(h:qL [x,y] us):∃ u v,us=[u,v]∧qK x u∧qK y v:=bM h
theorem qL.rep {xs:List V}{us:List Value}(h:qL xs us):∀ k:Nat,qL (List.replicate k xs).flatten (List.replicate k us).flatten
 |0=>.nil
 |k+1=>by
  rw[List.replicate_succ,List.replicate_succ,List.flatten_cons,List.flatten_cons]
  exact qL.append h (qL.rep h k)
theorem pU (its:List Value):∀ (k:Nat) (acc:List Value),
  List.foldl (fun x1 x2=>x1++x2) acc.toArray (List.replicate k its.toArray)=(acc++(List.replicate k its).flatten).toArray
 |0,acc=>by simp
 |k+1,acc=>by
  have e:acc.toArray++its.toArray=(acc++its).toArray:=by simp
  have e2:(acc++its)++(List.replicate k its).flatten=acc++(List.replicate (k+1) its).flatten:=by
   rw[List.replicate_succ,List.flatten_cons,List.append_assoc]
  rw[← e2,← pU its k (acc++its),← e,List.replicate_succ,List.foldl_cons]
section
variable {X:Cx}{pins:List (Addr × Obj)}{σ : St}{H:Hp}{s:Shared}{l b:Addr}{xs ys zs:List V}
theorem eM {n:Nat}(h:n≤sizeLine):Builtin.List.listTooLong n=false:=by
 unfold Builtin.List.listTooLong
 exact decide_eq_false (by omega)
end
section
variable {X:Cx}
theorem oE {α : Type}(xs:List α)(k:Nat):(List.replicate k xs).flatten.length=k*xs.length:=by
 induction k with
 |zero=>simp
 |succ k ih=>rw[List.replicate_succ,List.flatten_cons,List.length_append,ih,Nat.succ_mul,Nat.add_comm]
end
end _L
namespace _L
open PySem PySem.Spec PyProof.Rows
section
variable {κ : Type}[DecidableEq κ]
def vE (kvs:List (κ × V))(k:κ):Option V:=(kvs.find? fun kv=>decide (kv.1=k)).map (·.2)
def y6 (kvs:List (κ × V))(k:κ)(v:V):List (κ × V):=
 if (kvs.any fun kv=>decide (kv.1=k))=true then kvs.map (fun kv=>if kv.1=k then (kv.1,v) else kv) else kvs++[(k,v)]
theorem mF {p:κ × V}{r:List (κ × V)}{k:κ}(e:p.1=k):vE (p::r) k=some p.2:=by simp[vE,List.find?_cons,e]
theorem mE {p:κ × V}{r:List (κ × V)}{k:κ}(e:¬ p.1=k):vE (p::r) k=vE r k:=by simp[vE,List.find?_cons,e]
theorem mD (k:κ):∀ kvs:List (κ × V),(kvs.any fun kv=>decide (kv.1=k))=(vE kvs k).isSome
 |[]=>rfl
 |p::r=>by
  rw[List.any_cons]
  by_cases e:p.1=k
  ·simp only[mF e,decide_eq_true e,Bool.true_or,Option.isSome_some]
  ·rw[mE e,decide_eq_false e,Bool.false_or];exact mD k r
theorem kB (kvs:List (κ × V))(k:κ)(v:V):(y6 kvs k v).length≤kvs.length+1:=by
 unfold y6
 split
 ·rw[List.length_map];omega
 ·rw[List.length_append,List.length_cons,List.length_nil];omega
theorem j7.isSome_eq {o:Option V}{u:Option Value}(r:j7 o u):o.isSome=u.isSome:=by
 cases o with
 |none=>cases u with
  |none=>rfl
  |some _=>exact(show False from r).elim
 |some _=>cases u with
  |none=>exact(show False from r).elim
  |some _=>rfl
theorem j7.getD {o:Option V}{u:Option Value}{d:V}{d':Value}(r:j7 o u)(rd:qK d d'):qK (o.getD d) (u.getD d'):=by
 cases o with
 |none=>cases u with
  |none=>exact rd
  |some _=>exact(show False from r).elim
 |some _=>cases u with
  |none=>exact(show False from r).elim
  |some _=>exact r
theorem KV.any {kvs:List (κ × V)}{vs:List (κ × Value)}(r:KV kvs vs)(k:κ):(kvs.any fun kv=>decide (kv.1=k))=vs.any fun kv=>decide (kv.1=k):=by
 unfold KV at r
 induction r with
 |nil=>rfl
 |cons h t ih=>rw[List.any_cons,List.any_cons,ih,h.1]
theorem KV.repl {kvs:List (κ × V)}{vs:List (κ × Value)}(r:KV kvs vs)(k:κ){y:V}{u:Value}(ry:qK y u) :
  KV (kvs.map fun kv=>if kv.1=k then (kv.1,y) else kv) (vs.map fun kv=>if kv.1=k then (kv.1,u) else kv):=by
 unfold KV at r ⊢
 induction r with
 |nil=>exact .nil
 |@cons p q ps qs h t ih =>
  rw[List.map_cons,List.map_cons]
  refine .cons ?_ ih
  obtain⟨h1,h2⟩:=h
  by_cases e:p.1=k
  ·rw[if_pos e,if_pos (h1.symm.trans e)];exact⟨h1,ry⟩
  ·rw[if_neg e,if_neg (fun z=>e (h1.trans z))];exact⟨h1,h2⟩
theorem KV.put {kvs:List (κ × V)}{vs:List (κ × Value)}(r:KV kvs vs)(k:κ){y:V}{u:Value}(ry:qK y u):KV (y6 kvs k y) (stored vs k u):=by
 unfold y6 stored
 rw[r.any k]
 by_cases e:(vs.any fun kv=>decide (kv.1=k))=true
 ·rw[if_pos e,if_pos e];exact r.repl k ry
 ·rw[if_neg e,if_neg e];exact Paired.snoc r ⟨rfl,ry⟩
theorem KV.length {kvs:List (κ × V)}{vs:List (κ × Value)}(r:KV kvs vs):kvs.length=vs.length:=Paired.length r
end
theorem cM {P:Program}{w:World}{k:Key}{u:Value}(r:qK (kV k) u):(zQ P w).is k u=true:=by
 cases k with
 |inl i=>obtain⟨t,e⟩:=(show ∃ t,u=Value.int i t from r);subst e;exact mI P w i t
 |inr x=>obtain⟨t,e⟩:=(show ∃ t,u=Value.str x t from r);subst e;exact mJ P w x t
theorem pX {P:Program}{w:World}:∀ {ks:List Key} {us:List Value},qL (ks.map kV) us→ItemsAre (zQ P w) ks us
 |[],_,r=>by rw[List.map_nil] at r;cases r;exact .nil
 |k::ks,_,r=>by
  rw[List.map_cons] at r
  cases r with
  |cons h t=>exact .cons (cM h) (pX t)
abbrev KT (H:Hp):List (List Key × V)→List (List Key × Addr × Value)→Prop:=Paired fun p q=>p.1=q.1∧H q.2.1=some (.tup (p.1.map kV))∧qK p.2 q.2.2
theorem KT.val {H:Hp}{kvs:List (List Key × V)}{xs:List (List Key × Addr × Value)}(r:KT H kvs xs)(k:List Key):j7 (vE kvs k) ((atKey xs k).map (·.2)):=by
 induction r with
 |nil=>exact True.intro
 |@cons p q ps qs h t ih =>
  obtain⟨h1,_,h2⟩:=h
  by_cases e:p.1=k
  ·have e':q.1=k:=h1.symm.trans e
   have b:atKey (q::qs) k=some q.2:=by simp[atKey,List.find?_cons,e']
   rw[mF e,b];exact h2
  ·have e':¬ q.1=k:=fun z=>e (h1.trans z)
   have b:atKey (q::qs) k=atKey qs k:=by simp[atKey,List.find?_cons,e']
   rw[mE e,b];exact ih
theorem KT.repl {H:Hp}{kvs:List (List Key × V)}{xs:List (List Key × Addr × Value)}(r:KT H kvs xs)(k:List Key){y:V}{u:Value}(ry:qK y u) :
  KT H (kvs.map fun kv=>if kv.1=k then (kv.1,y) else kv) (xs.map (putAt k u)):=by
 induction r with
 |nil=>exact .nil
 |@cons p q ps qs h t ih =>
  rw[List.map_cons,List.map_cons]
  refine .cons ?_ ih
  obtain⟨h1,h2,h3⟩:=h
  unfold putAt
  by_cases e:p.1=k
  ·rw[if_pos e,if_pos (h1.symm.trans e)];exact⟨h1,h2,ry⟩
  ·rw[if_neg e,if_neg (fun z=>e (h1.trans z))];exact⟨h1,h2,h3⟩
theorem KT.put {H:Hp}{kvs:List (List Key × V)}{xs:List (List Key × Addr × Value)}(r:KT H kvs xs)(k:List Key){b:Addr}{y:V}{u:Value}(hb:H b=some (.tup (k.map kV)))(ry:qK y u) :
  KT H (y6 kvs k y) (storedH xs k b u):=by
 have e:(kvs.any fun kv=>decide (kv.1=k))=(atKey xs k).isSome:=by
  rw[mD,(r.val k).isSome_eq,Option.isSome_map]
 unfold y6 storedH
 rw[e]
 by_cases q:(atKey xs k).isSome=true
 ·rw[if_pos q,if_pos q];exact r.repl k ry
 ·rw[if_neg q,if_neg q];exact Paired.snoc r ⟨rfl,hb,ry⟩
theorem KT.keeps {H H':Hp}{kvs:List (List Key × V)}{xs:List (List Key × Addr × Value)}(r:KT H kvs xs)(ht:∀ b ys,H b=some (.tup ys)→H' b=some (.tup ys)):KT H' kvs xs:=
 Paired.mapP r fun _ _ z=>⟨z.1,ht _ _ z.2.1,z.2.2⟩
section
variable {P:Program}{w:World}{H:Hp}{h:Heap}{a:Addr}
theorem cZ {u:HO}(ok:HOk P w H h)(e:Rd H a u):qY P w H h a u:=e.ok ok
theorem VY {kvs:List (Key × V)}(ok:HOk P w H h)(e:Rd H a (.dK kvs)):kvs.length≤sizeLine∧(a == sysModules)=false∧∃ vs,KV kvs vs∧h.DictOf (zQ P w) a vs:=
 show qY P w H h a (.dK kvs) from cZ ok e
theorem VX {kvs:List (Key × V)}(ok:HOk P w H h)(e:H a=some (.dK kvs)):kvs.length≤sizeLine∧(a == sysModules)=false∧∃ vs,KV kvs vs∧h.DictOf (zQ P w) a vs:=VY ok (.inl e)
theorem dD {ks:List Key}(ok:HOk P w H h)(e:H a=some (.tup (ks.map kV))):(tupleKind (zQ P w)).is h ks a:=by
 obtain⟨_,its,r,o,h1,h2,n,h3⟩:=(show qY P w H h a (.tup (ks.map kV)) from ok a _ e)
 exact⟨o,its.toArray,n,h1,h2,h3,by simpa using pX r⟩
theorem U1 {kvs:List (List Key × V)}(ok:HOk P w H h)(e:Rd H a (.dT kvs)):kvs.length≤sizeLine∧(a == sysModules)=false ∧
  ∃ xs,KT H kvs xs∧h.DictOfH (tupleKind (zQ P w)) a xs:=by
 obtain⟨z,y,xs,r,o,es,ep,h1,h2,h3,h4,h5⟩:=(show qY P w H h a (.dT kvs) from cZ ok e)
 refine⟨z,y,xs,r,o,es,ep,h1,h2,h3,h4,fun x hx=>?_,h5⟩
 have all:∀ {l:List (List Key × V)} {m:List (List Key × Addr × Value)},KT H l m→∀ x∈m,(tupleKind (zQ P w)).is h x.1 x.2.1:=by
  intro l m q
  induction q with
  |nil=>intro x hx;exact nomatch hx
  |@cons p q ps qs hq t ih =>
   intro x hx
   rcases List.mem_cons.mp hx with e|hx
   ·subst e
    exact dD ok (by rw[← hq.1];exact hq.2.1)
   ·exact ih x hx
 exact all r x hx
theorem U0 {kvs:List (List Key × V)}(ok:HOk P w H h)(e:H a=some (.dT kvs)):kvs.length≤sizeLine∧(a == sysModules)=false ∧
  ∃ xs,KT H kvs xs∧h.DictOfH (tupleKind (zQ P w)) a xs:=U1 ok (.inl e)
end
def n8 (H:Hp)(a:Addr)(y:V)(r:Option V):Prop:=
 (∃ kvs k,Rd H a (.dK kvs)∧y=kV k∧r=vE kvs k)∨∃ kvs k b,Rd H a (.dT kvs)∧y=.ref b∧H b=some (.tup (k.map kV))∧r=vE kvs k
def gS (H:Hp)(a:Addr)(y v:V)(H':Hp):Prop:=
 (∃ kvs k,H a=some (.dK kvs)∧y=kV k∧kvs.length<sizeLine∧H'=upd H a (.dK (y6 kvs k v))) ∨
 ∃ kvs k b,H a=some (.dT kvs)∧y=.ref b∧H b=some (.tup (k.map kV))∧kvs.length<sizeLine∧H'=upd H a (.dT (y6 kvs k v))
theorem n8.k {H:Hp}{a:Addr}{kvs:List (Key × V)}{k:Key}(e:H a=some (.dK kvs)):n8 H a (kV k) (vE kvs k):=.inl ⟨kvs,k,.inl e,rfl,rfl⟩
theorem n8.t {H:Hp}{a b:Addr}{kvs:List (List Key × V)}{k:List Key}(e:H a=some (.dT kvs))(eb:H b=some (.tup (k.map kV))):n8 H a (.ref b) (vE kvs k):=.inr ⟨kvs,k,b,.inl e,rfl,eb,rfl⟩
theorem gS.k {H:Hp}{a:Addr}{kvs:List (Key × V)}{k:Key}{v:V}(e:H a=some (.dK kvs))(hl:kvs.length<sizeLine):gS H a (kV k) v (upd H a (.dK (y6 kvs k v))):=.inl ⟨kvs,k,e,rfl,hl,rfl⟩
theorem gS.t {H:Hp}{a b:Addr}{kvs:List (List Key × V)}{k:List Key}{v:V}(e:H a=some (.dT kvs))(eb:H b=some (.tup (k.map kV)))(hl:kvs.length<sizeLine) :
  gS H a (.ref b) v (upd H a (.dT (y6 kvs k v))):=.inr ⟨kvs,k,b,e,rfl,eb,hl,rfl⟩
section
variable {X:Cx}{pins:List (Addr × Obj)}{σ : St}{H:Hp}{s:Shared}{a:Addr}{y v:V}{u r:Value}{o:Option V}{A:Around}{E:Value→Shared→Prop}
theorem Inv.big (I:Inv X pins σ H s):sysModules<s.heap.objs.size:=by
 have h:mainGlobals<s.heap.objs.size:=(I.mod.glob.keeps I.bk).lt
 exact Nat.lt_trans (by decide) h
theorem mW {h':Heap}{t':Nat}{ob:HO}(I:Inv X pins σ H s)(mu:Mut (H a))(hs:Heap.SameBut a s.heap h')(he:∃ q,h'.get? a=some q)(new:qY X.prog X.w (upd H a ob) h' a ob) :
  Inv X pins σ (upd H a ob) { s with heap:=h',toks:=t' }:=
 I.write (x:=a) (e:=a) mu (.inl rfl) (fun b q hb z=>(hs.2 b hb).trans z) he new
theorem X3 {P:Program}{w:World}{H':Hp}{h':Heap}{kvs:List (Key × V)}{vs:List (Key × Value)}(z:kvs.length≤sizeLine)(hd:(a == sysModules)=false)(rel:KV kvs vs)(dd:h'.DictOf (zQ P w) a vs) :
  qY P w H' h' a (.dK kvs):=⟨z,hd,vs,rel,dd⟩
theorem lP {H':Hp}{Q:Unit→Shared→Prop}(hu:A.units+1<cLine)(I:Inv X pins σ H s)(g:gS H a y v H')(ry:qK y u)(rv:qK v r)(h:∀ s',Inv X pins σ H' s'→Q () s') :
  wpAny (model X.prog X.w) A (setItem (.ref a) u r) Q E s:=by
 rcases g with⟨kvs,k,e,ey,l,eH⟩|⟨kvs,k,b,e,ey,eb,l,eH⟩
 ·subst ey eH
  obtain⟨z,hd,vs,rel,dd⟩:=VX I.hok e
  have hz:vs.length≤sizeLine:=by rw[← rel.length];exact z
  have hl:(y6 kvs k v).length≤sizeLine:=by have:=kB kvs k v;omega
  refine wpAny_setItem_pairs (hsz:=hz) (cM ry) dd fun h' dd' hs=>h _ ?_
  have he:∃ q,h'.get? a=some q:=let ⟨q,_,_,hq,_⟩:=dd';⟨q,hq⟩
  exact mW I (by rw[e];exact True.intro) hs he (X3 hl hd (rel.put k rv) dd')
 ·subst ey eH
  cases (show u=Value.ref b from ry)
  obtain⟨z,hd,xs,rel,dd⟩:=U0 I.hok e
  have hz:xs.length≤sizeLine:=by rw[← Paired.length rel];exact z
  have hl:(y6 kvs k v).length≤sizeLine:=by have:=kB kvs k v;omega
  refine wpAny_setItem_heap (hsz:=hz) (tupleKind_room_in1 hu) (dD I.hok eb) dd fun h' dd' hs=>h _ ?_
  obtain⟨q,es,ep,hq,h2,h3,h4,_,h5⟩:=dd'
  refine mW I (by rw[e];exact True.intro) hs ⟨q,hq⟩ ⟨hl,hd,_,(rel.put k eb rv).keeps fun c ys ec=>?_,q,es,ep,hq,h2,h3,h4,h5⟩
  rw[qI (UG ec e (fun z=>nomatch z))]
  exact ec
end
theorem rL {P:Program}{w:World}{H:Hp}(h:Heap)(hb:sysModules<h.objs.size):qY P w H (h.push { cls:=.type "dict",data:=.dict #[] }) h.objs.size (.dK []):=
 ⟨Nat.zero_le _,beq_eq_false_iff_ne.mpr (Ne.symm (Nat.ne_of_lt hb)),[],.nil,Heap.DictOf.new h⟩
def V6:TE:=fun _ H Q=>∀ p,H p=none→Q (.ref p) (upd H p (.dK []))
section
variable {X:Cx}{pos:Pos}
theorem eQ:PE X (.Dict [] [] pos) V6:=fun pins s σ H Q I h =>
 wpAny_Dict_empty ⟨.ref s.heap.objs.size,_,I.laid (a:=s.heap.objs.size) (o:=.dK []) (t':=s.toks) (fun _ _ q=>Heap.get?_push_of_some _ q) (Nat.le_refl _) (rL s.heap I.big),rfl,h _ (I.hok.fresh (Nat.le_refl _))⟩
end
end _L
namespace _A
open PySem PySem.W PySem.Calls PyProof.Rows
theorem gE {P:Params}{h:Heap}:∀ (ns:List Int) (vs:List Value),WellAll P h vs (ns.map WData.int)→IntsAre vs ns:=by
 intro ns
 induction ns with
 |nil =>
  intro vs w
  rw[List.map_nil] at w
  cases w
  exact .nil
 |cons n ns ih =>
  intro vs w
  rw[List.map_cons] at w
  cases w with
  |cons a b =>
   cases a
   exact .cons _ _ (ih _ b)
theorem sN {l:OpenLaw}{n:Nat}(hn:l.most=some n){P:Params}{h:Heap}{args:List WData}{vals:List Value}
  (hpre:l.row.toRowW.claim.pre args=true) (hwl:WellAll P h vals args) :
  ∃ a vs ns,vals=[Value.ref a]∧args=[WData.list (ns.map WData.int)]∧h.get? a=some { cls:=.type "list",data:=.seq vs.toArray } ∧ IntsAre vs ns∧ns.length≤n:=by
 have hsh:WShape.hasAll [] args [.list .int]=true:=(pre_splitW hpre).1
 have hc:l.pre.holds [] { args:=args } = true:=(pre_splitW hpre).2
 obtain⟨d,r,rfl,h1,h2⟩:=hasAllW_cons hsh
 obtain rfl:=hasAllW_nil h2
 obtain⟨xs,rfl,h3⟩:=hasW_list h1
 obtain⟨ns,rfl⟩:=items_int h3
 have hlen:ns.length≤n:=by
  unfold OpenLaw.pre at hc
  have h4:(WTm.not (.lt (.lit (.int (n:Int))) (.len (.arg 0)))).holds [] { args:=[.list (ns.map .int)] } = true:=by
   have h4:=(holds_andW hc).1
   rw[hn] at h4
   exact h4
  have h5:=condW_of h4 (w_not (w_lt w_lit (w_len_list (w_arg rfl))))
  rw[List.length_map] at h5
  refine Nat.le_of_not_lt fun q=>?_
  have q':(n:Int)<((ns.length:Nat):Int):=by omega
  first
   |(rw[decide_eq_true q'] at h5;exact absurd h5 (by decide))
   |(simp at h5;omega)
 cases hwl with
 |cons w1 w2 =>
  cases w2
  cases w1 with
  |list ho hall=>exact⟨_,_,ns,rfl,rfl,ho,gE ns _ hall,hlen⟩
theorem dR (l:OpenLaw)(args:List WData):l.row.toRowW.claim.post args (.bool true) args=true:=
 postW_of (r:=l.row.toRowW) (X:=(true == true))
  (show WShape.has [] (.bool true) .bool=true by first|rfl|decide|simp[WShape.has,WShape.arms,WShape.armsAll])
  (show (WTm.eq .res (.lit (.bool true))).value [] { args:=args,res:=some (.bool true),after:=args } = some (.bool (true == true)) from w_eq_bool (w_res rfl) w_lit) rfl
theorem attach_call {l:OpenLaw}{n:Nat}{q:Program}{loose:List Str}{XP:(Str→Option Value)→Heap→Prop}{YP:World→Heap→Prop}{d:DefRec}
  (hn:l.most=some n) (hdf:d.params.defaults=[])
  (call:∀ (w:World) (s₀ s₁:Shared) (mg mb:Str→Option Value) (fa:Addr) (o:Obj) (pm cd doc:Value) (a:Addr) (vs:List Value) (ns:List Int),
   Ground q loose [] XP w s₀ mg mb s₁.heap→YP w s₁.heap →
   s₁.heap.get? fa=some o→o.data=.func (docDef d.name d.params d.body d.scope pm cd doc)→s₁.heap.CodeRec cd d.name→mg d.name=some (.ref fa) →
   s₁.heap.get? a=some { cls:=.type "list",data:=.seq vs.toArray } → IntsAre vs ns→ns.length≤n→s₁.gens=#[] →
   codeAny (model l.prog w) callerA (.call (.ref fa) ⟨[.ref a],[]⟩) (fun r s'=>r=.ok (.ret (.bool true))∧OldK s₁.heap s'.heap∧s'.os=s₁.os∧AllBare s'.gens) s₁) :
  WalkO q loose XP YP l.row.toRowW d [] (fun f vs=>PySem.call f vs):=by
 intro w s₀ s₁ mg mb G Y fa o pm cd doc dV kV ho hd hcd hD hmg hg args vals as hpre hlay hrd hwl hlo
 obtain rfl:dV=.none:=Dflts.none hD hdf
 obtain rfl:kV=.none:=Dflts.noKw hD
 obtain⟨a,vs,ns,rfl,rfl,hobj,hints,hlen⟩:=sN hn hpre hwl
 refine enter_call (codeAny_mono (call w s₀ s₁ mg mb fa o pm cd doc a vs ns G Y ho (fd_plain hd) hcd hmg hobj hints hlen hg) fun r s' hq=>?_)
 obtain⟨rfl,h2,h3,h4⟩:=hq
 exact⟨.inl ⟨.bool true,.bool true,[],rfl,fun _=>rfl,.bool true,dR l _,fun _=>⟨List.Pairwise.nil,fun _ hm=>(nomatch hm)⟩⟩,h2,h3,h4⟩
end _A
namespace _L
open PySem PySem.Spec PyProof.Rows
theorem sR {vs:List Value}{ns:List Int}(h:IntsAre vs ns):qL (ns.map V.int) vs:=by
 induction h with
 |nil=>exact .nil
 |cons n t h ih=>exact .cons ⟨t,rfl⟩ ih
def SqX (K:PySem.W.Frag)(H:Hp)(a:Addr)(xs:List V):Prop:=
 Rd H a (.lst xs)∨∃ (its:List Value) (n:Nat),K.lookup a=some { cls:=.type "list",data:=.seq its.toArray n } ∧ xs.length≤sizeLine∧qL xs its
theorem SqX.l {K:PySem.W.Frag}{H:Hp}{a:Addr}{xs:List V}(h:SqX K H a xs):SqL K H a xs:=by
 rcases h with h|⟨its,n,e,l,v⟩
 ·exact .inl h
 ·exact .inr ⟨_,its.toArray,n,e,rfl,rfl,rfl,by rw[List.size_toArray,← v.length];exact l,by simpa using v⟩
end _L
namespace _L
open PySem PySem.Spec PyProof.Rows
def wA (s:Stmt):Arguments:=match s with
 |.FunctionDef _ a _ _ _ _ _ _ _ _=>a
 |_=>{ posonlyargs:=[],args:=[],vararg:=none,kwonlyargs:=[],kw_defaults:=[],kwarg:=none,defaults:=[] }
def zB (s:Stmt):List Stmt:=match s with
 |.FunctionDef _ _ b _ _ _ _ _ _ _=>b
 |_=>[]
def qF (s:Stmt):Scope:=match s with
 |.FunctionDef _ _ _ _ _ _ sc _ _ _=>sc
 |_=>{ kind:=.function,names:=[],isGenerator:=false,isCoroutine:=false }
abbrev CX0:CXT:=fun _ _ _ _ _ _=>False
structure Fun (K:PySem.W.Frag)(x qual:Str)(st:Stmt)(f:Addr)(fd:FuncData):Prop where
 ex:∃ (oc:Value) (od:Option Addr) (kV doc pm:Value) (an:Option Addr) (cdv ct:Value) (osl:Array (Option Value)),
  fd=PySem.W.fnOf x qual (wA st) (zB st) (qF st) .none kV doc pm an cdv ct∧K.lookup f=some ⟨oc,od,.func fd,osl⟩∧PySem.W.codeIn K cdv qual=true
 kp:PySem.W.keepIn K (.ref f)=true
section
variable {P:Program}{w:World}{K:PySem.W.Frag}{mg:Str→Option Value}{base:Heap}
theorem Fun.ok {x qual:Str}{st:Stmt}{f:Addr}{fd:FuncData}{N ps:List Str}{k:Nat}{sp:Sp}(F:Fun K x qual st f fd)(S:FnScope N ps (qF st))(len:∀ vs H Q E,sp vs H Q E→vs.length=ps.length)
  (hbody:∀ (cdv:Value) (A:Around) (outer:List Env) (s:Shared) (H:Hp) (vs:List V) (Q:VK) (E:XK),Room k (A.deeper (envOfC qual (qF st) s.heap.objs.size f cdv))→sp vs H Q E →
   ∃ t,PSs (gW CX0 P w K mg base N qual (qF st) f cdv A outer s H E).nox (zB st) t∧t { nx:=fun _ H'=>Q .non H',rt:=Q } (xA N vs) H):FnOk P w K mg base CX0 (k+1) f fd ps sp:=by
 obtain⟨oc,od,kV,doc,pm,an,cdv,ct,osl,rfl,lk,hcd⟩:=F.ex
 refine U5 lk hcd S len fun A outer s H vs Q E hr hsp=>?_
 obtain⟨t,h,q⟩:=hbody cdv A outer s H vs Q E hr hsp
 exact⟨t,h.nox,q⟩
theorem Fun.binds {x qual:Str}{st:Stmt}{f:Addr}{fd:FuncData}{ps:List Str}(F:Fun K x qual st f fd)
  (h:∀ (kV doc pm:Value) (an:Option Addr) (cdv ct:Value) (us:List Value),us.length=ps.length→bindArgs (PySem.W.fnOf x qual (wA st) (zB st) (qF st) .none kV doc pm an cdv ct) ⟨us,[]⟩=pure (ps.zip us)):yF K fd ps []:=by
 obtain⟨oc,od,kV,doc,pm,an,cdv,ct,osl,rfl,lk,hcd⟩:=F.ex
 exact .all (h kV doc pm an cdv ct)
theorem XO {x qual:Str}{st:Stmt}{f:Addr}{oc:Value}{od an:Option Addr}{osl:Array (Option Value)}{kV doc pm cdv ct:Value}(l:K.lookup f=some ⟨oc,od,.func (PySem.W.fnOf x qual (wA st) (zB st) (qF st) .none kV doc pm an cdv ct),osl⟩)
  (c:PySem.W.codeIn K cdv qual=true) (k:PySem.W.keepIn K (.ref f)=true):Fun K x qual st f (PySem.W.fnOf x qual (wA st) (zB st) (qF st) .none kV doc pm an cdv ct):=⟨⟨oc,od,kV,doc,pm,an,cdv,ct,osl,rfl,l,c⟩,k⟩
end
def qG (H H':Hp):Prop:=∀ b o,H b=some o→H' b=some o
theorem qG.refl (H:Hp):qG H H:=fun _ _ h=>h
theorem qG.trans {H H1 H2:Hp}(a:qG H H1)(b:qG H1 H2):qG H H2:=fun c o h=>b c o (a c o h)
theorem qG.free {H H':Hp}(e:qG H H'){l:Addr}(h:H' l=Option.none):H l=Option.none:=by
 cases q:H l with
 |none=>rfl
 |some o =>
  rw[e l o q] at h
  cases h
theorem qG.seq {K:PySem.W.Frag}{H H':Hp}{a:Addr}{xs:List V}(e:qG H H')(h:SqL K H a xs):SqL K H' a xs:=by
 rcases h with (h|⟨o,h⟩)|h
 ·exact .inl (.inl (e _ _ h))
 ·exact .inl (.inr ⟨o,e _ _ h⟩)
 ·exact .inr h
end _L
end
section
namespace _D
open PySem PySem.Spec PyProof.Rows _L
inductive D where
 |non|bl (b:Bool)|int (i:Int)|str (x:Str)|ty (n:String)|obj (a:Addr)|tup (xs:List D)|lst (xs:List D)|dct0|loc (i:Nat)|exn (c:Value)|fd (ks:List Key) (ds:List D)|clo (a:Addr) (vs:List V) (ds:List D)
def fC (a:Addr)(c:Value):HO:=.ext fun h=>∃ ob,h.get? a=some ob∧ob.cls=c
inductive MO where
 |dead|lst (xs:List D)|dct (kvs:List (Key × D))|ins (C:Addr) (fs:List (Str × D))
abbrev Sto:=List MO
inductive Res (β : Type) where
 |ok (d:β) (S:Sto)|ex (c:Value) (x:D) (S:Sto)|bad
@[inline] def Res.bind {β γ:Type}(r:Res β)(f:β→Sto→Res γ) : Res γ:=
 match r with
 |.ok d S=>f d S
 |.ex c x S=>.ex c x S
 |.bad=>.bad
theorem Res.bind_ok {β γ:Type}(d:β)(S:Sto)(f:β→Sto→Res γ) : (Res.ok d S).bind f=f d S:=rfl
section
variable (K:PySem.W.Frag)(P:Hp)(α : List Addr)
mutual
def Rep:D→V→Prop
 |.non,v=>v=.non
 |.bl b,v=>v=.bl b
 |.int i,v=>v=.int i
 |.str x,v=>v=.str x
 |.ty n,v=>v=.ty n
 |.obj a,v=>v=.ref a∧PySem.W.keepIn K (.ref a)=true
 |.tup ds,v=>∃ a vs,v=.ref a∧SqT K P a vs∧qE ds vs
 |.lst ds,v=>∃ a vs,v=.ref a∧SqX K P a vs∧qE ds vs
 |.dct0,v=>∃ a,v=.ref a∧P a=some (.dK [])
 |.loc i,v=>∃ a,v=.ref a∧α[i]? = some a
 |.exn c,v=>∃ a,v=.ref a∧P a=some (fC a c)
 |.fd ks ds,v=>∃ a o vs,v=.ref a∧P a=some (.frz o (.dK (ks.zip vs)))∧ks.length=vs.length∧qE ds vs
 |.clo a vs ds,v=>v=.ref a∧qE ds vs
def qE:List D→List V→Prop
 |[],vs=>vs=[]
 |d::ds,vs=>∃ w ws,vs=w::ws∧Rep d w∧qE ds ws
end
end
section
variable {K:PySem.W.Frag}{P P':Hp}{α α':List Addr}
theorem yE (e:qG P P'){a:Addr}{xs:List V}(h:SqT K P a xs):SqT K P' a xs:=by
 rcases h with (h|⟨o,h⟩)|h
 ·exact .inl (.inl (e _ _ h))
 ·exact .inl (.inr ⟨o,e _ _ h⟩)
 ·exact .inr h
theorem tP (e:qG P P'){a:Addr}{u:HO}(h:Rd P a u):Rd P' a u:=by
 rcases h with h|⟨o,h⟩
 ·exact .inl (e _ _ h)
 ·exact .inr ⟨o,e _ _ h⟩
theorem xN (e:qG P P'){a:Addr}{xs:List V}(h:SqX K P a xs):SqX K P' a xs:=by
 rcases h with h|h
 ·exact .inl (tP e h)
 ·exact .inr h
theorem jZ {i:Nat}{a:Addr}(h:α<+:α')(e:α[i]? = some a):α'[i]? = some a:=by
 obtain⟨r,rfl⟩:=h
 rw[List.getElem?_append_left (List.getElem?_eq_some_iff.mp e).1]
 exact e
mutual
theorem Rep.mono (e:qG P P')(h:α<+:α'):∀ (d:D) (v:V),Rep K P α d v→Rep K P' α' d v
 |.non,_,r=>by simpa only [Rep] using r
 |.bl _,_,r=>by simpa only [Rep] using r
 |.int _,_,r=>by simpa only [Rep] using r
 |.str _,_,r=>by simpa only [Rep] using r
 |.ty _,_,r=>by simpa only [Rep] using r
 |.obj _,_,r=>by simpa only [Rep] using r
 |.tup ds,v,r=>by
  simp only[Rep] at r ⊢
  obtain⟨a,vs,rfl,q,t⟩:=r
  exact⟨a,vs,rfl,yE e q,qE.mono e h ds vs t⟩
 |.lst ds,v,r=>by
  simp only[Rep] at r ⊢
  obtain⟨a,vs,rfl,q,t⟩:=r
  exact⟨a,vs,rfl,xN e q,qE.mono e h ds vs t⟩
 |.dct0,v,r=>by
  simp only[Rep] at r ⊢
  obtain⟨a,rfl,q⟩:=r
  exact⟨a,rfl,e _ _ q⟩
 |.loc i,v,r=>by
  simp only[Rep] at r ⊢
  obtain⟨a,rfl,q⟩:=r
  exact⟨a,rfl,jZ h q⟩
 |.exn c,v,r=>by
  simp only[Rep] at r ⊢
  obtain⟨a,rfl,q⟩:=r
  exact⟨a,rfl,e _ _ q⟩
 |.fd ks ds,v,r=>by
  simp only[Rep] at r ⊢
  obtain⟨a,o,vs,rfl,q,hl,t⟩:=r
  exact⟨a,o,vs,rfl,e _ _ q,hl,qE.mono e h ds vs t⟩
 |.clo a vs ds,v,r=>by
  simp only[Rep] at r ⊢
  exact⟨r.1,qE.mono e h ds vs r.2⟩
theorem qE.mono (e:qG P P')(h:α<+:α'):∀ (ds:List D) (vs:List V),qE K P α ds vs→qE K P' α' ds vs
 |[],vs,r=>by simpa only [qE] using r
 |d::ds,vs,r=>by
  simp only[qE] at r ⊢
  obtain⟨w,ws,rfl,r1,r2⟩:=r
  exact⟨w,ws,rfl,Rep.mono e h d w r1,qE.mono e h ds ws r2⟩
end
theorem qE.nil:qE K P α [] []:=by simp only[qE]
theorem qE.cons {d:D}{v:V}{ds:List D}{vs:List V}(r:Rep K P α d v)(t:qE K P α ds vs):qE K P α (d::ds) (v::vs):=by
 simp only[qE];exact⟨v,vs,rfl,r,t⟩
theorem qE.nil_inv {vs:List V}(r:qE K P α [] vs):vs=[]:=by simpa only [qE] using r
theorem qE.cons_inv {d:D}{ds:List D}{vs:List V}(r:qE K P α (d::ds) vs):∃ w ws,vs=w::ws∧Rep K P α d w∧qE K P α ds ws:=by simpa only [qE] using r
theorem qE.length:∀ {ds:List D} {vs:List V},qE K P α ds vs→ds.length=vs.length
 |[],vs,r=>by rw[r.nil_inv];rfl
 |d::ds,vs,r=>by
  obtain⟨w,ws,rfl,_,t⟩:=r.cons_inv
  rw[List.length_cons,List.length_cons,t.length]
theorem qE.append:∀ {ds es:List D} {vs ws:List V},qE K P α ds vs→qE K P α es ws→qE K P α (ds++es) (vs++ws)
 |[],es,vs,ws,r,t=>by rw[r.nil_inv];exact t
 |d::ds,es,vs,ws,r,t=>by
  obtain⟨w,us,rfl,r1,r2⟩:=r.cons_inv
  exact .cons r1 (r2.append t)
theorem qE.get:∀ {ds:List D} {vs:List V} {i:Nat} {d:D},qE K P α ds vs→ds[i]? = some d→∃ v,vs[i]? = some v∧Rep K P α d v
 |[],_,_,_,_,e=>by simp at e
 |d::ds,vs,i,d',r,e=>by
  obtain⟨w,ws,rfl,r1,r2⟩:=r.cons_inv
  cases i with
  |zero=>simp at e;subst e;exact⟨w,rfl,r1⟩
  |succ i =>
   obtain⟨v,h1,h2⟩:=r2.get (i:=i) (d:=d') (by simpa using e)
   exact⟨v,by simpa using h1,h2⟩
theorem qE.drop:∀ {ds:List D} {vs:List V} (n:Nat),qE K P α ds vs→qE K P α (ds.drop n) (vs.drop n)
 |ds,vs,0,r=>by simpa using r
 |[],vs,n+1,r=>by rw[r.nil_inv];exact .nil
 |d::ds,vs,n+1,r=>by
  obtain⟨w,ws,rfl,_,r2⟩:=r.cons_inv
  simpa using r2.drop n
theorem qE.take:∀ {ds:List D} {vs:List V} (n:Nat),qE K P α ds vs→qE K P α (ds.take n) (vs.take n)
 |ds,vs,0,r=>by simpa using qE.nil
 |[],vs,n+1,r=>by rw[r.nil_inv];exact .nil
 |d::ds,vs,n+1,r=>by
  obtain⟨w,ws,rfl,r1,r2⟩:=r.cons_inv
  simpa using qE.cons r1 (r2.take n)
theorem qE.set {d:D}{v:V}(q:Rep K P α d v):∀ {ds:List D} {vs:List V} (n:Nat),qE K P α ds vs→qE K P α (ds.set n d) (vs.set n v)
 |[],vs,n,r=>by rw[r.nil_inv];exact .nil
 |e::ds,vs,0,r=>by
  obtain⟨w,ws,rfl,r1,r2⟩:=r.cons_inv
  exact .cons q r2
 |e::ds,vs,n+1,r=>by
  obtain⟨w,ws,rfl,r1,r2⟩:=r.cons_inv
  exact .cons r1 (r2.set q n)
end
abbrev qD:=List (Option D)
def qS (K:PySem.W.Frag)(P:Hp)(α : List Addr)(σ : _L.St)(env:qD):Prop:=env.length=σ.length∧∀ (i:Nat) (d:D),env[i]? = some (some d)→∃ v,σ[i]? = some (some v)∧Rep K P α d v
def KVs (K:PySem.W.Frag)(P:Hp)(α : List Addr){κ : Type}:List (κ × D)→List (κ × V)→Prop:=Paired fun (p:κ × D) (q:κ × V)=>p.1=q.1∧Rep K P α p.2 q.2
def MOk (K:PySem.W.Frag)(H P:Hp)(α : List Addr)(a:Addr):MO→Prop
 |.dead=>True
 |.lst ds=>∃ vs,H a=some (.lst vs)∧qE K P α ds vs
 |.dct kvs=>∃ vs,H a=some (.dK vs)∧KVs K P α kvs vs
 |.ins C fs=>∃ dx vs,H a=some (.ins C dx vs)∧KVs K P α fs vs
inductive TbAt (x:Str)(H P:Hp)(α : List Addr)(T:Addr):Prop
 |mk (ps:Array Value) (e:H T=some (.tbl ps)) (pn:P T=none) (an:T ∉ α) (ok:TriplesOk ps.toList) (cd:∀ pos cv,codeAmong pos ps.toList=some cv→∃ c oc vs t,cv=.ref c∧H c=some (.frz oc (.frz oc (.own 0)))∧oc.data=.fields vs∧vs[1]? = some (.str (x ++ ".<locals>." ++ "<lambda>") t)):TbAt x H P α T
def nB (K:PySem.W.Frag)(H P:Hp)(α : List Addr):Prop:=∀ x∈xJ,∀ c T,PySem.W.tabIn K x=some (c,T)→TbAt x H P α T
def XT (u:HO):Prop:=(∃ ps,u=.tbl ps)∨∃ o,u=.frz o (.frz o (.own 0))
theorem nB.keep {K:PySem.W.Frag}{H H' P P':Hp}{α α':List Addr}(r:nB K H P α)(e:∀ b u,H b=some u→XT u→H' b=some u)(hp:∀ b u,H b=some u→XT u→P b=none→b ∉ α→P' b=none∧b ∉ α'):nB K H' P' α':=fun x hx c T h =>
 let ⟨ps,e1,pn,an,ok,cd⟩:=r x hx c T h
 let z:=hp _ _ e1 (.inl ⟨_,rfl⟩) pn an
 ⟨ps,e _ _ e1 (.inl ⟨_,rfl⟩),z.1,z.2,ok,fun pos cv q=>let ⟨c,oc,vs,t,a,b,d⟩:=cd pos cv q;⟨c,oc,vs,t,a,e _ _ b (.inr ⟨_,rfl⟩),d⟩⟩
structure Rel (K:PySem.W.Frag)(H P:Hp)(α : List Addr)(S:Sto):Prop where
 tb:nB K H P α
 sub:qG P H
 len:α.length=S.length
 nd:α.Nodup
 sep:∀ (i:Nat) (a:Addr) (o:MO),α[i]? = some a→S[i]? = some o→o≠.dead→P a=none
 at':∀ (i:Nat) (a:Addr) (o:MO),α[i]? = some a→S[i]? = some o→MOk K H P α a o
 own:∀ (i:Nat) (a:Addr),α[i]? = some a→H a≠none
section
variable {K:PySem.W.Frag}{H P P':Hp}{α α':List Addr}{S:Sto}
theorem qS.mono {σ : _L.St}{env:qD}(e:qG P P')(h:α<+:α')(r:qS K P α σ env):qS K P' α' σ env:=
 ⟨r.1,fun i d q=>let ⟨v,h1,h2⟩:=r.2 i d q;⟨v,h1,Rep.mono e h d v h2⟩⟩
theorem KVs.mono {κ : Type}(e:qG P P')(h:α<+:α'){kvs:List (κ × D)}{vs:List (κ × V)}(r:KVs K P α kvs vs):KVs K P' α' kvs vs:=by
 refine Paired.mapP r fun p q z=>⟨z.1,Rep.mono e h _ _ z.2⟩
theorem MOk.mono {a:Addr}(e:qG P P')(h:α<+:α'):∀ {o:MO},MOk K H P α a o→MOk K H P' α' a o
 |.dead,_=>trivial
 |.lst _,⟨vs,q,r⟩=>⟨vs,q,qE.mono e h _ _ r⟩
 |.dct _,⟨vs,q,r⟩=>⟨vs,q,r.mono e h⟩
 |.ins _ _,⟨dx,vs,q,r⟩=>⟨dx,vs,q,r.mono e h⟩
theorem Rel.grow {H':Hp}(r:Rel K H P α S)(e:qG H H'):Rel K H' P α S where
 tb:=r.tb.keep (fun b u q _=>e _ _ q) fun _ _ _ _ p n=>⟨p,n⟩
 sub:=r.sub.trans e
 len:=r.len
 nd:=r.nd
 sep:=r.sep
 at':=fun i a o q1 q2=>by
  have m:=r.at' i a o q1 q2
  cases o with
  |dead=>trivial
  |lst ds=>obtain⟨vs,q,t⟩:=m;exact⟨vs,e _ _ q,t⟩
  |dct kvs=>obtain⟨vs,q,t⟩:=m;exact⟨vs,e _ _ q,t⟩
  |ins C fs=>obtain⟨dx,vs,q,t⟩:=m;exact⟨dx,vs,e _ _ q,t⟩
 own:=fun i a q=>by
  have m:=r.own i a q
  cases z:H a with
  |none=>exact absurd z m
  |some o=>rw[e _ _ z];intro w;cases w
theorem kS {H:Hp}{a:Addr}{o:HO}(h:H a=none):qG H (upd H a o):=fun b u e=>by rw[qI (qO e h)];exact e
theorem Rel.pure {a:Addr}{o:HO}(r:Rel K H P α S)(h:H a=none):Rel K (upd H a o) (upd P a o) α S∧qG P (upd P a o):=by
 have hP:P a=none:=by
  cases z:P a with
  |none=>rfl
  |some u=>rw[r.sub _ _ z] at h;cases h
 have sP:qG P (upd P a o):=kS hP
 have r1:=r.grow (kS (o:=o) h)
 refine⟨⟨r.tb.keep (fun b u q _=>(qI (qO q h)).trans q) fun b u q _ p n=>⟨(qI (qO q h)).trans p,n⟩,fun b u e=>?_,r.len,r.nd,fun i b u q1 q2 q3=>?_,fun i b u q1 q2=>(r1.at' i b u q1 q2).mono sP (List.prefix_refl _),r1.own⟩,sP⟩
 ·by_cases hb:b=a
  ·subst hb;rw[qV] at e ⊢;exact e
  ·rw[qI hb] at e ⊢;exact r.sub _ _ e
 ·have hb:b≠a:=by rintro rfl;exact r.own i b q1 h
  rw[qI hb]
  exact r.sep i b u q1 q2 q3
theorem Rel.new {a:Addr}{o:HO}{m:MO}(r:Rel K H P α S)(h:H a=none)(hm:MOk K (upd H a o) P (α ++ [a]) a m):Rel K (upd H a o) P (α ++ [a]) (S++[m]):=by
 have hP:P a=none:=by
  cases z:P a with
  |none=>rfl
  |some u=>rw[r.sub _ _ z] at h;cases h
 have r1:=r.grow (kS (o:=o) h)
 have hp:α<+:α++[a]:=List.prefix_append _ _
 have split:∀ (i:Nat) (b:Addr),(α++[a])[i]? = some b→(i<α.length∧α[i]? = some b)∨(i=α.length∧b=a):=fun i b q=>by
  by_cases hi:i<α.length
  ·rw[List.getElem?_append_left hi] at q;exact .inl ⟨hi,q⟩
  ·rw[List.getElem?_append_right (by omega)] at q
   cases hk:i-α.length with
   |zero=>rw[hk] at q;simp at q;exact .inr ⟨by omega,q.symm⟩
   |succ k=>rw[hk] at q;simp at q
 refine⟨r.tb.keep (fun b u q _=>(qI (qO q h)).trans q) fun b u q _ p n=>⟨p,fun z=>(List.mem_append.mp z).elim n fun w=>qO q h (by simpa using w)⟩,r1.sub,by simp[r.len],?_,fun i b u q1 q2 q3=>?_,fun i b u q1 q2=>?_,fun i b q=>?_⟩
 ·rw[List.nodup_append]
  refine⟨r.nd,by simp,fun b hb c hc e=>?_⟩
  simp at hc;subst hc;subst e
  obtain⟨i,hi,e⟩:=List.mem_iff_getElem.mp hb
  exact r.own i b (by rw[List.getElem?_eq_getElem hi,e]) h
 ·rcases split i b q1 with⟨hi,z⟩|⟨hi,rfl⟩
  ·rw[List.getElem?_append_left (by rw[← r.len];exact hi)] at q2
   exact r.sep i b u z q2 q3
  ·exact hP
 ·rcases split i b q1 with⟨hi,z⟩|⟨hi,rfl⟩
  ·rw[List.getElem?_append_left (by rw[← r.len];exact hi)] at q2
   exact(r1.at' i b u z q2).mono (qG.refl _) hp
  ·rw[hi,r.len,List.getElem?_append_right (Nat.le_refl _)] at q2
   simp at q2;subst q2
   exact hm
 ·rcases split i b q with⟨_,z⟩|⟨_,rfl⟩
  ·exact r1.own i b z
  ·rw[qV];intro z;cases z
theorem dN {N:List Addr}(hN:N.Nodup){i j:Nat}{x:Addr}(a:N[i]? = some x)(b:N[j]? = some x):i=j:=by
 obtain⟨h1,e1⟩:=List.getElem?_eq_some_iff.mp a
 obtain⟨h2,e2⟩:=List.getElem?_eq_some_iff.mp b
 exact(List.getElem_inj hN).mp (e1.trans e2.symm)
theorem Rel.put {a:Addr}{i:Nat}{o:HO}{m m':MO}(r:Rel K H P α S)(ha:α[i]? = some a)(hs:S[i]? = some m)(hd:m≠.dead)(hm:MOk K (upd H a o) P α a m'):Rel K (upd H a o) P α (S.set i m'):=by
 have hP:=r.sep i a m ha hs hd
 have hi:i<S.length:=(List.getElem?_eq_some_iff.mp hs).1
 refine⟨r.tb.keep (fun b u q hu=>?_) fun _ _ _ _ p n=>⟨p,n⟩,fun b u e=>?_,by simp[r.len],r.nd,fun j b u q1 q2 q3=>?_,fun j b u q1 q2=>?_,fun j b q=>?_⟩
 ·refine(qI ?_).trans q
  rintro rfl
  have z:=r.at' i _ m ha hs
  cases m with
  |dead=>exact hd rfl
  |lst ds=>obtain⟨vs,z,_⟩:=z;rw[q] at z;rcases hu with⟨_,rfl⟩|⟨_,rfl⟩ <;> cases z
  |dct kvs=>obtain⟨vs,z,_⟩:=z;rw[q] at z;rcases hu with⟨_,rfl⟩|⟨_,rfl⟩ <;> cases z
  |ins C fs=>obtain⟨dx,vs,z,_⟩:=z;rw[q] at z;rcases hu with⟨_,rfl⟩|⟨_,rfl⟩ <;> cases z
 ·have hb:b≠a:=by rintro rfl;rw[hP] at e;cases e
  rw[qI hb];exact r.sub _ _ e
 ·by_cases hj:j=i
  ·subst hj;rw[ha] at q1;cases q1;exact hP
  ·rw[List.getElem?_set_ne (Ne.symm hj)] at q2;exact r.sep j b u q1 q2 q3
 ·by_cases hj:j=i
  ·subst hj;rw[ha] at q1;cases q1
   rw[List.getElem?_set_self hi] at q2;cases q2
   exact hm
  ·rw[List.getElem?_set_ne (Ne.symm hj)] at q2
   have hb:b≠a:=by rintro rfl;exact hj (dN r.nd q1 ha)
   have z:=r.at' j b u q1 q2
   cases u with
   |dead=>trivial
   |lst ds=>obtain⟨vs,q,t⟩:=z;exact⟨vs,by rw[qI hb];exact q,t⟩
   |dct kvs=>obtain⟨vs,q,t⟩:=z;exact⟨vs,by rw[qI hb];exact q,t⟩
   |ins C fs=>obtain⟨dx,vs,q,t⟩:=z;exact⟨dx,vs,by rw[qI hb];exact q,t⟩
 ·by_cases hb:b=a
  ·subst hb;rw[qV];intro z;cases z
  ·rw[qI hb];exact r.own j b q
end
theorem nn {β : Type}{a:β}{p:Prop}(h:(none:Option β) = some a):p:=by cases h
theorem uP {β : Type}{c:Prop}[Decidable c]{a b:β}(h:(if c then some a else none)=some b):c∧a=b:=by
 by_cases z:c
 ·rw[if_pos z] at h;exact⟨z,Option.some.inj h⟩
 ·rw[if_neg z] at h;exact nn h
end _D
end
section
namespace _D
open PySem PySem.Spec PyProof.Rows _L
abbrev DE:=qD→Sto→Res D
abbrev DT:=qD→Sto→Res Bool
abbrev DA:=qD→Sto→Res (List D)
inductive Out where
 |nx (env:qD) (S:Sto)|rt (d:D) (S:Sto)|bk (env:qD) (S:Sto)|ct (env:qD) (S:Sto)|ex (c:Value) (x:D) (env:qD) (S:Sto)|bad
abbrev DS:=qD→Sto→Out
def Old (X:Cx)(pins:List (Addr × Obj))(H:Hp)(b:Addr):Prop:=
 (∃ o,X.s₀.heap.get? b=some o)∨H b≠none∨(∃ p∈X.pn++pins,p.1=b)∨∃ x,X.env.cells.lookup x=some b
def Cv (X:Cx)(pins:List (Addr × Obj))(H:Hp)(B h:Heap):Prop:=∀ b o,h.get? b=some o→Old X pins H b→b ∉ frs X.stack→B.get? b=some o
inductive FlyX (X:Cx)(pins:List (Addr × Obj))(H:Hp)(c:Value)(e:Addr)(h:Heap):Prop where
 |new (g:Heap) (args:List Value):Heap.MadeExcOf g h e c args→g.FunFrames X.base X.stack→(∀ b o,h.get? b=some o→Old X pins H b→g.get? b=some o)→FlyX X pins H c e h
 |fly (B:Heap) (a0:Value):Heap.FlyingW B X.stack e c a0 h→Cv X pins H B h→FlyX X pins H c e h
inductive XOk (X:Cx)(P:Hp)(α : List Addr)(c:Value)(x:D)(S:Sto)(u:Value)(s:Shared):Prop
 |mk (e:Addr) (pins:List (Addr × Obj)) (σ : _L.St) (H:Hp) (P':Hp) (α' : List Addr) (e1:u=.ref e) (I:Inv X pins σ H s) (r:Rel X.K H P' α' S) (q1:qG P P') (q2:α<+:α') (q3:X.ex=[]∧X.stack=X.env::X.outer∧X.env.frame=some X.env.locals) (q4:FlyX X pins H c e s.heap):XOk X P α c x S u s
theorem XOk.base {X:Cx}{P P1:Hp}{α α1:List Addr}{c:Value}{x:D}{S:Sto}{u:Value}{s:Shared}(e:qG P P1)(h:α<+:α1)(k:XOk X P1 α1 c x S u s):XOk X P α c x S u s:=by
 obtain⟨a,pins,σ,H,P',α',e1,I,r,q1,q2,q3,q4⟩:=k
 exact⟨a,pins,σ,H,P',α',e1,I,r,e.trans q1,h.trans q2,q3,q4⟩
section
variable (X:Cx)
def qH {β : Type}(P:Hp)(α : List Addr)(r:Res β)(Ok:β→Sto→Prop):Prop:=
 match r with
 |.ok d S'=>Ok d S'
 |.ex c x S'=>∀ u s',XOk X P α c x S' u s'→X.xe u s'
 |.bad=>False
def OkV (P:Hp)(α : List Addr)(Q:VK)(d:D)(S':Sto):Prop:=∀ v H' P' α',Rel X.K H' P' α' S'→qG P P'→α<+:α'→Rep X.K P' α' d v→Q v H'
def OkT (P:Hp)(α : List Addr)(Q:Bool→Hp→Prop)(b:Bool)(S':Sto):Prop:=∀ H' P' α',Rel X.K H' P' α' S'→qG P P'→α<+:α'→Q b H'
def OkA (P:Hp)(α : List Addr)(Q:List V→Hp→Prop)(ds:List D)(S':Sto):Prop:=∀ vs H' P' α',Rel X.K H' P' α' S'→qG P P'→α<+:α'→qE X.K P' α' ds vs→Q vs H'
abbrev qR (P:Hp)(α : List Addr)(r:Res D)(Q:VK):Prop:=qH X P α r (OkV X P α Q)
abbrev u0 (P:Hp)(α : List Addr)(r:Res Bool)(Q:Bool→Hp→Prop):Prop:=qH X P α r (OkT X P α Q)
abbrev j6 (P:Hp)(α : List Addr)(r:Res (List D))(Q:List V→Hp→Prop):Prop:=qH X P α r (OkA X P α Q)
def qT (P:Hp)(α : List Addr)(r:Out)(D:Ends):Prop:=
 match r with
 |.nx env' S'=>∀ σ' H' P' α',Rel X.K H' P' α' S'→qS X.K P' α' σ' env'→qG P P'→α<+:α'→D.nx σ' H'
 |.bk env' S'=>∀ σ' H' P' α',Rel X.K H' P' α' S'→qS X.K P' α' σ' env'→qG P P'→α<+:α'→D.bk σ' H'
 |.ct env' S'=>∀ σ' H' P' α',Rel X.K H' P' α' S'→qS X.K P' α' σ' env'→qG P P'→α<+:α'→D.ct σ' H'
 |.rt d S'=>∀ v H' P' α',Rel X.K H' P' α' S'→qG P P'→α<+:α'→Rep X.K P' α' d v→D.rt v H'
 |.ex c x _ S'=>∀ u s',XOk X P α c x S' u s'→X.xe u s'
 |.bad=>False
inductive tD (f:DE)(σ : _L.St)(H:Hp)(Q:VK):Prop
 |mk (P:Hp) (α : List Addr) (env:qD) (S:Sto) (r:Rel X.K H P α S) (re:qS X.K P α σ env) (af:qR X P α (f env S) Q):tD f σ H Q
inductive tDT (f:DT)(σ : _L.St)(H:Hp)(Q:Bool→Hp→Prop):Prop
 |mk (P:Hp) (α : List Addr) (env:qD) (S:Sto) (r:Rel X.K H P α S) (re:qS X.K P α σ env) (af:u0 X P α (f env S) Q):tDT f σ H Q
inductive tDA (f:DA)(σ : _L.St)(H:Hp)(Q:List V→Hp→Prop):Prop
 |mk (P:Hp) (α : List Addr) (env:qD) (S:Sto) (r:Rel X.K H P α S) (re:qS X.K P α σ env) (af:j6 X P α (f env S) Q):tDA f σ H Q
inductive tDS (f:DS)(D:Ends)(σ : _L.St)(H:Hp):Prop
 |mk (P:Hp) (α : List Addr) (env:qD) (S:Sto) (r:Rel X.K H P α S) (re:qS X.K P α σ env) (af:qT X P α (f env S) D):tDS f D σ H
end
section
variable {X:Cx}{P P1:Hp}{α α1:List Addr}
theorem qR.base {r:Res D}{Q:VK}(e:qG P P1)(h:α<+:α1)(k:qR X P α r Q):qR X P1 α1 r Q:=by
 cases r with
 |ok d S=>exact fun v H' P' α' r q1 q2 q3=>k v H' P' α' r (e.trans q1) (h.trans q2) q3
 |ex c x S=>exact fun u s' q=>k u s' (q.base e h)
 |bad=>exact k
theorem u0.base {r:Res Bool}{Q:Bool→Hp→Prop}(e:qG P P1)(h:α<+:α1)(k:u0 X P α r Q):u0 X P1 α1 r Q:=by
 cases r with
 |ok d S=>exact fun H' P' α' r q1 q2=>k H' P' α' r (e.trans q1) (h.trans q2)
 |ex c x S=>exact fun u s' q=>k u s' (q.base e h)
 |bad=>exact k
theorem j6.base {r:Res (List D)}{Q:List V→Hp→Prop}(e:qG P P1)(h:α<+:α1)(k:j6 X P α r Q):j6 X P1 α1 r Q:=by
 cases r with
 |ok d S=>exact fun v H' P' α' r q1 q2 q3=>k v H' P' α' r (e.trans q1) (h.trans q2) q3
 |ex c x S=>exact fun u s' q=>k u s' (q.base e h)
 |bad=>exact k
theorem qT.base {r:Out}{D:Ends}(e:qG P P1)(h:α<+:α1)(k:qT X P α r D):qT X P1 α1 r D:=by
 cases r with
 |nx env S=>exact fun v H' P' α' r q0 q1 q2=>k v H' P' α' r q0 (e.trans q1) (h.trans q2)
 |bk env S=>exact fun v H' P' α' r q0 q1 q2=>k v H' P' α' r q0 (e.trans q1) (h.trans q2)
 |ct env S=>exact fun v H' P' α' r q0 q1 q2=>k v H' P' α' r q0 (e.trans q1) (h.trans q2)
 |rt d S=>exact fun v H' P' α' r q1 q2 q3=>k v H' P' α' r (e.trans q1) (h.trans q2) q3
 |ex c x env S=>exact fun u s' q=>k u s' (q.base e h)
 |bad=>exact k
theorem xr {Q:VK}{v:V}{H:Hp}{d:D}{S:Sto}(k:OkV X P α Q d S)(r:Rel X.K H P α S)(q:Rep X.K P α d v):Q v H:=k v H P α r (qG.refl _) (List.prefix_refl _) q
end
section
variable {X:Cx}{a b e:Expr}{pos:Pos}
theorem peW {t t':TE}(h:PE X e t)(w:∀ σ H Q,t' σ H Q→t σ H Q):PE X e t':=fun pins s σ H Q I q=>h pins s σ H Q I (w σ H Q q)
theorem psW {st:Stmt}{t t':TS}(h:PS X st t)(w:∀ D σ H,t' D σ H→t D σ H):PS X st t':=fun pins s σ H D I q=>h pins s σ H D I (w D σ H q)
theorem YC {st:List Stmt}{t t':TS}(h:PSs X st t)(w:∀ D σ H,t' D σ H→t D σ H):PSs X st t':=fun pins s σ H D I q=>h pins s σ H D I (w D σ H q)
theorem paW {es:List Expr}{t t':TA}(h:PA X es t)(w:∀ σ H Q,t' σ H Q→t σ H Q):PA X es t':=fun pos pins s σ H Q I q=>h pos pins s σ H Q I (w σ H Q q)
structure Got (X:Cx)(pins:List (Addr × Obj))(σ : _L.St)(env:qD)(P:Hp)(α : List Addr)(u:Value)(s1:Shared)(v:V)(H1 P1:Hp)(α1:List Addr)(d:D)(S1:Sto):Prop where
 inv:Inv X pins σ H1 s1
 val:qK v u
 rel:Rel X.K H1 P1 α1 S1
 env:qS X.K P1 α1 σ env
 rep:Rep X.K P1 α1 d v
 same:qG P P1
 pre:α<+:α1
inductive GotG (X:Cx)(pins:List (Addr × Obj))(σ : _L.St)(env:qD)(P:Hp)(α : List Addr)(u:Value)(s1:Shared){γ : Type}(g:D→Sto→Res γ)(Ok:γ→Sto→Prop):Prop
 |mk (v:V) (H1 P1:Hp) (α1:List Addr) (d:D) (S1:Sto) (G:Got X pins σ env P α u s1 v H1 P1 α1 d S1) (q:qH X P α (g d S1) Ok):GotG X pins σ env P α u s1 g Ok
inductive GotAG (X:Cx)(pins:List (Addr × Obj))(σ : _L.St)(env:qD)(P:Hp)(α : List Addr)(us:List Value)(s1:Shared){γ : Type}(g:List D→Sto→Res γ)(Ok:γ→Sto→Prop):Prop
 |mk (vs:List V) (H1 P1:Hp) (α1:List Addr) (ds:List D) (S1:Sto) (I:Inv X pins σ H1 s1) (rv:qL vs us) (r:Rel X.K H1 P1 α1 S1) (re:qS X.K P1 α1 σ env) (rp:qE X.K P1 α1 ds vs) (e1:qG P P1) (e2:α<+:α1) (q:qH X P α (g ds S1) Ok):GotAG X pins σ env P α us s1 g Ok
inductive GotT (X:Cx)(pins:List (Addr × Obj))(σ : _L.St)(env:qD)(P:Hp)(α : List Addr)(b:Bool)(s1:Shared){γ : Type}(g:Bool→Sto→Res γ)(Ok:γ→Sto→Prop):Prop
 |mk (H1 P1:Hp) (α1:List Addr) (S1:Sto) (I:Inv X pins σ H1 s1) (r:Rel X.K H1 P1 α1 S1) (re:qS X.K P1 α1 σ env) (e1:qG P P1) (e2:α<+:α1) (q:qH X P α (g b S1) Ok):GotT X pins σ env P α b s1 g Ok
theorem zT {γ : Type}{f:DE}{g:D→Sto→Res γ}{Ok:γ→Sto→Prop}{pins:List (Addr × Obj)}{s:Shared}{σ : _L.St}{H P:Hp}{α : List Addr}{env:qD}{S:Sto}(he:PE X e (tD X f))(I:Inv X pins σ H s)(r:Rel X.K H P α S)
  (re:qS X.K P α σ env) (af:qH X P α ((f env S).bind g) Ok) :
  wpAny (model X.prog X.w) X.A (eval e X.env) (fun u s1=>GotG X pins σ env P α u s1 g Ok) X.xe s:=by
 refine thn (he pins s σ H (fun v H1=>∃ P1 α1 d S1,Rel X.K H1 P1 α1 S1∧qS X.K P1 α1 σ env∧Rep X.K P1 α1 d v∧qG P P1∧α<+:α1∧qH X P α (g d S1) Ok) I ⟨P,α,env,S,r,re,?_⟩) fun u s1 ⟨v,H1,I1,rv,P1,α1,d,S1,q1,q2,q3,q4,q5,q6⟩=>⟨v,H1,P1,α1,d,S1,⟨I1,rv,q1,q2,q3,q4,q5⟩,q6⟩
 cases q:f env S with
 |bad=>rw[q] at af;exact af
 |ex c x S'=>rw[q] at af;exact af
 |ok d S' =>
  rw[q] at af
  exact fun v H' P' α' r' e1 e2 rp=>⟨P',α',d,S',r',re.mono e1 e2,rp,e1,e2,af⟩
theorem xO {γ : Type}{es:List Expr}{f:DA}{g:List D→Sto→Res γ}{Ok:γ→Sto→Prop}{pins:List (Addr × Obj)}{s:Shared}{σ : _L.St}{H P:Hp}{α : List Addr}{env:qD}{S:Sto}(he:PA X es (tDA X f))(I:Inv X pins σ H s)(r:Rel X.K H P α S)
  (re:qS X.K P α σ env) (af:qH X P α ((f env S).bind g) Ok) (pos:Pos) :
  wpAny (model X.prog X.w) X.A (spliced (backTo pos (starEach es X.env))) (fun us s1=>GotAG X pins σ env P α us s1 g Ok) X.xe s:=by
 refine thn (he pos pins s σ H (fun vs H1=>∃ P1 α1 ds S1,Rel X.K H1 P1 α1 S1∧qS X.K P1 α1 σ env∧qE X.K P1 α1 ds vs∧qG P P1∧α<+:α1∧qH X P α (g ds S1) Ok) I ⟨P,α,env,S,r,re,?_⟩) fun u s1 ⟨v,H1,I1,rv,P1,α1,d,S1,q1,q2,q3,q4,q5,q6⟩=>⟨v,H1,P1,α1,d,S1,I1,rv,q1,q2,q3,q4,q5,q6⟩
 cases q:f env S with
 |bad=>rw[q] at af;exact af
 |ex c x S'=>rw[q] at af;exact af
 |ok d S' =>
  rw[q] at af
  exact fun v H' P' α' r' e1 e2 rp=>⟨P',α',d,S',r',re.mono e1 e2,rp,e1,e2,af⟩
theorem jD {γ : Type}{f:DT}{g:Bool→Sto→Res γ}{Ok:γ→Sto→Prop}{pins:List (Addr × Obj)}{s:Shared}{σ : _L.St}{H P:Hp}{α : List Addr}{env:qD}{S:Sto}{m:Sem Bool}
  (he:∀ (Q:Bool→Hp→Prop),tDT X f σ H Q→wpAny (model X.prog X.w) X.A m (TP X pins σ Q) X.xe s) (r:Rel X.K H P α S) (re:qS X.K P α σ env) (af:qH X P α ((f env S).bind g) Ok) :
  wpAny (model X.prog X.w) X.A m (fun b s1=>GotT X pins σ env P α b s1 g Ok) X.xe s:=by
 refine thn (he (fun b H1=>∃ P1 α1 S1,Rel X.K H1 P1 α1 S1∧qS X.K P1 α1 σ env∧qG P P1∧α<+:α1∧qH X P α (g b S1) Ok) ⟨P,α,env,S,r,re,?_⟩) fun b s1 ⟨H1,I1,P1,α1,S1,q1,q2,q4,q5,q6⟩=>⟨H1,P1,α1,S1,I1,q1,q2,q4,q5,q6⟩
 cases q:f env S with
 |bad=>rw[q] at af;exact af
 |ex c x S'=>rw[q] at af;exact af
 |ok d S' =>
  rw[q] at af
  exact fun H' P' α' r' e1 e2=>⟨P',α',S',r',re.mono e1 e2,e1,e2,af⟩
def dC (d:D):DE:=fun _ S=>.ok d S
def qB (i:Nat):DE:=fun env S=>match env[i]? with
 |some (some d)=>.ok d S
 |_=>.bad
theorem ZR {i j}:PE X (.Constant (.int i) j pos) (tD X (dC (.int i))):=peW Y2 fun σ H Q ⟨P,α,env,S,r,re,af⟩=>xr af r (by simp only[Rep])
theorem VP {i j}:PE X (.Constant (.bool i) j pos) (tD X (dC (.bl i))):=peW UV fun σ H Q ⟨P,α,env,S,r,re,af⟩=>xr af r (by simp only[Rep])
theorem ZW {i j}:PE X (.Constant (.str i) j pos) (tD X (dC (.str i))):=peW Y5 fun σ H Q ⟨P,α,env,S,r,re,af⟩=>xr af r (by simp only[Rep])
theorem ZT {j}:PE X (.Constant .none j pos) (tD X (dC .non)):=peW Y3 fun σ H Q ⟨P,α,env,S,r,re,af⟩=>xr af r (by simp only[Rep])
set_option tactic.hygienic true in
theorem QC {i:Nat}{σ : _L.St}{H:Hp}{Q:VK}(h:tD X (qB i) σ H Q):V7 i σ H Q:=by
 obtain⟨P,α,env,S,r,re,af⟩:=h
 unfold qB at af
 split at af
 ·rename_i d q
  obtain⟨v,h1,h2⟩:=re.2 i d q
  exact⟨v,h1,xr af r h2⟩
 ·exact False.elim af
theorem dv (i:Nat){x:Str}(hN:X.N[i]? = some x:=by rfl)(hv:Vis X.env.scope x:=by first|exact Or.inl rfl|exact Or.inr (Or.inl rfl)|exact Or.inr (Or.inr rfl))(hd:(x == ("__debug__" : Str))=false:=by decide)
  (hcd:(x == ("__classdict__" : Str))=false:=by decide):PE X (.Name x pos) (tD X (qB i)):=peW (fR hN hv hd hcd) fun σ H Q h=>QC h
theorem aY {x:Str}{d:D}{v:V}{u:Value}(hg:Gl X x)(hm:X.mg x=some u)(r:qK v u)(q:∀ P α,Rep X.K P α d v)(hd:(x == ("__debug__" : Str))=false:=by decide):PE X (.Name x pos) (tD X (dC d)):=
 peW (oP hg hm r hd) fun σ H Q ⟨P,α,env,S,r,re,af⟩=>xr af r (q _ _)
theorem aS {x:Str}{n:String}(hg:Gl X x)(hm:X.mg x=none)(hv:bootBuiltins x=some (.type n))(hn:x ≠ "__name__":=by decide)(hd:(x == ("__debug__" : Str))=false:=by decide):PE X (.Name x pos) (tD X (dC (.ty n))):=
 peW (oO (v:=.ty n) hg hm hv rfl hn hd) fun σ H Q ⟨P,α,env,S,r,re,af⟩=>xr af r (by simp only[Rep])
abbrev G2:=D→D→Sto→Res D
def OpD (X:Cx)(f:Value→Value→Sem Value)(g:G2):Prop:=
 ∀ (pins:List (Addr × Obj)) (σ : _L.St) (H:Hp) (s:Shared) (P:Hp) (α : List Addr) (S:Sto) (v u:V) (vv uu:Value) (a b:D) (Q:VK),Inv X pins σ H s→Rel X.K H P α S→qK v vv→qK u uu→Rep X.K P α a v→Rep X.K P α b u→qR X P α (g a b S) Q →
  wpAny (model X.prog X.w) X.A (f vv uu) (EP X pins σ Q) X.xe s
theorem OpD.of {f:Value→Value→Sem Value}{r:R2}{g:G2}(h:OpR X f r)(w:∀ H P α S v u a b Q,Rel X.K H P α S→Rep X.K P α a v→Rep X.K P α b u→qR X P α (g a b S) Q→r v u H Q):OpD X f g:=
 fun pins σ H s P α S v u vv uu a b Q I rl r1 r2 p1 p2 af=>h pins s σ H v u vv uu Q I r1 r2 (w H P α S v u a b Q rl p1 p2 af)
def IxD (X:Cx)(g:G2):Prop:=
 ∀ (value slice:Expr) (pins:List (Addr × Obj)) (σ : _L.St) (H:Hp) (s:Shared) (P:Hp) (α : List Addr) (S:Sto) (v u:V) (vv uu:Value) (a b:D) (Q:VK),Inv X pins σ H s→Rel X.K H P α S→qK v vv→qK u uu→Rep X.K P α a v→Rep X.K P α b u→qR X P α (g a b S) Q →
  subscripted slice false vv uu=operate [vv,uu] (getItem vv uu)→wpAny (model X.prog X.w) X.A (subscriptTail value slice vv uu) (EP X pins σ Q) X.xe s
def w8 (X:Cx)(f:Value)(g:List D→Sto→Res D):Prop:=
 ∀ (pins:List (Addr × Obj)) (σ : _L.St) (H:Hp) (s:Shared) (P:Hp) (α : List Addr) (S:Sto) (vs:List V) (us:List Value) (ds:List D) (Q:VK),Inv X pins σ H s→Rel X.K H P α S→qL vs us→qE X.K P α ds vs→qR X P α (g ds S) Q →
  wpAny (model X.prog X.w) X.A (call f us) (EP X pins σ Q) X.xe s
def d2 (g:G2)(fa fb:DE):DE:=fun env S=>(fa env S).bind fun x S1=>(fb env S1).bind fun y S2=>g x y S2
def d1 (g:D→Sto→Res D)(fa:DE):DE:=fun env S=>(fa env S).bind g
variable {fa fb:DE}
theorem bZ {g:G2}{f:Value→Value→Sem Value}{pins:List (Addr × Obj)}{s:Shared}{σ : _L.St}{H:Hp}{Q:VK}(ho:OpD X f g)(ha:PE X a (tD X fa))(hb:PE X b (tD X fb))(I:Inv X pins σ H s)(h:tD X (d2 g fa fb) σ H Q) :
  wpAny (model X.prog X.w) X.A (eval a X.env) (fun v s₁=>wpAny (model X.prog X.w) X.A (eval b X.env) (fun u s₂=>wpAny (model X.prog X.w) X.A (f v u) (EP X pins σ Q) X.xe s₂) X.xe s₁) X.xe s:=by
 obtain⟨P,α,env,S,r,re,af⟩:=h
 refine thn (zT ha I r re af) fun vv s1 ⟨v,H1,P1,α1,d,S1,G1,af1⟩=>?_
 refine thn (zT hb G1.inv G1.rel G1.env (P:=P1) (α:=α1) (Ok:=OkV X P1 α1 Q) (g:=fun y S2=>g d y S2) ?_) fun uu s2 ⟨u,H2,P2,α2,d',S2,G2,af2⟩=>?_
 ·exact qR.base G1.same G1.pre af1
 ·exact ho pins σ H2 s2 P2 α2 S2 v u vv uu d d' Q G2.inv G2.rel G1.val G2.val (Rep.mono G2.same G2.pre _ _ G1.rep) G2.rep (qR.base G2.same G2.pre af2)
theorem VT {op:Operator}{g:G2}(ho:OpD X (binaryOp op) g)(ha:PE X a (tD X fa))(hb:PE X b (tD X fb)):PE X (.BinOp a op b pos) (tD X (d2 g fa fb)):=
 fun pins s σ H Q I h=>wpAny_BinOp (bZ ho ha hb I h)
theorem ZO {op:CmpOp}{g:G2}(ho:OpD X (compareOp op) g)(ha:PE X a (tD X fa))(hb:PE X b (tD X fb))(hm:behindInMarks op b=false:=by first|exact uD _|with_unfolding_all rfl):PE X (.Compare a [op] [b] pos) (tD X (d2 g fa fb)):=
 fun pins s σ H Q I h=>wpAny_Compare1 (bZ ho ha hb I h) hm
theorem VS {g:G2}(ho:IxD X g)(ha:PE X a (tD X fa))(hb:PE X b (tD X fb))(hs:gT b:=by intro _ _;rfl):PE X (.Subscript a b pos) (tD X (d2 g fa fb)):=by
 intro pins s σ H Q I h
 obtain⟨P,α,env,S,r,re,af⟩:=h
 have IxR':IxR X (fun x y H Q=>∃ P α S a b,Rel X.K H P α S∧Rep X.K P α a x∧Rep X.K P α b y∧qR X P α (g a b S) Q):=fun value slice pins s σ H x y v u Q I rx ry ⟨P,α,S,a,b,r,p1,p2,af⟩ hsl =>
  ho value slice pins σ H s P α S x y v u a b Q I r rx ry p1 p2 af hsl
 refine peW (UW IxR' ha hb hs) (t':=tD X (d2 g fa fb)) (fun σ H Q h=>?_) pins s σ H Q I ⟨P,α,env,S,r,re,af⟩
 obtain⟨P,α,env,S,r,re,af⟩:=h
 refine⟨P,α,env,S,r,re,?_⟩
 unfold d2 at af
 cases q:fa env S with
 |bad=>rw[q] at af;exact af
 |ex c x S'=>rw[q] at af;exact af
 |ok d S1 =>
  rw[q] at af
  intro v H1 P1 α1 r1 e1 e2 rp
  refine⟨P1,α1,env,S1,r1,re.mono e1 e2,?_⟩
  have af':qR X P α ((fb env S1).bind fun y S2=>g d y S2) Q:=af
  cases q2:fb env S1 with
  |bad=>rw[q2] at af';exact af'
  |ex c x S'=>rw[q2] at af';exact fun u s' z=>af' u s' (z.base e1 e2)
  |ok d' S2 =>
   rw[q2] at af'
   intro u H2 P2 α2 r2 e3 e4 rp2
   exact⟨P2,α2,S2,d,d',r2,Rep.mono e3 e4 _ _ rp,rp2,qR.base (e1.trans e3) (e2.trans e4) af'⟩
def qC:DA:=fun _ S=>.ok [] S
def qA (f:DE)(g:DA):DA:=fun env S=>(f env S).bind fun x S1=>(g env S1).bind fun xs S2=>.ok (x::xs) S2
theorem ZI:PA X [] (tDA X qC):=paW Y1 fun σ H Q ⟨P,α,env,S,r,re,af⟩=>af [] H P α r (qG.refl _) (List.prefix_refl _) .nil
theorem aR {es:List Expr}{g:DA}(ha:PE X e (tD X fa))(hr:PA X es (tDA X g))(hs:starEach (e::es) X.env=(false,eval e X.env)::starEach es X.env:=by rfl):PA X (e::es) (tDA X (qA fa g)):=by
 intro pos pins s σ H Q I h
 obtain⟨P,α,env,S,r,re,af⟩:=h
 rw[hs]
 show wpAny _ _ (spliced ((false,eval e X.env)::backTo pos (starEach es X.env))) _ _ s
 refine Calls.spliced_cons (thn (zT ha I r re af) fun u s1 ⟨x,H1,P1,α1,d,S1,G1,af1⟩=>?_)
 refine thn (xO hr G1.inv G1.rel G1.env (P:=P1) (α:=α1) (Ok:=OkA X P1 α1 Q) (j6.base G1.same G1.pre af1) pos) fun us s2 ⟨xs,H2,P2,α2,ds,S2,I2,rv,r2,re2,rp2,e1,e2,af2⟩=>?_
 exact⟨x::xs,H2,I2,.cons G1.val rv,af2 _ _ _ _ r2 e1 e2 (.cons (Rep.mono e1 e2 _ _ G1.rep) rp2)⟩
def lim:Nat:=16777216
theorem zK:lim=sizeLine:=sizeLine_eq.symm
def wI (f:DA):DE:=fun env S=>(f env S).bind fun xs S1=>if xs.length≤lim then .ok (.tup xs) S1 else .bad
def zW (f:DA):DE:=fun env S=>(f env S).bind fun xs S1=>if xs.length≤lim then .ok (.lst xs) S1 else .bad
def nO (f:DA):DE:=fun env S=>(f env S).bind fun xs S1=>if xs.length≤lim then .ok (.loc S1.length) (S1++[.lst xs]) else .bad
theorem tR {K:PySem.W.Frag}{P:Hp}{α : List Addr}{a:Addr}{ds:List D}{vs:List V}(h:SqT K P a vs)(r:qE K P α ds vs):Rep K P α (.tup ds) (.ref a):=by simp only[Rep];exact⟨a,vs,rfl,h,r⟩
theorem tQ {K:PySem.W.Frag}{P:Hp}{α : List Addr}{a:Addr}{ds:List D}{vs:List V}(h:SqX K P a vs)(r:qE K P α ds vs):Rep K P α (.lst ds) (.ref a):=by simp only[Rep];exact⟨a,vs,rfl,h,r⟩
theorem kM {H P:Hp}{α : List Addr}{S:Sto}{p:Addr}{ds:List D}{vs:List V}{Q:VK}(r:Rel X.K H P α S)(hp:H p=none)(rp:qE X.K P α ds vs)(af:OkV X P α Q (.tup ds) S):Q (.ref p) (upd H p (.tup vs)):=by
 obtain⟨r1,e1⟩:=r.pure (o:=.tup vs) hp
 exact af _ _ _ α r1 e1 (List.prefix_refl _) (tR (.of qV) (qE.mono e1 (List.prefix_refl _) _ _ rp))
theorem v9 {H P:Hp}{α : List Addr}{S:Sto}{p:Addr}{ds:List D}{vs:List V}{Q:VK}(r:Rel X.K H P α S)(hp:H p=none)(rp:qE X.K P α ds vs)(af:OkV X P α Q (.lst ds) S):Q (.ref p) (upd H p (.lst vs)):=by
 obtain⟨r1,e1⟩:=r.pure (o:=.lst vs) hp
 exact af _ _ _ α r1 e1 (List.prefix_refl _) (tQ (.inl (.inl qV)) (qE.mono e1 (List.prefix_refl _) _ _ rp))
theorem tG {H P:Hp}{α : List Addr}{S:Sto}{p:Addr}{ds:List D}{vs:List V}{Q:VK}(r:Rel X.K H P α S)(hp:H p=none)(rp:qE X.K P α ds vs)(af:OkV X P α Q (.loc S.length) (S++[.lst ds])):Q (.ref p) (upd H p (.lst vs)):=by
 have hpre:α<+:α++[p]:=List.prefix_append _ _
 have r1:=r.new (o:=.lst vs) (m:=.lst ds) hp ⟨vs,qV,qE.mono (qG.refl _) hpre _ _ rp⟩
 refine af _ _ _ _ r1 (qG.refl _) hpre ?_
 simp only[Rep]
 exact⟨p,rfl,by rw[← r.len];simp⟩
theorem gY {f:DA}{σ : _L.St}{H:Hp}{Q:VK}{G:List D→Sto→Res D}{mk:List V→HO}(h:tD X (fun env S=>(f env S).bind fun xs S1=>if xs.length≤lim then G xs S1 else .bad) σ H Q)
  (k:∀ H1 P1 α1 S1 ds vs p,Rel X.K H1 P1 α1 S1→H1 p=none→qE X.K P1 α1 ds vs→qR X P1 α1 (G ds S1) Q→Q (.ref p) (upd H1 p (mk vs))) :
  tDA X f σ H fun vs H1=>vs.length≤sizeLine∧∀ p,H1 p=none→Q (.ref p) (upd H1 p (mk vs)):=by
 obtain⟨P,α,env,S,r,re,af⟩:=h
 refine⟨P,α,env,S,r,re,?_⟩
 have af':qR X P α ((f env S).bind fun xs S1=>if xs.length≤lim then G xs S1 else .bad) Q:=af
 cases q:f env S with
 |bad=>rw[q] at af';exact af'
 |ex c x S'=>rw[q] at af';exact af'
 |ok ds S1 =>
  rw[q] at af'
  intro vs H1 P1 α1 r1 e1 e2 rp
  have af2:qR X P α (if ds.length≤lim then G ds S1 else .bad) Q:=af'
  by_cases hl:ds.length≤lim
  ·rw[if_pos hl] at af2
   exact⟨by rw[← rp.length,← zK];exact hl,fun p hp=>k H1 P1 α1 S1 ds vs p r1 hp rp (qR.base e1 e2 af2)⟩
  ·rw[if_neg hl] at af2;exact False.elim af2
theorem ZX {es:List Expr}{f:DA} {x1} (h:PA X es (tDA X f)):PE X (.Tuple es x1 pos) (tD X (wI f)):=
 peW (Y6 h) fun σ H Q q=>gY (G:=fun xs S1=>.ok (.tup xs) S1) (mk:=.tup) q fun H1 P1 α1 S1 ds vs p r hp rp af=>kM r hp rp af
theorem ZS {es:List Expr}{f:DA}(h:PA X es (tDA X f)):PE X (.List es pos) (tD X (zW f)):=
 peW (dQ h) fun σ H Q q=>gY (G:=fun xs S1=>.ok (.lst xs) S1) (mk:=.lst) q fun H1 P1 α1 S1 ds vs p r hp rp af=>v9 r hp rp af
theorem i3 {es:List Expr}{f:DA}(h:PA X es (tDA X f)):PE X (.List es pos) (tD X (nO f)):=
 peW (dQ h) fun σ H Q q=>gY (G:=fun xs S1=>.ok (.loc S1.length) (S1++[MO.lst xs])) (mk:=.lst) q fun H1 P1 α1 S1 ds vs p r hp rp af=>tG r hp rp af
end
end _D
end
section
namespace _D
open PySem PySem.Spec PyProof.Rows _L
section
variable {X:Cx}{a b c e:Expr}{pos:Pos}{fa fb fc:DE}{ta tb:DT}
def y8:D→Sto→Option Bool
 |.non,_=>some false
 |.bl b,_=>some b
 |.int i,_=>some (i != 0)
 |.str x,_=>if x.length≤lim then some ((x.length:Int) != 0) else none
 |.tup xs,_=>some (!xs.isEmpty)
 |.lst xs,_=>some (!xs.isEmpty)
 |.dct0,_=>some false
 |.loc i,S=>match S[i]? with
  |some (.lst xs)=>some (!xs.isEmpty)
  |some (.dct kvs)=>some (!kvs.isEmpty)
  |_=>none
 |_,_=>none
theorem qE.isEmpty {K:PySem.W.Frag}{P:Hp}{α : List Addr}{ds:List D}{vs:List V}(r:qE K P α ds vs):(!ds.isEmpty)=!vs.isEmpty:=by
 cases ds with
 |nil=>rw[r.nil_inv];rfl
 |cons d ds=>obtain⟨w,ws,rfl,_,_⟩:=r.cons_inv;rfl
theorem xI {K:PySem.W.Frag}{H P:Hp}(e:qG P H){a:Addr}{xs:List V}(h:SqT K P a xs):SqT K H a xs:=yE e h
theorem yV {H P:Hp}{α : List Addr}{S:Sto}{v:V}{d:D}{k:Bool}(r:Rel X.K H P α S)(p:Rep X.K P α d v)(h:y8 d S=some k):nD X.K v H k:=by
 cases d with
 |non=>simp only[Rep] at p;subst p;cases h;rfl
 |bl b=>simp only[Rep] at p;subst p;cases h;rfl
 |int i=>simp only[Rep] at p;subst p;cases h;rfl
 |str x =>
  simp only[Rep] at p;subst p
  obtain⟨hl,rfl⟩:=uP h
  exact⟨by rw[← zK];exact hl,rfl⟩
 |tup xs =>
  simp only[Rep] at p
  obtain⟨a,vs,rfl,q,t⟩:=p
  cases h
  exact .inr (.inl ⟨vs,xI r.sub q,t.isEmpty⟩)
 |lst xs =>
  simp only[Rep] at p
  obtain⟨a,vs,rfl,q,t⟩:=p
  cases h
  exact .inl ⟨vs,(xN r.sub q).l,t.isEmpty⟩
 |dct0 =>
  simp only[Rep] at p
  obtain⟨a,rfl,q⟩:=p
  cases h
  exact .inr (.inr ⟨[],r.sub _ _ q,rfl⟩)
 |loc i =>
  simp only[Rep] at p
  obtain⟨a,rfl,q⟩:=p
  have h:(match S[i]? with|some (.lst xs)=>some (!xs.isEmpty)|some (.dct kvs)=>some (!kvs.isEmpty)|_=>none)=some k:=h
  cases hs:S[i]? with
  |none=>rw[hs] at h;exact nn h
  |some m =>
   rw[hs] at h
   cases m with
   |lst xs =>
    cases h
    obtain⟨vs,z,t⟩:=r.at' i a _ q hs
    exact .inl ⟨vs,.of z,t.isEmpty⟩
   |dct kvs =>
    cases h
    obtain⟨vs,z,t⟩:=r.at' i a _ q hs
    refine .inr (.inr ⟨vs,z,?_⟩)
    cases t <;> rfl
   |_=>exact nn h
 |ty n=>exact nn h
 |obj a=>exact nn h
 |exn c=>exact nn h
 |fd ks ds=>exact nn h
 |clo a vs ds=>exact nn h
theorem JK {pins:List (Addr × Obj)}{s:Shared}{σ : _L.St}{H P:Hp}{α : List Addr}{S:Sto}{v:V}{vv:Value}{d:D}{k:Bool}{Q:Bool→Hp→Prop}(I:Inv X pins σ H s)(r:Rel X.K H P α S)(rv:qK v vv)(p:Rep X.K P α d v)(h:y8 d S=some k)(q:Q k H) :
  wpAny (model X.prog X.w) X.A (truthy vv) (TP X pins σ Q) X.xe s:=gP pins s σ H v vv Q I rv ⟨k,yV r p h,q⟩
def hX (o:Option Bool)(S:Sto):Res Bool:=match o with
 |some b=>.ok b S
 |none=>.bad
def dTr (f:DE):DT:=fun env S=>(f env S).bind fun d S1=>hX (y8 d S1) S1
theorem tS {o:Option Bool}{S:Sto}{P:Hp}{α : List Addr}{Ok:Bool→Sto→Prop}(h:qH X P α (hX o S) Ok):∃ b,o=some b∧Ok b S:=by
 cases o with
 |none=>exact False.elim h
 |some b=>exact⟨b,rfl,h⟩
theorem XE (ha:PE X a (tD X fa))(he:∀ whole,isTrue a X.env whole=(do let v ← whole;standAt a.pos;holding [v] (truthy v)):=by intro _;rfl):PT X a (tDT X (dTr fa)):=by
 intro pins s σ H Q I h
 obtain⟨P,α,env,S,r,re,af⟩:=h
 refine isTrue_plain (thn (zT ha I r re af) fun vv s1 ⟨v,H1,P1,α1,d,S1,G1,af1⟩=>?_) (he _)
 obtain⟨k,e1,q⟩:=tS af1
 exact JK G1.inv G1.rel G1.val G1.rep e1 (q H1 P1 α1 G1.rel G1.same G1.pre)
theorem XC {op:CmpOp}{g:G2}(ho:OpD X (compareOp op) g)(ha:PE X a (tD X fa))(hb:PE X b (tD X fb))(hm:behindInMarks op b=false:=by first|exact uD _|with_unfolding_all rfl):PT X (.Compare a [op] [b] pos) (tDT X (dTr (d2 g fa fb))):=by
 intro pins s σ H Q I h
 obtain⟨P,α,env,S,r,re,af⟩:=h
 refine wpAny_isTrue_Compare1 ?_ hm
 have key:tD X (d2 g fa fb) σ H (fun v H1=>∃ k,nD X.K v H1 k∧Q k H1):=by
  refine⟨P,α,env,S,r,re,?_⟩
  have af':qH X P α ((d2 g fa fb env S).bind fun d S1=>hX (y8 d S1) S1) (OkT X P α Q):=af
  cases q:d2 g fa fb env S with
  |bad=>rw[q] at af';exact af'
  |ex c x S'=>rw[q] at af';exact af'
  |ok d S1 =>
   rw[q] at af'
   obtain⟨k,e1,qk⟩:=tS (X:=X) af'
   exact fun v H1 P1 α1 r1 e3 e4 rp=>⟨k,yV r1 rp e1,qk H1 P1 α1 r1 e3 e4⟩
 exact thn (bZ ho ha hb I key) fun v s1 h1=>thn h1 fun u s2 h2=>thn h2 fun x s3 ⟨y,H3,I3,r3,k,tk,qk⟩=>gP pins s3 σ H3 y x Q I3 r3 ⟨k,tk,qk⟩
def f7 (g g':G2)(fa fb fc:DE):DE:=fun env S=>(fa env S).bind fun x S1=>(fb env S1).bind fun y S2=>(g x y S2).bind fun z S3 =>
 match y8 z S3 with
 |some true=>(fc env S3).bind fun w S4=>g' y w S4
 |some false=>.ok z S3
 |none=>.bad
inductive GotO (X:Cx)(pins:List (Addr × Obj))(σ : _L.St)(P:Hp)(α : List Addr)(w:Value)(s1:Shared){γ : Type}(k:D→Sto→Res γ)(Ok:γ→Sto→Prop):Prop
 |mk (y:V) (H1 P1:Hp) (α1:List Addr) (d:D) (S1:Sto) (I:Inv X pins σ H1 s1) (rv:qK y w) (r:Rel X.K H1 P1 α1 S1) (rp:Rep X.K P1 α1 d y) (e1:qG P P1) (e2:α<+:α1) (q:qH X P α (k d S1) Ok):GotO X pins σ P α w s1 k Ok
theorem WU {γ : Type}{f:Value→Value→Sem Value}{g:G2}{k:D→Sto→Res γ}{Ok:γ→Sto→Prop}{pins:List (Addr × Obj)}{σ : _L.St}{H:Hp}{s:Shared}{P:Hp}{α : List Addr}{S:Sto}{v u:V}{vv uu:Value}{a b:D}(ho:OpD X f g)(I:Inv X pins σ H s)(r:Rel X.K H P α S)
  (rv:qK v vv) (ru:qK u uu) (pa:Rep X.K P α a v) (pb:Rep X.K P α b u) (af:qH X P α ((g a b S).bind k) Ok) :
  wpAny (model X.prog X.w) X.A (f vv uu) (fun w s1=>GotO X pins σ P α w s1 k Ok) X.xe s:=by
 refine thn (ho pins σ H s P α S v u vv uu a b (fun y H1=>∃ P1 α1 d S1,Rel X.K H1 P1 α1 S1∧Rep X.K P1 α1 d y∧qG P P1∧α<+:α1∧qH X P α (k d S1) Ok) I r rv ru pa pb ?_) fun w s1 ⟨y,H1,I1,r1,P1,α1,d,S1,q1,q2,q3,q4,q5⟩=>⟨y,H1,P1,α1,d,S1,I1,r1,q1,q2,q3,q4,q5⟩
 cases q:g a b S with
 |bad=>rw[q] at af;exact af
 |ex c x S'=>rw[q] at af;exact af
 |ok d S' =>
  rw[q] at af
  exact fun v H' P' α' r' e1 e2 rp=>⟨P',α',d,S',r',rp,e1,e2,af⟩
theorem qH.base' {β : Type}{P P1:Hp}{α α1:List Addr}{r:Res β}{Ok Ok1:β→Sto→Prop}(e:qG P P1)(h:α<+:α1)(ho:∀ d S,Ok d S→Ok1 d S)(k:qH X P α r Ok):qH X P1 α1 r Ok1:=by
 cases r with
 |ok d S=>exact ho d S k
 |ex c x S=>exact fun u s' q=>k u s' (q.base e h)
 |bad=>exact k
theorem rF {op op':CmpOp}{g g':G2}(ho:OpD X (compareOp op) g)(ho':OpD X (compareOp op') g')(ha:PE X a (tD X fa))(hb:PE X b (tD X fb))(hc:PE X c (tD X fc))
  (hm:lastMarks [op,op'] [b,c]=false:=by with_unfolding_all rfl):PE X (.Compare a [op,op'] [b,c] pos) (tD X (f7 g g' fa fb fc)):=by
 intro pins s σ H Q I h
 obtain⟨P,α,env,S,r,re,af⟩:=h
 refine Compare_chain (thn (zT ha I r re af) fun vv s1 ⟨v,H1,P1,α1,d,S1,G1,af1⟩=>chain_link (thn (zT hb G1.inv G1.rel G1.env (qR.base G1.same G1.pre af1)) fun uu s2 ⟨u,H2,P2,α2,d',S2,G2,af2⟩ =>
  thn (WU ho G2.inv G2.rel G1.val G2.val (Rep.mono G2.same G2.pre _ _ G1.rep) G2.rep (qR.base G2.same G2.pre af2)) fun w s3 ⟨y,H3,P3,α3,z,S3,I3,r3,rl3,rp3,e3,e4,af3⟩=>?_)) hm
 cases ht:y8 z S3 with
 |none=>simp only[ht] at af3;exact False.elim af3
 |some k =>
  simp only[ht] at af3
  have tv:=yV rl3 rp3 ht
  refine thn (gP pins s3 σ H3 y w (fun k' H'=>k'=k∧H'=H3) I3 r3 ⟨k,tv,rfl,rfl⟩) fun k' s4 ⟨H4,I4,hk,hH⟩=>?_
  subst hk;subst hH
  cases k' with
  |false=>exact ite_ff ⟨y,H4,I4,r3,af3 y H4 P3 α3 rl3 e3 e4 rp3⟩
  |true =>
   refine ite_tt (chain_last (thn (zT hc I4 rl3 (G2.env.mono e3 e4) (qR.base e3 e4 af3)) fun ww s5 ⟨w',H5,P5,α5,d5,S5,G5,af5⟩=>?_))
   exact ho' pins σ H5 s5 P5 α5 S5 u w' uu ww d' d5 Q G5.inv G5.rel G2.val G5.val (Rep.mono (e3.trans G5.same) (e4.trans G5.pre) _ _ G2.rep) G5.rep (qR.base G5.same G5.pre af5)
def zS (t:DT):DT:=fun env S=>(t env S).bind fun b S1=>.ok (!b) S1
def wR (t u:DT):DT:=fun env S=>(t env S).bind fun b S1=>if b then u env S1 else .ok false S1
def xX (t u:DT):DT:=fun env S=>(t env S).bind fun b S1=>if b then .ok true S1 else u env S1
theorem XD (ha:PT X a (tDT X ta)):PT X (.UnaryOp .Not a pos) (tDT X (zS ta)):=by
 intro pins s σ H Q I h
 obtain⟨P,α,env,S,r,re,af⟩:=h
 refine isTrue_not (thn (jD (fun Q' q=>ha pins s σ H Q' I q) r re af) fun b s1 ⟨H1,P1,α1,S1,I1,r1,re1,e1,e2,af1⟩=>⟨H1,I1,af1 H1 P1 α1 r1 e1 e2⟩)
def PWD (X:Cx)(e:Expr)(t:DT):Prop:=PW X e (tDT X t)
theorem PWD.pt {t:DT}(h:PWD X e t):PT X e (tDT X t):=h _
theorem iF (ha:PT X a (tDT X ta)):PWD X (.BoolOp .And [a] pos) ta:=oX ha
theorem XG (ha:PT X a (tDT X ta)):PWD X (.BoolOp .Or [a] pos) ta:=YD ha
theorem XF {rest:List Expr}(ha:PT X a (tDT X ta))(hb:PWD X (.BoolOp .And (b::rest) pos) tb):PWD X (.BoolOp .And (a::b::rest) pos) (wR ta tb):=by
 intro wh pins s σ H Q I h
 obtain⟨P,α,env,S,r,re,af⟩:=h
 refine isTrue_and (thn (jD (fun Q' q=>ha pins s σ H Q' I q) r re af) fun k s1 ⟨H1,P1,α1,S1,I1,r1,re1,e1,e2,af1⟩=>?_)
 cases k with
 |true=>exact hb wh pins s1 σ H1 Q I1 ⟨P1,α1,env,S1,r1,re1,u0.base e1 e2 af1⟩
 |false=>exact⟨H1,I1,af1 H1 P1 α1 r1 e1 e2⟩
theorem U2 {rest:List Expr}(ha:PT X a (tDT X ta))(hb:PWD X (.BoolOp .Or (b::rest) pos) tb):PWD X (.BoolOp .Or (a::b::rest) pos) (xX ta tb):=by
 intro wh pins s σ H Q I h
 obtain⟨P,α,env,S,r,re,af⟩:=h
 refine isTrue_or (thn (jD (fun Q' q=>ha pins s σ H Q' I q) r re af) fun k s1 ⟨H1,P1,α1,S1,I1,r1,re1,e1,e2,af1⟩=>?_)
 cases k with
 |true=>exact⟨H1,I1,af1 H1 P1 α1 r1 e1 e2⟩
 |false=>exact hb wh pins s1 σ H1 Q I1 ⟨P1,α1,env,S1,r1,re1,u0.base e1 e2 af1⟩
def yN (f g:DE):DE:=fun env S=>(f env S).bind fun x S1=>match y8 x S1 with
 |some true=>g env S1
 |some false=>.ok x S1
 |none=>.bad
def dOr (f g:DE):DE:=fun env S=>(f env S).bind fun x S1=>match y8 x S1 with
 |some true=>.ok x S1
 |some false=>g env S1
 |none=>.bad
def nP (f:DE):DE:=fun env S=>(f env S).bind fun x S1=>match y8 x S1 with
 |some b=>.ok (.bl (!b)) S1
 |none=>.bad
theorem ZV {op} (h:PE X a (tD X fa)):PE X (.BoolOp op [a] pos) (tD X fa):=Y4 h
theorem c7 {pins:List (Addr × Obj)}{s:Shared}{σ : _L.St}{H:Hp}{v:V}{vv:Value}{k:Bool}{R:Bool→Shared→Prop}(I:Inv X pins σ H s)(rv:qK v vv)(t:nD X.K v H k)(h:∀ s',Inv X pins σ H s'→R k s') :
  wpAny (model X.prog X.w) X.A (truthy vv) R X.xe s:=thn (gP pins s σ H v vv (fun k' H'=>k'=k∧H'=H) I rv ⟨k,t,rfl,rfl⟩) fun k' s4 ⟨H4,I4,hk,hH⟩=>by subst hk;subst hH;exact h s4 I4
theorem ZK {rest:List Expr}(ha:PE X a (tD X fa))(hb:PE X (.BoolOp .And (b::rest) pos) (tD X fb)):PE X (.BoolOp .And (a::b::rest) pos) (tD X (yN fa fb)):=by
 intro pins s σ H Q I h
 obtain⟨P,α,env,S,r,re,af⟩:=h
 refine BoolOp_and (thn (zT ha I r re af) fun vv s1 ⟨v,H1,P1,α1,d,S1,G1,af1⟩=>?_)
 cases ht:y8 d S1 with
 |none=>simp only[ht] at af1;exact False.elim af1
 |some k =>
  simp only[ht] at af1
  refine c7 G1.inv G1.val (yV G1.rel G1.rep ht) fun s2 I2=>?_
  cases k with
  |true=>exact hb pins s2 σ H1 Q I2 ⟨P1,α1,env,S1,G1.rel,G1.env,qR.base G1.same G1.pre af1⟩
  |false=>exact⟨v,H1,I2,G1.val,af1 v H1 P1 α1 G1.rel G1.same G1.pre G1.rep⟩
theorem VU {rest:List Expr}(ha:PE X a (tD X fa))(hb:PE X (.BoolOp .Or (b::rest) pos) (tD X fb)):PE X (.BoolOp .Or (a::b::rest) pos) (tD X (dOr fa fb)):=by
 intro pins s σ H Q I h
 obtain⟨P,α,env,S,r,re,af⟩:=h
 refine BoolOp_or (thn (zT ha I r re af) fun vv s1 ⟨v,H1,P1,α1,d,S1,G1,af1⟩=>?_)
 cases ht:y8 d S1 with
 |none=>simp only[ht] at af1;exact False.elim af1
 |some k =>
  simp only[ht] at af1
  refine c7 G1.inv G1.val (yV G1.rel G1.rep ht) fun s2 I2=>?_
  cases k with
  |false=>exact hb pins s2 σ H1 Q I2 ⟨P1,α1,env,S1,G1.rel,G1.env,qR.base G1.same G1.pre af1⟩
  |true=>exact⟨v,H1,I2,G1.val,af1 v H1 P1 α1 G1.rel G1.same G1.pre G1.rep⟩
theorem ZU (ha:PE X a (tD X fa)):PE X (.UnaryOp .Not a pos) (tD X (nP fa)):=by
 intro pins s σ H Q I h
 obtain⟨P,α,env,S,r,re,af⟩:=h
 refine UnaryOp_ (thn (zT ha I r re af) fun vv s1 ⟨v,H1,P1,α1,d,S1,G1,af1⟩=>?_)
 cases ht:y8 d S1 with
 |none=>simp only[ht] at af1;exact False.elim af1
 |some k =>
  simp only[ht] at af1
  exact not_of (c7 G1.inv G1.val (yV G1.rel G1.rep ht) fun s2 I2=>⟨.bl (!k),H1,I2,rfl,af1 (.bl (!k)) H1 P1 α1 G1.rel G1.same G1.pre (by simp only[Rep])⟩)
def dIf (t:DT)(f g:DE):DE:=fun env S=>(t env S).bind fun b S1=>if b then f env S1 else g env S1
theorem VR (hc:PT X c (tDT X ta))(ha:PE X a (tD X fa))(hb:PE X b (tD X fb)):PE X (.IfExp c a b pos) (tD X (dIf ta fa fb)):=by
 intro pins s σ H Q I h
 obtain⟨P,α,env,S,r,re,af⟩:=h
 refine wpAny_IfExp (thn (jD (fun Q' q=>hc pins s σ H Q' I q) r re af) fun k s1 ⟨H1,P1,α1,S1,I1,r1,re1,e1,e2,af1⟩=>?_)
 cases k with
 |true=>exact ha pins s1 σ H1 Q I1 ⟨P1,α1,env,S1,r1,re1,qR.base e1 e2 af1⟩
 |false=>exact hb pins s1 σ H1 Q I1 ⟨P1,α1,env,S1,r1,re1,qR.base e1 e2 af1⟩
end
end _D
end
section
namespace _D
open PySem PySem.Spec PyProof.Rows _L
@[inline] def Res.toS {β : Type}(env:qD)(r:Res β)(k:β→Sto→Out):Out:=
 match r with
 |.ok d S=>k d S
 |.ex c x S=>.ex c x env S
 |.bad=>.bad
section
variable {X:Cx}{a b c e:Expr}{pos:Pos}{fa fb fc:DE}{ta tb:DT}{f g:DS}{st:Stmt}{rest:List Stmt}
def zH:DS:=fun env S=>.nx env S
def qP (f g:DS):DS:=fun env S=>match f env S with
 |.nx env1 S1=>g env1 S1
 |o=>o
theorem X6:PSs X [] (tDS X zH):=YC oV fun D σ H ⟨P,α,env,S,r,re,af⟩=>af σ H P α r re (qG.refl _) (List.prefix_refl _)
theorem iB (h1:PS X st (tDS X f))(h2:PSs X rest (tDS X g)):PSs X (st::rest) (tDS X (qP f g)):=YC (eW h1 h2) fun D σ H ⟨P,α,env,S,r,re,af⟩=>by
 refine⟨P,α,env,S,r,re,?_⟩
 unfold qP at af
 cases q:f env S with
 |nx env1 S1 =>
  rw[q] at af
  exact fun σ' H' P' α' r' re' e1 e2=>⟨P',α',env1,S1,r',re',qT.base e1 e2 af⟩
 |rt d S1=>rw[q] at af;exact af
 |bk env1 S1=>rw[q] at af;exact af
 |ct env1 S1=>rw[q] at af;exact af
 |ex c x env1 S1=>rw[q] at af;exact af
 |bad=>rw[q] at af;exact af
theorem X7 (h1:PS X st (tDS X f)):PSs X [st] (tDS X f):=oW h1
theorem w6 {β : Type}{P:Hp}{α : List Addr}{env:qD}{r:Res β}{k:β→Sto→Out}{D:Ends}(h:qT X P α (r.toS env k) D):qH X P α r fun d S=>qT X P α (k d S) D:=by
 cases r with
 |ok d S=>exact h
 |ex c x S=>exact h
 |bad=>exact h
inductive GotS (X:Cx)(pins:List (Addr × Obj))(σ : _L.St)(env:qD)(P:Hp)(α : List Addr)(u:Value)(s1:Shared)(k:D→Sto→Out)(E:Ends):Prop
 |mk (v:V) (H1 P1:Hp) (α1:List Addr) (d:D) (S1:Sto) (G:Got X pins σ env P α u s1 v H1 P1 α1 d S1) (q:qT X P1 α1 (k d S1) E):GotS X pins σ env P α u s1 k E
theorem kX {k:D→Sto→Out}{pins:List (Addr × Obj)}{s:Shared}{σ : _L.St}{H P:Hp}{α : List Addr}{env:qD}{S:Sto}{D:Ends}(he:PE X e (tD X fa))(I:Inv X pins σ H s)(r:Rel X.K H P α S)
  (re:qS X.K P α σ env) (af:qT X P α ((fa env S).toS env k) D) :
  wpAny (model X.prog X.w) X.A (eval e X.env) (fun u s1=>GotS X pins σ env P α u s1 k D) X.xe s:=by
 have af1:qH X P α ((fa env S).bind fun d S=>.ok d S) fun d S=>qT X P α (k d S) D:=by
  have:=w6 af
  cases q:fa env S <;> rw[q] at this <;> exact this
 exact thn (zT he I r re af1) fun u s1 ⟨v,H1,P1,α1,d,S1,G,q⟩=>⟨v,H1,P1,α1,d,S1,G,qT.base G.same G.pre q⟩
def xD (f:DE):DS:=fun env S=>(f env S).toS env fun _ S1=>.nx env S1
theorem iC (he:PE X e (tD X fa))(hs:swapsWith e none pos.line X.env=pure false:=by rfl):PS X (.Expr e pos) (tDS X (xD fa)):=by
 intro pins s σ H D I h
 obtain⟨P,α,env,S,r,re,af⟩:=h
 exact wpAny_Expr_any (thn (kX he I r re af) fun v s1 ⟨x,H1,P1,α1,d,S1,G,q⟩=>⟨σ,H1,G.inv,q σ H1 P1 α1 G.rel G.env (qG.refl _) (List.prefix_refl _)⟩) I.quiet hs
def qW (f:DE):DS:=fun env S=>(f env S).toS env fun d S1=>.rt d S1
theorem X9 (he:PE X e (tD X fa)):PS X (.Return (some e) pos) (tDS X (qW fa)):=by
 intro pins s σ H D I h
 obtain⟨P,α,env,S,r,re,af⟩:=h
 exact wpAny_Return_some (thn (kX he I r re af) fun v s1 ⟨x,H1,P1,α1,d,S1,G,q⟩=>⟨x,σ,H1,G.inv,G.val,q x H1 P1 α1 G.rel (qG.refl _) (List.prefix_refl _) G.rep⟩)
def sIf (t:DT)(f g:DS):DS:=fun env S=>(t env S).toS env fun b S1=>if b then f env S1 else g env S1
theorem VZ {c:Expr}{as bs:List Stmt}(hc:PT X c (tDT X ta))(ha:PSs X as (tDS X f))(hb:PSs X bs (tDS X g)):PS X (.If c as bs pos) (tDS X (sIf ta f g)):=by
 intro pins s σ H D I h
 obtain⟨P,α,env,S,r,re,af⟩:=h
 have af1:qH X P α ((ta env S).bind fun d S=>.ok d S) fun b S=>qT X P α (if b then f env S else g env S) D:=by
  have:=w6 af
  cases q:ta env S <;> rw[q] at this <;> exact this
 refine wpAny_If (thn (jD (fun Q' q=>hc pins s σ H Q' I q) r re af1) fun k s1 ⟨H1,P1,α1,S1,I1,r1,re1,e1,e2,af2⟩=>?_)
 cases k with
 |true=>exact ha pins s1 σ H1 D I1 ⟨P1,α1,env,S1,r1,re1,qT.base e1 e2 af2⟩
 |false=>exact hb pins s1 σ H1 D I1 ⟨P1,α1,env,S1,r1,re1,qT.base e1 e2 af2⟩
abbrev DG:=D→qD→Sto→Res qD
abbrev DGs:=List D→qD→Sto→Res qD
def OkE (X:Cx)(P:Hp)(α : List Addr)(Q:_L.St→Hp→Prop)(env':qD)(S':Sto):Prop:=∀ σ' H' P' α',Rel X.K H' P' α' S'→qS X.K P' α' σ' env'→qG P P'→α<+:α'→Q σ' H'
def tDG (X:Cx)(g:DG):TG:=fun v σ H Q=>∃ P α env S d,Rel X.K H P α S∧qS X.K P α σ env∧Rep X.K P α d v∧qH X P α (g d env S) (OkE X P α Q)
def m8 (X:Cx)(g:DGs):TGs:=fun vs σ H Q=>∃ P α env S ds,Rel X.K H P α S∧qS X.K P α σ env∧qE X.K P α ds vs∧qH X P α (g ds env S) (OkE X P α Q)
theorem qS.set {K:PySem.W.Frag}{P:Hp}{α : List Addr}{σ : _L.St}{env:qD}{d:D}{v:V}(re:qS K P α σ env)(i:Nat)(rp:Rep K P α d v):qS K P α (σ.set i (some v)) (env.set i (some d)):=by
 refine⟨by simp[re.1],fun j d' e=>?_⟩
 by_cases hj:i=j
 ·subst hj
  by_cases hi:i<env.length
  ·rw[List.getElem?_set_self hi] at e
   cases e
   exact⟨v,by rw[List.getElem?_set_self (by rw[← re.1];exact hi)],rp⟩
  ·rw[List.getElem?_eq_none (by simp;omega)] at e;cases e
 ·rw[List.getElem?_set_ne hj] at e ⊢
  exact re.2 j d' e
def gNm (i:Nat):DG:=fun d env S=>.ok (env.set i (some d)) S
theorem i7 {i:Nat}{x:Str}(hN:X.N.Nodup)(hi:X.N[i]? = some x:=by rfl)(hx:Loc X.env.scope x:=by first|exact Or.inl rfl|exact Or.inr rfl)(hf:X.fn x=true∨X.env.scope.names.lookup x=some .local:=by first|exact .inl rfl|exact .inr rfl|assumption):PG X (.Name x pos) (tDG X (gNm i)):=by
 intro pins s σ H v u Q I rv h
 obtain⟨P,α,env,S,d,r,re,rp,af⟩:=h
 exact oQ hN hi hx hf pins s σ H v u Q I rv (af _ H P α r (re.set i rp) (qG.refl _) (List.prefix_refl _))
def gC:DGs:=fun ds env S=>match ds with
 |[]=>.ok env S
 |_=>.bad
def yJ (g:DG)(gs:DGs):DGs:=fun ds env S=>match ds with
 |d::r=>(g d env S).bind fun env1 S1=>gs r env1 S1
 |[]=>.bad
theorem i8:PGs X [] (m8 X gC):=by
 intro pins s σ H vs us Q I rv h
 obtain⟨P,α,env,S,ds,r,re,rp,af⟩:=h
 cases ds with
 |nil=>exact oR pins s σ H vs us Q I rv ⟨rp.nil_inv,af σ H P α r re (qG.refl _) (List.prefix_refl _)⟩
 |cons d ds=>exact False.elim af
theorem rJ {es:List Expr}{g:DG}{gs:DGs}(h1:PG X e (tDG X g))(h2:PGs X es (m8 X gs))(hs:(assignEach (e::es) X.env).map (·.2)=assign e X.env::(assignEach es X.env).map (·.2):=by rfl):PGs X (e::es) (m8 X (yJ g gs)):=by
 intro pins s σ H vs us Q I rv h
 obtain⟨P,α,env,S,ds,r,re,rp,af⟩:=h
 cases ds with
 |nil=>exact False.elim af
 |cons d ds =>
  obtain⟨w,ws,rfl,p1,p2⟩:=rp.cons_inv
  refine eS h1 h2 hs pins s σ H _ us Q I rv ⟨w,ws,rfl,P,α,env,S,d,r,re,p1,?_⟩
  have af':qH X P α ((g d env S).bind fun env1 S1=>gs ds env1 S1) (OkE X P α Q):=af
  cases q:g d env S with
  |bad=>rw[q] at af';exact af'
  |ex c x S'=>rw[q] at af';exact af'
  |ok env1 S1 =>
   rw[q] at af'
   intro σ' H' P' α' r' re' e1 e2
   refine⟨P',α',env1,S1,ds,r',re',qE.mono e1 e2 _ _ p2,qH.base' e1 e2 (fun env' S' ok σ2 H2 P2 α2 r2 re2 e3 e4=>ok σ2 H2 P2 α2 r2 re2 (e1.trans e3) (e2.trans e4)) af'⟩
def gTp (n:Nat)(gs:DGs):DG:=fun d env S=>match d with
 |.tup xs=>if xs.length=n then gs xs env S else .bad
 |_=>.bad
set_option tactic.hygienic true in
theorem X0 {es:List Expr}{k:Nat}{gs:DGs}{n:Nat}(hc:X.calm=true)(h:PGs X es (m8 X gs))(hn:(assignEach es X.env).length=n:=by rfl)(hst:(assignEach es X.env).findIdx? (·.1)=none:=by rfl):PG X (.Tuple es k pos) (tDG X (gTp n gs)):=by
 intro pins s σ H v u Q I rv hw
 obtain⟨P,α,env,S,d,r,re,rp,af⟩:=hw
 cases d with
 |tup xs =>
  simp only[Rep] at rp
  obtain⟨a,vs,rfl,q,t⟩:=rp
  simp only[gTp] at af
  split at af
  ·rename_i hl
   exact Y7 hc h hn hst pins s σ H _ u Q I rv ⟨a,vs,rfl,xI r.sub q,by rw[← t.length];exact hl,P,α,env,S,xs,r,re,t,af⟩
  ·exact False.elim af
 |_=>exact False.elim af
abbrev G3:=D→D→D→Sto→Res Unit
def OkU (X:Cx)(P:Hp)(α : List Addr)(Q:Hp→Prop)(_:Unit)(S':Sto):Prop:=∀ H' P' α',Rel X.K H' P' α' S'→qG P P'→α<+:α'→Q H'
def bL (X:Cx)(g:G3):sX:=fun o i v H Q=>∃ P α S a b d,Rel X.K H P α S∧Rep X.K P α a o∧Rep X.K P α b i∧Rep X.K P α d v∧qH X P α (g a b d S) (OkU X P α Q)
def gSb (fo fi:DE)(g:G3):DG:=fun d env S=>(fo env S).bind fun o S1=>(fi env S1).bind fun i S2=>(g o i d S2).bind fun _ S3=>.ok env S3
theorem ZZ {o i:Expr}{fo fi:DE}{g:G3}(ho:PE X o (tD X fo))(hi:PE X i (tD X fi))(hs:bO X (bL X g))
  (ha:∀ v,assign (.Subscript o i pos) X.env v=(do
   let ov ← holding [v] (eval o X.env)
   let iv ← holding [v,ov] (eval i X.env)
   standAt pos
   holding [v,ov,iv] (setItem ov iv v)
   release [v,ov,iv] []):=by intro _;rfl):PG X (.Subscript o i pos) (tDG X (gSb fo fi g)):=by
 intro pins s σ H v u Q I rv h
 obtain⟨P,α,env,S,d,r,re,rp,af⟩:=h
 rw[ha]
 refine wpAny_bind (wpAny_holding (thn (zT ho I r re af) fun ov s1 ⟨x,H1,P1,α1,d1,S1,G1,af1⟩=>?_))
 refine wpAny_bind (wpAny_holding (thn (zT hi G1.inv G1.rel G1.env (P:=P1) (α:=α1) (Ok:=OkE X P1 α1 Q) (qH.base' G1.same G1.pre (fun env' S' ok σ2 H2 P2 α2 r2 re2 e3 e4=>ok σ2 H2 P2 α2 r2 re2 (G1.same.trans e3) (G1.pre.trans e4)) af1)) fun iv s2 ⟨y,H2,P2,α2,d2,S2,G2,af2⟩=>?_))
 refine wpAny_bind (wpAny_standAt (wpAny_bind (wpAny_holding (thn (hs pins s2 σ H2 x y v ov iv u (fun H3=>Q σ H3) G2.inv G1.val G2.val rv ⟨P2,α2,S2,d1,d2,d,G2.rel,Rep.mono G2.same G2.pre _ _ G1.rep,G2.rep,Rep.mono (G1.same.trans G2.same) (G1.pre.trans G2.pre) _ _ rp,?_⟩) fun _ s3 ⟨H3,I3,q3⟩=>?_))))
 ·cases q:g d1 d2 d S2 with
  |bad=>rw[q] at af2;exact af2
  |ex c x S'=>rw[q] at af2;exact fun u s' z=>af2 u s' (z.base G2.same G2.pre)
  |ok w S3 =>
   rw[q] at af2
   exact fun H' P' α' r' e1 e2=>af2 σ H' P' α' r' (G2.env.mono e1 e2) (G2.same.trans e1) (G2.pre.trans e2)
 ·exact wpAny_release ⟨σ,H3,I3,q3⟩
def zD (f:DE)(g:DG):DS:=fun env S=>(f env S).toS env fun d S1=>(g d env S1).toS env fun env' S2=>.nx env' S2
theorem lG {g:DG}{d:D}{env:qD}{S:Sto}{P:Hp}{α : List Addr}{D':Ends}(h:qT X P α ((g d env S).toS env fun env' S2=>.nx env' S2) D'):qH X P α (g d env S) (OkE X P α D'.nx):=by
 cases q:g d env S with
 |bad=>rw[q] at h;exact h
 |ex c x S'=>rw[q] at h;exact h
 |ok env1 S1=>rw[q] at h;exact h
theorem X4 {tg e:Expr}{g:DG}(he:PE X e (tD X fa))(hg:PG X tg (tDG X g))(hs:swapsWithSole [tg] e pos.line X.env=pure false:=by rfl)(hw:swappedStores [tg] e X.env=pure none:=by rfl)
  (h1:(assignEach [tg] X.env).map (·.2)=[assign tg X.env]:=by rfl):PS X (.Assign [tg] e pos) (tDS X (zD fa g)):=by
 intro pins s σ H D I h
 obtain⟨P,α,env,S,r,re,af⟩:=h
 refine wpAny_Assign_stores (thn (kX he I r re af) fun v s1 ⟨x,H1,P1,α1,d,S1,G,q⟩=>?_) hs hw
 rw[h1]
 exact thn (hg pins s1 σ H1 x v _ G.inv G.val ⟨P1,α1,env,S1,d,G.rel,G.env,G.rep,lG q⟩) fun _ s2 q=>q
theorem XA {i:Nat}{x:Str}{e:Expr}{pos':Pos}(hN:X.N.Nodup)(he:PE X e (tD X fa))(hi:X.N[i]? = some x:=by rfl)(hx:Loc X.env.scope x:=by first|exact Or.inl rfl|exact Or.inr rfl)(hs:swapsWith e (some (.Name x pos')) pos.line X.env=pure false:=by rfl)
  (hf:X.fn x=true∨X.env.scope.names.lookup x=some .local:=by first|exact .inl rfl|exact .inr rfl|assumption):PS X (.Assign [.Name x pos'] e pos) (tDS X (zD fa (gNm i))):=by
 intro pins s σ H D I h
 obtain⟨P,α,env,S,r,re,af⟩:=h
 refine wpAny_Assign_Name (thn (kX he I r re af) fun v s1 ⟨y,H1,P1,α1,d,S1,G,q⟩=>?_) hs
 exact w5 G.inv hN hi hx G.val (fun s2 I2=>⟨_,H1,I2,q _ H1 P1 α1 G.rel (G.env.set i G.rep) (qG.refl _) (List.prefix_refl _)⟩) hf
def fQ (i j:Nat)(env:qD)(S1:Sto):List D→Out
 |[x,y]=>.nx ((env.set i (some x)).set j (some y)) S1
 |_=>.bad
def pK (i j:Nat)(f:DA):DS:=fun env S=>(f env S).toS env fun ds S1=>fQ i j env S1 ds
theorem X8 {i j:Nat}{x y:Str}{a b:Expr}{f:DA}{px py pt:Pos} {kt k2 pt2} (hc:X.calm=true) (hN:X.N.Nodup) (ha:PA X [a,b] (tDA X f)) (hi:X.N[i]? = some x:=by rfl) (hj:X.N[j]? = some y:=by rfl) (hij:i≠j:=by decide)
  (hx:X.env.scope.names.lookup x=some .local:=by rfl) (hy:X.env.scope.names.lookup y=some .local:=by rfl)
  (hw:swappedStores [.Tuple [.Name x px,.Name y py] kt pt] (.Tuple [a,b] k2 pt2) X.env=pure (some [x,y]):=by rfl)
  (hs:swapsWithSole [.Tuple [.Name x px,.Name y py] kt pt] (.Tuple [a,b] k2 pt2) pos.line X.env=pure false:=by rfl) :
  PS X (.Assign [.Tuple [.Name x px,.Name y py] kt pt] (.Tuple [a,b] k2 pt2) pos) (tDS X (pK i j f)):=psW (YB hc hN hi hj hij hx hy ha hw hs) fun D σ H ⟨P,α,env,S,r,re,af⟩=>by
 refine⟨P,α,env,S,r,re,?_⟩
 have af1:=w6 af
 cases q:f env S with
 |bad=>rw[q] at af1;exact af1
 |ex c x S'=>rw[q] at af1;exact af1
 |ok ds S1 =>
  rw[q] at af1
  intro vs H' P' α' r' e1 e2 rp
  have af2:qT X P α (fQ i j env S1 ds) D:=af1
  cases ds with
  |nil=>exact False.elim af2
  |cons d ds=>cases ds with
   |nil=>exact False.elim af2
   |cons d' ds=>cases ds with
    |cons _ _=>exact False.elim af2
    |nil =>
     obtain⟨w,ws,rfl,p1,t⟩:=rp.cons_inv
     obtain⟨w',ws',rfl,p2,t⟩:=t.cons_inv
     rw[t.nil_inv]
     exact⟨w,w',rfl,af2 _ _ P' α' r' (((re.mono e1 e2).set i p1).set j p2) e1 e2⟩
end
end _D
end
section
namespace _D
open PySem PySem.Spec PyProof.Rows _L
structure ItD (K:PySem.W.Frag)(J:It)(P:Hp)(α : List Addr)(ds:List D):Prop where
 go:∀ i H P1 α1 S,i<ds.length→Rel K H P1 α1 S→qG P P1→α<+:α1→J.go i H
 yld:∀ i H x H' P1 α1 S,i<ds.length→Rel K H P1 α1 S→qG P P1→α<+:α1→J.yld i H x H'→∃ P2 d,ds[i]? = some d∧Rel K H' P2 α1 S∧qG P1 P2∧Rep K P2 α1 d x
 stop:∀ i H P1 α1 S,ds.length≤i→Rel K H P1 α1 S→qG P P1→α<+:α1→J.stop i H
abbrev DI:=qD→Sto→Res (List D)
def OkI (X:Cx)(P:Hp)(α : List Addr)(R:It→Hp→Prop)(ds:List D)(S':Sto):Prop:=∀ J H' P' α',Rel X.K H' P' α' S'→qG P P'→α<+:α'→ItD X.K J P' α' ds→R J H'
inductive tDI (X:Cx)(f:DI)(σ : _L.St)(H:Hp)(R:It→Hp→Prop):Prop
 |mk (P:Hp) (α : List Addr) (env:qD) (S:Sto) (r:Rel X.K H P α S) (re:qS X.K P α σ env) (af:qH X P α (f env S) (OkI X P α R)):tDI X f σ H R
def yP {β : Type}(o:Option β)(S:Sto):Res β:=match o with
 |some b=>.ok b S
 |none=>.bad
theorem yU {X:Cx}{β : Type}{o:Option β}{S:Sto}{P:Hp}{α : List Addr}{Ok:β→Sto→Prop}(h:qH X P α (yP o S) Ok):∃ b,o=some b∧Ok b S:=by
 cases o with
 |none=>exact False.elim h
 |some b=>exact⟨b,rfl,h⟩
theorem xG {X:Cx}{β : Type}{c:Prop}[Decidable c]{r:Res β}{P:Hp}{α : List Addr}{Ok:β→Sto→Prop}(h:qH X P α (if c then r else .bad) Ok):c∧qH X P α r Ok:=by
 by_cases z:c
 ·rw[if_pos z] at h;exact⟨z,h⟩
 ·rw[if_neg z] at h;exact False.elim h
theorem WS {X:Cx}{β : Type}{ds:List D}{g:D→Res β}{P:Hp}{α : List Addr}{Ok:β→Sto→Prop}(h:qH X P α (match ds with|[d]=>g d|_=>.bad) Ok):∃ d,ds=[d]∧qH X P α (g d) Ok:=by
 cases ds with
 |nil=>exact False.elim h
 |cons d ds =>
  cases ds with
  |nil=>exact⟨d,rfl,h⟩
  |cons _ _=>exact False.elim h
theorem pE {β : Type}{S:Sto}{i:Nat}{f:List D→Option β}{g:List (Key × D)→Option β}{b:β}(h:(match S[i]? with|some (.lst xs)=>f xs|some (.dct kvs)=>g kvs|_=>none)=some b):(∃ xs,S[i]? = some (.lst xs)∧f xs=some b)∨∃ kvs,S[i]? = some (.dct kvs)∧g kvs=some b:=by
 cases e:S[i]? with
 |none=>rw[e] at h;exact nn h
 |some m =>
  rw[e] at h
  cases m with
  |lst xs=>exact .inl ⟨xs,rfl,h⟩
  |dct kvs=>exact .inr ⟨kvs,rfl,h⟩
  |_=>exact nn h
theorem WA {β : Type}{S:Sto}{i:Nat}{f:List D→Option β}{b:β}(h:(match S[i]? with|some (.lst xs)=>f xs|_=>none)=some b):∃ xs,S[i]? = some (.lst xs)∧f xs=some b:=by
 cases e:S[i]? with
 |none=>rw[e] at h;exact nn h
 |some m =>
  rw[e] at h
  cases m with
  |lst xs=>exact⟨xs,rfl,h⟩
  |_=>exact nn h
inductive ItV (d:D)(xs:List D):Prop
 |tup (e:d=.tup xs)
 |lst (e:d=.lst xs)
def cQ {β : Type}(S:Sto)(n:Nat)(f:List D→Res β) : Res β:=match S[n]? with
 |some (.lst xs)=>f xs
 |_=>.bad
theorem uV {X:Cx}{β : Type}{S:Sto}{n:Nat}{f:List D→Res β}{P:Hp}{α : List Addr}{Ok:β→Sto→Prop}(h:qH X P α (cQ S n f) Ok):∃ xs,S[n]? = some (.lst xs)∧qH X P α (f xs) Ok:=by
 unfold cQ at h
 cases e:S[n]? with
 |none=>rw[e] at h;exact False.elim h
 |some m =>
  rw[e] at h
  cases m with
  |lst xs=>exact⟨xs,rfl,h⟩
  |_=>exact False.elim h
def xY:D→Option (List D)
 |.tup xs=>some xs
 |.lst xs=>some xs
 |_=>none
theorem itV {d:D}{xs:List D}(h:xY d=some xs):ItV d xs:=by
 cases d with
 |tup ys=>exact .tup (congrArg D.tup (Option.some.inj h))
 |lst ys=>exact .lst (congrArg D.lst (Option.some.inj h))
 |_=>exact nn h
def xW (f:DE):DI:=fun env S=>(f env S).bind fun d S1=>yP (xY d) S1
section
variable {X:Cx}{K:PySem.W.Frag}{tg e:Expr}{fa:DE}{pos:Pos}
theorem rX {P:Hp}{α : List Addr}{a:Addr}{ds:List D}{vs:List V}(q:SqL K P a vs)(t:qE K P α ds vs):ItD K (Itl K a) P α ds where
 go:=fun i H P1 α1 S hi r e _=>⟨vs,vs[i]'(by rw[← t.length];exact hi),(e.trans r.sub).seq q,by simp⟩
 yld:=fun i H x H' P1 α1 S hi r e e2 y=>by
  obtain⟨rfl,y⟩:=y
  have hx:=y vs ((e.trans r.sub).seq q)
  obtain⟨v,h1,h2⟩:=t.get (List.getElem?_eq_getElem hi)
  rw[hx] at h1;cases h1
  exact⟨P1,_,List.getElem?_eq_getElem hi,r,qG.refl _,Rep.mono e e2 _ _ h2⟩
 stop:=fun i H P1 α1 S hi r e _=>⟨vs,(e.trans r.sub).seq q,by rw[← t.length];exact hi⟩
theorem o3 {P:Hp}{α : List Addr}{a:Addr}{ds:List D}{vs:List V}(q:SqT K P a vs)(t:qE K P α ds vs):ItD K (Itt K a) P α ds where
 go:=fun i H P1 α1 S hi r e _=>⟨vs,vs[i]'(by rw[← t.length];exact hi),yE (e.trans r.sub) q,by simp⟩
 yld:=fun i H x H' P1 α1 S hi r e e2 y=>by
  obtain⟨rfl,y⟩:=y
  have hx:=y vs (yE (e.trans r.sub) q)
  obtain⟨v,h1,h2⟩:=t.get (List.getElem?_eq_getElem hi)
  rw[hx] at h1;cases h1
  exact⟨P1,_,List.getElem?_eq_getElem hi,r,qG.refl _,Rep.mono e e2 _ _ h2⟩
 stop:=fun i H P1 α1 S hi r e _=>⟨vs,yE (e.trans r.sub) q,by rw[← t.length];exact hi⟩
theorem fG {pins:List (Addr × Obj)}{σ : _L.St}{H P:Hp}{α : List Addr}{S:Sto}{s:Shared}{v:V}{vv:Value}{d:D}{ds:List D}{R:It→Hp→Prop}(I:Inv X pins σ H s)(r:Rel X.K H P α S)(rv:qK v vv)(rp:Rep X.K P α d v)(hd:xY d=some ds)
  (q:OkI X P α R ds S):wpAny (model X.prog X.w) X.A (pyIter vv) (PIE X pins σ tg R) X.xe s:=by
 cases d with
 |tup xs =>
  cases hd
  simp only[Rep] at rp
  obtain⟨a,vs,rfl,sq,t⟩:=rp
  cases rv
  obtain⟨its,rv,p,hz⟩:=I.tuple (xI r.sub sq)
  refine wpAny_pyIter_tuple (show s.heap.IsTuple a its.toArray from p) ?_
  refine⟨s.heap.objs.size,[s.heap.objs.size],_,_,H,rfl,I.kept (t':=s.toks) fun b o e=>Heap.get?_push_of_some _ e,lE a _,⟨_,Heap.get?_push_size _ rfl,rfl,rfl⟩,fun b hb=>?_,q _ _ P α r (qG.refl _) (List.prefix_refl _) (o3 sq t)⟩
  have e:b=s.heap.objs.size:=by simpa using hb
  subst e
  exact I.fpOk (Nat.le_refl _) (I.hok.fresh (Nat.le_refl _))
 |lst xs =>
  cases hd
  simp only[Rep] at rp
  obtain⟨a,vs,rfl,sq,t⟩:=rp
  cases rv
  obtain⟨its,rv,p,hz⟩:=I.list ((xN r.sub sq).l)
  refine wpAny_pyIter_list p.isList ?_
  refine⟨s.heap.objs.size,[s.heap.objs.size],_,_,H,rfl,I.kept (t':=s.toks) fun b o e=>Heap.get?_push_of_some _ e,b9 a _,⟨_,Heap.get?_push_size _ rfl,rfl,rfl⟩,fun b hb=>?_,q _ _ P α r (qG.refl _) (List.prefix_refl _) (rX sq.l t)⟩
  have e:b=s.heap.objs.size:=by simpa using hb
  subst e
  exact I.fpOk (Nat.le_refl _) (I.hok.fresh (Nat.le_refl _))
 |_=>cases hd
theorem OkI.base {P P1:Hp}{α α1:List Addr}{R:It→Hp→Prop}{ds:List D}{S:Sto}(e:qG P P1)(h:α<+:α1)(k:OkI X P α R ds S):OkI X P1 α1 R ds S:=fun J H' P' α' r q1 q2 q3=>k J H' P' α' r (e.trans q1) (h.trans q2) q3
theorem X1 (ha:PE X e (tD X fa)):PI X tg e (tDI X (xW fa)):=by
 intro pins s σ H R I h
 obtain⟨P,α,env,S,r,re,af⟩:=h
 refine thn (zT ha I r re af) fun vv s1 ⟨v,H1,P1,α1,d,S1,G1,af1⟩=>?_
 obtain⟨ds,e1,q⟩:=yU af1
 exact fG G1.inv G1.rel G1.val G1.rep e1 (q.base G1.same G1.pre)
def xR (lo:Int)(n:Nat):List D:=(List.range n).map fun (i:Nat)=>D.int (lo+(i:Int))
theorem uW (lo:Int)(n:Nat):(xR lo n).length=n:=by simp[xR]
theorem pW {P:Hp}{α : List Addr}{lo:Int}{n:Nat}:ItD K (Itr lo n) P α (xR lo n) where
 go:=fun i H P1 α1 S hi r e _=>by rw[uW] at hi;exact hi
 yld:=fun i H x H' P1 α1 S hi r e e2 y=>by
  obtain⟨rfl,rfl⟩:=y
  rw[uW] at hi
  exact⟨P1,.int (lo+i),by simp[xR,hi],r,qG.refl _,by simp only[Rep]⟩
 stop:=fun i H P1 α1 S hi r e _=>by rw[uW] at hi;exact hi
def kP (ds:List D):Option (List D):=match ds with
 |[.int j]=>if -(2 ^ 62)≤j∧j<2 ^ 62 then some (xR 0 j.toNat) else none
 |[.int i,.int j]=>if -(2 ^ 62)≤i∧i<2 ^ 62 ∧ -(2 ^ 62)≤j∧j<2 ^ 62 then some (xR i (j-i).toNat) else none
 |_=>none
def gX (f:DA):DI:=fun env S=>(f env S).bind fun ds S1=>yP (kP ds) S1
def asI:D→Option Int
 |.int i=>some i
 |_=>none
theorem kF {d:D}{i:Int}(h:asI d=some i):d=.int i:=by
 cases d with
 |int k=>exact congrArg D.int (Option.some.inj h)
 |_=>exact nn h
inductive RngV:List D→List D→Prop
 |one (j:Int) (h : -(2 ^ 62)≤j∧j<2 ^ 62):RngV [.int j] (xR 0 j.toNat)
 |two (i j:Int) (h : -(2 ^ 62)≤i∧i<2 ^ 62 ∧ -(2 ^ 62)≤j∧j<2 ^ 62):RngV [.int i,.int j] (xR i (j-i).toNat)
theorem JB (d:D):kP [d]=(asI d).bind fun j=>if -(2 ^ 62)≤j∧j<2 ^ 62 then some (xR 0 j.toNat) else none:=by cases d <;> rfl
theorem JC (d d':D):kP [d,d']=(asI d).bind fun i=>(asI d').bind fun j=>if -(2 ^ 62)≤i∧i<2 ^ 62 ∧ -(2 ^ 62)≤j∧j<2 ^ 62 then some (xR i (j-i).toNat) else none:=by
 cases d with
 |int i=>cases d' <;> rfl
 |_=>rfl
theorem Q7 {ds its:List D}(h:kP ds=some its):RngV ds its:=by
 cases ds with
 |nil=>exact nn h
 |cons d ds =>
  cases ds with
  |nil =>
   obtain⟨j,e,h⟩:=Option.bind_eq_some_iff.mp ((JB d).symm.trans h)
   obtain⟨c,rfl⟩:=uP h
   rw[kF e]
   exact .one j c
  |cons d' ds =>
   cases ds with
   |nil =>
    obtain⟨i,e,h⟩:=Option.bind_eq_some_iff.mp ((JC d d').symm.trans h)
    obtain⟨j,e',h⟩:=Option.bind_eq_some_iff.mp h
    obtain⟨c,rfl⟩:=uP h
    rw[kF e,kF e']
    exact .two i j c
   |cons _ _ =>
    have h0:∀ d'' t,kP (d::d'::d''::t)=none:=fun d'' t=>by cases d <;> first|rfl|(cases d' <;> rfl)
    exact nn ((h0 _ _).symm.trans h)
theorem pJ {K:PySem.W.Frag}{P:Hp}{α : List Addr}{i:Int}{vs:List V}{ds:List D}(r:qE K P α (.int i::ds) vs):∃ ws,vs=.int i::ws∧qE K P α ds ws:=by
 obtain⟨w,ws,rfl,p,t⟩:=r.cons_inv
 exact⟨ws,congrArg (· :: ws) (by simpa only [Rep] using p),t⟩
theorem PI.weak {iter:Expr}{t t':TI}(h:PI X tg iter t)(w:∀ σ H R,t' σ H R→t σ H R):PI X tg iter t':=fun pins s σ H R I q=>h pins s σ H R I (w σ H R q)
end
section
variable {X:Cx}{tg a b:Expr}{f:DA}{p pos:Pos}
theorem rK {e:Expr}{es:List Expr}(hg:Gl X "range")(hm:X.mg "range" = none)(ha:PA X (e::es) (tDA X f))(hs:starEach (e::es) X.env=(false,eval e X.env)::starEach es X.env:=by rfl)(hpl:(backTo pos (starEach es X.env)).any (·.1)=false:=by rfl) :
  PI X tg (.Call (.Name "range" p) (e::es) [] pos) (tDI X (gX f)):=by
 intro pins s σ H R I h
 obtain⟨P,α,env,S,r,re,af⟩:=h
 refine Call_ (jG I hg hm boot_range (PyProof.Rows.callWith_type1 (thn (xO ha I r re af pos) fun us s1 ⟨vs,H1,P1,α1,ds,S1,I1,rv,r1,re1,rp,e1,e2,af1⟩=>?_) hs hpl))
 obtain⟨its,hi,q⟩:=yU af1
 cases Q7 hi with
 |one j c =>
  obtain⟨ws,rfl,t1⟩:=pJ rp
  cases t1.nil_inv
  obtain⟨u,rfl,t,rfl⟩:=k9 rv
  refine call_range_1 (fX I1 (by omega) (by omega) c.1 c.2 ?_)
  have z:=q (Itr 0 j.toNat) H1 P1 α1 r1 e1 e2 pW
  rw[Int.sub_zero]
  exact z
 |two i j c =>
  obtain⟨ws,rfl,t1⟩:=pJ rp
  obtain⟨ws2,rfl,t2⟩:=pJ t1
  cases t2.nil_inv
  obtain⟨u,u',rfl,⟨t,rfl⟩,t',rfl⟩:=bM rv
  exact call_range_2 (fX I1 c.1 c.2.1 c.2.2.1 c.2.2.2 (q (Itr i (j-i).toNat) H1 P1 α1 r1 e1 e2 pW))
def vO (g:DG)(f:DS):List D→qD→Sto→Out
 |[],env,S=>.nx env S
 |d::ds,env,S=>(g d env S).toS env fun env1 S1=>match f env1 S1 with
  |.nx env2 S2=>vO g f ds env2 S2
  |.ct env2 S2=>vO g f ds env2 S2
  |.bk env2 S2=>.nx env2 S2
  |o=>o
def kQ (fi:DI)(g:DG)(f:DS):DS:=fun env S=>(fi env S).toS env fun ds S1=>vO g f ds env S1
inductive LoopW (X:Cx)(P1:Hp)(α1:List Addr)(g:DG)(f:DS)(ds:List D)(D:Ends)(i m:Nat)(σ : _L.St)(H:Hp):Prop
 |mk (hi:i≤ds.length) (hm:m=ds.length-i) (P2:Hp) (α2:List Addr) (env2:qD) (S2:Sto) (r:Rel X.K H P2 α2 S2) (re:qS X.K P2 α2 σ env2) (e1:qG P1 P2) (e2:α1<+:α2) (af:qT X P2 α2 (vO g f (ds.drop i) env2 S2) D):LoopW X P1 α1 g f ds D i m σ H
theorem X5 {iter:Expr}{body:List Stmt}{fi:DI}{g:DG}{f:DS}(hp:PassesOwn (model X.prog X.w) X.A X.env X.xe)(hc:X.calm=true)(hi:PI X tg iter (tDI X fi))(hg:PG X tg (tDG X g))(hb:PSs X body (tDS X f))
  (hs:∀ x,foldedSetIterable iter X.env x=pure x:=by intro _;rfl):PS X (.For tg iter body [] pos) (tDS X (kQ fi g f)):=psW (YA hp hc hi hg hb hs) fun D σ H ⟨P,α,env,S,r,re,af⟩=>by
 refine⟨P,α,env,S,r,re,?_⟩
 have af1:=w6 af
 cases q:fi env S with
 |bad=>rw[q] at af1;exact af1
 |ex c x S'=>rw[q] at af1;exact af1
 |ok ds S1 =>
  rw[q] at af1
  have af2:qT X P α (vO g f ds env S1) D:=af1
  intro J H1 P1 α1 r1 e1 e2 it
  refine⟨LoopW X P1 α1 g f ds D,
   ⟨ds.length,Nat.zero_le _,rfl,P1,α1,env,S1,r1,re.mono e1 e2,qG.refl _,List.prefix_refl _,qT.base e1 e2 af2⟩,?_⟩
  rintro i m σ2 H2 ⟨hi,rfl,P2,α2,env2,S2,r2,re2,e3,e4,af3⟩
  by_cases hlt:i<ds.length
  ·refine .inr ⟨it.go i H2 P2 α2 S2 hlt r2 e3 e4,LoopW X P1 α1 g f ds D (i+1) (ds.length-(i+1)),fun σ' H' w=>⟨_,?_,w⟩,fun x H3 y=>?_⟩
   ·omega
   ·obtain⟨P3,d,hd,r3,e5,rp⟩:=it.yld i H2 x H3 P2 α2 S2 hlt r2 e3 e4 y
    have hdr:ds.drop i=d::ds.drop (i+1):=by
     rw[List.drop_eq_getElem_cons hlt]
     rw[List.getElem?_eq_getElem hlt] at hd
     rw[Option.some.inj hd]
    rw[hdr] at af3
    have af4:=w6 (qT.base e5 (List.prefix_refl _) af3)
    refine⟨P3,α2,env2,S2,d,r3,re2.mono e5 (List.prefix_refl _),rp,?_⟩
    cases q2:g d env2 S2 with
    |bad=>rw[q2] at af4;exact af4
    |ex c x S'=>rw[q2] at af4;exact af4
    |ok env3 S3 =>
     rw[q2] at af4
     intro σ4 H4 P4 α4 r4 re4 e6 e7
     refine⟨P4,α4,env3,S3,r4,re4,?_⟩
     have af5:=qT.base e6 e7 af4
     cases q3:f env3 S3 with
     |bad=>simp only[q3] at af5;exact af5
     |ex c x env4 S4=>simp only[q3] at af5;exact af5
     |rt d4 S4=>simp only[q3] at af5;exact af5
     |bk env4 S4=>simp only[q3] at af5;exact af5
     |nx env4 S4 =>
      simp only[q3] at af5
      exact fun σ5 H5 P5 α5 r5 re5 e8 e9=>⟨hlt,rfl,P5,α5,env4,S4,r5,re5,((e3.trans e5).trans e6).trans e8,(e4.trans e7).trans e9,qT.base e8 e9 af5⟩
     |ct env4 S4 =>
      simp only[q3] at af5
      exact fun σ5 H5 P5 α5 r5 re5 e8 e9=>⟨hlt,rfl,P5,α5,env4,S4,r5,re5,((e3.trans e5).trans e6).trans e8,(e4.trans e7).trans e9,qT.base e8 e9 af5⟩
  ·have hdr:ds.drop i=[]:=List.drop_eq_nil_of_le (by omega)
   rw[hdr] at af3
   exact .inl ⟨it.stop i H2 P2 α2 S2 (by omega) r2 e3 e4,af3 σ2 H2 P2 α2 r2 re2 (qG.refl _) (List.prefix_refl _)⟩
end
end _D
end
section
namespace _D
open PySem PySem.Spec PyProof.Rows _L
abbrev DF:=List D→Sto→Res D
section
variable {X:Cx}{x:Str}{p pos:Pos}{e:Expr}{es:List Expr}{F:DF}{fa:DA}
def qM (F:DF)(fa:DA):DE:=fun env S=>(fa env S).bind fun ds S1=>F ds S1
theorem pP {F:DF}{u:Value}{pins:List (Addr × Obj)}{s1:Shared}{σ : _L.St}{H1 P P1:Hp}{α α1:List Addr}{vs:List V}{us:List Value}{ds:List D}{S1:Sto}{Q:VK}(hc:w8 X u F)(I1:Inv X pins σ H1 s1)(r1:Rel X.K H1 P1 α1 S1)(rv:qL vs us)
  (rp:qE X.K P1 α1 ds vs) (e1:qG P P1) (e2:α<+:α1) (af:qH X P α (F ds S1) (OkV X P α Q)):wpAny (model X.prog X.w) X.A (call u us) (EP X pins σ Q) X.xe s1:=hc pins σ H1 s1 P1 α1 S1 vs us ds Q I1 r1 rv rp (qR.base e1 e2 af)
theorem rE {id:String}(hc:w8 X (.builtin id) F)(hg:Gl X x)(hm:X.mg x=none)(hv:bootBuiltins x=some (.builtin id))(ha:PA X (e::es) (tDA X fa))(hn:x ≠ "__name__":=by decide)(hdb:(x == ("__debug__" : Str))=false:=by decide)
  (he:starEach (e::es) X.env=(false,eval e X.env)::starEach es X.env:=by rfl) (hpl:(backTo pos (starEach es X.env)).any (·.1)=false:=by rfl):PE X (.Call (.Name x p) (e::es) [] pos) (tD X (qM F fa)):=by
 intro pins s σ H Q I h
 obtain⟨P,α,env,S,r,re,af⟩:=h
 refine wpAny_Call_Name_kw (jG I hg hm hv ?_ hn hdb)
 exact PyProof.Rows.callWith_builtin1 (thn (xO ha I r re af pos) fun us s1 ⟨vs,H1,P1,α1,ds,S1,I1,rv,r1,re1,rp,e1,e2,af1⟩=>pP hc I1 r1 rv rp e1 e2 af1) he hpl
theorem lQ {T:String}(hc:w8 X (.type T) F)(hg:Gl X x)(hm:X.mg x=none)(hv:bootBuiltins x=some (.type T))(ha:PA X (e::es) (tDA X fa))(hn:x ≠ "__name__":=by decide)(hdb:(x == ("__debug__" : Str))=false:=by decide)
  (he:starEach (e::es) X.env=(false,eval e X.env)::starEach es X.env:=by rfl) (hpl:(backTo pos (starEach es X.env)).any (·.1)=false:=by rfl):PE X (.Call (.Name x p) (e::es) [] pos) (tD X (qM F fa)):=by
 intro pins s σ H Q I h
 obtain⟨P,α,env,S,r,re,af⟩:=h
 refine wpAny_Call_Name_kw (jG I hg hm hv ?_ hn hdb)
 exact PyProof.Rows.callWith_type1 (thn (xO ha I r re af pos) fun us s1 ⟨vs,H1,P1,α1,ds,S1,I1,rv,r1,re1,rp,e1,e2,af1⟩=>pP hc I1 r1 rv rp e1 e2 af1) he hpl
end
end _D
end
section
namespace _D
open PySem PySem.Spec PyProof.Rows _L
theorem qY.there {P:Program}{w:World}{H:Hp}{h:Heap}{a:Addr}{o:HO}(x:qY P w H h a o):∃ ob,h.get? a=some ob:=by
 cases o with
 |lst xs=>obtain⟨_,_,_,_,e⟩:=x;exact⟨_,e⟩
 |tup xs=>obtain⟨_,_,_,ob,e,_⟩:=x;exact⟨_,e⟩
 |dK kvs=>obtain⟨_,_,_,_,o,_,_,e,_⟩:=x;exact⟨_,e⟩
 |dT kvs=>obtain⟨_,_,_,_,o,_,_,e,_⟩:=x;exact⟨_,e⟩
 |set S n=>obtain⟨o,_,_,_,e,_⟩:=x;exact⟨_,e⟩
 |ins C dx fs=>obtain⟨_,_,_,e,_⟩:=x;exact⟨_,e⟩
 |own y=>obtain⟨_,e⟩:=x;exact⟨_,e⟩
 |xd fs=>obtain⟨_,⟨_,_,_,e,_⟩,_⟩:=x;exact⟨_,e⟩
 |rng lo hi=>obtain⟨_,_,_,e⟩:=x;exact⟨_,e⟩
 |frz ob u=>obtain⟨e,_⟩:=x;exact⟨_,e⟩
 |tbl ps=>exact⟨_,show h.get? a=some _ from x⟩
 |met f y=>exact⟨_,show h.get? a=some _ from x⟩
 |ext φ => obtain⟨_,e,_⟩:=x;exact e
section
variable {X:Cx}{pins:List (Addr × Obj)}{σ : _L.St}{H:Hp}{s:Shared}{B h':Heap}
abbrev Fn1 (X:Cx):Prop:=X.ex=[]∧X.stack=X.env::X.outer∧X.env.frame=some X.env.locals
theorem Fn1.mem (F:Fn1 X){b:Addr}:b∈frs X.stack↔b=X.env.locals∨b∈X.fs:=by
 rw[F.2.1]
 unfold frs
 rw[List.filterMap_cons,F.2.2]
 exact List.mem_cons
theorem Old.there (I:Inv X pins σ H s)(F:Fn1 X){b:Addr}(o:Old X pins H b):∃ ob,s.heap.get? b=some ob:=by
 rcases o with⟨o,e⟩|e|⟨p,hp,rfl⟩|⟨x,e⟩
 ·exact I.base.there b o e (by rw[F.1];simp)
 ·cases q:H b with
  |none=>exact absurd q e
  |some u=>exact qY.there (I.hok b u q)
 ·exact⟨_,(I.pin p hp).1⟩
 ·obtain⟨v,ob,ho,_⟩:=I.cell x b e
  exact⟨ob,ho⟩
theorem Inv.fly (I:Inv X pins σ H s)(F:Fn1 X)(cv:Cv X pins H B s.heap)(st:B.StaysIn h')(up:s.heap.UpToSlots h'):Inv X pins σ H { s with heap:=h' } ∧ Cv X pins H B h':=by
 have kp:∀ b o,s.heap.get? b=some o→Old X pins H b→b ∉ frs X.stack→h'.get? b=some o:=fun b o e q n=>st b o (cv b o e q n)
 have neL:∀ b o,X.s₀.heap.get? b=some o→b≠X.env.locals:=fun b o e=>Nat.ne_of_lt (Nat.lt_of_lt_of_le (Heap.lt_size e) I.ok.above)
 have nofr:∀ b o,X.s₀.heap.get? b=some o→b ∉ X.fs→b ∉ frs X.stack:=fun b o e n z=>(F.mem.mp z).elim (neL b o e) n
 have nx:∀ b,b ∉ X.ex:=fun b=>by rw[F.1];simp
 have frU:∀ b,b∈frs X.stack→∀ o,s.heap.get? b=some o→∃ sl,h'.get? b=some { o with slots:=sl }:=fun b hb o e=>by
  obtain⟨_,o',e',nf⟩:=I.stack.mem hb
  rw[e] at e';cases e'
  exact up b o e nf
 have cellK:∀ x c,X.env.cells.lookup x=some c→∀ v,s.heap.IsCell c v→h'.IsCell c v:=fun x c e v ⟨o,ho,hd⟩=>by
  obtain⟨sl,q⟩:=up c o ho fun vs z=>by rw[hd] at z;cases z
  exact⟨_,q,hd⟩
 refine⟨⟨I.ok,I.os,I.bare,⟨fun b o e n hb hx=>?_,fun b o e n hb hx=>?_,I.base.free,fun b o e hx=>?_,I.base.tups,I.base.frzs,I.base.tbls⟩,?_,fun x c e=>?_,I.free,I.freeC,fun p hp=>?_,fun a o e=>?_,I.len⟩,fun b o e q n=>?_⟩
 ·exact kp b o (I.base.keep b o e n hb hx) (.inl ⟨o,e⟩) (nofr b o e hb)
 ·obtain⟨sl,e1⟩:=I.base.slot b o e n hb hx
  obtain⟨sl',e2⟩:=frU b (F.mem.mpr (.inr hb)) _ e1
  exact⟨sl',e2⟩
 ·obtain⟨o',e1⟩:=I.base.there b o e hx
  by_cases hb:b∈frs X.stack
  ·obtain⟨sl,e2⟩:=frU b hb _ e1
   exact⟨_,e2⟩
  ·exact⟨o',kp b o' e1 (.inl ⟨o,e⟩) hb⟩
 ·obtain⟨m,hn,hl⟩:=I.loc
  refine⟨m,up.ns hn,fun i x v e1 e2 e3=>?_⟩
  obtain⟨u,r,l⟩:=hl i x v e1 e2 e3
  refine⟨u,r,?_⟩
  rcases l with l|⟨k,c,e,z⟩
  ·exact .inl l
  ·exact .inr ⟨k,c,e,cellK x c e _ z⟩
 ·obtain⟨v,z⟩:=I.cell x c e
  exact⟨v,cellK x c e v z⟩
 ·obtain⟨e,n,ne,nf,d⟩:=I.pin p hp
  exact⟨kp p.1 p.2 e (.inr (.inr (.inl ⟨p,hp,rfl⟩))) fun z=>(F.mem.mp z).elim ne nf,n,ne,nf,d⟩
 ·refine(I.hok a o e).stay (fun b u hb q=>?_) (fun _ q=>q) fun _ _ q=>q
  have hn:H b≠none:=by
   rcases hb with rfl|hb
   ·rw[e];intro z;cases z
   ·rw[hb];intro z;cases z
  exact kp b u q (.inr (.inl hn)) fun z=>hn (I.stkFree b z)
 ·obtain⟨o1,e1⟩:=Old.there I F q
  have e2:=cv b o1 e1 q n
  have e3:=st b o1 e2
  rw[e] at e3;cases e3
  exact e2
theorem dM {c:Value}{e:Addr}{g:Heap}{args:List Value}(I:Inv X pins σ H s)(hm:Heap.MadeExcOf g s.heap e c args)(hf:g.FunFrames X.base X.stack)(hk:∀ b o,s.heap.get? b=some o→Old X pins H b→g.get? b=some o) :
  (PySem.W.hideAll g (frs X.stack)).StaysIn g∧g.FunFrames (PySem.W.hideAll g (frs X.stack)) X.stack∧Cv X pins H (PySem.W.hideAll g (frs X.stack)) s.heap:=
 ⟨fun b o q=>PySem.W.of_hideAll _ q,PySem.W.funFrames_hide hf fun env he a ha=>List.mem_filterMap.mpr ⟨env,he,ha⟩,fun b o e q n=>PySem.W.hideAll_get _ (hk b o e q) n⟩
theorem dG {M:Model}{A:Around}{E:Value→Shared→Prop}{c:Value}{e:Addr}{Q:Unit→Shared→Prop}(I:Inv X pins σ H s)(F:Fn1 X)(hA:A.frames=some X.stack)(f:FlyX X pins H c e s.heap)
  (hQ:∀ h' B a0,Heap.FlyingW B X.outer e c a0 h'→Inv X pins σ H { s with heap:=h' } → Cv X pins H B h'→Q () { s with heap:=h' }) : wpAny M A (leaving X.env (.ref e)) Q E s:=by
 cases f with
 |new g args hm hf hk =>
  obtain⟨k1,k2,k3⟩:=dM I hm hf hk
  rw[F.2.1] at hA
  refine wpAny_leaves_madeW hA F.2.2 k1 (by rw[← F.2.1];exact k2) hm fun h' t x1 x2 x3 x4=>?_
  obtain⟨I1,cv1⟩:=Inv.fly I F k3 x1.1 x4
  exact hQ h' _ _ x1 I1 cv1
 |fly B a0 fl cv =>
  rw[F.2.1] at hA
  refine wpAny_leaves_onW hA F.2.2 (by rw[← F.2.1];exact fl) fun h' x1 x2=>?_
  obtain⟨I1,cv1⟩:=Inv.fly I F cv x1.1 x2
  exact hQ h' _ _ x1 I1 cv1
end
def CXd (P:Program)(w:World):CXT:=fun outer H s E u s' =>
 ∃ e c H' B a0,u=.ref e∧s'.os=s.os∧AllBare s'.gens∧Un (frs outer) [] H H' s.heap s'.heap∧HOk P w H' s'.heap∧Heap.FlyingW B outer e c a0 s'.heap ∧
  (∀ b o,s'.heap.get? b=some o→((∃ o,s.heap.get? b=some o)∨H' b≠none)→b ∉ frs outer→B.get? b=some o)∧E c none H'
section
variable {X:Cx}{pins:List (Addr × Obj)}{σ : _L.St}{H:Hp}{s s':Shared}
theorem XM {E:XK}{u:Value}(I:Inv X pins σ H s)(F:Fn1 X)(h:CXd X.prog X.w X.stack H s E u s'):∃ e c H',u=.ref e∧Inv X pins σ H' s'∧FlyX X pins H' c e s'.heap∧E c none H':=by
 obtain⟨e,c,H',B,a0,rfl,os,bare,un,hok,fl,cov,q⟩:=h
 have I':Inv X pins σ H' s':=Inv.call' I os un hok bare (ch:=[]) fun b z=>absurd z (by simp)
 refine⟨e,c,H',rfl,I',.fly B a0 fl fun b o eb old n=>cov b o eb ?_ n,q⟩
 rcases old with⟨o,z⟩|z|⟨p,hp,rfl⟩|⟨x,z⟩
 ·exact .inl (I.base.there b o z (by rw[F.1];simp))
 ·exact .inr z
 ·exact .inl ⟨_,(I.pin p hp).1⟩
 ·obtain⟨v,ob,ho,_⟩:=I.cell x b z
  exact .inl ⟨ob,ho⟩
end
end _D
end
section
namespace _D
open PySem PySem.Spec PyProof.Rows _L
structure RoomC (cm:Bool)(k:Nat)(A:Around):Prop where
 hd:cm=true→A.handled=none
 dp:A.depth+3*k+5<recursionLimit
 un:A.units+16*k+200<cLine
 gd:A.guards=some []
theorem RoomC.mono {cm:Bool}{j k:Nat}{A:Around}(r:RoomC cm k A)(h:j≤k:=by decide):RoomC cm j A:=⟨r.hd,by have:=r.dp;omega,by have:=r.un;omega,r.gd⟩
theorem RoomC.deeper {cm:Bool}{k:Nat}{A:Around}(r:RoomC cm (k+1) A)(env:Env):RoomC cm k (A.deeper env):=
 ⟨r.hd,by have:=r.dp;show A.depth+1+3*k+5<_;omega,by have:=r.un;show A.units+3+16*k+200<_;omega,r.gd⟩
theorem RoomC.depth {cm:Bool}{k:Nat}{A:Around}(r:RoomC cm k A):A.depth<recursionLimit:=by have:=r.dp;omega
theorem RoomC.units {cm:Bool}{k:Nat}{A:Around}(r:RoomC cm k A):A.units+64<cLine:=by have:=r.un;omega
theorem RoomC.of {k:Nat}{A:Around}(r:Room k A):RoomC true k A:=⟨fun _=>r.hd,r.dp,r.un,r.gd⟩
theorem RoomC.any {cm:Bool}{k:Nat}{A:Around}(r:RoomC cm k A):RoomC false k A:=⟨(fun z=>nomatch z),r.dp,r.un,r.gd⟩
theorem RoomC.mark {cm:Bool}{k:Nat}{A:Around}(r:RoomC cm k A)(h:Option Value):RoomC false k (A.mark h):=⟨(fun z=>nomatch z),r.dp,r.un,r.gd⟩
abbrev Cx.re (X:Cx)(A:Around)(cm:Bool)(E:Value→Shared→Prop):Cx:={ X with A:=A,calm:=cm,xe:=E }
theorem Inv.re {X:Cx}{pins:List (Addr × Obj)}{σ : _L.St}{H:Hp}{s:Shared}(I:Inv X pins σ H s)(A:Around)(cm:Bool)(E:Value→Shared→Prop)(hf:A.frames=some X.stack)(hh:cm=true→A.handled=none):Inv (Cx.re X A cm E) pins σ H s:=
 ⟨⟨I.ok.mod,I.ok.kind,I.ok.glob,I.ok.blt,I.ok.above,I.ok.inj,I.ok.has,I.ok.cab,hh,hf,I.ok.stk,I.ok.exf,I.ok.bs,I.ok.bsz,I.ok.noex,I.ok.exfs,I.ok.funs,I.ok.frf⟩,I.os,I.bare,I.base,I.loc,I.cell,I.free,I.freeC,I.pin,I.hok,I.len⟩
theorem Inv.unre {X:Cx}{pins:List (Addr × Obj)}{σ : _L.St}{H:Hp}{s:Shared}{A:Around}{cm:Bool}{E:Value→Shared→Prop}(I:Inv (Cx.re X A cm E) pins σ H s)(hf:X.A.frames=some X.stack)(hh:X.calm=true→X.A.handled=none):Inv X pins σ H s:=
 ⟨⟨I.ok.mod,I.ok.kind,I.ok.glob,I.ok.blt,I.ok.above,I.ok.inj,I.ok.has,I.ok.cab,hh,hf,I.ok.stk,I.ok.exf,I.ok.bs,I.ok.bsz,I.ok.noex,I.ok.exfs,I.ok.funs,I.ok.frf⟩,I.os,I.bare,I.base,I.loc,I.cell,I.free,I.freeC,I.pin,I.hok,I.len⟩
structure FnX (P:Program)(w:World)(K:PySem.W.Frag)(mg:Str→Option Value)(base:Heap)(cm:Bool)(k:Nat)(f:Addr)(fd:FuncData)(ps:List Str)(sp:Sp):Prop where
 len:∀ vs H Q E,sp vs H Q E→vs.length=ps.length
 run:∀ (A:Around) (outer:List Env) (s:Shared) (H:Hp) (args:Args) (us:List Value) (vs:List V) (Q:VK) (E:XK),RoomC cm k A→Env0 P w K mg base A outer s H→BindsTo s fd args (ps.zip us)→qL vs us→sp vs H Q E →
  codeAny (model P w) A (.call (.ref f) args) (CR (CXd P w) outer P w H s Q E) s
theorem FnX.ok {P:Program}{w:World}{K:PySem.W.Frag}{mg:Str→Option Value}{base:Heap}{k:Nat}{f:Addr}{fd:FuncData}{ps:List Str}{sp:Sp}(F:FnX P w K mg base true k f fd ps sp):FnOk P w K mg base (CXd P w) k f fd ps sp:=
 ⟨F.len,fun A outer s H args us vs Q E hr=>F.run A outer s H args us vs Q E (.of hr)⟩
theorem FnX.any {P:Program}{w:World}{K:PySem.W.Frag}{mg:Str→Option Value}{base:Heap}{cm:Bool}{k:Nat}{f:Addr}{fd:FuncData}{ps:List Str}{sp:Sp}(F:FnX P w K mg base false k f fd ps sp):FnX P w K mg base cm k f fd ps sp:=
 ⟨F.len,fun A outer s H args us vs Q E hr=>F.run A outer s H args us vs Q E hr.any⟩
theorem FnX.imp {P:Program}{w:World}{K:PySem.W.Frag}{mg:Str→Option Value}{base:Heap}{cm:Bool}{k:Nat}{f:Addr}{fd:FuncData}{ps:List Str}{sp sp':Sp}(F:FnX P w K mg base cm k f fd ps sp)
  (h:∀ vs H Q E,sp' vs H Q E→sp vs H Q E):FnX P w K mg base cm k f fd ps sp':=
 ⟨fun vs H Q E q=>F.len vs H Q E (h _ _ _ _ q),fun A outer s H args us vs Q E hr he hb hv hs=>F.run A outer s H args us vs Q E hr he hb hv (h _ _ _ _ hs)⟩
def cxC (cm:Bool)(P:Program)(w:World)(K:PySem.W.Frag)(mg:Str→Option Value)(base:Heap)(N:List Str)(qual:Str)(scope:Scope)(f:Addr)(cd:Value)(A:Around)(outer:List Env)(s:Shared)(H:Hp)(E:XK):Cx where
 prog:=P
 w:=w
 K:=K
 mg:=mg
 base:=base
 A:=A.deeper (envOfC qual scope s.heap.objs.size f cd)
 N:=N
 s₀:=s
 H₀:=H
 env:=envOfC qual scope s.heap.objs.size f cd
 outer:=outer
 stack:=envOfC qual scope s.heap.objs.size f cd::outer
 ex:=[]
 calm:=cm
 fn:=fun _=>true
 pn:=[]
 xe:=fun e s'=>wpAny (model P w) (A.deeper (envOfC qual scope s.heap.objs.size f cd)) (leaving (envOfC qual scope s.heap.objs.size f cd) e) (fun _ s''=>CXd P w outer H s E e s'') (fun e' s''=>CXd P w outer H s E e' s'') s'
section
variable {P:Program}{w:World}{K:PySem.W.Frag}{mg:Str→Option Value}{base:Heap}{cm:Bool}{N:List Str}{qual:Str}{scope:Scope}{f:Addr}{cd:Value}{A:Around}{outer:List Env}{s:Shared}{H:Hp}{E:XK}
theorem rC:PassesOwn (model P w) (A.deeper (envOfC qual scope s.heap.objs.size f cd)) (envOfC qual scope s.heap.objs.size f cd) (cxC cm P w K mg base N qual scope f cd A outer s H E).xe:=PassesOwn.leaving (Q₁:=fun e s''=>CXd P w outer H s E e s'')
abbrev xeL (P:Program)(w:World)(A:Around)(env:Env)(outer:List Env)(H:Hp)(s:Shared)(E:XK):Value→Shared→Prop:=fun e s'=>wpAny (model P w) (A.deeper env) (leaving env e) (fun _ s''=>CXd P w outer H s E e s'') (fun e' s''=>CXd P w outer H s E e' s'') s'
theorem bY {X:Cx}{A:Around}{E:XK}{P0:Hp}{α : List Addr}{c:Value}{x:D}{S:Sto}{u:Value}{s':Shared}(hA:X.A=A.deeper X.env)(k:XOk X P0 α c x S u s')
  (q:∀ H' P' α',Rel X.K H' P' α' S→qG P0 P'→α<+:α'→E c none H'):xeL X.prog X.w A X.env X.outer X.H₀ X.s₀ E u s':=by
 obtain⟨e,pins,σ,H1,P1,α1,rfl,I,r,e1,e2,F,fl⟩:=k
 unfold xeL
 rw[← hA]
 refine dG I F I.ok.frames fl fun h' B a0 x1 I1 cv=>?_
 refine⟨e,c,H1,B,a0,rfl,I1.os,I1.bare,by have z:=I1.base;rw[F.1] at z;exact z,I1.hok,x1,fun b o eb hb n=>cv b o eb ?_ fun z=>?_,q H1 P1 α1 r e1 e2⟩
 ·rcases hb with z|z
  ·exact .inl z
  ·exact .inr (.inl z)
 ·rcases (Fn1.mem F).mp z with z|z
  ·subst z
   rcases hb with⟨o',e'⟩|z
   ·exact absurd (Heap.lt_size e') (Nat.not_lt.mpr I1.ok.above)
   ·exact z I1.free
  ·exact n z
theorem nS {ps:List Str}{s1:Shared}{us:List Value}{vs:List V}(S:FnScope N ps scope)(hd:cm=true→A.handled=none)(e0:Env0 P w K mg base A outer s H)(hl:vs.length=ps.length)(r:qL vs us)
  (x:InCallC s s.heap.objs.size (bindL (envOfC qual scope s.heap.objs.size f cd).kindOf (ps.zip us) fun _=>none) (cellsFrom (s.heap.objs.size+1) scope.names []) (bindC (envOfC qual scope s.heap.objs.size f cd).kindOf (ps.zip us) fun _=>none) s1) :
  Inv (cxC cm P w K mg base N qual scope f cd A outer s H E) [] (_L.xA N vs) H s1:=by
 have I:=pV (CX:=CXd P w) (E:=E) (A:={ A with handled:=none }) S rfl ⟨e0.frames,e0.mod,e0.bs,e0.bsz,e0.funs,e0.frf,e0.hok,e0.bare⟩ hl r x
 have J:=Inv.re I (A.deeper (envOfC qual scope s.heap.objs.size f cd)) cm (cxC cm P w K mg base N qual scope f cd A outer s H E).xe (Around.frames_deeper e0.frames) hd
 exact J
end
theorem lX {P:Program}{w:World}{K:PySem.W.Frag}{mg:Str→Option Value}{base:Heap}{cm:Bool}{k:Nat}{f:Addr}{qual:Str}{params:Arguments}{body:List Stmt}{scope:Scope}{oc:Value}{od an:Option Addr}{osl:Array (Option Value)}{x:Str}{kV doc pm cdv ct:Value}{N ps:List Str}
  {A:Around} {outer:List Env} {s:Shared} {H:Hp} {args:Args} {us:List Value} {vs:List V} {Q:VK} {E:XK} (lk:K.lookup f=some ⟨oc,od,.func (PySem.W.fnOf x qual params body scope .none kV doc pm an cdv ct),osl⟩) (hcd:PySem.W.codeIn K cdv qual=true) (S:FnScope N ps scope) (hl:vs.length=ps.length) (hr:RoomC cm (k+1) A)
  (e0:Env0 P w K mg base A outer s H) (hb:BindsTo s (PySem.W.fnOf x qual params body scope .none kV doc pm an cdv ct) args (ps.zip us)) (r:qL vs us)
  (hbody:∃ t,PSs (cxC cm P w K mg base N qual scope f cdv A outer s H E) body t∧t { nx:=fun _ H'=>Q .non H',rt:=Q } (_L.xA N vs) H) :
  codeAny (model P w) A (.call (.ref f) args) (CR (CXd P w) outer P w H s Q E) s:=by
 have KX:K.In s.heap:=e0.mod.kin.keeps fun b o e=>(e0.bs b o e).1
 have lim:s.heap.NoLimit:=e0.mod.nolimit.keeps fun b o e=>(e0.bs b o e).1
 have hkind:∀ y∈ps.zip us,scope.names.lookup y.1=some .local ∨ (scope.names.lookup y.1=some .cell∧((cellsFrom (s.heap.objs.size+1) scope.names []).lookup y.1).isSome=true):=fun ⟨n,v⟩ hy=>by
  rcases S.par n (List.of_mem_zip hy).1 with q|q
  ·exact .inl q
  ·exact .inr ⟨q,PySem.W.cellsFrom_some _ _ _ (.inl q)⟩
 refine codeAny_call_function hr.depth (KX _ _ lk) rfl S.co S.gen rfl (PySem.W.codeRec_of KX hcd) (hb _ _ _ _ ?_)
 refine wpAny_newFunctionEnv_cells S.kind hkind fun env he s1 x=>?_
 subst he
 refine⟨lim.keeps x.toInCall.keep,codeAny_func ?_⟩
 obtain⟨t,ht,hq⟩:=hbody
 have I:Inv (cxC cm P w K mg base N qual scope f cdv A outer s H E) [] (_L.xA N vs) H s1:=nS S hr.hd e0 hl r x
 refine wpAny_mono (ht [] s1 (_L.xA N vs) H _ I hq) (fun fl s' hs=>?_) fun e s' hs=>hs
 have fin:∀ {σ' : _L.St} {H':Hp} {v:V} {u:Value},Inv (cxC cm P w K mg base N qual scope f cdv A outer s H E) [] σ' H' s'→qK v u→Q v H'→CE outer P w H s Q u s':=
  fun {σ' H' v u} J rv q=>⟨v,H',J.os,J.bare,J.base,J.hok,rv,q⟩
 cases fl with
 |ret u =>
  obtain⟨v,σ',H',J,rv,q⟩:=hs
  exact fin J rv q
 |next =>
  obtain⟨σ',H',J,q⟩:=hs
  exact fin (v:=V.non) (u:=Value.none) J rfl q
 |brk =>
  obtain⟨_,_,_,q⟩:=hs
  exact False.elim q
 |cont =>
  obtain⟨_,_,_,q⟩:=hs
  exact False.elim q
def uI (K:PySem.W.Frag)(x:Str)(cdv:Value):Prop:=∀ c T,PySem.W.tabIn K x=some (c,T)→cdv=.ref c
theorem XN {P:Program}{w:World}{K:PySem.W.Frag}{mg:Str→Option Value}{base:Heap}{cm:Bool}{k:Nat}{f:Addr}{x qual:Str}{st:Stmt}{fd:FuncData}{N ps:List Str}{sp:Sp}(F:Fun K x qual st f fd)(S:FnScope N ps (qF st))
  (len:∀ vs H Q E,sp vs H Q E→vs.length=ps.length)
  (hbody:∀ (cdv:Value) (A:Around) (outer:List Env) (s:Shared) (H:Hp) (vs:List V) (Q:VK) (E:XK),fd.code=cdv∧Mod K mg base→RoomC cm k (A.deeper (envOfC qual (qF st) s.heap.objs.size f cdv))→sp vs H Q E →
   ∃ t,PSs (cxC cm P w K mg base N qual (qF st) f cdv A outer s H E) (zB st) t∧t { nx:=fun _ H'=>Q .non H',rt:=Q } (_L.xA N vs) H) :
  FnX P w K mg base cm (k+1) f fd ps sp:=by
 obtain⟨oc,od,kV,doc,pm,an,cdv,ct,osl,rfl,lk,hcd⟩:=F.ex
 exact⟨len,fun A outer s H args us vs Q E hr e0 hb r hsp=>lX lk hcd S (len _ _ _ _ hsp) hr e0 hb r (hbody cdv A outer s H vs Q E ⟨rfl,e0.mod⟩ (hr.deeper _) hsp)⟩
def yK (n:Nat)(ds:List D):qD:=ds.map some++List.replicate (n-ds.length) none
def jM:Out→Res D
 |.rt d S=>.ok d S
 |.nx _ S=>.ok .non S
 |.ex c x _ S=>.ex c x S
 |_=>.bad
def qQ (n:Nat)(g:DS):DF:=fun ds S=>jM (g (yK n ds) S)
def spR (K:PySem.W.Frag)(P:Hp)(α : List Addr)(R:Res D)(Q:VK)(E:XK):Prop:=match R with
 |.ok d S'=>∀ v H' P' α',Rel K H' P' α' S'→qG P P'→α<+:α'→Rep K P' α' d v→Q v H'
 |.ex c _ S'=>∀ H' P' α',Rel K H' P' α' S'→qG P P'→α<+:α'→E c none H'
 |.bad=>False
def spD (K:PySem.W.Frag)(n:Nat)(F:DF):Sp:=fun vs H Q E=>vs.length=n∧∃ P α ds S,Rel K H P α S∧qE K P α ds vs∧spR K P α (F ds S) Q E
theorem lB {K:PySem.W.Frag}{P:Hp}{α : List Addr}{N:List Str}{ds:List D}{vs:List V}(r:qE K P α ds vs):qS K P α (_L.xA N vs) (yK N.length ds):=by
 refine⟨by simp[yK,_L.xA,r.length],fun i d e=>?_⟩
 unfold yK at e
 unfold _L.xA
 by_cases hi:i<ds.length
 ·rw[List.getElem?_append_left (by simpa using hi),List.getElem?_map] at e
  rw[List.getElem?_append_left (by rw[List.length_map,← r.length];exact hi),List.getElem?_map]
  cases q:ds[i]? with
  |none=>rw[q] at e;cases e
  |some d' =>
   rw[q] at e;cases e
   obtain⟨v,h1,h2⟩:=r.get q
   exact⟨v,by rw[h1];rfl,h2⟩
 ·rw[List.getElem?_append_right (by simpa using hi),List.getElem?_replicate] at e
  split at e <;> cases e
section
variable {P:Program}{w:World}{K:PySem.W.Frag}{mg:Str→Option Value}{base:Heap}{cm:Bool}
theorem bQ {qual:Str}{scope:Scope}{f:Addr}{cdv:Value}{A:Around}{outer:List Env}{s:Shared}{H P':Hp}{E:XK}{Q:VK}{N:List Str}{g:DS}{body:List Stmt}{α : List Addr}{ds:List D}{vs:List V}{S':Sto}(hb:PSs (cxC cm P w K mg base N qual scope f cdv A outer s H E) body (tDS (cxC cm P w K mg base N qual scope f cdv A outer s H E) g))
  (r:Rel K H P' α S') (rp:qE K P' α ds vs) (af:spR K P' α (qQ N.length g ds S') Q E):∃ t,PSs (cxC cm P w K mg base N qual scope f cdv A outer s H E) body t∧t { nx:=fun _ H'=>Q .non H',rt:=Q } (_L.xA N vs) H:=by
 refine⟨_,hb,P',α,yK N.length ds,S',r,lB rp,?_⟩
 unfold qQ at af
 cases q:g (yK N.length ds) S' with
 |rt d S1=>rw[q] at af;exact fun v H' P1 α1 r1 e1 e2 p1=>af v H' P1 α1 r1 e1 e2 p1
 |nx env S1=>rw[q] at af;exact fun σ' H' P1 α1 r1 re1 e1 e2=>af .non H' P1 α1 r1 e1 e2 (by simp only[Rep])
 |bk env S1=>rw[q] at af;exact False.elim af
 |ct env S1=>rw[q] at af;exact False.elim af
 |ex c x env S1=>rw[q] at af;exact fun u s' z=>bY (A:=A) rfl z fun H' P1 α1 r1 e1 e2=>af H' P1 α1 r1 e1 e2
 |bad=>rw[q] at af;exact False.elim af
theorem fnX {x qual:Str}{st:Stmt}{f:Addr}{fd:FuncData}{N ps:List Str}{k:Nat}{g:DS}(F:Fun K x qual st f fd)(S:FnScope N ps (qF st))
  (hbody:∀ (cdv:Value) (A:Around) (outer:List Env) (s:Shared) (H:Hp) (E:XK),fd.code=cdv∧Mod K mg base→RoomC cm k (A.deeper (envOfC qual (qF st) s.heap.objs.size f cdv)) →
   PSs (cxC cm P w K mg base N qual (qF st) f cdv A outer s H E) (zB st) (tDS (cxC cm P w K mg base N qual (qF st) f cdv A outer s H E) g)) :
  FnX P w K mg base cm (k+1) f fd ps (spD K ps.length (qQ N.length g)):=by
 refine XN F S (fun vs H Q E h=>h.1) fun cdv A outer s H vs Q E hc hr h=>?_
 obtain⟨hl,P',α,ds,S',r,rp,af⟩:=h
 exact bQ (hbody cdv A outer s H E hc hr) r rp af
end
section
variable {X:Cx}{cm:Bool}{k:Nat}{f:Addr}{fd:FuncData}{ps:List Str}{F:DF}{x:Str}{p pos:Pos}{e:Expr}{es:List Expr}{fa:DA}{n:Nat}
def qJ (n:Nat)(F:DF)(fa:DA):DE:=fun env S=>(fa env S).bind fun ds S1=>if ds.length=n then F ds S1 else .bad
def EX (X:Cx)(P:Hp)(α : List Addr)(R:Res D):XK:=fun c _ H'=>match R with
 |.ex c' _ S'=>c=c'∧∃ P' α',Rel X.K H' P' α' S'∧qG P P'∧α<+:α'
 |_=>False
theorem m7 {P:Hp}{α : List Addr}{R:Res D}{Q:VK}(af:qR X P α R Q):spR X.K P α R Q (EX X P α R):=by
 cases R with
 |ok d S'=>exact af
 |ex c x S'=>exact fun H' P' α' r' e1 e2=>⟨rfl,P',α',r',e1,e2⟩
 |bad=>exact af
theorem kG {pins:List (Addr × Obj)}{σ : _L.St}{H:Hp}{s:Shared}{Q:VK}{us:List Value}{P:Hp}{α : List Addr}{R:Res D}{u:Value}(hF:(∃ c x S',R=.ex c x S')→Fn1 X)(I:Inv X pins σ H s)(af:qR X P α R Q)
  (h:codeAny (model X.prog X.w) X.A (.call u ⟨us,[]⟩) (CR (CXd X.prog X.w) X.stack X.prog X.w H s Q (EX X P α R)) s):wpAny (model X.prog X.w) X.A (call u us) (EP X pins σ Q) X.xe s:=by
 refine wpAny_call (codeAny_mono h fun r s' hq=>?_)
 cases r with
 |error u =>
  have hq:CXd X.prog X.w X.stack H s (EX X P α R) u s':=hq
  cases R with
  |ok d S'=>obtain⟨_,_,_,_,_,_,_,_,_,_,_,_,q⟩:=hq;exact False.elim q
  |bad=>exact False.elim af
  |ex c' x' S' =>
   have hG:=hF ⟨_,_,_,rfl⟩
   obtain⟨a,c,H',rfl,I',fl,rfl,P',α',r',e1,e2⟩:=XM I hG hq
   exact af _ _ ⟨a,pins,σ,H',P',α',rfl,I',r',e1,e2,hG,fl⟩
 |ok fl =>
  cases fl with
  |ret u=>exact I.after hq
  |next=>exact False.elim hq
  |brk=>exact False.elim hq
  |cont=>exact False.elim hq
theorem tU {pins:List (Addr × Obj)}{σ : _L.St}{H:Hp}{s:Shared}{Q:VK}{us:List Value}{vs:List V}{P:Hp}{α : List Addr}{ds:List D}{S:Sto}(G:FnX X.prog X.w X.K X.mg X.base cm k f fd ps (spD X.K n F))(hr:RoomC cm k X.A)(hb:yF X.K fd ps [])(hF:Fn1 X)
  (I:Inv X pins σ H s) (r:Rel X.K H P α S) (rv:qL vs us) (rp:qE X.K P α ds vs) (hn:ds.length=n) (af:qR X P α (F ds S) Q):wpAny (model X.prog X.w) X.A (call (.ref f) us) (EP X pins σ Q) X.xe s:=by
 have hsp:spD X.K n F vs H Q (EX X P α (F ds S)):=⟨by rw[← rp.length];exact hn,P,α,ds,S,r,rp,m7 af⟩
 have hl:us.length=ps.length:=by rw[← rv.length];exact G.len _ _ _ _ hsp
 have hb':=hb s us I.kIn (by rw[List.append_nil];exact hl)
 rw[List.append_nil] at hb'
 exact kG (fun _=>hF) I af (G.run X.A X.stack s H ⟨us,[]⟩ us vs Q _ hr I.env0 hb' rv hsp)
theorem pR {env:qD}{S S1:Sto}{P:Hp}{α : List Addr}{ds:List D}{Ok:D→Sto→Prop}(h:qH X P α (if ds.length=n then F ds S1 else .bad) Ok):ds.length=n∧qH X P α (F ds S1) Ok:=by
 by_cases hn:ds.length=n
 ·rw[if_pos hn] at h;exact⟨hn,h⟩
 ·rw[if_neg hn] at h;exact False.elim h
theorem aU (G:FnX X.prog X.w X.K X.mg X.base cm k f fd ps (spD X.K n F))(hr:RoomC cm k X.A)(hF:Fn1 X)(hg:Gl X x)(hm:X.mg x=some (.ref f))(hk:PySem.W.keepIn X.K (.ref f)=true)(hb:yF X.K fd ps [])
  (ha:PA X (e::es) (tDA X fa)) (hdb:(x == ("__debug__" : Str))=false:=by decide) (he:starEach (e::es) X.env=(false,eval e X.env)::starEach es X.env:=by rfl) (hpl:(backTo pos (starEach es X.env)).any (·.1)=false:=by rfl) :
  PE X (.Call (.Name x p) (e::es) [] pos) (tD X (qJ n F fa)):=by
 intro pins s σ H Q I h
 obtain⟨P,α,env,S,r,re,af⟩:=h
 refine wpAny_Call_Name_kw (yT I hg hm ?_ hdb)
 refine PySem.W.callWith_K (h₀:=X.base) I.ok.mod.kin hk (thn (xO ha I r re af pos) fun us s1 ⟨vs,H1,P1,α1,ds,S1,I1,rv,r1,re1,rp,e1,e2,af1⟩=>⟨I1.kIn,?_⟩) he hpl
 obtain⟨hn,af2⟩:=pR (env:=env) (S:=S) af1
 exact tU G hr hb hF I1 r1 rv rp hn (qR.base e1 e2 af2)
end
end _D
end
section
namespace _D
open PySem PySem.Spec PyProof.Rows _L
abbrev bP:List Value:=[.type "ValueError",.type "Exception",.type "BaseException",.type "object"]
def U9:Value→Bool
 |.str _ _=>true
 |_=>false
def uG (K:PySem.W.Frag)(N:Addr):Bool:=(match List.lookup N K with
 |some o=>match o.data with
  |.dict es _=>es.toList.all fun e=>U9 e.key
  |_=>false
 |none=>false)&&decide (PySem.W.nsIn K N "__init__" = some none)
theorem wG {K:PySem.W.Frag}{N:Addr}(h:uG K N=true):PySem.W.nsOkIn K N=true∧PySem.W.nsIn K N "__init__" = some none:=by
 unfold uG at h
 rw[Bool.and_eq_true,decide_eq_true_eq] at h
 refine⟨?_,h.2⟩
 have h1:=h.1
 unfold PySem.W.nsOkIn
 cases e:List.lookup N K with
 |none=>rw[e] at h1;cases h1
 |some o =>
  rw[e] at h1
  obtain⟨oc,od,dt,sl⟩:=o
  cases dt with
  |dict es ep =>
   simp only at h1 ⊢
   rw[Array.all_toList] at h1
   refine Eq.trans (congrArg (fun f=>Array.all es f) (funext fun e=>?_)) h1
   cases e.key <;> rfl
  |_=>cases h1
def bF (K:PySem.W.Frag)(C:Addr)(f:Value→ClassData→Array (Option Value)→Bool):Bool:=match List.lookup C K with
 |some o=>(match o.data with|.cls cd=>f o.cls cd o.slots|_=>false)
 |none=>false
theorem fP {K:PySem.W.Frag}{C:Addr}{f:Value→ClassData→Array (Option Value)→Bool}(h:bF K C f=true):∃ oc od cd sl,List.lookup C K=some ⟨oc,od,.cls cd,sl⟩∧f oc cd sl=true:=by
 unfold bF at h
 cases e:List.lookup C K with
 |none=>rw[e] at h;exact Bool.noConfusion h
 |some o =>
  rw[e] at h
  obtain⟨oc,od,dt,sl⟩:=o
  cases dt with
  |cls cd=>exact⟨oc,od,cd,sl,rfl,h⟩
  |_=>exact Bool.noConfusion h
def kH (K:PySem.W.Frag)(C A:Addr):Bool:=bF K C fun oc cd sl=>bF K A fun _ ca _=>decide (oc=.type "type")&&(decide (cd.mro=.ref C::.ref A::bP)&&(!cd.hasDel&&(uG K cd.ns&&(uG K ca.ns&&(decide (sl.toList.length=6)&&decide (sl.toList[4]? = some (some (.builtin "ValueError.__new__"))))))))
inductive ExcO (h:Heap)(C:Addr):Prop
 |mk (nm q:Str) (N:Addr) (bs bm:List Value) (hdct:Bool) (sn:List Str) (sub:List Value) (ab:Bool) (col:Option Bool) (dd:Option Addr) (k0 k1 k2 k3 k5:Option Value) (mN:Str→Option Value) (hC:h.get? C=some (excClassObj nm q C N bs bm hdct sn sub ab col dd k0 k1 k2 k3 k5 "ValueError.__new__")) (hN:h.Ns N mN) (hni:mN "__init__" = none) (T:OwnTail h bP bm):ExcO h C
theorem pG {β : Type}{l:List β}{n:Nat}(h:l.length=n+1):∃ a t,l=a::t∧t.length=n:=by
 cases l with
 |nil=>exact Nat.noConfusion h
 |cons a t=>exact⟨a,t,rfl,Nat.succ.inj h⟩
theorem six {β : Type}{l:List β}(h:l.length=6):∃ a b c d e f,l=[a,b,c,d,e,f]:=by
 obtain⟨a,t,e1,h⟩:=pG h
 obtain⟨b,t2,e2,h⟩:=pG h
 obtain⟨c,t3,e3,h⟩:=pG h
 obtain⟨d,t4,e4,h⟩:=pG h
 obtain⟨e,t5,e5,h⟩:=pG h
 obtain⟨f,t6,e6,h⟩:=pG h
 exact⟨a,b,c,d,e,f,by rw[e1,e2,e3,e4,e5,e6,List.length_eq_zero_iff.mp h]⟩
theorem WK {C:Addr}{od:Option Addr}{cd:ClassData}{sl:Array (Option Value)}{tl:List Value}{k0 k1 k2 k3 k4 k5:Option Value}{n:String}(hm:cd.mro=.ref C::tl)(hd:cd.hasDel=false)(hs:sl.toList=[k0,k1,k2,k3,k4,k5])(hn:sl.toList[4]? = some (some (.builtin n))) :
  (⟨.type "type",od,.cls cd,sl⟩:Obj)=excClassObj cd.name cd.qualname C cd.ns cd.bases tl cd.hasDict cd.slotNames cd.subclasses cd.abstract cd.collection od k0 k1 k2 k3 k5 n:=by
 rw[hs] at hn
 cases hn
 cases cd
 cases sl
 cases hm
 cases hd
 cases hs
 rfl
theorem iH {K:PySem.W.Frag}{h:Heap}{C A:Addr}{od:Option Addr}{cd:ClassData}{sl:Array (Option Value)}(KI:K.In h)(e:List.lookup C K=some ⟨.type "type",od,.cls cd,sl⟩)(h2:cd.mro=.ref C::.ref A::bP)(h3:cd.hasDel=false)(h4:uG K cd.ns=true)(h6:sl.toList.length=6)(h7:sl.toList[4]? = some (some (.builtin "ValueError.__new__")))(T:OwnTail h bP (.ref A::bP)):ExcO h C:=by
 obtain⟨k0,k1,k2,k3,x,k5,es⟩:=six h6
 exact⟨_,_,_,_,_,_,_,_,_,_,_,k0,k1,k2,k3,k5,_,(KI _ _ e).trans (congrArg some (WK h2 h3 es h7)),.of_isNs (PySem.W.isNs_of_in KI (wG h4).1),PySem.W.nsMap_none_of_in KI (wG h4).1 (wG h4).2,T⟩
theorem iI {K:PySem.W.Frag}{h:Heap}{C A:Addr}(KI:K.In h)(z:kH K C A=true):ExcO h C:=by
 obtain⟨oc,od,cd,sl,e,z⟩:=fP z
 obtain⟨qc,qd,ca,ql,e2,z⟩:=fP z
 have a1:=Bool.and_eq_true_iff.mp z
 have a2:=Bool.and_eq_true_iff.mp a1.2
 have a3:=Bool.and_eq_true_iff.mp a2.2
 have a4:=Bool.and_eq_true_iff.mp a3.2
 have a5:=Bool.and_eq_true_iff.mp a4.2
 have a6:=Bool.and_eq_true_iff.mp a5.2
 rw[of_decide_eq_true a1.1] at e
 exact iH KI e (of_decide_eq_true a2.1) (Bool.not_eq_true' _▸a3.1) a4.1 (of_decide_eq_true a6.1) (of_decide_eq_true a6.2) (.own (KI _ _ e2) (.of_isNs (PySem.W.isNs_of_in KI (wG a5.1).1)) (PySem.W.nsMap_none_of_in KI (wG a5.1).1 (wG a5.1).2) .base)
section
variable {X:Cx}{pos:Pos}{fa:DA}
def jO (c:Value)(fa:DA):DS:=fun env S=>(fa env S).toS env fun ds S1=>if ds.length≤lim then .ex c .non env S1 else .bad
inductive GotAS (X:Cx)(pins:List (Addr × Obj))(σ : _L.St)(env:qD)(P:Hp)(α : List Addr)(us:List Value)(s1:Shared)(k:List D→Sto→Out)(E:Ends):Prop
 |mk (vs:List V) (H1 P1:Hp) (α1:List Addr) (ds:List D) (S1:Sto) (I:Inv X pins σ H1 s1) (rv:qL vs us) (r:Rel X.K H1 P1 α1 S1) (re:qS X.K P1 α1 σ env) (rp:qE X.K P1 α1 ds vs) (e1:qG P P1) (e2:α<+:α1) (q:qT X P1 α1 (k ds S1) E):GotAS X pins σ env P α us s1 k E
theorem mV {es:List Expr}{k:List D→Sto→Out}{pins:List (Addr × Obj)}{s:Shared}{σ : _L.St}{H P:Hp}{α : List Addr}{env:qD}{S:Sto}{D:Ends}(he:PA X es (tDA X fa))(I:Inv X pins σ H s)(r:Rel X.K H P α S)
  (re:qS X.K P α σ env) (af:qT X P α ((fa env S).toS env k) D) (pos:Pos) :
  wpAny (model X.prog X.w) X.A (spliced (backTo pos (starEach es X.env))) (fun us s1=>GotAS X pins σ env P α us s1 k D) X.xe s:=by
 have af1:qH X P α ((fa env S).bind fun d S=>.ok d S) fun d S=>qT X P α (k d S) D:=by
  have:=w6 af
  cases q:fa env S <;> rw[q] at this <;> exact this
 exact thn (xO he I r re af1 pos) fun u s1 ⟨vs,H1,P1,α1,ds,S1,I1,rv,r1,re1,rp,e1,e2,q⟩=>⟨vs,H1,P1,α1,ds,S1,I1,rv,r1,re1,rp,e1,e2,qT.base e1 e2 q⟩
theorem rM {x:Str}{C Ae:Addr}{e₀:Expr}{rest:List Expr}{np cpos:Pos}(hc:X.calm=true)(hF:Fn1 X)(hg:Gl X x)(hm:X.mg x=some (.ref C))(hx:kH X.K C Ae=true)(ha:PA X (e₀::rest) (tDA X fa))
  (hdb:(x == ("__debug__" : Str))=false:=by decide) (he:starEach (e₀::rest) X.env=(false,eval e₀ X.env)::starEach rest X.env:=by rfl) (hpl:(backTo cpos (starEach rest X.env)).any (·.1)=false:=by rfl) :
  PS X (.Raise (some (.Call (.Name x np) (e₀::rest) [] cpos)) none pos) (tDS X (jO (.ref C) fa)):=by
 intro pins s σ H D I h
 obtain⟨P,α,env,S,r,re,af⟩:=h
 obtain⟨nm,qn,N,bs,tl,hdct,sn,sub,ab,col,dd,k0,k1,k2,k3,k5,mN,hC,hN,hni,T⟩:=iI I.mod.kin hx
 refine wpAny_Raise_call_subT (C:=C) (nm:=nm) (q:=qn) (N:=N) (bs:=bs) (bm:=tl) (hdct:=hdct) (sn:=sn) (sub:=sub) (ab:=ab) (col:=col) (dd:=dd) (k0:=k0) (k1:=k1) (k2:=k2) (k3:=k3) (k5:=k5)
  PySem.F.excBase_ValueError (mN:=mN) (T.hasType PySem.F.excBase_ValueError.hasBase) (I.ok.hd hc) (by rw[he];show (false||(backTo cpos (starEach rest X.env)).any (·.1))=false;rw[hpl];rfl) hni (yT I hg hm ⟨rfl,?_⟩ hdb)
 have run:=mV ha I r re af cpos
 rw[he] at run ⊢
 refine Calls.evalArgs_plain (thn run fun us s2 ⟨vs,H1,P1,α1,ds,S1,I1,rv,r1,re1,rp,e1,e2,q⟩=>?_)
 have hl:us.length=ds.length:=by rw[rp.length,rv.length]
 by_cases hz:ds.length≤lim
 ·rw[if_pos hz] at q
  refine⟨rfl,by rw[hl,← zK];exact hz,I1.bk _ _ hC,hN.keeps I1.bk,T.keeps I1.bk,fun h' e hm=>q _ _ ⟨e,pins,σ,H1,P1,α1,rfl,I1.kept (t':=s2.toks) hm.keeps,r1,qG.refl _,List.prefix_refl _,hF,.new s2.heap us hm I1.stack fun b o eb old=>?_⟩⟩
  obtain⟨o1,q1⟩:=Old.there I1 hF old
  have q2:=hm.keeps b o1 q1
  rw[eb] at q2;cases q2
  exact q1
 ·rw[if_neg hz] at q;exact False.elim q
end
section
variable {X:Cx}{pins:List (Addr × Obj)}{σ : _L.St}{H:Hp}{s:Shared}
theorem nY {M:Model}{A:Around}{E:Value→Shared→Prop}{base h:Heap}{env:Env}{outer:List Env}{L e:Addr}{cls:Value}{args:List Value}{Q:Unit→Shared→Prop}
  (hfr:A.frames=some (env::outer)) (hf:env.frame=some L) (hkb:base.StaysIn h) (hl:h.FunFrames base (env::outer)) (hx:Heap.MadeExcOf h s.heap e cls args)
  (hQ:∀ h' a0,Heap.HeldW base (env::outer) e cls a0 L h'→s.heap.UpToSlots h'→Q () { s with heap:=h' }) : wpAny M A (noteFrame (.ref e) env) Q E s:=by
 obtain⟨t,he,htn,ht⟩:=hx.there
 have fresh:∀ b,h.get? b=none→base.get? b=none:=fun b hb=>by
  cases hq:base.get? b with
  |none=>rfl
  |some o'=>have z:=hkb b o' hq;rw[hb] at z;cases z
 unfold noteFrame
 simp only[hf]
 refine wpAny_bind (wpAny_field he rfl (x:=.none) rfl ?_)
 rw[if_neg (by decide)]
 refine wpAny_entryW hfr (hl.of_keeps fun b o hb _=>⟨o,hx.keeps b o hb,rfl⟩) hf he (fun b o hb=>hx.keeps b o (hkb b o hb)) (fresh e hx.new) rfl (by simp) (a0:=.ref t) rfl fun h' hN=>?_
 obtain⟨n1,n2,n3,n4⟩:=hN
 exact hQ h' (.ref t) ⟨n1,fresh e hx.new,n2,n3⟩ n4
theorem eG {M:Model}{A:Around}{E:Value→Shared→Prop}{c:Value}{e:Addr}{Q:Unit→Shared→Prop}(I:Inv X pins σ H s)(F:Fn1 X)(hA:A.frames=some X.stack)(f:FlyX X pins H c e s.heap)
  (hQ:∀ h' B a0,Heap.FlyingW B X.stack e c a0 h'→Inv X pins σ H { s with heap:=h' } → Cv X pins H B h'→Q () { s with heap:=h' }) :
  wpAny M A (noteFrame (.ref e) X.env) (fun _ s₂=>wpAny M A (setFlight (.ref e) none) Q E s₂) E s:=by
 have land:∀ (B:Heap) (a0:Value) (h1:Heap),Cv X pins H B s.heap→Heap.HeldW B X.stack e c a0 X.env.locals h1→s.heap.UpToSlots h1→wpAny M A (setFlight (.ref e) none) Q E { s with heap:=h1 }:=fun B a0 h1 cv hh up=>by
  refine wpAny_landsW (s:={ s with heap:=h1 }) hh fun h2 f2 u2=>?_
  obtain⟨I2,cv2⟩:=Inv.fly I F cv f2.1 (up.trans u2)
  exact hQ h2 B a0 f2 I2 cv2
 cases f with
 |new g args hm hf hk =>
  obtain⟨k1,k2,k3⟩:=dM I hm hf hk
  rw[F.2.1] at hA
  exact nY hA F.2.2 k1 (by rw[← F.2.1];exact k2) hm fun h' a0 x1 x2=>land _ a0 h' k3 (F.2.1▸x1) x2
 |fly B a0 fl cv =>
  rw[F.2.1] at hA
  exact wpAny_looks_onW hA F.2.2 (by rw[← F.2.1];exact fl) fun h' x1 x2=>land B a0 h' cv (by rw[F.2.1];exact x1) x2
theorem mZ {B:Heap}{c a0:Value}{e:Addr}(I:Inv X pins σ H s)(F:Fn1 X)(fl:Heap.FlyingW B X.stack e c a0 s.heap)(cv:Cv X pins H B s.heap):¬ Old X pins H e∧e ∉ frs X.stack∧∃ ob,s.heap.get? e=some ob∧ob.cls=c:=by
 obtain⟨oe,vs,he,hc,hd,_⟩:=fl.first
 have nf:e ∉ frs X.stack:=fun z=>by
  obtain⟨_,o,ho,hn⟩:=I.stack.mem z
  rw[he] at ho;cases ho
  exact hn vs hd
 refine⟨fun z=>?_,nf,oe,he,hc⟩
 have q:=cv e oe he z nf
 rw[fl.2.1] at q;cases q
theorem Inv.track {e:Addr}{c:Value}{ob:Obj}(I:Inv X pins σ H s)(F:Fn1 X)(no:¬ Old X pins H e)(nf:e ∉ frs X.stack)(he:s.heap.get? e=some ob)(hc:ob.cls=c):Inv X pins σ (upd H e (fC e c)) s:=by
 have hn:H e=none:=by
  cases q:H e with
  |none=>rfl
  |some u=>exact absurd (.inr (.inl (by rw[q];intro z;cases z))) no
 have nL:e≠X.env.locals:=fun z=>nf (F.mem.mpr (.inl z))
 have n0:∀ b o,X.s₀.heap.get? b=some o→b≠e:=fun b o q z=>no (.inl ⟨o,z▸q⟩)
 refine⟨I.ok,I.os,I.bare,⟨I.base.keep,I.base.slot,fun b o q n hx=>?_,I.base.there,fun b xs q=>?_,fun b o xs q=>?_,fun b ps q=>?_⟩,I.loc,I.cell,?_,fun x k q=>?_,fun p hp=>?_,fun b u q=>?_,I.len⟩
 ·rw[qI (n0 b o q)];exact I.base.free b o q n hx
 ·have z:=I.base.tups b xs q
  rw[qI (qO z hn)];exact z
 ·have z:=I.base.frzs b o xs q
  rw[qI (qO z hn)];exact z
 ·obtain⟨m,z⟩:=I.base.tbls b ps q
  exact⟨m,by rw[qI (qO z hn)];exact z⟩
 ·rw[qI (Ne.symm nL)];exact I.free
 ·have z:k≠e:=fun z=>no (.inr (.inr (.inr ⟨x,z▸q⟩)))
  rw[qI z];exact I.freeC x k q
 ·obtain⟨a1,a2,a3,a4,a5⟩:=I.pin p hp
  have z:p.1≠e:=fun z=>no (.inr (.inr (.inl ⟨p,hp,z⟩)))
  exact⟨a1,by rw[qI z];exact a2,a3,a4,a5⟩
 ·by_cases hb:b=e
  ·subst hb
   rw[qV] at q;cases q
   refine⟨⟨ob,he,hc⟩,⟨ob,he⟩,fun h1 h2 ⟨o,q1,q2⟩ k=>⟨o,k o q1,q2⟩⟩
  ·rw[qI hb] at q
   exact(I.hok b u q).stay (fun _ _ _ z=>z) (fun k z=>by rw[qI (qO z hn)];exact z) fun k xs z=>by rw[qI (qO z hn)];exact z
theorem Inv.gone {i t':Nat}{n:Str}{h':Heap}(I:Inv X pins σ H s)(hN:X.N.Nodup)(hi:X.N[i]? = some n){m:Str→Option Value}{v:Option Value}(hl:∀ (j:Nat) (y:Str) (w:V),X.N[j]? = some y→σ[j]? = some (some w)→Vis X.env.scope y→∃ u,qK w u∧QV X.env s.heap m y u)(hv:h'.Ns X.env.locals fun y=>if y=n then v else m y)(sb:Heap.SameBut X.env.locals s.heap h') :
  Inv X pins (σ.set i none) H { s with heap:=h',toks:=t' }:=by
 have neL:∀ b o,X.s₀.heap.get? b=some o→b≠X.env.locals:=fun b o e=>Nat.ne_of_lt (Nat.lt_of_lt_of_le (Heap.lt_size e) I.ok.above)
 have kp:∀ b o,b≠X.env.locals→s.heap.get? b=some o→h'.get? b=some o:=fun b o n e=>(sb.2 b n).trans e
 refine⟨I.ok,I.os,I.bare,⟨fun b o e n hb hx=>kp b o (neL b o e) (I.base.keep b o e n hb hx),fun b o e n hb hx=>?_,I.base.free,fun b o e hx=>?_,I.base.tups,I.base.frzs,I.base.tbls⟩,⟨_,hv,fun j y w e1 e2 e3=>?_⟩,fun x c e=>?_,I.free,I.freeC,fun p hp=>?_,fun b u q=>?_,by simpa using I.len⟩
 ·obtain⟨sl,q⟩:=I.base.slot b o e n hb hx
  exact⟨sl,kp b _ (neL b o e) q⟩
 ·obtain⟨o',q⟩:=I.base.there b o e hx
  exact⟨o',kp b o' (neL b o e) q⟩
 ·have hj:i≠j:=fun z=>by
   subst z
   by_cases hs:i<σ.length
   ·rw[List.getElem?_set_self hs] at e2;cases e2
   ·rw[List.getElem?_eq_none (by simp;omega)] at e2;cases e2
  rw[List.getElem?_set_ne hj] at e2
  obtain⟨u,r,l⟩:=hl j y w e1 e2 e3
  refine⟨u,r,?_⟩
  rcases l with⟨k,z⟩|⟨k,c,z,zc⟩
  ·refine .inl ⟨k,?_⟩
   have:y≠n:=fun z=>hj (kK hN hi (z▸e1))
   simp[this,z]
  ·exact .inr ⟨k,c,z,zc.sameBut sb (I.cne y c z)⟩
 ·obtain⟨w,z⟩:=I.cell x c e
  exact⟨w,z.sameBut sb (I.cne x c e)⟩
 ·obtain⟨e,n,ne,nf,d⟩:=I.pin p hp
  exact⟨kp p.1 p.2 ne e,n,ne,nf,d⟩
 ·refine(I.hok b u q).stay (fun c w hc z=>kp c w ?_ z) (fun _ z=>z) fun _ _ z=>z
  rintro rfl
  rcases hc with rfl|hc
  ·rw[I.free] at q;cases q
  ·rw[I.free] at hc;cases hc
theorem t8 {M:Model}{A:Around}{E:Value→Shared→Prop}{i:Nat}{n:Str}{pos:Pos}{Q:Unit→Shared→Prop}(I:Inv X pins σ H s)(hN:X.N.Nodup)(hi:X.N[i]? = some n)(hlo:X.env.scope.names.lookup n=some .local)
  (h:∀ s',Inv X pins (σ.set i none) H s'→Q () s'):wpAny M A (do bindName X.env n .none;unbindBehindTheSuite X.env n pos) Q E s:=by
 obtain⟨m,hm,hl⟩:=id I.loc
 exact wpAny_nameGoes_keeps hlo hm (by rw[I.ok.kind];rfl) fun h' v hv sb=>h _ (Inv.gone I hN hi hl hv sb)
end
end _D
end
section
namespace _D
open PySem PySem.Spec PyProof.Rows _L
abbrev Cx.tryIn (X:Cx)(E:Value→Shared→Prop)(pn:List (Addr × Obj)):Cx:={ X with xe:=E,pn:=pn }
abbrev Cx.suite (X:Cx)(e:Addr):Cx:=Cx.re X (X.A.mark (some (.ref e))) false fun _ _=>False
def kR (N i:Nat)(cs:List Value)(f g:DS):DS:=fun env S=>match f env S with
 |.ex c x env1 S1=>if cs.contains c then (match g ((List.replicate N none).set i (some (.exn c))) S1 with
   |.rt d S2=>.rt d S2
   |.nx env2 S2=>.nx (env2.set i none) S2
   |_=>.bad) else .bad
 |o=>o
section
variable {X:Cx}{pins:List (Addr × Obj)}{σ : _L.St}{H:Hp}{s:Shared}
theorem Inv.inTry (I:Inv X pins σ H s)(E:Value→Shared→Prop):Inv (Cx.tryIn X E (X.pn++pins)) [] σ H s:=
 ⟨⟨I.ok.mod,I.ok.kind,I.ok.glob,I.ok.blt,I.ok.above,I.ok.inj,I.ok.has,I.ok.cab,I.ok.hd,I.ok.frames,I.ok.stk,I.ok.exf,I.ok.bs,I.ok.bsz,I.ok.noex,I.ok.exfs,I.ok.funs,I.ok.frf⟩,I.os,I.bare,I.base,I.loc,I.cell,I.free,I.freeC,fun p hp=>I.pin p (by simpa using hp),I.hok,I.len⟩
theorem Inv.outTry {E:Value→Shared→Prop}{more:List (Addr × Obj)}(I:Inv (Cx.tryIn X E (X.pn++pins)) more σ H s):Inv X pins σ H s:=
 ⟨⟨I.ok.mod,I.ok.kind,I.ok.glob,I.ok.blt,I.ok.above,I.ok.inj,I.ok.has,I.ok.cab,I.ok.hd,I.ok.frames,I.ok.stk,I.ok.exf,I.ok.bs,I.ok.bsz,I.ok.noex,I.ok.exfs,I.ok.funs,I.ok.frf⟩,I.os,I.bare,I.base,I.loc,I.cell,I.free,I.freeC,fun p hp=>I.pin p (List.mem_append_left _ hp),I.hok,I.len⟩
theorem SP.outTry {E:Value→Shared→Prop}{D:Ends}{f:Flow}{s':Shared}(h:SP (Cx.tryIn X E (X.pn++pins)) [] D f s'):SP X pins D f s':=by
 cases f with
 |next=>obtain⟨σ',H',I,q⟩:=h;exact⟨σ',H',Inv.outTry I,q⟩
 |brk=>obtain⟨σ',H',I,q⟩:=h;exact⟨σ',H',Inv.outTry I,q⟩
 |cont=>obtain⟨σ',H',I,q⟩:=h;exact⟨σ',H',Inv.outTry I,q⟩
 |ret u=>obtain⟨v,σ',H',I,r,q⟩:=h;exact⟨v,σ',H',Inv.outTry I,r,q⟩
theorem FlyX.outTry {E:Value→Shared→Prop}{more:List (Addr × Obj)}{c:Value}{e:Addr}{h:Heap}(f:FlyX (Cx.tryIn X E (X.pn++pins)) more H c e h):FlyX X pins H c e h:=by
 have old:∀ b,Old X pins H b→Old (Cx.tryIn X E (X.pn++pins)) more H b:=fun b o=>by
  rcases o with o|o|⟨p,hp,z⟩|o
  ·exact .inl o
  ·exact .inr (.inl o)
  ·exact .inr (.inr (.inl ⟨p,List.mem_append_left _ hp,z⟩))
  ·exact .inr (.inr (.inr o))
 cases f with
 |new g args hm hf hk=>exact .new g args hm hf fun b o e q=>hk b o e (old b q)
 |fly B a0 fl cv=>exact .fly B a0 fl fun b o e q n=>cv b o e (old b q) n
theorem sM {K:PySem.W.Frag}{P:Hp}{α : List Addr}{σ : _L.St}{n:Nat}(h:σ.length=n):qS K P α σ (List.replicate n none):=by
 refine⟨by simp[h],fun i d e=>?_⟩
 rw[List.getElem?_replicate] at e
 split at e <;> cases e
theorem qS.unset {K:PySem.W.Frag}{P:Hp}{α : List Addr}{σ : _L.St}{env:qD}(re:qS K P α σ env)(i:Nat):qS K P α (σ.set i none) (env.set i none):=by
 refine⟨by simp[re.1],fun j d e=>?_⟩
 by_cases hj:i=j
 ·subst hj
  by_cases hi:i<env.length
  ·rw[List.getElem?_set_self hi] at e;cases e
  ·rw[List.getElem?_eq_none (by simp;omega)] at e;cases e
 ·rw[List.getElem?_set_ne hj] at e ⊢
  exact re.2 j d e
end
section
variable {X:Cx}{pos:Pos}{f g:DS}
theorem XR {pins:List (Addr × Obj)}{D:Ends}{c:Value}{e C0:Addr}{s':Shared}{σ : _L.St}{H P:Hp}{α : List Addr}{S1:Sto}{x n:Str}{i:Nat}{b₀:Stmt}{suite:List Stmt}{np hpos:Pos}{cs:List Value}
  (F:Fn1 X) (hg:Gl X x) (hm:X.mg x=some (.ref C0)) (hcs:∀ c∈cs,PySem.W.exmOne X.K c (.ref C0)=some true) (hN:X.N.Nodup) (hi:X.N[i]? = some n) (hlo:X.env.scope.names.lookup n=some .local)
  (hs:∀ e,PSs (Cx.suite X e) (b₀::suite) (tDS (Cx.suite X e) g)) (hc:cs.contains c=true) (I:Inv X pins σ H s') (r:Rel X.K H P α S1) (fl:FlyX X pins H c e s'.heap)
  (af:qT X P α (match g ((List.replicate X.N.length none).set i (some (.exn c))) S1 with|.rt d S2=>.rt d S2|.nx env2 S2=>.nx (env2.set i none) S2|_=>.bad) D) (hdb:(x == ("__debug__" : Str))=false) :
  wpAny (model X.prog X.w) X.A (noteFrame (.ref e) X.env) (fun _ s₂=>wpAny (model X.prog X.w) X.A (setFlight (.ref e) none) (fun _ s₃ =>
   wpAny (model X.prog X.w) X.A (handleBy (.ref e) X.env [.ExceptHandler (some (.Name x np)) (some n) (b₀::suite) hpos]) (SP X pins D) X.xe s₃) X.xe s₂) X.xe s':=by
 have hcs':PySem.W.exmOne X.K c (.ref C0)=some true:=hcs c (by simpa using hc)
 have Z:∀ {σ : _L.St} {H:Hp} {s:Shared},Inv X pins σ H s→Inv (Cx.suite X e) pins σ H s:=fun I=>Inv.re I _ false _ I.ok.frames fun z=>nomatch z
 refine eG I F I.ok.frames fl fun h5 B a0 f5 I5 cv5=>?_
 refine wpAny_handleBy_cons (codeAny_handlers_test (A:=X.A.mark (some (.ref e))) (yT (X:=Cx.suite X e) (Z I5) hg hm ?_ hdb)) (by intro q;cases q)
 obtain⟨no5,nf5,ob5,he5,hc5⟩:=mZ I5 F f5 cv5
 refine(PySem.W.exm_one I5.kIn (by subst hc5;exact(PySem.W.Looks.ld he5).andThen .now) hcs').at ?_
 refine codeAny_handlers_suite_as ?_
 refine lands_againW (s:={ s' with heap:=h5 }) f5 fun h6 f6 u6=>?_
 obtain⟨I6,cv6⟩:=Inv.fly I5 F cv5 f6.1 u6
 obtain⟨no6,nf6,ob6,he6,hc6⟩:=mZ I6 F f6 cv6
 have J6:Inv X pins σ (upd H e (fC e c)) { s' with heap:=h6 }:=Inv.track I6 F no6 nf6 he6 hc6
 have hn:H e=none:=by
  cases q:H e with
  |none=>rfl
  |some u=>exact absurd (.inr (.inl (by rw[q];intro z;cases z))) no6
 obtain⟨r1,sP⟩:=r.pure (o:=fC e c) hn
 refine w5 (X:=Cx.suite X e) (v:=.ref e) (Z J6) hN hi (.inl hlo) rfl (fun s7 I7=>?_) (.inr hlo)
 have re7:qS X.K (upd P e (fC e c)) α (σ.set i (some (.ref e))) ((List.replicate X.N.length none).set i (some (.exn c))):=(sM I.len).set i (by simp only[Rep];exact⟨e,rfl,qV⟩)
 refine wpAny_mono (hs e pins s7 _ _ { nx:=fun σ' H'=>D.nx (σ'.set i none) H',rt:=D.rt } I7 ⟨_,α,_,S1,r1,re7,?_⟩) (fun fl s8 q=>?_) fun _ _ z=>False.elim z
 ·cases q:g ((List.replicate X.N.length none).set i (some (.exn c))) S1 with
  |rt d S2=>rw[q] at af;exact fun v H' P' α' r' e1 e2 rp=>af v H' P' α' r' (sP.trans e1) e2 rp
  |nx env2 S2=>rw[q] at af;exact fun σ' H' P' α' r' re' e1 e2=>af _ H' P' α' r' (qS.unset re' i) (sP.trans e1) e2
  |bk env2 S2=>rw[q] at af;exact False.elim af
  |ct env2 S2=>rw[q] at af;exact False.elim af
  |ex c' x' env2 S2=>rw[q] at af;exact False.elim af
  |bad=>rw[q] at af;exact False.elim af
 ·cases fl with
  |next =>
   obtain⟨σ',H',I8,q⟩:=q
   exact t8 (Inv.unre I8 I.ok.frames I.ok.hd) hN hi hlo fun s9 I9=>⟨_,H',I9,q⟩
  |brk =>
   obtain⟨_,_,_,q⟩:=q
   exact False.elim q
  |cont =>
   obtain⟨_,_,_,q⟩:=q
   exact False.elim q
  |ret u =>
   obtain⟨v,σ',H',I8,rv,q⟩:=q
   exact t8 (Inv.unre I8 I.ok.frames I.ok.hd) hN hi hlo fun s9 I9=>⟨v,_,H',I9,rv,q⟩
set_option tactic.hygienic true in
theorem XB {x n:Str}{C0:Addr}{i:Nat}{body:List Stmt}{b₀:Stmt}{suite:List Stmt}{np hpos:Pos}{cs:List Value}(F:Fn1 X)(hb:∀ E pn,PassesOwn (model X.prog X.w) X.A X.env E→PSs (Cx.tryIn X E pn) body (tDS (Cx.tryIn X E pn) f))
  (hs:∀ e,PSs (Cx.suite X e) (b₀::suite) (tDS (Cx.suite X e) g)) (hg:Gl X x) (hm:X.mg x=some (.ref C0)) (hcs:∀ c∈cs,PySem.W.exmOne X.K c (.ref C0)=some true) (hN:X.N.Nodup) (hi:X.N[i]? = some n:=by rfl) (hlo:X.env.scope.names.lookup n=some .local:=by rfl)
  (hdb:(x == ("__debug__" : Str))=false:=by decide):PS X (.Try body [.ExceptHandler (some (.Name x np)) (some n) (b₀::suite) hpos] [] [] pos) (tDS X (kR X.N.length i cs f g)):=by
 intro pins s σ H D I h
 obtain⟨P,α,env,S,r,re,af⟩:=h
 refine wpAny_Try_except ?_
 refine wpAny_mono (hb _ (X.pn++pins) (PassesOwn.looking (K:=fun e s₂=>wpAny (model X.prog X.w) X.A (setFlight e none) (fun _ s₃=>wpAny (model X.prog X.w) X.A (handleBy e X.env [.ExceptHandler (some (.Name x np)) (some n) (b₀::suite) hpos]) (SP X pins D) X.xe s₃) X.xe s₂) (E₁:=X.xe))
  [] s σ H D (Inv.inTry I _) ⟨P,α,env,S,r,re,?_⟩) (fun fl s1 q=>?_) fun _ _ z=>z
 ·unfold kR at af
  cases q:f env S with
  |rt d S2=>rw[q] at af;exact af
  |nx env2 S2=>rw[q] at af;exact af
  |bk env2 S2=>rw[q] at af;exact af
  |ct env2 S2=>rw[q] at af;exact af
  |bad=>rw[q] at af;exact af
  |ex c x' env2 S2 =>
   rw[q] at af
   dsimp only at af
   intro u s' k
   obtain⟨e,pins',σ',H',P',α',rfl,I',r',e1,e2,F',fl⟩:=k
   split at af
   ·rename_i hc
    exact XR F hg hm hcs hN hi hlo hs hc (Inv.outTry I') r' (FlyX.outTry fl) (qT.base e1 e2 af) hdb
   ·exact False.elim af
 ·have q':=SP.outTry q
  cases fl with
  |next=>exact wpAny_execs_nil q'
  |brk=>exact q'
  |cont=>exact q'
  |ret u=>exact q'
end
end _D
end
section
namespace _D
open PySem PySem.Spec PyProof.Rows _L PySem.W
structure ExnK (K:PySem.W.Frag)(C:Addr):Prop where
 ga:findIn K (.ref C) "__getattribute__" = some (some (.builtin "BaseException.__getattribute__"))
 hk:findIn K (.ref C) "__getattr__" = some none
 cl:findIn K (.ref C) "__class__" = some (some (.builtin "object.__class__"))
 sp:specialIn K (.builtin "object.__class__") "__get__" = some (some (.builtin "getset_descriptor.__get__"))
 tk:takesIn K (.builtin "object.__class__")=some true
 mo:mroIn K C (.type "object")=some true
 mb:mroIn K C (.type "BaseException")=some true
 isC:(clsIn K C).isSome=true
section
variable {prog:Program}{w:World}{A:Around}{E:Value→Shared→Prop}{s:Shared}{K:PySem.W.Frag}{x C:Addr}
abbrev yG (x C:Addr)(h:Heap):Prop:=∃ ob,h.get? x=some ob∧ob.cls=.ref C
theorem yG.type {M:Model}{h:Heap}(I:yG x C h):Looks M h (typeOf (.ref x)) (.ref C):=by
 obtain⟨ob,e,c⟩:=I
 rw[← c]
 exact(Looks.ld e).andThen .now
theorem rQ {M:Model}{h:Heap}(X:K.In h)(Z:ExnK K C):Looks M h (Builtin.ObjectAttr.find (.ref x) (.ref C) "__class__") (.bind (.builtin "getset_descriptor.__get__") (.builtin "object.__class__")):=by
 have l1:=looks_findIn (M:=M) X Z.cl
 have l2:Looks M h (Builtin.ObjectAttr.getOf (some (.builtin "object.__class__"))) (some (.builtin "getset_descriptor.__get__")):=looks_specialIn X Z.sp
 have l3:=looks_takesIn (M:=M) X Z.tk
 have l4:Looks M h (Builtin.ObjectAttr.dataDescriptor? (some (.builtin "object.__class__")) (some (.builtin "getset_descriptor.__get__"))) (some (.builtin "getset_descriptor.__get__",.builtin "object.__class__")):=l3.andThen .now
 exact l1.andThen (l2.andThen (l4.andThen (Looks.tag .now)))
theorem iJ {R:Result→Shared→Prop}{tp:Value}(X:K.In s.heap)(Z:ExnK K C)(I:yG x C s.heap)(h:R (.ok (.ret (.ref C))) s) :
  codeAny (model prog w) A (.call (.builtin "getset_descriptor.__get__") ⟨[.builtin "object.__class__",.ref x,tp],[]⟩) R s:=by
 have LT:=yG.type (M:=model prog w) I
 have LM:=looks_mroIn (M:=model prog w) X Z.mo
 cases s
 refine codeAny_call_builtin KF.slot_gs.plain KF.entry_gs (KF.slot_gs.check _ _ _ _ _ _ _ _ KF.type_class (KF.args_gs _ _ _) ?_)
 unfold Builtin.«getset_descriptor.__get__» Builtin.Getset_descriptor.descrGet
 rw[dga_obj]
 refine wpAny_bind (wpAny_pure ?_)
 unfold Builtin.Getset_descriptor.descrGetter Builtin.Getset_descriptor.descrCheckInstance Builtin.Getset_descriptor.descrNameAndClass isInstance
 simp only[KF.owner_class]
 repeat lk
 refine⟨Code.quiet_builtin _ (by decide +kernel),codeAny_builtin KF.entry_class ?_⟩
 unfold Builtin.«object.__class__» shownTypeOf
 repeat lk
 exact h
theorem XI {tk:Tok}{R:Result→Shared→Prop}(X:K.In s.heap)(Z:ExnK K C)(I:yG x C s.heap)(h:R (.ok (.ret (.ref C))) s) :
  codeAny (model prog w) A (.call (.builtin "BaseException.__getattribute__") ⟨[.ref x,.str "__class__" tk],[]⟩) R s:=by
 have LT:=yG.type (M:=model prog w) I
 have LM:=looks_mroIn (M:=model prog w) X Z.mb
 have LF:=rQ (M:=model prog w) (x:=x) X Z
 have hk:builtinKind "BaseException.__getattribute__" = some .slot:=by decide +kernel
 have hsp:splitId "BaseException.__getattribute__" = some ("BaseException","__getattribute__"):=by decide +kernel
 have chk:∀ (A:Around) (Q:Unit→Shared→Prop) (E:Value→Shared→Prop),Q () s→wpAny (model prog w) A (checkBuiltinCall "BaseException.__getattribute__" ⟨[.ref x,.str "__class__" tk],[]⟩) Q E s:=by
  intro A Q E hq
  have ha:=PySem.F.args_bexc_ga (.ref x) (.str "__class__" tk)
  simp only[checkBuiltinCall,hk,hsp]
  unfold isInstance
  refine wpAny_bind (wpAny_bind (LT.here (LM.here ?_)))
  repeat (any_goals (first|assumption|wp_step))
 refine codeAny_call_builtin PySem.F.attr_ValueError.ga.plain PySem.F.entry_bexc_ga (chk _ _ _ ?_)
 cases s
 unfold Builtin.«object.__getattribute__»
 refine wpAny_bind (wpAny_of_eq (show slotArgs "__getattribute__" 1 ⟨[.ref x,.str "__class__" tk],[]⟩=pure (.ref x,[.str "__class__" tk]) from by kernel_rfl) ?_)
 refine wpAny_bind (wpAny_pure (wpAny_bind (LT.at (wpAny_bind (LF.at ?_)))))
 show wpAny _ _ (Builtin.ObjectAttr.bindTo _ _ _ _) _ _ _
 unfold Builtin.ObjectAttr.bindTo
 dsimp only
 exact wpAny_bind (wpAny_holding (wpAny_call (iJ X Z I (wpAny_pure h))))
theorem lV {Q:Option Value→Shared→Prop}(X:K.In s.heap)(Z:ExnK K C)(I:yG x C s.heap)(h:Q (some (.ref C)) { s with toks:=s.toks+1 }) : wpAny (model prog w) A (getAttr? (.ref x) "__class__") Q E s:=by
 have LT:=yG.type (M:=model prog w) I
 have L1:=looks_findIn (M:=model prog w) X Z.ga
 have lk2:=looks_findIn (M:=model prog w) X Z.hk
 unfold getAttr? getAttrBy? getAttrBy
 cases s
 refine wpAny_bind (wpAny_mkText (wpAny_bind (wpAny_attempt (wpAny_holding (wpAny_bind (LT.at (wpAny_bind (L1.at ?_))))))))
 dsimp only
 have hx2:(Value.builtin "BaseException.__getattribute__" == Value.builtin "object.__getattribute__")=false:=by decide +kernel
 rw[hx2,Bool.and_false,if_neg Bool.false_ne_true]
 unfold getAttrByItsOwn hookBefore
 rw[if_pos (show onTheHeap (.ref C)=true from rfl)]
 refine wpAny_bind (lk2.at (wpAny_bind (wpAny_attempt (wpAny_holding ?_))))
 unfold callGetattribute
 rw[Bool.false_and,if_neg Bool.false_ne_true]
 unfold boundAndCalled
 refine wpAny_bind (wpAny_of_eq (PySem.F.attr_ValueError.ga.bind (.ref x)) ?_)
 refine wpAny_call (XI X Z I ?_)
 show wpAny _ _ (handedOut (.ref C)) _ _ _
 exact wpAny_pure (wpAny_pure h)
set_option tactic.hygienic true in
theorem fJ (Z:ExnK K C):KitX K (.ref x) (.ref C) (yG x C) where
 ty:=fun _ _ _ I=>I.type
 it:=fun M h X _=>by
  have z:=Z.isC
  unfold clsIn at z
  split at z
  ·rename_i ho
   intro A' Q' E' s' k q
   unfold isType loadHead
   exact wpAny_bind (wpAny_loadPart (k _ _ (X _ _ ho)) (wpAny_pure q))
  ·cases z
 ne:=fun h tp dd its n sl X htp=>by
  have z:=Z.isC
  unfold clsIn at z
  split at z
  ·rename_i ho
   cases hq:(Value.ref C == Value.ref tp) with
   |false=>rfl
   |true =>
    obtain rfl:C=tp:=Value.ref.inj (beq_iff_eq.mp hq)
    have y:=(X _ _ ho).symm.trans htp
    cases y
  ·cases z
 ca:=fun X I k=>lV X Z I k
end
end _D
end
section
namespace _D
open PySem PySem.Spec PyProof.Rows _L
theorem kT {α : Type}{t:Sem α}{Q Q':α→Shared→Prop}{M:Model}{A:Around}{E:Value→Shared→Prop}{s:Shared}(h:wpAny M A t Q (fun _ _=>False) s)(hQ:∀ a s,Q a s→Q' a s):wpAny M A t Q' E s:=wpAny_mono h hQ fun _ _ x=>x.elim
def uH (ifs:List Expr)(env:Env):Sem Bool:=forIn ifs true fun c r=>if r=true then do let ok ← PySem.isTrue c env (eval c env);pure (ForInStep.yield ok) else pure (ForInStep.yield r)
def PTs (X:Cx)(ifs:List Expr)(t:DT):Prop:=
 ∀ (pins:List (Addr × Obj)) (s:Shared) (σ : _L.St) (H:Hp) (Q:Bool→Hp→Prop),Inv X pins σ H s→tDT X t σ H Q→wpAny (model X.prog X.w) X.A (uH ifs X.env) (TP X pins σ Q) X.xe s
def uM:DT:=fun _ S=>.ok true S
section
variable {X:Cx}
theorem iE:PTs X [] uM:=fun pins s σ H Q I ⟨P,α,env,S,r,re,af⟩=>by
 unfold uH
 rw[List.forIn_nil]
 exact wpAny_pure ⟨H,I,af H P α r (qG.refl _) (List.prefix_refl _)⟩
theorem KU {e:Expr}{f:DE}{pins:List (Addr × Obj)}{s:Shared}{σ : _L.St}{H P:Hp}{α : List Addr}{env:qD}{S:Sto}{d:D}{S1:Sto}(he:PE X e (tD X f))(I:Inv X pins σ H s)(r:Rel X.K H P α S)(re:qS X.K P α σ env)(q:f env S=.ok d S1) :
  wpAny (model X.prog X.w) X.A (eval e X.env) (fun u s1=>∃ v H1 P1 α1,Got X pins σ env P α u s1 v H1 P1 α1 d S1) X.xe s:=by
 refine thn (zT (g:=fun d S=>Res.ok d S) (Ok:=fun d' S'=>d'=d∧S'=S1) he I r re (by rw[q];exact⟨rfl,rfl⟩)) fun u s1 ⟨v,H1,P1,α1,d',S',G,h1,h2⟩=>?_
 have e1:d'=d:=h1
 have e2:S'=S1:=h2
 subst e1;subst e2
 exact⟨v,H1,P1,α1,G⟩
theorem UY {ifs:List Expr}{t:DT}{pins:List (Addr × Obj)}{s:Shared}{σ : _L.St}{H P:Hp}{α : List Addr}{env:qD}{S:Sto}{b:Bool}{S1:Sto}(he:PTs X ifs t)(I:Inv X pins σ H s)(r:Rel X.K H P α S)(re:qS X.K P α σ env)(q:t env S=.ok b S1) :
  wpAny (model X.prog X.w) X.A (uH ifs X.env) (fun b' s1=>b'=b∧∃ H1 P1 α1,Inv X pins σ H1 s1∧Rel X.K H1 P1 α1 S1∧qS X.K P1 α1 σ env∧qG P P1∧α<+:α1) X.xe s:=by
 refine thn (he pins s σ H (fun b' H1=>b'=b∧∃ P1 α1,Rel X.K H1 P1 α1 S1∧qS X.K P1 α1 σ env∧qG P P1∧α<+:α1) I ⟨P,α,env,S,r,re,?_⟩) fun b' s1 ⟨H1,I1,e,P1,α1,q1,q2,q3,q4⟩=>⟨e,H1,P1,α1,I1,q1,q2,q3,q4⟩
 rw[q]
 exact fun H' P' α' r' e1 e2=>⟨rfl,P',α',r',re.mono e1 e2,e1,e2⟩
theorem KW {tg:Expr}{g:DG}{pins:List (Addr × Obj)}{s:Shared}{σ : _L.St}{H P:Hp}{α : List Addr}{env env1:qD}{S:Sto}{d:D}{v:V}{u:Value}{S1:Sto}(hg:PG X tg (tDG X g))(I:Inv X pins σ H s)(r:Rel X.K H P α S)(re:qS X.K P α σ env)(rv:qK v u)
  (rp:Rep X.K P α d v) (q:g d env S=.ok env1 S1) :
  wpAny (model X.prog X.w) X.A (assign tg X.env u) (fun _ s1=>∃ σ1 H1 P1 α1,Inv X pins σ1 H1 s1∧Rel X.K H1 P1 α1 S1∧qS X.K P1 α1 σ1 env1∧qG P P1∧α<+:α1) X.xe s:=by
 refine thn (hg pins s σ H v u (fun σ1 H1=>∃ P1 α1,Rel X.K H1 P1 α1 S1∧qS X.K P1 α1 σ1 env1∧qG P P1∧α<+:α1) I rv ⟨P,α,env,S,d,r,re,rp,?_⟩) fun _ s1 ⟨σ1,H1,I1,P1,α1,q1,q2,q3,q4⟩=>⟨σ1,H1,P1,α1,I1,q1,q2,q3,q4⟩
 rw[q]
 exact fun σ' H' P' α' r' re' e1 e2=>⟨P',α',r',re',e1,e2⟩
def gR (K:PySem.W.Frag)(P:Hp)(α : List Addr)(ds:List D)(o:Obj):Prop:=∃ (its:List Value) (n:Nat) (vs:List V),o={ cls:=.type "list",data:=.seq its.toArray n } ∧ qL vs its∧qE K P α ds vs∧ds.length≤lim
theorem gR.mono {K:PySem.W.Frag}{P P1:Hp}{α α1:List Addr}{ds:List D}{o:Obj}(e:qG P P1)(h:α<+:α1)(a:gR K P α ds o):gR K P1 α1 ds o:=by
 obtain⟨its,n,vs,q1,q2,q3,q4⟩:=a
 exact⟨its,n,vs,q1,q2,qE.mono e h _ _ q3,q4⟩
theorem gR.cell {K:PySem.W.Frag}{P:Hp}{α : List Addr}{ds:List D}{o:Obj}(a:gR K P α ds o):∀ v,o.data≠.cell v:=by
 obtain⟨its,n,vs,rfl,_⟩:=a
 intro v z;cases z
theorem Inv.pin1 {pins:List (Addr × Obj)}{σ : _L.St}{H:Hp}{s:Shared}{a:Addr}{o:Obj}(I:Inv X pins σ H s)(f:zV X pins H a)(e:s.heap.get? a=some o)(d:∀ v,o.data≠.cell v):Inv X (pins++[(a,o)]) σ H s:=
 I.pins_of fun p hp=>(List.mem_append.mp hp).elim (fun z=>I.pin p (List.mem_append_right _ z)) fun z=>by
  have e':p=(a,o):=by simpa using z
  subst e'
  exact⟨e,f.1,f.2.1,f.2.2.1,d⟩
theorem Inv.pinned1 {pins:List (Addr × Obj)}{σ : _L.St}{H:Hp}{s:Shared}{a:Addr}{o:Obj}(I:Inv X (pins++[(a,o)]) σ H s):s.heap.get? a=some o∧H a=none:=by
 have:=I.pin (a,o) (List.mem_append_right _ (List.mem_append_right _ (by simp)))
 exact⟨this.1,this.2.1⟩
end
end _D
end
section
namespace _D
open PySem PySem.Spec PyProof.Rows _L
structure TurnSt (Y:Cx)(pins:List (Addr × Obj))(P1:Hp)(α1:List Addr)(fp:List Addr)(acc:Addr)(env:qD)(S:Sto)(ds:List D)(s:Shared)(σ : _L.St)(H P:Hp)(α : List Addr)(o:Obj):Prop where
 inv:Inv Y pins σ H s
 rel:Rel Y.K H P α S
 env:qS Y.K P α σ env
 same:qG P1 P
 pre:α1<+:α
 fpn:∀ b∈fp,H b=none
 acn:H acc=none
 at':s.heap.get? acc=some o
 acc:gR Y.K P α ds o
end _D
end
section
namespace _D
open PySem PySem.Spec PyProof.Rows _L
def xU (cells:List (Str × Addr)):List (Str × NameKind)→List (Str × Addr)→List (Str × Addr)
 |[],cs=>cs
 |(n,k)::r,cs=>xU cells r (if k == .free then (n,(cells.lookup n).getD 0)::cs else cs)
theorem uZ {env:Env}{scope:Scope}(h:∀ y∈scope.names,y.2=.free→∃ c,env.cells.lookup y.1=some c):closureFor scope env=pure (xU env.cells scope.names []):=by
 have go:∀ (l:List (Str × NameKind)) (cs:List (Str × Addr)),(∀ y∈l,y.2=.free→∃ c,env.cells.lookup y.1=some c) →
   (forIn l cs fun x cs=>match x with|(name,kind)=>if (kind == NameKind.free)=true then do let a ← cellOf env name;pure (ForInStep.yield ((name,a)::cs)) else pure (ForInStep.yield cs):Sem (List (Str × Addr)))=pure (xU env.cells l cs):=by
  intro l
  induction l with
  |nil=>intro cs _;rfl
  |cons y r ih =>
   intro cs hl
   obtain⟨n,k⟩:=y
   rw[List.forIn_cons]
   by_cases hk:k=.free
   ·subst hk
    obtain⟨c,hc⟩:=hl (n,.free) List.mem_cons_self rfl
    have hc':env.cells.lookup n=some c:=hc
    have e:cellOf env n=pure c:=by unfold cellOf;rw[hc']
    simp only[beq_self_eq_true,if_true,e,pure_bind]
    rw[ih _ fun z hz=>hl z (List.mem_cons_of_mem _ hz)]
    simp only[xU,beq_self_eq_true,if_true,hc',Option.getD_some]
   ·have hb:(k == NameKind.free)=false:=by simpa using hk
    simp only[hb,Bool.false_eq_true,if_false,pure_bind]
    rw[ih _ fun z hz=>hl z (List.mem_cons_of_mem _ hz)]
    simp only[xU,hb,Bool.false_eq_true,if_false]
 unfold closureFor
 have:=go scope.names [] h
 simp only[bind_pure]
 exact this
theorem vU {cells:List (Str × Addr)}{x:Str}{c:Addr}:∀ (l:List (Str × NameKind)) (cs:List (Str × Addr)),(xU cells l cs).lookup x=some c→cs.lookup x=some c∨((x,NameKind.free)∈l∧c=(cells.lookup x).getD 0)
 |[],cs,h=>.inl h
 |(n,k)::r,cs,h=>by
  rcases vU r _ h with h|⟨h1,h2⟩
  ·by_cases hk:k=.free
   ·subst hk
    simp only[beq_self_eq_true,if_true,List.lookup_cons] at h
    cases hb:x == n with
    |true =>
     rw[hb] at h
     have e:x=n:=by simpa using hb
     subst e
     exact .inr ⟨List.mem_cons_self,(Option.some.inj h).symm⟩
    |false=>rw[hb] at h;exact .inl h
   ·have hb:(k == NameKind.free)=false:=by simpa using hk
    simp only[hb,Bool.false_eq_true,if_false] at h
    exact .inl h
  ·exact .inr ⟨List.mem_cons_of_mem _ h1,h2⟩
theorem vK {cells:List (Str × Addr)}{x:Str}:∀ (l:List (Str × NameKind)) (cs:List (Str × Addr)),((x,NameKind.free)∈l∨∃ c,cs.lookup x=some c)→∃ c,(xU cells l cs).lookup x=some c
 |[],cs,h=>by
  rcases h with h|h
  ·cases h
  ·exact h
 |(n,k)::r,cs,h=>by
  refine vK r _ ?_
  rcases h with h|⟨c,h⟩
  ·rcases List.mem_cons.mp h with e|h
   ·cases e
    exact .inr ⟨(cells.lookup x).getD 0,by simp only[beq_self_eq_true,if_true,List.lookup_cons]⟩
   ·exact .inl h
  ·by_cases hk:k=.free
   ·subst hk
    simp only[beq_self_eq_true,if_true,List.lookup_cons]
    cases hb:x == n with
    |true=>exact .inr ⟨_,rfl⟩
    |false=>exact .inr ⟨c,h⟩
   ·have hb:(k == NameKind.free)=false:=by simpa using hk
    simp only[hb,Bool.false_eq_true,if_false]
    exact .inr ⟨c,h⟩
structure CompSc (scX:Scope)(NX:List Str)(scope:Scope)(N':List Str)(cap:List (Option Nat)):Prop where
 kind:scope.kind=.function
 names:∀ y∈scope.names,y.2=.local → scope.names.lookup y.1=some .local
 cel:∀ y∈scope.names,y.2=.cell→scope.names.lookup y.1=some .cell
 free:∀ y∈scope.names,y.2=.free→scX.names.lookup y.1=some .cell∨scX.names.lookup y.1=some .free
 fr2:∀ y∈scope.names,y.2=.free→scope.names.lookup y.1=some .free
 len:cap.length=N'.length
 caps:((cap.zip N').all fun p=>match p.1 with|none=>true|some i=>NX[i]? == some p.2&&scope.names.lookup p.2 == some .free)=true
 nd:N'.Nodup
def y7 (cap:List (Option Nat))(σ : _L.St):_L.St:=cap.map fun o=>match o with
 |none=>none
 |some i=>(σ[i]?).join
def w4 (cap:List (Option Nat))(env:qD):qD:=cap.map fun o=>match o with
 |none=>none
 |some i=>(env[i]?).join
theorem sL {K:PySem.W.Frag}{P:Hp}{α : List Addr}{σ : _L.St}{env:qD}(re:qS K P α σ env)(cap:List (Option Nat)):qS K P α (y7 cap σ) (w4 cap env):=by
 refine⟨by simp[y7,w4],fun j d e=>?_⟩
 unfold w4 at e
 unfold y7
 rw[List.getElem?_map] at e ⊢
 cases q:cap[j]? with
 |none=>rw[q] at e;cases e
 |some o =>
  rw[q] at e
  cases o with
  |none=>cases e
  |some i =>
   have e':(env[i]?).join=some d:=by simpa using e
   cases z:env[i]? with
   |none=>rw[z] at e';cases e'
   |some w =>
    rw[z] at e'
    have e'':w=some d:=e'
    subst e''
    obtain⟨v,h1,h2⟩:=re.2 i d z
    exact⟨v,by simp[h1],h2⟩
def zC (X:Cx)(N':List Str)(scope:Scope)(cl:List (Str × Addr))(C:Addr)(ex:List Addr)(s₀:Shared)(H₀:Hp):Cx:=
 { X with N:=N',s₀:=s₀,H₀:=H₀,env:=compEnvC scope cl C X.env,outer:=X.stack,stack:=X.stack,ex:=ex,fn:=fun x=>decide (scope.names.lookup x=some .cell),pn:=[],xe:=fun _ _=>False }
theorem vB {scope:Scope}{env:Env}:∀ {names:List (Str × NameKind)} {x:Str} {k:NameKind},
  (names.map fun (n,k)=>if (k == NameKind.free&&env.scope.kind == .function&&env.kindOf n == some .cell) then (n,NameKind.cell) else (n,k)).lookup x=some k →
  names.lookup x=some k∨(k=.cell∧names.lookup x=some .free)
 |[],_,_,h=>by simp at h
 |(n,k0)::r,x,k,h=>by
  rw[List.map_cons,List.lookup_cons] at h
  rw[List.lookup_cons]
  dsimp only at h
  cases hb:(k0 == NameKind.free&&env.scope.kind == .function&&env.kindOf n == some .cell) with
  |true =>
   rw[hb] at h
   simp only[if_true] at h
   cases hx:x == n with
   |true =>
    rw[hx] at h
    have e:NameKind.cell=k:=Option.some.inj h
    have hk:k0=.free:=by
     have:=(Bool.and_eq_true _ _).mp hb
     have:=(Bool.and_eq_true _ _).mp this.1
     simpa using this.1
    subst hk
    exact .inr ⟨e.symm,rfl⟩
   |false=>rw[hx] at h;exact vB (scope:=scope) h
  |false =>
   rw[hb] at h
   simp only[Bool.false_eq_true,if_false] at h
   cases hx:x == n with
   |true=>rw[hx] at h;exact .inl h
   |false=>rw[hx] at h;exact vB (scope:=scope) h
section
variable {X:Cx}{scope:Scope}{N':List Str}{cap:List (Option Nat)}{pins:List (Addr × Obj)}{σ : _L.St}{H2:Hp}{s2:Shared}{fp:List Addr}
theorem uL (S:CompSc X.env.scope X.N scope N' cap){x:Str}{k:NameKind}(h:(relabel scope X.env).names.lookup x=some k):scope.names.lookup x=some k∨(k=.cell∧scope.names.lookup x=some .free):=vB (scope:=scope) h
theorem lN (S:CompSc X.env.scope X.N scope N' cap)(ok:X.Ok){x:Str}{c:Addr}(h:(xU X.env.cells scope.names []).lookup x=some c):X.env.cells.lookup x=some c∧(x,NameKind.free)∈scope.names:=by
 rcases vU _ _ h with h|⟨hm,hc⟩
 ·cases h
 ·have:=S.free _ hm rfl
  obtain⟨c',hc'⟩:=ok.has x this
  rw[hc',Option.getD_some] at hc
  rw[hc',hc]
  exact⟨rfl,hm⟩
def eP (scope:Scope)(C:Addr):List (Str × Addr):=cellsFrom (C+1) scope.names []
def uK (X:Cx)(scope:Scope)(C:Addr):List (Str × Addr):=cellsFrom (C+1) scope.names (xU X.env.cells scope.names [])
theorem wK:∀ (names:List (Str × NameKind)) (lo:Nat) (acc:List (Str × Addr)),cellsFrom lo names acc=cellsFrom lo names [] ++ acc
 |[],_,_=>rfl
 |(n,k)::r,lo,acc=>by
  unfold cellsFrom
  split
  ·rw[wK r _ ((n,lo)::acc),wK r _ [(n,lo)],List.append_assoc];rfl
  ·exact wK r lo acc
set_option tactic.hygienic true in
theorem jA:∀ (names:List (Str × NameKind)) (lo:Nat) {n:Str} {c:Addr},(n,c)∈cellsFrom lo names [] → (n,NameKind.cell)∈names
 |[],_,_,_,h=>by cases h
 |(n0,k)::r,lo,n,c,h=>by
  unfold cellsFrom at h
  split at h
  ·rename_i hk
   rw[wK] at h
   rcases List.mem_append.mp h with h|h
   ·exact List.mem_cons_of_mem _ (jA r _ h)
   ·have e:(n,c)=(n0,lo):=by simpa using h
    cases e
    have:k=NameKind.cell:=by simpa using hk
    rw[this]
    exact List.mem_cons_self
  ·exact List.mem_cons_of_mem _ (jA r _ h)
theorem zR (S:CompSc X.env.scope X.N scope N' cap)(ok:X.Ok){C:Addr}{x:Str}{c:Addr}(h:(uK X scope C).lookup x=some c):((x,c)∈eP scope C∧scope.names.lookup x=some .cell)∨(X.env.cells.lookup x=some c∧(x,NameKind.free)∈scope.names):=by
 unfold uK at h
 rw[wK,List.lookup_append] at h
 cases q:(cellsFrom (C+1) scope.names []).lookup x with
 |some c' =>
  rw[q] at h
  cases h
  have m:=PySem.mem_of_lookup q
  exact .inl ⟨m,S.cel _ (jA _ _ m) rfl⟩
 |none =>
  rw[q] at h
  exact .inr (lN S ok h)
theorem bX (S:CompSc X.env.scope X.N scope N' cap)(ok:X.Ok){C:Addr}{x:Str}(h:scope.names.lookup x=some .cell∨scope.names.lookup x=some .free):∃ c,(uK X scope C).lookup x=some c:=by
 unfold uK
 rw[wK,List.lookup_append]
 rcases h with h|h
 ·have:=PySem.W.cellsFrom_some scope.names (C+1) [] (x:=x) (.inl h)
  obtain⟨c,hc⟩:=Option.isSome_iff_exists.mp this
  exact⟨c,by rw[hc];rfl⟩
 ·obtain⟨c',hc'⟩:=vK (cells:=X.env.cells) scope.names [] (.inl (PySem.mem_of_lookup h))
  rw[hc']
  cases (cellsFrom (C+1) scope.names []).lookup x with
  |none=>exact⟨c',rfl⟩
  |some c=>exact⟨c,rfl⟩
theorem aP {C:Addr}(S:CompSc X.env.scope X.N scope N' cap)(I2:Inv X pins σ H2 s2)(hf:∀ b∈fp,zV X pins H2 b)(hlt:∀ b∈fp,b<s2.heap.objs.size)(hC:s2.heap.objs.size≤C){h1:Heap}(co:CellsOk h1 (C+1) (eP scope C)) :
  (zC X N' scope (uK X scope C) C fp s2 H2).Ok where
 mod:=I2.ok.mod
 kind:=S.kind
 glob:=I2.ok.glob
 blt:=I2.ok.blt
 above:=hC
 inj:=fun x y c h1 h2=>by
  rcases zR S I2.ok h1 with⟨m1,_⟩|⟨m1,_⟩ <;> rcases zR S I2.ok h2 with⟨m2,_⟩|⟨m2,_⟩
  ·exact PySem.name_of_addr co.apart m1 m2
  ·obtain⟨v,ob,hob,_⟩:=I2.cell y c m2
   exact absurd (Nat.lt_of_lt_of_le (Heap.lt_size hob) hC) (Nat.not_lt.mpr (Nat.le_of_lt (co.empty x c m1).2))
  ·obtain⟨v,ob,hob,_⟩:=I2.cell x c m1
   exact absurd (Nat.lt_of_lt_of_le (Heap.lt_size hob) hC) (Nat.not_lt.mpr (Nat.le_of_lt (co.empty y c m2).2))
  ·exact I2.ok.inj x y c m1 m2
 has:=fun x hx=>by
  have hx':(relabel scope X.env).names.lookup x=some .cell∨(relabel scope X.env).names.lookup x=some .free:=hx
  refine bX S I2.ok ?_
  rcases hx' with h|h
  ·rcases uL S h with h|⟨_,h⟩
   ·exact .inl h
   ·exact .inr h
  ·rcases uL S h with h|⟨z,_⟩
   ·exact .inr h
   ·cases z
 cab:=fun x c h h2=>by
  have hx:scope.names.lookup x=some .cell:=of_decide_eq_true h
  rcases zR S I2.ok h2 with⟨m,_⟩|⟨_,m⟩
  ·exact Nat.le_trans hC (Nat.le_of_lt (co.empty x c m).2)
  ·have:=S.fr2 _ m rfl
   have this':scope.names.lookup x=some .free:=this
   rw[hx] at this'
   cases this'
 hd:=I2.ok.hd
 frames:=I2.ok.frames
 stk:=.inl rfl
 exf:=fun b hb=>⟨Nat.ne_of_lt (Nat.lt_of_lt_of_le (hlt b hb) hC),fun x c h=>by
  rcases zR S I2.ok h with⟨m,_⟩|⟨m,_⟩
  ·exact Ne.symm (Nat.ne_of_lt (Nat.lt_trans (Nat.lt_of_lt_of_le (hlt b hb) hC) (co.empty x c m).2))
  ·exact(hf b hb).2.2.2.2.1 x c m⟩
 bs:=I2.bs
 bsz:=Nat.le_trans I2.ok.bsz I2.sz
 noex:=fun b o e hb=>by
  obtain⟨_,_,_,h,_⟩:=hf b hb
  rcases h with h|h
  ·exact I2.ok.noex b o e h
  ·exact absurd (Nat.lt_of_lt_of_le (Heap.lt_size e) (Nat.le_trans I2.ok.bsz h)) (Nat.lt_irrefl _)
 exfs:=fun b hb hb2=>by
  obtain⟨_,h1,h2,_⟩:=hf b hb
  rcases List.mem_cons.mp (I2.stkSub b hb2) with z|z
  ·exact h1 z
  ·exact h2 z
 funs:=I2.stack
 frf:=I2.stkFree
theorem rB {s4:Shared}{C:Addr}{m:Str→Option Value}(S:CompSc X.env.scope X.N scope N' cap)(I2:Inv X pins σ H2 s2)(hf:∀ b∈fp,zV X pins H2 b)(hlt:∀ b∈fp,b<s2.heap.objs.size)(hC:s2.heap.objs.size≤C)
  (hn:s4.heap.Ns C m) (os:s4.os=s2.os) (gens:s4.gens=s2.gens) (keep:∀ b o,s2.heap.get? b=some o→s4.heap.get? b=some o) (co:CellsOk s4.heap (C+1) (eP scope C)) :
  Inv (zC X N' scope (uK X scope C) C fp s2 H2) [] (y7 cap σ) H2 s4 where
 ok:=aP S I2 hf hlt hC co
 os:=os
 bare:=gens▸I2.bare
 base:=Un.kept keep
 loc:=by
  refine⟨m,hn,fun j x v h1 h2 h3=>?_⟩
  have h1':N'[j]? = some x:=h1
  unfold y7 at h2
  rw[List.getElem?_map] at h2
  cases q:cap[j]? with
  |none=>rw[q] at h2;cases h2
  |some o =>
   rw[q] at h2
   cases o with
   |none=>cases h2
   |some i =>
    have e':(σ[i]?).join=some v:=by simpa using h2
    have hσ:σ[i]? = some (some v):=by
     cases z:σ[i]? with
     |none=>rw[z] at e';cases e'
     |some w=>rw[z] at e';have:w=some v:=e';rw[this]
    have hz:(some i,x)∈cap.zip N':=by
     refine List.mem_iff_getElem?.mpr ⟨j,?_⟩
     rw[List.getElem?_zip_eq_some]
     exact⟨q,h1'⟩
    have hc:=List.all_eq_true.mp S.caps _ hz
    simp only[Bool.and_eq_true,beq_iff_eq] at hc
    obtain⟨hN,hfr⟩:=hc
    have hk:=S.free _ (PySem.mem_of_lookup hfr) rfl
    obtain⟨mo,hmo,hl⟩:=I2.loc
    have vis:Vis X.env.scope x:=by
     rcases hk with k|k
     ·exact .inr (.inl k)
     ·exact .inr (.inr k)
    obtain⟨u,ru,lk⟩:=hl i x v hN hσ vis
    refine⟨u,ru,?_⟩
    rcases lk with⟨kl,_⟩|⟨_,c,hcl,hcell⟩
    ·have kl':X.env.scope.names.lookup x=some .local:=kl
     rcases hk with k|k
     ·have k':X.env.scope.names.lookup x=some .cell:=k
      rw[kl'] at k';cases k'
     ·have k':X.env.scope.names.lookup x=some .free:=k
      rw[kl'] at k';cases k'
    ·obtain⟨c',hc'⟩:=bX S I2.ok (C:=C) (.inr hfr)
     have e2:X.env.cells.lookup x=some c':=by
      rcases zR S I2.ok hc' with⟨_,z⟩|⟨z,_⟩
      ·rw[hfr] at z;cases z
      ·exact z
     rw[hcl] at e2;cases e2
     refine .inr ⟨?_,c,hc',?_⟩
     ·have h3':Vis (relabel scope X.env) x:=h3
      rcases h3' with h|h|h
      ·rcases uL S h with h|⟨z,_⟩
       ·rw[hfr] at h;cases h
       ·cases z
      ·exact .inl h
      ·exact .inr h
     ·obtain⟨ob,hob,hd⟩:=hcell
      exact⟨ob,keep c ob hob,hd⟩
 cell:=fun x c h=>by
  rcases zR S I2.ok h with⟨m,_⟩|⟨m,_⟩
  ·exact⟨none,(co.empty x c m).1⟩
  ·obtain⟨v,ob,hob,hd⟩:=I2.cell x c m
   exact⟨v,ob,keep c ob hob,hd⟩
 free:=I2.hok.fresh hC
 freeC:=fun x c h=>by
  rcases zR S I2.ok h with⟨m,_⟩|⟨m,_⟩
  ·exact I2.hok.fresh (Nat.le_trans hC (Nat.le_of_lt (co.empty x c m).2))
  ·exact I2.freeC x c m
 pin:=fun p hp=>absurd (show p∈([]:List (Addr × Obj)) from hp) (by simp)
 hok:=I2.hok.kept keep
 len:=by
  show (y7 cap σ).length=N'.length
  simp[y7,S.len]
end
end _D
end
section
namespace _D
open PySem PySem.Spec PyProof.Rows _L
theorem d7 {P:Program}{w:World}{H:Hp}{h:Heap}{a:Addr}{o:HO}(x:HOk P w H h)(hn:H a=none)(new:qY P w (upd H a o) h a o):HOk P w (upd H a o) h:=fun b u e=>by
 by_cases hb:b=a
 ·subst hb;rw[qV] at e;cases e;exact new
 ·rw[qI hb] at e
  exact(x b u e).stay (fun c v _ q=>q) (fun c q=>by rw[qI (qO q hn)];exact q) fun c xs q=>by rw[qI (qO q hn)];exact q
theorem d6 {P:Program}{w:World}{H:Hp}{h h':Heap}{C:Addr}(x:HOk P w H h)(hn:H C=none)(k:∀ b o,b≠C→h.get? b=some o→h'.get? b=some o):HOk P w H h':=fun b u e =>
 (x b u e).stay (fun c v hc q=>k c v (by
  rintro rfl
  rcases hc with z|z
  ·subst z;rw[hn] at e;cases e
  ·rw[hn] at z;cases z) q) (fun _ q=>q) fun _ _ q=>q
section
variable {X:Cx}{elt tg iter:Expr}{ifs:List Expr}{scope:Scope}{pos:Pos}{N':List Str}{cap:List (Option Nat)}{fi:DI}{g:DG}{t:DT}{fe:DE}
def jR (X:Cx)(pins:List (Addr × Obj))(σ : _L.St)(P1:Hp)(α1:List Addr)(ds:List D)(SF:Sto)(acc C:Addr)(s:Shared):Prop:=
 ∃ (H' P':Hp) (α' : List Addr) (vs:List V),Inv X pins σ (upd H' acc (.lst vs)) s∧Rel X.K H' P' α' SF∧H' acc=none∧qG P1 P'∧α1<+:α'∧qE X.K P' α' ds vs∧H' C=none
theorem rA {Y:Cx}{pins:List (Addr × Obj)}{σ σ':_L.St}{H2:Hp}{s2 s':Shared}{fp:List Addr}{acc C:Addr}{P1:Hp}{α1:List Addr}{H' P':Hp}{α' : List Addr}{envF:qD}{SF:Sto}{ds:List D}{o:Obj}{cl:List (Str × Addr)}(I2:Inv X pins σ H2 s2)
  (hf:∀ b∈fp,zV X pins H2 b) (hY:Y=zC X N' scope cl C fp s2 H2) (hC:s2.heap.objs.size≤C) (hA:s2.heap.objs.size≤acc) (hne:acc≠C) (st:TurnSt Y [] P1 α1 fp acc envF SF ds s' σ' H' P' α' o)
  {h':Heap} (sb:Heap.SameBut C s'.heap h'):jR X pins σ P1 α1 ds SF acc C { s' with heap:=h' }:=by
 subst hY
 obtain⟨its,n,vs,rfl,rv,rp,hz⟩:=st.acc
 have kC:∀ b o,b≠C→s'.heap.get? b=some o→h'.get? b=some o:=fun b o hb e=>(sb.2 b hb).trans e
 have nC:∀ b o,s2.heap.get? b=some o→b≠C:=fun b o e=>Nat.ne_of_lt (Nat.lt_of_lt_of_le (Heap.lt_size e) hC)
 have nA:∀ b o,s2.heap.get? b=some o→b≠acc:=fun b o e=>Nat.ne_of_lt (Nat.lt_of_lt_of_le (Heap.lt_size e) hA)
 have base:Un (frs X.stack) fp H2 H' s2.heap s'.heap:=st.inv.base
 have nt:∀ b u,H' b=some u→b≠acc:=fun b u e=>qO e st.acn
 have un:Un (frs X.stack) fp H2 (upd H' acc (.lst vs)) s2.heap h':=by
  refine⟨fun b ob q hn hb hx=>kC b ob (nC b ob q) (base.keep b ob q hn hb hx),fun b ob q hn hb hx=>?_,fun b ob q hn hx=>?_,fun b ob q hx=>?_,fun b xs q=>?_,fun b ob u q=>?_,fun b ps q=>?_⟩
  ·obtain⟨sl,e⟩:=base.slot b ob q hn hb hx
   exact⟨sl,kC b _ (nC b ob q) e⟩
  ·rw[qI (nA b ob q)];exact base.free b ob q hn hx
  ·obtain⟨o',e⟩:=base.there b ob q hx
   exact⟨o',kC b o' (nC b ob q) e⟩
  ·have:=base.tups b xs q;rw[qI (nt _ _ this)];exact this
  ·have:=base.frzs b ob u q;rw[qI (nt _ _ this)];exact this
  ·obtain⟨more,e⟩:=base.tbls b ps q
   exact⟨more,by rw[qI (nt _ _ e)];exact e⟩
 have hok':HOk X.prog X.w H' h':=d6 st.inv.hok st.inv.free kC
 have hat:h'.get? acc=some { cls:=.type "list",data:=.seq its.toArray n }:=kC acc _ hne st.at'
 have hok:HOk X.prog X.w (upd H' acc (.lst vs)) h':=d7 hok' st.acn ⟨by rw[← rp.length,← zK];exact hz,its,n,rv,hat⟩
 refine⟨H',P',α',vs,?_,st.rel,st.acn,st.same,st.pre,rp,st.inv.free⟩
 exact I2.call' (s':={ s' with heap:=h' }) (ch:=fp) (st.inv.os) un hok st.inv.bare fun b hb=>by
  obtain⟨_,h1,h2,h3,h4,h5⟩:=hf b hb
  exact⟨h3,h1,h4,h5⟩
theorem aL (S:CompSc X.env.scope X.N scope N' cap)(ok:X.Ok):closureFor scope X.env=pure (xU X.env.cells scope.names []):=uZ fun y hy hk=>ok.has y.1 (S.free y hy hk)
theorem iG {pins:List (Addr × Obj)}{σ : _L.St}{P1:Hp}{α1:List Addr}{ds:List D}{SF:Sto}{acc C:Addr}{s:Shared}{Q:VK}(c:jR X pins σ P1 α1 ds SF acc C s)(ok:OkV X P1 α1 Q (.lst ds) SF):EP X pins σ Q (.ref acc) s:=by
 obtain⟨H',P',α',vs,I,r,hn,e1,e2,rp,_⟩:=c
 exact⟨.ref acc,_,I,rfl,v9 r hn rp fun v H2 P2 α2 r2 q1 q2 q3=>ok v H2 P2 α2 r2 (e1.trans q1) (e2.trans q2) q3⟩
end
end _D
end
section
namespace _D
open PySem PySem.Spec PyProof.Rows _L PySem.SeqAt
def b01 (b:Bool):Int:=if b then 1 else 0
mutual
def eqD:D→D→Bool
 |.non,.non=>true
 |.bl a,.bl b=>a == b
 |.bl a,.int b=>b01 a == b
 |.int a,.bl b=>a == b01 b
 |.int a,.int b=>a == b
 |.str a,.str b=>a == b
 |.tup xs,.tup ys=>xT xs ys
 |.lst xs,.lst ys=>xT xs ys
 |_,_=>false
def xT:List D→List D→Bool
 |[],[]=>true
 |x::xs,y::ys=>eqD x y&&xT xs ys
 |_,_=>false
end
def pl:Nat→D→Bool
 |_,.non=>true
 |_,.bl _=>true
 |_,.int _=>true
 |_,.str _=>true
 |n+1,.tup xs=>xs.all (pl n)
 |n+1,.lst xs=>xs.all (pl n)
 |_,_=>false
theorem lT (x y:D)(xs ys:List D):xT (x::xs) (y::ys)=(eqD x y&&xT xs ys):=rfl
theorem yZ:∀ (xs ys:List D),xT xs ys=((List.range (min xs.length ys.length)).all (fun j=>eqD (xs.getD j .non) (ys.getD j .non))&&xs.length == ys.length)
 |[],[]=>rfl
 |[],y::ys=>rfl
 |x::xs,[]=>rfl
 |x::xs,y::ys=>by
  have ih:=yZ xs ys
  rw[lT,ih,List.length_cons,List.length_cons,Nat.succ_min_succ,List.range_succ_eq_map,List.all_cons,List.all_map,Bool.and_assoc]
  have e:(xs.length+1 == ys.length+1)=(xs.length == ys.length):=by simp
  rw[e]
  rfl
theorem rP {xs ys:List D}(h:xs.length≠ys.length):xT xs ys=false:=by
 rw[yZ]
 simp[h]
theorem p7 (xs ys:List D):eqD (.tup xs) (.tup ys)=xT xs ys:=rfl
theorem p6 (xs ys:List D):eqD (.lst xs) (.lst ys)=xT xs ys:=rfl
section
variable {X:Cx}{pins:List (Addr × Obj)}{σ : _L.St}{H P:Hp}{α : List Addr}{S:Sto}{s:Shared}
inductive Kd (X:Cx)(P:Hp)(α : List Addr)(s:Shared):D→Value→Prop where
 |non:Kd X P α s .non .none
 |bl (b:Bool):Kd X P α s (.bl b) (.bool b)
 |int (i:Int) (t:Tok):Kd X P α s (.int i) (.int i t)
 |str (x:Str) (t:Tok):Kd X P α s (.str x) (.str x t)
 |tup (a:Addr) (xs:List D) (its:List Value) (vs:List V) (rp:qE X.K P α xs vs) (rv:qL vs its) (h:s.heap.IsTuple a its.toArray) (q:SqT X.K P a vs):Kd X P α s (.tup xs) (.ref a)
 |lst (a:Addr) (xs:List D) (its:List Value) (vs:List V) (rp:qE X.K P α xs vs) (rv:qL vs its) (h:s.heap.IsList a its.toArray) (q:SqX X.K P a vs):Kd X P α s (.lst xs) (.ref a)
theorem vL (I:Inv X pins σ H s)(r:Rel X.K H P α S){n:Nat}{d:D}{v:V}{u:Value}(h:pl n d=true)(p:Rep X.K P α d v)(rv:qK v u):Kd X P α s d u:=by
 cases d with
 |non=>simp only[Rep] at p;subst p;cases rv;exact .non
 |bl b=>simp only[Rep] at p;subst p;cases rv;exact .bl b
 |int i=>simp only[Rep] at p;subst p;obtain⟨t,rfl⟩:=rv;exact .int i t
 |str x=>simp only[Rep] at p;subst p;obtain⟨t,rfl⟩:=rv;exact .str x t
 |tup xs =>
  simp only[Rep] at p
  obtain⟨a,vs,rfl,q,t⟩:=p
  cases rv
  obtain⟨its,r1,p1,_⟩:=I.tuple (xI r.sub q)
  exact .tup a xs its vs t r1 p1 q
 |lst xs =>
  simp only[Rep] at p
  obtain⟨a,vs,rfl,q,t⟩:=p
  cases rv
  obtain⟨its,r1,p1,_⟩:=I.list ((xN r.sub q).l)
  exact .lst a xs its vs t r1 p1.isList q
 |_=>cases n <;> exact Bool.noConfusion h
theorem uQ {ds:List D}{vs:List V}{its:List Value}(rp:qE X.K P α ds vs)(rv:qL vs its){j:Nat}(h:j<its.toArray.size):∃ v,Rep X.K P α (ds.getD j .non) v∧qK v its.toArray[j]∧ds.getD j .non∈ds:=by
 have l1:=rp.length
 have l2:=rv.length
 have hj:j<its.length:=by simpa using h
 have hd:j<ds.length:=by omega
 obtain⟨v,e1,p⟩:=rp.get (List.getElem?_eq_getElem hd)
 obtain⟨u,e2,q⟩:=rv.get e1
 have e3:its.toArray[j]=u:=by
  have:its[j]? = some its[j]:=List.getElem?_eq_getElem hj
  rw[this] at e2
  simpa using Option.some.inj e2
 have e4:ds.getD j .non=ds[j]:=by simp[List.getD,hd]
 rw[e3,e4]
 exact⟨v,p,q,List.getElem_mem hd⟩
theorem vP {n:Nat}{ds:List D}(h:ds.all (pl n)=true){d:D}(hd:d∈ds):pl n d=true:=List.all_eq_true.mp h d hd
theorem iW {h:Heap}{a:Addr}{xs ys:Array Value}(h1:h.IsTuple a xs)(h2:h.IsTuple a ys):xs=ys:=by
 obtain⟨o,e,_,n,d⟩:=h1
 obtain⟨o',e',_,n',d'⟩:=h2
 cases e.symm.trans e'
 cases d.symm.trans d'
 rfl
theorem iU {h:Heap}{a:Addr}{xs ys:Array Value}(h1:h.IsList a xs)(h2:h.IsList a ys):xs=ys:=by
 obtain⟨o,e,_,n,d⟩:=h1
 obtain⟨o',e',_,n',d'⟩:=h2
 cases e.symm.trans e'
 cases d.symm.trans d'
 rfl
theorem XS {h:Heap}{a:Addr}{xs ys:Array Value}(h1:h.IsTuple a xs)(h2:h.IsList a ys):False:=by
 obtain⟨o,e,c,_⟩:=h1
 obtain⟨o',e',c',_⟩:=h2
 cases e.symm.trans e'
 exact absurd (c.symm.trans c') (by decide)
inductive Seqs (X:Cx)(P:Hp)(α : List Addr)(xs ys:List D)(its its2:List Value):Prop
 |mk (vs ws:List V) (rp:qE X.K P α xs vs) (rv:qL vs its) (rp2:qE X.K P α ys ws) (rv2:qL ws its2):Seqs X P α xs ys its its2
theorem Seqs.len1 {xs ys:List D}{its its2:List Value}(q:Seqs X P α xs ys its its2):xs.length=its.length:=by
 obtain⟨vs,ws,rp,rv,_,_⟩:=q
 exact rp.length.trans rv.length
theorem Seqs.len2 {xs ys:List D}{its its2:List Value}(q:Seqs X P α xs ys its its2):ys.length=its2.length:=by
 obtain⟨vs,ws,_,_,rp,rv⟩:=q
 exact rp.length.trans rv.length
inductive SameR (X:Cx)(P:Hp)(α : List Addr):D→D→Prop
 |eq {d d':D} (h:eqD d d'=true):SameR X P α d d'
 |tt (xs ys:List D) (its:List Value) (q:Seqs X P α xs ys its its):SameR X P α (.tup xs) (.tup ys)
 |ll (xs ys:List D) (its:List Value) (q:Seqs X P α xs ys its its):SameR X P α (.lst xs) (.lst ys)
theorem tV {d d':D}{u:Value}(k1:Kd X P α s d u)(k2:Kd X P α s d' u):SameR X P α d d':=by
 cases k1 with
 |non=>cases k2;exact .eq rfl
 |bl b=>cases k2;exact .eq (beq_self_eq_true _)
 |int i t=>cases k2;exact .eq (beq_self_eq_true _)
 |str x t=>cases k2;exact .eq (beq_self_eq_true _)
 |tup a xs its vs rp rv h q =>
  cases k2 with
  |tup _ ys its2 ws rp2 rv2 h2 q2 =>
   cases iW h h2
   exact .tt xs ys its ⟨vs,ws,rp,rv,rp2,rv2⟩
  |lst _ ys its2 ws rp2 rv2 h2 q2=>exact(XS h h2).elim
 |lst a xs its vs rp rv h q =>
  cases k2 with
  |lst _ ys its2 ws rp2 rv2 h2 q2 =>
   cases iU h h2
   exact .ll xs ys its ⟨vs,ws,rp,rv,rp2,rv2⟩
  |tup _ ys its2 ws rp2 rv2 h2 q2=>exact(XS h2 h).elim
theorem pS (I:Inv X pins σ H s)(r:Rel X.K H P α S){m:Nat}(ih:∀ (d d':D) (u:Value),pl m d=true→pl m d'=true→Kd X P α s d u→Kd X P α s d' u→eqD d d'=true){xs ys:List D}{its:List Value}(h1:xs.all (pl m)=true)(h2:ys.all (pl m)=true)(q:Seqs X P α xs ys its its):xT xs ys=true:=by
 obtain⟨vs,ws,rp,rv,rp2,rv2⟩:=q
 have l1:=rp.length.trans rv.length
 have l2:=rp2.length.trans rv2.length
 rw[yZ,l1,l2,Nat.min_self,Bool.and_eq_true]
 refine⟨List.all_eq_true.mpr fun j hj=>?_,BEq.rfl⟩
 have hj:j<its.toArray.size:=List.mem_range.mp hj
 obtain⟨w1,y1,z1,m1⟩:=uQ rp rv hj
 obtain⟨w2,y2,z2,m2⟩:=uQ rp2 rv2 hj
 exact ih _ _ _ (vP h1 m1) (vP h2 m2) (vL I r (vP h1 m1) y1 z1) (vL I r (vP h2 m2) y2 z2)
theorem mX (I:Inv X pins σ H s)(r:Rel X.K H P α S):∀ (n:Nat) (d d':D) (u:Value),pl n d=true→pl n d'=true→Kd X P α s d u→Kd X P α s d' u→eqD d d'=true:=by
 intro n
 induction n with
 |zero =>
  intro d d' u h1 h2 k1 k2
  cases tV k1 k2 with
  |eq h=>exact h
  |tt=>exact Bool.noConfusion h1
  |ll=>exact Bool.noConfusion h1
 |succ m ih =>
  intro d d' u h1 h2 k1 k2
  cases tV k1 k2 with
  |eq h=>exact h
  |tt xs ys its q=>exact(p7 xs ys).trans (pS I r ih h1 h2 q)
  |ll xs ys its q=>exact(p6 xs ys).trans (pS I r ih h1 h2 q)
structure E3 (A:Around)(s:Shared)(u u':Value)(b:Bool):Prop where
 eq:EqAt A s u u' b
 rc:RcAt A s u u' b
 ne:RcNeAt A s u u' (!b)
inductive EqR (X:Cx)(P:Hp)(α : List Addr)(A:Around)(s:Shared):D→D→Value→Value→Prop
 |of {d d':D} {u u':Value} (b:Bool) (e:eqD d d'=b) (h:E3 A s u u' b):EqR X P α A s d d' u u'
 |tt (a b:Addr) (xs ys:List D) (its its2:List Value) (ha:s.heap.IsTuple a its.toArray) (hb:s.heap.IsTuple b its2.toArray) (q:Seqs X P α xs ys its its2):EqR X P α A s (.tup xs) (.tup ys) (.ref a) (.ref b)
 |ll (a b:Addr) (xs ys:List D) (its its2:List Value) (ha:s.heap.IsList a its.toArray) (hb:s.heap.IsList b its2.toArray) (q:Seqs X P α xs ys its its2):EqR X P α A s (.lst xs) (.lst ys) (.ref a) (.ref b)
theorem cI {A:Around}{d d':D}{u u':Value}(hu:A.units<cLine)(k1:Kd X P α s d u)(k2:Kd X P α s d' u'):EqR X P α A s d d' u u':=by
 cases k1 with
 |non  =>
  cases k2 with
  |non  => exact .of _ rfl ⟨EqAt.same _,RcAt.none_none,RcNeAt.none_none⟩
  |bl b=>exact .of _ rfl ⟨EqAt.none_bool b,RcAt.none_bool b,RcNeAt.none_bool b⟩
  |int b tb=>exact .of _ rfl ⟨EqAt.none_int b tb,RcAt.none_int b tb,RcNeAt.none_int b tb⟩
  |str b tb=>exact .of _ rfl ⟨EqAt.none_str b tb,RcAt.none_str b tb,RcNeAt.none_str b tb⟩
  |tup b ys its2 ws rp2 rv2 hb qb=>exact .of _ rfl ⟨EqAt.none_tuple hb hu,RcAt.none_tuple hb hu,RcNeAt.none_tuple hb hu⟩
  |lst b ys its2 ws rp2 rv2 hb qb=>exact .of _ rfl ⟨EqAt.none_list hb hu,RcAt.none_list hb hu,RcNeAt.none_list hb hu⟩
 |bl a =>
  cases k2 with
  |non  => exact .of _ rfl ⟨EqAt.bool_none a,RcAt.bool_none a,RcNeAt.bool_none a⟩
  |bl b=>exact .of _ rfl ⟨EqAt.bool_bool a b,RcAt.bool_bool a b,RcNeAt.bool_bool a b⟩
  |int b tb=>exact .of _ rfl ⟨EqAt.bool_int a b tb,RcAt.bool_int a b tb,RcNeAt.bool_int a b tb⟩
  |str b tb=>exact .of _ rfl ⟨EqAt.bool_str a b tb,RcAt.bool_str a b tb,RcNeAt.bool_str a b tb⟩
  |tup b ys its2 ws rp2 rv2 hb qb=>exact .of _ rfl ⟨EqAt.bool_tuple a hb hu,RcAt.bool_tuple a hb hu,RcNeAt.bool_tuple a hb hu⟩
  |lst b ys its2 ws rp2 rv2 hb qb=>exact .of _ rfl ⟨EqAt.bool_list a hb hu,RcAt.bool_list a hb hu,RcNeAt.bool_list a hb hu⟩
 |int a ta =>
  cases k2 with
  |non  => exact .of _ rfl ⟨EqAt.int_none a ta,RcAt.int_none a ta,RcNeAt.int_none a ta⟩
  |bl b=>exact .of _ rfl ⟨EqAt.int_bool a ta b,RcAt.int_bool a ta b,RcNeAt.int_bool a ta b⟩
  |int b tb=>exact .of _ rfl ⟨EqAt.int_int a ta b tb,RcAt.int_int a ta b tb,RcNeAt.int_int a ta b tb⟩
  |str b tb=>exact .of _ rfl ⟨EqAt.int_str a ta b tb,RcAt.int_str a ta b tb,RcNeAt.int_str a ta b tb⟩
  |tup b ys its2 ws rp2 rv2 hb qb=>exact .of _ rfl ⟨EqAt.int_tuple a ta hb hu,RcAt.int_tuple a ta hb hu,RcNeAt.int_tuple a ta hb hu⟩
  |lst b ys its2 ws rp2 rv2 hb qb=>exact .of _ rfl ⟨EqAt.int_list a ta hb hu,RcAt.int_list a ta hb hu,RcNeAt.int_list a ta hb hu⟩
 |str a ta =>
  cases k2 with
  |non  => exact .of _ rfl ⟨EqAt.str_none a ta,RcAt.str_none a ta,RcNeAt.str_none a ta⟩
  |bl b=>exact .of _ rfl ⟨EqAt.str_bool a ta b,RcAt.str_bool a ta b,RcNeAt.str_bool a ta b⟩
  |int b tb=>exact .of _ rfl ⟨EqAt.str_int a ta b tb,RcAt.str_int a ta b tb,RcNeAt.str_int a ta b tb⟩
  |str b tb=>exact .of _ rfl ⟨EqAt.str_str a ta b tb,RcAt.str_str a ta b tb,RcNeAt.str_str a ta b tb⟩
  |tup b ys its2 ws rp2 rv2 hb qb=>exact .of _ rfl ⟨EqAt.str_tuple a ta hb hu,RcAt.str_tuple a ta hb hu,RcNeAt.str_tuple a ta hb hu⟩
  |lst b ys its2 ws rp2 rv2 hb qb=>exact .of _ rfl ⟨EqAt.str_list a ta hb hu,RcAt.str_list a ta hb hu,RcNeAt.str_list a ta hb hu⟩
 |tup a xs its vs rp rv ha qa =>
  cases k2 with
  |non  => exact .of _ rfl ⟨EqAt.tuple_none ha hu,RcAt.tuple_none ha hu,RcNeAt.tuple_none ha hu⟩
  |bl b=>exact .of _ rfl ⟨EqAt.tuple_bool b ha hu,RcAt.tuple_bool b ha hu,RcNeAt.tuple_bool b ha hu⟩
  |int b tb=>exact .of _ rfl ⟨EqAt.tuple_int b tb ha hu,RcAt.tuple_int b tb ha hu,RcNeAt.tuple_int b tb ha hu⟩
  |str b tb=>exact .of _ rfl ⟨EqAt.tuple_str b tb ha hu,RcAt.tuple_str b tb ha hu,RcNeAt.tuple_str b tb ha hu⟩
  |tup b ys its2 ws rp2 rv2 hb qb=>exact .tt a b xs ys its its2 ha hb ⟨vs,ws,rp,rv,rp2,rv2⟩
  |lst b ys its2 ws rp2 rv2 hb qb=>exact .of _ rfl ⟨EqAt.tuple_list ha hb hu,RcAt.tuple_list ha hb hu,RcNeAt.tuple_list ha hb hu⟩
 |lst a xs its vs rp rv ha qa =>
  cases k2 with
  |non  => exact .of _ rfl ⟨EqAt.list_none ha hu,RcAt.list_none ha hu,RcNeAt.list_none ha hu⟩
  |bl b=>exact .of _ rfl ⟨EqAt.list_bool b ha hu,RcAt.list_bool b ha hu,RcNeAt.list_bool b ha hu⟩
  |int b tb=>exact .of _ rfl ⟨EqAt.list_int b tb ha hu,RcAt.list_int b tb ha hu,RcNeAt.list_int b tb ha hu⟩
  |str b tb=>exact .of _ rfl ⟨EqAt.list_str b tb ha hu,RcAt.list_str b tb ha hu,RcNeAt.list_str b tb ha hu⟩
  |tup b ys its2 ws rp2 rv2 hb qb=>exact .of _ rfl ⟨EqAt.list_tuple ha hb hu,RcAt.list_tuple ha hb hu,RcNeAt.list_tuple ha hb hu⟩
  |lst b ys its2 ws rp2 rv2 hb qb=>exact .ll a b xs ys its its2 ha hb ⟨vs,ws,rp,rv,rp2,rv2⟩
theorem E3.cast {A:Around}{u u':Value}{b c:Bool}(e:c=b)(h:E3 A s u u' b):E3 A s u u' c:=e▸h
theorem U4 {A:Around}{a b:Addr}{xs ys:List D}{its its2:List Value}(hu:A.units<cLine)(ha:s.heap.IsTuple a its.toArray)(hb:s.heap.IsTuple b its2.toArray)(l1:xs.length=its.length)(l2:ys.length=its2.length)
  (sub:∀ j (h1:j<its.toArray.size) (h2:j<its2.toArray.size),EqAt A.in1 s its.toArray[j] its2.toArray[j] (eqD (xs.getD j .non) (ys.getD j .non))) (same:a=b→xT xs ys=true):E3 A s (.ref a) (.ref b) (xT xs ys):=by
 have e:xT xs ys=((List.range (min its.toArray.size its2.toArray.size)).all (fun j=>eqD (xs.getD j .non) (ys.getD j .non))&&its.toArray.size == its2.toArray.size):=by rw[yZ,l1,l2];rfl
 have R1:=RcAt.tuples ha hb hu sub
 have R2:=RcNeAt.tuples ha hb hu sub
 rw[← e] at R1 R2
 refine⟨?_,R1,R2⟩
 by_cases hab:a=b
 ·rw[same hab,hab]
  exact EqAt.same _
 ·exact EqAt.of_refs hab R1
theorem U3 {A:Around}{a b:Addr}{xs ys:List D}{its its2:List Value}(hu:A.units<cLine)(ha:s.heap.IsList a its.toArray)(hb:s.heap.IsList b its2.toArray)(l1:xs.length=its.length)(l2:ys.length=its2.length)
  (sub:∀ j (h1:j<its.toArray.size) (h2:j<its2.toArray.size),EqAt A.in1 s its.toArray[j] its2.toArray[j] (eqD (xs.getD j .non) (ys.getD j .non))) (same:a=b→xT xs ys=true):E3 A s (.ref a) (.ref b) (xT xs ys):=by
 have R:RcAt A s (.ref a) (.ref b) (xT xs ys)∧RcNeAt A s (.ref a) (.ref b) (!xT xs ys):=by
  by_cases hl:its.length=its2.length
  ·have e:xT xs ys=(List.range its.toArray.size).all (fun j=>eqD (xs.getD j .non) (ys.getD j .non)):=by rw[yZ,l1,l2,← hl,Nat.min_self,BEq.rfl,Bool.and_true];rfl
   rw[e]
   exact⟨RcAt.lists ha hb hl hu sub,RcNeAt.lists ha hb hl hu sub⟩
  ·rw[rP (by rw[l1,l2];exact hl)]
   have hn:(its.toArray.size != its2.toArray.size)=true:=bne_iff_ne.mpr hl
   exact⟨RcAt.lists_lengths ha hb hn hu,RcNeAt.lists_lengths ha hb hn hu⟩
 refine⟨?_,R.1,R.2⟩
 by_cases hab:a=b
 ·rw[same hab,hab]
  exact EqAt.same _
 ·exact EqAt.of_refs hab R.1
theorem lS (I:Inv X pins σ H s)(r:Rel X.K H P α S):∀ (n:Nat) (A:Around) (d d':D) (u u':Value),A.units+n<cLine→pl n d=true→pl n d'=true→Kd X P α s d u→Kd X P α s d' u'→E3 A s u u' (eqD d d'):=by
 intro n
 induction n with
 |zero =>
  intro A d d' u u' hu h1 h2 k1 k2
  cases cI hu k1 k2 with
  |of b e h=>exact h.cast e
  |tt=>exact Bool.noConfusion h1
  |ll=>exact Bool.noConfusion h1
 |succ m ih =>
  intro A d d' u u' hu h1 h2 k1 k2
  have hu0:A.units<cLine:=Nat.lt_of_le_of_lt (Nat.le_add_right _ _) hu
  have hu1:A.in1.units+m<cLine:=by show A.units+1+m<cLine;omega
  have sub:∀ {xs ys:List D} {its its2:List Value},xs.all (pl m)=true→ys.all (pl m)=true→Seqs X P α xs ys its its2 →
    ∀ j (h1:j<its.toArray.size) (h2:j<its2.toArray.size),EqAt A.in1 s its.toArray[j] its2.toArray[j] (eqD (xs.getD j .non) (ys.getD j .non)):=fun {xs ys its its2} a1 a2 ⟨vs,ws,b1,b2,c1,c2⟩ j g1 g2=>by
   obtain⟨w1,y1,z1,m1⟩:=uQ b1 b2 g1
   obtain⟨w2,y2,z2,m2⟩:=uQ c1 c2 g2
   exact(ih A.in1 _ _ _ _ hu1 (vP a1 m1) (vP a2 m2) (vL I r (vP a1 m1) y1 z1) (vL I r (vP a2 m2) y2 z2)).eq
  cases cI hu0 k1 k2 with
  |of b e h=>exact h.cast e
  |tt a b xs ys its its2 ha hb q=>exact(U4 hu0 ha hb q.len1 q.len2 (sub h1 h2 q) fun e=>by subst e;exact(p7 xs ys).symm.trans (mX I r (m+1) _ _ _ h1 h2 k1 k2)).cast (p7 xs ys)
  |ll a b xs ys its its2 ha hb q=>exact(U3 hu0 ha hb q.len1 q.len2 (sub h1 h2 q) fun e=>by subst e;exact(p6 xs ys).symm.trans (mX I r (m+1) _ _ _ h1 h2 k1 k2)).cast (p6 xs ys)
def yI:Nat:=30
def gEq:G2:=fun a b S=>if pl yI a&&pl yI b then .ok (.bl (eqD a b)) S else .bad
def gNe:G2:=fun a b S=>if pl yI a&&pl yI b then .ok (.bl (!eqD a b)) S else .bad
set_option tactic.hygienic true in
theorem UI (hu:X.A.units+64<cLine):OpD X (compareOp .Eq) gEq:=by
 intro pins σ H s P α S v u vv uu a b Q I r rv ru pa pb af
 unfold gEq at af
 split at af
 ·rename_i h
  rw[Bool.and_eq_true] at h
  exact(lS I r yI X.A a b vv uu (by unfold yI;omega) h.1 h.2 (vL I r h.1 pa rv) (vL I r h.2 pb ru)).rc _ _ _ _ ⟨.bl _,H,I,rfl,xr af r (by simp only[Rep])⟩
 ·exact False.elim af
set_option tactic.hygienic true in
theorem UO (hu:X.A.units+64<cLine):OpD X (compareOp .NotEq) gNe:=by
 intro pins σ H s P α S v u vv uu a b Q I r rv ru pa pb af
 unfold gNe at af
 split at af
 ·rename_i h
  rw[Bool.and_eq_true] at h
  exact(lS I r yI X.A a b vv uu (by unfold yI;omega) h.1 h.2 (vL I r h.1 pa rv) (vL I r h.2 pb ru)).ne _ _ _ _ ⟨.bl _,H,I,rfl,xr af r (by simp only[Rep])⟩
 ·exact False.elim af
end
end _D
end
section
namespace _D
open PySem PySem.Spec PyProof.Rows _L
section
variable {X:Cx}
def i2 (C:Int→Int→Bool)(f:Int→Int→D):G2:=fun a b S=>match a,b with
 |.int i,.int j=>if C i j then .ok (f i j) S else .bad
 |_,_=>.bad
theorem cL {C:Int→Int→Bool}{f:Int→Int→D}{a b:D}{S:Sto}{P:Hp}{α : List Addr}{Ok:D→Sto→Prop}(h:qH X P α (i2 C f a b S) Ok):∃ i j,a=.int i∧b=.int j∧C i j=true∧Ok (f i j) S:=by
 cases a with
 |int i =>
  cases b with
  |int j =>
   obtain⟨hc,h⟩:=xG (X:=X) h
   exact⟨i,j,rfl,rfl,hc,h⟩
  |_=>exact False.elim h
 |_=>exact False.elim h
theorem zM {P:Hp}{α : List Addr}{i:Int}{v:V}(r:Rep X.K P α (.int i) v):v=.int i:=by simpa only [Rep] using r
theorem gI {f:Value→Value→Sem Value}{C':Int→Int→Prop}{v:Int→Int→V}{C:Int→Int→Bool}{d:Int→Int→D}(h:OpR X f (rI C' v))(hC:∀ i j,C i j=true→C' i j)(hv:∀ P α i j,Rep X.K P α (d i j) (v i j)):OpD X f (i2 C d):=
 OpD.of h fun H P α S x y a b Q r p1 p2 af=>by
  obtain⟨i,j,rfl,rfl,hc,ok⟩:=cL af
  exact⟨i,j,zM p1,zM p2,hC i j hc,xr ok r (hv P α i j)⟩
theorem jK {f:Value→Value→Sem Value}{v:Int→Int→V}{d:Int→Int→D}(h:OpR X f (rI0 v))(hv:∀ P α i j,Rep X.K P α (d i j) (v i j)):OpD X f (i2 (fun _ _=>true) d):=
 OpD.of h fun H P α S x y a b Q r p1 p2 af=>by
  obtain⟨i,j,rfl,rfl,_,ok⟩:=cL af
  exact⟨i,j,zM p1,zM p2,xr ok r (hv P α i j)⟩
def zL:G2:=i2 (fun _ _=>true) fun i j=>.int (i-j)
theorem WQ:OpD X (binaryOp .Sub) zL:=jK Y0 fun P α i j=>by simp only[Rep]
def bR (i j:Int):Bool:=decide (-(2 ^ 64)<i∧i<2 ^ 64)||decide (-(2 ^ 64)<j∧j<2 ^ 64)
theorem oG:OpD X (binaryOp .Mult) (i2 bR fun i j=>.int (i*j)):=gI WY (fun i j h=>by
 unfold bR at h
 rw[Bool.or_eq_true] at h
 rcases h with h|h
 ·exact .inl (of_decide_eq_true h)
 ·exact .inr (of_decide_eq_true h)) fun P α i j=>by simp only[Rep]
def Z6 (i j:Int):Bool:=decide (0<j∧j<1073741824)
def wW:G2:=i2 Z6 fun i j=>.int (i/j)
theorem WM:OpD X (binaryOp .FloorDiv) wW:=gI oJ (fun i j h=>(of_decide_eq_true h:0<j∧j<1073741824)) fun P α i j=>by simp only[Rep]
def vX:G2:=i2 (fun _ j=>decide (0<j)) fun i j=>.int (i % j)
theorem WN:OpD X (binaryOp .Mod) vX:=gI WX (fun i j h=>of_decide_eq_true h) fun P α i j=>by simp only[Rep]
def K5 (i j:Int):Bool:=decide (0≤j∧j≤1000000∧i.natAbs<2 ^ 64)
def zF:G2:=i2 K5 fun i j=>.int (i ^ j.toNat)
theorem WO:OpD X (binaryOp .Pow) zF:=gI WZ (fun i j h=>(of_decide_eq_true h:0≤j∧j≤1000000∧i.natAbs<2 ^ 64)) fun P α i j=>by simp only[Rep]
def gLt:G2:=i2 (fun _ _=>true) fun i j=>.bl (decide (i<j))
def gLe:G2:=i2 (fun _ _=>true) fun i j=>.bl (decide (i≤j))
def gGt:G2:=i2 (fun _ _=>true) fun i j=>.bl (decide (j<i))
def gGe:G2:=i2 (fun _ _=>true) fun i j=>.bl (decide (j≤i))
theorem UN:OpD X (compareOp .Lt) gLt:=jK US fun P α i j=>by simp only[Rep]
theorem UM:OpD X (compareOp .LtE) gLe:=jK UR fun P α i j=>by simp only[Rep]
theorem UK:OpD X (compareOp .Gt) gGt:=jK UQ fun P α i j=>by simp only[Rep]
theorem UJ:OpD X (compareOp .GtE) gGe:=jK UP fun P α i j=>by simp only[Rep]
def P6:D→Sto→Res D:=fun a S=>match a with
 |.int i=>.ok (.int (-i)) S
 |_=>.bad
def gIs:G2:=fun a b S=>match b with
 |.non=>match a with
  |.non=>.ok (.bl true) S
  |_=>.ok (.bl false) S
 |_=>.bad
theorem oF {P:Hp}{α : List Addr}{d:D}{v:V}(r:Rep X.K P α d v):decide (v=.non)=(match d with|.non=>true|_=>false):=by
 cases d <;> simp only[Rep] at r
 case non=>subst r;rfl
 case bl=>subst r;rfl
 case int=>subst r;rfl
 case str=>subst r;rfl
 case ty=>subst r;rfl
 case clo=>obtain⟨rfl,_⟩:=r;rfl
 case obj=>obtain⟨rfl,_⟩:=r;rfl
 case tup=>obtain⟨a,vs,rfl,_⟩:=r;rfl
 case lst=>obtain⟨a,vs,rfl,_⟩:=r;rfl
 case dct0=>obtain⟨a,rfl,_⟩:=r;rfl
 case loc=>obtain⟨a,rfl,_⟩:=r;rfl
 case exn=>obtain⟨a,rfl,_⟩:=r;rfl
 case fd=>obtain⟨a,o,vs,rfl,_⟩:=r;rfl
theorem UL:OpD X (compareOp .Is) gIs:=OpD.of WW fun H P α S x y a b Q r p1 p2 af=>by
 cases b with
 |non =>
  simp only[Rep] at p2
  refine⟨p2,?_⟩
  rw[oF p1]
  cases a <;> exact xr af r (by simp only[Rep])
 |_=>exact False.elim af
def qX:G2:=fun a b S=>match a,b with
 |.int i,.int j=>.ok (.int (i+j)) S
 |.str x,.str y=>if x.length+y.length≤lim then .ok (.str (x++y)) S else .bad
 |.tup xs,.tup ys=>if xs.length+ys.length≤lim then .ok (.tup (xs++ys)) S else .bad
 |.lst xs,.lst ys=>if xs.length+ys.length≤lim then .ok (.lst (xs++ys)) S else .bad
 |_,_=>.bad
theorem m9 {pins:List (Addr × Obj)}{σ : _L.St}{H P:Hp}{α : List Addr}{S:Sto}{s:Shared}{xs:List D}{v:V}(I:Inv X pins σ H s)(r:Rel X.K H P α S)(p:Rep X.K P α (.tup xs) v) :
  ∃ a vs its,v=.ref a∧SqT X.K P a vs∧qE X.K P α xs vs∧qL vs its∧IsTup s.heap a its.toArray∧xs.length=its.length∧xs.length≤lim:=by
 simp only[Rep] at p
 obtain⟨a,vs,rfl,q,t⟩:=p
 obtain⟨its,rv,p1,z⟩:=I.tuple (xI r.sub q)
 exact⟨a,vs,its,rfl,q,t,rv,p1,by rw[t.length,rv.length],by rw[t.length,zK];exact z⟩
theorem uC {pins:List (Addr × Obj)}{σ : _L.St}{H P:Hp}{α : List Addr}{S:Sto}{s:Shared}{xs:List D}{v:V}(I:Inv X pins σ H s)(r:Rel X.K H P α S)(p:Rep X.K P α (.lst xs) v) :
  ∃ a vs its n,v=.ref a∧SqX X.K P a vs∧qE X.K P α xs vs∧qL vs its∧s.heap.get? a=some { cls:=.type "list",data:=.seq its.toArray n } ∧ xs.length=its.length∧xs.length≤lim:=by
 simp only[Rep] at p
 obtain⟨a,vs,rfl,q,t⟩:=p
 have:∃ its n,qL vs its∧s.heap.get? a=some { cls:=.type "list",data:=.seq its.toArray n } ∧ vs.length≤sizeLine:=by
  rcases q with q|⟨its,n,e,z,rv⟩
  ·obtain⟨z,its,n,rv,e⟩:=(tP r.sub q).ok I.hok
   exact⟨its,n,rv,e,z⟩
  ·exact⟨its,n,rv,I.kIn _ _ e,z⟩
 obtain⟨its,n,rv,e,z⟩:=this
 exact⟨a,vs,its,n,rfl,q,t,rv,e,by rw[t.length,rv.length],by rw[t.length,zK];exact z⟩
theorem eA {pins:List (Addr × Obj)}{σ : _L.St}{H P:Hp}{α : List Addr}{S:Sto}{s:Shared}{xs:List D}{vs:List V}{its:List Value}{Q:VK}(I:Inv X pins σ H s)(r:Rel X.K H P α S)(t:qE X.K P α xs vs)(rv:qL vs its)(hz:xs.length≤lim)
  (ok:OkV X P α Q (.tup xs) S):EP X pins σ Q (.ref s.heap.objs.size) { s with heap:=s.heap.push { cls:=.type "tuple",data:=.seq its.toArray } }:=by
 refine⟨.ref s.heap.objs.size,_,I.laid (t':=s.toks) (o:=.tup vs) (fun b ob q=>Heap.get?_push_of_some _ q) (Nat.le_refl _) ⟨by rw[← t.length,← zK];exact hz,its,rv,IsTup.new _ _⟩,rfl,kM r (I.hok.fresh (Nat.le_refl _)) t ok⟩
theorem fK {pins:List (Addr × Obj)}{σ : _L.St}{H P:Hp}{α : List Addr}{S:Sto}{s:Shared}{xs:List D}{vs:List V}{its:List Value}{Q:VK}(I:Inv X pins σ H s)(r:Rel X.K H P α S)(t:qE X.K P α xs vs)(rv:qL vs its)(hz:xs.length≤lim)
  (ok:OkV X P α Q (.lst xs) S):EP X pins σ Q (.ref s.heap.objs.size) { s with heap:=s.heap.push { cls:=.type "list",data:=.seq its.toArray } }:=by
 refine⟨.ref s.heap.objs.size,_,I.laid (t':=s.toks) (o:=.lst vs) (fun b ob q=>Heap.get?_push_of_some _ q) (Nat.le_refl _) ⟨by rw[← t.length,← zK];exact hz,its,0,rv,Heap.get?_push_size _ rfl⟩,rfl,v9 r (I.hok.fresh (Nat.le_refl _)) t ok⟩
theorem QZ {pins:List (Addr × Obj)}{σ : _L.St}{H P:Hp}{α : List Addr}{S:Sto}{s:Shared}{xs ys:List D}{v u:V}{vv uu:Value}{Q:VK}(I:Inv X pins σ H s)(r:Rel X.K H P α S)(rv:qK v vv)(ru:qK u uu)(pa:Rep X.K P α (.tup xs) v)(pb:Rep X.K P α (.tup ys) u)(hl:xs.length+ys.length≤lim)(af:OkV X P α Q (.tup (xs++ys)) S) :
  wpAny (model X.prog X.w) X.A (binaryOp .Add vv uu) (EP X pins σ Q) X.xe s:=by
 obtain⟨a,vs,its,rfl,q1,t1,rv1,h1,l1,_⟩:=m9 I r pa
 obtain⟨b,ws,its2,rfl,q2,t2,rv2,h2,l2,_⟩:=m9 I r pb
 cases rv
 cases ru
 by_cases hx:its=[]
 ·obtain⟨⟨cls,dd,data,sl⟩,ho,hc,n,hd⟩:=id h1
  obtain⟨⟨cls2,dd2,data2,sl2⟩,ho2,hc2,n2,hd2⟩:=id h2
  simp only at hc hd hc2 hd2
  subst hc hd hc2 hd2
  have hxs:xs=[]:=List.length_eq_zero_iff.mp (by rw[l1,hx];rfl)
  subst hxs
  exact concat_meets ⟨_,ho,rfl⟩ ⟨_,ho2,rfl⟩ noFill_tuple_add seq_tuple_add PySem.F.slot_tuple_add PySem.F.entry_tuple_add (PySem.F.args_tuple_add_2 _ _) (tuple_addW0 a b its.toArray its2.toArray n n2 dd dd2 sl sl2 (by simp[hx]))
   ⟨ho,ho2,⟨.ref b,H,I,rfl,xr af r pb⟩⟩
 ·refine _H.cat_tup h1 h2 hx (fun z=>⟨.ref a,H,I,rfl,xr af r ?_⟩) (fun z=>?_) (by rw[← l1,← l2,← zK];exact hl)
  ·have hys:ys=[]:=List.length_eq_zero_iff.mp (by rw[l2,z];rfl)
   rw[hys,List.append_nil];exact pa
  ·exact eA I r (t1.append t2) (rv1.append rv2) (by rw[List.length_append];exact hl) af
theorem QY {pins:List (Addr × Obj)}{σ : _L.St}{H P:Hp}{α : List Addr}{S:Sto}{s:Shared}{xs ys:List D}{v u:V}{vv uu:Value}{Q:VK}(I:Inv X pins σ H s)(r:Rel X.K H P α S)(rv:qK v vv)(ru:qK u uu)(pa:Rep X.K P α (.lst xs) v)(pb:Rep X.K P α (.lst ys) u)(hl:xs.length+ys.length≤lim)(af:OkV X P α Q (.lst (xs++ys)) S) :
  wpAny (model X.prog X.w) X.A (binaryOp .Add vv uu) (EP X pins σ Q) X.xe s:=by
 obtain⟨a,vs,its,n,rfl,q1,t1,rv1,h1,l1,_⟩:=uC I r pa
 obtain⟨b,ws,its2,n2,rfl,q2,t2,rv2,h2,l2,_⟩:=uC I r pb
 cases rv
 cases ru
 refine PySem.P.add_list h1 h2 ?_ (by rw[List.size_toArray,List.size_toArray,← l1,← l2,← zK];exact hl)
 rw[List.append_toArray]
 exact fK I r (t1.append t2) (rv1.append rv2) (by rw[List.length_append];exact hl) af
inductive AddV (a b:D)(S:Sto):Prop
 |bad (e:qX a b S=.bad)
 |int (i j:Int) (ea:a=.int i) (eb:b=.int j)
 |str (x y:Str) (ea:a=.str x) (eb:b=.str y)
 |tup (x y:List D) (ea:a=.tup x) (eb:b=.tup y)
 |lst (x y:List D) (ea:a=.lst x) (eb:b=.lst y)
theorem K2 (a b:D)(S:Sto):AddV a b S:=by
 cases a with
 |int i=>cases b with
  |int j=>exact .int i j rfl rfl
  |_=>exact .bad rfl
 |str i=>cases b with
  |str j=>exact .str i j rfl rfl
  |_=>exact .bad rfl
 |tup i=>cases b with
  |tup j=>exact .tup i j rfl rfl
  |_=>exact .bad rfl
 |lst i=>cases b with
  |lst j=>exact .lst i j rfl rfl
  |_=>exact .bad rfl
 |_=>exact .bad rfl
theorem WL:OpD X (binaryOp .Add) qX:=by
 intro pins σ H s P α S v u vv uu a b Q I r rv ru pa pb af
 cases K2 a b S with
 |bad e=>rw[e] at af;exact False.elim af
 |int i j ea eb =>
  subst ea eb
  exact WV pins s σ H v u vv uu Q I rv ru ⟨i,j,zM pa,zM pb,xr af r (by simp only[Rep])⟩
 |str x y ea eb =>
  subst ea eb
  obtain⟨hl,af⟩:=xG (X:=X) af
  simp only[Rep] at pa pb
  exact l7 pins s σ H v u vv uu Q I rv ru ⟨x,y,pa,pb,by rw[← zK];exact hl,xr af r (by simp only[Rep])⟩
 |tup xs ys ea eb =>
  subst ea eb
  obtain⟨hl,af⟩:=xG (X:=X) af
  exact QZ I r rv ru pa pb hl af
 |lst xs ys ea eb =>
  subst ea eb
  obtain⟨hl,af⟩:=xG (X:=X) af
  exact QY I r rv ru pa pb hl af
def gIx:G2:=fun a b S=>match b with
 |.int k=>match a with
  |.tup xs=>yP (atI xs k) S
  |.lst xs=>yP (atI xs k) S
  |.loc i=>match S[i]? with
   |some (.lst xs)=>yP (atI xs k) S
   |_=>.bad
  |_=>.bad
 |_=>.bad
theorem gU {P:Hp}{α : List Addr}{ds:List D}{vs:List V}{k:Int}{d:D}(rp:qE X.K P α ds vs)(h:atI ds k=some d):∃ v,atI vs k=some v∧Rep X.K P α d v:=by
 unfold atI at h ⊢
 rw[← rp.length]
 cases q:ixN ds.length k with
 |none=>rw[q] at h;cases h
 |some j =>
  rw[q] at h
  obtain⟨v,h1,h2⟩:=rp.get (show ds[j]? = some d from h)
  exact⟨v,h1,h2⟩
theorem KO:IxD X gIx:=by
 intro value slice pins σ H s P α S v u vv uu a b Q I r rv ru pa pb af hs
 cases b with
 |int k =>
  have hk:=zM pb
  cases a with
  |tup xs =>
   obtain⟨d,e,ok⟩:=yU (X:=X) af
   simp only[Rep] at pa
   obtain⟨p,vs,rfl,q,t⟩:=pa
   obtain⟨w,e1,rw'⟩:=gU t e
   exact XW value slice pins s σ H _ u vv uu Q I rv ru ⟨p,vs,k,w,rfl,hk,xI r.sub q,e1,xr ok r rw'⟩ hs
  |lst xs =>
   obtain⟨d,e,ok⟩:=yU (X:=X) af
   simp only[Rep] at pa
   obtain⟨p,vs,rfl,q,t⟩:=pa
   obtain⟨w,e1,rw'⟩:=gU t e
   exact tF value slice pins s σ H _ u vv uu Q I rv ru ⟨p,vs,k,w,rfl,hk,(xN r.sub q).l,e1,xr ok r rw'⟩ hs
  |loc i =>
   obtain⟨xs,hS,af⟩:=uV (X:=X) (f:=fun xs=>yP (atI xs k) S) af
   obtain⟨d,e,ok⟩:=yU (X:=X) af
   simp only[Rep] at pa
   obtain⟨p,rfl,q⟩:=pa
   obtain⟨vs,z,t⟩:=r.at' i p _ q hS
   obtain⟨w,e1,rw'⟩:=gU t e
   exact tF value slice pins s σ H _ u vv uu Q I rv ru ⟨p,vs,k,w,rfl,hk,.of z,e1,xr ok r rw'⟩ hs
  |_=>exact False.elim af
 |_=>exact False.elim af
def p8:G3:=fun o i d S=>match o,i with
 |.loc n,.int k=>match S[n]? with
  |some (.lst xs)=>match ixN xs.length k with
   |some j=>.ok () (S.set n (.lst (xs.set j d)))
   |none=>.bad
  |_=>.bad
 |_,_=>.bad
theorem JF:bO X (bL X p8):=by
 intro pins s σ H o i v ov iv u Q I ro ri rv h
 obtain⟨P,α,S,a,b,d,r,pa,pb,pd,af⟩:=h
 cases a with
 |loc n =>
  cases b with
  |int k =>
   obtain⟨xs,hS,af⟩:=uV (X:=X) (f:=fun xs=>match ixN xs.length k with|some j=>.ok () (S.set n (.lst (xs.set j d)))|none=>.bad) af
   cases hj:ixN xs.length k with
   |none=>rw[hj] at af;exact False.elim af
   |some j =>
    rw[hj] at af
    simp only[Rep] at pa
    obtain⟨p,rfl,q⟩:=pa
    obtain⟨vs,z,t⟩:=r.at' n p _ q hS
    refine c0 pins s σ H _ i v ov iv u Q I ro ri rv ⟨p,vs,k,j,rfl,zM pb,z,by rw[← t.length];exact hj,?_⟩
    refine af _ P α (r.put (m':=.lst (xs.set j d)) q hS (by intro z;cases z) ⟨vs.set j v,qV,t.set pd j⟩) (qG.refl _) (List.prefix_refl _)
  |_=>exact False.elim af
 |_=>exact False.elim af
def W6:D→Sto→Option Nat
 |.tup xs,_=>some xs.length
 |.lst xs,_=>some xs.length
 |.str x,_=>if x.length≤lim then some x.length else none
 |.dct0,_=>some 0
 |.loc i,S=>match S[i]? with
  |some (.lst xs)=>some xs.length
  |_=>none
 |_,_=>none
def fE:DF:=fun ds S=>match ds with
 |[d]=>match W6 d S with
  |some n=>.ok (.int n) S
  |none=>.bad
 |_=>.bad
end
end _D
end
section
namespace _D
open PySem PySem.Spec PyProof.Rows _L
section
variable {X:Cx}
theorem k7 {P:Hp}{α : List Addr}{d:D}{vs:List V}{us:List Value}(rp:qE X.K P α [d] vs)(rv:qL vs us):∃ v u,vs=[v]∧us=[u]∧Rep X.K P α d v∧qK v u:=by
 obtain⟨v,ws,rfl,p,t⟩:=rp.cons_inv
 have:=t.nil_inv;subst this
 obtain⟨u,rfl,q⟩:=k9 rv
 exact⟨v,u,rfl,rfl,p,q⟩
theorem vQ {P:Hp}{α : List Addr}{d e:D}{vs:List V}{us:List Value}(rp:qE X.K P α [d,e] vs)(rv:qL vs us):∃ v w u x,vs=[v,w]∧us=[u,x]∧Rep X.K P α d v∧Rep X.K P α e w∧qK v u∧qK w x:=by
 obtain⟨v,ws,rfl,p,t⟩:=rp.cons_inv
 obtain⟨w,ws,rfl,p',t⟩:=t.cons_inv
 have:=t.nil_inv;subst this
 obtain⟨u,x,rfl,q,q'⟩:=bM rv
 exact⟨v,w,u,x,rfl,rfl,p,p',q,q'⟩
def nX (d:D)(S:Sto):Option Nat:=match d with
 |.dct0=>none
 |_=>W6 d S
theorem W7 {H P:Hp}{α : List Addr}{S:Sto}{d:D}{v:V}{n:Nat}(r:Rel X.K H P α S)(p:Rep X.K P α d v)(hn:nX d S=some n):QU X.K v H n:=by
 cases d with
 |str x =>
  cases (show v=.str x from p)
  obtain⟨hl,rfl⟩:=uP hn
  exact⟨by rw[← zK];exact hl,rfl⟩
 |tup xs =>
  simp only[Rep] at p
  obtain⟨a,ws,rfl,sq,t⟩:=p
  cases hn
  exact .inr ⟨ws,xI r.sub sq,t.length⟩
 |lst xs =>
  simp only[Rep] at p
  obtain⟨a,ws,rfl,sq,t⟩:=p
  cases hn
  exact .inl ⟨ws,(xN r.sub sq).l,t.length⟩
 |loc i =>
  simp only[Rep] at p
  obtain⟨a,rfl,e⟩:=p
  obtain⟨xs,hS,hn⟩:=WA (f:=fun xs=>some xs.length) hn
  cases hn
  obtain⟨ws,z,t⟩:=r.at' i a _ e hS
  exact .inl ⟨ws,.of z,t.length⟩
 |_=>exact nn hn
inductive LenD1 (ds:List D)(S:Sto)(r:Res D):Prop
 |bad (e:r=.bad)
 |of (d:D) (n:Nat) (ed:ds=[d]) (hn:nX d S=some n) (e:r=.ok (.int n) S)
theorem UC (ds:List D)(S:Sto):LenD1 ds S (match ds with|[.dct0]=>.bad|_=>fE ds S):=by
 cases ds with
 |nil=>exact .bad rfl
 |cons d ds =>
  cases ds with
  |cons _ _=>cases d <;> exact .bad rfl
  |nil =>
   have z:(match [d] with|[D.dct0]=>Res.bad|_=>fE [d] S)=(match nX d S with|some n=>Res.ok (D.int n) S|none=>.bad):=by cases d <;> rfl
   rw[z]
   cases hn:nX d S with
   |none=>exact .bad rfl
   |some n=>exact .of d n rfl hn rfl
theorem ZD (hD:True):w8 X (.builtin "len") (fun ds S=>match ds with|[.dct0]=>.bad|_=>fE ds S):=by
 intro pins σ H s P α S vs us ds Q I r rv rp af
 have af1:qH X P α (match ds with|[D.dct0]=>Res.bad|_=>fE ds S) (OkV X P α Q):=af
 clear af
 cases UC ds S with
 |bad e=>rw[e] at af1;exact False.elim af1
 |of d n ed hn e =>
  rw[e] at af1
  subst ed
  obtain⟨v,u,rfl,rfl,p,q⟩:=k7 rp rv
  exact sY pins s σ H _ _ Q I rv ⟨v,n,rfl,W7 r p hn,xr af1 r (by simp only[Rep])⟩
def tyD:D→Sto→Option String
 |.non,_=>some "NoneType"
 |.bl _,_=>some "bool"
 |.int _,_=>some "int"
 |.str _,_=>some "str"
 |.tup _,_=>some "tuple"
 |.lst _,_=>some "list"
 |.dct0,_=>some "dict"
 |.loc i,S=>match S[i]? with
  |some (.lst _)=>some "list"
  |some (.dct _)=>some "dict"
  |_=>none
 |_,_=>none
def z9 (a b:String):Bool:=a == b||(a == "bool" && b == "int")
def xB (b:String):Bool:=b == "int" || b == "bool" || b == "tuple" || b == "list" || b == "str" || b == "dict"
def W2 (a b:String):Option Bool:=if (Value.type a == Value.type b)=true then some true else if PySem.W.kitMeta b=true then (fastBuiltinMro a).map (·.contains (.type b)) else none
def tyL:List String:=["NoneType","bool","int","str","tuple","list","dict"]
def okL:List String:=["int","bool","tuple","list","str","dict"]
theorem o6:(tyL.all fun a=>okL.all fun b=>decide (W2 a b=some (z9 a b)))=true:=by decide +kernel
theorem WR {b:String}(hb:xB b=true):b∈okL:=by simpa [xB,okL,or_assoc] using hb
theorem pB {K:PySem.W.Frag}{a b:String}(ha:a∈tyL)(hb:xB b=true):PySem.W.kitOne K (.type a) (.type b)=some (z9 a b):=
 of_decide_eq_true (p:=W2 a b=some (z9 a b)) (List.all_eq_true.mp (List.all_eq_true.mp o6 a ha) b (WR hb))
def x5:DF:=fun ds S=>match ds with
 |[d,.ty b]=>if xB b then match tyD d S with
   |some a=>.ok (.bl (z9 a b)) S
   |none=>.bad
  else .bad
 |_=>.bad
inductive TyV (X:Cx)(H:Hp)(v:V)(a:String):Prop
 |of (t:TyOf X.K H v (.type a))
 |tup (p:Addr) (vs:List V) (e:v=.ref p) (q:SqT X.K H p vs) (ea:a = "tuple")
 |lst (p:Addr) (vs:List V) (e:v=.ref p) (q:SqL X.K H p vs) (ea:a = "list")
theorem mC {d:D}{S:Sto}{a:String}(h:tyD d S=some a):a∈tyL:=by
 cases d with
 |non=>cases h;exact .head _
 |bl b=>cases h;exact .tail _ (.head _)
 |int i=>cases h;exact .tail _ (.tail _ (.head _))
 |str x=>cases h;exact .tail _ (.tail _ (.tail _ (.head _)))
 |tup xs=>cases h;exact .tail _ (.tail _ (.tail _ (.tail _ (.head _))))
 |lst xs=>cases h;exact .tail _ (.tail _ (.tail _ (.tail _ (.tail _ (.head _)))))
 |dct0=>cases h;exact .tail _ (.tail _ (.tail _ (.tail _ (.tail _ (.tail _ (.head _))))))
 |loc i =>
  rcases pE (f:=fun _=>some "list") (g:=fun _=>some "dict") h with⟨_,_,h⟩|⟨_,_,h⟩
  ·cases h;exact .tail _ (.tail _ (.tail _ (.tail _ (.tail _ (.head _)))))
  ·cases h;exact .tail _ (.tail _ (.tail _ (.tail _ (.tail _ (.tail _ (.head _))))))
 |_=>exact nn h
theorem a9 {H P:Hp}{α : List Addr}{S:Sto}{d:D}{v:V}{a:String}(r:Rel X.K H P α S)(p:Rep X.K P α d v)(h:tyD d S=some a):TyV X H v a:=by
 cases d with
 |non=>cases h;cases (show v=.non from p);exact .of .non
 |bl b=>cases h;cases (show v=.bl b from p);exact .of (.bl b)
 |int i=>cases h;cases (show v=.int i from p);exact .of (.int i)
 |str x=>cases h;cases (show v=.str x from p);exact .of (.str x)
 |tup xs =>
  cases h
  simp only[Rep] at p
  obtain⟨a,vs,e,q,t⟩:=p
  exact .tup a vs e (xI r.sub q) rfl
 |lst xs =>
  cases h
  simp only[Rep] at p
  obtain⟨a,vs,e,q,t⟩:=p
  exact .lst a vs e (xN r.sub q).l rfl
 |dct0 =>
  cases h
  simp only[Rep] at p
  obtain⟨a,rfl,q⟩:=p
  exact .of (.dK (r.sub _ _ q))
 |loc i =>
  simp only[Rep] at p
  obtain⟨a,rfl,q⟩:=p
  rcases pE (f:=fun _=>some "list") (g:=fun _=>some "dict") h with⟨xs,hS,h⟩|⟨kvs,hS,h⟩
  ·cases h
   obtain⟨vs,z,t⟩:=r.at' i a _ q hS
   exact .of (.lst z)
  ·cases h
   obtain⟨vs,z,t⟩:=r.at' i a _ q hS
   exact .of (.dK z)
 |_=>exact nn h
inductive IsiV (ds:List D)(S:Sto):Prop
 |bad (e:x5 ds S=.bad)
 |of (d:D) (b a:String) (ed:ds=[d,.ty b]) (hb:xB b=true) (ha:tyD d S=some a) (e:x5 ds S=.ok (.bl (z9 a b)) S)
theorem KN (ds:List D)(S:Sto):IsiV ds S:=by
 cases ds with
 |nil=>exact .bad rfl
 |cons d ds =>
  cases ds with
  |nil=>exact .bad rfl
  |cons e ds =>
   cases ds with
   |cons _ _=>cases e <;> exact .bad rfl
   |nil =>
    cases e with
    |ty b =>
     have z:x5 [d,.ty b] S=if xB b then (match tyD d S with|some a=>.ok (.bl (z9 a b)) S|none=>.bad) else .bad:=rfl
     by_cases hb:xB b=true
     ·rw[if_pos hb] at z
      cases ha:tyD d S with
      |none=>rw[ha] at z;exact .bad z
      |some a=>rw[ha] at z;exact .of d b a rfl hb ha z
     ·rw[if_neg hb] at z
      exact .bad z
    |_=>exact .bad rfl
theorem lM:w8 X (.builtin "isinstance") x5:=by
 intro pins σ H s P α S vs us ds Q I r rv rp af
 cases KN ds S with
 |bad e=>rw[e] at af;exact False.elim af
 |of d b a ed hb ha e =>
  subst ed
  rw[e] at af
  obtain⟨v,w,u,x,rfl,rfl,p,p',q,q'⟩:=vQ rp rv
  simp only[Rep] at p'
  subst p'
  cases (show x=Value.type b from q')
  have kit:=pB (K:=X.K) (mC ha) hb
  have fin:∀ tk,EP X pins σ Q (.bool (z9 a b)) { s with toks:=tk }:=fun tk=>⟨.bl _,H,I.tok tk,rfl,xr af r (by simp only[Rep])⟩
  cases a9 r p ha with
  |of ht=>exact d8 I q ht kit fin
  |tup p' ws e sq ea =>
   subst e ea
   cases (show u=Value.ref p' from q)
   obtain⟨its,rv',⟨o,h1,h2,_⟩,_⟩:=I.tuple sq
   exact PySem.W.kia_one PySem.W.kitx_tuple I.kIn ⟨o,h1,h2⟩ kit (fun z=>nomatch z) fin
  |lst p' ws e sq ea =>
   subst e ea
   cases (show u=Value.ref p' from q)
   obtain⟨its,rv',⟨o,_,h1,h2,_⟩,_⟩:=I.list sq
   exact PySem.W.kia_one PySem.W.kitx_list I.kIn ⟨o,h1,h2⟩ kit (fun z=>nomatch z) fin
def zO:List D→Option (List Bool)
 |[]=>some []
 |.bl b::r=>(zO r).map (b::·)
 |_=>none
theorem wQ {P:Hp}{α : List Addr}:∀ {ds:List D} {bs:List Bool} {vs:List V} {us:List Value},zO ds=some bs→qE X.K P α ds vs→qL vs us→us=bs.map Value.bool
 |[],bs,vs,us,h,rp,rv=>by
  cases h
  have:=rp.nil_inv;subst this
  cases rv;rfl
 |d::ds,bs,vs,us,h,rp,rv=>by
  cases d with
  |bl b =>
   obtain⟨bs',q,rfl⟩:=Option.map_eq_some_iff.mp (show (zO ds).map (b::·)=some bs from h)
   obtain⟨w,ws,rfl,p,t⟩:=rp.cons_inv
   simp only[Rep] at p;subst p
   cases rv with
   |cons q1 q2 =>
    cases (show _=Value.bool b from q1)
    rw[wQ q t q2]
    rfl
  |_=>exact nn h
def kI (any:Bool):DF:=fun ds S=>match ds with
 |[d]=>match (xY d).bind zO with
  |some bs=>.ok (.bl (if any then bs.any id else bs.all id)) S
  |none=>.bad
 |_=>.bad
theorem b7 (bs:List Bool):((List.range bs.length).all fun i=>bs.getD i false)=bs.all id:=by
 induction bs with
 |nil=>rfl
 |cons b bs ih =>
  rw[List.length_cons,List.range_succ_eq_map,List.all_cons,List.all_map,List.all_cons,← ih]
  rfl
theorem b8 (bs:List Bool):((List.range bs.length).any fun i=>bs.getD i false)=bs.any id:=by
 induction bs with
 |nil=>rfl
 |cons b bs ih =>
  rw[List.length_cons,List.range_succ_eq_map,List.any_cons,List.any_map,List.any_cons,← ih]
  rfl
theorem d9 {pins:List (Addr × Obj)}{σ : _L.St}{H:Hp}{s:Shared}{o:Obj}{h':Heap}{tk:Nat}(I:Inv X pins σ H s)(k:∀ b ob,b ∉ [s.heap.objs.size]→(s.heap.push o).get? b=some ob→h'.get? b=some ob):Inv X pins σ H { s with heap:=h',toks:=tk }:=
 I.kept fun b u e=>k b u (by simp;exact Nat.ne_of_lt (Heap.lt_size e)) (Heap.get?_push_of_some _ e)
theorem vS {bs:List Bool}{its:List Value}(hi:its=bs.map Value.bool){A:Around}:TruthOf X.prog X.w A (fun i v=>its.toArray[i]? = some v) (fun i=>bs.getD i false):=fun i v s' Q' E' hv hQ=>by
 subst hi
 have hv':(bs.map Value.bool)[i]? = some v:=by simpa using hv
 rw[List.getElem?_map] at hv'
 cases e:bs[i]? with
 |none=>rw[e] at hv';exact nn hv'
 |some b =>
  rw[e] at hv'
  cases Option.some.inj hv'
  have:bs.getD i false=b:=by simp[List.getD,e]
  have hQ':Q' (bs.getD i false) s':=hQ
  rw[this] at hQ'
  exact wpAny_truthy_bool hQ'
theorem iK {any:Bool}{ds:List D}{S:Sto}{P:Hp}{α : List Addr}{Ok:D→Sto→Prop}(h:qH X P α (kI any ds S) Ok):∃ d xs bs,ds=[d]∧ItV d xs∧zO xs=some bs∧Ok (.bl (if any then bs.any id else bs.all id)) S:=by
 obtain⟨d,rfl,h1⟩:=WS (X:=X) (β:=D) (g:=fun d=>match (xY d).bind zO with|some bs=>.ok (D.bl (if any then bs.any id else bs.all id)) S|none=>.bad) h
 cases hb:(xY d).bind zO with
 |none=>rw[hb] at h1;exact False.elim h1
 |some bs =>
  rw[hb] at h1
  obtain⟨xs,hx,hbs⟩:=Option.bind_eq_some_iff.mp hb
  exact⟨d,xs,bs,rfl,itV hx,hbs,h1⟩
theorem Z9 (any:Bool)(hc:X.calm=true):w8 X (.builtin (if any then "any" else "all")) (kI any):=by
 intro pins σ H s P α S vs us ds Q I r rv rp af
 obtain⟨d,xs,bs,ed,hd,hbs,ok⟩:=iK af
 clear af
 subst ed
 obtain⟨v,u,rfl,rfl,p,q⟩:=k7 rp rv
 clear rp
 have fin:∀ {o:Obj} (h':Heap) (tk:Nat),(∀ b ob,b ∉ [s.heap.objs.size]→(s.heap.push o).get? b=some ob→h'.get? b=some ob)→EP X pins σ Q (.bool (if any then bs.any id else bs.all id)) { s with heap:=h',toks:=tk }:=
  fun {o} h' tk k=>⟨.bl _,H,d9 I k,rfl,xr ok r (by simp only[Rep])⟩
 clear rv ok
 have hh:X.A.in1.handled=none:=I.ok.hd hc
 cases hd with
 |tup ed =>
  subst ed
  obtain⟨a,ws,its,rfl,sq,t,rvi,ht,hl,_⟩:=m9 I r p
  cases (show u=Value.ref a from q)
  have hi:=wQ hbs t rvi
  have hlen:its.toArray.size=bs.length:=by rw[hi];simp
  have hne:a≠s.heap.objs.size:=by obtain⟨o,e,_⟩:=ht;exact Nat.ne_of_lt (Heap.lt_size e)
  have W:=Walks.tuple (prog:=X.prog) (w:=X.w) hh s.heap.objs.size a hne its.toArray
  have hT:∀ o,(s.heap.push o).IsTuple a its.toArray:=fun o=>by obtain⟨o,e,c⟩:=ht;exact⟨o,Heap.get?_push_of_some _ e,c⟩
  have ht':s.heap.IsTuple a its.toArray:=ht
  cases any with
  |false =>
   refine call_all_walk (wpAny_pyIter_tuple ht' ⟨s.heap.objs.size,_,_,_,_,_,_,rfl,W,⟨⟨_,Heap.get?_push_size _ rfl,rfl,rfl⟩,hT _⟩,vS hi,fun h' tk k=>?_⟩)
   rw[hlen,b7]
   exact fin h' tk k
  |true =>
   refine call_any_walk (wpAny_pyIter_tuple ht' ⟨s.heap.objs.size,_,_,_,_,_,_,rfl,W,⟨⟨_,Heap.get?_push_size _ rfl,rfl,rfl⟩,hT _⟩,vS hi,fun h' tk k=>?_⟩)
   rw[hlen,b8]
   exact fin h' tk k
 |lst ed =>
  subst ed
  obtain⟨a,ws,its,n,rfl,sq,t,rvi,ht,hl,_⟩:=uC I r p
  cases (show u=Value.ref a from q)
  have hL:s.heap.IsList a its.toArray:=⟨_,ht,rfl,n,rfl⟩
  have hi:=wQ hbs t rvi
  have hlen:its.toArray.size=bs.length:=by rw[hi];simp
  have hne:a≠s.heap.objs.size:=Nat.ne_of_lt (Heap.lt_size ht)
  have W:=Walks.list (prog:=X.prog) (w:=X.w) hh s.heap.objs.size a hne its.toArray
  have hL':∀ o,(s.heap.push o).IsList a its.toArray:=fun o=>⟨_,Heap.get?_push_of_some _ ht,rfl,n,rfl⟩
  cases any with
  |false =>
   refine call_all_walk (wpAny_pyIter_list hL ⟨s.heap.objs.size,_,_,_,_,_,_,rfl,W,⟨⟨_,Heap.get?_push_size _ rfl,rfl,rfl⟩,hL' _⟩,vS hi,fun h' tk k=>?_⟩)
   rw[hlen,b7]
   exact fin h' tk k
  |true =>
   refine call_any_walk (wpAny_pyIter_list hL ⟨s.heap.objs.size,_,_,_,_,_,_,rfl,W,⟨⟨_,Heap.get?_push_size _ rfl,rfl,rfl⟩,hL' _⟩,vS hi,fun h' tk k=>?_⟩)
   rw[hlen,b8]
   exact fin h' tk k
def fD:DF:=fun ds S=>match ds with
 |[.int i]=>.ok (.int i) S
 |[.bl b]=>.ok (.int (b01 b)) S
 |_=>.bad
inductive IntV (ds:List D)(S:Sto):Prop
 |bad (e:fD ds S=.bad)
 |int (i:Int) (e:ds=[.int i])
 |bl (b:Bool) (e:ds=[.bl b])
theorem KJ (ds:List D)(S:Sto):IntV ds S:=by
 cases ds with
 |nil=>exact .bad rfl
 |cons d ds =>
  cases ds with
  |cons _ _=>cases d <;> exact .bad rfl
  |nil =>
   cases d with
   |int i=>exact .int i rfl
   |bl b=>exact .bl b rfl
   |_=>exact .bad rfl
theorem ZC:w8 X (.type "int") fD:=by
 intro pins σ H s P α S vs us ds Q I r rv rp af
 cases KJ ds S with
 |bad e=>rw[e] at af;exact False.elim af
 |int i e =>
  subst e
  obtain⟨v,u,rfl,rfl,p,q⟩:=k7 rp rv
  exact pQ pins s σ H _ _ Q I rv (.inl ⟨_,by rw[zM p],xr af r (by simp only[Rep])⟩)
 |bl b e =>
  subst e
  obtain⟨v,u,rfl,rfl,p,q⟩:=k7 rp rv
  simp only[Rep] at p;subst p
  exact pQ pins s σ H _ _ Q I rv (.inr ⟨_,rfl,xr af r (by simp only[Rep];rfl)⟩)
end
end _D
end
section
namespace _D
open PySem PySem.Spec PyProof.Rows _L
section
variable {X:Cx}
structure ClsK (K:PySem.W.Frag)(cl:List Addr):Prop where
 ex:∀ C∈cl,ExnK K C
 one:∀ C∈cl,∀ B∈cl,PySem.W.kitOne K (.ref C) (.ref B)=some (C == B)
 ve:∀ C∈cl,PySem.W.kitOne K (.ref C) (.type "ValueError")=some true
def zG (cl:List Addr):DF:=fun ds S=>match ds with
 |[.exn (.ref C),.obj B]=>if cl.contains C&&cl.contains B then .ok (.bl (C == B)) S else .bad
 |[.exn (.ref C),.ty b]=>if cl.contains C&&(b == "ValueError") then .ok (.bl true) S else .bad
 |_=>x5 ds S
theorem lU {pins:List (Addr × Obj)}{σ : _L.St}{H P:Hp}{α : List Addr}{S:Sto}{s:Shared}{C:Addr}{v:V}{u:Value}(I:Inv X pins σ H s)(r:Rel X.K H P α S)(p:Rep X.K P α (.exn (.ref C)) v)(q:qK v u):∃ a,u=.ref a∧yG a C s.heap:=by
 simp only[Rep] at p
 obtain⟨a,rfl,z⟩:=p
 obtain⟨y,_⟩:=I.hok a _ (r.sub _ _ z)
 exact⟨a,q,y⟩
inductive IsiE (cl:List Addr)(ds:List D)(S:Sto):Prop
 |bad (e:zG cl ds S=.bad)
 |old (e:zG cl ds S=x5 ds S)
 |obj (C B:Addr) (ed:ds=[.exn (.ref C),.obj B]) (h1:C∈cl) (h2:B∈cl) (e:zG cl ds S=.ok (.bl (C == B)) S)
 |ve (C:Addr) (ed:ds=[.exn (.ref C),.ty "ValueError"]) (h1:C∈cl) (e:zG cl ds S=.ok (.bl true) S)
theorem UA (cl:List Addr)(C:Addr)(d:D)(S:Sto):IsiE cl [.exn (.ref C),d] S:=by
 cases d with
 |obj B =>
  have z:zG cl [.exn (.ref C),.obj B] S=if (cl.contains C&&cl.contains B)=true then .ok (.bl (C == B)) S else .bad:=rfl
  by_cases h:(cl.contains C&&cl.contains B)=true
  ·rw[if_pos h] at z
   have h':=Bool.and_eq_true_iff.mp h
   exact .obj C B rfl (List.contains_iff_mem.mp h'.1) (List.contains_iff_mem.mp h'.2) z
  ·rw[if_neg h] at z
   exact .bad z
 |ty b =>
  have z:zG cl [.exn (.ref C),.ty b] S=if (cl.contains C&&(b == "ValueError"))=true then .ok (.bl true) S else .bad:=rfl
  by_cases h:(cl.contains C&&(b == "ValueError"))=true
  ·rw[if_pos h] at z
   have h':=Bool.and_eq_true_iff.mp h
   cases (beq_iff_eq.mp h'.2)
   exact .ve C rfl (List.contains_iff_mem.mp h'.1) z
  ·rw[if_neg h] at z
   exact .bad z
 |_=>exact .old rfl
theorem KM (cl:List Addr)(ds:List D)(S:Sto):IsiE cl ds S:=by
 cases ds with
 |nil=>exact .old rfl
 |cons a ds =>
  cases a with
  |exn c =>
   cases c with
   |ref C =>
    cases ds with
    |nil=>exact .old rfl
    |cons b ds =>
     cases ds with
     |nil=>exact UA cl C b S
     |cons _ _=>cases b <;> exact .old rfl
   |_=>exact .old rfl
  |_=>exact .old rfl
theorem aG {cl:List Addr}(hK:ClsK X.K cl):w8 X (.builtin "isinstance") (zG cl):=by
 intro pins σ H s P α S vs us ds Q I r rv rp af
 cases KM cl ds S with
 |bad e=>rw[e] at af;exact False.elim af
 |old e=>rw[e] at af;exact lM pins σ H s P α S vs us ds Q I r rv rp af
 |obj C B ed h1 h2 e =>
  rw[e] at af
  subst ed
  obtain⟨v,w,u,x,rfl,rfl,p,p',q,q'⟩:=vQ rp rv
  simp only[Rep] at p'
  obtain⟨rfl,_⟩:=p'
  cases (show x=Value.ref B from q')
  obtain⟨a,rfl,ha⟩:=lU I r p q
  exact PySem.W.kia_one (fJ (hK.ex C h1)) I.kIn ha (hK.one C h1 B h2) (fun z=>nomatch z) fun tk=>⟨.bl _,H,I.tok tk,rfl,xr af r (by simp only[Rep])⟩
 |ve C ed h1 e =>
  rw[e] at af
  subst ed
  obtain⟨v,w,u,x,rfl,rfl,p,p',q,q'⟩:=vQ rp rv
  simp only[Rep] at p'
  subst p'
  cases (show x=Value.type "ValueError" from q')
  obtain⟨a,rfl,ha⟩:=lU I r p q
  exact PySem.W.kia_one (fJ (hK.ex C h1)) I.kIn ha (hK.ve C h1) (fun z=>nomatch z) fun tk=>⟨.bl _,H,I.tok tk,rfl,xr af r (by simp only[Rep])⟩
def MtD (X:Cx)(id:String)(g:D→List D→Sto→Res D):Prop:=
 ∀ (pins:List (Addr × Obj)) (σ : _L.St) (H:Hp) (s:Shared) (P:Hp) (α : List Addr) (S:Sto) (v:V) (vv:Value) (vs:List V) (us:List Value) (a:D) (ds:List D) (Q:VK),Inv X pins σ H s→Rel X.K H P α S→qK v vv→Rep X.K P α a v→qL vs us→qE X.K P α ds vs→qR X P α (g a ds S) Q →
  wpAny (model X.prog X.w) X.A (call (.builtin id) (vv::us)) (EP X pins σ Q) X.xe s
def dBm (T:String)(g:D→List D→Sto→Res D)(fo:DE)(fa:DA):DE:=fun env S=>(fo env S).bind fun a S1=>if (tyD a S1 == some T)=true then (fa env S1).bind fun ds S2=>g a ds S2 else .bad
theorem VB {H P:Hp}{α : List Addr}{S:Sto}{a:D}{v:V}{T:String}(r:Rel X.K H P α S)(p:Rep X.K P α a v)(h:tyD a S=some T)(hT:T = "list" ∨ T = "dict" ∨ T = "int" ∨ T = "str"):tyV X.K T v H:=by
 cases a with
 |int i=>cases h;simp only[Rep] at p;subst p;rfl
 |str x=>cases h;simp only[Rep] at p;subst p;rfl
 |lst xs =>
  cases h
  simp only[Rep] at p
  obtain⟨b,vs,rfl,q,t⟩:=p
  exact .inl ⟨rfl,vs,(xN r.sub q).l⟩
 |dct0 =>
  cases h
  simp only[Rep] at p
  obtain⟨b,rfl,q⟩:=p
  exact .inr (.inr (.inl ⟨rfl,.inl ⟨[],r.sub _ _ q⟩⟩))
 |loc i =>
  simp only[Rep] at p
  obtain⟨b,rfl,q⟩:=p
  rcases pE (f:=fun _=>some "list") (g:=fun _=>some "dict") h with⟨xs,hS,h⟩|⟨kvs,hS,h⟩
  ·cases h
   obtain⟨vs,z,t⟩:=r.at' i b _ q hS
   exact .inl ⟨rfl,vs,SqL.of z⟩
  ·cases h
   obtain⟨vs,z,t⟩:=r.at' i b _ q hS
   exact .inr (.inr (.inl ⟨rfl,.inl ⟨vs,z⟩⟩))
 |non=>cases h;exact absurd hT (by decide)
 |bl b=>cases h;exact absurd hT (by decide)
 |tup xs=>cases h;exact absurd hT (by decide)
 |_=>exact nn h
variable {o e:Expr}{es:List Expr}{fo:DE}{fa:DA}{name:Str}{apos cpos:Pos}{T id:String}{g:D→List D→Sto→Res D}
theorem ZJ {P:Hp}{α : List Addr}{a:D}{S:Sto}{β : Type}{k:Res β}{Ok:β→Sto→Prop}(h:qH X P α (if (tyD a S == some T)=true then k else .bad) Ok):tyD a S=some T∧qH X P α k Ok:=by
 by_cases z:(tyD a S == some T)=true
 ·rw[if_pos z] at h;exact⟨beq_iff_eq.mp z,h⟩
 ·rw[if_neg z] at h;exact False.elim h
theorem VQ (pa:PlainAttrs T)(slot:Slot T name id)(hty:typeOf (.builtin id)=pure (.type "method_descriptor"))(hT:T = "list" ∨ T = "dict" ∨ T = "int" ∨ T = "str")(hm:MtD X id g)(ho:PE X o (tD X fo))(ha:PA X (e::es) (tDA X fa))
  (hbase:attributeBase o name X.env (eval o X.env)=eval o X.env:=by rfl)
  (hfew:((backTo cpos (starEach (e::es) X.env)).all (fun x=>!x.1)&&(backToKw cpos (keywordEach [] X.env)).all (fun x=>x.1.isSome)
   && decide ((e::es).length+([]:List Keyword).length+(if ([] : List Keyword).isEmpty then 0 else 1)<30))=true:=by rfl)
  (hline:(apos.endLine == cpos.line)=true:=by rfl) (hs:starEach (e::es) X.env=(false,eval e X.env)::starEach es X.env:=by rfl) (hplain:(backTo cpos (starEach es X.env)).any (·.1)=false:=by rfl) :
  PE X (.Call (.Attribute o name apos) (e::es) [] cpos) (tD X (dBm T g fo fa)):=by
 intro pins s σ H Q I h
 obtain⟨P,α,env,S,r,re,af⟩:=h
 refine wpAny_Call_method_late hbase hfew hline rfl (thn (zT ho I r re af) fun vv s1 ⟨v,H1,P1,α1,d,S1,G1,af1⟩=>?_)
 obtain⟨ht,af2⟩:=ZJ af1
 obtain⟨h1,h2⟩:=VA G1.inv G1.val (VB G1.rel G1.rep ht hT)
 refine⟨T,id,pa,slot,hty,h1,h2,?_⟩
 have hA:=xO ha G1.inv G1.rel G1.env (P:=P1) (α:=α1) (Ok:=OkV X P1 α1 Q) (qR.base G1.same G1.pre (r:=(fa env S1).bind fun ds S2=>g d ds S2) af2) cpos
 rw[hs] at hA ⊢
 refine Calls.callWith_builtin (by show (false||(backTo cpos (starEach es X.env)).any (·.1))=false;rw[hplain] <;> rfl) (Calls.evalArgs_plain ?_)
 exact thn hA fun us s2 ⟨vs,H2,P2,α2,ds,S2,I2,rv,r2,re2,rp2,e1,e2,af3⟩=>hm pins σ H2 s2 P2 α2 S2 v vv vs us d ds Q I2 r2 G1.val (Rep.mono e1 e2 _ _ G1.rep) rv rp2 (qR.base e1 e2 af3)
def iO:D→List D→Sto→Res D:=fun a ds S=>match a,ds with
 |.loc i,[d]=>match S[i]? with
  |some (.lst xs)=>if xs.length<lim then .ok .non (S.set i (.lst (xs++[d]))) else .bad
  |_=>.bad
 |_,_=>.bad
end
end _D
end
section
namespace _D
open PySem PySem.Spec PyProof.Rows _L
def pA:D→Option Key
 |.int i=>some (.inl i)
 |.str x=>some (.inr x)
 |_=>none
def GE (kvs:List (Key × D))(k:Key):Option D:=(kvs.find? fun kv=>decide (kv.1=k)).map (·.2)
def pH (kvs:List (Key × D))(k:Key)(v:D):List (Key × D):=
 if (kvs.any fun kv=>decide (kv.1=k))=true then kvs.map (fun kv=>if kv.1=k then (kv.1,v) else kv) else kvs++[(k,v)]
section
variable {K:PySem.W.Frag}{P:Hp}{α : List Addr}
theorem o9 {kvs:List (Key × D)}{vs:List (Key × V)}(r:KVs K P α kvs vs):kvs.length=vs.length:=Paired.length r
theorem o7 {k:Key}{kvs:List (Key × D)}{vs:List (Key × V)}(h:KVs K P α kvs vs):(kvs.any fun kv=>decide (kv.1=k))=(vs.any fun kv=>decide (kv.1=k)):=by
 induction h with
 |nil=>rfl
 |cons z t ih=>rw[List.any_cons,List.any_cons,ih,z.1]
theorem oA {k:Key}{d:D}{v:V}(q:Rep K P α d v){kvs:List (Key × D)}{vs:List (Key × V)}(h:KVs K P α kvs vs):KVs K P α (kvs.map fun kv=>if kv.1=k then (kv.1,d) else kv) (vs.map fun kv=>if kv.1=k then (kv.1,v) else kv):=by
 induction h with
 |nil=>exact .nil
 |cons z t ih =>
  rw[List.map_cons,List.map_cons]
  refine .cons ?_ ih
  rw[← z.1]
  split
  ·exact⟨rfl,q⟩
  ·exact z
theorem o8 {k:Key}{d:D}{v:V}(q:Rep K P α d v){kvs:List (Key × D)}{vs:List (Key × V)}(h:KVs K P α kvs vs):KVs K P α (kvs++[(k,d)]) (vs++[(k,v)]):=by
 induction h with
 |nil=>exact .cons ⟨rfl,q⟩ .nil
 |cons z t ih=>exact .cons z ih
theorem oB {k:Key}{d:D}{v:V}(q:Rep K P α d v){kvs:List (Key × D)}{vs:List (Key × V)}(r:KVs K P α kvs vs):KVs K P α (pH kvs k d) (y6 vs k v):=by
 unfold pH y6
 rw[o7 r]
 split
 ·exact oA q r
 ·exact o8 q r
theorem XX {d:D}{k:Key}{v:V}(h:pA d=some k)(r:Rep K P α d v):v=kV k:=by
 cases d with
 |int i=>cases h;simp only[Rep] at r;exact r
 |str x=>cases h;simp only[Rep] at r;exact r
 |_=>cases h
end
section
variable {X:Cx}{o i e:Expr}{pos:Pos}{fo fi:DE}
def nN:DE:=fun _ S=>.ok .dct0 S
theorem aX:PE X (.Dict [] [] pos) (tD X nN):=by
 refine peW eQ fun σ H Q ⟨P,α,env,S,r,re,af⟩ p hp=>?_
 obtain⟨r1,e1⟩:=r.pure (o:=.dK []) hp
 refine af _ _ _ α r1 e1 (List.prefix_refl _) ?_
 simp only[Rep]
 exact⟨p,rfl,qV⟩
def yH:G3:=fun o i d S=>match o with
 |.loc n=>match S[n]? with
  |some (.dct kvs)=>match pA i with
   |some k=>if kvs.length<lim then .ok () (S.set n (.dct (pH kvs k d))) else .bad
   |none=>.bad
  |_=>p8 o i d S
 |_=>p8 o i d S
inductive Set2V (a b d:D)(S:Sto):Prop
 |bad (e:yH a b d S=.bad)
 |old (e:yH a b d S=p8 a b d S)
 |of (n:Nat) (kvs:List (Key × D)) (k:Key) (ea:a=.loc n) (hS:S[n]? = some (.dct kvs)) (hk:pA b=some k) (hl:kvs.length<lim) (e:yH a b d S=.ok () (S.set n (.dct (pH kvs k d))))
theorem JE (a b d:D)(S:Sto):Set2V a b d S:=by
 cases a with
 |loc n =>
  have z:yH (.loc n) b d S=(match S[n]? with|some (.dct kvs)=>(match pA b with|some k=>(if kvs.length<lim then .ok () (S.set n (.dct (pH kvs k d))) else .bad)|none=>.bad)|_=>p8 (.loc n) b d S):=rfl
  cases hS:S[n]? with
  |none=>rw[hS] at z;exact .old z
  |some m =>
   rw[hS] at z
   cases m with
   |dct kvs =>
    cases hk:pA b with
    |none=>rw[hk] at z;exact .bad z
    |some k =>
     rw[hk] at z
     by_cases hl:kvs.length<lim
     ·exact .of n kvs k rfl hS hk hl (z.trans (if_pos hl))
     ·exact .bad (z.trans (if_neg hl))
   |_=>exact .old z
 |_=>exact .old rfl
theorem V3 (hu:X.A.units+1<cLine):bO X (bL X yH):=by
 intro pins s σ H o i v ov iv u Q I ro ri rv h
 obtain⟨P,α,S,a,b,d,r,pa,pb,pd,af⟩:=h
 cases JE a b d S with
 |bad e=>rw[e] at af;exact False.elim af
 |old e =>
  rw[e] at af
  exact JF pins s σ H o i v ov iv u Q I ro ri rv ⟨P,α,S,a,b,d,r,pa,pb,pd,af⟩
 |of n kvs k ea hS hk hl e =>
  rw[e] at af
  subst ea
  simp only[Rep] at pa
  obtain⟨p,rfl,q⟩:=pa
  obtain⟨vs,z,t⟩:=r.at' n p _ q hS
  cases XX hk pb
  cases (show ov=Value.ref p from ro)
  refine lP hu I (gS.k (v:=v) z (by rw[← o9 t,← zK];exact hl)) ri rv fun s' I'=>⟨_,I',?_⟩
  exact af _ P α (r.put (m':=.dct (pH kvs k d)) q hS (by intro z;cases z) ⟨_,qV,oB pd t⟩) (qG.refl _) (List.prefix_refl _)
def GZ:D→List D→Sto→Res D:=fun a ds S=>match a,ds with
 |.loc n,[i,x]=>match S[n]? with
  |some (.dct kvs)=>match pA i with
   |some k=>.ok ((GE kvs k).getD x) S
   |none=>.bad
  |_=>.bad
 |_,_=>.bad
def g9:D→List D→Sto→Res D:=fun a ds S=>match a,ds with
 |.lst xs,[.bl k]=>match zO xs with
  |some bs=>.ok (.int (bs.countP (· == k):Nat)) S
  |none=>.bad
 |_,_=>.bad
def p9 (k:Bool):List Bool→Option Nat
 |[]=>none
 |b::r=>if b=k then some 0 else (p9 k r).map (· + 1)
def gA:D→List D→Sto→Res D:=fun a ds S=>match a,ds with
 |.lst xs,[.bl k]=>match (zO xs).bind (p9 k) with
  |some j=>.ok (.int j) S
  |none=>.bad
 |_,_=>.bad
theorem fB (k:Bool){bs:List Bool}{y:Value}(hy:y∈(bs.map Value.bool).toArray):PySem.MeetsSeq.EqGives y (.bool k) (isBoolOf k y):=by
 have hy':y∈bs.map Value.bool:=by rwa [List.mem_toArray] at hy
 obtain⟨b,_,rfl⟩:=List.mem_map.mp hy'
 exact fun prog w A E s Q h=>PySem.SeqAt.EqAt.bool_bool b k prog w E Q h
theorem mH (k:Bool)(bs:List Bool):(bs.map Value.bool).countP (isBoolOf k)=bs.countP (· == k):=by
 rw[List.countP_map]
 rfl
theorem kW {β : Type}{r:Res β}{P:Hp}{α : List Addr}{Ok:β→Sto→Prop}(e:r=.bad)(h:qH X P α r Ok):False:=by
 rw[e] at h
 exact h
inductive BlV (a:D)(ds:List D):Prop
 |no (h:∀ (g:List D→Bool→Res D),(match a,ds with|.lst xs,[.bl k]=>g xs k|_,_=>.bad)=.bad)
 |of (xs:List D) (k:Bool) (ea:a=.lst xs) (ed:ds=[.bl k])
theorem blV (a:D)(ds:List D):BlV a ds:=by
 cases a with
 |lst xs =>
  cases ds with
  |nil=>exact .no fun _=>rfl
  |cons d ds =>
   cases ds with
   |cons _ _=>cases d <;> exact .no fun _=>rfl
   |nil =>
    cases d with
    |bl k=>exact .of xs k rfl rfl
    |_=>exact .no fun _=>rfl
 |_=>exact .no fun _=>rfl
theorem eI:MtD X "list.count" g9:=by
 intro pins σ H s P α S v vv vs us a ds Q I r rv p rvs rps af
 cases blV a ds with
 |no h=>exact(kW (X:=X) (r:=g9 a ds S) (h _) af).elim
 |of xs k ea ed =>
  subst ea ed
  have af:qH X P α (match zO xs with|some bs=>Res.ok (D.int (bs.countP (· == k):Nat)) S|none=>.bad) (OkV X P α Q):=af
  cases hb:zO xs with
  |none=>rw[hb] at af;exact False.elim af
  |some bs =>
   rw[hb] at af
   obtain⟨vx,ux,rfl,rfl,px,qx⟩:=k7 rps rvs
   simp only[Rep] at px
   subst px
   cases (show ux=Value.bool k from qx)
   obtain⟨b,ws,its,n,rfl,sq,t,rvi,ht,hl,_⟩:=uC I r p
   cases (show vv=Value.ref b from rv)
   have hi:=wQ hb t rvi
   subst hi
   refine call_meets PySem.F.slot_list_count ⟨_,ht,rfl⟩ PySem.F.entry_list_count (PySem.F.args_list_count_2 _ _) (PySem.SeqAt.list_countAt b (bs.map Value.bool).toArray n none #[] (.bool k) (isBoolOf k)) ⟨ht,fun y hy=>(fB k hy).at _ _,?_⟩
   refine⟨.int _,H,I.tok _,⟨_,rfl⟩,?_⟩
   rw[show (bs.map Value.bool).toArray.toList=bs.map Value.bool from rfl,mH]
   exact xr af r (by simp only[Rep])
theorem t9 {k:Bool}:∀ {bs:List Bool} {j:Nat},p9 k bs=some j→∃ h:j<bs.length,bs[j]=k∧∀ m (hm:m<bs.length),m<j→bs[m]≠k
 |[],j,h=>by cases h
 |b::r,j,h=>by
  unfold p9 at h
  by_cases hb:b=k
  ·rw[if_pos hb] at h
   cases h
   exact⟨by simp,by simpa using hb,fun m hm z=>absurd z (Nat.not_lt_zero _)⟩
  ·rw[if_neg hb] at h
   obtain⟨i,hi,rfl⟩:=Option.map_eq_some_iff.mp h
   obtain⟨h1,h2,h3⟩:=t9 hi
   refine⟨by simp;omega,by simpa using h2,fun m hm hl=>?_⟩
   cases m with
   |zero=>simpa using hb
   |succ m=>simpa using h3 m (by simp at hm;omega) (by omega)
theorem eJ:MtD X "list.index" gA:=by
 intro pins σ H s P α S v vv vs us a ds Q I r rv p rvs rps af
 cases blV a ds with
 |no h=>exact(kW (X:=X) (r:=gA a ds S) (h _) af).elim
 |of xs k ea ed =>
  subst ea ed
  have af:qH X P α (match (zO xs).bind (p9 k) with|some j=>Res.ok (D.int j) S|none=>.bad) (OkV X P α Q):=af
  cases hj:(zO xs).bind (p9 k) with
  |none=>rw[hj] at af;exact False.elim af
  |some j =>
   rw[hj] at af
   obtain⟨bs,hb,hi⟩:=Option.bind_eq_some_iff.mp hj
   obtain⟨vx,ux,rfl,rfl,px,qx⟩:=k7 rps rvs
   simp only[Rep] at px
   subst px
   cases (show ux=Value.bool k from qx)
   obtain⟨b,ws,its,n,rfl,sq,t,rvi,ht,hl,hz⟩:=uC I r p
   cases (show vv=Value.ref b from rv)
   have hi':=wQ hb t rvi
   subst hi'
   obtain⟨h1,h2,h3⟩:=t9 hi
   have hlen:bs.length≤sizeLine:=by
    have e1:=t.length
    have e2:=rvi.length
    rw[List.length_map] at e2
    rw[zK] at hz
    omega
   refine call_meets PySem.F.slot_list_index ⟨_,ht,rfl⟩ PySem.F.entry_list_index (PySem.F.args_list_index_2 _ _) (PySem.MeetsSeq.list_index b (bs.map Value.bool).toArray n (.bool k) (isBoolOf k) (fun y hy=>fB k hy) j (by simpa using h1) ?_ ?_ ?_) ⟨ht,?_⟩
   ·rw[sizeLine_eq] at hlen;omega
   ·simp[isBoolOf,h2]
   ·intro m hm hl'
    have hm':m<bs.length:=by simpa using hm
    have:=h3 m hm' hl'
    simp[isBoolOf,this]
   ·exact⟨.int _,H,I.tok _,⟨_,rfl⟩,xr af r (by simp only[Rep])⟩
end
end _D
end
section
namespace _D
open PySem PySem.Spec PyProof.Rows _L
def y9 (t:DT)(f:DS):Nat→qD→Sto→Out
 |0,_,_=>.bad
 |n+1,env,S=>(t env S).toS env fun b S1=>if b then (match f env S1 with
   |.nx env2 S2=>y9 t f n env2 S2
   |.ct env2 S2=>y9 t f n env2 S2
   |.bk env2 S2=>.nx env2 S2
   |o=>o) else .nx env S1
theorem lH:∃ n:Nat,n=2 ^ 60:=⟨_,rfl⟩
noncomputable def big:Nat:=Classical.choose lH
theorem Z4:big=2 ^ 60:=Classical.choose_spec lH
noncomputable def gN (t:DT)(f:DS):DS:=fun env S=>y9 t f big env S
section
variable {X:Cx}{pos:Pos}
inductive WhI (X:Cx)(P:Hp)(α : List Addr)(t:DT)(f:DS)(D:Ends)(m:Nat)(σ : _L.St)(H:Hp):Prop
 |mk (P2:Hp) (α2:List Addr) (env2:qD) (S2:Sto) (r:Rel X.K H P2 α2 S2) (re:qS X.K P2 α2 σ env2) (e1:qG P P2) (e2:α<+:α2) (af:qT X P2 α2 (y9 t f m env2 S2) D):WhI X P α t f D m σ H
theorem rN {c:Expr}{body:List Stmt}{t:DT}{f:DS}(hp:PassesOwn (model X.prog X.w) X.A X.env X.xe)(hc:PT X c (tDT X t))(hb:PSs X body (tDS X f)):PS X (.While c body [] pos) (tDS X (gN t f)):=
 psW (eV hp hc hb) fun D σ H ⟨P,α,env,S,r,re,af⟩=>by
  refine⟨WhI X P α t f D,⟨big,P,α,env,S,r,re,qG.refl _,List.prefix_refl _,af⟩,?_⟩
  rintro m σ2 H2 ⟨P2,α2,env2,S2,r2,re2,e1,e2,af2⟩
  cases m with
  |zero=>exact False.elim af2
  |succ m =>
   have af3:=w6 af2
   refine⟨P2,α2,env2,S2,r2,re2,?_⟩
   cases q:t env2 S2 with
   |bad=>rw[q] at af3;exact af3
   |ex c x S'=>rw[q] at af3;exact af3
   |ok b S3 =>
    rw[q] at af3
    intro H3 P3 α3 r3 e3 e4
    have af4:qT X P3 α3 (if b then (match f env2 S3 with|.nx env2 S2=>y9 t f m env2 S2|.ct env2 S2=>y9 t f m env2 S2|.bk env2 S2=>.nx env2 S2|o=>o) else .nx env2 S3) D:=qT.base e3 e4 af3
    cases b with
    |false=>exact af4 σ2 H3 P3 α3 r3 (re2.mono e3 e4) (qG.refl _) (List.prefix_refl _)
    |true =>
     simp only[if_true] at af4 ⊢
     refine⟨WhI X P α t f D m,fun σ' H' w=>⟨m,Nat.lt_succ_self _,w⟩,P3,α3,env2,S3,r3,re2.mono e3 e4,?_⟩
     cases q2:f env2 S3 with
     |bad=>rw[q2] at af4;exact af4
     |ex c x env4 S4=>rw[q2] at af4;exact af4
     |rt d4 S4=>rw[q2] at af4;exact af4
     |bk env4 S4=>rw[q2] at af4;exact af4
     |nx env4 S4 =>
      rw[q2] at af4
      exact fun σ5 H5 P5 α5 r5 re5 e8 e9=>⟨P5,α5,env4,S4,r5,re5,(e1.trans e3).trans e8,(e2.trans e4).trans e9,qT.base e8 e9 af4⟩
     |ct env4 S4 =>
      rw[q2] at af4
      exact fun σ5 H5 P5 α5 r5 re5 e8 e9=>⟨P5,α5,env4,S4,r5,re5,(e1.trans e3).trans e8,(e2.trans e4).trans e9,qT.base e8 e9 af4⟩
end
end _D
end
section
namespace _D
open PySem PySem.Spec PyProof.Rows _L
section
variable {X:Cx}{a b c e:Expr}{pos:Pos}{fa fe:DE}
def P7 (i:Nat)(g:G2)(fe:DE):DS:=fun env S=>match env[i]? with
 |some (some x)=>(fe env S).toS env fun y S1=>(g x y S1).toS env fun z S2=>.nx (env.set i (some z)) S2
 |_=>.bad
def GW:G2:=i2 (fun _ _=>true) fun i j=>.int (i+j)
def oN (i j k:Nat)(env:qD)(S1:Sto):List D→Out
 |[x,y,z]=>.nx (((env.set i (some x)).set j (some y)).set k (some z)) S1
 |_=>.bad
def k8 (i j k:Nat)(f:DA):DS:=fun env S=>(f env S).toS env fun ds S1=>oN i j k env S1 ds
theorem iD {i j k:Nat}{x y z:Str}{f:DA}{px py pz pt:Pos} {kt k2 pt2} (hc:X.calm=true) (hN:X.N.Nodup) (ha:PA X [a,b,c] (tDA X f)) (hi:X.N[i]? = some x:=by rfl) (hj:X.N[j]? = some y:=by rfl) (hk:X.N[k]? = some z:=by rfl) (hij:i≠j:=by decide) (hik:i≠k:=by decide) (hjk:j≠k:=by decide)
  (hx:X.env.scope.names.lookup x=some .local:=by rfl) (hy:X.env.scope.names.lookup y=some .local:=by rfl) (hz:X.env.scope.names.lookup z=some .local:=by rfl)
  (hw:swappedStores [.Tuple [.Name x px,.Name y py,.Name z pz] kt pt] (.Tuple [a,b,c] k2 pt2) X.env=pure (some [x,y,z]):=by rfl)
  (hs:swapsWithSole [.Tuple [.Name x px,.Name y py,.Name z pz] kt pt] (.Tuple [a,b,c] k2 pt2) pos.line X.env=pure false:=by rfl) :
  PS X (.Assign [.Tuple [.Name x px,.Name y py,.Name z pz] kt pt] (.Tuple [a,b,c] k2 pt2) pos) (tDS X (k8 i j k f)):=by
 intro pins s σ H D I h
 obtain⟨P,α,env,S,r,re,af⟩:=h
 rw[exec_Assign_arm]
 refine wpAny_bind (wpAny_standAt ?_)
 rw[hs]
 refine wpAny_bind (wpAny_pure ?_)
 rw[if_neg (by decide)]
 refine wpAny_bind (Tuple_ (thn (mV ha I r re af _) fun us s1 ⟨vs,H1,P1,α1,ds,S1,I1,rv,r1,re1,rp,e1,e2,q⟩=>?_))
 match ds,rp,q with
 |[],_,q=>exact False.elim q
 |[_],_,q=>exact False.elim q
 |[_,_],_,q=>exact False.elim q
 |_::_::_::_::_,_,q=>exact False.elim q
 |[d1,d2,d3],rp,q =>
  obtain⟨v1,t1,rfl,p1,rp⟩:=rp.cons_inv
  obtain⟨v2,t2,rfl,p2,rp⟩:=rp.cons_inv
  obtain⟨v3,t3,rfl,p3,rp⟩:=rp.cons_inv
  cases rp.nil_inv
  obtain⟨u1,u2,u3,rfl,q1,q2,q3⟩:∃ u1 u2 u3,us=[u1,u2,u3]∧qK v1 u1∧qK v2 u2∧qK v3 u3:=by
   cases rv with
   |cons z1 rv=>cases rv with
    |cons z2 rv=>cases rv with
     |cons z3 rv=>cases rv;exact⟨_,_,_,rfl,z1,z2,z3⟩
  refine wpAny_newObj_type ?_ (by show 3≤sizeLine;decide)
  have I2:Inv X pins σ H1 { s1 with heap:=s1.heap.push { cls:=.type "tuple",data:=.seq [u1,u2,u3].toArray } }:=I1.kept (t':=s1.toks) fun b o e=>Heap.get?_push_of_some _ e
  rw[hw]
  refine wpAny_bind (wpAny_pure ?_)
  show wpAny (model X.prog X.w) X.A (do rule "assign.swapped-stores";let items ← unpackItems (.ref s1.heap.objs.size) 3 none;assignInOrder [fun v=>bindName X.env z v,fun v=>bindName X.env y v,fun v=>bindName X.env x v] items.reverse;pure Flow.next) _ _ _
  refine wpAny_bind (wpAny_rule (wpAny_bind (unpackItems_tuple (items:=#[u1,u2,u3]) (I.ok.hd hc) (IsTup.new s1.heap _) fun h' hx'=>?_)))
  have I3:=I2.kept (h':=h') (t':=s1.toks) fun b o e=>hx' b o (Nat.ne_of_lt (Heap.lt_size e)) e
  show wpAny _ _ (assignInOrder [fun v=>bindName X.env z v,fun v=>bindName X.env y v,fun v=>bindName X.env x v] [u3,u2,u1] >>= fun _=>pure Flow.next) _ _ _
  refine wpAny_bind (assignInOrder_cons (wpAny_bindName (w5 I3 hN hk (.inl hz) q3 (fun s2 I4=>?_) (.inr hz))))
  refine assignInOrder_cons (wpAny_bindName (w5 I4 hN hj (.inl hy) q2 (fun s3 I5=>?_) (.inr hy)))
  refine assignInOrder_cons (wpAny_bindName (w5 I5 hN hi (.inl hx) q1 (fun s4 I6=>assignInOrder_nil (wpAny_pure ?_)) (.inr hx)))
  rw[List.set_comm _ _ (Ne.symm hij),List.set_comm _ _ (Ne.symm hik),List.set_comm _ _ (Ne.symm hjk)] at I6
  exact⟨_,H1,I6,q _ H1 P1 α1 r1 (((re1.set i p1).set j p2).set k p3) (qG.refl _) (List.prefix_refl _)⟩
def yX (xs:List D)(lo hi:Option Int):List D:=(xs.drop (_H.sIx xs.length 0 lo)).take (_H.sIx xs.length xs.length hi-_H.sIx xs.length 0 lo)
abbrev DO:=qD→Sto→Res (Option Int)
def OkO (X:Cx)(P:Hp)(α : List Addr)(Q:Option Int→Hp→Prop)(o:Option Int)(S':Sto):Prop:=∀ H' P' α',Rel X.K H' P' α' S'→qG P P'→α<+:α'→Q o H'
def tDO (X:Cx)(f:DO):TO:=fun σ H Q=>∃ P α env S,Rel X.K H P α S∧qS X.K P α σ env∧qH X P α (f env S) (OkO X P α Q)
def GP:DO:=fun _ S=>.ok none S
def wV (f:DE):DO:=fun env S=>(f env S).bind fun d S1=>match d with
 |.int i=>.ok (some i) S1
 |_=>.bad
theorem iA (he:PE X e (tD X fe)):PO X (some e) (tDO X (wV fe)):=by
 intro pins s σ H Q I h
 obtain⟨P,α,env,S,r,re,af⟩:=h
 refine oU (te:=tD X fe) he pins s σ H Q I ⟨P,α,env,S,r,re,?_⟩
 have af':qH X P α ((fe env S).bind fun d S1=>match d with|.int i=>.ok (some i) S1|_=>.bad) (OkO X P α Q):=af
 cases q:fe env S with
 |bad=>rw[q] at af';exact af'
 |ex c x S'=>rw[q] at af';exact af'
 |ok d S1 =>
  rw[q] at af'
  intro v H1 P1 α1 r1 e1 e2 rp
  cases d with
  |int i=>exact⟨i,zM rp,af' H1 P1 α1 r1 e1 e2⟩
  |_=>exact False.elim af'
theorem qE.cut {K:PySem.W.Frag}{P:Hp}{α : List Addr}{ds:List D}{vs:List V}(r:qE K P α ds vs)(lo hi:Option Int):qE K P α (yX ds lo hi) (jB vs lo hi):=by
 unfold yX jB
 rw[r.length]
 exact(r.drop _).take _
def gSl (d:D)(lo hi:Option Int)(S:Sto):Res D:=match d with
 |.lst xs=>.ok (.lst (yX xs lo hi)) S
 |.loc i=>match S[i]? with
  |some (.lst xs)=>.ok (.lst (yX xs lo hi)) S
  |_=>.bad
 |.tup xs=>.ok (.tup (yX xs lo hi)) S
 |_=>.bad
def dSl (fe:DE)(fl fh:DO):DE:=fun env S=>(fe env S).bind fun d S1=>(fl env S1).bind fun lo S2=>(fh env S2).bind fun hi S3=>gSl d lo hi S3
end
end _D
end
section
namespace _D
open PySem PySem.Spec PyProof.Rows _L _H
section
variable {prog:Program}{w:World}{A:Around}{E:Value→Shared→Prop}{s:Shared}
theorem j0 {t sl:Addr}{items:Array Value}{vl vu:Value}{lo hi:Option Int}{Q:Value→Shared→Prop}(ht:IsTup s.heap t items)(hs:s.heap.IsSliceOf sl vl vu .none)(pl:IsPart vl lo)(pu:IsPart vu hi)
  (hw:sIx items.size 0 lo=0∧sIx items.size items.size hi=items.size) (h:Q (.ref t) s):wpAny (model prog w) A (getItem (.ref t) (.ref sl)) Q E s:=by
 obtain⟨ob,hob,hcb,_⟩:=id hs
 have hTs:s.TypeIs (.ref sl) "slice":=⟨ob,hob,hcb⟩
 unfold getItem
 try with_reducible refine wpAny_holding ?_
 first|refine wpAny_bind (wpAny_pure ?_)|skip
 refine wpAny_bind (wpAny_sequenceKey ht.typeIs (by decide) ?_)
 refine wpAny_bind (wpAny_callSpecial?_slot (name:=Str.ofString "__getitem__") ht.typeIs PyProof.Rows.slot_tuple_getitem
  (wpAny_call_entry PyProof.Rows.slot_tuple_getitem ht.typeIs entry_tuple_getitem ?_ (args_tuple_getitem _ _)))
 show wpAny _ _ (Builtin.Tuple.tupleItemsOf (.ref t) >>= _) _ _ s
 refine wpAny_bind (tupleItemsOf_ ht ?_)
 refine wpAny_bind (wpAny_typeOf hTs ?_)
 rw[if_pos (by decide)]
 refine wpAny_bind (vC hs pl pu ?_)
 show wpAny _ _ (if (((sIx items.size 0 lo:Nat):Int) == 0&&(1:Int) == 1&&(sIx items.size items.size hi-sIx items.size 0 lo) == items.size)=true then _ else _) _ _ s
 rw[hw.1,hw.2,if_pos (by simp)]
 unfold Builtin.Tuple.tupleIsExact
 refine wpAny_bind (wpAny_bind (wpAny_typeOf ht.typeIs (wpAny_pure ?_)))
 rw[if_pos (by decide)]
 exact wpAny_bind (wpAny_rule (wpAny_pure ⟨_,rfl,wpAny_pure h⟩))
end
section
variable {X:Cx}{e:Expr}{fe:DE}{pos p2:Pos}
def G0 (X:Cx):V→Option Int→Option Int→Hp→VK→Prop:=fun x lo hi H Q=>∃ P α S d,Rel X.K H P α S∧Rep X.K P α d x∧qR X P α (gSl d lo hi S) Q
theorem G7:SlR X (G0 X):=by
 intro pins s σ H x v vl vu lo hi sl Q I rx hs pl pu h
 obtain⟨P,α,S,d,r,p,af⟩:=h
 cases d with
 |lst xs =>
  simp only[Rep] at p
  obtain⟨a,vs,rfl,q,t⟩:=p
  exact tW pins s σ H _ v vl vu lo hi sl Q I rx hs pl pu ⟨a,vs,rfl,(xN r.sub q).l,fun b hb=>v9 r hb (qE.cut t lo hi) af⟩
 |loc i =>
  obtain⟨xs,hS,af⟩:=uV (X:=X) (f:=fun xs=>Res.ok (D.lst (yX xs lo hi)) S) af
  simp only[Rep] at p
  obtain⟨a,rfl,q⟩:=p
  obtain⟨vs,z,t⟩:=r.at' i a _ q hS
  exact tW pins s σ H _ v vl vu lo hi sl Q I rx hs pl pu ⟨a,vs,rfl,SqL.of z,fun b hb=>v9 r hb (qE.cut t lo hi) af⟩
 |tup xs =>
  have p0:=p
  simp only[Rep] at p
  obtain⟨a,vs,rfl,q,t⟩:=p
  by_cases hw:sIx vs.length 0 lo=0∧sIx vs.length vs.length hi=vs.length
  ·cases rx
   obtain⟨its,rv,ht,hz⟩:=I.tuple (xI r.sub q)
   have hlen:its.toArray.size=vs.length:=by rw[List.size_toArray];exact rv.length.symm
   refine⟨"tuple",_,PyProof.Rows.slot_tuple_getitem.lookup,ht.typeIs,j0 ht hs pl pu (by rw[hlen];exact hw) ⟨.ref a,H,I,rfl,xr af r ?_⟩⟩
   have e:yX xs lo hi=xs:=by
    unfold yX
    rw[t.length,hw.1,hw.2,← t.length]
    simp
   rw[e]
   exact p0
  ·exact V4 pins s σ H _ v vl vu lo hi sl Q I rx hs pl pu ⟨a,vs,rfl,xI r.sub q,hw,fun b hb=>kM r hb (qE.cut t lo hi) af⟩
 |_=>exact False.elim af
theorem rH {lo hi:Option Expr}{fl fh:DO}(he:PE X e (tD X fe))(hl:PO X lo (tDO X fl))(hu:PO X hi (tDO X fh)):PE X (.Subscript e (.Slice lo hi none p2) pos) (tD X (dSl fe fl fh)):=
 peW (eR G7 he hl hu) fun σ H Q ⟨P,α,env,S,r,re,af⟩=>by
  refine⟨P,α,env,S,r,re,?_⟩
  have af':qH X P α ((fe env S).bind fun d S1=>(fl env S1).bind fun lo S2=>(fh env S2).bind fun hi S3=>gSl d lo hi S3) (OkV X P α Q):=af
  cases q:fe env S with
  |bad=>rw[q] at af';exact af'
  |ex c x S'=>rw[q] at af';exact af'
  |ok d S1 =>
   rw[q] at af'
   intro v H1 P1 α1 r1 e1 e2 rp
   refine⟨P1,α1,env,S1,r1,re.mono e1 e2,?_⟩
   have af2:qH X P1 α1 ((fl env S1).bind fun lo S2=>(fh env S2).bind fun hi S3=>gSl d lo hi S3) (OkV X P1 α1 Q):=qR.base e1 e2 af'
   cases q2:fl env S1 with
   |bad=>rw[q2] at af2;exact af2
   |ex c x S'=>rw[q2] at af2;exact af2
   |ok l S2 =>
    rw[q2] at af2
    intro H2 P2 α2 r2 e3 e4
    refine⟨P2,α2,env,S2,r2,(re.mono e1 e2).mono e3 e4,?_⟩
    have af3:qH X P2 α2 ((fh env S2).bind fun hi S3=>gSl d l hi S3) (OkV X P2 α2 Q):=qR.base e3 e4 af2
    cases q3:fh env S2 with
    |bad=>rw[q3] at af3;exact af3
    |ex c x S'=>rw[q3] at af3;exact af3
    |ok u S3 =>
     rw[q3] at af3
     intro H3 P3 α3 r3 e5 e6
     exact⟨P3,α3,S3,d,r3,Rep.mono (e3.trans e5) (e4.trans e6) _ _ rp,qR.base e5 e6 af3⟩
def vW (d:D)(S:Sto):Res D:=match d with
 |.int i=>if i.natAbs.log2<1920 then .ok (.str (toString i)) S else .bad
 |.str x=>if x.length≤lim then .ok (.str x) S else .bad
 |_=>.bad
set_option tactic.hygienic true in
theorem ZP (he:PE X e (tD X fe)):PE X (.FormattedValue e (-1) none pos) (tD X (d1 vW fe)):=by
 intro pins s σ H Q I h
 obtain⟨P,α,env,S,r,re,af⟩:=h
 refine FormattedValue_plain (thn (zT he I r re af) fun vv s1 ⟨v,H1,P1,α1,d,S1,G1,af1⟩=>?_)
 have p:=G1.rep
 have rv:=G1.val
 have af2:=qR.base G1.same G1.pre af1
 cases d with
 |int i =>
  simp only[vW] at af2
  split at af2
  ·rename_i hd
   simp only[Rep] at p;subst p
   obtain⟨t,rfl⟩:=rv
   exact formatField_int_small hd ⟨.str _,H1,G1.inv.tok _,⟨_,rfl⟩,xr af2 G1.rel (by simp only[Rep])⟩
  ·exact False.elim af2
 |str x =>
  simp only[vW] at af2
  split at af2
  ·rename_i hd
   simp only[Rep] at p;subst p
   obtain⟨t,rfl⟩:=rv
   exact formatField_str (fun t' tk=>⟨.str _,H1,G1.inv.tok _,⟨_,rfl⟩,xr af2 G1.rel (by simp only[Rep])⟩) (by rw[← zK];exact hd)
  ·exact False.elim af2
 |_=>exact False.elim af2
def uR (out:Str):List DE→qD→Sto→Res D
 |[],_,S=>if out.length≤lim then .ok (.str out) S else .bad
 |p::ps,env,S=>(p env S).bind fun d S1=>match d with
  |.str y=>if (out++y).length≤lim then uR (out++y) ps env S1 else .bad
  |_=>.bad
def PJ (X:Cx)(es:List Expr)(fs:List DE):Prop:=
 ∀ (out:Str) (pins:List (Addr × Obj)) (s:Shared) (σ : _L.St) (H P:Hp) (α : List Addr) (env:qD) (S:Sto) (Q:VK),Inv X pins σ H s→Rel X.K H P α S→qS X.K P α σ env→qR X P α (uR out fs env S) Q →
  wpAny (model X.prog X.w) X.A (joinParts out (evalEach es X.env)) (EP X pins σ Q) X.xe s
theorem Y8:PJ X [] []:=by
 intro out pins s σ H P α env S Q I r re af
 obtain⟨hl,af⟩:=xG (X:=X) af
 exact joinParts_nil ⟨.str _,H,I.tok _,⟨_,rfl⟩,xr af r (by simp only[Rep])⟩ (by rw[← zK];exact hl)
theorem oS {es:List Expr}{fs:List DE}(he:PE X e (tD X fe))(hr:PJ X es fs):PJ X (e::es) (fe::fs):=by
 intro out pins s σ H P α env S Q I r re af
 have af:qH X P α ((fe env S).bind fun d S1=>match d with|.str y=>if (out++y).length≤lim then uR (out++y) fs env S1 else .bad|_=>.bad) (OkV X P α Q):=af
 refine joinParts_cons (thn (zT he I r re af) fun vv s1 ⟨v,H1,P1,α1,d,S1,G1,af1⟩=>?_)
 cases d with
 |str y =>
  have p:=G1.rep
  simp only[Rep] at p;subst p
  obtain⟨t,rfl⟩:=G1.val
  obtain⟨hl,af1⟩:=xG (X:=X) af1
  exact⟨by rw[← zK];exact hl,hr (out++y) pins s1 σ H1 P1 α1 env S1 Q G1.inv G1.rel G1.env (qR.base G1.same G1.pre af1)⟩
 |_=>exact False.elim af1
def bD (fs:List DE):DE:=fun env S=>uR Str.empty fs env S
theorem aZ {v₁ v₂:Expr}{rest:List Expr}{fs:List DE}(h:PJ X (v₁::v₂::rest) fs):PE X (.JoinedStr (v₁::v₂::rest) pos) (tD X (bD fs)):=by
 intro pins s σ H Q I hq
 obtain⟨P,α,env,S,r,re,af⟩:=hq
 exact JoinedStr_many (h Str.empty pins s σ H P α env S Q I r re af)
end
end _D
end
section
namespace _D
open PySem PySem.Spec PyProof.Rows _L
def zE (tp:Bool)(h:Heap)(it l:Addr)(k:Nat):Prop:=if tp then h.IsTupleIter it l k else h.IsListIter it l k
def xC (tp:Bool)(h:Heap)(l:Addr)(xs:Array Value):Prop:=if tp then h.IsTuple l xs else h.IsList l xs
theorem zE.keep {tp:Bool}{h h':Heap}{it l:Addr}{k:Nat}(x:zE tp h it l k)(q:∀ o,h.get? it=some o→h'.get? it=some o):zE tp h' it l k:=by
 cases tp <;> (obtain⟨o,e,r⟩:=x;exact⟨o,q o e,r⟩)
theorem xC.keep {tp:Bool}{h h':Heap}{l:Addr}{xs:Array Value}(x:xC tp h l xs)(q:∀ o,h.get? l=some o→h'.get? l=some o):xC tp h' l xs:=by
 cases tp <;> (obtain⟨o,e,r⟩:=x;exact⟨o,q o e,r⟩)
theorem zE.there {tp:Bool}{h:Heap}{it l:Addr}{k:Nat}(x:zE tp h it l k):∃ o,h.get? it=some o∧∀ v,o.data≠.cell v:=by
 cases tp <;> (obtain⟨o,e,_,d⟩:=x;exact⟨o,e,fun v z=>by rw[d] at z;cases z⟩)
section
variable {prog:Program}{w:World}{A:Around}{E:Value→Shared→Prop}{s:Shared}
theorem eL {it t:Addr}{i:Nat}{items:Array Value}{x:Value}{Q:Value→Shared→Prop}(hit:s.heap.IsTupleIter it t i)(ht:s.heap.IsTuple t items)(hx:items[i]? = some x)
  (hQ:∀ h',h'.IsTupleIter it t (i+1)→Heap.SameBut it s.heap h'→Q x { s with heap:=h' }) : wpAny (model prog w) A (Builtin.SmallTypes.nextOf (.ref it)) Q E s:=by
 obtain⟨o,e,c,d⟩:=id hit
 obtain⟨u,eu,_,m,du⟩:=ht
 unfold Builtin.SmallTypes.nextOf
 refine wpAny_bind (wpAny_callSpecial?_slot (name:=Str.ofString "__next__") hit.typeIs F.slot_tuple_iterator_next (wpAny_call_entry F.slot_tuple_iterator_next hit.typeIs F.entry_tuple_iterator_next ?_ (F.args_tuple_iterator_next_1 _)))
 show wpAny _ _ (field (.ref it) 0 >>= _) _ _ s;refine wpAny_bind (wpAny_field e d (x:=.ref t) rfl ?_)
 show wpAny _ _ (if (Value.ref t == Value.none)=true then _ else _) _ _ s;rw[if_neg (show ¬ ((Value.ref t == Value.none)=true) from Bool.false_ne_true)]
 show wpAny _ _ (field (.ref it) 1 >>= _) _ _ s;refine wpAny_bind (wpAny_field e d (x:=.int i 0) rfl ?_)
 show wpAny _ _ (seqItems? (.ref t) >>= _) _ _ s;refine wpAny_bind (wpAny_seqItems eu du ?_)
 simp only[Int.toNat_natCast,hx]
 refine wpAny_bind (wpAny_setField e d (by simp) (wpAny_pure ⟨x,rfl,wpAny_pure (hQ _ ⟨_,Heap.get?_update_self _ e (Obj.isFreed_of_fields (Obj.data_mapFields d _)),(Obj.cls_mapFields ..).trans c,?_⟩ (Heap.SameBut.update ..))⟩))
 rw[Obj.data_mapFields d];simp[rawInt]
theorem fM {it t:Addr}{i:Nat}{items:Array Value}{Q:Value→Shared→Prop}(hh:A.handled=none)(hit:s.heap.IsTupleIter it t i)(ht:s.heap.IsTuple t items)(hx:items[i]? = none)
  (hE:∀ h' e,Heap.ExtBut it s.heap h'→(∃ o,h'.get? e=some o∧o.cls=.type "StopIteration")→E (.ref e) { s with heap:=h' }) : wpAny (model prog w) A (Builtin.SmallTypes.nextOf (.ref it)) Q E s:=by
 obtain⟨o,e,c,d⟩:=id hit
 obtain⟨u,eu,_,m,du⟩:=ht
 unfold Builtin.SmallTypes.nextOf
 refine wpAny_bind (wpAny_callSpecial?_slot (name:=Str.ofString "__next__") hit.typeIs F.slot_tuple_iterator_next (wpAny_call_entry F.slot_tuple_iterator_next hit.typeIs F.entry_tuple_iterator_next ?_ (F.args_tuple_iterator_next_1 _)))
 show wpAny _ _ (field (.ref it) 0 >>= _) _ _ s;refine wpAny_bind (wpAny_field e d (x:=.ref t) rfl ?_)
 show wpAny _ _ (if (Value.ref t == Value.none)=true then _ else _) _ _ s;rw[if_neg (show ¬ ((Value.ref t == Value.none)=true) from Bool.false_ne_true)]
 show wpAny _ _ (field (.ref it) 1 >>= _) _ _ s;refine wpAny_bind (wpAny_field e d (x:=.int i 0) rfl ?_)
 show wpAny _ _ (seqItems? (.ref t) >>= _) _ _ s;refine wpAny_bind (wpAny_seqItems eu du ?_)
 simp only[Int.toNat_natCast,hx];refine wpAny_bind (wpAny_rule (wpAny_bind (wpAny_setField e d (by simp) ?_)))
 show wpAny _ _ (newExc (.type "StopIteration") [] >>= _) _ _ _;refine wpAny_bind ?_
 simp only[newExc,newTuple];refine wpAny_bind (wpAny_newObj_type ?_ (by size_fits))
 refine wpAny_bind (m:=firstArgMember _ _) (wpAny_of_eq (a:=Value.none) (by first|rfl|(simp only[firstArgMember];rfl)) (wpAny_newObj_type ?_ (by size_fits)))
 simp only[raiseNew];refine wpAny_bind (wpAny_handled ?_)
 first|rw[show A.in1.handled=none from hh]|rw[hh]
 exact wpAny_bind (wpAny_pure (wpAny_throw (hE _ _ (((Heap.SameBut.update ..).extBut.push _).push _) ⟨_,Heap.get?_push_size _ rfl,rfl⟩)))
theorem kJ {tp:Bool}{it l:Addr}{k:Nat}{xs:Array Value}{x:Value}{Q:Value→Shared→Prop}(hit:zE tp s.heap it l k)(hl:xC tp s.heap l xs)(hx:xs[k]? = some x)
  (hQ:∀ h',zE tp h' it l (k+1)→Heap.SameBut it s.heap h'→Q x { s with heap:=h' }) : wpAny (model prog w) A (Builtin.SmallTypes.nextOf (.ref it)) Q E s:=by
 cases tp with
 |false=>exact wpAny_nextOf_list_item hit hl hx hQ
 |true=>exact eL hit hl hx hQ
theorem jJ {tp:Bool}{it l:Addr}{k:Nat}{xs:Array Value}{Q:Value→Shared→Prop}(hh:A.handled=none)(hit:zE tp s.heap it l k)(hl:xC tp s.heap l xs)(hx:xs[k]? = none)
  (hE:∀ h' e,Heap.ExtBut it s.heap h'→(∃ o,h'.get? e=some o∧o.cls=.type "StopIteration")→E (.ref e) { s with heap:=h' }) : wpAny (model prog w) A (Builtin.SmallTypes.nextOf (.ref it)) Q E s:=by
 cases tp with
 |false=>exact wpAny_nextOf_list_end hh hit hl hx hE
 |true=>exact fM hh hit hl hx hE
structure ZA (z I O i j:Addr):Prop where
 Iz:I≠z
 Oz:O≠z
 iz:i≠z
 jz:j≠z
 IO:I≠O
 Ii:I≠i
 Ij:I≠j
 Oi:O≠i
 Oj:O≠j
 ij:i≠j
structure Off (z O i j a:Addr):Prop where
 z:a≠z
 O:a≠O
 i:a≠i
 j:a≠j
abbrev sW (z O i j:Addr)(h h':Heap):Prop:=∀ c o,c≠z→c≠O→c≠i→c≠j→h.get? c=some o→h'.get? c=some o
theorem cC {tp tq:Bool}{z I O i j a b:Addr}{k:Nat}{xs ys:Array Value}{x y p q:Value}{Q:Value→Shared→Prop}(D:ZA z I O i j)(Da:Off z O i j a)(Db:Off z O i j b)
  (hz:IsZip s.heap z I O .none) (hI:IsPair s.heap I (.ref i) (.ref j)) (hO:IsPair s.heap O p q) (h1:zE tp s.heap i a k) (h2:zE tq s.heap j b k) (ha:xC tp s.heap a xs) (hb:xC tq s.heap b ys) (hx:xs[k]? = some x) (hy:ys[k]? = some y)
  (hQ:∀ h',IsZip h' z I O (rawInt s.heap.objs.size)→IsPair h' O x y→zE tp h' i a (k+1)→zE tq h' j b (k+1)→IsPair h' s.heap.objs.size x y→h'.objs.size=s.heap.objs.size+1→sW z O i j s.heap h'→Q (.ref s.heap.objs.size) { s with heap:=h' }) :
  wpAny (model prog w) A (Builtin.«zip.__next__» ⟨[.ref z],[]⟩) (fun fin s'=>∃ v,fin=.done (.ret v)∧Q v s') E s:=by
 show wpAny _ _ (field (.ref z) 2 >>= _) _ _ _;refine wpAny_bind (wpAny_field hz rfl (x:=.bool false) rfl ?_)
 show wpAny _ _ (field (.ref z) 3 >>= _) _ _ _;refine wpAny_bind (wpAny_field hz rfl (x:=.ref I) rfl (wpAny_bind (wpAny_seqItems hI rfl ?_)))
 show wpAny _ _ (Builtin.SmallTypes.ownedTupleIsFree (.ref z) >>= _) _ _ _;refine wpAny_bind ?_
 unfold Builtin.SmallTypes.ownedTupleIsFree;refine wpAny_bind (wpAny_field hz rfl (x:=.none) rfl (wpAny_pure ?_))
 simp only[if_true];refine wpAny_bind (wpAny_rule (wpAny_bind (wpAny_field hz rfl (x:=.ref O) rfl (wpAny_bind (wpAny_setField_rec hz (by simp) fun g1 z1 s1=>?_)))))
 replace z1:IsZip g1 z I O .ellipsis:=z1
 refine wpAny_bind ?_;simp only[List.zipIdx_cons,List.zipIdx_nil,List.forIn_cons,List.forIn_nil]
 refine wpAny_bind (wpAny_bind (wpAny_onRaise ?_));show wpAny _ _ (Builtin.SmallTypes.nextOf (.ref i) >>= _) _ _ _
 refine wpAny_bind (kJ (h1.keep fun o e=>s1.extBut _ _ D.iz e) (ha.keep fun o e=>s1.extBut _ _ Da.z e) hx fun g2 i2 s2=>wpAny_pure ?_)
 have O2:IsPair g2 O p q:=s2.extBut _ _ D.Oi (s1.extBut _ _ D.Oz hO)
 refine wpAny_bind (wpAny_seqItems O2 rfl (wpAny_bind (wpAny_updateSeq_pair O2 fun g3 O3 s3=>wpAny_bind (wpAny_letGo (wpAny_pure ?_)))))
 replace O3:IsPair g3 O x q:=O3
 refine wpAny_bind (wpAny_bind (wpAny_onRaise ?_));show wpAny _ _ (Builtin.SmallTypes.nextOf (.ref j) >>= _) _ _ _
 refine wpAny_bind (kJ (h2.keep fun o e=>s3.extBut _ _ D.Oj.symm (s2.extBut _ _ D.ij.symm (s1.extBut _ _ D.jz e))) (hb.keep fun o e=>s3.extBut _ _ Db.O (s2.extBut _ _ Db.i (s1.extBut _ _ Db.z e))) hy fun g4 j4 s4=>wpAny_pure ?_)
 have O4:IsPair g4 O x q:=s4.extBut _ _ D.Oj O3
 refine wpAny_bind (wpAny_seqItems O4 rfl (wpAny_bind (wpAny_updateSeq_pair O4 fun g5 O5 s5=>wpAny_bind (wpAny_letGo (wpAny_pure (wpAny_pure ?_))))))
 replace O5:IsPair g5 O x y:=O5
 refine wpAny_bind (wpAny_seqItems O5 rfl (wpAny_bind (wpAny_newTuple ?_)))
 have sz:g5.objs.size=s.heap.objs.size:=by rw[s5.1,s4.1,s3.1,s2.1,s1.1]
 have z5:IsZip g5 z I O .ellipsis:=s5.extBut _ _ D.Oz.symm (s4.extBut _ _ D.jz.symm (s3.extBut _ _ D.Oz.symm (s2.extBut _ _ D.iz.symm z1)))
 have k5:sW z O i j s.heap g5:=fun c o c1 c2 c3 c4 e=>s5.extBut _ _ c2 (s4.extBut _ _ c4 (s3.extBut _ _ c2 (s2.extBut _ _ c3 (s1.extBut _ _ c1 e))))
 have i5:zE tp g5 i a (k+1):=i2.keep fun o e=>s5.extBut _ _ D.Oi.symm (s4.extBut _ _ D.ij (s3.extBut _ _ D.Oi.symm e))
 have j5:zE tq g5 j b (k+1):=j4.keep fun o e=>s5.extBut _ _ D.Oj.symm e
 have zl:z<g5.objs.size:=Heap.lt_size z5
 show wpAny _ _ (Builtin.SmallTypes.ownedTupleHandOut (.ref z) (.ref g5.objs.size) >>= _) _ _ _
 refine wpAny_bind ?_;unfold Builtin.SmallTypes.ownedTupleHandOut
 have z6:IsZip (g5.push { cls:=.type "tuple",data:=.seq #[x,y] }) z I O .ellipsis:=Heap.get?_push_of_some _ z5
 refine wpAny_bind (wpAny_setField_rec z6 (by simp) fun g7 z7 s7=>?_)
 replace z7:IsZip g7 z I O (rawInt g5.objs.size):=z7
 refine wpAny_setField_rec z7 (by simp) fun g8 z8 s8=>?_
 replace z8:IsZip g8 z I O (rawInt g5.objs.size):=z8
 have up:∀ c o,c≠z→g5.get? c=some o→g8.get? c=some o:=fun c o c1 e=>s8.extBut _ _ c1 (s7.extBut _ _ c1 (Heap.get?_push_of_some _ e))
 have T8:IsPair g8 g5.objs.size x y:=s8.extBut _ _ (Nat.ne_of_gt zl) (s7.extBut _ _ (Nat.ne_of_gt zl) (Heap.get?_push_size _ rfl))
 have sz8:g8.objs.size=g5.objs.size+1:=by rw[s8.1,s7.1,Heap.size_push]
 rw[sz] at z8 T8 sz8
 refine wpAny_pure ⟨_,rfl,?_⟩
 show Q (.ref g5.objs.size) _
 rw[sz]
 exact hQ g8 z8 (up _ _ D.Oz O5) (i5.keep fun o e=>up _ o D.iz e) (j5.keep fun o e=>up _ o D.jz e) T8 sz8 fun c o c1 c2 c3 c4 e=>up c o c1 (k5 c o c1 c2 c3 c4 e)
end
end _D
end
section
namespace _D
open PySem PySem.Spec PyProof.Rows _L
section
variable {prog:Program}{w:World}{A:Around}{E:Value→Shared→Prop}{s:Shared}
theorem cD {tp tq:Bool}{z I O i j a b:Addr}{k:Nat}{xs ys:Array Value}{p q:Value}{Q:Fin→Shared→Prop}(hh:A.handled=none)(D:ZA z I O i j)(Da:Off z O i j a)(Db:Off z O i j b)
  (hz:IsZip s.heap z I O .none) (hI:IsPair s.heap I (.ref i) (.ref j)) (hO:IsPair s.heap O p q) (h1:zE tp s.heap i a k) (h2:zE tq s.heap j b k) (ha:xC tp s.heap a xs) (hb:xC tq s.heap b ys) (hend:xs[k]? = none∨ys[k]? = none)
  (hE:∀ h' e,sW z O i j s.heap h'→(∃ o,h'.get? e=some o∧o.cls=.type "StopIteration")→E (.ref e) { s with heap:=h' }) : wpAny (model prog w) A (Builtin.«zip.__next__» ⟨[.ref z],[]⟩) Q E s:=by
 show wpAny _ _ (field (.ref z) 2 >>= _) _ _ _;refine wpAny_bind (wpAny_field hz rfl (x:=.bool false) rfl ?_)
 show wpAny _ _ (field (.ref z) 3 >>= _) _ _ _;refine wpAny_bind (wpAny_field hz rfl (x:=.ref I) rfl (wpAny_bind (wpAny_seqItems hI rfl ?_)))
 show wpAny _ _ (Builtin.SmallTypes.ownedTupleIsFree (.ref z) >>= _) _ _ _;refine wpAny_bind ?_
 unfold Builtin.SmallTypes.ownedTupleIsFree;refine wpAny_bind (wpAny_field hz rfl (x:=.none) rfl (wpAny_pure ?_))
 simp only[if_true];refine wpAny_bind (wpAny_rule (wpAny_bind (wpAny_field hz rfl (x:=.ref O) rfl (wpAny_bind (wpAny_setField_rec hz (by simp) fun g1 z1 s1=>?_)))))
 replace z1:IsZip g1 z I O .ellipsis:=z1
 refine wpAny_bind ?_;simp only[List.zipIdx_cons,List.zipIdx_nil,List.forIn_cons,List.forIn_nil]
 refine wpAny_bind (wpAny_bind (wpAny_onRaise ?_));show wpAny _ _ (Builtin.SmallTypes.nextOf (.ref i) >>= _) _ _ _
 have it1:zE tp g1 i a k:=h1.keep fun o e=>s1.extBut _ _ D.iz e
 have sq1:xC tp g1 a xs:=ha.keep fun o e=>s1.extBut _ _ Da.z e
 cases hx:xs[k]? with
 |none =>
  refine wpAny_bind (jJ hh it1 sq1 hx fun g2 e x2 he=>?_)
  obtain⟨oe,h3,h4⟩:=he
  have z2:IsZip g2 z I O .ellipsis:=x2 _ _ D.iz.symm z1
  have ne:e≠z:=fun y=>by subst y;rw[z2] at h3;cases h3;simp at h4
  exact wpAny_setField_rec z2 (by simp) fun g3 _ s3=>hE g3 e (fun c o c1 _ c3 _ y=>s3.extBut _ _ c1 (x2 _ _ c3 (s1.extBut _ _ c1 y))) ⟨oe,s3.extBut _ _ ne h3,h4⟩
 |some x =>
  have hy:ys[k]? = none:=by
   rcases hend with y|y
   ·rw[hx] at y;cases y
   ·exact y
  refine wpAny_bind (kJ it1 sq1 hx fun g2 i2 s2=>wpAny_pure ?_)
  have O2:IsPair g2 O p q:=s2.extBut _ _ D.Oi (s1.extBut _ _ D.Oz hO)
  refine wpAny_bind (wpAny_seqItems O2 rfl (wpAny_bind (wpAny_updateSeq_pair O2 fun g3 O3 s3=>wpAny_bind (wpAny_letGo (wpAny_pure ?_)))))
  refine wpAny_bind (wpAny_bind (wpAny_onRaise ?_));show wpAny _ _ (Builtin.SmallTypes.nextOf (.ref j) >>= _) _ _ _
  refine wpAny_bind (jJ hh (h2.keep fun o e=>s3.extBut _ _ D.Oj.symm (s2.extBut _ _ D.ij.symm (s1.extBut _ _ D.jz e))) (hb.keep fun o e=>s3.extBut _ _ Db.O (s2.extBut _ _ Db.i (s1.extBut _ _ Db.z e))) hy fun g4 e x4 he=>?_)
  obtain⟨oe,h3,h4⟩:=he
  have z4:IsZip g4 z I O .ellipsis:=x4 _ _ D.jz.symm (s3.extBut _ _ D.Oz.symm (s2.extBut _ _ D.iz.symm z1))
  have ne:e≠z:=fun y=>by subst y;rw[z4] at h3;cases h3;simp at h4
  exact wpAny_setField_rec z4 (by simp) fun g5 _ s5=>hE g5 e (fun c o c1 c2 c3 c4 y=>s5.extBut _ _ c1 (x4 _ _ c4 (s3.extBut _ _ c2 (s2.extBut _ _ c3 (s1.extBut _ _ c1 y))))) ⟨oe,s5.extBut _ _ ne h3,h4⟩
abbrev gG (tp:Bool)(l:Addr):Obj:={ cls:=.type (if tp then "tuple_iterator" else "list_iterator"),data:=.fields #[.ref l,.int 0 0] }
abbrev zh1 (tp:Bool)(h:Heap)(a:Addr):Heap:=h.push (gG tp a)
abbrev zh2 (tp tq:Bool)(h:Heap)(a b:Addr):Heap:=(zh1 tp h a).push (gG tq b)
abbrev zh3 (tp tq:Bool)(h:Heap)(a b:Addr):Heap:=(zh2 tp tq h a b).push { cls:=.type "tuple",data:=.seq #[.ref h.objs.size,.ref (zh1 tp h a).objs.size] }
abbrev zh4 (tp tq:Bool)(h:Heap)(a b:Addr):Heap:=(zh3 tp tq h a b).push { cls:=.type "tuple",data:=.seq #[.none,.none] }
abbrev zh5 (tp tq:Bool)(h:Heap)(a b:Addr):Heap:=(zh4 tp tq h a b).push { cls:=.type "zip",data:=.fields #[.none,.bool false,.bool false,.ref (zh2 tp tq h a b).objs.size,.ref (zh3 tp tq h a b).objs.size] }
set_option maxHeartbeats 4000000 in
theorem QP (tp:Bool)(a b:Addr)(xs ys:Array Value) :
  Meets (Builtin.«zip.__new__» ⟨[.type "zip",.ref a,.ref b],[]⟩) (fun _ R s=>xC tp s.heap a xs∧xC tp s.heap b ys∧R (.ok (.ret (.ref (zh4 tp tp s.heap a b).objs.size))) { s with heap:=zh5 tp tp s.heap a b }):=
 .of_wp fun prog w A R s h=>by
  obtain⟨hp,g,d,tk,os⟩:=s
  obtain⟨q1,q2,h⟩:=h
  have hsub:=sub_zip
  have e2:∀ ob:Obj,xC tp (hp.push ob) b ys:=fun ob=>q2.keep fun o e=>Heap.get?_push_of_some _ e
  cases tp
  ·have l1:Heap.IsList (Shared.heap ⟨hp,g,d,tk,os⟩) a xs:=q1
   have l2:Heap.IsList (Shared.heap ⟨hp.push { cls:=.type "list_iterator",data:=.fields #[.ref a,.int 0 0] },g,d,tk,os⟩) b ys:=e2 _
   wp_walk using wpAny_pyIter_list l1,wpAny_pyIter_list l2
   exact⟨_,rfl,h⟩
  ·have l1:Heap.IsTuple (Shared.heap ⟨hp,g,d,tk,os⟩) a xs:=q1
   have l2:Heap.IsTuple (Shared.heap ⟨hp.push { cls:=.type "tuple_iterator",data:=.fields #[.ref a,.int 0 0] },g,d,tk,os⟩) b ys:=e2 _
   wp_walk using wpAny_pyIter_tuple l1,wpAny_pyIter_tuple l2
   exact⟨_,rfl,h⟩
theorem gH {tp:Bool}{h:Heap}{it l:Addr}(e:h.get? it=some (gG tp l)):zE tp h it l 0:=by
 cases tp
 ·exact⟨_,e,rfl,rfl⟩
 ·exact⟨_,e,rfl,rfl⟩
theorem sZ {tp:Bool}{a b:Addr}{xs ys:Array Value}{Q:Value→Shared→Prop}(ha:xC tp s.heap a xs)(hb:xC tp s.heap b ys)
  (h:∀ h',IsZip h' (s.heap.objs.size+4) (s.heap.objs.size+2) (s.heap.objs.size+3) .none→IsPair h' (s.heap.objs.size+2) (.ref s.heap.objs.size) (.ref (s.heap.objs.size+1)) →
   IsPair h' (s.heap.objs.size+3) .none .none→zE tp h' s.heap.objs.size a 0→zE tp h' (s.heap.objs.size+1) b 0→h'.objs.size=s.heap.objs.size+5→(∀ c o,s.heap.get? c=some o→h'.get? c=some o)→Q (.ref (s.heap.objs.size+4)) { s with heap:=h' }) :
  wpAny (model prog w) A (call (.type "zip") [.ref a,.ref b]) Q E s:=by
 refine callType_new F.called_zip (by decide) (F.typeCall_zip_2 _ _) (F.newCall_zip_2 _ _) (fun obj=>F.args_object_init_3 obj _ _) F.entry_zip_new (QP tp a b xs ys) ⟨ha,hb,?_⟩
 have y1:(zh1 tp s.heap a).objs.size=s.heap.objs.size+1:=Heap.size_push ..
 have y2:(zh2 tp tp s.heap a b).objs.size=s.heap.objs.size+2:=by rw[Heap.size_push,y1]
 have y3:(zh3 tp tp s.heap a b).objs.size=s.heap.objs.size+3:=by rw[Heap.size_push,y2]
 have y4:(zh4 tp tp s.heap a b).objs.size=s.heap.objs.size+4:=by rw[Heap.size_push,y3]
 have y5:(zh5 tp tp s.heap a b).objs.size=s.heap.objs.size+5:=by rw[Heap.size_push,y4]
 have g5:(zh5 tp tp s.heap a b).get? (zh4 tp tp s.heap a b).objs.size=some _:=Heap.get?_push_size _ rfl
 have g4:(zh5 tp tp s.heap a b).get? (zh3 tp tp s.heap a b).objs.size=some _:=Heap.get?_push_of_some _ (Heap.get?_push_size _ rfl)
 have g3:(zh5 tp tp s.heap a b).get? (zh2 tp tp s.heap a b).objs.size=some _:=Heap.get?_push_of_some _ (Heap.get?_push_of_some _ (Heap.get?_push_size _ rfl))
 have g2:(zh5 tp tp s.heap a b).get? (zh1 tp s.heap a).objs.size=some (gG tp b):=Heap.get?_push_of_some _ (Heap.get?_push_of_some _ (Heap.get?_push_of_some _ (Heap.get?_push_size _ rfl)))
 have g1:(zh5 tp tp s.heap a b).get? s.heap.objs.size=some (gG tp a):=Heap.get?_push_of_some _ (Heap.get?_push_of_some _ (Heap.get?_push_of_some _ (Heap.get?_push_of_some _ (Heap.get?_push_size _ rfl))))
 have kp:∀ c o,s.heap.get? c=some o→(zh5 tp tp s.heap a b).get? c=some o:=fun c o e=>Heap.get?_push_of_some _ (Heap.get?_push_of_some _ (Heap.get?_push_of_some _ (Heap.get?_push_of_some _ (Heap.get?_push_of_some _ e))))
 show _∧_
 rw[y2,y3,y4] at g5
 rw[y1,y2] at g3
 rw[y3] at g4
 rw[y1] at g2
 rw[y4]
 exact⟨⟨_,g5,rfl⟩,h _ g5 g3 g4 (gH g1) (gH g2) y5 kp⟩
end
end _D
end
section
namespace _D
open PySem PySem.Spec PyProof.Rows _L
def Sq (tp:Bool)(K:PySem.W.Frag)(H:Hp)(a:Addr)(xs:List V):Prop:=if tp then SqT K H a xs else SqL K H a xs
section
variable {X:Cx}{pins:List (Addr × Obj)}{σ : _L.St}{H:Hp}{s:Shared}
theorem Sq.at {tp:Bool}{a:Addr}{xs:List V}(I:Inv X pins σ H s)(q:Sq tp X.K H a xs):∃ its,qL xs its∧xC tp s.heap a its.toArray:=by
 cases tp with
 |true =>
  obtain⟨its,rv,p,_⟩:=I.tuple q
  exact⟨its,rv,p⟩
 |false =>
  obtain⟨its,rv,p,_⟩:=I.list q
  exact⟨its,rv,p.isList⟩
theorem Sq.inj {tp:Bool}{a:Addr}{xs ys:List V}(I:Inv X pins σ H s)(q:Sq tp X.K H a xs)(q':Sq tp X.K H a ys):xs=ys:=by
 cases tp with
 |true=>exact I.tuple_inj q q'
 |false=>exact I.list_inj q q'
theorem Sq.off {tp:Bool}{a b:Addr}{xs:List V}(I:Inv X pins σ H s)(q:Sq tp X.K H a xs)(f:zV X pins H b):a≠b:=by
 have key:H a≠none∨∃ o,X.K.lookup a=some o:=by
  cases tp with
  |true =>
   rcases q with (q|⟨o,q⟩)|⟨o,_,_,q,_⟩
   ·exact .inl (by rw[q];intro z;cases z)
   ·exact .inl (by rw[q];intro z;cases z)
   ·exact .inr ⟨_,q⟩
  |false =>
   rcases q with (q|⟨o,q⟩)|⟨o,_,_,q,_⟩
   ·exact .inl (by rw[q];intro z;cases z)
   ·exact .inl (by rw[q];intro z;cases z)
   ·exact .inr ⟨_,q⟩
 rintro rfl
 rcases key with k|⟨o,k⟩
 ·exact k f.1
 ·have e:=I.mod.kin a o k
  rcases f.2.2.2.1 with z|z
  ·exact I.ok.noex a o e z
  ·exact absurd (Heap.lt_size (I.ok.bs a o e).1) (Nat.not_lt.mpr z)
theorem Inv.turnLay {fp:List Addr}{h':Heap}{T:Addr}{xs:List V}{its:List Value}(I:Inv X pins σ H s)(hf:∀ b∈fp,zV X pins H b)(k:∀ b o,b ∉ fp→s.heap.get? b=some o→h'.get? b=some o)(th:∀ b∈fp,∃ o,h'.get? b=some o)
  (hT:s.heap.objs.size≤T) (rv:qL xs its) (hx:IsTup h' T its.toArray) (hz:xs.length≤sizeLine):Inv X pins σ (upd H T (.tup xs)) { s with heap:=h' }:=by
 have hn:H T=none:=I.hok.fresh hT
 have ne:∀ b o,s.heap.get? b=some o→b≠T:=fun b o e=>Nat.ne_of_lt (Nat.lt_of_lt_of_le (Heap.lt_size e) hT)
 refine I.step (g':=s.gens) (d':=s.drawn) (t':=s.toks) (ch:=fp) (fun b hb=>⟨(hf b hb).2.2.2.1,(hf b hb).2.1,(hf b hb).2.2.2.2.1,(hf b hb).2.2.2.2.2⟩) (fun b o _ _ hc e _=>k b o hc e) (fun b o _ _ hc e _=>⟨o.slots,k b o hc e⟩)
  (fun b o _ e n=>by rw[qI (ne b o e)];exact n) (fun b o hc e=>⟨o,k b o hc e⟩) (fun b ys e=>by rw[qI (qO e hn)];exact e) (fun b o u e=>by rw[qI (qO e hn)];exact e)
  (fun b ps e=>⟨#[],by rw[qI (qO e hn),e];simp⟩) (fun m hm=>?_) (fun b u e=>?_) I.bare
 ·obtain⟨o,es,ep,ho,r⟩:=hm
  exact⟨o,es,ep,k _ o (fun z=>(hf _ z).2.1 rfl) ho,r⟩
 ·by_cases hb:b=T
  ·subst hb
   rw[qV] at e;cases e
   exact⟨hz,its,rv,hx⟩
  ·rw[qI hb] at e
   refine(I.hok b u e).stay (fun c v hc q=>k c v (fun z=>?_) q) (fun c q=>by rw[qI (qO q hn)];exact q) fun c ys q=>by rw[qI (qO q hn)];exact q
   have hcn:=(hf c z).1
   rcases hc with rfl|hc
   ·rw[hcn] at e;cases e
   ·rw[hcn] at hc;cases hc
theorem Inv.turnL {fp:List Addr}{h':Heap}(I:Inv X pins σ H s)(hf:∀ b∈fp,zV X pins H b)(k:∀ b o,b ∉ fp→s.heap.get? b=some o→h'.get? b=some o):Inv X pins σ H { s with heap:=h' }:=by
 refine I.step (g':=s.gens) (d':=s.drawn) (t':=s.toks) (ch:=fp) (fun b hb=>⟨(hf b hb).2.2.2.1,(hf b hb).2.1,(hf b hb).2.2.2.2.1,(hf b hb).2.2.2.2.2⟩) (fun b o _ _ hc e _=>k b o hc e) (fun b o _ _ hc e _=>⟨o.slots,k b o hc e⟩)
  (fun b o _ e n=>n) (fun b o hc e=>⟨o,k b o hc e⟩) (fun b ys e=>e) (fun b o u e=>e) (fun b ps e=>⟨#[],by rw[e];simp⟩) (fun m hm=>?_) (fun b u e=>?_) I.bare
 ·obtain⟨o,es,ep,ho,r⟩:=hm
  exact⟨o,es,ep,k _ o (fun z=>(hf _ z).2.1 rfl) ho,r⟩
 ·refine(I.hok b u e).stay (fun c v hc q=>k c v (fun z=>?_) q) (fun c q=>q) fun c ys q=>q
  have hcn:=(hf c z).1
  rcases hc with rfl|hc
  ·rw[hcn] at e;cases e
  ·rw[hcn] at hc;cases hc
end
def Itz (tp:Bool)(K:PySem.W.Frag)(a b:Addr):It:=
  ⟨fun i H=>∃ xs ys x y,Sq tp K H a xs∧Sq tp K H b ys∧xs[i]? = some x∧ys[i]? = some y,
   fun i H v H'=>∃ T x y,v=.ref T∧H T=none∧H'=upd H T (.tup [x,y])∧(∀ xs,Sq tp K H a xs→xs[i]? = some x)∧∀ ys,Sq tp K H b ys→ys[i]? = some y,
   fun i H=>∃ xs ys,Sq tp K H a xs∧Sq tp K H b ys∧(xs.length≤i∨ys.length≤i)⟩
def nE (tp:Bool)(z I O i j a b:Addr)(k:Nat)(h:Heap):Prop:=∃ p q,IsZip h z I O .none∧IsPair h I (.ref i) (.ref j)∧IsPair h O p q∧zE tp h i a k∧zE tp h j b k
theorem jP {tp:Bool}{z I O i j a b:Addr}{k:Nat}{h:Heap}(st:nE tp z I O i j a b k h):∀ c∈[z,I,O,i,j],∃ o,h.get? c=some o∧∀ v,o.data≠.cell v:=fun c hc=>by
 obtain⟨p,q,s1,s2,s3,s4,s5⟩:=st
 simp only[List.mem_cons,List.not_mem_nil,or_false] at hc
 rcases hc with rfl|rfl|rfl|rfl|rfl
 ·exact⟨_,s1,fun v y=>by cases y⟩
 ·exact⟨_,s2,fun v y=>by cases y⟩
 ·exact⟨_,s3,fun v y=>by cases y⟩
 ·exact s4.there
 ·exact s5.there
theorem cO {c z I O i j:Addr}(h:c ∉ [z,I,O,i,j]):c≠z∧c≠O∧c≠i∧c≠j:=by
 simp only[List.mem_cons,List.not_mem_nil,or_false,not_or] at h
 exact⟨h.1,h.2.2.1,h.2.2.2.1,h.2.2.2.2⟩
theorem c9 {P:Program}{w:World}{K:PySem.W.Frag}{elts:List Expr}{x1:Nat}{tpos:Pos}{tp:Bool}{z I O i j a b:Addr}(D:ZA z I O i j):Turn P w K (.Tuple elts x1 tpos) (Itz tp K a b) [z,I,O,i,j] z (nE tp z I O i j a b) where
 mem:=.head _
 obj:=fun k h st=>jP st
 keep:=fun k h h' st kp=>by
  obtain⟨p,q,s1,s2,s3,s4,s5⟩:=st
  exact⟨p,q,kp z (.head _) _ s1,kp I (.tail _ (.head _)) _ s2,kp O (.tail _ (.tail _ (.head _))) _ s3,s4.keep fun o e=>kp i (.tail _ (.tail _ (.tail _ (.head _)))) o e,s5.keep fun o e=>kp j (.tail _ (.tail _ (.tail _ (.tail _ (.head _))))) o e⟩
 item:=by
  intro X hP hw hK hc k pins s σ H E Iv hf st hg
  subst hP hw hK
  obtain⟨p,q,s1,s2,s3,s4,s5⟩:=st
  obtain⟨xs,ys,x,y,qa,qb,hx,hy⟩:=hg
  obtain⟨ia,ra,ha⟩:=qa.at Iv
  obtain⟨ib,rb,hb⟩:=qb.at Iv
  obtain⟨u,hu,ru⟩:=ra.get hx
  obtain⟨u',hu',ru'⟩:=rb.get hy
  have off:∀ {c:Addr} {zs:List V},Sq tp X.K H c zs→Off z O i j c:=fun {c zs} qc=>⟨qc.off Iv (hf z (.head _)),qc.off Iv (hf O (.tail _ (.tail _ (.head _)))),qc.off Iv (hf i (.tail _ (.tail _ (.tail _ (.head _))))),qc.off Iv (hf j (.tail _ (.tail _ (.tail _ (.tail _ (.head _))))))⟩
  have hT:s.TypeIs (.ref z) "zip":=⟨_,s1,rfl⟩
  unfold pyNext
  refine wpAny_bind (wpAny_attempt (wpAny_callSpecial?_slot (name:=Str.ofString "__next__") hT F.slot_zip_next (wpAny_call_entry F.slot_zip_next hT F.entry_zip_next
   (cC D (off qa) (off qb) s1 s2 s3 s4 s5 ha hb (by simpa using hu) (by simpa using hu') fun h' a1 a2 a3 a4 a5 a6 a7=>wpAny_pure ?_) (F.args_zip_next_1 _))))
  refine⟨_,rfl,wpAny_letOwnedTupleGo_zip (s:={ s with heap:=h' }) a1 fun h2 b1 b2=>?_⟩
  have up:∀ c o,c≠z→h'.get? c=some o→h2.get? c=some o:=fun c o n e=>(b2.2 c n).trans e
  have zl:z<s.heap.objs.size:=Heap.lt_size s1
  have T2:IsPair h2 s.heap.objs.size u u':=up _ _ (Nat.ne_of_gt zl) a5
  have st2:nE tp z I O i j a b (k+1) h2:=⟨u,u',b1,up _ _ D.Iz (a7 I _ D.Iz D.IO D.Ii D.Ij s2),up _ _ D.Oz a2,a3.keep fun o e=>up _ o D.iz e,a4.keep fun o e=>up _ o D.jz e⟩
  refine⟨.ref s.heap.objs.size,upd H s.heap.objs.size (.tup [x,y]),?_,rfl,⟨_,x,y,rfl,Iv.hok.fresh (Nat.le_refl _),rfl,fun zs qz=>by rw[qz.inj Iv qa];exact hx,fun zs qz=>by rw[qz.inj Iv qb];exact hy⟩,st2,fun c hc=>?_⟩
  ·show _L.Inv X pins σ (upd H s.heap.objs.size (.tup [x,y])) { s with heap:=h2 }
   refine Inv.turnLay (fp:=[z,I,O,i,j]) (its:=[u,u']) Iv hf (fun c o hc e=>?_) (fun c hc=>?_) (Nat.le_refl _) (.cons ru (.cons ru' .nil)) ⟨_,T2,rfl,_,rfl⟩ (by show 2≤sizeLine;decide)
   ·have hc:=cO hc
    exact up c o hc.1 (a7 c o hc.1 hc.2.1 hc.2.2.1 hc.2.2.2 e)
   ·obtain⟨o,e,_⟩:=jP st2 c hc
    exact⟨o,e⟩
  ·have hn:=(hf c hc).1
   rw[qI ?_]
   ·exact hn
   ·rintro rfl
    obtain⟨o,e,_⟩:=jP ⟨p,q,s1,s2,s3,s4,s5⟩ _ hc
    exact absurd (Heap.lt_size e) (Nat.lt_irrefl _)
 done:=by
  intro X hP hw hK hc k pins s σ H E Iv hf st hg
  subst hP hw hK
  obtain⟨p,q,s1,s2,s3,s4,s5⟩:=st
  obtain⟨xs,ys,qa,qb,hend⟩:=hg
  obtain⟨ia,ra,ha⟩:=qa.at Iv
  obtain⟨ib,rb,hb⟩:=qb.at Iv
  have off:∀ {c:Addr} {zs:List V},Sq tp X.K H c zs→Off z O i j c:=fun {c zs} qc=>⟨qc.off Iv (hf z (.head _)),qc.off Iv (hf O (.tail _ (.tail _ (.head _)))),qc.off Iv (hf i (.tail _ (.tail _ (.tail _ (.head _))))),qc.off Iv (hf j (.tail _ (.tail _ (.tail _ (.tail _ (.head _))))))⟩
  have hT:s.TypeIs (.ref z) "zip":=⟨_,s1,rfl⟩
  have l1:=ra.length
  have l2:=rb.length
  unfold pyNext
  refine wpAny_bind (wpAny_attempt (wpAny_callSpecial?_slot (name:=Str.ofString "__next__") hT F.slot_zip_next (wpAny_call_entry F.slot_zip_next hT F.entry_zip_next
   (cD (Iv.ok.hd hc) D (off qa) (off qb) s1 s2 s3 s4 s5 ha hb ?_ fun h' e kp he=>?_) (F.args_zip_next_1 _))))
  ·rcases hend with y|y
   ·exact .inl (by simp;omega)
   ·exact .inr (by simp;omega)
  ·obtain⟨o,ho,hcl⟩:=he
   refine wpAny_bind (wpAny_isInstance (T:="StopIteration") (b:=true) ⟨o,ho,hcl⟩ isSubtype_stop (wpAny_pure ⟨rfl,Inv.turnL (fp:=[z,I,O,i,j]) Iv hf fun c o hc e=>?_⟩))
   have hc:=cO hc
   exact kp c o hc.1 hc.2.1 hc.2.2.1 hc.2.2.2 e
 self:=fun _ _ _ _ _ st h=>by
  obtain⟨p,q,s1,_⟩:=st
  exact wpAny_pyIter_zip s1 h
end _D
end
section
namespace _D
open PySem PySem.Spec PyProof.Rows _L
def vZ (xs ys:List D):List D:=List.zipWith (fun x y=>D.tup [x,y]) xs ys
def VJ (ds:List D):Option (List D):=match ds with
 |[.tup xs,.tup ys]=>some (vZ xs ys)
 |[.lst xs,.lst ys]=>some (vZ xs ys)
 |_=>none
def rD (f:DA):DI:=fun env S=>(f env S).bind fun ds S1=>yP (VJ ds) S1
theorem cB {xs ys:List D}{i:Nat}:(vZ xs ys)[i]? = match xs[i]?,ys[i]? with|some x,some y=>some (D.tup [x,y])|_,_=>none:=by
 unfold vZ
 rw[List.getElem?_zipWith]
 cases xs[i]? <;> cases ys[i]? <;> rfl
theorem kU (xs ys:List D):(vZ xs ys).length=min xs.length ys.length:=by simp[vZ]
section
variable {K:PySem.W.Frag}
theorem Sq.mono {tp:Bool}{P P':Hp}(e:qG P P'){a:Addr}{xs:List V}(q:Sq tp K P a xs):Sq tp K P' a xs:=by
 cases tp with
 |true=>exact yE e q
 |false=>exact e.seq q
theorem o4 {tp:Bool}{P:Hp}{α : List Addr}{a b:Addr}{xs ys:List D}{vs ws:List V}(qa:Sq tp K P a vs)(qb:Sq tp K P b ws)(ta:qE K P α xs vs)(tb:qE K P α ys ws):ItD K (Itz tp K a b) P α (vZ xs ys) where
 go:=fun i H P1 α1 S hi r e _=>by
  rw[kU] at hi
  have h1:i<vs.length:=by rw[← ta.length];omega
  have h2:i<ws.length:=by rw[← tb.length];omega
  exact⟨vs,ws,vs[i],ws[i],qa.mono (e.trans r.sub),qb.mono (e.trans r.sub),by simp,by simp⟩
 yld:=fun i H x H' P1 α1 S hi r e e2 y=>by
  obtain⟨T,u,w,rfl,hT,rfl,hu,hw⟩:=y
  rw[kU] at hi
  have h1:i<xs.length:=by omega
  have h2:i<ys.length:=by omega
  obtain⟨v1,z1,p1⟩:=ta.get (List.getElem?_eq_getElem h1)
  obtain⟨v2,z2,p2⟩:=tb.get (List.getElem?_eq_getElem h2)
  have eu:=hu vs (qa.mono (e.trans r.sub))
  have ew:=hw ws (qb.mono (e.trans r.sub))
  rw[z1] at eu;cases eu
  rw[z2] at ew;cases ew
  obtain⟨r1,s1⟩:=r.pure (o:=.tup [u,w]) hT
  refine⟨_,.tup [xs[i],ys[i]],?_,r1,s1,?_⟩
  ·rw[cB,List.getElem?_eq_getElem h1,List.getElem?_eq_getElem h2]
  ·exact tR (.of qV) (.cons (Rep.mono (e.trans s1) e2 _ _ p1) (.cons (Rep.mono (e.trans s1) e2 _ _ p2) .nil))
 stop:=fun i H P1 α1 S hi r e _=>by
  rw[kU] at hi
  have l1:=ta.length
  have l2:=tb.length
  exact⟨vs,ws,qa.mono (e.trans r.sub),qb.mono (e.trans r.sub),by omega⟩
end
section
variable {X:Cx}{e1 e2:Expr}{elts:List Expr}{x1:Nat}{tpos:Pos}{f:DA}{p pos:Pos}
theorem sU {tp:Bool}{pins:List (Addr × Obj)}{σ : _L.St}{H P:Hp}{α : List Addr}{S:Sto}{s:Shared}{a b:Addr}{xs ys:List D}{vs ws:List V}{R:It→Hp→Prop}(I:Inv X pins σ H s)(r:Rel X.K H P α S)(qa:Sq tp X.K P a vs)(qb:Sq tp X.K P b ws)(ta:qE X.K P α xs vs)(tb:qE X.K P α ys ws)
  (q:OkI X P α R (vZ xs ys) S):wpAny (model X.prog X.w) X.A (call (.type "zip") [.ref a,.ref b]) (fun v s1=>wpAny (model X.prog X.w) X.A (pyIter v) (PIE X pins σ (.Tuple elts x1 tpos) R) X.xe s1) X.xe s:=by
 obtain⟨ia,ra,ha⟩:=(qa.mono r.sub).at I
 obtain⟨ib,rb,hb⟩:=(qb.mono r.sub).at I
 refine sZ ha hb fun h' z1 z2 z3 z4 z5 z6 z7=>?_
 refine wpAny_pyIter_zip (s:={ s with heap:=h' }) z1 ?_
 have D:ZA (s.heap.objs.size+4) (s.heap.objs.size+2) (s.heap.objs.size+3) s.heap.objs.size (s.heap.objs.size+1):=by constructor <;> (intro z;simp at z)
 refine⟨_,[s.heap.objs.size+4,s.heap.objs.size+2,s.heap.objs.size+3,s.heap.objs.size,s.heap.objs.size+1],_,_,H,rfl,I.kept (t':=s.toks) z7,c9 (a:=a) (b:=b) D,⟨_,_,z1,z2,z3,z4,z5⟩,fun c hc=>?_,q _ _ P α r (qG.refl _) (List.prefix_refl _) (o4 qa qb ta tb)⟩
 have hl:s.heap.objs.size≤c:=by
  simp only[List.mem_cons,List.not_mem_nil,or_false] at hc
  rcases hc with rfl|rfl|rfl|rfl|rfl <;> simp
 exact I.fpOk hl (I.hok.fresh hl)
inductive ZipV (ds:List D)(its:List D):Prop
 |tup (xs ys:List D) (ed:ds=[.tup xs,.tup ys]) (e:its=vZ xs ys)
 |lst (xs ys:List D) (ed:ds=[.lst xs,.lst ys]) (e:its=vZ xs ys)
theorem QN {ds its:List D}(h:VJ ds=some its):ZipV ds its:=by
 cases ds with
 |nil=>exact nn h
 |cons a ds =>
  cases a with
  |tup xs =>
   cases ds with
   |nil=>exact nn h
   |cons b ds =>
    cases b with
    |tup ys =>
     cases ds with
     |nil=>exact .tup xs ys rfl (Option.some.inj h).symm
     |cons _ _=>exact nn h
    |_=>exact nn h
  |lst xs =>
   cases ds with
   |nil=>exact nn h
   |cons b ds =>
    cases b with
    |lst ys =>
     cases ds with
     |nil=>exact .lst xs ys rfl (Option.some.inj h).symm
     |cons _ _=>exact nn h
    |_=>exact nn h
  |_=>exact nn h
theorem X2 (hg:Gl X "zip")(hm:X.mg "zip" = none)(ha:PA X [e1,e2] (tDA X f))(hs:starEach [e1,e2] X.env=(false,eval e1 X.env)::starEach [e2] X.env:=by rfl)(hpl:(backTo pos (starEach [e2] X.env)).any (·.1)=false:=by rfl) :
  PI X (.Tuple elts x1 tpos) (.Call (.Name "zip" p) [e1,e2] [] pos) (tDI X (rD f)):=by
 intro pins s σ H R I h
 obtain⟨P,α,env,S,r,re,af⟩:=h
 refine Call_ (jG I hg hm boot_zip (PyProof.Rows.callWith_type1 (thn (xO ha I r re af pos) fun us s1 ⟨vs,H1,P1,α1,ds,S1,I1,rv,r1,re1,rp,e1,e2,af1⟩=>?_) hs hpl))
 obtain⟨its,hi,q⟩:=yU af1
 cases QN hi with
 |tup xs ys ed e =>
  subst ed e
  obtain⟨v,w,u,x,rfl,rfl,p1,p2,q1,q2⟩:=vQ rp rv
  simp only[Rep] at p1 p2
  obtain⟨a,va,rfl,qa,ta⟩:=p1
  obtain⟨b,vb,rfl,qb,tb⟩:=p2
  cases (show u=Value.ref a from q1)
  cases (show x=Value.ref b from q2)
  exact sU (tp:=true) I1 r1 qa qb ta tb (q.base e1 e2)
 |lst xs ys ed e =>
  subst ed e
  obtain⟨v,w,u,x,rfl,rfl,p1,p2,q1,q2⟩:=vQ rp rv
  simp only[Rep] at p1 p2
  obtain⟨a,va,rfl,qa,ta⟩:=p1
  obtain⟨b,vb,rfl,qb,tb⟩:=p2
  cases (show u=Value.ref a from q1)
  cases (show x=Value.ref b from q2)
  exact sU (tp:=false) I1 r1 qa.l qb.l ta tb (q.base e1 e2)
end
end _D
end
section
namespace _D
open PySem PySem.Spec PyProof.Rows _L
def Src (K:PySem.W.Frag)(mg:Str→Option Value)(x:Str)(st:Stmt)(ps:List Str):Prop:=∃ f fd,mg x=some (.ref f)∧Fun K x x st f fd∧yF K fd ps []
def Lk (K:PySem.W.Frag)(f:Addr)(fd:FuncData):Prop:=∃ oc od osl,K.lookup f=some ⟨oc,od,.func fd,osl⟩
theorem jW {K:PySem.W.Frag}{x q:Str}{st:Stmt}{f:Addr}{fd:FuncData}(F:Fun K x q st f fd):Lk K f fd:=by
 obtain⟨oc,od,kV,doc,pm,an,cdv,ct,osl,_,lk,_⟩:=F.ex
 exact⟨oc,od,osl,lk⟩
theorem Lk.one {K:PySem.W.Frag}{f:Addr}{fd fd':FuncData}(h:Lk K f fd)(h':Lk K f fd'):fd=fd':=by
 obtain⟨oc,od,osl,e⟩:=h
 obtain⟨oc',od',osl',e'⟩:=h'
 rw[e] at e'
 cases e'
 rfl
def Def (P:Program)(w:World)(K:PySem.W.Frag)(mg:Str→Option Value)(base:Heap)(cm:Bool)(k:Nat)(x:Str)(n:Nat)(F:DF):Prop:=
 ∃ f fd ps,ps.length=n∧mg x=some (.ref f)∧PySem.W.keepIn K (.ref f)=true∧yF K fd ps [] ∧ Lk K f fd∧FnX P w K mg base cm k f fd ps (spD K n F)
def bN (P:Program)(w:World)(K:PySem.W.Frag)(mg:Str→Option Value)(base:Heap)(cm:Bool)(k:Nat)(x:Str)(ps:List Str)(F:DF):Prop:=
 ∃ f fd,mg x=some (.ref f)∧PySem.W.keepIn K (.ref f)=true∧yF K fd ps [] ∧ Lk K f fd∧FnX P w K mg base cm k f fd ps (spD K ps.length F)
section
variable {P:Program}{w:World}{K:PySem.W.Frag}{mg:Str→Option Value}{base:Heap}{cm:Bool}
theorem cH {x:Str}{f:Addr}{fd:FuncData}{cdv:Value}(hm:mg x=some (.ref f))(lk:Lk K f fd)(h:fd.code=cdv∧Mod K mg base):uI K x cdv:=fun c T e=>by
 obtain⟨oc,od,osl,lk⟩:=lk
 rw[← h.1]
 exact PySem.W.law_code h.2.kin h.2.glob e hm (h.2.kin _ _ lk) rfl
theorem ZY {x:Str}{st:Stmt}{N ps:List Str}{k:Nat}{g:DS}(h:Src K mg x st ps)(S:FnScope N ps (qF st))
  (hbody:∀ (f:Addr) (cdv:Value) (A:Around) (outer:List Env) (s:Shared) (H:Hp) (E:XK),uI K x cdv→RoomC cm k (A.deeper (envOfC x (qF st) s.heap.objs.size f cdv)) →
   PSs (cxC cm P w K mg base N x (qF st) f cdv A outer s H E) (zB st) (tDS (cxC cm P w K mg base N x (qF st) f cdv A outer s H E) g)):Def P w K mg base cm (k+1) x ps.length (qQ N.length g):=by
 obtain⟨f,fd,hm,F,hb⟩:=h
 exact⟨f,fd,ps,rfl,hm,F.kp,hb,jW F,fnX F S fun cdv A outer s H E hc hr=>hbody f cdv A outer s H E (cH hm (jW F) hc) hr⟩
theorem i6 {x:Str}{st:Stmt}{N ps:List Str}{k:Nat}{g:DS}(h:Src K mg x st ps)(S:FnScope N ps (qF st))
  (hbody:∀ (f:Addr) (cdv:Value) (A:Around) (outer:List Env) (s:Shared) (H:Hp) (E:XK),uI K x cdv→RoomC cm k (A.deeper (envOfC x (qF st) s.heap.objs.size f cdv)) →
   PSs (cxC cm P w K mg base N x (qF st) f cdv A outer s H E) (zB st) (tDS (cxC cm P w K mg base N x (qF st) f cdv A outer s H E) g)):bN P w K mg base cm (k+1) x ps (qQ N.length g):=by
 obtain⟨f,fd,hm,F,hb⟩:=h
 exact⟨f,fd,hm,F.kp,hb,jW F,fnX F S fun cdv A outer s H E hc hr=>hbody f cdv A outer s H E (cH hm (jW F) hc) hr⟩
theorem Def.mono {x:Str}{j k n:Nat}{F:DF}(h:Def P w K mg base cm j x n F)(hk:j≤k:=by decide):Def P w K mg base cm k x n F:=by
 obtain⟨f,fd,ps,hn,hm,kp,hb,hl,X⟩:=h
 exact⟨f,fd,ps,hn,hm,kp,hb,hl,X.len,fun A outer s H args us vs Q E hr=>X.run A outer s H args us vs Q E (hr.mono hk)⟩
theorem Def.any {x:Str}{k n:Nat}{F:DF}(h:Def P w K mg base false k x n F):Def P w K mg base cm k x n F:=by
 obtain⟨f,fd,ps,hn,hm,kp,hb,hl,X⟩:=h
 exact⟨f,fd,ps,hn,hm,kp,hb,hl,X.any⟩
end
section
variable {X:Cx}{cm:Bool}{k n:Nat}{F:DF}{x:Str}{p pos:Pos}{e:Expr}{es:List Expr}{fa:DA}
theorem dcN (G:Def X.prog X.w X.K X.mg X.base cm k x n F)(hr:RoomC cm k X.A)(hF:Fn1 X)(hg:Gl X x)(ha:PA X (e::es) (tDA X fa))(hdb:(x == ("__debug__" : Str))=false:=by decide)(he:starEach (e::es) X.env=(false,eval e X.env)::starEach es X.env:=by rfl)(hpl:(backTo pos (starEach es X.env)).any (·.1)=false:=by rfl) :
  PE X (.Call (.Name x p) (e::es) [] pos) (tD X (qJ n F fa)):=by
 obtain⟨f,fd,ps,hn,hm,kp,hb,hl,G⟩:=G
 exact aU G hr hF hg hm kp hb ha hdb he hpl
theorem ZN {C:Addr}(hg:Gl X x)(hm:X.mg x=some (.ref C))(hk:PySem.W.keepIn X.K (.ref C)=true)(hd:(x == ("__debug__" : Str))=false:=by decide):PE X (.Name x pos) (tD X (dC (.obj C))):=
 aY hg hm (v:=.ref C) rfl (fun P α => by simp only[Rep];exact⟨trivial,hk⟩) hd
end
def jU:DF:=fun ds S=>match ds with
 |[.dct0]=>.bad
 |_=>fE ds S
theorem aI {X:Cx}:w8 X (.builtin "len") jU:=ZD trivial
def jC:DE:=fun _ _=>.bad
theorem ZL {X:Cx}{e:Expr}:PE X e (tD X jC):=fun _ _ _ _ _ _ ⟨_,_,_,_,_,_,h⟩=>False.elim h
theorem cG:∃ C:Int→Int→Bool,C=bR:=⟨_,rfl⟩
noncomputable def cF:Int→Int→Bool:=Classical.choose cG
theorem bS:cF=bR:=Classical.choose_spec cG
noncomputable def qU:G2:=i2 cF fun i j=>.int (i*j)
theorem tI {X:Cx}:OpD X (binaryOp .Mult) qU:=by
 unfold qU
 rw[bS]
 exact oG
theorem hu1 {cm:Bool}{k:Nat}{A:Around}(hr:RoomC cm k A):A.units+1<cLine:=by have:=hr.units;omega
end _D
end
section
namespace _D
open PySem PySem.Spec PyProof.Rows _L
def okO (F:DF):DF:=fun ds S=>match F ds S with
 |.ok d S'=>.ok d S'
 |_=>.bad
theorem dO {F:DF}{ds:List D}{S S':Sto}{d:D}(h:F ds S=.ok d S'):okO F ds S=.ok d S':=by unfold okO;rw[h]
section
variable {X:Cx}{cm:Bool}{k n:Nat}{F:DF}{x:Str}{p pos:Pos}{e:Expr}{es:List Expr}{fa:DA}{f:Addr}{fd:FuncData}{ps:List Str}
theorem Q8 {pins:List (Addr × Obj)}{σ : _L.St}{H:Hp}{s:Shared}{Q:VK}{us:List Value}{vs:List V}{P:Hp}{α : List Addr}{ds:List D}{S:Sto}(G:FnX X.prog X.w X.K X.mg X.base cm k f fd ps (spD X.K n F))(hr:RoomC cm k X.A)(hb:yF X.K fd ps [])
  (I:Inv X pins σ H s) (r:Rel X.K H P α S) (rv:qL vs us) (rp:qE X.K P α ds vs) (hn:ds.length=n) (af:qR X P α (okO F ds S) Q):wpAny (model X.prog X.w) X.A (call (.ref f) us) (EP X pins σ Q) X.xe s:=by
 have hvn:vs.length=n:=by rw[← rp.length];exact hn
 have hsp:spD X.K n F vs H Q fun _ _ _=>False:=by
  refine⟨hvn,P,α,ds,S,r,rp,?_⟩
  unfold okO at af
  cases q:F ds S with
  |ok d S'=>rw[q] at af;exact af
  |ex c x S'=>rw[q] at af;exact False.elim af
  |bad=>rw[q] at af;exact af
 have hl:us.length=ps.length:=by rw[← rv.length];exact G.len _ _ _ _ hsp
 have hb':=hb s us I.kIn (by rw[List.append_nil];exact hl)
 rw[List.append_nil] at hb'
 refine wpAny_call (codeAny_mono (G.run X.A X.stack s H ⟨us,[]⟩ us vs Q _ hr I.env0 hb' rv hsp) fun r s' hq=>?_)
 cases r with
 |error u =>
  obtain⟨_,_,_,_,_,_,_,_,_,_,_,_,z⟩:=hq
  exact False.elim z
 |ok fl =>
  cases fl with
  |ret u=>exact I.after hq
  |next=>exact False.elim hq
  |brk=>exact False.elim hq
  |cont=>exact False.elim hq
theorem dcO (G:Def X.prog X.w X.K X.mg X.base cm k x n F)(hr:RoomC cm k X.A)(hg:Gl X x)(ha:PA X (e::es) (tDA X fa))(hdb:(x == ("__debug__" : Str))=false:=by decide)(he:starEach (e::es) X.env=(false,eval e X.env)::starEach es X.env:=by rfl)(hpl:(backTo pos (starEach es X.env)).any (·.1)=false:=by rfl) :
  PE X (.Call (.Name x p) (e::es) [] pos) (tD X (qJ n (okO F) fa)):=by
 obtain⟨f,fd,ps,hn0,hm,hk,hb,hl,G⟩:=G
 intro pins s σ H Q I h
 obtain⟨P,α,env,S,r,re,af⟩:=h
 refine wpAny_Call_Name_kw (yT I hg hm ?_ hdb)
 refine PySem.W.callWith_K (h₀:=X.base) I.ok.mod.kin hk (thn (xO ha I r re af pos) fun us s1 ⟨vs,H1,P1,α1,ds,S1,I1,rv,r1,re1,rp,e1,e2,af1⟩=>⟨I1.kIn,?_⟩) he hpl
 obtain⟨hn,af2⟩:=pR (env:=env) (S:=S) af1
 exact Q8 G hr hb I1 r1 rv rp hn (qR.base e1 e2 af2)
end
end _D
end
section
namespace _D
open PySem PySem.Spec PyProof.Rows _L
structure QE (X:Cx)(e:Expr)(f:DE):Prop where
 get:PE X e (tD X f)
structure QT (X:Cx)(e:Expr)(t:DT):Prop where
 get:PT X e (tDT X t)
structure QW (X:Cx)(e:Expr)(t:DT):Prop where
 get:PWD X e t
structure QA (X:Cx)(es:List Expr)(f:DA):Prop where
 get:PA X es (tDA X f)
structure QO (X:Cx)(e:Option Expr)(f:DO):Prop where
 get:PO X e (tDO X f)
structure QG (X:Cx)(t:Expr)(g:DG):Prop where
 get:PG X t (tDG X g)
structure QGs (X:Cx)(ts:List Expr)(g:DGs):Prop where
 get:PGs X ts (m8 X g)
structure QI (X:Cx)(tg it:Expr)(f:DI):Prop where
 get:PI X tg it (tDI X f)
structure QS (X:Cx)(s:Stmt)(f:DS):Prop where
 get:PS X s (tDS X f)
structure QB (X:Cx)(ss:List Stmt)(f:DS):Prop where
 get:PSs X ss (tDS X f)
structure QJ (X:Cx)(es:List Expr)(fs:List DE):Prop where
 get:PJ X es fs
structure ZOp (X:Cx)(f:Value→Value→Sem Value)(g:G2):Prop where
 get:OpD X f g
structure ZIx (X:Cx)(g:G2):Prop where
 get:IxD X g
structure ZCall (X:Cx)(f:Value)(F:DF):Prop where
 get:w8 X f F
structure ZMt (X:Cx)(id:String)(g:D→List D→Sto→Res D):Prop where
 get:MtD X id g
structure ZSet (X:Cx)(g:G3):Prop where
 get:bO X (bL X g)
structure ZPass (X:Cx):Prop where
 get:PassesOwn (model X.prog X.w) X.A X.env X.xe
section
variable {X:Cx}{a b c e e1 e2 o i:Expr}{es rest:List Expr}{fa fb fc fe fo fi:DE}{ta tb:DT}{fA:DA}{f g:DS}{st:Stmt}{sts:List Stmt}{x:Str}{p pos:Pos}{n k:Nat}{cm:Bool}{F:DF}{G2':G2}
theorem dZ {j}:QE X (.Constant .none j pos) (dC .non):=⟨ZT⟩
theorem cU {v j}:QE X (.Constant (.bool v) j pos) (dC (.bl v)):=⟨VP⟩
theorem YH {v j}:QE X (.Constant (.int v) j pos) (dC (.int v)):=⟨ZR⟩
theorem YK {v j}:QE X (.Constant (.str v) j pos) (dC (.str v)):=⟨ZW⟩
theorem YL (m:Nat)(hN:X.N[m]? = some x)(hv:Vis X.env.scope x)(hd:(x == ("__debug__" : Str))=false)(hcd:(x == ("__classdict__" : Str))=false):QE X (.Name x pos) (qB m):=⟨dv m hN hv hd hcd⟩
theorem oY {nm:String}(hg:Gl X x)(hm:X.mg x=none)(hv:bootBuiltins x=some (.type nm))(hn:x ≠ "__name__")(hd:(x == ("__debug__" : Str))=false):QE X (.Name x pos) (dC (.ty nm)):=⟨aS hg hm hv hn hd⟩
theorem YF {C:Addr}(hg:Gl X x)(hm:X.mg x=some (.ref C))(hk:PySem.W.keepIn X.K (.ref C)=true)(hd:(x == ("__debug__" : Str))=false):QE X (.Name x pos) (dC (.obj C)):=⟨ZN hg hm hk hd⟩
theorem YE:QE X e jC:=⟨ZL⟩
theorem YJ (ha:QE X a fa):QE X (.UnaryOp .Not a pos) (nP fa):=⟨ZU ha.1⟩
theorem J2 {op:Operator}(ho:ZOp X (binaryOp op) G2')(ha:QE X a fa)(hb:QE X b fb):QE X (.BinOp a op b pos) (d2 G2' fa fb):=⟨VT ho.1 ha.1 hb.1⟩
theorem dY {op:CmpOp}(ho:ZOp X (compareOp op) G2')(ha:QE X a fa)(hb:QE X b fb)(hm:behindInMarks op b=false:=by first|exact uD _|with_unfolding_all rfl):QE X (.Compare a [op] [b] pos) (d2 G2' fa fb):=⟨ZO ho.1 ha.1 hb.1 hm⟩
theorem eY {op op':CmpOp}{g':G2}(ho:ZOp X (compareOp op) G2')(ho':ZOp X (compareOp op') g')(ha:QE X a fa)(hb:QE X b fb)(hc:QE X c fc)(hm:lastMarks [op,op'] [b,c]=false:=by with_unfolding_all rfl):QE X (.Compare a [op,op'] [b,c] pos) (f7 G2' g' fa fb fc):=⟨rF ho.1 ho'.1 ha.1 hb.1 hc.1 hm⟩
theorem sA {op} (h:QE X a fa):QE X (.BoolOp op [a] pos) fa:=⟨ZV h.1⟩
theorem dW (ha:QE X a fa)(hb:QE X (.BoolOp .And (b::rest) pos) fb):QE X (.BoolOp .And (a::b::rest) pos) (yN fa fb):=⟨ZK ha.1 hb.1⟩
theorem J3 (ha:QE X a fa)(hb:QE X (.BoolOp .Or (b::rest) pos) fb):QE X (.BoolOp .Or (a::b::rest) pos) (dOr fa fb):=⟨VU ha.1 hb.1⟩
theorem UZ (hc:QT X c ta)(ha:QE X a fa)(hb:QE X b fb):QE X (.IfExp c a b pos) (dIf ta fa fb):=⟨VR hc.1 ha.1 hb.1⟩
theorem sC {x1} (h:QA X es fA):QE X (.Tuple es x1 pos) (wI fA):=⟨ZX h.1⟩
theorem YI (h:QA X es fA):QE X (.List es pos) (zW fA):=⟨ZS h.1⟩
theorem Q1 (h:QA X es fA):QE X (.List es pos) (nO fA):=⟨i3 h.1⟩
theorem oZ:QE X (.Dict [] [] pos) nN:=⟨aX⟩
theorem J0 (ho:ZIx X G2')(ha:QE X a fa)(hb:QE X b fb)(hs:gT b:=by intro _ _;rfl):QE X (.Subscript a b pos) (d2 G2' fa fb):=⟨VS ho.1 ha.1 hb.1 hs⟩
theorem h9 {lo hi:Option Expr}{fl fh:DO}{p2:Pos}(he:QE X e fe)(hl:QO X lo fl)(hu:QO X hi fh):QE X (.Subscript e (.Slice lo hi none p2) pos) (dSl fe fl fh):=⟨rH he.1 hl.1 hu.1⟩
theorem Q4 (he:QE X e fe):QO X (some e) (wV fe):=⟨iA he.1⟩
theorem YG (he:QE X e fe):QE X (.FormattedValue e (-1) none pos) (d1 vW fe):=⟨ZP he.1⟩
theorem YQ:QJ X [] []:=⟨Y8⟩
theorem Q3 {fs:List DE}(he:QE X e fe)(hr:QJ X es fs):QJ X (e::es) (fe::fs):=⟨oS he.1 hr.1⟩
theorem Q0 {fs:List DE}(h:QJ X (e1::e2::rest) fs):QE X (.JoinedStr (e1::e2::rest) pos) (bD fs):=⟨aZ h.1⟩
theorem dS:QA X [] qC:=⟨ZI⟩
theorem tK (ha:QE X e fa)(hr:QA X es fA)(hs:starEach (e::es) X.env=(false,eval e X.env)::starEach es X.env:=by rfl):QA X (e::es) (qA fa fA):=⟨aR ha.1 hr.1 hs⟩
theorem qcN (G:Def X.prog X.w X.K X.mg X.base cm k x n F)(hr:RoomC cm k X.A)(hF:Fn1 X)(hg:Gl X x)(ha:QA X (e::es) fA)(hdb:(x == ("__debug__" : Str))=false)(he:starEach (e::es) X.env=(false,eval e X.env)::starEach es X.env:=by rfl)(hpl:(backTo pos (starEach es X.env)).any (·.1)=false:=by rfl):QE X (.Call (.Name x p) (e::es) [] pos) (qJ n F fA):=⟨dcN G hr hF hg ha.1 hdb he hpl⟩
theorem eX {id:String}(hc:ZCall X (.builtin id) F)(hg:Gl X x)(hm:X.mg x=none)(hv:bootBuiltins x=some (.builtin id))(ha:QA X (e::es) fA)(hn:x ≠ "__name__")(hdb:(x == ("__debug__" : Str))=false)(he:starEach (e::es) X.env=(false,eval e X.env)::starEach es X.env:=by rfl)(hpl:(backTo pos (starEach es X.env)).any (·.1)=false:=by rfl):QE X (.Call (.Name x p) (e::es) [] pos) (qM F fA):=⟨rE hc.1 hg hm hv ha.1 hn hdb he hpl⟩
theorem dX {T:String}(hc:ZCall X (.type T) F)(hg:Gl X x)(hm:X.mg x=none)(hv:bootBuiltins x=some (.type T))(ha:QA X (e::es) fA)(hn:x ≠ "__name__")(hdb:(x == ("__debug__" : Str))=false)(he:starEach (e::es) X.env=(false,eval e X.env)::starEach es X.env:=by rfl)(hpl:(backTo pos (starEach es X.env)).any (·.1)=false:=by rfl):QE X (.Call (.Name x p) (e::es) [] pos) (qM F fA):=⟨lQ hc.1 hg hm hv ha.1 hn hdb he hpl⟩
theorem cV {T id:String}{name:Str}{apos:Pos}{h:D→List D→Sto→Res D}(pa:PlainAttrs T)(slot:Slot T name id)(hty:typeOf (.builtin id)=pure (.type "method_descriptor"))(hT:T = "list" ∨ T = "dict" ∨ T = "int" ∨ T = "str")(hm:ZMt X id h)(ho:QE X o fo)(ha:QA X (e::es) fA)
  (hbase:attributeBase o name X.env (eval o X.env)=eval o X.env:=by rfl)
  (hfew:((backTo pos (starEach (e::es) X.env)).all (fun x=>!x.1)&&(backToKw pos (keywordEach [] X.env)).all (fun x=>x.1.isSome)&&decide ((e::es).length+([]:List Keyword).length+(if ([] : List Keyword).isEmpty then 0 else 1)<30))=true:=by rfl)
  (hline:(apos.endLine == pos.line)=true:=by rfl) (hs:starEach (e::es) X.env=(false,eval e X.env)::starEach es X.env:=by rfl) (hplain:(backTo pos (starEach es X.env)).any (·.1)=false:=by rfl):QE X (.Call (.Attribute o name apos) (e::es) [] pos) (dBm T h fo fA):=⟨VQ pa slot hty hT hm.1 ho.1 ha.1 hbase hfew hline hs hplain⟩
theorem cX (h:QW X e ta):QT X e ta:=⟨PWD.pt h.1⟩
theorem tO (ha:QT X a ta):QW X (.BoolOp .And [a] pos) ta:=⟨iF ha.1⟩
theorem gM (ha:QT X a ta):QW X (.BoolOp .Or [a] pos) ta:=⟨XG ha.1⟩
theorem sJ (ha:QT X a ta)(hb:QW X (.BoolOp .And (b::rest) pos) tb):QW X (.BoolOp .And (a::b::rest) pos) (wR ta tb):=⟨XF ha.1 hb.1⟩
theorem bH (ha:QT X a ta)(hb:QW X (.BoolOp .Or (b::rest) pos) tb):QW X (.BoolOp .Or (a::b::rest) pos) (xX ta tb):=⟨U2 ha.1 hb.1⟩
theorem YW (ha:QT X a ta):QT X (.UnaryOp .Not a pos) (zS ta):=⟨XD ha.1⟩
theorem sH {op:CmpOp}(ho:ZOp X (compareOp op) G2')(ha:QE X a fa)(hb:QE X b fb)(hm:behindInMarks op b=false:=by first|exact uD _|with_unfolding_all rfl):QT X (.Compare a [op] [b] pos) (dTr (d2 G2' fa fb)):=⟨XC ho.1 ha.1 hb.1 hm⟩
theorem sI (ha:QE X a fa)(he:∀ whole,isTrue a X.env whole=(do let v ← whole;standAt a.pos;holding [v] (truthy v)):=by intro _;rfl):QT X a (dTr fa):=⟨XE ha.1 he⟩
theorem Q2 {m:Nat}(hN:X.N.Nodup)(hi:X.N[m]? = some x)(hx:Loc X.env.scope x)(hf:X.fn x=true∨X.env.scope.names.lookup x=some .local):QG X (.Name x pos) (gNm m):=⟨i7 hN hi hx hf⟩
theorem tL:QGs X [] gC:=⟨i8⟩
theorem fS {h:DG}{gs:DGs}(h1:QG X e h)(h2:QGs X es gs)(hs:(assignEach (e::es) X.env).map (·.2)=assign e X.env::(assignEach es X.env).map (·.2):=by rfl):QGs X (e::es) (yJ h gs):=⟨rJ h1.1 h2.1 hs⟩
theorem sD {kk:Nat}{gs:DGs}(hc:X.calm=true)(h:QGs X es gs)(hn:(assignEach es X.env).length=n:=by rfl)(hst:(assignEach es X.env).findIdx? (·.1)=none:=by rfl):QG X (.Tuple es kk pos) (gTp n gs):=⟨X0 hc h.1 hn hst⟩
theorem YM {h:G3}(ho:QE X o fo)(hi:QE X i fi)(hs:ZSet X h)
  (ha:∀ v,assign (.Subscript o i pos) X.env v=(do
   let ov ← holding [v] (eval o X.env)
   let iv ← holding [v,ov] (eval i X.env)
   standAt pos
   holding [v,ov,iv] (setItem ov iv v)
   release [v,ov,iv] []):=by intro _;rfl):QG X (.Subscript o i pos) (gSb fo fi h):=⟨ZZ ho.1 hi.1 hs.1 ha⟩
theorem YO {tg:Expr}(ha:QE X e fa):QI X tg e (xW fa):=⟨X1 ha.1⟩
theorem hJ {tg:Expr}(hg:Gl X "range")(hm:X.mg "range" = none)(ha:QA X (e::es) fA)(hs:starEach (e::es) X.env=(false,eval e X.env)::starEach es X.env:=by rfl)(hpl:(backTo pos (starEach es X.env)).any (·.1)=false:=by rfl):QI X tg (.Call (.Name "range" p) (e::es) [] pos) (gX fA):=⟨rK hg hm ha.1 hs hpl⟩
theorem sF {elts:List Expr}{x1:Nat}{tpos:Pos}(hg:Gl X "zip")(hm:X.mg "zip" = none)(ha:QA X [e1,e2] fA)(hs:starEach [e1,e2] X.env=(false,eval e1 X.env)::starEach [e2] X.env:=by rfl)(hpl:(backTo pos (starEach [e2] X.env)).any (·.1)=false:=by rfl):QI X (.Tuple elts x1 tpos) (.Call (.Name "zip" p) [e1,e2] [] pos) (rD fA):=⟨X2 hg hm ha.1 hs hpl⟩
theorem dU:QB X [] zH:=⟨X6⟩
theorem gL (h:QS X st f):QB X [st] f:=⟨X7 h.1⟩
theorem k6 (h1:QS X st f)(h2:QB X sts g):QB X (st::sts) (qP f g):=⟨iB h1.1 h2.1⟩
theorem Q5 (he:QE X e fa)(hs:swapsWith e none pos.line X.env=pure false:=by rfl):QS X (.Expr e pos) (xD fa):=⟨iC he.1 hs⟩
theorem sG (he:QE X e fa):QS X (.Return (some e) pos) (qW fa):=⟨X9 he.1⟩
theorem cW {as bs:List Stmt}(hc:QT X c ta)(ha:QB X as f)(hb:QB X bs g):QS X (.If c as bs pos) (sIf ta f g):=⟨VZ hc.1 ha.1 hb.1⟩
theorem hW {body:List Stmt}(hp:ZPass X)(hc:QT X c ta)(hb:QB X body f):QS X (.While c body [] pos) (gN ta f):=⟨rN hp.1 hc.1 hb.1⟩
theorem YS {tg iter:Expr}{body:List Stmt}{fI:DI}{h:DG}(hp:ZPass X)(hc:X.calm=true)(hi:QI X tg iter fI)(hg:QG X tg h)(hb:QB X body f)(hs:∀ x,foldedSetIterable iter X.env x=pure x:=by intro _;rfl):QS X (.For tg iter body [] pos) (kQ fI h f):=⟨X5 hp.1 hc hi.1 hg.1 hb.1 hs⟩
theorem YU {m:Nat}{pos':Pos}(hN:X.N.Nodup)(he:QE X e fa)(hi:X.N[m]? = some x)(hx:Loc X.env.scope x)(hs:swapsWith e (some (.Name x pos')) pos.line X.env=pure false)(hf:X.fn x=true∨X.env.scope.names.lookup x=some .local):QS X (.Assign [.Name x pos'] e pos) (zD fa (gNm m)):=⟨XA hN he.1 hi hx hs hf⟩
theorem YR {tg:Expr}{h:DG}(he:QE X e fa)(hg:QG X tg h)(hs:swapsWithSole [tg] e pos.line X.env=pure false:=by rfl)(hw:swappedStores [tg] e X.env=pure none:=by rfl)(h1:(assignEach [tg] X.env).map (·.2)=[assign tg X.env]:=by rfl):QS X (.Assign [tg] e pos) (zD fa h):=⟨X4 he.1 hg.1 hs hw h1⟩
theorem YT {m l:Nat}{y:Str}{px py pt:Pos} {kt k2 pt2} (hc:X.calm=true) (hN:X.N.Nodup) (ha:QA X [a,b] fA) (hi:X.N[m]? = some x) (hj:X.N[l]? = some y) (hij:m≠l) (hx:X.env.scope.names.lookup x=some .local) (hy:X.env.scope.names.lookup y=some .local)
  (hw:swappedStores [.Tuple [.Name x px,.Name y py] kt pt] (.Tuple [a,b] k2 pt2) X.env=pure (some [x,y]):=by rfl) (hs:swapsWithSole [.Tuple [.Name x px,.Name y py] kt pt] (.Tuple [a,b] k2 pt2) pos.line X.env=pure false:=by rfl) :
  QS X (.Assign [.Tuple [.Name x px,.Name y py] kt pt] (.Tuple [a,b] k2 pt2) pos) (pK m l fA):=⟨X8 hc hN ha.1 hi hj hij hx hy hw hs⟩
theorem Q6 {m l q:Nat}{y z:Str}{px py pz pt:Pos} {kt k2 pt2} (hc:X.calm=true) (hN:X.N.Nodup) (ha:QA X [a,b,c] fA) (hi:X.N[m]? = some x) (hj:X.N[l]? = some y) (hk:X.N[q]? = some z) (hij:m≠l) (hik:m≠q) (hjk:l≠q) (hx:X.env.scope.names.lookup x=some .local) (hy:X.env.scope.names.lookup y=some .local) (hz:X.env.scope.names.lookup z=some .local)
  (hw:swappedStores [.Tuple [.Name x px,.Name y py,.Name z pz] kt pt] (.Tuple [a,b,c] k2 pt2) X.env=pure (some [x,y,z]):=by rfl) (hs:swapsWithSole [.Tuple [.Name x px,.Name y py,.Name z pz] kt pt] (.Tuple [a,b,c] k2 pt2) pos.line X.env=pure false:=by rfl) :
  QS X (.Assign [.Tuple [.Name x px,.Name y py,.Name z pz] kt pt] (.Tuple [a,b,c] k2 pt2) pos) (k8 m l q fA):=⟨iD hc hN ha.1 hi hj hk hij hik hjk hx hy hz hw hs⟩
theorem hV {C Ae:Addr}{np cpos:Pos}(hc:X.calm=true)(hF:Fn1 X)(hg:Gl X x)(hm:X.mg x=some (.ref C))(hx:kH X.K C Ae=true)(ha:QA X (e::rest) fA)(hdb:(x == ("__debug__" : Str))=false)(he:starEach (e::rest) X.env=(false,eval e X.env)::starEach rest X.env:=by rfl)(hpl:(backTo cpos (starEach rest X.env)).any (·.1)=false:=by rfl) :
  QS X (.Raise (some (.Call (.Name x np) (e::rest) [] cpos)) none pos) (jO (.ref C) fA):=⟨rM hc hF hg hm hx ha.1 hdb he hpl⟩
theorem YV {nm:Str}{C0:Addr}{m:Nat}{body:List Stmt}{b₀:Stmt}{suite:List Stmt}{np hpos:Pos}{cs:List Value}(hF:Fn1 X)(hb:∀ E pn,ZPass (Cx.tryIn X E pn)→QB (Cx.tryIn X E pn) body f)(hs:∀ e,QB (Cx.suite X e) (b₀::suite) g)(hg:Gl X x)(hm:X.mg x=some (.ref C0))(hcs:∀ c∈cs,PySem.W.exmOne X.K c (.ref C0)=some true)(hN:X.N.Nodup)(hi:X.N[m]? = some nm)(hlo:X.env.scope.names.lookup nm=some .local)(hdb:(x == ("__debug__" : Str))=false)(hn:X.N.length=n) :
  QS X (.Try body [.ExceptHandler (some (.Name x np)) (some nm) (b₀::suite) hpos] [] [] pos) (kR n m cs f g):=⟨hn▸XB hF (fun E pn hp=>(hb E pn ⟨hp⟩).1) (fun e=>(hs e).1) hg hm hcs hN hi hlo hdb⟩
theorem JN:ZOp X (binaryOp .Add) qX:=⟨WL⟩
theorem JU:ZOp X (binaryOp .Sub) zL:=⟨WQ⟩
theorem JR:ZOp X (binaryOp .Mult) qU:=⟨tI⟩
theorem JO:ZOp X (binaryOp .FloorDiv) wW:=⟨WM⟩
theorem JQ:ZOp X (binaryOp .Mod) vX:=⟨WN⟩
theorem JS:ZOp X (binaryOp .Pow) zF:=⟨WO⟩
theorem GJ:ZOp X (compareOp .Lt) gLt:=⟨UN⟩
theorem GI:ZOp X (compareOp .LtE) gLe:=⟨UM⟩
theorem GG:ZOp X (compareOp .Gt) gGt:=⟨UK⟩
theorem GF:ZOp X (compareOp .GtE) gGe:=⟨UJ⟩
theorem VE:ZOp X (compareOp .Is) gIs:=⟨UL⟩
theorem VD (hr:RoomC cm k X.A):ZOp X (compareOp .Eq) gEq:=⟨UI hr.units⟩
theorem VI (hr:RoomC cm k X.A):ZOp X (compareOp .NotEq) gNe:=⟨UO hr.units⟩
theorem GH:ZIx X gIx:=⟨KO⟩
theorem aD:ZCall X (.builtin "isinstance") x5:=⟨lM⟩
theorem VF {cl:List Addr}(h:ClsK X.K cl):ZCall X (.builtin "isinstance") (zG cl):=⟨aG h⟩
theorem aE:ZCall X (.builtin "len") jU:=⟨aI⟩
theorem aA (hc:X.calm=true):ZCall X (.builtin "all") (kI false):=⟨Z9 false hc⟩
theorem JP:ZCall X (.type "int") fD:=⟨ZC⟩
theorem QL:ZMt X "list.count" g9:=⟨eI⟩
theorem QM:ZMt X "list.index" gA:=⟨eJ⟩
theorem JT (hr:RoomC cm k X.A):ZSet X yH:=⟨V3 (hu1 hr)⟩
end
section
variable {P:Program}{w:World}{K:PySem.W.Frag}{mg:Str→Option Value}{base:Heap}{cm:Bool}
theorem tY {N:List Str}{qual:Str}{scope:Scope}{f:Addr}{cd:Value}{A:Around}{outer:List Env}{s:Shared}{H:Hp}{E:XK}:ZPass (cxC cm P w K mg base N qual scope f cd A outer s H E):=⟨rC⟩
theorem KB {x:Str}{st:Stmt}{N ps:List Str}{k:Nat}{g:DS}{body:List Stmt}(h:Src K mg x st ps)(S:FnScope N ps (qF st))(hbd:zB st=body)
  (hbody:∀ (f:Addr) (cdv:Value) (A:Around) (outer:List Env) (s:Shared) (H:Hp) (E:XK),uI K x cdv→RoomC cm k (A.deeper (envOfC x (qF st) s.heap.objs.size f cdv)) →
   QB (cxC cm P w K mg base N x (qF st) f cdv A outer s H E) body g):Def P w K mg base cm (k+1) x ps.length (qQ N.length g):=
 ZY h S fun f cdv A outer s H E hc hr=>hbd▸(hbody f cdv A outer s H E hc hr).1
theorem VV {x:Str}{st:Stmt}{N ps:List Str}{k:Nat}{g:DS}{body:List Stmt}(h:Src K mg x st ps)(S:FnScope N ps (qF st))(hbd:zB st=body)
  (hbody:∀ (f:Addr) (cdv:Value) (A:Around) (outer:List Env) (s:Shared) (H:Hp) (E:XK),uI K x cdv→RoomC cm k (A.deeper (envOfC x (qF st) s.heap.objs.size f cdv)) →
   QB (cxC cm P w K mg base N x (qF st) f cdv A outer s H E) body g):bN P w K mg base cm (k+1) x ps (qQ N.length g):=
 i6 h S fun f cdv A outer s H E hc hr=>hbd▸(hbody f cdv A outer s H E hc hr).1
theorem i4 {x:Str}{st:Stmt}{ps:List Str}(h:Src K mg x st ps):Def P w K mg base cm 0 x ps.length fun _ _=>.bad:=by
 obtain⟨f,fd,hm,F,hb⟩:=h
 exact⟨f,fd,ps,rfl,hm,F.kp,hb,jW F,⟨fun vs H Q E z=>z.1,fun A outer s H args us vs Q E _ _ _ _ z=>by obtain⟨_,_,_,_,_,_,_,z⟩:=z;exact False.elim z⟩⟩
end
end _D
end
section
namespace _D
open PySem PySem.Spec PyProof.Rows _L
structure QTs (X:Cx)(ifs:List Expr)(t:DT):Prop where
 get:PTs X ifs t
section
variable {X:Cx}{elt tg iter e:Expr}{ifs es:List Expr}{scope:Scope}{pos p:Pos}{N':List Str}{cap:List (Option Nat)}{fi:DI}{g:DG}{t u:DT}{fe:DE}{fa:DA}{x:Str}{cm:Bool}{k n:Nat}{F:DF}
theorem tN:QTs X [] uM:=⟨iE⟩
theorem qcO (G:Def X.prog X.w X.K X.mg X.base cm k x n F)(hr:RoomC cm k X.A)(hg:Gl X x)(ha:QA X (e::es) fa)(hdb:(x == ("__debug__" : Str))=false)(he:starEach (e::es) X.env=(false,eval e X.env)::starEach es X.env:=by rfl)(hpl:(backTo pos (starEach es X.env)).any (·.1)=false:=by rfl) :
  QE X (.Call (.Name x p) (e::es) [] pos) (qJ n (okO F) fa):=⟨dcO G hr hg ha.1 hdb he hpl⟩
end
end _D
end
section
namespace _D
open PySem PySem.Spec PyProof.Rows _L
def stn (o:Option (Nat × MO))(S:Sto):Prop:=match o with
 |none=>True
 |some p=>S[p.1]? = some p.2
open Classical in
noncomputable def lC (o:Option (Nat × MO))(S:Sto):Bool:=decide (stn o S)
theorem vD {o:Option (Nat × MO)}{S:Sto}:lC o S=true↔stn o S:=by simp[lC]
structure ItD2 (K:PySem.W.Frag)(J:It)(P:Hp)(α : List Addr)(o:Option (Nat × MO))(ds:List D):Prop where
 go:∀ i H P1 α1 S,i<ds.length→Rel K H P1 α1 S→stn o S→qG P P1→α<+:α1→J.go i H
 yld:∀ i H x H' P1 α1 S,i<ds.length→Rel K H P1 α1 S→stn o S→qG P P1→α<+:α1→J.yld i H x H'→∃ P2 d,ds[i]? = some d∧Rel K H' P2 α1 S∧qG P1 P2∧Rep K P2 α1 d x
 stop:∀ i H P1 α1 S,ds.length≤i→Rel K H P1 α1 S→stn o S→qG P P1→α<+:α1→J.stop i H
theorem ItD.two {K:PySem.W.Frag}{J:It}{P:Hp}{α : List Addr}{ds:List D}(h:ItD K J P α ds):ItD2 K J P α none ds:=
 ⟨fun i H P1 α1 S a b _ c d=>h.go i H P1 α1 S a b c d,fun i H x H' P1 α1 S a b _ c d e=>h.yld i H x H' P1 α1 S a b c d e,fun i H P1 α1 S a b _ c d=>h.stop i H P1 α1 S a b c d⟩
abbrev DI2:=qD→Sto→Res (Option (Nat × MO) × List D)
inductive tDI2 (X:Cx)(f:DI2)(σ : _L.St)(H:Hp)(R:It→Hp→Prop):Prop
 |mk (P:Hp) (α : List Addr) (env:qD) (S:Sto) (r:Rel X.K H P α S) (re:qS X.K P α σ env) (af:qH X P α (f env S) (fun p S'=>∀ J H' P' α',Rel X.K H' P' α' S'→qG P P'→α<+:α'→ItD2 X.K J P' α' p.1 p.2→R J H')):tDI2 X f σ H R
def vM (f:DI):DI2:=fun env S=>(f env S).bind fun ds S1=>.ok (none,ds) S1
section
variable {X:Cx}{K:PySem.W.Frag}{tg e:Expr}{fa:DE}{pos:Pos}
theorem i9 {f:DI}(h:PI X tg e (tDI X f)):PI X tg e (tDI2 X (vM f)):=PI.weak h fun σ H R ⟨P,α,env,S,r,re,af⟩=>by
 refine⟨P,α,env,S,r,re,?_⟩
 unfold vM at af
 cases q:f env S with
 |bad=>rw[q] at af;exact af
 |ex c x S'=>rw[q] at af;exact af
 |ok ds S1 =>
  rw[q] at af
  exact fun J H' P' α' r' e1 e2 it=>af J H' P' α' r' e1 e2 it.two
theorem iZ {P:Hp}{α : List Addr}{a:Addr}{n:Nat}{ds:List D}(hα:α[n]? = some a):ItD2 K (Itl K a) P α (some (n,.lst ds)) ds where
 go:=fun i H P1 α1 S hi r st e e2=>by
  obtain⟨vs,z,t⟩:=r.at' n a _ (jZ e2 hα) st
  exact⟨vs,vs[i]'(by rw[← t.length];exact hi),.of z,by simp⟩
 yld:=fun i H x H' P1 α1 S hi r st e e2 y=>by
  obtain⟨rfl,y⟩:=y
  obtain⟨vs,z,t⟩:=r.at' n a _ (jZ e2 hα) st
  have hx:=y vs (.of z)
  obtain⟨v,h1,h2⟩:=t.get (List.getElem?_eq_getElem hi)
  rw[hx] at h1;cases h1
  exact⟨P1,_,List.getElem?_eq_getElem hi,r,qG.refl _,h2⟩
 stop:=fun i H P1 α1 S hi r st e e2=>by
  obtain⟨vs,z,t⟩:=r.at' n a _ (jZ e2 hα) st
  exact⟨vs,.of z,by rw[← t.length];exact hi⟩
def itD (d:D)(S:Sto):Res (Option (Nat × MO) × List D):=match d with
 |.tup xs=>.ok (none,xs) S
 |.lst xs=>.ok (none,xs) S
 |.loc n=>match S[n]? with
  |some (.lst xs)=>.ok (some (n,.lst xs),xs) S
  |_=>.bad
 |_=>.bad
def dIt (f:DE):DI2:=fun env S=>(f env S).bind fun d S1=>itD d S1
theorem VW (ha:PE X e (tD X fa)):PI X tg e (tDI2 X (dIt fa)):=by
 intro pins s σ H R I h
 obtain⟨P,α,env,S,r,re,af⟩:=h
 refine thn (zT ha I r re af) fun vv s1 ⟨v,H1,P1,α1,d,S1,G1,af1⟩=>?_
 have seq:∀ ds,xY d=some ds→(∀ J H' P' α',Rel X.K H' P' α' S1→qG P P'→α<+:α'→ItD2 X.K J P' α' none ds→R J H')→wpAny (model X.prog X.w) X.A (pyIter vv) (PIE X pins σ tg R) X.xe s1:=fun ds e1 q =>
  fG G1.inv G1.rel G1.val G1.rep e1 fun J H' P' α' r' h1 h2 it=>q J H' P' α' r' (G1.same.trans h1) (G1.pre.trans h2) it.two
 cases d with
 |tup xs=>exact seq xs rfl af1
 |lst xs=>exact seq xs rfl af1
 |loc n =>
  obtain⟨xs,hS,af1⟩:=uV (X:=X) (f:=fun xs=>Res.ok (some (n,MO.lst xs),xs) S1) af1
  have rp:=G1.rep
  simp only[Rep] at rp
  obtain⟨a,rfl,ha⟩:=rp
  cases (show vv=Value.ref a from G1.val)
  obtain⟨vs,z,t⟩:=G1.rel.at' n a _ ha hS
  obtain⟨its,rv,p,hz⟩:=G1.inv.list (SqL.of z)
  refine wpAny_pyIter_list p.isList ?_
  refine⟨s1.heap.objs.size,[s1.heap.objs.size],_,_,H1,rfl,G1.inv.kept (t':=s1.toks) fun b o e=>Heap.get?_push_of_some _ e,b9 a _,⟨_,Heap.get?_push_size _ rfl,rfl,rfl⟩,fun b hb=>?_,af1 _ _ P1 α1 G1.rel G1.same G1.pre (iZ ha)⟩
  have e:b=s1.heap.objs.size:=by simpa using hb
  subst e
  exact G1.inv.fpOk (Nat.le_refl _) (G1.inv.hok.fresh (Nat.le_refl _))
 |_=>exact False.elim af1
end
end _D
end
section
namespace _D
open PySem PySem.Spec PyProof.Rows _L
def xE (elt:Expr)(gens:List Comprehension)(scope:Scope)(pos:Pos)(k:Nat)(acc:Value)(env:Env):Sem Unit:=
 match gens[k+1]? with
 |some g'=>do
  let x ← eval g'.iter env
  standAt g'.iter.pos
  let x ← foldedSetIterable g'.iter env x
  let it ← holding [x] (pyIter x)
  let _ ← runOwn (.compStart (.ListComp elt gens scope pos) (k+1) it acc env) env
 |none=>do let _ ← call (.builtin "list.append") [acc,← eval elt env]
theorem c8 (elt target iter:Expr)(ifs:List Expr)(gens:List Comprehension)(scope:Scope)(pos:Pos)(it acc:Value)(env:Env)(k:Nat)(hg:gens[k]? = some ⟨target,iter,ifs,0⟩)(ha:∀ g',gens[k+1]? = some g'→g'.is_async=0) :
  compTurn (.ListComp elt gens scope pos) k it acc env=(do
   standAt iter.pos
   match ← pyNext it with
   |none=>pure (.done .next)
   |some v =>
    letOwnedTupleGo target it v
    assign target env v
    let mut ok:=true
    for c in ifs do
     if ok then ok ← isTrue c env (eval c env)
    if ok then xE elt gens scope pos k acc env
    again (.compLoop (.ListComp elt gens scope pos) k it acc env)):=by
 unfold compTurn xE
 simp only[hg]
 cases q:gens[k+1]? with
 |none=>rfl
 |some g' =>
  have h0:=ha g' q
  have e0:(g'.is_async != 0)=false:=by rw[h0];rfl
  simp only[e0,Bool.false_eq_true,if_false,bind_assoc,pure_bind]
  rfl
abbrev DK:=qD→Sto→List D→Res (qD × List D)
noncomputable def goL (o:Option (Nat × MO))(g:DG)(t:DT)(k:DK):List D→DK
 |[],env,S,acc=>if lC o S then .ok (env,acc) S else .bad
 |d::ds,env,S,acc=>if lC o S then (g d env S).bind fun env1 S1=>(t env1 S1).bind fun b S2 =>
   if b then (k env1 S2 acc).bind fun p S3=>goL o g t k ds p.1 S3 p.2 else goL o g t k ds env1 S2 acc
  else .bad
def wC (fe:DE):DK:=fun env S acc=>(fe env S).bind fun x S1=>if acc.length<lim then .ok (env,acc++[x]) S1 else .bad
def cE (Y:Cx)(pins:List (Addr × Obj))(P1:Hp)(α1:List Addr)(acc:Addr)(env:qD)(S:Sto)(ds:List D)(s:Shared):Prop:=
 ∃ σ H P α o,TurnSt Y pins P1 α1 [] acc env S ds s σ H P α o
def PK (Y:Cx)(step:Value→Sem Unit)(k:DK):Prop:=
 ∀ (pins:List (Addr × Obj)) (P1:Hp) (α1:List Addr) (acc:Addr) (env env':qD) (S S':Sto) (ds ds':List D) (s:Shared),(∀ H:Hp,H acc=none→zV Y pins H acc)→cE Y pins P1 α1 acc env S ds s→k env S ds=.ok (env',ds') S' →
  wpAny (model Y.prog Y.w) Y.A (step (.ref acc)) (fun _ s'=>cE Y pins P1 α1 acc env' S' ds' s') (fun _ _=>False) s
section
variable {Y:Cx}{elt tg iter:Expr}{ifs:List Expr}{gens:List Comprehension}{scope:Scope}{pos:Pos}{k:Nat}{g:DG}{t:DT}{fe:DE}{it acc:Addr}{fp:List Addr}{J:It}{tn:Nat→Heap→Prop}{items:List D}{P1:Hp}{α1:List Addr}{pins:List (Addr × Obj)}
theorem lZ {X:Cx}{pins:List (Addr × Obj)}{H:Hp}{b:Addr}{fp:List Addr}{h:Heap}(f:zV X pins H b)(hn:b ∉ fp):zV X (pins++y0 fp h) H b:=by
 obtain⟨f0,f1,f2,f3,f4,f5⟩:=f
 refine⟨f0,f1,f2,f3,f4,fun p hp=>?_⟩
 rcases List.mem_append.mp hp with z|z
 ·exact f5 p (List.mem_append_left _ z)
 ·rcases List.mem_append.mp z with z|z
  ·exact f5 p (List.mem_append_right _ z)
  ·rintro rfl
   exact hn (pZ z).1
theorem Res.bind_inv {β γ:Type}{r:Res β}{f:β→Sto→Res γ}{x:γ}{S:Sto}(h:r.bind f=.ok x S):∃ b S1,r=.ok b S1∧f b S1=.ok x S:=by
 cases r with
 |ok b S1=>exact⟨b,S1,rfl,h⟩
 |_=>cases h
inductive GoC (o:Option (Nat × MO))(g:DG)(t:DT)(k:DK)(d:D)(ds acc:List D)(env:qD)(S SF:Sto)(x:qD × List D):Prop
 |no (env1:qD) (S1 S2:Sto) (z:stn o S) (q1:g d env S=.ok env1 S1) (q2:t env1 S1=.ok false S2) (r:goL o g t k ds env1 S2 acc=.ok x SF):GoC o g t k d ds acc env S SF x
 |yes (env1:qD) (S1 S2:Sto) (env5:qD) (ds5:List D) (S5:Sto) (z:stn o S) (q1:g d env S=.ok env1 S1) (q2:t env1 S1=.ok true S2) (q3:k env1 S2 acc=.ok (env5,ds5) S5) (r:goL o g t k ds env5 S5 ds5=.ok x SF):GoC o g t k d ds acc env S SF x
set_option tactic.hygienic true in
theorem rT {o:Option (Nat × MO)}{g:DG}{t:DT}{k:DK}{d:D}{ds acc:List D}{env:qD}{S SF:Sto}{x:qD × List D}(h:goL o g t k (d::ds) env S acc=.ok x SF):GoC o g t k d ds acc env S SF x:=by
 simp only[goL] at h
 split at h
 ·rename_i z
  obtain⟨env1,S1,q1,h⟩:=Res.bind_inv h
  obtain⟨b,S2,q2,h⟩:=Res.bind_inv h
  cases b with
  |false=>exact .no env1 S1 S2 (vD.mp z) q1 q2 h
  |true =>
   obtain⟨⟨env5,ds5⟩,S5,q3,h⟩:=Res.bind_inv h
   exact .yes env1 S1 S2 env5 ds5 S5 (vD.mp z) q1 q2 q3 h
 ·cases h
set_option tactic.hygienic true in
theorem iP {o:Option (Nat × MO)}{g:DG}{t:DT}{k:DK}{acc dsF:List D}{env envF:qD}{S SF:Sto}(h:goL o g t k [] env S acc=.ok (envF,dsF) SF):stn o S∧env=envF∧acc=dsF∧S=SF:=by
 simp only[goL] at h
 split at h
 ·rename_i z
  cases h
  exact⟨vD.mp z,rfl,rfl,rfl⟩
 ·cases h
inductive LpI (Y:Cx)(pins:List (Addr × Obj))(P1:Hp)(α1:List Addr)(fp:List Addr)(acc:Addr)(tn:Nat→Heap→Prop)(G:List D→DK)(items:List D)(x:qD × List D)(SF:Sto)(n:Nat)(s:Shared):Prop
 |mk (i:Nat) (σ : _L.St) (H P:Hp) (α : List Addr) (o:Obj) (env:qD) (S:Sto) (ds:List D) (hn:n=items.length-i) (hi:i≤items.length) (st:TurnSt Y pins P1 α1 fp acc env S ds s σ H P α o) (st1:tn i s.heap) (run:G (items.drop i) env S ds=.ok x SF):LpI Y pins P1 α1 fp acc tn G items x SF n s
theorem QF {M:Model}{A:Around}{Q:Fin→Shared→Prop}{Qa Qd:Shared→Prop}{E:Value→Shared→Prop}{s:Shared}{it acc:Value}{en:Env}(hgk:gens[k]? = some ⟨tg,iter,ifs,0⟩)(has:∀ g',gens[k+1]? = some g'→g'.is_async=0)
  (ha:∀ s,Qa s→Q (.again (.compLoop (.ListComp elt gens scope pos) k it acc en)) s) (hd:∀ s,Qd s→Q (.done .next) s)
  (h:wpAny M A (pyNext it) (fun r s1=>(r=none→Qd s1)∧∀ v,r=some v→wpAny M A (letOwnedTupleGo tg it v) (fun _ s2=>wpAny M A (assign tg en v) (fun _ s3=>wpAny M A (uH ifs en) (fun b s4=>(b=false→Qa s4)∧(b=true→wpAny M A (xE elt gens scope pos k acc en) (fun _ s5=>Qa s5) E s4)) E s3) E s2) E s1) E s) :
  wpAny M A (compTurn (.ListComp elt gens scope pos) k it acc en) Q E s:=by
 rw[c8 elt tg iter ifs gens scope pos it acc en k hgk has]
 refine wpAny_bind (wpAny_standAt (wpAny_bind (thn h fun r s1 ⟨h0,h1⟩=>?_)))
 cases r with
 |none=>exact wpAny_pure (hd _ (h0 rfl))
 |some v =>
  refine wpAny_bind (thn (h1 v rfl) fun _ s2 h2=>wpAny_bind (thn h2 fun _ s3 h3=>wpAny_bind (thn h3 fun b s4 h4=>?_)))
  cases b with
  |false=>exact wpAny_pure (ha _ (h4.1 rfl))
  |true=>exact wpAny_bind (thn (h4.2 rfl) fun _ s5 h5=>wpAny_pure (ha _ h5))
theorem iN (hfp:∀ H:Hp,(∀ b∈fp,H b=none)→∀ b∈fp,zV Y pins H b)(hne:acc ∉ fp)(o:Obj)(H':Hp)(hn:∀ b∈fp,H' b=none):∀ b∈fp,zV Y (pins++[(acc,o)]) H' b:=fun b hb=>by
 obtain⟨f0,f1,f2,f3,f4,f5⟩:=hfp H' hn b hb
 refine⟨f0,f1,f2,f3,f4,fun p hp=>?_⟩
 rcases List.mem_append.mp hp with z|z
 ·exact f5 p (List.mem_append_left _ z)
 ·rcases List.mem_append.mp z with z|z
  ·exact f5 p (List.mem_append_right _ z)
  ·rw[List.mem_singleton.mp z]
   rintro rfl
   exact hne hb
theorem vT {i:Nat}{h:Heap}(T:Turn Y.prog Y.w Y.K tg J fp it tn)(st2:tn (i+1) h)(pl:∀ b∈fp,∃ o,h.get? b=some o∧∀ v,o.data≠.cell v){s5:Shared}{σ5:_L.St}{H5:Hp}(I5:Inv Y (pins++y0 fp h) σ5 H5 s5):tn (i+1) s5.heap∧(∀ b∈fp,H5 b=none):=by
 refine⟨T.keep _ _ _ st2 fun b hb o' e=>(I5.pin (b,o') (List.mem_append_right _ (List.mem_append_right _ (yR hb e)))).1,fun b hb=>?_⟩
 obtain⟨o',e,d'⟩:=pl b hb
 exact(I5.pin (b,o') (List.mem_append_right _ (List.mem_append_right _ (yR hb e)))).2.1
theorem nM {o':Option (Nat × MO)}{kk:DK}{Qa Qd:Shared→Prop}{E:Value→Shared→Prop}{s:Shared}{σ : _L.St}{H P:Hp}{α : List Addr}{env envF:qD}{S SF:Sto}{ds dsF:List D}{o:Obj}{i:Nat}(hc:Y.calm=true)(hx:Y.xe=fun _ _=>False)
  (T:Turn Y.prog Y.w Y.K tg J fp it tn) (hit:ItD2 Y.K J P1 α1 o' items) (hg:PG Y tg (tDG Y g)) (ht:PTs Y ifs t) (he:PK Y (fun acc=>xE elt gens scope pos k acc Y.env) kk) (hacc:∀ H:Hp,H acc=none→zV Y pins H acc) (hfp:∀ H:Hp,(∀ b∈fp,H b=none)→∀ b∈fp,zV Y pins H b) (hne:acc ∉ fp)
  (hi:i≤items.length) (st:TurnSt Y pins P1 α1 fp acc env S ds s σ H P α o) (st1:tn i s.heap) (run:goL o' g t kk (items.drop i) env S ds=.ok (envF,dsF) SF)
  (hA:∀ s' σ' H' P' α' o1 env1 S' ds',i<items.length→TurnSt Y pins P1 α1 fp acc env1 S' ds' s' σ' H' P' α' o1→tn (i+1) s'.heap→goL o' g t kk (items.drop (i+1)) env1 S' ds'=.ok (envF,dsF) SF→Qa s')
  (hD:∀ s' σ' H' P' α' o',TurnSt Y pins P1 α1 fp acc envF SF dsF s' σ' H' P' α' o'→Qd s') :
  wpAny (model Y.prog Y.w) Y.A (pyNext (.ref it)) (fun r s1=>(r=none→Qd s1)∧∀ v,r=some v→wpAny (model Y.prog Y.w) Y.A (letOwnedTupleGo tg (.ref it) v) (fun _ s2=>wpAny (model Y.prog Y.w) Y.A (assign tg Y.env v) (fun _ s3=>wpAny (model Y.prog Y.w) Y.A (uH ifs Y.env) (fun b s4=>(b=false→Qa s4)∧(b=true→wpAny (model Y.prog Y.w) Y.A (xE elt gens scope pos k (.ref acc) Y.env) (fun _ s5=>Qa s5) E s4)) E s3) E s2) E s1) E s:=by
 have I1:=_D.Inv.pin1 st.inv (hacc H st.acn) st.at' st.acc.cell
 have fp1:=iN hfp hne o
 by_cases hlt:i<items.length
 ·have hdr:items.drop i=items[i]::items.drop (i+1):=List.drop_eq_getElem_cons hlt
  rw[hdr] at run
  have run:=rT run
  have hst:stn o' S:=by cases run with|no _ _ _ z=>exact z|yes _ _ _ _ _ _ z=>exact z
  refine kT (T.item Y rfl rfl rfl hc i _ s σ H (fun _ _=>False) I1 (fp1 H st.fpn) st1 (hit.go i H P α S hlt st.rel hst st.same st.pre)) fun r s1 ⟨u,hr,h1⟩=>⟨fun z=>(by rw[hr] at z;cases z),fun v hv=>?_⟩
  obtain rfl:v=u:=Option.some.inj (hv.symm.trans hr)
  refine kT h1 fun _ s2 ⟨x,H2,I2,rx,y,st2,fr2⟩=>?_
  obtain⟨P2,d,hd,r2,e2,rp⟩:=hit.yld i H x H2 P α S hlt st.rel hst st.same st.pre y
  cases (List.getElem?_eq_getElem hlt).symm.trans hd
  have pl:=T.obj _ _ st2
  have I2':=I2.pinned (fp1 _ fr2) pl
  have two:∀ env1 S1 b S2,g items[i] env S=.ok env1 S1→t env1 S1=.ok b S2→(∀ s4 σ3 H4 P4 α4 (I4:Inv Y (pins++y0 fp s2.heap) σ3 H4 s4),TurnSt Y pins P1 α1 fp acc env1 S2 ds s4 σ3 H4 P4 α4 o→tn (i+1) s4.heap→(b=false→Qa s4)∧(b=true→wpAny (model Y.prog Y.w) Y.A (xE elt gens scope pos k (.ref acc) Y.env) (fun _ s5=>Qa s5) E s4))→wpAny (model Y.prog Y.w) Y.A (assign tg Y.env v) (fun _ s3=>wpAny (model Y.prog Y.w) Y.A (uH ifs Y.env) (fun b s4=>(b=false→Qa s4)∧(b=true→wpAny (model Y.prog Y.w) Y.A (xE elt gens scope pos k (.ref acc) Y.env) (fun _ s5=>Qa s5) E s4)) E s3) E s2:=by
   intro env1 S1 b S2 q1 q2 next
   refine kT (hx▸KW hg I2' r2 (st.env.mono e2 (List.prefix_refl _)) rx rp q1) fun _ s3 ⟨σ3,H3,P3,α3,I3,r3,re3,e3,e3'⟩=>?_
   refine kT (hx▸UY ht I3 r3 re3 q2) fun b' s4 ⟨hb,H4,P4,α4,I4,r4,re4,e4,e4'⟩=>?_
   have I4':Inv Y (pins++y0 fp s2.heap) σ3 H4 s4:=I4.pins_of fun p hp=>I4.pin p (List.mem_append_right _ ((List.mem_append.mp hp).elim (fun z=>List.mem_append_left _ (List.mem_append_left _ z)) fun z=>List.mem_append_right _ z))
   have a4:=I4.pin (acc,o) (List.mem_append_right _ (List.mem_append_left _ (List.mem_append_right _ (List.mem_singleton.mpr rfl))))
   rw[hb]
   exact next s4 σ3 H4 P4 α4 I4' ⟨I4'.unpinned,r4,re4,((st.same.trans e2).trans e3).trans e4,(st.pre.trans e3').trans e4',(vT T st2 pl I4').2,a4.2.1,a4.1,st.acc.mono ((e2.trans e3).trans e4) (e3'.trans e4')⟩ (vT T st2 pl I4').1
  cases run with
  |no env1 S1 S2 _ q1 q2 run=>exact two env1 S1 false S2 q1 q2 fun s4 σ3 H4 P4 α4 I4 st4 tn4=>⟨fun _=>hA s4 σ3 H4 P4 α4 o env1 S2 ds hlt st4 tn4 run,fun z=>(by cases z)⟩
  |yes env1 S1 S2 env5 ds5 S5 _ q1 q2 q3 run =>
   refine two env1 S1 true S2 q1 q2 fun s4 σ3 H4 P4 α4 I4 st4 tn4=>⟨fun z=>(by cases z),fun _=>?_⟩
   refine kT (he (pins++y0 fp s2.heap) P1 α1 acc env1 env5 S2 S5 ds ds5 s4 (fun H hn=>lZ (hacc H hn) hne) ⟨σ3,H4,P4,α4,o,I4,st4.rel,st4.env,st4.same,st4.pre,fun b hb=>(by cases hb),st4.acn,st4.at',st4.acc⟩ q3) fun _ s5 ⟨σ5,H5,P5,α5,o5,T5⟩=>?_
   exact hA s5 σ5 H5 P5 α5 o5 env5 S5 ds5 hlt ⟨T5.inv.unpinned,T5.rel,T5.env,T5.same,T5.pre,(vT T st2 pl T5.inv).2,T5.acn,T5.at',T5.acc⟩ (vT T st2 pl T5.inv).1 run
 ·rw[List.drop_eq_nil_of_le (by omega)] at run
  obtain⟨z,rfl,rfl,rfl⟩:=iP run
  refine kT (T.done Y rfl rfl rfl hc i _ s σ H (fun _ _=>False) I1 (fp1 H st.fpn) st1 (hit.stop i H P α _ (by omega) st.rel z st.same st.pre)) fun r s1 ⟨hr,I2⟩=>⟨fun _=>?_,fun v hv=>(by rw[hr] at hv;cases hv)⟩
  have a:=_D.Inv.pinned1 I2
  exact hD s1 σ H P α o ⟨I2.unpinned,st.rel,st.env,st.same,st.pre,st.fpn,a.2,a.1,st.acc⟩
theorem nK {o':Option (Nat × MO)}{kk:DK}{R:Result→Shared→Prop}{s:Shared}{σ : _L.St}{H P:Hp}{α : List Addr}{env envF:qD}{S SF:Sto}{ds0 dsF:List D}{o:Obj}(hc:Y.calm=true)(hx:Y.xe=fun _ _=>False)(hgk:gens[k]? = some ⟨tg,iter,ifs,0⟩)(has:∀ g',gens[k+1]? = some g'→g'.is_async=0)
  (T:Turn Y.prog Y.w Y.K tg J fp it tn) (hit:ItD2 Y.K J P1 α1 o' items) (hg:PG Y tg (tDG Y g)) (ht:PTs Y ifs t) (he:PK Y (fun acc=>xE elt gens scope pos k acc Y.env) kk) (hacc:∀ H:Hp,H acc=none→zV Y pins H acc) (hfp:∀ H:Hp,(∀ b∈fp,H b=none)→∀ b∈fp,zV Y pins H b) (hne:acc ∉ fp)
  (st:TurnSt Y pins P1 α1 fp acc env S ds0 s σ H P α o) (st0:tn 0 s.heap) (run:goL o' g t kk items env S ds0=.ok (envF,dsF) SF)
  (hR:∀ s' σ' H' P' α' o',TurnSt Y pins P1 α1 fp acc envF SF dsF s' σ' H' P' α' o'→R (.ok .next) s') :
  codeAny (model Y.prog Y.w) Y.A (.compLoop (.ListComp elt gens scope pos) k (.ref it) (.ref acc) Y.env) R s:=by
 refine codeAny_loop rfl (LpI Y pins P1 α1 fp acc tn (goL o' g t kk) items (envF,dsF) SF) (fun n s hI=>?_) items.length ⟨0,σ,H,P,α,o,env,S,ds0,rfl,Nat.zero_le _,st,st0,run⟩
 obtain⟨i,σ,H,P,α,o,env,S,ds,hn,hi,st,st1,run⟩:=hI
 subst hn
 refine wpAny_noted (QF hgk has (Qa:=fun s'=>∃ m,m<items.length-i∧LpI Y pins P1 α1 fp acc tn (goL o' g t kk) items (envF,dsF) SF m s') (Qd:=R (.ok .next)) (fun _ h=>⟨rfl,h⟩) (fun _ h=>h) ?_)
 exact nM hc hx T hit hg ht he hacc hfp hne hi st st1 run (fun s' σ' H' P' α' o1 env1 S' ds' hlt st' tn' run'=>⟨_,Nat.sub_succ_lt_self _ _ hlt,i+1,σ',H',P',α',o1,env1,S',ds',rfl,hlt,st',tn',run'⟩) hR
set_option tactic.hygienic true in
theorem oT (hx:Y.xe=fun _ _=>False)(hlast:gens[k+1]? = none)(he:PE Y elt (tD Y fe)):PK Y (fun acc=>xE elt gens scope pos k acc Y.env) (wC fe):=by
 intro pins P1 α1 acc env env' S S' ds ds' s hacc ⟨σ,H,P,α,o,st⟩ run
 show wpAny _ _ (xE elt gens scope pos k (.ref acc) Y.env) _ _ s
 unfold xE
 rw[hlast]
 dsimp only
 unfold wC at run
 cases q3:fe env S with
 |bad=>rw[q3] at run;cases run
 |ex c z S'=>rw[q3] at run;cases run
 |ok d5 S5 =>
  rw[q3,Res.bind_ok] at run
  split at run
  ·rename_i hlen
   cases run
   have fA:=hacc H st.acn
   have I1:=_D.Inv.pin1 st.inv fA st.at' st.acc.cell
   refine wpAny_bind (kT (hx▸KU he I1 st.rel st.env q3) fun u5 s5 ⟨v5,H5,P5,α5,G5⟩=>?_)
   have J:=_D.Inv.pinned1 G5.inv
   have J1:=G5.inv.unpinned
   obtain⟨J4,J5⟩:=J
   obtain⟨its,n5,vs,ho,rvs,rps,hz⟩:=st.acc
   subst ho
   have hlen':vs.length=ds.length:=rps.length.symm
   have hl2:=rvs.length
   refine wpAny_bind (call_meets F.slot_list_append ⟨_,J4,rfl⟩ F.entry_list_append (F.args_list_append_2 _ _) (PySem.list_append acc its.toArray n5 u5 (by rw[List.size_toArray];rw[← zK];omega)) ⟨J4,?_⟩)
   have q:=PySem.IsL.update J4 (·.push u5)
   have fA5:=hacc H5 J5
   have keep:∀ b o,b≠acc→s5.heap.get? b=some o→(s5.heap.update acc (Obj.mapSeq (·.push u5))).get? b=some o:=fun b o hb e=>(Heap.get?_update_other s5.heap _ (Ne.symm hb)).trans e
   have I6:=J1.turned (t':=s5.toks) keep J5 fA5.2.1 fA5.2.2.2.1 fA5.2.2.2.2.1 fA5.2.2.2.2.2
   refine wpAny_pure ⟨σ,H5,P5,α5,_,I6,G5.rel,G5.env,st.same.trans G5.same,st.pre.trans G5.pre,fun b hb=>(by simp at hb),J5,q,?_⟩
   refine⟨its++[u5],_,vs++[v5],by simp <;> rfl,rvs.append (.cons G5.val .nil),?_,by simp;omega⟩
   exact(qE.mono G5.same G5.pre _ _ rps).append (.cons G5.rep .nil)
  ·cases run
end
end _D
end
section
namespace _D
open PySem PySem.Spec PyProof.Rows _L
def mkM (m:Bool)(r:Res (qD × List D)):Res D:=match r with
 |.ok p S2=>if m then .ok (.loc S2.length) (S2++[.lst p.2]) else .ok (.lst p.2) S2
 |_=>.bad
noncomputable def xV (m:Bool)(cap:List (Option Nat))(fi:DI2)(g:DG)(t:DT)(k:DK):DE:=fun env S=>(fi env S).bind fun p S1=>mkM m (goL p.1 g t k p.2 (w4 cap env) S1 [])
section
variable {X:Cx}{elt tg iter:Expr}{ifs:List Expr}{scope:Scope}{pos:Pos}{N':List Str}{cap:List (Option Nat)}{fi:DI2}{g:DG}{t:DT}{kk:DK}{rest:List Comprehension}{mm:Bool}
theorem W9 {P:Hp}{α : List Addr}{r:Res (qD × List D)}{Ok:D→Sto→Prop}(h:qH X P α (mkM mm r) Ok):∃ envF ds SF,r=.ok (envF,ds) SF∧(if mm then Ok (.loc SF.length) (SF++[.lst ds]) else Ok (.lst ds) SF):=by
 cases r with
 |ok p S =>
  obtain⟨envF,ds⟩:=p
  refine⟨envF,ds,S,rfl,?_⟩
  cases mm <;> exact h
 |ex c x S=>exact False.elim h
 |bad=>exact False.elim h
theorem rO {pins:List (Addr × Obj)}{σ : _L.St}{P1:Hp}{α1:List Addr}{ds:List D}{SF:Sto}{acc C:Addr}{s:Shared}{Q:VK}(c:jR X pins σ P1 α1 ds SF acc C s)(ok:if mm then OkV X P1 α1 Q (.loc SF.length) (SF++[.lst ds]) else OkV X P1 α1 Q (.lst ds) SF):EP X pins σ Q (.ref acc) s:=by
 cases mm with
 |false=>exact iG c ok
 |true =>
  obtain⟨H',P',α',vs,I,r,hn,e1,e2,rp,_⟩:=c
  exact⟨.ref acc,_,I,rfl,tG r hn rp fun v H2 P2 α2 r2 q1 q2 q3=>ok v H2 P2 α2 r2 (e1.trans q1) (e2.trans q2) q3⟩
theorem lR {M:Model}{A:Around}{E:Value→Shared→Prop}{s:Shared}{globals:Addr}{closure:List (Str × Addr)}{qual:Str}{env:Env}{Q:Env→Shared→Prop}
  (hQ:Q (newEnv scope s.heap.objs.size globals (cellsFrom (s.heap.objs.size+1) scope.names closure) qual none .none (some env) builtinsNs) { s with heap:=pushCells (s.heap.push { cls:=.type "dict",data:=.dict #[] }) scope.names }) :
  wpAny M A (newFunctionEnv scope globals closure [] qual none .none (some env)) Q E s:=by
 simp only[newFunctionEnv,Option.isSome_some,if_true]
 refine wpAny_bind (wpAny_alloc ?_)
 refine wpAny_bind (wpAny_layCells _ (fun name kind cells=>by cases hkc:kind == NameKind.cell <;> simp[hkc]) _ _ _ _ ?_)
 rw[show ({ s with heap:=s.heap.push { cls:=.type "dict",data:=.dict #[] } } : Shared).heap.objs.size=s.heap.objs.size+1 from Heap.size_push ..]
 refine wpAny_bind ?_
 rw[List.forIn_nil]
 exact wpAny_pure (wpAny_pure hQ)
theorem mG {o':Option (Nat × MO)}{kk:DK}{pins:List (Addr × Obj)}{σ : _L.St}{H2 P1:Hp}{α1:List Addr}{s2:Shared}{S1 SF:Sto}{env envF:qD}{ds items:List D}{it:Addr}{fp:List Addr}{tn:Nat→Heap→Prop}{J:It}{E:Value→Shared→Prop}{RR:Value→Addr→Result→Shared→Prop}{rest:List Comprehension}
  (hc:X.calm=true) (S:CompSc X.env.scope X.N scope N' cap) (has:∀ g',(⟨tg,iter,ifs,0⟩::rest:List Comprehension)[0+1]? = some g'→g'.is_async=0)
  (hg:∀ cl C ex s₀ H₀,PG (zC X N' scope cl C ex s₀ H₀) tg (tDG (zC X N' scope cl C ex s₀ H₀) g))
  (ht:∀ cl C ex s₀ H₀,PTs (zC X N' scope cl C ex s₀ H₀) ifs t) (he:∀ cl C ex s₀ H₀,PK (zC X N' scope cl C ex s₀ H₀) (fun acc=>xE elt (⟨tg,iter,ifs,0⟩::rest) scope pos 0 acc (zC X N' scope cl C ex s₀ H₀).env) kk)
  (I2:Inv X pins σ H2 s2) (r:Rel X.K H2 P1 α1 S1) (re:qS X.K P1 α1 σ env) (T:Turn X.prog X.w X.K tg J fp it tn) (st0:tn 0 s2.heap) (hf:∀ b∈fp,zV X pins H2 b) (hit:ItD2 X.K J P1 α1 o' items) (run:goL o' g t kk items (w4 cap env) S1 [] = .ok (envF,ds) SF)
  (hRR:∀ acc C s',s2.heap.objs.size≤acc→(∃ m,s'.heap.Ns C m)→s2.heap.objs.size≤C→acc≠C→(∀ h',Heap.SameBut C s'.heap h'→jR X pins σ P1 α1 ds SF acc C { s' with heap:=h' }) → RR (.ref acc) C (.ok .next) s') :
  wpAny (model X.prog X.w) X.A (newList []) (fun acc s₃=>wpAny (model X.prog X.w) X.A (newFunctionEnv scope X.env.globals (xU X.env.cells scope.names []) [] X.env.qual none .none (some X.env)) (fun cenv s₄ =>
   codeAny (model X.prog X.w) X.A (.compStart (.ListComp elt (⟨tg,iter,ifs,0⟩::rest) scope pos) 0 (.ref it) acc { cenv with scope:=relabel scope X.env }) (RR acc cenv.locals) s₄) E s₃) E s2:=by
 have hlt:∀ b∈fp,b<s2.heap.objs.size:=fun b hb=>by
  obtain⟨o,e,_⟩:=T.obj 0 _ st0 b hb
  exact Heap.lt_size e
 refine wpAny_newObj_type (lR ?_)
 dsimp only
 generalize hH2:s2.heap.push { cls:=.type "list",dict:=none,data:=.seq ([] : List Value).toArray } = Hh
 have hsz:Hh.objs.size=s2.heap.objs.size+1:=by rw[← hH2,Heap.size_push]
 have hC:s2.heap.objs.size≤Hh.objs.size:=by rw[hsz];exact Nat.le_succ _
 have hne:s2.heap.objs.size≠Hh.objs.size:=by rw[hsz];exact Nat.ne_of_lt (Nat.lt_succ_self _)
 have kp:∀ b o,Hh.get? b=some o→(pushCells (Hh.push { cls:=.type "dict",data:=.dict #[] }) scope.names).get? b=some o:=fun b o e=>pushCells_keeps _ _ b o (Heap.get?_push_of_some _ e)
 have hns₁:(pushCells (Hh.push { cls:=.type "dict",data:=.dict #[] }) scope.names).Ns Hh.objs.size (fun _=>none):=(Heap.Ns.new Hh (.type "dict")).keeps (pushCells_keeps _ _)
 have co:=cellsFrom_ok scope.names (Hh.push { cls:=.type "dict",data:=.dict #[] }) (Hh.objs.size+1) [] ⟨fun _ _ hm=>(nomatch hm),List.Pairwise.nil⟩ (by rw[Heap.size_push];exact Nat.le_refl _)
 rw[Heap.size_push] at co
 generalize hh₁:pushCells (Hh.push { cls:=.type "dict",data:=.dict #[] }) scope.names=h₁ at kp hns₁ co ⊢
 have keep:∀ b o,s2.heap.get? b=some o→h₁.get? b=some o:=fun b o e=>kp b o (hH2▸Heap.get?_push_of_some _ e)
 have hacc:h₁.get? s2.heap.objs.size=some { cls:=.type "list",data:=.seq ([] : List Value).toArray }:=kp _ _ (hH2▸Heap.get?_push_size _ rfl)
 have I4:∀ tk,Inv (zC X N' scope (uK X scope Hh.objs.size) Hh.objs.size fp s2 H2) [] (y7 cap σ) H2 { s2 with heap:=h₁,toks:=tk }:=fun tk =>
  rB (s4:={ s2 with heap:=h₁,toks:=tk }) S I2 hf hlt hC hns₁ rfl rfl keep co
 have loop:∀ tk,codeAny (model X.prog X.w) X.A (.compLoop (.ListComp elt (⟨tg,iter,ifs,0⟩::rest) scope pos) 0 (.ref it) (.ref s2.heap.objs.size) (compEnvC scope (uK X scope Hh.objs.size) Hh.objs.size X.env)) (RR (.ref s2.heap.objs.size) Hh.objs.size) { s2 with heap:=h₁,toks:=tk }:=fun tk=>by
  refine nK (kk:=kk) (o':=o') (Y:=zC X N' scope (uK X scope Hh.objs.size) Hh.objs.size fp s2 H2) (pins:=[]) (fp:=fp) (acc:=s2.heap.objs.size) (P1:=P1) (α1:=α1) (σ:=y7 cap σ) (H:=H2) (P:=P1) (α:=α1) (o:={ cls:=.type "list",data:=.seq ([] : List Value).toArray }) hc rfl rfl has T hit
   (hg _ _ _ _ _) (ht _ _ _ _ _) (he _ _ _ _ _) (fun H hn=>?_) (fun H hn b hb=>?_) (fun hm=>Nat.lt_irrefl _ (hlt _ hm)) ⟨I4 tk,r,sL re cap,qG.refl _,List.prefix_refl _,fun b hb=>(hf b hb).1,I2.hok.fresh (Nat.le_refl _),hacc,⟨[],0,[],rfl,.nil,.nil,Nat.zero_le _⟩⟩ (T.keep _ _ _ st0 fun b hb o e=>keep b o e) run fun s' σ' H' P' α' o' st=>?_
  ·refine⟨hn,hne,fun hm=>?_,.inr (Nat.le_refl _),fun x c h z=>?_,fun p hp=>absurd (show p∈([]:List (Addr × Obj)) from hp) (by simp)⟩
   ·obtain⟨_,o,ho,_⟩:=I2.stack.mem hm
    exact Nat.lt_irrefl _ (Heap.lt_size ho)
   ·rcases zR S I2.ok h with⟨m,_⟩|⟨m,_⟩
    ·exact Nat.lt_irrefl _ (Nat.lt_of_le_of_lt hC (z▸(co.empty x c m).2))
    ·obtain⟨v,ob,hob,_⟩:=I2.cell x c m
     rw[z] at hob
     exact Nat.lt_irrefl _ (Heap.lt_size hob)
  ·obtain⟨_,h1,h2,h3,h4,h5⟩:=hf b hb
   refine⟨hn b hb,Nat.ne_of_lt (Nat.lt_of_lt_of_le (hlt b hb) hC),fun hm=>?_,.inl hb,fun x c h=>(by
    rcases zR S I2.ok h with⟨m,_⟩|⟨m,_⟩
    ·exact Ne.symm (Nat.ne_of_lt (Nat.lt_trans (Nat.lt_of_lt_of_le (hlt b hb) hC) (co.empty x c m).2))
    ·exact h4 x c m),fun p hp=>absurd (show p∈([]:List (Addr × Obj)) from hp) (by simp)⟩
   rcases List.mem_cons.mp (I2.stkSub b hm) with z|z
   ·exact h1 z
   ·exact h2 z
  ·obtain⟨m,hm,_⟩:=st.inv.loc
   exact hRR _ _ s' (Nat.le_refl _) ⟨m,hm⟩ hC hne fun h' sb=>rA I2 hf rfl hC (Nat.le_refl _) hne st sb
 exact codeAny_compStart_list (loop _) (T.self X.A 0 _ _ _ (T.keep _ _ _ st0 fun b hb o e=>keep b o e) (loop _))
theorem rG (hc:X.calm=true)(S:CompSc X.env.scope X.N scope N' cap)(hi:PI X tg iter (tDI2 X fi))
  (hg:∀ cl C ex s₀ H₀,PG (zC X N' scope cl C ex s₀ H₀) tg (tDG (zC X N' scope cl C ex s₀ H₀) g))
  (ht:∀ cl C ex s₀ H₀,PTs (zC X N' scope cl C ex s₀ H₀) ifs t) (has:∀ g',(⟨tg,iter,ifs,0⟩::rest:List Comprehension)[0+1]? = some g'→g'.is_async=0) (he:∀ cl C ex s₀ H₀,PK (zC X N' scope cl C ex s₀ H₀) (fun acc=>xE elt (⟨tg,iter,ifs,0⟩::rest) scope pos 0 acc (zC X N' scope cl C ex s₀ H₀).env) kk)
  (hs:∀ x,foldedSetIterable iter X.env x=pure x:=by intro _;rfl):PE X (.ListComp elt (⟨tg,iter,ifs,0⟩::rest) scope pos) (tD X (xV mm cap fi g t kk)):=by
 intro pins s σ H Q I h
 obtain⟨P,α,env,S0,r,re,af⟩:=h
 rw[eval_ListComp]
 have af':qH X P α ((fi env S0).bind fun p S1=>mkM mm (goL p.1 g t kk p.2 (w4 cap env) S1 [])) (OkV X P α Q):=af
 refine wpAny_comprehension_free (use:=none) rfl hs (aL S I.ok) S.kind S.names ?_
 refine thn (hi pins s σ H (fun J H1=>∃ (P1:Hp) (α1:List Addr) (p:Option (Nat × MO) × List _D.D) (S1:Sto),Rel X.K H1 P1 α1 S1∧qG P P1∧α<+:α1∧ItD2 X.K J P1 α1 p.1 p.2∧qH X P α (mkM mm (goL p.1 g t kk p.2 (w4 cap env) S1 [])) (OkV X P α Q)) I ⟨P,α,env,S0,r,re,?_⟩) fun xv s1 h1=>thn h1 fun itv s2 h2=>?_
 ·cases q:fi env S0 with
  |bad=>rw[q] at af';exact af'
  |ex c x S'=>rw[q] at af';exact af'
  |ok p S1=>rw[q] at af';exact fun J H1 P1 α1 r1 e1 e2 it=>⟨P1,α1,p,S1,r1,e1,e2,it,af'⟩
 obtain⟨it,fp,tn,J,H2,rfl,I2,T,st0,hf,P1,α1,p,S1,r1,e1,e2,hit,af1⟩:=h2
 obtain⟨envF,ds,SF,run,ok⟩:=W9 af1
 refine mG (RR:=fun acc C=>compPost (model X.prog X.w) X.A X.xe none (EP X pins σ Q) acc C) hc S has hg ht he I2 r1 (re.mono e1 e2) T st0 hf hit run ?_
 intro acc C s' hA ⟨m,hm⟩ hC hne fin
 refine⟨m,hm,fun h' sb=>rO (mm:=mm) (fin h' sb) ?_⟩
 cases mm with
 |false=>exact fun v H3 P3 α3 r3 q1 q2 q3=>ok v H3 P3 α3 r3 (e1.trans q1) (e2.trans q2) q3
 |true=>exact fun v H3 P3 α3 r3 q1 q2 q3=>ok v H3 P3 α3 r3 (e1.trans q1) (e2.trans q2) q3
end
end _D
end
section
namespace _D
open PySem PySem.Spec PyProof.Rows _L
section
variable {X:Cx}
def g6:DF:=fun ds S=>match ds with
 |[.int a,.int b]=>.ok (.int (if b>a then b else a)) S
 |_=>.bad
inductive Two (ds:List D):Prop
 |no (h:∀ (g:Int→Int→Res D),(match ds with|[.int a,.int b]=>g a b|_=>.bad)=.bad)
 |of (a b:Int) (ed:ds=[.int a,.int b])
theorem V9 (ds:List D):Two ds:=by
 cases ds with
 |nil=>exact .no fun _=>rfl
 |cons d ds =>
  cases d with
  |int a =>
   cases ds with
   |nil=>exact .no fun _=>rfl
   |cons e ds =>
    cases e with
    |int b =>
     cases ds with
     |nil=>exact .of a b rfl
     |cons _ _=>exact .no fun _=>rfl
    |_=>exact .no fun _=>rfl
  |_=>exact .no fun _=>rfl
theorem aJ (hc:X.calm=true):w8 X (.builtin "max") g6:=by
 intro pins σ H s P α S vs us ds Q I r rv rp af
 cases V9 ds with
 |no h=>exact(kW (X:=X) (r:=g6 ds S) (h _) af).elim
 |of a b ed =>
  subst ed
  obtain⟨v,w,u,x,rfl,rfl,p,p',q,q'⟩:=vQ rp rv
  cases zM p
  cases zM p'
  obtain⟨t,rfl⟩:=q
  obtain⟨t',rfl⟩:=q'
  refine max_two_ints (I.ok.hd hc) fun h' tk hk=>?_
  have I':Inv X pins σ H { s with heap:=h',toks:=tk }:=I.kept (t':=tk) hk
  by_cases hb:b>a
  ·rw[if_pos hb]
   exact⟨.int b,H,I',⟨t',rfl⟩,xr af r (by simp only[Rep];rw[if_pos hb])⟩
  ·rw[if_neg hb]
   exact⟨.int a,H,I',⟨t,rfl⟩,xr af r (by simp only[Rep];rw[if_neg hb])⟩
end
end _D
end
section
namespace _D
open PySem PySem.Spec PyProof.Rows _L
section
variable {X:Cx}
noncomputable def gB:G2:=fun a b S=>match a,b with
 |.lst xs,.int k=>if 0≤k∧k<2 ^ 62∧xs.length*k.toNat≤lim then .ok (.lst (List.replicate k.toNat xs).flatten) S else .bad
 |_,_=>qU a b S
theorem fZ {K:PySem.W.Frag}{P:Hp}{α : List Addr}{ds:List D}{vs:List V}(r:qE K P α ds vs):∀ k:Nat,qE K P α (List.replicate k ds).flatten (List.replicate k vs).flatten
 |0=>by simpa using qE.nil
 |k+1=>by
  rw[List.replicate_succ,List.replicate_succ,List.flatten_cons,List.flatten_cons]
  exact r.append (fZ r k)
inductive MulV (a b:D)(S:Sto):Prop
 |old (e:gB a b S=qU a b S)
 |of (xs:List D) (k:Int) (ea:a=.lst xs) (eb:b=.int k)
theorem KQ (a b:D)(S:Sto):MulV a b S:=by
 cases a with
 |lst xs=>cases b with
  |int k=>exact .of xs k rfl rfl
  |_=>exact .old rfl
 |_=>exact .old rfl
theorem oH:OpD X (binaryOp .Mult) gB:=by
 intro pins σ H s P α S v u vv uu a b Q I r rv ru pa pb af
 cases KQ a b S with
 |old e =>
  rw[e] at af
  exact tI pins σ H s P α S v u vv uu a b Q I r rv ru pa pb af
 |of xs k ea eb =>
  subst ea eb
  obtain⟨hk,af⟩:=xG (X:=X) af
  obtain⟨h1,h2,hz⟩:=hk
  obtain⟨l,vs,its,n,rfl,q1,t1,rv1,e,l1,_⟩:=uC I r pa
  cases (show vv=Value.ref l from rv)
  have:=zM pb
  subst this
  obtain⟨t,rfl⟩:=ru
  have hl:its.length=vs.length:=rv1.length.symm
  have hlen:its.toArray.size*k.toNat≤sizeLine:=by rw[List.size_toArray,← l1,← zK];exact hz
  have hcap:¬ its.toArray.size*k.toNat>(2 ^ 63-1)/8:=by
   have:(sizeLine:Nat)≤(2 ^ 63-1)/8:=by decide
   omega
  have hfit:¬ (!Builtin.List.listFitsIndex k)=true:=by
   rw[fitsIndex_both (by omega) (by omega)]
   exact Bool.false_ne_true
  have hlong:¬ Builtin.List.listTooLong (its.toArray.size*k.toNat)=true:=by
   rw[eM hlen]
   exact Bool.false_ne_true
  have hnew:List.foldl (fun x1 x2=>x1++x2) #[] (List.replicate (if its.toArray.isEmpty=true then 0 else k.toNat) its.toArray)=(List.replicate k.toNat its).flatten.toArray:=by
   have f0:∀ m:Nat,List.foldl (fun x1 x2=>x1++x2) #[] (List.replicate m its.toArray)=(List.replicate m its).flatten.toArray:=fun m=>by
    have:=pU its m []
    rw[List.nil_append] at this
    exact this
   rw[f0]
   cases its with
   |nil=>simp
   |cons a r'=>rw[if_neg (by simp)]
  refine wpAny_binaryOp_repeat_ref (T:="list") (U:="int") (by decide) ⟨_,e,rfl⟩ (fun s'=>typeIs_int s' k t) noFill_list_mul F.fills_int_mul F.slot_int_rmul repeat_list F.slot_int_index.lookup
   (call_meets F.slot_int_rmul (typeIs_int s k t) F.entry_int_rmul (F.args_int_rmul_2 _ _) (int___rmul___int_list k t l its.toArray n)
    ⟨e,rfl,⟨_,e,rfl⟩,call_meets F.slot_list_mul ⟨_,e,rfl⟩ F.entry_list_mul (F.args_list_mul_2 _ _) (AutoListH.list___mul___list_int_3 l its.toArray n k t hfit hcap hlong) ⟨e,?_⟩⟩)
  rw[hnew]
  exact fK I r (fZ t1 k.toNat) (rv1.rep k.toNat) (by rw[oE,Nat.mul_comm];exact hz) af
variable {e:Expr}{fa:DE}{p1 p2 pos1 pos2:Pos}
end
end _D
end
section
namespace _D
open PySem PySem.Spec PyProof.Rows _L
structure QI2 (X:Cx)(tg it:Expr)(f:DI2):Prop where
 get:PI X tg it (tDI2 X f)
structure QK (Y:Cx)(step:Value→Sem Unit)(k:DK):Prop where
 get:PK Y step k
section
variable {X Y:Cx}{tg it e o elt iter ie:Expr}{es ifs rest:List Expr}{fa fo fe fi:DE}{fA:DA}{fI:DI}{f2:DI2}{g:DG}{t:DT}{kk:DK}{p pos:Pos}{n k:Nat}{x:Str}{cm:Bool}{F:DF}{f:DS}{gens grest:List Comprehension}{scope:Scope}{N':List Str}{cap:List (Option Nat)}{mm:Bool}
theorem sE (h:QI X tg it fI):QI2 X tg it (vM fI):=⟨i9 h.1⟩
theorem YN (h:QE X e fa):QI2 X tg e (dIt fa):=⟨VW h.1⟩
theorem tM (hx:Y.xe=fun _ _=>False)(hlast:gens[k+1]? = none)(he:QE Y elt fe):QK Y (fun acc=>xE elt gens scope pos k acc Y.env) (wC fe):=⟨oT hx hlast he.1⟩
theorem eZ (hc:X.calm=true)(S:CompSc X.env.scope X.N scope N' cap)(hi:QI2 X tg iter f2)(hg:∀ cl C ex s₀ H₀,QG (zC X N' scope cl C ex s₀ H₀) tg g)(ht:∀ cl C ex s₀ H₀,QTs (zC X N' scope cl C ex s₀ H₀) ifs t)
  (has:∀ g',(⟨tg,iter,ifs,0⟩::grest:List Comprehension)[0+1]? = some g'→g'.is_async=0)
  (he:∀ cl C ex s₀ H₀,QK (zC X N' scope cl C ex s₀ H₀) (fun acc=>xE elt (⟨tg,iter,ifs,0⟩::grest) scope pos 0 acc (zC X N' scope cl C ex s₀ H₀).env) kk) (hs:∀ x,foldedSetIterable iter X.env x=pure x) :
  QE X (.ListComp elt (⟨tg,iter,ifs,0⟩::grest) scope pos) (xV mm cap f2 g t kk):=
 ⟨rG hc S hi.1 (fun cl C ex s H=>(hg cl C ex s H).1) (fun cl C ex s H=>(ht cl C ex s H).1) has (fun cl C ex s H=>(he cl C ex s H).1) hs⟩
theorem VH:ZOp X (binaryOp .Mult) gB:=⟨oH⟩
end
end _D
end
section
namespace _D
open PySem PySem.Spec PyProof.Rows _L
section
variable {X:Cx}{cm:Bool}{k:Nat}
theorem VG (hc:X.calm=true):ZCall X (.builtin "max") g6:=⟨aJ hc⟩
end
end _D
end
section
namespace _S
open PySem
open PySem.SetTable (Probe leap runEnd turns bits)
def adv (mask:Nat)(p:Probe):Probe:=if p.more>0 then { p with j:=p.j+1,more:=p.more-1 } else { p with j:=(leap mask p.i p.perturb).1,more:=runEnd mask (leap mask p.i p.perturb).1-(leap mask p.i p.perturb).1,i:=(leap mask p.i p.perturb).1,perturb:=(leap mask p.i p.perturb).2 }
def it (mask:Nat):Nat→Probe→Probe
 |0,p=>p
 |n+1,p=>it mask n (adv mask p)
def rs (mask i pert:Nat):Probe:={ j:=i,more:=runEnd mask i-i,i,perturb:=pert,dummy:=none }
def st (mask:Nat)(h:Int):Probe:=rs mask (bits h % (mask+1)) (bits h)
end _S
end
section
namespace _S
open PySem
open PySem.SetTable (Probe leap runEnd turns bits)
structure Own (mask:Nat)(owner:Array (Option Nat))(us:List Nat):Prop where
 size:owner.size=mask+1
 nd:us.Nodup
 le:∀ u∈us,u≤mask
 at':∀ j k,j≤mask→(owner.getD j (some 0)=some k↔us[k]? = some j)
theorem Own.none {mask:Nat}{owner:Array (Option Nat)}{us:List Nat}(O:Own mask owner us){j:Nat}(hj:j≤mask):(owner.getD j (some 0)).isNone=true↔j ∉ us:=by
 constructor
 ·intro h hm
  obtain⟨k,hk,e⟩:=List.mem_iff_getElem.mp hm
  have:=(O.at' j k hj).mpr (by rw[List.getElem?_eq_getElem hk,e])
  rw[this] at h
  cases h
 ·intro h
  cases q:owner.getD j (some 0) with
  |none=>rfl
  |some k=>exact absurd (List.mem_of_getElem? ((O.at' j k hj).mp q)) h
end _S
end
section
namespace _S
open PySem
open PySem.SetTable (Probe leap runEnd turns bits)
def isT (prog:Program)(w:World)(h0:Heap)(ks:List Int)(v:Value):Prop:=∃ a,v=.ref a∧IsTupleKey (intKind prog w) h0 ks a
section
variable {prog:Program}{w:World}{h0:Heap}
theorem isT.inj {x y:List Int}{v:Value}(hx:isT prog w h0 x v)(hy:isT prog w h0 y v):x=y:=by
 obtain⟨a,rfl,h1⟩:=hx
 obtain⟨b,e,h2⟩:=hy
 cases e
 exact h1.inj h2
variable {A:Around}{E:Value→Shared→Prop}{s:Shared}
end
end _S
end
section
namespace _S
open PySem
open PySem.SetTable (Probe leap runEnd turns bits)
@[reducible] def setO (es:Array (Int × Value))(ep:Nat)(t:SetTable):Obj:={ cls:=.type "set",dict:=none,data:=.set es ep t }
end _S
end
section
namespace _S
open PySem
def itO (slot i:Nat)(S:Addr)(n ep:Nat):Obj:={ cls:=.type "set_iterator",data:=.fields #[.int slot 0,.int i 0,.ref S,.int n 0,.int ep 0] }
def At (w:World)(I S:Addr)(es:Array (Int × Value))(ep:Nat)(t:SetTable)(i:Nat)(h:Heap):Prop:=
 ∃ slot,h.get? I=some (itO slot i S es.size ep)∧h.get? S=some (setO es ep t)∧(w.params.followText "set-order" = true∨SetTable.below t.place slot=i)
section
variable {prog:Program}{w:World}{A:Around}{E:Value→Shared→Prop}{s:Shared}{S I:Addr}{es:Array (Int × Value)}{ep:Nat}{t:SetTable}
theorem At.type {i:Nat}(h:At w I S es ep t i s.heap):s.TypeIs (.ref I) "set_iterator":=by
 obtain⟨slot,h,_⟩:=h
 exact⟨_,h,rfl⟩
end
end _S
end
section
namespace _S
open PySem PySem.W PyProof.Rows
def run (f:Nat→Nat→Bool){α : Type}:KasT α → α
 |.ret a=>a
 |.ask i j k=>run f (k (f i j))
end _S
end
section
namespace _S
open PySem PySem.W PyProof.Rows
def Inn (n:Nat){α : Type}(T:α→Prop):KasT α → Prop
 |.ret a=>T a
 |.ask i j k=>i<n∧j<n∧∀ b,Inn n T (k b)
theorem Inn.bind {n:Nat}{α β:Type}{T:α→Prop}{U:β→Prop}{g:α→KasT β} : ∀ {t:KasT α},Inn n T t→(∀ a,T a→Inn n U (g a))→Inn n U (t.bind g)
 |.ret a,h,hg=>hg a h
 |.ask i j k,⟨h1,h2,h3⟩,hg=>⟨h1,h2,fun b=>Inn.bind (h3 b) hg⟩
end _S
end
section
end
section
namespace _L
open PySem PySem.Spec PyProof.Rows
def JX (H:Hp):Prop:=∀ b,H b=none∨(∃ o xs,H b=some (.frz o (.lst xs)))∨H b=some (.tbl #[])
def Tb0 (K:PySem.W.Frag)(H:Hp):Prop:=∀ x∈xJ,∀ c T,PySem.W.tabIn K x=some (c,T)→H T=some (.tbl #[])
structure Tabs (K:PySem.W.Frag)(h:Heap):Prop where
 at':∀ x∈xJ,∀ c T,PySem.W.tabIn K x=some (c,T)→PySem.W.CodeHd h c T∧h.get? T=some (PySem.W.tabObj #[]) ∧ K.lookup T=none
 inj:∀ x∈xJ,∀ y∈xJ,∀ c d T,PySem.W.tabIn K x=some (c,T)→PySem.W.tabIn K y=some (d,T)→x=y
theorem eD {P:Program}{w:World}{K:PySem.W.Frag}{mg mb:Str→Option Value}{CX:CXT}{k:Nat}{fa a:Addr}{fd:FuncData}{x:Str}{sp:Sp}{s₁:Shared}{vs:List Value}{ns:List Int}
  (KX:K.In s₁.heap) (hns:s₁.heap.Ns mainGlobals mg) (hb:s₁.heap.Ns builtinsNs mb) (hbb:∀ x:Str,x ≠ "__name__" → mb x=bootBuiltins x) (hlim:s₁.heap.NoLimit) (hg:s₁.gens=#[]) (hbm:QQ mg s₁.heap) (tbs:Tabs K s₁.heap)
  (ha:s₁.heap.get? a=some { cls:=.type "list",data:=.seq vs.toArray }) (hi:IntsAre vs ns) (hl:ns.length≤sizeLine) (hr:Room k callerA)
  (F:∀ base:Heap,K.In base→base.Ns mainGlobals mg→FnOk P w K mg base CX k fa fd [x] sp) (hbind:∀ (s:Shared) (u:Value),BindsTo s fd ⟨[u],[]⟩ [(x,u)])
  (hsp:∀ H:Hp,Tb0 K H→SqX K H a (ns.map V.int)→sp [.ref a] H (fun v _=>v=.bl true) fun _ _ _=>False)
  (hCX:∀ H e s',CX [] H s₁ (fun _ _ _=>False) e s'→False) :
  codeAny (model P w) callerA (.call (.ref fa) ⟨[.ref a],[]⟩) (fun r s'=>r=.ok (.ret (.bool true))∧OldK s₁.heap s'.heap∧s'.os=s₁.os∧AllBare s'.gens) s₁:=by
 have rv:=sR hi
 have lenV:=hi.length
 let isT:Addr→Prop:=fun b=>∃ x∈xJ,∃ c,PySem.W.tabIn K x=some (c,b)
 have tab:∀ b,isT b→s₁.heap.get? b=some (PySem.W.tabObj #[]) ∧ K.lookup b=none:=fun b ⟨x,hx,c,h⟩=>(tbs.at' x hx c b h).2
 have core:∀ H:Hp,JX H→Tb0 K H→SqX K H a (ns.map V.int)→HOk P w H s₁.heap→(∀ b,H b≠none→b=a∨isT b)→(H a≠none→K.lookup a=none) →
   codeAny (model P w) callerA (.call (.ref fa) ⟨[.ref a],[]⟩) (fun r s'=>r=.ok (.ret (.bool true))∧OldK s₁.heap s'.heap∧s'.os=s₁.os∧AllBare s'.gens) s₁:=by
  intro H hO hT hS hok hA hK
  have base_of:∀ {b:Addr} {o:Obj},s₁.heap.get? b=some o→H b=none→(uO s₁.heap H).get? b=some o:=fun e n=>rU e n
  have noA:∀ {b:Addr} {o:Obj},s₁.heap.get? b=some o→o.cls≠.none→(o.cls≠.type "list" ∨ ∃ es ep,o.data=.dict es ep)→H b=none:=fun {b o} e c1 c2=>by
   cases q:H b with
   |none=>rfl
   |some u =>
    rcases hA b (by rw[q];simp) with e'|e'
    ·subst e'
     rw[ha] at e;cases e
     rcases c2 with z|⟨es,ep,d⟩
     ·exact absurd rfl z
     ·cases d
    ·rw[(tab b e').1] at e;cases e
     exact absurd rfl c1
  have noD:∀ {b:Addr} {o:Obj} {es:Array DictEntry} {ep:Nat},s₁.heap.get? b=some o→o.data=.dict es ep→H b=none:=fun {b o es ep} e d=>by
   cases q:H b with
   |none=>rfl
   |some u =>
    rcases hA b (by rw[q];simp) with e'|e'
    ·subst e'
     rw[ha] at e;cases e;cases d
    ·rw[(tab b e').1] at e;cases e;cases d
  have nsK:∀ {b:Addr} {m:Str→Option Value},s₁.heap.Ns b m→(uO s₁.heap H).Ns b m:=fun {b m} ⟨o,es,ep,e,d,r⟩=>⟨o,es,ep,base_of e (noD e d),d,r⟩
  have hKb:K.In (uO s₁.heap H):=fun b o e=>base_of (KX b o e) (by
   cases q:H b with
   |none=>rfl
   |some u =>
    rcases hA b (by rw[q];simp) with e'|e'
    ·subst e'
     rw[hK (by rw[q];simp)] at e;cases e
    ·rw[(tab b e').2] at e;cases e)
  have hM:Mod K mg (uO s₁.heap H):=by
   refine⟨hKb,nsK hns,⟨mb,nsK hb,hbb⟩,let ⟨mc,h1,h2⟩:=hlim;⟨mc,nsK h1,h2⟩,?_,fun x hx c T h=>?_,tbs.inj⟩
   ·obtain⟨bm,o,b1,b2,b3,b4,b5⟩:=hbm
    exact⟨bm,o,b1,b2,base_of b3 (noA b3 (by rw[b4];nofun) (.inl (by rw[b4];decide))),b4,b5⟩
   ·obtain⟨o,vs,file,tf,flags,tg,inF,text,tt,e1,e2,r⟩:=(tbs.at' x hx c T h).1
    exact⟨o,vs,file,tf,flags,tg,inF,text,tt,base_of e1 (noA e1 (by rw[e2];nofun) (.inl (by rw[e2];decide))),e2,r⟩
  have e0:Env0 P w K mg (uO s₁.heap H) callerA [] s₁ H:=⟨rfl,hM,fun b o e=>oI e,Nat.le_of_eq (d0 _ _),trivial,fun b hb=>absurd (show b∈([]:List Addr) from hb) (by simp),hok,.of_eq hg⟩
  refine codeAny_mono ((F _ hKb (nsK hns)).run callerA [] s₁ H ⟨[.ref a],[]⟩ [.ref a] [.ref a] _ _ hr e0 (hbind s₁ (.ref a)) (.cons rfl .nil) (hsp H hT hS)) fun r s' h=>?_
  cases r with
  |error e=>exact(hCX H e s' h).elim
  |ok fl =>
   cases fl with
   |next=>exact False.elim h
   |brk=>exact False.elim h
   |cont=>exact False.elim h
   |ret u =>
    obtain⟨v,H',os,bare,un,hok',r',q⟩:=h
    have q':v=.bl true:=q
    subst q'
    obtain rfl:u=Value.bool true:=r'
    refine⟨rfl,⟨fun b o e=>?_,fun b o e=>un.there b o e (by simp)⟩,os,bare⟩
    cases q:H b with
    |none=>exact .inl (un.keep b o e q (by intro z;exact absurd (show b∈([]:List Addr) from z) (by simp)) (by simp))
    |some u =>
     rcases hO b with z|⟨ob,xs,z⟩|z
     ·rw[q] at z;cases z
     ·have z2:=un.frzs b ob _ z
      obtain⟨e1,_⟩:=hok b _ z
      obtain⟨e2,_⟩:=hok' b _ z2
      rw[e] at e1;cases e1
      exact .inl e2
     ·obtain⟨more,z2⟩:=un.tbls b _ z
      have e1:s₁.heap.get? b=some (PySem.W.tabObj #[]):=hok b _ z
      have e2:s'.heap.get? b=some (PySem.W.tabObj (#[] ++ more)):=hok' b _ z2
      rw[e] at e1;cases e1
      rcases hA b (by rw[q];simp) with e'|⟨x,hx,c,h⟩
      ·subst e';rw[ha] at e;cases e
      ·exact .inr (.inl ⟨((tbs.at' x hx c b h).1.tab e).isCodeTable,rfl,#[],more,rfl,e2⟩)
 have nT:¬ isT a:=fun h=>by
  have z:=(tab a h).1
  rw[ha] at z;cases z
 have tT:∀ x∈xJ,∀ c T,PySem.W.tabIn K x=some (c,T)→isT T:=fun x hx c T h=>⟨x,hx,c,h⟩
 have dec:∀ b,Decidable (isT b):=fun b=>Classical.propDecidable _
 cases hk:K.lookup a with
 |some o =>
  have e:=KX a o hk
  rw[ha] at e
  cases e
  refine core (fun b=>if isT b then some (.tbl #[]) else none) (fun b=>?_) (fun x hx c T h=>if_pos (tT x hx c T h)) (.inr ⟨vs,_,hk,by rw[List.length_map];exact hl,rv⟩) (fun b u z=>?_) (fun b z=>?_) fun z=>absurd (if_neg nT) z
  ·by_cases h:isT b
   ·exact .inr (.inr (if_pos h))
   ·exact .inl (if_neg h)
  ·by_cases h:isT b
   ·have z':=(if_pos h).symm.trans z
    cases z'
    exact(tab b h).1
   ·have z':=(if_neg h).symm.trans z
    cases z'
  ·by_cases h:isT b
   ·exact .inr h
   ·exact absurd (if_neg h) z
 |none =>
  refine core (fun b=>if b=a then some (.frz { cls:=.type "list",data:=.seq vs.toArray } (.lst (ns.map V.int))) else if isT b then some (.tbl #[]) else none) (fun b=>?_) (fun x hx c T h=>?_) (.inl (.inr ⟨{ cls:=.type "list",data:=.seq vs.toArray },if_pos rfl⟩)) (fun b u z=>?_) (fun b z=>?_) fun _=>hk
  ·by_cases hb:b=a
   ·exact .inr (.inl ⟨_,_,if_pos hb⟩)
   ·by_cases h:isT b
    ·exact .inr (.inr ((if_neg hb).trans (if_pos h)))
    ·exact .inl ((if_neg hb).trans (if_neg h))
  ·have h':=tT x hx c T h
   exact(if_neg (fun (z:T=a)=>nT (z▸h'))).trans (if_pos h')
  ·by_cases hb:b=a
   ·have z':=(if_pos hb).symm.trans z
    cases z'
    subst hb
    exact⟨ha,by rw[List.length_map];exact hl,vs,_,rv,ha⟩
   ·by_cases h:isT b
    ·have z':=((if_neg hb).trans (if_pos h)).symm.trans z
     cases z'
     exact(tab b h).1
    ·have z':=((if_neg hb).trans (if_neg h)).symm.trans z
     cases z'
  ·by_cases hb:b=a
   ·exact .inl hb
   ·by_cases h:isT b
    ·exact .inr h
    ·exact absurd ((if_neg hb).trans (if_neg h)) z
def nI (q:Program)(K:PySem.W.Frag):Bool:=xJ.all fun x=>match PySem.W.tabIn K x with
 |none=>true
 |some (_,T)=>((recsOf q).find? fun e=>e.name == x).isSome&&((K.lookup T).isNone&&xJ.all fun y=>match PySem.W.tabIn K y with
  |none=>true
  |some (_,U)=>x == y||!decide (T=U))
theorem QD {q:Program}{loose:List Str}{mean:ExcName→Option Value}{mg mb:Str→Option Value}{h:Heap}{K:PySem.W.Frag}(T:Top q loose mean mg mb h)(X:K.In h)(c:nI q K=true):Tabs K h:=by
 unfold nI at c
 have g:∀ x∈xJ,∀ d U,PySem.W.tabIn K x=some (d,U)→((recsOf q).find? fun e=>e.name == x).isSome=true∧(K.lookup U).isNone=true∧(xJ.all fun y=>match PySem.W.tabIn K y with
  |none=>true
  |some (_,V)=>x == y||!decide (U=V))=true:=fun x hx d U e=>by
  have z:=List.all_eq_true.mp c x hx
  rw[e] at z
  simpa only [Bool.and_eq_true] using z
 refine⟨fun x hx d U e=>?_,fun x hx y hy d d' U e1 e2=>?_⟩
 ·obtain⟨z1,z2,_⟩:=g x hx d U e
  obtain⟨r,hr⟩:=Option.isSome_iff_exists.mp z1
  obtain⟨k1,k2⟩:=PySem.W.tab_of T X hr e
  exact⟨k1,k2,by simpa using z2⟩
 ·have z:=List.all_eq_true.mp (g x hx d U e1).2.2 y hy
  rw[e2] at z
  simpa using z
theorem QH {l:PySem.W.OpenLaw}{n k:Nat}{q:Program}{loose:List Str}{XP:(Str→Option Value)→Heap→Prop}{YP:World→Heap→Prop}{d:DefRec}{K:Params→PySem.W.Frag}{CX:World→CXT}{sp:World→Sp}{x:Str}
  (hn:l.most=some n) (hn2:n≤sizeLine) (hdf:d.params.defaults=[]) (hr:Room k callerA) (ht:∀ p,nI q (K p)=true)
  (hY:∀ (w:World) (h:Heap),YP w h→(K w.params).In h)
  (F:∀ (w:World) (mg:Str→Option Value) (fa:Addr) (h:Heap),(K w.params).In h→h.Ns mainGlobals mg→mg d.name=some (.ref fa) →
   ∃ fd:FuncData,(∀ (s:Shared) (u:Value),BindsTo s fd ⟨[u],[]⟩ [(x,u)]) ∧
    ∀ base:Heap,(K w.params).In base→base.Ns mainGlobals mg→FnOk l.prog w (K w.params) mg base (CX w) k fa fd [x] (sp w))
  (hsp:∀ (w:World) (H:Hp) (a:Addr) (ns:List Int),ns.length≤n→Tb0 (K w.params) H→SqX (K w.params) H a (ns.map V.int)→sp w [.ref a] H (fun v _=>v=.bl true) fun _ _ _=>False)
  (hCX:∀ (w:World) (H:Hp) (s:Shared) (e:Value) (s':Shared),CX w [] H s (fun _ _ _=>False) e s'→False) :
  PySem.W.WalkO q loose XP YP l.row.toRowW d [] (fun f vs=>PySem.call f vs):=by
 refine _A.attach_call hn hdf fun w s₀ s₁ mg mb fa o pm cd doc a vs ns G Y ho hd hcd hmg hobj hints hlen hg=>?_
 have KX:=hY w _ Y
 obtain⟨fd,hb,hF⟩:=F w mg fa _ KX G.T.g hmg
 exact eD KX G.T.g G.T.b G.T.builtins G.T.nolimit hg (let ⟨bm,ob,b1,b2,b3,b4,b5,b6⟩:=G.T.bmain;⟨bm,ob,b1,b2,b3,b4,b5,b6⟩) (QD G.T KX (ht _)) hobj hints (Nat.le_trans hlen hn2) hr hF hb (fun H hT hS=>hsp w H a ns hlen hT hS) fun H e s'=>hCX w H s₁ e s'
end _L
end
section
namespace _D
open PySem PySem.Spec PyProof.Rows _L
theorem V5 {K:PySem.W.Frag}{h:Heap}{mg:Str→Option Value}(X:K.In h)(G:h.Ns mainGlobals mg){x:Str}{st:Stmt}{ps:List Str}{f:Addr}{oc:Value}{od an:Option Addr}{osl:Array (Option Value)}{kV doc pm cdv ct:Value}
  (a:PySem.W.nsIn K mainGlobals x=some (some (.ref f)))
  (l:K.lookup f=some ⟨oc,od,.func (PySem.W.fnOf x x (wA st) (zB st) (qF st) .none kV doc pm an cdv ct),osl⟩) (c:PySem.W.codeIn K cdv x=true) (k:PySem.W.keepIn K (.ref f)=true)
  (hb:∀ (kV doc pm:Value) (an:Option Addr) (cdv ct:Value) (us:List Value),us.length=ps.length→bindArgs (PySem.W.fnOf x x (wA st) (zB st) (qF st) .none kV doc pm an cdv ct) ⟨us,[]⟩=pure (ps.zip us)):Src K mg x st ps:=
 have F:=XO (st:=st) l c k
 ⟨f,_,PySem.W.mg_of X G a,F,F.binds hb⟩
def bW (K:PySem.W.Frag)(C:Addr):Bool:=
 decide (PySem.W.findIn K (.ref C) "__getattribute__" = some (some (.builtin "BaseException.__getattribute__")))&&decide (PySem.W.findIn K (.ref C) "__getattr__" = some none)
 && decide (PySem.W.findIn K (.ref C) "__class__" = some (some (.builtin "object.__class__")))&&decide (PySem.W.mroIn K C (.type "object")=some true)&&decide (PySem.W.mroIn K C (.type "BaseException")=some true)
 && (PySem.W.clsIn K C).isSome&&decide (PySem.W.kitOne K (.ref C) (.type "ValueError")=some true)
def r8 (K:PySem.W.Frag):Bool:=
 decide (PySem.W.specialIn K (.builtin "object.__class__") "__get__" = some (some (.builtin "getset_descriptor.__get__")))&&decide (PySem.W.takesIn K (.builtin "object.__class__")=some true)
def ZE (K:PySem.W.Frag)(cl:List Addr):Bool:=cl.all fun C=>cl.all fun B=>decide (PySem.W.kitOne K (.ref C) (.ref B)=some (C == B))
theorem ZH {K:PySem.W.Frag}{cl:List Addr}(h1:cl.all (bW K)=true)(h2:r8 K=true)(h3:ZE K cl=true):ClsK K cl:=by
 have g:=h2
 unfold r8 at g
 simp only[Bool.and_eq_true,decide_eq_true_eq] at g
 have k1:∀ C∈cl,bW K C=true:=List.all_eq_true.mp h1
 refine⟨fun C hC=>?_,fun C hC B hB=>?_,fun C hC=>?_⟩
 ·have e:=k1 C hC
  unfold bW at e
  simp only[Bool.and_eq_true,decide_eq_true_eq] at e
  obtain⟨⟨⟨⟨⟨⟨e1,e2⟩,e3⟩,e4⟩,e5⟩,e6⟩,e7⟩:=e
  exact⟨e1,e2,e3,g.1,g.2,e4,e5,e6⟩
 ·have e:=List.all_eq_true.mp (List.all_eq_true.mp h3 C hC) B hB
  exact of_decide_eq_true e
 ·have e:=k1 C hC
  unfold bW at e
  simp only[Bool.and_eq_true,decide_eq_true_eq] at e
  exact e.2
def K8 (K:PySem.W.Frag)(cs:List Value)(A:Addr):Bool:=cs.all fun v=>decide (PySem.W.exmOne K v (.ref A)=some true)
def K6 (K:PySem.W.Frag)(cs:List Addr)(A:Addr):Bool:=cs.all fun C=>kH K C A
def K7 (K:PySem.W.Frag)(cs:List Addr):Bool:=cs.all fun C=>PySem.W.keepIn K (.ref C)
def bJ (K:PySem.W.Frag):Sp:=fun vs H Q E=>Tb0 K H∧∃ a ns,vs=[.ref a]∧SqX K H a (List.map V.int ns)∧ns.length≤63∧∀ H',Q (.bl true) H'
theorem fY {K:PySem.W.Frag}{P:Hp}{α : List Addr}:∀ ns:List Int,qE K P α (ns.map D.int) (ns.map V.int)
 |[]=>.nil
 |n::ns=>.cons (by simp only[Rep]) (fY ns)
def noT (H:Hp):Hp:=fun b=>match H b with
 |some (.tbl _)=>none
 |u=>u
theorem oD {P:Program}{w:World}{K:PySem.W.Frag}{mg:Str→Option Value}{fa:Addr}{st:Stmt}{k:Nat}{x:Str}(hs:Src K mg "law" st [x])(hfa:mg "law" = some (.ref fa))
  (hbd:∀ (kV doc pm:Value) (an:Option Addr) (cdv ct:Value) (s:Shared) (v:Value),BindsTo s (PySem.W.fnOf "law" "law" (wA st) (zB st) (qF st) .none kV doc pm an cdv ct) ⟨[v],[]⟩ [(x,v)])
  (hall:∀ base:Heap,∃ F,bN P w K mg base true k "law" [x] F∧∀ ns:List Int,ns.length≤63→∃ S,F [.lst (ns.map D.int)] [] = .ok (.bl true) S) :
  ∃ fd:FuncData,(∀ (s:Shared) (v:Value),BindsTo s fd ⟨[v],[]⟩ [(x,v)])∧∀ base:Heap,K.In base→base.Ns mainGlobals mg→FnOk P w K mg base (CXd P w) k fa fd [x] (bJ K):=by
 obtain⟨f,fd,hm,F,hb⟩:=hs
 cases hfa.symm.trans hm
 refine⟨fd,?_,fun base _ _=>?_⟩
 ·obtain⟨oc,od,kV,doc,pm,an,cdv,ct,osl,rfl,_,_⟩:=F.ex
  exact hbd kV doc pm an cdv ct
 ·obtain⟨G,⟨f',fd',hm',_,hb',hl,X⟩,hG⟩:=hall base
  cases hm.symm.trans hm'
  cases hl.one (jW F)
  refine(X.imp fun vs H Q E h=>?_).ok
  obtain⟨tb,a,ns,rfl,hS,hl,k⟩:=h
  obtain⟨S,e⟩:=hG ns hl
  have keep:∀ (b:Addr) (u:HO),H b=some u→(∀ ps,u≠.tbl ps)→noT H b=some u:=fun b u q h=>by
   unfold noT
   rw[q]
   cases u with
   |tbl ps=>exact absurd rfl (h ps)
   |_=>rfl
  have hS':SqX K (noT H) a (List.map V.int ns):=by
   rcases hS with (h|⟨o,h⟩)|h
   ·exact .inl (.inl (keep _ _ h fun _ z=>by cases z))
   ·exact .inl (.inr ⟨o,keep _ _ h fun _ z=>by cases z⟩)
   ·exact .inr h
  have sub:qG (noT H) H:=fun b u q=>by
   unfold noT at q
   cases z:H b with
   |none=>rw[z] at q;cases q
   |some v =>
    rw[z] at q
    cases v with
    |tbl ps=>cases q
    |_=>exact q
  refine⟨rfl,noT H,[],[.lst (ns.map D.int)],[],⟨fun x hx c T h=>⟨#[],tb x hx c T h,by unfold noT;rw[tb x hx c T h],by simp,trivial,fun pos cv z=>by cases z⟩,sub,rfl,.nil,by simp,by simp,by simp⟩,.cons (tQ hS' (fY ns)) .nil,?_⟩
  rw[e]
  intro v H' P' α' _ _ _ rv
  simp only[Rep] at rv
  subst rv
  exact k H'
theorem JM {l:PySem.W.OpenLaw}{q:Program}{loose:List Str}{XP:(Str→Option Value)→Heap→Prop}{YP:World→Heap→Prop}{d:DefRec}{K:Params→PySem.W.Frag}{k:Nat}{x:Str}(hn:l.most=some 63)(hdf:d.params.defaults=[])(hr:Room k callerA)(ht:∀ p,nI q (K p)=true)
  (hY:∀ (w:World) (h:Heap),YP w h→(K w.params).In h)
  (F:∀ (w:World) (mg:Str→Option Value) (fa:Addr) (h:Heap),(K w.params).In h→h.Ns mainGlobals mg→mg d.name=some (.ref fa) →
   ∃ fd:FuncData,(∀ (s:Shared) (u:Value),BindsTo s fd ⟨[u],[]⟩ [(x,u)])∧∀ base:Heap,(K w.params).In base→base.Ns mainGlobals mg→FnOk l.prog w (K w.params) mg base (CXd l.prog w) k fa fd [x] (bJ (K w.params))) :
  PySem.W.WalkO q loose XP YP l.row.toRowW d [] (fun f vs=>PySem.call f vs):=
 _L.QH (n:=63) (k:=k) (x:=x) (CX:=fun w=>CXd l.prog w) (sp:=fun w=>bJ (K w.params)) hn (by decide) hdf hr ht hY F (fun _ _ a ns hl hT hS=>⟨hT,a,ns,rfl,hS,hl,fun _=>rfl⟩) fun w H s e s' h=>by
  obtain⟨_,_,_,_,_,_,_,_,_,_,_,_,z⟩:=h
  exact z
end _D
end
section
namespace _D
open PySem
theorem us0 {us:List Value}(h:us.length=0):us=[]:=List.eq_nil_of_length_eq_zero h
theorem usS {us:List Value}{n:Nat}(h:us.length=n+1):∃ a vs,us=a::vs∧vs.length=n:=by
 cases us with
 |nil=>exact absurd h (by simp)
 |cons a vs=>exact⟨a,vs,rfl,by simpa using h⟩
theorem us1 {us:List Value}(h:us.length=1):∃ a,us=[a]:=by
 obtain⟨a,vs,rfl,h'⟩:=usS h
 exact⟨a,by rw[us0 h']⟩
theorem us2 {us:List Value}(h:us.length=2):∃ a b,us=[a,b]:=by
 obtain⟨a,vs,rfl,h'⟩:=usS h
 obtain⟨b,rfl⟩:=us1 h'
 exact⟨a,b,rfl⟩
theorem us3 {us:List Value}(h:us.length=3):∃ a b c,us=[a,b,c]:=by
 obtain⟨a,vs,rfl,h'⟩:=usS h
 obtain⟨b,c,rfl⟩:=us2 h'
 exact⟨a,b,c,rfl⟩
end _D
end
section
namespace _D
open PySem PySem.Spec PyProof.Rows _L
theorem a8 (F:DF):∃ G:DF,G=F:=⟨F,rfl⟩
noncomputable def sh (F:DF):DF:=Classical.choose (a8 F)
theorem zU (F:DF):sh F=F:=Classical.choose_spec (a8 F)
def isV:Option NameKind→Bool
 |some .local => true
 |some .cell=>true
 |some .free=>true
 |_=>false
def isL:Option NameKind→Bool
 |some .local => true
 |some .cell=>true
 |_=>false
def isG:Option NameKind→Bool
 |some .globalImplicit=>true
 |_=>false
def okN (x:Str):Bool:=!(x == ("__debug__" : Str))&&(!(x == ("__classdict__" : Str))&&!decide (x = "__name__"))
def okG (X:Cx)(x:Str):Bool:=isG (X.env.kindOf x)&&okN x
def okB (v:Value)(x:Str):Bool:=decide (bootBuiltins x=some v)
def vY (sc:Scope):List Str:=sc.names.filterMap fun y=>if isL (some y.2) then some y.1 else none
def vN (sc:Scope):List Str:=(sc.names.filterMap fun y=>if isL (some y.2)&&!(y.1 == (".0" : Str)) then some y.1 else none)++sc.names.filterMap fun y=>if y.2 == .free then some y.1 else none
def Ck (b:Bool):Prop:=b=true
theorem ck {b:Bool}(h:b=true:=by kernel_rfl):Ck b:=h
structure DfS (F:DF)(P:Program)(w:World)(K:PySem.W.Frag)(mg:Str→Option Value)(base:Heap)(cm:Bool)(k:Nat)(x:Str)(n:Nat):Prop where
 get:Def P w K mg base cm k x n F
def okT (X:Cx)(m:Nat)(x:Str):Bool:=decide (X.N[m]? = some x)&&(isL (X.env.scope.names.lookup x)&&(decide X.N.Nodup&&(X.fn x||decide (X.env.scope.names.lookup x=some .local))))
def okP (X:Cx)(m:Nat)(x:Str):Bool:=decide (X.N[m]? = some x)&&decide (X.env.scope.names.lookup x=some .local)
def nJ (scX:Scope)(NX:List Str)(scope:Scope)(cap:List (Option Nat)):Bool:=
 decide (scope.kind=.function)&&(decide (∀ y∈scope.names,y.2=.local → scope.names.lookup y.1=some .local)&&(decide (∀ y∈scope.names,y.2=.cell→scope.names.lookup y.1=some .cell)&&(decide (∀ y∈scope.names,y.2=.free→scX.names.lookup y.1=some .cell∨scX.names.lookup y.1=some .free)
 && (decide (∀ y∈scope.names,y.2=.free→scope.names.lookup y.1=some .free)&&(decide (cap.length=(vN scope).length)&&(((cap.zip (vN scope)).all fun p=>match p.1 with|none=>true|some i=>NX[i]? == some p.2&&scope.names.lookup p.2 == some .free)&&decide (vN scope).Nodup))))))
def fnB (N P:List Str)(sc:Scope):Bool:=
 decide (sc.kind=.function)&&(decide (sc.isCoroutine=false)&&(decide (sc.isGenerator=false)&&(decide N.Nodup&&(decide (N.take P.length=P)&&(decide (∀ x∈P,sc.names.lookup x=some .local ∨ sc.names.lookup x=some .cell)&&decide (∀ y∈sc.names,y.2≠.free))))))
theorem r9 {scX:Scope}{NX:List Str}{scope:Scope}{cap:List (Option Nat)}(h:nJ scX NX scope cap=true):CompSc scX NX scope (vN scope) cap:=by
 simp only[nJ,Bool.and_eq_true,decide_eq_true_eq] at h
 obtain⟨a,b,c,d,e,f,g,k⟩:=h
 exact⟨a,b,c,d,e,f,g,k⟩
theorem fF {N P:List Str}{sc:Scope}(h:fnB N P sc=true):FnScope N P sc:=by
 simp only[fnB,Bool.and_eq_true,decide_eq_true_eq] at h
 obtain⟨a,b,c,d,e,f,g⟩:=h
 exact⟨a,b,c,d,e,f,g⟩
section
variable {X:Cx}{a b c e o elt tg iter:Expr}{ifs rest:List Expr}{f g:DS}{fa:DE}{f2:DI2}{dg:DG}{t:DT}{kk:DK}{gens grest:List Comprehension}{scope:Scope}{cap:List (Option Nat)}{mm:Bool}{l q:Nat}{y z:Str}{G2':G2}{es:List Expr}{fA:DA}{x:Str}{p pos:Pos}{cm:Bool}{k n m:Nat}{F:DF}
theorem tB {sc:Scope}(h:isV (sc.names.lookup x)=true):Vis sc x:=by
 unfold Vis
 revert h
 cases sc.names.lookup x with
 |none=>intro h;cases h
 |some y=>cases y <;> intro h <;> first|cases h;done|exact .inl rfl|exact .inr (.inl rfl)|exact .inr (.inr rfl)
theorem iV {sc:Scope}(h:isL (sc.names.lookup x)=true):_L.Loc sc x:=by
 unfold _L.Loc
 revert h
 cases sc.names.lookup x with
 |none=>intro h;cases h
 |some y=>cases y <;> intro h <;> first|cases h;done|exact .inl rfl|exact .inr rfl
theorem uF (h:okN x=true):(x == ("__debug__" : Str))=false∧(x == ("__classdict__" : Str))=false∧x ≠ "__name__":=by
 unfold okN at h
 rw[Bool.and_eq_true,Bool.and_eq_true] at h
 exact⟨by simpa using h.1,by simpa using h.2.1,by simpa using h.2.2⟩
theorem xP (h:okG X x=true):Gl X x∧(x == ("__debug__" : Str))=false∧x ≠ "__name__":=by
 have h:=(Bool.and_eq_true _ _).mp h
 refine⟨?_,(uF h.2).1,(uF h.2).2.2⟩
 have z:=h.1
 unfold Gl
 revert z
 cases X.env.kindOf x with
 |none=>intro z;cases z
 |some y=>cases y <;> intro z <;> first|cases z;done|rfl
theorem dP (h:okT X m x=true):X.N[m]? = some x∧_L.Loc X.env.scope x∧X.N.Nodup∧(X.fn x=true∨X.env.scope.names.lookup x=some .local):=by
 simp only[okT,Bool.and_eq_true,decide_eq_true_eq,Bool.or_eq_true] at h
 exact⟨h.1,iV h.2.1,h.2.2⟩
theorem xQ (h:okP X m x=true):X.N[m]? = some x∧X.env.scope.names.lookup x=some .local:=by
 simp only[okP,Bool.and_eq_true,decide_eq_true_eq] at h
 exact h
theorem cK (h:Ck (okG X x)):Gl X x:=(xP h).1
theorem aV (h:Ck (decide (X.N[m]? = some x)&&(isV (X.env.scope.names.lookup x)&&okN x))):QE X (.Name x pos) (qB m):=by
 unfold Ck at h
 simp only[Bool.and_eq_true,decide_eq_true_eq] at h
 exact YL m h.1 (tB h.2.1) (uF h.2.2).1 (uF h.2.2).2.1
theorem aBt {nm:String}(h:Ck (okG X x))(hm:X.mg x=none)(hb:Ck (okB (.type nm) x)):QE X (.Name x pos) (dC (.ty nm)):=
 have h:=xP h
 oY h.1 hm (of_decide_eq_true hb) h.2.2 h.2.1
theorem aCl {C:Addr}(h:Ck (okG X x))(hm:X.mg x=some (.ref C)∧PySem.W.keepIn X.K (.ref C)=true):QE X (.Name x pos) (dC (.obj C)):=
 have h:=xP h
 YF h.1 hm.1 hm.2 h.2.1
abbrev St1 (X:Cx)(e:Expr)(es:List Expr)(pos:Pos):Prop:=starEach (e::es) X.env=(false,eval e X.env)::starEach es X.env∧(backTo pos (starEach es X.env)).any (·.1)=false
theorem aN (G:DfS F X.prog X.w X.K X.mg X.base cm k x n)(hr:RoomC cm k X.A)(hF:Fn1 X)(h:Ck (okG X x))(ha:QA X (e::es) fA)(s:St1 X e es pos):QE X (.Call (.Name x p) (e::es) [] pos) (qJ n F fA):=
 have h:=xP h
 qcN G.1 hr hF h.1 ha h.2.1 s.1 s.2
theorem aO (G:DfS F X.prog X.w X.K X.mg X.base cm k x n)(hr:RoomC cm k X.A)(h:Ck (okG X x))(ha:QA X (e::es) fA)(s:St1 X e es pos):QE X (.Call (.Name x p) (e::es) [] pos) (qJ n (okO F) fA):=
 have h:=xP h
 qcO G.1 hr h.1 ha h.2.1 s.1 s.2
theorem aB {id:String}(hc:ZCall X (.builtin id) F)(h:Ck (okG X x))(hm:X.mg x=none)(hb:Ck (okB (.builtin id) x))(ha:QA X (e::es) fA)(s:St1 X e es pos):QE X (.Call (.Name x p) (e::es) [] pos) (qM F fA):=
 have h:=xP h
 eX hc h.1 hm (of_decide_eq_true hb) ha h.2.2 h.2.1 s.1 s.2
theorem aT {T:String}(hc:ZCall X (.type T) F)(h:Ck (okG X x))(hm:X.mg x=none)(hb:Ck (okB (.type T) x))(ha:QA X (e::es) fA)(s:St1 X e es pos):QE X (.Call (.Name x p) (e::es) [] pos) (qM F fA):=
 have h:=xP h
 dX hc h.1 hm (of_decide_eq_true hb) ha h.2.2 h.2.1 s.1 s.2
theorem aC (S:Ck (nJ X.env.scope X.N scope cap))(hc:X.calm=true)(hi:QI2 X tg iter f2)(hg:∀ cl C ex s₀ H₀,QG (zC X (vN scope) scope cl C ex s₀ H₀) tg dg)(ht:∀ cl C ex s₀ H₀,QTs (zC X (vN scope) scope cl C ex s₀ H₀) ifs t)
  (has:∀ g',(⟨tg,iter,ifs,0⟩::grest:List Comprehension)[0+1]? = some g'→g'.is_async=0)
  (he:∀ cl C ex s₀ H₀,QK (zC X (vN scope) scope cl C ex s₀ H₀) (fun acc=>xE elt (⟨tg,iter,ifs,0⟩::grest) scope pos 0 acc (zC X (vN scope) scope cl C ex s₀ H₀).env) kk) (hs:∀ x,foldedSetIterable iter X.env x=pure x) :
  QE X (.ListComp elt (⟨tg,iter,ifs,0⟩::grest) scope pos) (xV mm cap f2 dg t kk):=eZ hc (r9 S) hi hg ht has he hs
theorem aNm (h:Ck (okT X m x)):QG X (.Name x pos) (gNm m):=
 have h:=dP h
 Q2 h.2.2.1 h.1 h.2.1 h.2.2.2
theorem aSt {pos':Pos}(hs:swapsWith e (some (.Name x pos')) pos.line X.env=pure false)(he:QE X e fa)(h:Ck (okT X m x)):QS X (.Assign [.Name x pos'] e pos) (zD fa (gNm m)):=
 have h:=dP h
 YU h.2.2.1 he h.1 h.2.1 hs h.2.2.2
theorem aP2 {px py pt:Pos} {kt k2 pt2} (h:Ck (decide X.N.Nodup&&(okP X m x&&(okP X l y&&!decide (m=l))))) (hc:X.calm=true) (ha:QA X [a,b] fA)
  (hw:swappedStores [.Tuple [.Name x px,.Name y py] kt pt] (.Tuple [a,b] k2 pt2) X.env=pure (some [x,y])) (hs:swapsWithSole [.Tuple [.Name x px,.Name y py] kt pt] (.Tuple [a,b] k2 pt2) pos.line X.env=pure false) :
  QS X (.Assign [.Tuple [.Name x px,.Name y py] kt pt] (.Tuple [a,b] k2 pt2) pos) (pK m l fA):=by
 unfold Ck at h
 simp only[Bool.and_eq_true,decide_eq_true_eq,Bool.not_eq_true',decide_eq_false_iff_not] at h
 exact YT hc h.1 ha (xQ h.2.1).1 (xQ h.2.2.1).1 h.2.2.2 (xQ h.2.1).2 (xQ h.2.2.1).2 hw hs
theorem aP3 {px py pz pt:Pos} {kt k2 pt2} (h:Ck (decide X.N.Nodup&&(okP X m x&&(okP X l y&&(okP X q z&&(!decide (m=l)&&(!decide (m=q)&&!decide (l=q)))))))) (hc:X.calm=true) (ha:QA X [a,b,c] fA)
  (hw:swappedStores [.Tuple [.Name x px,.Name y py,.Name z pz] kt pt] (.Tuple [a,b,c] k2 pt2) X.env=pure (some [x,y,z])) (hs:swapsWithSole [.Tuple [.Name x px,.Name y py,.Name z pz] kt pt] (.Tuple [a,b,c] k2 pt2) pos.line X.env=pure false) :
  QS X (.Assign [.Tuple [.Name x px,.Name y py,.Name z pz] kt pt] (.Tuple [a,b,c] k2 pt2) pos) (k8 m l q fA):=by
 unfold Ck at h
 simp only[Bool.and_eq_true,decide_eq_true_eq,Bool.not_eq_true',decide_eq_false_iff_not] at h
 obtain⟨h1,h2,h3,h4,h5,h6,h7⟩:=h
 exact Q6 hc h1 ha (xQ h2).1 (xQ h3).1 (xQ h4).1 h5 h6 h7 (xQ h2).2 (xQ h3).2 (xQ h4).2 hw hs
theorem aRs {C:Addr}{np cpos:Pos}(h:Ck (okG X x))(hc:X.calm=true)(hF:Fn1 X)(hm:∃ Ae,X.mg x=some (.ref C)∧kH X.K C Ae=true)(ha:QA X (e::rest) fA)(s:St1 X e rest cpos) :
  QS X (.Raise (some (.Call (.Name x np) (e::rest) [] cpos)) none pos) (jO (.ref C) fA):=
 have h:=xP h
 let ⟨_,hm,hx⟩:=hm
 hV hc hF h.1 hm hx ha h.2.1 s.1 s.2
theorem aTr {nm:Str}{body:List Stmt}{b₀:Stmt}{suite:List Stmt}{np hpos:Pos}{cs:List Value}(h:Ck (okG X x&&(okP X m nm&&(decide X.N.Nodup&&decide (X.N.length=n)))))(hF:Fn1 X)(hm:∃ C0,X.mg x=some (.ref C0)∧∀ c∈cs,PySem.W.exmOne X.K c (.ref C0)=some true)(hb:∀ E pn,ZPass (Cx.tryIn X E pn)→QB (Cx.tryIn X E pn) body f)(hs:∀ e,QB (Cx.suite X e) (b₀::suite) g) :
  QS X (.Try body [.ExceptHandler (some (.Name x np)) (some nm) (b₀::suite) hpos] [] [] pos) (kR n m cs f g):=by
 unfold Ck at h
 simp only[Bool.and_eq_true,decide_eq_true_eq] at h
 obtain⟨C0,hm,hcs⟩:=hm
 exact YV hF hb hs (xP h.1).1 hm hcs h.2.2.1 (xQ h.2.1).1 (xQ h.2.1).2 (xP h.1).2.1 h.2.2.2
end
structure TxS (K:PySem.W.Frag)(mg:Str→Option Value)(tp:Nat→Stmt)(tab:List (Str × Nat × List Str))(bl:List Str)(clt plt:List (Str × Addr))(cs:List Value)(exl:List Addr)(cst:List (Str × Int)):Prop where
 src:∀ (j:Nat) {x:Str} {i:Nat} {ps:List Str},tab[j]? = some (x,i,ps)→Src K mg x (tp i) ps
 nb:∀ {x:Str},Ck (bl.contains x)→mg x=none
 cl:∀ {x:Str} {C:Addr},clt.lookup x=some C→mg x=some (.ref C)∧PySem.W.keepIn K (.ref C)=true
 rz:∀ {x:Str} {C:Addr},plt.lookup x=some C→∃ Ae,mg x=some (.ref C)∧kH K C Ae=true
 ct:∃ C0,mg "FarError" = some (.ref C0)∧∀ c∈cs,PySem.W.exmOne K c (.ref C0)=some true
 cls:ClsK K exl
 gi:∀ {x:Str} {v:Int},cst.lookup x=some v→∃ t,mg x=some (.int v t)
end _D
end
section
namespace _D
open PySem PySem.Spec PyProof.Rows _L
section
variable {K:PySem.W.Frag}{mg:Str→Option Value}{cm:Bool}{tp:Nat→Stmt}{tab:List (Str × Nat × List Str)}{bl:List Str}{clt plt:List (Str × Addr)}{cs:List Value}{exl:List Addr}{cst:List (Str × Int)}{x:Str}{i m:Nat}{ps:List Str}{F:DF}{g:DS}
theorem dq (P:Program)(w:World)(base:Heap)(k j:Nat)(T:TxS K mg tp tab bl clt plt cs exl cst)(hj:tab[j]? = some (x,i,ps))(h:Ck (fnB (vY (qF (tp i))) ps (qF (tp i))&&decide ((vY (qF (tp i))).length=m)))(hF:F=qQ m g)
  (hb:∀ (f:Addr) (cdv:Value) (A:Around) (outer:List Env) (s:Shared) (H:Hp) (E:XK),uI K x cdv→RoomC cm k (A.deeper (envOfC x (qF (tp i)) s.heap.objs.size f cdv)) →
   QB (cxC cm P w K mg base (vY (qF (tp i))) x (qF (tp i)) f cdv A outer s H E) (zB (tp i)) g):DfS F P w K mg base cm (k+1) x ps.length:=by
 unfold Ck at h
 simp only[Bool.and_eq_true,decide_eq_true_eq] at h
 obtain⟨h,rfl⟩:=h
 exact⟨hF▸KB (T.src j hj) (fF h) rfl hb⟩
theorem dqP {P:Program}{w:World}{base:Heap}(k j:Nat)(T:TxS K mg tp tab bl clt plt cs exl cst)(hj:tab[j]? = some (x,i,ps))(h:Ck (fnB (vY (qF (tp i))) ps (qF (tp i))&&decide ((vY (qF (tp i))).length=m)))
  (hb:∀ (f:Addr) (cdv:Value) (A:Around) (outer:List Env) (s:Shared) (H:Hp) (E:XK),uI K x cdv→RoomC cm k (A.deeper (envOfC x (qF (tp i)) s.heap.objs.size f cdv)) →
   QB (cxC cm P w K mg base (vY (qF (tp i))) x (qF (tp i)) f cdv A outer s H E) (zB (tp i)) g):bN P w K mg base cm (k+1) x ps (qQ m g):=by
 unfold Ck at h
 simp only[Bool.and_eq_true,decide_eq_true_eq] at h
 obtain⟨h,rfl⟩:=h
 exact VV (T.src j hj) (fF h) rfl hb
end
theorem hv {a b:Prop}(f:a→b)(h:a):b:=f h
end _D
end
section
namespace _D
open PySem PySem.Spec PyProof.Rows _L
inductive SrcF (K:PySem.W.Frag)(x:Str)(st:Stmt)(ps:List Str):Prop
 |mk {f:Addr} {oc:Value} {od an:Option Addr} {osl:Array (Option Value)} {kV doc pm cdv ct:Value} (a:PySem.W.nsIn K mainGlobals x=some (some (.ref f)))
  (l:K.lookup f=some ⟨oc,od,.func (PySem.W.fnOf x x (wA st) (zB st) (qF st) .none kV doc pm an cdv ct),osl⟩) (c:PySem.W.codeIn K cdv x=true) (k:PySem.W.keepIn K (.ref f)=true):SrcF K x st ps
def n9 (K:PySem.W.Frag)(tp:Nat→Stmt):List (Str × Nat × List Str)→Prop
 |[]=>True
 |(x,i,ps)::t=>SrcF K x (tp i) ps∧n9 K tp t
def BdF (tp:Nat→Stmt):List (Str × Nat × List Str)→Prop
 |[]=>True
 |(x,i,ps)::t=>(∀ (kV doc pm:Value) (an:Option Addr) (cdv ct:Value) (us:List Value),us.length=ps.length→bindArgs (PySem.W.fnOf x x (wA (tp i)) (zB (tp i)) (qF (tp i)) .none kV doc pm an cdv ct) ⟨us,[]⟩=pure (ps.zip us))∧BdF tp t
def tZ (K:PySem.W.Frag):List (Str × Addr)→Prop
 |[]=>True
 |(x,C)::t=>PySem.W.nsIn K mainGlobals x=some (some (.ref C))∧tZ K t
def n6 (K:PySem.W.Frag):List (Str × Int)→Prop
 |[]=>True
 |(x,v)::t=>(∃ k,PySem.W.nsIn K mainGlobals x=some (some (.int v k)))∧n6 K t
def KL:Option (Option Value)→Bool
 |some none=>true
 |_=>false
section
variable {K:PySem.W.Frag}{h:Heap}{mg:Str→Option Value}{tp:Nat→Stmt}
theorem tX (X:K.In h)(G:h.Ns mainGlobals mg):∀ (tab:List (Str × Nat × List Str)),n9 K tp tab→BdF tp tab→∀ (j:Nat) {x:Str} {i:Nat} {ps:List Str},tab[j]? = some (x,i,ps)→Src K mg x (tp i) ps
 |[],_,_,_,_,_,_,e=>by cases e
 |(x,i,ps)::t,H,B,0,_,_,_,e=>by
  cases e
  obtain⟨a,l,c,k⟩:=H.1
  exact V5 X G a l c k B.1
 |(x,i,ps)::t,H,B,j+1,_,_,_,e=>tX X G t H.2 B.2 j e
theorem xZ {β : Type}{p:Str→β→Prop}{x:Str}{C:β}:∀ {l:List (Str × β)},(∀ y∈l,p y.1 y.2)→l.lookup x=some C→p x C
 |[],_,e=>by cases e
 |(y,b)::t,H,e=>by
  rw[List.lookup_cons] at e
  cases q:x == y with
  |true =>
   rw[q] at e
   cases e
   rw[eq_of_beq q]
   exact H (y,_) (.head _)
  |false =>
   rw[q] at e
   exact xZ (fun z hz=>H z (.tail _ hz)) e
theorem jS (X:K.In h)(G:h.Ns mainGlobals mg):∀ {l:List (Str × Addr)},tZ K l→∀ y∈l,mg y.1=some (.ref y.2)
 |(x,C)::t,H,y,hy=>by
  rcases List.mem_cons.mp hy with rfl|hy
  ·exact PySem.W.mg_of X G H.1
  ·exact jS X G H.2 y hy
theorem mU (X:K.In h)(G:h.Ns mainGlobals mg):∀ {l:List (Str × Int)},n6 K l→∀ y∈l,∃ k,mg y.1=some (.int y.2 k)
 |(x,C)::t,H,y,hy=>by
  rcases List.mem_cons.mp hy with rfl|hy
  ·obtain⟨k,e⟩:=H.1
   exact⟨k,PySem.W.mg_of X G e⟩
  ·exact mU X G H.2 y hy
theorem JL {tab:List (Str × Nat × List Str)}{bl:List Str}{clt plt:List (Str × Addr)}{cs:List Value}{exl:List Addr}{cst:List (Str × Int)}{far:Addr}(B:BdF tp tab)(hp:∀ y∈plt,y∈clt)(hf:clt.lookup ("FarError" : Str)=some far)(X:K.In h)(G:h.Ns mainGlobals mg)
  (s:n9 K tp tab) (z:(bl.all fun x=>KL (PySem.W.nsIn K mainGlobals x))=true) (q:tZ K clt) (g:n6 K cst) (e1:exl.all (bW K)=true) (e2:r8 K=true) (e3:ZE K exl=true) (e4:K8 K cs far=true) (e5:K6 K (plt.map (·.2)) far=true) (e6:K7 K (clt.map (·.2))=true):TxS K mg tp tab bl clt plt cs exl cst where
 src:=tX X G tab s B
 nb:=fun {x} hx=>by
  have e:=List.all_eq_true.mp z x (by simpa using List.contains_iff_mem.mp hx)
  refine PySem.W.mg_none_of X G ?_
  revert e
  cases PySem.W.nsIn K mainGlobals x with
  |none=>intro e;cases e
  |some y=>cases y with
   |none=>intro _;rfl
   |some y=>intro e;cases e
 cl:=fun h=>⟨xZ (p:=fun x C=>mg x=some (.ref C)) (jS X G q) h,xZ (p:=fun _ C=>PySem.W.keepIn K (.ref C)=true) (fun y hy=>List.all_eq_true.mp e6 y.2 (List.mem_map_of_mem hy)) h⟩
 rz:=fun h=>⟨far,xZ (p:=fun x C=>mg x=some (.ref C)) (fun y hy=>jS X G q y (hp y hy)) h,xZ (p:=fun _ C=>kH K C far=true) (fun y hy=>List.all_eq_true.mp e5 y.2 (List.mem_map_of_mem hy)) h⟩
 ct:=⟨far,xZ (p:=fun x C=>mg x=some (.ref C)) (jS X G q) hf,fun v hv=>of_decide_eq_true (List.all_eq_true.mp e4 v hv)⟩
 cls:=ZH e1 e2 e3
 gi:=fun h=>xZ (p:=fun x v=>∃ k,mg x=some (.int v k)) (mU X G g) h
end
end _D
end
section
namespace _D
open PySem PySem.Spec PyProof.Rows _L
structure LamT where
 qual:Str
 params:Arguments
 body:Expr
 scope:Scope
def zY (sc:Scope):List Str:=sc.names.filterMap fun y=>if y.2 == .free then some y.1 else none
inductive CloAt (h:Heap)(H:Hp)(fs:List Addr)(L:LamT)(a:Addr)(cv:List V):Prop
 |mk (cl:List (Str × Addr)) (pm ctv:Value) (c:Addr) (oc:Obj) (ws:Array Value) (t:Tok) (o:h.get? a=some (PySem.W.kla_obj "<lambda>" L.qual L.params L.body L.scope cl pm c ctv)) (hc:H c=some (.frz oc (.frz oc (.own 0)))) (hd:oc.data=.fields ws) (ht:ws[1]? = some (.str L.qual t))
  (inj:∀ x y d,cl.lookup x=some d→cl.lookup y=some d→x=y) (cel:∀ x d,cl.lookup x=some d→H d=none∧∃ v,h.IsCell d v) (has:∀ x,L.scope.names.lookup x=some .free→∃ d,cl.lookup x=some d)
  (len:cv.length=(zY L.scope).length) (val:∀ (j:Nat) x v,(zY L.scope)[j]? = some x→cv[j]? = some v→∃ d u,cl.lookup x=some d∧qK v u∧h.IsCell d (some u)) (hn:H a=none) (hf:a ∉ fs):CloAt h H fs L a cv
theorem CloAt.at {X:Cx}{pins:List (Addr × Obj)}{σ : _L.St}{H:Hp}{s:Shared}{L:LamT}{a:Addr}{cv:List V}(C:CloAt X.s₀.heap X.H₀ X.fs L a cv)(F:Fn1 X)(I:Inv X pins σ H s):CloAt s.heap H (frs X.stack) L a cv:=by
 obtain⟨cl,pm,ctv,c,oc,ws,t,o,hc,hd,ht,inj,cel,has,len,val,hn,hf⟩:=C
 have nx:∀ b,b ∉ X.ex:=fun b=>by rw[F.1];simp
 have nf:∀ b o,X.s₀.heap.get? b=some o→b ∉ X.fs→b ∉ frs X.stack:=fun b o e n z=>(F.mem.mp z).elim (Nat.ne_of_lt (Nat.lt_of_lt_of_le (Heap.lt_size e) I.ok.above)) n
 have kc:∀ d v,X.H₀ d=none→X.s₀.heap.IsCell d v→s.heap.IsCell d v:=fun d v h1 ⟨o,e,q⟩=>let ⟨_,z⟩:=I.base.any e h1 (nx d);⟨_,z,q⟩
 refine⟨cl,pm,ctv,c,oc,ws,t,I.base.keep a _ o hn hf (nx a),I.base.frzs _ _ _ hc,hd,ht,inj,fun x d e=>?_,has,len,fun j x v e1 e2=>?_,I.base.free a _ o hn (nx a),nf a _ o hf⟩
 ·obtain⟨h1,v,h3⟩:=cel x d e
  obtain⟨ob,e3,q⟩:=id h3
  exact⟨I.base.free d ob e3 h1 (nx d),v,kc d v h1 h3⟩
 ·obtain⟨d,u,q1,q2,q3⟩:=val j x v e1 e2
  exact⟨d,u,q1,q2,kc d _ (cel x d q1).1 q3⟩
def nV (cm:Bool)(P:Program)(w:World)(K:PySem.W.Frag)(mg:Str→Option Value)(base:Heap)(N:List Str)(L:LamT)(cl:List (Str × Addr))(f:Addr)(cd:Value)(A:Around)(outer:List Env)(s:Shared)(H:Hp)(E:XK):Cx where
 prog:=P
 w:=w
 K:=K
 mg:=mg
 base:=base
 A:=A.deeper (PySem.W.envX L.qual L.scope s.heap.objs.size f cd cl)
 N:=N
 s₀:=s
 H₀:=H
 env:=PySem.W.envX L.qual L.scope s.heap.objs.size f cd cl
 outer:=outer
 stack:=PySem.W.envX L.qual L.scope s.heap.objs.size f cd cl::outer
 ex:=[]
 calm:=cm
 fn:=fun _=>false
 pn:=[]
 xe:=xeL P w A (PySem.W.envX L.qual L.scope s.heap.objs.size f cd cl) outer H s E
structure LamSc (L:LamT)(ps:List Str):Prop where
 kind:L.scope.kind=.function
 co:L.scope.isCoroutine=false
 gen:L.scope.isGenerator=false
 nocell:∀ y∈L.scope.names,y.2≠.cell
 par:∀ x∈ps,L.scope.names.lookup x=some .local
 one:ps.length≤1
 fr:∀ x∈zY L.scope,L.scope.names.lookup x=some .free
def kD (P:Program)(w:World)(K:PySem.W.Frag)(mg:Str→Option Value)(base:Heap)(cm:Bool)(k:Nat)(L:LamT)(n:Nat)(G:List D→DF):Prop:=
 ∀ (A:Around) (outer:List Env) (s:Shared) (H:Hp) (us:List Value) (ws cv:List V) (a:Addr) (P':Hp) (α : List Addr) (S:Sto) (caps ds:List D) (Q:VK) (E:XK),RoomC cm k A→Env0 P w K mg base A outer s H→CloAt s.heap H (frs outer) L a cv→Rel K H P' α S →
  qE K P' α caps cv→qE K P' α ds ws→qL ws us→ds.length=n→spR K P' α (G caps ds S) Q E→codeAny (model P w) A (.call (.ref a) ⟨us,[]⟩) (CR (CXd P w) outer P w H s Q E) s
section
variable {P:Program}{w:World}{K:PySem.W.Frag}{mg:Str→Option Value}{base:Heap}{cm:Bool}{L:LamT}{ps:List Str}
theorem iT {cl:List (Str × Addr)}{f:Addr}{cd:Value}{A:Around}{outer:List Env}{s:Shared}{H:Hp}{E:XK}{us:List Value}{ws cv:List V}{h':Heap}{tk:Nat}(S:LamSc L ps)(hd:cm=true→A.handled=none)(e0:Env0 P w K mg base A outer s H)
  (inj:∀ x y d,cl.lookup x=some d→cl.lookup y=some d→x=y) (cel:∀ x d,cl.lookup x=some d→H d=none∧∃ v,s.heap.IsCell d v) (has:∀ x,L.scope.names.lookup x=some .free→∃ d,cl.lookup x=some d)
  (len:cv.length=(zY L.scope).length) (val:∀ (j:Nat) x v,(zY L.scope)[j]? = some x→cv[j]? = some v→∃ d u,cl.lookup x=some d∧qK v u∧s.heap.IsCell d (some u)) (hl:ws.length=ps.length) (r:qL ws us)
  (hns:h'.Ns s.heap.objs.size fun y=>(ps.zip us).reverse.lookup y) (hk:∀ b o,s.heap.get? b=some o→h'.get? b=some o) :
  Inv (nV cm P w K mg base (ps++zY L.scope) L cl f cd A outer s H E) [] ((ws++cv).map some) H { s with heap:=h',toks:=tk }:=by
 have kc:∀ d v,s.heap.IsCell d v→h'.IsCell d v:=fun d v ⟨o,e,q⟩=>⟨o,hk d o e,q⟩
 have no:∀ b:Addr,b ∉ ([]:List Addr):=fun b=>by simp
 refine⟨⟨e0.mod,S.kind,rfl,rfl,Nat.le_refl _,inj,fun y hy=>?_,(fun y c z=>nomatch z),hd,Around.frames_deeper e0.frames,.inr ⟨rfl,rfl⟩,fun b z=>absurd z (no b),e0.bs,e0.bsz,fun b _ _=>no b,fun b z=>absurd z (no b),e0.funs,e0.frf⟩,
  rfl,e0.bare,Un.kept hk,⟨_,hns,fun i y v h1 h2 h3=>?_⟩,fun y c h=>?_,e0.hok.fresh (Nat.le_refl _),fun y c h=>(cel y c h).1,fun p hp=>absurd (show p∈([]:List (Addr × Obj)) from hp) (by simp),e0.hok.kept hk,?_⟩
 ·rcases hy with hy|hy
  ·exact absurd rfl (S.nocell _ (PySem.mem_of_lookup hy))
  ·exact has y hy
 ·have h1:(ps++zY L.scope)[i]? = some y:=h1
  rw[List.getElem?_map] at h2
  obtain⟨v',h2,e⟩:=Option.map_eq_some_iff.mp h2
  cases e
  by_cases hi:i<ps.length
  ·rw[List.getElem?_append_left hi] at h1
   rw[List.getElem?_append_left (by rw[hl];exact hi)] at h2
   obtain⟨u,hu,rv⟩:=r.get h2
   refine⟨u,rv,.inl ⟨S.par y (List.mem_of_getElem? h1),?_⟩⟩
   have one:=S.one
   cases ps with
   |nil=>cases h1
   |cons p t =>
    cases t with
    |cons _ _=>simp at one
    |nil =>
     have i0:i=0:=by simpa using hi
     subst i0
     cases us with
     |nil=>cases hu
     |cons u' us =>
      cases h1;cases hu
      simp
  ·rw[List.getElem?_append_right (Nat.le_of_not_lt hi)] at h1
   rw[List.getElem?_append_right (by rw[hl];exact Nat.le_of_not_lt hi),hl] at h2
   obtain⟨d,u,q1,q2,q3⟩:=val _ y v h1 h2
   exact⟨u,q2,.inr ⟨.inr (S.fr y (List.mem_of_getElem? h1)),d,q1,kc d _ q3⟩⟩
 ·obtain⟨_,v,q⟩:=cel y c h
  exact⟨v,kc c v q⟩
 ·show _=(ps++zY L.scope).length
  simp[hl,len]
theorem dE {k:Nat}{fe:DE}(S:LamSc L ps)(hb:∀ (cl:List (Str × Addr)) (pm cdv ctv:Value) (us:List Value),us.length=ps.length→bindArgs (PySem.W.kla_fn "<lambda>" L.qual L.params L.body L.scope cl pm cdv ctv) ⟨us,[]⟩=pure (ps.zip us))
  (hbody:∀ (cl:List (Str × Addr)) (f:Addr) (cd:Value) (A:Around) (outer:List Env) (s:Shared) (H:Hp) (E:XK),RoomC cm k (A.deeper (PySem.W.envX L.qual L.scope s.heap.objs.size f cd cl)) →
   QE (nV cm P w K mg base (ps++zY L.scope) L cl f cd A outer s H E) L.body fe):kD P w K mg base cm (k+1) L ps.length fun caps ds S=>fe ((ds++caps).map some) S:=by
 intro A outer s H us ws cv a P' α St caps ds Q E hr e0 C r rc rd rv hn af
 obtain⟨cl,pm,ctv,c,oc,vs,t,o,hc,hd,ht,inj,cel,has,len,val,hna,hf⟩:=C
 have af:spR K P' α (fe ((ds++caps).map some) St) Q E:=af
 have lim:s.heap.NoLimit:=e0.mod.nolimit.keeps fun b o e=>(e0.bs b o e).1
 have hul:us.length=ps.length:=by rw[← rv.length,← rd.length];exact hn
 have hloc:∀ y∈ps.zip us,L.scope.names.lookup y.1=some .local:=fun y hy=>S.par _ (List.of_mem_zip hy).1
 refine PySem.W.kla_callFunE hr.depth o rfl S.co S.gen rfl ⟨c,oc,vs,t,rfl,(e0.hok c _ hc).1,hd,ht⟩ ?_
 rw[hb cl pm (.ref c) ctv us hul]
 refine wpAny_pure (wpAny_newFunctionEnv S.nocell hloc (fun h₁ hns hsb=>?_) S.kind)
 have hk₁:∀ b o,s.heap.get? b=some o→h₁.get? b=some o:=fun b o e=>hsb.extBut b o (Nat.ne_of_lt (Heap.lt_size e)) (Heap.get?_push_of_some _ e)
 refine⟨lim.keeps hk₁,?_⟩
 show codeAny _ _ (.expr L.body (PySem.W.envX L.qual L.scope s.heap.objs.size a (.ref c) cl)) _ _
 have I:=iT (cm:=cm) (f:=a) (cd:=.ref c) (E:=E) (tk:=s.toks+(ps.zip us).length) S hr.hd e0 inj cel has len val (by rw[← rd.length];exact hn) rv hns hk₁
 have re:qS K P' α ((ws++cv).map some) ((ds++caps).map some):=by
  have z:=rd.append rc
  refine⟨by simp[z.length,rd.length,rc.length],fun i d e=>?_⟩
  rw[List.getElem?_map] at e
  obtain⟨d',e1,e2⟩:=Option.map_eq_some_iff.mp e
  cases e2
  obtain⟨v,h1,h2⟩:=z.get e1
  exact⟨v,by rw[List.getElem?_map,h1];rfl,h2⟩
 refine PySem.W.kla_codeExpr (wpAny_mono ((hbody cl a (.ref c) A outer s H E (hr.deeper _)).1 [] _ _ H Q I ⟨P',α,_,St,r,re,?_⟩) (fun u s' q=>?_) fun _ _ y=>y)
 ·cases z:fe ((ds++caps).map some) St with
  |ok d S'=>rw[z] at af;exact af
  |ex e x S'=>rw[z] at af;exact fun u s' q=>bY (A:=A) rfl q fun H' P1 α1 r1 e1 e2=>af H' P1 α1 r1 e1 e2
  |bad=>rw[z] at af;exact False.elim af
 ·obtain⟨v,H',I',rv',q⟩:=q
  exact⟨v,H',I'.os,I'.bare,I'.base,I'.hok,rv',q⟩
end
open Classical in
noncomputable def wU (i:Nat)(fa:DA)(a:Addr)(cv:List V)(n:Nat)(G:List D→DF):DE:=fun env S=>match env[i]? with
 |some (some (.clo b vs caps))=>if b=a∧vs=cv then (fa env S).bind fun ds S1=>if ds.length=n then G caps ds S1 else .bad else .bad
 |_=>.bad
section
variable {X:Cx}{cm:Bool}{k n i:Nat}{x:Str}{p pos:Pos}{e:Expr}{es:List Expr}{fa:DA}{L:LamT}{G:List D→DF}{a:Addr}{cv:List V}
set_option tactic.hygienic true in
theorem mR {env:qD}{S:Sto}{P:Hp}{α : List Addr}{Ok:D→Sto→Prop}(h:qH X P α (wU i fa a cv n G env S) Ok):∃ caps,env[i]? = some (some (.clo a cv caps))∧qH X P α ((fa env S).bind fun ds S1=>if ds.length=n then G caps ds S1 else .bad) Ok:=by
 unfold wU at h
 split at h
 ·rename_i b vs caps e
  obtain⟨⟨rfl,rfl⟩,h1⟩:=xG h
  exact⟨caps,e,h1⟩
 ·exact False.elim h
theorem rS {h:Heap}{H:Hp}{fs:List Addr}(C:CloAt h H fs L a cv):PySem.W.FnAt a h:=by
 obtain⟨cl,pm,ctv,c,oc,ws,t,o,_⟩:=C
 exact⟨_,_,_,_,o⟩
theorem mS {pins:List (Addr × Obj)}{σ : _L.St}{H P:Hp}{α : List Addr}{s:Shared}{Q:VK}{us:List Value}{ws:List V}{caps ds:List D}{S:Sto}(LX:kD X.prog X.w X.K X.mg X.base cm k L n G)(hr:RoomC cm k X.A)(F:Fn1 X)(C:CloAt X.s₀.heap X.H₀ X.fs L a cv)
  (I:Inv X pins σ H s) (r:Rel X.K H P α S) (rc:qE X.K P α caps cv) (rp:qE X.K P α ds ws) (rv:qL ws us) (af:qR X P α (if ds.length=n then G caps ds S else .bad) Q):wpAny (model X.prog X.w) X.A (call (.ref a) us) (EP X pins σ Q) X.xe s:=by
 obtain⟨hn,af⟩:=xG af
 exact kG (fun _=>F) I af (LX X.A X.stack s H us ws cv a P α S caps ds Q _ hr I.env0 (C.at F I) r rc rp rv hn (m7 af))
theorem dF {pins:List (Addr × Obj)}{σ : _L.St}{H P:Hp}{α : List Addr}{env:qD}{s:Shared}{caps:List D}{Q:Value→Shared→Prop}(hN:X.N[i]? = some x)(hv:Vis X.env.scope x)(hd:(x == ("__debug__" : Str))=false)(hcd:(x == ("__classdict__" : Str))=false)
  (I:Inv X pins σ H s) (re:qS X.K P α σ env) (he:env[i]? = some (some (.clo a cv caps))) (h:∀ s1,Inv X pins σ H s1→qE X.K P α caps cv→Q (.ref a) s1):wpAny (model X.prog X.w) X.A (eval (.Name x p) X.env) Q X.xe s:=by
 obtain⟨v,e1,rp⟩:=re.2 i _ he
 simp only[Rep] at rp
 obtain⟨rfl,rc⟩:=rp
 refine thn (fR hN hv hd hcd pins s σ H (fun v H'=>v=.ref a∧H'=H) I ⟨_,e1,rfl,rfl⟩) fun u s1 ⟨v,H1,I1,rv,z1,z2⟩=>?_
 subst z1;subst z2
 cases (show u=Value.ref a from rv)
 exact h s1 I1 rc
theorem ZM (LX:kD X.prog X.w X.K X.mg X.base cm k L n G)(hr:RoomC cm k X.A)(F:Fn1 X)(C:CloAt X.s₀.heap X.H₀ X.fs L a cv)(hN:X.N[i]? = some x)(hv:Vis X.env.scope x)(hd:(x == ("__debug__" : Str))=false)(hcd:(x == ("__classdict__" : Str))=false)(ha:PA X (e::es) (tDA X fa))
  (he:starEach (e::es) X.env=(false,eval e X.env)::starEach es X.env:=by rfl) (hpl:(backTo pos (starEach es X.env)).any (·.1)=false:=by rfl):PE X (.Call (.Name x p) (e::es) [] pos) (tD X (wU i fa a cv n G)):=by
 intro pins s σ H Q I h
 obtain⟨P,α,env,S,r,re,af⟩:=h
 obtain⟨caps,e1,af⟩:=mR af
 refine wpAny_Call_Name_kw (dF hN hv hd hcd I re e1 fun s1 I1 rc=>?_)
 refine PySem.W.callWith_F (rS (C.at F I1)) (thn (xO ha I1 r re af pos) fun us s2 ⟨vs,H2,P2,α2,ds,S2,I2,rv,r2,re2,rp,q1,q2,af2⟩=>⟨rS (C.at F I2),?_⟩) he hpl
 exact mS LX hr F C I2 r2 (qE.mono q1 q2 _ _ rc) rp rv (qR.base q1 q2 af2)
theorem aW (LX:kD X.prog X.w X.K X.mg X.base cm k L n G)(hr:RoomC cm k X.A)(F:Fn1 X)(C:CloAt X.s₀.heap X.H₀ X.fs L a cv)(hN:X.N[i]? = some x)(hv:Vis X.env.scope x)(hd:(x == ("__debug__" : Str))=false)(hcd:(x == ("__classdict__" : Str))=false) :
  PE X (.Call (.Name x p) [] [] pos) (tD X (wU i qC a cv n G)):=by
 intro pins s σ H Q I h
 obtain⟨P,α,env,S,r,re,af⟩:=h
 obtain⟨caps,e1,af⟩:=mR af
 refine wpAny_Call_Name_kw (dF hN hv hd hcd I re e1 fun s1 I1 rc=>?_)
 exact PySem.W.callWith_F0 (rS (C.at F I1)) (mS (us:=[]) LX hr F C I1 r rc .nil .nil af)
end
end _D
end
section
namespace _D
open PySem PySem.Spec PyProof.Rows _L
theorem mM {i j:Nat}{c:Value}(l:List Value)(h:TriplesOk l):TriplesOk (l++[rawInt i,rawInt j,c]):=by
 fun_induction TriplesOk l with
 |case1=>simp[TriplesOk,rawInt]
 |case2 _ _ _ _ _ rest ih=>simp only[List.cons_append,TriplesOk];exact ih h
 |case3=>exact False.elim h
set_option tactic.hygienic true in
theorem lF {pos:Pos}{i j:Nat}{c v:Value}(l:List Value)(h:TriplesOk l)(e:codeAmong pos (l++[rawInt i,rawInt j,c])=some v):codeAmong pos l=some v∨v=c:=by
 fun_induction TriplesOk l with
 |case1 =>
  simp only[List.nil_append,codeAmong,rawInt] at e
  split at e
  ·exact .inr (Option.some.inj e).symm
  ·cases e
 |case2 _ _ _ _ _ rest ih =>
  simp only[List.cons_append,codeAmong] at e ⊢
  split at e
  ·rename_i hc;rw[if_pos hc];exact .inl e
  ·rename_i hc;rw[if_neg hc];exact ih h e
 |case3=>exact False.elim h
theorem MOk.at {K:PySem.W.Frag}{H H' P:Hp}{α : List Addr}{a:Addr}(e:H' a=H a):∀ {o:MO},MOk K H P α a o→MOk K H' P α a o
 |.dead,_=>trivial
 |.lst _,⟨vs,q,r⟩=>⟨vs,e.trans q,r⟩
 |.dct _,⟨vs,q,r⟩=>⟨vs,e.trans q,r⟩
 |.ins _ _,⟨dx,vs,q,r⟩=>⟨dx,vs,e.trans q,r⟩
section
variable {X:Cx}{pins:List (Addr × Obj)}{σ : _L.St}{H P:Hp}{α : List Addr}{s:Shared}{S:Sto}{y:Str}{c T:Addr}
theorem Rel.grown {ps:Array Value}{c':Addr}{oc:Obj}{ws:Array Value}{t:Tok}{i j:Nat}(r:Rel X.K H P α S)(m:Mod X.K X.mg X.base)(hy:y∈xJ)(ht:PySem.W.tabIn X.K y=some (c,T))(e:H T=some (.tbl ps))(pn:P T=none)(an:T ∉ α)(ok:TriplesOk ps.toList)
  (cd:∀ pos cv,codeAmong pos ps.toList=some cv→∃ c oc vs t,cv=.ref c∧H c=some (.frz oc (.frz oc (.own 0)))∧oc.data=.fields vs∧vs[1]? = some (.str (y ++ ".<locals>." ++ "<lambda>") t)) (hn:H c'=none) (hd:oc.data=.fields ws) (hs:ws[1]? = some (.str (y ++ ".<locals>." ++ "<lambda>") t)) :
  Rel X.K (upd (upd H T (.tbl (ps++#[rawInt i,rawInt j,.ref c']))) c' (.frz oc (.frz oc (.own 0)))) P α S:=by
 have ne:T≠c':=qO e hn
 have go:∀ b u,b≠T→H b=some u→upd (upd H T (.tbl (ps++#[rawInt i,rawInt j,.ref c']))) c' (.frz oc (.frz oc (.own 0))) b=some u:=fun b u h q=>by rw[qI (qO q hn),qI h];exact q
 have nT:∀ b∈α,b≠T:=fun b h z=>an (z▸h)
 have nc:∀ (k:Nat) b,α[k]? = some b→b≠c':=fun k b h z=>r.own k b h (z▸hn)
 have at':∀ (k:Nat) b,α[k]? = some b→upd (upd H T (.tbl (ps++#[rawInt i,rawInt j,.ref c']))) c' (.frz oc (.frz oc (.own 0))) b=H b:=fun k b h=>by rw[qI (nc k b h),qI (nT b (List.mem_of_getElem? h))]
 refine⟨fun x hx d U hU=>?_,fun b u q=>go b u (fun z=>by rw[z,pn] at q;cases q) (r.sub b u q),r.len,r.nd,r.sep,fun k b o h1 h2=>MOk.at (at' k b h1) (r.at' k b o h1 h2),fun k b h=>by rw[at' k b h];exact r.own k b h⟩
 by_cases hT:U=T
 ·subst hT
  cases m.inj x hx y hy d c U hU ht
  refine⟨_,by rw[qI ne];exact qV,pn,an,?_,fun pos cv q=>?_⟩
  ·rw[Array.toList_append];exact mM _ ok
  ·rw[Array.toList_append] at q
   rcases lF _ ok q with q|q
   ·obtain⟨d,od,vs,t,a1,a2,a3⟩:=cd pos cv q
    exact⟨d,od,vs,t,a1,go d _ (fun z=>by rw[z,e] at a2;cases a2) a2,a3⟩
   ·exact⟨c',oc,ws,t,q,qV,hd,hs⟩
 ·obtain⟨qs,e1,p1,a1,ok1,cd1⟩:=r.tb x hx d U hU
  exact⟨qs,go U _ hT e1,p1,a1,ok1,fun pos cv q=>let ⟨d,od,vs,t,b1,b2,b3⟩:=cd1 pos cv q;⟨d,od,vs,t,b1,go d _ (fun z=>by rw[z,e] at b2;cases b2) b2,b3⟩⟩
theorem Inv.pinned {a:Addr}{o:Obj}{h':Heap}{tk:Nat}{H':Hp}(I:Inv X pins σ H' { s with heap:=h'.push o,toks:=tk })(ha:a=h'.objs.size)(hs:s.heap.objs.size≤h'.objs.size)(I0:Inv X pins σ H s)(hn:H' a=none)(hd:∀ v,o.data≠.cell v)(hfr:o.isFreed=false:=by rfl):Inv X ((a,o)::pins) σ H' { s with heap:=h'.push o,toks:=tk }:=by
 refine I.pins_of fun p hp=>?_
 rcases List.mem_cons.mp hp with rfl|hp
 ·subst ha
  exact⟨Heap.get?_push_size _ hfr,hn,Nat.ne_of_gt (Nat.lt_of_lt_of_le I0.lt hs),I0.nofs hs,hd⟩
 ·exact I.pin p (List.mem_append_right _ hp)
theorem eC {M:Model}{params:Arguments}{body:Expr}{scope:Scope}{lpos:Pos}{cl:List (Str × Addr)}{Q:Value→Shared→Prop}{E:Value→Shared→Prop}(I:Inv X pins σ H s)(r:Rel X.K H P α S)(hy:y∈xJ)(ht:PySem.W.tabIn X.K y=some (c,T))(hc:X.env.code=.ref c)(hq:X.env.qual=y ++ ".<locals>.")
  (hdef:defaultsOf params X.env=([],[])) (hcl:closureFor scope X.env=pure cl)
  (h:∀ (a:Addr) (H':Hp) (s':Shared) (pm ctv:Value) (c':Addr) (oc:Obj) (ws:Array Value) (t:Tok),Inv X ((a,PySem.W.kla_obj "<lambda>" (y ++ ".<locals>." ++ "<lambda>") params body scope cl pm c' ctv)::pins) σ H' s'→Rel X.K H' P α S →
   H' c'=some (.frz oc (.frz oc (.own 0)))→oc.data=.fields ws→ws[1]? = some (.str (y ++ ".<locals>." ++ "<lambda>") t)→Q (.ref a) s'):wpAny M X.A (eval (.Lambda params body scope lpos) X.env) Q E s:=by
 obtain⟨ps,e,pn,an,ok,cd⟩:=r.tb y hy c T ht
 have hP:s.heap.get? T=some (PySem.W.tabObj ps):=I.hok T _ e
 have hC:PySem.W.CodeHd s.heap c T:=(I.mod.code y hy c T ht).keeps I.bk
 have hg:s.heap.Ns mainGlobals X.mg:=I.mod.glob.keeps I.bk
 have hgP:mainGlobals≠T:=fun z=>by
  obtain⟨o,es,ep,e1,d1,_⟩:=hg
  rw[z,hP] at e1;cases e1;cases d1
 have hb:s.heap.BuiltinsAt X.mg T:=by
  obtain⟨bm,o,b1,b2,b3,b4,b5,b6⟩:=I.mod.bm
  have b3':=I.bk _ _ b3
  refine⟨bm,o,b1,b2,fun z=>?_,fun z=>?_,b3',b4,b5,b6⟩
  ·obtain⟨o',es,ep,e1,d1,_⟩:=hg
   rw[← z,b3'] at e1;cases e1;rw[b6] at d1;cases d1
  ·rw[z,hP] at b3';cases b3';cases b4
 refine PySem.W.kla_eval hdef ?_
 rw[hq]
 cases hf:codeAmong lpos ps.toList with
 |none =>
  refine PySem.W.kla_makeFunction (mg:=X.mg) hcl I.ok.glob hg hc hC hP ok hf hgP hb fun c' ctv h' tk hx hge hlt hrec htb=>?_
  obtain⟨c2,oc,ws,t,z,hoc,hd,hs⟩:=hrec
  cases z
  have hn:H c'=none:=I.hok.fresh hge
  have ne:T≠c':=qO e hn
  have hsz:s.heap.objs.size≤h'.objs.size:=Nat.le_trans hge (Nat.le_of_lt hlt)
  let o:=PySem.W.kla_obj "<lambda>" (y ++ ".<locals>." ++ "<lambda>") params body scope cl ((X.mg "__name__").getD .none) c' ctv
  have kp:∀ b u,b≠T→s.heap.get? b=some u→(h'.push o).get? b=some u:=fun b u hb q=>Heap.get?_push_of_some _ (hx b u hb q)
  have eT:(h'.push o).get? T=some (PySem.W.tabObj (ps++#[rawInt lpos.line,rawInt lpos.col,.ref c'])):=Heap.get?_push_of_some _ htb
  let H2:=upd (upd H T (.tbl (ps++#[rawInt lpos.line,rawInt lpos.col,.ref c']))) c' (.frz oc (.frz oc (.own 0)))
  have go:∀ b u,b≠T→H b=some u→H2 b=some u:=fun b u h q=>by show upd _ _ _ b=_;rw[qI (qO q hn),qI h];exact q
  have go0:∀ b,b≠T→b≠c'→H b=none→H2 b=none:=fun b h h' q=>by show upd _ _ _ b=_;rw[qI h',qI h];exact q
  have nT:∀ b,H b=none→b≠T:=fun b q z=>by rw[z,e] at q;cases q
  have eH:H2 T=some (.tbl (ps++#[rawInt lpos.line,rawInt lpos.col,.ref c'])):=by show upd _ _ _ T=_;rw[qI ne];exact qV
  have un:Un X.fs [] H H2 s.heap (h'.push o):=by
   refine⟨fun b u q n _ _=>kp b u (nT b n) q,fun b u q n _ _=>⟨u.slots,kp b u (nT b n) q⟩,fun b u q n _=>go0 b (nT b n) (Nat.ne_of_lt (Nat.lt_of_lt_of_le (Heap.lt_size q) hge)) n,fun b u q _=>?_,fun b xs q=>go b _ (fun z=>by rw[z,e] at q;cases q) q,fun b u xs q=>go b _ (fun z=>by rw[z,e] at q;cases q) q,fun b qs q=>?_⟩
   ·by_cases hb:b=T
    ·rw[hb];exact⟨_,eT⟩
    ·exact⟨u,kp b u hb q⟩
   ·by_cases hb:b=T
    ·rw[hb,e] at q;cases q
     exact⟨_,by rw[hb];exact eH⟩
    ·exact⟨#[],by rw[go b _ hb q];simp⟩
  have hok:HOk X.prog X.w H2 (h'.push o):=fun b u q=>by
   by_cases hb:b=c'
   ·have q':some (HO.frz oc (.frz oc (.own 0)))=some u:=by rw[← q,hb];exact qV.symm
    cases q'
    have z:(h'.push o).get? b=some oc:=by rw[hb];exact Heap.get?_push_of_some _ hoc
    exact⟨z,z,_,z⟩
   ·by_cases hb2:b=T
    ·rw[hb2,eH] at q;cases q
     rw[hb2];exact eT
    ·have q':H b=some u:=by have q2:upd _ _ _ b=some u:=q;rw[qI hb,qI hb2] at q2;exact q2
     refine(I.hok b u q').stay (fun d v hd q=>kp d v ?_ q) (fun d q=>go d _ (fun z=>by rw[z,e] at q;cases q) q) fun d xs q=>go d _ (fun z=>by rw[z,e] at q;cases q) q
     rcases hd with z|z
     ·rw[z];exact hb2
     ·intro w;rw[w,e] at z;cases z
  have I2:=I.un (t':=tk) un hok
  refine h h'.objs.size H2 _ _ ctv c' oc ws t (Inv.pinned I2 rfl hsz I (go0 _ (fun z=>?_) (Nat.ne_of_gt hlt) (I.hok.fresh hsz)) fun v z=>by cases z) (r.grown I.mod hy ht e pn an ok cd hn hd hs) qV hd hs
  rw[← z] at e
  exact absurd (Nat.lt_of_lt_of_le (I.hok.lt e) hsz) (Nat.lt_irrefl _)
 |some cv =>
  obtain⟨c',oc,ws,t,rfl,a2,a3,a4⟩:=cd lpos cv hf
  refine PySem.W.kla_makeFunctionHit (mg:=X.mg) hcl I.ok.glob hg hc hC hP ok hf hb fun ctv h' tk hk hsz=>?_
  have I2:=I.kept (t':=tk) (h':=h'.push (PySem.W.kla_obj "<lambda>" (y ++ ".<locals>." ++ "<lambda>") params body scope cl ((X.mg "__name__").getD .none) c' ctv)) fun b u q=>Heap.get?_push_of_some _ (hk b u q)
  exact h h'.objs.size H _ _ ctv c' oc ws t (Inv.pinned I2 rfl hsz I (I.hok.fresh hsz) fun v z=>by cases z) r a2 a3 a4
end
end _D
end
section
namespace _D
open PySem PySem.Spec PyProof.Rows _L
def j8:List Nat→qD→Option (List D)
 |[],_=>some []
 |i::r,env=>match env[i]? with
  |some (some d)=>(j8 r env).map (d::·)
  |_=>none
set_option tactic.hygienic true in
theorem mP {K:PySem.W.Frag}{P:Hp}{α : List Addr}{σ : _L.St}{env:qD}(re:qS K P α σ env):∀ (cap:List Nat) (caps:List D),j8 cap env=some caps→∃ cv,qE K P α caps cv∧cv.length=cap.length∧∀ (j i:Nat) v,cap[j]? = some i→cv[j]? = some v→σ[i]? = some (some v)
 |[],caps,h=>by cases h;exact⟨[],.nil,rfl,fun j i v e=>by simp at e⟩
 |i::r,caps,h=>by
  unfold j8 at h
  split at h
  ·rename_i d e
   obtain⟨ds,h1,rfl⟩:=Option.map_eq_some_iff.mp h
   obtain⟨cv,a1,a2,a3⟩:=mP re r ds h1
   obtain⟨v,b1,b2⟩:=re.2 i d e
   refine⟨v::cv,.cons b2 a1,by simp[a2],fun j k w e1 e2=>?_⟩
   cases j with
   |zero=>cases e1;cases e2;exact b1
   |succ j=>exact a3 j k w (by simpa using e1) (by simpa using e2)
  ·cases h
open Classical in
noncomputable def uni (f:Addr→List V→Res D):Res D:=if ∀ a cv,f a cv=f 0 [] then f 0 [] else .bad
theorem sQ {f:Addr→List V→Res D}{R:Res D}(h:∀ a cv,f a cv=R):uni f=R:=by
 unfold uni
 rw[if_pos fun a cv=>(h a cv).trans (h 0 []).symm]
 exact h 0 []
set_option tactic.hygienic true in
theorem VC {f:Addr→List V→Res D}(h:uni f≠.bad)(a:Addr)(cv:List V):f a cv=uni f:=by
 unfold uni at h ⊢
 split at h
 ·rename_i z;rw[if_pos z];exact z a cv
 ·exact absurd rfl h
def exO (nx:Bool)(R:Res D):Res D:=match nx,R with
 |true,.ex _ _ _=>.bad
 |_,R=>R
noncomputable def x6 (nx:Bool)(cap:List Nat)(n N:Nat)(fa:DA)(g:Addr→List V→DS):DE:=fun env S=>match j8 cap env with
 |none=>.bad
 |some caps=>(fa env S).bind fun ds S1=>if ds.length+1=n then exO nx (uni fun a cv=>qQ N (g a cv) (.clo a cv caps::ds) S1) else .bad
def QR (P:Program)(w:World)(K:PySem.W.Frag)(mg:Str→Option Value)(base:Heap)(cm:Bool)(k kl m:Nat)(x:Str)(n N:Nat)(g:(List D→DF)→Addr→List V→DS):Prop:=
 ∃ f fd st Ns ps,ps.length=n∧Ns.length=N∧mg x=some (.ref f)∧Fun K x x st f fd∧yF K fd ps [] ∧ FnScope Ns ps (qF st)∧∀ (L:LamT) (G:List D→DF) (a:Addr) (cv:List V),kD P w K mg base cm kl L m G →
  ∀ (cdv:Value) (A:Around) (outer:List Env) (s:Shared) (H:Hp) (E:XK),CloAt s.heap H (frs outer) L a cv→RoomC cm k (A.deeper (envOfC x (qF st) s.heap.objs.size f cdv))→QB (cxC cm P w K mg base Ns x (qF st) f cdv A outer s H E) (zB st) (g G a cv)
def uS (scX:Scope)(NX:List Str)(sc:Scope)(cap:List Nat):Bool:=decide ((zY sc).length=cap.length)&&(cap.zip (zY sc)).all fun p=>NX[p.1]? == some p.2&&(scX.names.lookup p.2 == some .cell||scX.names.lookup p.2 == some .free)
section
variable {X:Cx}{pins:List (Addr × Obj)}{σ : _L.St}{H P:Hp}{α : List Addr}{s:Shared}{S:Sto}{y x:Str}{c T:Addr}{params:Arguments}{body:Expr}{scope:Scope}{lpos p pos:Pos}{es:List Expr}{fa:DA}{nx cm:Bool}{k kl m n N:Nat}{cap:List Nat}{G:List D→DF}{g:(List D→DF)→Addr→List V→DS}
theorem XH {R:Res D}{Ok:D→Sto→Prop}(h:qH X P α (exO nx R) Ok):R≠.bad∧qH X P α R Ok∧((∃ c x S',R=.ex c x S')→nx=false):=by
 cases R with
 |ok d S'=>exact⟨nofun,by cases nx <;> exact h,fun ⟨_,_,_,z⟩=>nomatch z⟩
 |bad=>cases nx <;> exact False.elim h
 |ex c x S' =>
  cases nx with
  |true=>exact False.elim h
  |false=>exact⟨nofun,h,fun _=>rfl⟩
theorem Rel.know {K:PySem.W.Frag}{c':Addr}{oc:Obj}(r:Rel K H P α S)(h:H c'=some (.frz oc (.frz oc (.own 0)))):Rel K H (upd P c' (.frz oc (.frz oc (.own 0)))) α S∧qG P (upd P c' (.frz oc (.frz oc (.own 0)))):=by
 have sP:qG P (upd P c' (.frz oc (.frz oc (.own 0)))):=fun b u q=>by
  by_cases hb:b=c'
  ·have z:=r.sub b u q
   rw[hb,h] at z;cases z
   rw[hb];exact qV
  ·rw[qI hb];exact q
 refine⟨⟨fun x hx d T hT=>let ⟨ps,e,pn,an,ok,cd⟩:=r.tb x hx d T hT;⟨ps,e,(qI fun (z:T=c')=>by rw[z,h] at e;cases e).trans pn,an,ok,cd⟩,fun b u q=>?_,r.len,r.nd,fun i a o h1 h2 h3=>?_,fun i a o h1 h2=>(r.at' i a o h1 h2).mono sP (List.prefix_refl _),r.own⟩,sP⟩
 ·by_cases hb:b=c'
  ·rw[hb,qV] at q;cases q;rw[hb];exact h
  ·rw[qI hb] at q;exact r.sub b u q
 ·have hb:a≠c':=by
   rintro rfl
   have z:=r.at' i a o h1 h2
   cases o with
   |dead=>exact h3 rfl
   |lst ds=>obtain⟨vs,z,_⟩:=z;rw[h] at z;cases z
   |dct kvs=>obtain⟨vs,z,_⟩:=z;rw[h] at z;cases z
   |ins C fs=>obtain⟨dx,vs,z,_⟩:=z;rw[h] at z;cases z
  rw[qI hb];exact r.sep i a o h1 h2 h3
theorem pY {sc:Scope}{z:Str × NameKind}(h:z∈sc.names)(hk:z.2=.free):z.1∈zY sc:=List.mem_filterMap.mpr ⟨z,h,by rw[hk];rfl⟩
set_option tactic.hygienic true in
theorem eO {sc:Scope}{z:Str}(h:z∈zY sc):(z,NameKind.free)∈sc.names:=by
 obtain⟨⟨n,k⟩,h1,h2⟩:=List.mem_filterMap.mp h
 split at h2
 ·rename_i e
  have:k=NameKind.free:=by simpa using e
  cases h2;subst this;exact h1
 ·cases h2
theorem pC (hB:uS X.env.scope X.N scope cap=true){j:Nat}{z:Str}(h:(zY scope)[j]? = some z):∃ i,cap[j]? = some i∧X.N[i]? = some z∧(X.env.scope.names.lookup z=some .cell∨X.env.scope.names.lookup z=some .free):=by
 simp only[uS,Bool.and_eq_true,decide_eq_true_eq] at hB
 obtain⟨hl,ha⟩:=hB
 have hj:j<cap.length:=by rw[← hl];exact(List.getElem?_eq_some_iff.mp h).1
 have e:=List.getElem?_eq_getElem hj
 have hz:(cap[j],z)∈cap.zip (zY scope):=List.mem_iff_getElem?.mpr ⟨j,by rw[List.getElem?_zip_eq_some];exact⟨e,h⟩⟩
 have q:=List.all_eq_true.mp ha _ hz
 simp only[Bool.and_eq_true,Bool.or_eq_true,beq_iff_eq] at q
 exact⟨_,e,q.1,q.2⟩
theorem eB (hB:uS X.env.scope X.N scope cap=true)(ok:X.Ok):closureFor scope X.env=pure (xU X.env.cells scope.names []):=uZ fun z hz hk=>by
 obtain⟨j,hj⟩:=List.mem_iff_getElem?.mp (pY hz hk)
 obtain⟨i,_,_,q⟩:=pC hB hj
 exact ok.has z.1 q
theorem v7 (hB:uS X.env.scope X.N scope cap=true)(ok:X.Ok){z:Str}{d:Addr}(h:(xU X.env.cells scope.names []).lookup z=some d):X.env.cells.lookup z=some d:=by
 rcases vU _ _ h with h|⟨hm,hc⟩
 ·cases h
 ·obtain⟨j,hj⟩:=List.mem_iff_getElem?.mp (pY hm rfl)
  obtain⟨i,_,_,q⟩:=pC hB hj
  obtain⟨d',e⟩:=ok.has z q
  rw[e,Option.getD_some] at hc
  rw[e,hc]
theorem ZG {a c':Addr}{oc:Obj}{ws:Array Value}{t:Tok}{pm ctv:Value}{cv:List V}{H':Hp}{s':Shared}(hB:uS X.env.scope X.N scope cap=true)(I:Inv X ((a,PySem.W.kla_obj "<lambda>" (y ++ ".<locals>." ++ "<lambda>") params body scope (xU X.env.cells scope.names []) pm c' ctv)::pins) σ H' s')
  (hc:H' c'=some (.frz oc (.frz oc (.own 0)))) (hd:oc.data=.fields ws) (hs:ws[1]? = some (.str (y ++ ".<locals>." ++ "<lambda>") t)) (hl:cv.length=cap.length) (hv:∀ (j i:Nat) v,cap[j]? = some i→cv[j]? = some v→σ[i]? = some (some v)) :
  CloAt s'.heap H' (frs X.stack) ⟨y ++ ".<locals>." ++ "<lambda>",params,body,scope⟩ a cv:=by
 obtain⟨e1,n1,n2,n3,_⟩:=I.pin _ (List.mem_append_right _ (.head _))
 refine⟨_,pm,ctv,c',oc,ws,t,e1,hc,hd,hs,fun z z' d h1 h2=>I.ok.inj z z' d (v7 hB I.ok h1) (v7 hB I.ok h2),fun z d h=>⟨I.freeC z d (v7 hB I.ok h),I.cell z d (v7 hB I.ok h)⟩,fun z hz=>vK _ _ (.inl (PySem.mem_of_lookup hz)),?_,fun j z v h1 h2=>?_,n1,fun z=>?_⟩
 ·simp only[uS,Bool.and_eq_true,decide_eq_true_eq] at hB
  rw[hl,← hB.1]
 ·obtain⟨i,q1,q2,q3⟩:=pC hB h1
  obtain⟨m,hm,hlk⟩:=I.loc
  obtain⟨u,ru,lk⟩:=hlk i z v q2 (hv j i v q1 h2) (q3.elim (fun k=>.inr (.inl k)) fun k=>.inr (.inr k))
  rcases lk with⟨kl,_⟩|⟨_,d,hcl,hcell⟩
  ·have kl':X.env.scope.names.lookup z=some .local:=kl
   rcases q3 with k|k <;> (rw[kl'] at k;cases k)
  ·obtain⟨d',hd'⟩:=vK (cells:=X.env.cells) scope.names [] (.inl (eO (List.mem_of_getElem? h1)))
   have:=v7 hB I.ok hd'
   rw[hcl] at this;cases this
   exact⟨d,u,hd',ru,hcell⟩
 ·rcases List.mem_cons.mp (I.stkSub a z) with z|z
  ·exact n2 z
  ·exact n3 z
theorem f9 (D:QR X.prog X.w X.K X.mg X.base cm k kl m x n N g)(LX:kD X.prog X.w X.K X.mg X.base cm kl ⟨y ++ ".<locals>." ++ "<lambda>",params,body,scope⟩ m G)(hr:RoomC cm (k+1) X.A)(hF:nx=false→Fn1 X)(hg:Gl X x)(hdb:(x == ("__debug__" : Str))=false)
  (hy:y∈xJ) (ht:PySem.W.tabIn X.K y=some (c,T)) (hc:X.env.code=.ref c) (hq:X.env.qual=y ++ ".<locals>.") (hdef:defaultsOf params X.env=([],[])) (hB:uS X.env.scope X.N scope cap=true) (ha:PA X es (tDA X fa))
  (he:starEach (.Lambda params body scope lpos::es) X.env=(false,eval (.Lambda params body scope lpos) X.env)::starEach es X.env) (hpl:(backTo pos (starEach es X.env)).any (·.1)=false) :
  PE X (.Call (.Name x p) (.Lambda params body scope lpos::es) [] pos) (tD X (x6 nx cap n N fa (g G))):=by
 intro pins s σ H Q I h
 obtain⟨P,α,env,S,r,re,af⟩:=h
 obtain⟨f,fd,st,Ns,ps,hn,hN,hm,F,hb,hS,hbody⟩:=D
 subst hn;subst hN
 have af:qH X P α (match j8 cap env with
  |none=>.bad
  |some caps=>(fa env S).bind fun ds S1=>if ds.length+1=ps.length then exO nx (uni fun a cv=>qQ Ns.length (g G a cv) (.clo a cv caps::ds) S1) else .bad) (OkV X P α Q):=af
 cases hcap:j8 cap env with
 |none=>rw[hcap] at af;exact False.elim af
 |some caps =>
  rw[hcap] at af
  obtain⟨cv,rc,hcl,hv⟩:=mP re cap caps hcap
  refine wpAny_Call_Name_kw (yT I hg hm ?_ hdb)
  refine PySem.W.callWith_K (h₀:=X.base) I.ok.mod.kin F.kp ?_ he hpl
  rw[he]
  show wpAny _ _ (spliced ((false,eval (.Lambda params body scope lpos) X.env)::backTo pos (starEach es X.env))) _ _ s
  refine Calls.spliced_cons (eC I r hy ht hc hq hdef (eB hB I.ok) fun a H1 s1 pm ctv c' oc ws t I1 r1 hc' hd hs=>?_)
  obtain⟨rk,sk⟩:=Rel.know r1 hc'
  refine thn (xO ha I1 rk (re.mono sk (List.prefix_refl _)) (qR.base sk (List.prefix_refl _) af) pos) fun us s2 ⟨vs,H2,P2,α2,ds,S2,I2,rv,r2,re2,rp,q1,q2,af2⟩=>⟨I2.kIn,?_⟩
  obtain⟨hl,af3⟩:=xG af2
  obtain⟨nb,af4,nf⟩:=XH af3
  have e1:=VC nb a cv
  rw[← e1] at af4 nf
  have C:=ZG hB I2 (r2.sub _ _ (q1 _ _ qV)) hd hs hcl hv
  have I3:Inv X pins σ H2 s2:=I2.pins_of fun p hp=>I2.pin p (List.mem_append_right _ (List.mem_cons_of_mem _ hp))
  obtain⟨oc',od,kV,doc,pm',an,cdv,ct,osl,rfl,lk,hcd⟩:=F.ex
  have hz:(Value.ref a::us).length=ps.length:=by rw[← hl,rp.length,rv.length];rfl
  have hb':=hb s2 (.ref a::us) I2.kIn (by rw[List.append_nil];exact hz)
  rw[List.append_nil] at hb'
  have rc2:=qE.mono (sk.trans q1) q2 _ _ rc
  have af5:=qR.base q1 q2 af4
  have rv2:qL (V.ref a::vs) (Value.ref a::us):=.cons rfl rv
  exact kG (fun z=>hF (nf z)) I3 af5 (lX lk hcd hS (by rw[← hz];exact rv2.length) hr I3.env0 hb' rv2 (bQ (hbody _ G a cv LX cdv X.A X.stack s2 H2 _ C (hr.deeper _)).1 r2 (.cons (by simp only[Rep];exact⟨trivial,rc2⟩) rp) (m7 af5)))
end
end _D
end
section
namespace _D
open PySem PySem.Spec PyProof.Rows _L
section
variable {X:Cx}{pins:List (Addr × Obj)}{σ : _L.St}{H P:Hp}{α : List Addr}{s:Shared}{S:Sto}
def jT:DF:=fun ds S=>match ds with
 |[d,.tup [.ty b,.ty c]]=>if xB b=true∧xB c=true then match tyD d S with
   |some a=>.ok (.bl (z9 a b||z9 a c)) S
   |none=>.bad
  else .bad
 |_=>.bad
inductive KitAt (X:Cx)(u:Value)(t:Value)(h:Heap):Prop
 |mk (Hh:Heap→Prop) (Z:PySem.W.KitX X.K u t Hh) (p:Hh h) (ne:u≠.builtin "__main__.__loader__#opaque"):KitAt X u t h
theorem W3 {v:V}{u:Value}{d:D}{a:String}(I:Inv X pins σ H s)(r:Rel X.K H P α S)(q:qK v u)(p:Rep X.K P α d v)(ha:tyD d S=some a):KitAt X u (.type a) s.heap:=by
 cases a9 r p ha with
 |tup p' ws e sq ea =>
  subst e ea
  cases (show u=Value.ref p' from q)
  obtain⟨its,rv',⟨o,h1,h2,_⟩,_⟩:=I.tuple sq
  exact⟨_,PySem.W.kitx_tuple,⟨o,h1,h2⟩,fun z=>nomatch z⟩
 |lst p' ws e sq ea =>
  subst e ea
  cases (show u=Value.ref p' from q)
  obtain⟨its,rv',⟨o,_,h1,h2,_⟩,_⟩:=I.list sq
  exact⟨_,PySem.W.kitx_list,⟨o,h1,h2⟩,fun z=>nomatch z⟩
 |of ty =>
  cases ty with
  |non=>cases (show u=Value.none from q);exact⟨_,PySem.W.kitx_none,True.intro,fun z=>nomatch z⟩
  |bl y=>cases (show u=Value.bool y from q);exact⟨_,PySem.W.kitx_bool,True.intro,fun z=>nomatch z⟩
  |int i=>obtain⟨t,q⟩:=(show ∃ t,u=Value.int i t from q);cases q;exact⟨_,PySem.W.kitx_int,True.intro,fun z=>nomatch z⟩
  |str y=>obtain⟨t,q⟩:=(show ∃ t,u=Value.str y t from q);cases q;exact⟨_,PySem.W.kitx_str,True.intro,fun z=>nomatch z⟩
  |flt y=>cases d <;> first|(exact nn ha)|(simp only[Rep] at p;cases p;done)|(simp only[Rep] at p;obtain⟨_,p⟩:=p;cases p.1;done)|(simp only[Rep] at p;obtain⟨_,_,p⟩:=p;cases p.1;done)
  |@lst b xs ea =>
   cases (show u=Value.ref b from q)
   obtain⟨_,_,n,_,h1⟩:=(show qY X.prog X.w H s.heap b (.lst xs) from I.hok b _ ea)
   exact⟨_,PySem.W.kitx_list,⟨_,h1,rfl⟩,fun z=>nomatch z⟩
  |@frz b ob xs ea =>
   cases (show u=Value.ref b from q)
   obtain⟨_,_,_,n,_,h1⟩:=(show qY X.prog X.w H s.heap b (.frz ob (.lst xs)) from I.hok b _ ea)
   exact⟨_,PySem.W.kitx_list,⟨_,h1,rfl⟩,fun z=>nomatch z⟩
  |@tup b xs ea =>
   cases (show u=Value.ref b from q)
   obtain⟨_,_,_,p⟩:=(show qY X.prog X.w H s.heap b (.tup xs) from I.hok b _ ea)
   obtain⟨o,h1,h2,_⟩:=p
   exact⟨_,PySem.W.kitx_tuple,⟨o,h1,h2⟩,fun z=>nomatch z⟩
  |@dK b kvs ea =>
   cases (show u=Value.ref b from q)
   obtain⟨_,_,vs,_,p⟩:=(show qY X.prog X.w H s.heap b (.dK kvs) from I.hok b _ ea)
   obtain⟨o,es,ep,h1,h2,_⟩:=p
   exact⟨_,PySem.W.kitx_dict,⟨o,h1,h2.1⟩,fun z=>nomatch z⟩
  |@dT b kvs ea =>
   cases (show u=Value.ref b from q)
   obtain⟨_,_,xs,_,o,es,ep,h1,h2,_⟩:=(show qY X.prog X.w H s.heap b (.dT kvs) from I.hok b _ ea)
   exact⟨_,PySem.W.kitx_dict,⟨o,h1,h2.1⟩,fun z=>nomatch z⟩
set_option tactic.hygienic true in
theorem rW {ds:List D}{Ok:D→Sto→Prop}(h:qH X P α (jT ds S) Ok):∃ d b c a,ds=[d,.tup [.ty b,.ty c]]∧xB b=true∧xB c=true∧tyD d S=some a∧Ok (.bl (z9 a b||z9 a c)) S:=by
 unfold jT at h
 split at h
 ·rename_i d b c
  obtain⟨⟨h1,h2⟩,h⟩:=xG h
  split at h
  ·rename_i a ha
   exact⟨d,b,c,a,rfl,h1,h2,ha,h⟩
  ·exact False.elim h
 ·exact False.elim h
theorem aH:w8 X (.builtin "isinstance") jT:=by
 intro pins σ H s P α S vs us ds Q I r rv rp af
 obtain⟨d,b,c,a,rfl,hb,hc,ha,ok⟩:=rW af
 obtain⟨v,w,u,x,rfl,rfl,p,p',q,q'⟩:=vQ rp rv
 simp only[Rep] at p'
 obtain⟨tp,ws,rfl,sq,t⟩:=p'
 obtain⟨w1,ws1,rfl,z1,t⟩:=t.cons_inv
 obtain⟨w2,ws2,rfl,z2,t⟩:=t.cons_inv
 cases t.nil_inv
 simp only[Rep] at z1 z2
 subst z1 z2
 cases (show x=Value.ref tp from q')
 obtain⟨its,rvi,⟨o,h1,h2,n,h3⟩,_⟩:=I.tuple (xI r.sub sq)
 obtain⟨i1,i2,rfl,y1,y2⟩:=bM rvi
 cases (show i1=Value.type b from y1)
 cases (show i2=Value.type c from y2)
 obtain⟨Hh,Z,hp,ne⟩:=W3 I r q p ha
 obtain⟨oc,od,odt,osl⟩:=o
 cases h2
 cases h3
 have k1:=pB (K:=X.K) (mC ha) hb
 have k2:=pB (K:=X.K) (mC ha) hc
 refine PySem.W.kia_tup (its:=[.type b,.type c]) (b:=z9 a b||z9 a c) Z I.kIn hp h1 ?_ ne fun tk=>⟨.bl _,H,I.tok tk,rfl,xr ok r (by simp only[Rep])⟩
 cases z:z9 a b with
 |true=>rw[z] at k1;simp only[PySem.W.kitAny,k1];rfl
 |false =>
  rw[z] at k1
  cases z':z9 a c with
  |true=>rw[z'] at k2;simp only[PySem.W.kitAny,k1,k2];rfl
  |false=>rw[z'] at k2;simp only[PySem.W.kitAny,k1,k2];rfl
def uA:DF:=fun ds S=>match ds with
 |[.int a,.int b]=>if 0<b∧b<1073741824∧0≤a∧a<2 ^ 62 then .ok (.tup [.int (a/b),.int (a % b)]) S else .bad
 |_=>.bad
theorem lL:w8 X (.builtin "divmod") uA:=by
 intro pins σ H s P α S vs us ds Q I r rv rp af
 cases V9 ds with
 |no h=>exact(kW (X:=X) (r:=uA ds S) (h fun a b=>if 0<b∧b<1073741824∧0≤a∧a<2 ^ 62 then .ok (.tup [.int (a/b),.int (a % b)]) S else .bad) af).elim
 |of a b ed =>
  subst ed
  obtain⟨hb,ok⟩:=xG (show qH X P α (if 0<b∧b<1073741824∧0≤a∧a<2 ^ 62 then .ok (.tup [.int (a/b),.int (a % b)]) S else .bad) (OkV X P α Q) from af)
  obtain⟨v,w,u,x,rfl,rfl,p,p',q,q'⟩:=vQ rp rv
  cases zM p
  cases zM p'
  obtain⟨t,rfl⟩:=q
  obtain⟨t',rfl⟩:=q'
  have hf:H s.heap.objs.size=none:=I.hok.fresh (Nat.le_refl _)
  refine divmod_int (by omega) ?_ (.inl (PyProof.noPylong_small (by omega)))
  have e1:a.fdiv b=a/b:=Int.fdiv_eq_ediv_of_nonneg _ (by omega)
  have e2:a.fmod b=a % b:=Int.fmod_eq_emod_of_nonneg _ (by omega)
  rw[e1,e2]
  have I2:=I.laid (a:=s.heap.objs.size) (o:=.tup [.int (a/b),.int (a % b)]) (t':=s.toks+1+1) (fun b u e=>Heap.get?_push_of_some _ e) (Nat.le_refl _) (show qY X.prog X.w _ (s.heap.push { cls:=.type "tuple",data:=.seq #[.int (a/b) s.toks,.int (a % b) (s.toks+1)] }) _ (.tup [.int (a/b),.int (a % b)]) from
   ⟨by show 2≤sizeLine;decide,[.int (a/b) s.toks,.int (a % b) (s.toks+1)],.cons ⟨_,rfl⟩ (.cons ⟨_,rfl⟩ .nil),⟨_,Heap.get?_push_size _ rfl,rfl,_,rfl⟩⟩)
  obtain⟨r2,sP⟩:=r.pure (o:=.tup [.int (a/b),.int (a % b)]) hf
  exact⟨.ref _,_,I2,rfl,ok _ _ _ _ r2 sP (List.prefix_refl _) (by simp only[Rep];exact⟨_,_,rfl,.inl (.inl qV),.cons (by simp only[Rep]) (.cons (by simp only[Rep]) .nil)⟩)⟩
end
abbrev FnL:=List (Addr × Nat × DF)
def ZFn (X:Cx)(cm:Bool)(k:Nat)(Fs:FnL):Prop:=∀ q∈Fs,∃ x,X.mg x=some (.ref q.1)∧Def X.prog X.w X.K X.mg X.base cm k x q.2.1 q.2.2
def vV (i:Nat)(Fs:FnL)(fa:DA):DE:=fun env S=>match env[i]? with
 |some (some (.obj a))=>match Fs.lookup a with
  |some (n,F)=>(fa env S).bind fun ds S1=>if ds.length=n then F ds S1 else .bad
  |none=>.bad
 |_=>.bad
section
variable {X:Cx}{cm:Bool}{k i:Nat}{x:Str}{p pos:Pos}{e:Expr}{es:List Expr}{fa:DA}{Fs:FnL}
theorem dH {β : Type}{a:Addr}{b:β}:∀ {l:List (Addr × β)},l.lookup a=some b→(a,b)∈l
 |[],h=>by cases h
 |(c,d)::r,h=>by
  rw[List.lookup_cons] at h
  cases q:a == c with
  |true=>rw[q] at h;cases h;rw[eq_of_beq q];exact .head _
  |false=>rw[q] at h;exact .tail _ (dH h)
set_option tactic.hygienic true in
theorem iM {env:qD}{S:Sto}{P:Hp}{α : List Addr}{Ok:D→Sto→Prop}(h:qH X P α (vV i Fs fa env S) Ok):∃ a n F,env[i]? = some (some (.obj a))∧(a,n,F)∈Fs∧qH X P α ((fa env S).bind fun ds S1=>if ds.length=n then F ds S1 else .bad) Ok:=by
 unfold vV at h
 split at h
 ·rename_i a e
  split at h
  ·rename_i n F q
   exact⟨a,n,F,e,dH q,h⟩
  ·exact False.elim h
 ·exact False.elim h
theorem ZQ (Z:ZFn X cm k Fs)(hr:RoomC cm k X.A)(hF:Fn1 X)(hN:X.N[i]? = some x)(hv:Vis X.env.scope x)(hd:(x == ("__debug__" : Str))=false)(hcd:(x == ("__classdict__" : Str))=false)(ha:PA X (e::es) (tDA X fa))
  (he:starEach (e::es) X.env=(false,eval e X.env)::starEach es X.env:=by rfl) (hpl:(backTo pos (starEach es X.env)).any (·.1)=false:=by rfl):PE X (.Call (.Name x p) (e::es) [] pos) (tD X (vV i Fs fa)):=by
 intro pins s σ H Q I h
 obtain⟨P,α,env,S,r,re,af⟩:=h
 obtain⟨a,n,F,e1,hm,af⟩:=iM af
 obtain⟨y,hy,f,fd,ps,hn,hmf,hk,hb,hl,G⟩:=Z _ hm
 cases hy.symm.trans hmf
 obtain⟨v,e2,rp⟩:=re.2 i _ e1
 simp only[Rep] at rp
 obtain⟨rfl,kp⟩:=rp
 refine wpAny_Call_Name_kw (thn (fR hN hv hd hcd pins s σ H (fun v H'=>v=.ref a∧H'=H) I ⟨_,e2,rfl,rfl⟩) fun u s1 ⟨v,H1,I1,rv,z1,z2⟩=>?_)
 subst z1;subst z2
 cases (show u=Value.ref a from rv)
 refine PySem.W.callWith_K (h₀:=X.base) I.ok.mod.kin kp (thn (xO ha I1 r re af pos) fun us s2 ⟨vs,H2,P2,α2,ds,S2,I2,rv,r2,re2,rp,q1,q2,af2⟩=>⟨I2.kIn,?_⟩) he hpl
 obtain⟨hl,af3⟩:=xG af2
 exact tU G hr hb hF I2 r2 rv rp hl (qR.base q1 q2 af3)
end
end _D
end
section
namespace _D
open PySem PySem.Spec PyProof.Rows _L
def okV (X:Cx)(i:Nat)(x:Str):Bool:=decide (X.N[i]? = some x)&&(isV (X.env.scope.names.lookup x)&&okN x)
def uT (fe:DE):List D→DF:=fun caps ds S=>fe ((ds++caps).map some) S
def nW (sc:Scope)(ps:List Str):Bool:=decide (sc.kind=.function)&&(decide (sc.isCoroutine=false)&&(decide (sc.isGenerator=false)&&(decide (∀ y∈sc.names,y.2≠.cell)&&(decide (∀ x∈ps,sc.names.lookup x=some .local)&&decide (∀ x∈zY sc,sc.names.lookup x=some .free)))))
structure LmX (G:List D→DF)(P:Program)(w:World)(K:PySem.W.Frag)(mg:Str→Option Value)(base:Heap)(cm:Bool)(k:Nat)(L:LamT)(n:Nat):Prop where
 get:kD P w K mg base cm k L n G
structure DfL (g:(List D→DF)→Addr→List V→DS)(P:Program)(w:World)(K:PySem.W.Frag)(mg:Str→Option Value)(base:Heap)(cm:Bool)(k kl m:Nat)(x:Str)(n N:Nat):Prop where
 get:QR P w K mg base cm k kl m x n N g
structure ClA (X:Cx)(L:LamT)(a:Addr)(cv:List V):Prop where
 get:CloAt X.s₀.heap X.H₀ X.fs L a cv
structure ZF (X:Cx)(cm:Bool)(k:Nat)(Fs:FnL):Prop where
 get:ZFn X cm k Fs
structure LmK (X:Cx)(y:Str):Prop where
 get:y∈xJ∧uI X.K y X.env.code∧X.env.qual=y ++ ".<locals>." ∧ ∃ c T,PySem.W.tabIn X.K y=some (c,T)
section
variable {X:Cx}{cm nx:Bool}{k kl m n N i:Nat}{x y:Str}{p pos lpos:Pos}{e:Expr}{es:List Expr}{fA:DA}{fe:DE}{L:LamT}{G:List D→DF}{a:Addr}{cv:List V}{g:(List D→DF)→Addr→List V→DS}{Fs:FnL}{cap:List Nat}{params:Arguments}{body:Expr}{scope:Scope}
theorem fO (h:Ck (okV X i x)):X.N[i]? = some x∧Vis X.env.scope x∧(x == ("__debug__" : Str))=false∧(x == ("__classdict__" : Str))=false:=by
 unfold Ck okV at h
 simp only[Bool.and_eq_true,decide_eq_true_eq] at h
 exact⟨h.1,tB h.2.1,(uF h.2.2).1,(uF h.2.2).2.1⟩
theorem aK (LX:LmX G X.prog X.w X.K X.mg X.base cm k L n)(C:ClA X L a cv)(hr:RoomC cm k X.A)(F:Fn1 X)(h:Ck (okV X i x))(ha:QA X (e::es) fA)(s:St1 X e es pos):QE X (.Call (.Name x p) (e::es) [] pos) (wU i fA a cv n G):=
 have h:=fO h
 ⟨ZM LX.1 hr F C.1 h.1 h.2.1 h.2.2.1 h.2.2.2 ha.1 s.1 s.2⟩
theorem aK0 (LX:LmX G X.prog X.w X.K X.mg X.base cm k L n)(C:ClA X L a cv)(hr:RoomC cm k X.A)(F:Fn1 X)(h:Ck (okV X i x)):QE X (.Call (.Name x p) [] [] pos) (wU i qC a cv n G):=
 have h:=fO h
 ⟨aW LX.1 hr F C.1 h.1 h.2.1 h.2.2.1 h.2.2.2⟩
theorem aFv (hr:RoomC cm k X.A)(Z:ZF X cm k Fs)(F:Fn1 X)(h:Ck (okV X i x))(ha:QA X (e::es) fA)(s:St1 X e es pos):QE X (.Call (.Name x p) (e::es) [] pos) (vV i Fs fA):=
 have h:=fO h
 ⟨ZQ Z.1 hr F h.1 h.2.1 h.2.2.1 h.2.2.2 ha.1 s.1 s.2⟩
theorem QX:ZF X cm k []:=⟨fun q h=>by cases h⟩
theorem aFn {F:DF}{f:Addr}{j:Nat}(D:DfS F X.prog X.w X.K X.mg X.base cm j x n)(hj:j≤k)(hm:X.mg x=some (.ref f)∧PySem.W.keepIn X.K (.ref f)=true)(Z:ZF X cm k Fs):ZF X cm k ((f,n,F)::Fs):=⟨fun q h=>by
 rcases List.mem_cons.mp h with rfl|h
 ·exact⟨x,hm.1,D.1.mono hj⟩
 ·exact Z.1 q h⟩
theorem W8 {ps:List Str}{q:Str}(h:Ck (nW scope ps))(one:ps.length≤1):LamSc ⟨q,params,body,scope⟩ ps:=by
 unfold Ck at h
 simp only[nW,Bool.and_eq_true,decide_eq_true_eq] at h
 obtain⟨a,b,c,d,e,f⟩:=h
 exact⟨a,b,c,d,e,one,f⟩
theorem JZ (D:DfL g X.prog X.w X.K X.mg X.base cm k (kl+1) 0 x n N)(M:LmK X y)(hr:RoomC cm (k+1) X.A)(hF:nx=false→Fn1 X)(h:Ck (okG X x&&uS X.env.scope X.N scope cap))(hs:Ck (nW scope []))(hdef:defaultsOf params X.env=([],[]))
  (hb:∀ (q:Str) (b:Expr) (cl:List (Str × Addr)) (pm cdv ctv:Value),bindArgs (PySem.W.kla_fn "<lambda>" q params b scope cl pm cdv ctv) ⟨[],[]⟩ = pure [])
  (hbody:∀ (cl:List (Str × Addr)) (f:Addr) (cd:Value) (A:Around) (outer:List Env) (s:Shared) (H:Hp) (E:XK),RoomC cm kl (A.deeper (PySem.W.envX (y ++ ".<locals>." ++ "<lambda>") scope s.heap.objs.size f cd cl)) →
   QE (nV cm X.prog X.w X.K X.mg X.base ([] ++ zY scope) ⟨y ++ ".<locals>." ++ "<lambda>",params,body,scope⟩ cl f cd A outer s H E) body fe)
  (ha:QA X es fA) (s:St1 X (.Lambda params body scope lpos) es pos):QE X (.Call (.Name x p) (.Lambda params body scope lpos::es) [] pos) (x6 nx cap n N fA (g (uT fe))):=by
 unfold Ck at h
 rw[Bool.and_eq_true] at h
 obtain⟨m1,m2,m3,c,T,m4⟩:=M.1
 have hg:=xP h.1
 exact⟨f9 D.1 (dE (ps:=[]) (W8 hs (by decide)) (fun cl pm cdv ctv us hl=>by cases us with|nil=>exact hb _ _ _ _ _ _|cons _ _=>cases hl) hbody) hr hF hg.1 hg.2.1 m1 m4 (m2 c T m4) m3 hdef h.2 ha.1 s.1 s.2⟩
theorem K0 {z:Str}(D:DfL g X.prog X.w X.K X.mg X.base cm k (kl+1) 1 x n N)(M:LmK X y)(hr:RoomC cm (k+1) X.A)(hF:nx=false→Fn1 X)(h:Ck (okG X x&&uS X.env.scope X.N scope cap))(hs:Ck (nW scope [z]))(hdef:defaultsOf params X.env=([],[]))
  (hb:∀ (q:Str) (b:Expr) (cl:List (Str × Addr)) (pm cdv ctv u:Value),bindArgs (PySem.W.kla_fn "<lambda>" q params b scope cl pm cdv ctv) ⟨[u],[]⟩=pure [(z,u)])
  (hbody:∀ (cl:List (Str × Addr)) (f:Addr) (cd:Value) (A:Around) (outer:List Env) (s:Shared) (H:Hp) (E:XK),RoomC cm kl (A.deeper (PySem.W.envX (y ++ ".<locals>." ++ "<lambda>") scope s.heap.objs.size f cd cl)) →
   QE (nV cm X.prog X.w X.K X.mg X.base ([z]++zY scope) ⟨y ++ ".<locals>." ++ "<lambda>",params,body,scope⟩ cl f cd A outer s H E) body fe)
  (ha:QA X es fA) (s:St1 X (.Lambda params body scope lpos) es pos):QE X (.Call (.Name x p) (.Lambda params body scope lpos::es) [] pos) (x6 nx cap n N fA (g (uT fe))):=by
 unfold Ck at h
 rw[Bool.and_eq_true] at h
 obtain⟨m1,m2,m3,c,T,m4⟩:=M.1
 have hg:=xP h.1
 exact⟨f9 D.1 (dE (ps:=[z]) (W8 hs (by simp)) (fun cl pm cdv ctv us hl=>by cases us with|nil=>cases hl|cons u r=>cases r with|nil=>exact hb _ _ _ _ _ _ u|cons _ _=>cases hl) hbody) hr hF hg.1 hg.2.1 m1 m4 (m2 c T m4) m3 hdef h.2 ha.1 s.1 s.2⟩
theorem ClA.tr {E:Value→Shared→Prop}{pn:List (Addr × Obj)}(h:ClA X L a cv):ClA (Cx.tryIn X E pn) L a cv:=⟨h.1⟩
theorem lmK {ls:List Str}(h:(ls.all fun y=>(PySem.W.tabIn X.K y).isSome)=true)(hc:uI X.K y X.env.code)(hy:Ck (ls.contains y&&xJ.contains y))(hq:X.env.qual=y ++ ".<locals>."):LmK X y:=by
 unfold Ck at hy
 rw[Bool.and_eq_true] at hy
 obtain⟨⟨c,T⟩,e⟩:=Option.isSome_iff_exists.mp (List.all_eq_true.mp h y (by simpa using hy.1))
 exact⟨by simpa using hy.2,hc,hq,c,T,e⟩
theorem sT:ZCall X (.builtin "isinstance") jT:=⟨aH⟩
theorem cA:ZCall X (.builtin "divmod") uA:=⟨lL⟩
end
section
variable {P:Program}{w:World}{K:PySem.W.Frag}{mg:Str→Option Value}{base:Heap}{cm:Bool}{tp:Nat→Stmt}{tab:List (Str × Nat × List Str)}{bl:List Str}{clt plt:List (Str × Addr)}{cs:List Value}{exl:List Addr}{cst:List (Str × Int)}{x:Str}{i:Nat}{ps:List Str}{N:Nat}
theorem dqL {g:(List D→DF)→Addr→List V→DS}(P:Program)(w:World)(base:Heap)(k kl m j:Nat)(T:TxS K mg tp tab bl clt plt cs exl cst)(hj:tab[j]? = some (x,i,ps))(h:Ck (fnB (vY (qF (tp i))) ps (qF (tp i))&&decide ((vY (qF (tp i))).length=N)))
  (hb:∀ (L:LamT) (G:List D→DF) (a:Addr) (cv:List V),LmX G P w K mg base cm kl L m→∀ (f:Addr) (cdv:Value) (A:Around) (outer:List Env) (s:Shared) (H:Hp) (E:XK),ClA (cxC cm P w K mg base (vY (qF (tp i))) x (qF (tp i)) f cdv A outer s H E) L a cv→RoomC cm k (A.deeper (envOfC x (qF (tp i)) s.heap.objs.size f cdv)) →
   QB (cxC cm P w K mg base (vY (qF (tp i))) x (qF (tp i)) f cdv A outer s H E) (zB (tp i)) (g G a cv)):DfL g P w K mg base cm k kl m x ps.length N:=by
 unfold Ck at h
 simp only[Bool.and_eq_true,decide_eq_true_eq] at h
 obtain⟨h,rfl⟩:=h
 obtain⟨f,fd,hm,F,hbd⟩:=T.src j hj
 exact⟨f,fd,tp i,_,ps,rfl,rfl,hm,F,hbd,fF h,fun L G a cv LX cdv A outer s H E C hr=>hb L G a cv ⟨LX⟩ f cdv A outer s H E ⟨C⟩ hr⟩
end
end _D
end
section
end
section
end
section
namespace _D
open PySem
def Nx (o:Out)(Q:qD→Sto→Prop):Prop:=∃ env S,o=.nx env S∧Q env S
def Rt (o:Out)(Q:D→Sto→Prop):Prop:=∃ d S,o=.rt d S∧Q d S
def Ok {β : Type}(r:Res β)(Q:β→Sto→Prop):Prop:=∃ d S,r=.ok d S∧Q d S
theorem x9 {o:Out}{Q:qD→Sto→Prop}{env:qD}{S:Sto}(h:o=.nx env S)(q:Q env S):Nx o Q:=⟨env,S,h,q⟩
theorem JD {o:Out}{Q:D→Sto→Prop}{d:D}{S:Sto}(h:o=.rt d S)(q:Q d S):Rt o Q:=⟨d,S,h,q⟩
theorem z0 {β : Type}{r:Res β}{Q:β→Sto→Prop}{d:β}{S:Sto}(h:r=.ok d S)(q:Q d S):Ok r Q:=⟨d,S,h,q⟩
theorem wY {f g:DS}{env:qD}{S:Sto}{Q:qD→Sto→Prop}(h:Nx (f env S) fun env1 S1=>Nx (g env1 S1) Q):Nx (qP f g env S) Q:=by
 obtain⟨env1,S1,e,env2,S2,e2,q⟩:=h
 exact⟨env2,S2,by unfold qP;rw[e];exact e2,q⟩
theorem qZ {f g:DS}{env:qD}{S:Sto}{Q:D→Sto→Prop}(h:Nx (f env S) fun env1 S1=>Rt (g env1 S1) Q):Rt (qP f g env S) Q:=by
 obtain⟨env1,S1,e,env2,S2,e2,q⟩:=h
 exact⟨env2,S2,by unfold qP;rw[e];exact e2,q⟩
theorem xM {t:DT}{f g:DS}{env:qD}{S S1:Sto}{b:Bool}{Q:qD→Sto→Prop}(h:t env S=.ok b S1)(k:Nx ((if b then f else g) env S1) Q):Nx (sIf t f g env S) Q:=by
 obtain⟨env2,S2,e2,q⟩:=k
 refine⟨env2,S2,?_,q⟩
 unfold sIf
 rw[h]
 cases b <;> exact e2
theorem zP {f:DE}{i:Nat}{env:qD}{S:Sto}{Q:qD→Sto→Prop}(h:Ok (f env S) fun d S1=>Q (env.set i (some d)) S1):Nx (zD f (gNm i) env S) Q:=by
 obtain⟨d,S1,e,q⟩:=h
 exact⟨_,S1,by unfold zD gNm;rw[e];rfl,q⟩
theorem pF {f:DE}{env:qD}{S:Sto}{Q:qD→Sto→Prop}(h:Ok (f env S) fun _ S1=>Q env S1):Nx (xD f env S) Q:=by
 obtain⟨d,S1,e,q⟩:=h
 exact⟨_,S1,by unfold xD;rw[e];rfl,q⟩
theorem xH {f:DE}{env:qD}{S:Sto}{Q:D→Sto→Prop}(h:Ok (f env S) Q):Rt (qW f env S) Q:=by
 obtain⟨d,S1,e,q⟩:=h
 exact⟨_,S1,by unfold qW;rw[e];rfl,q⟩
theorem fN {fi:DI}{g:DG}{f:DS}{env:qD}{S S1:Sto}{ds:List D}{Q:qD→Sto→Prop}(h:fi env S=.ok ds S1)(k:Nx (vO g f ds env S1) Q):Nx (kQ fi g f env S) Q:=by
 obtain⟨env2,S2,e2,q⟩:=k
 exact⟨env2,S2,by unfold kQ;rw[h];exact e2,q⟩
theorem jX {g:DG}{f:DS}{Q:qD→Sto→Prop}(I:List D→qD→Sto→Prop)(turn:∀ d ds env S,I (d::ds) env S→∃ env1 S1,g d env S=.ok env1 S1∧Nx (f env1 S1) (I ds))(last:∀ env S,I [] env S→Q env S) :
  ∀ {ds:List D} {env:qD} {S:Sto},I ds env S→Nx (vO g f ds env S) Q
 |[],env,S,h=>⟨env,S,rfl,last env S h⟩
 |d::ds,env,S,h=>by
  obtain⟨env1,S1,e1,env2,S2,e2,h2⟩:=turn d ds env S h
  obtain⟨env3,S3,e3,q⟩:=jX I turn last (ds:=ds) h2
  refine⟨env3,S3,?_,q⟩
  unfold vO
  simp only[e1,Res.toS,e2]
  exact e3
theorem eN {t:DT}{f:DS}{Q:qD→Sto→Prop}(I:Nat→qD→Sto→Prop)(turn:∀ n env S,I n env S→∃ b S1,t env S=.ok b S1∧(if b then Nx (f env S1) (fun env2 S2=>∃ m,m<n∧I m env2 S2) else Q env S1)) :
  ∀ {n:Nat} {env:qD} {S:Sto},n<big→I n env S→Nx (gN t f env S) Q:=by
 have key:∀ N n env S,n<N→I n env S→Nx (y9 t f N env S) Q:=by
  intro N
  induction N with
  |zero=>intro n env S h;omega
  |succ N ih =>
   intro n env S h hI
   obtain⟨b,S1,e1,k⟩:=turn n env S hI
   cases b with
   |false =>
    refine⟨env,S1,?_,by simpa using k⟩
    unfold y9
    rw[e1]
    rfl
   |true =>
    simp only[if_true] at k
    obtain⟨env2,S2,e2,m,hm,hI2⟩:=k
    obtain⟨env3,S3,e3,q⟩:=ih m env2 S2 (by omega) hI2
    refine⟨env3,S3,?_,q⟩
    unfold y9
    rw[e1]
    simp only[Res.toS,if_true,e2]
    exact e3
 exact fun {n env S} h hI=>key big n env S h hI
theorem rY {fe:DE}{env:qD}{S S1:Sto}{acc:List D}{x:D}(h:fe env S=.ok x S1)(hl:acc.length<lim):wC fe env S acc=.ok (env,acc++[x]) S1:=by
 unfold wC
 rw[h]
 simp[Res.bind,hl]
theorem lO {cap:List (Option Nat)}{fi:DI2}{g:DG}{t:DT}{k:DK}{env env':qD}{S S1 S':Sto}{o:Option (Nat × MO)}{items ds:List D}(h:fi env S=.ok (o,items) S1)(e:goL o g t k items (w4 cap env) S1 [] = .ok (env',ds) S'):xV false cap fi g t k env S=.ok (.lst ds) S':=by
 unfold xV
 rw[h]
 simp only[Res.bind,e,mkM]
 rfl
end _D
end
section
namespace _D
open PySem
theorem m5 {n:Nat}{g:DS}{ds:List D}{S S':Sto}{d:D}{env:qD}(hs:yK n ds=env)(h:g env S=.rt d S'):qQ n g ds S=.ok d S':=by
 subst hs
 unfold qQ
 rw[h]
 rfl
theorem mY {α β:Type}(sel:α→Bool)(val:α→β)(l:List α) : (l.flatMap fun d=>if sel d then [val d] else []) = (l.filter sel).map val:=by
 induction l with
 |nil=>rfl
 |cons d l ih =>
  rw[List.flatMap_cons,ih]
  cases h:sel d <;> simp[h]
end _D
end
section
namespace _D
open PySem
theorem goT {α : Type}{enc:α→D}{o:Option (Nat × MO)}{g:DG}{t:DT}{k:DK}(out:α→List D)(C:qD→Sto→Prop)(hC:∀ env S,C env S→stn o S) :
  ∀ (xs:List α) (env:qD) (S:Sto) (acc:List D),C env S→acc.length+(xs.flatMap out).length≤lim →
  (∀ x∈xs,∀ env S acc,C env S→acc.length+(out x).length≤lim→∃ env1 S1 b S2,g (enc x) env S=.ok env1 S1∧t env1 S1=.ok b S2∧((b=false∧out x=[]∧C env1 S2)∨(b=true∧∃ env3 S3,k env1 S2 acc=.ok (env3,acc++out x) S3∧C env3 S3))) →
  ∃ env' S',goL o g t k (xs.map enc) env S acc=.ok (env',acc++xs.flatMap out) S'∧C env' S'
 |[],env,S,acc,h,hl,_=>⟨env,S,by simp[goL,vD.mpr (hC _ _ h)],h⟩
 |x::xs,env,S,acc,h,hl,step=>by
  rw[List.flatMap_cons,List.length_append] at hl
  obtain⟨env1,S1,b,S2,e1,e2,r⟩:=step x (List.mem_cons_self ..) env S acc h (by omega)
  have hst:=vD.mpr (hC _ _ h)
  rcases r with⟨rfl,h0,h2⟩|⟨rfl,env3,S3,e3,h3⟩
  ·obtain⟨env',S',e,q⟩:=goT out C hC xs env1 S2 acc h2 (by omega) fun d hd=>step d (List.mem_cons_of_mem _ hd)
   refine⟨env',S',?_,q⟩
   simp only[List.map_cons,goL,hst,if_true,e1,e2,Res.bind,Bool.false_eq_true,if_false,List.flatMap_cons,h0,List.nil_append]
   exact e
  ·obtain⟨env',S',e,q⟩:=goT out C hC xs env3 S3 (acc++out x) h3 (by rw[List.length_append];omega) fun d hd=>step d (List.mem_cons_of_mem _ hd)
   refine⟨env',S',?_,q⟩
   simp only[List.map_cons,goL,hst,if_true,e1,e2,Res.bind,e3,List.flatMap_cons]
   rw[e,List.append_assoc]
section
variable {α β:Type}{enc:α→D}{enc2:β→D}{cap:List (Option Nat)}{fi:DI2}{g:DG}{t:DT}{fe:DE}{env:qD}{S S0:Sto}{o:Option (Nat × MO)}{xs:List α}
theorem U8 (hst:stn o S)(sel:α→Bool)(val:α→D)(C:qD→Prop)(h0:C env)(hl:xs.length≤lim)
  (step:∀ x∈xs,∀ env,C env→∃ env1,g (enc x) env S=.ok env1 S∧C env1∧t env1 S=.ok (sel x) S∧(sel x=true→fe env1 S=.ok (val x) S)) :
  ∃ env',goL o g t (wC fe) (xs.map enc) env S [] = .ok (env',(xs.filter sel).map val) S:=by
 have lf:(xs.flatMap fun d=>if sel d then [val d] else []).length≤lim:=by
  rw[mY,List.length_map]
  exact Nat.le_trans (List.length_filter_le _ _) hl
 obtain⟨env',S',e,_,q⟩:=goT (enc:=enc) (o:=o) (g:=g) (t:=t) (k:=wC fe) (fun d=>if sel d then [val d] else []) (fun env S'=>C env∧S'=S) (fun _ _ h=>h.2▸hst) xs env S [] ⟨h0,rfl⟩ (by simpa using lf) (fun d hd env S' acc hC hl=>by
  obtain⟨hc,rfl⟩:=hC
  obtain⟨env1,e1,c1,e2,k⟩:=step d hd env hc
  refine⟨env1,S',sel d,S',e1,e2,?_⟩
  cases hs:sel d with
  |false=>exact .inl ⟨rfl,by simp,c1,rfl⟩
  |true =>
   refine .inr ⟨rfl,env1,S',?_,c1,rfl⟩
   simp only[if_true]
   exact rY (k hs) (by simp only[hs,if_true,List.length_singleton] at hl;omega))
 subst q
 refine⟨env',?_⟩
 rw[e,List.nil_append,mY]
theorem mT (h:fi env S=.ok (o,xs.map enc) S)(hst:stn o S)(sel:α→Bool)(val:α→D)(C:qD→Prop)(h0:C (w4 cap env))(hl:xs.length≤lim)
  (step:∀ x∈xs,∀ env,C env→∃ env1,g (enc x) env S=.ok env1 S∧C env1∧t env1 S=.ok (sel x) S∧(sel x=true→fe env1 S=.ok (val x) S)) :
  xV false cap fi g t (wC fe) env S=.ok (.lst ((xs.filter sel).map val)) S:=by
 obtain⟨env',e⟩:=U8 hst sel val C h0 hl step
 exact lO h e
end
end _D
end
section
namespace _D
open PySem
theorem qN {o:G2}{f g:DE}{env:qD}{S S1 S2:Sto}{a b:D}(h1:f env S=.ok a S1)(h2:g env S1=.ok b S2):d2 o f g env S=o a b S2:=by
 unfold d2
 rw[h1]
 simp only[Res.bind]
 rw[h2]
theorem zJ {F:DF}{f1:DE}{env:qD}{S S1:Sto}{a:D}(h1:f1 env S=.ok a S1):qJ 1 F (qA f1 (qC)) env S=F [a] S1:=by
 simp only[qJ,qA,qC,h1,Res.bind,List.length_cons,List.length_nil,if_true]
theorem vJ {F:DF}{f1 f2:DE}{env:qD}{S S1 S2:Sto}{a b:D}(h1:f1 env S=.ok a S1)(h2:f2 env S1=.ok b S2):qJ 2 F (qA f1 (qA f2 (qC))) env S=F [a,b] S2:=by
 simp only[qJ,qA,qC,h1,h2,Res.bind,List.length_cons,List.length_nil,if_true]
theorem uJ {F:DF}{f1 f2 f3:DE}{env:qD}{S S1 S2 S3:Sto}{a b c:D}(h1:f1 env S=.ok a S1)(h2:f2 env S1=.ok b S2)(h3:f3 env S2=.ok c S3):qJ 3 F (qA f1 (qA f2 (qA f3 (qC)))) env S=F [a,b,c] S3:=by
 simp only[qJ,qA,qC,h1,h2,h3,Res.bind,List.length_cons,List.length_nil,if_true]
theorem Z7 {F:DF}{f1:DE}{env:qD}{S S1:Sto}{a:D}(h1:f1 env S=.ok a S1):qM F (qA f1 (qC)) env S=F [a] S1:=by
 simp only[qM,qA,qC,h1,Res.bind]
theorem bT {F:DF}{f1 f2:DE}{env:qD}{S S1 S2:Sto}{a b:D}(h1:f1 env S=.ok a S1)(h2:f2 env S1=.ok b S2):qM F (qA f1 (qA f2 (qC))) env S=F [a,b] S2:=by
 simp only[qM,qA,qC,h1,h2,Res.bind]
theorem zI {f:DE}{env:qD}{S S1:Sto}{b:Bool}(h:f env S=.ok (.bl b) S1):dTr f env S=.ok b S1:=by
 unfold dTr
 rw[h]
 rfl
theorem wX {f:DT}{env:qD}{S S1:Sto}{b:Bool}(h:f env S=.ok b S1):zS f env S=.ok (!b) S1:=by
 unfold zS
 rw[h]
 rfl
theorem UU {f g:DT}{env:qD}{S S1 S2:Sto}{a b:Bool}(h:f env S=.ok a S1)(k:a=false→g env S1=.ok b S2)(e:a=true→S1=S2):xX f g env S=.ok (a||b) S2:=by
 unfold xX
 rw[h]
 cases a with
 |true=>cases e rfl;rfl
 |false=>exact k rfl
theorem Z1 {f g:DE}{env:qD}{S S1 S2:Sto}{a b:Bool}(h:f env S=.ok (.bl a) S1)(k:a=true→g env S1=.ok (.bl b) S2)(e:a=false→S1=S2):yN f g env S=.ok (.bl (a&&b)) S2:=by
 unfold yN
 rw[h]
 cases a with
 |false=>cases e rfl;rfl
 |true=>exact k rfl
theorem kY {f1:DE}{env:qD}{S S1:Sto}{a:D}(h1:f1 env S=.ok a S1):qA f1 (qC) env S=.ok [a] S1:=by
 simp only[qA,qC,h1,Res.bind]
theorem kZ {f1 f2:DE}{env:qD}{S S1 S2:Sto}{a b:D}(h1:f1 env S=.ok a S1)(h2:f2 env S1=.ok b S2):qA f1 (qA f2 (qC)) env S=.ok [a,b] S2:=by
 simp only[qA,qC,h1,h2,Res.bind]
theorem x8 {f:DE}{g:DA}{env:qD}{S S1 S2:Sto}{a:D}{as:List D}(h:f env S=.ok a S1)(k:g env S1=.ok as S2):qA f g env S=.ok (a::as) S2:=by
 simp only[qA,h,k,Res.bind]
theorem v8 {g:DA}{env:qD}{S S1:Sto}{as:List D}(k:g env S=.ok as S1)(h:as.length≤lim):zW g env S=.ok (.lst as) S1:=by
 simp only[zW,k,Res.bind,h,if_true]
theorem mB {g:DA}{env:qD}{S S1:Sto}{as:List D}(k:g env S=.ok as S1)(h:as.length≤lim):wI g env S=.ok (.tup as) S1:=by
 simp only[wI,k,Res.bind,h,if_true]
theorem sS {env:qD}{i:Nat}{d:D}{S:Sto}(h:env[i]? = some (some d)):qB i env S=.ok d S:=by simp only[qB,h]
theorem pT {α : Type}(l:List α) : l.filter (fun _=>true)=l:=by simp
theorem lI {α : Type}(p:α→Bool)(l:List α) : zO (l.map fun x=>D.bl (p x))=some (l.map p):=by
 induction l with
 |nil=>rfl
 |cons x l ih =>
  show (zO (l.map fun x=>D.bl (p x))).map (p x::·)=_
  rw[ih];rfl
theorem Z0 {α : Type}{f:DE}{env:qD}{S S1:Sto}{l:List α}{p:α→Bool}(h:f env S=.ok (.lst (l.map fun x=>D.bl (p x))) S1):qM (kI false) (qA f (qC)) env S=.ok (.bl (l.all p)) S1:=by
 rw[Z7 h]
 show (match (xY (.lst (l.map fun x=>D.bl (p x)))).bind zO with|some bs=>Res.ok (D.bl (bs.all id)) S1|none=>.bad)=_
 rw[show (xY (.lst (l.map fun x=>D.bl (p x)))).bind zO=some (l.map p) from lI p l]
 simp only[List.all_map]
 rfl
theorem WJ {i j:Nat}{f1 f2:DE}{env:qD}{S S1 S2:Sto}{a b:D}{Q:qD→Sto→Prop}(h1:f1 env S=.ok a S1)(h2:f2 env S1=.ok b S2)(q:Q ((env.set i (some a)).set j (some b)) S2):Nx (pK i j (qA f1 (qA f2 (qC))) env S) Q:=by
 unfold pK
 rw[kZ h1 h2]
 exact x9 rfl q
theorem tH {f:DE}{g:DG}{env env1:qD}{S S1 S2:Sto}{d:D}{Q:qD→Sto→Prop}(h1:f env S=.ok d S1)(h2:g d env S1=.ok env1 S2)(q:Q env1 S2):Nx (zD f g env S) Q:=by
 unfold zD
 rw[h1]
 simp only[Res.toS]
 rw[h2]
 exact x9 rfl q
end _D
end
section
namespace _K
open PySem _D
theorem GR (b:Bool)(S:Sto):y8 (.bl b) S=some b:=rfl
theorem GN (i:Int)(S:Sto):y8 (.int i) S=some (i != 0):=rfl
theorem gQ (i:Int)(S:Sto):tyD (.int i) S=some "int":=rfl
theorem GY (b:Bool)(S:Sto):tyD (.bl b) S=some "bool":=rfl
theorem GT (S:Sto):tyD .non S=some "NoneType":=rfl
theorem GU (x:Str)(S:Sto):tyD (.str x) S=some "str":=rfl
theorem GV (x:List D)(S:Sto):tyD (.tup x) S=some "tuple":=rfl
theorem GS (x:List D)(S:Sto):tyD (.lst x) S=some "list":=rfl
theorem GL (x:List D):xY (.tup x)=some x:=rfl
theorem GK (x:List D):xY (.lst x)=some x:=rfl
theorem oM (d:D)(S:Sto):jM (.rt d S)=.ok d S:=rfl
theorem GM (e:qD)(S:Sto):jM (.nx e S)=.ok .non S:=rfl
theorem oK (c:Value)(x:D)(e:qD)(S:Sto):jM (.ex c x e S)=.ex c x S:=rfl
theorem KS (i j:Nat)(env:qD)(S:Sto)(x y:D):fQ i j env S [x,y]=.nx ((env.set i (some x)).set j (some y)) S:=rfl
theorem GQ (C:Int→Int→Bool)(f:Int→Int→D)(i j:Int)(S:Sto):i2 C f (.int i) (.int j) S=if C i j=true then .ok (f i j) S else .bad:=rfl
theorem iL (b:Bool)(S:Sto):fD [.bl b] S=.ok (.int (b01 b)) S:=rfl
theorem t7 {xs:List D}{k:Int}{d:D}(h:_L.atI xs k=some d)(S:Sto):gIx (.lst xs) (.int k) S=.ok d S:=by
 show _D.yP (_L.atI xs k) S=_
 rw[h]
 rfl
end _K
end
open PySem _D _K
section
namespace _K
open PySem PySem.Spec PyProof.Rows _L _D
def top (i:Nat):Stmt:=PySem.Challenge.pw_fewdistances_k90_bars_by_hulls_and_by_pa.main.body.getD i (.Pass ⟨0,0,0,0⟩)
structure Cl where
 (FarError NoPoint NoLot NoNumber NoCircle NoMarks NoFars NoText NoLine NoDeed Alike TooMany pair_bound by_pairs bar:Addr)
def zZ (c:Cl):List Addr:=[c.NoPoint,c.NoLot,c.NoNumber,c.NoCircle,c.NoMarks,c.NoFars,c.NoText,c.NoLine,c.NoDeed,c.Alike,c.TooMany]
def j9 (c:Cl):List Value:=[.ref c.NoPoint,.ref c.NoLot,.ref c.NoNumber,.ref c.NoCircle,.ref c.NoMarks,.ref c.NoFars,.ref c.NoText,.ref c.NoLine,.ref c.NoDeed]
abbrev clt (c:Cl):List (Str × Addr):=[("FarError",c.FarError),("NoPoint",c.NoPoint),("NoLot",c.NoLot),("NoNumber",c.NoNumber),("NoCircle",c.NoCircle),("NoMarks",c.NoMarks),("NoFars",c.NoFars),("NoText",c.NoText),("NoLine",c.NoLine),("NoDeed",c.NoDeed),("Alike",c.Alike),("TooMany",c.TooMany),("pair_bound",c.pair_bound),("by_pairs",c.by_pairs),("bar",c.bar)]
abbrev plt (c:Cl):List (Str × Addr):=[("NoPoint",c.NoPoint),("NoLot",c.NoLot),("NoNumber",c.NoNumber),("NoCircle",c.NoCircle),("NoMarks",c.NoMarks),("NoFars",c.NoFars),("NoText",c.NoText),("NoLine",c.NoLine),("NoDeed",c.NoDeed)]
abbrev cst:List (Str × Int):=[]
abbrev bl:List Str:=["ValueError","all","bool","divmod","int","isinstance","len","list","max","range","str","tuple","zip"]
abbrev tab:List (Str × Nat × List Str):=[("is_whole",14,["thing"]),("is_within",15,["thing","least","most"]),("need_within",16,["thing","least","most"]),("least_where",18,["holds","most"]),("many_pairs",19,["n"]),("by_hull",20,["n"]),("pairs_of_shares",21,["whole","n"]),("pair_bound",22,["n"]),("by_pairs",23,["n"]),("bar",24,["n"]),("_law_kinds",26,["_law_e"]),("_law_refused",27,["_law_call"]),("_law_same",28,["_law_found","_law_due"]),("_law_whole",29,["_law_found"]),("_law_cell",30,["_law_script","_law_k"]),("_law_pen",31,["_law_cell_here"]),("_law_draw",32,["_law_pen_here","_law_many"]),("_law_no_number",33,["_law_pen_here","_law_low","_law_high"]),("_law_can",34,["_law_n","_law_pairs"]),("_law_hull_right",35,["_law_n"]),("_law_pairs_right",36,["_law_n"]),("law",37,["_law_script"])]
abbrev Txt (K:PySem.W.Frag)(mg:Str→Option Value)(c:Cl):Prop:=TxS K mg top tab bl (clt c) (plt c) (j9 c) (zZ c) cst
abbrev W4:List Str:=["by_hull","pair_bound","law"]
def fnL (c:Cl):List Addr:=[c.pair_bound,c.by_pairs,c.bar]
@[reducible] noncomputable def b_is_whole:DS:=qW (yN (qM x5 (qA (qB 0) (qA (dC (.ty "int")) (qC)))) (nP (qM x5 (qA (qB 0) (qA (dC (.ty "bool")) (qC))))))
@[irreducible] noncomputable def S_is_whole:DF:=sh (qQ 1 b_is_whole)
theorem yM:S_is_whole=qQ 1 b_is_whole:=by delta S_is_whole;exact zU _
@[reducible] noncomputable def b_is_within:DS:=qW (yN (qJ 1 S_is_whole (qA (qB 0) (qC))) (f7 gLe gLe (qB 1) (qB 0) (qB 2)))
@[irreducible] noncomputable def S_is_within:DF:=sh (qQ 3 b_is_within)
theorem yB:S_is_within=qQ 3 b_is_within:=by delta S_is_within;exact zU _
@[reducible] noncomputable def b_need_within (c:Cl):DS:=sIf (zS (dTr (qJ 3 S_is_within (qA (qB 0) (qA (qB 1) (qA (qB 2) (qC))))))) (jO (.ref c.NoNumber) (qA (bD [dC (.str "a whole number from "),d1 vW (qB 1),dC (.str " to "),d1 vW (qB 2),dC (.str " is needed")]) (qC))) (zH)
@[irreducible] noncomputable def S_need_within (c:Cl):DF:=sh (qQ 3 (b_need_within c))
theorem wH (c:Cl):S_need_within c=qQ 3 (b_need_within c):=by delta S_need_within;exact zU _
@[reducible] noncomputable def b_least_where (G:List D→DF)(a:Addr)(cv:List V):DS:=qP (zD (dC (.int 0)) (gNm 2)) (qP (zD (qB 1) (gNm 3)) (qP (gN (dTr (d2 gLt (qB 2) (qB 3))) (qP (zD (d2 wW (d2 qX (qB 2) (qB 3)) (dC (.int 2))) (gNm 4)) (sIf (dTr (wU 0 (qA (qB 4) (qC)) a cv 1 G)) (zD (qB 4) (gNm 3)) (zD (d2 qX (qB 4) (dC (.int 1))) (gNm 2))))) (qW (qB 2))))
@[reducible] noncomputable def b_many_pairs:DS:=qW (d2 wW (d2 qU (qB 0) (d2 zL (qB 0) (dC (.int 1)))) (dC (.int 2)))
@[irreducible] noncomputable def S_many_pairs:DF:=sh (qQ 1 b_many_pairs)
theorem vH:S_many_pairs=qQ 1 b_many_pairs:=by delta S_many_pairs;exact zU _
@[reducible] noncomputable def b_by_hull (c:Cl):DS:=qP (xD (qJ 3 (S_need_within c) (qA (qB 0) (qA (dC (.int 1)) (qA (d2 zF (dC (.int 10)) (dC (.int 18))) (qC)))))) (qW (x6 false [0] 2 5 (qA (d2 zF (dC (.int 10)) (dC (.int 9))) (qC)) (b_least_where (uT (d2 gGe (d2 qX (d2 qU (qB 0) (qB 0)) (qB 0)) (d2 zL (qB 1) (dC (.int 1))))))))
@[irreducible] noncomputable def S_by_hull (c:Cl):DF:=sh (qQ 1 (b_by_hull c))
theorem yW (c:Cl):S_by_hull c=qQ 1 (b_by_hull c):=by delta S_by_hull;exact zU _
@[reducible] noncomputable def b_pairs_of_shares:DS:=qP (zD (qM uA (qA (qB 0) (qA (qB 1) (qC)))) (gTp 2 (yJ (gNm 2) (yJ (gNm 3) (gC))))) (qW (d2 qX (d2 qU (qB 1) (qJ 1 S_many_pairs (qA (qB 2) (qC)))) (d2 qU (qB 3) (qB 2))))
@[irreducible] noncomputable def S_pairs_of_shares:DF:=sh (qQ 4 b_pairs_of_shares)
theorem wO:S_pairs_of_shares=qQ 4 b_pairs_of_shares:=by delta S_pairs_of_shares;exact zU _
@[reducible] noncomputable def b_pair_bound (c:Cl):DS:=qP (xD (qJ 3 (S_need_within c) (qA (qB 0) (qA (dC (.int 1)) (qA (d2 zF (dC (.int 10)) (dC (.int 6))) (qC)))))) (qW (d2 zL (x6 false [0] 2 5 (qA (d2 qU (qB 0) (qB 0)) (qC)) (b_least_where (uT (d2 gGt (qJ 2 S_pairs_of_shares (qA (d2 qU (dC (.int 2)) (qB 0)) (qA (qB 1) (qC)))) (d2 qU (qB 1) (d2 zL (qB 1) (dC (.int 1)))))))) (dC (.int 1))))
@[irreducible] noncomputable def S_pair_bound (c:Cl):DF:=sh (qQ 1 (b_pair_bound c))
theorem wN (c:Cl):S_pair_bound c=qQ 1 (b_pair_bound c):=by delta S_pair_bound;exact zU _
@[reducible] noncomputable def b_by_pairs (c:Cl):DS:=qP (zD (qJ 1 (S_pair_bound c) (qA (qB 0) (qC))) (gNm 1)) (qW (dIf (dTr (d2 gEq (qB 0) (dC (.int 1)))) (dC (.int 0)) (d2 wW (d2 zL (d2 qX (qJ 1 S_many_pairs (qA (qB 0) (qC))) (qB 1)) (dC (.int 1))) (qB 1))))
@[irreducible] noncomputable def S_by_pairs (c:Cl):DF:=sh (qQ 2 (b_by_pairs c))
theorem yL (c:Cl):S_by_pairs c=qQ 2 (b_by_pairs c):=by delta S_by_pairs;exact zU _
@[reducible] noncomputable def b_bar (c:Cl):DS:=qP (xD (qJ 3 (S_need_within c) (qA (qB 0) (qA (dC (.int 1)) (qA (d2 zF (dC (.int 10)) (dC (.int 6))) (qC)))))) (qW (qM g6 (qA (qJ 1 (S_by_hull c) (qA (qB 0) (qC))) (qA (qJ 1 (S_by_pairs c) (qA (qB 0) (qC))) (qC)))))
@[irreducible] noncomputable def S_bar (c:Cl):DF:=sh (qQ 1 (b_bar c))
theorem kE (c:Cl):S_bar c=qQ 1 (b_bar c):=by delta S_bar;exact zU _
@[reducible] noncomputable def b__law_kinds (c:Cl):DS:=qP (zD (zW (qA (qM (zG (zZ c)) (qA (qB 0) (qA (dC (.obj c.NoPoint)) (qC)))) (qA (qM (zG (zZ c)) (qA (qB 0) (qA (dC (.obj c.NoLot)) (qC)))) (qA (qM (zG (zZ c)) (qA (qB 0) (qA (dC (.obj c.NoNumber)) (qC)))) (qC))))) (gNm 1)) (qP (zD (d2 qX (qB 1) (zW (qA (qM (zG (zZ c)) (qA (qB 0) (qA (dC (.obj c.NoCircle)) (qC)))) (qA (qM (zG (zZ c)) (qA (qB 0) (qA (dC (.obj c.NoMarks)) (qC)))) (qA (qM (zG (zZ c)) (qA (qB 0) (qA (dC (.obj c.NoFars)) (qC)))) (qC)))))) (gNm 1)) (qP (zD (d2 qX (qB 1) (zW (qA (qM (zG (zZ c)) (qA (qB 0) (qA (dC (.obj c.NoText)) (qC)))) (qA (qM (zG (zZ c)) (qA (qB 0) (qA (dC (.obj c.NoLine)) (qC)))) (qA (qM (zG (zZ c)) (qA (qB 0) (qA (dC (.obj c.NoDeed)) (qC)))) (qC)))))) (gNm 1)) (qP (zD (d2 qX (qB 1) (zW (qA (qM (zG (zZ c)) (qA (qB 0) (qA (dC (.obj c.Alike)) (qC)))) (qA (qM (zG (zZ c)) (qA (qB 0) (qA (dC (.obj c.TooMany)) (qC)))) (qC))))) (gNm 1)) (qP (sIf (xX (zS (dTr (qM (zG (zZ c)) (qA (qB 0) (qA (dC (.ty "ValueError")) (qC)))))) (dTr (d2 gNe (dBm "list" g9 (qB 1) (qA (dC (.bl true)) (qC))) (dC (.int 1))))) (qW (dC (.str "other"))) (zH)) (qP (sIf (dTr (qM (zG (zZ c)) (qA (qB 0) (qA (dC (.obj c.Alike)) (qC))))) (qW (wI (qA (dC (.str "alike")) (qA (jC) (qA (jC) (qA (jC) (qA (jC) (qC)))))))) (zH)) (qP (sIf (dTr (qM (zG (zZ c)) (qA (qB 0) (qA (dC (.obj c.TooMany)) (qC))))) (qW (wI (qA (dC (.str "many")) (qA (jC) (qA (jC) (qC)))))) (zH)) (qP (zD (zW (qA (dC (.str "point")) (qA (dC (.str "lot")) (qA (dC (.str "number")) (qA (dC (.str "circle")) (qA (dC (.str "marks")) (qA (dC (.str "fars")) (qA (dC (.str "text")) (qA (dC (.str "line")) (qA (dC (.str "deed")) (qC))))))))))) (gNm 2)) (qW (d2 gIx (qB 2) (dBm "list" gA (qB 1) (qA (dC (.bl true)) (qC))))))))))))
@[irreducible] noncomputable def S__law_kinds (c:Cl):DF:=sh (qQ 3 (b__law_kinds c))
theorem vF (c:Cl):S__law_kinds c=qQ 3 (b__law_kinds c):=by delta S__law_kinds;exact zU _
@[reducible] noncomputable def b__law_refused (c:Cl)(G:List D→DF)(a:Addr)(cv:List V):DS:=qP (kR 2 1 (j9 c) (xD (wU 0 (qC) a cv 0 G)) (qW (qJ 1 (S__law_kinds c) (qA (qB 1) (qC))))) (qW (dC (.str "told")))
@[reducible] noncomputable def b__law_same (S__law_same:DF):DS:=qP (sIf (dTr (d2 gIs (qB 1) (dC .non))) (qW (d2 gIs (qB 0) (dC .non))) (zH)) (qP (sIf (dTr (qM jT (qA (qB 1) (qA (wI (qA (dC (.ty "list")) (qA (dC (.ty "tuple")) (qC)))) (qC))))) (qP (sIf (dTr (d2 gNe (qM x5 (qA (qB 1) (qA (dC (.ty "list")) (qC)))) (qM x5 (qA (qB 0) (qA (dC (.ty "list")) (qC)))))) (qW (dC (.bl false))) (zH)) (qP (sIf (xX (dTr (d2 gNe (qM x5 (qA (qB 1) (qA (dC (.ty "tuple")) (qC)))) (qM x5 (qA (qB 0) (qA (dC (.ty "tuple")) (qC)))))) (dTr (d2 gNe (qM jU (qA (qB 0) (qC))) (qM jU (qA (qB 1) (qC)))))) (qW (dC (.bl false))) (zH)) (qW (qM (kI false) (qA (xV false [none,none] (vM (rD (qA (qB 0) (qA (qB 1) (qC))))) (gTp 2 (yJ (gNm 0) (yJ (gNm 1) (gC)))) (uM) (wC (qJ 2 (okO S__law_same) (qA (qB 0) (qA (qB 1) (qC)))))) (qC)))))) (zH)) (qP (sIf (dTr (qM x5 (qA (qB 1) (qA (dC (.ty "str")) (qC))))) (qW (yN (qM x5 (qA (qB 0) (qA (dC (.ty "str")) (qC)))) (d2 gEq (qB 0) (qB 1)))) (zH)) (qP (sIf (dTr (d2 gNe (qM x5 (qA (qB 0) (qA (dC (.ty "bool")) (qC)))) (qM x5 (qA (qB 1) (qA (dC (.ty "bool")) (qC)))))) (qW (dC (.bl false))) (zH)) (qW (yN (qM x5 (qA (qB 0) (qA (dC (.ty "int")) (qC)))) (d2 gEq (qB 0) (qB 1)))))))
noncomputable def bI:Nat→DF
 |0=>fun _ _=>.bad
 |n+1=>qQ 2 (b__law_same (bI n))
@[irreducible] noncomputable def S__law_same:DF:=sh (bI 4)
theorem u9:S__law_same=bI 4:=by delta S__law_same;exact zU _
@[reducible] noncomputable def b__law_whole:DS:=qW (yN (qM x5 (qA (qB 0) (qA (dC (.ty "int")) (qC)))) (nP (qM x5 (qA (qB 0) (qA (dC (.ty "bool")) (qC))))))
@[irreducible] noncomputable def S__law_whole:DF:=sh (qQ 1 b__law_whole)
theorem vG:S__law_whole=qQ 1 b__law_whole:=by delta S__law_whole;exact zU _
@[reducible] noncomputable def b__law_cell:DS:=qP (sIf (dTr (d2 gLt (qB 1) (qM jU (qA (qB 0) (qC))))) (qW (d2 gIx (qB 0) (qB 1))) (zH)) (qW (dC (.int 0)))
@[irreducible] noncomputable def S__law_cell:DF:=sh (qQ 2 b__law_cell)
theorem u4:S__law_cell=qQ 2 b__law_cell:=by delta S__law_cell;exact zU _
@[reducible] noncomputable def b__law_pen:DS:=qW (nO (qA (qB 0) (qA (qM fD (qA (d2 gGe (qB 0) (d2 zF (dC (.int 10)) (dC (.int 18)))) (qC))) (qC))))
@[irreducible] noncomputable def S__law_pen:DF:=sh (qQ 1 b__law_pen)
theorem uY:S__law_pen=qQ 1 b__law_pen:=by delta S__law_pen;exact zU _
@[reducible] noncomputable def b__law_draw:DS:=qP (sIf (dTr (d2 gEq (d2 gIx (qB 0) (dC (.int 1))) (dC (.int 1)))) (qP (zD (d2 vX (d2 gIx (qB 0) (dC (.int 0))) (qB 1)) (gNm 2)) (qP (zD (d2 wW (d2 gIx (qB 0) (dC (.int 0))) (qB 1)) (gSb (qB 0) (dC (.int 0)) yH)) (qW (qB 2)))) (zH)) (qP (zD (d2 vX (d2 qX (d2 qU (d2 vX (d2 gIx (qB 0) (dC (.int 0))) (dC (.int 2147483629))) (dC (.int 48271))) (dC (.int 11))) (dC (.int 2147483629))) (gSb (qB 0) (dC (.int 0)) yH)) (qW (d2 vX (d2 wW (d2 vX (d2 qX (d2 qU (d2 gIx (qB 0) (dC (.int 0))) (d2 gIx (qB 0) (dC (.int 0)))) (d2 qU (dC (.int 40692)) (d2 gIx (qB 0) (dC (.int 0))))) (dC (.int 2147483647))) (dC (.int 8))) (qB 1))))
@[irreducible] noncomputable def S__law_draw:DF:=sh (qQ 3 b__law_draw)
theorem u7:S__law_draw=qQ 3 b__law_draw:=by delta S__law_draw;exact zU _
@[reducible] noncomputable def b__law_no_number:DS:=qP (zD (zW (qA (d2 zL (qB 1) (dC (.int 1))) (qA (d2 qX (qB 2) (dC (.int 1))) (qA (d2 zL (d2 zL (dC (.int 0)) (qB 2)) (dC (.int 1))) (qA (d2 qX (d2 qX (qB 2) (dC (.int 1))) (qJ 2 S__law_draw (qA (qB 0) (qA (d2 zF (dC (.int 10)) (dC (.int 9))) (qC))))) (qA (dC (.bl true)) (qC))))))) (gNm 3)) (qP (zD (d2 qX (qB 3) (zW (qA (dC (.bl false)) (qC)))) (gNm 3)) (qW (d2 gIx (d2 qX (qB 3) (zW (qA (dC .non) (qA (dC (.str "1")) (qA (wI (qA (dC (.int 1)) (qC))) (qA (zW (qA (dC (.int 1)) (qC))) (qA (nN) (qA (d2 zF (dC (.int 10)) (dC (.int 29))) (qC))))))))) (qJ 2 S__law_draw (qA (qB 0) (qA (dC (.int 12)) (qC)))))))
@[irreducible] noncomputable def S__law_no_number:DF:=sh (qQ 4 b__law_no_number)
theorem yA:S__law_no_number=qQ 4 b__law_no_number:=by delta S__law_no_number;exact zU _
@[reducible] noncomputable def b__law_can:DS:=qP (pK 2 3 (qA (d2 wW (d2 qU (dC (.int 2)) (qB 1)) (qB 0)) (qA (d2 vX (d2 qU (dC (.int 2)) (qB 1)) (qB 0)) (qC)))) (qP (zD (d2 qX (d2 qU (d2 qU (qB 3) (d2 qX (qB 2) (dC (.int 1)))) (qB 2)) (d2 qU (d2 qU (d2 zL (qB 0) (qB 3)) (qB 2)) (d2 zL (qB 2) (dC (.int 1))))) (gNm 4)) (qW (d2 gLe (qB 4) (d2 qU (d2 qU (dC (.int 2)) (qB 0)) (d2 zL (qB 0) (dC (.int 1)))))))
@[irreducible] noncomputable def S__law_can:DF:=sh (qQ 5 b__law_can)
theorem uX:S__law_can=qQ 5 b__law_can:=by delta S__law_can;exact zU _
@[reducible] noncomputable def b__law_hull_right (c:Cl):DS:=qP (zD (qJ 1 (S_by_hull c) (qA (qB 0) (qC))) (gNm 1)) (qP (sIf (xX (zS (dTr (qJ 1 S__law_whole (qA (qB 1) (qC))))) (xX (dTr (d2 gLt (qB 1) (dC (.int 0)))) (dTr (d2 gLt (d2 qX (d2 qU (qB 1) (qB 1)) (qB 1)) (d2 zL (qB 0) (dC (.int 1))))))) (qW (dC (.bl false))) (zH)) (qW (dOr (d2 gEq (qB 1) (dC (.int 0))) (d2 gLt (d2 zL (d2 qU (qB 1) (qB 1)) (qB 1)) (d2 zL (qB 0) (dC (.int 1)))))))
@[irreducible] noncomputable def S__law_hull_right (c:Cl):DF:=sh (qQ 2 (b__law_hull_right c))
theorem wM (c:Cl):S__law_hull_right c=qQ 2 (b__law_hull_right c):=by delta S__law_hull_right;exact zU _
@[reducible] noncomputable def b__law_pairs_right (c:Cl):DS:=qP (k8 1 2 3 (qA (qJ 1 (S_pair_bound c) (qA (qB 0) (qC))) (qA (qJ 1 (S_by_pairs c) (qA (qB 0) (qC))) (qA (d2 wW (d2 qU (qB 0) (d2 zL (qB 0) (dC (.int 1)))) (dC (.int 2))) (qC))))) (qP (sIf (xX (zS (dTr (qJ 1 S__law_whole (qA (qB 1) (qC))))) (xX (zS (dTr (qJ 1 S__law_whole (qA (qB 2) (qC))))) (xX (dTr (d2 gLt (qB 1) (dC (.int 0)))) (dTr (d2 gLt (qB 2) (dC (.int 0))))))) (qW (dC (.bl false))) (zH)) (qP (sIf (xX (zS (dTr (qJ 2 S__law_can (qA (qB 0) (qA (qB 1) (qC)))))) (dTr (qJ 2 S__law_can (qA (qB 0) (qA (d2 qX (qB 1) (dC (.int 1))) (qC)))))) (qW (dC (.bl false))) (zH)) (qP (sIf (xX (dTr (d2 gLt (d2 qU (qB 2) (qB 1)) (qB 3))) (wR (dTr (d2 gGt (qB 2) (dC (.int 0)))) (dTr (d2 gGe (d2 qU (d2 zL (qB 2) (dC (.int 1))) (qB 1)) (qB 3))))) (qW (dC (.bl false))) (zH)) (qW (qJ 2 S__law_same (qA (qJ 1 (S_bar c) (qA (qB 0) (qC))) (qA (qM g6 (qA (qJ 1 (S_by_hull c) (qA (qB 0) (qC))) (qA (qB 2) (qC)))) (qC))))))))
@[irreducible] noncomputable def S__law_pairs_right (c:Cl):DF:=sh (qQ 4 (b__law_pairs_right c))
theorem wJ (c:Cl):S__law_pairs_right c=qQ 4 (b__law_pairs_right c):=by delta S__law_pairs_right;exact zU _
@[reducible] noncomputable def b_law (c:Cl):DS:=qP (sIf (zS (dTr (qM (kI false) (qA (xV false [none] (vM (gX (qA (dC (.int 1)) (qA (dC (.int 42)) (qC))))) (gNm 0) (uM) (wC (yN (qJ 1 (okO (S__law_hull_right c)) (qA (qB 0) (qC))) (qJ 1 (okO (S__law_pairs_right c)) (qA (qB 0) (qC)))))) (qC))))) (qW (dC (.bl false))) (zH)) (qP (sIf (xX (zS (dTr (qJ 1 (S__law_pairs_right c) (qA (d2 zF (dC (.int 10)) (dC (.int 6))) (qC))))) (zS (dTr (qJ 1 (S__law_hull_right c) (qA (d2 zF (dC (.int 10)) (dC (.int 18))) (qC)))))) (qW (dC (.bl false))) (zH)) (qP (kQ (xW (d2 qX (zW (qA (qJ 2 S__law_cell (qA (qB 0) (qA (dC (.int 0)) (qC)))) (qC))) (dSl (qB 0) (wV (dC (.int 1))) (wV (dC (.int 10)))))) (gNm 2) (qP (zD (qJ 1 S__law_pen (qA (qB 2) (qC))) (gNm 3)) (qP (zD (zW (qA (d2 qX (dC (.int 1)) (qJ 2 S__law_draw (qA (qB 3) (qA (d2 zF (dC (.int 10)) (dC (.int 6))) (qC))))) (qA (d2 qX (dC (.int 1)) (qJ 2 S__law_draw (qA (qB 3) (qA (dC (.int 3000)) (qC))))) (qC)))) (gNm 4)) (qP (zD (qJ 2 S__law_draw (qA (qB 3) (qA (d2 zF (dC (.int 10)) (dC (.int 9))) (qC)))) (gNm 5)) (qP (kQ (xW (d2 qX (qB 4) (zW (qA (d2 qX (d2 qX (d2 qU (qB 5) (qB 5)) (qB 5)) (dC (.int 1))) (qA (d2 qX (d2 qX (d2 qU (qB 5) (qB 5)) (qB 5)) (dC (.int 2))) (qC)))))) (gNm 1) (qP (sIf (wR (dTr (d2 gLe (qB 1) (d2 zF (dC (.int 10)) (dC (.int 18))))) (zS (dTr (qJ 1 (S__law_hull_right c) (qA (qB 1) (qC)))))) (qW (dC (.bl false))) (zH)) (sIf (wR (dTr (d2 gLe (qB 1) (d2 zF (dC (.int 10)) (dC (.int 6))))) (zS (dTr (qJ 1 (S__law_pairs_right c) (qA (qB 1) (qC)))))) (qW (dC (.bl false))) (zH)))) (qP (zD (wI (qA (qJ 3 S__law_no_number (qA (qB 3) (qA (dC (.int 1)) (qA (d2 zF (dC (.int 10)) (dC (.int 6))) (qC))))) (qA (qJ 3 S__law_no_number (qA (qB 3) (qA (dC (.int 1)) (qA (d2 zF (dC (.int 10)) (dC (.int 18))) (qC))))) (qC)))) (gTp 2 (yJ (gNm 8) (yJ (gNm 7) (gC))))) (qP (sIf (dTr (d2 gNe (xV false [none,some 8] (dIt (wI (qA (dC (.obj c.pair_bound)) (qA (dC (.obj c.by_pairs)) (qA (dC (.obj c.bar)) (qC)))))) (gNm 0) (uM) (wC (x6 true [0,1] 1 2 (qC) (b__law_refused c (uT (vV 0 [(c.pair_bound,1,S_pair_bound c),(c.by_pairs,1,S_by_pairs c),(c.bar,1,S_bar c)] (qA (qB 1) (qC)))))))) (d2 gB (zW (qA (dC (.str "number")) (qC))) (dC (.int 3))))) (qW (dC (.bl false))) (zH)) (qP (sIf (dTr (d2 gNe (x6 false [7] 1 2 (qC) (b__law_refused c (uT (qJ 1 (S_by_hull c) (qA (qB 0) (qC)))))) (dC (.str "number")))) (qW (dC (.bl false))) (zH)) (kQ (xW (wI (qA (dC (.obj c.pair_bound)) (qA (dC (.obj c.by_pairs)) (qA (dC (.obj c.bar)) (qC)))))) (gNm 6) (sIf (dTr (d2 gNe (x6 false [6] 1 2 (qC) (b__law_refused c (uT (vV 0 [(c.pair_bound,1,S_pair_bound c),(c.by_pairs,1,S_by_pairs c),(c.bar,1,S_bar c)] (qA (d2 qX (d2 zF (dC (.int 10)) (dC (.int 6))) (dC (.int 1))) (qC)))))) (dC (.str "number")))) (qW (dC (.bl false))) (zH))))))))))) (qW (dC (.bl true)))))
end _K
end
section
namespace _K
open PySem _D
theorem uB (i j:Int)(S:Sto):gEq (.int i) (.int j) S=.ok (.bl (decide (i=j))) S:=by kernel_rfl!
theorem xF (i j:Int)(S:Sto)(h : -(2 ^ 64)<i∧i<2 ^ 64):qU (.int i) (.int j) S=.ok (.int (i*j)) S:=by
 unfold qU i2
 rw[bS]
 unfold bR
 simp only[h,and_self,decide_true,Bool.true_or,if_true]
theorem zX (i j:Int)(S:Sto):qX (.int i) (.int j) S=.ok (.int (i+j)) S:=rfl
theorem uN {xs ys:List D}(h:xs.length+ys.length≤lim)(S:Sto):qX (.lst xs) (.lst ys) S=.ok (.lst (xs++ys)) S:=if_pos h
theorem GX {S:Sto}{j:Nat}{xs:List D}(h:S[j]? = some (.lst xs)):tyD (.loc j) S=some "list":=by
 show (match S[j]? with|some (.lst _)=>some "list" | some (.dct _)=>some "dict" | _=>none)=_
 rw[h]
theorem GO {S:Sto}{j:Nat}{xs:List D}(h:S[j]? = some (.lst xs))(hl:xs.length<lim)(d:D):iO (.loc j) [d] S=.ok .non (S.set j (.lst (xs++[d]))):=by
 show (match S[j]? with|some (.lst xs)=>(if xs.length<lim then Res.ok D.non (S.set j (.lst (xs++[d]))) else .bad)|_=>.bad)=_
 rw[h]
 exact if_pos hl
theorem XQ (a b:Bool)(S:Sto):gNe (.bl a) (.bl b) S=.ok (.bl (a != b)) S:=by
 cases a <;> cases b <;> rfl
theorem jE (d:D)(b a:String)(S:Sto)(ho:xB b=true)(h:tyD d S=some a):x5 [d,.ty b] S=.ok (.bl (z9 a b)) S:=by
 unfold x5
 simp[ho,h]
theorem fL (xs:List D)(S:Sto):jU [.lst xs] S=.ok (.int xs.length) S:=rfl
theorem XU (i:Int)(S:Sto):gIs (.int i) .non S=.ok (.bl false) S:=rfl
theorem yD:xB "int" = true∧xB "bool" = true∧xB "tuple" = true∧xB "list" = true∧xB "str" = true:=kd
theorem Q9:z9 "int" "tuple" = false∧z9 "int" "list" = false∧z9 "int" "str" = false∧z9 "int" "bool" = false∧z9 "int" "int" = true∧z9 "tuple" "tuple" = true∧z9 "tuple" "list" = false∧z9 "list" "tuple" = false∧z9 "list" "list" = true:=kd
theorem yS (i j:Int)(S:Sto)(h:0<j):vX (.int i) (.int j) S=.ok (.int (i % j)) S:=by
 unfold vX i2
 simp[h]
theorem yC (i j:Int)(S:Sto)(h:0<j∧j<1073741824):wW (.int i) (.int j) S=.ok (.int (i/j)) S:=by
 unfold wW i2 Z6
 simp[h]
def wL (d:D):Prop:=∀ S,tyD d S=some "NoneType" ∨ tyD d S=some "bool" ∨ tyD d S=some "str" ∨ tyD d S=some "tuple" ∨ tyD d S=some "list" ∨ tyD d S=some "dict"
theorem pI (i:Int)(S:Sto):S_is_whole [.int i] S=.ok (.bl true) S:=by
 rw[yM]
 kernel_rfl!
theorem bA (d:D)(S:Sto)(h:wL d):S_is_whole [d] S=.ok (.bl false) S:=by
 rw[yM]
 unfold b_is_whole
 rcases h S with h|h|h|h|h|h <;> simp[qQ,yK,oM,GM,oK,qP,sIf,qW,zH,xD,zD,gNm,gSb,gTp,yJ,gC,pK,KS,P7,dC,qB,d1,d2,qA,qC,qM,qJ,dTr,zS,xX,wR,uM,yN,nP,f7,wI,zW,nO,dBm,dSl,wV,GP,xW,gX,Res.bind,Res.toS,_D.hX,_D.yP,GR,GN,gQ,GY,GT,GU,GV,GS,GL,GK,GQ,gLt,gLe,gGt,gGe,_D.zL,GW,jE _ _ _ _ yD.1 h,jE _ _ _ _ yD.2.1 h,z9]
theorem fW (i a b:Int)(S:Sto):S_is_within [.int i,.int a,.int b] S=.ok (.bl (decide (a≤i∧i≤b))) S:=by
 rw[yB]
 unfold b_is_within
 simp[qQ,yK,oM,GM,oK,qP,sIf,qW,zH,xD,zD,gNm,gSb,gTp,yJ,gC,pK,KS,P7,dC,qB,d1,d2,qA,qC,qM,qJ,dTr,zS,xX,wR,uM,yN,nP,f7,wI,zW,nO,dBm,dSl,wV,GP,xW,gX,Res.bind,Res.toS,_D.hX,_D.yP,GR,GN,gQ,GY,GT,GU,GV,GS,GL,GK,GQ,gLt,gLe,gGt,gGe,_D.zL,GW,pI]
 by_cases h:a≤i <;> simp[h,oM]
theorem mL (d:D)(a b:Int)(S:Sto)(h:wL d):S_is_within [d,.int a,.int b] S=.ok (.bl false) S:=by
 rw[yB]
 unfold b_is_within
 simp[qQ,yK,oM,GM,oK,qP,sIf,qW,zH,xD,zD,gNm,gSb,gTp,yJ,gC,pK,KS,P7,dC,qB,d1,d2,qA,qC,qM,qJ,dTr,zS,xX,wR,uM,yN,nP,f7,wI,zW,nO,dBm,dSl,wV,GP,xW,gX,Res.bind,Res.toS,_D.hX,_D.yP,GR,GN,gQ,GY,GT,GU,GV,GS,GL,GK,GQ,gLt,gLe,gGt,gGe,_D.zL,GW,bA d S h]
def w9 (a b:Int)(d:D):Prop:=∀ S:Sto,S_is_within [d,.int a,.int b] S=.ok (.bl false) S
theorem uE {a b i:Int}(h:i<a∨b<i):w9 a b (.int i):=fun S=>by
 rw[fW]
 have:¬ (a≤i∧i≤b):=by omega
 simp[this]
theorem uU {a b:Int}{d:D}(h:wL d):w9 a b d:=fun S=>mL _ _ _ S h
theorem WG:wL .non:=fun _=>.inl rfl
theorem cN (b:Bool):wL (.bl b):=fun _=>.inr (.inl rfl)
theorem WH (x:Str):wL (.str x):=fun _=>.inr (.inr (.inl rfl))
theorem WI (x:List D):wL (.tup x):=fun _=>.inr (.inr (.inr (.inl rfl)))
theorem WE (x:List D):wL (.lst x):=fun _=>.inr (.inr (.inr (.inr (.inl rfl))))
theorem WD:wL .dct0:=fun _=>.inr (.inr (.inr (.inr (.inr rfl))))
theorem fV (i a b:Int)(S:Sto)(c:Cl)(h:a≤i∧i≤b):S_need_within c [.int i,.int a,.int b] S=.ok .non S:=by
 rw[wH]
 unfold b_need_within
 simp[qQ,yK,oM,GM,oK,qP,sIf,qW,zH,xD,zD,gNm,gSb,gTp,yJ,gC,pK,KS,P7,dC,qB,d1,d2,qA,qC,qM,qJ,dTr,zS,xX,wR,uM,yN,nP,f7,wI,zW,nO,dBm,dSl,wV,GP,xW,gX,Res.bind,Res.toS,_D.hX,_D.yP,GR,GN,gQ,GY,GT,GU,GV,GS,GL,GK,GQ,gLt,gLe,gGt,gGe,_D.zL,GW,fW,h]
theorem lW (a:Int)(S:Sto)(h:a.natAbs.log2<1920):vW (.int a) S=.ok (.str (toString a)) S:=by
 unfold vW
 simp only[h,if_true]
def WC (a b:Int):List Str:=[Str.empty++("a whole number from " : Str),Str.empty++("a whole number from " : Str)++((toString a:String):Str),Str.empty++("a whole number from " : Str)++((toString a:String):Str)++(" to " : Str),Str.empty++("a whole number from " : Str)++((toString a:String):Str)++(" to " : Str)++((toString b:String):Str),Str.empty++("a whole number from " : Str)++((toString a:String):Str)++(" to " : Str)++((toString b:String):Str)++(" is needed" : Str)]
def bE (a b:Int):Bool:=decide (a.natAbs.log2<1920)&&decide (b.natAbs.log2<1920)&&(WC a b).all fun m=>decide (m.length≤lim)
theorem jF {out y:Str}{p:DE}{ps:List DE}{env:qD}{S S1:Sto}(h:p env S=.ok (.str y) S1)(hl:(out++y).length≤lim):uR out (p::ps) env S=uR (out++y) ps env S1:=by
 show ((p env S).bind fun d S1=>match d with|.str y=>if (out++y).length≤lim then uR (out++y) ps env S1 else .bad|_=>.bad)=_
 rw[h]
 exact if_pos hl
theorem jN (d:D)(a b:Int)(S:Sto)(c:Cl)(hm:bE a b=true)(h:w9 a b d):S_need_within c [d,.int a,.int b] S=.ex (.ref c.NoNumber) .non S:=by
 rw[wH]
 unfold b_need_within
 simp only[bE,WC,List.all_cons,List.all_nil,Bool.and_eq_true,Bool.and_true,decide_eq_true_eq] at hm
 obtain⟨⟨la,lb⟩,j1,j2,j3,j4,j5⟩:=hm
 have hj:bD [dC (.str "a whole number from "),d1 vW (qB 1),dC (.str " to "),d1 vW (qB 2),dC (.str " is needed")] [some d,some (.int a),some (.int b)] S=.ok (.str (Str.empty++("a whole number from " : Str)++((toString a:String):Str)++(" to " : Str)++((toString b:String):Str)++(" is needed" : Str))) S:=
  (jF rfl j1).trans ((jF (lW a S la) j2).trans ((jF rfl j3).trans ((jF (lW b S lb) j4).trans ((jF rfl j5).trans (if_pos j5)))))
 have l1:∀ x:D,[x].length≤lim:=fun x=>by show 1≤lim;decide
 simp[qQ,yK,oM,GM,oK,qP,sIf,qW,zH,xD,zD,gNm,gSb,gTp,yJ,gC,pK,KS,P7,dC,qB,d1,d2,qA,qC,qM,qJ,dTr,zS,xX,wR,uM,yN,nP,f7,wI,zW,nO,dBm,dSl,wV,GP,xW,gX,Res.bind,Res.toS,_D.hX,_D.yP,GR,GN,gQ,GY,GT,GU,GV,GS,GL,GK,GQ,gLt,gLe,gGt,gGe,_D.zL,GW,h S,jO]
 simp only[hj,l1,if_true,oK]
def yQ (S:Sto)(p:Nat):Prop:=∃ v f:Int,S[p]? = some (.lst [.int v,.int f])
theorem fH (p:Nat)(k:Int)(xs:List D)(d:D)(S:Sto)(h:S[p]? = some (.lst xs))(hk:_L.atI xs k=some d):gIx (.loc p) (.int k) S=.ok d S:=by
 show (match S[p]? with|some (.lst xs)=>_D.yP (_L.atI xs k) S|_=>.bad)=_
 rw[h]
 show _D.yP (_L.atI xs k) S=_
 rw[hk]
 rfl
theorem cS (v f:Int):_L.atI [D.int v,D.int f] 0=some (.int v):=rfl
theorem UX (v f:Int):_L.atI [D.int v,D.int f] 1=some (.int f):=rfl
theorem tJ (p:Nat)(v f w:Int)(S:Sto)(h:S[p]? = some (.lst [.int v,.int f])):yH (.loc p) (.int 0) (.int w) S=.ok () (S.set p (.lst [.int w,.int f])):=by
 simp[yH,p8,h,_L.ixN]
theorem fT (S:Sto)(p:Nat)(m:Int)(h:yQ S p)(hm:0<m∧m<1073741824):∃ r v f:Int,S__law_draw [.loc p,.int m] S=.ok (.int r) (S.set p (.lst [.int v,.int f]))∧0≤r∧r<m:=by
 obtain⟨v,f,hp⟩:=h
 have hpl:=(List.getElem?_eq_some_iff.mp hp).1
 have g0:=fH p 0 _ _ S hp (cS v f)
 have g1:=fH p 1 _ _ S hp (UX v f)
 rw[u7]
 unfold b__law_draw
 by_cases hf:f=1
 ·refine⟨v % m,v/m,f,?_,Int.emod_nonneg _ (by omega),Int.emod_lt_of_pos _ hm.1⟩
  subst hf
  simp[qQ,yK,oM,GM,oK,qP,sIf,qW,zH,xD,zD,gNm,gSb,gTp,yJ,gC,pK,KS,P7,dC,qB,d1,d2,qA,qC,qM,qJ,dTr,zS,xX,wR,uM,yN,nP,f7,wI,zW,nO,dBm,dSl,wV,GP,xW,gX,Res.bind,Res.toS,_D.hX,_D.yP,GR,GN,gQ,GY,GT,GU,GV,GS,GL,GK,GQ,gLt,gLe,gGt,gGe,_D.zL,GW,g0,g1,uB,yS v m S hm.1,yC v m S hm,tJ p v 1 (v/m) S hp]
 ·obtain⟨w,hw⟩:∃ w:Int,w=(v % 2147483629*48271+11) % 2147483629:=⟨_,rfl⟩
  have hw1:0≤w∧w<2147483629:=by rw[hw];exact⟨Int.emod_nonneg _ (by omega),Int.emod_lt_of_pos _ (by omega)⟩
  have hv1:0≤v % 2147483629∧v % 2147483629<2147483629:=⟨Int.emod_nonneg _ (by omega),Int.emod_lt_of_pos _ (by omega)⟩
  have hp':(S.set p (MO.lst [.int w,.int f]))[p]? = some (.lst [.int w,.int f]):=by simp[hpl]
  have k0:=fH p 0 _ _ (S.set p (MO.lst [.int w,.int f])) hp' (cS w f)
  have m1:=xF (v % 2147483629) 48271 S ⟨by omega,by omega⟩
  have m2:=xF w w (S.set p (MO.lst [.int w,.int f])) ⟨by omega,by omega⟩
  have m3:=xF 40692 w (S.set p (MO.lst [.int w,.int f])) ⟨by omega,by omega⟩
  have d1:=yS v 2147483629 S (by omega)
  have d2':=yS (v % 2147483629*48271+11) 2147483629 S (by omega)
  rw[← hw] at d2'
  have d3:=yS (w*w+40692*w) 2147483647 (S.set p (MO.lst [.int w,.int f])) (by omega)
  have d4:=yC ((w*w+40692*w) % 2147483647) 8 (S.set p (MO.lst [.int w,.int f])) (by omega)
  have d5:=yS ((w*w+40692*w) % 2147483647/8) m (S.set p (MO.lst [.int w,.int f])) hm.1
  refine⟨(w*w+40692*w) % 2147483647/8 % m,w,f,?_,Int.emod_nonneg _ (by omega),Int.emod_lt_of_pos _ hm.1⟩
  simp[qQ,yK,oM,GM,oK,qP,sIf,qW,zH,xD,zD,gNm,gSb,gTp,yJ,gC,pK,KS,P7,dC,qB,d1,d2,qA,qC,qM,qJ,dTr,zS,xX,wR,uM,yN,nP,f7,wI,zW,nO,dBm,dSl,wV,GP,xW,gX,Res.bind,Res.toS,_D.hX,_D.yP,GR,GN,gQ,GY,GT,GU,GV,GS,GL,GK,GQ,gLt,gLe,gGt,gGe,_D.zL,GW,g0,g1,uB,hf,d1,m1,zX,d2',tJ p v f w S hp,k0,m2,m3,d3,d4,d5]
theorem kL {S:Sto}{p:Nat}(h:yQ S p)(v f:Int):yQ (S.set p (.lst [.int v,.int f])) p:=by
 obtain⟨v0,f0,hp⟩:=h
 have hpl:=(List.getElem?_eq_some_iff.mp hp).1
 exact⟨v,f,by simp[hpl]⟩
theorem gK (S:Sto):zF (.int 10) (.int 18) S=.ok (.int 1000000000000000000) S:=rfl
theorem Y9 (S:Sto):zF (.int 10) (.int 29) S=.ok (.int 100000000000000000000000000000) S:=rfl
theorem J9 (x:Int)(S:Sto):∃ f:Int,S__law_pen [.int x] S=.ok (.loc S.length) (S++[.lst [.int x,.int f]]):=by
 refine⟨b01 (decide (1000000000000000000≤x)),?_⟩
 have l2:2≤lim:=by decide
 rw[uY]
 unfold b__law_pen
 simp[qQ,yK,oM,GM,oK,qP,sIf,qW,zH,xD,zD,gNm,gSb,gTp,yJ,gC,pK,KS,P7,dC,qB,d1,d2,qA,qC,qM,qJ,dTr,zS,xX,wR,uM,yN,nP,f7,wI,zW,nO,dBm,dSl,wV,GP,xW,gX,Res.bind,Res.toS,_D.hX,_D.yP,GR,GN,gQ,GY,GT,GU,GV,GS,GL,GK,GQ,gLt,gLe,gGt,gGe,_D.zL,GW,gK,iL,l2]
theorem YY (ns:List Int)(S:Sto):∃ x:Int,S__law_cell [.lst (ns.map D.int),.int 0] S=.ok (.int x) S:=by
 rw[u4]
 unfold b__law_cell
 cases ns with
 |nil=>exact⟨0,by simp[qQ,yK,oM,GM,oK,qP,sIf,qW,zH,xD,zD,gNm,gSb,gTp,yJ,gC,pK,KS,P7,dC,qB,d1,d2,qA,qC,qM,qJ,dTr,zS,xX,wR,uM,yN,nP,f7,wI,zW,nO,dBm,dSl,wV,GP,xW,gX,Res.bind,Res.toS,_D.hX,_D.yP,GR,GN,gQ,GY,GT,GU,GV,GS,GL,GK,GQ,gLt,gLe,gGt,gGe,_D.zL,GW,fL]⟩
 |cons n ns =>
  refine⟨n,?_⟩
  have h:(0:Int)<(ns.length:Int)+1:=by omega
  have a:_L.atI (D.int n::ns.map D.int) 0=some (.int n):=by simp[_L.atI,_L.ixN,h]
  simp[qQ,yK,oM,GM,oK,qP,sIf,qW,zH,xD,zD,gNm,gSb,gTp,yJ,gC,pK,KS,P7,dC,qB,d1,d2,qA,qC,qM,qJ,dTr,zS,xX,wR,uM,yN,nP,f7,wI,zW,nO,dBm,dSl,wV,GP,xW,gX,Res.bind,Res.toS,_D.hX,_D.yP,GR,GN,gQ,GY,GT,GU,GV,GS,GL,GK,GQ,gLt,gLe,gGt,gGe,_D.zL,GW,fL,t7 a,h]
theorem Z2 (xs:List D)(r:Int)(h:0≤r∧r<xs.length):∃ d,_L.atI xs r=some d∧d∈xs:=by
 have e:_L.ixN xs.length r=some r.toNat:=by simp[_L.ixN,h]
 have hl:r.toNat<xs.length:=by omega
 exact⟨xs[r.toNat],by simp[_L.atI,e,hl],List.getElem_mem hl⟩
theorem aQ (ns:List Int)(lo hi:Option Int):∃ ms:List Int,yX (ns.map D.int) lo hi=ms.map D.int∧ms.length≤ns.length:=by
 unfold yX
 rw[← List.map_drop,← List.map_take]
 exact⟨_,rfl,by simp;omega⟩
theorem xS {n:Nat}{g:DS}{ds:List D}{S S':Sto}{d:D}{env:qD}(hs:yK n ds=env)(h:Rt (g env S) fun d' S1=>d'=d∧S1=S'):qQ n g ds S=.ok d S':=by
 obtain⟨d',S1,e,rfl,rfl⟩:=h
 exact m5 hs e
def gV (a b r:Int):List D:=[.int (a-1),.int (b+1),.int (0-b-1),.int (b+1+r),.bl true,.bl false,.non,.str "1",.tup [.int 1],.lst [.int 1],.dct0,.int 100000000000000000000000000000]
theorem aF (a b r:Int)(ha:0≤a∧a≤b∧b<10000000000000000000000000000)(hr:0≤r):∀ d∈gV a b r,w9 a b d:=by
 intro d hd
 simp only[gV,List.mem_cons,List.not_mem_nil,or_false] at hd
 rcases hd with rfl|rfl|rfl|rfl|rfl|rfl|rfl|rfl|rfl|rfl|rfl|rfl
 ·exact uE (by omega)
 ·exact uE (by omega)
 ·exact uE (by omega)
 ·exact uE (by omega)
 ·exact uU (cN _)
 ·exact uU (cN _)
 ·exact uU WG
 ·exact uU (WH _)
 ·exact uU (WI _)
 ·exact uU (WE _)
 ·exact uU WD
 ·exact uE (by omega)
theorem cT (S:Sto):zF (.int 10) (.int 9) S=.ok (.int 1000000000) S:=rfl
theorem jY (S:Sto):zF (.int 10) (.int 6) S=.ok (.int 1000000) S:=rfl
theorem mK (S:Sto)(p:Nat)(a b:Int)(h:yQ S p)(ha:0≤a∧a≤b∧b<10000000000000000000000000000):∃ (d:D) (v f:Int),S__law_no_number [.loc p,.int a,.int b] S=.ok d (S.set p (.lst [.int v,.int f]))∧w9 a b d:=by
 obtain⟨r,v,f,e,h0,h1⟩:=fT S p 1000000000 h (by omega)
 obtain⟨r2,v2,f2,e2,h2,h3⟩:=fT (S.set p (.lst [.int v,.int f])) p 12 (kL h v f) (by omega)
 rw[List.set_set] at e2
 obtain⟨d,hd,hm⟩:=Z2 (gV a b r) r2 ⟨h2,h3⟩
 refine⟨d,v2,f2,?_,aF a b r ha h0 d hm⟩
 unfold gV at hd
 have l1:1≤lim:=by decide
 have l5:5≤lim:=by decide
 have l6:6≤lim:=by decide
 have l12:12≤lim:=by decide
 have k1 (S:Sto):qX (.lst [.int (a-1),.int (b+1),.int (0-b-1),.int (b+1+r),.bl true]) (.lst [.bl false]) S=.ok (.lst [.int (a-1),.int (b+1),.int (0-b-1),.int (b+1+r),.bl true,.bl false]) S:=uN (by show 6≤lim;exact l6) S
 have k2 (S:Sto):qX (.lst [.int (a-1),.int (b+1),.int (0-b-1),.int (b+1+r),.bl true,.bl false]) (.lst [.non,.str "1",.tup [.int 1],.lst [.int 1],.dct0,.int 100000000000000000000000000000]) S=.ok (.lst (gV a b r)) S:=uN (by show 12≤lim;exact l12) S
 have k3 (S:Sto):gIx (.lst (gV a b r)) (.int r2) S=.ok d S:=t7 hd S
 rw[yA]
 refine xS (env:=[some (.loc p),some (.int a),some (.int b),none]) rfl ?_
 refine qZ (zP (z0 (v8 (x8 rfl (x8 rfl (x8 rfl (x8 ((qN rfl ((vJ rfl ((qN rfl rfl).trans (cT S))).trans e)).trans (zX (b+1) r _)) (x8 rfl rfl))))) l5) ?_))
 refine qZ (zP (z0 ((qN rfl (v8 (as:=[.bl false]) (x8 rfl rfl) l1)).trans (k1 _)) ?_))
 exact xH (z0 ((qN ((qN rfl (v8 (as:=[.non,.str "1",.tup [.int 1],.lst [.int 1],.dct0,.int 100000000000000000000000000000]) (x8 rfl (x8 rfl (x8 (mB (as:=[.int 1]) (x8 rfl rfl) l1) (x8 (v8 (as:=[.int 1]) (x8 rfl rfl) l1) (x8 rfl (x8 ((qN rfl rfl).trans (Y9 _)) rfl)))))) l6)).trans (k2 _)) ((vJ rfl rfl).trans e2)).trans (k3 _)) ⟨rfl,rfl⟩)
theorem rV {cl:List Addr}{C B:Addr}(hC:C∈cl)(hB:B∈cl)(S:Sto):zG cl [.exn (.ref C),.obj B] S=.ok (.bl (C == B)) S:=by
 show (if (cl.contains C&&cl.contains B)=true then Res.ok (D.bl (C == B)) S else .bad)=_
 rw[List.contains_iff_mem.mpr hC,List.contains_iff_mem.mpr hB]
 rfl
theorem iX {cl:List Addr}{C:Addr}(hC:C∈cl)(S:Sto):zG cl [.exn (.ref C),.ty "ValueError"] S=.ok (.bl true) S:=by
 show (if (cl.contains C&&(("ValueError" : String) == "ValueError"))=true then Res.ok (D.bl true) S else .bad)=_
 rw[List.contains_iff_mem.mpr hC]
 rfl
theorem xK {cl:List Addr}(nd:cl.Nodup){i j:Nat}{a b:Addr}(ha:cl[i]? = some a)(hb:cl[j]? = some b)(h:i≠j):(a == b)=false:=by
 rw[beq_eq_false_iff_ne]
 rintro rfl
 obtain⟨h1,e1⟩:=List.getElem?_eq_some_iff.mp ha
 obtain⟨h2,e2⟩:=List.getElem?_eq_some_iff.mp hb
 exact h ((List.getElem_inj nd).mp (e1.trans e2.symm))
theorem wB {cl:List Addr}{env:qD}{S:Sto}{C B:Addr}{b:Bool}(h0:env[0]? = some (some (.exn (.ref C))))(hC:C∈cl)(hB:B∈cl)(e:(C == B)=b):qM (zG cl) (qA (qB 0) (qA (dC (.obj B)) (qC))) env S=.ok (.bl b) S:=by
 unfold qM qA qB
 rw[h0]
 exact(rV hC hB S).trans (e▸rfl)
theorem UB {cl:List Addr}{env:qD}{S:Sto}{C:Addr}(h0:env[0]? = some (some (.exn (.ref C))))(hC:C∈cl):qM (zG cl) (qA (qB 0) (qA (dC (.ty "ValueError")) (qC))) env S=.ok (.bl true) S:=by
 unfold qM qA qB
 rw[h0]
 exact iX hC S
theorem yY {f:DE}{g:DA}{env:qD}{S:Sto}{a:D}{as:List D}(h:f env S=.ok a S)(k:g env S=.ok as S):qA f g env S=.ok (a::as) S:=by
 unfold qA
 rw[h,Res.bind_ok,k]
 rfl
theorem nQ {g:DA}{env:qD}{S:Sto}{as:List D}(k:g env S=.ok as S)(h:as.length≤lim):zW g env S=.ok (.lst as) S:=by
 unfold zW
 rw[k,Res.bind_ok,if_pos h]
theorem rZ {o:G2}{f g:DE}{env:qD}{S:Sto}{a b:D}(h1:f env S=.ok a S)(h2:g env S=.ok b S):d2 o f g env S=o a b S:=by
 unfold d2
 rw[h1,Res.bind_ok,h2]
 rfl
theorem c6 {f:DE}{env:qD}{S:Sto}{b:Bool}(h:f env S=.ok (.bl b) S):dTr f env S=.ok b S:=by
 unfold dTr
 rw[h]
 rfl
theorem UH {f:DT}{env:qD}{S:Sto}{b:Bool}(h:f env S=.ok b S):zS f env S=.ok (!b) S:=by
 unfold zS
 rw[h]
 rfl
theorem UT {f g:DT}{env:qD}{S:Sto}(h:f env S=.ok false S)(k:g env S=.ok false S):xX f g env S=.ok false S:=by
 unfold xX
 rw[h]
 exact k
theorem kN (c:Cl)(nd:(zZ c).Nodup)(S:Sto):S__law_kinds c [.exn (.ref c.NoNumber)] S=.ok (.str "number") S:=by
 have mN:c.NoNumber∈zZ c:=.tail _ (.tail _ (.head _))
 rw[vF]
 refine xS (env:=[some (.exn (.ref c.NoNumber)),none,none]) rfl ?_
 refine qZ (zP (z0 (nQ (yY (wB (env:=[some (.exn (.ref c.NoNumber)),none,none]) rfl mN (.head _) (xK (i:=2) (j:=0) nd rfl rfl (by decide))) (yY (wB (env:=[some (.exn (.ref c.NoNumber)),none,none]) rfl mN (.tail _ (.head _)) (xK (i:=2) (j:=1) nd rfl rfl (by decide))) (yY (wB (env:=[some (.exn (.ref c.NoNumber)),none,none]) rfl mN (.tail _ (.tail _ (.head _))) (beq_self_eq_true _)) rfl))) (by decide)) ?_))
 refine qZ (zP (z0 ((rZ (a:=.lst [.bl false,.bl false,.bl true]) rfl (nQ (yY (wB (env:=[some (.exn (.ref c.NoNumber)),some (.lst [.bl false,.bl false,.bl true]),none]) rfl mN (.tail _ (.tail _ (.tail _ (.head _)))) (xK (i:=2) (j:=3) nd rfl rfl (by decide))) (yY (wB (env:=[some (.exn (.ref c.NoNumber)),some (.lst [.bl false,.bl false,.bl true]),none]) rfl mN (.tail _ (.tail _ (.tail _ (.tail _ (.head _))))) (xK (i:=2) (j:=4) nd rfl rfl (by decide))) (yY (wB (env:=[some (.exn (.ref c.NoNumber)),some (.lst [.bl false,.bl false,.bl true]),none]) rfl mN (.tail _ (.tail _ (.tail _ (.tail _ (.tail _ (.head _)))))) (xK (i:=2) (j:=5) nd rfl rfl (by decide))) rfl))) (by decide))).trans (c:=.ok (.lst [.bl false,.bl false,.bl true,.bl false,.bl false,.bl false]) S) (by kernel_rfl!)) ?_))
 refine qZ (zP (z0 ((rZ (a:=.lst [.bl false,.bl false,.bl true,.bl false,.bl false,.bl false]) rfl (nQ (yY (wB (env:=[some (.exn (.ref c.NoNumber)),some (.lst [.bl false,.bl false,.bl true,.bl false,.bl false,.bl false]),none]) rfl mN (.tail _ (.tail _ (.tail _ (.tail _ (.tail _ (.tail _ (.head _))))))) (xK (i:=2) (j:=6) nd rfl rfl (by decide))) (yY (wB (env:=[some (.exn (.ref c.NoNumber)),some (.lst [.bl false,.bl false,.bl true,.bl false,.bl false,.bl false]),none]) rfl mN (.tail _ (.tail _ (.tail _ (.tail _ (.tail _ (.tail _ (.tail _ (.head _)))))))) (xK (i:=2) (j:=7) nd rfl rfl (by decide))) (yY (wB (env:=[some (.exn (.ref c.NoNumber)),some (.lst [.bl false,.bl false,.bl true,.bl false,.bl false,.bl false]),none]) rfl mN (.tail _ (.tail _ (.tail _ (.tail _ (.tail _ (.tail _ (.tail _ (.tail _ (.head _))))))))) (xK (i:=2) (j:=8) nd rfl rfl (by decide))) rfl))) (by decide))).trans (c:=.ok (.lst [.bl false,.bl false,.bl true,.bl false,.bl false,.bl false,.bl false,.bl false,.bl false]) S) (by kernel_rfl!)) ?_))
 refine qZ (zP (z0 ((rZ (a:=.lst [.bl false,.bl false,.bl true,.bl false,.bl false,.bl false,.bl false,.bl false,.bl false]) rfl (nQ (yY (wB (env:=[some (.exn (.ref c.NoNumber)),some (.lst [.bl false,.bl false,.bl true,.bl false,.bl false,.bl false,.bl false,.bl false,.bl false]),none]) rfl mN (.tail _ (.tail _ (.tail _ (.tail _ (.tail _ (.tail _ (.tail _ (.tail _ (.tail _ (.head _)))))))))) (xK (i:=2) (j:=9) nd rfl rfl (by decide))) (yY (wB (env:=[some (.exn (.ref c.NoNumber)),some (.lst [.bl false,.bl false,.bl true,.bl false,.bl false,.bl false,.bl false,.bl false,.bl false]),none]) rfl mN (.tail _ (.tail _ (.tail _ (.tail _ (.tail _ (.tail _ (.tail _ (.tail _ (.tail _ (.tail _ (.head _))))))))))) (xK (i:=2) (j:=10) nd rfl rfl (by decide))) rfl)) (by decide))).trans (c:=.ok (.lst [.bl false,.bl false,.bl true,.bl false,.bl false,.bl false,.bl false,.bl false,.bl false,.bl false,.bl false]) S) (by kernel_rfl!)) ?_))
 refine qZ (xM (b:=false) (S1:=S) (UT (UH (c6 (UB (env:=[some (.exn (.ref c.NoNumber)),some (.lst [.bl false,.bl false,.bl true,.bl false,.bl false,.bl false,.bl false,.bl false,.bl false,.bl false,.bl false]),none]) rfl mN))) (by kernel_rfl!)) (x9 (env:=[some (.exn (.ref c.NoNumber)),some (.lst [.bl false,.bl false,.bl true,.bl false,.bl false,.bl false,.bl false,.bl false,.bl false,.bl false,.bl false]),none]) (S:=S) rfl ?_))
 refine qZ (xM (c6 (wB (env:=[some (.exn (.ref c.NoNumber)),some (.lst [.bl false,.bl false,.bl true,.bl false,.bl false,.bl false,.bl false,.bl false,.bl false,.bl false,.bl false]),none]) rfl mN (.tail _ (.tail _ (.tail _ (.tail _ (.tail _ (.tail _ (.tail _ (.tail _ (.tail _ (.head _)))))))))) (xK (i:=2) (j:=9) nd rfl rfl (by decide)))) (x9 (env:=[some (.exn (.ref c.NoNumber)),some (.lst [.bl false,.bl false,.bl true,.bl false,.bl false,.bl false,.bl false,.bl false,.bl false,.bl false,.bl false]),none]) (S:=S) rfl ?_))
 refine qZ (xM (c6 (wB (env:=[some (.exn (.ref c.NoNumber)),some (.lst [.bl false,.bl false,.bl true,.bl false,.bl false,.bl false,.bl false,.bl false,.bl false,.bl false,.bl false]),none]) rfl mN (.tail _ (.tail _ (.tail _ (.tail _ (.tail _ (.tail _ (.tail _ (.tail _ (.tail _ (.tail _ (.head _))))))))))) (xK (i:=2) (j:=10) nd rfl rfl (by decide)))) (x9 (env:=[some (.exn (.ref c.NoNumber)),some (.lst [.bl false,.bl false,.bl true,.bl false,.bl false,.bl false,.bl false,.bl false,.bl false,.bl false,.bl false]),none]) (S:=S) rfl ?_))
 exact JD (d:=.str "number") (S:=S) (by kernel_rfl!) ⟨rfl,rfl⟩
theorem iY (d:D)(b c a:String)(S:Sto)(h1:xB b=true)(h2:xB c=true)(h:tyD d S=some a):jT [d,.tup [.ty b,.ty c]] S=.ok (.bl (z9 a b||z9 a c)) S:=by
 show (if xB b=true∧xB c=true then (match tyD d S with|some a=>Res.ok (D.bl (z9 a b||z9 a c)) S|none=>.bad) else .bad)=_
 rw[if_pos ⟨h1,h2⟩,h]
theorem hZ (F:DF)(i:Int)(S:Sto):qQ 2 (b__law_same F) [.int i,.int i] S=.ok (.bl true) S:=by
 have l2:2≤lim:=by decide
 simp[qQ,yK,oM,GM,oK,qP,sIf,qW,zH,xD,zD,gNm,gSb,gTp,yJ,gC,pK,KS,P7,dC,qB,d1,d2,qA,qC,qM,qJ,dTr,zS,xX,wR,uM,yN,nP,f7,wI,zW,nO,dBm,dSl,wV,GP,xW,gX,Res.bind,Res.toS,_D.hX,_D.yP,GR,GN,gQ,GY,GT,GU,GV,GS,GL,GK,GQ,gLt,gLe,gGt,gGe,_D.zL,GW,XU,iY _ _ _ _ S yD.2.2.2.1 yD.2.2.1 (gQ i S),jE _ _ _ S yD.1 (gQ i S),jE _ _ _ S yD.2.1 (gQ i S),jE _ _ _ S yD.2.2.2.2 (gQ i S),Q9,XQ,uB,l2]
theorem lA (i:Int)(S:Sto):S__law_same [.int i,.int i] S=.ok (.bl true) S:=by
 rw[u9]
 exact hZ _ i S
end _K
end
section
namespace _K
open PySem _D
def bs (p:Int→Bool):Nat→Int→Int→Int
 |0,lo,_=>lo
 |n+1,lo,hi=>if lo<hi then (if p ((lo+hi)/2) then bs p n lo ((lo+hi)/2) else bs p n ((lo+hi)/2+1) hi) else lo
theorem K4 (p:Int→Bool)(n:Nat)(lo hi:Int):bs p (n+1) lo hi=if lo<hi then (if p ((lo+hi)/2) then bs p n lo ((lo+hi)/2) else bs p n ((lo+hi)/2+1) hi) else lo:=rfl
theorem Z5 (p:Int→Bool)(k:Nat)(lo hi:Int)(h:hi≤lo):bs p k lo hi=lo:=by
 cases k with
 |zero=>rfl
 |succ k=>unfold bs;rw[if_neg (by omega)]
theorem bC (p:Int→Bool)(M:Int):∀ (k:Nat) (lo hi:Int),(hi-lo).toNat≤k→0≤lo→lo≤hi→hi≤M→(hi<M→p hi=true)→(0<lo→p (lo-1)=false) →
  0≤bs p k lo hi∧bs p k lo hi≤M∧(bs p k lo hi<M→p (bs p k lo hi)=true)∧(0<bs p k lo hi→p (bs p k lo hi-1)=false)
 |0,lo,hi,hk,h0,h1,h2,h3,h4=>by
  have e:hi=lo:=by omega
  subst e
  exact⟨h0,h2,h3,h4⟩
 |k+1,lo,hi,hk,h0,h1,h2,h3,h4=>by
  unfold bs
  by_cases h:lo<hi
  ·rw[if_pos h]
   cases hp:p ((lo+hi)/2) with
   |true=>rw[if_pos rfl];exact bC p M k lo _ (by omega) h0 (by omega) (by omega) (fun _=>hp) h4
   |false=>rw[if_neg Bool.false_ne_true];exact bC p M k _ hi (by omega) (by omega) (by omega) h2 h3 (fun _=>by rw[Int.add_sub_cancel];exact hp)
  ·rw[if_neg h]
   have e:hi=lo:=by omega
   subst e
   exact⟨h0,h2,h3,h4⟩
theorem KA {i:Nat}{f:DE}{a:Addr}{cv:List _L.V}{G:List D→DF}{env:qD}{S S1:Sto}{d:D}{caps:List D}(h:env[i]? = some (some (.clo a cv caps)))(k:f env S=.ok d S1):wU i (qA f (qC)) a cv 1 G env S=G caps [d] S1:=by
 unfold wU
 rw[h]
 show (if a=a∧cv=cv then _ else _)=_
 rw[if_pos ⟨rfl,rfl⟩,kY k]
 rfl
theorem K9 {i:Nat}{a:Addr}{cv:List _L.V}{G:List D→DF}{env:qD}{S:Sto}{caps:List D}(h:env[i]? = some (some (.clo a cv caps))):wU i (qC) a cv 0 G env S=G caps [] S:=by
 unfold wU
 rw[h]
 show (if a=a∧cv=cv then _ else _)=_
 rw[if_pos ⟨rfl,rfl⟩]
 rfl
theorem YZ (G:List D→DF)(caps:List D)(p:Int→Bool)(M:Int)(S:Sto)(hM:0≤M∧M<1000000000000000000)(hG:∀ t,0≤t→t<M→G caps [.int t] S=.ok (.bl (p t)) S)(a:Addr)(cv:List _L.V) :
  qQ 5 (b_least_where G a cv) [.clo a cv caps,.int M] S=.ok (.int (bs p M.toNat 0 M)) S:=by
 refine xS (env:=[some (.clo a cv caps),some (.int M),none,none,none]) rfl ?_
 refine qZ (zP (z0 rfl ?_))
 refine qZ (zP (z0 rfl ?_))
 refine qZ (eN (fun n env S'=>∃ (lo hi:Int) (e:Option D) (k:Nat),env=[some (.clo a cv caps),some (.int M),some (.int lo),some (.int hi),e]∧S'=S∧n=(hi-lo).toNat∧0≤lo∧lo≤hi∧hi≤M∧(hi-lo).toNat≤k∧bs p k lo hi=bs p M.toNat 0 M) (fun n env S' h=>?_) (n:=M.toNat) (by rw[Z4];omega)
  ⟨0,M,none,M.toNat,rfl,rfl,by omega,by omega,by omega,by omega,by omega,rfl⟩)
 obtain⟨lo,hi,e,k,rfl,rfl,rfl,h0,h1,h2,h3,h4⟩:=h
 refine⟨decide (lo<hi),S',zI rfl,?_⟩
 by_cases hl:lo<hi
 ·rw[decide_eq_true hl,if_pos rfl]
  have hd:d2 wW (d2 qX (qB 2) (qB 3)) (dC (.int 2)) [some (.clo a cv caps),some (.int M),some (.int lo),some (.int hi),e] S'=.ok (.int ((lo+hi)/2)) S':=(qN ((qN rfl rfl).trans (zX lo hi S')) rfl).trans (yC _ 2 S' (by omega))
  refine wY (zP (z0 hd ?_))
  cases k with
  |zero=>omega
  |succ k =>
   rw[K4,if_pos hl] at h4
   refine xM (zI ((KA rfl rfl).trans (hG ((lo+hi)/2) (by omega) (by omega)))) ?_
   cases hp:p ((lo+hi)/2) with
   |true =>
    rw[hp,if_pos rfl] at h4
    rw[if_pos rfl]
    exact zP (z0 rfl ⟨_,by omega,lo,(lo+hi)/2,_,k,rfl,rfl,rfl,by omega,by omega,by omega,by omega,h4⟩)
   |false =>
    rw[hp,if_neg Bool.false_ne_true] at h4
    rw[if_neg Bool.false_ne_true]
    exact zP (z0 ((qN rfl rfl).trans (zX _ 1 S')) ⟨_,by omega,(lo+hi)/2+1,hi,_,k,rfl,rfl,rfl,by omega,by omega,by omega,by omega,h4⟩)
 ·rw[decide_eq_false hl,if_neg Bool.false_ne_true]
  rw[Z5 p k lo hi (by omega)] at h4
  exact xH (z0 rfl ⟨by rw[h4],rfl⟩)
def gD (n:Int):Int→Bool:=fun t=>decide (n-1≤t*t+t)
def zA (n:Int):Int:=bs (gD n) (1000000000:Int).toNat 0 1000000000
theorem lJ {nx:Bool}{cap:List Nat}{N:Nat}{f:DE}{g:Addr→List _L.V→DS}{env:qD}{S S1:Sto}{caps:List D}{d:D}{R:Res D}(h:j8 cap env=some caps)(k:f env S=.ok d S1)(e:∀ a cv,qQ N (g a cv) [.clo a cv caps,d] S1=R)(hR:exO nx R=R) :
  x6 nx cap 2 N (qA f (qC)) g env S=R:=by
 unfold x6
 rw[h]
 show (qA f (qC) env S).bind _=_
 rw[kY k]
 show (if 1+1=2 then exO nx (uni fun a cv=>qQ N (g a cv) [.clo a cv caps,d] S1) else .bad)=_
 rw[if_pos rfl,sQ e,hR]
theorem bU {nx:Bool}{cap:List Nat}{N:Nat}{g:Addr→List _L.V→DS}{env:qD}{S:Sto}{caps:List D}{R:Res D}(h:j8 cap env=some caps)(e:∀ a cv,qQ N (g a cv) [.clo a cv caps] S=R)(hR:exO nx R=R) :
  x6 nx cap 1 N (qC) g env S=R:=by
 unfold x6
 rw[h]
 show (if 0+1=1 then exO nx (uni fun a cv=>qQ N (g a cv) [.clo a cv caps] S) else .bad)=_
 rw[if_pos rfl,sQ e,hR]
theorem fU (c:Cl)(n:Int)(S:Sto)(h:1≤n∧n≤1000000000000000000):S_by_hull c [.int n] S=.ok (.int (zA n)) S:=by
 rw[yW]
 refine xS (env:=[some (.int n)]) rfl ?_
 refine qZ (pF (z0 ((uJ rfl rfl ((qN rfl rfl).trans (gK S))).trans (fV n 1 1000000000000000000 S c h)) ?_))
 refine xH (z0 (lJ (caps:=[.int n]) rfl ((qN rfl rfl).trans (cT S)) (fun a cv=>YZ _ [.int n] (gD n) 1000000000 S (by omega) (fun t h0 h1=>?_) a cv) rfl) ⟨rfl,rfl⟩)
 have k:d2 gGe (d2 qX (d2 qU (qB 0) (qB 0)) (qB 0)) (d2 zL (qB 1) (dC (.int 1))) [some (.int t),some (.int n)] S=.ok (.bl (decide (n-1≤t*t+t))) S:=
  qN (a:=.int (t*t+t)) (b:=.int (n-1)) ((qN ((qN rfl rfl).trans (xF t t S ⟨by omega,by omega⟩)) rfl).trans (zX _ _ S)) rfl
 exact k
theorem iR (n:Int)(h:1≤n∧n≤1000000000000000000):0≤zA n∧zA n≤1000000000∧n-1≤zA n*zA n+zA n∧(zA n=0∨zA n*zA n-zA n<n-1):=by
 obtain⟨a,b,e,f⟩:=bC (gD n) 1000000000 (1000000000:Int).toNat 0 1000000000 (by omega) (by omega) (by omega) (by omega) (fun z=>by omega) (fun z=>by omega)
 refine⟨a,b,?_,?_⟩
 ·by_cases z:bs (gD n) (1000000000:Int).toNat 0 1000000000<1000000000
  ·exact of_decide_eq_true (e z)
  ·have e2:zA n=1000000000:=by unfold zA;omega
   rw[e2];omega
 ·by_cases z:0<bs (gD n) (1000000000:Int).toNat 0 1000000000
  ·right
   have g:=of_decide_eq_false (f z)
   have e3:(zA n-1)*(zA n-1)+(zA n-1)=zA n*zA n-zA n:=by
    rw[Int.sub_mul,Int.mul_sub];omega
   have g':¬ (n-1≤(zA n-1)*(zA n-1)+(zA n-1)):=g
   rw[e3] at g';omega
  ·left;unfold zA;omega
end _K
end
section
namespace _K
open PySem _D
def mp (s:Int):Int:=s*(s-1)/2
theorem jI (s:Int):2*mp s=s*(s-1):=by
 unfold mp
 have h:s*(s-1) % 2=0:=by
  rcases Int.emod_two_eq s with h|h
  ·rw[Int.mul_emod,h];simp
  ·have h2:(s-1) % 2=0:=by omega
   rw[Int.mul_emod,h2];simp
 omega
def shs (w n:Int):Int:=n*mp (w/n)+w % n*(w/n)
theorem V0 (s:Int)(S:Sto)(h:0≤s∧s<1000000000000000):S_many_pairs [.int s] S=.ok (.int (mp s)) S:=by
 rw[vH]
 refine xS (env:=[some (.int s)]) rfl ?_
 exact xH (z0 ((qN ((qN rfl (qN (o:=_D.zL) (a:=.int s) (b:=.int 1) rfl rfl)).trans (xF s (s-1) S ⟨by omega,by omega⟩)) rfl).trans (yC _ 2 S (by omega))) ⟨rfl,rfl⟩)
theorem JA (w n:Int)(S:Sto)(hw:0≤w∧w≤4000000000000)(hn:1≤n∧n≤1000000):S_pairs_of_shares [.int w,.int n] S=.ok (.int (shs w n)) S:=by
 have q0:0≤w/n:=Int.ediv_nonneg hw.1 (by omega)
 have q1:w/n≤w:=Int.ediv_le_self _ hw.1
 have m0:0≤w % n:=Int.emod_nonneg _ (by omega)
 have m1:w % n<n:=Int.emod_lt_of_pos _ (by omega)
 rw[wO]
 refine xS (env:=[some (.int w),some (.int n),none,none]) rfl ?_
 have k:uA [.int w,.int n] S=.ok (.tup [.int (w/n),.int (w % n)]) S:=if_pos ⟨by omega,by omega,by omega,by omega⟩
 refine qZ (tH ((bT rfl rfl).trans k) (env1:=[some (.int w),some (.int n),some (.int (w/n)),some (.int (w % n))]) (S2:=S) rfl ?_)
 exact xH (z0 ((qN ((qN rfl ((zJ rfl).trans (V0 (w/n) S ⟨by omega,by omega⟩))).trans (xF n _ S ⟨by omega,by omega⟩)) ((qN rfl rfl).trans (xF (w % n) (w/n) S ⟨by omega,by omega⟩))).trans (zX _ _ S)) ⟨rfl,rfl⟩)
def gJ (n:Int):Int→Bool:=fun e=>decide (n*(n-1)<shs (2*e) n)
def wF (n:Int):Int:=bs (gJ n) (n*n).toNat 0 (n*n)
def pb (n:Int):Int:=wF n-1
theorem bK (n:Int)(h:1≤n∧n≤1000000):1≤n*n∧n*n≤1000000000000:=by
 constructor
 ·exact Int.le_trans (by omega) (Int.mul_le_mul_of_nonneg_left h.1 (by omega))
 ·exact Int.le_trans (Int.mul_le_mul_of_nonneg_left h.2 (by omega)) (by omega)
theorem V1 (c:Cl)(n:Int)(S:Sto)(h:1≤n∧n≤1000000):S_pair_bound c [.int n] S=.ok (.int (pb n)) S:=by
 have hq:=bK n h
 rw[wN]
 refine xS (env:=[some (.int n)]) rfl ?_
 refine qZ (pF (z0 ((uJ rfl rfl ((qN rfl rfl).trans (jY S))).trans (fV n 1 1000000 S c h)) ?_))
 refine xH (z0 (qN (o:=_D.zL) (a:=.int (wF n)) (b:=.int 1) (lJ (caps:=[.int n]) rfl ((qN rfl rfl).trans (xF n n S ⟨by omega,by omega⟩)) (fun a cv=>YZ _ [.int n] (gJ n) (n*n) S (by omega) (fun t h0 h1=>?_) a cv) rfl) rfl) ⟨rfl,rfl⟩)
 have k:d2 gGt (qJ 2 S_pairs_of_shares (qA (d2 qU (dC (.int 2)) (qB 0)) (qA (qB 1) (qC)))) (d2 qU (qB 1) (d2 zL (qB 1) (dC (.int 1)))) [some (.int t),some (.int n)] S=.ok (.bl (decide (n*(n-1)<shs (2*t) n))) S:=
  qN (a:=.int (shs (2*t) n)) (b:=.int (n*(n-1))) ((vJ ((qN rfl rfl).trans (xF 2 t S ⟨by omega,by omega⟩)) rfl).trans (JA (2*t) n S ⟨by omega,by omega⟩ h)) ((qN rfl (qN (o:=_D.zL) (a:=.int n) (b:=.int 1) rfl rfl)).trans (xF n (n-1) S ⟨by omega,by omega⟩))
 exact k
theorem UE {s t:Int}(h0:1≤s)(h:s≤t):mp s≤mp t:=by
 have e1:=jI s
 have e2:=jI t
 have:s*(s-1)≤t*(t-1):=Int.mul_le_mul h (by omega) (by omega) (by omega)
 omega
theorem JG (n:Int)(h:1≤n):shs 0 n=0:=by
 unfold shs
 simp[mp]
theorem JH (n:Int)(h:2≤n):shs 2 n=0:=by
 unfold shs
 by_cases e:n=2
 ·subst e;rfl
 ·have h1:(2:Int)/n=0:=Int.ediv_eq_zero_of_lt (by omega) (by omega)
  rw[h1];simp[mp]
theorem bG (n:Int)(h:1≤n∧n≤1000000):0≤pb n∧shs (2*pb n) n≤n*(n-1)∧n*(n-1)<shs (2*(pb n+1)) n∧pb n<1073741824∧(2≤n→1≤pb n)∧pb n<n*n:=by
 have hq:=bK n h
 obtain⟨a,b,e,f⟩:=bC (gJ n) (n*n) (n*n).toNat 0 (n*n) (by omega) (by omega) (by omega) (by omega) (fun z=>by omega) (fun z=>by omega)
 have a:0≤wF n:=a
 have b:wF n≤n*n:=b
 have e:wF n<n*n→gJ n (wF n)=true:=e
 have f:0<wF n→gJ n (wF n-1)=false:=f
 have nn:0≤n*(n-1):=Int.mul_nonneg (by omega) (by omega)
 have r0:0<wF n:=by
  rcases Int.lt_or_eq_of_le a with z|z
  ·exact z
  ·rw[← z] at e
   have:=of_decide_eq_true (e (by omega))
   rw[Int.mul_zero,JG n h.1] at this
   omega
 have k1:shs (2*pb n) n≤n*(n-1):=Int.not_lt.mp (of_decide_eq_false (f r0))
 have k2:n*(n-1)<shs (2*(pb n+1)) n:=by
  have e0:pb n+1=wF n:=by unfold pb;omega
  rw[e0]
  by_cases z:wF n<n*n
  ·exact of_decide_eq_true (e z)
  ·have z:wF n=n*n:=by omega
   rw[z]
   unfold shs
   have e1:2*(n*n)/n=2*n:=by rw[← Int.mul_assoc];exact Int.mul_ediv_cancel _ (by omega)
   have e2:2*(n*n) % n=0:=by rw[← Int.mul_assoc];exact Int.mul_emod_left _ _
   rw[e1,e2,Int.zero_mul,Int.add_zero]
   have e3:=jI (2*n)
   have e4:2*n*(2*n-1)=2*(n*(2*n-1)):=by rw[Int.mul_assoc]
   have e5:mp (2*n)=n*(2*n-1):=by omega
   rw[e5]
   refine Int.mul_lt_mul_of_pos_left ?_ (by omega)
   have:1*(2*n-1)≤n*(2*n-1):=Int.mul_le_mul_of_nonneg_right h.1 (by omega)
   omega
 refine⟨by unfold pb;omega,k1,k2,?_,fun h2=>?_,by unfold pb;omega⟩
 ·refine Int.not_le.mp fun hb=>?_
  have s1:2147≤2*pb n/n:=by
   refine(Int.le_ediv_iff_mul_le (by omega)).mpr ?_
   have:2147*n≤2147*1000000:=Int.mul_le_mul_of_nonneg_left h.2 (by omega)
   omega
  have s2:mp 2147≤mp (2*pb n/n):=UE (by omega) s1
  have s3:mp 2147=2303731:=rfl
  have s4:0≤2*pb n % n*(2*pb n/n):=Int.mul_nonneg (Int.emod_nonneg _ (by omega)) (by omega)
  have s5:n*2303731≤n*mp (2*pb n/n):=Int.mul_le_mul_of_nonneg_left (by omega) (by omega)
  have s6:n*(n-1)≤n*1000000:=Int.mul_le_mul_of_nonneg_left (by omega) (by omega)
  unfold shs at k1
  omega
 ·refine Int.not_lt.mp fun hb=>?_
  have z:wF n=1:=by unfold pb at hb;omega
  have h4:4≤n*n:=Int.mul_le_mul h2 h2 (by omega) (by omega)
  have g:=of_decide_eq_true (e (by omega))
  rw[z,show (2:Int)*1=2 from rfl,JH n h2] at g
  omega
def bp (n:Int):Int:=if n=1 then 0 else (mp n+pb n-1)/pb n
theorem YX (c:Cl)(n:Int)(S:Sto)(h:1≤n∧n≤1000000):S_by_pairs c [.int n] S=.ok (.int (bp n)) S:=by
 obtain⟨p0,_,_,p3,p4,_⟩:=bG n h
 rw[yL]
 refine xS (env:=[some (.int n),none]) rfl ?_
 refine qZ (zP (z0 ((zJ rfl).trans (V1 c n S h)) ?_))
 unfold bp
 by_cases h1:n=1
 ·subst h1
  exact xH (z0 (d:=.int 0) (S:=S) rfl ⟨by rw[if_pos rfl],rfl⟩)
 ·rw[if_neg h1]
  have t:dTr (d2 gEq (qB 0) (dC (.int 1))) [some (.int n),some (.int (pb n))] S=.ok false S:=zI (((qN rfl rfl).trans (uB n 1 S)).trans (by rw[decide_eq_false h1]))
  refine xH (z0 (d:=.int ((mp n+pb n-1)/pb n)) (S:=S) ?_ ⟨rfl,rfl⟩)
  show dIf _ _ _ _ _=_
  unfold dIf
  show (dTr (d2 gEq (qB 0) (dC (.int 1))) [some (.int n),some (.int (pb n))] S).bind _=_
  rw[t]
  exact(qN (qN (o:=_D.zL) (a:=.int (mp n+pb n)) (b:=.int 1) ((qN ((zJ rfl).trans (V0 n S ⟨by omega,by omega⟩)) rfl).trans (zX _ _ S)) rfl) rfl).trans (yC _ (pb n) S ⟨by have:=p4 (by omega);omega,p3⟩)
def bar (n:Int):Int:=if bp n>zA n then bp n else zA n
theorem J8 (c:Cl)(n:Int)(S:Sto)(h:1≤n∧n≤1000000):S_bar c [.int n] S=.ok (.int (bar n)) S:=by
 rw[kE]
 refine xS (env:=[some (.int n)]) rfl ?_
 refine qZ (pF (z0 ((uJ rfl rfl ((qN rfl rfl).trans (jY S))).trans (fV n 1 1000000 S c h)) ?_))
 exact xH (z0 (d:=.int (bar n)) (S:=S) ((bT ((zJ rfl).trans (fU c n S ⟨h.1,by omega⟩)) ((zJ rfl).trans (YX c n S h))).trans rfl) ⟨rfl,rfl⟩)
end _K
end
section
namespace _K
open PySem _D
theorem kO (i:Int)(S:Sto):S__law_whole [.int i] S=.ok (.bl true) S:=by
 rw[vG]
 kernel_rfl!
theorem nG {f g:DT}{env:qD}{S:Sto}{a b:Bool}(h:f env S=.ok a S)(k:g env S=.ok b S):wR f g env S=.ok (a&&b) S:=by
 unfold wR
 rw[h]
 cases a with
 |false=>rfl
 |true=>exact k
theorem jL {f g:DT}{env:qD}{S:Sto}{a b:Bool}(h:f env S=.ok a S)(k:g env S=.ok b S):xX f g env S=.ok (a||b) S:=UU h (fun _=>k) fun _=>rfl
theorem KR {f g:DE}{env:qD}{S:Sto}{a b:Bool}(h:f env S=.ok (.bl a) S)(k:g env S=.ok (.bl b) S):dOr f g env S=.ok (.bl (a||b)) S:=by
 unfold dOr
 rw[h]
 cases a with
 |true=>rfl
 |false=>exact k
theorem pD {f g:DE}{env:qD}{S:Sto}{i j:Int}(h:f env S=.ok (.int i) S)(k:g env S=.ok (.int j) S):d2 gLt f g env S=.ok (.bl (decide (i<j))) S:=qN h k
theorem KG {f g:DE}{env:qD}{S:Sto}{i j:Int}(h:f env S=.ok (.int i) S)(k:g env S=.ok (.int j) S):d2 gGe f g env S=.ok (.bl (decide (j≤i))) S:=qN h k
theorem KH {f g:DE}{env:qD}{S:Sto}{i j:Int}(h:f env S=.ok (.int i) S)(k:g env S=.ok (.int j) S):d2 gGt f g env S=.ok (.bl (decide (j<i))) S:=qN h k
theorem eF {f g:DE}{env:qD}{S:Sto}{i j:Int}(h:f env S=.ok (.int i) S)(k:g env S=.ok (.int j) S):d2 gLe f g env S=.ok (.bl (decide (i≤j))) S:=qN h k
theorem KC {f g:DE}{env:qD}{S:Sto}{i j:Int}(h:f env S=.ok (.int i) S)(k:g env S=.ok (.int j) S):d2 gEq f g env S=.ok (.bl (decide (i=j))) S:=(qN h k).trans (uB i j S)
theorem vR {f g:DE}{env:qD}{S:Sto}{i j:Int}(h:f env S=.ok (.int i) S)(k:g env S=.ok (.int j) S):d2 zL f g env S=.ok (.int (i-j)) S:=qN h k
theorem vI {f g:DE}{env:qD}{S:Sto}{i j:Int}(h:f env S=.ok (.int i) S)(k:g env S=.ok (.int j) S):d2 qX f g env S=.ok (.int (i+j)) S:=(qN h k).trans (zX i j S)
theorem wD {f g:DE}{env:qD}{S:Sto}{i j:Int}(h:f env S=.ok (.int i) S)(k:g env S=.ok (.int j) S)(b : -(2 ^ 64)<i∧i<2 ^ 64):d2 qU f g env S=.ok (.int (i*j)) S:=(qN h k).trans (xF i j S b)
theorem okb {S:Sto}{a b:Bool}(e:a=b):(Res.ok a S:Res Bool)=.ok b S:=by rw[e]
def nH (n m:Int):Bool:=decide (shs (2*m) n≤n*(n-1))
theorem Z8 (n s r:Int):r*(s+1)*s+(n-r)*s*(s-1)=2*(n*mp s+r*s):=by
 have e:=jI s
 have h1:2*(n*mp s+r*s)=n*(2*mp s)+2*(r*s):=by rw[Int.mul_add,Int.mul_left_comm]
 rw[h1,e]
 have a1:r*(s+1)*s=r*s*s+r*s:=by rw[Int.mul_add,Int.mul_one,Int.add_mul]
 have a2:(n-r)*s*(s-1)=n*(s*(s-1))-(r*s*s-r*s):=by
  rw[Int.sub_mul,Int.sub_mul,Int.mul_assoc n,Int.mul_sub (r*s),Int.mul_one]
 rw[a1,a2];omega
theorem cY (n m:Int)(S:Sto)(hn:1≤n∧n≤1000000)(hm:0≤m∧m≤1000000000001):S__law_can [.int n,.int m] S=.ok (.bl (nH n m)) S:=by
 have q0:0≤2*m/n:=Int.ediv_nonneg (by omega) (by omega)
 have q1:2*m/n≤2*m:=Int.ediv_le_self _ (by omega)
 have m0:0≤2*m % n:=Int.emod_nonneg _ (by omega)
 have m1:2*m % n<n:=Int.emod_lt_of_pos _ (by omega)
 rw[uX]
 refine xS (env:=[some (.int n),some (.int m),none,none,none]) rfl ?_
 have k2:d2 qU (dC (.int 2)) (qB 1) [some (.int n),some (.int m),none,none,none] S=.ok (.int (2*m)) S:=wD rfl rfl ⟨by omega,by omega⟩
 refine qZ (WJ ((qN k2 rfl).trans (yC _ n S ⟨by omega,by omega⟩)) ((qN k2 rfl).trans (yS _ n S (by omega))) ?_)
 have b1:2*m % n*(2*m/n+1)<1000000*2000000000004:=by
  have:=Int.mul_le_mul (show 2*m % n≤1000000 by omega) (show 2*m/n+1≤2000000000003 by omega) (by omega) (by omega)
  omega
 have b2:0≤2*m % n*(2*m/n+1):=Int.mul_nonneg m0 (by omega)
 have b3:0≤(n-2*m % n)*(2*m/n):=Int.mul_nonneg (by omega) q0
 have b4:(n-2*m % n)*(2*m/n)<1000000*2000000000004:=by
  have:=Int.mul_le_mul (show n-2*m % n≤1000000 by omega) (show 2*m/n≤2000000000003 by omega) (by omega) (by omega)
  omega
 refine qZ (zP (z0 (vI (i:=2*m % n*(2*m/n+1)*(2*m/n)) (j:=(n-2*m % n)*(2*m/n)*(2*m/n-1)) (wD (wD rfl (vI (i:=2*m/n) (j:=1) rfl rfl) ⟨by omega,by omega⟩) rfl ⟨by omega,by omega⟩) (wD (wD (vR (i:=n) (j:=2*m % n) rfl rfl) rfl ⟨by omega,by omega⟩) (vR (i:=2*m/n) (j:=1) rfl rfl) ⟨by omega,by omega⟩)) ?_))
 refine xH (z0 (eF rfl (wD (wD (i:=2) (j:=n) rfl rfl ⟨by omega,by omega⟩) (vR (i:=n) (j:=1) rfl rfl) ⟨by omega,by omega⟩)) ⟨?_,rfl⟩)
 rw[Z8 n (2*m/n) (2*m % n),Int.mul_assoc 2 n]
 unfold nH shs
 congr 1
 exact Bool.eq_iff_iff.mpr (by rw[decide_eq_true_eq,decide_eq_true_eq];omega)
theorem vA (c:Cl)(n:Int)(S:Sto)(h:1≤n∧n≤1000000000000000000):S__law_hull_right c [.int n] S=.ok (.bl true) S:=by
 obtain⟨a,b,e,f⟩:=iR n h
 rw[wM]
 refine xS (env:=[some (.int n),none]) rfl ?_
 refine qZ (zP (z0 ((zJ rfl).trans (fU c n S h)) ?_))
 have hh : -(2 ^ 64)<zA n∧zA n<2 ^ 64:=⟨by omega,by omega⟩
 refine qZ (xM (b:=false) (S1:=S) ((jL (wX (zI ((zJ rfl).trans (kO (zA n) S)))) (jL (zI (pD (i:=zA n) (j:=0) rfl rfl)) (zI (pD (vI (wD (i:=zA n) (j:=zA n) rfl rfl hh) rfl) (vR (i:=n) (j:=1) rfl rfl))))).trans (okb ?_)) (x9 rfl ?_))
 ·rw[decide_eq_false (show ¬ zA n<0 by omega),decide_eq_false (show ¬ zA n*zA n+zA n<n-1 by omega)];rfl
 refine xH (z0 (KR (KC (i:=zA n) (j:=0) rfl rfl) (pD (vR (wD (i:=zA n) (j:=zA n) rfl rfl hh) rfl) (vR (i:=n) (j:=1) rfl rfl))) ⟨?_,rfl⟩)
 rcases f with z|z
 ·rw[decide_eq_true z,Bool.true_or]
 ·rw[decide_eq_true z,Bool.or_true]
theorem VM (n:Int)(h:1≤n∧n≤1000000):0≤bp n∧mp n≤bp n*pb n∧¬ (0<bp n∧mp n≤(bp n-1)*pb n)∧bp n<2000000000000:=by
 obtain⟨p0,_,_,_,p4,_⟩:=bG n h
 have e2:=jI n
 have sq:=bK n h
 have e3:n*(n-1)=n*n-n:=by rw[Int.mul_sub,Int.mul_one]
 unfold bp
 by_cases h1:n=1
 ·subst h1
  rw[if_pos rfl]
  have:mp 1=0:=rfl
  exact⟨by omega,by omega,fun z=>by omega,by omega⟩
 ·rw[if_neg h1]
  have pp:1≤pb n:=p4 (by omega)
  have m0:0≤mp n:=by
   have:0≤n*(n-1):=Int.mul_nonneg (by omega) (by omega)
   omega
  have d1:=Int.emod_add_mul_ediv (mp n+pb n-1) (pb n)
  have d2:=Int.emod_nonneg (mp n+pb n-1) (show pb n≠0 by omega)
  have d3:=Int.emod_lt_of_pos (mp n+pb n-1) (show 0<pb n by omega)
  have q0:0≤(mp n+pb n-1)/pb n:=Int.ediv_nonneg (by omega) (by omega)
  have c1:(mp n+pb n-1)/pb n*pb n=pb n*((mp n+pb n-1)/pb n):=Int.mul_comm _ _
  refine⟨q0,by omega,fun z=>?_,?_⟩
  ·have c2:((mp n+pb n-1)/pb n-1)*pb n=(mp n+pb n-1)/pb n*pb n-pb n:=by rw[Int.sub_mul,Int.one_mul]
   omega
  ·have q1:(mp n+pb n-1)/pb n≤mp n+pb n-1:=Int.ediv_le_self _ (by omega)
   have:=(bG n h).2.2.2.1
   omega
theorem yO (c:Cl)(n:Int)(S:Sto)(h:1≤n∧n≤1000000):S__law_pairs_right c [.int n] S=.ok (.bl true) S:=by
 obtain⟨p0,p1,p2,p3,p4,p5⟩:=bG n h
 obtain⟨b0,b1,b2,b3⟩:=VM n h
 have sq:=bK n h
 rw[wJ]
 refine xS (env:=[some (.int n),none,none,none]) rfl ?_
 have k3:d2 wW (d2 qU (qB 0) (d2 zL (qB 0) (dC (.int 1)))) (dC (.int 2)) [some (.int n),none,none,none] S=.ok (.int (mp n)) S:=(qN (wD (i:=n) rfl (vR (i:=n) (j:=1) rfl rfl) ⟨by omega,by omega⟩) rfl).trans (yC _ 2 S (by omega))
 have k0:k8 1 2 3 (qA (qJ 1 (S_pair_bound c) (qA (qB 0) (qC))) (qA (qJ 1 (S_by_pairs c) (qA (qB 0) (qC))) (qA (d2 wW (d2 qU (qB 0) (d2 zL (qB 0) (dC (.int 1)))) (dC (.int 2))) (qC)))) [some (.int n),none,none,none] S=.nx [some (.int n),some (.int (pb n)),some (.int (bp n)),some (.int (mp n))] S:=by
  unfold k8
  rw[x8 ((zJ rfl).trans (V1 c n S h)) (x8 ((zJ rfl).trans (YX c n S h)) (x8 k3 rfl))]
  rfl
 refine qZ (x9 k0 ?_)
 refine qZ (xM (b:=false) (S1:=S) ((jL (wX (zI ((zJ rfl).trans (kO (pb n) S)))) (jL (wX (zI ((zJ rfl).trans (kO (bp n) S)))) (jL (zI (pD (i:=pb n) (j:=0) rfl rfl)) (zI (pD (i:=bp n) (j:=0) rfl rfl))))).trans (okb ?_)) (x9 rfl ?_))
 ·rw[decide_eq_false (show ¬ pb n<0 by omega),decide_eq_false (show ¬ bp n<0 by omega)];rfl
 refine qZ (xM (b:=false) (S1:=S) ((jL (wX (zI ((vJ rfl rfl).trans (cY n (pb n) S h ⟨by omega,by omega⟩)))) (zI ((vJ rfl (vI (i:=pb n) (j:=1) rfl rfl)).trans (cY n (pb n+1) S h ⟨by omega,by omega⟩)))).trans (okb ?_)) (x9 rfl ?_))
 ·rw[show nH n (pb n)=true from decide_eq_true p1,show nH n (pb n+1)=false from decide_eq_false (by omega)];rfl
 refine qZ (xM (b:=false) (S1:=S) ((jL (zI (pD (wD (i:=bp n) (j:=pb n) rfl rfl ⟨by omega,by omega⟩) (j:=mp n) rfl)) (nG (zI (KH (i:=bp n) (j:=0) rfl rfl)) (zI (KG (wD (vR (i:=bp n) (j:=1) rfl rfl) (j:=pb n) rfl ⟨by omega,by omega⟩) (j:=mp n) rfl)))).trans (okb ?_)) (x9 rfl ?_))
 ·rw[decide_eq_false (show ¬ bp n*pb n<mp n by omega),Bool.false_or,← Bool.decide_and]
  exact decide_eq_false b2
 exact xH (z0 ((vJ ((zJ rfl).trans (J8 c n S h)) (b:=.int (bar n)) ((bT ((zJ rfl).trans (fU c n S ⟨h.1,by omega⟩)) (b:=.int (bp n)) rfl).trans rfl)).trans (lA (bar n) S)) ⟨rfl,rfl⟩)
theorem lK (c:Cl):(j9 c).contains (.ref c.NoNumber)=true:=by
 rw[List.contains_iff_mem]
 simp[j9]
theorem l9 (c:Cl)(nd:(zZ c).Nodup)(G:List D→DF)(caps:List D)(S:Sto)(x:D)(h:G caps [] S=.ex (.ref c.NoNumber) x S)(a:Addr)(cv:List _L.V):qQ 2 (b__law_refused c G a cv) [.clo a cv caps] S=.ok (.str "number") S:=by
 have e:wU 0 (qC) a cv 0 G [some (.clo a cv caps),none] S=.ex (.ref c.NoNumber) x S:=(K9 rfl).trans h
 refine m5 (env:=[some (.clo a cv caps),none]) rfl ?_
 unfold b__law_refused
 have k:kR 2 1 (j9 c) (xD (wU 0 (qC) a cv 0 G)) (qW (qJ 1 (S__law_kinds c) (qA (qB 1) (qC)))) [some (.clo a cv caps),none] S=.rt (.str "number") S:=by
  unfold kR xD
  rw[e]
  simp only[Res.toS,lK c,if_true]
  have z:qJ 1 (S__law_kinds c) (qA (qB 1) (qC)) ((List.replicate 2 none).set 1 (some (.exn (.ref c.NoNumber)))) S=.ok (.str "number") S:=(zJ rfl).trans (kN c nd S)
  simp only[qW,z,Res.toS]
 unfold qP
 rw[k]
theorem WB:bE 1 1000000=true:=kd
theorem UF:bE 1 1000000000000000000=true:=kd
theorem cR (c:Cl)(d:D)(S:Sto)(h:w9 1 1000000 d):S_pair_bound c [d] S=.ex (.ref c.NoNumber) .non S:=by
 rw[wN]
 have e:qJ 3 (S_need_within c) (qA (qB 0) (qA (dC (.int 1)) (qA (d2 zF (dC (.int 10)) (dC (.int 6))) (qC)))) [some d] S=.ex (.ref c.NoNumber) .non S:=(uJ rfl rfl ((qN rfl rfl).trans (jY S))).trans (jN d 1 1000000 S c WB h)
 show jM (qP (xD _) _ [some d] S)=_
 unfold qP xD
 rw[e]
 rfl
theorem Z3 (c:Cl)(d:D)(S:Sto)(h:w9 1 1000000 d):S_bar c [d] S=.ex (.ref c.NoNumber) .non S:=by
 rw[kE]
 have e:qJ 3 (S_need_within c) (qA (qB 0) (qA (dC (.int 1)) (qA (d2 zF (dC (.int 10)) (dC (.int 6))) (qC)))) [some d] S=.ex (.ref c.NoNumber) .non S:=(uJ rfl rfl ((qN rfl rfl).trans (jY S))).trans (jN d 1 1000000 S c WB h)
 show jM (qP (xD _) _ [some d] S)=_
 unfold qP xD
 rw[e]
 rfl
theorem iQ (c:Cl)(d:D)(S:Sto)(h:w9 1 1000000000000000000 d):S_by_hull c [d] S=.ex (.ref c.NoNumber) .non S:=by
 rw[yW]
 have e:qJ 3 (S_need_within c) (qA (qB 0) (qA (dC (.int 1)) (qA (d2 zF (dC (.int 10)) (dC (.int 18))) (qC)))) [some d] S=.ex (.ref c.NoNumber) .non S:=(uJ rfl rfl ((qN rfl rfl).trans (gK S))).trans (jN d 1 1000000000000000000 S c UF h)
 show jM (qP (xD _) _ [some d] S)=_
 unfold qP xD
 rw[e]
 rfl
theorem VL (c:Cl)(d:D)(S:Sto)(h:w9 1 1000000 d):S_by_pairs c [d] S=.ex (.ref c.NoNumber) .non S:=by
 rw[yL]
 have e:qJ 1 (S_pair_bound c) (qA (qB 0) (qC)) [some d,none] S=.ex (.ref c.NoNumber) .non S:=(zJ rfl).trans (cR c d S h)
 show jM (qP (zD _ _) _ [some d,none] S)=_
 unfold qP zD
 rw[e]
 rfl
end _K
end
section
namespace _K
open PySem _D
theorem r6 (ns:List Int)(hl:ns.length≤63)(env:qD)(S:Sto)(h0:env[0]? = some (some (.lst (ns.map D.int)))):∃ ms:List Int,xW (d2 qX (zW (qA (qJ 2 S__law_cell (qA (qB 0) (qA (dC (.int 0)) (qC)))) (qC))) (dSl (qB 0) (wV (dC (.int 1))) (wV (dC (.int 10))))) env S=.ok (ms.map D.int) S:=by
 obtain⟨x,hx⟩:=YY ns S
 obtain⟨ms,hm,hml⟩:=aQ ns (some 1) (some 10)
 refine⟨x::ms,?_⟩
 have l1:1≤lim:=by decide
 have hs:dSl (qB 0) (wV (dC (.int 1))) (wV (dC (.int 10))) env S=.ok (.lst (ms.map D.int)) S:=by
  simp only[dSl,sS h0,Res.bind,wV,dC]
  show Res.ok (D.lst (yX (ns.map D.int) (some 1) (some 10))) S=_
  rw[hm]
 have hc:zW (qA (qJ 2 S__law_cell (qA (qB 0) (qA (dC (.int 0)) (qC)))) (qC)) env S=.ok (.lst [.int x]) S:=v8 (kY ((vJ (sS h0) rfl).trans hx)) l1
 unfold xW
 rw[qN hc hs,uN (by rw[List.length_map];show 1+ms.length≤lim;unfold lim;omega)]
 rfl
theorem gZ (S:Sto)(p:Nat)(m:Int)(f1 f2:DE)(env:qD)(h1:f1 env S=.ok (.loc p) S)(h2:f2 env S=.ok (.int m) S)(h:yQ S p)(hm:0<m∧m<1073741824):∃ (r:Int) (S1:Sto),qJ 2 S__law_draw (qA f1 (qA f2 (qC))) env S=.ok (.int r) S1∧yQ S1 p∧0≤r∧r<m:=by
 obtain⟨r,v,f,e,a,b⟩:=fT S p m h hm
 exact⟨r,_,(vJ h1 h2).trans e,kL h v f,a,b⟩
theorem cP (S:Sto)(p:Nat)(b:Int)(f1 f2 f3:DE)(env:qD)(h1:f1 env S=.ok (.loc p) S)(h2:f2 env S=.ok (.int 1) S)(h3:f3 env S=.ok (.int b) S)(h:yQ S p)(hb:1≤b∧b<10000000000000000000000000000):∃ (d:D) (S1:Sto),qJ 3 S__law_no_number (qA f1 (qA f2 (qA f3 (qC)))) env S=.ok d S1∧yQ S1 p∧w9 1 b d:=by
 obtain⟨d,v,f,e,a⟩:=mK S p 1 b h ⟨by omega,hb.1,hb.2⟩
 exact⟨d,_,(uJ h1 h2 h3).trans e,kL h v f,a⟩
theorem rR (c:Cl)(env:qD)(S:Sto):qM (kI false) (qA (xV false [none] (vM (gX (qA (dC (.int 1)) (qA (dC (.int 42)) (qC))))) (gNm 0) (uM) (wC (yN (qJ 1 (okO (S__law_hull_right c)) (qA (qB 0) (qC))) (qJ 1 (okO (S__law_pairs_right c)) (qA (qB 0) (qC)))))) (qC)) env S=.ok (.bl true) S:=by
 have hr:kP [.int 1,.int 42]=some (xR 1 41):=by
  show (if -(2 ^ 62)≤(1:Int)∧(1:Int)<2 ^ 62 ∧ -(2 ^ 62)≤(42:Int)∧(42:Int)<2 ^ 62 then some (xR 1 ((42:Int)-1).toNat) else none)=_
  rw[if_pos ⟨by decide,by decide,by decide,by decide⟩]
  rfl
 have hf:vM (gX (qA (dC (.int 1)) (qA (dC (.int 42)) (qC)))) env S=.ok (none,(List.range 41).map fun (i:Nat)=>D.int (1+(i:Int))) S:=by
  unfold vM gX
  show ((_D.yP (kP [.int 1,.int 42]) S).bind _)=_
  rw[hr]
  rfl
 have hc:=mT (cap:=[none]) (g:=gNm 0) (t:=uM) (fe:=yN (qJ 1 (okO (S__law_hull_right c)) (qA (qB 0) (qC))) (qJ 1 (okO (S__law_pairs_right c)) (qA (qB 0) (qC)))) hf trivial (fun _=>true) (fun _=>D.bl true) (fun e=>∃ x,e=[x]) ⟨none,rfl⟩ (by decide) (fun x hx e he=>by
  obtain⟨z,rfl⟩:=he
  have hx':=List.mem_range.mp hx
  refine⟨[some (.int (1+(x:Int)))],rfl,⟨_,rfl⟩,rfl,fun _=>?_⟩
  exact Z1 (a:=true) (b:=true) ((zJ rfl).trans (dO (vA c _ S ⟨by omega,by omega⟩))) (fun _=>(zJ rfl).trans (dO (yO c _ S ⟨by omega,by omega⟩))) (fun z=>nomatch z))
 rw[pT] at hc
 exact(Z0 (p:=fun _=>true) hc).trans (by rw[show ((List.range 41).all fun _=>true)=true from by decide])
noncomputable abbrev fl (c:Cl):FnL:=[(c.pair_bound,1,S_pair_bound c),(c.by_pairs,1,S_by_pairs c),(c.bar,1,S_bar c)]
theorem UD (c:Cl)(nf:(fnL c).Nodup)(a:Addr)(ha:a∈fnL c)(d:D)(S:Sto)(h:w9 1 1000000 d):∃ F:DF,(fl c).lookup a=some (1,F)∧F [d] S=.ex (.ref c.NoNumber) .non S:=by
 have n1:(c.by_pairs == c.pair_bound)=false:=by
  have:=xK (i:=1) (j:=0) nf rfl rfl (by decide)
  exact this
 have n2:(c.bar == c.pair_bound)=false:=xK (i:=2) (j:=0) nf rfl rfl (by decide)
 have n3:(c.bar == c.by_pairs)=false:=xK (i:=2) (j:=1) nf rfl rfl (by decide)
 have ha:a=c.pair_bound∨a=c.by_pairs∨a=c.bar:=by simpa [fnL] using ha
 rcases ha with rfl|rfl|rfl
 ·exact⟨_,by simp[fl,List.lookup],cR c d S h⟩
 ·exact⟨_,by simp only[fl,List.lookup,n1,beq_self_eq_true],VL c d S h⟩
 ·exact⟨_,by simp only[fl,List.lookup,n2,n3,beq_self_eq_true],Z3 c d S h⟩
theorem lY (c:Cl)(nf:(fnL c).Nodup)(a:Addr)(ha:a∈fnL c)(d:D)(f:DE)(env:qD)(S:Sto)(h0:env[0]? = some (some (.obj a)))(hf:f env S=.ok d S)(h:w9 1 1000000 d):vV 0 [(c.pair_bound,1,S_pair_bound c),(c.by_pairs,1,S_by_pairs c),(c.bar,1,S_bar c)] (qA f (qC)) env S=.ex (.ref c.NoNumber) .non S:=by
 obtain⟨F,e1,e2⟩:=UD c nf a ha d S h
 unfold vV
 rw[h0]
 show (match List.lookup a (fl c) with|some (n,F)=>(qA f (qC) env S).bind fun ds S1=>if ds.length=n then F ds S1 else .bad|none=>.bad)=_
 rw[e1]
 show (qA f (qC) env S).bind _=_
 rw[kY hf]
 exact e2
def nw:D:=.str "number"
theorem dJ (S:Sto):gNe (.str "number") (.str "number") S=.ok (.bl false) S:=by kernel_rfl!
theorem eK (S:Sto):gNe (.lst [nw,nw,nw]) (.lst [nw,nw,nw]) S=.ok (.bl false) S:=by kernel_rfl!
theorem c5 (env:qD)(S:Sto):d2 gB (zW (qA (dC (.str "number")) (qC))) (dC (.int 3)) env S=.ok (.lst [nw,nw,nw]) S:=by kernel_rfl!
theorem cJ (c:Cl)(env:qD)(S:Sto):wI (qA (dC (.obj c.pair_bound)) (qA (dC (.obj c.by_pairs)) (qA (dC (.obj c.bar)) (qC)))) env S=.ok (.tup ((fnL c).map D.obj)) S:=mB (as:=[.obj c.pair_bound,.obj c.by_pairs,.obj c.bar]) rfl (by show 3≤lim;decide)
theorem aM (c:Cl)(nd:(zZ c).Nodup)(nf:(fnL c).Nodup)(d:D)(env:qD)(S:Sto)(h8:env[8]? = some (some d))(h:w9 1 1000000 d):xV false [none,some 8] (dIt (wI (qA (dC (.obj c.pair_bound)) (qA (dC (.obj c.by_pairs)) (qA (dC (.obj c.bar)) (qC)))))) (gNm 0) (uM) (wC (x6 true [0,1] 1 2 (qC) (b__law_refused c (uT (vV 0 [(c.pair_bound,1,S_pair_bound c),(c.by_pairs,1,S_by_pairs c),(c.bar,1,S_bar c)] (qA (qB 1) (qC))))))) env S=.ok (.lst [nw,nw,nw]) S:=by
 have hf:dIt (wI (qA (dC (.obj c.pair_bound)) (qA (dC (.obj c.by_pairs)) (qA (dC (.obj c.bar)) (qC))))) env S=.ok (none,(fnL c).map D.obj) S:=by
  unfold dIt
  rw[cJ c env S]
  rfl
 have h0:w4 [none,some 8] env=[none,some d]:=by
  unfold w4
  simp[h8]
 have hc:=mT (cap:=[none,some 8]) (g:=gNm 0) (t:=uM) (fe:=x6 true [0,1] 1 2 (qC) (b__law_refused c (uT (vV 0 [(c.pair_bound,1,S_pair_bound c),(c.by_pairs,1,S_by_pairs c),(c.bar,1,S_bar c)] (qA (qB 1) (qC)))))) hf trivial (fun _=>true) (fun _=>nw) (fun e=>∃ x,e=[x,some d]) ⟨none,h0⟩ (by show 3≤lim;decide) (fun a ha e he=>by
  obtain⟨z,rfl⟩:=he
  refine⟨[some (.obj a),some d],rfl,⟨_,rfl⟩,rfl,fun _=>?_⟩
  exact bU (caps:=[.obj a,d]) rfl (l9 c nd _ [.obj a,d] S .non (lY c nf a ha d (qB 1) [some (.obj a),some d] S rfl rfl h)) rfl)
 rw[pT] at hc
 exact hc
def IvA (ns:List Int)(ds:List D)(env:qD)(_:Sto):Prop:=∃ (ms:List Int) (e1 e2 e3 e4 e5 e6 e7 e8:Option D),ds=ms.map D.int∧env=[some (.lst (ns.map D.int)),e1,e2,e3,e4,e5,e6,e7,e8]
theorem eE (c:Cl)(nd:(zZ c).Nodup)(nf:(fnL c).Nodup)(ns:List Int)(hl:ns.length≤63):∃ S,qQ 9 (b_law c) [.lst (ns.map D.int)] [] = .ok (.bl true) S:=by
 have key:Rt (b_law c [some (.lst (ns.map D.int)),none,none,none,none,none,none,none,none] []) fun d _=>d=.bl true:=by
  refine qZ (xM (b:=false) (wX (zI (rR c _ _))) (x9 rfl ?_))
  refine qZ (xM (b:=false) (jL (wX (zI ((zJ ((qN rfl rfl).trans (jY _))).trans (yO c 1000000 _ (by omega))))) (wX (zI ((zJ ((qN rfl rfl).trans (gK _))).trans (vA c 1000000000000000000 _ (by omega)))))) (x9 rfl ?_))
  obtain⟨ms,hms⟩:=r6 ns hl [some (.lst (ns.map D.int)),none,none,none,none,none,none,none,none] [] rfl
  refine qZ (fN hms ?_)
  refine jX (IvA ns) ?_ ?_ ⟨ms,none,none,none,none,none,none,none,none,rfl,rfl⟩
  ·rintro d ds env S ⟨ms,e1,e2,e3,e4,e5,e6,e7,e8,hds,rfl⟩
   cases ms with
   |nil=>cases hds
   |cons y ms =>
    injection hds with h1 h2
    subst h1 h2
    refine⟨[some (.lst (ns.map D.int)),e1,some (.int y),e3,e4,e5,e6,e7,e8],S,rfl,?_⟩
    obtain⟨f,hpen⟩:=J9 y S
    refine wY (zP (z0 ((zJ (a:=.int y) rfl).trans hpen) ?_))
    have p0:yQ (S++[.lst [.int y,.int f]]) S.length:=⟨y,f,by simp⟩
    generalize S++[.lst [.int y,.int f]]=S0 at p0
    generalize S.length=p at p0
    clear hpen hms
    simp only[List.set_cons_succ,List.set_cons_zero]
    have l2:2≤lim:=by decide
    obtain⟨r1,S1,c1,p1,u1,u2⟩:=gZ S0 p 1000000 (qB 3) (d2 zF (dC (.int 10)) (dC (.int 6))) [some (.lst (ns.map D.int)),e1,some (.int y),some (.loc p),e4,e5,e6,e7,e8] rfl rfl p0 (by omega)
    obtain⟨r2,S2,c2,p2,v1,v2⟩:=gZ S1 p 3000 (qB 3) (dC (.int 3000)) [some (.lst (ns.map D.int)),e1,some (.int y),some (.loc p),e4,e5,e6,e7,e8] rfl rfl p1 (by omega)
    refine wY (zP (z0 (v8 (as:=[.int (1+r1),.int (1+r2)]) (kZ ((qN (a:=.int 1) rfl c1).trans (zX 1 r1 S1)) ((qN (a:=.int 1) rfl c2).trans (zX 1 r2 S2))) l2) ?_))
    clear c1 c2 p0 p1
    simp only[List.set_cons_succ,List.set_cons_zero]
    obtain⟨r,S3,c3,p3,w1,w2⟩:=gZ S2 p 1000000000 (qB 3) (d2 zF (dC (.int 10)) (dC (.int 9))) [some (.lst (ns.map D.int)),e1,some (.int y),some (.loc p),some (.lst [.int (1+r1),.int (1+r2)]),e5,e6,e7,e8] rfl rfl p2 (by omega)
    refine wY (zP (z0 c3 ?_))
    clear c3 p2
    simp only[List.set_cons_succ,List.set_cons_zero]
    have hrr:r*r≤999999999*999999999:=Int.mul_le_mul (by omega) (by omega) w1 (by omega)
    have hr0:0≤r*r:=Int.mul_nonneg w1 w1
    have hit:xW (d2 qX (qB 4) (zW (qA (d2 qX (d2 qX (d2 qU (qB 5) (qB 5)) (qB 5)) (dC (.int 1))) (qA (d2 qX (d2 qX (d2 qU (qB 5) (qB 5)) (qB 5)) (dC (.int 2))) (qC))))) [some (.lst (ns.map D.int)),e1,some (.int y),some (.loc p),some (.lst [.int (1+r1),.int (1+r2)]),some (.int r),e6,e7,e8] S3=.ok ([1+r1,1+r2,r*r+r+1,r*r+r+2].map D.int) S3:=by
     have k:=wD (f:=qB 5) (g:=qB 5) (env:=[some (.lst (ns.map D.int)),e1,some (.int y),some (.loc p),some (.lst [.int (1+r1),.int (1+r2)]),some (.int r),e6,e7,e8]) (S:=S3) (i:=r) (j:=r) rfl rfl ⟨by omega,by omega⟩
     unfold xW
     rw[(qN (o:=qX) (a:=.lst [.int (1+r1),.int (1+r2)]) (b:=.lst [.int (r*r+r+1),.int (r*r+r+2)]) rfl (v8 (as:=[.int (r*r+r+1),.int (r*r+r+2)]) (kZ (vI (vI k rfl) rfl) (vI (vI k rfl) rfl)) l2)).trans (uN (by show 4≤lim;decide) S3)]
     rfl
    refine wY (fN hit ?_)
    clear hit
    refine jX (fun ds env S=>S=S3∧∃ (xs:List Int) (e1:Option D),ds=xs.map D.int∧(∀ x∈xs,1≤x)∧env=[some (.lst (ns.map D.int)),e1,some (.int y),some (.loc p),some (.lst [.int (1+r1),.int (1+r2)]),some (.int r),e6,e7,e8]) ?_ ?_ ⟨rfl,[1+r1,1+r2,r*r+r+1,r*r+r+2],e1,rfl,fun x hx=>by simp only[List.mem_cons,List.not_mem_nil,or_false] at hx;omega,rfl⟩
    ·rintro d ds env S ⟨rfl,xs,e1,hds,hx,rfl⟩
     cases xs with
     |nil=>cases hds
     |cons x xs =>
      injection hds with h1 h2
      subst h1 h2
      have x1:=hx x (List.mem_cons_self ..)
      refine⟨[some (.lst (ns.map D.int)),some (.int x),some (.int y),some (.loc p),some (.lst [.int (1+r1),.int (1+r2)]),some (.int r),e6,e7,e8],S,rfl,?_⟩
      have t1:wR (dTr (d2 gLe (qB 1) (d2 zF (dC (.int 10)) (dC (.int 18))))) (zS (dTr (qJ 1 (S__law_hull_right c) (qA (qB 1) (qC))))) [some (.lst (ns.map D.int)),some (.int x),some (.int y),some (.loc p),some (.lst [.int (1+r1),.int (1+r2)]),some (.int r),e6,e7,e8] S=.ok false S:=by
       have k:=zI (eF (f:=qB 1) (g:=d2 zF (dC (.int 10)) (dC (.int 18))) (env:=[some (.lst (ns.map D.int)),some (.int x),some (.int y),some (.loc p),some (.lst [.int (1+r1),.int (1+r2)]),some (.int r),e6,e7,e8]) (S:=S) (i:=x) (j:=1000000000000000000) rfl rfl)
       by_cases hz:x≤1000000000000000000
       ·rw[decide_eq_true hz] at k
        exact nG k (wX (zI ((zJ rfl).trans (vA c x S ⟨x1,hz⟩))))
       ·rw[decide_eq_false hz] at k
        unfold wR
        rw[k]
        rfl
      have t2:wR (dTr (d2 gLe (qB 1) (d2 zF (dC (.int 10)) (dC (.int 6))))) (zS (dTr (qJ 1 (S__law_pairs_right c) (qA (qB 1) (qC))))) [some (.lst (ns.map D.int)),some (.int x),some (.int y),some (.loc p),some (.lst [.int (1+r1),.int (1+r2)]),some (.int r),e6,e7,e8] S=.ok false S:=by
       have k:=zI (eF (f:=qB 1) (g:=d2 zF (dC (.int 10)) (dC (.int 6))) (env:=[some (.lst (ns.map D.int)),some (.int x),some (.int y),some (.loc p),some (.lst [.int (1+r1),.int (1+r2)]),some (.int r),e6,e7,e8]) (S:=S) (i:=x) (j:=1000000) rfl rfl)
       by_cases hz:x≤1000000
       ·rw[decide_eq_true hz] at k
        exact nG k (wX (zI ((zJ rfl).trans (yO c x S ⟨x1,hz⟩))))
       ·rw[decide_eq_false hz] at k
        unfold wR
        rw[k]
        rfl
      refine wY (xM t1 (x9 rfl ?_))
      exact xM t2 (x9 rfl ⟨rfl,xs,_,rfl,fun x hx'=>hx x (List.mem_cons_of_mem _ hx'),rfl⟩)
    ·rintro env S ⟨rfl,xs,e1,hds,hx,rfl⟩
     obtain⟨o1,S4,n1,p4,nn1⟩:=cP S p 1000000 (qB 3) (dC (.int 1)) (d2 zF (dC (.int 10)) (dC (.int 6))) [some (.lst (ns.map D.int)),e1,some (.int y),some (.loc p),some (.lst [.int (1+r1),.int (1+r2)]),some (.int r),e6,e7,e8] rfl rfl rfl p3 (by omega)
     obtain⟨o2,S5,n2,p5,nn2⟩:=cP S4 p 1000000000000000000 (qB 3) (dC (.int 1)) (d2 zF (dC (.int 10)) (dC (.int 18))) [some (.lst (ns.map D.int)),e1,some (.int y),some (.loc p),some (.lst [.int (1+r1),.int (1+r2)]),some (.int r),e6,e7,e8] rfl rfl rfl p4 (by omega)
     refine wY (tH (env1:=[some (.lst (ns.map D.int)),e1,some (.int y),some (.loc p),some (.lst [.int (1+r1),.int (1+r2)]),some (.int r),e6,some o2,some o1]) (S2:=S5) (mB (as:=[o1,o2]) (kZ n1 n2) l2) rfl ?_)
     clear n1 n2 p3 p4 p5
     refine wY (xM (zI ((qN (aM c nd nf o1 _ S5 rfl nn1) (c5 _ S5)).trans (eK S5))) (x9 rfl ?_))
     refine wY (xM (zI ((qN (bU (caps:=[o2]) rfl (l9 c nd _ [o2] S5 .non ((zJ (F:=S_by_hull c) (f1:=qB 0) (env:=[some o2]) (S:=S5) rfl).trans (iQ c o2 S5 nn2))) rfl) rfl).trans (dJ S5))) (x9 rfl ?_))
     have hfs:xW (wI (qA (dC (.obj c.pair_bound)) (qA (dC (.obj c.by_pairs)) (qA (dC (.obj c.bar)) (qC))))) [some (.lst (ns.map D.int)),e1,some (.int y),some (.loc p),some (.lst [.int (1+r1),.int (1+r2)]),some (.int r),e6,some o2,some o1] S5=.ok ((fnL c).map D.obj) S5:=by
      unfold xW
      rw[cJ c _ S5]
      rfl
     refine fN hfs ?_
     clear hfs
     refine jX (fun ds env S=>∃ (fs:List Addr) (e6:Option D),ds=fs.map D.obj∧(∀ a∈fs,a∈fnL c)∧env=[some (.lst (ns.map D.int)),e1,some (.int y),some (.loc p),some (.lst [.int (1+r1),.int (1+r2)]),some (.int r),e6,some o2,some o1]) ?_ ?_ ⟨fnL c,e6,rfl,fun _ h=>h,rfl⟩
     ·rintro d ds env S ⟨fs,e6,hds,hf,rfl⟩
      cases fs with
      |nil=>cases hds
      |cons a fs =>
       injection hds with h1 h2
       subst h1 h2
       refine⟨[some (.lst (ns.map D.int)),e1,some (.int y),some (.loc p),some (.lst [.int (1+r1),.int (1+r2)]),some (.int r),some (.obj a),some o2,some o1],S,rfl,?_⟩
       exact xM (zI ((qN (bU (caps:=[.obj a]) rfl (l9 c nd _ [.obj a] S .non (lY c nf a (hf a (List.mem_cons_self ..)) (.int 1000001) _ [some (.obj a)] S rfl ((qN ((qN rfl rfl).trans (jY S)) rfl).trans (zX 1000000 1 S)) (uE (by omega)))) rfl) rfl).trans (dJ S))) (x9 rfl ⟨fs,_,rfl,fun b hb=>hf b (List.mem_cons_of_mem _ hb),rfl⟩)
     ·rintro env S ⟨fs,e6,hds,hf,rfl⟩
      exact⟨ms,_,_,_,_,_,_,_,_,rfl,rfl⟩
  ·rintro env S ⟨ms,e1,e2,e3,e4,e5,e6,e7,e8,_,rfl⟩
   exact xH (z0 (d:=.bl true) (S:=S) rfl rfl)
 obtain⟨d,S',e,rfl⟩:=key
 exact⟨S',m5 rfl e⟩
end _K
end
section
namespace _K
open PySem PySem.Spec PyProof.Rows _L _D
theorem wZ {P:Program}{w:World}{K:PySem.W.Frag}{mg:Str→Option Value}{base:Heap}{c:Cl}(T:Txt K mg c){k:Nat}{F:DF}(d:DfS F P w K mg base true k "_law_same" 2):DfS (qQ 2 (b__law_same F)) P w K mg base true (k+1) "_law_same" 2:=by
 refine dq P w base k 12 T rfl ck rfl ?_
 intros
 repeat' first
  |with_reducible exact ck
  |((with_reducible show QE _ _ _);with_reducible first|apply aV|apply cU|apply dZ|apply aBt|apply aO|(apply aB;first|apply aE|apply aD|apply aA|apply sT)|apply aC|apply sC|apply dY|apply sA|apply dW)
  |((with_reducible show _=_);first|exact T.nb ck|exact uD _|exact rfl|with_unfolding_all rfl)
  |((with_reducible show ZOp _ _ _);with_reducible first|apply VD|apply VI|apply VE)
  |((with_reducible show RoomC _ _ _);first|assumption|exact RoomC.mono (by assumption)|exact RoomC.mono (RoomC.any (by assumption))|exact RoomC.mark (by assumption) _|exact RoomC.mono (RoomC.mark (by assumption) _))
  |((with_reducible show St1 _ _ _ _);exact⟨rfl,rfl⟩)
  |((with_reducible show DfS _ _ _ _ _ _ _ _ _ _);assumption)
  |with_reducible first|apply dU|apply gL|apply k6|apply tK|apply dS|apply sH|(apply cX;first|apply gM|apply bH)|apply sI|apply gM|apply bH|apply aNm|apply sD|apply fS|apply tL|apply sF|apply sE|apply tN|apply tM|apply sG|apply cW|apply cK
  |((with_reducible apply aSt);case hs=>exact rfl)
  |((with_reducible show ClA _ _ _ _);first|assumption|exact ClA.tr (by assumption))
  |((with_reducible show LmX _ _ _ _ _ _ _ _ _ _);assumption)
  |((with_reducible show DfL _ _ _ _ _ _ _ _ _ _ _ _ _);assumption)
  |((with_reducible show ZF _ _ _ _);first|apply aFn|apply QX)
  |exact fun _=>⟨rfl,rfl,rfl⟩
  |(intro h;cases h;done)
  |((with_reducible show ZPass _);first|assumption|exact tY)
  |exact⟨rfl,rfl⟩
  |exact⟨rfl,rfl,rfl⟩
  |apply gL
  |apply k6
  |(intros;rfl)
  |(intro _ h;cases h <;> rfl)
  |decide
  |intro _
theorem oC {P:Program}{w:World}{K:PySem.W.Frag}{mg:Str→Option Value}{base:Heap}{c:Cl}(T:Txt K mg c)(nd:(zZ c).Nodup)(hT:(W4.all fun y=>(PySem.W.tabIn K y).isSome)=true)(nf:(fnL c).Nodup):∃ F,bN P w K mg base true 10 "law" ["_law_script"] F∧∀ ns:List Int,ns.length≤63→∃ S,F [.lst (ns.map D.int)] [] = .ok (.bl true) S:=by
 refine hv (fun _=>?_) (dq (cm:=true) P w base 0 0 T rfl ck (yM) ?_)
 refine hv (fun _=>?_) (dq (cm:=true) P w base 1 1 T rfl ck (yB) ?_)
 refine hv (fun _=>?_) (dq (cm:=true) P w base 2 2 T rfl ck (wH c) ?_)
 refine hv (fun _=>?_) (dqL (cm:=true) (g:=b_least_where) (N:=5) P w base 3 3 1 3 T rfl ck ?_)
 refine hv (fun _=>?_) (dq (cm:=true) P w base 0 4 T rfl ck (vH) ?_)
 refine hv (fun _=>?_) (dq (cm:=true) P w base 4 5 T rfl ck (yW c) ?_)
 refine hv (fun _=>?_) (dq (cm:=true) P w base 1 6 T rfl ck (wO) ?_)
 refine hv (fun _=>?_) (dq (cm:=true) P w base 4 7 T rfl ck (wN c) ?_)
 refine hv (fun _=>?_) (dq (cm:=true) P w base 5 8 T rfl ck (yL c) ?_)
 refine hv (fun _=>?_) (dq (cm:=true) P w base 6 9 T rfl ck (kE c) ?_)
 refine hv (fun _=>?_) (dq (cm:=false) P w base 0 10 T rfl ck (vF c) ?_)
 refine hv (fun _=>?_) (dqL (cm:=true) (g:=b__law_refused c) (N:=2) P w base 8 8 0 11 T rfl ck ?_)
 have s0:DfS (bI 0) P w K mg base true 0 "_law_same" 2:=⟨i4 (T.src 12 rfl)⟩
 have d__law_same:DfS S__law_same P w K mg base true 4 "_law_same" 2:=u9▸wZ T (wZ T (wZ T (wZ T s0)))
 refine hv (fun _=>?_) (dq (cm:=true) P w base 0 13 T rfl ck (vG) ?_)
 refine hv (fun _=>?_) (dq (cm:=true) P w base 0 14 T rfl ck (u4) ?_)
 refine hv (fun _=>?_) (dq (cm:=true) P w base 0 15 T rfl ck (uY) ?_)
 refine hv (fun _=>?_) (dq (cm:=true) P w base 0 16 T rfl ck (u7) ?_)
 refine hv (fun _=>?_) (dq (cm:=true) P w base 1 17 T rfl ck (yA) ?_)
 refine hv (fun _=>?_) (dq (cm:=true) P w base 0 18 T rfl ck (uX) ?_)
 refine hv (fun _=>?_) (dq (cm:=true) P w base 5 19 T rfl ck (wM c) ?_)
 refine hv (fun _=>?_) (dq (cm:=true) P w base 7 20 T rfl ck (wJ c) ?_)
 refine⟨_,dqP 9 21 T rfl ck ?_,eE c nd nf⟩
 all_goals
  intros
  repeat' first
   |with_reducible exact ck
   |((with_reducible show QE _ _ _);with_reducible first|apply aV|apply YH|apply cU|apply YK|apply dZ|apply aBt|apply aCl|apply aO|apply aN|(apply aB;first|apply aE|apply aD|apply aA|apply VG|apply sT|apply cA|apply VF)|(apply aT;first|apply JP)|apply aC|apply sC|apply YI|apply Q1|apply J0|apply h9|apply J2|apply dY|apply eY|apply YJ|apply sA|apply dW|apply J3|apply UZ|apply Q0|apply YG|apply oZ|(apply cV;(case slot=>apply PySem.F.slot_list_count);(case' hm=>first|apply QL))|(apply cV;(case slot=>apply PySem.F.slot_list_index);(case' hm=>first|apply QM))|apply YE)
   |((with_reducible show _=_);first|exact T.nb ck|with_reducible apply PySem.F.plainAttrs_list|with_reducible apply PySem.F.type_list_count|with_reducible apply PySem.F.type_list_index|exact uD _|exact rfl|with_unfolding_all rfl)
   |((with_reducible show ZOp _ _ _);with_reducible first|apply JN|apply JU|apply VH|apply JR|apply JO|apply JQ|apply JS|apply GJ|apply GI|apply GG|apply GF|apply VD|apply VI|apply VE)
   |((with_reducible show RoomC _ _ _);first|assumption|exact RoomC.mono (by assumption)|exact RoomC.mono (RoomC.any (by assumption))|exact RoomC.mark (by assumption) _|exact RoomC.mono (RoomC.mark (by assumption) _))
   |((with_reducible show St1 _ _ _ _);exact⟨rfl,rfl⟩)
   |((with_reducible show DfS _ _ _ _ _ _ _ _ _ _);assumption)
   |with_reducible first|apply dU|apply gL|apply k6|apply tK|apply dS|apply aK0|apply aK|apply aFv|apply Q4|apply Q3|apply YQ|apply YW|apply sH|(apply cX;first|apply tO|apply gM|apply sJ|apply bH)|apply sI|apply tO|apply gM|apply sJ|apply bH|apply aNm|apply sD|apply YM|apply fS|apply tL|apply YO|apply hJ|apply sF|apply sE|apply YN|apply tN|apply tM|apply sG|apply cW|apply Q5|apply YS|apply hW|apply aP2|apply aP3|apply aRs|apply aTr|apply GH|apply JT|apply cK|apply PySem.F.plainAttrs_list|apply PySem.F.type_list_count|apply PySem.F.type_list_index
   |((with_reducible apply aSt);case hs=>exact rfl)
   |with_reducible apply YR
   |exact T.cls
   |exact T.cl (by kernel_rfl)
   |exact T.rz (by kernel_rfl)
   |exact T.ct
   |((with_reducible apply JZ);(case D=>assumption))
   |((with_reducible apply K0);(case D=>assumption))
   |((with_reducible show ClA _ _ _ _);first|assumption|exact ClA.tr (by assumption))
   |((with_reducible show LmX _ _ _ _ _ _ _ _ _ _);assumption)
   |((with_reducible show DfL _ _ _ _ _ _ _ _ _ _ _ _ _);assumption)
   |((with_reducible show LmK _ _);refine lmK hT (by assumption) ?_ rfl)
   |((with_reducible show ZF _ _ _ _);first|apply aFn|apply QX)
   |exact fun _=>⟨rfl,rfl,rfl⟩
   |(intro h;cases h;done)
   |((with_reducible show ZPass _);first|assumption|exact tY)
   |exact⟨rfl,rfl⟩
   |exact⟨rfl,rfl,rfl⟩
   |apply gL
   |apply k6
   |decide
   |(intros;rfl)
   |(intro _ h;cases h <;> rfl)
   |intro _
end _K
end
namespace _K
open PySem PySem.Spec PyProof.Rows _L _D
theorem bdf:BdF top tab:=by
 repeat (refine⟨?_,?_⟩;(intro _ _ _ _ _ _ us h;first|(obtain⟨_,rfl⟩:=us1 h;rfl)|(obtain⟨_,_,rfl⟩:=us2 h;rfl)|(obtain⟨_,_,_,rfl⟩:=us3 h;rfl)))
 exact trivial
theorem VN {K:PySem.W.Frag}{C0 C1 C2 C3 C4 C5 C6 C7 C8 C9 C10 C11 C12 C13 C14:Addr}(q0:PySem.W.nsIn K mainGlobals "FarError" = some (some (.ref C0)))(q1:PySem.W.nsIn K mainGlobals "NoPoint" = some (some (.ref C1)))(q2:PySem.W.nsIn K mainGlobals "NoLot" = some (some (.ref C2)))(q3:PySem.W.nsIn K mainGlobals "NoNumber" = some (some (.ref C3)))(q4:PySem.W.nsIn K mainGlobals "NoCircle" = some (some (.ref C4)))(q5:PySem.W.nsIn K mainGlobals "NoMarks" = some (some (.ref C5)))(q6:PySem.W.nsIn K mainGlobals "NoFars" = some (some (.ref C6)))(q7:PySem.W.nsIn K mainGlobals "NoText" = some (some (.ref C7)))(q8:PySem.W.nsIn K mainGlobals "NoLine" = some (some (.ref C8)))(q9:PySem.W.nsIn K mainGlobals "NoDeed" = some (some (.ref C9)))(q10:PySem.W.nsIn K mainGlobals "Alike" = some (some (.ref C10)))(q11:PySem.W.nsIn K mainGlobals "TooMany" = some (some (.ref C11)))(q12:PySem.W.nsIn K mainGlobals "pair_bound" = some (some (.ref C12)))(q13:PySem.W.nsIn K mainGlobals "by_pairs" = some (some (.ref C13)))(q14:PySem.W.nsIn K mainGlobals "bar" = some (some (.ref C14))):tZ K (clt ⟨C0,C1,C2,C3,C4,C5,C6,C7,C8,C9,C10,C11,C12,C13,C14⟩):=⟨q0,q1,q2,q3,q4,q5,q6,q7,q8,q9,q10,q11,q12,q13,q14,trivial⟩
theorem VO {K:PySem.W.Frag}:n6 K cst:=trivial
theorem W5 {P:Program}{w:World}{K:PySem.W.Frag}{mg:Str→Option Value}{c:Cl}{fa:Addr}(T:Txt K mg c)(nd:(zZ c).Nodup)(hT:(W4.all fun y=>(PySem.W.tabIn K y).isSome)=true)(nf:(fnL c).Nodup)(hfa:mg "law" = some (.ref fa)) :
  ∃ fd:FuncData,(∀ (s:Shared) (v:Value),BindsTo s fd ⟨[v],[]⟩ [("_law_script",v)])∧∀ base:Heap,K.In base→base.Ns mainGlobals mg→FnOk P w K mg base (CXd P w) 10 fa fd ["_law_script"] (bJ K):=
 oD (T.src 21 rfl) hfa (fun kV doc pm an cdv ct s v=>.of_eq rfl) fun base=>oC T nd hT nf
end _K
theorem PySem.W.Fast.tw14257759440458481636 : True := trivial
theorem PySem.W.Fast.tw3919701673368442626 : True := trivial
theorem PySem.W.Fast.tw8816334135959443068 : True := trivial
theorem PySem.W.Fast.tw13525339506058552978 : True := trivial
theorem PySem.W.Fast.tw4053179772949310564 : True := trivial
theorem PySem.W.Fast.tw2827115556865299863 : True := trivial
theorem PySem.W.Fast.tw17599136749076467106 : True := trivial
theorem PySem.W.Fast.tw12903634068521991500 : True := trivial
theorem PySem.W.Fast.tw2785466021326869030 : True := trivial
theorem PySem.W.Fast.tw17602889926371245018 : True := trivial
theorem PySem.W.Fast.tw6410458153028384886 : True := trivial
theorem PySem.W.Fast.tw12637936878405072629 : True := trivial
theorem PySem.W.Fast.tw17331151253538899965 : True := trivial
theorem PySem.W.Fast.tw16594349969962243908 : True := trivial
theorem PySem.W.Fast.tw12222306965122289213 : True := trivial
theorem PySem.W.Fast.tw2213547885351408083 : True := trivial
theorem PySem.W.Fast.tw14367049312307673710 : True := trivial
theorem PySem.W.Fast.tw15379117230736901873 : True := trivial
theorem PySem.W.Fast.tw15101074093318657892 : True := trivial
theorem PySem.W.Fast.tw10123507245641872278 : True := trivial
theorem PySem.W.Fast.tw8232077064808815139 : True := trivial
theorem PySem.W.Fast.tw14258293384462257026 : True := trivial
theorem PySem.W.Fast.tw6525175476978156002 : True := trivial
theorem PySem.W.Fast.tw9898108162579552956 : True := trivial
theorem PySem.W.Fast.tw13430692426987187661 : True := trivial
theorem PySem.W.Fast.tw12976838791334858499 : True := trivial
theorem PySem.W.Fast.tw4333903848807841675 : True := trivial
theorem PySem.W.Fast.tw3652877352983830977 : True := trivial
theorem PySem.W.Fast.tw884430833984466634 : True := trivial
theorem PySem.W.Fast.tw5530660422491768742 : True := trivial
theorem PySem.W.Fast.tw15214791760589304777 : True := trivial
theorem PySem.W.Fast.tw13888080312250062897 : True := trivial
theorem PySem.W.Fast.tw10525639994256671176 : True := trivial
theorem PySem.W.Fast.tw6666940122196893288 : True := trivial
theorem PySem.W.Fast.tw15906245941242342698 : True := trivial
theorem PySem.W.Fast.tw2793187184227193166 : True := trivial
theorem PySem.W.Fast.tw6721262242320363211 : True := trivial
theorem PySem.W.Fast.tw4447943374098718976 : True := trivial
theorem PySem.W.Fast.tw15945680011046599974 : True := trivial
theorem PySem.W.Fast.tw6320996578400937711 : True := trivial
theorem PySem.W.Fast.tw8285336012283203186 : True := trivial
theorem PySem.W.Fast.tw4690733172822400259 : True := trivial
theorem PySem.W.Fast.tw3470958707698055778 : True := trivial
theorem PySem.W.Fast.tw18107198557449867167 : True := trivial
theorem PySem.W.Fast.tw2865805648662143404 : True := trivial
theorem PySem.W.Fast.tw17270483082740544390 : True := trivial
theorem PySem.W.Fast.tw7166116020678822853 : True := trivial
theorem PySem.W.Fast.tw2144225847637219507 : True := trivial
theorem PySem.W.Fast.tw3879925278167203664 : True := trivial
theorem PySem.W.Fast.tw9960230013817709888 : True := trivial
theorem PySem.W.Fast.tw11890166549139184751 : True := trivial
theorem PySem.W.Fast.tw703651401652674695 : True := trivial
theorem PySem.W.Fast.tw32199172366064677 : True := trivial
theorem PySem.W.Fast.tw13922765954939032491 : True := trivial
theorem PySem.W.Fast.tw12564053108687424052 : True := trivial
theorem PySem.W.Fast.tw13743391552377727793 : True := trivial
theorem PySem.W.Fast.tw8829487743986336003 : True := trivial
theorem PySem.W.Fast.tw919944287725689776 : True := trivial
theorem PySem.W.Fast.tw806982521313216348 : True := trivial
theorem PySem.W.Fast.tw18283067497802071617 : True := trivial
theorem PySem.W.Fast.tw7366126327826112306 : True := trivial
theorem PySem.W.Fast.tw11645835781626707592 : True := trivial
theorem PySem.W.Fast.tw18068478884403832787 : True := trivial
theorem PySem.W.Fast.tw5037088579890719708 : True := trivial
theorem PySem.W.Fast.tw2996649753536753773 : True := trivial
theorem PySem.W.Fast.tw6030818068557402879 : True := trivial
theorem PySem.W.Fast.tw960969943808813570 : True := trivial
theorem PySem.W.Fast.tw8688400636351139115 : True := trivial
theorem PySem.W.Fast.tw15940706102257910873 : True := trivial
theorem PySem.W.Fast.tw5490760884805326177 : True := trivial
theorem PySem.W.Fast.tw10379492292775855778 : True := trivial
theorem PySem.W.Fast.tw11556828153766269183 : True := trivial
theorem PySem.W.Fast.tw7401801477070149500 : True := trivial
theorem PySem.W.Fast.tw2298274139455537168 : True := trivial
theorem PySem.W.Fast.tw9967088367042075116 : True := trivial
theorem PySem.W.Fast.tw6601064119719192463 : True := trivial
open PySem PySem.W PyProof.Rows
set_option maxRecDepth 100000 in
set_option maxHeartbeats 0 in
theorem PySem.Challenge.cw_fewdistances_k90_bars_by_hulls_and_by_pa_holds : PySem.Challenge.rw_fewdistances_k90_bars_by_hulls_and_by_pa.Holds := by
 w_on;o_law;k_head;(case hw=>w_witness2)
 k_fill
 refine _D.JM (l:=PySem.Challenge.rw_fewdistances_k90_bars_by_hulls_and_by_pa) (k:=10) (x:="_law_script") rfl rfl ⟨rfl,by decide,by decide,rfl⟩ (fun _=>by kernel_rfl) (fun w h Y=>PySem.W.km_in_of Y) ?F
 case F =>
  intro w mg fa h KX G hmg
  refine' _K.W5 (_D.JL _K.bdf ?hp rfl KX G ?s ?z (_K.VN ?q0 ?q1 ?q2 ?q3 ?q4 ?q5 ?q6 ?q7 ?q8 ?q9 ?q10 ?q11 ?q12 ?q13 ?q14) (_K.VO ) ?e1 ?e2 ?e3 ?e4 ?e5 ?e6) ?nd ?hT ?nf hmg
  (case s=>(repeat (refine' ⟨_D.SrcF.mk ?a ?l ?c ?k,?_⟩;(case a=>k_is);(case l=>k_is);(case c=>k_is);(case k=>k_is)));exact trivial)
  (case z=>rfl)
  (case q0=>k_is)
  (case q1=>k_is)
  (case q2=>k_is)
  (case q3=>k_is)
  (case q4=>k_is)
  (case q5=>k_is)
  (case q6=>k_is)
  (case q7=>k_is)
  (case q8=>k_is)
  (case q9=>k_is)
  (case q10=>k_is)
  (case q11=>k_is)
  (case q12=>k_is)
  (case q13=>k_is)
  (case q14=>k_is)
  (case hp=>intro y hy;revert hy;simp;grind)
  (case e1=>rfl)
  (case e2=>rfl)
  (case e3=>rfl)
  (case e4=>rfl)
  (case e5=>rfl)
  (case e6=>rfl)
  (case nd=>decide)
  (case hT=>rfl)
  (case nf=>decide)
