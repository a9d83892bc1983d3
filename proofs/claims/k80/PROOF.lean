import PyProof.Rows.All
import Wide.All
import OpenK.AllK
import Wide.FinOn
import Lean
import PyProof.EqAt
import PyProof.EqKinds
import PyProof.TupleCall
import KE.KLam
import KE.KTryMore
import KE.KIsAll
import PyProof.NeKinds
import PyProof.Rows.CountFlat
import PyProof.Rows.FStr
import PyProof.ZipIter
import PyProof.EnumMake
import PyProof.EnumStmt
import KE.KDictLaws
import PyProof.DictWalks
import PyProof.Rows.SetFrom
import PyProof.SumWalkG
import PyProof.Rows.SumGenD
import PyProof.SeqI2
import KE.KItemsList
import PyProof.SetKind
import PyProof.TupleKey
import KE.KSortTup
import PyProof.ReprRoads
import PyProof.ReprBulk
import PyProof.TupleOfSeq
import PyProof.WalkInts
import PyProof.SeqI3
import PyProof.Rows.RuleDivmod
import KE.KPairComp
import KE.KMinKey
import PyProof.Rows.CallKwBuiltin
import PySem.Challenge.RW_fewdistances_k80_lots_of_two_fars
set_option Elab.async false
set_option linter.all false
set_option maxRecDepth 100000
set_option maxHeartbeats 0
set_option tactic.hygienic false
set_option bootstrap.genMatcherCode false
set_option genSizeOf false
set_option compiler.extract_closed false
theorem kd {p:Prop}[Decidable p](h:p:=by decide +kernel):p:=h
section
namespace _L
open PySem PySem.Spec PyProof.Rows
abbrev Key:=Sum Int Str
def pT:Key→Value→Bool
 |.inl k,v=>Value.isInt k v
 |.inr x,v=>Value.isStrOf x v
def SW (w:World):Key→Int
 |.inl k=>hashInt k
 |.inr x=>hashStr w x
theorem zZ:∀ {k:Key} {v:Value},pT k v=true→(∃ i t,k=Sum.inl i∧v=Value.int i t)∨(∃ x t,k=Sum.inr x∧v=Value.str x t)
 |.inl i,v,h=>by
  obtain⟨t,e⟩:=Value.isInt_shape (k:=i) (v:=v) h
  exact .inl ⟨i,t,rfl,e⟩
 |.inr x,v,h=>by
  obtain⟨t,e⟩:=Value.isStrOf_shape (x:=x) (v:=v) h
  exact .inr ⟨x,t,rfl,e⟩
theorem iS (i:Int)(t:Tok):pT (.inl i) (.int i t)=true:=by simp[pT,Value.isInt]
theorem iT (x:Str)(t:Tok):pT (.inr x) (.str x t)=true:=by simp[pT,Value.isStrOf]
theorem BG (a b:Int):decide ((Sum.inl a:Key)=Sum.inl b)=(a == b):=by
 by_cases e:a=b
 ·subst e;simp
 ·have h:¬ (Sum.inl a:Key)=Sum.inl b:=fun q=>e (Sum.inl.inj q)
  rw[decide_eq_false h]
  exact(beq_eq_false_iff_ne.mpr e).symm
theorem BJ (a b:Str):decide ((Sum.inr a:Key)=Sum.inr b)=decide (a=b):=by
 by_cases e:a=b
 ·subst e;simp
 ·have h:¬ (Sum.inr a:Key)=Sum.inr b:=fun q=>e (Sum.inr.inj q)
  rw[decide_eq_false h,decide_eq_false e]
theorem BH (a:Int)(b:Str):decide ((Sum.inl a:Key)=Sum.inr b)=false:=decide_eq_false (fun q=>nomatch q)
theorem BI (a:Str)(b:Int):decide ((Sum.inr a:Key)=Sum.inl b)=false:=decide_eq_false (fun q=>nomatch q)
def zX (prog:Program)(w:World):PySem.KeyKind prog w Key where
 is:=pT
 hash:=SW w
 inj:=fun v a b ha hb=>by
  rcases zZ ha with⟨i,t,rfl,rfl⟩|⟨x,t,rfl,rfl⟩
  ·rcases zZ hb with⟨j,u,rfl,e⟩|⟨y,u,rfl,e⟩
   ·injection e with e1 _;rw[e1]
   ·exact nomatch e
  ·rcases zZ hb with⟨j,u,rfl,e⟩|⟨y,u,rfl,e⟩
   ·exact nomatch e
   ·injection e with e1 _;rw[e1]
 byValue:=fun k v h=>by
  rcases zZ h with⟨i,t,rfl,rfl⟩|⟨x,t,rfl,rfl⟩ <;> rfl
 pyHash:=fun hv h=>by
  rcases zZ hv with⟨i,t,rfl,rfl⟩|⟨x,t,rfl,rfl⟩
  ·exact wpAny_pyHash_int h
  ·exact wpAny_pyHash_str h
 eqBool:=fun hu hv h=>by
  rcases zZ hu with⟨i,t,rfl,rfl⟩|⟨x,t,rfl,rfl⟩
  ·rcases zZ hv with⟨j,u,rfl,rfl⟩|⟨y,u,rfl,rfl⟩
   ·rw[BG] at h;exact wpAny_eqBool_int h
   ·rw[BH] at h;exact SeqAt.EqAt.int_str i t y u _ _ _ _ h
  ·rcases zZ hv with⟨j,u,rfl,rfl⟩|⟨y,u,rfl,rfl⟩
   ·rw[BI] at h;exact SeqAt.EqAt.str_int x t j u _ _ _ _ h
   ·rw[BJ] at h;exact wpAny_eqBool_str h
 «strs»:=fun k x t v h=>by
  rcases zZ h with⟨i,u,rfl,e⟩|⟨y,u,rfl,e⟩
  ·exact nomatch e
  ·injection e with e1 _
   subst e1
   cases v <;> rfl
theorem sS (prog:Program)(w:World)(i:Int)(t:Tok):(zX prog w).is (.inl i) (.int i t)=true:=iS i t
theorem sT (prog:Program)(w:World)(x:Str)(t:Tok):(zX prog w).is (.inr x) (.str x t)=true:=iT x t
end _L
namespace _L
open PySem PySem.Spec PyProof.Rows
inductive V where
 |non|bl (b:Bool)|int (i:Int)|str (x:Str)|byt (b:Array UInt8)|flt (b:UInt64)|ref (a:Addr)|ty (n:String)
 deriving DecidableEq
def qK:V→Value→Prop
 |.non,u=>u=Value.none
 |.bl b,u=>u=Value.bool b
 |.int i,u=>∃ t,u=Value.int i t
 |.str x,u=>∃ t,u=Value.str x t
 |.byt b,u=>∃ t,u=Value.bytes b t
 |.flt b,u=>∃ t,u=Value.float b t
 |.ref a,u=>u=Value.ref a
 |.ty n,u=>u=Value.type n
abbrev qN:List V→List Value→Prop:=Paired qK
theorem qN.length {xs:List V}{us:List Value}(r:qN xs us):xs.length=us.length:=Paired.length r
theorem qN.get:∀ {xs:List V} {us:List Value} {i:Nat} {x:V},qN xs us→xs[i]? = some x→∃ u,us[i]? = some u∧qK x u
 |_,_,_,_,.nil,e=>by simp at e
 |_,_,0,_,.cons r _,e=>by simp at e;subst e;exact⟨_,rfl,r⟩
 |_,_,i+1,x,.cons _ t,e=>by
  obtain⟨u,h1,h2⟩:=qN.get (i:=i) (x:=x) t (by simpa using e)
  exact⟨u,by simpa using h1,h2⟩
theorem qN.set {x:V}{u:Value}(r:qK x u):∀ {xs:List V} {us:List Value} (i:Nat),qN xs us→qN (xs.set i x) (us.set i u)
 |_,_,_,.nil=>.nil
 |_,_,0,.cons _ t=>.cons r t
 |_,_,i+1,.cons q t=>.cons q (qN.set r i t)
theorem qN.append {xs ys:List V}{us ws:List Value}(h:qN xs us)(s:qN ys ws):qN (xs++ys) (us++ws):=by
 induction h with
 |nil=>exact s
 |cons r t ih=>exact .cons r ih
theorem qN.take:∀ {xs:List V} {us:List Value} (n:Nat),qN xs us→qN (xs.take n) (us.take n)
 |_,_,0,_=>.nil
 |_,_,_+1,.nil=>.nil
 |_,_,n+1,.cons r t=>.cons r (qN.take n t)
theorem qN.drop:∀ {xs:List V} {us:List Value} (n:Nat),qN xs us→qN (xs.drop n) (us.drop n)
 |_,_,0,r=>r
 |_,_,_+1,.nil=>.nil
 |_,_,n+1,.cons _ t=>qN.drop n t
def kJ:Option V→Option Value→Prop
 |some v,some u=>qK v u
 |none,none=>True
 |_,_=>False
def KV {κ : Type}:List (κ × V)→List (κ × Value)→Prop:=Paired fun (p:κ × V) (q:κ × Value)=>p.1=q.1∧qK p.2 q.2
def kV:Key→V
 |.inl i=>.int i
 |.inr x=>.str x
inductive HO where
  |lst (xs:List V)
  |tup (xs:List V)
  |dK (kvs:List (Key × V))|dT (kvs:List (List Key × V))
  |set (S:Int→Bool) (n:Nat)
  |ins (C dx:Addr) (fs:List (Str × V))
  |own (x:Addr)
  |xd (fs:List (Str × V))
  |met (f x:Addr)
  |rng (lo hi:Int)
  |frz (o:Obj) (u:HO)
  |tbl (ps:Array Value)
  |ext (φ : Heap→Prop)
abbrev Hp:=Addr→Option HO
def upd (H:Hp)(a:Addr)(o:HO):Hp:=fun b=>if b=a then some o else H b
theorem qS {H:Hp}{a:Addr}{o:HO}:upd H a o a=some o:=by unfold upd;rw[if_pos rfl]
theorem qI {H:Hp}{a b:Addr}{o:HO}(h:b≠a):upd H a o b=H b:=by unfold upd;rw[if_neg h]
theorem NY {H:Hp}{a b:Addr}{o u:HO}(h:H a=some o)(h':H b=some u)(d:o≠u):a≠b:=by
 intro e;subst e;rw[h] at h';exact d (Option.some.inj h')
theorem qQ {H:Hp}{a b:Addr}{o:HO}(h:H a=some o)(h':H b=none):a≠b:=by
 intro e;subst e;rw[h] at h';cases h'
section
variable (P:Program)(w:World)
def zA (H:Hp)(h:Heap)(a:Addr):HO→Prop
 |.lst xs=>xs.length≤sizeLine∧∃ (its:List Value) (n:Nat),qN xs its∧h.get? a=some { cls:=.type "list",data:=.seq its.toArray n }
 |.tup xs=>xs.length≤sizeLine∧∃ its:List Value,qN xs its∧IsTup h a its.toArray
 |.dK kvs=>kvs.length≤sizeLine∧(a == sysModules)=false∧∃ vs,KV kvs vs∧h.DictOf (zX P w) a vs
 |.dT kvs=>kvs.length≤sizeLine∧(a == sysModules)=false∧∃ xs:List (List Key × Addr × Value),
   Paired (fun (p:List Key × V) (q:List Key × Addr × Value)=>p.1=q.1∧H q.2.1=some (.tup (p.1.map kV))∧qK p.2 q.2.2) kvs xs ∧
   ∃ o es ep,h.get? a=some o∧o.ExactDict∧o.data=.dict es ep∧es.toList=xs.map (entryOfKey (tupleKind (zX P w)))∧(xs.map (·.1)).Nodup
 |.set S n=>h.SetOf (intKind P w) a S n
 |.ins C dx fs=>H dx=some (.own a)∧fs.length≤1000∧dx≠a∧h.get? a=some (PySem.W.instObj C dx) ∧
   ∃ mA,h.Ns1 dx mA∧(∀ f,kJ (fs.lookup f) (mA f))∧PySem.Within mA (fs.map (·.1))
 |.own _=>∃ o,h.get? a=some o
 |.xd fs=>∃ mA,h.Ns1 a mA∧∀ f,kJ (fs.lookup f) (mA f)
 |.rng lo hi=>∃ t u v,h.get? a=some { cls:=.type "range",data:=.fields #[.int lo t,.int hi u,.int 1 v] }
 |.frz o u=>h.get? a=some o∧zA H h a u
 |.tbl ps=>h.get? a=some { cls:=.none,data:=.fields ps }
 |.met f x=>h.get? a=some (PySem.W.methodObj (.ref f) (.ref x))
 |.ext φ => φ h∧(∃ o,h.get? a=some o)∧∀ h1 h2:Heap,φ h1→(∀ o,h1.get? a=some o→h2.get? a=some o)→φ h2
def HOk (H:Hp)(h:Heap):Prop:=∀ a o,H a=some o→zA P w H h a o
end
section
variable {P:Program}{w:World}{H H':Hp}{h h':Heap}{a:Addr}{o:HO}
theorem zA.lt (x:zA P w H h a o):a<h.objs.size:=by
 cases o with
 |lst xs=>obtain⟨_,_,_,_,e⟩:=x;exact Heap.lt_size e
 |tup xs=>obtain⟨_,_,_,p⟩:=x;exact p.lt
 |dK kvs=>obtain⟨_,_,_,_,o,_,_,e,_⟩:=x;exact Heap.lt_size e
 |dT kvs=>obtain⟨_,_,_,_,o,_,_,e,_⟩:=x;exact Heap.lt_size e
 |set S n=>obtain⟨o,_,_,_,e,_⟩:=x;exact Heap.lt_size e
 |ins C dx fs=>obtain⟨_,_,_,e,_⟩:=x;exact Heap.lt_size e
 |own y=>obtain⟨_,e⟩:=x;exact Heap.lt_size e
 |xd fs=>obtain⟨_,⟨_,_,_,e,_⟩,_⟩:=x;exact Heap.lt_size e
 |rng lo hi=>obtain⟨_,_,_,e⟩:=x;exact Heap.lt_size e
 |frz ob u=>obtain⟨e,_⟩:=x;exact Heap.lt_size e
 |tbl ps=>exact Heap.lt_size (show h.get? a=some _ from x)
 |met f y=>exact Heap.lt_size (show h.get? a=some _ from x)
 |ext φ => obtain⟨_,⟨_,e⟩,_⟩:=x;exact Heap.lt_size e
theorem Paired.mapP {α β:Type}{F G:α→β→Prop}{l₁:List α}{l₂:List β}(h:Paired F l₁ l₂)(f:∀ a b,F a b→G a b):Paired G l₁ l₂:=by
 induction h with
 |nil=>exact .nil
 |cons r t ih=>exact .cons (f _ _ r) ih
theorem zA.stay (x:zA P w H h a o)(k:∀ b u,(b=a∨H b=some (.own a))→h.get? b=some u→h'.get? b=some u)
  (ho:∀ b,H b=some (.own a)→H' b=some (.own a)) (ht:∀ b xs,H b=some (.tup xs)→H' b=some (.tup xs)):zA P w H' h' a o:=by
 induction o with
 |lst xs=>obtain⟨z,its,n,r,e⟩:=x;exact⟨z,its,n,r,k _ _ (.inl rfl) e⟩
 |tup xs=>obtain⟨z,its,r,ob,e,c⟩:=x;exact⟨z,its,r,ob,k _ _ (.inl rfl) e,c⟩
 |dK kvs=>obtain⟨z,y,vs,r,ob,es,ep,e,c⟩:=x;exact⟨z,y,vs,r,ob,es,ep,k _ _ (.inl rfl) e,c⟩
 |dT kvs =>
  obtain⟨z,y,xs,r,ob,es,ep,e,c⟩:=x
  exact⟨z,y,xs,Paired.mapP r fun p q z=>⟨z.1,ht _ _ z.2.1,z.2.2⟩,ob,es,ep,k _ _ (.inl rfl) e,c⟩
 |set S n=>obtain⟨ob,es,ep,t,e,c⟩:=x;exact⟨ob,es,ep,t,k _ _ (.inl rfl) e,c⟩
 |ins C dx fs =>
  obtain⟨d,z,ne,e,mA,⟨od,es,ep,e2,c⟩,r⟩:=x
  exact⟨ho _ d,z,ne,k _ _ (.inl rfl) e,mA,⟨od,es,ep,k _ _ (.inr d) e2,c⟩,r⟩
 |own y=>obtain⟨ob,e⟩:=x;exact⟨ob,k _ _ (.inl rfl) e⟩
 |xd fs=>obtain⟨mA,⟨od,es,ep,e,c⟩,r⟩:=x;exact⟨mA,⟨od,es,ep,k _ _ (.inl rfl) e,c⟩,r⟩
 |rng lo hi=>obtain⟨t,u,v,e⟩:=x;exact⟨t,u,v,k _ _ (.inl rfl) e⟩
 |frz ob u ih=>obtain⟨e,q⟩:=x;exact⟨k _ _ (.inl rfl) e,ih q⟩
 |tbl ps =>
  have e:h.get? a=some { cls:=.none,data:=.fields ps }:=x
  show h'.get? a=some { cls:=.none,data:=.fields ps }
  exact k a _ (.inl rfl) e
 |met f y =>
  have e:h.get? a=some (PySem.W.methodObj (.ref f) (.ref y)):=x
  show h'.get? a=some (PySem.W.methodObj (.ref f) (.ref y))
  exact k a _ (.inl rfl) e
 |ext φ => obtain⟨p,⟨o,e⟩,st⟩:=x;exact⟨st _ _ p fun o q=>k _ _ (.inl rfl) q,⟨o,k _ _ (.inl rfl) e⟩,st⟩
theorem HOk.lt (x:HOk P w H h)(e:H a=some o):a<h.objs.size:=(x a o e).lt
theorem HOk.fresh (x:HOk P w H h)(e:h.objs.size≤a):H a=none:=by
 cases q:H a with
 |none=>rfl
 |some u=>exact absurd (Nat.lt_of_lt_of_le (x.lt q) e) (Nat.lt_irrefl _)
theorem HOk.kept (x:HOk P w H h)(k:∀ b u,h.get? b=some u→h'.get? b=some u):HOk P w H h':=fun a o e =>
 (x a o e).stay (fun b u _ q=>k b u q) (fun _ q=>q) fun _ _ q=>q
theorem HOk.laid (x:HOk P w H h)(k:∀ b u,h.get? b=some u→h'.get? b=some u)(hp:h.objs.size≤a)(new:zA P w (upd H a o) h' a o):HOk P w (upd H a o) h':=fun b u e=>by
 have hn:=x.fresh hp
 by_cases hb:b=a
 ·subst hb;rw[qS] at e;cases e;exact new
 ·rw[qI hb] at e
  exact(x b u e).stay (fun c v _ q=>k c v q) (fun c q=>by rw[qI (qQ q hn)];exact q) fun c xs q=>by rw[qI (qQ q hn)];exact q
end
def Rd (H:Hp)(a:Addr)(u:HO):Prop:=H a=some u∨∃ o,H a=some (.frz o u)
theorem Rd.of {H:Hp}{a:Addr}{u:HO}(h:H a=some u):Rd H a u:=.inl h
theorem Rd.ok {P:Program}{w:World}{H:Hp}{h:Heap}{a:Addr}{u:HO}(r:Rd H a u)(x:HOk P w H h):zA P w H h a u:=by
 rcases r with r|⟨o,r⟩
 ·exact x a u r
 ·obtain⟨_,q⟩:=x a _ r
  exact q
def Mut:Option HO→Prop
 |some (.lst _)=>True
 |some (.dK _)=>True
 |some (.dT _)=>True
 |some (.set _ _)=>True
 |some (.ins _ _ _)=>True
 |some (.ext _)=>True
 |_=>False
section
variable {P:Program}{w:World}{H:Hp}{h h':Heap}{x e:Addr}{o':HO}
theorem HOk.write (ok:HOk P w H h)(mu:Mut (H x))(he:e=x∨H e=some (.own x))(k:∀ b u,b≠e→h.get? b=some u→h'.get? b=some u)(heo:∃ u,h'.get? e=some u)
  (new:zA P w (upd H x o') h' x o'):HOk P w (upd H x o') h':=fun b u q=>by
 have nown:∀ c y,H c=some (.own y)→c≠x:=fun c y r z=>by subst z;rw[r] at mu;exact mu
 have ntup:∀ c xs,H c=some (.tup xs)→c≠x:=fun c xs r z=>by subst z;rw[r] at mu;exact mu
 by_cases hb:b=x
 ·subst hb;rw[qS] at q;cases q;exact new
 ·rw[qI hb] at q
  by_cases hbe:b=e
  ·have q':H b=some (.own x):=by
    rcases he with z|z
    ·exact absurd (hbe.trans z) hb
    ·rw[hbe];exact z
   rw[q] at q';cases q'
   obtain⟨v,hv⟩:=heo
   exact⟨v,by rw[hbe];exact hv⟩
  ·refine(ok b u q).stay (fun c v hc r=>k c v ?_ r) (fun c r=>by rw[qI (nown c b r)];exact r) fun c xs r=>by rw[qI (ntup c xs r)];exact r
   rcases hc with rfl|hc
   ·exact hbe
   ·rintro rfl
    rcases he with z|z
    ·exact nown c b hc z
    ·rw[hc] at z;cases z;exact hb rfl
end
structure Un (fs ex:List Addr)(H H':Hp)(h h':Heap):Prop where
 keep:∀ b o,h.get? b=some o→H b=none→b ∉ fs→b ∉ ex→h'.get? b=some o
 slot:∀ b o,h.get? b=some o→H b=none→b∈fs→b ∉ ex→∃ sl,h'.get? b=some { o with slots:=sl }
 free:∀ b o,h.get? b=some o→H b=none→b ∉ ex→H' b=none
 there:∀ b o,h.get? b=some o→b ∉ ex→∃ o',h'.get? b=some o'
 tups:∀ b xs,H b=some (.tup xs)→H' b=some (.tup xs)
 frzs:∀ b o u,H b=some (.frz o u)→H' b=some (.frz o u)
 tbls:∀ b ps,H b=some (.tbl ps)→∃ more,H' b=some (.tbl (ps++more))
section
variable {fs fs' ex ex':List Addr}{H H1 H2:Hp}{h h1 h2 h':Heap}{a x e:Addr}{o:HO}
theorem Un.any (u:Un fs ex H H1 h h1){b:Addr}{ob:Obj}(q:h.get? b=some ob)(n:H b=none)(hx:b ∉ ex):∃ sl,h1.get? b=some { ob with slots:=sl }:=by
 by_cases hb:b∈fs
 ·exact u.slot b ob q n hb hx
 ·exact⟨ob.slots,u.keep b ob q n hb hx⟩
theorem Un.kept (k:∀ b u,h.get? b=some u→h'.get? b=some u):Un fs ex H H h h':=
 ⟨fun b ob q _ _ _=>k b ob q,fun b ob q _ _ _=>⟨ob.slots,k b ob q⟩,fun _ _ _ n _=>n,fun b ob q _=>⟨ob,k b ob q⟩,fun _ _ q=>q,fun _ _ _ q=>q,fun _ ps q=>⟨#[],by rw[q];simp⟩⟩
theorem Un.refl:Un fs ex H H h h:=Un.kept fun _ _ q=>q
theorem Un.laid (k:∀ b u,h.get? b=some u→h'.get? b=some u)(hp:h.objs.size≤a)(hn:H a=none):Un fs ex H (upd H a o) h h' where
 keep:=fun b u q _ _ _=>k b u q
 slot:=fun b u q _ _ _=>⟨u.slots,k b u q⟩
 free:=fun b u q n _=>by rw[qI (Nat.ne_of_lt (Nat.lt_of_lt_of_le (Heap.lt_size q) hp))];exact n
 there:=fun b u q _=>⟨u,k b u q⟩
 tups:=fun b xs q=>by rw[qI (qQ q hn)];exact q
 frzs:=fun b u xs q=>by rw[qI (qQ q hn)];exact q
 tbls:=fun b ps q=>⟨#[],by rw[qI (qQ q hn),q];simp⟩
theorem Un.write (mu:Mut (H x))(he:e=x∨H e=some (.own x))(k:∀ b u,b≠e→h.get? b=some u→h'.get? b=some u)(heo:∃ u,h'.get? e=some u):Un fs ex H (upd H x o) h h':=by
 have hx:∀ b,H b=none→b≠x:=fun b n z=>by subst z;rw[n] at mu;exact mu
 have hb:∀ b,H b=none→b≠e:=fun b n z=>by
  subst z
  rcases he with r|r
  ·exact hx b n r
  ·rw[n] at r;cases r
 have hm:∀ b u,H b=some u→¬ Mut (some u)→b≠x:=fun b u q nm z=>by subst z;rw[q] at mu;exact nm mu
 refine⟨fun b u q n _ _=>k b u (hb b n) q,fun b u q n _ _=>⟨u.slots,k b u (hb b n) q⟩,fun b u q n _=>by rw[qI (hx b n)];exact n,fun b u q _=>?_,
  fun b xs q=>by rw[qI (hm b _ q fun z=>z)];exact q,fun b u xs q=>by rw[qI (hm b _ q fun z=>z)];exact q,fun b ps q=>⟨#[],by rw[qI (hm b _ q fun z=>z),q];simp⟩⟩
 by_cases hbe:b=e
 ·subst hbe;exact heo
 ·exact⟨u,k b u hbe q⟩
end
def trk (h:Heap)(H:Hp):List Addr:=(List.range h.objs.size).filter fun a=>(H a).isSome
def kU (h:Heap)(H:Hp):Heap:=PySem.W.hideAll h (trk h H)
theorem iK (h:Heap)(H:Hp):(kU h H).objs.size=h.objs.size:=PySem.W.hideAll_size _ _
theorem ZY {h:Heap}{H:Hp}{b:Addr}{o:Obj}(e:h.get? b=some o)(n:H b=none):(kU h H).get? b=some o:=
 PySem.W.hideAll_get _ e fun hm=>by
  have q:(H b).isSome=true:=(List.mem_filter.mp hm).2
  rw[n] at q;simp at q
theorem UO {h:Heap}{H:Hp}{b:Addr}{o:Obj}(e:(kU h H).get? b=some o):h.get? b=some o∧H b=none:=by
 have e':h.get? b=some o:=PySem.W.of_hideAll (trk h H) e
 refine⟨e',?_⟩
 cases q:H b with
 |none=>rfl
 |some x =>
  have hm:b∈trk h H:=List.mem_filter.mpr ⟨List.mem_range.mpr (Heap.lt_size e'),by simp[q]⟩
  have z:(kU h H).get? b=none:=PySem.W.hideAll_none (trk h H) hm
  rw[z] at e;cases e
end _L
namespace _L
open PySem PySem.Spec PyProof.Rows
def wC:List Str:=["law","_law_right","by_hull","pair_bound"]
def KM (mg:Str→Option Value)(h:Heap):Prop:=∃ bm o,mg "__builtins__" = some (.ref bm)∧bm≠builtinsNs∧h.get? bm=some o∧o.cls=.type "module" ∧ o.dict=some builtinsNs∧o.data=.plain
structure Mod (K:PySem.W.Frag)(mg:Str→Option Value)(base:Heap):Prop where
 kin:K.In base
 glob:base.Ns mainGlobals mg
 blt:∃ mb,base.Ns builtinsNs mb∧∀ x:Str,x ≠ "__name__" → mb x=bootBuiltins x
 nolimit:base.NoLimit
 bm:KM mg base
 code:∀ x∈wC,∀ c T,PySem.W.tabIn K x=some (c,T)→PySem.W.CodeHd base c T
 inj:∀ x∈wC,∀ y∈wC,∀ c d T,PySem.W.tabIn K x=some (c,T)→PySem.W.tabIn K y=some (d,T)→x=y
structure Cx where
 prog:Program
 w:World
 K:PySem.W.Frag
 mg:Str→Option Value
 base:Heap
 A:Around
 N:List Str
 s₀:Shared
 H₀:Hp
 env:Env
 outer:List Env
 stack:List Env
 ex:List Addr
 fn:Str→Bool
 calm:Bool
 pn:List (Addr × Obj)
 xe:Value→Shared→Prop
def frs (l:List Env):List Addr:=l.filterMap (·.frame)
abbrev Cx.fs (X:Cx):List Addr:=frs X.outer
def Vis (sc:Scope)(x:Str):Prop:=sc.names.lookup x=some .local ∨ sc.names.lookup x=some .cell∨sc.names.lookup x=some .free
def Loc (sc:Scope)(x:Str):Prop:=sc.names.lookup x=some .local ∨ sc.names.lookup x=some .cell
def KP (env:Env)(h:Heap)(m:Str→Option Value)(x:Str)(u:Value):Prop:=
 (env.kindOf x=some .local ∧ m x=some u)∨((env.kindOf x=some .cell∨env.kindOf x=some .free)∧∃ c,env.cells.lookup x=some c∧h.IsCell c (some u))
structure Cx.Ok (X:Cx):Prop where
 mod:Mod X.K X.mg X.base
 kind:X.env.scope.kind=.function
 glob:X.env.globals=mainGlobals
 blt:X.env.builtins=builtinsNs
 above:X.s₀.heap.objs.size≤X.env.locals
 inj:∀ x y c,X.env.cells.lookup x=some c→X.env.cells.lookup y=some c→x=y
 has:∀ x,(X.env.kindOf x=some .cell∨X.env.kindOf x=some .free)→∃ c,X.env.cells.lookup x=some c
 cab:∀ x c,X.fn x=true→X.env.cells.lookup x=some c→X.s₀.heap.objs.size≤c
 hd:X.calm=true→X.A.handled=none
 frames:X.A.frames=some X.stack
 stk:X.stack=X.outer∨(X.stack=X.env::X.outer∧X.env.frame=some X.env.locals)
 exf:∀ b∈X.ex,b≠X.env.locals∧∀ x c,X.env.cells.lookup x=some c→c≠b
 bs:∀ b o,X.base.get? b=some o→X.s₀.heap.get? b=some o∧X.H₀ b=none
 bsz:X.base.objs.size≤X.s₀.heap.objs.size
 noex:∀ b o,X.base.get? b=some o→b ∉ X.ex
 exfs:∀ b∈X.ex,b ∉ X.fs
 funs:X.s₀.heap.FunFrames X.base X.outer
 frf:∀ b∈X.fs,X.H₀ b=none
structure Inv (X:Cx)(pins:List (Addr × Obj))(σ : List (Option V))(H:Hp)(s:Shared):Prop where
 ok:X.Ok
 os:s.os=X.s₀.os
 bare:AllBare s.gens
 base:Un X.fs X.ex X.H₀ H X.s₀.heap s.heap
 loc:∃ m,s.heap.Ns X.env.locals m∧∀ (i:Nat) (x:Str) (v:V),X.N[i]? = some x→σ[i]? = some (some v)→Vis X.env.scope x→∃ u,qK v u∧KP X.env s.heap m x u
 cell:∀ x c,X.env.cells.lookup x=some c→∃ v,s.heap.IsCell c v
 free:H X.env.locals=none
 freeC:∀ x c,X.env.cells.lookup x=some c→H c=none
 pin:∀ p∈X.pn++pins,s.heap.get? p.1=some p.2∧H p.1=none∧p.1≠X.env.locals∧p.1 ∉ X.fs∧∀ v,p.2.data≠.cell v
 hok:HOk X.prog X.w H s.heap
 len:σ.length=X.N.length
section
variable {X:Cx}{pins:List (Addr × Obj)}{σ : List (Option V)}{H H':Hp}{s:Shared}{h':Heap}
theorem Cx.Ok.nofr (ok:X.Ok){b:Addr}{o:Obj}(e:X.base.get? b=some o):b ∉ X.fs:=fun hb=>by
 have:=(ok.funs.mem hb).1
 rw[e] at this;cases this
theorem Inv.bs (I:Inv X pins σ H s):∀ b o,X.base.get? b=some o→s.heap.get? b=some o∧H b=none:=fun b o e =>
 ⟨I.base.keep b o (I.ok.bs b o e).1 (I.ok.bs b o e).2 (I.ok.nofr e) (I.ok.noex b o e),I.base.free b o (I.ok.bs b o e).1 (I.ok.bs b o e).2 (I.ok.noex b o e)⟩
theorem Inv.bk (I:Inv X pins σ H s):∀ b o,X.base.get? b=some o→s.heap.get? b=some o:=fun b o e=>(I.bs b o e).1
theorem Inv.mod (I:Inv X pins σ H s):Mod X.K X.mg X.base:=I.ok.mod
theorem Inv.kIn (I:Inv X pins σ H s):X.K.In s.heap:=I.ok.mod.kin.keeps I.bk
theorem Inv.nolimit (I:Inv X pins σ H s):s.heap.NoLimit:=I.ok.mod.nolimit.keeps I.bk
theorem Inv.lt (I:Inv X pins σ H s):X.env.locals<s.heap.objs.size:=let ⟨_,hn,_⟩:=I.loc;hn.lt
theorem Inv.sz (I:Inv X pins σ H s):X.s₀.heap.objs.size≤s.heap.objs.size:=Nat.le_trans I.ok.above (Nat.le_of_lt I.lt)
theorem Inv.nofs (I:Inv X pins σ H s){a:Addr}(h:s.heap.objs.size≤a):a ∉ X.fs:=fun hb=>by
 obtain⟨_,o,ho,_⟩:=I.ok.funs.mem hb
 exact absurd (Nat.lt_of_lt_of_le (Heap.lt_size ho) (Nat.le_trans I.sz h)) (Nat.lt_irrefl _)
theorem Inv.cne (I:Inv X pins σ H s):∀ x c,X.env.cells.lookup x=some c→c≠X.env.locals:=fun x c e z=>by
 obtain⟨v,o,ho,hd⟩:=I.cell x c e
 obtain⟨m,⟨o',es,ep,ho',hd',_⟩,_⟩:=I.loc
 rw[z,ho'] at ho;cases ho;rw[hd'] at hd;cases hd
theorem Inv.funs (I:Inv X pins σ H s):s.heap.FunFrames X.base X.outer:=by
 have all:∀ (l:List Env),(∀ b∈frs l,b∈X.fs)→X.s₀.heap.FunFrames X.base l→s.heap.FunFrames X.base l:=by
  intro l
  induction l with
  |nil=>intro _ _;trivial
  |cons env r ih =>
   intro hs hl
   obtain⟨hk,⟨L,o,hf,hn,ho,hd⟩,hr⟩:=hl
   have hL:L∈X.fs:=hs L (by unfold frs;rw[List.filterMap_cons,hf];exact List.mem_cons_self)
   obtain⟨sl,e⟩:=I.base.slot L o ho (I.ok.frf L hL) hL fun z=>I.ok.exfs L z hL
   exact⟨hk,⟨L,_,hf,hn,e,hd⟩,ih (fun b hb=>hs b (by unfold frs;rw[List.filterMap_cons,hf];exact List.mem_cons_of_mem _ hb)) hr⟩
 exact all X.outer (fun _ hb=>hb) I.ok.funs
theorem Inv.stack (I:Inv X pins σ H s):s.heap.FunFrames X.base X.stack:=by
 rcases I.ok.stk with e|⟨e,hf⟩
 ·rw[e];exact I.funs
 ·rw[e]
  obtain⟨m,hn,_⟩:=I.loc
  refine .cons (by rw[I.ok.kind];decide) hf hn ?_ I.funs
  exact Heap.get?_none_of_le (Nat.le_trans I.ok.bsz I.ok.above)
theorem Inv.stkSub (I:Inv X pins σ H s):∀ b∈frs X.stack,b∈X.env.locals::X.fs:=fun b hb=>by
 rcases I.ok.stk with e|⟨e,hf⟩
 ·rw[e] at hb;exact List.mem_cons_of_mem _ hb
 ·rw[e] at hb
  unfold frs at hb
  rw[List.filterMap_cons,hf] at hb
  exact hb
theorem Inv.stkFree (I:Inv X pins σ H s):∀ b∈frs X.stack,H b=none:=fun b hb=>by
 rcases List.mem_cons.mp (I.stkSub b hb) with e|hb
 ·rw[e];exact I.free
 ·obtain⟨_,o,ho,_⟩:=I.ok.funs.mem hb
  exact I.base.free b o ho (I.ok.frf b hb) fun z=>I.ok.exfs b z hb
theorem Inv.step {g':Array GenState}{t':Nat}{d':Drawn}{ch:List Addr}(I:Inv X pins σ H s)
  (hch:∀ b∈ch,(b∈X.ex∨X.s₀.heap.objs.size≤b)∧b≠X.env.locals∧(∀ x c,X.env.cells.lookup x=some c→c≠b)∧∀ p∈X.pn++pins,p.1≠b)
  (keep:∀ b o,b≠X.env.locals→b ∉ X.fs→b ∉ ch→s.heap.get? b=some o→H b=none→h'.get? b=some o)
  (slot:∀ b o,b≠X.env.locals→b∈X.fs→b ∉ ch→s.heap.get? b=some o→H b=none→∃ sl,h'.get? b=some { o with slots:=sl }) (free:∀ b o,b ∉ ch→s.heap.get? b=some o→H b=none→H' b=none)
  (there:∀ b o,b ∉ ch→s.heap.get? b=some o→∃ o',h'.get? b=some o')
  (tups:∀ b xs,H b=some (.tup xs)→H' b=some (.tup xs)) (frzs:∀ b o u,H b=some (.frz o u)→H' b=some (.frz o u)) (tbls:∀ b ps,H b=some (.tbl ps)→∃ more,H' b=some (.tbl (ps++more)))
  (ns:∀ m,s.heap.Ns X.env.locals m→h'.Ns X.env.locals m) (hok:HOk X.prog X.w H' h') (hg:AllBare g') :
  Inv X pins σ H' { s with heap:=h',gens:=g',drawn:=d',toks:=t' }:=by
 have neL:∀ b o,X.s₀.heap.get? b=some o→b≠X.env.locals:=fun b o e=>Nat.ne_of_lt (Nat.lt_of_lt_of_le (Heap.lt_size e) I.ok.above)
 have neC:∀ b o,X.s₀.heap.get? b=some o→b ∉ X.ex→b ∉ ch:=fun b o e hx hb=>by
  rcases (hch b hb).1 with z|z
  ·exact hx z
  ·exact absurd (Nat.lt_of_lt_of_le (Heap.lt_size e) z) (Nat.lt_irrefl _)
 have cellK:∀ x c,X.env.cells.lookup x=some c→∀ v,s.heap.IsCell c v→h'.IsCell c v:=fun x c e v ⟨o,ho,hd⟩=>by
  have nch:c ∉ ch:=fun z=>(hch c z).2.2.1 x c e rfl
  by_cases hc:c∈X.fs
  ·obtain⟨sl,q⟩:=slot c o (I.cne x c e) hc nch ho (I.freeC x c e)
   exact⟨_,q,hd⟩
  ·exact⟨o,keep c o (I.cne x c e) hc nch ho (I.freeC x c e),hd⟩
 refine⟨I.ok,I.os,hg,⟨fun b o e n hb hx=>?_,fun b o e n hb hx=>?_,fun b o e n hx=>?_,fun b o e hx=>?_,fun b xs e=>tups b xs (I.base.tups b xs e),fun b o xs e=>frzs b o xs (I.base.frzs b o xs e),fun b ps e=>?_⟩,?_,fun x c e=>?_,?_,fun x c e=>?_,fun p hp=>?_,hok,I.len⟩
 ·exact keep b o (neL b o e) hb (neC b o e hx) (I.base.keep b o e n hb hx) (I.base.free b o e n hx)
 ·obtain⟨sl,e1⟩:=I.base.slot b o e n hb hx
  obtain⟨sl',e2⟩:=slot b _ (neL b o e) hb (neC b o e hx) e1 (I.base.free b o e n hx)
  exact⟨sl',e2⟩
 ·obtain⟨o',e1⟩:=I.base.there b o e hx
  exact free b o' (neC b o e hx) e1 (I.base.free b o e n hx)
 ·obtain⟨o',e1⟩:=I.base.there b o e hx
  exact there b o' (neC b o e hx) e1
 ·obtain⟨m1,e1⟩:=I.base.tbls b ps e
  obtain⟨m2,e2⟩:=tbls b _ e1
  exact⟨m1++m2,by rw[e2,Array.append_assoc]⟩
 ·obtain⟨m,hn,hl⟩:=I.loc
  refine⟨m,ns m hn,fun i x v e1 e2 e3=>?_⟩
  obtain⟨u,r,l⟩:=hl i x v e1 e2 e3
  refine⟨u,r,?_⟩
  rcases l with l|⟨k,c,e,z⟩
  ·exact .inl l
  ·exact .inr ⟨k,c,e,cellK x c e _ z⟩
 ·obtain⟨v,z⟩:=I.cell x c e
  exact⟨v,cellK x c e v z⟩
 ·obtain⟨m,⟨o,_,_,ho,_⟩,_⟩:=I.loc
  exact free _ o (fun z=>(hch _ z).2.1 rfl) ho I.free
 ·obtain⟨v,o,ho,hd⟩:=I.cell x c e
  exact free c o (fun z=>(hch c z).2.2.1 x c e rfl) ho (I.freeC x c e)
 ·obtain⟨e,n,ne,nf,d⟩:=I.pin p hp
  have nch:p.1 ∉ ch:=fun z=>(hch p.1 z).2.2.2 p hp rfl
  exact⟨keep p.1 p.2 ne nf nch e n,free p.1 p.2 nch e n,ne,nf,d⟩
theorem Inv.un {t':Nat}(I:Inv X pins σ H s)(u:Un X.fs [] H H' s.heap h')(hok:HOk X.prog X.w H' h'):Inv X pins σ H' { s with heap:=h',toks:=t' }:=by
 obtain⟨m,⟨o,es,ep,ho,r⟩,_⟩:=id I.loc
 obtain⟨sl,hL⟩:=u.any ho I.free (by simp)
 exact I.step (g':=s.gens) (d':=s.drawn) (ch:=[]) (fun _ z=>nomatch z) (fun b o _ hb _ e n=>u.keep b o e n hb (by simp)) (fun b o _ hb _ e n=>u.slot b o e n hb (by simp)) (fun b o _ e n=>u.free b o e n (by simp)) (fun b o _ e=>u.there b o e (by simp)) u.tups u.frzs u.tbls (fun m' hm=>by
  obtain⟨o',es',ep',ho',r'⟩:=hm
  rw[ho] at ho';cases ho'
  exact⟨_,es',ep',hL,r'⟩) hok I.bare
theorem Inv.call {g':Array GenState}{t':Nat}{d':Drawn}{ch:List Addr}(I:Inv X pins σ H s)(u:Un (frs X.stack) ch H H' s.heap h')(hok:HOk X.prog X.w H' h')(hg:AllBare g')
  (hch:∀ b∈ch,(b∈X.ex∨X.s₀.heap.objs.size≤b)∧b≠X.env.locals∧(∀ x c,X.env.cells.lookup x=some c→c≠b)∧∀ p∈X.pn++pins,p.1≠b) :
  Inv X pins σ H' { s with heap:=h',gens:=g',drawn:=d',toks:=t' }:=by
 obtain⟨m,⟨o,es,ep,ho,r⟩,_⟩:=id I.loc
 obtain⟨sl,hL⟩:=u.any ho I.free fun z=>(hch _ z).2.1 rfl
 exact I.step (ch:=ch) hch (fun b o hL hb hc e n=>u.keep b o e n (fun z=>(List.mem_cons.mp (I.stkSub b z)).elim hL hb) hc) (fun b o _ _ hc e n=>u.any e n hc) (fun b o hc e n=>u.free b o e n hc) (fun b o hc e=>u.there b o e hc) u.tups u.frzs u.tbls (fun m' hm=>by
  obtain⟨o',es',ep',ho',r'⟩:=hm
  rw[ho] at ho';cases ho'
  exact⟨_,es',ep',hL,r'⟩) hok hg
theorem Inv.turned {t':Nat}{it:Addr}(I:Inv X pins σ H s)(k:∀ b o,b≠it→s.heap.get? b=some o→h'.get? b=some o)(hn:H it=none)(hL:it≠X.env.locals)
  (h1:it∈X.ex∨X.s₀.heap.objs.size≤it) (h2:∀ x c,X.env.cells.lookup x=some c→c≠it) (h3:∀ p∈X.pn++pins,p.1≠it):Inv X pins σ H { s with heap:=h',toks:=t' }:=by
 have nit:∀ b u,H b=some u→b≠it:=fun b u e z=>by rw[z,hn] at e;cases e
 refine I.step (g':=s.gens) (d':=s.drawn) (ch:=[it]) (fun b hb=>?_) (fun b o _ _ hc e _=>k b o (fun z=>hc (by simp[z])) e) (fun b o _ _ hc e _=>⟨o.slots,k b o (fun z=>hc (by simp[z])) e⟩) (fun _ _ _ _ n=>n)
  (fun b o hc e=>⟨o,k b o (fun z=>hc (by simp[z])) e⟩) (fun _ _ e=>e) (fun _ _ _ e=>e) (fun b ps e=>⟨#[],by rw[e];simp⟩) (fun m hm=>?_) (fun b u e=>?_) I.bare
 ·have e:b=it:=by simpa using hb
  subst e
  exact⟨h1,hL,h2,h3⟩
 ·obtain⟨o,es,ep,ho,r⟩:=hm
  exact⟨o,es,ep,k _ o (Ne.symm hL) ho,r⟩
 ·refine(I.hok b u e).stay (fun c v hc q=>k c v ?_ q) (fun _ q=>q) fun _ _ q=>q
  rcases hc with z|z
  ·rw[z];exact nit b u e
  ·exact nit c _ z
theorem Inv.tok (I:Inv X pins σ H s)(t:Nat):Inv X pins σ H { s with toks:=t }:=I.un (h':=s.heap) (t':=t) Un.refl I.hok
theorem Inv.kept {t':Nat}(I:Inv X pins σ H s)(k:∀ b u,s.heap.get? b=some u→h'.get? b=some u):Inv X pins σ H { s with heap:=h',toks:=t' }:=I.un (Un.kept k) (I.hok.kept k)
theorem Inv.laid {a:Addr}{o:HO}{t':Nat}(I:Inv X pins σ H s)(k:∀ b u,s.heap.get? b=some u→h'.get? b=some u)(hp:s.heap.objs.size≤a)(new:zA X.prog X.w (upd H a o) h' a o) :
  Inv X pins σ (upd H a o) { s with heap:=h',toks:=t' }:=I.un (Un.laid k hp (I.hok.fresh hp)) (I.hok.laid k hp new)
theorem Inv.write {x e:Addr}{o:HO}{t':Nat}(I:Inv X pins σ H s)(mu:Mut (H x))(he:e=x∨H e=some (.own x))(k:∀ b u,b≠e→s.heap.get? b=some u→h'.get? b=some u)(heo:∃ u,h'.get? e=some u)
  (new:zA X.prog X.w (upd H x o) h' x o):Inv X pins σ (upd H x o) { s with heap:=h',toks:=t' }:=I.un (Un.write mu he k heo) (I.hok.write mu he k heo new)
theorem Inv.pins_of {pins':List (Addr × Obj)}(I:Inv X pins σ H s)(h:∀ p∈pins',s.heap.get? p.1=some p.2∧H p.1=none∧p.1≠X.env.locals∧p.1 ∉ X.fs∧∀ v,p.2.data≠.cell v):Inv X pins' σ H s:=
 ⟨I.ok,I.os,I.bare,I.base,I.loc,I.cell,I.free,I.freeC,fun p hp=>(List.mem_append.mp hp).elim (fun z=>I.pin p (List.mem_append_left _ z)) (h p),I.hok,I.len⟩
theorem bP {N:List Str}(hN:N.Nodup){i j:Nat}{x:Str}(a:N[i]? = some x)(b:N[j]? = some x):i=j:=by
 obtain⟨h1,e1⟩:=List.getElem?_eq_some_iff.mp a
 obtain⟨h2,e2⟩:=List.getElem?_eq_some_iff.mp b
 exact(List.getElem_inj hN).mp (e1.trans e2.symm)
theorem nD {M:Model}{A:Around}{E:Value→Shared→Prop}{i:Nat}{x:Str}{v:V}{u:Value}{Q:Unit→Shared→Prop}(I:Inv X pins σ H s)(hN:X.N.Nodup)(hi:X.N[i]? = some x)(hx:Loc X.env.scope x)(r:qK v u)
  (h:∀ s',Inv X pins (σ.set i (some v)) H s'→(∃ a,Heap.SameBut a s.heap s'.heap∧(a=X.env.locals∨X.env.cells.lookup x=some a))→Q () s') (hf:X.fn x=true∨X.env.scope.names.lookup x=some .local:=by first|exact .inl rfl|exact .inr rfl|assumption):wpAny M A (storeName X.env x u) Q E s:=by
 obtain⟨m,hn,hl⟩:=id I.loc
 have hcls:(X.env.scope.kind == .class||(X.env.scope.kind == .module&&X.env.locals != X.env.globals))=false:=by rw[I.ok.kind];rfl
 have hiσ:i<σ.length:=by rw[I.len];exact(List.getElem?_eq_some_iff.mp hi).1
 have cne:=I.cne
 have tracked:∀ {a:Addr} {h':Heap},(∃ o,s.heap.get? a=some o∧H a=none)→Heap.SameBut a s.heap h'→HOk X.prog X.w H h':=fun {a h'} ha hs b ob e=>by
  obtain⟨_,_,hfree⟩:=ha
  refine(I.hok b ob e).stay (fun c w' hc q=>(hs.2 c ?_).trans q) (fun _ q=>q) fun _ _ q=>q
  rintro rfl
  rcases hc with rfl|hc
  ·rw[hfree] at e;cases e
  ·rw[hfree] at hc;cases hc
 rcases hx with hk|hk
 ·refine wpAny_storeName_local hk hn (fun h' hn' hs=>?_) hcls
  obtain⟨oL,_,_,hoL,_⟩:=id hn
  refine h _ ⟨I.ok,I.os,I.bare,⟨fun b o e n hb hx=>?_,fun b o e n hb hx=>?_,I.base.free,fun b o e hx=>?_,I.base.tups,I.base.frzs,I.base.tbls⟩,⟨_,hn',fun j y v' e1 e2 e3=>?_⟩,fun y c e=>?_,I.free,I.freeC,fun p hp=>?_,tracked ⟨oL,hoL,I.free⟩ hs,by simpa using I.len⟩ ⟨_,hs,.inl rfl⟩
  ·exact(hs.2 b (Nat.ne_of_lt (Nat.lt_of_lt_of_le (Heap.lt_size e) I.ok.above))).trans (I.base.keep b o e n hb hx)
  ·obtain⟨sl,e1⟩:=I.base.slot b o e n hb hx
   exact⟨sl,(hs.2 b (Nat.ne_of_lt (Nat.lt_of_lt_of_le (Heap.lt_size e) I.ok.above))).trans e1⟩
  ·obtain⟨o',e1⟩:=I.base.there b o e hx
   exact⟨o',(hs.2 b (Nat.ne_of_lt (Nat.lt_of_lt_of_le (Heap.lt_size e) I.ok.above))).trans e1⟩
  ·by_cases hj:j=i
   ·subst hj
    rw[hi] at e1;cases e1
    rw[List.getElem?_set_self hiσ] at e2
    cases e2
    exact⟨u,r,.inl ⟨hk,by simp⟩⟩
   ·rw[List.getElem?_set_ne (Ne.symm hj)] at e2
    obtain⟨u',r',q⟩:=hl j y v' e1 e2 e3
    refine⟨u',r',?_⟩
    rcases q with⟨k,e⟩|⟨k,c,e,z⟩
    ·refine .inl ⟨k,?_⟩
     have:y≠x:=fun e=>hj (bP hN e1 (e▸hi))
     simp[this,e]
    ·exact .inr ⟨k,c,e,z.sameBut hs (cne y c e)⟩
  ·obtain⟨w',z⟩:=I.cell y c e
   exact⟨w',z.sameBut hs (cne y c e)⟩
  ·obtain⟨e,n,ne,nf,d⟩:=I.pin p hp
   exact⟨(hs.2 p.1 ne).trans e,n,ne,nf,d⟩
 ·have hfn:X.fn x=true:=by
   rcases hf with z|z
   ·exact z
   ·rw[z] at hk;cases hk
  obtain⟨c,hc⟩:=I.ok.has x (.inl hk)
  obtain⟨w',z⟩:=I.cell x c hc
  refine wpAny_storeName_cell I.ok.kind hk hc z (fun h' hc' hs=>?_)
  obtain⟨oc,hoc,hocd⟩:=id z
  refine h { s with heap:=h' } ⟨I.ok,I.os,I.bare,⟨fun b o e n hb hx=>?_,fun b o e n hb hx=>?_,I.base.free,fun b o e hx=>?_,I.base.tups,I.base.frzs,I.base.tbls⟩,⟨m,hn.sameBut hs (Ne.symm (cne x c hc)),fun j y v' e1 e2 e3=>?_⟩,fun y c' e=>?_,I.free,I.freeC,fun p hp=>?_,tracked ⟨oc,hoc,I.freeC x c hc⟩ hs,by simpa using I.len⟩ ⟨c,hs,.inr hc⟩
  ·exact(hs.2 b (Nat.ne_of_lt (Nat.lt_of_lt_of_le (Heap.lt_size e) (I.ok.cab x c hfn hc)))).trans (I.base.keep b o e n hb hx)
  ·obtain⟨sl,e1⟩:=I.base.slot b o e n hb hx
   exact⟨sl,(hs.2 b (Nat.ne_of_lt (Nat.lt_of_lt_of_le (Heap.lt_size e) (I.ok.cab x c hfn hc)))).trans e1⟩
  ·obtain⟨o',e1⟩:=I.base.there b o e hx
   exact⟨o',(hs.2 b (Nat.ne_of_lt (Nat.lt_of_lt_of_le (Heap.lt_size e) (I.ok.cab x c hfn hc)))).trans e1⟩
  ·by_cases hj:j=i
   ·subst hj
    rw[hi] at e1;cases e1
    rw[List.getElem?_set_self hiσ] at e2
    cases e2
    exact⟨u,r,.inr ⟨.inl hk,c,hc,hc'⟩⟩
   ·rw[List.getElem?_set_ne (Ne.symm hj)] at e2
    obtain⟨u',r',q⟩:=hl j y v' e1 e2 e3
    refine⟨u',r',?_⟩
    rcases q with q|⟨k,c',e,z'⟩
    ·exact .inl q
    ·refine .inr ⟨k,c',e,z'.sameBut hs ?_⟩
     rintro rfl
     exact hj (bP hN e1 (I.ok.inj _ _ _ e hc▸hi))
  ·by_cases hcc:c'=c
   ·subst hcc;exact⟨_,hc'⟩
   ·obtain⟨w2,z2⟩:=I.cell y c' e
    exact⟨w2,z2.sameBut hs hcc⟩
  ·obtain⟨e,n,ne,nf,d⟩:=I.pin p hp
   refine⟨(hs.2 p.1 ?_).trans e,n,ne,nf,d⟩
   intro q
   rw[q,hoc] at e
   have q':oc=p.2:=Option.some.inj e
   exact d w' (by rw[← q'];exact hocd)
theorem wW {M:Model}{A:Around}{E:Value→Shared→Prop}{i:Nat}{x:Str}{v:V}{u:Value}{Q:Unit→Shared→Prop}(I:Inv X pins σ H s)(hN:X.N.Nodup)(hi:X.N[i]? = some x)(hx:Loc X.env.scope x)(r:qK v u)
  (h:∀ s',Inv X pins (σ.set i (some v)) H s'→Q () s') (hf:X.fn x=true∨X.env.scope.names.lookup x=some .local:=by first|exact .inl rfl|exact .inr rfl|assumption):wpAny M A (storeName X.env x u) Q E s:=
 nD I hN hi hx r (fun s' I' _=>h s' I') hf
theorem Inv.call' {s':Shared}{ch:List Addr}(I:Inv X pins σ H s)(ho:s'.os=s.os)(u:Un (frs X.stack) ch H H' s.heap s'.heap)(hok:HOk X.prog X.w H' s'.heap)(hg:AllBare s'.gens)
  (hch:∀ b∈ch,(b∈X.ex∨X.s₀.heap.objs.size≤b)∧b≠X.env.locals∧(∀ x c,X.env.cells.lookup x=some c→c≠b)∧∀ p∈X.pn++pins,p.1≠b):Inv X pins σ H' s':=by
 obtain⟨h',g',d',t',o'⟩:=s'
 have e:o'=s.os:=ho
 subst e
 exact I.call (g':=g') (t':=t') (d':=d') u hok hg hch
end
abbrev XK:=Value→Option Addr→Hp→Prop
abbrev St:=List (Option V)
abbrev VK:=V→Hp→Prop
abbrev TE:=St→Hp→VK→Prop
abbrev TT:=St→Hp→(Bool→Hp→Prop)→Prop
abbrev TA:=St→Hp→(List V→Hp→Prop)→Prop
structure Ends where
 nx:St→Hp→Prop
 rt:VK
 bk:St→Hp→Prop:=fun _ _=>False
 ct:St→Hp→Prop:=fun _ _=>False
abbrev TS:=Ends→St→Hp→Prop
inductive EP (X:Cx)(pins:List (Addr × Obj))(σ : St)(Q:VK)(u:Value)(s':Shared):Prop
 |mk (v:V) (H':Hp) (I:Inv X pins σ H' s') (r:qK v u) (q:Q v H'):EP X pins σ Q u s'
inductive TP (X:Cx)(pins:List (Addr × Obj))(σ : St)(Q:Bool→Hp→Prop)(b:Bool)(s':Shared):Prop
 |mk (H':Hp) (I:Inv X pins σ H' s') (q:Q b H'):TP X pins σ Q b s'
inductive AP (X:Cx)(pins:List (Addr × Obj))(σ : St)(Q:List V→Hp→Prop)(us:List Value)(s':Shared):Prop
 |mk (vs:List V) (H':Hp) (I:Inv X pins σ H' s') (r:qN vs us) (q:Q vs H'):AP X pins σ Q us s'
def SP (X:Cx)(pins:List (Addr × Obj))(D:Ends)(f:Flow)(s':Shared):Prop:=
 match f with
 |.next=>∃ σ' H',Inv X pins σ' H' s'∧D.nx σ' H'
 |.brk=>∃ σ' H',Inv X pins σ' H' s'∧D.bk σ' H'
 |.cont=>∃ σ' H',Inv X pins σ' H' s'∧D.ct σ' H'
 |.ret u=>∃ v σ' H',Inv X pins σ' H' s'∧qK v u∧D.rt v H'
def PE (X:Cx)(e:Expr)(t:TE):Prop:=
 ∀ (pins:List (Addr × Obj)) (s:Shared) (σ : St) (H:Hp) (Q:VK),Inv X pins σ H s→t σ H Q→wpAny (model X.prog X.w) X.A (eval e X.env) (EP X pins σ Q) X.xe s
def PT (X:Cx)(e:Expr)(t:TT):Prop:=
 ∀ (pins:List (Addr × Obj)) (s:Shared) (σ : St) (H:Hp) (Q:Bool→Hp→Prop),Inv X pins σ H s→t σ H Q→wpAny (model X.prog X.w) X.A (isTrue e X.env (eval e X.env)) (TP X pins σ Q) X.xe s
def PW (X:Cx)(e:Expr)(t:TT):Prop:=
 ∀ (whole:Sem Value) (pins:List (Addr × Obj)) (s:Shared) (σ : St) (H:Hp) (Q:Bool→Hp→Prop),Inv X pins σ H s→t σ H Q→wpAny (model X.prog X.w) X.A (isTrue e X.env whole) (TP X pins σ Q) X.xe s
def PA (X:Cx)(es:List Expr)(t:TA):Prop:=
 ∀ (pos:Pos) (pins:List (Addr × Obj)) (s:Shared) (σ : St) (H:Hp) (Q:List V→Hp→Prop),Inv X pins σ H s→t σ H Q→wpAny (model X.prog X.w) X.A (spliced (backTo pos (starEach es X.env))) (AP X pins σ Q) X.xe s
def PS (X:Cx)(st:Stmt)(t:TS):Prop:=
 ∀ (pins:List (Addr × Obj)) (s:Shared) (σ : St) (H:Hp) (D:Ends),Inv X pins σ H s→t D σ H→wpAny (model X.prog X.w) X.A (exec st X.env) (SP X pins D) X.xe s
def PSs (X:Cx)(st:List Stmt)(t:TS):Prop:=
 ∀ (pins:List (Addr × Obj)) (s:Shared) (σ : St) (H:Hp) (D:Ends),Inv X pins σ H s→t D σ H→wpAny (model X.prog X.w) X.A (execs st X.env) (SP X pins D) X.xe s
theorem thn {α : Type}{t:Sem α}{Q Q':α→Shared→Prop}{M:Model}{A:Around}{E:Value→Shared→Prop}{s:Shared}(h:wpAny M A t Q E s)(hQ:∀ a s,Q a s→Q' a s):wpAny M A t Q' E s:=wpAny_mono h hQ fun _ _ x=>x
end _L
namespace _L
open PySem PySem.Spec PyProof.Rows
section
variable {X:Cx}
theorem bin {a b:Expr}{ta tb:TE}(ha:PE X a ta)(hb:PE X b tb){pins:List (Addr × Obj)}{s:Shared}{σ : St}{H:Hp}{R:V→V→Hp→Prop}(I:Inv X pins σ H s)(h:ta σ H fun x H1=>tb σ H1 fun y H2=>R x y H2)
  {α:Type} {Q:α→Shared→Prop} {f:Value→Value→Sem α}
  (hf:∀ v u s2 x y H2,Inv X pins σ H2 s2→qK x v→qK y u→R x y H2→wpAny (model X.prog X.w) X.A (f v u) Q X.xe s2) :
  wpAny (model X.prog X.w) X.A (eval a X.env) (fun v s₁=>wpAny (model X.prog X.w) X.A (eval b X.env) (fun u s₂=>wpAny (model X.prog X.w) X.A (f v u) Q X.xe s₂) X.xe s₁) X.xe s:=by
 refine thn (ha pins s σ H _ I h) fun v s1 ⟨x,H1,I1,r1,q1⟩=>?_
 refine thn (hb pins s1 σ H1 _ I1 q1) fun u s2 ⟨y,H2,I2,r2,q2⟩=>?_
 exact hf v u s2 x y H2 I2 r1 r2 q2
def T9 (i:Nat):TE:=fun σ H Q=>∃ v,σ[i]? = some (some v)∧Q v H
def tC (v:V):TE:=fun _ H Q=>Q v H
theorem oH {i:Nat}{x:Str}{pos:Pos}(hN:X.N[i]? = some x)(hv:Vis X.env.scope x)(hd:(x == ("__debug__" : Str))=false:=by decide)(hcd:(x == ("__classdict__" : Str))=false:=by decide):PE X (.Name x pos) (T9 i):=by
 intro pins s σ H Q I h
 obtain⟨v,e,h⟩:=h
 obtain⟨m,hn,hl⟩:=I.loc
 obtain⟨u,r,l⟩:=hl i x v hN e hv
 have fin:EP X pins σ Q u s:=⟨v,H,I,r,h⟩
 rcases l with⟨hk,hm⟩|⟨hk,c,hc,hcell⟩
 ·exact wpAny_Name (wpAny_loadName_local I.ok.kind hk hn hm fin) hd
 ·rcases hk with hk|hk
  ·exact wpAny_Name (wpAny_loadName_cell I.ok.kind hk hc hcell fin) hd
  ·exact wpAny_Name (wpAny_loadName_free I.ok.kind hk hc hcell fin hcd) hd
theorem FT {i j pos}:PE X (.Constant (.int i) j pos) (tC (.int i)):=fun _ _ _ H _ I h=>wpAny_Constant_int ⟨.int i,H,I.tok _,⟨_,rfl⟩,h⟩
theorem LG {b j pos}:PE X (.Constant (.bool b) j pos) (tC (.bl b)):=fun _ _ _ H _ I h=>Constant_bool ⟨.bl b,H,I,rfl,h⟩
theorem FU {j pos}:PE X (.Constant .none j pos) (tC .non):=fun _ _ _ H _ I h=>Constant_none ⟨.non,H,I,rfl,h⟩
theorem FW {x j pos}:PE X (.Constant (.str x) j pos) (tC (.str x)):=fun _ _ _ H _ I h=>Calls.Constant_str ⟨.str x,H,I.tok _,⟨_,rfl⟩,h⟩
def Gl (X:Cx)(x:Str):Prop:=X.env.kindOf x=some .globalImplicit
theorem vN {E:Value→Shared→Prop}{pins:List (Addr × Obj)}{s:Shared}{σ : St}{H:Hp}{x:Str}{u:Value}{pos:Pos}{Q:Value→Shared→Prop}(I:Inv X pins σ H s)(hg:Gl X x)(hm:X.mg x=some u)(h:Q u s)
  (hd:(x == ("__debug__" : Str))=false:=by decide):wpAny (model X.prog X.w) X.A (eval (.Name x pos) X.env) Q E s:=
 Calls.Name_function_global I.ok.kind hg (Calls.loadGlobal_global (by rw[I.ok.glob];exact I.mod.glob.keeps I.bk) hm h) hd
theorem k7 {E:Value→Shared→Prop}{pins:List (Addr × Obj)}{s:Shared}{σ : St}{H:Hp}{x:Str}{u:Value}{pos:Pos}{Q:Value→Shared→Prop}(I:Inv X pins σ H s)(hg:Gl X x)(hm:X.mg x=none)(hv:bootBuiltins x=some u)(h:Q u s)
  (hn:x ≠ "__name__":=by decide) (hd:(x == ("__debug__" : Str))=false:=by decide):wpAny (model X.prog X.w) X.A (eval (.Name x pos) X.env) Q E s:=by
 obtain⟨mb,h1,h2⟩:=I.mod.blt
 exact Calls.Name_function_global I.ok.kind hg (Calls.loadGlobal_builtin (by rw[I.ok.glob];exact I.mod.glob.keeps I.bk) hm (by rw[I.ok.blt];exact h1.keeps I.bk) ((h2 x hn).trans hv) h) hd
theorem UU {x:Str}{v:V}{u:Value}{pos:Pos}(hg:Gl X x)(hm:X.mg x=some u)(r:qK v u)(hd:(x == ("__debug__" : Str))=false:=by decide):PE X (.Name x pos) (tC v):=
 fun _ _ _ H _ I h=>vN I hg hm ⟨v,H,I,r,h⟩ hd
theorem UT {x:Str}{v:V}{u:Value}{pos:Pos}(hg:Gl X x)(hm:X.mg x=none)(hv:bootBuiltins x=some u)(r:qK v u)(hn:x ≠ "__name__":=by decide)(hd:(x == ("__debug__" : Str))=false:=by decide):PE X (.Name x pos) (tC v):=
 fun _ _ _ H _ I h=>k7 I hg hm hv ⟨v,H,I,r,h⟩ hn hd
variable {a b:Expr}{ta tb:TE}{pos:Pos}
variable {tA tB':TT}{rest:List Expr}
theorem J7 (ha:PT X a tA):PW X (.BoolOp .And [a] pos) tA:=by
 intro wh pins s σ H Q I h
 refine isTrue_and (thn (ha pins s σ H Q I h) fun c s1 e=>?_)
 cases c with
 |true=>exact isTrue_and_nil e
 |false=>exact e
theorem M5 (ha:PT X a tA):PW X (.BoolOp .Or [a] pos) tA:=by
 intro wh pins s σ H Q I h
 refine isTrue_or (thn (ha pins s σ H Q I h) fun c s1 e=>?_)
 cases c with
 |false=>exact isTrue_or_nil e
 |true=>exact e
theorem FV {op}{t:TE}(h:PE X a t):PE X (.BoolOp op [a] pos) t:=fun pins s σ H Q I hw=>BoolOp_one (h pins s σ H Q I hw)
end
end _L
namespace _L
open PySem PySem.Spec PyProof.Rows
def SqL (K:PySem.W.Frag)(H:Hp)(a:Addr)(xs:List V):Prop:=
 Rd H a (.lst xs) ∨
  ∃ (o:Obj) (its:Array Value) (n:Nat),K.lookup a=some o∧o.cls=.type "list" ∧ o.dict=none∧o.data=.seq its n∧its.size≤sizeLine∧qN xs its.toList
def SqT (K:PySem.W.Frag)(H:Hp)(a:Addr)(xs:List V):Prop:=
 Rd H a (.tup xs) ∨
  ∃ (o:Obj) (its:Array Value) (n:Nat),K.lookup a=some o∧o.cls=.type "tuple" ∧ o.data=.seq its n∧its.size≤sizeLine∧qN xs its.toList
def SC:Value→Option V
 |.none=>some .non
 |.bool b=>some (.bl b)
 |.int i _=>some (.int i)
 |.str x _=>some (.str x)
 |.bytes b _=>some (.byt b)
 |.float b _=>some (.flt b)
 |.ref a=>some (.ref a)
 |.type n=>some (.ty n)
 |_=>none
theorem qK.abs {x:V}{u:Value}(r:qK x u):SC u=some x:=by
 cases x with
 |non=>cases r;rfl
 |bl _=>cases r;rfl
 |int _=>obtain⟨t,rfl⟩:=r;rfl
 |str _=>obtain⟨t,rfl⟩:=r;rfl
 |byt _=>obtain⟨t,rfl⟩:=r;rfl
 |flt _=>obtain⟨t,rfl⟩:=r;rfl
 |ref _=>cases r;rfl
 |ty _=>cases r;rfl
theorem qK.inj {x y:V}{u:Value}(r:qK x u)(q:qK y u):x=y:=Option.some.inj (r.abs.symm.trans q.abs)
theorem qN.inj {xs ys:List V}{us:List Value}(h:qN xs us)(k:qN ys us):xs=ys:=by
 induction h generalizing ys with
 |nil=>cases k;rfl
 |cons r t ih =>
  cases k with
  |cons r' t'=>rw[r.inj r',ih t']
section
variable {X:Cx}{pins:List (Addr × Obj)}{σ : St}{H:Hp}{s:Shared}{a:Addr}{xs ys:List V}
theorem SqL.of {K:PySem.W.Frag}(h:H a=some (.lst xs)):SqL K H a xs:=.inl (.inl h)
theorem SqT.of {K:PySem.W.Frag}(h:H a=some (.tup xs)):SqT K H a xs:=.inl (.inl h)
theorem Inv.list (I:Inv X pins σ H s)(h:SqL X.K H a xs):∃ its:List Value,qN xs its∧PlainL s.heap a its.toArray∧xs.length≤sizeLine:=by
 rcases h with h|⟨o,its,n,hk,hc,hd,hs,hz,r⟩
 ·obtain⟨z,its,n,r,e⟩:=h.ok I.hok
  exact⟨its,r,⟨_,n,e,rfl,rfl,rfl⟩,z⟩
 ·refine⟨its.toList,r,⟨o,n,I.kIn a o hk,hc,hd,by simpa using hs⟩,?_⟩
  have e:=r.length
  simp only[Array.length_toList] at e
  omega
theorem Inv.tuple (I:Inv X pins σ H s)(h:SqT X.K H a xs):∃ its:List Value,qN xs its∧IsTup s.heap a its.toArray∧xs.length≤sizeLine:=by
 rcases h with h|⟨o,its,n,hk,hc,hs,hz,r⟩
 ·obtain⟨z,its,r,p⟩:=h.ok I.hok
  exact⟨its,r,p,z⟩
 ·refine⟨its.toList,r,⟨o,I.kIn a o hk,hc,n,by simpa using hs⟩,?_⟩
  have e:=r.length
  simp only[Array.length_toList] at e
  omega
theorem Inv.list_inj (I:Inv X pins σ H s)(h:SqL X.K H a xs)(h':SqL X.K H a ys):xs=ys:=by
 obtain⟨its,r,⟨o,n,e,_,_,d⟩,_⟩:=I.list h
 obtain⟨its',r',⟨o',n',e',_,_,d'⟩,_⟩:=I.list h'
 rw[e] at e';cases e'
 rw[d] at d'
 injection d' with d1 _
 have:its=its':=by simpa using congrArg Array.toList d1
 subst this
 exact r.inj r'
theorem Inv.tuple_inj (I:Inv X pins σ H s)(h:SqT X.K H a xs)(h':SqT X.K H a ys):xs=ys:=by
 obtain⟨its,r,⟨o,e,_,n,d⟩,_⟩:=I.tuple h
 obtain⟨its',r',⟨o',e',_,n',d'⟩,_⟩:=I.tuple h'
 rw[e] at e';cases e'
 rw[d] at d'
 injection d' with d1 _
 have:its=its':=by simpa using congrArg Array.toList d1
 subst this
 exact r.inj r'
end
abbrev Cx.wish (X:Cx)(E:Value→Shared→Prop):Cx:={ X with xe:=E }
abbrev Cx.nox (X:Cx):Cx:=X.wish fun _ _=>False
theorem Cx.Ok.wish {X:Cx}(ok:X.Ok)(E:Value→Shared→Prop):(X.wish E).Ok:=
 ⟨ok.mod,ok.kind,ok.glob,ok.blt,ok.above,ok.inj,ok.has,ok.cab,ok.hd,ok.frames,ok.stk,ok.exf,ok.bs,ok.bsz,ok.noex,ok.exfs,ok.funs,ok.frf⟩
theorem Cx.Ok.unwish {X:Cx}{E:Value→Shared→Prop}(ok:(X.wish E).Ok):X.Ok:=
 ⟨ok.mod,ok.kind,ok.glob,ok.blt,ok.above,ok.inj,ok.has,ok.cab,ok.hd,ok.frames,ok.stk,ok.exf,ok.bs,ok.bsz,ok.noex,ok.exfs,ok.funs,ok.frf⟩
section
variable {X:Cx}{pins:List (Addr × Obj)}{σ : St}{H:Hp}{s:Shared}{E:Value→Shared→Prop}
theorem Inv.wish (I:Inv X pins σ H s)(E:Value→Shared→Prop):Inv (X.wish E) pins σ H s:=⟨I.ok.wish E,I.os,I.bare,I.base,I.loc,I.cell,I.free,I.freeC,I.pin,I.hok,I.len⟩
theorem Inv.unwish (I:Inv (X.wish E) pins σ H s):Inv X pins σ H s:=⟨I.ok.unwish,I.os,I.bare,I.base,I.loc,I.cell,I.free,I.freeC,I.pin,I.hok,I.len⟩
theorem SP.unwish {D:Ends}{f:Flow}{s':Shared}(h:SP (X.wish E) pins D f s'):SP X pins D f s':=by
 cases f with
 |next=>obtain⟨σ',H',I,q⟩:=h;exact⟨σ',H',I.unwish,q⟩
 |brk=>obtain⟨σ',H',I,q⟩:=h;exact⟨σ',H',I.unwish,q⟩
 |cont=>obtain⟨σ',H',I,q⟩:=h;exact⟨σ',H',I.unwish,q⟩
 |ret u=>obtain⟨v,σ',H',I,r,q⟩:=h;exact⟨v,σ',H',I.unwish,r,q⟩
theorem PE.nox {e:Expr}{t:TE}(h:PE X.nox e t):PE X e t:=fun pins s σ H Q I hw =>
 wpAny_mono (h pins s σ H Q (I.wish _) hw) (fun _ _ ⟨v,H',I',r,q⟩=>⟨v,H',I'.unwish,r,q⟩) fun _ _ z=>False.elim z
theorem PT.nox {e:Expr}{t:TT}(h:PT X.nox e t):PT X e t:=fun pins s σ H Q I hw =>
 wpAny_mono (h pins s σ H Q (I.wish _) hw) (fun _ _ ⟨H',I',q⟩=>⟨H',I'.unwish,q⟩) fun _ _ z=>False.elim z
theorem PSs.nox {st:List Stmt}{t:TS}(h:PSs X.nox st t):PSs X st t:=fun pins s σ H D I hw =>
 wpAny_mono (h pins s σ H D (I.wish _) hw) (fun _ _ q=>q.unwish) fun _ _ z=>False.elim z
end
section
variable {X:Cx}{st:Stmt}{rest:List Stmt}{t u:TS}{e:Expr}{te:TE}{pos:Pos}
def D6:TS:=fun D σ H=>D.nx σ H
def RE (t u:TS):TS:=fun D σ H=>t { D with nx:=u D } σ H
theorem J2:PSs X [] D6:=fun _ _ σ H _ I h=>wpAny_execs_nil ⟨σ,H,I,h⟩
theorem XU (h1:PS X st t)(h2:PSs X rest u):PSs X (st::rest) (RE t u):=by
 intro pins s σ H D I h
 refine wpAny_execs_cons (thn (h1 pins s σ H { D with nx:=u D } I h) fun f s1 q=>?_)
 cases f with
 |next =>
  obtain⟨σ',H',I',q⟩:=q
  exact h2 pins s1 σ' H' D I' q
 |ret v=>exact q
 |brk=>exact q
 |cont=>exact q
theorem J3 (h1:PS X st t):PSs X [st] t:=by
 intro pins s σ H D I h
 refine wpAny_execs_cons (thn (h1 pins s σ H D I h) fun f s1 q=>?_)
 cases f with
 |next=>exact wpAny_execs_nil q
 |ret v=>exact q
 |brk=>exact q
 |cont=>exact q
theorem Inv.quiet {pins:List (Addr × Obj)}{σ : St}{H:Hp}{s:Shared}(I:Inv X pins σ H s):interactive X.env=false:=by simp[interactive,I.ok.kind]
end
abbrev TG:=V→St→Hp→(St→Hp→Prop)→Prop
abbrev TGs:=List V→St→Hp→(St→Hp→Prop)→Prop
def PG (X:Cx)(target:Expr)(t:TG):Prop:=
 ∀ (pins:List (Addr × Obj)) (s:Shared) (σ : St) (H:Hp) (v:V) (u:Value) (Q:St→Hp→Prop),Inv X pins σ H s→qK v u→t v σ H Q →
  wpAny (model X.prog X.w) X.A (assign target X.env u) (fun _ s'=>∃ σ' H',Inv X pins σ' H' s'∧Q σ' H') X.xe s
def PGs (X:Cx)(ts:List Expr)(t:TGs):Prop:=
 ∀ (pins:List (Addr × Obj)) (s:Shared) (σ : St) (H:Hp) (vs:List V) (us:List Value) (Q:St→Hp→Prop),Inv X pins σ H s→qN vs us→t vs σ H Q →
  wpAny (model X.prog X.w) X.A (assignInOrder ((assignEach ts X.env).map (·.2)) us) (fun _ s'=>∃ σ' H',Inv X pins σ' H' s'∧Q σ' H') X.xe s
abbrev QP:=V→V→V→Hp→(Hp→Prop)→Prop
def l7 (X:Cx)(t:QP):Prop:=
 ∀ (pins:List (Addr × Obj)) (s:Shared) (σ : St) (H:Hp) (o i v:V) (ov iv u:Value) (Q:Hp→Prop),Inv X pins σ H s→qK o ov→qK i iv→qK v u→t o i v H Q →
  wpAny (model X.prog X.w) X.A (setItem ov iv u) (fun _ s'=>∃ H',Inv X pins σ H' s'∧Q H') X.xe s
section
variable {X:Cx}{pos:Pos}
def NM (i:Nat):TG:=fun v σ H Q=>Q (σ.set i (some v)) H
theorem UV {i:Nat}{x:Str}(hN:X.N.Nodup)(hi:X.N[i]? = some x)(hx:Loc X.env.scope x)(hf:X.fn x=true∨X.env.scope.names.lookup x=some .local:=by first|exact .inl rfl|exact .inr rfl|assumption):PG X (.Name x pos) (NM i):=by
 intro pins s σ H v u Q I r h
 exact wpAny_assign_Name (wW I hN hi hx r (fun s' I'=>⟨_,H,I',h⟩) hf)
def SN:TGs:=fun vs σ H Q=>vs=[]∧Q σ H
def NL (t:TG)(u:TGs):TGs:=fun vs σ H Q=>∃ v r,vs=v::r∧t v σ H fun σ' H'=>u r σ' H' Q
theorem UW:PGs X [] SN:=by
 intro pins s σ H vs us Q I r h
 obtain⟨e,h⟩:=h
 subst e
 cases r
 exact assignInOrder_nil ⟨σ,H,I,h⟩
theorem XS {e:Expr}{es:List Expr}{t:TG}{u:TGs}(h1:PG X e t)(h2:PGs X es u)
  (hs:(assignEach (e::es) X.env).map (·.2)=assign e X.env::(assignEach es X.env).map (·.2):=by rfl):PGs X (e::es) (NL t u):=by
 intro pins s σ H vs us Q I r h
 obtain⟨v,vr,e1,h⟩:=h
 subst e1
 cases r with
 |cons r rr =>
  rw[hs]
  refine assignInOrder_cons (thn (h1 pins s σ H _ _ _ I r h) fun _ s1 ⟨σ1,H1,I1,q1⟩=>?_)
  exact h2 pins s1 σ1 H1 _ _ Q I1 rr q1
def SO (K:PySem.W.Frag)(n:Nat)(t:TGs):TG:=fun v σ H Q=>∃ a xs,v=.ref a∧SqT K H a xs∧xs.length=n∧t xs σ H Q
theorem FY {es:List Expr}{k:Nat}{t:TGs}{n:Nat}(hc:X.calm=true)(h:PGs X es t)
  (hn:(assignEach es X.env).length=n:=by rfl) (hst:(assignEach es X.env).findIdx? (·.1)=none:=by rfl):PG X (.Tuple es k pos) (SO X.K n t):=by
 intro pins s σ H v u Q I r hw
 obtain⟨a,xs,e1,hq,hl,hw⟩:=hw
 subst e1
 cases r
 obtain⟨its,rv,ht,hz⟩:=I.tuple hq
 refine assign_Tuple_tuple (I.ok.hd hc) ht (by simp[hn,← hl,rv.length]) hst fun h' hx=>?_
 have I1:Inv X pins σ H { s with heap:=h' }:=I.kept (t':=s.toks) fun b o e=>hx b o (Nat.ne_of_lt (Heap.lt_size e)) e
 exact h pins _ σ H xs _ Q I1 (by simpa using rv) hw
def vM (to ti:TE)(t:QP):TG:=fun v σ H Q=>to σ H fun o H1=>ti σ H1 fun i H2=>t o i v H2 fun H3=>Q σ H3
def RD (i j:Nat)(ta:TA):TS:=fun D σ H=>ta σ H fun vs H1=>∃ v w,vs=[v,w]∧D.nx ((σ.set i (some v)).set j (some w)) H1
theorem M3 {i j:Nat}{x y:Str}{a b:Expr}{ta:TA}{px py pt:Pos} {kt k2 pt2} (hc:X.calm=true) (hN:X.N.Nodup) (hi:X.N[i]? = some x) (hj:X.N[j]? = some y) (hij:i≠j)
  (hx:X.env.scope.names.lookup x=some .local) (hy:X.env.scope.names.lookup y=some .local) (ha:PA X [a,b] ta)
  (hw:swappedStores [.Tuple [.Name x px,.Name y py] kt pt] (.Tuple [a,b] k2 pt2) X.env=pure (some [x,y]))
  (hs:swapsWithSole [.Tuple [.Name x px,.Name y py] kt pt] (.Tuple [a,b] k2 pt2) pos.line X.env=pure false:=by rfl) :
  PS X (.Assign [.Tuple [.Name x px,.Name y py] kt pt] (.Tuple [a,b] k2 pt2) pos) (RD i j ta):=by
 intro pins s σ H D I h
 rw[exec_Assign_arm]
 refine wpAny_bind (wpAny_standAt ?_)
 rw[hs]
 refine wpAny_bind (wpAny_pure ?_)
 rw[if_neg (by decide)]
 refine wpAny_bind (Tuple_ (thn (ha _ pins s σ H _ I h) fun us s1 ⟨vs,H1,I1,r1,q1⟩=>?_))
 obtain⟨v,w,e1,q1⟩:=q1
 subst e1
 obtain⟨u1,u2,rfl,rv,rw'⟩:∃ u1 u2,us=[u1,u2]∧qK v u1∧qK w u2:=by
  cases r1 with
  |cons p q =>
   cases q with
   |cons p' q' =>
    cases q'
    exact⟨_,_,rfl,p,p'⟩
 refine wpAny_newObj_type ?_ (by show 2≤sizeLine;decide)
 have I2:Inv X pins σ H1 { s1 with heap:=s1.heap.push { cls:=.type "tuple",data:=.seq [u1,u2].toArray } }:=I1.kept (t':=s1.toks) fun b o e=>Heap.get?_push_of_some _ e
 rw[hw]
 refine wpAny_bind (wpAny_pure ?_)
 show wpAny (model X.prog X.w) X.A (do rule "assign.swapped-stores";let items ← unpackItems (.ref s1.heap.objs.size) 2 none;assignInOrder [fun v=>bindName X.env y v,fun v=>bindName X.env x v] items.reverse;pure Flow.next) _ _ _
 refine wpAny_bind (wpAny_rule (wpAny_bind (unpackItems_tuple (items:=#[u1,u2]) (I.ok.hd hc) (IsTup.new s1.heap _) fun h' hx'=>?_)))
 have I3:=I2.kept (h':=h') (t':=s1.toks) fun b o e=>hx' b o (Nat.ne_of_lt (Heap.lt_size e)) e
 show wpAny _ _ (assignInOrder [fun v=>bindName X.env y v,fun v=>bindName X.env x v] [u2,u1] >>= fun _=>pure Flow.next) _ _ _
 refine wpAny_bind (assignInOrder_cons (wpAny_bindName (wW I3 hN hj (.inl hy) rw' (fun s2 I4=>?_) (.inr hy))))
 refine assignInOrder_cons (wpAny_bindName (wW I4 hN hi (.inl hx) rv (fun s3 I5=>assignInOrder_nil (wpAny_pure ?_)) (.inr hx)))
 rw[List.set_comm _ _ (Ne.symm hij)] at I5
 exact⟨_,H1,I5,q1⟩
end
structure It where
 go:Nat→Hp→Prop
 yld:Nat→Hp→V→Hp→Prop
 stop:Nat→Hp→Prop
def x9 (X:Cx)(pins:List (Addr × Obj))(H:Hp)(b:Addr):Prop:=
 H b=none∧b≠X.env.locals∧b ∉ X.fs∧(b∈X.ex∨X.s₀.heap.objs.size≤b)∧(∀ x c,X.env.cells.lookup x=some c→c≠b)∧∀ p∈X.pn++pins,p.1≠b
theorem Inv.fpOk {X:Cx}{pins:List (Addr × Obj)}{σ : St}{H H':Hp}{s:Shared}{b:Addr}(I:Inv X pins σ H s)(hb:s.heap.objs.size≤b)(hn:H' b=none):x9 X pins H' b:=by
 refine⟨hn,Nat.ne_of_gt (Nat.lt_of_lt_of_le I.lt hb),I.nofs hb,.inr (Nat.le_trans I.sz hb),fun x c e z=>?_,fun p hp z=>?_⟩
 ·obtain⟨v,q⟩:=I.cell x c e
  exact absurd (Nat.lt_of_lt_of_le q.lt (by rw[z];exact hb)) (Nat.lt_irrefl _)
 ·exact absurd (Nat.lt_of_lt_of_le (Heap.lt_size (I.pin p hp).1) (by rw[z];exact hb)) (Nat.lt_irrefl _)
structure Turn (P:Program)(w:World)(K:PySem.W.Frag)(tg:Expr)(J:It)(fp:List Addr)(it:Addr)(tn:Nat→Heap→Prop):Prop where
 mem:it∈fp
 obj:∀ i h,tn i h→∀ b∈fp,∃ o,h.get? b=some o∧∀ v,o.data≠.cell v
 keep:∀ i h h',tn i h→(∀ b∈fp,∀ o,h.get? b=some o→h'.get? b=some o)→tn i h'
 item:∀ (X:Cx),X.prog=P→X.w=w→X.K=K→X.calm=true→∀ (i:Nat) (pins:List (Addr × Obj)) (s:Shared) (σ : St) (H:Hp) (E:Value→Shared→Prop),Inv X pins σ H s→(∀ b∈fp,x9 X pins H b)→tn i s.heap→J.go i H →
  wpAny (model P w) X.A (pyNext (.ref it)) (fun r s1=>∃ u,r=some u ∧
   wpAny (model P w) X.A (letOwnedTupleGo tg (.ref it) u) (fun _ s2=>∃ x H',Inv X pins σ H' s2∧qK x u∧J.yld i H x H'∧tn (i+1) s2.heap∧∀ b∈fp,H' b=none) E s1) E s
 done:∀ (X:Cx),X.prog=P→X.w=w→X.K=K→X.calm=true→∀ (i:Nat) (pins:List (Addr × Obj)) (s:Shared) (σ : St) (H:Hp) (E:Value→Shared→Prop),Inv X pins σ H s→(∀ b∈fp,x9 X pins H b)→tn i s.heap→J.stop i H →
  wpAny (model P w) X.A (pyNext (.ref it)) (fun r s1=>r=none∧Inv X pins σ H s1) E s
 self:∀ (A:Around) (i:Nat) (s:Shared) (Q:Value→Shared→Prop) (E:Value→Shared→Prop),tn i s.heap→Q (.ref it) s→wpAny (model P w) A (pyIter (.ref it)) Q E s
abbrev TI:=St→Hp→(It→Hp→Prop)→Prop
inductive PIE (X:Cx)(pins:List (Addr × Obj))(σ : St)(tg:Expr)(R:It→Hp→Prop)(itv:Value)(s2:Shared):Prop
 |mk (it:Addr) (fp:List Addr) (tn:Nat→Heap→Prop) (J:It) (H':Hp) (e:itv=.ref it) (I:Inv X pins σ H' s2) (t:Turn X.prog X.w X.K tg J fp it tn) (z:tn 0 s2.heap) (f:∀ b∈fp,x9 X pins H' b) (q:R J H'):PIE X pins σ tg R itv s2
def PI (X:Cx)(tg iter:Expr)(wi:TI):Prop:=
 ∀ (pins:List (Addr × Obj)) (s:Shared) (σ : St) (H:Hp) (R:It→Hp→Prop),Inv X pins σ H s→wi σ H R →
  wpAny (model X.prog X.w) X.A (eval iter X.env) (fun v s1=>wpAny (model X.prog X.w) X.A (pyIter v) (PIE X pins σ tg R) X.xe s1) X.xe s
theorem cJ {M:Model}{A:Around}{E:Value→Shared→Prop}{s:Shared}{tg:Expr}{it:Addr}{u:Value}{o:Obj}{n:String}{vs:Array Value}{Q:Unit→Shared→Prop}(ho:s.heap.get? it=some o)(hc:o.cls=.type n)(hd:o.data=.fields vs)
    (hn:["enumerate","zip","dict_itemiterator","dict_reverseitemiterator","odict_iterator","itertools.zip_longest","itertools.pairwise"].contains n=false) (hQ:Q () s):wpAny M A (letOwnedTupleGo tg (.ref it) u) Q E s:=by
  unfold letOwnedTupleGo
  cases tg <;> first
    |exact wpAny_pure hQ
    |(cases u <;> first
        |exact wpAny_pure hQ
        | (refine wpAny_bind (wpAny_load ho ?_)
           rw[hc,hd]
           show wpAny M A (if (["enumerate","zip","dict_itemiterator","dict_reverseitemiterator","odict_iterator","itertools.zip_longest","itertools.pairwise"].contains n&&vs[0]? == some (rawInt _))=true then _ else _) Q E s
           rw[if_neg (by intro h;rw[hn,Bool.false_and] at h;cases h)]
           exact wpAny_pure hQ))
def Itl (K:PySem.W.Frag)(a:Addr):It:=
 ⟨fun i H=>∃ xs x,SqL K H a xs∧xs[i]? = some x,fun i H x H'=>H'=H∧∀ xs,SqL K H a xs→xs[i]? = some x,fun i H=>∃ xs,SqL K H a xs∧xs.length≤i⟩
def Itt (K:PySem.W.Frag)(a:Addr):It:=
 ⟨fun i H=>∃ xs x,SqT K H a xs∧xs[i]? = some x,fun i H x H'=>H'=H∧∀ xs,SqT K H a xs→xs[i]? = some x,fun i H=>∃ xs,SqT K H a xs∧xs.length≤i⟩
def Itr (lo:Int)(n:Nat):It:=⟨fun i _=>i<n,fun i H x H'=>H'=H∧x=.int (lo+i),fun i _=>n≤i⟩
theorem nE {P:Program}{w:World}{K:PySem.W.Frag}{tg:Expr}(a it:Addr):Turn P w K tg (Itl K a) [it] it (fun i h=>h.IsListIter it a i) where
 mem:=by simp
 obj:=fun i h st b hb=>by
  have e:b=it:=by simpa using hb
  subst e
  obtain⟨o,e,c,d⟩:=st
  exact⟨o,e,fun v z=>by rw[d] at z;cases z⟩
 keep:=fun i h h' st k=>st.at fun o e=>k it (by simp) o e
 item:=by
  intro X hP hw hK hc i pins s σ H E I hf st hg
  subst hP hw hK
  obtain⟨xs,x,hq,hx⟩:=hg
  obtain⟨its,rv,p,hz⟩:=I.list hq
  obtain⟨u,hu,ru⟩:=rv.get hx
  obtain⟨f0,f1,f2,f3,f4,f5⟩:=hf it (by simp)
  refine wpAny_pyNext_list_item st p.isList (x:=u) (by simpa using hu) fun h' st' sb=>?_
  have I1:Inv X pins σ H { s with heap:=h' }:=I.turned (t':=s.toks) (fun b o hb e=>(sb.2 b hb).trans e) f0 f1 f3 f4 f5
  obtain⟨o,e,c,d⟩:=id st'
  exact⟨u,rfl,cJ (s:={ s with heap:=h' }) e c d (by decide) ⟨x,H,I1,ru,⟨rfl,fun ys hy=>by rw[I.list_inj hy hq];exact hx⟩,st',fun b hb=>(hf b hb).1⟩⟩
 done:=by
  intro X hP hw hK hc i pins s σ H E I hf st hg
  subst hP hw hK
  obtain⟨xs,hq,hx⟩:=hg
  obtain⟨its,rv,p,hz⟩:=I.list hq
  obtain⟨f0,f1,f2,f3,f4,f5⟩:=hf it (by simp)
  have hl:=rv.length
  exact wpAny_pyNext_list_end (I.ok.hd hc) st p.isList (by simp;omega) fun h' eb=>⟨rfl,I.turned (t':=s.toks) (fun b o hb e=>eb b o hb e) f0 f1 f3 f4 f5⟩
 self:=fun _ _ _ _ _ st h=>wpAny_pyIter_listiter st h
theorem aA {P:Program}{w:World}{K:PySem.W.Frag}{tg:Expr}(a it:Addr):Turn P w K tg (Itt K a) [it] it (fun i h=>h.IsTupleIter it a i) where
 mem:=by simp
 obj:=fun i h st b hb=>by
  have e:b=it:=by simpa using hb
  subst e
  obtain⟨o,e,c,d⟩:=st
  exact⟨o,e,fun v z=>by rw[d] at z;cases z⟩
 keep:=fun i h h' st k=>st.at fun o e=>k it (by simp) o e
 item:=by
  intro X hP hw hK hc i pins s σ H E I hf st hg
  subst hP hw hK
  obtain⟨xs,x,hq,hx⟩:=hg
  obtain⟨its,rv,p,hz⟩:=I.tuple hq
  obtain⟨u,hu,ru⟩:=rv.get hx
  obtain⟨f0,f1,f2,f3,f4,f5⟩:=hf it (by simp)
  refine wpAny_pyNext_tuple_item st (show s.heap.IsTuple a its.toArray from p) (x:=u) (by simpa using hu) fun h' st' sb=>?_
  have I1:Inv X pins σ H { s with heap:=h' }:=I.turned (t':=s.toks) (fun b o hb e=>(sb.2 b hb).trans e) f0 f1 f3 f4 f5
  obtain⟨o,e,c,d⟩:=id st'
  exact⟨u,rfl,cJ (s:={ s with heap:=h' }) e c d (by decide) ⟨x,H,I1,ru,⟨rfl,fun ys hy=>by rw[I.tuple_inj hy hq];exact hx⟩,st',fun b hb=>(hf b hb).1⟩⟩
 done:=by
  intro X hP hw hK hc i pins s σ H E I hf st hg
  subst hP hw hK
  obtain⟨xs,hq,hx⟩:=hg
  obtain⟨its,rv,p,hz⟩:=I.tuple hq
  obtain⟨f0,f1,f2,f3,f4,f5⟩:=hf it (by simp)
  have hl:=rv.length
  exact wpAny_pyNext_tuple_end (I.ok.hd hc) st (show s.heap.IsTuple a its.toArray from p) (by simp;omega) fun h' eb=>⟨rfl,I.turned (t':=s.toks) (fun b o hb e=>eb b o hb e) f0 f1 f3 f4 f5⟩
 self:=fun _ _ _ _ _ st h=>wpAny_pyIter_tupleiter st h
theorem a9 {P:Program}{w:World}{K:PySem.W.Frag}{tg:Expr}(it:Addr)(lo:Int)(n:Nat):Turn P w K tg (Itr lo n) [it] it (fun i h=>IsRangeIter h it (lo+(i:Nat)*1) ((n:Int)-(i:Nat)) 1) where
 mem:=by simp
 obj:=fun i h st b hb=>by
  have e:b=it:=by simpa using hb
  subst e
  exact⟨_,st,fun v z=>by
   have z':Data.fields _=Data.cell v:=z
   cases z'⟩
 keep:=fun i h h' st k=>k it (by simp) _ st
 item:=by
  intro X hP hw hK hc i pins s σ H E I hf st hg
  subst hP hw hK
  obtain⟨f0,f1,f2,f3,f4,f5⟩:=hf it (by simp)
  have W:=Walks.range (prog:=X.prog) (w:=X.w) (I.ok.hd hc) it lo 1 n
  refine W.item i s _ _ hg st fun v h' tk hv st' kk=>?_
  obtain⟨t,rfl⟩:=hv
  have I1:Inv X pins σ H { s with heap:=h',toks:=tk }:=I.turned (fun b o hb e=>kk b o (by simpa using hb) e) f0 f1 f3 f4 f5
  refine⟨_,rfl,cJ (s:={ s with heap:=h',toks:=tk }) (n:="range_iterator") st' rfl rfl (by decide) ⟨.int (lo+i),H,I1,⟨t,?_⟩,⟨rfl,rfl⟩,st',fun b hb=>(hf b hb).1⟩⟩
  rw[Int.mul_one]
 done:=by
  intro X hP hw hK hc i pins s σ H E I hf st hg
  subst hP hw hK
  obtain⟨f0,f1,f2,f3,f4,f5⟩:=hf it (by simp)
  exact wpAny_pyNext_range_end (I.ok.hd hc) st (by have:n≤i:=hg;omega) fun h' eb=>⟨rfl,I.turned (t':=s.toks) (fun b o hb e=>eb b o hb e) f0 f1 f3 f4 f5⟩
 self:=fun _ _ _ _ _ st h=>wpAny_pyIter_rangeiter st h
end _L
namespace _L
open PySem PySem.Spec PyProof.Rows
section
variable {X:Cx}{tg:Expr}
theorem dW {pins:List (Addr × Obj)}{σ : St}{H:Hp}{s:Shared}{R:It→Hp→Prop}{E:Value→Shared→Prop}{lo hi:Int}{t u v:Tok}{tk:Nat}(I:Inv X pins σ H s)(h1 : -(2 ^ 62)≤lo)(h2:lo<2 ^ 62)(h3 : -(2 ^ 62)≤hi)(h4:hi<2 ^ 62)
  (q:R (Itr lo (hi-lo).toNat) H):wpAny (model X.prog X.w) X.A (pyIter (.ref s.heap.objs.size)) (PIE X pins σ tg R) E { s with heap:=s.heap.push { cls:=.type "range",data:=.fields #[.int lo t,.int hi u,.int 1 v] },toks:=tk }:=by
 refine wpAny_pyIter_range (IsRange.new ..) (small_one h1 h2 h3 h4) ?_
 have I1:Inv X pins σ H { s with heap:=s.heap.push { cls:=.type "range",data:=.fields #[.int lo t,.int hi u,.int 1 v] },toks:=tk }:=I.kept fun b o e=>Heap.get?_push_of_some _ e
 refine⟨(s.heap.push { cls:=.type "range",data:=.fields #[.int lo t,.int hi u,.int 1 v] }).objs.size,[(s.heap.push { cls:=.type "range",data:=.fields #[.int lo t,.int hi u,.int 1 v] }).objs.size],_,_,H,rfl,
  I1.kept (t':=tk) fun b o e=>Heap.get?_push_of_some _ e,a9 _ lo (hi-lo).toNat,?_,fun b hb=>?_,q⟩
 ·have e1:lo+((0:Nat):Int)*1=lo:=by simp
  have e2:(((hi-lo).toNat:Nat):Int)-((0:Nat):Int)=Builtin.Range.rangeSize lo hi 1:=by rw[rangeSize_one];split <;> omega
  show IsRangeIter _ _ (lo+((0:Nat):Int)*1) ((((hi-lo).toNat:Nat):Int)-((0:Nat):Int)) 1
  rw[e1,e2]
  exact Heap.get?_push_size _ rfl
 ·have e:b=(s.heap.push { cls:=.type "range",data:=.fields #[.int lo t,.int hi u,.int 1 v] }).objs.size:=by simpa using hb
  subst e
  exact I1.fpOk (Nat.le_refl _) (I1.hok.fresh (Nat.le_refl _))
def RA (wi:TI)(g:TG)(tb:TS):TS:=fun D σ H=>wi σ H fun J H1=>∃ W:Nat→Nat→St→Hp→Prop,(∃ m,W 0 m σ H1)∧∀ i m σ H,W i m σ H →
 (J.stop i H∧D.nx σ H)∨(J.go i H∧∃ N:St→Hp→Prop,(∀ σ' H',N σ' H'→∃ m',m'<m∧W (i+1) m' σ' H')∧∀ x H',J.yld i H x H'→g x σ H' fun σ2 H2=>tb { D with nx:=N,ct:=N,bk:=D.nx } σ2 H2)
def vB (fp:List Addr)(h:Heap):List (Addr × Obj):=fp.filterMap fun b=>(h.get? b).map fun o=>(b,o)
theorem uH {fp:List Addr}{h:Heap}{b:Addr}{o:Obj}(hb:b∈fp)(e:h.get? b=some o):(b,o)∈vB fp h:=List.mem_filterMap.mpr ⟨b,hb,by rw[e];rfl⟩
theorem n6 {fp:List Addr}{h:Heap}{p:Addr × Obj}(hp:p∈vB fp h):p.1∈fp∧h.get? p.1=some p.2:=by
 obtain⟨b,hb,e⟩:=List.mem_filterMap.mp hp
 cases q:h.get? b with
 |none=>rw[q] at e;cases e
 |some o =>
  rw[q] at e
  have e':(b,o)=p:=Option.some.inj e
  subst e'
  exact⟨hb,q⟩
theorem Inv.pinned {pins:List (Addr × Obj)}{σ : St}{H:Hp}{s:Shared}{fp:List Addr}(I:Inv X pins σ H s)(hf:∀ b∈fp,x9 X pins H b)(ho:∀ b∈fp,∃ o,s.heap.get? b=some o∧∀ v,o.data≠.cell v):Inv X (pins++vB fp s.heap) σ H s:=
 I.pins_of fun p hp=>(List.mem_append.mp hp).elim (fun z=>I.pin p (List.mem_append_right _ z)) fun z=>by
  obtain⟨hb,e⟩:=n6 z
  obtain⟨f0,f1,f2,_⟩:=hf p.1 hb
  obtain⟨o,e',d⟩:=ho p.1 hb
  rw[e] at e';cases e'
  exact⟨e,f0,f1,f2,d⟩
theorem Inv.unpinned {pins pl:List (Addr × Obj)}{σ : St}{H:Hp}{s:Shared}(I:Inv X (pins++pl) σ H s):Inv X pins σ H s:=I.pins_of fun p hp=>I.pin p (List.mem_append_right _ (List.mem_append_left _ hp))
inductive ForI (X:Cx)(pins:List (Addr × Obj))(fp:List Addr)(tn:Nat→Heap→Prop)(W:Nat→Nat→St→Hp→Prop)(n:Nat)(s':Shared):Prop
 |mk (i:Nat) (σ' : St) (H':Hp) (I:Inv X pins σ' H' s') (t:tn i s'.heap) (f:∀ b∈fp,H' b=none) (w:W i n σ' H'):ForI X pins fp tn W n s'
theorem oM {iter:Expr}{body:List Stmt}{wi:TI}{g:TG}{tb:TS}{pos:Pos}(hp:PassesOwn (model X.prog X.w) X.A X.env X.xe)(hc:X.calm=true)(hi:PI X tg iter wi)(hg:PG X tg g)(hb:PSs X body tb)
  (hs:∀ x,foldedSetIterable iter X.env x=pure x:=by intro _;rfl):PS X (.For tg iter body [] pos) (RA wi g tb):=by
 intro pins s σ H D I h
 refine wpAny_For (thn (hi pins s σ H _ I h) fun v s1 h1=>thn h1 fun itv s2 h2=>?_) hs
 obtain⟨it,fp,tn,J,H2,e,I2,T,st2,f2,W,⟨m0,w0⟩,turn⟩:=h2
 subst e
 have stat:∀ {H':Hp},(∀ b∈fp,H' b=none)→∀ b∈fp,x9 X pins H' b:=fun hn b hb=>⟨hn b hb,(f2 b hb).2⟩
 refine codeAny_forLoop_any (ForI X pins fp tn W) ?_ m0 ⟨0,σ,H2,I2,st2,fun b hb=>(f2 b hb).1,w0⟩
 rintro n s3 ⟨i,σ3,H3,I3,st3,fr3,w3⟩
 rcases turn i n σ3 H3 w3 with⟨stop,qn⟩|⟨go,N,hN,step⟩
 ·refine wpAny_passesOwn hp (thn (T.done X rfl rfl rfl hc i pins s3 σ3 H3 X.xe I3 (stat fr3) st3 stop) fun r s4 ⟨hr,I4⟩=>?_)
  subst hr
  exact wpAny_execs_nil ⟨σ3,H3,I4,qn⟩
 ·refine wpAny_passesOwn hp (thn (T.item X rfl rfl rfl hc i pins s3 σ3 H3 X.xe I3 (stat fr3) st3 go) fun r s4 ⟨u,hr,h4⟩=>?_)
  subst hr
  refine wpAny_passesOwn hp (thn h4 fun _ s5 ⟨x,H5,I5,r5,y5,st5,fr5⟩=>?_)
  have I5':=I5.pinned (stat fr5) (T.obj _ _ st5)
  refine wpAny_passesOwn hp (thn (hg _ s5 σ3 H5 x u _ I5' r5 (step x H5 y5)) fun _ s6 ⟨σ6,H6,I6,q6⟩=>?_)
  refine wpAny_passesOwn hp (thn (hb _ s6 σ6 H6 _ I6 q6) fun f s7 q7=>?_)
  have again:∀ {σ7:St} {H7:Hp},Inv X (pins++vB fp s5.heap) σ7 H7 s7→N σ7 H7→∃ m,m<n∧ForI X pins fp tn W m s7:=fun {σ7 H7} I7 n7=>by
   obtain⟨m',hm,w7⟩:=hN σ7 H7 n7
   refine⟨m',hm,i+1,σ7,H7,I7.unpinned,T.keep _ _ _ st5 fun b hb o e=>(I7.pin (b,o) (List.mem_append_right _ (List.mem_append_right _ (uH hb e)))).1,fun b hb=>?_,w7⟩
   obtain⟨o,e,d⟩:=T.obj _ _ st5 b hb
   exact(I7.pin (b,o) (List.mem_append_right _ (List.mem_append_right _ (uH hb e)))).2.1
  cases f with
  |next=>obtain⟨σ7,H7,I7,n7⟩:=q7;exact again I7 n7
  |cont=>obtain⟨σ7,H7,I7,n7⟩:=q7;exact again I7 n7
  |brk=>obtain⟨σ7,H7,I7,q7⟩:=q7;exact⟨σ7,H7,I7.unpinned,q7⟩
  |ret v=>obtain⟨x7,σ7,H7,I7,r7,q7⟩:=q7;exact⟨x7,σ7,H7,I7.unpinned,r7,q7⟩
end
end _L
namespace _L
open PySem PySem.Spec PyProof.Rows
abbrev R2:=V→V→Hp→VK→Prop
def OpR (X:Cx)(f:Value→Value→Sem Value)(r:R2):Prop:=
 ∀ (pins:List (Addr × Obj)) (s:Shared) (σ : St) (H:Hp) (x y:V) (v u:Value) (Q:VK),Inv X pins σ H s→qK x v→qK y u→r x y H Q →
  wpAny (model X.prog X.w) X.A (f v u) (EP X pins σ Q) X.xe s
def UnR (X:Cx)(f:Value→Sem Value)(r:V→Hp→VK→Prop):Prop:=
 ∀ (pins:List (Addr × Obj)) (s:Shared) (σ : St) (H:Hp) (x:V) (v:Value) (Q:VK),Inv X pins σ H s→qK x v→r x H Q →
  wpAny (model X.prog X.w) X.A (f v) (EP X pins σ Q) X.xe s
def pM (X:Cx)(f:Value)(r:List V→Hp→VK→Prop):Prop:=
 ∀ (pins:List (Addr × Obj)) (s:Shared) (σ : St) (H:Hp) (xs:List V) (us:List Value) (Q:VK),Inv X pins σ H s→qN xs us→r xs H Q →
  wpAny (model X.prog X.w) X.A (call f us) (EP X pins σ Q) X.xe s
def SA (X:Cx)(r:V→Hp→(Bool→Hp→Prop)→Prop):Prop:=
 ∀ (pins:List (Addr × Obj)) (s:Shared) (σ : St) (H:Hp) (x:V) (v:Value) (Q:Bool→Hp→Prop),Inv X pins σ H s→qK x v→r x H Q →
  wpAny (model X.prog X.w) X.A (truthy v) (TP X pins σ Q) X.xe s
def tOp (r:R2)(ta tb:TE):TE:=fun σ H Q=>ta σ H fun x H1=>tb σ H1 fun y H2=>r x y H2 Q
def rI (C:Int→Int→Prop)(g:Int→Int→V):R2:=fun x y H Q=>∃ i j,x=.int i∧y=.int j∧C i j∧Q (g i j) H
def rI0 (g:Int→Int→V):R2:=fun x y H Q=>∃ i j,x=.int i∧y=.int j∧Q (g i j) H
def rU (g:Int→V):V→Hp→VK→Prop:=fun x H Q=>∃ i,x=.int i∧Q (g i) H
section
variable {X:Cx}{a b c:Expr}{ta tb tc:TE}{pos:Pos}
theorem SE (ha:PE X a ta)(hb:PE X b tb){pins:List (Addr × Obj)}{s:Shared}{σ : St}{H:Hp}{R:V→V→Hp→Prop}(I:Inv X pins σ H s)
  (h:ta σ H fun x H1=>tb σ H1 fun y H2=>R x y H2) {Q:Value→Shared→Prop} {f:Value→Value→Sem Value}
  (hf:∀ v u s2 x y H2,Inv X pins σ H2 s2→qK x v→qK y u→R x y H2→wpAny (model X.prog X.w) X.A (f v u) Q X.xe s2) :
  wpAny (model X.prog X.w) X.A (eval a X.env) (fun v s₁=>wpAny (model X.prog X.w) X.A (eval b X.env) (fun u s₂=>wpAny (model X.prog X.w) X.A (f v u) Q X.xe s₂) X.xe s₁) X.xe s:=by
 refine thn (ha pins s σ H _ I h) fun v s1 ⟨x,H1,I1,r1,q1⟩=>?_
 refine thn (hb pins s1 σ H1 _ I1 q1) fun u s2 ⟨y,H2,I2,r2,q2⟩=>?_
 exact hf v u s2 x y H2 I2 r1 r2 q2
theorem opI {f:Value→Value→Sem Value}{C:Int→Int→Prop}{g:Int→Int→Int}
  (rule:∀ (i j:Int) (t u:Tok) (s:Shared) (Q:Value→Shared→Prop) (E:Value→Shared→Prop),C i j→Q (.int (g i j) s.toks) { s with toks:=s.toks+1 } → wpAny (model X.prog X.w) X.A (f (.int i t) (.int j u)) Q E s) :
  OpR X f (rI C fun i j=>.int (g i j)):=by
 intro pins s σ H x y v u Q I rx ry h
 obtain⟨i,j,rfl,rfl,hc,q⟩:=h
 obtain⟨t,rfl⟩:=rx
 obtain⟨t',rfl⟩:=ry
 exact rule i j t t' s _ _ hc ⟨.int (g i j),H,I.tok _,⟨_,rfl⟩,q⟩
theorem FK {f:Value→Value→Sem Value}{g:Int→Int→Int}
  (rule:∀ (i j:Int) (t u:Tok) (s:Shared) (Q:Value→Shared→Prop) (E:Value→Shared→Prop),Q (.int (g i j) s.toks) { s with toks:=s.toks+1 } → wpAny (model X.prog X.w) X.A (f (.int i t) (.int j u)) Q E s) :
  OpR X f (rI0 fun i j=>.int (g i j)):=by
 intro pins s σ H x y v u Q I rx ry h
 obtain⟨i,j,rfl,rfl,q⟩:=h
 obtain⟨t,rfl⟩:=rx
 obtain⟨t',rfl⟩:=ry
 exact rule i j t t' s _ _ ⟨.int (g i j),H,I.tok _,⟨_,rfl⟩,q⟩
theorem cS {f:Value→Value→Sem Value}{g:Int→Int→Bool}
  (rule:∀ (i j:Int) (t u:Tok) (s:Shared) (Q:Value→Shared→Prop) (E:Value→Shared→Prop),Q (.bool (g i j)) s→wpAny (model X.prog X.w) X.A (f (.int i t) (.int j u)) Q E s) :
  OpR X f (rI0 fun i j=>.bl (g i j)):=by
 intro pins s σ H x y v u Q I rx ry h
 obtain⟨i,j,rfl,rfl,q⟩:=h
 obtain⟨t,rfl⟩:=rx
 obtain⟨t',rfl⟩:=ry
 exact rule i j t t' s _ _ ⟨.bl (g i j),H,I,rfl,q⟩
def DX (i j:Int):Prop:=0<j∧j<1073741824
def DY (i j:Int):Prop:=0≤j∧j≤1000000∧i.natAbs<2 ^ 64
def QH (i j:Int):Prop:=(-(2 ^ 64)<i∧i<2 ^ 64)∨(-(2 ^ 64)<j∧j<2 ^ 64)
theorem QH.ok {i j:Int}(h:QH i j):IntMulOk i j:=by
 rcases h with⟨h1,h2⟩|⟨h1,h2⟩
 ·exact .of_left (intBits_le_64 h1 h2)
 ·exact .of_right (intBits_le_64 h1 h2)
theorem FM:OpR X (binaryOp .Add) (rI0 fun i j=>.int (i+j)):=FK fun _ _ _ _ _ _ _ q=>add_int q
theorem FR:OpR X (binaryOp .Sub) (rI0 fun i j=>.int (i-j)):=FK fun _ _ _ _ _ _ _ q=>sub_int q
theorem FP:OpR X (binaryOp .Mult) (rI QH fun i j=>.int (i*j)):=opI fun _ _ _ _ _ _ _ hc q=>mul_int q hc.ok
theorem UP:OpR X (binaryOp .FloorDiv) (rI DX fun i j=>.int (i/j)):=opI fun i j _ _ _ _ _ hc q=>by
 have h1:(0:Int)<j:=hc.1
 have h2:j<1073741824:=hc.2
 exact floordiv_int (by omega) (by rw[Int.fdiv_eq_ediv_of_nonneg i (by omega)];exact q) (.inl (PyProof.noPylong_small (by omega)))
theorem FO:OpR X (binaryOp .Mod) (rI (fun _ j=>0<j) fun i j=>.int (i % j)):=opI fun i j _ _ _ _ _ hc q=>by
 have h1:(0:Int)<j:=hc
 exact mod_int' (by omega) (by rw[Int.fmod_eq_emod_of_nonneg i (by omega)];exact q)
theorem FQ:OpR X (binaryOp .Pow) (rI DY fun i j=>.int (i ^ j.toNat)):=opI fun _ _ _ _ _ _ _ hc q=>pow_int_small hc.1 hc.2.1 hc.2.2 q
theorem unI {f:Value→Sem Value}{g:Int→Int}
  (rule:∀ (i:Int) (t:Tok) (s:Shared) (Q:Value→Shared→Prop) (E:Value→Shared→Prop),Q (.int (g i) s.toks) { s with toks:=s.toks+1 } → wpAny (model X.prog X.w) X.A (f (.int i t)) Q E s) :
  UnR X f (rU fun i=>.int (g i)):=by
 intro pins s σ H x v Q I rx h
 obtain⟨i,rfl,q⟩:=h
 obtain⟨t,rfl⟩:=rx
 exact rule i t s _ _ ⟨.int (g i),H,I.tok _,⟨_,rfl⟩,q⟩
theorem TR:UnR X (unaryOp .USub) (rU fun i=>.int (-i)):=unI fun _ _ _ _ _ q=>neg_int q
end
section
variable {X:Cx}{a b c:Expr}{ta tb tc:TE}{pos:Pos}
theorem B5 {pins:List (Addr × Obj)}{σ : St}{H:Hp}{s:Shared}{Q:VK}{k k':Bool}(I:Inv X pins σ H s)(q:Q (.bl k) H)(e:k=k'):EP X pins σ Q (.bool k') s:=by
 subst e
 exact⟨.bl k,H,I,rfl,q⟩
theorem LC:OpR X (compareOp .Lt) (rI0 fun i j=>.bl (decide (i<j))):=cS fun _ _ _ _ _ _ _ q=>lt_int q
theorem LB:OpR X (compareOp .LtE) (rI0 fun i j=>.bl (decide (i≤j))):=cS fun _ _ _ _ _ _ _ q=>le_int q
theorem LA:OpR X (compareOp .Gt) (rI0 fun i j=>.bl (decide (j<i))):=cS fun _ _ _ _ _ _ _ q=>gt_int q
theorem L9:OpR X (compareOp .GtE) (rI0 fun i j=>.bl (decide (j≤i))):=cS fun _ _ _ _ _ _ _ q=>ge_int q
theorem FN:OpR X (compareOp .Is) (fun x y H Q=>y=.non∧Q (.bl (decide (x=.non))) H):=by
 intro pins s σ H x y v u Q I rx ry h
 obtain⟨rfl,q⟩:=h
 cases ry
 refine is_none_gen (B5 I q ?_)
 cases x <;> first
  |(cases rx;rfl)
  |(obtain⟨t,rfl⟩:=rx;rfl)
theorem OpR.or {f:Value→Value→Sem Value}{r r':R2}(h:OpR X f r)(h':OpR X f r'):OpR X f (fun x y H Q=>r x y H Q∨r' x y H Q):=by
 intro pins s σ H x y v u Q I rx ry q
 rcases q with q|q
 ·exact h pins s σ H x y v u Q I rx ry q
 ·exact h' pins s σ H x y v u Q I rx ry q
theorem k9 (b:Expr){op:CmpOp}(h:op≠.In:=by decide)(h2:op≠.NotIn:=by decide):behindInMarks op b=false:=by
 have e1:(op == CmpOp.In)=false:=by cases op <;> first|rfl|exact absurd rfl h
 have e2:(op == CmpOp.NotIn)=false:=by cases op <;> first|rfl|exact absurd rfl h2
 cases b <;> simp[behindInMarks,e1,e2]
def c8 (K:PySem.W.Frag)(x:V)(H:Hp)(k:Bool):Prop:=
 match x with
 |.non=>k=false
 |.bl b=>k=b
 |.int i=>k=(i != 0)
 |.str y=>y.length≤sizeLine∧k=((y.length:Int) != 0)
 |.byt y=>y.size≤sizeLine∧k=((y.size:Int) != 0)
 |.ref p=>(∃ xs,SqL K H p xs∧k=!xs.isEmpty)∨(∃ xs,SqT K H p xs∧k=!xs.isEmpty)∨∃ kvs,H p=some (.dK kvs)∧k=!kvs.isEmpty
 |_=>False
theorem cN {κ : Type}{kvs:List (κ × V)}{vs:List (κ × Value)}(r:KV kvs vs):(!vs.isEmpty)=!kvs.isEmpty:=by
 cases r <;> rfl
theorem fJ {xs:List V}{its:List Value}(r:qN xs its):(!its.toArray.isEmpty)=!xs.isEmpty:=by
 cases r <;> simp
theorem pG:(sizeLine:Nat)<2 ^ 63:=by rw[sizeLine_eq];decide
theorem fV:SA X (fun x H Q=>∃ k,c8 X.K x H k∧Q k H):=by
 intro pins s σ H x v Q I rx h
 obtain⟨k,e,q⟩:=h
 have hl:=pG
 have hs:sizeLine=16777216:=sizeLine_eq
 cases x with
 |non =>
  cases rx
  have e':k=false:=e
  subst e'
  exact truthy_none ⟨H,I,q⟩
 |bl b =>
  cases rx
  have e':k=b:=e
  subst e'
  exact wpAny_truthy_bool ⟨H,I,q⟩
 |int i =>
  obtain⟨t,rfl⟩:=rx
  have e':k=(i != 0):=e
  subst e'
  exact PySem.P.truthy_int ⟨H,I,q⟩
 |str y =>
  obtain⟨t,rfl⟩:=rx
  obtain⟨hy,e'⟩:y.length≤sizeLine∧k=((y.length:Int) != 0):=e
  subst e'
  exact PySem.P.truthy_str (by omega) ⟨H,I.tok _,q⟩
 |byt y =>
  obtain⟨t,rfl⟩:=rx
  obtain⟨hy,e'⟩:y.size≤sizeLine∧k=((y.size:Int) != 0):=e
  subst e'
  exact PySem.W.truthy_bytes (by omega) ⟨H,I.tok _,q⟩
 |ref p =>
  cases rx
  have e':(∃ xs,SqL X.K H p xs∧k=!xs.isEmpty)∨(∃ xs,SqT X.K H p xs∧k=!xs.isEmpty)∨∃ kvs,H p=some (.dK kvs)∧k=!kvs.isEmpty:=e
  rcases e' with⟨xs,hx,e'⟩|⟨xs,hx,e'⟩|⟨kvs,hx,e'⟩
  ·subst e'
   obtain⟨its,r,pl,hz⟩:=I.list hx
   have hlen:=r.length
   exact wpAny_truthy_list pl.isList (by simp only[List.size_toArray];omega) ⟨H,I.tok _,by rw[fJ r];exact q⟩
  ·subst e'
   obtain⟨its,r,pl,hz⟩:=I.tuple hx
   have hlen:=r.length
   exact truthy_tuple pl (by simp only[List.size_toArray];omega) ⟨H,I.tok _,by rw[fJ r];exact q⟩
  ·subst e'
   obtain⟨hz,hS,vs,r,m⟩:kvs.length≤sizeLine∧(p == sysModules)=false∧∃ vs,KV kvs vs∧s.heap.DictOf (zX X.prog X.w) p vs:=I.hok p _ hx
   have hlen:kvs.length=vs.length:=Paired.length r
   exact wpAny_truthy_dict hS m (by omega) ⟨H,I.tok _,by rw[cN r];exact q⟩
 |_=>exact(show False from e).elim
theorem cT:OpR X (binaryOp .Add) (fun x y H Q=>∃ i j,x=.str i∧y=.str j∧i.length+j.length≤sizeLine∧Q (.str (i++j)) H):=by
 intro pins s σ H x y v u Q I rx ry h
 obtain⟨i,j,rfl,rfl,hz,q⟩:=h
 obtain⟨t,rfl⟩:=rx
 obtain⟨t',rfl⟩:=ry
 exact add_str (fun t' tk=>⟨.str (i++j),H,I.tok _,⟨_,rfl⟩,q⟩) hz
theorem b8 {x:V}{us:List Value}(r:qN [x] us):∃ u,us=[u]∧qK x u:=by
 cases r with
 |cons r1 r2=>cases r2;exact⟨_,rfl,r1⟩
theorem nY {x y:V}{us:List Value}(r:qN [x,y] us):∃ u w',us=[u,w']∧qK x u∧qK y w':=by
 cases r with
 |cons r1 r2 =>
  cases r2 with
  |cons r3 r4=>cases r4;exact⟨_,_,rfl,r1,r3⟩
theorem tM:pM X (.type "int") (fun xs H Q=>(∃ i,xs=[.int i]∧Q (.int i) H)∨∃ k,xs=[.bl k]∧Q (.int (if k then 1 else 0)) H):=by
 intro pins s σ H xs us Q I r h
 rcases h with⟨i,rfl,q⟩|⟨k,rfl,q⟩
 ·obtain⟨u,rfl,t,rfl⟩:=b8 r
  exact call_int_int ⟨.int i,H,I,⟨_,rfl⟩,q⟩
 ·obtain⟨u,rfl,r1⟩:=b8 r
  cases r1
  exact call_int_bool ⟨.int (if k then 1 else 0),H,I.tok _,⟨_,rfl⟩,q⟩
def KO (K:PySem.W.Frag)(x:V)(H:Hp)(n:Nat):Prop:=
 match x with
 |.str y=>y.length≤sizeLine∧n=y.length
 |.byt y=>y.size≤sizeLine∧n=y.size
 |.ref p=>(∃ xs,SqL K H p xs∧n=xs.length)∨∃ xs,SqT K H p xs∧n=xs.length
 |_=>False
theorem QX:pM X (.builtin "len") (fun xs H Q=>∃ x n,xs=[x]∧KO X.K x H n∧Q (.int n) H):=by
 intro pins s σ H xs us Q I r h
 obtain⟨x,n,rfl,e,q⟩:=h
 obtain⟨u,rfl,rx⟩:=b8 r
 have hl:=pG
 have hs:sizeLine=16777216:=sizeLine_eq
 cases x with
 |str y =>
  obtain⟨t,rfl⟩:=rx
  obtain⟨hy,e'⟩:y.length≤sizeLine∧n=y.length:=e
  subst e'
  exact len_str (by omega) ⟨.int _,H,I.tok _,⟨_,rfl⟩,q⟩
 |byt y =>
  obtain⟨t,rfl⟩:=rx
  obtain⟨hy,e'⟩:y.size≤sizeLine∧n=y.size:=e
  subst e'
  exact PySem.W.len_bytes (by omega) ⟨.int _,H,I.tok _,⟨_,rfl⟩,q⟩
 |ref p =>
  cases rx
  have e':(∃ xs,SqL X.K H p xs∧n=xs.length)∨∃ xs,SqT X.K H p xs∧n=xs.length:=e
  rcases e' with⟨xs,hx,e'⟩|⟨xs,hx,e'⟩
  ·subst e'
   obtain⟨its,r',pl,hz⟩:=I.list hx
   have hlen:=r'.length
   exact Calls.call_len_list pl.isList (by simp only[List.size_toArray];omega) ⟨.int xs.length,H,I.tok _,⟨_,by simp only[List.size_toArray];rw[hlen]⟩,q⟩
  ·subst e'
   obtain⟨its,r',pl,hz⟩:=I.tuple hx
   have hlen:=r'.length
   exact len_tuple pl (by simp only[List.size_toArray];omega) ⟨.int xs.length,H,I.tok _,⟨_,by simp only[List.size_toArray];rw[hlen]⟩,q⟩
 |_=>exact(show False from e).elim
end
end _L
namespace _L
open PySem PySem.Spec PyProof.Rows
structure ObjM (h:Heap)(x dx C:Addr)(mA:Str→Option Value):Prop where
 obj:h.get? x=some (PySem.W.instObj C dx)
 ns:h.Ns1 dx mA
 ne:dx≠x
set_option tactic.hygienic true in
theorem iX {h:Heap}{dx:Addr}{mA:Str→Option Value}(n:h.Ns1 dx mA):∃ od,h.get? dx=some od∧∀ name,PySem.W.lookIn name od=some (mA name):=by
 obtain⟨o,es,ep,ho,hd,hk,_,hm⟩:=n
 refine⟨o,ho,fun name=>?_⟩
 have e:=hm name
 unfold nsFind findBy at e
 rw[← Array.find?_toList] at e
 unfold PySem.W.lookIn
 rw[hd]
 dsimp only
 split
 ·rename_i y q
  rw[q] at e
  exact congrArg some e
 ·rename_i q
  rw[q] at e
  have a:es.toList.any (·.refKey)=false:=by
   rw[List.any_eq_false]
   intro y hy
   obtain⟨z,t,hkey⟩:=hk y (Array.mem_toList_iff.mp hy)
   simp[DictEntry.refKey,hkey]
  have a':¬ es.toList.any (·.refKey)=true:=by rw[a];exact Bool.false_ne_true
  rw[if_neg a']
  exact congrArg some e
theorem ObjM.look {h:Heap}{x dx C:Addr}{mA:Str→Option Value}(I:ObjM h x dx C mA):∃ od,PySem.W.InstAt h x (PySem.W.instObj C dx) C (some od)∧∀ name,PySem.W.lookIn name od=some (mA name):=
 let ⟨od,ho,hl⟩:=iX I.ns
 ⟨od,⟨I.obj,rfl,rfl,ho⟩,hl⟩
section
variable {P:Program}{w:World}{H H':Hp}{h h':Heap}{a C dx:Addr}{fs fs':List (Str × V)}
theorem U1 (hok:HOk P w H h)(e:H a=some (.ins C dx fs)):∃ mA,ObjM h a dx C mA∧(∀ f,kJ (fs.lookup f) (mA f))∧PySem.Within mA (fs.map (·.1))∧fs.length≤1000∧H dx=some (.own a):=by
 obtain⟨d,z,ne,ob,mA,n,r,q⟩:=(show zA P w H h a (.ins C dx fs) from hok a _ e)
 exact⟨mA,⟨ob,n,ne⟩,r,q,z,d⟩
end
structure Cls (K:PySem.W.Frag)(C:Addr):Prop where
 pg:PySem.W.plainGet K C Str.empty=true
 hd:PySem.W.hasDictIn K C=true
 po:PySem.W.plainOver K C=true
 sa:PySem.W.findIn K (.ref C) "__setattr__" = some (some (.builtin "object.__setattr__"))
theorem Cls.get {K:PySem.W.Frag}{C:Addr}(c:Cls K C)(f:Str):PySem.W.plainGet K C f=true:=c.pg
section
variable {X:Cx}{pins:List (Addr × Obj)}{σ : St}{H:Hp}{s:Shared}{A:Around}{E:Value→Shared→Prop}{Q:Value→Shared→Prop}{c:Value}{b:Bool}
inductive TyOf (K:PySem.W.Frag)(H:Hp):V→Value→Prop where
 |non:TyOf K H .non (.type "NoneType")
 |bl (x:Bool):TyOf K H (.bl x) (.type "bool")
 |int (i:Int):TyOf K H (.int i) (.type "int")
 |str (x:Str):TyOf K H (.str x) (.type "str")
 |flt (x:UInt64):TyOf K H (.flt x) (.type "float")
 |lst {a:Addr} {xs:List V} (e:H a=some (.lst xs)):TyOf K H (.ref a) (.type "list")
 |frz {a:Addr} {o:Obj} {xs:List V} (e:H a=some (.frz o (.lst xs))):TyOf K H (.ref a) (.type "list")
 |tup {a:Addr} {xs:List V} (e:H a=some (.tup xs)):TyOf K H (.ref a) (.type "tuple")
 |dK {a:Addr} {kvs:List (Key × V)} (e:H a=some (.dK kvs)):TyOf K H (.ref a) (.type "dict")
 |dT {a:Addr} {kvs:List (List Key × V)} (e:H a=some (.dT kvs)):TyOf K H (.ref a) (.type "dict")
 |ins {a C dx:Addr} {fs:List (Str × V)} (e:H a=some (.ins C dx fs)) (cl:Cls K C) (ha:PySem.W.findIn K (.ref C) "__class__" = some (some (.builtin "object.__class__")))
   (hn:PySem.W.specialIn K (.builtin "object.__class__") "__get__" = some (some (.builtin "getset_descriptor.__get__"))) (htk:PySem.W.takesIn K (.builtin "object.__class__")=some true)
   (hm:PySem.W.mroIn K C (.type "object")=some true):TyOf K H (.ref a) (.ref C)
theorem iN {x:V}{u t:Value}(I:Inv X pins σ H s)(rx:qK x u)(ty:TyOf X.K H x t)(e:PySem.W.kitOne X.K t c=some b)(h:∀ tk,Q (.bool b) { s with toks:=tk }) :
  wpAny (model X.prog X.w) A (call (.builtin "isinstance") [u,c]) Q E s:=by
 cases ty with
 |non=>cases (show u=Value.none from rx);exact PySem.W.kia_one PySem.W.kitx_none I.kIn True.intro e (fun z=>nomatch z) h
 |bl y=>cases (show u=Value.bool y from rx);exact PySem.W.kia_one PySem.W.kitx_bool I.kIn True.intro e (fun z=>nomatch z) h
 |int i=>obtain⟨t,q⟩:=(show ∃ t,u=Value.int i t from rx);cases q;exact PySem.W.kia_one PySem.W.kitx_int I.kIn True.intro e (fun z=>nomatch z) h
 |str y=>obtain⟨t,q⟩:=(show ∃ t,u=Value.str y t from rx);cases q;exact PySem.W.kia_one PySem.W.kitx_str I.kIn True.intro e (fun z=>nomatch z) h
 |flt y=>obtain⟨t,q⟩:=(show ∃ t,u=Value.float y t from rx);cases q;exact PySem.W.kia_one PySem.W.kitx_float I.kIn True.intro e (fun z=>nomatch z) h
 |@lst a xs ea =>
  cases (show u=Value.ref a from rx)
  obtain⟨_,_,n,_,h1⟩:=(show zA X.prog X.w H s.heap a (.lst xs) from I.hok a _ ea)
  exact PySem.W.kia_one PySem.W.kitx_list I.kIn ⟨_,h1,rfl⟩ e (fun z=>nomatch z) h
 |@frz a ob xs ea =>
  cases (show u=Value.ref a from rx)
  obtain⟨_,_,_,n,_,h1⟩:=(show zA X.prog X.w H s.heap a (.frz ob (.lst xs)) from I.hok a _ ea)
  exact PySem.W.kia_one PySem.W.kitx_list I.kIn ⟨_,h1,rfl⟩ e (fun z=>nomatch z) h
 |@tup a xs ea =>
  cases (show u=Value.ref a from rx)
  obtain⟨_,_,_,p⟩:=(show zA X.prog X.w H s.heap a (.tup xs) from I.hok a _ ea)
  obtain⟨o,h1,h2,_⟩:=p
  exact PySem.W.kia_one PySem.W.kitx_tuple I.kIn ⟨o,h1,h2⟩ e (fun z=>nomatch z) h
 |@dK a kvs ea =>
  cases (show u=Value.ref a from rx)
  obtain⟨_,_,vs,_,p⟩:=(show zA X.prog X.w H s.heap a (.dK kvs) from I.hok a _ ea)
  obtain⟨o,es,ep,h1,h2,_⟩:=p
  exact PySem.W.kia_one PySem.W.kitx_dict I.kIn ⟨o,h1,h2.1⟩ e (fun z=>nomatch z) h
 |@dT a kvs ea =>
  cases (show u=Value.ref a from rx)
  obtain⟨_,_,xs,_,o,es,ep,h1,h2,_⟩:=(show zA X.prog X.w H s.heap a (.dT kvs) from I.hok a _ ea)
  exact PySem.W.kia_one PySem.W.kitx_dict I.kIn ⟨o,h1,h2.1⟩ e (fun z=>nomatch z) h
 |@ins a C dx fs ea cl ha hn htk hm =>
  cases (show u=Value.ref a from rx)
  obtain⟨mA,O,_⟩:=U1 I.hok ea
  obtain⟨od,J,_⟩:=O.look
  exact PySem.W.kia_one (PySem.W.kitx_own (cl.get _) cl.hd ha hn htk hm) I.kIn J e (fun z=>nomatch z) h
end
end _L
namespace _L
open PySem PySem.Spec PyProof.Rows
structure Room (k:Nat)(A:Around):Prop where
 hd:A.handled=none
 dp:A.depth+3*k+5<recursionLimit
 un:A.units+16*k+200<cLine
 gd:A.guards=some []
theorem Room.deeper {k:Nat}{A:Around}(r:Room (k+1) A)(env:Env):Room k (A.deeper env):=
 ⟨r.hd,by have:=r.dp;show A.depth+1+3*k+5<_;omega,by have:=r.un;show A.units+3+16*k+200<_;omega,r.gd⟩
theorem Room.depth {k:Nat}{A:Around}(r:Room k A):A.depth<recursionLimit:=by have:=r.dp;omega
theorem Room.units {k:Nat}{A:Around}(r:Room k A):A.units+64<cLine:=by have:=r.un;omega
def RC:TA:=fun _ H Q=>Q [] H
section
variable {X:Cx}{e:Expr}{es:List Expr}{te:TE}{t:TA}{pos:Pos}
theorem FS:PA X [] RC:=fun _ _ _ _ H Q I h=>Calls.spliced_nil ⟨[],H,I,.nil,h⟩
def RF (t:TA):TE:=fun σ H Q=>t σ H fun xs H1=>xs.length≤sizeLine∧∀ p,H1 p=none→Q (.ref p) (upd H1 p (.tup xs))
def RB (t:TA):TE:=fun σ H Q=>t σ H fun xs H1=>xs.length≤sizeLine∧∀ p,H1 p=none→Q (.ref p) (upd H1 p (.lst xs))
theorem FX {x1} (h:PA X es t):PE X (.Tuple es x1 pos) (RF t):=by
 intro pins s σ H Q I hq
 refine wpAny_Tuple_spliced (thn (h pos pins s σ H _ I hq) fun us s1 ⟨xs,H1,I1,r,z,q⟩=>⟨by rw[← r.length];exact z,?_⟩)
 have hf:H1 s1.heap.objs.size=none:=I1.hok.fresh (Nat.le_refl _)
 refine⟨.ref s1.heap.objs.size,upd H1 s1.heap.objs.size (.tup xs),I1.laid (t':=s1.toks) (fun b u e=>Heap.get?_push_of_some _ e) (Nat.le_refl _) ?_,rfl,q _ hf⟩
 exact⟨z,us,r,⟨_,Heap.get?_push_size _ rfl,rfl,_,rfl⟩⟩
theorem oG (h:PA X es t):PE X (.List es pos) (RB t):=by
 intro pins s σ H Q I hq
 refine wpAny_List_spliced (thn (h pos pins s σ H _ I hq) fun us s1 ⟨xs,H1,I1,r,z,q⟩=>⟨by rw[← r.length];exact z,?_⟩)
 have hf:H1 s1.heap.objs.size=none:=I1.hok.fresh (Nat.le_refl _)
 refine⟨.ref s1.heap.objs.size,upd H1 s1.heap.objs.size (.lst xs),I1.laid (t':=s1.toks) (fun b u e=>Heap.get?_push_of_some _ e) (Nat.le_refl _) ?_,rfl,q _ hf⟩
 exact⟨z,us,0,r,Heap.get?_push_size _ rfl⟩
end
abbrev Sp:=List V→Hp→VK→XK→Prop
abbrev CXT:=List Env→Hp→Shared→XK→Value→Shared→Prop
structure Env0 (P:Program)(w:World)(K:PySem.W.Frag)(mg:Str→Option Value)(base:Heap)(A:Around)(outer:List Env)(s:Shared)(H:Hp):Prop where
 frames:A.frames=some outer
 mod:Mod K mg base
 bs:∀ b o,base.get? b=some o→s.heap.get? b=some o∧H b=none
 bsz:base.objs.size≤s.heap.objs.size
 funs:s.heap.FunFrames base outer
 frf:∀ b∈frs outer,H b=none
 hok:HOk P w H s.heap
 bare:AllBare s.gens
def CE (outer:List Env)(P:Program)(w:World)(H:Hp)(s:Shared)(Q:VK)(u:Value)(s':Shared):Prop:=
 ∃ v H',s'.os=s.os∧AllBare s'.gens∧Un (frs outer) [] H H' s.heap s'.heap∧HOk P w H' s'.heap∧qK v u∧Q v H'
def CR (CX:CXT)(outer:List Env)(P:Program)(w:World)(H:Hp)(s:Shared)(Q:VK)(E:XK)(r:Result)(s':Shared):Prop:=
 match r with
 |.ok (.ret u)=>CE outer P w H s Q u s'
 |.ok _=>False
 |.error e=>CX outer H s E e s'
structure FnOk (P:Program)(w:World)(K:PySem.W.Frag)(mg:Str→Option Value)(base:Heap)(CX:CXT)(k:Nat)(f:Addr)(fd:FuncData)(ps:List Str)(sp:Sp):Prop where
 len:∀ vs H Q E,sp vs H Q E→vs.length=ps.length
 run:∀ (A:Around) (outer:List Env) (s:Shared) (H:Hp) (args:Args) (us:List Value) (vs:List V) (Q:VK) (E:XK),Room k A→Env0 P w K mg base A outer s H→BindsTo s fd args (ps.zip us)→qN vs us→sp vs H Q E →
  codeAny (model P w) A (.call (.ref f) args) (CR CX outer P w H s Q E) s
section
variable {X:Cx}{pins:List (Addr × Obj)}{σ : St}{H:Hp}{s s':Shared}
theorem Inv.env0 (I:Inv X pins σ H s):Env0 X.prog X.w X.K X.mg X.base X.A X.stack s H:=
 ⟨I.ok.frames,I.ok.mod,I.bs,Nat.le_trans I.ok.bsz I.sz,I.stack,I.stkFree,I.hok,I.bare⟩
theorem Inv.after {Q:VK}{u:Value}(I:Inv X pins σ H s)(h:CE X.stack X.prog X.w H s Q u s'):EP X pins σ Q u s':=by
 obtain⟨v,H',os,bare,un,hok,r,q⟩:=h
 obtain⟨hh,g,d,t,os'⟩:=s'
 obtain rfl:os'=s.os:=os
 exact⟨v,H',I.call (h':=hh) (g':=g) (d':=d) (t':=t) (ch:=[]) un hok bare (fun b z=>absurd z (by simp)),r,q⟩
end
def yV (K:PySem.W.Frag)(fd:FuncData)(ps:List Str)(ds:List Value):Prop:=
 ∀ (s:Shared) (us:List Value),K.In s.heap→(us++ds).length=ps.length→BindsTo s fd ⟨us,[]⟩ (ps.zip (us++ds))
theorem yV.all {K:PySem.W.Frag}{fd:FuncData}{ps:List Str}(h:∀ us:List Value,us.length=ps.length→bindArgs fd ⟨us,[]⟩=pure (ps.zip us)):yV K fd ps []:=fun s us _ hl=>by
 rw[List.append_nil] at hl ⊢
 exact .of_eq (h us hl)
structure FnScope (N P:List Str)(sc:Scope):Prop where
 kind:sc.kind=.function
 co:sc.isCoroutine=false
 gen:sc.isGenerator=false
 nd:N.Nodup
 pre:N.take P.length=P
 par:∀ x∈P,sc.names.lookup x=some .local ∨ sc.names.lookup x=some .cell
 nofree:∀ y∈sc.names,y.2≠.free
theorem tK {kindOf:Str→Option NameKind}{x:Str}:∀ {binds:List (Str × Value)} {m:Str→Option Value},(∀ v,(x,v) ∉ binds)→bindL kindOf binds m x=m x
 |[],_,_=>rfl
 |(n,v)::r,m,h=>by
  unfold bindL
  rw[tK fun w hw=>h w (List.mem_cons_of_mem _ hw)]
  split
  ·have:x≠n:=by rintro rfl;exact h v List.mem_cons_self
   simp[this]
  ·rfl
theorem tI {kindOf:Str→Option NameKind}{x:Str}:∀ {binds:List (Str × Value)} {m:Str→Option Value},(∀ v,(x,v) ∉ binds)→bindC kindOf binds m x=m x
 |[],_,_=>rfl
 |(n,v)::r,m,h=>by
  unfold bindC
  rw[tI fun w hw=>h w (List.mem_cons_of_mem _ hw)]
  split
  ·rfl
  ·have:x≠n:=by rintro rfl;exact h v List.mem_cons_self
   simp[this]
theorem tJ {kindOf:Str→Option NameKind}{x:Str}{v:Value}:∀ {P:List Str} {vs:List Value} {i:Nat} {m:Str→Option Value},P.Nodup→P[i]? = some x→vs[i]? = some v→kindOf x=some .local →
  bindL kindOf (P.zip vs) m x=some v
 |[],_,_,_,_,h,_,_=>by simp at h
 |_::_,[],_,_,_,_,h,_=>by simp at h
 |p::P,w::vs,0,m,nd,h1,h2,hk=>by
  simp at h1 h2;subst h1;subst h2
  show bindL kindOf ((p,w)::P.zip vs) m p=_
  unfold bindL
  rw[tK fun v hv=>(List.nodup_cons.mp nd).1 (List.of_mem_zip hv).1,if_pos hk]
  simp
 |p::P,w::vs,i+1,m,nd,h1,h2,hk=>by
  show bindL kindOf ((p,w)::P.zip vs) m x=_
  unfold bindL
  exact tJ (i:=i) (List.nodup_cons.mp nd).2 (by simpa using h1) (by simpa using h2) hk
theorem tH {kindOf:Str→Option NameKind}{x:Str}{v:Value}:∀ {P:List Str} {vs:List Value} {i:Nat} {m:Str→Option Value},P.Nodup→P[i]? = some x→vs[i]? = some v→kindOf x≠some .local →
  bindC kindOf (P.zip vs) m x=some v
 |[],_,_,_,_,h,_,_=>by simp at h
 |_::_,[],_,_,_,_,h,_=>by simp at h
 |p::P,w::vs,0,m,nd,h1,h2,hk=>by
  simp at h1 h2;subst h1;subst h2
  show bindC kindOf ((p,w)::P.zip vs) m p=_
  unfold bindC
  rw[tI fun v hv=>(List.nodup_cons.mp nd).1 (List.of_mem_zip hv).1,if_neg hk]
  simp
 |p::P,w::vs,i+1,m,nd,h1,h2,hk=>by
  show bindC kindOf ((p,w)::P.zip vs) m x=_
  unfold bindC
  exact tH (i:=i) (List.nodup_cons.mp nd).2 (by simpa using h1) (by simpa using h2) hk
def xO (N:List Str)(vs:List V):St:=vs.map some++List.replicate (N.length-vs.length) none
def mB (CX:CXT)(P:Program)(w:World)(K:PySem.W.Frag)(mg:Str→Option Value)(base:Heap)(N:List Str)(qual:Str)(scope:Scope)(f:Addr)(cd:Value)(A:Around)(outer:List Env)(s:Shared)(H:Hp)(E:XK):Cx where
 prog:=P
 w:=w
 K:=K
 mg:=mg
 base:=base
 A:=A.deeper (envOfC qual scope s.heap.objs.size f cd)
 N:=N
 s₀:=s
 H₀:=H
 env:=envOfC qual scope s.heap.objs.size f cd
 outer:=outer
 stack:=envOfC qual scope s.heap.objs.size f cd::outer
 ex:=[]
 calm:=true
 fn:=fun _=>true
 pn:=[]
 xe:=fun e s'=>wpAny (model P w) (A.deeper (envOfC qual scope s.heap.objs.size f cd)) (leaving (envOfC qual scope s.heap.objs.size f cd) e) (fun _ s''=>CX outer H s E e s'') (fun e' s''=>CX outer H s E e' s'') s'
theorem lF {sc:Scope}{n:Nat}{x:Str}(h:sc.names.lookup x=some .cell):∃ c,(cellsFrom n sc.names []).lookup x=some c:=by
 have q:=PySem.W.cellsFrom_some sc.names n [] (.inl h)
 exact Option.isSome_iff_exists.mp q
theorem tU {CX:CXT}{P:Program}{w:World}{K:PySem.W.Frag}{mg:Str→Option Value}{base:Heap}{N ps:List Str}{qual:Str}{scope:Scope}{f:Addr}{cd:Value}{A:Around}{outer:List Env}{s s1:Shared}{H:Hp}{E:XK}{us:List Value}{vs:List V}
  (S:FnScope N ps scope) (hd:A.handled=none) (e0:Env0 P w K mg base A outer s H) (hl:vs.length=ps.length) (r:qN vs us)
  (x:InCallC s s.heap.objs.size (bindL (envOfC qual scope s.heap.objs.size f cd).kindOf (ps.zip us) fun _=>none) (cellsFrom (s.heap.objs.size+1) scope.names []) (bindC (envOfC qual scope s.heap.objs.size f cd).kindOf (ps.zip us) fun _=>none) s1) :
  Inv (mB CX P w K mg base N qual scope f cd A outer s H E) [] (xO N vs) H s1:=by
 have hpl:ps.length≤N.length:=by have:=congrArg List.length S.pre;rw[List.length_take] at this;omega
 obtain⟨h1,tk,rfl,hk⟩:=x.done
 have noA:∀ b:Addr,b ∉ (mB CX P w K mg base N qual scope f cd A outer s H E).ex:=fun b z=>absurd (show b∈([]:List Addr) from z) (by simp)
 refine⟨⟨e0.mod,S.kind,rfl,rfl,Nat.le_refl _,fun y z c h1 h2=>?_,fun y hy=>?_,fun y c _ h=>?_,fun _=>hd,Around.frames_deeper e0.frames,.inr ⟨rfl,rfl⟩,fun b z=>absurd z (noA b),e0.bs,e0.bsz,fun b _ _=>noA b,fun b z=>absurd z (noA b),e0.funs,e0.frf⟩,
  rfl,e0.bare,Un.kept hk,⟨_,x.toInCall.ns,fun i y v h1 h2 h3=>?_⟩,fun y c h=>⟨_,x.cell y c h⟩,e0.hok.fresh (Nat.le_refl _),fun y c h=>?_,fun p hp=>absurd (show p∈([]:List (Addr × Obj)) from hp) (by simp),e0.hok.kept hk,?_⟩
 ·exact name_of_addr x.apart (PySem.mem_of_lookup h1) (PySem.mem_of_lookup h2)
 ·have hy:scope.names.lookup y=some .cell∨scope.names.lookup y=some .free:=hy
  rcases hy with hy|hy
  ·exact lF hy
  ·exact absurd rfl (S.nofree _ (PySem.mem_of_lookup hy))
 ·exact Nat.le_of_lt (x.above y c (PySem.mem_of_lookup h))
 ·have hi:i<vs.length:=by
   unfold xO at h2
   by_cases hi:i<vs.length
   ·exact hi
   ·rw[List.getElem?_append_right (by simpa using hi)] at h2
    rw[List.getElem?_replicate] at h2
    split at h2 <;> cases h2
  have ha:vs[i]? = some v:=by
   unfold xO at h2
   rw[List.getElem?_append_left (by simpa using hi),List.getElem?_map] at h2
   cases e:vs[i]? with
   |none=>rw[e] at h2;cases h2
   |some a=>rw[e] at h2;cases h2;rfl
  obtain⟨u,hu,rv⟩:=r.get ha
  have hp:ps[i]? = some y:=by
   rw[← S.pre,List.getElem?_take_of_lt (by omega)];exact h1
  have ndP:ps.Nodup:=by rw[← S.pre];exact S.nd.sublist (List.take_sublist _ _)
  refine⟨u,rv,?_⟩
  rcases S.par y (List.mem_of_getElem? hp) with k|k
  ·exact .inl ⟨k,tJ ndP hp hu k⟩
  ·obtain⟨c,e⟩:=lF (n:=s.heap.objs.size+1) k
   refine .inr ⟨.inl k,c,e,?_⟩
   have q:=x.cell y c e
   rw[tH ndP hp hu (by show scope.names.lookup y≠_;rw[k];decide)] at q
   exact q
 ·exact e0.hok.fresh (Nat.le_of_lt (x.above y c (PySem.mem_of_lookup h)))
 ·unfold xO
  show _=N.length
  rw[List.length_append,List.length_map,List.length_replicate]
  omega
theorem NK {CX:CXT}{P:Program}{w:World}{K:PySem.W.Frag}{mg:Str→Option Value}{base:Heap}{k:Nat}{f:Addr}{name qual:Str}{params:Arguments}{body:List Stmt}{scope:Scope}{dV kV doc pm cdv ct oc:Value}{an od:Option Addr}
  {osl:Array (Option Value)} {N ps:List Str} {sp:Sp} (lk:K.lookup f=some ⟨oc,od,.func (PySem.W.fnOf name qual params body scope dV kV doc pm an cdv ct),osl⟩) (hcd:PySem.W.codeIn K cdv qual=true) (S:FnScope N ps scope)
  (len:∀ vs H Q E,sp vs H Q E→vs.length=ps.length)
  (hbody:∀ (A:Around) (outer:List Env) (s:Shared) (H:Hp) (vs:List V) (Q:VK) (E:XK),Room k (A.deeper (envOfC qual scope s.heap.objs.size f cdv))→sp vs H Q E →
   ∃ t,PSs (mB CX P w K mg base N qual scope f cdv A outer s H E) body t∧t { nx:=fun _ H'=>Q .non H',rt:=Q } (xO N vs) H) :
  FnOk P w K mg base CX (k+1) f (PySem.W.fnOf name qual params body scope dV kV doc pm an cdv ct) ps sp:=by
 refine⟨len,fun A outer s H args us vs Q E hr e0 hb r hsp=>?_⟩
 have hl:=len _ _ _ _ hsp
 have KX:K.In s.heap:=e0.mod.kin.keeps fun b o e=>(e0.bs b o e).1
 have lim:s.heap.NoLimit:=e0.mod.nolimit.keeps fun b o e=>(e0.bs b o e).1
 have hkind:∀ y∈ps.zip us,scope.names.lookup y.1=some .local ∨ (scope.names.lookup y.1=some .cell∧((cellsFrom (s.heap.objs.size+1) scope.names []).lookup y.1).isSome=true):=fun ⟨n,v⟩ hy=>by
  rcases S.par n (List.of_mem_zip hy).1 with q|q
  ·exact .inl q
  ·exact .inr ⟨q,PySem.W.cellsFrom_some _ _ _ (.inl q)⟩
 refine codeAny_call_function hr.depth (KX _ _ lk) rfl S.co S.gen rfl (PySem.W.codeRec_of KX hcd) (hb _ _ _ _ ?_)
 refine wpAny_newFunctionEnv_cells S.kind hkind fun env he s1 x=>?_
 subst he
 refine⟨lim.keeps x.toInCall.keep,codeAny_func ?_⟩
 obtain⟨t,ht,hq⟩:=hbody A outer s H vs Q E (hr.deeper _) hsp
 have I:Inv (mB CX P w K mg base N qual scope f cdv A outer s H E) [] (xO N vs) H s1:=tU S hr.hd e0 hl r x
 refine wpAny_mono (ht [] s1 (xO N vs) H _ I hq) (fun fl s' hs=>?_) fun e s' hs=>hs
 have fin:∀ {σ' : St} {H':Hp} {v:V} {u:Value},Inv (mB CX P w K mg base N qual scope f cdv A outer s H E) [] σ' H' s'→qK v u→Q v H'→CE outer P w H s Q u s':=
  fun {σ' H' v u} J rv q=>⟨v,H',J.os,J.bare,J.base,J.hok,rv,q⟩
 cases fl with
 |ret u =>
  obtain⟨v,σ',H',J,rv,q⟩:=hs
  exact fin J rv q
 |next =>
  obtain⟨σ',H',J,q⟩:=hs
  exact fin (v:=V.non) (u:=Value.none) J rfl q
 |brk =>
  obtain⟨_,_,_,q⟩:=hs
  exact False.elim q
 |cont =>
  obtain⟨_,_,_,q⟩:=hs
  exact False.elim q
end _L
namespace _H
open PySem PyProof.Rows
def lexLt:List Int→List Int→Bool
 |[],[]=>false
 |[],_::_=>true
 |_::_,[]=>false
 |x::xs,y::ys=>if x=y then lexLt xs ys else decide (x<y)
theorem lexLt_cons (x y:Int)(xs ys:List Int):lexLt (x::xs) (y::ys)=if x=y then lexLt xs ys else decide (x<y):=rfl
theorem lexLt_nil_nil:lexLt [] []=false:=rfl
theorem lexLt_nil_cons (y:Int)(ys:List Int):lexLt [] (y::ys)=true:=rfl
theorem lexLt_cons_nil (x:Int)(xs:List Int):lexLt (x::xs) [] = false:=rfl
theorem eqAt_int (A:Around)(s:Shared)(a:Int)(t:Tok)(c:Int)(u:Tok):∃ e,SeqAt.EqAt A s (.int a t) (.int c u) e∧(e=true↔a=c):=
 ⟨(a == c),SeqAt.EqAt.int_int a t c u,by simp⟩
section
variable {prog:Program}{w:World}{A:Around}{E:Value→Shared→Prop}{s:Shared}
theorem cat_tup {t b:Addr}{vs ws:List Value}{Q:Value→Shared→Prop}(ht:IsTup s.heap t vs.toArray)(hb:IsTup s.heap b ws.toArray)(hv:vs≠[])
  (h1:ws=[]→Q (.ref t) s) (h2:ws≠[]→Q (.ref s.heap.objs.size) { s with heap:=s.heap.push { cls:=.type "tuple",data:=.seq (vs++ws).toArray } })
  (hsz:vs.length+ws.length≤sizeLine):wpAny (model prog w) A (binaryOp .Add (.ref t) (.ref b)) Q E s:=by
 obtain⟨⟨cls,dd,data,sl⟩,ho,hc,n,hd⟩:=id ht
 obtain⟨⟨cls2,dd2,data2,sl2⟩,ho2,hc2,n2,hd2⟩:=id hb
 simp only at hc hd hc2 hd2
 subst hc hd hc2 hd2
 have e:vs.toArray++ws.toArray=(vs++ws).toArray:=by simp
 by_cases hw:ws=[]
 ·exact concat_meets ⟨_,ho,rfl⟩ ⟨_,ho2,rfl⟩ noFill_tuple_add seq_tuple_add PySem.F.slot_tuple_add PySem.F.entry_tuple_add (PySem.F.args_tuple_add_2 _ _)
   (tuple_addW1 t b vs.toArray ws.toArray n n2 dd dd2 sl sl2 (by simpa using hv) (by simp[hw])) ⟨ho,ho2,h1 hw⟩
 ·refine concat_meets ⟨_,ho,rfl⟩ ⟨_,ho2,rfl⟩ noFill_tuple_add seq_tuple_add PySem.F.slot_tuple_add PySem.F.entry_tuple_add (PySem.F.args_tuple_add_2 _ _)
   (tuple_addW2 t b vs.toArray ws.toArray n n2 dd dd2 sl sl2 (by simpa using hv) (by simpa using hw) (by rw[List.size_toArray,List.size_toArray];exact hsz)) ⟨ho,ho2,?_⟩
  rw[e]
  exact h2 hw
def sIx (n d:Nat):Option Int→Nat
 |none=>d
 |some v=>if v<0 then (v+(n:Int)).toNat else min v.toNat n
theorem sIx_none (n d:Nat):sIx n d none=d:=rfl
theorem sIx_nat (n d k:Nat):sIx n d (some (k:Int))=min k n:=by
 show (if (k:Int)<0 then ((k:Int)+(n:Int)).toNat else min (k:Int).toNat n)=min k n
 rw[if_neg (by omega),Int.toNat_natCast]
theorem MW (n d:Nat)(hd:d≤n)(o:Option Int):sIx n d o≤n:=by
 cases o with
 |none=>exact hd
 |some v =>
  show (if v<0 then (v+(n:Int)).toNat else min v.toNat n)≤n
  by_cases hv:v<0
  ·rw[if_pos hv];omega
  ·rw[if_neg hv];exact Nat.min_le_right _ _
theorem r8 (v:Int)(n d:Nat):(if v<0 then max (v+(n:Int)) 0 else min v (n:Int))=((sIx n d (some v):Nat):Int):=by
 show (if v<0 then max (v+(n:Int)) 0 else min v (n:Int))=(((if v<0 then (v+(n:Int)).toNat else min v.toNat n):Nat):Int)
 by_cases hv:v<0
 ·simp only[if_pos hv];omega
 ·simp only[if_neg hv];omega
theorem cA (lo hi:Option Int)(n:Nat):Builtin.Slice.sliceAdjust lo hi 1 (n:Int)=(((sIx n 0 lo:Nat):Int),((sIx n n hi:Nat):Int)):=by
 have h1:¬ ((1:Int)<0):=by omega
 unfold Builtin.Slice.sliceAdjust
 simp only[h1,if_false]
 refine Prod.ext ?_ ?_
 ·cases lo with
  |none=>rfl
  |some v=>exact r8 v n 0
 ·cases hi with
  |none=>rfl
  |some v=>exact r8 v n n
theorem cV (i j:Nat):Builtin.Slice.slicePlaces (i:Int) (j:Int) 1=j-i:=by
 unfold Builtin.Slice.slicePlaces
 have h1:(1:Int)>0:=by omega
 simp only[h1,if_true,Int.ediv_one]
 split <;> omega
theorem fU {v:Value}{o:Option Int}{Q:Option Int→Shared→Prop}(p:IsPart v o)(h:Q o s):wpAny (model prog w) A (Builtin.Slice.slicePartIndex v) Q E s:=by
 cases p with
 |none=>exact slicePart_none h
 |int i t=>exact slicePart_int h
theorem uZ {sl:Addr}{vl vu:Value}{lo hi:Option Int}{n:Nat}{Q:Int × Int × Nat→Shared→Prop}(hs:s.heap.IsSliceOf sl vl vu .none)(pl:IsPart vl lo)(pu:IsPart vu hi)
  (h:Q (((sIx n 0 lo:Nat):Int),1,sIx n n hi-sIx n 0 lo) s):wpAny (model prog w) A (Builtin.Slice.sliceApplied (.ref sl) (pure (n:Int))) Q E s:=by
 obtain⟨os,hos,hcs,hds⟩:=id hs
 unfold Builtin.Slice.sliceApplied Builtin.Slice.sliceFields
 refine wpAny_bind (wpAny_bind (wpAny_field hos hds (x:=vl) rfl (wpAny_bind (wpAny_field hos hds (x:=vu) rfl (wpAny_bind (wpAny_field hos hds (x:=.none) rfl (wpAny_pure ?_)))))))
 refine wpAny_bind (slicePart_none ?_)
 show wpAny _ _ (if ((1:Int) == 0)=true then _ else _) _ _ s
 rw[if_neg (by decide)]
 refine wpAny_bind (fU pl (wpAny_bind (fU pu (wpAny_bind (wpAny_pure ?_)))))
 show wpAny _ _ (match Builtin.Slice.sliceAdjust lo hi 1 (n:Int) with|(lo,hi)=>pure (lo,(1:Int),Builtin.Slice.slicePlaces lo hi 1)) _ _ s
 rw[cA lo hi n]
 show wpAny _ _ (pure (((sIx n 0 lo:Nat):Int),(1:Int),Builtin.Slice.slicePlaces ((sIx n 0 lo:Nat):Int) ((sIx n n hi:Nat):Int) 1)) _ _ s
 rw[cV]
 exact wpAny_pure h
theorem XT (xs:Array Value)(i k:Nat):((List.range k).filterMap fun (m:Nat)=>xs[((i:Int)+(m:Int)*1).toNat]?).toArray=((xs.toList.drop i).take k).toArray:=by
 have e:(fun (m:Nat)=>xs[((i:Int)+(m:Int)*1).toNat]?)=fun m=>xs[i+m]?:=by
  funext m
  have:((i:Int)+(m:Int)*1).toNat=i+m:=by omega
  rw[this]
 rw[e]
 have:=pick_run xs i k
 rw[List.filterMap_map] at this
 have e2:((fun x=>xs[x]?)∘fun x=>i+x)=fun m=>xs[i+m]?:=rfl
 rw[e2] at this
 rw[this]
theorem getItem_tuple_cut {t sl:Addr}{items:Array Value}{vl vu:Value}{lo hi:Option Int}{Q:Value→Shared→Prop}(ht:IsTup s.heap t items)(hs:s.heap.IsSliceOf sl vl vu .none)(pl:IsPart vl lo)(pu:IsPart vu hi)
  (hw:¬ (sIx items.size 0 lo=0∧sIx items.size items.size hi=items.size))
  (h:Q (.ref s.heap.objs.size) { s with heap:=s.heap.push { cls:=.type "tuple",data:=.seq ((items.toList.drop (sIx items.size 0 lo)).take (sIx items.size items.size hi-sIx items.size 0 lo)).toArray } })
  (hsz:items.size≤sizeLine):wpAny (model prog w) A (getItem (.ref t) (.ref sl)) Q E s:=by
 have htake:sizeOk (.seq ((items.toList.drop (sIx items.size 0 lo)).take (sIx items.size items.size hi-sIx items.size 0 lo)).toArray):=by
  show ((items.toList.drop (sIx items.size 0 lo)).take (sIx items.size items.size hi-sIx items.size 0 lo)).toArray.size≤sizeLine
  rw[List.size_toArray,List.length_take,List.length_drop,Array.length_toList]
  omega
 have hj:sIx items.size items.size hi≤items.size:=MW _ _ (Nat.le_refl _) hi
 obtain⟨os,hos,hcs,hds⟩:=id hs
 have hTs:s.TypeIs (.ref sl) "slice":=⟨os,hos,hcs⟩
 unfold getItem
 try with_reducible refine wpAny_holding ?_
 first|refine wpAny_bind (wpAny_pure ?_)|skip
 refine wpAny_bind (wpAny_sequenceKey ht.typeIs (by decide) ?_)
 refine wpAny_bind (wpAny_callSpecial?_slot (name:=Str.ofString "__getitem__") ht.typeIs PyProof.Rows.slot_tuple_getitem
  (wpAny_call_entry PyProof.Rows.slot_tuple_getitem ht.typeIs entry_tuple_getitem ?_ (args_tuple_getitem _ _)))
 show wpAny _ _ (Builtin.Tuple.tupleItemsOf (.ref t) >>= _) _ _ s
 refine wpAny_bind (tupleItemsOf_ ht ?_)
 refine wpAny_bind (wpAny_typeOf hTs ?_)
 rw[if_pos (by decide)]
 refine wpAny_bind (uZ hs pl pu ?_)
 have hno:¬ ((((sIx items.size 0 lo:Nat):Int) == 0&&(1:Int) == 1&&(sIx items.size items.size hi-sIx items.size 0 lo) == items.size)=true):=by
  intro q
  rw[Bool.and_eq_true,Bool.and_eq_true] at q
  have q1:((sIx items.size 0 lo:Nat):Int)=0:=eq_of_beq q.1.1
  have q2:sIx items.size items.size hi-sIx items.size 0 lo=items.size:=eq_of_beq q.2
  exact hw ⟨by omega,by omega⟩
 show wpAny _ _ (if (((sIx items.size 0 lo:Nat):Int) == 0&&(1:Int) == 1&&(sIx items.size items.size hi-sIx items.size 0 lo) == items.size)=true then _ else _) _ _ s
 rw[if_neg hno,XT]
 first
  |exact wpAny_bind (m:=Builtin.Tuple.tupleExact _) (wpAny_newObj_type (wpAny_pure ⟨_,rfl,wpAny_pure h⟩) htake)
  |exact wpAny_bind (m:=Builtin.Tuple.tupleExact _) (wpAny_newObj_type (wpAny_bind (wpAny_pure (wpAny_pure ⟨_,rfl,wpAny_pure h⟩))) htake)
  |exact wpAny_bind (wpAny_bind (m:=Builtin.Tuple.tupleExact _) (wpAny_newObj_type (wpAny_pure (wpAny_pure ⟨_,rfl,wpAny_pure h⟩)) htake))
  |exact wpAny_bind (wpAny_bind (m:=Builtin.Tuple.tupleExact _) (wpAny_newObj_type (wpAny_pure ⟨_,rfl,wpAny_pure h⟩) htake))
end
end _H
namespace _L
open PySem PySem.Spec PyProof.Rows
abbrev TO:=St→Hp→(Option Int→Hp→Prop)→Prop
def PO (X:Cx)(e:Option Expr)(t:TO):Prop:=
 ∀ (pins:List (Addr × Obj)) (s:Shared) (σ : St) (H:Hp) (Q:Option Int→Hp→Prop),Inv X pins σ H s→t σ H Q →
  wpAny (model X.prog X.w) X.A (evalPart e X.env) (fun u s'=>∃ o H',Inv X pins σ H' s'∧IsPart u o∧Q o H') X.xe s
def K2:TO:=fun _ H Q=>Q none H
def D7 (t:TE):TO:=fun σ H Q=>t σ H fun x H1=>∃ i,x=.int i∧Q (some i) H1
theorem cL {ns:List Int}:∀ {us:List Value},qN (ns.map V.int) us→IntsAre us ns:=by
 induction ns with
 |nil=>intro us r;rw[List.map_nil] at r;cases r;exact .nil
 |cons n ns ih =>
  intro us r
  rw[List.map_cons] at r
  cases r with
  |cons r1 r2 =>
   obtain⟨t,e⟩:=r1
   subst e
   exact .cons n t (ih r2)
section
variable {X:Cx}{e:Expr}{te:TE}{lo hi:Option Expr}{tl th:TO}{pos p2:Pos}
theorem UZ:PO X none K2:=by
 intro pins s σ H Q I h
 rw[evalPart_none]
 exact wpAny_pure ⟨none,H,I,.none,h⟩
theorem J0 (h:PE X e te):PO X (some e) (D7 te):=by
 intro pins s σ H Q I hw
 rw[evalPart_some]
 refine thn (h pins s σ H _ I hw) fun u s1 ⟨x,H1,I1,r1,q1⟩=>?_
 obtain⟨i,rfl,q⟩:=q1
 obtain⟨t,rfl⟩:=r1
 exact⟨some i,H1,I1,.int i t,q⟩
def SlR (X:Cx)(r:V→Option Int→Option Int→Hp→VK→Prop):Prop:=
 ∀ (pins:List (Addr × Obj)) (s:Shared) (σ : St) (H:Hp) (x:V) (v vl vu:Value) (lo hi:Option Int) (sl:Addr) (Q:VK),Inv X pins σ H s→qK x v→s.heap.IsSliceOf sl vl vu .none→IsPart vl lo→IsPart vu hi→r x lo hi H Q →
  ∃ T id,typeLookup (.type T) "__getitem__" = pure (some (.builtin id))∧s.TypeIs v T∧wpAny (model X.prog X.w) X.A (getItem v (.ref sl)) (EP X pins σ Q) X.xe s
theorem SlR.or {r r':V→Option Int→Option Int→Hp→VK→Prop}(h:SlR X r)(h':SlR X r'):SlR X (fun x lo hi H Q=>r x lo hi H Q∨r' x lo hi H Q):=by
 intro pins s σ H x v vl vu lo hi sl Q I rx hs pl pu q
 rcases q with q|q
 ·exact h pins s σ H x v vl vu lo hi sl Q I rx hs pl pu q
 ·exact h' pins s σ H x v vl vu lo hi sl Q I rx hs pl pu q
def tSl (r:V→Option Int→Option Int→Hp→VK→Prop)(te:TE)(tl th:TO):TE:=fun σ H Q=>te σ H fun x H1=>tl σ H1 fun l H2=>th σ H2 fun u H3=>r x l u H3 Q
theorem XR {r:V→Option Int→Option Int→Hp→VK→Prop}(hr:SlR X r)(he:PE X e te)(hl:PO X lo tl)(hu:PO X hi th):PE X (.Subscript e (.Slice lo hi none p2) pos) (tSl r te tl th):=by
 intro pins s σ H Q I h
 refine Subscript_ (thn (he pins s σ H _ I h) fun v s1 ⟨x,H1,I1,r1,q1⟩=>?_)
 refine wpAny_Slice (thn (hl pins s1 σ H1 _ I1 q1) fun vl s2 ⟨l,H2,I2,pl,q2⟩=>thn (hu pins s2 σ H2 _ I2 q2) fun vu s3 ⟨u,H3,I3,pu,q3⟩=>?_)
 rw[evalPart_none]
 refine wpAny_pure ?_
 have I4:Inv X pins σ H3 { s3 with heap:=s3.heap.push { cls:=.type "slice",data:=.fields #[vl,vu,.none] } }:=I3.kept (t':=s3.toks) fun b ob q=>Heap.get?_push_of_some _ q
 obtain⟨T,id,hT,ht,hg⟩:=hr pins { s3 with heap:=s3.heap.push { cls:=.type "slice",data:=.fields #[vl,vu,.none] } } σ H3 x v vl vu l u s3.heap.objs.size Q I4 r1 (Heap.IsSliceOf.new ..) pl pu q3
 show wpAny (model X.prog X.w) X.A (subscriptTail e (.Slice lo hi none p2) v (.ref s3.heap.objs.size)) (EP X pins σ Q) X.xe { s3 with heap:=s3.heap.push { cls:=.type "slice",data:=.fields #[vl,vu,.none] } }
 exact tail_any (ops:=[.ref s3.heap.objs.size,v]) ht hT hg (by with_unfolding_all rfl)
def gW (xs:List V)(lo hi:Option Int):List V:=(xs.drop (_H.sIx xs.length 0 lo)).take (_H.sIx xs.length xs.length hi-_H.sIx xs.length 0 lo)
theorem bC (xs:List V)(lo hi:Option Int):(gW xs lo hi).length≤xs.length:=by
 unfold gW
 rw[List.length_take,List.length_drop]
 omega
def R8 (K:PySem.W.Frag):V→Option Int→Option Int→Hp→VK→Prop:=fun x lo hi H Q=>∃ a xs,x=.ref a∧SqT K H a xs ∧
 ¬ (_H.sIx xs.length 0 lo=0∧_H.sIx xs.length xs.length hi=xs.length)∧∀ p,H p=none→Q (.ref p) (upd H p (.tup (gW xs lo hi)))
theorem T4:SlR X (R8 X.K):=by
 intro pins s σ H x v vl vu lo hi sl Q I rx hs pl pu h
 obtain⟨a,xs,rfl,hx,hw,q⟩:=h
 cases rx
 obtain⟨its,r,ht,hz⟩:=I.tuple hx
 have hlen:its.toArray.size=xs.length:=by rw[List.size_toArray];exact r.length.symm
 refine⟨"tuple",_,PyProof.Rows.slot_tuple_getitem.lookup,ht.typeIs,?_⟩
 refine _H.getItem_tuple_cut ht hs pl pu (by rw[hlen];exact hw) ?_ (by rw[hlen];exact hz)
 rw[hlen]
 refine⟨.ref s.heap.objs.size,_,I.laid (t':=s.toks) (o:=.tup (gW xs lo hi)) (fun b ob q=>Heap.get?_push_of_some _ q) (Nat.le_refl _) ?_,rfl,q _ (I.hok.fresh (Nat.le_refl _))⟩
 exact⟨Nat.le_trans (bC xs lo hi) hz,_,(r.drop (_H.sIx xs.length 0 lo)).take (_H.sIx xs.length xs.length hi-_H.sIx xs.length 0 lo),IsTup.new _ _⟩
end
end _L
namespace _L
open PySem PySem.Spec PyProof.Rows
def ixN (n:Nat)(i:Int):Option Nat:=if 0≤i then (if i<n then some i.toNat else none) else if -(n:Int)≤i then some (i+n).toNat else none
def atI {α : Type}(xs:List α)(i:Int):Option α:=(ixN xs.length i).bind fun j=>xs[j]?
theorem rQ {n:Nat}{i:Int}{j:Nat}(h:ixN n i=some j):seqIndex? i n=some j∧j<n ∧ -(n:Int)≤i∧i<n:=by
 unfold ixN at h
 by_cases h0:0≤i
 ·rw[if_pos h0] at h
  by_cases h1:i<n
  ·rw[if_pos h1] at h
   have e:i.toNat=j:=Option.some.inj h
   exact⟨by rw[seqIndex_of h0 h1,e],by omega,by omega,h1⟩
  ·rw[if_neg h1] at h;cases h
 ·rw[if_neg h0] at h
  by_cases h1 : -(n:Int)≤i
  ·rw[if_pos h1] at h
   have e:(i+n).toNat=j:=Option.some.inj h
   exact⟨by rw[seqIndex_neg (by omega) h1,e],by omega,h1,by omega⟩
  ·rw[if_neg h1] at h;cases h
theorem r0 {α : Type}{xs:List α}{i:Int}{v:α}(h:atI xs i=some v):∃ j,seqIndex? i xs.length=some j∧xs[j]? = some v∧j<xs.length ∧ -(xs.length:Int)≤i∧i<xs.length:=by
 unfold atI at h
 cases e:ixN xs.length i with
 |none=>rw[e] at h;cases h
 |some j =>
  rw[e] at h
  obtain⟨h1,h2,h3,h4⟩:=rQ e
  exact⟨j,h1,h,h2,h3,h4⟩
def m6 (b:Expr):Prop:=∀ o i,subscripted b false o i=operate [o,i] (getItem o i)
def IxR (X:Cx)(r:R2):Prop:=
 ∀ (value slice:Expr) (pins:List (Addr × Obj)) (s:Shared) (σ : St) (H:Hp) (x y:V) (v u:Value) (Q:VK),Inv X pins σ H s→qK x v→qK y u→r x y H Q →
  subscripted slice false v u=operate [v,u] (getItem v u)→wpAny (model X.prog X.w) X.A (subscriptTail value slice v u) (EP X pins σ Q) X.xe s
def MtR (X:Cx)(id:String)(r:V→List V→Hp→VK→Prop):Prop:=
 ∀ (pins:List (Addr × Obj)) (s:Shared) (σ : St) (H:Hp) (x:V) (xs:List V) (v:Value) (us:List Value) (Q:VK),Inv X pins σ H s→qK x v→qN xs us→r x xs H Q →
  wpAny (model X.prog X.w) X.A (call (.builtin id) (v::us)) (EP X pins σ Q) X.xe s
section
variable {X:Cx}{a b:Expr}{ta tb:TE}{pos:Pos}
theorem IxR.or {r r':R2}(h:IxR X r)(h':IxR X r'):IxR X (fun x y H Q=>r x y H Q∨r' x y H Q):=by
 intro value slice pins s σ H x y v u Q I rx ry q hs
 rcases q with q|q
 ·exact h value slice pins s σ H x y v u Q I rx ry q hs
 ·exact h' value slice pins s σ H x y v u Q I rx ry q hs
theorem MtR.or {id:String}{r r':V→List V→Hp→VK→Prop}(h:MtR X id r)(h':MtR X id r'):MtR X id (fun x xs H Q=>r x xs H Q∨r' x xs H Q):=by
 intro pins s σ H x xs v us Q I rx rs q
 rcases q with q|q
 ·exact h pins s σ H x xs v us Q I rx rs q
 ·exact h' pins s σ H x xs v us Q I rx rs q
theorem LH {r:R2}(hr:IxR X r)(ha:PE X a ta)(hb:PE X b tb)(hs:m6 b):PE X (.Subscript a b pos) (tOp r ta tb):=by
 intro pins s σ H Q I h
 exact Subscript_ (SE ha hb I h fun v u s2 x y H2 I2 rx ry q=>hr a b pins s2 σ H2 x y v u Q I2 rx ry q (hs _ _))
def R4 (K:PySem.W.Frag):R2:=fun x y H Q=>∃ p xs i v,x=.ref p∧y=.int i∧SqL K H p xs∧atI xs i=some v∧Q v H
def R5 (K:PySem.W.Frag):R2:=fun x y H Q=>∃ p xs i v,x=.ref p∧y=.int i∧SqT K H p xs∧atI xs i=some v∧Q v H
theorem rR:IxR X (R4 X.K):=by
 intro value slice pins s σ H x y v u Q I rx ry h hs
 obtain⟨p,xs,i,z,rfl,rfl,hq,he,q⟩:=h
 cases rx
 obtain⟨t,rfl⟩:=ry
 obtain⟨its,r,pl,hz⟩:=I.list hq
 obtain⟨j,h1,h2,h3,h4,h5⟩:=r0 he
 obtain⟨w,ew,rw'⟩:=r.get h2
 have hl:=r.length
 have hn:=pG
 have fin:EP X pins σ Q w s:=⟨z,H,I,rw',q⟩
 by_cases h0:0≤i
 ·have hj:i.toNat=j:=by
   rw[seqIndex_of h0 h5] at h1
   exact Option.some.inj h1
  exact item_listR pl.isList h0 (by omega) (by rw[hj];simpa using ew) fin hs
 ·have hj:(i+(its.toArray.size:Int)).toNat=j:=by
   rw[seqIndex_neg (by omega) h4] at h1
   rw[List.size_toArray,← hl]
   exact Option.some.inj h1
  exact subscriptTail_builtinR (x:=w) pl.isList.typeIs slot_list_getitem.lookup
   (wpAny_getItem_list_neg (Q:=fun r s'=>r=w∧EP X pins σ Q r s') pl.isList (by omega) (by rw[List.size_toArray] <;> omega) (by omega) (by rw[hj];simpa using ew) ⟨rfl,fin⟩) hs
theorem BF:IxR X (R5 X.K):=by
 intro value slice pins s σ H x y v u Q I rx ry h hs
 obtain⟨p,xs,i,z,rfl,rfl,hq,he,q⟩:=h
 cases rx
 obtain⟨t,rfl⟩:=ry
 obtain⟨its,r,pl,hz⟩:=I.tuple hq
 obtain⟨j,h1,h2,h3,h4,h5⟩:=r0 he
 obtain⟨w,ew,rw'⟩:=r.get h2
 have hl:=r.length
 have hn:=pG
 have fin:EP X pins σ Q w s:=⟨z,H,I,rw',q⟩
 exact subscriptTail_builtinR (x:=w) pl.typeIs slot_tuple_getitem.lookup
  (getItem_tuple (j:=j) (Q:=fun r s'=>r=w∧EP X pins σ Q r s') pl (by omega) (by omega) (by rw[List.size_toArray,← hl];exact h1) (by simpa using ew) ⟨rfl,fin⟩) hs
theorem cQ (its:List Value)(n j:Nat)(u:Value):Obj.mapSeq (·.setIfInBounds j u) { cls:=.type "list",data:=.seq its.toArray n } = { cls:=.type "list",data:=.seq (its.set j u).toArray n }:=by
 simp[Obj.mapSeq]
theorem Inv.lst {pins:List (Addr × Obj)}{σ : St}{H:Hp}{s:Shared}{p:Addr}{xs:List V}(I:Inv X pins σ H s)(h:H p=some (.lst xs)) :
  ∃ (its:List Value) (n:Nat),qN xs its∧s.heap.get? p=some { cls:=.type "list",data:=.seq its.toArray n } ∧ xs.length≤sizeLine:=by
 obtain⟨z,its,n,r,e⟩:=I.hok p _ h
 exact⟨its,n,r,e,z⟩
theorem Inv.lstUpd {pins:List (Addr × Obj)}{σ : St}{H:Hp}{s:Shared}{p:Addr}{xs ys:List V}{its its':List Value}{n n':Nat}{f:Obj→Obj}(I:Inv X pins σ H s)(h:H p=some (.lst xs))
  (ho:s.heap.get? p=some { cls:=.type "list",data:=.seq its.toArray n }) (hf:f { cls:=.type "list",data:=.seq its.toArray n } = { cls:=.type "list",data:=.seq its'.toArray n' }) (r:qN ys its') (hz:ys.length≤sizeLine) (t:Nat) :
  Inv X pins σ (upd H p (.lst ys)) { s with heap:=s.heap.update p f,toks:=t }:=by
 have e:(s.heap.update p f).get? p=some { cls:=.type "list",data:=.seq its'.toArray n' }:=by
  rw[Heap.get?_update_self f ho (by rw[hf] <;> rfl),hf]
 refine I.write (x:=p) (e:=p) (by rw[h];trivial) (.inl rfl) (fun b u hb q=>(Heap.get?_update_other _ _ (Ne.symm hb)).trans q) ⟨_,e⟩ ?_
 exact⟨hz,its',n',r,e⟩
def LS:V→V→V→Hp→(Hp→Prop)→Prop:=fun o i v H Q=>∃ p xs k j,o=.ref p∧i=.int k∧H p=some (.lst xs)∧ixN xs.length k=some j∧Q (upd H p (.lst (xs.set j v)))
theorem WA:l7 X LS:=by
 intro pins s σ H o i v ov iv u Q I ro ri rv h
 obtain⟨p,xs,k,j,rfl,rfl,hp,hj,q⟩:=h
 cases ro
 obtain⟨t,rfl⟩:=ri
 obtain⟨its,n,r,ho,hz⟩:=I.lst hp
 obtain⟨h1,h2,h3,h4⟩:=rQ hj
 have hl:=r.length
 have hn:=pG
 have I':Inv X pins σ (upd H p (.lst (xs.set j v))) { s with heap:=s.heap.update p (Obj.mapSeq (·.setIfInBounds j u)) }:=
  I.lstUpd hp ho (cQ its n j u) (r.set rv j) (by rw[List.length_set];exact hz) s.toks
 by_cases h0:0≤k
 ·have hk:k.toNat=j:=by
   rw[seqIndex_of h0 h4] at h1
   exact Option.some.inj h1
  exact PySem.W.ki_setAt ho h0 (by omega) (by rw[List.size_toArray,← hl];exact h4) (by rw[hk];exact⟨_,I',q⟩)
 ·have hk:(k+(its.toArray.size:Int)).toNat=j:=by
   rw[seqIndex_neg (by omega) h3] at h1
   rw[List.size_toArray,← hl]
   exact Option.some.inj h1
  exact PySem.W.ki_setBack ho (by omega) (by rw[List.size_toArray,← hl];exact h3) (by omega) (by rw[hk];exact⟨_,I',q⟩)
theorem sE (lo hi:Option Int)(n:Nat):(sliceBounds lo hi none n).1=((_H.sIx n 0 lo:Nat):Int)∧(sliceBounds lo hi none n).2.1=((_H.sIx n n hi:Nat):Int)∧(sliceBounds lo hi none n).2.2=1:=by
 refine⟨?_,?_,rfl⟩
 ·cases lo with
  |none=>simp[sliceBounds,_H.sIx]
  |some i =>
   simp only[sliceBounds,_H.sIx,Option.getD_none,show (1:Int)>0 by decide,if_true]
   by_cases h:i<0
   ·simp only[h,if_true] <;> omega
   ·simp only[h,if_false] <;> omega
 ·cases hi with
  |none=>simp[sliceBounds,_H.sIx]
  |some i =>
   simp only[sliceBounds,_H.sIx,Option.getD_none,show (1:Int)>0 by decide,if_true]
   by_cases h:i<0
   ·simp only[h,if_true] <;> omega
   ·simp only[h,if_false] <;> omega
theorem nG (its:List Value)(lo hi:Option Int):slicePick its.toArray lo hi none=((its.drop (_H.sIx its.length 0 lo)).take (_H.sIx its.length its.length hi-_H.sIx its.length 0 lo)).toArray:=by
 obtain⟨h1,h2,h3⟩:=sE lo hi its.toArray.size
 unfold slicePick
 rw[h1,h2,h3]
 simp only[sliceRange_one,pick_run,List.size_toArray] <;> rfl
def R7 (K:PySem.W.Frag):V→Option Int→Option Int→Hp→VK→Prop:=fun x lo hi H Q=>∃ a xs,x=.ref a∧SqL K H a xs∧∀ p,H p=none→Q (.ref p) (upd H p (.lst (gW xs lo hi)))
theorem eY:SlR X (R7 X.K):=by
 intro pins s σ H x v vl vu lo hi sl Q I rx hs pl pu h
 obtain⟨a,xs,rfl,hx,q⟩:=h
 cases rx
 obtain⟨its,r,ht,hz⟩:=I.list hx
 have hlen:=r.length
 refine⟨"list",_,slot_list_getitem.lookup,ht.isList.typeIs,?_⟩
 refine wpAny_getItem_list_slice ht.isList hs pl pu .none (by simp) ?_ (by rw[List.size_toArray] <;> omega)
 rw[nG,← hlen]
 refine⟨.ref s.heap.objs.size,_,I.laid (t':=s.toks) (o:=.lst (gW xs lo hi)) (fun b ob q=>Heap.get?_push_of_some _ q) (Nat.le_refl _) ?_,rfl,q _ (I.hok.fresh (Nat.le_refl _))⟩
 exact⟨Nat.le_trans (bC xs lo hi) hz,_,0,(r.drop (_H.sIx xs.length 0 lo)).take (_H.sIx xs.length xs.length hi-_H.sIx xs.length 0 lo),Heap.get?_push_size _ rfl⟩
theorem pM.or {f:Value}{r r':List V→Hp→VK→Prop}(h:pM X f r)(h':pM X f r'):pM X f (fun xs H Q=>r xs H Q∨r' xs H Q):=by
 intro pins s σ H xs us Q I rs q
 rcases q with q|q
 ·exact h pins s σ H xs us Q I rs q
 ·exact h' pins s σ H xs us Q I rs q
def tyV (K:PySem.W.Frag)(T:String)(x:V)(H:Hp):Prop:=match x with
 |.str _=>T = "str"
 |.int _=>T = "int"
 |.ref p=>(T = "list" ∧ ∃ xs,SqL K H p xs)∨(T = "tuple" ∧ ∃ o,K.lookup p=some o∧o.cls=.type "tuple" ∧ o.dict=none) ∨
   (T = "dict" ∧ ((∃ kvs,H p=some (.dK kvs))∨∃ kvs,H p=some (.dT kvs)))∨(T = "set" ∧ ∃ S n,H p=some (.set S n))
 |_=>False
theorem TL {pins:List (Addr × Obj)}{σ : St}{H:Hp}{s:Shared}{T:String}{x:V}{v:Value}(I:Inv X pins σ H s)(r:qK x v)(ty:tyV X.K T x H) :
  s.TypeIs v T∧∀ a,v=.ref a→∃ ob,s.heap.get? a=some ob∧ob.dict=none:=by
 cases x with
 |str z =>
  obtain⟨t,rfl⟩:=r
  cases (show T = "str" from ty)
  exact⟨typeIs_str s z t,fun _ e=>nomatch e⟩
 |int i =>
  obtain⟨t,rfl⟩:=r
  cases (show T = "int" from ty)
  exact⟨typeIs_int s i t,fun _ e=>nomatch e⟩
 |ref p =>
  cases r
  rcases ty with⟨rfl,xs,hq⟩|⟨rfl,o,hk,hc,hd⟩|⟨rfl,hk⟩|⟨rfl,S,n,hk⟩
  ·obtain⟨its,_,pl,_⟩:=I.list hq
   refine⟨pl.isList.typeIs,fun a e=>?_⟩
   cases e
   obtain⟨o,n,e,c,hd,_⟩:=pl
   exact⟨o,e,hd⟩
  ·refine⟨⟨o,I.kIn p o hk,hc⟩,fun a e=>?_⟩
   cases e
   exact⟨o,I.kIn _ o hk,hd⟩
  ·have z:∃ o,s.heap.get? p=some o∧o.ExactDict:=by
    rcases hk with⟨kvs,hk⟩|⟨kvs,hk⟩
    ·obtain⟨_,_,_,_,o,_,_,e,ex,_⟩:=I.hok p _ hk
     exact⟨o,e,ex⟩
    ·obtain⟨_,_,_,_,o,_,_,e,ex,_⟩:=I.hok p _ hk
     exact⟨o,e,ex⟩
   obtain⟨o,e,ex⟩:=z
   refine⟨⟨o,e,ex.1⟩,fun a e2=>?_⟩
   cases e2
   exact⟨o,e,ex.2.1⟩
  ·obtain⟨o,_,_,_,e,ex,_⟩:=I.hok p _ hk
   refine⟨⟨o,e,ex.1⟩,fun a e2=>?_⟩
   cases e2
   exact⟨o,e,ex.2.1⟩
 |_=>exact False.elim ty
variable {o e:Expr}{es:List Expr}{to:TE}{t:TA}{name:Str}{apos cpos:Pos}{T id:String}{r:V→List V→Hp→VK→Prop}
/- xs.append(e),list.index on a module's tuple .. are MtR facts of 06m -/
end
end _L
namespace _L
open PySem PySem.Spec PyProof.Rows
def MtM (X:Cx)(id:String)(r:V→List V→Hp→VK→Prop):Prop:=
 ∀ (pins:List (Addr × Obj)) (s:Shared) (σ : St) (H:Hp) (x:V) (xs:List V) (v:Value) (us:List Value) (Q:VK),Inv X pins σ H s→qK x v→qN xs us→r x xs H Q →
  wpAny (model X.prog X.w) X.A (call (.builtin id) (v::us)) (EP X pins σ Q) X.xe s
theorem qN.one {x:V}{us:List Value}(h:qN [x] us):∃ u,us=[u]∧qK x u:=b8 h
theorem qN.two {x y:V}{us:List Value}(h:qN [x,y] us):∃ u v,us=[u,v]∧qK x u∧qK y v:=nY h
section
variable {X:Cx}{pins:List (Addr × Obj)}{σ : St}{H:Hp}{s:Shared}{l b:Addr}{xs ys zs:List V}
theorem Inv.lset {its its':List Value}{n:Nat}{f:Array Value→Array Value}{t':Nat}(I:Inv X pins σ H s)(hH:H l=some (.lst xs))
  (e:s.heap.get? l=some { cls:=.type "list",data:=.seq its.toArray n }) (hf:f its.toArray=its'.toArray) (hv:qN ys its') (hz:ys.length≤sizeLine) :
  Inv X pins σ (upd H l (.lst ys)) { s with heap:=s.heap.update l (Obj.mapSeq f),toks:=t' }:=by
 have q:=PySem.IsL.update e f
 rw[hf] at q
 refine I.write (x:=l) (e:=l) (by rw[hH];exact trivial) (.inl rfl) (fun b' u hb hu=>(Heap.get?_update_other s.heap (Obj.mapSeq f) (Ne.symm hb)).trans hu) ⟨_,q⟩ ?_
 exact⟨hz,its',_,hv,q⟩
theorem Inv.lstM (I:Inv X pins σ H s)(hH:H l=some (.lst xs)):xs.length≤sizeLine∧∃ (its:List Value) (n:Nat),qN xs its∧xs.length=its.length∧s.heap.get? l=some { cls:=.type "list",data:=.seq its.toArray n }:=by
 obtain⟨z,its,n,r,e⟩:=I.hok l _ hH
 exact⟨z,its,n,r,r.length,e⟩
theorem XN {n:Nat}(h:n≤sizeLine):Builtin.List.listTooLong n=false:=by
 unfold Builtin.List.listTooLong
 exact decide_eq_false (by omega)
end
section
variable {X:Cx}
def JL:V→List V→Hp→VK→Prop:=fun x vs H Q=>∃ l xs y,x=.ref l∧vs=[y]∧H l=some (.lst xs)∧xs.length<sizeLine∧Q .non (upd H l (.lst (xs++[y])))
theorem oA:MtM X "list.append" JL:=by
 intro pins s σ H x vs v us Q I rx rv h
 obtain⟨l,xs,y,rfl,rfl,hH,hz,q⟩:=h
 cases rx
 obtain⟨u,rfl,ru⟩:=rv.one
 obtain⟨z,its,n,r,hl,e⟩:=I.lstM hH
 refine call_meets F.slot_list_append ⟨_,e,rfl⟩ F.entry_list_append (F.args_list_append_2 _ _) (PySem.list_append l its.toArray n u (by rw[List.size_toArray];omega)) ⟨e,?_⟩
 refine⟨.non,_,I.lset (its':=its++[u]) hH e (by simp) (r.append (.cons ru .nil)) ?_,rfl,q⟩
 rw[List.length_append,List.length_singleton]
 omega
end
end _L
namespace _L
open PySem PySem.Spec PyProof.Rows
section
variable {κ : Type}[DecidableEq κ]
def yQ (kvs:List (κ × V))(k:κ):Option V:=(kvs.find? fun kv=>decide (kv.1=k)).map (·.2)
def yN (kvs:List (κ × V))(k:κ)(v:V):List (κ × V):=
 if (kvs.any fun kv=>decide (kv.1=k))=true then kvs.map (fun kv=>if kv.1=k then (kv.1,v) else kv) else kvs++[(k,v)]
theorem bZ {p:κ × V}{r:List (κ × V)}{k:κ}(e:p.1=k):yQ (p::r) k=some p.2:=by simp[yQ,List.find?_cons,e]
theorem bY {p:κ × V}{r:List (κ × V)}{k:κ}(e:¬ p.1=k):yQ (p::r) k=yQ r k:=by simp[yQ,List.find?_cons,e]
theorem sO (k:κ):∀ kvs:List (κ × V),(kvs.any fun kv=>decide (kv.1=k))=(yQ kvs k).isSome
 |[]=>rfl
 |p::r=>by
  rw[List.any_cons]
  by_cases e:p.1=k
  ·simp only[bZ e,decide_eq_true e,Bool.true_or,Option.isSome_some]
  ·rw[bY e,decide_eq_false e,Bool.false_or];exact sO k r
theorem jQ (kvs:List (κ × V))(k:κ)(v:V):(yN kvs k v).length≤kvs.length+1:=by
 unfold yN
 split
 ·rw[List.length_map];omega
 ·rw[List.length_append,List.length_cons,List.length_nil];omega
theorem kJ.isSome_eq {o:Option V}{u:Option Value}(r:kJ o u):o.isSome=u.isSome:=by
 cases o with
 |none=>cases u with
  |none=>rfl
  |some _=>exact(show False from r).elim
 |some _=>cases u with
  |none=>exact(show False from r).elim
  |some _=>rfl
theorem kJ.getD {o:Option V}{u:Option Value}{d:V}{d':Value}(r:kJ o u)(rd:qK d d'):qK (o.getD d) (u.getD d'):=by
 cases o with
 |none=>cases u with
  |none=>exact rd
  |some _=>exact(show False from r).elim
 |some _=>cases u with
  |none=>exact(show False from r).elim
  |some _=>exact r
theorem KV.val {kvs:List (κ × V)}{vs:List (κ × Value)}(r:KV kvs vs)(k:κ):kJ (yQ kvs k) (valueAt vs k):=by
 unfold KV at r
 induction r with
 |nil=>exact True.intro
 |@cons p q ps qs h t ih =>
  obtain⟨h1,h2⟩:=h
  by_cases e:p.1=k
  ·have e':q.1=k:=h1.symm.trans e
   have b:valueAt (q::qs) k=some q.2:=by simp[valueAt,List.find?_cons,e']
   rw[bZ e,b];exact h2
  ·have e':¬ q.1=k:=fun z=>e (h1.trans z)
   have b:valueAt (q::qs) k=valueAt qs k:=by simp[valueAt,List.find?_cons,e']
   rw[bY e,b];exact ih
theorem KV.any {kvs:List (κ × V)}{vs:List (κ × Value)}(r:KV kvs vs)(k:κ):(kvs.any fun kv=>decide (kv.1=k))=vs.any fun kv=>decide (kv.1=k):=by
 unfold KV at r
 induction r with
 |nil=>rfl
 |cons h t ih=>rw[List.any_cons,List.any_cons,ih,h.1]
theorem KV.repl {kvs:List (κ × V)}{vs:List (κ × Value)}(r:KV kvs vs)(k:κ){y:V}{u:Value}(ry:qK y u) :
  KV (kvs.map fun kv=>if kv.1=k then (kv.1,y) else kv) (vs.map fun kv=>if kv.1=k then (kv.1,u) else kv):=by
 unfold KV at r ⊢
 induction r with
 |nil=>exact .nil
 |@cons p q ps qs h t ih =>
  rw[List.map_cons,List.map_cons]
  refine .cons ?_ ih
  obtain⟨h1,h2⟩:=h
  by_cases e:p.1=k
  ·rw[if_pos e,if_pos (h1.symm.trans e)];exact⟨h1,ry⟩
  ·rw[if_neg e,if_neg (fun z=>e (h1.trans z))];exact⟨h1,h2⟩
theorem KV.put {kvs:List (κ × V)}{vs:List (κ × Value)}(r:KV kvs vs)(k:κ){y:V}{u:Value}(ry:qK y u):KV (yN kvs k y) (stored vs k u):=by
 unfold yN stored
 rw[r.any k]
 by_cases e:(vs.any fun kv=>decide (kv.1=k))=true
 ·rw[if_pos e,if_pos e];exact r.repl k ry
 ·rw[if_neg e,if_neg e];exact Paired.snoc r ⟨rfl,ry⟩
theorem KV.length {kvs:List (κ × V)}{vs:List (κ × Value)}(r:KV kvs vs):kvs.length=vs.length:=Paired.length r
end
theorem fK {P:Program}{w:World}{k:Key}{u:Value}(r:qK (kV k) u):(zX P w).is k u=true:=by
 cases k with
 |inl i=>obtain⟨t,e⟩:=(show ∃ t,u=Value.int i t from r);subst e;exact sS P w i t
 |inr x=>obtain⟨t,e⟩:=(show ∃ t,u=Value.str x t from r);subst e;exact sT P w x t
theorem tW {P:Program}{w:World}:∀ {ks:List Key} {us:List Value},qN (ks.map kV) us→ItemsAre (zX P w) ks us
 |[],_,r=>by rw[List.map_nil] at r;cases r;exact .nil
 |k::ks,_,r=>by
  rw[List.map_cons] at r
  cases r with
  |cons h t=>exact .cons (fK h) (tW t)
abbrev KT (H:Hp):List (List Key × V)→List (List Key × Addr × Value)→Prop:=Paired fun p q=>p.1=q.1∧H q.2.1=some (.tup (p.1.map kV))∧qK p.2 q.2.2
theorem KT.val {H:Hp}{kvs:List (List Key × V)}{xs:List (List Key × Addr × Value)}(r:KT H kvs xs)(k:List Key):kJ (yQ kvs k) ((atKey xs k).map (·.2)):=by
 induction r with
 |nil=>exact True.intro
 |@cons p q ps qs h t ih =>
  obtain⟨h1,_,h2⟩:=h
  by_cases e:p.1=k
  ·have e':q.1=k:=h1.symm.trans e
   have b:atKey (q::qs) k=some q.2:=by simp[atKey,List.find?_cons,e']
   rw[bZ e,b];exact h2
  ·have e':¬ q.1=k:=fun z=>e (h1.trans z)
   have b:atKey (q::qs) k=atKey qs k:=by simp[atKey,List.find?_cons,e']
   rw[bY e,b];exact ih
theorem KT.repl {H:Hp}{kvs:List (List Key × V)}{xs:List (List Key × Addr × Value)}(r:KT H kvs xs)(k:List Key){y:V}{u:Value}(ry:qK y u) :
  KT H (kvs.map fun kv=>if kv.1=k then (kv.1,y) else kv) (xs.map (putAt k u)):=by
 induction r with
 |nil=>exact .nil
 |@cons p q ps qs h t ih =>
  rw[List.map_cons,List.map_cons]
  refine .cons ?_ ih
  obtain⟨h1,h2,h3⟩:=h
  unfold putAt
  by_cases e:p.1=k
  ·rw[if_pos e,if_pos (h1.symm.trans e)];exact⟨h1,h2,ry⟩
  ·rw[if_neg e,if_neg (fun z=>e (h1.trans z))];exact⟨h1,h2,h3⟩
theorem KT.put {H:Hp}{kvs:List (List Key × V)}{xs:List (List Key × Addr × Value)}(r:KT H kvs xs)(k:List Key){b:Addr}{y:V}{u:Value}(hb:H b=some (.tup (k.map kV)))(ry:qK y u) :
  KT H (yN kvs k y) (storedH xs k b u):=by
 have e:(kvs.any fun kv=>decide (kv.1=k))=(atKey xs k).isSome:=by
  rw[sO,(r.val k).isSome_eq,Option.isSome_map]
 unfold yN storedH
 rw[e]
 by_cases q:(atKey xs k).isSome=true
 ·rw[if_pos q,if_pos q];exact r.repl k ry
 ·rw[if_neg q,if_neg q];exact Paired.snoc r ⟨rfl,hb,ry⟩
theorem KT.keeps {H H':Hp}{kvs:List (List Key × V)}{xs:List (List Key × Addr × Value)}(r:KT H kvs xs)(ht:∀ b ys,H b=some (.tup ys)→H' b=some (.tup ys)):KT H' kvs xs:=
 Paired.mapP r fun _ _ z=>⟨z.1,ht _ _ z.2.1,z.2.2⟩
section
variable {P:Program}{w:World}{H:Hp}{h:Heap}{a:Addr}
theorem YE {u:HO}(ok:HOk P w H h)(e:Rd H a u):zA P w H h a u:=e.ok ok
theorem WX {kvs:List (Key × V)}(ok:HOk P w H h)(e:Rd H a (.dK kvs)):kvs.length≤sizeLine∧(a == sysModules)=false∧∃ vs,KV kvs vs∧h.DictOf (zX P w) a vs:=
 show zA P w H h a (.dK kvs) from YE ok e
theorem WW {kvs:List (Key × V)}(ok:HOk P w H h)(e:H a=some (.dK kvs)):kvs.length≤sizeLine∧(a == sysModules)=false∧∃ vs,KV kvs vs∧h.DictOf (zX P w) a vs:=WX ok (.inl e)
theorem iU {ks:List Key}(ok:HOk P w H h)(e:H a=some (.tup (ks.map kV))):(tupleKind (zX P w)).is h ks a:=by
 obtain⟨_,its,r,o,h1,h2,n,h3⟩:=(show zA P w H h a (.tup (ks.map kV)) from ok a _ e)
 exact⟨o,its.toArray,n,h1,h2,h3,by simpa using tW r⟩
theorem NH {kvs:List (List Key × V)}(ok:HOk P w H h)(e:Rd H a (.dT kvs)):kvs.length≤sizeLine∧(a == sysModules)=false ∧
  ∃ xs,KT H kvs xs∧h.DictOfH (tupleKind (zX P w)) a xs:=by
 obtain⟨z,y,xs,r,o,es,ep,h1,h2,h3,h4,h5⟩:=(show zA P w H h a (.dT kvs) from YE ok e)
 refine⟨z,y,xs,r,o,es,ep,h1,h2,h3,h4,fun x hx=>?_,h5⟩
 have all:∀ {l:List (List Key × V)} {m:List (List Key × Addr × Value)},KT H l m→∀ x∈m,(tupleKind (zX P w)).is h x.1 x.2.1:=by
  intro l m q
  induction q with
  |nil=>intro x hx;exact nomatch hx
  |@cons p q ps qs hq t ih =>
   intro x hx
   rcases List.mem_cons.mp hx with e|hx
   ·subst e
    exact iU ok (by rw[← hq.1];exact hq.2.1)
   ·exact ih x hx
 exact all r x hx
theorem NG {kvs:List (List Key × V)}(ok:HOk P w H h)(e:H a=some (.dT kvs)):kvs.length≤sizeLine∧(a == sysModules)=false ∧
  ∃ xs,KT H kvs xs∧h.DictOfH (tupleKind (zX P w)) a xs:=NH ok (.inl e)
end
def hX (H:Hp)(a:Addr)(y:V)(r:Option V):Prop:=
 (∃ kvs k,Rd H a (.dK kvs)∧y=kV k∧r=yQ kvs k)∨∃ kvs k b,Rd H a (.dT kvs)∧y=.ref b∧H b=some (.tup (k.map kV))∧r=yQ kvs k
def fZ (H:Hp)(a:Addr)(y v:V)(H':Hp):Prop:=
 (∃ kvs k,H a=some (.dK kvs)∧y=kV k∧kvs.length<sizeLine∧H'=upd H a (.dK (yN kvs k v))) ∨
 ∃ kvs k b,H a=some (.dT kvs)∧y=.ref b∧H b=some (.tup (k.map kV))∧kvs.length<sizeLine∧H'=upd H a (.dT (yN kvs k v))
theorem hX.k {H:Hp}{a:Addr}{kvs:List (Key × V)}{k:Key}(e:H a=some (.dK kvs)):hX H a (kV k) (yQ kvs k):=.inl ⟨kvs,k,.inl e,rfl,rfl⟩
theorem hX.t {H:Hp}{a b:Addr}{kvs:List (List Key × V)}{k:List Key}(e:H a=some (.dT kvs))(eb:H b=some (.tup (k.map kV))):hX H a (.ref b) (yQ kvs k):=.inr ⟨kvs,k,b,.inl e,rfl,eb,rfl⟩
theorem fZ.k {H:Hp}{a:Addr}{kvs:List (Key × V)}{k:Key}{v:V}(e:H a=some (.dK kvs))(hl:kvs.length<sizeLine):fZ H a (kV k) v (upd H a (.dK (yN kvs k v))):=.inl ⟨kvs,k,e,rfl,hl,rfl⟩
theorem fZ.t {H:Hp}{a b:Addr}{kvs:List (List Key × V)}{k:List Key}{v:V}(e:H a=some (.dT kvs))(eb:H b=some (.tup (k.map kV)))(hl:kvs.length<sizeLine) :
  fZ H a (.ref b) v (upd H a (.dT (yN kvs k v))):=.inr ⟨kvs,k,b,e,rfl,eb,hl,rfl⟩
section
variable {X:Cx}{pins:List (Addr × Obj)}{σ : St}{H:Hp}{s:Shared}{a:Addr}{y v:V}{u r:Value}{o:Option V}{A:Around}{E:Value→Shared→Prop}
theorem Inv.big (I:Inv X pins σ H s):sysModules<s.heap.objs.size:=by
 have h:mainGlobals<s.heap.objs.size:=(I.mod.glob.keeps I.bk).lt
 exact Nat.lt_trans (by decide) h
theorem mD {h':Heap}{t':Nat}{ob:HO}(I:Inv X pins σ H s)(mu:Mut (H a))(hs:Heap.SameBut a s.heap h')(he:∃ q,h'.get? a=some q)(new:zA X.prog X.w (upd H a ob) h' a ob) :
  Inv X pins σ (upd H a ob) { s with heap:=h',toks:=t' }:=
 I.write (x:=a) (e:=a) mu (.inl rfl) (fun b q hb z=>(hs.2 b hb).trans z) he new
theorem i8 {P:Program}{w:World}{H':Hp}{h':Heap}{kvs:List (Key × V)}{vs:List (Key × Value)}(z:kvs.length≤sizeLine)(hd:(a == sysModules)=false)(rel:KV kvs vs)(dd:h'.DictOf (zX P w) a vs) :
  zA P w H' h' a (.dK kvs):=⟨z,hd,vs,rel,dd⟩
theorem i6 {H':Hp}{Q:Unit→Shared→Prop}(hu:A.units+1<cLine)(I:Inv X pins σ H s)(g:fZ H a y v H')(ry:qK y u)(rv:qK v r)(h:∀ s',Inv X pins σ H' s'→Q () s') :
  wpAny (model X.prog X.w) A (setItem (.ref a) u r) Q E s:=by
 rcases g with⟨kvs,k,e,ey,l,eH⟩|⟨kvs,k,b,e,ey,eb,l,eH⟩
 ·subst ey eH
  obtain⟨z,hd,vs,rel,dd⟩:=WW I.hok e
  have hz:vs.length≤sizeLine:=by rw[← rel.length];exact z
  have hl:(yN kvs k v).length≤sizeLine:=by have:=jQ kvs k v;omega
  refine wpAny_setItem_pairs (hsz:=hz) (fK ry) dd fun h' dd' hs=>h _ ?_
  have he:∃ q,h'.get? a=some q:=let ⟨q,_,_,hq,_⟩:=dd';⟨q,hq⟩
  exact mD I (by rw[e];exact True.intro) hs he (i8 hl hd (rel.put k rv) dd')
 ·subst ey eH
  cases (show u=Value.ref b from ry)
  obtain⟨z,hd,xs,rel,dd⟩:=NG I.hok e
  have hz:xs.length≤sizeLine:=by rw[← Paired.length rel];exact z
  have hl:(yN kvs k v).length≤sizeLine:=by have:=jQ kvs k v;omega
  refine wpAny_setItem_heap (hsz:=hz) (tupleKind_room_in1 hu) (iU I.hok eb) dd fun h' dd' hs=>h _ ?_
  obtain⟨q,es,ep,hq,h2,h3,h4,_,h5⟩:=dd'
  refine mD I (by rw[e];exact True.intro) hs ⟨q,hq⟩ ⟨hl,hd,_,(rel.put k eb rv).keeps fun c ys ec=>?_,q,es,ep,hq,h2,h3,h4,h5⟩
  rw[qI (NY ec e (fun z=>nomatch z))]
  exact ec
end
section
variable {X:Cx}{pins:List (Addr × Obj)}{σ : St}{H:Hp}{s:Shared}{a:Addr}{kvs:List (Key × V)}{k:Key}{u:Value}{A:Around}{E:Value→Shared→Prop}
theorem N6 {Q:Value→Shared→Prop}(I:Inv X pins σ H s)(e:Rd H a (.dK kvs))(h:∀ t s',Inv X pins σ H s'→Q (.int kvs.length t) s'):wpAny (model X.prog X.w) A (call (.builtin "len") [.ref a]) Q E s:=by
 obtain⟨z,hd,vs,rel,dd⟩:=WX I.hok e
 refine call_len_dict hd dd (by rw[← rel.length];rw[sizeLine_eq] at z;omega) ?_
 rw[← rel.length]
 exact h _ _ (I.tok _)
end
theorem ZI {P:Program}{w:World}{H:Hp}(h:Heap)(hb:sysModules<h.objs.size):zA P w H (h.push { cls:=.type "dict",data:=.dict #[] }) h.objs.size (.dK []):=
 ⟨Nat.zero_le _,beq_eq_false_iff_ne.mpr (Ne.symm (Nat.ne_of_lt hb)),[],.nil,Heap.DictOf.new h⟩
def T7:TE:=fun _ H Q=>∀ p,H p=none→Q (.ref p) (upd H p (.dK []))
section
variable {X:Cx}{pos:Pos}
theorem dQ:PE X (.Dict [] [] pos) T7:=fun pins s σ H Q I h =>
 wpAny_Dict_empty ⟨.ref s.heap.objs.size,_,I.laid (a:=s.heap.objs.size) (o:=.dK []) (t':=s.toks) (fun _ _ q=>Heap.get?_push_of_some _ q) (Nat.le_refl _) (ZI s.heap I.big),rfl,h _ (I.hok.fresh (Nat.le_refl _))⟩
end
end _L
namespace _A
open PySem PySem.W PySem.Calls PyProof.Rows
theorem fH {P:Params}{h:Heap}:∀ (ns:List Int) (vs:List Value),WellAll P h vs (ns.map WData.int)→IntsAre vs ns:=by
 intro ns
 induction ns with
 |nil =>
  intro vs w
  rw[List.map_nil] at w
  cases w
  exact .nil
 |cons n ns ih =>
  intro vs w
  rw[List.map_cons] at w
  cases w with
  |cons a b =>
   cases a
   exact .cons _ _ (ih _ b)
theorem Q7 {l:OpenLaw}{n:Nat}(hn:l.most=some n){P:Params}{h:Heap}{args:List WData}{vals:List Value}
  (hpre:l.row.toRowW.claim.pre args=true) (hwl:WellAll P h vals args) :
  ∃ a vs ns,vals=[Value.ref a]∧args=[WData.list (ns.map WData.int)]∧h.get? a=some { cls:=.type "list",data:=.seq vs.toArray } ∧ IntsAre vs ns∧ns.length≤n:=by
 have hsh:WShape.hasAll [] args [.list .int]=true:=(pre_splitW hpre).1
 have hc:l.pre.holds [] { args:=args } = true:=(pre_splitW hpre).2
 obtain⟨d,r,rfl,h1,h2⟩:=hasAllW_cons hsh
 obtain rfl:=hasAllW_nil h2
 obtain⟨xs,rfl,h3⟩:=hasW_list h1
 obtain⟨ns,rfl⟩:=items_int h3
 have hlen:ns.length≤n:=by
  unfold OpenLaw.pre at hc
  have h4:(WTm.not (.lt (.lit (.int (n:Int))) (.len (.arg 0)))).holds [] { args:=[.list (ns.map .int)] } = true:=by
   have h4:=(holds_andW hc).1
   rw[hn] at h4
   exact h4
  have h5:=condW_of h4 (w_not (w_lt w_lit (w_len_list (w_arg rfl))))
  rw[List.length_map] at h5
  refine Nat.le_of_not_lt fun q=>?_
  have q':(n:Int)<((ns.length:Nat):Int):=by omega
  first
   |(rw[decide_eq_true q'] at h5;exact absurd h5 (by decide))
   |(simp at h5;omega)
 cases hwl with
 |cons w1 w2 =>
  cases w2
  cases w1 with
  |list ho hall=>exact⟨_,_,ns,rfl,rfl,ho,fH ns _ hall,hlen⟩
theorem oJ (l:OpenLaw)(args:List WData):l.row.toRowW.claim.post args (.bool true) args=true:=
 postW_of (r:=l.row.toRowW) (X:=(true == true))
  (show WShape.has [] (.bool true) .bool=true by first|rfl|decide|simp[WShape.has,WShape.arms,WShape.armsAll])
  (show (WTm.eq .res (.lit (.bool true))).value [] { args:=args,res:=some (.bool true),after:=args } = some (.bool (true == true)) from w_eq_bool (w_res rfl) w_lit) rfl
theorem attach_call {l:OpenLaw}{n:Nat}{q:Program}{loose:List Str}{XP:(Str→Option Value)→Heap→Prop}{YP:World→Heap→Prop}{d:DefRec}
  (hn:l.most=some n) (hdf:d.params.defaults=[])
  (call:∀ (w:World) (s₀ s₁:Shared) (mg mb:Str→Option Value) (fa:Addr) (o:Obj) (pm cd doc:Value) (a:Addr) (vs:List Value) (ns:List Int),
   Ground q loose [] XP w s₀ mg mb s₁.heap→YP w s₁.heap →
   s₁.heap.get? fa=some o→o.data=.func (docDef d.name d.params d.body d.scope pm cd doc)→s₁.heap.CodeRec cd d.name→mg d.name=some (.ref fa) →
   s₁.heap.get? a=some { cls:=.type "list",data:=.seq vs.toArray } → IntsAre vs ns→ns.length≤n→s₁.gens=#[] →
   codeAny (model l.prog w) callerA (.call (.ref fa) ⟨[.ref a],[]⟩) (fun r s'=>r=.ok (.ret (.bool true))∧OldK s₁.heap s'.heap∧s'.os=s₁.os∧AllBare s'.gens) s₁) :
  WalkO q loose XP YP l.row.toRowW d [] (fun f vs=>PySem.call f vs):=by
 intro w s₀ s₁ mg mb G Y fa o pm cd doc dV kV ho hd hcd hD hmg hg args vals as hpre hlay hrd hwl hlo
 obtain rfl:dV=.none:=Dflts.none hD hdf
 obtain rfl:kV=.none:=Dflts.noKw hD
 obtain⟨a,vs,ns,rfl,rfl,hobj,hints,hlen⟩:=Q7 hn hpre hwl
 refine enter_call (codeAny_mono (call w s₀ s₁ mg mb fa o pm cd doc a vs ns G Y ho (fd_plain hd) hcd hmg hobj hints hlen hg) fun r s' hq=>?_)
 obtain⟨rfl,h2,h3,h4⟩:=hq
 exact⟨.inl ⟨.bool true,.bool true,[],rfl,fun _=>rfl,.bool true,oJ l _,fun _=>⟨List.Pairwise.nil,fun _ hm=>(nomatch hm)⟩⟩,h2,h3,h4⟩
end _A
namespace _L
open PySem PySem.Spec PyProof.Rows
theorem QC {vs:List Value}{ns:List Int}(h:IntsAre vs ns):qN (ns.map V.int) vs:=by
 induction h with
 |nil=>exact .nil
 |cons n t h ih=>exact .cons ⟨t,rfl⟩ ih
def SqX (K:PySem.W.Frag)(H:Hp)(a:Addr)(xs:List V):Prop:=
 Rd H a (.lst xs)∨∃ (its:List Value) (n:Nat),K.lookup a=some { cls:=.type "list",data:=.seq its.toArray n } ∧ xs.length≤sizeLine∧qN xs its
theorem SqX.l {K:PySem.W.Frag}{H:Hp}{a:Addr}{xs:List V}(h:SqX K H a xs):SqL K H a xs:=by
 rcases h with h|⟨its,n,e,l,v⟩
 ·exact .inl h
 ·exact .inr ⟨_,its.toArray,n,e,rfl,rfl,rfl,by rw[List.size_toArray,← v.length];exact l,by simpa using v⟩
end _L
namespace _L
open PySem PySem.Spec PyProof.Rows
def y6 (s:Stmt):Arguments:=match s with
 |.FunctionDef _ a _ _ _ _ _ _ _ _=>a
 |_=>{ posonlyargs:=[],args:=[],vararg:=none,kwonlyargs:=[],kw_defaults:=[],kwarg:=none,defaults:=[] }
def zK (s:Stmt):List Stmt:=match s with
 |.FunctionDef _ _ b _ _ _ _ _ _ _=>b
 |_=>[]
def qH (s:Stmt):Scope:=match s with
 |.FunctionDef _ _ _ _ _ _ sc _ _ _=>sc
 |_=>{ kind:=.function,names:=[],isGenerator:=false,isCoroutine:=false }
abbrev CX0:CXT:=fun _ _ _ _ _ _=>False
structure Fun (K:PySem.W.Frag)(x qual:Str)(st:Stmt)(f:Addr)(fd:FuncData):Prop where
 ex:∃ (oc:Value) (od:Option Addr) (kV doc pm:Value) (an:Option Addr) (cdv ct:Value) (osl:Array (Option Value)),
  fd=PySem.W.fnOf x qual (y6 st) (zK st) (qH st) .none kV doc pm an cdv ct∧K.lookup f=some ⟨oc,od,.func fd,osl⟩∧PySem.W.codeIn K cdv qual=true
 kp:PySem.W.keepIn K (.ref f)=true
section
variable {P:Program}{w:World}{K:PySem.W.Frag}{mg:Str→Option Value}{base:Heap}
theorem Fun.ok {x qual:Str}{st:Stmt}{f:Addr}{fd:FuncData}{N ps:List Str}{k:Nat}{sp:Sp}(F:Fun K x qual st f fd)(S:FnScope N ps (qH st))(len:∀ vs H Q E,sp vs H Q E→vs.length=ps.length)
  (hbody:∀ (cdv:Value) (A:Around) (outer:List Env) (s:Shared) (H:Hp) (vs:List V) (Q:VK) (E:XK),Room k (A.deeper (envOfC qual (qH st) s.heap.objs.size f cdv))→sp vs H Q E →
   ∃ t,PSs (mB CX0 P w K mg base N qual (qH st) f cdv A outer s H E).nox (zK st) t∧t { nx:=fun _ H'=>Q .non H',rt:=Q } (xO N vs) H):FnOk P w K mg base CX0 (k+1) f fd ps sp:=by
 obtain⟨oc,od,kV,doc,pm,an,cdv,ct,osl,rfl,lk,hcd⟩:=F.ex
 refine NK lk hcd S len fun A outer s H vs Q E hr hsp=>?_
 obtain⟨t,h,q⟩:=hbody cdv A outer s H vs Q E hr hsp
 exact⟨t,h.nox,q⟩
theorem Fun.binds {x qual:Str}{st:Stmt}{f:Addr}{fd:FuncData}{ps:List Str}(F:Fun K x qual st f fd)
  (h:∀ (kV doc pm:Value) (an:Option Addr) (cdv ct:Value) (us:List Value),us.length=ps.length→bindArgs (PySem.W.fnOf x qual (y6 st) (zK st) (qH st) .none kV doc pm an cdv ct) ⟨us,[]⟩=pure (ps.zip us)):yV K fd ps []:=by
 obtain⟨oc,od,kV,doc,pm,an,cdv,ct,osl,rfl,lk,hcd⟩:=F.ex
 exact .all (h kV doc pm an cdv ct)
theorem B8 {x qual:Str}{st:Stmt}{f:Addr}{oc:Value}{od an:Option Addr}{osl:Array (Option Value)}{kV doc pm cdv ct:Value}(l:K.lookup f=some ⟨oc,od,.func (PySem.W.fnOf x qual (y6 st) (zK st) (qH st) .none kV doc pm an cdv ct),osl⟩)
  (c:PySem.W.codeIn K cdv qual=true) (k:PySem.W.keepIn K (.ref f)=true):Fun K x qual st f (PySem.W.fnOf x qual (y6 st) (zK st) (qH st) .none kV doc pm an cdv ct):=⟨⟨oc,od,kV,doc,pm,an,cdv,ct,osl,rfl,l,c⟩,k⟩
end
def qF (H H':Hp):Prop:=∀ b o,H b=some o→H' b=some o
theorem qF.refl (H:Hp):qF H H:=fun _ _ h=>h
theorem qF.trans {H H1 H2:Hp}(a:qF H H1)(b:qF H1 H2):qF H H2:=fun c o h=>b c o (a c o h)
theorem qF.free {H H':Hp}(e:qF H H'){l:Addr}(h:H' l=Option.none):H l=Option.none:=by
 cases q:H l with
 |none=>rfl
 |some o =>
  rw[e l o q] at h
  cases h
theorem qF.seq {K:PySem.W.Frag}{H H':Hp}{a:Addr}{xs:List V}(e:qF H H')(h:SqL K H a xs):SqL K H' a xs:=by
 rcases h with (h|⟨o,h⟩)|h
 ·exact .inl (.inl (e _ _ h))
 ·exact .inl (.inr ⟨o,e _ _ h⟩)
 ·exact .inr h
end _L
end
section
namespace _D
open PySem PySem.Spec PyProof.Rows _L
inductive D where
 |non|bl (b:Bool)|int (i:Int)|str (x:Str)|ty (n:String)|obj (a:Addr)|tup (xs:List D)|lst (xs:List D)|dct0|loc (i:Nat)|exn (c:Value)|fd (ks:List Key) (ds:List D)|clo (a:Addr) (vs:List V) (ds:List D)
def lT (a:Addr)(c:Value):HO:=.ext fun h=>∃ ob,h.get? a=some ob∧ob.cls=c
inductive MO where
 |dead|lst (xs:List D)|dct (kvs:List (Key × D))|ins (C:Addr) (fs:List (Str × D))
abbrev Sto:=List MO
inductive Res (β : Type) where
 |ok (d:β) (S:Sto)|ex (c:Value) (x:D) (S:Sto)|bad
@[inline] def Res.bind {β γ:Type}(r:Res β)(f:β→Sto→Res γ) : Res γ:=
 match r with
 |.ok d S=>f d S
 |.ex c x S=>.ex c x S
 |.bad=>.bad
theorem Res.bind_ok {β γ:Type}(d:β)(S:Sto)(f:β→Sto→Res γ) : (Res.ok d S).bind f=f d S:=rfl
section
variable (K:PySem.W.Frag)(P:Hp)(α : List Addr)
mutual
def Rep:D→V→Prop
 |.non,v=>v=.non
 |.bl b,v=>v=.bl b
 |.int i,v=>v=.int i
 |.str x,v=>v=.str x
 |.ty n,v=>v=.ty n
 |.obj a,v=>v=.ref a∧PySem.W.keepIn K (.ref a)=true
 |.tup ds,v=>∃ a vs,v=.ref a∧SqT K P a vs∧qE ds vs
 |.lst ds,v=>∃ a vs,v=.ref a∧SqX K P a vs∧qE ds vs
 |.dct0,v=>∃ a,v=.ref a∧P a=some (.dK [])
 |.loc i,v=>∃ a,v=.ref a∧α[i]? = some a
 |.exn c,v=>∃ a,v=.ref a∧P a=some (lT a c)
 |.fd ks ds,v=>∃ a o vs,v=.ref a∧P a=some (.frz o (.dK (ks.zip vs)))∧ks.length=vs.length∧qE ds vs
 |.clo a vs ds,v=>v=.ref a∧qE ds vs
def qE:List D→List V→Prop
 |[],vs=>vs=[]
 |d::ds,vs=>∃ w ws,vs=w::ws∧Rep d w∧qE ds ws
end
end
section
variable {K:PySem.W.Frag}{P P':Hp}{α α':List Addr}
theorem yP (e:qF P P'){a:Addr}{xs:List V}(h:SqT K P a xs):SqT K P' a xs:=by
 rcases h with (h|⟨o,h⟩)|h
 ·exact .inl (.inl (e _ _ h))
 ·exact .inl (.inr ⟨o,e _ _ h⟩)
 ·exact .inr h
theorem eQ (e:qF P P'){a:Addr}{u:HO}(h:Rd P a u):Rd P' a u:=by
 rcases h with h|⟨o,h⟩
 ·exact .inl (e _ _ h)
 ·exact .inr ⟨o,e _ _ h⟩
theorem xG (e:qF P P'){a:Addr}{xs:List V}(h:SqX K P a xs):SqX K P' a xs:=by
 rcases h with h|h
 ·exact .inl (eQ e h)
 ·exact .inr h
theorem pY {i:Nat}{a:Addr}(h:α<+:α')(e:α[i]? = some a):α'[i]? = some a:=by
 obtain⟨r,rfl⟩:=h
 rw[List.getElem?_append_left (List.getElem?_eq_some_iff.mp e).1]
 exact e
mutual
theorem Rep.mono (e:qF P P')(h:α<+:α'):∀ (d:D) (v:V),Rep K P α d v→Rep K P' α' d v
 |.non,_,r=>by simpa only [Rep] using r
 |.bl _,_,r=>by simpa only [Rep] using r
 |.int _,_,r=>by simpa only [Rep] using r
 |.str _,_,r=>by simpa only [Rep] using r
 |.ty _,_,r=>by simpa only [Rep] using r
 |.obj _,_,r=>by simpa only [Rep] using r
 |.tup ds,v,r=>by
  simp only[Rep] at r ⊢
  obtain⟨a,vs,rfl,q,t⟩:=r
  exact⟨a,vs,rfl,yP e q,qE.mono e h ds vs t⟩
 |.lst ds,v,r=>by
  simp only[Rep] at r ⊢
  obtain⟨a,vs,rfl,q,t⟩:=r
  exact⟨a,vs,rfl,xG e q,qE.mono e h ds vs t⟩
 |.dct0,v,r=>by
  simp only[Rep] at r ⊢
  obtain⟨a,rfl,q⟩:=r
  exact⟨a,rfl,e _ _ q⟩
 |.loc i,v,r=>by
  simp only[Rep] at r ⊢
  obtain⟨a,rfl,q⟩:=r
  exact⟨a,rfl,pY h q⟩
 |.exn c,v,r=>by
  simp only[Rep] at r ⊢
  obtain⟨a,rfl,q⟩:=r
  exact⟨a,rfl,e _ _ q⟩
 |.fd ks ds,v,r=>by
  simp only[Rep] at r ⊢
  obtain⟨a,o,vs,rfl,q,hl,t⟩:=r
  exact⟨a,o,vs,rfl,e _ _ q,hl,qE.mono e h ds vs t⟩
 |.clo a vs ds,v,r=>by
  simp only[Rep] at r ⊢
  exact⟨r.1,qE.mono e h ds vs r.2⟩
theorem qE.mono (e:qF P P')(h:α<+:α'):∀ (ds:List D) (vs:List V),qE K P α ds vs→qE K P' α' ds vs
 |[],vs,r=>by simpa only [qE] using r
 |d::ds,vs,r=>by
  simp only[qE] at r ⊢
  obtain⟨w,ws,rfl,r1,r2⟩:=r
  exact⟨w,ws,rfl,Rep.mono e h d w r1,qE.mono e h ds ws r2⟩
end
theorem qE.nil:qE K P α [] []:=by simp only[qE]
theorem qE.cons {d:D}{v:V}{ds:List D}{vs:List V}(r:Rep K P α d v)(t:qE K P α ds vs):qE K P α (d::ds) (v::vs):=by
 simp only[qE];exact⟨v,vs,rfl,r,t⟩
theorem qE.nil_inv {vs:List V}(r:qE K P α [] vs):vs=[]:=by simpa only [qE] using r
theorem qE.cons_inv {d:D}{ds:List D}{vs:List V}(r:qE K P α (d::ds) vs):∃ w ws,vs=w::ws∧Rep K P α d w∧qE K P α ds ws:=by simpa only [qE] using r
theorem qE.length:∀ {ds:List D} {vs:List V},qE K P α ds vs→ds.length=vs.length
 |[],vs,r=>by rw[r.nil_inv];rfl
 |d::ds,vs,r=>by
  obtain⟨w,ws,rfl,_,t⟩:=r.cons_inv
  rw[List.length_cons,List.length_cons,t.length]
theorem qE.append:∀ {ds es:List D} {vs ws:List V},qE K P α ds vs→qE K P α es ws→qE K P α (ds++es) (vs++ws)
 |[],es,vs,ws,r,t=>by rw[r.nil_inv];exact t
 |d::ds,es,vs,ws,r,t=>by
  obtain⟨w,us,rfl,r1,r2⟩:=r.cons_inv
  exact .cons r1 (r2.append t)
theorem qE.get:∀ {ds:List D} {vs:List V} {i:Nat} {d:D},qE K P α ds vs→ds[i]? = some d→∃ v,vs[i]? = some v∧Rep K P α d v
 |[],_,_,_,_,e=>by simp at e
 |d::ds,vs,i,d',r,e=>by
  obtain⟨w,ws,rfl,r1,r2⟩:=r.cons_inv
  cases i with
  |zero=>simp at e;subst e;exact⟨w,rfl,r1⟩
  |succ i =>
   obtain⟨v,h1,h2⟩:=r2.get (i:=i) (d:=d') (by simpa using e)
   exact⟨v,by simpa using h1,h2⟩
theorem qE.drop:∀ {ds:List D} {vs:List V} (n:Nat),qE K P α ds vs→qE K P α (ds.drop n) (vs.drop n)
 |ds,vs,0,r=>by simpa using r
 |[],vs,n+1,r=>by rw[r.nil_inv];exact .nil
 |d::ds,vs,n+1,r=>by
  obtain⟨w,ws,rfl,_,r2⟩:=r.cons_inv
  simpa using r2.drop n
theorem qE.take:∀ {ds:List D} {vs:List V} (n:Nat),qE K P α ds vs→qE K P α (ds.take n) (vs.take n)
 |ds,vs,0,r=>by simpa using qE.nil
 |[],vs,n+1,r=>by rw[r.nil_inv];exact .nil
 |d::ds,vs,n+1,r=>by
  obtain⟨w,ws,rfl,r1,r2⟩:=r.cons_inv
  simpa using qE.cons r1 (r2.take n)
theorem qE.set {d:D}{v:V}(q:Rep K P α d v):∀ {ds:List D} {vs:List V} (n:Nat),qE K P α ds vs→qE K P α (ds.set n d) (vs.set n v)
 |[],vs,n,r=>by rw[r.nil_inv];exact .nil
 |e::ds,vs,0,r=>by
  obtain⟨w,ws,rfl,r1,r2⟩:=r.cons_inv
  exact .cons q r2
 |e::ds,vs,n+1,r=>by
  obtain⟨w,ws,rfl,r1,r2⟩:=r.cons_inv
  exact .cons r1 (r2.set q n)
end
abbrev qD:=List (Option D)
def qW (K:PySem.W.Frag)(P:Hp)(α : List Addr)(σ : _L.St)(env:qD):Prop:=env.length=σ.length∧∀ (i:Nat) (d:D),env[i]? = some (some d)→∃ v,σ[i]? = some (some v)∧Rep K P α d v
def KVs (K:PySem.W.Frag)(P:Hp)(α : List Addr){κ : Type}:List (κ × D)→List (κ × V)→Prop:=Paired fun (p:κ × D) (q:κ × V)=>p.1=q.1∧Rep K P α p.2 q.2
def MOk (K:PySem.W.Frag)(H P:Hp)(α : List Addr)(a:Addr):MO→Prop
 |.dead=>True
 |.lst ds=>∃ vs,H a=some (.lst vs)∧qE K P α ds vs
 |.dct kvs=>∃ vs,H a=some (.dK vs)∧KVs K P α kvs vs
 |.ins C fs=>∃ dx vs,H a=some (.ins C dx vs)∧KVs K P α fs vs
inductive TbAt (x:Str)(H P:Hp)(α : List Addr)(T:Addr):Prop
 |mk (ps:Array Value) (e:H T=some (.tbl ps)) (pn:P T=none) (an:T ∉ α) (ok:TriplesOk ps.toList) (cd:∀ pos cv,codeAmong pos ps.toList=some cv→∃ c oc vs t,cv=.ref c∧H c=some (.frz oc (.frz oc (.own 0)))∧oc.data=.fields vs∧vs[1]? = some (.str (x ++ ".<locals>." ++ "<lambda>") t)):TbAt x H P α T
def c7 (K:PySem.W.Frag)(H P:Hp)(α : List Addr):Prop:=∀ x∈wC,∀ c T,PySem.W.tabIn K x=some (c,T)→TbAt x H P α T
def BD (u:HO):Prop:=(∃ ps,u=.tbl ps)∨∃ o,u=.frz o (.frz o (.own 0))
theorem c7.keep {K:PySem.W.Frag}{H H' P P':Hp}{α α':List Addr}(r:c7 K H P α)(e:∀ b u,H b=some u→BD u→H' b=some u)(hp:∀ b u,H b=some u→BD u→P b=none→b ∉ α→P' b=none∧b ∉ α'):c7 K H' P' α':=fun x hx c T h =>
 let ⟨ps,e1,pn,an,ok,cd⟩:=r x hx c T h
 let z:=hp _ _ e1 (.inl ⟨_,rfl⟩) pn an
 ⟨ps,e _ _ e1 (.inl ⟨_,rfl⟩),z.1,z.2,ok,fun pos cv q=>let ⟨c,oc,vs,t,a,b,d⟩:=cd pos cv q;⟨c,oc,vs,t,a,e _ _ b (.inr ⟨_,rfl⟩),d⟩⟩
structure Rel (K:PySem.W.Frag)(H P:Hp)(α : List Addr)(S:Sto):Prop where
 tb:c7 K H P α
 sub:qF P H
 len:α.length=S.length
 nd:α.Nodup
 sep:∀ (i:Nat) (a:Addr) (o:MO),α[i]? = some a→S[i]? = some o→o≠.dead→P a=none
 at':∀ (i:Nat) (a:Addr) (o:MO),α[i]? = some a→S[i]? = some o→MOk K H P α a o
 own:∀ (i:Nat) (a:Addr),α[i]? = some a→H a≠none
section
variable {K:PySem.W.Frag}{H P P':Hp}{α α':List Addr}{S:Sto}
theorem qW.mono {σ : _L.St}{env:qD}(e:qF P P')(h:α<+:α')(r:qW K P α σ env):qW K P' α' σ env:=
 ⟨r.1,fun i d q=>let ⟨v,h1,h2⟩:=r.2 i d q;⟨v,h1,Rep.mono e h d v h2⟩⟩
theorem KVs.mono {κ : Type}(e:qF P P')(h:α<+:α'){kvs:List (κ × D)}{vs:List (κ × V)}(r:KVs K P α kvs vs):KVs K P' α' kvs vs:=by
 refine Paired.mapP r fun p q z=>⟨z.1,Rep.mono e h _ _ z.2⟩
theorem MOk.mono {a:Addr}(e:qF P P')(h:α<+:α'):∀ {o:MO},MOk K H P α a o→MOk K H P' α' a o
 |.dead,_=>trivial
 |.lst _,⟨vs,q,r⟩=>⟨vs,q,qE.mono e h _ _ r⟩
 |.dct _,⟨vs,q,r⟩=>⟨vs,q,r.mono e h⟩
 |.ins _ _,⟨dx,vs,q,r⟩=>⟨dx,vs,q,r.mono e h⟩
theorem Rel.grow {H':Hp}(r:Rel K H P α S)(e:qF H H'):Rel K H' P α S where
 tb:=r.tb.keep (fun b u q _=>e _ _ q) fun _ _ _ _ p n=>⟨p,n⟩
 sub:=r.sub.trans e
 len:=r.len
 nd:=r.nd
 sep:=r.sep
 at':=fun i a o q1 q2=>by
  have m:=r.at' i a o q1 q2
  cases o with
  |dead=>trivial
  |lst ds=>obtain⟨vs,q,t⟩:=m;exact⟨vs,e _ _ q,t⟩
  |dct kvs=>obtain⟨vs,q,t⟩:=m;exact⟨vs,e _ _ q,t⟩
  |ins C fs=>obtain⟨dx,vs,q,t⟩:=m;exact⟨dx,vs,e _ _ q,t⟩
 own:=fun i a q=>by
  have m:=r.own i a q
  cases z:H a with
  |none=>exact absurd z m
  |some o=>rw[e _ _ z];intro w;cases w
theorem bV {H:Hp}{a:Addr}{o:HO}(h:H a=none):qF H (upd H a o):=fun b u e=>by rw[qI (qQ e h)];exact e
theorem Rel.pure {a:Addr}{o:HO}(r:Rel K H P α S)(h:H a=none):Rel K (upd H a o) (upd P a o) α S∧qF P (upd P a o):=by
 have hP:P a=none:=by
  cases z:P a with
  |none=>rfl
  |some u=>rw[r.sub _ _ z] at h;cases h
 have sP:qF P (upd P a o):=bV hP
 have r1:=r.grow (bV (o:=o) h)
 refine⟨⟨r.tb.keep (fun b u q _=>(qI (qQ q h)).trans q) fun b u q _ p n=>⟨(qI (qQ q h)).trans p,n⟩,fun b u e=>?_,r.len,r.nd,fun i b u q1 q2 q3=>?_,fun i b u q1 q2=>(r1.at' i b u q1 q2).mono sP (List.prefix_refl _),r1.own⟩,sP⟩
 ·by_cases hb:b=a
  ·subst hb;rw[qS] at e ⊢;exact e
  ·rw[qI hb] at e ⊢;exact r.sub _ _ e
 ·have hb:b≠a:=by rintro rfl;exact r.own i b q1 h
  rw[qI hb]
  exact r.sep i b u q1 q2 q3
theorem Rel.new {a:Addr}{o:HO}{m:MO}(r:Rel K H P α S)(h:H a=none)(hm:MOk K (upd H a o) P (α ++ [a]) a m):Rel K (upd H a o) P (α ++ [a]) (S++[m]):=by
 have hP:P a=none:=by
  cases z:P a with
  |none=>rfl
  |some u=>rw[r.sub _ _ z] at h;cases h
 have r1:=r.grow (bV (o:=o) h)
 have hp:α<+:α++[a]:=List.prefix_append _ _
 have split:∀ (i:Nat) (b:Addr),(α++[a])[i]? = some b→(i<α.length∧α[i]? = some b)∨(i=α.length∧b=a):=fun i b q=>by
  by_cases hi:i<α.length
  ·rw[List.getElem?_append_left hi] at q;exact .inl ⟨hi,q⟩
  ·rw[List.getElem?_append_right (by omega)] at q
   cases hk:i-α.length with
   |zero=>rw[hk] at q;simp at q;exact .inr ⟨by omega,q.symm⟩
   |succ k=>rw[hk] at q;simp at q
 refine⟨r.tb.keep (fun b u q _=>(qI (qQ q h)).trans q) fun b u q _ p n=>⟨p,fun z=>(List.mem_append.mp z).elim n fun w=>qQ q h (by simpa using w)⟩,r1.sub,by simp[r.len],?_,fun i b u q1 q2 q3=>?_,fun i b u q1 q2=>?_,fun i b q=>?_⟩
 ·rw[List.nodup_append]
  refine⟨r.nd,by simp,fun b hb c hc e=>?_⟩
  simp at hc;subst hc;subst e
  obtain⟨i,hi,e⟩:=List.mem_iff_getElem.mp hb
  exact r.own i b (by rw[List.getElem?_eq_getElem hi,e]) h
 ·rcases split i b q1 with⟨hi,z⟩|⟨hi,rfl⟩
  ·rw[List.getElem?_append_left (by rw[← r.len];exact hi)] at q2
   exact r.sep i b u z q2 q3
  ·exact hP
 ·rcases split i b q1 with⟨hi,z⟩|⟨hi,rfl⟩
  ·rw[List.getElem?_append_left (by rw[← r.len];exact hi)] at q2
   exact(r1.at' i b u z q2).mono (qF.refl _) hp
  ·rw[hi,r.len,List.getElem?_append_right (Nat.le_refl _)] at q2
   simp at q2;subst q2
   exact hm
 ·rcases split i b q with⟨_,z⟩|⟨_,rfl⟩
  ·exact r1.own i b z
  ·rw[qS];intro z;cases z
theorem oD {N:List Addr}(hN:N.Nodup){i j:Nat}{x:Addr}(a:N[i]? = some x)(b:N[j]? = some x):i=j:=by
 obtain⟨h1,e1⟩:=List.getElem?_eq_some_iff.mp a
 obtain⟨h2,e2⟩:=List.getElem?_eq_some_iff.mp b
 exact(List.getElem_inj hN).mp (e1.trans e2.symm)
theorem Rel.put {a:Addr}{i:Nat}{o:HO}{m m':MO}(r:Rel K H P α S)(ha:α[i]? = some a)(hs:S[i]? = some m)(hd:m≠.dead)(hm:MOk K (upd H a o) P α a m'):Rel K (upd H a o) P α (S.set i m'):=by
 have hP:=r.sep i a m ha hs hd
 have hi:i<S.length:=(List.getElem?_eq_some_iff.mp hs).1
 refine⟨r.tb.keep (fun b u q hu=>?_) fun _ _ _ _ p n=>⟨p,n⟩,fun b u e=>?_,by simp[r.len],r.nd,fun j b u q1 q2 q3=>?_,fun j b u q1 q2=>?_,fun j b q=>?_⟩
 ·refine(qI ?_).trans q
  rintro rfl
  have z:=r.at' i _ m ha hs
  cases m with
  |dead=>exact hd rfl
  |lst ds=>obtain⟨vs,z,_⟩:=z;rw[q] at z;rcases hu with⟨_,rfl⟩|⟨_,rfl⟩ <;> cases z
  |dct kvs=>obtain⟨vs,z,_⟩:=z;rw[q] at z;rcases hu with⟨_,rfl⟩|⟨_,rfl⟩ <;> cases z
  |ins C fs=>obtain⟨dx,vs,z,_⟩:=z;rw[q] at z;rcases hu with⟨_,rfl⟩|⟨_,rfl⟩ <;> cases z
 ·have hb:b≠a:=by rintro rfl;rw[hP] at e;cases e
  rw[qI hb];exact r.sub _ _ e
 ·by_cases hj:j=i
  ·subst hj;rw[ha] at q1;cases q1;exact hP
  ·rw[List.getElem?_set_ne (Ne.symm hj)] at q2;exact r.sep j b u q1 q2 q3
 ·by_cases hj:j=i
  ·subst hj;rw[ha] at q1;cases q1
   rw[List.getElem?_set_self hi] at q2;cases q2
   exact hm
  ·rw[List.getElem?_set_ne (Ne.symm hj)] at q2
   have hb:b≠a:=by rintro rfl;exact hj (oD r.nd q1 ha)
   have z:=r.at' j b u q1 q2
   cases u with
   |dead=>trivial
   |lst ds=>obtain⟨vs,q,t⟩:=z;exact⟨vs,by rw[qI hb];exact q,t⟩
   |dct kvs=>obtain⟨vs,q,t⟩:=z;exact⟨vs,by rw[qI hb];exact q,t⟩
   |ins C fs=>obtain⟨dx,vs,q,t⟩:=z;exact⟨dx,vs,by rw[qI hb];exact q,t⟩
 ·by_cases hb:b=a
  ·subst hb;rw[qS];intro z;cases z
  ·rw[qI hb];exact r.own j b q
end
theorem nn {β : Type}{a:β}{p:Prop}(h:(none:Option β) = some a):p:=by cases h
theorem kW {β : Type}{c:Prop}[Decidable c]{a b:β}(h:(if c then some a else none)=some b):c∧a=b:=by
 by_cases z:c
 ·rw[if_pos z] at h;exact⟨z,Option.some.inj h⟩
 ·rw[if_neg z] at h;exact nn h
end _D
end
section
namespace _D
open PySem PySem.Spec PyProof.Rows _L
abbrev DE:=qD→Sto→Res D
abbrev DT:=qD→Sto→Res Bool
abbrev DA:=qD→Sto→Res (List D)
inductive Out where
 |nx (env:qD) (S:Sto)|rt (d:D) (S:Sto)|bk (env:qD) (S:Sto)|ct (env:qD) (S:Sto)|ex (c:Value) (x:D) (env:qD) (S:Sto)|bad
abbrev DS:=qD→Sto→Out
def Old (X:Cx)(pins:List (Addr × Obj))(H:Hp)(b:Addr):Prop:=
 (∃ o,X.s₀.heap.get? b=some o)∨H b≠none∨(∃ p∈X.pn++pins,p.1=b)∨∃ x,X.env.cells.lookup x=some b
def Cv (X:Cx)(pins:List (Addr × Obj))(H:Hp)(B h:Heap):Prop:=∀ b o,h.get? b=some o→Old X pins H b→b ∉ frs X.stack→B.get? b=some o
inductive FlyX (X:Cx)(pins:List (Addr × Obj))(H:Hp)(c:Value)(e:Addr)(h:Heap):Prop where
 |new (g:Heap) (args:List Value):Heap.MadeExcOf g h e c args→g.FunFrames X.base X.stack→(∀ b o,h.get? b=some o→Old X pins H b→g.get? b=some o)→FlyX X pins H c e h
 |fly (B:Heap) (a0:Value):Heap.FlyingW B X.stack e c a0 h→Cv X pins H B h→FlyX X pins H c e h
inductive XOk (X:Cx)(P:Hp)(α : List Addr)(c:Value)(x:D)(S:Sto)(u:Value)(s:Shared):Prop
 |mk (e:Addr) (pins:List (Addr × Obj)) (σ : _L.St) (H:Hp) (P':Hp) (α' : List Addr) (e1:u=.ref e) (I:Inv X pins σ H s) (r:Rel X.K H P' α' S) (q1:qF P P') (q2:α<+:α') (q3:X.ex=[]∧X.stack=X.env::X.outer∧X.env.frame=some X.env.locals) (q4:FlyX X pins H c e s.heap):XOk X P α c x S u s
theorem XOk.base {X:Cx}{P P1:Hp}{α α1:List Addr}{c:Value}{x:D}{S:Sto}{u:Value}{s:Shared}(e:qF P P1)(h:α<+:α1)(k:XOk X P1 α1 c x S u s):XOk X P α c x S u s:=by
 obtain⟨a,pins,σ,H,P',α',e1,I,r,q1,q2,q3,q4⟩:=k
 exact⟨a,pins,σ,H,P',α',e1,I,r,e.trans q1,h.trans q2,q3,q4⟩
section
variable (X:Cx)
def qJ {β : Type}(P:Hp)(α : List Addr)(r:Res β)(Ok:β→Sto→Prop):Prop:=
 match r with
 |.ok d S'=>Ok d S'
 |.ex c x S'=>∀ u s',XOk X P α c x S' u s'→X.xe u s'
 |.bad=>False
def OkV (P:Hp)(α : List Addr)(Q:VK)(d:D)(S':Sto):Prop:=∀ v H' P' α',Rel X.K H' P' α' S'→qF P P'→α<+:α'→Rep X.K P' α' d v→Q v H'
def OkT (P:Hp)(α : List Addr)(Q:Bool→Hp→Prop)(b:Bool)(S':Sto):Prop:=∀ H' P' α',Rel X.K H' P' α' S'→qF P P'→α<+:α'→Q b H'
def OkA (P:Hp)(α : List Addr)(Q:List V→Hp→Prop)(ds:List D)(S':Sto):Prop:=∀ vs H' P' α',Rel X.K H' P' α' S'→qF P P'→α<+:α'→qE X.K P' α' ds vs→Q vs H'
abbrev qU (P:Hp)(α : List Addr)(r:Res D)(Q:VK):Prop:=qJ X P α r (OkV X P α Q)
abbrev uK (P:Hp)(α : List Addr)(r:Res Bool)(Q:Bool→Hp→Prop):Prop:=qJ X P α r (OkT X P α Q)
abbrev gS (P:Hp)(α : List Addr)(r:Res (List D))(Q:List V→Hp→Prop):Prop:=qJ X P α r (OkA X P α Q)
def qV (P:Hp)(α : List Addr)(r:Out)(D:Ends):Prop:=
 match r with
 |.nx env' S'=>∀ σ' H' P' α',Rel X.K H' P' α' S'→qW X.K P' α' σ' env'→qF P P'→α<+:α'→D.nx σ' H'
 |.bk env' S'=>∀ σ' H' P' α',Rel X.K H' P' α' S'→qW X.K P' α' σ' env'→qF P P'→α<+:α'→D.bk σ' H'
 |.ct env' S'=>∀ σ' H' P' α',Rel X.K H' P' α' S'→qW X.K P' α' σ' env'→qF P P'→α<+:α'→D.ct σ' H'
 |.rt d S'=>∀ v H' P' α',Rel X.K H' P' α' S'→qF P P'→α<+:α'→Rep X.K P' α' d v→D.rt v H'
 |.ex c x _ S'=>∀ u s',XOk X P α c x S' u s'→X.xe u s'
 |.bad=>False
inductive tD (f:DE)(σ : _L.St)(H:Hp)(Q:VK):Prop
 |mk (P:Hp) (α : List Addr) (env:qD) (S:Sto) (r:Rel X.K H P α S) (re:qW X.K P α σ env) (af:qU X P α (f env S) Q):tD f σ H Q
inductive tDT (f:DT)(σ : _L.St)(H:Hp)(Q:Bool→Hp→Prop):Prop
 |mk (P:Hp) (α : List Addr) (env:qD) (S:Sto) (r:Rel X.K H P α S) (re:qW X.K P α σ env) (af:uK X P α (f env S) Q):tDT f σ H Q
inductive tDA (f:DA)(σ : _L.St)(H:Hp)(Q:List V→Hp→Prop):Prop
 |mk (P:Hp) (α : List Addr) (env:qD) (S:Sto) (r:Rel X.K H P α S) (re:qW X.K P α σ env) (af:gS X P α (f env S) Q):tDA f σ H Q
inductive tDS (f:DS)(D:Ends)(σ : _L.St)(H:Hp):Prop
 |mk (P:Hp) (α : List Addr) (env:qD) (S:Sto) (r:Rel X.K H P α S) (re:qW X.K P α σ env) (af:qV X P α (f env S) D):tDS f D σ H
end
section
variable {X:Cx}{P P1:Hp}{α α1:List Addr}
theorem qU.base {r:Res D}{Q:VK}(e:qF P P1)(h:α<+:α1)(k:qU X P α r Q):qU X P1 α1 r Q:=by
 cases r with
 |ok d S=>exact fun v H' P' α' r q1 q2 q3=>k v H' P' α' r (e.trans q1) (h.trans q2) q3
 |ex c x S=>exact fun u s' q=>k u s' (q.base e h)
 |bad=>exact k
theorem uK.base {r:Res Bool}{Q:Bool→Hp→Prop}(e:qF P P1)(h:α<+:α1)(k:uK X P α r Q):uK X P1 α1 r Q:=by
 cases r with
 |ok d S=>exact fun H' P' α' r q1 q2=>k H' P' α' r (e.trans q1) (h.trans q2)
 |ex c x S=>exact fun u s' q=>k u s' (q.base e h)
 |bad=>exact k
theorem gS.base {r:Res (List D)}{Q:List V→Hp→Prop}(e:qF P P1)(h:α<+:α1)(k:gS X P α r Q):gS X P1 α1 r Q:=by
 cases r with
 |ok d S=>exact fun v H' P' α' r q1 q2 q3=>k v H' P' α' r (e.trans q1) (h.trans q2) q3
 |ex c x S=>exact fun u s' q=>k u s' (q.base e h)
 |bad=>exact k
theorem qV.base {r:Out}{D:Ends}(e:qF P P1)(h:α<+:α1)(k:qV X P α r D):qV X P1 α1 r D:=by
 cases r with
 |nx env S=>exact fun v H' P' α' r q0 q1 q2=>k v H' P' α' r q0 (e.trans q1) (h.trans q2)
 |bk env S=>exact fun v H' P' α' r q0 q1 q2=>k v H' P' α' r q0 (e.trans q1) (h.trans q2)
 |ct env S=>exact fun v H' P' α' r q0 q1 q2=>k v H' P' α' r q0 (e.trans q1) (h.trans q2)
 |rt d S=>exact fun v H' P' α' r q1 q2 q3=>k v H' P' α' r (e.trans q1) (h.trans q2) q3
 |ex c x env S=>exact fun u s' q=>k u s' (q.base e h)
 |bad=>exact k
theorem xr {Q:VK}{v:V}{H:Hp}{d:D}{S:Sto}(k:OkV X P α Q d S)(r:Rel X.K H P α S)(q:Rep X.K P α d v):Q v H:=k v H P α r (qF.refl _) (List.prefix_refl _) q
end
section
variable {X:Cx}{a b e:Expr}{pos:Pos}
theorem peW {t t':TE}(h:PE X e t)(w:∀ σ H Q,t' σ H Q→t σ H Q):PE X e t':=fun pins s σ H Q I q=>h pins s σ H Q I (w σ H Q q)
theorem psW {st:Stmt}{t t':TS}(h:PS X st t)(w:∀ D σ H,t' D σ H→t D σ H):PS X st t':=fun pins s σ H D I q=>h pins s σ H D I (w D σ H q)
theorem M4 {st:List Stmt}{t t':TS}(h:PSs X st t)(w:∀ D σ H,t' D σ H→t D σ H):PSs X st t':=fun pins s σ H D I q=>h pins s σ H D I (w D σ H q)
theorem paW {es:List Expr}{t t':TA}(h:PA X es t)(w:∀ σ H Q,t' σ H Q→t σ H Q):PA X es t':=fun pos pins s σ H Q I q=>h pos pins s σ H Q I (w σ H Q q)
structure Got (X:Cx)(pins:List (Addr × Obj))(σ : _L.St)(env:qD)(P:Hp)(α : List Addr)(u:Value)(s1:Shared)(v:V)(H1 P1:Hp)(α1:List Addr)(d:D)(S1:Sto):Prop where
 inv:Inv X pins σ H1 s1
 val:qK v u
 rel:Rel X.K H1 P1 α1 S1
 env:qW X.K P1 α1 σ env
 rep:Rep X.K P1 α1 d v
 same:qF P P1
 pre:α<+:α1
inductive GotG (X:Cx)(pins:List (Addr × Obj))(σ : _L.St)(env:qD)(P:Hp)(α : List Addr)(u:Value)(s1:Shared){γ : Type}(g:D→Sto→Res γ)(Ok:γ→Sto→Prop):Prop
 |mk (v:V) (H1 P1:Hp) (α1:List Addr) (d:D) (S1:Sto) (G:Got X pins σ env P α u s1 v H1 P1 α1 d S1) (q:qJ X P α (g d S1) Ok):GotG X pins σ env P α u s1 g Ok
inductive GotAG (X:Cx)(pins:List (Addr × Obj))(σ : _L.St)(env:qD)(P:Hp)(α : List Addr)(us:List Value)(s1:Shared){γ : Type}(g:List D→Sto→Res γ)(Ok:γ→Sto→Prop):Prop
 |mk (vs:List V) (H1 P1:Hp) (α1:List Addr) (ds:List D) (S1:Sto) (I:Inv X pins σ H1 s1) (rv:qN vs us) (r:Rel X.K H1 P1 α1 S1) (re:qW X.K P1 α1 σ env) (rp:qE X.K P1 α1 ds vs) (e1:qF P P1) (e2:α<+:α1) (q:qJ X P α (g ds S1) Ok):GotAG X pins σ env P α us s1 g Ok
inductive GotT (X:Cx)(pins:List (Addr × Obj))(σ : _L.St)(env:qD)(P:Hp)(α : List Addr)(b:Bool)(s1:Shared){γ : Type}(g:Bool→Sto→Res γ)(Ok:γ→Sto→Prop):Prop
 |mk (H1 P1:Hp) (α1:List Addr) (S1:Sto) (I:Inv X pins σ H1 s1) (r:Rel X.K H1 P1 α1 S1) (re:qW X.K P1 α1 σ env) (e1:qF P P1) (e2:α<+:α1) (q:qJ X P α (g b S1) Ok):GotT X pins σ env P α b s1 g Ok
theorem xC {γ : Type}{f:DE}{g:D→Sto→Res γ}{Ok:γ→Sto→Prop}{pins:List (Addr × Obj)}{s:Shared}{σ : _L.St}{H P:Hp}{α : List Addr}{env:qD}{S:Sto}(he:PE X e (tD X f))(I:Inv X pins σ H s)(r:Rel X.K H P α S)
  (re:qW X.K P α σ env) (af:qJ X P α ((f env S).bind g) Ok) :
  wpAny (model X.prog X.w) X.A (eval e X.env) (fun u s1=>GotG X pins σ env P α u s1 g Ok) X.xe s:=by
 refine thn (he pins s σ H (fun v H1=>∃ P1 α1 d S1,Rel X.K H1 P1 α1 S1∧qW X.K P1 α1 σ env∧Rep X.K P1 α1 d v∧qF P P1∧α<+:α1∧qJ X P α (g d S1) Ok) I ⟨P,α,env,S,r,re,?_⟩) fun u s1 ⟨v,H1,I1,rv,P1,α1,d,S1,q1,q2,q3,q4,q5,q6⟩=>⟨v,H1,P1,α1,d,S1,⟨I1,rv,q1,q2,q3,q4,q5⟩,q6⟩
 cases q:f env S with
 |bad=>rw[q] at af;exact af
 |ex c x S'=>rw[q] at af;exact af
 |ok d S' =>
  rw[q] at af
  exact fun v H' P' α' r' e1 e2 rp=>⟨P',α',d,S',r',re.mono e1 e2,rp,e1,e2,af⟩
theorem wH {γ : Type}{es:List Expr}{f:DA}{g:List D→Sto→Res γ}{Ok:γ→Sto→Prop}{pins:List (Addr × Obj)}{s:Shared}{σ : _L.St}{H P:Hp}{α : List Addr}{env:qD}{S:Sto}(he:PA X es (tDA X f))(I:Inv X pins σ H s)(r:Rel X.K H P α S)
  (re:qW X.K P α σ env) (af:qJ X P α ((f env S).bind g) Ok) (pos:Pos) :
  wpAny (model X.prog X.w) X.A (spliced (backTo pos (starEach es X.env))) (fun us s1=>GotAG X pins σ env P α us s1 g Ok) X.xe s:=by
 refine thn (he pos pins s σ H (fun vs H1=>∃ P1 α1 ds S1,Rel X.K H1 P1 α1 S1∧qW X.K P1 α1 σ env∧qE X.K P1 α1 ds vs∧qF P P1∧α<+:α1∧qJ X P α (g ds S1) Ok) I ⟨P,α,env,S,r,re,?_⟩) fun u s1 ⟨v,H1,I1,rv,P1,α1,d,S1,q1,q2,q3,q4,q5,q6⟩=>⟨v,H1,P1,α1,d,S1,I1,rv,q1,q2,q3,q4,q5,q6⟩
 cases q:f env S with
 |bad=>rw[q] at af;exact af
 |ex c x S'=>rw[q] at af;exact af
 |ok d S' =>
  rw[q] at af
  exact fun v H' P' α' r' e1 e2 rp=>⟨P',α',d,S',r',re.mono e1 e2,rp,e1,e2,af⟩
theorem gZ {γ : Type}{f:DT}{g:Bool→Sto→Res γ}{Ok:γ→Sto→Prop}{pins:List (Addr × Obj)}{s:Shared}{σ : _L.St}{H P:Hp}{α : List Addr}{env:qD}{S:Sto}{m:Sem Bool}
  (he:∀ (Q:Bool→Hp→Prop),tDT X f σ H Q→wpAny (model X.prog X.w) X.A m (TP X pins σ Q) X.xe s) (r:Rel X.K H P α S) (re:qW X.K P α σ env) (af:qJ X P α ((f env S).bind g) Ok) :
  wpAny (model X.prog X.w) X.A m (fun b s1=>GotT X pins σ env P α b s1 g Ok) X.xe s:=by
 refine thn (he (fun b H1=>∃ P1 α1 S1,Rel X.K H1 P1 α1 S1∧qW X.K P1 α1 σ env∧qF P P1∧α<+:α1∧qJ X P α (g b S1) Ok) ⟨P,α,env,S,r,re,?_⟩) fun b s1 ⟨H1,I1,P1,α1,S1,q1,q2,q4,q5,q6⟩=>⟨H1,P1,α1,S1,I1,q1,q2,q4,q5,q6⟩
 cases q:f env S with
 |bad=>rw[q] at af;exact af
 |ex c x S'=>rw[q] at af;exact af
 |ok d S' =>
  rw[q] at af
  exact fun H' P' α' r' e1 e2=>⟨P',α',S',r',re.mono e1 e2,e1,e2,af⟩
def dC (d:D):DE:=fun _ S=>.ok d S
def qB (i:Nat):DE:=fun env S=>match env[i]? with
 |some (some d)=>.ok d S
 |_=>.bad
theorem GR {i j}:PE X (.Constant (.int i) j pos) (tD X (dC (.int i))):=peW FT fun σ H Q ⟨P,α,env,S,r,re,af⟩=>xr af r (by simp only[Rep])
theorem N7 {i j}:PE X (.Constant (.bool i) j pos) (tD X (dC (.bl i))):=peW LG fun σ H Q ⟨P,α,env,S,r,re,af⟩=>xr af r (by simp only[Rep])
theorem GW {i j}:PE X (.Constant (.str i) j pos) (tD X (dC (.str i))):=peW FW fun σ H Q ⟨P,α,env,S,r,re,af⟩=>xr af r (by simp only[Rep])
theorem GT {j}:PE X (.Constant .none j pos) (tD X (dC .non)):=peW FU fun σ H Q ⟨P,α,env,S,r,re,af⟩=>xr af r (by simp only[Rep])
set_option tactic.hygienic true in
theorem K3 {i:Nat}{σ : _L.St}{H:Hp}{Q:VK}(h:tD X (qB i) σ H Q):T9 i σ H Q:=by
 obtain⟨P,α,env,S,r,re,af⟩:=h
 unfold qB at af
 split at af
 ·rename_i d q
  obtain⟨v,h1,h2⟩:=re.2 i d q
  exact⟨v,h1,xr af r h2⟩
 ·exact False.elim af
theorem dv (i:Nat){x:Str}(hN:X.N[i]? = some x:=by rfl)(hv:Vis X.env.scope x:=by first|exact Or.inl rfl|exact Or.inr (Or.inl rfl)|exact Or.inr (Or.inr rfl))(hd:(x == ("__debug__" : Str))=false:=by decide)
  (hcd:(x == ("__classdict__" : Str))=false:=by decide):PE X (.Name x pos) (tD X (qB i)):=peW (oH hN hv hd hcd) fun σ H Q h=>K3 h
theorem rC {x:Str}{d:D}{v:V}{u:Value}(hg:Gl X x)(hm:X.mg x=some u)(r:qK v u)(q:∀ P α,Rep X.K P α d v)(hd:(x == ("__debug__" : Str))=false:=by decide):PE X (.Name x pos) (tD X (dC d)):=
 peW (UU hg hm r hd) fun σ H Q ⟨P,α,env,S,r,re,af⟩=>xr af r (q _ _)
theorem V3 {x:Str}{n:String}(hg:Gl X x)(hm:X.mg x=none)(hv:bootBuiltins x=some (.type n))(hn:x ≠ "__name__":=by decide)(hd:(x == ("__debug__" : Str))=false:=by decide):PE X (.Name x pos) (tD X (dC (.ty n))):=
 peW (UT (v:=.ty n) hg hm hv rfl hn hd) fun σ H Q ⟨P,α,env,S,r,re,af⟩=>xr af r (by simp only[Rep])
abbrev G2:=D→D→Sto→Res D
def OpD (X:Cx)(f:Value→Value→Sem Value)(g:G2):Prop:=
 ∀ (pins:List (Addr × Obj)) (σ : _L.St) (H:Hp) (s:Shared) (P:Hp) (α : List Addr) (S:Sto) (v u:V) (vv uu:Value) (a b:D) (Q:VK),Inv X pins σ H s→Rel X.K H P α S→qK v vv→qK u uu→Rep X.K P α a v→Rep X.K P α b u→qU X P α (g a b S) Q →
  wpAny (model X.prog X.w) X.A (f vv uu) (EP X pins σ Q) X.xe s
theorem OpD.of {f:Value→Value→Sem Value}{r:R2}{g:G2}(h:OpR X f r)(w:∀ H P α S v u a b Q,Rel X.K H P α S→Rep X.K P α a v→Rep X.K P α b u→qU X P α (g a b S) Q→r v u H Q):OpD X f g:=
 fun pins σ H s P α S v u vv uu a b Q I rl r1 r2 p1 p2 af=>h pins s σ H v u vv uu Q I r1 r2 (w H P α S v u a b Q rl p1 p2 af)
def UnD (X:Cx)(f:Value→Sem Value)(g:D→Sto→Res D):Prop:=
 ∀ (pins:List (Addr × Obj)) (σ : _L.St) (H:Hp) (s:Shared) (P:Hp) (α : List Addr) (S:Sto) (v:V) (vv:Value) (a:D) (Q:VK),Inv X pins σ H s→Rel X.K H P α S→qK v vv→Rep X.K P α a v→qU X P α (g a S) Q →
  wpAny (model X.prog X.w) X.A (f vv) (EP X pins σ Q) X.xe s
def IxD (X:Cx)(g:G2):Prop:=
 ∀ (value slice:Expr) (pins:List (Addr × Obj)) (σ : _L.St) (H:Hp) (s:Shared) (P:Hp) (α : List Addr) (S:Sto) (v u:V) (vv uu:Value) (a b:D) (Q:VK),Inv X pins σ H s→Rel X.K H P α S→qK v vv→qK u uu→Rep X.K P α a v→Rep X.K P α b u→qU X P α (g a b S) Q →
  subscripted slice false vv uu=operate [vv,uu] (getItem vv uu)→wpAny (model X.prog X.w) X.A (subscriptTail value slice vv uu) (EP X pins σ Q) X.xe s
def wX (X:Cx)(f:Value)(g:List D→Sto→Res D):Prop:=
 ∀ (pins:List (Addr × Obj)) (σ : _L.St) (H:Hp) (s:Shared) (P:Hp) (α : List Addr) (S:Sto) (vs:List V) (us:List Value) (ds:List D) (Q:VK),Inv X pins σ H s→Rel X.K H P α S→qN vs us→qE X.K P α ds vs→qU X P α (g ds S) Q →
  wpAny (model X.prog X.w) X.A (call f us) (EP X pins σ Q) X.xe s
def d2 (g:G2)(fa fb:DE):DE:=fun env S=>(fa env S).bind fun x S1=>(fb env S1).bind fun y S2=>g x y S2
def d1 (g:D→Sto→Res D)(fa:DE):DE:=fun env S=>(fa env S).bind g
variable {fa fb:DE}
theorem lN {g:G2}{f:Value→Value→Sem Value}{pins:List (Addr × Obj)}{s:Shared}{σ : _L.St}{H:Hp}{Q:VK}(ho:OpD X f g)(ha:PE X a (tD X fa))(hb:PE X b (tD X fb))(I:Inv X pins σ H s)(h:tD X (d2 g fa fb) σ H Q) :
  wpAny (model X.prog X.w) X.A (eval a X.env) (fun v s₁=>wpAny (model X.prog X.w) X.A (eval b X.env) (fun u s₂=>wpAny (model X.prog X.w) X.A (f v u) (EP X pins σ Q) X.xe s₂) X.xe s₁) X.xe s:=by
 obtain⟨P,α,env,S,r,re,af⟩:=h
 refine thn (xC ha I r re af) fun vv s1 ⟨v,H1,P1,α1,d,S1,G1,af1⟩=>?_
 refine thn (xC hb G1.inv G1.rel G1.env (P:=P1) (α:=α1) (Ok:=OkV X P1 α1 Q) (g:=fun y S2=>g d y S2) ?_) fun uu s2 ⟨u,H2,P2,α2,d',S2,G2,af2⟩=>?_
 ·exact qU.base G1.same G1.pre af1
 ·exact ho pins σ H2 s2 P2 α2 S2 v u vv uu d d' Q G2.inv G2.rel G1.val G2.val (Rep.mono G2.same G2.pre _ _ G1.rep) G2.rep (qU.base G2.same G2.pre af2)
theorem NA {op:Operator}{g:G2}(ho:OpD X (binaryOp op) g)(ha:PE X a (tD X fa))(hb:PE X b (tD X fb)):PE X (.BinOp a op b pos) (tD X (d2 g fa fb)):=
 fun pins s σ H Q I h=>wpAny_BinOp (lN ho ha hb I h)
theorem GO {op:CmpOp}{g:G2}(ho:OpD X (compareOp op) g)(ha:PE X a (tD X fa))(hb:PE X b (tD X fb))(hm:behindInMarks op b=false:=by first|exact k9 _|with_unfolding_all rfl):PE X (.Compare a [op] [b] pos) (tD X (d2 g fa fb)):=
 fun pins s σ H Q I h=>wpAny_Compare1 (lN ho ha hb I h) hm
theorem NB {op:UnaryOp}{g:D→Sto→Res D}(ho:UnD X (unaryOp op) g)(ha:PE X a (tD X fa)):PE X (.UnaryOp op a pos) (tD X (d1 g fa)):=by
 intro pins s σ H Q I h
 obtain⟨P,α,env,S,r,re,af⟩:=h
 exact UnaryOp_ (thn (xC ha I r re af) fun vv s1 ⟨v,H1,P1,α1,d,S1,G1,af1⟩=>ho pins σ H1 s1 P1 α1 S1 v vv d Q G1.inv G1.rel G1.val G1.rep (qU.base G1.same G1.pre af1))
theorem N9 {g:G2}(ho:IxD X g)(ha:PE X a (tD X fa))(hb:PE X b (tD X fb))(hs:m6 b:=by intro _ _;rfl):PE X (.Subscript a b pos) (tD X (d2 g fa fb)):=by
 intro pins s σ H Q I h
 obtain⟨P,α,env,S,r,re,af⟩:=h
 have IxR':IxR X (fun x y H Q=>∃ P α S a b,Rel X.K H P α S∧Rep X.K P α a x∧Rep X.K P α b y∧qU X P α (g a b S) Q):=fun value slice pins s σ H x y v u Q I rx ry ⟨P,α,S,a,b,r,p1,p2,af⟩ hsl =>
  ho value slice pins σ H s P α S x y v u a b Q I r rx ry p1 p2 af hsl
 refine peW (LH IxR' ha hb hs) (t':=tD X (d2 g fa fb)) (fun σ H Q h=>?_) pins s σ H Q I ⟨P,α,env,S,r,re,af⟩
 obtain⟨P,α,env,S,r,re,af⟩:=h
 refine⟨P,α,env,S,r,re,?_⟩
 unfold d2 at af
 cases q:fa env S with
 |bad=>rw[q] at af;exact af
 |ex c x S'=>rw[q] at af;exact af
 |ok d S1 =>
  rw[q] at af
  intro v H1 P1 α1 r1 e1 e2 rp
  refine⟨P1,α1,env,S1,r1,re.mono e1 e2,?_⟩
  have af':qU X P α ((fb env S1).bind fun y S2=>g d y S2) Q:=af
  cases q2:fb env S1 with
  |bad=>rw[q2] at af';exact af'
  |ex c x S'=>rw[q2] at af';exact fun u s' z=>af' u s' (z.base e1 e2)
  |ok d' S2 =>
   rw[q2] at af'
   intro u H2 P2 α2 r2 e3 e4 rp2
   exact⟨P2,α2,S2,d,d',r2,Rep.mono e3 e4 _ _ rp,rp2,qU.base (e1.trans e3) (e2.trans e4) af'⟩
def qC:DA:=fun _ S=>.ok [] S
def qA (f:DE)(g:DA):DA:=fun env S=>(f env S).bind fun x S1=>(g env S1).bind fun xs S2=>.ok (x::xs) S2
theorem GF:PA X [] (tDA X qC):=paW FS fun σ H Q ⟨P,α,env,S,r,re,af⟩=>af [] H P α r (qF.refl _) (List.prefix_refl _) .nil
theorem V1 {es:List Expr}{g:DA}(ha:PE X e (tD X fa))(hr:PA X es (tDA X g))(hs:starEach (e::es) X.env=(false,eval e X.env)::starEach es X.env:=by rfl):PA X (e::es) (tDA X (qA fa g)):=by
 intro pos pins s σ H Q I h
 obtain⟨P,α,env,S,r,re,af⟩:=h
 rw[hs]
 show wpAny _ _ (spliced ((false,eval e X.env)::backTo pos (starEach es X.env))) _ _ s
 refine Calls.spliced_cons (thn (xC ha I r re af) fun u s1 ⟨x,H1,P1,α1,d,S1,G1,af1⟩=>?_)
 refine thn (wH hr G1.inv G1.rel G1.env (P:=P1) (α:=α1) (Ok:=OkA X P1 α1 Q) (gS.base G1.same G1.pre af1) pos) fun us s2 ⟨xs,H2,P2,α2,ds,S2,I2,rv,r2,re2,rp2,e1,e2,af2⟩=>?_
 exact⟨x::xs,H2,I2,.cons G1.val rv,af2 _ _ _ _ r2 e1 e2 (.cons (Rep.mono e1 e2 _ _ G1.rep) rp2)⟩
def lim:Nat:=16777216
theorem zO:lim=sizeLine:=sizeLine_eq.symm
def qZ (f:DA):DE:=fun env S=>(f env S).bind fun xs S1=>if xs.length≤lim then .ok (.tup xs) S1 else .bad
def zW (f:DA):DE:=fun env S=>(f env S).bind fun xs S1=>if xs.length≤lim then .ok (.lst xs) S1 else .bad
def fD (f:DA):DE:=fun env S=>(f env S).bind fun xs S1=>if xs.length≤lim then .ok (.loc S1.length) (S1++[.lst xs]) else .bad
theorem mZ {K:PySem.W.Frag}{P:Hp}{α : List Addr}{a:Addr}{ds:List D}{vs:List V}(h:SqT K P a vs)(r:qE K P α ds vs):Rep K P α (.tup ds) (.ref a):=by simp only[Rep];exact⟨a,vs,rfl,h,r⟩
theorem mY {K:PySem.W.Frag}{P:Hp}{α : List Addr}{a:Addr}{ds:List D}{vs:List V}(h:SqX K P a vs)(r:qE K P α ds vs):Rep K P α (.lst ds) (.ref a):=by simp only[Rep];exact⟨a,vs,rfl,h,r⟩
theorem bR {H P:Hp}{α : List Addr}{S:Sto}{p:Addr}{ds:List D}{vs:List V}{Q:VK}(r:Rel X.K H P α S)(hp:H p=none)(rp:qE X.K P α ds vs)(af:OkV X P α Q (.tup ds) S):Q (.ref p) (upd H p (.tup vs)):=by
 obtain⟨r1,e1⟩:=r.pure (o:=.tup vs) hp
 exact af _ _ _ α r1 e1 (List.prefix_refl _) (mZ (.of qS) (qE.mono e1 (List.prefix_refl _) _ _ rp))
theorem vP {H P:Hp}{α : List Addr}{S:Sto}{p:Addr}{ds:List D}{vs:List V}{Q:VK}(r:Rel X.K H P α S)(hp:H p=none)(rp:qE X.K P α ds vs)(af:OkV X P α Q (.lst ds) S):Q (.ref p) (upd H p (.lst vs)):=by
 obtain⟨r1,e1⟩:=r.pure (o:=.lst vs) hp
 exact af _ _ _ α r1 e1 (List.prefix_refl _) (mY (.inl (.inl qS)) (qE.mono e1 (List.prefix_refl _) _ _ rp))
theorem eF {H P:Hp}{α : List Addr}{S:Sto}{p:Addr}{ds:List D}{vs:List V}{Q:VK}(r:Rel X.K H P α S)(hp:H p=none)(rp:qE X.K P α ds vs)(af:OkV X P α Q (.loc S.length) (S++[.lst ds])):Q (.ref p) (upd H p (.lst vs)):=by
 have hpre:α<+:α++[p]:=List.prefix_append _ _
 have r1:=r.new (o:=.lst vs) (m:=.lst ds) hp ⟨vs,qS,qE.mono (qF.refl _) hpre _ _ rp⟩
 refine af _ _ _ _ r1 (qF.refl _) hpre ?_
 simp only[Rep]
 exact⟨p,rfl,by rw[← r.len];simp⟩
theorem mE {f:DA}{σ : _L.St}{H:Hp}{Q:VK}{G:List D→Sto→Res D}{mk:List V→HO}(h:tD X (fun env S=>(f env S).bind fun xs S1=>if xs.length≤lim then G xs S1 else .bad) σ H Q)
  (k:∀ H1 P1 α1 S1 ds vs p,Rel X.K H1 P1 α1 S1→H1 p=none→qE X.K P1 α1 ds vs→qU X P1 α1 (G ds S1) Q→Q (.ref p) (upd H1 p (mk vs))) :
  tDA X f σ H fun vs H1=>vs.length≤sizeLine∧∀ p,H1 p=none→Q (.ref p) (upd H1 p (mk vs)):=by
 obtain⟨P,α,env,S,r,re,af⟩:=h
 refine⟨P,α,env,S,r,re,?_⟩
 have af':qU X P α ((f env S).bind fun xs S1=>if xs.length≤lim then G xs S1 else .bad) Q:=af
 cases q:f env S with
 |bad=>rw[q] at af';exact af'
 |ex c x S'=>rw[q] at af';exact af'
 |ok ds S1 =>
  rw[q] at af'
  intro vs H1 P1 α1 r1 e1 e2 rp
  have af2:qU X P α (if ds.length≤lim then G ds S1 else .bad) Q:=af'
  by_cases hl:ds.length≤lim
  ·rw[if_pos hl] at af2
   exact⟨by rw[← rp.length,← zO];exact hl,fun p hp=>k H1 P1 α1 S1 ds vs p r1 hp rp (qU.base e1 e2 af2)⟩
  ·rw[if_neg hl] at af2;exact False.elim af2
theorem GX {es:List Expr}{f:DA} {x1} (h:PA X es (tDA X f)):PE X (.Tuple es x1 pos) (tD X (qZ f)):=
 peW (FX h) fun σ H Q q=>mE (G:=fun xs S1=>.ok (.tup xs) S1) (mk:=.tup) q fun H1 P1 α1 S1 ds vs p r hp rp af=>bR r hp rp af
theorem GS {es:List Expr}{f:DA}(h:PA X es (tDA X f)):PE X (.List es pos) (tD X (zW f)):=
 peW (oG h) fun σ H Q q=>mE (G:=fun xs S1=>.ok (.lst xs) S1) (mk:=.lst) q fun H1 P1 α1 S1 ds vs p r hp rp af=>vP r hp rp af
theorem V8 {es:List Expr}{f:DA}(h:PA X es (tDA X f)):PE X (.List es pos) (tD X (fD f)):=
 peW (oG h) fun σ H Q q=>mE (G:=fun xs S1=>.ok (.loc S1.length) (S1++[MO.lst xs])) (mk:=.lst) q fun H1 P1 α1 S1 ds vs p r hp rp af=>eF r hp rp af
end
end _D
end
section
namespace _D
open PySem PySem.Spec PyProof.Rows _L
section
variable {X:Cx}{a b c e:Expr}{pos:Pos}{fa fb fc:DE}{ta tb:DT}
def uB:D→Sto→Option Bool
 |.non,_=>some false
 |.bl b,_=>some b
 |.int i,_=>some (i != 0)
 |.str x,_=>if x.length≤lim then some ((x.length:Int) != 0) else none
 |.tup xs,_=>some (!xs.isEmpty)
 |.lst xs,_=>some (!xs.isEmpty)
 |.dct0,_=>some false
 |.loc i,S=>match S[i]? with
  |some (.lst xs)=>some (!xs.isEmpty)
  |some (.dct kvs)=>some (!kvs.isEmpty)
  |_=>none
 |_,_=>none
theorem qE.isEmpty {K:PySem.W.Frag}{P:Hp}{α : List Addr}{ds:List D}{vs:List V}(r:qE K P α ds vs):(!ds.isEmpty)=!vs.isEmpty:=by
 cases ds with
 |nil=>rw[r.nil_inv];rfl
 |cons d ds=>obtain⟨w,ws,rfl,_,_⟩:=r.cons_inv;rfl
theorem w9 {K:PySem.W.Frag}{H P:Hp}(e:qF P H){a:Addr}{xs:List V}(h:SqT K P a xs):SqT K H a xs:=yP e h
theorem kF {H P:Hp}{α : List Addr}{S:Sto}{v:V}{d:D}{k:Bool}(r:Rel X.K H P α S)(p:Rep X.K P α d v)(h:uB d S=some k):c8 X.K v H k:=by
 cases d with
 |non=>simp only[Rep] at p;subst p;cases h;rfl
 |bl b=>simp only[Rep] at p;subst p;cases h;rfl
 |int i=>simp only[Rep] at p;subst p;cases h;rfl
 |str x =>
  simp only[Rep] at p;subst p
  obtain⟨hl,rfl⟩:=kW h
  exact⟨by rw[← zO];exact hl,rfl⟩
 |tup xs =>
  simp only[Rep] at p
  obtain⟨a,vs,rfl,q,t⟩:=p
  cases h
  exact .inr (.inl ⟨vs,w9 r.sub q,t.isEmpty⟩)
 |lst xs =>
  simp only[Rep] at p
  obtain⟨a,vs,rfl,q,t⟩:=p
  cases h
  exact .inl ⟨vs,(xG r.sub q).l,t.isEmpty⟩
 |dct0 =>
  simp only[Rep] at p
  obtain⟨a,rfl,q⟩:=p
  cases h
  exact .inr (.inr ⟨[],r.sub _ _ q,rfl⟩)
 |loc i =>
  simp only[Rep] at p
  obtain⟨a,rfl,q⟩:=p
  have h:(match S[i]? with|some (.lst xs)=>some (!xs.isEmpty)|some (.dct kvs)=>some (!kvs.isEmpty)|_=>none)=some k:=h
  cases hs:S[i]? with
  |none=>rw[hs] at h;exact nn h
  |some m =>
   rw[hs] at h
   cases m with
   |lst xs =>
    cases h
    obtain⟨vs,z,t⟩:=r.at' i a _ q hs
    exact .inl ⟨vs,.of z,t.isEmpty⟩
   |dct kvs =>
    cases h
    obtain⟨vs,z,t⟩:=r.at' i a _ q hs
    refine .inr (.inr ⟨vs,z,?_⟩)
    cases t <;> rfl
   |_=>exact nn h
 |ty n=>exact nn h
 |obj a=>exact nn h
 |exn c=>exact nn h
 |fd ks ds=>exact nn h
 |clo a vs ds=>exact nn h
theorem D9 {pins:List (Addr × Obj)}{s:Shared}{σ : _L.St}{H P:Hp}{α : List Addr}{S:Sto}{v:V}{vv:Value}{d:D}{k:Bool}{Q:Bool→Hp→Prop}(I:Inv X pins σ H s)(r:Rel X.K H P α S)(rv:qK v vv)(p:Rep X.K P α d v)(h:uB d S=some k)(q:Q k H) :
  wpAny (model X.prog X.w) X.A (truthy vv) (TP X pins σ Q) X.xe s:=fV pins s σ H v vv Q I rv ⟨k,kF r p h,q⟩
def cX (o:Option Bool)(S:Sto):Res Bool:=match o with
 |some b=>.ok b S
 |none=>.bad
def dTr (f:DE):DT:=fun env S=>(f env S).bind fun d S1=>cX (uB d S1) S1
theorem eR {o:Option Bool}{S:Sto}{P:Hp}{α : List Addr}{Ok:Bool→Sto→Prop}(h:qJ X P α (cX o S) Ok):∃ b,o=some b∧Ok b S:=by
 cases o with
 |none=>exact False.elim h
 |some b=>exact⟨b,rfl,h⟩
theorem PQ (ha:PE X a (tD X fa))(he:∀ whole,isTrue a X.env whole=(do let v ← whole;standAt a.pos;holding [v] (truthy v)):=by intro _;rfl):PT X a (tDT X (dTr fa)):=by
 intro pins s σ H Q I h
 obtain⟨P,α,env,S,r,re,af⟩:=h
 refine isTrue_plain (thn (xC ha I r re af) fun vv s1 ⟨v,H1,P1,α1,d,S1,G1,af1⟩=>?_) (he _)
 obtain⟨k,e1,q⟩:=eR af1
 exact D9 G1.inv G1.rel G1.val G1.rep e1 (q H1 P1 α1 G1.rel G1.same G1.pre)
theorem PN {op:CmpOp}{g:G2}(ho:OpD X (compareOp op) g)(ha:PE X a (tD X fa))(hb:PE X b (tD X fb))(hm:behindInMarks op b=false:=by first|exact k9 _|with_unfolding_all rfl):PT X (.Compare a [op] [b] pos) (tDT X (dTr (d2 g fa fb))):=by
 intro pins s σ H Q I h
 obtain⟨P,α,env,S,r,re,af⟩:=h
 refine wpAny_isTrue_Compare1 ?_ hm
 have key:tD X (d2 g fa fb) σ H (fun v H1=>∃ k,c8 X.K v H1 k∧Q k H1):=by
  refine⟨P,α,env,S,r,re,?_⟩
  have af':qJ X P α ((d2 g fa fb env S).bind fun d S1=>cX (uB d S1) S1) (OkT X P α Q):=af
  cases q:d2 g fa fb env S with
  |bad=>rw[q] at af';exact af'
  |ex c x S'=>rw[q] at af';exact af'
  |ok d S1 =>
   rw[q] at af'
   obtain⟨k,e1,qk⟩:=eR (X:=X) af'
   exact fun v H1 P1 α1 r1 e3 e4 rp=>⟨k,kF r1 rp e1,qk H1 P1 α1 r1 e3 e4⟩
 exact thn (lN ho ha hb I key) fun v s1 h1=>thn h1 fun u s2 h2=>thn h2 fun x s3 ⟨y,H3,I3,r3,k,tk,qk⟩=>fV pins s3 σ H3 y x Q I3 r3 ⟨k,tk,qk⟩
def lO (g g':G2)(fa fb fc:DE):DE:=fun env S=>(fa env S).bind fun x S1=>(fb env S1).bind fun y S2=>(g x y S2).bind fun z S3 =>
 match uB z S3 with
 |some true=>(fc env S3).bind fun w S4=>g' y w S4
 |some false=>.ok z S3
 |none=>.bad
inductive GotO (X:Cx)(pins:List (Addr × Obj))(σ : _L.St)(P:Hp)(α : List Addr)(w:Value)(s1:Shared){γ : Type}(k:D→Sto→Res γ)(Ok:γ→Sto→Prop):Prop
 |mk (y:V) (H1 P1:Hp) (α1:List Addr) (d:D) (S1:Sto) (I:Inv X pins σ H1 s1) (rv:qK y w) (r:Rel X.K H1 P1 α1 S1) (rp:Rep X.K P1 α1 d y) (e1:qF P P1) (e2:α<+:α1) (q:qJ X P α (k d S1) Ok):GotO X pins σ P α w s1 k Ok
theorem FL {γ : Type}{f:Value→Value→Sem Value}{g:G2}{k:D→Sto→Res γ}{Ok:γ→Sto→Prop}{pins:List (Addr × Obj)}{σ : _L.St}{H:Hp}{s:Shared}{P:Hp}{α : List Addr}{S:Sto}{v u:V}{vv uu:Value}{a b:D}(ho:OpD X f g)(I:Inv X pins σ H s)(r:Rel X.K H P α S)
  (rv:qK v vv) (ru:qK u uu) (pa:Rep X.K P α a v) (pb:Rep X.K P α b u) (af:qJ X P α ((g a b S).bind k) Ok) :
  wpAny (model X.prog X.w) X.A (f vv uu) (fun w s1=>GotO X pins σ P α w s1 k Ok) X.xe s:=by
 refine thn (ho pins σ H s P α S v u vv uu a b (fun y H1=>∃ P1 α1 d S1,Rel X.K H1 P1 α1 S1∧Rep X.K P1 α1 d y∧qF P P1∧α<+:α1∧qJ X P α (k d S1) Ok) I r rv ru pa pb ?_) fun w s1 ⟨y,H1,I1,r1,P1,α1,d,S1,q1,q2,q3,q4,q5⟩=>⟨y,H1,P1,α1,d,S1,I1,r1,q1,q2,q3,q4,q5⟩
 cases q:g a b S with
 |bad=>rw[q] at af;exact af
 |ex c x S'=>rw[q] at af;exact af
 |ok d S' =>
  rw[q] at af
  exact fun v H' P' α' r' e1 e2 rp=>⟨P',α',d,S',r',rp,e1,e2,af⟩
theorem qJ.base' {β : Type}{P P1:Hp}{α α1:List Addr}{r:Res β}{Ok Ok1:β→Sto→Prop}(e:qF P P1)(h:α<+:α1)(ho:∀ d S,Ok d S→Ok1 d S)(k:qJ X P α r Ok):qJ X P1 α1 r Ok1:=by
 cases r with
 |ok d S=>exact ho d S k
 |ex c x S=>exact fun u s' q=>k u s' (q.base e h)
 |bad=>exact k
theorem ZC {op op':CmpOp}{g g':G2}(ho:OpD X (compareOp op) g)(ho':OpD X (compareOp op') g')(ha:PE X a (tD X fa))(hb:PE X b (tD X fb))(hc:PE X c (tD X fc))
  (hm:lastMarks [op,op'] [b,c]=false:=by with_unfolding_all rfl):PE X (.Compare a [op,op'] [b,c] pos) (tD X (lO g g' fa fb fc)):=by
 intro pins s σ H Q I h
 obtain⟨P,α,env,S,r,re,af⟩:=h
 refine Compare_chain (thn (xC ha I r re af) fun vv s1 ⟨v,H1,P1,α1,d,S1,G1,af1⟩=>chain_link (thn (xC hb G1.inv G1.rel G1.env (qU.base G1.same G1.pre af1)) fun uu s2 ⟨u,H2,P2,α2,d',S2,G2,af2⟩ =>
  thn (FL ho G2.inv G2.rel G1.val G2.val (Rep.mono G2.same G2.pre _ _ G1.rep) G2.rep (qU.base G2.same G2.pre af2)) fun w s3 ⟨y,H3,P3,α3,z,S3,I3,r3,rl3,rp3,e3,e4,af3⟩=>?_)) hm
 cases ht:uB z S3 with
 |none=>simp only[ht] at af3;exact False.elim af3
 |some k =>
  simp only[ht] at af3
  have tv:=kF rl3 rp3 ht
  refine thn (fV pins s3 σ H3 y w (fun k' H'=>k'=k∧H'=H3) I3 r3 ⟨k,tv,rfl,rfl⟩) fun k' s4 ⟨H4,I4,hk,hH⟩=>?_
  subst hk;subst hH
  cases k' with
  |false=>exact ite_ff ⟨y,H4,I4,r3,af3 y H4 P3 α3 rl3 e3 e4 rp3⟩
  |true =>
   refine ite_tt (chain_last (thn (xC hc I4 rl3 (G2.env.mono e3 e4) (qU.base e3 e4 af3)) fun ww s5 ⟨w',H5,P5,α5,d5,S5,G5,af5⟩=>?_))
   exact ho' pins σ H5 s5 P5 α5 S5 u w' uu ww d' d5 Q G5.inv G5.rel G2.val G5.val (Rep.mono (e3.trans G5.same) (e4.trans G5.pre) _ _ G2.rep) G5.rep (qU.base G5.same G5.pre af5)
def vV (t:DT):DT:=fun env S=>(t env S).bind fun b S1=>.ok (!b) S1
def zM (t u:DT):DT:=fun env S=>(t env S).bind fun b S1=>if b then u env S1 else .ok false S1
def jO (t u:DT):DT:=fun env S=>(t env S).bind fun b S1=>if b then .ok true S1 else u env S1
theorem PP (ha:PT X a (tDT X ta)):PT X (.UnaryOp .Not a pos) (tDT X (vV ta)):=by
 intro pins s σ H Q I h
 obtain⟨P,α,env,S,r,re,af⟩:=h
 refine isTrue_not (thn (gZ (fun Q' q=>ha pins s σ H Q' I q) r re af) fun b s1 ⟨H1,P1,α1,S1,I1,r1,re1,e1,e2,af1⟩=>⟨H1,I1,af1 H1 P1 α1 r1 e1 e2⟩)
def PWD (X:Cx)(e:Expr)(t:DT):Prop:=PW X e (tDT X t)
theorem PWD.pt {t:DT}(h:PWD X e t):PT X e (tDT X t):=h _
theorem VQ (ha:PT X a (tDT X ta)):PWD X (.BoolOp .And [a] pos) ta:=J7 ha
theorem PV (ha:PT X a (tDT X ta)):PWD X (.BoolOp .Or [a] pos) ta:=M5 ha
theorem PU {rest:List Expr}(ha:PT X a (tDT X ta))(hb:PWD X (.BoolOp .And (b::rest) pos) tb):PWD X (.BoolOp .And (a::b::rest) pos) (zM ta tb):=by
 intro wh pins s σ H Q I h
 obtain⟨P,α,env,S,r,re,af⟩:=h
 refine isTrue_and (thn (gZ (fun Q' q=>ha pins s σ H Q' I q) r re af) fun k s1 ⟨H1,P1,α1,S1,I1,r1,re1,e1,e2,af1⟩=>?_)
 cases k with
 |true=>exact hb wh pins s1 σ H1 Q I1 ⟨P1,α1,env,S1,r1,re1,uK.base e1 e2 af1⟩
 |false=>exact⟨H1,I1,af1 H1 P1 α1 r1 e1 e2⟩
theorem NI {rest:List Expr}(ha:PT X a (tDT X ta))(hb:PWD X (.BoolOp .Or (b::rest) pos) tb):PWD X (.BoolOp .Or (a::b::rest) pos) (jO ta tb):=by
 intro wh pins s σ H Q I h
 obtain⟨P,α,env,S,r,re,af⟩:=h
 refine isTrue_or (thn (gZ (fun Q' q=>ha pins s σ H Q' I q) r re af) fun k s1 ⟨H1,P1,α1,S1,I1,r1,re1,e1,e2,af1⟩=>?_)
 cases k with
 |true=>exact⟨H1,I1,af1 H1 P1 α1 r1 e1 e2⟩
 |false=>exact hb wh pins s1 σ H1 Q I1 ⟨P1,α1,env,S1,r1,re1,uK.base e1 e2 af1⟩
def mC (f g:DE):DE:=fun env S=>(f env S).bind fun x S1=>match uB x S1 with
 |some true=>g env S1
 |some false=>.ok x S1
 |none=>.bad
def Z6 (f:DE):DE:=fun env S=>(f env S).bind fun x S1=>match uB x S1 with
 |some b=>.ok (.bl (!b)) S1
 |none=>.bad
theorem GV {op} (h:PE X a (tD X fa)):PE X (.BoolOp op [a] pos) (tD X fa):=FV h
theorem TF {pins:List (Addr × Obj)}{s:Shared}{σ : _L.St}{H:Hp}{v:V}{vv:Value}{k:Bool}{R:Bool→Shared→Prop}(I:Inv X pins σ H s)(rv:qK v vv)(t:c8 X.K v H k)(h:∀ s',Inv X pins σ H s'→R k s') :
  wpAny (model X.prog X.w) X.A (truthy vv) R X.xe s:=thn (fV pins s σ H v vv (fun k' H'=>k'=k∧H'=H) I rv ⟨k,t,rfl,rfl⟩) fun k' s4 ⟨H4,I4,hk,hH⟩=>by subst hk;subst hH;exact h s4 I4
theorem GK {rest:List Expr}(ha:PE X a (tD X fa))(hb:PE X (.BoolOp .And (b::rest) pos) (tD X fb)):PE X (.BoolOp .And (a::b::rest) pos) (tD X (mC fa fb)):=by
 intro pins s σ H Q I h
 obtain⟨P,α,env,S,r,re,af⟩:=h
 refine BoolOp_and (thn (xC ha I r re af) fun vv s1 ⟨v,H1,P1,α1,d,S1,G1,af1⟩=>?_)
 cases ht:uB d S1 with
 |none=>simp only[ht] at af1;exact False.elim af1
 |some k =>
  simp only[ht] at af1
  refine TF G1.inv G1.val (kF G1.rel G1.rep ht) fun s2 I2=>?_
  cases k with
  |true=>exact hb pins s2 σ H1 Q I2 ⟨P1,α1,env,S1,G1.rel,G1.env,qU.base G1.same G1.pre af1⟩
  |false=>exact⟨v,H1,I2,G1.val,af1 v H1 P1 α1 G1.rel G1.same G1.pre G1.rep⟩
theorem GU (ha:PE X a (tD X fa)):PE X (.UnaryOp .Not a pos) (tD X (Z6 fa)):=by
 intro pins s σ H Q I h
 obtain⟨P,α,env,S,r,re,af⟩:=h
 refine UnaryOp_ (thn (xC ha I r re af) fun vv s1 ⟨v,H1,P1,α1,d,S1,G1,af1⟩=>?_)
 cases ht:uB d S1 with
 |none=>simp only[ht] at af1;exact False.elim af1
 |some k =>
  simp only[ht] at af1
  exact not_of (TF G1.inv G1.val (kF G1.rel G1.rep ht) fun s2 I2=>⟨.bl (!k),H1,I2,rfl,af1 (.bl (!k)) H1 P1 α1 G1.rel G1.same G1.pre (by simp only[Rep])⟩)
end
end _D
end
section
namespace _D
open PySem PySem.Spec PyProof.Rows _L
@[inline] def Res.toS {β : Type}(env:qD)(r:Res β)(k:β→Sto→Out):Out:=
 match r with
 |.ok d S=>k d S
 |.ex c x S=>.ex c x env S
 |.bad=>.bad
section
variable {X:Cx}{a b c e:Expr}{pos:Pos}{fa fb fc:DE}{ta tb:DT}{f g:DS}{st:Stmt}{rest:List Stmt}
def x8:DS:=fun env S=>.nx env S
def qR (f g:DS):DS:=fun env S=>match f env S with
 |.nx env1 S1=>g env1 S1
 |o=>o
theorem PC:PSs X [] (tDS X x8):=M4 J2 fun D σ H ⟨P,α,env,S,r,re,af⟩=>af σ H P α r re (qF.refl _) (List.prefix_refl _)
theorem VI (h1:PS X st (tDS X f))(h2:PSs X rest (tDS X g)):PSs X (st::rest) (tDS X (qR f g)):=M4 (XU h1 h2) fun D σ H ⟨P,α,env,S,r,re,af⟩=>by
 refine⟨P,α,env,S,r,re,?_⟩
 unfold qR at af
 cases q:f env S with
 |nx env1 S1 =>
  rw[q] at af
  exact fun σ' H' P' α' r' re' e1 e2=>⟨P',α',env1,S1,r',re',qV.base e1 e2 af⟩
 |rt d S1=>rw[q] at af;exact af
 |bk env1 S1=>rw[q] at af;exact af
 |ct env1 S1=>rw[q] at af;exact af
 |ex c x env1 S1=>rw[q] at af;exact af
 |bad=>rw[q] at af;exact af
theorem PD (h1:PS X st (tDS X f)):PSs X [st] (tDS X f):=J3 h1
theorem xP {β : Type}{P:Hp}{α : List Addr}{env:qD}{r:Res β}{k:β→Sto→Out}{D:Ends}(h:qV X P α (r.toS env k) D):qJ X P α r fun d S=>qV X P α (k d S) D:=by
 cases r with
 |ok d S=>exact h
 |ex c x S=>exact h
 |bad=>exact h
inductive GotS (X:Cx)(pins:List (Addr × Obj))(σ : _L.St)(env:qD)(P:Hp)(α : List Addr)(u:Value)(s1:Shared)(k:D→Sto→Out)(E:Ends):Prop
 |mk (v:V) (H1 P1:Hp) (α1:List Addr) (d:D) (S1:Sto) (G:Got X pins σ env P α u s1 v H1 P1 α1 d S1) (q:qV X P1 α1 (k d S1) E):GotS X pins σ env P α u s1 k E
theorem fE {k:D→Sto→Out}{pins:List (Addr × Obj)}{s:Shared}{σ : _L.St}{H P:Hp}{α : List Addr}{env:qD}{S:Sto}{D:Ends}(he:PE X e (tD X fa))(I:Inv X pins σ H s)(r:Rel X.K H P α S)
  (re:qW X.K P α σ env) (af:qV X P α ((fa env S).toS env k) D) :
  wpAny (model X.prog X.w) X.A (eval e X.env) (fun u s1=>GotS X pins σ env P α u s1 k D) X.xe s:=by
 have af1:qJ X P α ((fa env S).bind fun d S=>.ok d S) fun d S=>qV X P α (k d S) D:=by
  have:=xP af
  cases q:fa env S <;> rw[q] at this <;> exact this
 exact thn (xC he I r re af1) fun u s1 ⟨v,H1,P1,α1,d,S1,G,q⟩=>⟨v,H1,P1,α1,d,S1,G,qV.base G.same G.pre q⟩
def xN (f:DE):DS:=fun env S=>(f env S).toS env fun _ S1=>.nx env S1
theorem VJ (he:PE X e (tD X fa))(hs:swapsWith e none pos.line X.env=pure false:=by rfl):PS X (.Expr e pos) (tDS X (xN fa)):=by
 intro pins s σ H D I h
 obtain⟨P,α,env,S,r,re,af⟩:=h
 exact wpAny_Expr_any (thn (fE he I r re af) fun v s1 ⟨x,H1,P1,α1,d,S1,G,q⟩=>⟨σ,H1,G.inv,q σ H1 P1 α1 G.rel G.env (qF.refl _) (List.prefix_refl _)⟩) I.quiet hs
def zB (f:DE):DS:=fun env S=>(f env S).toS env fun d S1=>.rt d S1
theorem PH (he:PE X e (tD X fa)):PS X (.Return (some e) pos) (tDS X (zB fa)):=by
 intro pins s σ H D I h
 obtain⟨P,α,env,S,r,re,af⟩:=h
 exact wpAny_Return_some (thn (fE he I r re af) fun v s1 ⟨x,H1,P1,α1,d,S1,G,q⟩=>⟨x,σ,H1,G.inv,G.val,q x H1 P1 α1 G.rel (qF.refl _) (List.prefix_refl _) G.rep⟩)
def sIf (t:DT)(f g:DS):DS:=fun env S=>(t env S).toS env fun b S1=>if b then f env S1 else g env S1
theorem NF {c:Expr}{as bs:List Stmt}(hc:PT X c (tDT X ta))(ha:PSs X as (tDS X f))(hb:PSs X bs (tDS X g)):PS X (.If c as bs pos) (tDS X (sIf ta f g)):=by
 intro pins s σ H D I h
 obtain⟨P,α,env,S,r,re,af⟩:=h
 have af1:qJ X P α ((ta env S).bind fun d S=>.ok d S) fun b S=>qV X P α (if b then f env S else g env S) D:=by
  have:=xP af
  cases q:ta env S <;> rw[q] at this <;> exact this
 refine wpAny_If (thn (gZ (fun Q' q=>hc pins s σ H Q' I q) r re af1) fun k s1 ⟨H1,P1,α1,S1,I1,r1,re1,e1,e2,af2⟩=>?_)
 cases k with
 |true=>exact ha pins s1 σ H1 D I1 ⟨P1,α1,env,S1,r1,re1,qV.base e1 e2 af2⟩
 |false=>exact hb pins s1 σ H1 D I1 ⟨P1,α1,env,S1,r1,re1,qV.base e1 e2 af2⟩
abbrev DG:=D→qD→Sto→Res qD
abbrev DGs:=List D→qD→Sto→Res qD
def OkE (X:Cx)(P:Hp)(α : List Addr)(Q:_L.St→Hp→Prop)(env':qD)(S':Sto):Prop:=∀ σ' H' P' α',Rel X.K H' P' α' S'→qW X.K P' α' σ' env'→qF P P'→α<+:α'→Q σ' H'
def tDG (X:Cx)(g:DG):TG:=fun v σ H Q=>∃ P α env S d,Rel X.K H P α S∧qW X.K P α σ env∧Rep X.K P α d v∧qJ X P α (g d env S) (OkE X P α Q)
def sH (X:Cx)(g:DGs):TGs:=fun vs σ H Q=>∃ P α env S ds,Rel X.K H P α S∧qW X.K P α σ env∧qE X.K P α ds vs∧qJ X P α (g ds env S) (OkE X P α Q)
theorem qW.set {K:PySem.W.Frag}{P:Hp}{α : List Addr}{σ : _L.St}{env:qD}{d:D}{v:V}(re:qW K P α σ env)(i:Nat)(rp:Rep K P α d v):qW K P α (σ.set i (some v)) (env.set i (some d)):=by
 refine⟨by simp[re.1],fun j d' e=>?_⟩
 by_cases hj:i=j
 ·subst hj
  by_cases hi:i<env.length
  ·rw[List.getElem?_set_self hi] at e
   cases e
   exact⟨v,by rw[List.getElem?_set_self (by rw[← re.1];exact hi)],rp⟩
  ·rw[List.getElem?_eq_none (by simp;omega)] at e;cases e
 ·rw[List.getElem?_set_ne hj] at e ⊢
  exact re.2 j d' e
def gNm (i:Nat):DG:=fun d env S=>.ok (env.set i (some d)) S
theorem VB {i:Nat}{x:Str}(hN:X.N.Nodup)(hi:X.N[i]? = some x:=by rfl)(hx:Loc X.env.scope x:=by first|exact Or.inl rfl|exact Or.inr rfl)(hf:X.fn x=true∨X.env.scope.names.lookup x=some .local:=by first|exact .inl rfl|exact .inr rfl|assumption):PG X (.Name x pos) (tDG X (gNm i)):=by
 intro pins s σ H v u Q I rv h
 obtain⟨P,α,env,S,d,r,re,rp,af⟩:=h
 exact UV hN hi hx hf pins s σ H v u Q I rv (af _ H P α r (re.set i rp) (qF.refl _) (List.prefix_refl _))
def jD:DGs:=fun ds env S=>match ds with
 |[]=>.ok env S
 |_=>.bad
def xA (g:DG)(gs:DGs):DGs:=fun ds env S=>match ds with
 |d::r=>(g d env S).bind fun env1 S1=>gs r env1 S1
 |[]=>.bad
theorem VC:PGs X [] (sH X jD):=by
 intro pins s σ H vs us Q I rv h
 obtain⟨P,α,env,S,ds,r,re,rp,af⟩:=h
 cases ds with
 |nil=>exact UW pins s σ H vs us Q I rv ⟨rp.nil_inv,af σ H P α r re (qF.refl _) (List.prefix_refl _)⟩
 |cons d ds=>exact False.elim af
theorem ZG {es:List Expr}{g:DG}{gs:DGs}(h1:PG X e (tDG X g))(h2:PGs X es (sH X gs))(hs:(assignEach (e::es) X.env).map (·.2)=assign e X.env::(assignEach es X.env).map (·.2):=by rfl):PGs X (e::es) (sH X (xA g gs)):=by
 intro pins s σ H vs us Q I rv h
 obtain⟨P,α,env,S,ds,r,re,rp,af⟩:=h
 cases ds with
 |nil=>exact False.elim af
 |cons d ds =>
  obtain⟨w,ws,rfl,p1,p2⟩:=rp.cons_inv
  refine XS h1 h2 hs pins s σ H _ us Q I rv ⟨w,ws,rfl,P,α,env,S,d,r,re,p1,?_⟩
  have af':qJ X P α ((g d env S).bind fun env1 S1=>gs ds env1 S1) (OkE X P α Q):=af
  cases q:g d env S with
  |bad=>rw[q] at af';exact af'
  |ex c x S'=>rw[q] at af';exact af'
  |ok env1 S1 =>
   rw[q] at af'
   intro σ' H' P' α' r' re' e1 e2
   refine⟨P',α',env1,S1,ds,r',re',qE.mono e1 e2 _ _ p2,qJ.base' e1 e2 (fun env' S' ok σ2 H2 P2 α2 r2 re2 e3 e4=>ok σ2 H2 P2 α2 r2 re2 (e1.trans e3) (e2.trans e4)) af'⟩
def gTp (n:Nat)(gs:DGs):DG:=fun d env S=>match d with
 |.tup xs=>if xs.length=n then gs xs env S else .bad
 |_=>.bad
set_option tactic.hygienic true in
theorem P6 {es:List Expr}{k:Nat}{gs:DGs}{n:Nat}(hc:X.calm=true)(h:PGs X es (sH X gs))(hn:(assignEach es X.env).length=n:=by rfl)(hst:(assignEach es X.env).findIdx? (·.1)=none:=by rfl):PG X (.Tuple es k pos) (tDG X (gTp n gs)):=by
 intro pins s σ H v u Q I rv hw
 obtain⟨P,α,env,S,d,r,re,rp,af⟩:=hw
 cases d with
 |tup xs =>
  simp only[Rep] at rp
  obtain⟨a,vs,rfl,q,t⟩:=rp
  simp only[gTp] at af
  split at af
  ·rename_i hl
   exact FY hc h hn hst pins s σ H _ u Q I rv ⟨a,vs,rfl,w9 r.sub q,by rw[← t.length];exact hl,P,α,env,S,xs,r,re,t,af⟩
  ·exact False.elim af
 |_=>exact False.elim af
abbrev G3:=D→D→D→Sto→Res Unit
def OkU (X:Cx)(P:Hp)(α : List Addr)(Q:Hp→Prop)(_:Unit)(S':Sto):Prop:=∀ H' P' α',Rel X.K H' P' α' S'→qF P P'→α<+:α'→Q H'
def nW (X:Cx)(g:G3):QP:=fun o i v H Q=>∃ P α S a b d,Rel X.K H P α S∧Rep X.K P α a o∧Rep X.K P α b i∧Rep X.K P α d v∧qJ X P α (g a b d S) (OkU X P α Q)
def gSb (fo fi:DE)(g:G3):DG:=fun d env S=>(fo env S).bind fun o S1=>(fi env S1).bind fun i S2=>(g o i d S2).bind fun _ S3=>.ok env S3
theorem GZ {o i:Expr}{fo fi:DE}{g:G3}(ho:PE X o (tD X fo))(hi:PE X i (tD X fi))(hs:l7 X (nW X g))
  (ha:∀ v,assign (.Subscript o i pos) X.env v=(do
   let ov ← holding [v] (eval o X.env)
   let iv ← holding [v,ov] (eval i X.env)
   standAt pos
   holding [v,ov,iv] (setItem ov iv v)
   release [v,ov,iv] []):=by intro _;rfl):PG X (.Subscript o i pos) (tDG X (gSb fo fi g)):=by
 intro pins s σ H v u Q I rv h
 obtain⟨P,α,env,S,d,r,re,rp,af⟩:=h
 rw[ha]
 refine wpAny_bind (wpAny_holding (thn (xC ho I r re af) fun ov s1 ⟨x,H1,P1,α1,d1,S1,G1,af1⟩=>?_))
 refine wpAny_bind (wpAny_holding (thn (xC hi G1.inv G1.rel G1.env (P:=P1) (α:=α1) (Ok:=OkE X P1 α1 Q) (qJ.base' G1.same G1.pre (fun env' S' ok σ2 H2 P2 α2 r2 re2 e3 e4=>ok σ2 H2 P2 α2 r2 re2 (G1.same.trans e3) (G1.pre.trans e4)) af1)) fun iv s2 ⟨y,H2,P2,α2,d2,S2,G2,af2⟩=>?_))
 refine wpAny_bind (wpAny_standAt (wpAny_bind (wpAny_holding (thn (hs pins s2 σ H2 x y v ov iv u (fun H3=>Q σ H3) G2.inv G1.val G2.val rv ⟨P2,α2,S2,d1,d2,d,G2.rel,Rep.mono G2.same G2.pre _ _ G1.rep,G2.rep,Rep.mono (G1.same.trans G2.same) (G1.pre.trans G2.pre) _ _ rp,?_⟩) fun _ s3 ⟨H3,I3,q3⟩=>?_))))
 ·cases q:g d1 d2 d S2 with
  |bad=>rw[q] at af2;exact af2
  |ex c x S'=>rw[q] at af2;exact fun u s' z=>af2 u s' (z.base G2.same G2.pre)
  |ok w S3 =>
   rw[q] at af2
   exact fun H' P' α' r' e1 e2=>af2 σ H' P' α' r' (G2.env.mono e1 e2) (G2.same.trans e1) (G2.pre.trans e2)
 ·exact wpAny_release ⟨σ,H3,I3,q3⟩
def zG (f:DE)(g:DG):DS:=fun env S=>(f env S).toS env fun d S1=>(g d env S1).toS env fun env' S2=>.nx env' S2
theorem aJ {g:DG}{d:D}{env:qD}{S:Sto}{P:Hp}{α : List Addr}{D':Ends}(h:qV X P α ((g d env S).toS env fun env' S2=>.nx env' S2) D'):qJ X P α (g d env S) (OkE X P α D'.nx):=by
 cases q:g d env S with
 |bad=>rw[q] at h;exact h
 |ex c x S'=>rw[q] at h;exact h
 |ok env1 S1=>rw[q] at h;exact h
theorem P9 {tg e:Expr}{g:DG}(he:PE X e (tD X fa))(hg:PG X tg (tDG X g))(hs:swapsWithSole [tg] e pos.line X.env=pure false:=by rfl)(hw:swappedStores [tg] e X.env=pure none:=by rfl)
  (h1:(assignEach [tg] X.env).map (·.2)=[assign tg X.env]:=by rfl):PS X (.Assign [tg] e pos) (tDS X (zG fa g)):=by
 intro pins s σ H D I h
 obtain⟨P,α,env,S,r,re,af⟩:=h
 refine wpAny_Assign_stores (thn (fE he I r re af) fun v s1 ⟨x,H1,P1,α1,d,S1,G,q⟩=>?_) hs hw
 rw[h1]
 exact thn (hg pins s1 σ H1 x v _ G.inv G.val ⟨P1,α1,env,S1,d,G.rel,G.env,G.rep,aJ q⟩) fun _ s2 q=>q
theorem PL {i:Nat}{x:Str}{e:Expr}{pos':Pos}(hN:X.N.Nodup)(he:PE X e (tD X fa))(hi:X.N[i]? = some x:=by rfl)(hx:Loc X.env.scope x:=by first|exact Or.inl rfl|exact Or.inr rfl)(hs:swapsWith e (some (.Name x pos')) pos.line X.env=pure false:=by rfl)
  (hf:X.fn x=true∨X.env.scope.names.lookup x=some .local:=by first|exact .inl rfl|exact .inr rfl|assumption):PS X (.Assign [.Name x pos'] e pos) (tDS X (zG fa (gNm i))):=by
 intro pins s σ H D I h
 obtain⟨P,α,env,S,r,re,af⟩:=h
 refine wpAny_Assign_Name (thn (fE he I r re af) fun v s1 ⟨y,H1,P1,α1,d,S1,G,q⟩=>?_) hs
 exact wW G.inv hN hi hx G.val (fun s2 I2=>⟨_,H1,I2,q _ H1 P1 α1 G.rel (G.env.set i G.rep) (qF.refl _) (List.prefix_refl _)⟩) hf
def dP (i j:Nat)(env:qD)(S1:Sto):List D→Out
 |[x,y]=>.nx ((env.set i (some x)).set j (some y)) S1
 |_=>.bad
def bT (i j:Nat)(f:DA):DS:=fun env S=>(f env S).toS env fun ds S1=>dP i j env S1 ds
theorem PF {i j:Nat}{x y:Str}{a b:Expr}{f:DA}{px py pt:Pos} {kt k2 pt2} (hc:X.calm=true) (hN:X.N.Nodup) (ha:PA X [a,b] (tDA X f)) (hi:X.N[i]? = some x:=by rfl) (hj:X.N[j]? = some y:=by rfl) (hij:i≠j:=by decide)
  (hx:X.env.scope.names.lookup x=some .local:=by rfl) (hy:X.env.scope.names.lookup y=some .local:=by rfl)
  (hw:swappedStores [.Tuple [.Name x px,.Name y py] kt pt] (.Tuple [a,b] k2 pt2) X.env=pure (some [x,y]):=by rfl)
  (hs:swapsWithSole [.Tuple [.Name x px,.Name y py] kt pt] (.Tuple [a,b] k2 pt2) pos.line X.env=pure false:=by rfl) :
  PS X (.Assign [.Tuple [.Name x px,.Name y py] kt pt] (.Tuple [a,b] k2 pt2) pos) (tDS X (bT i j f)):=psW (M3 hc hN hi hj hij hx hy ha hw hs) fun D σ H ⟨P,α,env,S,r,re,af⟩=>by
 refine⟨P,α,env,S,r,re,?_⟩
 have af1:=xP af
 cases q:f env S with
 |bad=>rw[q] at af1;exact af1
 |ex c x S'=>rw[q] at af1;exact af1
 |ok ds S1 =>
  rw[q] at af1
  intro vs H' P' α' r' e1 e2 rp
  have af2:qV X P α (dP i j env S1 ds) D:=af1
  cases ds with
  |nil=>exact False.elim af2
  |cons d ds=>cases ds with
   |nil=>exact False.elim af2
   |cons d' ds=>cases ds with
    |cons _ _=>exact False.elim af2
    |nil =>
     obtain⟨w,ws,rfl,p1,t⟩:=rp.cons_inv
     obtain⟨w',ws',rfl,p2,t⟩:=t.cons_inv
     rw[t.nil_inv]
     exact⟨w,w',rfl,af2 _ _ P' α' r' (((re.mono e1 e2).set i p1).set j p2) e1 e2⟩
end
end _D
end
section
namespace _D
open PySem PySem.Spec PyProof.Rows _L
structure ItD (K:PySem.W.Frag)(J:It)(P:Hp)(α : List Addr)(ds:List D):Prop where
 go:∀ i H P1 α1 S,i<ds.length→Rel K H P1 α1 S→qF P P1→α<+:α1→J.go i H
 yld:∀ i H x H' P1 α1 S,i<ds.length→Rel K H P1 α1 S→qF P P1→α<+:α1→J.yld i H x H'→∃ P2 d,ds[i]? = some d∧Rel K H' P2 α1 S∧qF P1 P2∧Rep K P2 α1 d x
 stop:∀ i H P1 α1 S,ds.length≤i→Rel K H P1 α1 S→qF P P1→α<+:α1→J.stop i H
abbrev DI:=qD→Sto→Res (List D)
def OkI (X:Cx)(P:Hp)(α : List Addr)(R:It→Hp→Prop)(ds:List D)(S':Sto):Prop:=∀ J H' P' α',Rel X.K H' P' α' S'→qF P P'→α<+:α'→ItD X.K J P' α' ds→R J H'
inductive tDI (X:Cx)(f:DI)(σ : _L.St)(H:Hp)(R:It→Hp→Prop):Prop
 |mk (P:Hp) (α : List Addr) (env:qD) (S:Sto) (r:Rel X.K H P α S) (re:qW X.K P α σ env) (af:qJ X P α (f env S) (OkI X P α R)):tDI X f σ H R
def yO {β : Type}(o:Option β)(S:Sto):Res β:=match o with
 |some b=>.ok b S
 |none=>.bad
theorem vQ {X:Cx}{β : Type}{o:Option β}{S:Sto}{P:Hp}{α : List Addr}{Ok:β→Sto→Prop}(h:qJ X P α (yO o S) Ok):∃ b,o=some b∧Ok b S:=by
 cases o with
 |none=>exact False.elim h
 |some b=>exact⟨b,rfl,h⟩
theorem xM {X:Cx}{β : Type}{c:Prop}[Decidable c]{r:Res β}{P:Hp}{α : List Addr}{Ok:β→Sto→Prop}(h:qJ X P α (if c then r else .bad) Ok):c∧qJ X P α r Ok:=by
 by_cases z:c
 ·rw[if_pos z] at h;exact⟨z,h⟩
 ·rw[if_neg z] at h;exact False.elim h
theorem FJ {X:Cx}{β : Type}{ds:List D}{g:D→Res β}{P:Hp}{α : List Addr}{Ok:β→Sto→Prop}(h:qJ X P α (match ds with|[d]=>g d|_=>.bad) Ok):∃ d,ds=[d]∧qJ X P α (g d) Ok:=by
 cases ds with
 |nil=>exact False.elim h
 |cons d ds =>
  cases ds with
  |nil=>exact⟨d,rfl,h⟩
  |cons _ _=>exact False.elim h
theorem mV {β : Type}{S:Sto}{i:Nat}{f:List D→Option β}{g:List (Key × D)→Option β}{b:β}(h:(match S[i]? with|some (.lst xs)=>f xs|some (.dct kvs)=>g kvs|_=>none)=some b):(∃ xs,S[i]? = some (.lst xs)∧f xs=some b)∨∃ kvs,S[i]? = some (.dct kvs)∧g kvs=some b:=by
 cases e:S[i]? with
 |none=>rw[e] at h;exact nn h
 |some m =>
  rw[e] at h
  cases m with
  |lst xs=>exact .inl ⟨xs,rfl,h⟩
  |dct kvs=>exact .inr ⟨kvs,rfl,h⟩
  |_=>exact nn h
theorem BX {β : Type}{S:Sto}{i:Nat}{f:List D→Option β}{b:β}(h:(match S[i]? with|some (.lst xs)=>f xs|_=>none)=some b):∃ xs,S[i]? = some (.lst xs)∧f xs=some b:=by
 cases e:S[i]? with
 |none=>rw[e] at h;exact nn h
 |some m =>
  rw[e] at h
  cases m with
  |lst xs=>exact⟨xs,rfl,h⟩
  |_=>exact nn h
inductive ItV (d:D)(xs:List D):Prop
 |tup (e:d=.tup xs)
 |lst (e:d=.lst xs)
def cR {β : Type}(S:Sto)(n:Nat)(f:List D→Res β) : Res β:=match S[n]? with
 |some (.lst xs)=>f xs
 |_=>.bad
theorem uX {X:Cx}{β : Type}{S:Sto}{n:Nat}{f:List D→Res β}{P:Hp}{α : List Addr}{Ok:β→Sto→Prop}(h:qJ X P α (cR S n f) Ok):∃ xs,S[n]? = some (.lst xs)∧qJ X P α (f xs) Ok:=by
 unfold cR at h
 cases e:S[n]? with
 |none=>rw[e] at h;exact False.elim h
 |some m =>
  rw[e] at h
  cases m with
  |lst xs=>exact⟨xs,rfl,h⟩
  |_=>exact False.elim h
def wQ:D→Option (List D)
 |.tup xs=>some xs
 |.lst xs=>some xs
 |_=>none
theorem itV {d:D}{xs:List D}(h:wQ d=some xs):ItV d xs:=by
 cases d with
 |tup ys=>exact .tup (congrArg D.tup (Option.some.inj h))
 |lst ys=>exact .lst (congrArg D.lst (Option.some.inj h))
 |_=>exact nn h
def wG (f:DE):DI:=fun env S=>(f env S).bind fun d S1=>yO (wQ d) S1
section
variable {X:Cx}{K:PySem.W.Frag}{tg e:Expr}{fa:DE}{pos:Pos}
theorem X2 {P:Hp}{α : List Addr}{a:Addr}{ds:List D}{vs:List V}(q:SqL K P a vs)(t:qE K P α ds vs):ItD K (Itl K a) P α ds where
 go:=fun i H P1 α1 S hi r e _=>⟨vs,vs[i]'(by rw[← t.length];exact hi),(e.trans r.sub).seq q,by simp⟩
 yld:=fun i H x H' P1 α1 S hi r e e2 y=>by
  obtain⟨rfl,y⟩:=y
  have hx:=y vs ((e.trans r.sub).seq q)
  obtain⟨v,h1,h2⟩:=t.get (List.getElem?_eq_getElem hi)
  rw[hx] at h1;cases h1
  exact⟨P1,_,List.getElem?_eq_getElem hi,r,qF.refl _,Rep.mono e e2 _ _ h2⟩
 stop:=fun i H P1 α1 S hi r e _=>⟨vs,(e.trans r.sub).seq q,by rw[← t.length];exact hi⟩
theorem U7 {P:Hp}{α : List Addr}{a:Addr}{ds:List D}{vs:List V}(q:SqT K P a vs)(t:qE K P α ds vs):ItD K (Itt K a) P α ds where
 go:=fun i H P1 α1 S hi r e _=>⟨vs,vs[i]'(by rw[← t.length];exact hi),yP (e.trans r.sub) q,by simp⟩
 yld:=fun i H x H' P1 α1 S hi r e e2 y=>by
  obtain⟨rfl,y⟩:=y
  have hx:=y vs (yP (e.trans r.sub) q)
  obtain⟨v,h1,h2⟩:=t.get (List.getElem?_eq_getElem hi)
  rw[hx] at h1;cases h1
  exact⟨P1,_,List.getElem?_eq_getElem hi,r,qF.refl _,Rep.mono e e2 _ _ h2⟩
 stop:=fun i H P1 α1 S hi r e _=>⟨vs,yP (e.trans r.sub) q,by rw[← t.length];exact hi⟩
theorem dA {pins:List (Addr × Obj)}{σ : _L.St}{H P:Hp}{α : List Addr}{S:Sto}{s:Shared}{v:V}{vv:Value}{d:D}{ds:List D}{R:It→Hp→Prop}(I:Inv X pins σ H s)(r:Rel X.K H P α S)(rv:qK v vv)(rp:Rep X.K P α d v)(hd:wQ d=some ds)
  (q:OkI X P α R ds S):wpAny (model X.prog X.w) X.A (pyIter vv) (PIE X pins σ tg R) X.xe s:=by
 cases d with
 |tup xs =>
  cases hd
  simp only[Rep] at rp
  obtain⟨a,vs,rfl,sq,t⟩:=rp
  cases rv
  obtain⟨its,rv,p,hz⟩:=I.tuple (w9 r.sub sq)
  refine wpAny_pyIter_tuple (show s.heap.IsTuple a its.toArray from p) ?_
  refine⟨s.heap.objs.size,[s.heap.objs.size],_,_,H,rfl,I.kept (t':=s.toks) fun b o e=>Heap.get?_push_of_some _ e,aA a _,⟨_,Heap.get?_push_size _ rfl,rfl,rfl⟩,fun b hb=>?_,q _ _ P α r (qF.refl _) (List.prefix_refl _) (U7 sq t)⟩
  have e:b=s.heap.objs.size:=by simpa using hb
  subst e
  exact I.fpOk (Nat.le_refl _) (I.hok.fresh (Nat.le_refl _))
 |lst xs =>
  cases hd
  simp only[Rep] at rp
  obtain⟨a,vs,rfl,sq,t⟩:=rp
  cases rv
  obtain⟨its,rv,p,hz⟩:=I.list ((xG r.sub sq).l)
  refine wpAny_pyIter_list p.isList ?_
  refine⟨s.heap.objs.size,[s.heap.objs.size],_,_,H,rfl,I.kept (t':=s.toks) fun b o e=>Heap.get?_push_of_some _ e,nE a _,⟨_,Heap.get?_push_size _ rfl,rfl,rfl⟩,fun b hb=>?_,q _ _ P α r (qF.refl _) (List.prefix_refl _) (X2 sq.l t)⟩
  have e:b=s.heap.objs.size:=by simpa using hb
  subst e
  exact I.fpOk (Nat.le_refl _) (I.hok.fresh (Nat.le_refl _))
 |_=>cases hd
theorem OkI.base {P P1:Hp}{α α1:List Addr}{R:It→Hp→Prop}{ds:List D}{S:Sto}(e:qF P P1)(h:α<+:α1)(k:OkI X P α R ds S):OkI X P1 α1 R ds S:=fun J H' P' α' r q1 q2 q3=>k J H' P' α' r (e.trans q1) (h.trans q2) q3
theorem P7 (ha:PE X e (tD X fa)):PI X tg e (tDI X (wG fa)):=by
 intro pins s σ H R I h
 obtain⟨P,α,env,S,r,re,af⟩:=h
 refine thn (xC ha I r re af) fun vv s1 ⟨v,H1,P1,α1,d,S1,G1,af1⟩=>?_
 obtain⟨ds,e1,q⟩:=vQ af1
 exact dA G1.inv G1.rel G1.val G1.rep e1 (q.base G1.same G1.pre)
def w6 (lo:Int)(n:Nat):List D:=(List.range n).map fun (i:Nat)=>D.int (lo+(i:Int))
theorem gG (lo:Int)(n:Nat):(w6 lo n).length=n:=by simp[w6]
theorem tV {P:Hp}{α : List Addr}{lo:Int}{n:Nat}:ItD K (Itr lo n) P α (w6 lo n) where
 go:=fun i H P1 α1 S hi r e _=>by rw[gG] at hi;exact hi
 yld:=fun i H x H' P1 α1 S hi r e e2 y=>by
  obtain⟨rfl,rfl⟩:=y
  rw[gG] at hi
  exact⟨P1,.int (lo+i),by simp[w6,hi],r,qF.refl _,by simp only[Rep]⟩
 stop:=fun i H P1 α1 S hi r e _=>by rw[gG] at hi;exact hi
def gJ (ds:List D):Option (List D):=match ds with
 |[.int j]=>if -(2 ^ 62)≤j∧j<2 ^ 62 then some (w6 0 j.toNat) else none
 |[.int i,.int j]=>if -(2 ^ 62)≤i∧i<2 ^ 62 ∧ -(2 ^ 62)≤j∧j<2 ^ 62 then some (w6 i (j-i).toNat) else none
 |_=>none
def yB (f:DA):DI:=fun env S=>(f env S).bind fun ds S1=>yO (gJ ds) S1
def asI:D→Option Int
 |.int i=>some i
 |_=>none
theorem bG {d:D}{i:Int}(h:asI d=some i):d=.int i:=by
 cases d with
 |int k=>exact congrArg D.int (Option.some.inj h)
 |_=>exact nn h
inductive RngV:List D→List D→Prop
 |one (j:Int) (h : -(2 ^ 62)≤j∧j<2 ^ 62):RngV [.int j] (w6 0 j.toNat)
 |two (i j:Int) (h : -(2 ^ 62)≤i∧i<2 ^ 62 ∧ -(2 ^ 62)≤j∧j<2 ^ 62):RngV [.int i,.int j] (w6 i (j-i).toNat)
theorem LZ (d:D):gJ [d]=(asI d).bind fun j=>if -(2 ^ 62)≤j∧j<2 ^ 62 then some (w6 0 j.toNat) else none:=by cases d <;> rfl
theorem D0 (d d':D):gJ [d,d']=(asI d).bind fun i=>(asI d').bind fun j=>if -(2 ^ 62)≤i∧i<2 ^ 62 ∧ -(2 ^ 62)≤j∧j<2 ^ 62 then some (w6 i (j-i).toNat) else none:=by
 cases d with
 |int i=>cases d' <;> rfl
 |_=>rfl
theorem JQ {ds its:List D}(h:gJ ds=some its):RngV ds its:=by
 cases ds with
 |nil=>exact nn h
 |cons d ds =>
  cases ds with
  |nil =>
   obtain⟨j,e,h⟩:=Option.bind_eq_some_iff.mp ((LZ d).symm.trans h)
   obtain⟨c,rfl⟩:=kW h
   rw[bG e]
   exact .one j c
  |cons d' ds =>
   cases ds with
   |nil =>
    obtain⟨i,e,h⟩:=Option.bind_eq_some_iff.mp ((D0 d d').symm.trans h)
    obtain⟨j,e',h⟩:=Option.bind_eq_some_iff.mp h
    obtain⟨c,rfl⟩:=kW h
    rw[bG e,bG e']
    exact .two i j c
   |cons _ _ =>
    have h0:∀ d'' t,gJ (d::d'::d''::t)=none:=fun d'' t=>by cases d <;> first|rfl|(cases d' <;> rfl)
    exact nn ((h0 _ _).symm.trans h)
theorem t7 {K:PySem.W.Frag}{P:Hp}{α : List Addr}{i:Int}{vs:List V}{ds:List D}(r:qE K P α (.int i::ds) vs):∃ ws,vs=.int i::ws∧qE K P α ds ws:=by
 obtain⟨w,ws,rfl,p,t⟩:=r.cons_inv
 exact⟨ws,congrArg (· :: ws) (by simpa only [Rep] using p),t⟩
theorem PI.weak {iter:Expr}{t t':TI}(h:PI X tg iter t)(w:∀ σ H R,t' σ H R→t σ H R):PI X tg iter t':=fun pins s σ H R I q=>h pins s σ H R I (w σ H R q)
end
section
variable {X:Cx}{tg a b:Expr}{f:DA}{p pos:Pos}
theorem ZH {e:Expr}{es:List Expr}(hg:Gl X "range")(hm:X.mg "range" = none)(ha:PA X (e::es) (tDA X f))(hs:starEach (e::es) X.env=(false,eval e X.env)::starEach es X.env:=by rfl)(hpl:(backTo pos (starEach es X.env)).any (·.1)=false:=by rfl) :
  PI X tg (.Call (.Name "range" p) (e::es) [] pos) (tDI X (yB f)):=by
 intro pins s σ H R I h
 obtain⟨P,α,env,S,r,re,af⟩:=h
 refine Call_ (k7 I hg hm boot_range (PyProof.Rows.callWith_type1 (thn (wH ha I r re af pos) fun us s1 ⟨vs,H1,P1,α1,ds,S1,I1,rv,r1,re1,rp,e1,e2,af1⟩=>?_) hs hpl))
 obtain⟨its,hi,q⟩:=vQ af1
 cases JQ hi with
 |one j c =>
  obtain⟨ws,rfl,t1⟩:=t7 rp
  cases t1.nil_inv
  obtain⟨u,rfl,t,rfl⟩:=b8 rv
  refine call_range_1 (dW I1 (by omega) (by omega) c.1 c.2 ?_)
  have z:=q (Itr 0 j.toNat) H1 P1 α1 r1 e1 e2 tV
  rw[Int.sub_zero]
  exact z
 |two i j c =>
  obtain⟨ws,rfl,t1⟩:=t7 rp
  obtain⟨ws2,rfl,t2⟩:=t7 t1
  cases t2.nil_inv
  obtain⟨u,u',rfl,⟨t,rfl⟩,t',rfl⟩:=nY rv
  exact call_range_2 (dW I1 c.1 c.2.1 c.2.2.1 c.2.2.2 (q (Itr i (j-i).toNat) H1 P1 α1 r1 e1 e2 tV))
def jG (g:DG)(f:DS):List D→qD→Sto→Out
 |[],env,S=>.nx env S
 |d::ds,env,S=>(g d env S).toS env fun env1 S1=>match f env1 S1 with
  |.nx env2 S2=>jG g f ds env2 S2
  |.ct env2 S2=>jG g f ds env2 S2
  |.bk env2 S2=>.nx env2 S2
  |o=>o
def vR (fi:DI)(g:DG)(f:DS):DS:=fun env S=>(fi env S).toS env fun ds S1=>jG g f ds env S1
inductive LoopW (X:Cx)(P1:Hp)(α1:List Addr)(g:DG)(f:DS)(ds:List D)(D:Ends)(i m:Nat)(σ : _L.St)(H:Hp):Prop
 |mk (hi:i≤ds.length) (hm:m=ds.length-i) (P2:Hp) (α2:List Addr) (env2:qD) (S2:Sto) (r:Rel X.K H P2 α2 S2) (re:qW X.K P2 α2 σ env2) (e1:qF P1 P2) (e2:α1<+:α2) (af:qV X P2 α2 (jG g f (ds.drop i) env2 S2) D):LoopW X P1 α1 g f ds D i m σ H
theorem PB {iter:Expr}{body:List Stmt}{fi:DI}{g:DG}{f:DS}(hp:PassesOwn (model X.prog X.w) X.A X.env X.xe)(hc:X.calm=true)(hi:PI X tg iter (tDI X fi))(hg:PG X tg (tDG X g))(hb:PSs X body (tDS X f))
  (hs:∀ x,foldedSetIterable iter X.env x=pure x:=by intro _;rfl):PS X (.For tg iter body [] pos) (tDS X (vR fi g f)):=psW (oM hp hc hi hg hb hs) fun D σ H ⟨P,α,env,S,r,re,af⟩=>by
 refine⟨P,α,env,S,r,re,?_⟩
 have af1:=xP af
 cases q:fi env S with
 |bad=>rw[q] at af1;exact af1
 |ex c x S'=>rw[q] at af1;exact af1
 |ok ds S1 =>
  rw[q] at af1
  have af2:qV X P α (jG g f ds env S1) D:=af1
  intro J H1 P1 α1 r1 e1 e2 it
  refine⟨LoopW X P1 α1 g f ds D,
   ⟨ds.length,Nat.zero_le _,rfl,P1,α1,env,S1,r1,re.mono e1 e2,qF.refl _,List.prefix_refl _,qV.base e1 e2 af2⟩,?_⟩
  rintro i m σ2 H2 ⟨hi,rfl,P2,α2,env2,S2,r2,re2,e3,e4,af3⟩
  by_cases hlt:i<ds.length
  ·refine .inr ⟨it.go i H2 P2 α2 S2 hlt r2 e3 e4,LoopW X P1 α1 g f ds D (i+1) (ds.length-(i+1)),fun σ' H' w=>⟨_,?_,w⟩,fun x H3 y=>?_⟩
   ·omega
   ·obtain⟨P3,d,hd,r3,e5,rp⟩:=it.yld i H2 x H3 P2 α2 S2 hlt r2 e3 e4 y
    have hdr:ds.drop i=d::ds.drop (i+1):=by
     rw[List.drop_eq_getElem_cons hlt]
     rw[List.getElem?_eq_getElem hlt] at hd
     rw[Option.some.inj hd]
    rw[hdr] at af3
    have af4:=xP (qV.base e5 (List.prefix_refl _) af3)
    refine⟨P3,α2,env2,S2,d,r3,re2.mono e5 (List.prefix_refl _),rp,?_⟩
    cases q2:g d env2 S2 with
    |bad=>rw[q2] at af4;exact af4
    |ex c x S'=>rw[q2] at af4;exact af4
    |ok env3 S3 =>
     rw[q2] at af4
     intro σ4 H4 P4 α4 r4 re4 e6 e7
     refine⟨P4,α4,env3,S3,r4,re4,?_⟩
     have af5:=qV.base e6 e7 af4
     cases q3:f env3 S3 with
     |bad=>simp only[q3] at af5;exact af5
     |ex c x env4 S4=>simp only[q3] at af5;exact af5
     |rt d4 S4=>simp only[q3] at af5;exact af5
     |bk env4 S4=>simp only[q3] at af5;exact af5
     |nx env4 S4 =>
      simp only[q3] at af5
      exact fun σ5 H5 P5 α5 r5 re5 e8 e9=>⟨hlt,rfl,P5,α5,env4,S4,r5,re5,((e3.trans e5).trans e6).trans e8,(e4.trans e7).trans e9,qV.base e8 e9 af5⟩
     |ct env4 S4 =>
      simp only[q3] at af5
      exact fun σ5 H5 P5 α5 r5 re5 e8 e9=>⟨hlt,rfl,P5,α5,env4,S4,r5,re5,((e3.trans e5).trans e6).trans e8,(e4.trans e7).trans e9,qV.base e8 e9 af5⟩
  ·have hdr:ds.drop i=[]:=List.drop_eq_nil_of_le (by omega)
   rw[hdr] at af3
   exact .inl ⟨it.stop i H2 P2 α2 S2 (by omega) r2 e3 e4,af3 σ2 H2 P2 α2 r2 re2 (qF.refl _) (List.prefix_refl _)⟩
end
end _D
end
section
namespace _D
open PySem PySem.Spec PyProof.Rows _L
abbrev DF:=List D→Sto→Res D
section
variable {X:Cx}{x:Str}{p pos:Pos}{e:Expr}{es:List Expr}{F:DF}{fa:DA}
def qL (F:DF)(fa:DA):DE:=fun env S=>(fa env S).bind fun ds S1=>F ds S1
theorem tL {F:DF}{u:Value}{pins:List (Addr × Obj)}{s1:Shared}{σ : _L.St}{H1 P P1:Hp}{α α1:List Addr}{vs:List V}{us:List Value}{ds:List D}{S1:Sto}{Q:VK}(hc:wX X u F)(I1:Inv X pins σ H1 s1)(r1:Rel X.K H1 P1 α1 S1)(rv:qN vs us)
  (rp:qE X.K P1 α1 ds vs) (e1:qF P P1) (e2:α<+:α1) (af:qJ X P α (F ds S1) (OkV X P α Q)):wpAny (model X.prog X.w) X.A (call u us) (EP X pins σ Q) X.xe s1:=hc pins σ H1 s1 P1 α1 S1 vs us ds Q I1 r1 rv rp (qU.base e1 e2 af)
theorem Z7 {id:String}(hc:wX X (.builtin id) F)(hg:Gl X x)(hm:X.mg x=none)(hv:bootBuiltins x=some (.builtin id))(ha:PA X (e::es) (tDA X fa))(hn:x ≠ "__name__":=by decide)(hdb:(x == ("__debug__" : Str))=false:=by decide)
  (he:starEach (e::es) X.env=(false,eval e X.env)::starEach es X.env:=by rfl) (hpl:(backTo pos (starEach es X.env)).any (·.1)=false:=by rfl):PE X (.Call (.Name x p) (e::es) [] pos) (tD X (qL F fa)):=by
 intro pins s σ H Q I h
 obtain⟨P,α,env,S,r,re,af⟩:=h
 refine wpAny_Call_Name_kw (k7 I hg hm hv ?_ hn hdb)
 exact PyProof.Rows.callWith_builtin1 (thn (wH ha I r re af pos) fun us s1 ⟨vs,H1,P1,α1,ds,S1,I1,rv,r1,re1,rp,e1,e2,af1⟩=>tL hc I1 r1 rv rp e1 e2 af1) he hpl
theorem i7 {T:String}(hc:wX X (.type T) F)(hg:Gl X x)(hm:X.mg x=none)(hv:bootBuiltins x=some (.type T))(ha:PA X (e::es) (tDA X fa))(hn:x ≠ "__name__":=by decide)(hdb:(x == ("__debug__" : Str))=false:=by decide)
  (he:starEach (e::es) X.env=(false,eval e X.env)::starEach es X.env:=by rfl) (hpl:(backTo pos (starEach es X.env)).any (·.1)=false:=by rfl):PE X (.Call (.Name x p) (e::es) [] pos) (tD X (qL F fa)):=by
 intro pins s σ H Q I h
 obtain⟨P,α,env,S,r,re,af⟩:=h
 refine wpAny_Call_Name_kw (k7 I hg hm hv ?_ hn hdb)
 exact PyProof.Rows.callWith_type1 (thn (wH ha I r re af pos) fun us s1 ⟨vs,H1,P1,α1,ds,S1,I1,rv,r1,re1,rp,e1,e2,af1⟩=>tL hc I1 r1 rv rp e1 e2 af1) he hpl
end
end _D
end
section
namespace _D
open PySem PySem.Spec PyProof.Rows _L
theorem zA.there {P:Program}{w:World}{H:Hp}{h:Heap}{a:Addr}{o:HO}(x:zA P w H h a o):∃ ob,h.get? a=some ob:=by
 cases o with
 |lst xs=>obtain⟨_,_,_,_,e⟩:=x;exact⟨_,e⟩
 |tup xs=>obtain⟨_,_,_,ob,e,_⟩:=x;exact⟨_,e⟩
 |dK kvs=>obtain⟨_,_,_,_,o,_,_,e,_⟩:=x;exact⟨_,e⟩
 |dT kvs=>obtain⟨_,_,_,_,o,_,_,e,_⟩:=x;exact⟨_,e⟩
 |set S n=>obtain⟨o,_,_,_,e,_⟩:=x;exact⟨_,e⟩
 |ins C dx fs=>obtain⟨_,_,_,e,_⟩:=x;exact⟨_,e⟩
 |own y=>obtain⟨_,e⟩:=x;exact⟨_,e⟩
 |xd fs=>obtain⟨_,⟨_,_,_,e,_⟩,_⟩:=x;exact⟨_,e⟩
 |rng lo hi=>obtain⟨_,_,_,e⟩:=x;exact⟨_,e⟩
 |frz ob u=>obtain⟨e,_⟩:=x;exact⟨_,e⟩
 |tbl ps=>exact⟨_,show h.get? a=some _ from x⟩
 |met f y=>exact⟨_,show h.get? a=some _ from x⟩
 |ext φ => obtain⟨_,e,_⟩:=x;exact e
section
variable {X:Cx}{pins:List (Addr × Obj)}{σ : _L.St}{H:Hp}{s:Shared}{B h':Heap}
abbrev Fn1 (X:Cx):Prop:=X.ex=[]∧X.stack=X.env::X.outer∧X.env.frame=some X.env.locals
theorem Fn1.mem (F:Fn1 X){b:Addr}:b∈frs X.stack↔b=X.env.locals∨b∈X.fs:=by
 rw[F.2.1]
 unfold frs
 rw[List.filterMap_cons,F.2.2]
 exact List.mem_cons
theorem Old.there (I:Inv X pins σ H s)(F:Fn1 X){b:Addr}(o:Old X pins H b):∃ ob,s.heap.get? b=some ob:=by
 rcases o with⟨o,e⟩|e|⟨p,hp,rfl⟩|⟨x,e⟩
 ·exact I.base.there b o e (by rw[F.1];simp)
 ·cases q:H b with
  |none=>exact absurd q e
  |some u=>exact zA.there (I.hok b u q)
 ·exact⟨_,(I.pin p hp).1⟩
 ·obtain⟨v,ob,ho,_⟩:=I.cell x b e
  exact⟨ob,ho⟩
theorem Inv.fly (I:Inv X pins σ H s)(F:Fn1 X)(cv:Cv X pins H B s.heap)(st:B.StaysIn h')(up:s.heap.UpToSlots h'):Inv X pins σ H { s with heap:=h' } ∧ Cv X pins H B h':=by
 have kp:∀ b o,s.heap.get? b=some o→Old X pins H b→b ∉ frs X.stack→h'.get? b=some o:=fun b o e q n=>st b o (cv b o e q n)
 have neL:∀ b o,X.s₀.heap.get? b=some o→b≠X.env.locals:=fun b o e=>Nat.ne_of_lt (Nat.lt_of_lt_of_le (Heap.lt_size e) I.ok.above)
 have nofr:∀ b o,X.s₀.heap.get? b=some o→b ∉ X.fs→b ∉ frs X.stack:=fun b o e n z=>(F.mem.mp z).elim (neL b o e) n
 have nx:∀ b,b ∉ X.ex:=fun b=>by rw[F.1];simp
 have frU:∀ b,b∈frs X.stack→∀ o,s.heap.get? b=some o→∃ sl,h'.get? b=some { o with slots:=sl }:=fun b hb o e=>by
  obtain⟨_,o',e',nf⟩:=I.stack.mem hb
  rw[e] at e';cases e'
  exact up b o e nf
 have cellK:∀ x c,X.env.cells.lookup x=some c→∀ v,s.heap.IsCell c v→h'.IsCell c v:=fun x c e v ⟨o,ho,hd⟩=>by
  obtain⟨sl,q⟩:=up c o ho fun vs z=>by rw[hd] at z;cases z
  exact⟨_,q,hd⟩
 refine⟨⟨I.ok,I.os,I.bare,⟨fun b o e n hb hx=>?_,fun b o e n hb hx=>?_,I.base.free,fun b o e hx=>?_,I.base.tups,I.base.frzs,I.base.tbls⟩,?_,fun x c e=>?_,I.free,I.freeC,fun p hp=>?_,fun a o e=>?_,I.len⟩,fun b o e q n=>?_⟩
 ·exact kp b o (I.base.keep b o e n hb hx) (.inl ⟨o,e⟩) (nofr b o e hb)
 ·obtain⟨sl,e1⟩:=I.base.slot b o e n hb hx
  obtain⟨sl',e2⟩:=frU b (F.mem.mpr (.inr hb)) _ e1
  exact⟨sl',e2⟩
 ·obtain⟨o',e1⟩:=I.base.there b o e hx
  by_cases hb:b∈frs X.stack
  ·obtain⟨sl,e2⟩:=frU b hb _ e1
   exact⟨_,e2⟩
  ·exact⟨o',kp b o' e1 (.inl ⟨o,e⟩) hb⟩
 ·obtain⟨m,hn,hl⟩:=I.loc
  refine⟨m,up.ns hn,fun i x v e1 e2 e3=>?_⟩
  obtain⟨u,r,l⟩:=hl i x v e1 e2 e3
  refine⟨u,r,?_⟩
  rcases l with l|⟨k,c,e,z⟩
  ·exact .inl l
  ·exact .inr ⟨k,c,e,cellK x c e _ z⟩
 ·obtain⟨v,z⟩:=I.cell x c e
  exact⟨v,cellK x c e v z⟩
 ·obtain⟨e,n,ne,nf,d⟩:=I.pin p hp
  exact⟨kp p.1 p.2 e (.inr (.inr (.inl ⟨p,hp,rfl⟩))) fun z=>(F.mem.mp z).elim ne nf,n,ne,nf,d⟩
 ·refine(I.hok a o e).stay (fun b u hb q=>?_) (fun _ q=>q) fun _ _ q=>q
  have hn:H b≠none:=by
   rcases hb with rfl|hb
   ·rw[e];intro z;cases z
   ·rw[hb];intro z;cases z
  exact kp b u q (.inr (.inl hn)) fun z=>hn (I.stkFree b z)
 ·obtain⟨o1,e1⟩:=Old.there I F q
  have e2:=cv b o1 e1 q n
  have e3:=st b o1 e2
  rw[e] at e3;cases e3
  exact e2
theorem oC {c:Value}{e:Addr}{g:Heap}{args:List Value}(I:Inv X pins σ H s)(hm:Heap.MadeExcOf g s.heap e c args)(hf:g.FunFrames X.base X.stack)(hk:∀ b o,s.heap.get? b=some o→Old X pins H b→g.get? b=some o) :
  (PySem.W.hideAll g (frs X.stack)).StaysIn g∧g.FunFrames (PySem.W.hideAll g (frs X.stack)) X.stack∧Cv X pins H (PySem.W.hideAll g (frs X.stack)) s.heap:=
 ⟨fun b o q=>PySem.W.of_hideAll _ q,PySem.W.funFrames_hide hf fun env he a ha=>List.mem_filterMap.mpr ⟨env,he,ha⟩,fun b o e q n=>PySem.W.hideAll_get _ (hk b o e q) n⟩
theorem iV {M:Model}{A:Around}{E:Value→Shared→Prop}{c:Value}{e:Addr}{Q:Unit→Shared→Prop}(I:Inv X pins σ H s)(F:Fn1 X)(hA:A.frames=some X.stack)(f:FlyX X pins H c e s.heap)
  (hQ:∀ h' B a0,Heap.FlyingW B X.outer e c a0 h'→Inv X pins σ H { s with heap:=h' } → Cv X pins H B h'→Q () { s with heap:=h' }) : wpAny M A (leaving X.env (.ref e)) Q E s:=by
 cases f with
 |new g args hm hf hk =>
  obtain⟨k1,k2,k3⟩:=oC I hm hf hk
  rw[F.2.1] at hA
  refine wpAny_leaves_madeW hA F.2.2 k1 (by rw[← F.2.1];exact k2) hm fun h' t x1 x2 x3 x4=>?_
  obtain⟨I1,cv1⟩:=Inv.fly I F k3 x1.1 x4
  exact hQ h' _ _ x1 I1 cv1
 |fly B a0 fl cv =>
  rw[F.2.1] at hA
  refine wpAny_leaves_onW hA F.2.2 (by rw[← F.2.1];exact fl) fun h' x1 x2=>?_
  obtain⟨I1,cv1⟩:=Inv.fly I F cv x1.1 x2
  exact hQ h' _ _ x1 I1 cv1
end
def CXd (P:Program)(w:World):CXT:=fun outer H s E u s' =>
 ∃ e c H' B a0,u=.ref e∧s'.os=s.os∧AllBare s'.gens∧Un (frs outer) [] H H' s.heap s'.heap∧HOk P w H' s'.heap∧Heap.FlyingW B outer e c a0 s'.heap ∧
  (∀ b o,s'.heap.get? b=some o→((∃ o,s.heap.get? b=some o)∨H' b≠none)→b ∉ frs outer→B.get? b=some o)∧E c none H'
section
variable {X:Cx}{pins:List (Addr × Obj)}{σ : _L.St}{H:Hp}{s s':Shared}
theorem B6 {E:XK}{u:Value}(I:Inv X pins σ H s)(F:Fn1 X)(h:CXd X.prog X.w X.stack H s E u s'):∃ e c H',u=.ref e∧Inv X pins σ H' s'∧FlyX X pins H' c e s'.heap∧E c none H':=by
 obtain⟨e,c,H',B,a0,rfl,os,bare,un,hok,fl,cov,q⟩:=h
 have I':Inv X pins σ H' s':=Inv.call' I os un hok bare (ch:=[]) fun b z=>absurd z (by simp)
 refine⟨e,c,H',rfl,I',.fly B a0 fl fun b o eb old n=>cov b o eb ?_ n,q⟩
 rcases old with⟨o,z⟩|z|⟨p,hp,rfl⟩|⟨x,z⟩
 ·exact .inl (I.base.there b o z (by rw[F.1];simp))
 ·exact .inr z
 ·exact .inl ⟨_,(I.pin p hp).1⟩
 ·obtain⟨v,ob,ho,_⟩:=I.cell x b z
  exact .inl ⟨ob,ho⟩
end
end _D
end
section
namespace _D
open PySem PySem.Spec PyProof.Rows _L
structure RoomC (cm:Bool)(k:Nat)(A:Around):Prop where
 hd:cm=true→A.handled=none
 dp:A.depth+3*k+5<recursionLimit
 un:A.units+16*k+200<cLine
 gd:A.guards=some []
theorem RoomC.mono {cm:Bool}{j k:Nat}{A:Around}(r:RoomC cm k A)(h:j≤k:=by decide):RoomC cm j A:=⟨r.hd,by have:=r.dp;omega,by have:=r.un;omega,r.gd⟩
theorem RoomC.deeper {cm:Bool}{k:Nat}{A:Around}(r:RoomC cm (k+1) A)(env:Env):RoomC cm k (A.deeper env):=
 ⟨r.hd,by have:=r.dp;show A.depth+1+3*k+5<_;omega,by have:=r.un;show A.units+3+16*k+200<_;omega,r.gd⟩
theorem RoomC.depth {cm:Bool}{k:Nat}{A:Around}(r:RoomC cm k A):A.depth<recursionLimit:=by have:=r.dp;omega
theorem RoomC.units {cm:Bool}{k:Nat}{A:Around}(r:RoomC cm k A):A.units+64<cLine:=by have:=r.un;omega
theorem RoomC.of {k:Nat}{A:Around}(r:Room k A):RoomC true k A:=⟨fun _=>r.hd,r.dp,r.un,r.gd⟩
theorem RoomC.any {cm:Bool}{k:Nat}{A:Around}(r:RoomC cm k A):RoomC false k A:=⟨(fun z=>nomatch z),r.dp,r.un,r.gd⟩
theorem RoomC.mark {cm:Bool}{k:Nat}{A:Around}(r:RoomC cm k A)(h:Option Value):RoomC false k (A.mark h):=⟨(fun z=>nomatch z),r.dp,r.un,r.gd⟩
abbrev Cx.re (X:Cx)(A:Around)(cm:Bool)(E:Value→Shared→Prop):Cx:={ X with A:=A,calm:=cm,xe:=E }
theorem Inv.re {X:Cx}{pins:List (Addr × Obj)}{σ : _L.St}{H:Hp}{s:Shared}(I:Inv X pins σ H s)(A:Around)(cm:Bool)(E:Value→Shared→Prop)(hf:A.frames=some X.stack)(hh:cm=true→A.handled=none):Inv (Cx.re X A cm E) pins σ H s:=
 ⟨⟨I.ok.mod,I.ok.kind,I.ok.glob,I.ok.blt,I.ok.above,I.ok.inj,I.ok.has,I.ok.cab,hh,hf,I.ok.stk,I.ok.exf,I.ok.bs,I.ok.bsz,I.ok.noex,I.ok.exfs,I.ok.funs,I.ok.frf⟩,I.os,I.bare,I.base,I.loc,I.cell,I.free,I.freeC,I.pin,I.hok,I.len⟩
theorem Inv.unre {X:Cx}{pins:List (Addr × Obj)}{σ : _L.St}{H:Hp}{s:Shared}{A:Around}{cm:Bool}{E:Value→Shared→Prop}(I:Inv (Cx.re X A cm E) pins σ H s)(hf:X.A.frames=some X.stack)(hh:X.calm=true→X.A.handled=none):Inv X pins σ H s:=
 ⟨⟨I.ok.mod,I.ok.kind,I.ok.glob,I.ok.blt,I.ok.above,I.ok.inj,I.ok.has,I.ok.cab,hh,hf,I.ok.stk,I.ok.exf,I.ok.bs,I.ok.bsz,I.ok.noex,I.ok.exfs,I.ok.funs,I.ok.frf⟩,I.os,I.bare,I.base,I.loc,I.cell,I.free,I.freeC,I.pin,I.hok,I.len⟩
structure FnX (P:Program)(w:World)(K:PySem.W.Frag)(mg:Str→Option Value)(base:Heap)(cm:Bool)(k:Nat)(f:Addr)(fd:FuncData)(ps:List Str)(sp:Sp):Prop where
 len:∀ vs H Q E,sp vs H Q E→vs.length=ps.length
 run:∀ (A:Around) (outer:List Env) (s:Shared) (H:Hp) (args:Args) (us:List Value) (vs:List V) (Q:VK) (E:XK),RoomC cm k A→Env0 P w K mg base A outer s H→BindsTo s fd args (ps.zip us)→qN vs us→sp vs H Q E →
  codeAny (model P w) A (.call (.ref f) args) (CR (CXd P w) outer P w H s Q E) s
theorem FnX.ok {P:Program}{w:World}{K:PySem.W.Frag}{mg:Str→Option Value}{base:Heap}{k:Nat}{f:Addr}{fd:FuncData}{ps:List Str}{sp:Sp}(F:FnX P w K mg base true k f fd ps sp):FnOk P w K mg base (CXd P w) k f fd ps sp:=
 ⟨F.len,fun A outer s H args us vs Q E hr=>F.run A outer s H args us vs Q E (.of hr)⟩
theorem FnX.any {P:Program}{w:World}{K:PySem.W.Frag}{mg:Str→Option Value}{base:Heap}{cm:Bool}{k:Nat}{f:Addr}{fd:FuncData}{ps:List Str}{sp:Sp}(F:FnX P w K mg base false k f fd ps sp):FnX P w K mg base cm k f fd ps sp:=
 ⟨F.len,fun A outer s H args us vs Q E hr=>F.run A outer s H args us vs Q E hr.any⟩
theorem FnX.imp {P:Program}{w:World}{K:PySem.W.Frag}{mg:Str→Option Value}{base:Heap}{cm:Bool}{k:Nat}{f:Addr}{fd:FuncData}{ps:List Str}{sp sp':Sp}(F:FnX P w K mg base cm k f fd ps sp)
  (h:∀ vs H Q E,sp' vs H Q E→sp vs H Q E):FnX P w K mg base cm k f fd ps sp':=
 ⟨fun vs H Q E q=>F.len vs H Q E (h _ _ _ _ q),fun A outer s H args us vs Q E hr he hb hv hs=>F.run A outer s H args us vs Q E hr he hb hv (h _ _ _ _ hs)⟩
def cxC (cm:Bool)(P:Program)(w:World)(K:PySem.W.Frag)(mg:Str→Option Value)(base:Heap)(N:List Str)(qual:Str)(scope:Scope)(f:Addr)(cd:Value)(A:Around)(outer:List Env)(s:Shared)(H:Hp)(E:XK):Cx where
 prog:=P
 w:=w
 K:=K
 mg:=mg
 base:=base
 A:=A.deeper (envOfC qual scope s.heap.objs.size f cd)
 N:=N
 s₀:=s
 H₀:=H
 env:=envOfC qual scope s.heap.objs.size f cd
 outer:=outer
 stack:=envOfC qual scope s.heap.objs.size f cd::outer
 ex:=[]
 calm:=cm
 fn:=fun _=>true
 pn:=[]
 xe:=fun e s'=>wpAny (model P w) (A.deeper (envOfC qual scope s.heap.objs.size f cd)) (leaving (envOfC qual scope s.heap.objs.size f cd) e) (fun _ s''=>CXd P w outer H s E e s'') (fun e' s''=>CXd P w outer H s E e' s'') s'
section
variable {P:Program}{w:World}{K:PySem.W.Frag}{mg:Str→Option Value}{base:Heap}{cm:Bool}{N:List Str}{qual:Str}{scope:Scope}{f:Addr}{cd:Value}{A:Around}{outer:List Env}{s:Shared}{H:Hp}{E:XK}
theorem Z5:PassesOwn (model P w) (A.deeper (envOfC qual scope s.heap.objs.size f cd)) (envOfC qual scope s.heap.objs.size f cd) (cxC cm P w K mg base N qual scope f cd A outer s H E).xe:=PassesOwn.leaving (Q₁:=fun e s''=>CXd P w outer H s E e s'')
abbrev xeL (P:Program)(w:World)(A:Around)(env:Env)(outer:List Env)(H:Hp)(s:Shared)(E:XK):Value→Shared→Prop:=fun e s'=>wpAny (model P w) (A.deeper env) (leaving env e) (fun _ s''=>CXd P w outer H s E e s'') (fun e' s''=>CXd P w outer H s E e' s'') s'
theorem lM {X:Cx}{A:Around}{E:XK}{P0:Hp}{α : List Addr}{c:Value}{x:D}{S:Sto}{u:Value}{s':Shared}(hA:X.A=A.deeper X.env)(k:XOk X P0 α c x S u s')
  (q:∀ H' P' α',Rel X.K H' P' α' S→qF P0 P'→α<+:α'→E c none H'):xeL X.prog X.w A X.env X.outer X.H₀ X.s₀ E u s':=by
 obtain⟨e,pins,σ,H1,P1,α1,rfl,I,r,e1,e2,F,fl⟩:=k
 unfold xeL
 rw[← hA]
 refine iV I F I.ok.frames fl fun h' B a0 x1 I1 cv=>?_
 refine⟨e,c,H1,B,a0,rfl,I1.os,I1.bare,by have z:=I1.base;rw[F.1] at z;exact z,I1.hok,x1,fun b o eb hb n=>cv b o eb ?_ fun z=>?_,q H1 P1 α1 r e1 e2⟩
 ·rcases hb with z|z
  ·exact .inl z
  ·exact .inr (.inl z)
 ·rcases (Fn1.mem F).mp z with z|z
  ·subst z
   rcases hb with⟨o',e'⟩|z
   ·exact absurd (Heap.lt_size e') (Nat.not_lt.mpr I1.ok.above)
   ·exact z I1.free
  ·exact n z
theorem cM {ps:List Str}{s1:Shared}{us:List Value}{vs:List V}(S:FnScope N ps scope)(hd:cm=true→A.handled=none)(e0:Env0 P w K mg base A outer s H)(hl:vs.length=ps.length)(r:qN vs us)
  (x:InCallC s s.heap.objs.size (bindL (envOfC qual scope s.heap.objs.size f cd).kindOf (ps.zip us) fun _=>none) (cellsFrom (s.heap.objs.size+1) scope.names []) (bindC (envOfC qual scope s.heap.objs.size f cd).kindOf (ps.zip us) fun _=>none) s1) :
  Inv (cxC cm P w K mg base N qual scope f cd A outer s H E) [] (_L.xO N vs) H s1:=by
 have I:=tU (CX:=CXd P w) (E:=E) (A:={ A with handled:=none }) S rfl ⟨e0.frames,e0.mod,e0.bs,e0.bsz,e0.funs,e0.frf,e0.hok,e0.bare⟩ hl r x
 have J:=Inv.re I (A.deeper (envOfC qual scope s.heap.objs.size f cd)) cm (cxC cm P w K mg base N qual scope f cd A outer s H E).xe (Around.frames_deeper e0.frames) hd
 exact J
end
theorem iH {P:Program}{w:World}{K:PySem.W.Frag}{mg:Str→Option Value}{base:Heap}{cm:Bool}{k:Nat}{f:Addr}{qual:Str}{params:Arguments}{body:List Stmt}{scope:Scope}{oc:Value}{od an:Option Addr}{osl:Array (Option Value)}{x:Str}{kV doc pm cdv ct:Value}{N ps:List Str}
  {A:Around} {outer:List Env} {s:Shared} {H:Hp} {args:Args} {us:List Value} {vs:List V} {Q:VK} {E:XK} (lk:K.lookup f=some ⟨oc,od,.func (PySem.W.fnOf x qual params body scope .none kV doc pm an cdv ct),osl⟩) (hcd:PySem.W.codeIn K cdv qual=true) (S:FnScope N ps scope) (hl:vs.length=ps.length) (hr:RoomC cm (k+1) A)
  (e0:Env0 P w K mg base A outer s H) (hb:BindsTo s (PySem.W.fnOf x qual params body scope .none kV doc pm an cdv ct) args (ps.zip us)) (r:qN vs us)
  (hbody:∃ t,PSs (cxC cm P w K mg base N qual scope f cdv A outer s H E) body t∧t { nx:=fun _ H'=>Q .non H',rt:=Q } (_L.xO N vs) H) :
  codeAny (model P w) A (.call (.ref f) args) (CR (CXd P w) outer P w H s Q E) s:=by
 have KX:K.In s.heap:=e0.mod.kin.keeps fun b o e=>(e0.bs b o e).1
 have lim:s.heap.NoLimit:=e0.mod.nolimit.keeps fun b o e=>(e0.bs b o e).1
 have hkind:∀ y∈ps.zip us,scope.names.lookup y.1=some .local ∨ (scope.names.lookup y.1=some .cell∧((cellsFrom (s.heap.objs.size+1) scope.names []).lookup y.1).isSome=true):=fun ⟨n,v⟩ hy=>by
  rcases S.par n (List.of_mem_zip hy).1 with q|q
  ·exact .inl q
  ·exact .inr ⟨q,PySem.W.cellsFrom_some _ _ _ (.inl q)⟩
 refine codeAny_call_function hr.depth (KX _ _ lk) rfl S.co S.gen rfl (PySem.W.codeRec_of KX hcd) (hb _ _ _ _ ?_)
 refine wpAny_newFunctionEnv_cells S.kind hkind fun env he s1 x=>?_
 subst he
 refine⟨lim.keeps x.toInCall.keep,codeAny_func ?_⟩
 obtain⟨t,ht,hq⟩:=hbody
 have I:Inv (cxC cm P w K mg base N qual scope f cdv A outer s H E) [] (_L.xO N vs) H s1:=cM S hr.hd e0 hl r x
 refine wpAny_mono (ht [] s1 (_L.xO N vs) H _ I hq) (fun fl s' hs=>?_) fun e s' hs=>hs
 have fin:∀ {σ' : _L.St} {H':Hp} {v:V} {u:Value},Inv (cxC cm P w K mg base N qual scope f cdv A outer s H E) [] σ' H' s'→qK v u→Q v H'→CE outer P w H s Q u s':=
  fun {σ' H' v u} J rv q=>⟨v,H',J.os,J.bare,J.base,J.hok,rv,q⟩
 cases fl with
 |ret u =>
  obtain⟨v,σ',H',J,rv,q⟩:=hs
  exact fin J rv q
 |next =>
  obtain⟨σ',H',J,q⟩:=hs
  exact fin (v:=V.non) (u:=Value.none) J rfl q
 |brk =>
  obtain⟨_,_,_,q⟩:=hs
  exact False.elim q
 |cont =>
  obtain⟨_,_,_,q⟩:=hs
  exact False.elim q
def kI (K:PySem.W.Frag)(x:Str)(cdv:Value):Prop:=∀ c T,PySem.W.tabIn K x=some (c,T)→cdv=.ref c
theorem B7 {P:Program}{w:World}{K:PySem.W.Frag}{mg:Str→Option Value}{base:Heap}{cm:Bool}{k:Nat}{f:Addr}{x qual:Str}{st:Stmt}{fd:FuncData}{N ps:List Str}{sp:Sp}(F:Fun K x qual st f fd)(S:FnScope N ps (qH st))
  (len:∀ vs H Q E,sp vs H Q E→vs.length=ps.length)
  (hbody:∀ (cdv:Value) (A:Around) (outer:List Env) (s:Shared) (H:Hp) (vs:List V) (Q:VK) (E:XK),fd.code=cdv∧Mod K mg base→RoomC cm k (A.deeper (envOfC qual (qH st) s.heap.objs.size f cdv))→sp vs H Q E →
   ∃ t,PSs (cxC cm P w K mg base N qual (qH st) f cdv A outer s H E) (zK st) t∧t { nx:=fun _ H'=>Q .non H',rt:=Q } (_L.xO N vs) H) :
  FnX P w K mg base cm (k+1) f fd ps sp:=by
 obtain⟨oc,od,kV,doc,pm,an,cdv,ct,osl,rfl,lk,hcd⟩:=F.ex
 exact⟨len,fun A outer s H args us vs Q E hr e0 hb r hsp=>iH lk hcd S (len _ _ _ _ hsp) hr e0 hb r (hbody cdv A outer s H vs Q E ⟨rfl,e0.mod⟩ (hr.deeper _) hsp)⟩
def yF (n:Nat)(ds:List D):qD:=ds.map some++List.replicate (n-ds.length) none
def cU:Out→Res D
 |.rt d S=>.ok d S
 |.nx _ S=>.ok .non S
 |.ex c x _ S=>.ex c x S
 |_=>.bad
def qT (n:Nat)(g:DS):DF:=fun ds S=>cU (g (yF n ds) S)
def spR (K:PySem.W.Frag)(P:Hp)(α : List Addr)(R:Res D)(Q:VK)(E:XK):Prop:=match R with
 |.ok d S'=>∀ v H' P' α',Rel K H' P' α' S'→qF P P'→α<+:α'→Rep K P' α' d v→Q v H'
 |.ex c _ S'=>∀ H' P' α',Rel K H' P' α' S'→qF P P'→α<+:α'→E c none H'
 |.bad=>False
def spD (K:PySem.W.Frag)(n:Nat)(F:DF):Sp:=fun vs H Q E=>vs.length=n∧∃ P α ds S,Rel K H P α S∧qE K P α ds vs∧spR K P α (F ds S) Q E
theorem cW {K:PySem.W.Frag}{P:Hp}{α : List Addr}{N:List Str}{ds:List D}{vs:List V}(r:qE K P α ds vs):qW K P α (_L.xO N vs) (yF N.length ds):=by
 refine⟨by simp[yF,_L.xO,r.length],fun i d e=>?_⟩
 unfold yF at e
 unfold _L.xO
 by_cases hi:i<ds.length
 ·rw[List.getElem?_append_left (by simpa using hi),List.getElem?_map] at e
  rw[List.getElem?_append_left (by rw[List.length_map,← r.length];exact hi),List.getElem?_map]
  cases q:ds[i]? with
  |none=>rw[q] at e;cases e
  |some d' =>
   rw[q] at e;cases e
   obtain⟨v,h1,h2⟩:=r.get q
   exact⟨v,by rw[h1];rfl,h2⟩
 ·rw[List.getElem?_append_right (by simpa using hi),List.getElem?_replicate] at e
  split at e <;> cases e
section
variable {P:Program}{w:World}{K:PySem.W.Frag}{mg:Str→Option Value}{base:Heap}{cm:Bool}
theorem lB {qual:Str}{scope:Scope}{f:Addr}{cdv:Value}{A:Around}{outer:List Env}{s:Shared}{H P':Hp}{E:XK}{Q:VK}{N:List Str}{g:DS}{body:List Stmt}{α : List Addr}{ds:List D}{vs:List V}{S':Sto}(hb:PSs (cxC cm P w K mg base N qual scope f cdv A outer s H E) body (tDS (cxC cm P w K mg base N qual scope f cdv A outer s H E) g))
  (r:Rel K H P' α S') (rp:qE K P' α ds vs) (af:spR K P' α (qT N.length g ds S') Q E):∃ t,PSs (cxC cm P w K mg base N qual scope f cdv A outer s H E) body t∧t { nx:=fun _ H'=>Q .non H',rt:=Q } (_L.xO N vs) H:=by
 refine⟨_,hb,P',α,yF N.length ds,S',r,cW rp,?_⟩
 unfold qT at af
 cases q:g (yF N.length ds) S' with
 |rt d S1=>rw[q] at af;exact fun v H' P1 α1 r1 e1 e2 p1=>af v H' P1 α1 r1 e1 e2 p1
 |nx env S1=>rw[q] at af;exact fun σ' H' P1 α1 r1 re1 e1 e2=>af .non H' P1 α1 r1 e1 e2 (by simp only[Rep])
 |bk env S1=>rw[q] at af;exact False.elim af
 |ct env S1=>rw[q] at af;exact False.elim af
 |ex c x env S1=>rw[q] at af;exact fun u s' z=>lM (A:=A) rfl z fun H' P1 α1 r1 e1 e2=>af H' P1 α1 r1 e1 e2
 |bad=>rw[q] at af;exact False.elim af
theorem fnX {x qual:Str}{st:Stmt}{f:Addr}{fd:FuncData}{N ps:List Str}{k:Nat}{g:DS}(F:Fun K x qual st f fd)(S:FnScope N ps (qH st))
  (hbody:∀ (cdv:Value) (A:Around) (outer:List Env) (s:Shared) (H:Hp) (E:XK),fd.code=cdv∧Mod K mg base→RoomC cm k (A.deeper (envOfC qual (qH st) s.heap.objs.size f cdv)) →
   PSs (cxC cm P w K mg base N qual (qH st) f cdv A outer s H E) (zK st) (tDS (cxC cm P w K mg base N qual (qH st) f cdv A outer s H E) g)) :
  FnX P w K mg base cm (k+1) f fd ps (spD K ps.length (qT N.length g)):=by
 refine B7 F S (fun vs H Q E h=>h.1) fun cdv A outer s H vs Q E hc hr h=>?_
 obtain⟨hl,P',α,ds,S',r,rp,af⟩:=h
 exact lB (hbody cdv A outer s H E hc hr) r rp af
end
section
variable {X:Cx}{cm:Bool}{k:Nat}{f:Addr}{fd:FuncData}{ps:List Str}{F:DF}{x:Str}{p pos:Pos}{e:Expr}{es:List Expr}{fa:DA}{n:Nat}
def qO (n:Nat)(F:DF)(fa:DA):DE:=fun env S=>(fa env S).bind fun ds S1=>if ds.length=n then F ds S1 else .bad
def EX (X:Cx)(P:Hp)(α : List Addr)(R:Res D):XK:=fun c _ H'=>match R with
 |.ex c' _ S'=>c=c'∧∃ P' α',Rel X.K H' P' α' S'∧qF P P'∧α<+:α'
 |_=>False
theorem sF {P:Hp}{α : List Addr}{R:Res D}{Q:VK}(af:qU X P α R Q):spR X.K P α R Q (EX X P α R):=by
 cases R with
 |ok d S'=>exact af
 |ex c x S'=>exact fun H' P' α' r' e1 e2=>⟨rfl,P',α',r',e1,e2⟩
 |bad=>exact af
theorem bH {pins:List (Addr × Obj)}{σ : _L.St}{H:Hp}{s:Shared}{Q:VK}{us:List Value}{P:Hp}{α : List Addr}{R:Res D}{u:Value}(hF:(∃ c x S',R=.ex c x S')→Fn1 X)(I:Inv X pins σ H s)(af:qU X P α R Q)
  (h:codeAny (model X.prog X.w) X.A (.call u ⟨us,[]⟩) (CR (CXd X.prog X.w) X.stack X.prog X.w H s Q (EX X P α R)) s):wpAny (model X.prog X.w) X.A (call u us) (EP X pins σ Q) X.xe s:=by
 refine wpAny_call (codeAny_mono h fun r s' hq=>?_)
 cases r with
 |error u =>
  have hq:CXd X.prog X.w X.stack H s (EX X P α R) u s':=hq
  cases R with
  |ok d S'=>obtain⟨_,_,_,_,_,_,_,_,_,_,_,_,q⟩:=hq;exact False.elim q
  |bad=>exact False.elim af
  |ex c' x' S' =>
   have hG:=hF ⟨_,_,_,rfl⟩
   obtain⟨a,c,H',rfl,I',fl,rfl,P',α',r',e1,e2⟩:=B6 I hG hq
   exact af _ _ ⟨a,pins,σ,H',P',α',rfl,I',r',e1,e2,hG,fl⟩
 |ok fl =>
  cases fl with
  |ret u=>exact I.after hq
  |next=>exact False.elim hq
  |brk=>exact False.elim hq
  |cont=>exact False.elim hq
theorem eS {pins:List (Addr × Obj)}{σ : _L.St}{H:Hp}{s:Shared}{Q:VK}{us:List Value}{vs:List V}{P:Hp}{α : List Addr}{ds:List D}{S:Sto}(G:FnX X.prog X.w X.K X.mg X.base cm k f fd ps (spD X.K n F))(hr:RoomC cm k X.A)(hb:yV X.K fd ps [])(hF:Fn1 X)
  (I:Inv X pins σ H s) (r:Rel X.K H P α S) (rv:qN vs us) (rp:qE X.K P α ds vs) (hn:ds.length=n) (af:qU X P α (F ds S) Q):wpAny (model X.prog X.w) X.A (call (.ref f) us) (EP X pins σ Q) X.xe s:=by
 have hsp:spD X.K n F vs H Q (EX X P α (F ds S)):=⟨by rw[← rp.length];exact hn,P,α,ds,S,r,rp,sF af⟩
 have hl:us.length=ps.length:=by rw[← rv.length];exact G.len _ _ _ _ hsp
 have hb':=hb s us I.kIn (by rw[List.append_nil];exact hl)
 rw[List.append_nil] at hb'
 exact bH (fun _=>hF) I af (G.run X.A X.stack s H ⟨us,[]⟩ us vs Q _ hr I.env0 hb' rv hsp)
theorem p6 {env:qD}{S S1:Sto}{P:Hp}{α : List Addr}{ds:List D}{Ok:D→Sto→Prop}(h:qJ X P α (if ds.length=n then F ds S1 else .bad) Ok):ds.length=n∧qJ X P α (F ds S1) Ok:=by
 by_cases hn:ds.length=n
 ·rw[if_pos hn] at h;exact⟨hn,h⟩
 ·rw[if_neg hn] at h;exact False.elim h
theorem V4 (G:FnX X.prog X.w X.K X.mg X.base cm k f fd ps (spD X.K n F))(hr:RoomC cm k X.A)(hF:Fn1 X)(hg:Gl X x)(hm:X.mg x=some (.ref f))(hk:PySem.W.keepIn X.K (.ref f)=true)(hb:yV X.K fd ps [])
  (ha:PA X (e::es) (tDA X fa)) (hdb:(x == ("__debug__" : Str))=false:=by decide) (he:starEach (e::es) X.env=(false,eval e X.env)::starEach es X.env:=by rfl) (hpl:(backTo pos (starEach es X.env)).any (·.1)=false:=by rfl) :
  PE X (.Call (.Name x p) (e::es) [] pos) (tD X (qO n F fa)):=by
 intro pins s σ H Q I h
 obtain⟨P,α,env,S,r,re,af⟩:=h
 refine wpAny_Call_Name_kw (vN I hg hm ?_ hdb)
 refine PySem.W.callWith_K (h₀:=X.base) I.ok.mod.kin hk (thn (wH ha I r re af pos) fun us s1 ⟨vs,H1,P1,α1,ds,S1,I1,rv,r1,re1,rp,e1,e2,af1⟩=>⟨I1.kIn,?_⟩) he hpl
 obtain⟨hn,af2⟩:=p6 (env:=env) (S:=S) af1
 exact eS G hr hb hF I1 r1 rv rp hn (qU.base e1 e2 af2)
end
end _D
end
section
namespace _D
open PySem PySem.Spec PyProof.Rows _L
abbrev lA:List Value:=[.type "ValueError",.type "Exception",.type "BaseException",.type "object"]
def NQ:Value→Bool
 |.str _ _=>true
 |_=>false
def kD (K:PySem.W.Frag)(N:Addr):Bool:=(match List.lookup N K with
 |some o=>match o.data with
  |.dict es _=>es.toList.all fun e=>NQ e.key
  |_=>false
 |none=>false)&&decide (PySem.W.nsIn K N "__init__" = some none)
theorem y9 {K:PySem.W.Frag}{N:Addr}(h:kD K N=true):PySem.W.nsOkIn K N=true∧PySem.W.nsIn K N "__init__" = some none:=by
 unfold kD at h
 rw[Bool.and_eq_true,decide_eq_true_eq] at h
 refine⟨?_,h.2⟩
 have h1:=h.1
 unfold PySem.W.nsOkIn
 cases e:List.lookup N K with
 |none=>rw[e] at h1;cases h1
 |some o =>
  rw[e] at h1
  obtain⟨oc,od,dt,sl⟩:=o
  cases dt with
  |dict es ep =>
   simp only at h1 ⊢
   rw[Array.all_toList] at h1
   refine Eq.trans (congrArg (fun f=>Array.all es f) (funext fun e=>?_)) h1
   cases e.key <;> rfl
  |_=>cases h1
def nR (K:PySem.W.Frag)(C:Addr)(f:Value→ClassData→Array (Option Value)→Bool):Bool:=match List.lookup C K with
 |some o=>(match o.data with|.cls cd=>f o.cls cd o.slots|_=>false)
 |none=>false
theorem dO {K:PySem.W.Frag}{C:Addr}{f:Value→ClassData→Array (Option Value)→Bool}(h:nR K C f=true):∃ oc od cd sl,List.lookup C K=some ⟨oc,od,.cls cd,sl⟩∧f oc cd sl=true:=by
 unfold nR at h
 cases e:List.lookup C K with
 |none=>rw[e] at h;exact Bool.noConfusion h
 |some o =>
  rw[e] at h
  obtain⟨oc,od,dt,sl⟩:=o
  cases dt with
  |cls cd=>exact⟨oc,od,cd,sl,rfl,h⟩
  |_=>exact Bool.noConfusion h
def bJ (K:PySem.W.Frag)(C A:Addr):Bool:=nR K C fun oc cd sl=>nR K A fun _ ca _=>decide (oc=.type "type")&&(decide (cd.mro=.ref C::.ref A::lA)&&(!cd.hasDel&&(kD K cd.ns&&(kD K ca.ns&&(decide (sl.toList.length=6)&&decide (sl.toList[4]? = some (some (.builtin "ValueError.__new__"))))))))
inductive ExcO (h:Heap)(C:Addr):Prop
 |mk (nm q:Str) (N:Addr) (bs bm:List Value) (hdct:Bool) (sn:List Str) (sub:List Value) (ab:Bool) (col:Option Bool) (dd:Option Addr) (k0 k1 k2 k3 k5:Option Value) (mN:Str→Option Value) (hC:h.get? C=some (excClassObj nm q C N bs bm hdct sn sub ab col dd k0 k1 k2 k3 k5 "ValueError.__new__")) (hN:h.Ns N mN) (hni:mN "__init__" = none) (T:OwnTail h lA bm):ExcO h C
theorem mW {β : Type}{l:List β}{n:Nat}(h:l.length=n+1):∃ a t,l=a::t∧t.length=n:=by
 cases l with
 |nil=>exact Nat.noConfusion h
 |cons a t=>exact⟨a,t,rfl,Nat.succ.inj h⟩
theorem six {β : Type}{l:List β}(h:l.length=6):∃ a b c d e f,l=[a,b,c,d,e,f]:=by
 obtain⟨a,t,e1,h⟩:=mW h
 obtain⟨b,t2,e2,h⟩:=mW h
 obtain⟨c,t3,e3,h⟩:=mW h
 obtain⟨d,t4,e4,h⟩:=mW h
 obtain⟨e,t5,e5,h⟩:=mW h
 obtain⟨f,t6,e6,h⟩:=mW h
 exact⟨a,b,c,d,e,f,by rw[e1,e2,e3,e4,e5,e6,List.length_eq_zero_iff.mp h]⟩
theorem F8 {C:Addr}{od:Option Addr}{cd:ClassData}{sl:Array (Option Value)}{tl:List Value}{k0 k1 k2 k3 k4 k5:Option Value}{n:String}(hm:cd.mro=.ref C::tl)(hd:cd.hasDel=false)(hs:sl.toList=[k0,k1,k2,k3,k4,k5])(hn:sl.toList[4]? = some (some (.builtin n))) :
  (⟨.type "type",od,.cls cd,sl⟩:Obj)=excClassObj cd.name cd.qualname C cd.ns cd.bases tl cd.hasDict cd.slotNames cd.subclasses cd.abstract cd.collection od k0 k1 k2 k3 k5 n:=by
 rw[hs] at hn
 cases hn
 cases cd
 cases sl
 cases hm
 cases hd
 cases hs
 rfl
theorem VS {K:PySem.W.Frag}{h:Heap}{C A:Addr}{od:Option Addr}{cd:ClassData}{sl:Array (Option Value)}(KI:K.In h)(e:List.lookup C K=some ⟨.type "type",od,.cls cd,sl⟩)(h2:cd.mro=.ref C::.ref A::lA)(h3:cd.hasDel=false)(h4:kD K cd.ns=true)(h6:sl.toList.length=6)(h7:sl.toList[4]? = some (some (.builtin "ValueError.__new__")))(T:OwnTail h lA (.ref A::lA)):ExcO h C:=by
 obtain⟨k0,k1,k2,k3,x,k5,es⟩:=six h6
 exact⟨_,_,_,_,_,_,_,_,_,_,_,k0,k1,k2,k3,k5,_,(KI _ _ e).trans (congrArg some (F8 h2 h3 es h7)),.of_isNs (PySem.W.isNs_of_in KI (y9 h4).1),PySem.W.nsMap_none_of_in KI (y9 h4).1 (y9 h4).2,T⟩
theorem VT {K:PySem.W.Frag}{h:Heap}{C A:Addr}(KI:K.In h)(z:bJ K C A=true):ExcO h C:=by
 obtain⟨oc,od,cd,sl,e,z⟩:=dO z
 obtain⟨qc,qd,ca,ql,e2,z⟩:=dO z
 have a1:=Bool.and_eq_true_iff.mp z
 have a2:=Bool.and_eq_true_iff.mp a1.2
 have a3:=Bool.and_eq_true_iff.mp a2.2
 have a4:=Bool.and_eq_true_iff.mp a3.2
 have a5:=Bool.and_eq_true_iff.mp a4.2
 have a6:=Bool.and_eq_true_iff.mp a5.2
 rw[of_decide_eq_true a1.1] at e
 exact VS KI e (of_decide_eq_true a2.1) (Bool.not_eq_true' _▸a3.1) a4.1 (of_decide_eq_true a6.1) (of_decide_eq_true a6.2) (.own (KI _ _ e2) (.of_isNs (PySem.W.isNs_of_in KI (y9 a5.1).1)) (PySem.W.nsMap_none_of_in KI (y9 a5.1).1 (y9 a5.1).2) .base)
section
variable {X:Cx}{pos:Pos}{fa:DA}
def pJ (c:Value)(fa:DA):DS:=fun env S=>(fa env S).toS env fun ds S1=>if ds.length≤lim then .ex c .non env S1 else .bad
inductive GotAS (X:Cx)(pins:List (Addr × Obj))(σ : _L.St)(env:qD)(P:Hp)(α : List Addr)(us:List Value)(s1:Shared)(k:List D→Sto→Out)(E:Ends):Prop
 |mk (vs:List V) (H1 P1:Hp) (α1:List Addr) (ds:List D) (S1:Sto) (I:Inv X pins σ H1 s1) (rv:qN vs us) (r:Rel X.K H1 P1 α1 S1) (re:qW X.K P1 α1 σ env) (rp:qE X.K P1 α1 ds vs) (e1:qF P P1) (e2:α<+:α1) (q:qV X P1 α1 (k ds S1) E):GotAS X pins σ env P α us s1 k E
theorem rB {es:List Expr}{k:List D→Sto→Out}{pins:List (Addr × Obj)}{s:Shared}{σ : _L.St}{H P:Hp}{α : List Addr}{env:qD}{S:Sto}{D:Ends}(he:PA X es (tDA X fa))(I:Inv X pins σ H s)(r:Rel X.K H P α S)
  (re:qW X.K P α σ env) (af:qV X P α ((fa env S).toS env k) D) (pos:Pos) :
  wpAny (model X.prog X.w) X.A (spliced (backTo pos (starEach es X.env))) (fun us s1=>GotAS X pins σ env P α us s1 k D) X.xe s:=by
 have af1:qJ X P α ((fa env S).bind fun d S=>.ok d S) fun d S=>qV X P α (k d S) D:=by
  have:=xP af
  cases q:fa env S <;> rw[q] at this <;> exact this
 exact thn (wH he I r re af1 pos) fun u s1 ⟨vs,H1,P1,α1,ds,S1,I1,rv,r1,re1,rp,e1,e2,q⟩=>⟨vs,H1,P1,α1,ds,S1,I1,rv,r1,re1,rp,e1,e2,qV.base e1 e2 q⟩
theorem ZK {x:Str}{C Ae:Addr}{e₀:Expr}{rest:List Expr}{np cpos:Pos}(hc:X.calm=true)(hF:Fn1 X)(hg:Gl X x)(hm:X.mg x=some (.ref C))(hx:bJ X.K C Ae=true)(ha:PA X (e₀::rest) (tDA X fa))
  (hdb:(x == ("__debug__" : Str))=false:=by decide) (he:starEach (e₀::rest) X.env=(false,eval e₀ X.env)::starEach rest X.env:=by rfl) (hpl:(backTo cpos (starEach rest X.env)).any (·.1)=false:=by rfl) :
  PS X (.Raise (some (.Call (.Name x np) (e₀::rest) [] cpos)) none pos) (tDS X (pJ (.ref C) fa)):=by
 intro pins s σ H D I h
 obtain⟨P,α,env,S,r,re,af⟩:=h
 obtain⟨nm,qn,N,bs,tl,hdct,sn,sub,ab,col,dd,k0,k1,k2,k3,k5,mN,hC,hN,hni,T⟩:=VT I.mod.kin hx
 refine wpAny_Raise_call_subT (C:=C) (nm:=nm) (q:=qn) (N:=N) (bs:=bs) (bm:=tl) (hdct:=hdct) (sn:=sn) (sub:=sub) (ab:=ab) (col:=col) (dd:=dd) (k0:=k0) (k1:=k1) (k2:=k2) (k3:=k3) (k5:=k5)
  PySem.F.excBase_ValueError (mN:=mN) (T.hasType PySem.F.excBase_ValueError.hasBase) (I.ok.hd hc) (by rw[he];show (false||(backTo cpos (starEach rest X.env)).any (·.1))=false;rw[hpl];rfl) hni (vN I hg hm ⟨rfl,?_⟩ hdb)
 have run:=rB ha I r re af cpos
 rw[he] at run ⊢
 refine Calls.evalArgs_plain (thn run fun us s2 ⟨vs,H1,P1,α1,ds,S1,I1,rv,r1,re1,rp,e1,e2,q⟩=>?_)
 have hl:us.length=ds.length:=by rw[rp.length,rv.length]
 by_cases hz:ds.length≤lim
 ·rw[if_pos hz] at q
  refine⟨rfl,by rw[hl,← zO];exact hz,I1.bk _ _ hC,hN.keeps I1.bk,T.keeps I1.bk,fun h' e hm=>q _ _ ⟨e,pins,σ,H1,P1,α1,rfl,I1.kept (t':=s2.toks) hm.keeps,r1,qF.refl _,List.prefix_refl _,hF,.new s2.heap us hm I1.stack fun b o eb old=>?_⟩⟩
  obtain⟨o1,q1⟩:=Old.there I1 hF old
  have q2:=hm.keeps b o1 q1
  rw[eb] at q2;cases q2
  exact q1
 ·rw[if_neg hz] at q;exact False.elim q
end
section
variable {X:Cx}{pins:List (Addr × Obj)}{σ : _L.St}{H:Hp}{s:Shared}
theorem cP {M:Model}{A:Around}{E:Value→Shared→Prop}{base h:Heap}{env:Env}{outer:List Env}{L e:Addr}{cls:Value}{args:List Value}{Q:Unit→Shared→Prop}
  (hfr:A.frames=some (env::outer)) (hf:env.frame=some L) (hkb:base.StaysIn h) (hl:h.FunFrames base (env::outer)) (hx:Heap.MadeExcOf h s.heap e cls args)
  (hQ:∀ h' a0,Heap.HeldW base (env::outer) e cls a0 L h'→s.heap.UpToSlots h'→Q () { s with heap:=h' }) : wpAny M A (noteFrame (.ref e) env) Q E s:=by
 obtain⟨t,he,htn,ht⟩:=hx.there
 have fresh:∀ b,h.get? b=none→base.get? b=none:=fun b hb=>by
  cases hq:base.get? b with
  |none=>rfl
  |some o'=>have z:=hkb b o' hq;rw[hb] at z;cases z
 unfold noteFrame
 simp only[hf]
 refine wpAny_bind (wpAny_field he rfl (x:=.none) rfl ?_)
 rw[if_neg (by decide)]
 refine wpAny_entryW hfr (hl.of_keeps fun b o hb _=>⟨o,hx.keeps b o hb,rfl⟩) hf he (fun b o hb=>hx.keeps b o (hkb b o hb)) (fresh e hx.new) rfl (by simp) (a0:=.ref t) rfl fun h' hN=>?_
 obtain⟨n1,n2,n3,n4⟩:=hN
 exact hQ h' (.ref t) ⟨n1,fresh e hx.new,n2,n3⟩ n4
theorem XE {M:Model}{A:Around}{E:Value→Shared→Prop}{c:Value}{e:Addr}{Q:Unit→Shared→Prop}(I:Inv X pins σ H s)(F:Fn1 X)(hA:A.frames=some X.stack)(f:FlyX X pins H c e s.heap)
  (hQ:∀ h' B a0,Heap.FlyingW B X.stack e c a0 h'→Inv X pins σ H { s with heap:=h' } → Cv X pins H B h'→Q () { s with heap:=h' }) :
  wpAny M A (noteFrame (.ref e) X.env) (fun _ s₂=>wpAny M A (setFlight (.ref e) none) Q E s₂) E s:=by
 have land:∀ (B:Heap) (a0:Value) (h1:Heap),Cv X pins H B s.heap→Heap.HeldW B X.stack e c a0 X.env.locals h1→s.heap.UpToSlots h1→wpAny M A (setFlight (.ref e) none) Q E { s with heap:=h1 }:=fun B a0 h1 cv hh up=>by
  refine wpAny_landsW (s:={ s with heap:=h1 }) hh fun h2 f2 u2=>?_
  obtain⟨I2,cv2⟩:=Inv.fly I F cv f2.1 (up.trans u2)
  exact hQ h2 B a0 f2 I2 cv2
 cases f with
 |new g args hm hf hk =>
  obtain⟨k1,k2,k3⟩:=oC I hm hf hk
  rw[F.2.1] at hA
  exact cP hA F.2.2 k1 (by rw[← F.2.1];exact k2) hm fun h' a0 x1 x2=>land _ a0 h' k3 (F.2.1▸x1) x2
 |fly B a0 fl cv =>
  rw[F.2.1] at hA
  exact wpAny_looks_onW hA F.2.2 (by rw[← F.2.1];exact fl) fun h' x1 x2=>land B a0 h' cv (by rw[F.2.1];exact x1) x2
theorem rH {B:Heap}{c a0:Value}{e:Addr}(I:Inv X pins σ H s)(F:Fn1 X)(fl:Heap.FlyingW B X.stack e c a0 s.heap)(cv:Cv X pins H B s.heap):¬ Old X pins H e∧e ∉ frs X.stack∧∃ ob,s.heap.get? e=some ob∧ob.cls=c:=by
 obtain⟨oe,vs,he,hc,hd,_⟩:=fl.first
 have nf:e ∉ frs X.stack:=fun z=>by
  obtain⟨_,o,ho,hn⟩:=I.stack.mem z
  rw[he] at ho;cases ho
  exact hn vs hd
 refine⟨fun z=>?_,nf,oe,he,hc⟩
 have q:=cv e oe he z nf
 rw[fl.2.1] at q;cases q
theorem Inv.track {e:Addr}{c:Value}{ob:Obj}(I:Inv X pins σ H s)(F:Fn1 X)(no:¬ Old X pins H e)(nf:e ∉ frs X.stack)(he:s.heap.get? e=some ob)(hc:ob.cls=c):Inv X pins σ (upd H e (lT e c)) s:=by
 have hn:H e=none:=by
  cases q:H e with
  |none=>rfl
  |some u=>exact absurd (.inr (.inl (by rw[q];intro z;cases z))) no
 have nL:e≠X.env.locals:=fun z=>nf (F.mem.mpr (.inl z))
 have n0:∀ b o,X.s₀.heap.get? b=some o→b≠e:=fun b o q z=>no (.inl ⟨o,z▸q⟩)
 refine⟨I.ok,I.os,I.bare,⟨I.base.keep,I.base.slot,fun b o q n hx=>?_,I.base.there,fun b xs q=>?_,fun b o xs q=>?_,fun b ps q=>?_⟩,I.loc,I.cell,?_,fun x k q=>?_,fun p hp=>?_,fun b u q=>?_,I.len⟩
 ·rw[qI (n0 b o q)];exact I.base.free b o q n hx
 ·have z:=I.base.tups b xs q
  rw[qI (qQ z hn)];exact z
 ·have z:=I.base.frzs b o xs q
  rw[qI (qQ z hn)];exact z
 ·obtain⟨m,z⟩:=I.base.tbls b ps q
  exact⟨m,by rw[qI (qQ z hn)];exact z⟩
 ·rw[qI (Ne.symm nL)];exact I.free
 ·have z:k≠e:=fun z=>no (.inr (.inr (.inr ⟨x,z▸q⟩)))
  rw[qI z];exact I.freeC x k q
 ·obtain⟨a1,a2,a3,a4,a5⟩:=I.pin p hp
  have z:p.1≠e:=fun z=>no (.inr (.inr (.inl ⟨p,hp,z⟩)))
  exact⟨a1,by rw[qI z];exact a2,a3,a4,a5⟩
 ·by_cases hb:b=e
  ·subst hb
   rw[qS] at q;cases q
   refine⟨⟨ob,he,hc⟩,⟨ob,he⟩,fun h1 h2 ⟨o,q1,q2⟩ k=>⟨o,k o q1,q2⟩⟩
  ·rw[qI hb] at q
   exact(I.hok b u q).stay (fun _ _ _ z=>z) (fun k z=>by rw[qI (qQ z hn)];exact z) fun k xs z=>by rw[qI (qQ z hn)];exact z
theorem Inv.gone {i t':Nat}{n:Str}{h':Heap}(I:Inv X pins σ H s)(hN:X.N.Nodup)(hi:X.N[i]? = some n){m:Str→Option Value}{v:Option Value}(hl:∀ (j:Nat) (y:Str) (w:V),X.N[j]? = some y→σ[j]? = some (some w)→Vis X.env.scope y→∃ u,qK w u∧KP X.env s.heap m y u)(hv:h'.Ns X.env.locals fun y=>if y=n then v else m y)(sb:Heap.SameBut X.env.locals s.heap h') :
  Inv X pins (σ.set i none) H { s with heap:=h',toks:=t' }:=by
 have neL:∀ b o,X.s₀.heap.get? b=some o→b≠X.env.locals:=fun b o e=>Nat.ne_of_lt (Nat.lt_of_lt_of_le (Heap.lt_size e) I.ok.above)
 have kp:∀ b o,b≠X.env.locals→s.heap.get? b=some o→h'.get? b=some o:=fun b o n e=>(sb.2 b n).trans e
 refine⟨I.ok,I.os,I.bare,⟨fun b o e n hb hx=>kp b o (neL b o e) (I.base.keep b o e n hb hx),fun b o e n hb hx=>?_,I.base.free,fun b o e hx=>?_,I.base.tups,I.base.frzs,I.base.tbls⟩,⟨_,hv,fun j y w e1 e2 e3=>?_⟩,fun x c e=>?_,I.free,I.freeC,fun p hp=>?_,fun b u q=>?_,by simpa using I.len⟩
 ·obtain⟨sl,q⟩:=I.base.slot b o e n hb hx
  exact⟨sl,kp b _ (neL b o e) q⟩
 ·obtain⟨o',q⟩:=I.base.there b o e hx
  exact⟨o',kp b o' (neL b o e) q⟩
 ·have hj:i≠j:=fun z=>by
   subst z
   by_cases hs:i<σ.length
   ·rw[List.getElem?_set_self hs] at e2;cases e2
   ·rw[List.getElem?_eq_none (by simp;omega)] at e2;cases e2
  rw[List.getElem?_set_ne hj] at e2
  obtain⟨u,r,l⟩:=hl j y w e1 e2 e3
  refine⟨u,r,?_⟩
  rcases l with⟨k,z⟩|⟨k,c,z,zc⟩
  ·refine .inl ⟨k,?_⟩
   have:y≠n:=fun z=>hj (bP hN hi (z▸e1))
   simp[this,z]
  ·exact .inr ⟨k,c,z,zc.sameBut sb (I.cne y c z)⟩
 ·obtain⟨w,z⟩:=I.cell x c e
  exact⟨w,z.sameBut sb (I.cne x c e)⟩
 ·obtain⟨e,n,ne,nf,d⟩:=I.pin p hp
  exact⟨kp p.1 p.2 ne e,n,ne,nf,d⟩
 ·refine(I.hok b u q).stay (fun c w hc z=>kp c w ?_ z) (fun _ z=>z) fun _ _ z=>z
  rintro rfl
  rcases hc with rfl|hc
  ·rw[I.free] at q;cases q
  ·rw[I.free] at hc;cases hc
theorem rM {M:Model}{A:Around}{E:Value→Shared→Prop}{i:Nat}{n:Str}{pos:Pos}{Q:Unit→Shared→Prop}(I:Inv X pins σ H s)(hN:X.N.Nodup)(hi:X.N[i]? = some n)(hlo:X.env.scope.names.lookup n=some .local)
  (h:∀ s',Inv X pins (σ.set i none) H s'→Q () s'):wpAny M A (do bindName X.env n .none;unbindBehindTheSuite X.env n pos) Q E s:=by
 obtain⟨m,hm,hl⟩:=id I.loc
 exact wpAny_nameGoes_keeps hlo hm (by rw[I.ok.kind];rfl) fun h' v hv sb=>h _ (Inv.gone I hN hi hl hv sb)
end
end _D
end
section
namespace _D
open PySem PySem.Spec PyProof.Rows _L
abbrev Cx.tryIn (X:Cx)(E:Value→Shared→Prop)(pn:List (Addr × Obj)):Cx:={ X with xe:=E,pn:=pn }
abbrev Cx.suite (X:Cx)(e:Addr):Cx:=Cx.re X (X.A.mark (some (.ref e))) false fun _ _=>False
def bU (N i:Nat)(cs:List Value)(f g:DS):DS:=fun env S=>match f env S with
 |.ex c x env1 S1=>if cs.contains c then (match g ((List.replicate N none).set i (some (.exn c))) S1 with
   |.rt d S2=>.rt d S2
   |.nx env2 S2=>.nx (env2.set i none) S2
   |_=>.bad) else .bad
 |o=>o
section
variable {X:Cx}{pins:List (Addr × Obj)}{σ : _L.St}{H:Hp}{s:Shared}
theorem Inv.inTry (I:Inv X pins σ H s)(E:Value→Shared→Prop):Inv (Cx.tryIn X E (X.pn++pins)) [] σ H s:=
 ⟨⟨I.ok.mod,I.ok.kind,I.ok.glob,I.ok.blt,I.ok.above,I.ok.inj,I.ok.has,I.ok.cab,I.ok.hd,I.ok.frames,I.ok.stk,I.ok.exf,I.ok.bs,I.ok.bsz,I.ok.noex,I.ok.exfs,I.ok.funs,I.ok.frf⟩,I.os,I.bare,I.base,I.loc,I.cell,I.free,I.freeC,fun p hp=>I.pin p (by simpa using hp),I.hok,I.len⟩
theorem Inv.outTry {E:Value→Shared→Prop}{more:List (Addr × Obj)}(I:Inv (Cx.tryIn X E (X.pn++pins)) more σ H s):Inv X pins σ H s:=
 ⟨⟨I.ok.mod,I.ok.kind,I.ok.glob,I.ok.blt,I.ok.above,I.ok.inj,I.ok.has,I.ok.cab,I.ok.hd,I.ok.frames,I.ok.stk,I.ok.exf,I.ok.bs,I.ok.bsz,I.ok.noex,I.ok.exfs,I.ok.funs,I.ok.frf⟩,I.os,I.bare,I.base,I.loc,I.cell,I.free,I.freeC,fun p hp=>I.pin p (List.mem_append_left _ hp),I.hok,I.len⟩
theorem SP.outTry {E:Value→Shared→Prop}{D:Ends}{f:Flow}{s':Shared}(h:SP (Cx.tryIn X E (X.pn++pins)) [] D f s'):SP X pins D f s':=by
 cases f with
 |next=>obtain⟨σ',H',I,q⟩:=h;exact⟨σ',H',Inv.outTry I,q⟩
 |brk=>obtain⟨σ',H',I,q⟩:=h;exact⟨σ',H',Inv.outTry I,q⟩
 |cont=>obtain⟨σ',H',I,q⟩:=h;exact⟨σ',H',Inv.outTry I,q⟩
 |ret u=>obtain⟨v,σ',H',I,r,q⟩:=h;exact⟨v,σ',H',Inv.outTry I,r,q⟩
theorem FlyX.outTry {E:Value→Shared→Prop}{more:List (Addr × Obj)}{c:Value}{e:Addr}{h:Heap}(f:FlyX (Cx.tryIn X E (X.pn++pins)) more H c e h):FlyX X pins H c e h:=by
 have old:∀ b,Old X pins H b→Old (Cx.tryIn X E (X.pn++pins)) more H b:=fun b o=>by
  rcases o with o|o|⟨p,hp,z⟩|o
  ·exact .inl o
  ·exact .inr (.inl o)
  ·exact .inr (.inr (.inl ⟨p,List.mem_append_left _ hp,z⟩))
  ·exact .inr (.inr (.inr o))
 cases f with
 |new g args hm hf hk=>exact .new g args hm hf fun b o e q=>hk b o e (old b q)
 |fly B a0 fl cv=>exact .fly B a0 fl fun b o e q n=>cv b o e (old b q) n
theorem Q3 {K:PySem.W.Frag}{P:Hp}{α : List Addr}{σ : _L.St}{n:Nat}(h:σ.length=n):qW K P α σ (List.replicate n none):=by
 refine⟨by simp[h],fun i d e=>?_⟩
 rw[List.getElem?_replicate] at e
 split at e <;> cases e
theorem qW.unset {K:PySem.W.Frag}{P:Hp}{α : List Addr}{σ : _L.St}{env:qD}(re:qW K P α σ env)(i:Nat):qW K P α (σ.set i none) (env.set i none):=by
 refine⟨by simp[re.1],fun j d e=>?_⟩
 by_cases hj:i=j
 ·subst hj
  by_cases hi:i<env.length
  ·rw[List.getElem?_set_self hi] at e;cases e
  ·rw[List.getElem?_eq_none (by simp;omega)] at e;cases e
 ·rw[List.getElem?_set_ne hj] at e ⊢
  exact re.2 j d e
end
section
variable {X:Cx}{pos:Pos}{f g:DS}
theorem BB {pins:List (Addr × Obj)}{D:Ends}{c:Value}{e C0:Addr}{s':Shared}{σ : _L.St}{H P:Hp}{α : List Addr}{S1:Sto}{x n:Str}{i:Nat}{b₀:Stmt}{suite:List Stmt}{np hpos:Pos}{cs:List Value}
  (F:Fn1 X) (hg:Gl X x) (hm:X.mg x=some (.ref C0)) (hcs:∀ c∈cs,PySem.W.exmOne X.K c (.ref C0)=some true) (hN:X.N.Nodup) (hi:X.N[i]? = some n) (hlo:X.env.scope.names.lookup n=some .local)
  (hs:∀ e,PSs (Cx.suite X e) (b₀::suite) (tDS (Cx.suite X e) g)) (hc:cs.contains c=true) (I:Inv X pins σ H s') (r:Rel X.K H P α S1) (fl:FlyX X pins H c e s'.heap)
  (af:qV X P α (match g ((List.replicate X.N.length none).set i (some (.exn c))) S1 with|.rt d S2=>.rt d S2|.nx env2 S2=>.nx (env2.set i none) S2|_=>.bad) D) (hdb:(x == ("__debug__" : Str))=false) :
  wpAny (model X.prog X.w) X.A (noteFrame (.ref e) X.env) (fun _ s₂=>wpAny (model X.prog X.w) X.A (setFlight (.ref e) none) (fun _ s₃ =>
   wpAny (model X.prog X.w) X.A (handleBy (.ref e) X.env [.ExceptHandler (some (.Name x np)) (some n) (b₀::suite) hpos]) (SP X pins D) X.xe s₃) X.xe s₂) X.xe s':=by
 have hcs':PySem.W.exmOne X.K c (.ref C0)=some true:=hcs c (by simpa using hc)
 have Z:∀ {σ : _L.St} {H:Hp} {s:Shared},Inv X pins σ H s→Inv (Cx.suite X e) pins σ H s:=fun I=>Inv.re I _ false _ I.ok.frames fun z=>nomatch z
 refine XE I F I.ok.frames fl fun h5 B a0 f5 I5 cv5=>?_
 refine wpAny_handleBy_cons (codeAny_handlers_test (A:=X.A.mark (some (.ref e))) (vN (X:=Cx.suite X e) (Z I5) hg hm ?_ hdb)) (by intro q;cases q)
 obtain⟨no5,nf5,ob5,he5,hc5⟩:=rH I5 F f5 cv5
 refine(PySem.W.exm_one I5.kIn (by subst hc5;exact(PySem.W.Looks.ld he5).andThen .now) hcs').at ?_
 refine codeAny_handlers_suite_as ?_
 refine lands_againW (s:={ s' with heap:=h5 }) f5 fun h6 f6 u6=>?_
 obtain⟨I6,cv6⟩:=Inv.fly I5 F cv5 f6.1 u6
 obtain⟨no6,nf6,ob6,he6,hc6⟩:=rH I6 F f6 cv6
 have J6:Inv X pins σ (upd H e (lT e c)) { s' with heap:=h6 }:=Inv.track I6 F no6 nf6 he6 hc6
 have hn:H e=none:=by
  cases q:H e with
  |none=>rfl
  |some u=>exact absurd (.inr (.inl (by rw[q];intro z;cases z))) no6
 obtain⟨r1,sP⟩:=r.pure (o:=lT e c) hn
 refine wW (X:=Cx.suite X e) (v:=.ref e) (Z J6) hN hi (.inl hlo) rfl (fun s7 I7=>?_) (.inr hlo)
 have re7:qW X.K (upd P e (lT e c)) α (σ.set i (some (.ref e))) ((List.replicate X.N.length none).set i (some (.exn c))):=(Q3 I.len).set i (by simp only[Rep];exact⟨e,rfl,qS⟩)
 refine wpAny_mono (hs e pins s7 _ _ { nx:=fun σ' H'=>D.nx (σ'.set i none) H',rt:=D.rt } I7 ⟨_,α,_,S1,r1,re7,?_⟩) (fun fl s8 q=>?_) fun _ _ z=>False.elim z
 ·cases q:g ((List.replicate X.N.length none).set i (some (.exn c))) S1 with
  |rt d S2=>rw[q] at af;exact fun v H' P' α' r' e1 e2 rp=>af v H' P' α' r' (sP.trans e1) e2 rp
  |nx env2 S2=>rw[q] at af;exact fun σ' H' P' α' r' re' e1 e2=>af _ H' P' α' r' (qW.unset re' i) (sP.trans e1) e2
  |bk env2 S2=>rw[q] at af;exact False.elim af
  |ct env2 S2=>rw[q] at af;exact False.elim af
  |ex c' x' env2 S2=>rw[q] at af;exact False.elim af
  |bad=>rw[q] at af;exact False.elim af
 ·cases fl with
  |next =>
   obtain⟨σ',H',I8,q⟩:=q
   exact rM (Inv.unre I8 I.ok.frames I.ok.hd) hN hi hlo fun s9 I9=>⟨_,H',I9,q⟩
  |brk =>
   obtain⟨_,_,_,q⟩:=q
   exact False.elim q
  |cont =>
   obtain⟨_,_,_,q⟩:=q
   exact False.elim q
  |ret u =>
   obtain⟨v,σ',H',I8,rv,q⟩:=q
   exact rM (Inv.unre I8 I.ok.frames I.ok.hd) hN hi hlo fun s9 I9=>⟨v,_,H',I9,rv,q⟩
set_option tactic.hygienic true in
theorem PM {x n:Str}{C0:Addr}{i:Nat}{body:List Stmt}{b₀:Stmt}{suite:List Stmt}{np hpos:Pos}{cs:List Value}(F:Fn1 X)(hb:∀ E pn,PassesOwn (model X.prog X.w) X.A X.env E→PSs (Cx.tryIn X E pn) body (tDS (Cx.tryIn X E pn) f))
  (hs:∀ e,PSs (Cx.suite X e) (b₀::suite) (tDS (Cx.suite X e) g)) (hg:Gl X x) (hm:X.mg x=some (.ref C0)) (hcs:∀ c∈cs,PySem.W.exmOne X.K c (.ref C0)=some true) (hN:X.N.Nodup) (hi:X.N[i]? = some n:=by rfl) (hlo:X.env.scope.names.lookup n=some .local:=by rfl)
  (hdb:(x == ("__debug__" : Str))=false:=by decide):PS X (.Try body [.ExceptHandler (some (.Name x np)) (some n) (b₀::suite) hpos] [] [] pos) (tDS X (bU X.N.length i cs f g)):=by
 intro pins s σ H D I h
 obtain⟨P,α,env,S,r,re,af⟩:=h
 refine wpAny_Try_except ?_
 refine wpAny_mono (hb _ (X.pn++pins) (PassesOwn.looking (K:=fun e s₂=>wpAny (model X.prog X.w) X.A (setFlight e none) (fun _ s₃=>wpAny (model X.prog X.w) X.A (handleBy e X.env [.ExceptHandler (some (.Name x np)) (some n) (b₀::suite) hpos]) (SP X pins D) X.xe s₃) X.xe s₂) (E₁:=X.xe))
  [] s σ H D (Inv.inTry I _) ⟨P,α,env,S,r,re,?_⟩) (fun fl s1 q=>?_) fun _ _ z=>z
 ·unfold bU at af
  cases q:f env S with
  |rt d S2=>rw[q] at af;exact af
  |nx env2 S2=>rw[q] at af;exact af
  |bk env2 S2=>rw[q] at af;exact af
  |ct env2 S2=>rw[q] at af;exact af
  |bad=>rw[q] at af;exact af
  |ex c x' env2 S2 =>
   rw[q] at af
   dsimp only at af
   intro u s' k
   obtain⟨e,pins',σ',H',P',α',rfl,I',r',e1,e2,F',fl⟩:=k
   split at af
   ·rename_i hc
    exact BB F hg hm hcs hN hi hlo hs hc (Inv.outTry I') r' (FlyX.outTry fl) (qV.base e1 e2 af) hdb
   ·exact False.elim af
 ·have q':=SP.outTry q
  cases fl with
  |next=>exact wpAny_execs_nil q'
  |brk=>exact q'
  |cont=>exact q'
  |ret u=>exact q'
end
end _D
end
section
namespace _D
open PySem PySem.Spec PyProof.Rows _L PySem.W
structure ExnK (K:PySem.W.Frag)(C:Addr):Prop where
 ga:findIn K (.ref C) "__getattribute__" = some (some (.builtin "BaseException.__getattribute__"))
 hk:findIn K (.ref C) "__getattr__" = some none
 cl:findIn K (.ref C) "__class__" = some (some (.builtin "object.__class__"))
 sp:specialIn K (.builtin "object.__class__") "__get__" = some (some (.builtin "getset_descriptor.__get__"))
 tk:takesIn K (.builtin "object.__class__")=some true
 mo:mroIn K C (.type "object")=some true
 mb:mroIn K C (.type "BaseException")=some true
 isC:(clsIn K C).isSome=true
section
variable {prog:Program}{w:World}{A:Around}{E:Value→Shared→Prop}{s:Shared}{K:PySem.W.Frag}{x C:Addr}
abbrev vS (x C:Addr)(h:Heap):Prop:=∃ ob,h.get? x=some ob∧ob.cls=.ref C
theorem vS.type {M:Model}{h:Heap}(I:vS x C h):Looks M h (typeOf (.ref x)) (.ref C):=by
 obtain⟨ob,e,c⟩:=I
 rw[← c]
 exact(Looks.ld e).andThen .now
theorem ZQ {M:Model}{h:Heap}(X:K.In h)(Z:ExnK K C):Looks M h (Builtin.ObjectAttr.find (.ref x) (.ref C) "__class__") (.bind (.builtin "getset_descriptor.__get__") (.builtin "object.__class__")):=by
 have l1:=looks_findIn (M:=M) X Z.cl
 have l2:Looks M h (Builtin.ObjectAttr.getOf (some (.builtin "object.__class__"))) (some (.builtin "getset_descriptor.__get__")):=looks_specialIn X Z.sp
 have l3:=looks_takesIn (M:=M) X Z.tk
 have l4:Looks M h (Builtin.ObjectAttr.dataDescriptor? (some (.builtin "object.__class__")) (some (.builtin "getset_descriptor.__get__"))) (some (.builtin "getset_descriptor.__get__",.builtin "object.__class__")):=l3.andThen .now
 exact l1.andThen (l2.andThen (l4.andThen (Looks.tag .now)))
theorem VU {R:Result→Shared→Prop}{tp:Value}(X:K.In s.heap)(Z:ExnK K C)(I:vS x C s.heap)(h:R (.ok (.ret (.ref C))) s) :
  codeAny (model prog w) A (.call (.builtin "getset_descriptor.__get__") ⟨[.builtin "object.__class__",.ref x,tp],[]⟩) R s:=by
 have LT:=vS.type (M:=model prog w) I
 have LM:=looks_mroIn (M:=model prog w) X Z.mo
 cases s
 refine codeAny_call_builtin KF.slot_gs.plain KF.entry_gs (KF.slot_gs.check _ _ _ _ _ _ _ _ KF.type_class (KF.args_gs _ _ _) ?_)
 unfold Builtin.«getset_descriptor.__get__» Builtin.Getset_descriptor.descrGet
 rw[dga_obj]
 refine wpAny_bind (wpAny_pure ?_)
 unfold Builtin.Getset_descriptor.descrGetter Builtin.Getset_descriptor.descrCheckInstance Builtin.Getset_descriptor.descrNameAndClass isInstance
 simp only[KF.owner_class]
 repeat lk
 refine⟨Code.quiet_builtin _ (by decide +kernel),codeAny_builtin KF.entry_class ?_⟩
 unfold Builtin.«object.__class__» shownTypeOf
 repeat lk
 exact h
theorem B3 {tk:Tok}{R:Result→Shared→Prop}(X:K.In s.heap)(Z:ExnK K C)(I:vS x C s.heap)(h:R (.ok (.ret (.ref C))) s) :
  codeAny (model prog w) A (.call (.builtin "BaseException.__getattribute__") ⟨[.ref x,.str "__class__" tk],[]⟩) R s:=by
 have LT:=vS.type (M:=model prog w) I
 have LM:=looks_mroIn (M:=model prog w) X Z.mb
 have LF:=ZQ (M:=model prog w) (x:=x) X Z
 have hk:builtinKind "BaseException.__getattribute__" = some .slot:=by decide +kernel
 have hsp:splitId "BaseException.__getattribute__" = some ("BaseException","__getattribute__"):=by decide +kernel
 have chk:∀ (A:Around) (Q:Unit→Shared→Prop) (E:Value→Shared→Prop),Q () s→wpAny (model prog w) A (checkBuiltinCall "BaseException.__getattribute__" ⟨[.ref x,.str "__class__" tk],[]⟩) Q E s:=by
  intro A Q E hq
  have ha:=PySem.F.args_bexc_ga (.ref x) (.str "__class__" tk)
  simp only[checkBuiltinCall,hk,hsp]
  unfold isInstance
  refine wpAny_bind (wpAny_bind (LT.here (LM.here ?_)))
  repeat (any_goals (first|assumption|wp_step))
 refine codeAny_call_builtin PySem.F.attr_ValueError.ga.plain PySem.F.entry_bexc_ga (chk _ _ _ ?_)
 cases s
 unfold Builtin.«object.__getattribute__»
 refine wpAny_bind (wpAny_of_eq (show slotArgs "__getattribute__" 1 ⟨[.ref x,.str "__class__" tk],[]⟩=pure (.ref x,[.str "__class__" tk]) from by kernel_rfl) ?_)
 refine wpAny_bind (wpAny_pure (wpAny_bind (LT.at (wpAny_bind (LF.at ?_)))))
 show wpAny _ _ (Builtin.ObjectAttr.bindTo _ _ _ _) _ _ _
 unfold Builtin.ObjectAttr.bindTo
 dsimp only
 exact wpAny_bind (wpAny_holding (wpAny_call (VU X Z I (wpAny_pure h))))
theorem iF {Q:Option Value→Shared→Prop}(X:K.In s.heap)(Z:ExnK K C)(I:vS x C s.heap)(h:Q (some (.ref C)) { s with toks:=s.toks+1 }) : wpAny (model prog w) A (getAttr? (.ref x) "__class__") Q E s:=by
 have LT:=vS.type (M:=model prog w) I
 have L1:=looks_findIn (M:=model prog w) X Z.ga
 have lk2:=looks_findIn (M:=model prog w) X Z.hk
 unfold getAttr? getAttrBy? getAttrBy
 cases s
 refine wpAny_bind (wpAny_mkText (wpAny_bind (wpAny_attempt (wpAny_holding (wpAny_bind (LT.at (wpAny_bind (L1.at ?_))))))))
 dsimp only
 have hx2:(Value.builtin "BaseException.__getattribute__" == Value.builtin "object.__getattribute__")=false:=by decide +kernel
 rw[hx2,Bool.and_false,if_neg Bool.false_ne_true]
 unfold getAttrByItsOwn hookBefore
 rw[if_pos (show onTheHeap (.ref C)=true from rfl)]
 refine wpAny_bind (lk2.at (wpAny_bind (wpAny_attempt (wpAny_holding ?_))))
 unfold callGetattribute
 rw[Bool.false_and,if_neg Bool.false_ne_true]
 unfold boundAndCalled
 refine wpAny_bind (wpAny_of_eq (PySem.F.attr_ValueError.ga.bind (.ref x)) ?_)
 refine wpAny_call (B3 X Z I ?_)
 show wpAny _ _ (handedOut (.ref C)) _ _ _
 exact wpAny_pure (wpAny_pure h)
set_option tactic.hygienic true in
theorem dD (Z:ExnK K C):KitX K (.ref x) (.ref C) (vS x C) where
 ty:=fun _ _ _ I=>I.type
 it:=fun M h X _=>by
  have z:=Z.isC
  unfold clsIn at z
  split at z
  ·rename_i ho
   intro A' Q' E' s' k q
   unfold isType loadHead
   exact wpAny_bind (wpAny_loadPart (k _ _ (X _ _ ho)) (wpAny_pure q))
  ·cases z
 ne:=fun h tp dd its n sl X htp=>by
  have z:=Z.isC
  unfold clsIn at z
  split at z
  ·rename_i ho
   cases hq:(Value.ref C == Value.ref tp) with
   |false=>rfl
   |true =>
    obtain rfl:C=tp:=Value.ref.inj (beq_iff_eq.mp hq)
    have y:=(X _ _ ho).symm.trans htp
    cases y
  ·cases z
 ca:=fun X I k=>iF X Z I k
end
end _D
end
section
namespace _D
open PySem PySem.Spec PyProof.Rows _L
theorem gL {α : Type}{t:Sem α}{Q Q':α→Shared→Prop}{M:Model}{A:Around}{E:Value→Shared→Prop}{s:Shared}(h:wpAny M A t Q (fun _ _=>False) s)(hQ:∀ a s,Q a s→Q' a s):wpAny M A t Q' E s:=wpAny_mono h hQ fun _ _ x=>x.elim
def j0 (ifs:List Expr)(env:Env):Sem Bool:=forIn ifs true fun c r=>if r=true then do let ok ← PySem.isTrue c env (eval c env);pure (ForInStep.yield ok) else pure (ForInStep.yield r)
def PTs (X:Cx)(ifs:List Expr)(t:DT):Prop:=
 ∀ (pins:List (Addr × Obj)) (s:Shared) (σ : _L.St) (H:Hp) (Q:Bool→Hp→Prop),Inv X pins σ H s→tDT X t σ H Q→wpAny (model X.prog X.w) X.A (j0 ifs X.env) (TP X pins σ Q) X.xe s
def zV:DT:=fun _ S=>.ok true S
section
variable {X:Cx}
theorem bF {prog:Program}{w:World}{A:Around}{E:Value→Shared→Prop}{env:Env}{Q:Bool→Shared→Prop}:∀ (ifs:List Expr) {s:Shared},Q false s →
  wpAny (model prog w) A (forIn ifs false fun c r=>if r=true then do let ok ← PySem.isTrue c env (eval c env);pure (ForInStep.yield ok) else pure (ForInStep.yield r)) Q E s
 |[],s,h=>by rw[List.forIn_nil];exact wpAny_pure h
 |c::cs,s,h=>by
  rw[List.forIn_cons]
  rw[if_neg (by simp)]
  refine wpAny_bind (wpAny_pure ?_)
  exact bF cs h
theorem VP:PTs X [] zV:=fun pins s σ H Q I ⟨P,α,env,S,r,re,af⟩=>by
 unfold j0
 rw[List.forIn_nil]
 exact wpAny_pure ⟨H,I,af H P α r (qF.refl _) (List.prefix_refl _)⟩
theorem ZL {c:Expr}{cs:List Expr}{t u:DT}(h1:PT X c (tDT X t))(h2:PTs X cs u):PTs X (c::cs) (zM t u):=fun pins s σ H Q I ⟨P,α,env,S,r,re,af⟩=>by
 unfold j0
 rw[List.forIn_cons,if_pos rfl]
 refine wpAny_bind (wpAny_bind (thn (gZ (fun Q' q=>h1 pins s σ H Q' I q) r re af) fun b s1 ⟨H1,P1,α1,S1,I1,r1,re1,e1,e2,af1⟩=>wpAny_pure ?_))
 cases b with
 |true=>exact h2 pins s1 σ H1 Q I1 ⟨P1,α1,env,S1,r1,re1,uK.base e1 e2 af1⟩
 |false=>exact bF cs ⟨H1,I1,af1 H1 P1 α1 r1 e1 e2⟩
theorem SZ {e:Expr}{f:DE}{pins:List (Addr × Obj)}{s:Shared}{σ : _L.St}{H P:Hp}{α : List Addr}{env:qD}{S:Sto}{d:D}{S1:Sto}(he:PE X e (tD X f))(I:Inv X pins σ H s)(r:Rel X.K H P α S)(re:qW X.K P α σ env)(q:f env S=.ok d S1) :
  wpAny (model X.prog X.w) X.A (eval e X.env) (fun u s1=>∃ v H1 P1 α1,Got X pins σ env P α u s1 v H1 P1 α1 d S1) X.xe s:=by
 refine thn (xC (g:=fun d S=>Res.ok d S) (Ok:=fun d' S'=>d'=d∧S'=S1) he I r re (by rw[q];exact⟨rfl,rfl⟩)) fun u s1 ⟨v,H1,P1,α1,d',S',G,h1,h2⟩=>?_
 have e1:d'=d:=h1
 have e2:S'=S1:=h2
 subst e1;subst e2
 exact⟨v,H1,P1,α1,G⟩
theorem LN {ifs:List Expr}{t:DT}{pins:List (Addr × Obj)}{s:Shared}{σ : _L.St}{H P:Hp}{α : List Addr}{env:qD}{S:Sto}{b:Bool}{S1:Sto}(he:PTs X ifs t)(I:Inv X pins σ H s)(r:Rel X.K H P α S)(re:qW X.K P α σ env)(q:t env S=.ok b S1) :
  wpAny (model X.prog X.w) X.A (j0 ifs X.env) (fun b' s1=>b'=b∧∃ H1 P1 α1,Inv X pins σ H1 s1∧Rel X.K H1 P1 α1 S1∧qW X.K P1 α1 σ env∧qF P P1∧α<+:α1) X.xe s:=by
 refine thn (he pins s σ H (fun b' H1=>b'=b∧∃ P1 α1,Rel X.K H1 P1 α1 S1∧qW X.K P1 α1 σ env∧qF P P1∧α<+:α1) I ⟨P,α,env,S,r,re,?_⟩) fun b' s1 ⟨H1,I1,e,P1,α1,q1,q2,q3,q4⟩=>⟨e,H1,P1,α1,I1,q1,q2,q3,q4⟩
 rw[q]
 exact fun H' P' α' r' e1 e2=>⟨rfl,P',α',r',re.mono e1 e2,e1,e2⟩
theorem R0 {tg:Expr}{g:DG}{pins:List (Addr × Obj)}{s:Shared}{σ : _L.St}{H P:Hp}{α : List Addr}{env env1:qD}{S:Sto}{d:D}{v:V}{u:Value}{S1:Sto}(hg:PG X tg (tDG X g))(I:Inv X pins σ H s)(r:Rel X.K H P α S)(re:qW X.K P α σ env)(rv:qK v u)
  (rp:Rep X.K P α d v) (q:g d env S=.ok env1 S1) :
  wpAny (model X.prog X.w) X.A (assign tg X.env u) (fun _ s1=>∃ σ1 H1 P1 α1,Inv X pins σ1 H1 s1∧Rel X.K H1 P1 α1 S1∧qW X.K P1 α1 σ1 env1∧qF P P1∧α<+:α1) X.xe s:=by
 refine thn (hg pins s σ H v u (fun σ1 H1=>∃ P1 α1,Rel X.K H1 P1 α1 S1∧qW X.K P1 α1 σ1 env1∧qF P P1∧α<+:α1) I rv ⟨P,α,env,S,d,r,re,rp,?_⟩) fun _ s1 ⟨σ1,H1,I1,P1,α1,q1,q2,q3,q4⟩=>⟨σ1,H1,P1,α1,I1,q1,q2,q3,q4⟩
 rw[q]
 exact fun σ' H' P' α' r' re' e1 e2=>⟨P',α',r',re',e1,e2⟩
def fY (K:PySem.W.Frag)(P:Hp)(α : List Addr)(ds:List D)(o:Obj):Prop:=∃ (its:List Value) (n:Nat) (vs:List V),o={ cls:=.type "list",data:=.seq its.toArray n } ∧ qN vs its∧qE K P α ds vs∧ds.length≤lim
theorem fY.mono {K:PySem.W.Frag}{P P1:Hp}{α α1:List Addr}{ds:List D}{o:Obj}(e:qF P P1)(h:α<+:α1)(a:fY K P α ds o):fY K P1 α1 ds o:=by
 obtain⟨its,n,vs,q1,q2,q3,q4⟩:=a
 exact⟨its,n,vs,q1,q2,qE.mono e h _ _ q3,q4⟩
theorem fY.cell {K:PySem.W.Frag}{P:Hp}{α : List Addr}{ds:List D}{o:Obj}(a:fY K P α ds o):∀ v,o.data≠.cell v:=by
 obtain⟨its,n,vs,rfl,_⟩:=a
 intro v z;cases z
theorem Inv.pin1 {pins:List (Addr × Obj)}{σ : _L.St}{H:Hp}{s:Shared}{a:Addr}{o:Obj}(I:Inv X pins σ H s)(f:x9 X pins H a)(e:s.heap.get? a=some o)(d:∀ v,o.data≠.cell v):Inv X (pins++[(a,o)]) σ H s:=
 I.pins_of fun p hp=>(List.mem_append.mp hp).elim (fun z=>I.pin p (List.mem_append_right _ z)) fun z=>by
  have e':p=(a,o):=by simpa using z
  subst e'
  exact⟨e,f.1,f.2.1,f.2.2.1,d⟩
theorem Inv.pinned1 {pins:List (Addr × Obj)}{σ : _L.St}{H:Hp}{s:Shared}{a:Addr}{o:Obj}(I:Inv X (pins++[(a,o)]) σ H s):s.heap.get? a=some o∧H a=none:=by
 have:=I.pin (a,o) (List.mem_append_right _ (List.mem_append_right _ (by simp)))
 exact⟨this.1,this.2.1⟩
end
end _D
end
section
namespace _D
open PySem PySem.Spec PyProof.Rows _L
structure TurnSt (Y:Cx)(pins:List (Addr × Obj))(P1:Hp)(α1:List Addr)(fp:List Addr)(acc:Addr)(env:qD)(S:Sto)(ds:List D)(s:Shared)(σ : _L.St)(H P:Hp)(α : List Addr)(o:Obj):Prop where
 inv:Inv Y pins σ H s
 rel:Rel Y.K H P α S
 env:qW Y.K P α σ env
 same:qF P1 P
 pre:α1<+:α
 fpn:∀ b∈fp,H b=none
 acn:H acc=none
 at':s.heap.get? acc=some o
 acc:fY Y.K P α ds o
end _D
end
section
namespace _D
open PySem PySem.Spec PyProof.Rows _L
def wL (cells:List (Str × Addr)):List (Str × NameKind)→List (Str × Addr)→List (Str × Addr)
 |[],cs=>cs
 |(n,k)::r,cs=>wL cells r (if k == .free then (n,(cells.lookup n).getD 0)::cs else cs)
theorem gQ {env:Env}{scope:Scope}(h:∀ y∈scope.names,y.2=.free→∃ c,env.cells.lookup y.1=some c):closureFor scope env=pure (wL env.cells scope.names []):=by
 have go:∀ (l:List (Str × NameKind)) (cs:List (Str × Addr)),(∀ y∈l,y.2=.free→∃ c,env.cells.lookup y.1=some c) →
   (forIn l cs fun x cs=>match x with|(name,kind)=>if (kind == NameKind.free)=true then do let a ← cellOf env name;pure (ForInStep.yield ((name,a)::cs)) else pure (ForInStep.yield cs):Sem (List (Str × Addr)))=pure (wL env.cells l cs):=by
  intro l
  induction l with
  |nil=>intro cs _;rfl
  |cons y r ih =>
   intro cs hl
   obtain⟨n,k⟩:=y
   rw[List.forIn_cons]
   by_cases hk:k=.free
   ·subst hk
    obtain⟨c,hc⟩:=hl (n,.free) List.mem_cons_self rfl
    have hc':env.cells.lookup n=some c:=hc
    have e:cellOf env n=pure c:=by unfold cellOf;rw[hc']
    simp only[beq_self_eq_true,if_true,e,pure_bind]
    rw[ih _ fun z hz=>hl z (List.mem_cons_of_mem _ hz)]
    simp only[wL,beq_self_eq_true,if_true,hc',Option.getD_some]
   ·have hb:(k == NameKind.free)=false:=by simpa using hk
    simp only[hb,Bool.false_eq_true,if_false,pure_bind]
    rw[ih _ fun z hz=>hl z (List.mem_cons_of_mem _ hz)]
    simp only[wL,hb,Bool.false_eq_true,if_false]
 unfold closureFor
 have:=go scope.names [] h
 simp only[bind_pure]
 exact this
theorem jN {cells:List (Str × Addr)}{x:Str}{c:Addr}:∀ (l:List (Str × NameKind)) (cs:List (Str × Addr)),(wL cells l cs).lookup x=some c→cs.lookup x=some c∨((x,NameKind.free)∈l∧c=(cells.lookup x).getD 0)
 |[],cs,h=>.inl h
 |(n,k)::r,cs,h=>by
  rcases jN r _ h with h|⟨h1,h2⟩
  ·by_cases hk:k=.free
   ·subst hk
    simp only[beq_self_eq_true,if_true,List.lookup_cons] at h
    cases hb:x == n with
    |true =>
     rw[hb] at h
     have e:x=n:=by simpa using hb
     subst e
     exact .inr ⟨List.mem_cons_self,(Option.some.inj h).symm⟩
    |false=>rw[hb] at h;exact .inl h
   ·have hb:(k == NameKind.free)=false:=by simpa using hk
    simp only[hb,Bool.false_eq_true,if_false] at h
    exact .inl h
  ·exact .inr ⟨List.mem_cons_of_mem _ h1,h2⟩
theorem jA {cells:List (Str × Addr)}{x:Str}:∀ (l:List (Str × NameKind)) (cs:List (Str × Addr)),((x,NameKind.free)∈l∨∃ c,cs.lookup x=some c)→∃ c,(wL cells l cs).lookup x=some c
 |[],cs,h=>by
  rcases h with h|h
  ·cases h
  ·exact h
 |(n,k)::r,cs,h=>by
  refine jA r _ ?_
  rcases h with h|⟨c,h⟩
  ·rcases List.mem_cons.mp h with e|h
   ·cases e
    exact .inr ⟨(cells.lookup x).getD 0,by simp only[beq_self_eq_true,if_true,List.lookup_cons]⟩
   ·exact .inl h
  ·by_cases hk:k=.free
   ·subst hk
    simp only[beq_self_eq_true,if_true,List.lookup_cons]
    cases hb:x == n with
    |true=>exact .inr ⟨_,rfl⟩
    |false=>exact .inr ⟨c,h⟩
   ·have hb:(k == NameKind.free)=false:=by simpa using hk
    simp only[hb,Bool.false_eq_true,if_false]
    exact .inr ⟨c,h⟩
structure CompSc (scX:Scope)(NX:List Str)(scope:Scope)(N':List Str)(cap:List (Option Nat)):Prop where
 kind:scope.kind=.function
 names:∀ y∈scope.names,y.2=.local → scope.names.lookup y.1=some .local
 cel:∀ y∈scope.names,y.2=.cell→scope.names.lookup y.1=some .cell
 free:∀ y∈scope.names,y.2=.free→scX.names.lookup y.1=some .cell∨scX.names.lookup y.1=some .free
 fr2:∀ y∈scope.names,y.2=.free→scope.names.lookup y.1=some .free
 len:cap.length=N'.length
 caps:((cap.zip N').all fun p=>match p.1 with|none=>true|some i=>NX[i]? == some p.2&&scope.names.lookup p.2 == some .free)=true
 nd:N'.Nodup
def vE (cap:List (Option Nat))(σ : _L.St):_L.St:=cap.map fun o=>match o with
 |none=>none
 |some i=>(σ[i]?).join
def zT (cap:List (Option Nat))(env:qD):qD:=cap.map fun o=>match o with
 |none=>none
 |some i=>(env[i]?).join
theorem Q2 {K:PySem.W.Frag}{P:Hp}{α : List Addr}{σ : _L.St}{env:qD}(re:qW K P α σ env)(cap:List (Option Nat)):qW K P α (vE cap σ) (zT cap env):=by
 refine⟨by simp[vE,zT],fun j d e=>?_⟩
 unfold zT at e
 unfold vE
 rw[List.getElem?_map] at e ⊢
 cases q:cap[j]? with
 |none=>rw[q] at e;cases e
 |some o =>
  rw[q] at e
  cases o with
  |none=>cases e
  |some i =>
   have e':(env[i]?).join=some d:=by simpa using e
   cases z:env[i]? with
   |none=>rw[z] at e';cases e'
   |some w =>
    rw[z] at e'
    have e'':w=some d:=e'
    subst e''
    obtain⟨v,h1,h2⟩:=re.2 i d z
    exact⟨v,by simp[h1],h2⟩
def qX (X:Cx)(N':List Str)(scope:Scope)(cl:List (Str × Addr))(C:Addr)(ex:List Addr)(s₀:Shared)(H₀:Hp):Cx:=
 { X with N:=N',s₀:=s₀,H₀:=H₀,env:=compEnvC scope cl C X.env,outer:=X.stack,stack:=X.stack,ex:=ex,fn:=fun x=>decide (scope.names.lookup x=some .cell),pn:=[],xe:=fun _ _=>False }
theorem uY {scope:Scope}{env:Env}:∀ {names:List (Str × NameKind)} {x:Str} {k:NameKind},
  (names.map fun (n,k)=>if (k == NameKind.free&&env.scope.kind == .function&&env.kindOf n == some .cell) then (n,NameKind.cell) else (n,k)).lookup x=some k →
  names.lookup x=some k∨(k=.cell∧names.lookup x=some .free)
 |[],_,_,h=>by simp at h
 |(n,k0)::r,x,k,h=>by
  rw[List.map_cons,List.lookup_cons] at h
  rw[List.lookup_cons]
  dsimp only at h
  cases hb:(k0 == NameKind.free&&env.scope.kind == .function&&env.kindOf n == some .cell) with
  |true =>
   rw[hb] at h
   simp only[if_true] at h
   cases hx:x == n with
   |true =>
    rw[hx] at h
    have e:NameKind.cell=k:=Option.some.inj h
    have hk:k0=.free:=by
     have:=(Bool.and_eq_true _ _).mp hb
     have:=(Bool.and_eq_true _ _).mp this.1
     simpa using this.1
    subst hk
    exact .inr ⟨e.symm,rfl⟩
   |false=>rw[hx] at h;exact uY (scope:=scope) h
  |false =>
   rw[hb] at h
   simp only[Bool.false_eq_true,if_false] at h
   cases hx:x == n with
   |true=>rw[hx] at h;exact .inl h
   |false=>rw[hx] at h;exact uY (scope:=scope) h
section
variable {X:Cx}{scope:Scope}{N':List Str}{cap:List (Option Nat)}{pins:List (Addr × Obj)}{σ : _L.St}{H2:Hp}{s2:Shared}{fp:List Addr}
theorem kN (S:CompSc X.env.scope X.N scope N' cap){x:Str}{k:NameKind}(h:(relabel scope X.env).names.lookup x=some k):scope.names.lookup x=some k∨(k=.cell∧scope.names.lookup x=some .free):=uY (scope:=scope) h
theorem aZ (S:CompSc X.env.scope X.N scope N' cap)(ok:X.Ok){x:Str}{c:Addr}(h:(wL X.env.cells scope.names []).lookup x=some c):X.env.cells.lookup x=some c∧(x,NameKind.free)∈scope.names:=by
 rcases jN _ _ h with h|⟨hm,hc⟩
 ·cases h
 ·have:=S.free _ hm rfl
  obtain⟨c',hc'⟩:=ok.has x this
  rw[hc',Option.getD_some] at hc
  rw[hc',hc]
  exact⟨rfl,hm⟩
def XQ (scope:Scope)(C:Addr):List (Str × Addr):=cellsFrom (C+1) scope.names []
def kL (X:Cx)(scope:Scope)(C:Addr):List (Str × Addr):=cellsFrom (C+1) scope.names (wL X.env.cells scope.names [])
theorem yR:∀ (names:List (Str × NameKind)) (lo:Nat) (acc:List (Str × Addr)),cellsFrom lo names acc=cellsFrom lo names [] ++ acc
 |[],_,_=>rfl
 |(n,k)::r,lo,acc=>by
  unfold cellsFrom
  split
  ·rw[yR r _ ((n,lo)::acc),yR r _ [(n,lo)],List.append_assoc];rfl
  ·exact yR r lo acc
set_option tactic.hygienic true in
theorem gU:∀ (names:List (Str × NameKind)) (lo:Nat) {n:Str} {c:Addr},(n,c)∈cellsFrom lo names [] → (n,NameKind.cell)∈names
 |[],_,_,_,h=>by cases h
 |(n0,k)::r,lo,n,c,h=>by
  unfold cellsFrom at h
  split at h
  ·rename_i hk
   rw[yR] at h
   rcases List.mem_append.mp h with h|h
   ·exact List.mem_cons_of_mem _ (gU r _ h)
   ·have e:(n,c)=(n0,lo):=by simpa using h
    cases e
    have:k=NameKind.cell:=by simpa using hk
    rw[this]
    exact List.mem_cons_self
  ·exact List.mem_cons_of_mem _ (gU r _ h)
theorem xB (S:CompSc X.env.scope X.N scope N' cap)(ok:X.Ok){C:Addr}{x:Str}{c:Addr}(h:(kL X scope C).lookup x=some c):((x,c)∈XQ scope C∧scope.names.lookup x=some .cell)∨(X.env.cells.lookup x=some c∧(x,NameKind.free)∈scope.names):=by
 unfold kL at h
 rw[yR,List.lookup_append] at h
 cases q:(cellsFrom (C+1) scope.names []).lookup x with
 |some c' =>
  rw[q] at h
  cases h
  have m:=PySem.mem_of_lookup q
  exact .inl ⟨m,S.cel _ (gU _ _ m) rfl⟩
 |none =>
  rw[q] at h
  exact .inr (aZ S ok h)
theorem lK (S:CompSc X.env.scope X.N scope N' cap)(ok:X.Ok){C:Addr}{x:Str}(h:scope.names.lookup x=some .cell∨scope.names.lookup x=some .free):∃ c,(kL X scope C).lookup x=some c:=by
 unfold kL
 rw[yR,List.lookup_append]
 rcases h with h|h
 ·have:=PySem.W.cellsFrom_some scope.names (C+1) [] (x:=x) (.inl h)
  obtain⟨c,hc⟩:=Option.isSome_iff_exists.mp this
  exact⟨c,by rw[hc];rfl⟩
 ·obtain⟨c',hc'⟩:=jA (cells:=X.env.cells) scope.names [] (.inl (PySem.mem_of_lookup h))
  rw[hc']
  cases (cellsFrom (C+1) scope.names []).lookup x with
  |none=>exact⟨c',rfl⟩
  |some c=>exact⟨c,rfl⟩
theorem YY {C:Addr}(S:CompSc X.env.scope X.N scope N' cap)(I2:Inv X pins σ H2 s2)(hf:∀ b∈fp,x9 X pins H2 b)(hlt:∀ b∈fp,b<s2.heap.objs.size)(hC:s2.heap.objs.size≤C){h1:Heap}(co:CellsOk h1 (C+1) (XQ scope C)) :
  (qX X N' scope (kL X scope C) C fp s2 H2).Ok where
 mod:=I2.ok.mod
 kind:=S.kind
 glob:=I2.ok.glob
 blt:=I2.ok.blt
 above:=hC
 inj:=fun x y c h1 h2=>by
  rcases xB S I2.ok h1 with⟨m1,_⟩|⟨m1,_⟩ <;> rcases xB S I2.ok h2 with⟨m2,_⟩|⟨m2,_⟩
  ·exact PySem.name_of_addr co.apart m1 m2
  ·obtain⟨v,ob,hob,_⟩:=I2.cell y c m2
   exact absurd (Nat.lt_of_lt_of_le (Heap.lt_size hob) hC) (Nat.not_lt.mpr (Nat.le_of_lt (co.empty x c m1).2))
  ·obtain⟨v,ob,hob,_⟩:=I2.cell x c m1
   exact absurd (Nat.lt_of_lt_of_le (Heap.lt_size hob) hC) (Nat.not_lt.mpr (Nat.le_of_lt (co.empty y c m2).2))
  ·exact I2.ok.inj x y c m1 m2
 has:=fun x hx=>by
  have hx':(relabel scope X.env).names.lookup x=some .cell∨(relabel scope X.env).names.lookup x=some .free:=hx
  refine lK S I2.ok ?_
  rcases hx' with h|h
  ·rcases kN S h with h|⟨_,h⟩
   ·exact .inl h
   ·exact .inr h
  ·rcases kN S h with h|⟨z,_⟩
   ·exact .inr h
   ·cases z
 cab:=fun x c h h2=>by
  have hx:scope.names.lookup x=some .cell:=of_decide_eq_true h
  rcases xB S I2.ok h2 with⟨m,_⟩|⟨_,m⟩
  ·exact Nat.le_trans hC (Nat.le_of_lt (co.empty x c m).2)
  ·have:=S.fr2 _ m rfl
   have this':scope.names.lookup x=some .free:=this
   rw[hx] at this'
   cases this'
 hd:=I2.ok.hd
 frames:=I2.ok.frames
 stk:=.inl rfl
 exf:=fun b hb=>⟨Nat.ne_of_lt (Nat.lt_of_lt_of_le (hlt b hb) hC),fun x c h=>by
  rcases xB S I2.ok h with⟨m,_⟩|⟨m,_⟩
  ·exact Ne.symm (Nat.ne_of_lt (Nat.lt_trans (Nat.lt_of_lt_of_le (hlt b hb) hC) (co.empty x c m).2))
  ·exact(hf b hb).2.2.2.2.1 x c m⟩
 bs:=I2.bs
 bsz:=Nat.le_trans I2.ok.bsz I2.sz
 noex:=fun b o e hb=>by
  obtain⟨_,_,_,h,_⟩:=hf b hb
  rcases h with h|h
  ·exact I2.ok.noex b o e h
  ·exact absurd (Nat.lt_of_lt_of_le (Heap.lt_size e) (Nat.le_trans I2.ok.bsz h)) (Nat.lt_irrefl _)
 exfs:=fun b hb hb2=>by
  obtain⟨_,h1,h2,_⟩:=hf b hb
  rcases List.mem_cons.mp (I2.stkSub b hb2) with z|z
  ·exact h1 z
  ·exact h2 z
 funs:=I2.stack
 frf:=I2.stkFree
theorem Z3 {s4:Shared}{C:Addr}{m:Str→Option Value}(S:CompSc X.env.scope X.N scope N' cap)(I2:Inv X pins σ H2 s2)(hf:∀ b∈fp,x9 X pins H2 b)(hlt:∀ b∈fp,b<s2.heap.objs.size)(hC:s2.heap.objs.size≤C)
  (hn:s4.heap.Ns C m) (os:s4.os=s2.os) (gens:s4.gens=s2.gens) (keep:∀ b o,s2.heap.get? b=some o→s4.heap.get? b=some o) (co:CellsOk s4.heap (C+1) (XQ scope C)) :
  Inv (qX X N' scope (kL X scope C) C fp s2 H2) [] (vE cap σ) H2 s4 where
 ok:=YY S I2 hf hlt hC co
 os:=os
 bare:=gens▸I2.bare
 base:=Un.kept keep
 loc:=by
  refine⟨m,hn,fun j x v h1 h2 h3=>?_⟩
  have h1':N'[j]? = some x:=h1
  unfold vE at h2
  rw[List.getElem?_map] at h2
  cases q:cap[j]? with
  |none=>rw[q] at h2;cases h2
  |some o =>
   rw[q] at h2
   cases o with
   |none=>cases h2
   |some i =>
    have e':(σ[i]?).join=some v:=by simpa using h2
    have hσ:σ[i]? = some (some v):=by
     cases z:σ[i]? with
     |none=>rw[z] at e';cases e'
     |some w=>rw[z] at e';have:w=some v:=e';rw[this]
    have hz:(some i,x)∈cap.zip N':=by
     refine List.mem_iff_getElem?.mpr ⟨j,?_⟩
     rw[List.getElem?_zip_eq_some]
     exact⟨q,h1'⟩
    have hc:=List.all_eq_true.mp S.caps _ hz
    simp only[Bool.and_eq_true,beq_iff_eq] at hc
    obtain⟨hN,hfr⟩:=hc
    have hk:=S.free _ (PySem.mem_of_lookup hfr) rfl
    obtain⟨mo,hmo,hl⟩:=I2.loc
    have vis:Vis X.env.scope x:=by
     rcases hk with k|k
     ·exact .inr (.inl k)
     ·exact .inr (.inr k)
    obtain⟨u,ru,lk⟩:=hl i x v hN hσ vis
    refine⟨u,ru,?_⟩
    rcases lk with⟨kl,_⟩|⟨_,c,hcl,hcell⟩
    ·have kl':X.env.scope.names.lookup x=some .local:=kl
     rcases hk with k|k
     ·have k':X.env.scope.names.lookup x=some .cell:=k
      rw[kl'] at k';cases k'
     ·have k':X.env.scope.names.lookup x=some .free:=k
      rw[kl'] at k';cases k'
    ·obtain⟨c',hc'⟩:=lK S I2.ok (C:=C) (.inr hfr)
     have e2:X.env.cells.lookup x=some c':=by
      rcases xB S I2.ok hc' with⟨_,z⟩|⟨z,_⟩
      ·rw[hfr] at z;cases z
      ·exact z
     rw[hcl] at e2;cases e2
     refine .inr ⟨?_,c,hc',?_⟩
     ·have h3':Vis (relabel scope X.env) x:=h3
      rcases h3' with h|h|h
      ·rcases kN S h with h|⟨z,_⟩
       ·rw[hfr] at h;cases h
       ·cases z
      ·exact .inl h
      ·exact .inr h
     ·obtain⟨ob,hob,hd⟩:=hcell
      exact⟨ob,keep c ob hob,hd⟩
 cell:=fun x c h=>by
  rcases xB S I2.ok h with⟨m,_⟩|⟨m,_⟩
  ·exact⟨none,(co.empty x c m).1⟩
  ·obtain⟨v,ob,hob,hd⟩:=I2.cell x c m
   exact⟨v,ob,keep c ob hob,hd⟩
 free:=I2.hok.fresh hC
 freeC:=fun x c h=>by
  rcases xB S I2.ok h with⟨m,_⟩|⟨m,_⟩
  ·exact I2.hok.fresh (Nat.le_trans hC (Nat.le_of_lt (co.empty x c m).2))
  ·exact I2.freeC x c m
 pin:=fun p hp=>absurd (show p∈([]:List (Addr × Obj)) from hp) (by simp)
 hok:=I2.hok.kept keep
 len:=by
  show (vE cap σ).length=N'.length
  simp[vE,S.len]
end
end _D
end
section
namespace _D
open PySem PySem.Spec PyProof.Rows _L
theorem iM {P:Program}{w:World}{H:Hp}{h:Heap}{a:Addr}{o:HO}(x:HOk P w H h)(hn:H a=none)(new:zA P w (upd H a o) h a o):HOk P w (upd H a o) h:=fun b u e=>by
 by_cases hb:b=a
 ·subst hb;rw[qS] at e;cases e;exact new
 ·rw[qI hb] at e
  exact(x b u e).stay (fun c v _ q=>q) (fun c q=>by rw[qI (qQ q hn)];exact q) fun c xs q=>by rw[qI (qQ q hn)];exact q
theorem iL {P:Program}{w:World}{H:Hp}{h h':Heap}{C:Addr}(x:HOk P w H h)(hn:H C=none)(k:∀ b o,b≠C→h.get? b=some o→h'.get? b=some o):HOk P w H h':=fun b u e =>
 (x b u e).stay (fun c v hc q=>k c v (by
  rintro rfl
  rcases hc with z|z
  ·subst z;rw[hn] at e;cases e
  ·rw[hn] at z;cases z) q) (fun _ q=>q) fun _ _ q=>q
section
variable {X:Cx}{elt tg iter:Expr}{ifs:List Expr}{scope:Scope}{pos:Pos}{N':List Str}{cap:List (Option Nat)}{fi:DI}{g:DG}{t:DT}{fe:DE}
def pN (X:Cx)(pins:List (Addr × Obj))(σ : _L.St)(P1:Hp)(α1:List Addr)(ds:List D)(SF:Sto)(acc C:Addr)(s:Shared):Prop:=
 ∃ (H' P':Hp) (α' : List Addr) (vs:List V),Inv X pins σ (upd H' acc (.lst vs)) s∧Rel X.K H' P' α' SF∧H' acc=none∧qF P1 P'∧α1<+:α'∧qE X.K P' α' ds vs∧H' C=none
theorem Z2 {Y:Cx}{pins:List (Addr × Obj)}{σ σ':_L.St}{H2:Hp}{s2 s':Shared}{fp:List Addr}{acc C:Addr}{P1:Hp}{α1:List Addr}{H' P':Hp}{α' : List Addr}{envF:qD}{SF:Sto}{ds:List D}{o:Obj}{cl:List (Str × Addr)}(I2:Inv X pins σ H2 s2)
  (hf:∀ b∈fp,x9 X pins H2 b) (hY:Y=qX X N' scope cl C fp s2 H2) (hC:s2.heap.objs.size≤C) (hA:s2.heap.objs.size≤acc) (hne:acc≠C) (st:TurnSt Y [] P1 α1 fp acc envF SF ds s' σ' H' P' α' o)
  {h':Heap} (sb:Heap.SameBut C s'.heap h'):pN X pins σ P1 α1 ds SF acc C { s' with heap:=h' }:=by
 subst hY
 obtain⟨its,n,vs,rfl,rv,rp,hz⟩:=st.acc
 have kC:∀ b o,b≠C→s'.heap.get? b=some o→h'.get? b=some o:=fun b o hb e=>(sb.2 b hb).trans e
 have nC:∀ b o,s2.heap.get? b=some o→b≠C:=fun b o e=>Nat.ne_of_lt (Nat.lt_of_lt_of_le (Heap.lt_size e) hC)
 have nA:∀ b o,s2.heap.get? b=some o→b≠acc:=fun b o e=>Nat.ne_of_lt (Nat.lt_of_lt_of_le (Heap.lt_size e) hA)
 have base:Un (frs X.stack) fp H2 H' s2.heap s'.heap:=st.inv.base
 have nt:∀ b u,H' b=some u→b≠acc:=fun b u e=>qQ e st.acn
 have un:Un (frs X.stack) fp H2 (upd H' acc (.lst vs)) s2.heap h':=by
  refine⟨fun b ob q hn hb hx=>kC b ob (nC b ob q) (base.keep b ob q hn hb hx),fun b ob q hn hb hx=>?_,fun b ob q hn hx=>?_,fun b ob q hx=>?_,fun b xs q=>?_,fun b ob u q=>?_,fun b ps q=>?_⟩
  ·obtain⟨sl,e⟩:=base.slot b ob q hn hb hx
   exact⟨sl,kC b _ (nC b ob q) e⟩
  ·rw[qI (nA b ob q)];exact base.free b ob q hn hx
  ·obtain⟨o',e⟩:=base.there b ob q hx
   exact⟨o',kC b o' (nC b ob q) e⟩
  ·have:=base.tups b xs q;rw[qI (nt _ _ this)];exact this
  ·have:=base.frzs b ob u q;rw[qI (nt _ _ this)];exact this
  ·obtain⟨more,e⟩:=base.tbls b ps q
   exact⟨more,by rw[qI (nt _ _ e)];exact e⟩
 have hok':HOk X.prog X.w H' h':=iL st.inv.hok st.inv.free kC
 have hat:h'.get? acc=some { cls:=.type "list",data:=.seq its.toArray n }:=kC acc _ hne st.at'
 have hok:HOk X.prog X.w (upd H' acc (.lst vs)) h':=iM hok' st.acn ⟨by rw[← rp.length,← zO];exact hz,its,n,rv,hat⟩
 refine⟨H',P',α',vs,?_,st.rel,st.acn,st.same,st.pre,rp,st.inv.free⟩
 exact I2.call' (s':={ s' with heap:=h' }) (ch:=fp) (st.inv.os) un hok st.inv.bare fun b hb=>by
  obtain⟨_,h1,h2,h3,h4,h5⟩:=hf b hb
  exact⟨h3,h1,h4,h5⟩
theorem r9 (S:CompSc X.env.scope X.N scope N' cap)(ok:X.Ok):closureFor scope X.env=pure (wL X.env.cells scope.names []):=gQ fun y hy hk=>ok.has y.1 (S.free y hy hk)
theorem VR {pins:List (Addr × Obj)}{σ : _L.St}{P1:Hp}{α1:List Addr}{ds:List D}{SF:Sto}{acc C:Addr}{s:Shared}{Q:VK}(c:pN X pins σ P1 α1 ds SF acc C s)(ok:OkV X P1 α1 Q (.lst ds) SF):EP X pins σ Q (.ref acc) s:=by
 obtain⟨H',P',α',vs,I,r,hn,e1,e2,rp,_⟩:=c
 exact⟨.ref acc,_,I,rfl,vP r hn rp fun v H2 P2 α2 r2 q1 q2 q3=>ok v H2 P2 α2 r2 (e1.trans q1) (e2.trans q2) q3⟩
end
end _D
end
section
namespace _D
open PySem PySem.Spec PyProof.Rows _L PySem.SeqAt
def b01 (b:Bool):Int:=if b then 1 else 0
mutual
def eqD:D→D→Bool
 |.non,.non=>true
 |.bl a,.bl b=>a == b
 |.bl a,.int b=>b01 a == b
 |.int a,.bl b=>a == b01 b
 |.int a,.int b=>a == b
 |.str a,.str b=>a == b
 |.tup xs,.tup ys=>xI xs ys
 |.lst xs,.lst ys=>xI xs ys
 |_,_=>false
def xI:List D→List D→Bool
 |[],[]=>true
 |x::xs,y::ys=>eqD x y&&xI xs ys
 |_,_=>false
end
def pl:Nat→D→Bool
 |_,.non=>true
 |_,.bl _=>true
 |_,.int _=>true
 |_,.str _=>true
 |n+1,.tup xs=>xs.all (pl n)
 |n+1,.lst xs=>xs.all (pl n)
 |_,_=>false
theorem tQ (x y:D)(xs ys:List D):xI (x::xs) (y::ys)=(eqD x y&&xI xs ys):=rfl
theorem vI:∀ (xs ys:List D),xI xs ys=((List.range (min xs.length ys.length)).all (fun j=>eqD (xs.getD j .non) (ys.getD j .non))&&xs.length == ys.length)
 |[],[]=>rfl
 |[],y::ys=>rfl
 |x::xs,[]=>rfl
 |x::xs,y::ys=>by
  have ih:=vI xs ys
  rw[tQ,ih,List.length_cons,List.length_cons,Nat.succ_min_succ,List.range_succ_eq_map,List.all_cons,List.all_map,Bool.and_assoc]
  have e:(xs.length+1 == ys.length+1)=(xs.length == ys.length):=by simp
  rw[e]
  rfl
theorem ZP {xs ys:List D}(h:xs.length≠ys.length):xI xs ys=false:=by
 rw[vI]
 simp[h]
theorem mH (xs ys:List D):eqD (.tup xs) (.tup ys)=xI xs ys:=rfl
theorem mG (xs ys:List D):eqD (.lst xs) (.lst ys)=xI xs ys:=rfl
section
variable {X:Cx}{pins:List (Addr × Obj)}{σ : _L.St}{H P:Hp}{α : List Addr}{S:Sto}{s:Shared}
inductive Kd (X:Cx)(P:Hp)(α : List Addr)(s:Shared):D→Value→Prop where
 |non:Kd X P α s .non .none
 |bl (b:Bool):Kd X P α s (.bl b) (.bool b)
 |int (i:Int) (t:Tok):Kd X P α s (.int i) (.int i t)
 |str (x:Str) (t:Tok):Kd X P α s (.str x) (.str x t)
 |tup (a:Addr) (xs:List D) (its:List Value) (vs:List V) (rp:qE X.K P α xs vs) (rv:qN vs its) (h:s.heap.IsTuple a its.toArray) (q:SqT X.K P a vs):Kd X P α s (.tup xs) (.ref a)
 |lst (a:Addr) (xs:List D) (its:List Value) (vs:List V) (rp:qE X.K P α xs vs) (rv:qN vs its) (h:s.heap.IsList a its.toArray) (q:SqX X.K P a vs):Kd X P α s (.lst xs) (.ref a)
theorem jF (I:Inv X pins σ H s)(r:Rel X.K H P α S){n:Nat}{d:D}{v:V}{u:Value}(h:pl n d=true)(p:Rep X.K P α d v)(rv:qK v u):Kd X P α s d u:=by
 cases d with
 |non=>simp only[Rep] at p;subst p;cases rv;exact .non
 |bl b=>simp only[Rep] at p;subst p;cases rv;exact .bl b
 |int i=>simp only[Rep] at p;subst p;obtain⟨t,rfl⟩:=rv;exact .int i t
 |str x=>simp only[Rep] at p;subst p;obtain⟨t,rfl⟩:=rv;exact .str x t
 |tup xs =>
  simp only[Rep] at p
  obtain⟨a,vs,rfl,q,t⟩:=p
  cases rv
  obtain⟨its,r1,p1,_⟩:=I.tuple (w9 r.sub q)
  exact .tup a xs its vs t r1 p1 q
 |lst xs =>
  simp only[Rep] at p
  obtain⟨a,vs,rfl,q,t⟩:=p
  cases rv
  obtain⟨its,r1,p1,_⟩:=I.list ((xG r.sub q).l)
  exact .lst a xs its vs t r1 p1.isList q
 |_=>cases n <;> exact Bool.noConfusion h
theorem kX {ds:List D}{vs:List V}{its:List Value}(rp:qE X.K P α ds vs)(rv:qN vs its){j:Nat}(h:j<its.toArray.size):∃ v,Rep X.K P α (ds.getD j .non) v∧qK v its.toArray[j]∧ds.getD j .non∈ds:=by
 have l1:=rp.length
 have l2:=rv.length
 have hj:j<its.length:=by simpa using h
 have hd:j<ds.length:=by omega
 obtain⟨v,e1,p⟩:=rp.get (List.getElem?_eq_getElem hd)
 obtain⟨u,e2,q⟩:=rv.get e1
 have e3:its.toArray[j]=u:=by
  have:its[j]? = some its[j]:=List.getElem?_eq_getElem hj
  rw[this] at e2
  simpa using Option.some.inj e2
 have e4:ds.getD j .non=ds[j]:=by simp[List.getD,hd]
 rw[e3,e4]
 exact⟨v,p,q,List.getElem_mem hd⟩
theorem jH {n:Nat}{ds:List D}(h:ds.all (pl n)=true){d:D}(hd:d∈ds):pl n d=true:=List.all_eq_true.mp h d hd
theorem rO {h:Heap}{a:Addr}{xs ys:Array Value}(h1:h.IsTuple a xs)(h2:h.IsTuple a ys):xs=ys:=by
 obtain⟨o,e,_,n,d⟩:=h1
 obtain⟨o',e',_,n',d'⟩:=h2
 cases e.symm.trans e'
 cases d.symm.trans d'
 rfl
theorem U3 {h:Heap}{a:Addr}{xs ys:Array Value}(h1:h.IsList a xs)(h2:h.IsList a ys):xs=ys:=by
 obtain⟨o,e,_,n,d⟩:=h1
 obtain⟨o',e',_,n',d'⟩:=h2
 cases e.symm.trans e'
 cases d.symm.trans d'
 rfl
theorem BC {h:Heap}{a:Addr}{xs ys:Array Value}(h1:h.IsTuple a xs)(h2:h.IsList a ys):False:=by
 obtain⟨o,e,c,_⟩:=h1
 obtain⟨o',e',c',_⟩:=h2
 cases e.symm.trans e'
 exact absurd (c.symm.trans c') (by decide)
inductive Seqs (X:Cx)(P:Hp)(α : List Addr)(xs ys:List D)(its its2:List Value):Prop
 |mk (vs ws:List V) (rp:qE X.K P α xs vs) (rv:qN vs its) (rp2:qE X.K P α ys ws) (rv2:qN ws its2):Seqs X P α xs ys its its2
theorem Seqs.len1 {xs ys:List D}{its its2:List Value}(q:Seqs X P α xs ys its its2):xs.length=its.length:=by
 obtain⟨vs,ws,rp,rv,_,_⟩:=q
 exact rp.length.trans rv.length
theorem Seqs.len2 {xs ys:List D}{its its2:List Value}(q:Seqs X P α xs ys its its2):ys.length=its2.length:=by
 obtain⟨vs,ws,_,_,rp,rv⟩:=q
 exact rp.length.trans rv.length
inductive SameR (X:Cx)(P:Hp)(α : List Addr):D→D→Prop
 |eq {d d':D} (h:eqD d d'=true):SameR X P α d d'
 |tt (xs ys:List D) (its:List Value) (q:Seqs X P α xs ys its its):SameR X P α (.tup xs) (.tup ys)
 |ll (xs ys:List D) (its:List Value) (q:Seqs X P α xs ys its its):SameR X P α (.lst xs) (.lst ys)
theorem eV {d d':D}{u:Value}(k1:Kd X P α s d u)(k2:Kd X P α s d' u):SameR X P α d d':=by
 cases k1 with
 |non=>cases k2;exact .eq rfl
 |bl b=>cases k2;exact .eq (beq_self_eq_true _)
 |int i t=>cases k2;exact .eq (beq_self_eq_true _)
 |str x t=>cases k2;exact .eq (beq_self_eq_true _)
 |tup a xs its vs rp rv h q =>
  cases k2 with
  |tup _ ys its2 ws rp2 rv2 h2 q2 =>
   cases rO h h2
   exact .tt xs ys its ⟨vs,ws,rp,rv,rp2,rv2⟩
  |lst _ ys its2 ws rp2 rv2 h2 q2=>exact(BC h h2).elim
 |lst a xs its vs rp rv h q =>
  cases k2 with
  |lst _ ys its2 ws rp2 rv2 h2 q2 =>
   cases U3 h h2
   exact .ll xs ys its ⟨vs,ws,rp,rv,rp2,rv2⟩
  |tup _ ys its2 ws rp2 rv2 h2 q2=>exact(BC h2 h).elim
theorem tR (I:Inv X pins σ H s)(r:Rel X.K H P α S){m:Nat}(ih:∀ (d d':D) (u:Value),pl m d=true→pl m d'=true→Kd X P α s d u→Kd X P α s d' u→eqD d d'=true){xs ys:List D}{its:List Value}(h1:xs.all (pl m)=true)(h2:ys.all (pl m)=true)(q:Seqs X P α xs ys its its):xI xs ys=true:=by
 obtain⟨vs,ws,rp,rv,rp2,rv2⟩:=q
 have l1:=rp.length.trans rv.length
 have l2:=rp2.length.trans rv2.length
 rw[vI,l1,l2,Nat.min_self,Bool.and_eq_true]
 refine⟨List.all_eq_true.mpr fun j hj=>?_,BEq.rfl⟩
 have hj:j<its.toArray.size:=List.mem_range.mp hj
 obtain⟨w1,y1,z1,m1⟩:=kX rp rv hj
 obtain⟨w2,y2,z2,m2⟩:=kX rp2 rv2 hj
 exact ih _ _ _ (jH h1 m1) (jH h2 m2) (jF I r (jH h1 m1) y1 z1) (jF I r (jH h2 m2) y2 z2)
theorem rF (I:Inv X pins σ H s)(r:Rel X.K H P α S):∀ (n:Nat) (d d':D) (u:Value),pl n d=true→pl n d'=true→Kd X P α s d u→Kd X P α s d' u→eqD d d'=true:=by
 intro n
 induction n with
 |zero =>
  intro d d' u h1 h2 k1 k2
  cases eV k1 k2 with
  |eq h=>exact h
  |tt=>exact Bool.noConfusion h1
  |ll=>exact Bool.noConfusion h1
 |succ m ih =>
  intro d d' u h1 h2 k1 k2
  cases eV k1 k2 with
  |eq h=>exact h
  |tt xs ys its q=>exact(mH xs ys).trans (tR I r ih h1 h2 q)
  |ll xs ys its q=>exact(mG xs ys).trans (tR I r ih h1 h2 q)
structure E3 (A:Around)(s:Shared)(u u':Value)(b:Bool):Prop where
 eq:EqAt A s u u' b
 rc:RcAt A s u u' b
 ne:RcNeAt A s u u' (!b)
inductive EqR (X:Cx)(P:Hp)(α : List Addr)(A:Around)(s:Shared):D→D→Value→Value→Prop
 |of {d d':D} {u u':Value} (b:Bool) (e:eqD d d'=b) (h:E3 A s u u' b):EqR X P α A s d d' u u'
 |tt (a b:Addr) (xs ys:List D) (its its2:List Value) (ha:s.heap.IsTuple a its.toArray) (hb:s.heap.IsTuple b its2.toArray) (q:Seqs X P α xs ys its its2):EqR X P α A s (.tup xs) (.tup ys) (.ref a) (.ref b)
 |ll (a b:Addr) (xs ys:List D) (its its2:List Value) (ha:s.heap.IsList a its.toArray) (hb:s.heap.IsList b its2.toArray) (q:Seqs X P α xs ys its its2):EqR X P α A s (.lst xs) (.lst ys) (.ref a) (.ref b)
theorem WZ {A:Around}{d d':D}{u u':Value}(hu:A.units<cLine)(k1:Kd X P α s d u)(k2:Kd X P α s d' u'):EqR X P α A s d d' u u':=by
 cases k1 with
 |non  =>
  cases k2 with
  |non  => exact .of _ rfl ⟨EqAt.same _,RcAt.none_none,RcNeAt.none_none⟩
  |bl b=>exact .of _ rfl ⟨EqAt.none_bool b,RcAt.none_bool b,RcNeAt.none_bool b⟩
  |int b tb=>exact .of _ rfl ⟨EqAt.none_int b tb,RcAt.none_int b tb,RcNeAt.none_int b tb⟩
  |str b tb=>exact .of _ rfl ⟨EqAt.none_str b tb,RcAt.none_str b tb,RcNeAt.none_str b tb⟩
  |tup b ys its2 ws rp2 rv2 hb qb=>exact .of _ rfl ⟨EqAt.none_tuple hb hu,RcAt.none_tuple hb hu,RcNeAt.none_tuple hb hu⟩
  |lst b ys its2 ws rp2 rv2 hb qb=>exact .of _ rfl ⟨EqAt.none_list hb hu,RcAt.none_list hb hu,RcNeAt.none_list hb hu⟩
 |bl a =>
  cases k2 with
  |non  => exact .of _ rfl ⟨EqAt.bool_none a,RcAt.bool_none a,RcNeAt.bool_none a⟩
  |bl b=>exact .of _ rfl ⟨EqAt.bool_bool a b,RcAt.bool_bool a b,RcNeAt.bool_bool a b⟩
  |int b tb=>exact .of _ rfl ⟨EqAt.bool_int a b tb,RcAt.bool_int a b tb,RcNeAt.bool_int a b tb⟩
  |str b tb=>exact .of _ rfl ⟨EqAt.bool_str a b tb,RcAt.bool_str a b tb,RcNeAt.bool_str a b tb⟩
  |tup b ys its2 ws rp2 rv2 hb qb=>exact .of _ rfl ⟨EqAt.bool_tuple a hb hu,RcAt.bool_tuple a hb hu,RcNeAt.bool_tuple a hb hu⟩
  |lst b ys its2 ws rp2 rv2 hb qb=>exact .of _ rfl ⟨EqAt.bool_list a hb hu,RcAt.bool_list a hb hu,RcNeAt.bool_list a hb hu⟩
 |int a ta =>
  cases k2 with
  |non  => exact .of _ rfl ⟨EqAt.int_none a ta,RcAt.int_none a ta,RcNeAt.int_none a ta⟩
  |bl b=>exact .of _ rfl ⟨EqAt.int_bool a ta b,RcAt.int_bool a ta b,RcNeAt.int_bool a ta b⟩
  |int b tb=>exact .of _ rfl ⟨EqAt.int_int a ta b tb,RcAt.int_int a ta b tb,RcNeAt.int_int a ta b tb⟩
  |str b tb=>exact .of _ rfl ⟨EqAt.int_str a ta b tb,RcAt.int_str a ta b tb,RcNeAt.int_str a ta b tb⟩
  |tup b ys its2 ws rp2 rv2 hb qb=>exact .of _ rfl ⟨EqAt.int_tuple a ta hb hu,RcAt.int_tuple a ta hb hu,RcNeAt.int_tuple a ta hb hu⟩
  |lst b ys its2 ws rp2 rv2 hb qb=>exact .of _ rfl ⟨EqAt.int_list a ta hb hu,RcAt.int_list a ta hb hu,RcNeAt.int_list a ta hb hu⟩
 |str a ta =>
  cases k2 with
  |non  => exact .of _ rfl ⟨EqAt.str_none a ta,RcAt.str_none a ta,RcNeAt.str_none a ta⟩
  |bl b=>exact .of _ rfl ⟨EqAt.str_bool a ta b,RcAt.str_bool a ta b,RcNeAt.str_bool a ta b⟩
  |int b tb=>exact .of _ rfl ⟨EqAt.str_int a ta b tb,RcAt.str_int a ta b tb,RcNeAt.str_int a ta b tb⟩
  |str b tb=>exact .of _ rfl ⟨EqAt.str_str a ta b tb,RcAt.str_str a ta b tb,RcNeAt.str_str a ta b tb⟩
  |tup b ys its2 ws rp2 rv2 hb qb=>exact .of _ rfl ⟨EqAt.str_tuple a ta hb hu,RcAt.str_tuple a ta hb hu,RcNeAt.str_tuple a ta hb hu⟩
  |lst b ys its2 ws rp2 rv2 hb qb=>exact .of _ rfl ⟨EqAt.str_list a ta hb hu,RcAt.str_list a ta hb hu,RcNeAt.str_list a ta hb hu⟩
 |tup a xs its vs rp rv ha qa =>
  cases k2 with
  |non  => exact .of _ rfl ⟨EqAt.tuple_none ha hu,RcAt.tuple_none ha hu,RcNeAt.tuple_none ha hu⟩
  |bl b=>exact .of _ rfl ⟨EqAt.tuple_bool b ha hu,RcAt.tuple_bool b ha hu,RcNeAt.tuple_bool b ha hu⟩
  |int b tb=>exact .of _ rfl ⟨EqAt.tuple_int b tb ha hu,RcAt.tuple_int b tb ha hu,RcNeAt.tuple_int b tb ha hu⟩
  |str b tb=>exact .of _ rfl ⟨EqAt.tuple_str b tb ha hu,RcAt.tuple_str b tb ha hu,RcNeAt.tuple_str b tb ha hu⟩
  |tup b ys its2 ws rp2 rv2 hb qb=>exact .tt a b xs ys its its2 ha hb ⟨vs,ws,rp,rv,rp2,rv2⟩
  |lst b ys its2 ws rp2 rv2 hb qb=>exact .of _ rfl ⟨EqAt.tuple_list ha hb hu,RcAt.tuple_list ha hb hu,RcNeAt.tuple_list ha hb hu⟩
 |lst a xs its vs rp rv ha qa =>
  cases k2 with
  |non  => exact .of _ rfl ⟨EqAt.list_none ha hu,RcAt.list_none ha hu,RcNeAt.list_none ha hu⟩
  |bl b=>exact .of _ rfl ⟨EqAt.list_bool b ha hu,RcAt.list_bool b ha hu,RcNeAt.list_bool b ha hu⟩
  |int b tb=>exact .of _ rfl ⟨EqAt.list_int b tb ha hu,RcAt.list_int b tb ha hu,RcNeAt.list_int b tb ha hu⟩
  |str b tb=>exact .of _ rfl ⟨EqAt.list_str b tb ha hu,RcAt.list_str b tb ha hu,RcNeAt.list_str b tb ha hu⟩
  |tup b ys its2 ws rp2 rv2 hb qb=>exact .of _ rfl ⟨EqAt.list_tuple ha hb hu,RcAt.list_tuple ha hb hu,RcNeAt.list_tuple ha hb hu⟩
  |lst b ys its2 ws rp2 rv2 hb qb=>exact .ll a b xs ys its its2 ha hb ⟨vs,ws,rp,rv,rp2,rv2⟩
theorem E3.cast {A:Around}{u u':Value}{b c:Bool}(e:c=b)(h:E3 A s u u' b):E3 A s u u' c:=e▸h
theorem Y0 {A:Around}{a b:Addr}{xs ys:List D}{its its2:List Value}(hu:A.units<cLine)(ha:s.heap.IsTuple a its.toArray)(hb:s.heap.IsTuple b its2.toArray)(l1:xs.length=its.length)(l2:ys.length=its2.length)
  (sub:∀ j (h1:j<its.toArray.size) (h2:j<its2.toArray.size),EqAt A.in1 s its.toArray[j] its2.toArray[j] (eqD (xs.getD j .non) (ys.getD j .non))) (same:a=b→xI xs ys=true):E3 A s (.ref a) (.ref b) (xI xs ys):=by
 have e:xI xs ys=((List.range (min its.toArray.size its2.toArray.size)).all (fun j=>eqD (xs.getD j .non) (ys.getD j .non))&&its.toArray.size == its2.toArray.size):=by rw[vI,l1,l2];rfl
 have R1:=RcAt.tuples ha hb hu sub
 have R2:=RcNeAt.tuples ha hb hu sub
 rw[← e] at R1 R2
 refine⟨?_,R1,R2⟩
 by_cases hab:a=b
 ·rw[same hab,hab]
  exact EqAt.same _
 ·exact EqAt.of_refs hab R1
theorem NJ {A:Around}{a b:Addr}{xs ys:List D}{its its2:List Value}(hu:A.units<cLine)(ha:s.heap.IsList a its.toArray)(hb:s.heap.IsList b its2.toArray)(l1:xs.length=its.length)(l2:ys.length=its2.length)
  (sub:∀ j (h1:j<its.toArray.size) (h2:j<its2.toArray.size),EqAt A.in1 s its.toArray[j] its2.toArray[j] (eqD (xs.getD j .non) (ys.getD j .non))) (same:a=b→xI xs ys=true):E3 A s (.ref a) (.ref b) (xI xs ys):=by
 have R:RcAt A s (.ref a) (.ref b) (xI xs ys)∧RcNeAt A s (.ref a) (.ref b) (!xI xs ys):=by
  by_cases hl:its.length=its2.length
  ·have e:xI xs ys=(List.range its.toArray.size).all (fun j=>eqD (xs.getD j .non) (ys.getD j .non)):=by rw[vI,l1,l2,← hl,Nat.min_self,BEq.rfl,Bool.and_true];rfl
   rw[e]
   exact⟨RcAt.lists ha hb hl hu sub,RcNeAt.lists ha hb hl hu sub⟩
  ·rw[ZP (by rw[l1,l2];exact hl)]
   have hn:(its.toArray.size != its2.toArray.size)=true:=bne_iff_ne.mpr hl
   exact⟨RcAt.lists_lengths ha hb hn hu,RcNeAt.lists_lengths ha hb hn hu⟩
 refine⟨?_,R.1,R.2⟩
 by_cases hab:a=b
 ·rw[same hab,hab]
  exact EqAt.same _
 ·exact EqAt.of_refs hab R.1
theorem iC (I:Inv X pins σ H s)(r:Rel X.K H P α S):∀ (n:Nat) (A:Around) (d d':D) (u u':Value),A.units+n<cLine→pl n d=true→pl n d'=true→Kd X P α s d u→Kd X P α s d' u'→E3 A s u u' (eqD d d'):=by
 intro n
 induction n with
 |zero =>
  intro A d d' u u' hu h1 h2 k1 k2
  cases WZ hu k1 k2 with
  |of b e h=>exact h.cast e
  |tt=>exact Bool.noConfusion h1
  |ll=>exact Bool.noConfusion h1
 |succ m ih =>
  intro A d d' u u' hu h1 h2 k1 k2
  have hu0:A.units<cLine:=Nat.lt_of_le_of_lt (Nat.le_add_right _ _) hu
  have hu1:A.in1.units+m<cLine:=by show A.units+1+m<cLine;omega
  have sub:∀ {xs ys:List D} {its its2:List Value},xs.all (pl m)=true→ys.all (pl m)=true→Seqs X P α xs ys its its2 →
    ∀ j (h1:j<its.toArray.size) (h2:j<its2.toArray.size),EqAt A.in1 s its.toArray[j] its2.toArray[j] (eqD (xs.getD j .non) (ys.getD j .non)):=fun {xs ys its its2} a1 a2 ⟨vs,ws,b1,b2,c1,c2⟩ j g1 g2=>by
   obtain⟨w1,y1,z1,m1⟩:=kX b1 b2 g1
   obtain⟨w2,y2,z2,m2⟩:=kX c1 c2 g2
   exact(ih A.in1 _ _ _ _ hu1 (jH a1 m1) (jH a2 m2) (jF I r (jH a1 m1) y1 z1) (jF I r (jH a2 m2) y2 z2)).eq
  cases WZ hu0 k1 k2 with
  |of b e h=>exact h.cast e
  |tt a b xs ys its its2 ha hb q=>exact(Y0 hu0 ha hb q.len1 q.len2 (sub h1 h2 q) fun e=>by subst e;exact(mH xs ys).symm.trans (rF I r (m+1) _ _ _ h1 h2 k1 k2)).cast (mH xs ys)
  |ll a b xs ys its its2 ha hb q=>exact(NJ hu0 ha hb q.len1 q.len2 (sub h1 h2 q) fun e=>by subst e;exact(mG xs ys).symm.trans (rF I r (m+1) _ _ _ h1 h2 k1 k2)).cast (mG xs ys)
def yC:Nat:=30
def gEq:G2:=fun a b S=>if pl yC a&&pl yC b then .ok (.bl (eqD a b)) S else .bad
def gNe:G2:=fun a b S=>if pl yC a&&pl yC b then .ok (.bl (!eqD a b)) S else .bad
set_option tactic.hygienic true in
theorem L3 (hu:X.A.units+64<cLine):OpD X (compareOp .Eq) gEq:=by
 intro pins σ H s P α S v u vv uu a b Q I r rv ru pa pb af
 unfold gEq at af
 split at af
 ·rename_i h
  rw[Bool.and_eq_true] at h
  exact(iC I r yC X.A a b vv uu (by unfold yC;omega) h.1 h.2 (jF I r h.1 pa rv) (jF I r h.2 pb ru)).rc _ _ _ _ ⟨.bl _,H,I,rfl,xr af r (by simp only[Rep])⟩
 ·exact False.elim af
set_option tactic.hygienic true in
theorem Y8 (hu:X.A.units+64<cLine):OpD X (compareOp .NotEq) gNe:=by
 intro pins σ H s P α S v u vv uu a b Q I r rv ru pa pb af
 unfold gNe at af
 split at af
 ·rename_i h
  rw[Bool.and_eq_true] at h
  exact(iC I r yC X.A a b vv uu (by unfold yC;omega) h.1 h.2 (jF I r h.1 pa rv) (jF I r h.2 pb ru)).ne _ _ _ _ ⟨.bl _,H,I,rfl,xr af r (by simp only[Rep])⟩
 ·exact False.elim af
end
end _D
end
section
namespace _D
open PySem PySem.Spec PyProof.Rows _L
section
variable {X:Cx}
def i2 (C:Int→Int→Bool)(f:Int→Int→D):G2:=fun a b S=>match a,b with
 |.int i,.int j=>if C i j then .ok (f i j) S else .bad
 |_,_=>.bad
theorem Y2 {C:Int→Int→Bool}{f:Int→Int→D}{a b:D}{S:Sto}{P:Hp}{α : List Addr}{Ok:D→Sto→Prop}(h:qJ X P α (i2 C f a b S) Ok):∃ i j,a=.int i∧b=.int j∧C i j=true∧Ok (f i j) S:=by
 cases a with
 |int i =>
  cases b with
  |int j =>
   obtain⟨hc,h⟩:=xM (X:=X) h
   exact⟨i,j,rfl,rfl,hc,h⟩
  |_=>exact False.elim h
 |_=>exact False.elim h
theorem w8 {P:Hp}{α : List Addr}{i:Int}{v:V}(r:Rep X.K P α (.int i) v):v=.int i:=by simpa only [Rep] using r
theorem fO {f:Value→Value→Sem Value}{C':Int→Int→Prop}{v:Int→Int→V}{C:Int→Int→Bool}{d:Int→Int→D}(h:OpR X f (rI C' v))(hC:∀ i j,C i j=true→C' i j)(hv:∀ P α i j,Rep X.K P α (d i j) (v i j)):OpD X f (i2 C d):=
 OpD.of h fun H P α S x y a b Q r p1 p2 af=>by
  obtain⟨i,j,rfl,rfl,hc,ok⟩:=Y2 af
  exact⟨i,j,w8 p1,w8 p2,hC i j hc,xr ok r (hv P α i j)⟩
theorem pH {f:Value→Value→Sem Value}{v:Int→Int→V}{d:Int→Int→D}(h:OpR X f (rI0 v))(hv:∀ P α i j,Rep X.K P α (d i j) (v i j)):OpD X f (i2 (fun _ _=>true) d):=
 OpD.of h fun H P α S x y a b Q r p1 p2 af=>by
  obtain⟨i,j,rfl,rfl,_,ok⟩:=Y2 af
  exact⟨i,j,w8 p1,w8 p2,xr ok r (hv P α i j)⟩
def vM:G2:=i2 (fun _ _=>true) fun i j=>.int (i-j)
theorem FE:OpD X (binaryOp .Sub) vM:=pH FR fun P α i j=>by simp only[Rep]
def lD (i j:Int):Bool:=decide (-(2 ^ 64)<i∧i<2 ^ 64)||decide (-(2 ^ 64)<j∧j<2 ^ 64)
theorem UM:OpD X (binaryOp .Mult) (i2 lD fun i j=>.int (i*j)):=fO FP (fun i j h=>by
 unfold lD at h
 rw[Bool.or_eq_true] at h
 rcases h with h|h
 ·exact .inl (of_decide_eq_true h)
 ·exact .inr (of_decide_eq_true h)) fun P α i j=>by simp only[Rep]
def KW (i j:Int):Bool:=decide (0<j∧j<1073741824)
def mK:G2:=i2 KW fun i j=>.int (i/j)
theorem FA:OpD X (binaryOp .FloorDiv) mK:=fO UP (fun i j h=>(of_decide_eq_true h:0<j∧j<1073741824)) fun P α i j=>by simp only[Rep]
def kT:G2:=i2 (fun _ j=>decide (0<j)) fun i j=>.int (i % j)
theorem FC:OpD X (binaryOp .Mod) kT:=fO FO (fun i j h=>of_decide_eq_true h) fun P α i j=>by simp only[Rep]
def SG (i j:Int):Bool:=decide (0≤j∧j≤1000000∧i.natAbs<2 ^ 64)
def pC:G2:=i2 SG fun i j=>.int (i ^ j.toNat)
theorem FD:OpD X (binaryOp .Pow) pC:=fO FQ (fun i j h=>(of_decide_eq_true h:0≤j∧j≤1000000∧i.natAbs<2 ^ 64)) fun P α i j=>by simp only[Rep]
def gLt:G2:=i2 (fun _ _=>true) fun i j=>.bl (decide (i<j))
def gLe:G2:=i2 (fun _ _=>true) fun i j=>.bl (decide (i≤j))
def gGt:G2:=i2 (fun _ _=>true) fun i j=>.bl (decide (j<i))
def gGe:G2:=i2 (fun _ _=>true) fun i j=>.bl (decide (j≤i))
theorem L7:OpD X (compareOp .Lt) gLt:=pH LC fun P α i j=>by simp only[Rep]
theorem L6:OpD X (compareOp .LtE) gLe:=pH LB fun P α i j=>by simp only[Rep]
theorem Y7:OpD X (compareOp .Gt) gGt:=pH LA fun P α i j=>by simp only[Rep]
theorem L4:OpD X (compareOp .GtE) gGe:=pH L9 fun P α i j=>by simp only[Rep]
def d7:D→Sto→Res D:=fun a S=>match a with
 |.int i=>.ok (.int (-i)) S
 |_=>.bad
theorem TQ:UnD X (unaryOp .USub) d7:=by
 intro pins σ H s P α S v vv a Q I r rv p af
 cases a with
 |int i=>exact TR pins s σ H v vv Q I rv ⟨i,w8 p,xr af r (by simp only[Rep])⟩
 |_=>exact False.elim af
def gIs:G2:=fun a b S=>match b with
 |.non=>match a with
  |.non=>.ok (.bl true) S
  |_=>.ok (.bl false) S
 |_=>.bad
theorem UJ {P:Hp}{α : List Addr}{d:D}{v:V}(r:Rep X.K P α d v):decide (v=.non)=(match d with|.non=>true|_=>false):=by
 cases d <;> simp only[Rep] at r
 case non=>subst r;rfl
 case bl=>subst r;rfl
 case int=>subst r;rfl
 case str=>subst r;rfl
 case ty=>subst r;rfl
 case clo=>obtain⟨rfl,_⟩:=r;rfl
 case obj=>obtain⟨rfl,_⟩:=r;rfl
 case tup=>obtain⟨a,vs,rfl,_⟩:=r;rfl
 case lst=>obtain⟨a,vs,rfl,_⟩:=r;rfl
 case dct0=>obtain⟨a,rfl,_⟩:=r;rfl
 case loc=>obtain⟨a,rfl,_⟩:=r;rfl
 case exn=>obtain⟨a,rfl,_⟩:=r;rfl
 case fd=>obtain⟨a,o,vs,rfl,_⟩:=r;rfl
theorem L5:OpD X (compareOp .Is) gIs:=OpD.of FN fun H P α S x y a b Q r p1 p2 af=>by
 cases b with
 |non =>
  simp only[Rep] at p2
  refine⟨p2,?_⟩
  rw[UJ p1]
  cases a <;> exact xr af r (by simp only[Rep])
 |_=>exact False.elim af
def zJ:G2:=fun a b S=>match a,b with
 |.int i,.int j=>.ok (.int (i+j)) S
 |.str x,.str y=>if x.length+y.length≤lim then .ok (.str (x++y)) S else .bad
 |.tup xs,.tup ys=>if xs.length+ys.length≤lim then .ok (.tup (xs++ys)) S else .bad
 |.lst xs,.lst ys=>if xs.length+ys.length≤lim then .ok (.lst (xs++ys)) S else .bad
 |_,_=>.bad
theorem kG {pins:List (Addr × Obj)}{σ : _L.St}{H P:Hp}{α : List Addr}{S:Sto}{s:Shared}{xs:List D}{v:V}(I:Inv X pins σ H s)(r:Rel X.K H P α S)(p:Rep X.K P α (.tup xs) v) :
  ∃ a vs its,v=.ref a∧SqT X.K P a vs∧qE X.K P α xs vs∧qN vs its∧IsTup s.heap a its.toArray∧xs.length=its.length∧xs.length≤lim:=by
 simp only[Rep] at p
 obtain⟨a,vs,rfl,q,t⟩:=p
 obtain⟨its,rv,p1,z⟩:=I.tuple (w9 r.sub q)
 exact⟨a,vs,its,rfl,q,t,rv,p1,by rw[t.length,rv.length],by rw[t.length,zO];exact z⟩
theorem k8 {pins:List (Addr × Obj)}{σ : _L.St}{H P:Hp}{α : List Addr}{S:Sto}{s:Shared}{xs:List D}{v:V}(I:Inv X pins σ H s)(r:Rel X.K H P α S)(p:Rep X.K P α (.lst xs) v) :
  ∃ a vs its n,v=.ref a∧SqX X.K P a vs∧qE X.K P α xs vs∧qN vs its∧s.heap.get? a=some { cls:=.type "list",data:=.seq its.toArray n } ∧ xs.length=its.length∧xs.length≤lim:=by
 simp only[Rep] at p
 obtain⟨a,vs,rfl,q,t⟩:=p
 have:∃ its n,qN vs its∧s.heap.get? a=some { cls:=.type "list",data:=.seq its.toArray n } ∧ vs.length≤sizeLine:=by
  rcases q with q|⟨its,n,e,z,rv⟩
  ·obtain⟨z,its,n,rv,e⟩:=(eQ r.sub q).ok I.hok
   exact⟨its,n,rv,e,z⟩
  ·exact⟨its,n,rv,I.kIn _ _ e,z⟩
 obtain⟨its,n,rv,e,z⟩:=this
 exact⟨a,vs,its,n,rfl,q,t,rv,e,by rw[t.length,rv.length],by rw[t.length,zO];exact z⟩
theorem X5 {pins:List (Addr × Obj)}{σ : _L.St}{H P:Hp}{α : List Addr}{S:Sto}{s:Shared}{xs:List D}{vs:List V}{its:List Value}{Q:VK}(I:Inv X pins σ H s)(r:Rel X.K H P α S)(t:qE X.K P α xs vs)(rv:qN vs its)(hz:xs.length≤lim)
  (ok:OkV X P α Q (.tup xs) S):EP X pins σ Q (.ref s.heap.objs.size) { s with heap:=s.heap.push { cls:=.type "tuple",data:=.seq its.toArray } }:=by
 refine⟨.ref s.heap.objs.size,_,I.laid (t':=s.toks) (o:=.tup vs) (fun b ob q=>Heap.get?_push_of_some _ q) (Nat.le_refl _) ⟨by rw[← t.length,← zO];exact hz,its,rv,IsTup.new _ _⟩,rfl,bR r (I.hok.fresh (Nat.le_refl _)) t ok⟩
theorem X4 {pins:List (Addr × Obj)}{σ : _L.St}{H P:Hp}{α : List Addr}{S:Sto}{s:Shared}{xs:List D}{vs:List V}{its:List Value}{Q:VK}(I:Inv X pins σ H s)(r:Rel X.K H P α S)(t:qE X.K P α xs vs)(rv:qN vs its)(hz:xs.length≤lim)
  (ok:OkV X P α Q (.lst xs) S):EP X pins σ Q (.ref s.heap.objs.size) { s with heap:=s.heap.push { cls:=.type "list",data:=.seq its.toArray } }:=by
 refine⟨.ref s.heap.objs.size,_,I.laid (t':=s.toks) (o:=.lst vs) (fun b ob q=>Heap.get?_push_of_some _ q) (Nat.le_refl _) ⟨by rw[← t.length,← zO];exact hz,its,0,rv,Heap.get?_push_size _ rfl⟩,rfl,vP r (I.hok.fresh (Nat.le_refl _)) t ok⟩
theorem KR {pins:List (Addr × Obj)}{σ : _L.St}{H P:Hp}{α : List Addr}{S:Sto}{s:Shared}{xs ys:List D}{v u:V}{vv uu:Value}{Q:VK}(I:Inv X pins σ H s)(r:Rel X.K H P α S)(rv:qK v vv)(ru:qK u uu)(pa:Rep X.K P α (.tup xs) v)(pb:Rep X.K P α (.tup ys) u)(hl:xs.length+ys.length≤lim)(af:OkV X P α Q (.tup (xs++ys)) S) :
  wpAny (model X.prog X.w) X.A (binaryOp .Add vv uu) (EP X pins σ Q) X.xe s:=by
 obtain⟨a,vs,its,rfl,q1,t1,rv1,h1,l1,_⟩:=kG I r pa
 obtain⟨b,ws,its2,rfl,q2,t2,rv2,h2,l2,_⟩:=kG I r pb
 cases rv
 cases ru
 by_cases hx:its=[]
 ·obtain⟨⟨cls,dd,data,sl⟩,ho,hc,n,hd⟩:=id h1
  obtain⟨⟨cls2,dd2,data2,sl2⟩,ho2,hc2,n2,hd2⟩:=id h2
  simp only at hc hd hc2 hd2
  subst hc hd hc2 hd2
  have hxs:xs=[]:=List.length_eq_zero_iff.mp (by rw[l1,hx];rfl)
  subst hxs
  exact concat_meets ⟨_,ho,rfl⟩ ⟨_,ho2,rfl⟩ noFill_tuple_add seq_tuple_add PySem.F.slot_tuple_add PySem.F.entry_tuple_add (PySem.F.args_tuple_add_2 _ _) (tuple_addW0 a b its.toArray its2.toArray n n2 dd dd2 sl sl2 (by simp[hx]))
   ⟨ho,ho2,⟨.ref b,H,I,rfl,xr af r pb⟩⟩
 ·refine _H.cat_tup h1 h2 hx (fun z=>⟨.ref a,H,I,rfl,xr af r ?_⟩) (fun z=>?_) (by rw[← l1,← l2,← zO];exact hl)
  ·have hys:ys=[]:=List.length_eq_zero_iff.mp (by rw[l2,z];rfl)
   rw[hys,List.append_nil];exact pa
  ·exact X5 I r (t1.append t2) (rv1.append rv2) (by rw[List.length_append];exact hl) af
theorem KQ {pins:List (Addr × Obj)}{σ : _L.St}{H P:Hp}{α : List Addr}{S:Sto}{s:Shared}{xs ys:List D}{v u:V}{vv uu:Value}{Q:VK}(I:Inv X pins σ H s)(r:Rel X.K H P α S)(rv:qK v vv)(ru:qK u uu)(pa:Rep X.K P α (.lst xs) v)(pb:Rep X.K P α (.lst ys) u)(hl:xs.length+ys.length≤lim)(af:OkV X P α Q (.lst (xs++ys)) S) :
  wpAny (model X.prog X.w) X.A (binaryOp .Add vv uu) (EP X pins σ Q) X.xe s:=by
 obtain⟨a,vs,its,n,rfl,q1,t1,rv1,h1,l1,_⟩:=k8 I r pa
 obtain⟨b,ws,its2,n2,rfl,q2,t2,rv2,h2,l2,_⟩:=k8 I r pb
 cases rv
 cases ru
 refine PySem.P.add_list h1 h2 ?_ (by rw[List.size_toArray,List.size_toArray,← l1,← l2,← zO];exact hl)
 rw[List.append_toArray]
 exact X4 I r (t1.append t2) (rv1.append rv2) (by rw[List.length_append];exact hl) af
inductive AddV (a b:D)(S:Sto):Prop
 |bad (e:zJ a b S=.bad)
 |int (i j:Int) (ea:a=.int i) (eb:b=.int j)
 |str (x y:Str) (ea:a=.str x) (eb:b=.str y)
 |tup (x y:List D) (ea:a=.tup x) (eb:b=.tup y)
 |lst (x y:List D) (ea:a=.lst x) (eb:b=.lst y)
theorem SD (a b:D)(S:Sto):AddV a b S:=by
 cases a with
 |int i=>cases b with
  |int j=>exact .int i j rfl rfl
  |_=>exact .bad rfl
 |str i=>cases b with
  |str j=>exact .str i j rfl rfl
  |_=>exact .bad rfl
 |tup i=>cases b with
  |tup j=>exact .tup i j rfl rfl
  |_=>exact .bad rfl
 |lst i=>cases b with
  |lst j=>exact .lst i j rfl rfl
  |_=>exact .bad rfl
 |_=>exact .bad rfl
theorem F9:OpD X (binaryOp .Add) zJ:=by
 intro pins σ H s P α S v u vv uu a b Q I r rv ru pa pb af
 cases SD a b S with
 |bad e=>rw[e] at af;exact False.elim af
 |int i j ea eb =>
  subst ea eb
  exact FM pins s σ H v u vv uu Q I rv ru ⟨i,j,w8 pa,w8 pb,xr af r (by simp only[Rep])⟩
 |str x y ea eb =>
  subst ea eb
  obtain⟨hl,af⟩:=xM (X:=X) af
  simp only[Rep] at pa pb
  exact cT pins s σ H v u vv uu Q I rv ru ⟨x,y,pa,pb,by rw[← zO];exact hl,xr af r (by simp only[Rep])⟩
 |tup xs ys ea eb =>
  subst ea eb
  obtain⟨hl,af⟩:=xM (X:=X) af
  exact KR I r rv ru pa pb hl af
 |lst xs ys ea eb =>
  subst ea eb
  obtain⟨hl,af⟩:=xM (X:=X) af
  exact KQ I r rv ru pa pb hl af
def gIx:G2:=fun a b S=>match b with
 |.int k=>match a with
  |.tup xs=>yO (atI xs k) S
  |.lst xs=>yO (atI xs k) S
  |.loc i=>match S[i]? with
   |some (.lst xs)=>yO (atI xs k) S
   |_=>.bad
  |_=>.bad
 |_=>.bad
theorem m7 {P:Hp}{α : List Addr}{ds:List D}{vs:List V}{k:Int}{d:D}(rp:qE X.K P α ds vs)(h:atI ds k=some d):∃ v,atI vs k=some v∧Rep X.K P α d v:=by
 unfold atI at h ⊢
 rw[← rp.length]
 cases q:ixN ds.length k with
 |none=>rw[q] at h;cases h
 |some j =>
  rw[q] at h
  obtain⟨v,h1,h2⟩:=rp.get (show ds[j]? = some d from h)
  exact⟨v,h1,h2⟩
theorem SV:IxD X gIx:=by
 intro value slice pins σ H s P α S v u vv uu a b Q I r rv ru pa pb af hs
 cases b with
 |int k =>
  have hk:=w8 pb
  cases a with
  |tup xs =>
   obtain⟨d,e,ok⟩:=vQ (X:=X) af
   simp only[Rep] at pa
   obtain⟨p,vs,rfl,q,t⟩:=pa
   obtain⟨w,e1,rw'⟩:=m7 t e
   exact BF value slice pins s σ H _ u vv uu Q I rv ru ⟨p,vs,k,w,rfl,hk,w9 r.sub q,e1,xr ok r rw'⟩ hs
  |lst xs =>
   obtain⟨d,e,ok⟩:=vQ (X:=X) af
   simp only[Rep] at pa
   obtain⟨p,vs,rfl,q,t⟩:=pa
   obtain⟨w,e1,rw'⟩:=m7 t e
   exact rR value slice pins s σ H _ u vv uu Q I rv ru ⟨p,vs,k,w,rfl,hk,(xG r.sub q).l,e1,xr ok r rw'⟩ hs
  |loc i =>
   obtain⟨xs,hS,af⟩:=uX (X:=X) (f:=fun xs=>yO (atI xs k) S) af
   obtain⟨d,e,ok⟩:=vQ (X:=X) af
   simp only[Rep] at pa
   obtain⟨p,rfl,q⟩:=pa
   obtain⟨vs,z,t⟩:=r.at' i p _ q hS
   obtain⟨w,e1,rw'⟩:=m7 t e
   exact rR value slice pins s σ H _ u vv uu Q I rv ru ⟨p,vs,k,w,rfl,hk,.of z,e1,xr ok r rw'⟩ hs
  |_=>exact False.elim af
 |_=>exact False.elim af
def bM:G3:=fun o i d S=>match o,i with
 |.loc n,.int k=>match S[n]? with
  |some (.lst xs)=>match ixN xs.length k with
   |some j=>.ok () (S.set n (.lst (xs.set j d)))
   |none=>.bad
  |_=>.bad
 |_,_=>.bad
theorem D5:l7 X (nW X bM):=by
 intro pins s σ H o i v ov iv u Q I ro ri rv h
 obtain⟨P,α,S,a,b,d,r,pa,pb,pd,af⟩:=h
 cases a with
 |loc n =>
  cases b with
  |int k =>
   obtain⟨xs,hS,af⟩:=uX (X:=X) (f:=fun xs=>match ixN xs.length k with|some j=>.ok () (S.set n (.lst (xs.set j d)))|none=>.bad) af
   cases hj:ixN xs.length k with
   |none=>rw[hj] at af;exact False.elim af
   |some j =>
    rw[hj] at af
    simp only[Rep] at pa
    obtain⟨p,rfl,q⟩:=pa
    obtain⟨vs,z,t⟩:=r.at' n p _ q hS
    refine WA pins s σ H _ i v ov iv u Q I ro ri rv ⟨p,vs,k,j,rfl,w8 pb,z,by rw[← t.length];exact hj,?_⟩
    refine af _ P α (r.put (m':=.lst (xs.set j d)) q hS (by intro z;cases z) ⟨vs.set j v,qS,t.set pd j⟩) (qF.refl _) (List.prefix_refl _)
  |_=>exact False.elim af
 |_=>exact False.elim af
def BR:D→Sto→Option Nat
 |.tup xs,_=>some xs.length
 |.lst xs,_=>some xs.length
 |.str x,_=>if x.length≤lim then some x.length else none
 |.dct0,_=>some 0
 |.loc i,S=>match S[i]? with
  |some (.lst xs)=>some xs.length
  |_=>none
 |_,_=>none
def lY:DF:=fun ds S=>match ds with
 |[d]=>match BR d S with
  |some n=>.ok (.int n) S
  |none=>.bad
 |_=>.bad
end
end _D
end
section
namespace _D
open PySem PySem.Spec PyProof.Rows _L
section
variable {X:Cx}
theorem vC {P:Hp}{α : List Addr}{d:D}{vs:List V}{us:List Value}(rp:qE X.K P α [d] vs)(rv:qN vs us):∃ v u,vs=[v]∧us=[u]∧Rep X.K P α d v∧qK v u:=by
 obtain⟨v,ws,rfl,p,t⟩:=rp.cons_inv
 have:=t.nil_inv;subst this
 obtain⟨u,rfl,q⟩:=b8 rv
 exact⟨v,u,rfl,rfl,p,q⟩
theorem gI {P:Hp}{α : List Addr}{d e:D}{vs:List V}{us:List Value}(rp:qE X.K P α [d,e] vs)(rv:qN vs us):∃ v w u x,vs=[v,w]∧us=[u,x]∧Rep X.K P α d v∧Rep X.K P α e w∧qK v u∧qK w x:=by
 obtain⟨v,ws,rfl,p,t⟩:=rp.cons_inv
 obtain⟨w,ws,rfl,p',t⟩:=t.cons_inv
 have:=t.nil_inv;subst this
 obtain⟨u,x,rfl,q,q'⟩:=nY rv
 exact⟨v,w,u,x,rfl,rfl,p,p',q,q'⟩
def cO (d:D)(S:Sto):Option Nat:=match d with
 |.dct0=>none
 |_=>BR d S
theorem BS {H P:Hp}{α : List Addr}{S:Sto}{d:D}{v:V}{n:Nat}(r:Rel X.K H P α S)(p:Rep X.K P α d v)(hn:cO d S=some n):KO X.K v H n:=by
 cases d with
 |str x =>
  cases (show v=.str x from p)
  obtain⟨hl,rfl⟩:=kW hn
  exact⟨by rw[← zO];exact hl,rfl⟩
 |tup xs =>
  simp only[Rep] at p
  obtain⟨a,ws,rfl,sq,t⟩:=p
  cases hn
  exact .inr ⟨ws,w9 r.sub sq,t.length⟩
 |lst xs =>
  simp only[Rep] at p
  obtain⟨a,ws,rfl,sq,t⟩:=p
  cases hn
  exact .inl ⟨ws,(xG r.sub sq).l,t.length⟩
 |loc i =>
  simp only[Rep] at p
  obtain⟨a,rfl,e⟩:=p
  obtain⟨xs,hS,hn⟩:=BX (f:=fun xs=>some xs.length) hn
  cases hn
  obtain⟨ws,z,t⟩:=r.at' i a _ e hS
  exact .inl ⟨ws,.of z,t.length⟩
 |_=>exact nn hn
inductive LenD1 (ds:List D)(S:Sto)(r:Res D):Prop
 |bad (e:r=.bad)
 |of (d:D) (n:Nat) (ed:ds=[d]) (hn:cO d S=some n) (e:r=.ok (.int n) S)
theorem NU (ds:List D)(S:Sto):LenD1 ds S (match ds with|[.dct0]=>.bad|_=>lY ds S):=by
 cases ds with
 |nil=>exact .bad rfl
 |cons d ds =>
  cases ds with
  |cons _ _=>cases d <;> exact .bad rfl
  |nil =>
   have z:(match [d] with|[D.dct0]=>Res.bad|_=>lY [d] S)=(match cO d S with|some n=>Res.ok (D.int n) S|none=>.bad):=by cases d <;> rfl
   rw[z]
   cases hn:cO d S with
   |none=>exact .bad rfl
   |some n=>exact .of d n rfl hn rfl
theorem G7 (hD:True):wX X (.builtin "len") (fun ds S=>match ds with|[.dct0]=>.bad|_=>lY ds S):=by
 intro pins σ H s P α S vs us ds Q I r rv rp af
 have af1:qJ X P α (match ds with|[D.dct0]=>Res.bad|_=>lY ds S) (OkV X P α Q):=af
 clear af
 cases NU ds S with
 |bad e=>rw[e] at af1;exact False.elim af1
 |of d n ed hn e =>
  rw[e] at af1
  subst ed
  obtain⟨v,u,rfl,rfl,p,q⟩:=vC rp rv
  exact QX pins s σ H _ _ Q I rv ⟨v,n,rfl,BS r p hn,xr af1 r (by simp only[Rep])⟩
def tyD:D→Sto→Option String
 |.non,_=>some "NoneType"
 |.bl _,_=>some "bool"
 |.int _,_=>some "int"
 |.str _,_=>some "str"
 |.tup _,_=>some "tuple"
 |.lst _,_=>some "list"
 |.dct0,_=>some "dict"
 |.loc i,S=>match S[i]? with
  |some (.lst _)=>some "list"
  |some (.dct _)=>some "dict"
  |_=>none
 |_,_=>none
def zH (a b:String):Bool:=a == b||(a == "bool" && b == "int")
def xS (b:String):Bool:=b == "int" || b == "bool" || b == "tuple" || b == "list" || b == "str" || b == "dict"
def BK (a b:String):Option Bool:=if (Value.type a == Value.type b)=true then some true else if PySem.W.kitMeta b=true then (fastBuiltinMro a).map (·.contains (.type b)) else none
def tyL:List String:=["NoneType","bool","int","str","tuple","list","dict"]
def okL:List String:=["int","bool","tuple","list","str","dict"]
theorem UB:(tyL.all fun a=>okL.all fun b=>decide (BK a b=some (zH a b)))=true:=by decide +kernel
theorem FI {b:String}(hb:xS b=true):b∈okL:=by simpa [xS,okL,or_assoc] using hb
theorem mR {K:PySem.W.Frag}{a b:String}(ha:a∈tyL)(hb:xS b=true):PySem.W.kitOne K (.type a) (.type b)=some (zH a b):=
 of_decide_eq_true (p:=BK a b=some (zH a b)) (List.all_eq_true.mp (List.all_eq_true.mp UB a ha) b (FI hb))
def xE:DF:=fun ds S=>match ds with
 |[d,.ty b]=>if xS b then match tyD d S with
   |some a=>.ok (.bl (zH a b)) S
   |none=>.bad
  else .bad
 |_=>.bad
inductive TyV (X:Cx)(H:Hp)(v:V)(a:String):Prop
 |of (t:TyOf X.K H v (.type a))
 |tup (p:Addr) (vs:List V) (e:v=.ref p) (q:SqT X.K H p vs) (ea:a = "tuple")
 |lst (p:Addr) (vs:List V) (e:v=.ref p) (q:SqL X.K H p vs) (ea:a = "list")
theorem sL {d:D}{S:Sto}{a:String}(h:tyD d S=some a):a∈tyL:=by
 cases d with
 |non=>cases h;exact .head _
 |bl b=>cases h;exact .tail _ (.head _)
 |int i=>cases h;exact .tail _ (.tail _ (.head _))
 |str x=>cases h;exact .tail _ (.tail _ (.tail _ (.head _)))
 |tup xs=>cases h;exact .tail _ (.tail _ (.tail _ (.tail _ (.head _))))
 |lst xs=>cases h;exact .tail _ (.tail _ (.tail _ (.tail _ (.tail _ (.head _)))))
 |dct0=>cases h;exact .tail _ (.tail _ (.tail _ (.tail _ (.tail _ (.tail _ (.head _))))))
 |loc i =>
  rcases mV (f:=fun _=>some "list") (g:=fun _=>some "dict") h with⟨_,_,h⟩|⟨_,_,h⟩
  ·cases h;exact .tail _ (.tail _ (.tail _ (.tail _ (.tail _ (.head _)))))
  ·cases h;exact .tail _ (.tail _ (.tail _ (.tail _ (.tail _ (.tail _ (.head _))))))
 |_=>exact nn h
theorem YI {H P:Hp}{α : List Addr}{S:Sto}{d:D}{v:V}{a:String}(r:Rel X.K H P α S)(p:Rep X.K P α d v)(h:tyD d S=some a):TyV X H v a:=by
 cases d with
 |non=>cases h;cases (show v=.non from p);exact .of .non
 |bl b=>cases h;cases (show v=.bl b from p);exact .of (.bl b)
 |int i=>cases h;cases (show v=.int i from p);exact .of (.int i)
 |str x=>cases h;cases (show v=.str x from p);exact .of (.str x)
 |tup xs =>
  cases h
  simp only[Rep] at p
  obtain⟨a,vs,e,q,t⟩:=p
  exact .tup a vs e (w9 r.sub q) rfl
 |lst xs =>
  cases h
  simp only[Rep] at p
  obtain⟨a,vs,e,q,t⟩:=p
  exact .lst a vs e (xG r.sub q).l rfl
 |dct0 =>
  cases h
  simp only[Rep] at p
  obtain⟨a,rfl,q⟩:=p
  exact .of (.dK (r.sub _ _ q))
 |loc i =>
  simp only[Rep] at p
  obtain⟨a,rfl,q⟩:=p
  rcases mV (f:=fun _=>some "list") (g:=fun _=>some "dict") h with⟨xs,hS,h⟩|⟨kvs,hS,h⟩
  ·cases h
   obtain⟨vs,z,t⟩:=r.at' i a _ q hS
   exact .of (.lst z)
  ·cases h
   obtain⟨vs,z,t⟩:=r.at' i a _ q hS
   exact .of (.dK z)
 |_=>exact nn h
inductive IsiV (ds:List D)(S:Sto):Prop
 |bad (e:xE ds S=.bad)
 |of (d:D) (b a:String) (ed:ds=[d,.ty b]) (hb:xS b=true) (ha:tyD d S=some a) (e:xE ds S=.ok (.bl (zH a b)) S)
theorem SU (ds:List D)(S:Sto):IsiV ds S:=by
 cases ds with
 |nil=>exact .bad rfl
 |cons d ds =>
  cases ds with
  |nil=>exact .bad rfl
  |cons e ds =>
   cases ds with
   |cons _ _=>cases e <;> exact .bad rfl
   |nil =>
    cases e with
    |ty b =>
     have z:xE [d,.ty b] S=if xS b then (match tyD d S with|some a=>.ok (.bl (zH a b)) S|none=>.bad) else .bad:=rfl
     by_cases hb:xS b=true
     ·rw[if_pos hb] at z
      cases ha:tyD d S with
      |none=>rw[ha] at z;exact .bad z
      |some a=>rw[ha] at z;exact .of d b a rfl hb ha z
     ·rw[if_neg hb] at z
      exact .bad z
    |_=>exact .bad rfl
theorem aW:wX X (.builtin "isinstance") xE:=by
 intro pins σ H s P α S vs us ds Q I r rv rp af
 cases SU ds S with
 |bad e=>rw[e] at af;exact False.elim af
 |of d b a ed hb ha e =>
  subst ed
  rw[e] at af
  obtain⟨v,w,u,x,rfl,rfl,p,p',q,q'⟩:=gI rp rv
  simp only[Rep] at p'
  subst p'
  cases (show x=Value.type b from q')
  have kit:=mR (K:=X.K) (sL ha) hb
  have fin:∀ tk,EP X pins σ Q (.bool (zH a b)) { s with toks:=tk }:=fun tk=>⟨.bl _,H,I.tok tk,rfl,xr af r (by simp only[Rep])⟩
  cases YI r p ha with
  |of ht=>exact iN I q ht kit fin
  |tup p' ws e sq ea =>
   subst e ea
   cases (show u=Value.ref p' from q)
   obtain⟨its,rv',⟨o,h1,h2,_⟩,_⟩:=I.tuple sq
   exact PySem.W.kia_one PySem.W.kitx_tuple I.kIn ⟨o,h1,h2⟩ kit (fun z=>nomatch z) fin
  |lst p' ws e sq ea =>
   subst e ea
   cases (show u=Value.ref p' from q)
   obtain⟨its,rv',⟨o,_,h1,h2,_⟩,_⟩:=I.list sq
   exact PySem.W.kia_one PySem.W.kitx_list I.kIn ⟨o,h1,h2⟩ kit (fun z=>nomatch z) fin
def x6:List D→Option (List Bool)
 |[]=>some []
 |.bl b::r=>(x6 r).map (b::·)
 |_=>none
theorem yX {P:Hp}{α : List Addr}:∀ {ds:List D} {bs:List Bool} {vs:List V} {us:List Value},x6 ds=some bs→qE X.K P α ds vs→qN vs us→us=bs.map Value.bool
 |[],bs,vs,us,h,rp,rv=>by
  cases h
  have:=rp.nil_inv;subst this
  cases rv;rfl
 |d::ds,bs,vs,us,h,rp,rv=>by
  cases d with
  |bl b =>
   obtain⟨bs',q,rfl⟩:=Option.map_eq_some_iff.mp (show (x6 ds).map (b::·)=some bs from h)
   obtain⟨w,ws,rfl,p,t⟩:=rp.cons_inv
   simp only[Rep] at p;subst p
   cases rv with
   |cons q1 q2 =>
    cases (show _=Value.bool b from q1)
    rw[yX q t q2]
    rfl
  |_=>exact nn h
def lW (any:Bool):DF:=fun ds S=>match ds with
 |[d]=>match (wQ d).bind x6 with
  |some bs=>.ok (.bl (if any then bs.any id else bs.all id)) S
  |none=>.bad
 |_=>.bad
theorem n8 (bs:List Bool):((List.range bs.length).all fun i=>bs.getD i false)=bs.all id:=by
 induction bs with
 |nil=>rfl
 |cons b bs ih =>
  rw[List.length_cons,List.range_succ_eq_map,List.all_cons,List.all_map,List.all_cons,← ih]
  rfl
theorem n9 (bs:List Bool):((List.range bs.length).any fun i=>bs.getD i false)=bs.any id:=by
 induction bs with
 |nil=>rfl
 |cons b bs ih =>
  rw[List.length_cons,List.range_succ_eq_map,List.any_cons,List.any_map,List.any_cons,← ih]
  rfl
theorem iO {pins:List (Addr × Obj)}{σ : _L.St}{H:Hp}{s:Shared}{o:Obj}{h':Heap}{tk:Nat}(I:Inv X pins σ H s)(k:∀ b ob,b ∉ [s.heap.objs.size]→(s.heap.push o).get? b=some ob→h'.get? b=some ob):Inv X pins σ H { s with heap:=h',toks:=tk }:=
 I.kept fun b u e=>k b u (by simp;exact Nat.ne_of_lt (Heap.lt_size e)) (Heap.get?_push_of_some _ e)
theorem jK {bs:List Bool}{its:List Value}(hi:its=bs.map Value.bool){A:Around}:TruthOf X.prog X.w A (fun i v=>its.toArray[i]? = some v) (fun i=>bs.getD i false):=fun i v s' Q' E' hv hQ=>by
 subst hi
 have hv':(bs.map Value.bool)[i]? = some v:=by simpa using hv
 rw[List.getElem?_map] at hv'
 cases e:bs[i]? with
 |none=>rw[e] at hv';exact nn hv'
 |some b =>
  rw[e] at hv'
  cases Option.some.inj hv'
  have:bs.getD i false=b:=by simp[List.getD,e]
  have hQ':Q' (bs.getD i false) s':=hQ
  rw[this] at hQ'
  exact wpAny_truthy_bool hQ'
theorem VV {any:Bool}{ds:List D}{S:Sto}{P:Hp}{α : List Addr}{Ok:D→Sto→Prop}(h:qJ X P α (lW any ds S) Ok):∃ d xs bs,ds=[d]∧ItV d xs∧x6 xs=some bs∧Ok (.bl (if any then bs.any id else bs.all id)) S:=by
 obtain⟨d,rfl,h1⟩:=FJ (X:=X) (β:=D) (g:=fun d=>match (wQ d).bind x6 with|some bs=>.ok (D.bl (if any then bs.any id else bs.all id)) S|none=>.bad) h
 cases hb:(wQ d).bind x6 with
 |none=>rw[hb] at h1;exact False.elim h1
 |some bs =>
  rw[hb] at h1
  obtain⟨xs,hx,hbs⟩:=Option.bind_eq_some_iff.mp hb
  exact⟨d,xs,bs,rfl,itV hx,hbs,h1⟩
theorem KZ (any:Bool)(hc:X.calm=true):wX X (.builtin (if any then "any" else "all")) (lW any):=by
 intro pins σ H s P α S vs us ds Q I r rv rp af
 obtain⟨d,xs,bs,ed,hd,hbs,ok⟩:=VV af
 clear af
 subst ed
 obtain⟨v,u,rfl,rfl,p,q⟩:=vC rp rv
 clear rp
 have fin:∀ {o:Obj} (h':Heap) (tk:Nat),(∀ b ob,b ∉ [s.heap.objs.size]→(s.heap.push o).get? b=some ob→h'.get? b=some ob)→EP X pins σ Q (.bool (if any then bs.any id else bs.all id)) { s with heap:=h',toks:=tk }:=
  fun {o} h' tk k=>⟨.bl _,H,iO I k,rfl,xr ok r (by simp only[Rep])⟩
 clear rv ok
 have hh:X.A.in1.handled=none:=I.ok.hd hc
 cases hd with
 |tup ed =>
  subst ed
  obtain⟨a,ws,its,rfl,sq,t,rvi,ht,hl,_⟩:=kG I r p
  cases (show u=Value.ref a from q)
  have hi:=yX hbs t rvi
  have hlen:its.toArray.size=bs.length:=by rw[hi];simp
  have hne:a≠s.heap.objs.size:=by obtain⟨o,e,_⟩:=ht;exact Nat.ne_of_lt (Heap.lt_size e)
  have W:=Walks.tuple (prog:=X.prog) (w:=X.w) hh s.heap.objs.size a hne its.toArray
  have hT:∀ o,(s.heap.push o).IsTuple a its.toArray:=fun o=>by obtain⟨o,e,c⟩:=ht;exact⟨o,Heap.get?_push_of_some _ e,c⟩
  have ht':s.heap.IsTuple a its.toArray:=ht
  cases any with
  |false =>
   refine call_all_walk (wpAny_pyIter_tuple ht' ⟨s.heap.objs.size,_,_,_,_,_,_,rfl,W,⟨⟨_,Heap.get?_push_size _ rfl,rfl,rfl⟩,hT _⟩,jK hi,fun h' tk k=>?_⟩)
   rw[hlen,n8]
   exact fin h' tk k
  |true =>
   refine call_any_walk (wpAny_pyIter_tuple ht' ⟨s.heap.objs.size,_,_,_,_,_,_,rfl,W,⟨⟨_,Heap.get?_push_size _ rfl,rfl,rfl⟩,hT _⟩,jK hi,fun h' tk k=>?_⟩)
   rw[hlen,n9]
   exact fin h' tk k
 |lst ed =>
  subst ed
  obtain⟨a,ws,its,n,rfl,sq,t,rvi,ht,hl,_⟩:=k8 I r p
  cases (show u=Value.ref a from q)
  have hL:s.heap.IsList a its.toArray:=⟨_,ht,rfl,n,rfl⟩
  have hi:=yX hbs t rvi
  have hlen:its.toArray.size=bs.length:=by rw[hi];simp
  have hne:a≠s.heap.objs.size:=Nat.ne_of_lt (Heap.lt_size ht)
  have W:=Walks.list (prog:=X.prog) (w:=X.w) hh s.heap.objs.size a hne its.toArray
  have hL':∀ o,(s.heap.push o).IsList a its.toArray:=fun o=>⟨_,Heap.get?_push_of_some _ ht,rfl,n,rfl⟩
  cases any with
  |false =>
   refine call_all_walk (wpAny_pyIter_list hL ⟨s.heap.objs.size,_,_,_,_,_,_,rfl,W,⟨⟨_,Heap.get?_push_size _ rfl,rfl,rfl⟩,hL' _⟩,jK hi,fun h' tk k=>?_⟩)
   rw[hlen,n8]
   exact fin h' tk k
  |true =>
   refine call_any_walk (wpAny_pyIter_list hL ⟨s.heap.objs.size,_,_,_,_,_,_,rfl,W,⟨⟨_,Heap.get?_push_size _ rfl,rfl,rfl⟩,hL' _⟩,jK hi,fun h' tk k=>?_⟩)
   rw[hlen,n9]
   exact fin h' tk k
def lX:DF:=fun ds S=>match ds with
 |[.int i]=>.ok (.int i) S
 |[.bl b]=>.ok (.int (b01 b)) S
 |_=>.bad
inductive IntV (ds:List D)(S:Sto):Prop
 |bad (e:lX ds S=.bad)
 |int (i:Int) (e:ds=[.int i])
 |bl (b:Bool) (e:ds=[.bl b])
theorem SQ (ds:List D)(S:Sto):IntV ds S:=by
 cases ds with
 |nil=>exact .bad rfl
 |cons d ds =>
  cases ds with
  |cons _ _=>cases d <;> exact .bad rfl
  |nil =>
   cases d with
   |int i=>exact .int i rfl
   |bl b=>exact .bl b rfl
   |_=>exact .bad rfl
theorem G6:wX X (.type "int") lX:=by
 intro pins σ H s P α S vs us ds Q I r rv rp af
 cases SQ ds S with
 |bad e=>rw[e] at af;exact False.elim af
 |int i e =>
  subst e
  obtain⟨v,u,rfl,rfl,p,q⟩:=vC rp rv
  exact tM pins s σ H _ _ Q I rv (.inl ⟨_,by rw[w8 p],xr af r (by simp only[Rep])⟩)
 |bl b e =>
  subst e
  obtain⟨v,u,rfl,rfl,p,q⟩:=vC rp rv
  simp only[Rep] at p;subst p
  exact tM pins s σ H _ _ Q I rv (.inr ⟨_,rfl,xr af r (by simp only[Rep];rfl)⟩)
end
end _D
end
section
namespace _D
open PySem PySem.Spec PyProof.Rows _L
section
variable {X:Cx}
structure ClsK (K:PySem.W.Frag)(cl:List Addr):Prop where
 ex:∀ C∈cl,ExnK K C
 one:∀ C∈cl,∀ B∈cl,PySem.W.kitOne K (.ref C) (.ref B)=some (C == B)
 ve:∀ C∈cl,PySem.W.kitOne K (.ref C) (.type "ValueError")=some true
def zN (cl:List Addr):DF:=fun ds S=>match ds with
 |[.exn (.ref C),.obj B]=>if cl.contains C&&cl.contains B then .ok (.bl (C == B)) S else .bad
 |[.exn (.ref C),.ty b]=>if cl.contains C&&(b == "ValueError") then .ok (.bl true) S else .bad
 |_=>xE ds S
theorem iE {pins:List (Addr × Obj)}{σ : _L.St}{H P:Hp}{α : List Addr}{S:Sto}{s:Shared}{C:Addr}{v:V}{u:Value}(I:Inv X pins σ H s)(r:Rel X.K H P α S)(p:Rep X.K P α (.exn (.ref C)) v)(q:qK v u):∃ a,u=.ref a∧vS a C s.heap:=by
 simp only[Rep] at p
 obtain⟨a,rfl,z⟩:=p
 obtain⟨y,_⟩:=I.hok a _ (r.sub _ _ z)
 exact⟨a,q,y⟩
inductive IsiE (cl:List Addr)(ds:List D)(S:Sto):Prop
 |bad (e:zN cl ds S=.bad)
 |old (e:zN cl ds S=xE ds S)
 |obj (C B:Addr) (ed:ds=[.exn (.ref C),.obj B]) (h1:C∈cl) (h2:B∈cl) (e:zN cl ds S=.ok (.bl (C == B)) S)
 |ve (C:Addr) (ed:ds=[.exn (.ref C),.ty "ValueError"]) (h1:C∈cl) (e:zN cl ds S=.ok (.bl true) S)
theorem NR (cl:List Addr)(C:Addr)(d:D)(S:Sto):IsiE cl [.exn (.ref C),d] S:=by
 cases d with
 |obj B =>
  have z:zN cl [.exn (.ref C),.obj B] S=if (cl.contains C&&cl.contains B)=true then .ok (.bl (C == B)) S else .bad:=rfl
  by_cases h:(cl.contains C&&cl.contains B)=true
  ·rw[if_pos h] at z
   have h':=Bool.and_eq_true_iff.mp h
   exact .obj C B rfl (List.contains_iff_mem.mp h'.1) (List.contains_iff_mem.mp h'.2) z
  ·rw[if_neg h] at z
   exact .bad z
 |ty b =>
  have z:zN cl [.exn (.ref C),.ty b] S=if (cl.contains C&&(b == "ValueError"))=true then .ok (.bl true) S else .bad:=rfl
  by_cases h:(cl.contains C&&(b == "ValueError"))=true
  ·rw[if_pos h] at z
   have h':=Bool.and_eq_true_iff.mp h
   cases (beq_iff_eq.mp h'.2)
   exact .ve C rfl (List.contains_iff_mem.mp h'.1) z
  ·rw[if_neg h] at z
   exact .bad z
 |_=>exact .old rfl
theorem SS (cl:List Addr)(ds:List D)(S:Sto):IsiE cl ds S:=by
 cases ds with
 |nil=>exact .old rfl
 |cons a ds =>
  cases a with
  |exn c =>
   cases c with
   |ref C =>
    cases ds with
    |nil=>exact .old rfl
    |cons b ds =>
     cases ds with
     |nil=>exact NR cl C b S
     |cons _ _=>cases b <;> exact .old rfl
   |_=>exact .old rfl
  |_=>exact .old rfl
theorem YO {cl:List Addr}(hK:ClsK X.K cl):wX X (.builtin "isinstance") (zN cl):=by
 intro pins σ H s P α S vs us ds Q I r rv rp af
 cases SS cl ds S with
 |bad e=>rw[e] at af;exact False.elim af
 |old e=>rw[e] at af;exact aW pins σ H s P α S vs us ds Q I r rv rp af
 |obj C B ed h1 h2 e =>
  rw[e] at af
  subst ed
  obtain⟨v,w,u,x,rfl,rfl,p,p',q,q'⟩:=gI rp rv
  simp only[Rep] at p'
  obtain⟨rfl,_⟩:=p'
  cases (show x=Value.ref B from q')
  obtain⟨a,rfl,ha⟩:=iE I r p q
  exact PySem.W.kia_one (dD (hK.ex C h1)) I.kIn ha (hK.one C h1 B h2) (fun z=>nomatch z) fun tk=>⟨.bl _,H,I.tok tk,rfl,xr af r (by simp only[Rep])⟩
 |ve C ed h1 e =>
  rw[e] at af
  subst ed
  obtain⟨v,w,u,x,rfl,rfl,p,p',q,q'⟩:=gI rp rv
  simp only[Rep] at p'
  subst p'
  cases (show x=Value.type "ValueError" from q')
  obtain⟨a,rfl,ha⟩:=iE I r p q
  exact PySem.W.kia_one (dD (hK.ex C h1)) I.kIn ha (hK.ve C h1) (fun z=>nomatch z) fun tk=>⟨.bl _,H,I.tok tk,rfl,xr af r (by simp only[Rep])⟩
def MtD (X:Cx)(id:String)(g:D→List D→Sto→Res D):Prop:=
 ∀ (pins:List (Addr × Obj)) (σ : _L.St) (H:Hp) (s:Shared) (P:Hp) (α : List Addr) (S:Sto) (v:V) (vv:Value) (vs:List V) (us:List Value) (a:D) (ds:List D) (Q:VK),Inv X pins σ H s→Rel X.K H P α S→qK v vv→Rep X.K P α a v→qN vs us→qE X.K P α ds vs→qU X P α (g a ds S) Q →
  wpAny (model X.prog X.w) X.A (call (.builtin id) (vv::us)) (EP X pins σ Q) X.xe s
def dBm (T:String)(g:D→List D→Sto→Res D)(fo:DE)(fa:DA):DE:=fun env S=>(fo env S).bind fun a S1=>if (tyD a S1 == some T)=true then (fa env S1).bind fun ds S2=>g a ds S2 else .bad
theorem TM {H P:Hp}{α : List Addr}{S:Sto}{a:D}{v:V}{T:String}(r:Rel X.K H P α S)(p:Rep X.K P α a v)(h:tyD a S=some T)(hT:T = "list" ∨ T = "dict" ∨ T = "int" ∨ T = "str"):tyV X.K T v H:=by
 cases a with
 |int i=>cases h;simp only[Rep] at p;subst p;rfl
 |str x=>cases h;simp only[Rep] at p;subst p;rfl
 |lst xs =>
  cases h
  simp only[Rep] at p
  obtain⟨b,vs,rfl,q,t⟩:=p
  exact .inl ⟨rfl,vs,(xG r.sub q).l⟩
 |dct0 =>
  cases h
  simp only[Rep] at p
  obtain⟨b,rfl,q⟩:=p
  exact .inr (.inr (.inl ⟨rfl,.inl ⟨[],r.sub _ _ q⟩⟩))
 |loc i =>
  simp only[Rep] at p
  obtain⟨b,rfl,q⟩:=p
  rcases mV (f:=fun _=>some "list") (g:=fun _=>some "dict") h with⟨xs,hS,h⟩|⟨kvs,hS,h⟩
  ·cases h
   obtain⟨vs,z,t⟩:=r.at' i b _ q hS
   exact .inl ⟨rfl,vs,SqL.of z⟩
  ·cases h
   obtain⟨vs,z,t⟩:=r.at' i b _ q hS
   exact .inr (.inr (.inl ⟨rfl,.inl ⟨vs,z⟩⟩))
 |non=>cases h;exact absurd hT (by decide)
 |bl b=>cases h;exact absurd hT (by decide)
 |tup xs=>cases h;exact absurd hT (by decide)
 |_=>exact nn h
variable {o e:Expr}{es:List Expr}{fo:DE}{fa:DA}{name:Str}{apos cpos:Pos}{T id:String}{g:D→List D→Sto→Res D}
theorem GG {P:Hp}{α : List Addr}{a:D}{S:Sto}{β : Type}{k:Res β}{Ok:β→Sto→Prop}(h:qJ X P α (if (tyD a S == some T)=true then k else .bad) Ok):tyD a S=some T∧qJ X P α k Ok:=by
 by_cases z:(tyD a S == some T)=true
 ·rw[if_pos z] at h;exact⟨beq_iff_eq.mp z,h⟩
 ·rw[if_neg z] at h;exact False.elim h
theorem N8 (pa:PlainAttrs T)(slot:Slot T name id)(hty:typeOf (.builtin id)=pure (.type "method_descriptor"))(hT:T = "list" ∨ T = "dict" ∨ T = "int" ∨ T = "str")(hm:MtD X id g)(ho:PE X o (tD X fo))(ha:PA X (e::es) (tDA X fa))
  (hbase:attributeBase o name X.env (eval o X.env)=eval o X.env:=by rfl)
  (hfew:((backTo cpos (starEach (e::es) X.env)).all (fun x=>!x.1)&&(backToKw cpos (keywordEach [] X.env)).all (fun x=>x.1.isSome)
   && decide ((e::es).length+([]:List Keyword).length+(if ([] : List Keyword).isEmpty then 0 else 1)<30))=true:=by rfl)
  (hline:(apos.endLine == cpos.line)=true:=by rfl) (hs:starEach (e::es) X.env=(false,eval e X.env)::starEach es X.env:=by rfl) (hplain:(backTo cpos (starEach es X.env)).any (·.1)=false:=by rfl) :
  PE X (.Call (.Attribute o name apos) (e::es) [] cpos) (tD X (dBm T g fo fa)):=by
 intro pins s σ H Q I h
 obtain⟨P,α,env,S,r,re,af⟩:=h
 refine wpAny_Call_method_late hbase hfew hline rfl (thn (xC ho I r re af) fun vv s1 ⟨v,H1,P1,α1,d,S1,G1,af1⟩=>?_)
 obtain⟨ht,af2⟩:=GG af1
 obtain⟨h1,h2⟩:=TL G1.inv G1.val (TM G1.rel G1.rep ht hT)
 refine⟨T,id,pa,slot,hty,h1,h2,?_⟩
 have hA:=wH ha G1.inv G1.rel G1.env (P:=P1) (α:=α1) (Ok:=OkV X P1 α1 Q) (qU.base G1.same G1.pre (r:=(fa env S1).bind fun ds S2=>g d ds S2) af2) cpos
 rw[hs] at hA ⊢
 refine Calls.callWith_builtin (by show (false||(backTo cpos (starEach es X.env)).any (·.1))=false;rw[hplain] <;> rfl) (Calls.evalArgs_plain ?_)
 exact thn hA fun us s2 ⟨vs,H2,P2,α2,ds,S2,I2,rv,r2,re2,rp2,e1,e2,af3⟩=>hm pins σ H2 s2 P2 α2 S2 v vv vs us d ds Q I2 r2 G1.val (Rep.mono e1 e2 _ _ G1.rep) rv rp2 (qU.base e1 e2 af3)
def wJ:D→List D→Sto→Res D:=fun a ds S=>match a,ds with
 |.loc i,[d]=>match S[i]? with
  |some (.lst xs)=>if xs.length<lim then .ok .non (S.set i (.lst (xs++[d]))) else .bad
  |_=>.bad
 |_,_=>.bad
inductive ApV (a:D)(ds:List D)(S:Sto):Prop
 |bad (e:wJ a ds S=.bad)
 |of (i:Nat) (d:D) (xs:List D) (ea:a=.loc i) (ed:ds=[d]) (hS:S[i]? = some (.lst xs)) (hl:xs.length<lim) (e:wJ a ds S=.ok .non (S.set i (.lst (xs++[d]))))
theorem apV (a:D)(ds:List D)(S:Sto):ApV a ds S:=by
 cases a with
 |loc i =>
  cases ds with
  |nil=>exact .bad rfl
  |cons d ds =>
   cases ds with
   |cons _ _=>exact .bad rfl
   |nil =>
    have z:wJ (.loc i) [d] S=(match S[i]? with|some (.lst xs)=>(if xs.length<lim then .ok .non (S.set i (.lst (xs++[d]))) else .bad)|_=>.bad):=rfl
    cases hS:S[i]? with
    |none=>rw[hS] at z;exact .bad z
    |some m =>
     rw[hS] at z
     cases m with
     |lst xs =>
      by_cases hl:xs.length<lim
      ·exact .of i d xs rfl rfl hS hl (z.trans (if_pos hl))
      ·exact .bad (z.trans (if_neg hl))
     |_=>exact .bad z
 |_=>exact .bad rfl
theorem o6:MtD X "list.append" wJ:=by
 intro pins σ H s P α S v vv vs us a ds Q I r rv p rvs rps af
 cases apV a ds S with
 |bad e=>rw[e] at af;exact False.elim af
 |of i d xs ea ed hS hl e =>
  rw[e] at af
  subst ea ed
  obtain⟨w,u,rfl,rfl,p',q'⟩:=vC rps rvs
  simp only[Rep] at p
  obtain⟨b,rfl,q⟩:=p
  obtain⟨ws,z,t⟩:=r.at' i b _ q hS
  refine oA pins s σ H (.ref b) [w] vv [u] Q I rv (.cons q' .nil) ⟨b,ws,w,rfl,rfl,z,by rw[← t.length,← zO];exact hl,?_⟩
  exact xr af (r.put (m':=.lst (xs++[d])) q hS (by intro z;cases z) ⟨ws++[w],qS,t.append (.cons p' .nil)⟩) (by simp only[Rep])
end
end _D
end
section
namespace _D
open PySem PySem.Spec PyProof.Rows _L
def yL:D→Option Key
 |.int i=>some (.inl i)
 |.str x=>some (.inr x)
 |_=>none
def wF (kvs:List (Key × D))(k:Key):Option D:=(kvs.find? fun kv=>decide (kv.1=k)).map (·.2)
def wD (kvs:List (Key × D))(k:Key)(v:D):List (Key × D):=
 if (kvs.any fun kv=>decide (kv.1=k))=true then kvs.map (fun kv=>if kv.1=k then (kv.1,v) else kv) else kvs++[(k,v)]
section
variable {K:PySem.W.Frag}{P:Hp}{α : List Addr}
theorem mS {kvs:List (Key × D)}{vs:List (Key × V)}(r:KVs K P α kvs vs):kvs.length=vs.length:=Paired.length r
theorem rT {k:Key}:∀ {kvs:List (Key × D)} {vs:List (Key × V)},KVs K P α kvs vs→(∀ d,wF kvs k=some d→∃ v,yQ vs k=some v∧Rep K P α d v)∧(wF kvs k=none→yQ vs k=none)
 |_,_,.nil=>⟨fun d h=>by simp[wF] at h,fun _=>rfl⟩
 |(k1,d1)::kvs,(k2,v2)::vs,.cons z t=>by
  obtain⟨e,r⟩:=z
  dsimp only at e r
  subst e
  obtain⟨h1,h2⟩:=rT (k:=k) t
  unfold wF yQ at *
  by_cases hk:k1=k
  ·subst hk
   constructor
   ·intro d h
    simp at h
    subst h
    exact⟨v2,by simp,r⟩
   ·intro h
    simp at h
  ·constructor
   ·intro d h
    rw[List.find?_cons_of_neg (by simpa using hk)] at h ⊢
    exact h1 d h
   ·intro h
    rw[List.find?_cons_of_neg (by simpa using hk)] at h ⊢
    exact h2 h
theorem UC {k:Key}{kvs:List (Key × D)}{vs:List (Key × V)}(h:KVs K P α kvs vs):(kvs.any fun kv=>decide (kv.1=k))=(vs.any fun kv=>decide (kv.1=k)):=by
 induction h with
 |nil=>rfl
 |cons z t ih=>rw[List.any_cons,List.any_cons,ih,z.1]
theorem UE {k:Key}{d:D}{v:V}(q:Rep K P α d v){kvs:List (Key × D)}{vs:List (Key × V)}(h:KVs K P α kvs vs):KVs K P α (kvs.map fun kv=>if kv.1=k then (kv.1,d) else kv) (vs.map fun kv=>if kv.1=k then (kv.1,v) else kv):=by
 induction h with
 |nil=>exact .nil
 |cons z t ih =>
  rw[List.map_cons,List.map_cons]
  refine .cons ?_ ih
  rw[← z.1]
  split
  ·exact⟨rfl,q⟩
  ·exact z
theorem UD {k:Key}{d:D}{v:V}(q:Rep K P α d v){kvs:List (Key × D)}{vs:List (Key × V)}(h:KVs K P α kvs vs):KVs K P α (kvs++[(k,d)]) (vs++[(k,v)]):=by
 induction h with
 |nil=>exact .cons ⟨rfl,q⟩ .nil
 |cons z t ih=>exact .cons z ih
theorem rS {k:Key}{d:D}{v:V}(q:Rep K P α d v){kvs:List (Key × D)}{vs:List (Key × V)}(r:KVs K P α kvs vs):KVs K P α (wD kvs k d) (yN vs k v):=by
 unfold wD yN
 rw[UC r]
 split
 ·exact UE q r
 ·exact UD q r
theorem iR {d:D}{k:Key}{v:V}(h:yL d=some k)(r:Rep K P α d v):v=kV k:=by
 cases d with
 |int i=>cases h;simp only[Rep] at r;exact r
 |str x=>cases h;simp only[Rep] at r;exact r
 |_=>cases h
end
section
variable {X:Cx}{o i e:Expr}{pos:Pos}{fo fi:DE}
def cE:DE:=fun _ S=>.ok (.loc S.length) (S++[.dct []])
theorem GP:PE X (.Dict [] [] pos) (tD X cE):=by
 refine peW dQ fun σ H Q ⟨P,α,env,S,r,re,af⟩ p hp=>?_
 have hpre:α<+:α++[p]:=List.prefix_append _ _
 have r1:=r.new (o:=.dK []) (m:=.dct []) hp ⟨[],qS,.nil⟩
 refine af _ _ _ _ r1 (qF.refl _) hpre ?_
 simp only[Rep]
 exact⟨p,rfl,by rw[← r.len];simp⟩
def cF:DE:=fun _ S=>.ok .dct0 S
theorem V6:PE X (.Dict [] [] pos) (tD X cF):=by
 refine peW dQ fun σ H Q ⟨P,α,env,S,r,re,af⟩ p hp=>?_
 obtain⟨r1,e1⟩:=r.pure (o:=.dK []) hp
 refine af _ _ _ α r1 e1 (List.prefix_refl _) ?_
 simp only[Rep]
 exact⟨p,rfl,qS⟩
def yG:G3:=fun o i d S=>match o with
 |.loc n=>match S[n]? with
  |some (.dct kvs)=>match yL i with
   |some k=>if kvs.length<lim then .ok () (S.set n (.dct (wD kvs k d))) else .bad
   |none=>.bad
  |_=>bM o i d S
 |_=>bM o i d S
inductive Set2V (a b d:D)(S:Sto):Prop
 |bad (e:yG a b d S=.bad)
 |old (e:yG a b d S=bM a b d S)
 |of (n:Nat) (kvs:List (Key × D)) (k:Key) (ea:a=.loc n) (hS:S[n]? = some (.dct kvs)) (hk:yL b=some k) (hl:kvs.length<lim) (e:yG a b d S=.ok () (S.set n (.dct (wD kvs k d))))
theorem D4 (a b d:D)(S:Sto):Set2V a b d S:=by
 cases a with
 |loc n =>
  have z:yG (.loc n) b d S=(match S[n]? with|some (.dct kvs)=>(match yL b with|some k=>(if kvs.length<lim then .ok () (S.set n (.dct (wD kvs k d))) else .bad)|none=>.bad)|_=>bM (.loc n) b d S):=rfl
  cases hS:S[n]? with
  |none=>rw[hS] at z;exact .old z
  |some m =>
   rw[hS] at z
   cases m with
   |dct kvs =>
    cases hk:yL b with
    |none=>rw[hk] at z;exact .bad z
    |some k =>
     rw[hk] at z
     by_cases hl:kvs.length<lim
     ·exact .of n kvs k rfl hS hk hl (z.trans (if_pos hl))
     ·exact .bad (z.trans (if_neg hl))
   |_=>exact .old z
 |_=>exact .old rfl
theorem MZ (hu:X.A.units+1<cLine):l7 X (nW X yG):=by
 intro pins s σ H o i v ov iv u Q I ro ri rv h
 obtain⟨P,α,S,a,b,d,r,pa,pb,pd,af⟩:=h
 cases D4 a b d S with
 |bad e=>rw[e] at af;exact False.elim af
 |old e =>
  rw[e] at af
  exact D5 pins s σ H o i v ov iv u Q I ro ri rv ⟨P,α,S,a,b,d,r,pa,pb,pd,af⟩
 |of n kvs k ea hS hk hl e =>
  rw[e] at af
  subst ea
  simp only[Rep] at pa
  obtain⟨p,rfl,q⟩:=pa
  obtain⟨vs,z,t⟩:=r.at' n p _ q hS
  cases iR hk pb
  cases (show ov=Value.ref p from ro)
  refine i6 hu I (fZ.k (v:=v) z (by rw[← mS t,← zO];exact hl)) ri rv fun s' I'=>⟨_,I',?_⟩
  exact af _ P α (r.put (m':=.dct (wD kvs k d)) q hS (by intro z;cases z) ⟨_,qS,rS pd t⟩) (qF.refl _) (List.prefix_refl _)
def RW:D→List D→Sto→Res D:=fun a ds S=>match a,ds with
 |.loc n,[i,x]=>match S[n]? with
  |some (.dct kvs)=>match yL i with
   |some k=>.ok ((wF kvs k).getD x) S
   |none=>.bad
  |_=>.bad
 |_,_=>.bad
def fF:D→List D→Sto→Res D:=fun a ds S=>match a,ds with
 |.lst xs,[.bl k]=>match x6 xs with
  |some bs=>.ok (.int (bs.countP (· == k):Nat)) S
  |none=>.bad
 |_,_=>.bad
def mO (k:Bool):List Bool→Option Nat
 |[]=>none
 |b::r=>if b=k then some 0 else (mO k r).map (· + 1)
def fG:D→List D→Sto→Res D:=fun a ds S=>match a,ds with
 |.lst xs,[.bl k]=>match (x6 xs).bind (mO k) with
  |some j=>.ok (.int j) S
  |none=>.bad
 |_,_=>.bad
theorem lR (k:Bool){bs:List Bool}{y:Value}(hy:y∈(bs.map Value.bool).toArray):PySem.MeetsSeq.EqGives y (.bool k) (isBoolOf k y):=by
 have hy':y∈bs.map Value.bool:=by rwa [List.mem_toArray] at hy
 obtain⟨b,_,rfl⟩:=List.mem_map.mp hy'
 exact fun prog w A E s Q h=>PySem.SeqAt.EqAt.bool_bool b k prog w E Q h
theorem sR (k:Bool)(bs:List Bool):(bs.map Value.bool).countP (isBoolOf k)=bs.countP (· == k):=by
 rw[List.countP_map]
 rfl
theorem aH {β : Type}{r:Res β}{P:Hp}{α : List Addr}{Ok:β→Sto→Prop}(e:r=.bad)(h:qJ X P α r Ok):False:=by
 rw[e] at h
 exact h
inductive BlV (a:D)(ds:List D):Prop
 |no (h:∀ (g:List D→Bool→Res D),(match a,ds with|.lst xs,[.bl k]=>g xs k|_,_=>.bad)=.bad)
 |of (xs:List D) (k:Bool) (ea:a=.lst xs) (ed:ds=[.bl k])
theorem blV (a:D)(ds:List D):BlV a ds:=by
 cases a with
 |lst xs =>
  cases ds with
  |nil=>exact .no fun _=>rfl
  |cons d ds =>
   cases ds with
   |cons _ _=>cases d <;> exact .no fun _=>rfl
   |nil =>
    cases d with
    |bl k=>exact .of xs k rfl rfl
    |_=>exact .no fun _=>rfl
 |_=>exact .no fun _=>rfl
theorem XG:MtD X "list.count" fF:=by
 intro pins σ H s P α S v vv vs us a ds Q I r rv p rvs rps af
 cases blV a ds with
 |no h=>exact(aH (X:=X) (r:=fF a ds S) (h _) af).elim
 |of xs k ea ed =>
  subst ea ed
  have af:qJ X P α (match x6 xs with|some bs=>Res.ok (D.int (bs.countP (· == k):Nat)) S|none=>.bad) (OkV X P α Q):=af
  cases hb:x6 xs with
  |none=>rw[hb] at af;exact False.elim af
  |some bs =>
   rw[hb] at af
   obtain⟨vx,ux,rfl,rfl,px,qx⟩:=vC rps rvs
   simp only[Rep] at px
   subst px
   cases (show ux=Value.bool k from qx)
   obtain⟨b,ws,its,n,rfl,sq,t,rvi,ht,hl,_⟩:=k8 I r p
   cases (show vv=Value.ref b from rv)
   have hi:=yX hb t rvi
   subst hi
   refine call_meets PySem.F.slot_list_count ⟨_,ht,rfl⟩ PySem.F.entry_list_count (PySem.F.args_list_count_2 _ _) (PySem.SeqAt.list_countAt b (bs.map Value.bool).toArray n none #[] (.bool k) (isBoolOf k)) ⟨ht,fun y hy=>(lR k hy).at _ _,?_⟩
   refine⟨.int _,H,I.tok _,⟨_,rfl⟩,?_⟩
   rw[show (bs.map Value.bool).toArray.toList=bs.map Value.bool from rfl,sR]
   exact xr af r (by simp only[Rep])
theorem rN {k:Bool}:∀ {bs:List Bool} {j:Nat},mO k bs=some j→∃ h:j<bs.length,bs[j]=k∧∀ m (hm:m<bs.length),m<j→bs[m]≠k
 |[],j,h=>by cases h
 |b::r,j,h=>by
  unfold mO at h
  by_cases hb:b=k
  ·rw[if_pos hb] at h
   cases h
   exact⟨by simp,by simpa using hb,fun m hm z=>absurd z (Nat.not_lt_zero _)⟩
  ·rw[if_neg hb] at h
   obtain⟨i,hi,rfl⟩:=Option.map_eq_some_iff.mp h
   obtain⟨h1,h2,h3⟩:=rN hi
   refine⟨by simp;omega,by simpa using h2,fun m hm hl=>?_⟩
   cases m with
   |zero=>simpa using hb
   |succ m=>simpa using h3 m (by simp at hm;omega) (by omega)
theorem XH:MtD X "list.index" fG:=by
 intro pins σ H s P α S v vv vs us a ds Q I r rv p rvs rps af
 cases blV a ds with
 |no h=>exact(aH (X:=X) (r:=fG a ds S) (h _) af).elim
 |of xs k ea ed =>
  subst ea ed
  have af:qJ X P α (match (x6 xs).bind (mO k) with|some j=>Res.ok (D.int j) S|none=>.bad) (OkV X P α Q):=af
  cases hj:(x6 xs).bind (mO k) with
  |none=>rw[hj] at af;exact False.elim af
  |some j =>
   rw[hj] at af
   obtain⟨bs,hb,hi⟩:=Option.bind_eq_some_iff.mp hj
   obtain⟨vx,ux,rfl,rfl,px,qx⟩:=vC rps rvs
   simp only[Rep] at px
   subst px
   cases (show ux=Value.bool k from qx)
   obtain⟨b,ws,its,n,rfl,sq,t,rvi,ht,hl,hz⟩:=k8 I r p
   cases (show vv=Value.ref b from rv)
   have hi':=yX hb t rvi
   subst hi'
   obtain⟨h1,h2,h3⟩:=rN hi
   have hlen:bs.length≤sizeLine:=by
    have e1:=t.length
    have e2:=rvi.length
    rw[List.length_map] at e2
    rw[zO] at hz
    omega
   refine call_meets PySem.F.slot_list_index ⟨_,ht,rfl⟩ PySem.F.entry_list_index (PySem.F.args_list_index_2 _ _) (PySem.MeetsSeq.list_index b (bs.map Value.bool).toArray n (.bool k) (isBoolOf k) (fun y hy=>lR k hy) j (by simpa using h1) ?_ ?_ ?_) ⟨ht,?_⟩
   ·rw[sizeLine_eq] at hlen;omega
   ·simp[isBoolOf,h2]
   ·intro m hm hl'
    have hm':m<bs.length:=by simpa using hm
    have:=h3 m hm' hl'
    simp[isBoolOf,this]
   ·exact⟨.int _,H,I.tok _,⟨_,rfl⟩,xr af r (by simp only[Rep])⟩
end
end _D
end
section
namespace _D
open PySem PySem.Spec PyProof.Rows _L
def uF (S:Sto):Sto:=S.map fun _=>.dead
def WR:D→Bool
 |.non=>true
 |.bl _=>true
 |.int _=>true
 |.str _=>true
 |_=>false
def mapO {β γ:Type}(f:β→Option γ) : List β → Option (List γ)
 |[]=>some []
 |b::r=>match f b,mapO f r with
  |some c,some cs=>some (c::cs)
  |_,_=>none
def wV:Nat→Sto→D→Option D
 |n+1,S,.tup xs=>(mapO (wV n S) xs).map .tup
 |n+1,S,.lst xs=>(mapO (wV n S) xs).map .lst
 |n+1,S,.loc i=>match S[i]? with
  |some (.lst xs)=>(mapO (wV n S) xs).map .lst
  |_=>none
 |_,_,.non=>some .non
 |_,_,.bl b=>some (.bl b)
 |_,_,.int i=>some (.int i)
 |_,_,.str x=>some (.str x)
 |_,_,.ty n=>some (.ty n)
 |_,_,.obj a=>some (.obj a)
 |_,_,.dct0=>some .dct0
 |_,_,.exn c=>some (.exn c)
 |_,_,_=>none
def vJ (H P:Hp)(α : List Addr):Hp:=fun b=>if (P b).isSome then P b else if b∈α then H b else none
section
variable {K:PySem.W.Frag}{H P:Hp}{α : List Addr}{S:Sto}
theorem uR (H P:Hp)(α : List Addr):qF P (vJ H P α):=fun b o e=>by
 unfold vJ
 rw[e]
 rfl
theorem ZT (r:Rel K H P α S):qF (vJ H P α) H:=fun b o e=>by
 unfold vJ at e
 split at e
 ·exact r.sub b o e
 ·split at e
  ·exact e
  ·cases e
theorem mJ {a:Addr}(h:P a=none)(ha:a∈α):vJ H P α a=H a:=by
 unfold vJ
 rw[h]
 simp[ha]
theorem Rel.frz (r:Rel K H P α S):Rel K H (vJ H P α) α (uF S) where
 tb:=r.tb.keep (fun _ _ q _=>q) fun b u q _ p n=>⟨by unfold vJ;rw[p];simp[n],n⟩
 sub:=ZT r
 len:=by rw[r.len];simp[uF]
 nd:=r.nd
 sep:=fun i a o h1 h2 h3=>by
  unfold uF at h2
  rw[List.getElem?_map] at h2
  cases q:S[i]? with
  |none=>rw[q] at h2;cases h2
  |some m=>rw[q] at h2;cases h2;exact absurd rfl h3
 at':=fun i a o h1 h2=>by
  unfold uF at h2
  rw[List.getElem?_map] at h2
  cases q:S[i]? with
  |none=>rw[q] at h2;cases h2
  |some m=>rw[q] at h2;cases h2;trivial
 own:=r.own
theorem Rel.unfrz {H' P1:Hp}{α1:List Addr}{S1:Sto}(r:Rel K H P α S)(r1:Rel K H' P1 α1 S1)(e:qF (vJ H P α) P1):Rel K H' P α S:=by
 have mem:∀ i a,α[i]? = some a→a∈α:=fun i a h=>List.mem_of_getElem? h
 have kp:∀ (i:Nat) (a:Addr) (o:MO) (u:HO),α[i]? = some a→S[i]? = some o→o≠MO.dead→H a=some u→H' a=some u:=fun i a o u h1 h2 h3 h4 =>
  r1.sub a u (e a u (by rw[mJ (r.sep i a o h1 h2 h3) (mem i a h1)];exact h4))
 refine⟨fun x hx c T h=>let ⟨ps,e,_,_,ok,cd⟩:=r1.tb x hx c T h;let ⟨_,_,pn,an,_,_⟩:=r.tb x hx c T h;⟨ps,e,pn,an,ok,cd⟩,(uR H P α).trans (e.trans r1.sub),r.len,r.nd,r.sep,fun i a o h1 h2=>?_,fun i a h1=>?_⟩
 ·have m:=r.at' i a o h1 h2
  cases o with
  |dead=>trivial
  |lst ds=>obtain⟨vs,q,t⟩:=m;exact⟨vs,kp i a _ _ h1 h2 (by intro z;cases z) q,t⟩
  |dct kvs=>obtain⟨vs,q,t⟩:=m;exact⟨vs,kp i a _ _ h1 h2 (by intro z;cases z) q,t⟩
  |ins C fs=>obtain⟨dx,vs,q,t⟩:=m;exact⟨dx,vs,kp i a _ _ h1 h2 (by intro z;cases z) q,t⟩
 ·have h:=r.own i a h1
  cases q:H a with
  |none=>exact absurd q h
  |some u =>
   have z:∃ u',vJ H P α a=some u':=by
    cases q2:P a with
    |none=>exact⟨u,by rw[mJ q2 (mem i a h1)];exact q⟩
    |some u'=>exact⟨u',uR H P α a u' q2⟩
   obtain⟨u',z⟩:=z
   rw[r1.sub a u' (e a u' z)]
   intro w;cases w
set_option tactic.hygienic true in
theorem qE.mapO {f:D→Option D}{P':Hp}(h:∀ d t v,f d=some t→Rep K P α d v→Rep K P' α t v):∀ {ds ts:List D} {vs:List V},_D.mapO f ds=some ts→qE K P α ds vs→qE K P' α ts vs
 |[],ts,vs,e,r=>by cases e;rw[r.nil_inv];exact .nil
 |d::ds,ts,vs,e,r=>by
  obtain⟨w,ws,rfl,r1,r2⟩:=r.cons_inv
  unfold _D.mapO at e
  split at e
  ·rename_i c cs h1 h2
   cases e
   exact .cons (h d c w h1 r1) (qE.mapO h h2 r2)
  ·cases e
theorem t9 (r:Rel K H P α S):∀ (n:Nat) (d t:D) (v:V),wV n S d=some t→Rep K P α d v→Rep K (vJ H P α) α t v:=by
 have mono:∀ (d:D) (v:V),Rep K P α d v→Rep K (vJ H P α) α d v:=fun d v=>Rep.mono (uR H P α) (List.prefix_refl _) d v
 intro n
 induction n with
 |zero =>
  intro d t v h p
  cases d <;> first|(cases h;exact mono _ _ p)|exact nn h
 |succ n ih =>
  intro d t v h p
  cases d with
  |tup xs =>
   obtain⟨ts,h1,rfl⟩:=Option.map_eq_some_iff.mp h
   simp only[Rep] at p ⊢
   obtain⟨a,vs,rfl,q,t⟩:=p
   exact⟨a,vs,rfl,yP (uR H P α) q,qE.mapO (fun d t v=>ih d t v) h1 t⟩
  |lst xs =>
   obtain⟨ts,h1,rfl⟩:=Option.map_eq_some_iff.mp h
   simp only[Rep] at p ⊢
   obtain⟨a,vs,rfl,q,t⟩:=p
   exact⟨a,vs,rfl,xG (uR H P α) q,qE.mapO (fun d t v=>ih d t v) h1 t⟩
  |loc i =>
   have h:(match S[i]? with|some (.lst xs)=>(_D.mapO (wV n S) xs).map D.lst|_=>none)=some t:=h
   cases hS:S[i]? with
   |none=>rw[hS] at h;exact nn h
   |some m =>
    rw[hS] at h
    cases m with
    |lst xs =>
     obtain⟨ts,h1,rfl⟩:=Option.map_eq_some_iff.mp h
     simp only[Rep] at p ⊢
     obtain⟨a,rfl,q⟩:=p
     obtain⟨vs,z,t⟩:=r.at' i a _ q hS
     refine⟨a,vs,rfl,.inl (.inl ?_),qE.mapO (fun d t v=>ih d t v) h1 t⟩
     rw[mJ (r.sep i a _ q hS (by intro z;cases z)) (List.mem_of_getElem? q)]
     exact z
    |_=>exact nn h
  |fd ks ds=>exact nn h
  |clo a vs ds=>exact nn h
  |_=>cases h;exact mono _ _ p
theorem QU {P':Hp}{α' : List Addr}{d:D}{v:V}(h:WR d=true)(p:Rep K P α d v):Rep K P' α' d v:=by
 cases d with
 |non=>simpa only [Rep] using p
 |bl b=>simpa only [Rep] using p
 |int i=>simpa only [Rep] using p
 |str x=>simpa only [Rep] using p
 |_=>cases h
end
def p7:Nat:=20
def nP (r:Res D)(S:Sto):Res D:=match r with
 |.ok d _=>if WR d then .ok d S else .bad
 |_=>.bad
theorem fL {X:Cx}{H P:Hp}{α : List Addr}{S:Sto}{r:Res D}{Q:VK}(rl:Rel X.K H P α S)(af:qU X P α (nP r S) Q):qU X (vJ H P α) α r Q:=by
 cases r with
 |ok d S' =>
  obtain⟨ha,af⟩:=xM (X:=X) af
  exact fun v H' P' α' r' e1 e2 rp=>af v H' P α (rl.unfrz r' e1) (qF.refl _) (List.prefix_refl _) (QU ha rp)
 |ex c x S'=>exact False.elim af
 |bad=>exact False.elim af
section
variable {X:Cx}
def v7 (g:G2):G2:=fun a b S=>match wV p7 S a,wV p7 S b with
 |some x,some y=>nP (g x y (uF S)) S
 |_,_=>.bad
set_option tactic.hygienic true in
theorem OpD.look {f:Value→Value→Sem Value}{g:G2}(h:OpD X f g):OpD X f (v7 g):=by
 intro pins σ H s P α S v u vv uu a b Q I r rv ru pa pb af
 unfold v7 at af
 split at af
 ·rename_i x y hx hy
  exact h pins σ H s _ α (uF S) v u vv uu x y Q I r.frz rv ru (t9 r p7 a x v hx pa) (t9 r p7 b y u hy pb) (fL r af)
 ·exact False.elim af
def uG (F:DF):DF:=fun ds S=>match mapO (wV p7 S) ds with
 |some ts=>nP (F ts (uF S)) S
 |none=>.bad
variable {cm:Bool}{k:Nat}{f:Addr}{fd:FuncData}{ps:List Str}{F:DF}{x:Str}{p pos:Pos}{e:Expr}{es:List Expr}{fa:DA}{n:Nat}
set_option tactic.hygienic true in
theorem Z9 (G:FnX X.prog X.w X.K X.mg X.base cm k f fd ps (spD X.K n F))(hr:RoomC cm k X.A)(hF:Fn1 X)(hg:Gl X x)(hm:X.mg x=some (.ref f))(hk:PySem.W.keepIn X.K (.ref f)=true)(hb:yV X.K fd ps [])
  (ha:PA X (e::es) (tDA X fa)) (hdb:(x == ("__debug__" : Str))=false:=by decide) (he:starEach (e::es) X.env=(false,eval e X.env)::starEach es X.env:=by rfl) (hpl:(backTo pos (starEach es X.env)).any (·.1)=false:=by rfl) :
  PE X (.Call (.Name x p) (e::es) [] pos) (tD X (qO n (uG F) fa)):=by
 intro pins s σ H Q I h
 obtain⟨P,α,env,S,r,re,af⟩:=h
 refine wpAny_Call_Name_kw (vN I hg hm ?_ hdb)
 refine PySem.W.callWith_K (h₀:=X.base) I.ok.mod.kin hk (thn (wH ha I r re af pos) fun us s1 ⟨vs,H1,P1,α1,ds,S1,I1,rv,r1,re1,rp,e1,e2,af1⟩=>⟨I1.kIn,?_⟩) he hpl
 obtain⟨hn,af2⟩:=p6 (env:=env) (S:=S) af1
 have af3:=qU.base e1 e2 af2
 unfold uG at af3
 split at af3
 ·rename_i ts ht
  have rp':=qE.mapO (fun d t v=>t9 r1 p7 d t v) ht rp
  have hl:ts.length=n:=by rw[rp'.length,← rp.length];exact hn
  exact eS G hr hb hF I1 r1.frz rv rp' hl (fL r1 af3)
 ·exact False.elim af3
end
end _D
end
section
namespace _D
open PySem PySem.Spec PyProof.Rows _L
section
variable {X:Cx}{a b c e:Expr}{pos:Pos}{fa fe:DE}
def RY (i:Nat)(g:G2)(fe:DE):DS:=fun env S=>match env[i]? with
 |some (some x)=>(fe env S).toS env fun y S1=>(g x y S1).toS env fun z S2=>.nx (env.set i (some z)) S2
 |_=>.bad
def RU:G2:=i2 (fun _ _=>true) fun i j=>.int (i+j)
def US (i j k:Nat)(env:qD)(S1:Sto):List D→Out
 |[x,y,z]=>.nx (((env.set i (some x)).set j (some y)).set k (some z)) S1
 |_=>.bad
def b7 (i j k:Nat)(f:DA):DS:=fun env S=>(f env S).toS env fun ds S1=>US i j k env S1 ds
theorem VM {i j k:Nat}{x y z:Str}{f:DA}{px py pz pt:Pos} {kt k2 pt2} (hc:X.calm=true) (hN:X.N.Nodup) (ha:PA X [a,b,c] (tDA X f)) (hi:X.N[i]? = some x:=by rfl) (hj:X.N[j]? = some y:=by rfl) (hk:X.N[k]? = some z:=by rfl) (hij:i≠j:=by decide) (hik:i≠k:=by decide) (hjk:j≠k:=by decide)
  (hx:X.env.scope.names.lookup x=some .local:=by rfl) (hy:X.env.scope.names.lookup y=some .local:=by rfl) (hz:X.env.scope.names.lookup z=some .local:=by rfl)
  (hw:swappedStores [.Tuple [.Name x px,.Name y py,.Name z pz] kt pt] (.Tuple [a,b,c] k2 pt2) X.env=pure (some [x,y,z]):=by rfl)
  (hs:swapsWithSole [.Tuple [.Name x px,.Name y py,.Name z pz] kt pt] (.Tuple [a,b,c] k2 pt2) pos.line X.env=pure false:=by rfl) :
  PS X (.Assign [.Tuple [.Name x px,.Name y py,.Name z pz] kt pt] (.Tuple [a,b,c] k2 pt2) pos) (tDS X (b7 i j k f)):=by
 intro pins s σ H D I h
 obtain⟨P,α,env,S,r,re,af⟩:=h
 rw[exec_Assign_arm]
 refine wpAny_bind (wpAny_standAt ?_)
 rw[hs]
 refine wpAny_bind (wpAny_pure ?_)
 rw[if_neg (by decide)]
 refine wpAny_bind (Tuple_ (thn (rB ha I r re af _) fun us s1 ⟨vs,H1,P1,α1,ds,S1,I1,rv,r1,re1,rp,e1,e2,q⟩=>?_))
 match ds,rp,q with
 |[],_,q=>exact False.elim q
 |[_],_,q=>exact False.elim q
 |[_,_],_,q=>exact False.elim q
 |_::_::_::_::_,_,q=>exact False.elim q
 |[d1,d2,d3],rp,q =>
  obtain⟨v1,t1,rfl,p1,rp⟩:=rp.cons_inv
  obtain⟨v2,t2,rfl,p2,rp⟩:=rp.cons_inv
  obtain⟨v3,t3,rfl,p3,rp⟩:=rp.cons_inv
  cases rp.nil_inv
  obtain⟨u1,u2,u3,rfl,q1,q2,q3⟩:∃ u1 u2 u3,us=[u1,u2,u3]∧qK v1 u1∧qK v2 u2∧qK v3 u3:=by
   cases rv with
   |cons z1 rv=>cases rv with
    |cons z2 rv=>cases rv with
     |cons z3 rv=>cases rv;exact⟨_,_,_,rfl,z1,z2,z3⟩
  refine wpAny_newObj_type ?_ (by show 3≤sizeLine;decide)
  have I2:Inv X pins σ H1 { s1 with heap:=s1.heap.push { cls:=.type "tuple",data:=.seq [u1,u2,u3].toArray } }:=I1.kept (t':=s1.toks) fun b o e=>Heap.get?_push_of_some _ e
  rw[hw]
  refine wpAny_bind (wpAny_pure ?_)
  show wpAny (model X.prog X.w) X.A (do rule "assign.swapped-stores";let items ← unpackItems (.ref s1.heap.objs.size) 3 none;assignInOrder [fun v=>bindName X.env z v,fun v=>bindName X.env y v,fun v=>bindName X.env x v] items.reverse;pure Flow.next) _ _ _
  refine wpAny_bind (wpAny_rule (wpAny_bind (unpackItems_tuple (items:=#[u1,u2,u3]) (I.ok.hd hc) (IsTup.new s1.heap _) fun h' hx'=>?_)))
  have I3:=I2.kept (h':=h') (t':=s1.toks) fun b o e=>hx' b o (Nat.ne_of_lt (Heap.lt_size e)) e
  show wpAny _ _ (assignInOrder [fun v=>bindName X.env z v,fun v=>bindName X.env y v,fun v=>bindName X.env x v] [u3,u2,u1] >>= fun _=>pure Flow.next) _ _ _
  refine wpAny_bind (assignInOrder_cons (wpAny_bindName (wW I3 hN hk (.inl hz) q3 (fun s2 I4=>?_) (.inr hz))))
  refine assignInOrder_cons (wpAny_bindName (wW I4 hN hj (.inl hy) q2 (fun s3 I5=>?_) (.inr hy)))
  refine assignInOrder_cons (wpAny_bindName (wW I5 hN hi (.inl hx) q1 (fun s4 I6=>assignInOrder_nil (wpAny_pure ?_)) (.inr hx)))
  rw[List.set_comm _ _ (Ne.symm hij),List.set_comm _ _ (Ne.symm hik),List.set_comm _ _ (Ne.symm hjk)] at I6
  exact⟨_,H1,I6,q _ H1 P1 α1 r1 (((re1.set i p1).set j p2).set k p3) (qF.refl _) (List.prefix_refl _)⟩
def wO (xs:List D)(lo hi:Option Int):List D:=(xs.drop (_H.sIx xs.length 0 lo)).take (_H.sIx xs.length xs.length hi-_H.sIx xs.length 0 lo)
abbrev DO:=qD→Sto→Res (Option Int)
def OkO (X:Cx)(P:Hp)(α : List Addr)(Q:Option Int→Hp→Prop)(o:Option Int)(S':Sto):Prop:=∀ H' P' α',Rel X.K H' P' α' S'→qF P P'→α<+:α'→Q o H'
def tDO (X:Cx)(f:DO):TO:=fun σ H Q=>∃ P α env S,Rel X.K H P α S∧qW X.K P α σ env∧qJ X P α (f env S) (OkO X P α Q)
def jY:DO:=fun _ S=>.ok none S
def xX (f:DE):DO:=fun env S=>(f env S).bind fun d S1=>match d with
 |.int i=>.ok (some i) S1
 |_=>.bad
theorem VG:PO X none (tDO X jY):=fun pins s σ H Q I ⟨P,α,env,S,r,re,af⟩=>UZ pins s σ H Q I (af H P α r (qF.refl _) (List.prefix_refl _))
theorem VH (he:PE X e (tD X fe)):PO X (some e) (tDO X (xX fe)):=by
 intro pins s σ H Q I h
 obtain⟨P,α,env,S,r,re,af⟩:=h
 refine J0 (te:=tD X fe) he pins s σ H Q I ⟨P,α,env,S,r,re,?_⟩
 have af':qJ X P α ((fe env S).bind fun d S1=>match d with|.int i=>.ok (some i) S1|_=>.bad) (OkO X P α Q):=af
 cases q:fe env S with
 |bad=>rw[q] at af';exact af'
 |ex c x S'=>rw[q] at af';exact af'
 |ok d S1 =>
  rw[q] at af'
  intro v H1 P1 α1 r1 e1 e2 rp
  cases d with
  |int i=>exact⟨i,w8 rp,af' H1 P1 α1 r1 e1 e2⟩
  |_=>exact False.elim af'
theorem qE.cut {K:PySem.W.Frag}{P:Hp}{α : List Addr}{ds:List D}{vs:List V}(r:qE K P α ds vs)(lo hi:Option Int):qE K P α (wO ds lo hi) (gW vs lo hi):=by
 unfold wO gW
 rw[r.length]
 exact(r.drop _).take _
def gSl (d:D)(lo hi:Option Int)(S:Sto):Res D:=match d with
 |.lst xs=>.ok (.lst (wO xs lo hi)) S
 |.loc i=>match S[i]? with
  |some (.lst xs)=>.ok (.lst (wO xs lo hi)) S
  |_=>.bad
 |.tup xs=>.ok (.tup (wO xs lo hi)) S
 |_=>.bad
def dSl (fe:DE)(fl fh:DO):DE:=fun env S=>(fe env S).bind fun d S1=>(fl env S1).bind fun lo S2=>(fh env S2).bind fun hi S3=>gSl d lo hi S3
end
end _D
end
section
namespace _D
open PySem PySem.Spec PyProof.Rows _L _H
section
variable {prog:Program}{w:World}{A:Around}{E:Value→Shared→Prop}{s:Shared}
theorem gR {t sl:Addr}{items:Array Value}{vl vu:Value}{lo hi:Option Int}{Q:Value→Shared→Prop}(ht:IsTup s.heap t items)(hs:s.heap.IsSliceOf sl vl vu .none)(pl:IsPart vl lo)(pu:IsPart vu hi)
  (hw:sIx items.size 0 lo=0∧sIx items.size items.size hi=items.size) (h:Q (.ref t) s):wpAny (model prog w) A (getItem (.ref t) (.ref sl)) Q E s:=by
 obtain⟨ob,hob,hcb,_⟩:=id hs
 have hTs:s.TypeIs (.ref sl) "slice":=⟨ob,hob,hcb⟩
 unfold getItem
 try with_reducible refine wpAny_holding ?_
 first|refine wpAny_bind (wpAny_pure ?_)|skip
 refine wpAny_bind (wpAny_sequenceKey ht.typeIs (by decide) ?_)
 refine wpAny_bind (wpAny_callSpecial?_slot (name:=Str.ofString "__getitem__") ht.typeIs PyProof.Rows.slot_tuple_getitem
  (wpAny_call_entry PyProof.Rows.slot_tuple_getitem ht.typeIs entry_tuple_getitem ?_ (args_tuple_getitem _ _)))
 show wpAny _ _ (Builtin.Tuple.tupleItemsOf (.ref t) >>= _) _ _ s
 refine wpAny_bind (tupleItemsOf_ ht ?_)
 refine wpAny_bind (wpAny_typeOf hTs ?_)
 rw[if_pos (by decide)]
 refine wpAny_bind (uZ hs pl pu ?_)
 show wpAny _ _ (if (((sIx items.size 0 lo:Nat):Int) == 0&&(1:Int) == 1&&(sIx items.size items.size hi-sIx items.size 0 lo) == items.size)=true then _ else _) _ _ s
 rw[hw.1,hw.2,if_pos (by simp)]
 unfold Builtin.Tuple.tupleIsExact
 refine wpAny_bind (wpAny_bind (wpAny_typeOf ht.typeIs (wpAny_pure ?_)))
 rw[if_pos (by decide)]
 exact wpAny_bind (wpAny_rule (wpAny_pure ⟨_,rfl,wpAny_pure h⟩))
end
section
variable {X:Cx}{e:Expr}{fe:DE}{pos p2:Pos}
def R6 (X:Cx):V→Option Int→Option Int→Hp→VK→Prop:=fun x lo hi H Q=>∃ P α S d,Rel X.K H P α S∧Rep X.K P α d x∧qU X P α (gSl d lo hi S) Q
theorem R9:SlR X (R6 X):=by
 intro pins s σ H x v vl vu lo hi sl Q I rx hs pl pu h
 obtain⟨P,α,S,d,r,p,af⟩:=h
 cases d with
 |lst xs =>
  simp only[Rep] at p
  obtain⟨a,vs,rfl,q,t⟩:=p
  exact eY pins s σ H _ v vl vu lo hi sl Q I rx hs pl pu ⟨a,vs,rfl,(xG r.sub q).l,fun b hb=>vP r hb (qE.cut t lo hi) af⟩
 |loc i =>
  obtain⟨xs,hS,af⟩:=uX (X:=X) (f:=fun xs=>Res.ok (D.lst (wO xs lo hi)) S) af
  simp only[Rep] at p
  obtain⟨a,rfl,q⟩:=p
  obtain⟨vs,z,t⟩:=r.at' i a _ q hS
  exact eY pins s σ H _ v vl vu lo hi sl Q I rx hs pl pu ⟨a,vs,rfl,SqL.of z,fun b hb=>vP r hb (qE.cut t lo hi) af⟩
 |tup xs =>
  have p0:=p
  simp only[Rep] at p
  obtain⟨a,vs,rfl,q,t⟩:=p
  by_cases hw:sIx vs.length 0 lo=0∧sIx vs.length vs.length hi=vs.length
  ·cases rx
   obtain⟨its,rv,ht,hz⟩:=I.tuple (w9 r.sub q)
   have hlen:its.toArray.size=vs.length:=by rw[List.size_toArray];exact rv.length.symm
   refine⟨"tuple",_,PyProof.Rows.slot_tuple_getitem.lookup,ht.typeIs,gR ht hs pl pu (by rw[hlen];exact hw) ⟨.ref a,H,I,rfl,xr af r ?_⟩⟩
   have e:wO xs lo hi=xs:=by
    unfold wO
    rw[t.length,hw.1,hw.2,← t.length]
    simp
   rw[e]
   exact p0
  ·exact T4 pins s σ H _ v vl vu lo hi sl Q I rx hs pl pu ⟨a,vs,rfl,w9 r.sub q,hw,fun b hb=>bR r hb (qE.cut t lo hi) af⟩
 |_=>exact False.elim af
theorem ZE {lo hi:Option Expr}{fl fh:DO}(he:PE X e (tD X fe))(hl:PO X lo (tDO X fl))(hu:PO X hi (tDO X fh)):PE X (.Subscript e (.Slice lo hi none p2) pos) (tD X (dSl fe fl fh)):=
 peW (XR R9 he hl hu) fun σ H Q ⟨P,α,env,S,r,re,af⟩=>by
  refine⟨P,α,env,S,r,re,?_⟩
  have af':qJ X P α ((fe env S).bind fun d S1=>(fl env S1).bind fun lo S2=>(fh env S2).bind fun hi S3=>gSl d lo hi S3) (OkV X P α Q):=af
  cases q:fe env S with
  |bad=>rw[q] at af';exact af'
  |ex c x S'=>rw[q] at af';exact af'
  |ok d S1 =>
   rw[q] at af'
   intro v H1 P1 α1 r1 e1 e2 rp
   refine⟨P1,α1,env,S1,r1,re.mono e1 e2,?_⟩
   have af2:qJ X P1 α1 ((fl env S1).bind fun lo S2=>(fh env S2).bind fun hi S3=>gSl d lo hi S3) (OkV X P1 α1 Q):=qU.base e1 e2 af'
   cases q2:fl env S1 with
   |bad=>rw[q2] at af2;exact af2
   |ex c x S'=>rw[q2] at af2;exact af2
   |ok l S2 =>
    rw[q2] at af2
    intro H2 P2 α2 r2 e3 e4
    refine⟨P2,α2,env,S2,r2,(re.mono e1 e2).mono e3 e4,?_⟩
    have af3:qJ X P2 α2 ((fh env S2).bind fun hi S3=>gSl d l hi S3) (OkV X P2 α2 Q):=qU.base e3 e4 af2
    cases q3:fh env S2 with
    |bad=>rw[q3] at af3;exact af3
    |ex c x S'=>rw[q3] at af3;exact af3
    |ok u S3 =>
     rw[q3] at af3
     intro H3 P3 α3 r3 e5 e6
     exact⟨P3,α3,S3,d,r3,Rep.mono (e3.trans e5) (e4.trans e6) _ _ rp,qU.base e5 e6 af3⟩
def jP (d:D)(S:Sto):Res D:=match d with
 |.int i=>if i.natAbs.log2<1920 then .ok (.str (toString i)) S else .bad
 |.str x=>if x.length≤lim then .ok (.str x) S else .bad
 |_=>.bad
set_option tactic.hygienic true in
theorem GQ (he:PE X e (tD X fe)):PE X (.FormattedValue e (-1) none pos) (tD X (d1 jP fe)):=by
 intro pins s σ H Q I h
 obtain⟨P,α,env,S,r,re,af⟩:=h
 refine FormattedValue_plain (thn (xC he I r re af) fun vv s1 ⟨v,H1,P1,α1,d,S1,G1,af1⟩=>?_)
 have p:=G1.rep
 have rv:=G1.val
 have af2:=qU.base G1.same G1.pre af1
 cases d with
 |int i =>
  simp only[jP] at af2
  split at af2
  ·rename_i hd
   simp only[Rep] at p;subst p
   obtain⟨t,rfl⟩:=rv
   exact formatField_int_small hd ⟨.str _,H1,G1.inv.tok _,⟨_,rfl⟩,xr af2 G1.rel (by simp only[Rep])⟩
  ·exact False.elim af2
 |str x =>
  simp only[jP] at af2
  split at af2
  ·rename_i hd
   simp only[Rep] at p;subst p
   obtain⟨t,rfl⟩:=rv
   exact formatField_str (fun t' tk=>⟨.str _,H1,G1.inv.tok _,⟨_,rfl⟩,xr af2 G1.rel (by simp only[Rep])⟩) (by rw[← zO];exact hd)
  ·exact False.elim af2
 |_=>exact False.elim af2
def kZ (out:Str):List DE→qD→Sto→Res D
 |[],_,S=>if out.length≤lim then .ok (.str out) S else .bad
 |p::ps,env,S=>(p env S).bind fun d S1=>match d with
  |.str y=>if (out++y).length≤lim then kZ (out++y) ps env S1 else .bad
  |_=>.bad
def PJ (X:Cx)(es:List Expr)(fs:List DE):Prop:=
 ∀ (out:Str) (pins:List (Addr × Obj)) (s:Shared) (σ : _L.St) (H P:Hp) (α : List Addr) (env:qD) (S:Sto) (Q:VK),Inv X pins σ H s→Rel X.K H P α S→qW X.K P α σ env→qU X P α (kZ out fs env S) Q →
  wpAny (model X.prog X.w) X.A (joinParts out (evalEach es X.env)) (EP X pins σ Q) X.xe s
theorem FZ:PJ X [] []:=by
 intro out pins s σ H P α env S Q I r re af
 obtain⟨hl,af⟩:=xM (X:=X) af
 exact joinParts_nil ⟨.str _,H,I.tok _,⟨_,rfl⟩,xr af r (by simp only[Rep])⟩ (by rw[← zO];exact hl)
theorem UX {es:List Expr}{fs:List DE}(he:PE X e (tD X fe))(hr:PJ X es fs):PJ X (e::es) (fe::fs):=by
 intro out pins s σ H P α env S Q I r re af
 have af:qJ X P α ((fe env S).bind fun d S1=>match d with|.str y=>if (out++y).length≤lim then kZ (out++y) fs env S1 else .bad|_=>.bad) (OkV X P α Q):=af
 refine joinParts_cons (thn (xC he I r re af) fun vv s1 ⟨v,H1,P1,α1,d,S1,G1,af1⟩=>?_)
 cases d with
 |str y =>
  have p:=G1.rep
  simp only[Rep] at p;subst p
  obtain⟨t,rfl⟩:=G1.val
  obtain⟨hl,af1⟩:=xM (X:=X) af1
  exact⟨by rw[← zO];exact hl,hr (out++y) pins s1 σ H1 P1 α1 env S1 Q G1.inv G1.rel G1.env (qU.base G1.same G1.pre af1)⟩
 |_=>exact False.elim af1
def nO (fs:List DE):DE:=fun env S=>kZ Str.empty fs env S
theorem V7 {v₁ v₂:Expr}{rest:List Expr}{fs:List DE}(h:PJ X (v₁::v₂::rest) fs):PE X (.JoinedStr (v₁::v₂::rest) pos) (tD X (nO fs)):=by
 intro pins s σ H Q I hq
 obtain⟨P,α,env,S,r,re,af⟩:=hq
 exact JoinedStr_many (h Str.empty pins s σ H P α env S Q I r re af)
end
end _D
end
section
namespace _D
open PySem PySem.Spec PyProof.Rows _L
def zE (tp:Bool)(h:Heap)(it l:Addr)(k:Nat):Prop:=if tp then h.IsTupleIter it l k else h.IsListIter it l k
def xJ (tp:Bool)(h:Heap)(l:Addr)(xs:Array Value):Prop:=if tp then h.IsTuple l xs else h.IsList l xs
theorem zE.keep {tp:Bool}{h h':Heap}{it l:Addr}{k:Nat}(x:zE tp h it l k)(q:∀ o,h.get? it=some o→h'.get? it=some o):zE tp h' it l k:=by
 cases tp <;> (obtain⟨o,e,r⟩:=x;exact⟨o,q o e,r⟩)
theorem xJ.keep {tp:Bool}{h h':Heap}{l:Addr}{xs:Array Value}(x:xJ tp h l xs)(q:∀ o,h.get? l=some o→h'.get? l=some o):xJ tp h' l xs:=by
 cases tp <;> (obtain⟨o,e,r⟩:=x;exact⟨o,q o e,r⟩)
theorem zE.there {tp:Bool}{h:Heap}{it l:Addr}{k:Nat}(x:zE tp h it l k):∃ o,h.get? it=some o∧∀ v,o.data≠.cell v:=by
 cases tp <;> (obtain⟨o,e,_,d⟩:=x;exact⟨o,e,fun v z=>by rw[d] at z;cases z⟩)
section
variable {prog:Program}{w:World}{A:Around}{E:Value→Shared→Prop}{s:Shared}
theorem XM {it t:Addr}{i:Nat}{items:Array Value}{x:Value}{Q:Value→Shared→Prop}(hit:s.heap.IsTupleIter it t i)(ht:s.heap.IsTuple t items)(hx:items[i]? = some x)
  (hQ:∀ h',h'.IsTupleIter it t (i+1)→Heap.SameBut it s.heap h'→Q x { s with heap:=h' }) : wpAny (model prog w) A (Builtin.SmallTypes.nextOf (.ref it)) Q E s:=by
 obtain⟨o,e,c,d⟩:=id hit
 obtain⟨u,eu,_,m,du⟩:=ht
 unfold Builtin.SmallTypes.nextOf
 refine wpAny_bind (wpAny_callSpecial?_slot (name:=Str.ofString "__next__") hit.typeIs F.slot_tuple_iterator_next (wpAny_call_entry F.slot_tuple_iterator_next hit.typeIs F.entry_tuple_iterator_next ?_ (F.args_tuple_iterator_next_1 _)))
 show wpAny _ _ (field (.ref it) 0 >>= _) _ _ s;refine wpAny_bind (wpAny_field e d (x:=.ref t) rfl ?_)
 show wpAny _ _ (if (Value.ref t == Value.none)=true then _ else _) _ _ s;rw[if_neg (show ¬ ((Value.ref t == Value.none)=true) from Bool.false_ne_true)]
 show wpAny _ _ (field (.ref it) 1 >>= _) _ _ s;refine wpAny_bind (wpAny_field e d (x:=.int i 0) rfl ?_)
 show wpAny _ _ (seqItems? (.ref t) >>= _) _ _ s;refine wpAny_bind (wpAny_seqItems eu du ?_)
 simp only[Int.toNat_natCast,hx]
 refine wpAny_bind (wpAny_setField e d (by simp) (wpAny_pure ⟨x,rfl,wpAny_pure (hQ _ ⟨_,Heap.get?_update_self _ e (Obj.isFreed_of_fields (Obj.data_mapFields d _)),(Obj.cls_mapFields ..).trans c,?_⟩ (Heap.SameBut.update ..))⟩))
 rw[Obj.data_mapFields d];simp[rawInt]
theorem dH {it t:Addr}{i:Nat}{items:Array Value}{Q:Value→Shared→Prop}(hh:A.handled=none)(hit:s.heap.IsTupleIter it t i)(ht:s.heap.IsTuple t items)(hx:items[i]? = none)
  (hE:∀ h' e,Heap.ExtBut it s.heap h'→(∃ o,h'.get? e=some o∧o.cls=.type "StopIteration")→E (.ref e) { s with heap:=h' }) : wpAny (model prog w) A (Builtin.SmallTypes.nextOf (.ref it)) Q E s:=by
 obtain⟨o,e,c,d⟩:=id hit
 obtain⟨u,eu,_,m,du⟩:=ht
 unfold Builtin.SmallTypes.nextOf
 refine wpAny_bind (wpAny_callSpecial?_slot (name:=Str.ofString "__next__") hit.typeIs F.slot_tuple_iterator_next (wpAny_call_entry F.slot_tuple_iterator_next hit.typeIs F.entry_tuple_iterator_next ?_ (F.args_tuple_iterator_next_1 _)))
 show wpAny _ _ (field (.ref it) 0 >>= _) _ _ s;refine wpAny_bind (wpAny_field e d (x:=.ref t) rfl ?_)
 show wpAny _ _ (if (Value.ref t == Value.none)=true then _ else _) _ _ s;rw[if_neg (show ¬ ((Value.ref t == Value.none)=true) from Bool.false_ne_true)]
 show wpAny _ _ (field (.ref it) 1 >>= _) _ _ s;refine wpAny_bind (wpAny_field e d (x:=.int i 0) rfl ?_)
 show wpAny _ _ (seqItems? (.ref t) >>= _) _ _ s;refine wpAny_bind (wpAny_seqItems eu du ?_)
 simp only[Int.toNat_natCast,hx];refine wpAny_bind (wpAny_rule (wpAny_bind (wpAny_setField e d (by simp) ?_)))
 show wpAny _ _ (newExc (.type "StopIteration") [] >>= _) _ _ _;refine wpAny_bind ?_
 simp only[newExc,newTuple];refine wpAny_bind (wpAny_newObj_type ?_ (by size_fits))
 refine wpAny_bind (m:=firstArgMember _ _) (wpAny_of_eq (a:=Value.none) (by first|rfl|(simp only[firstArgMember];rfl)) (wpAny_newObj_type ?_ (by size_fits)))
 simp only[raiseNew];refine wpAny_bind (wpAny_handled ?_)
 first|rw[show A.in1.handled=none from hh]|rw[hh]
 exact wpAny_bind (wpAny_pure (wpAny_throw (hE _ _ (((Heap.SameBut.update ..).extBut.push _).push _) ⟨_,Heap.get?_push_size _ rfl,rfl⟩)))
theorem gD {tp:Bool}{it l:Addr}{k:Nat}{xs:Array Value}{x:Value}{Q:Value→Shared→Prop}(hit:zE tp s.heap it l k)(hl:xJ tp s.heap l xs)(hx:xs[k]? = some x)
  (hQ:∀ h',zE tp h' it l (k+1)→Heap.SameBut it s.heap h'→Q x { s with heap:=h' }) : wpAny (model prog w) A (Builtin.SmallTypes.nextOf (.ref it)) Q E s:=by
 cases tp with
 |false=>exact wpAny_nextOf_list_item hit hl hx hQ
 |true=>exact XM hit hl hx hQ
theorem uV {tp:Bool}{it l:Addr}{k:Nat}{xs:Array Value}{Q:Value→Shared→Prop}(hh:A.handled=none)(hit:zE tp s.heap it l k)(hl:xJ tp s.heap l xs)(hx:xs[k]? = none)
  (hE:∀ h' e,Heap.ExtBut it s.heap h'→(∃ o,h'.get? e=some o∧o.cls=.type "StopIteration")→E (.ref e) { s with heap:=h' }) : wpAny (model prog w) A (Builtin.SmallTypes.nextOf (.ref it)) Q E s:=by
 cases tp with
 |false=>exact wpAny_nextOf_list_end hh hit hl hx hE
 |true=>exact dH hh hit hl hx hE
structure ZA (z I O i j:Addr):Prop where
 Iz:I≠z
 Oz:O≠z
 iz:i≠z
 jz:j≠z
 IO:I≠O
 Ii:I≠i
 Ij:I≠j
 Oi:O≠i
 Oj:O≠j
 ij:i≠j
structure Off (z O i j a:Addr):Prop where
 z:a≠z
 O:a≠O
 i:a≠i
 j:a≠j
abbrev QM (z O i j:Addr)(h h':Heap):Prop:=∀ c o,c≠z→c≠O→c≠i→c≠j→h.get? c=some o→h'.get? c=some o
theorem WM {tp tq:Bool}{z I O i j a b:Addr}{k:Nat}{xs ys:Array Value}{x y p q:Value}{Q:Value→Shared→Prop}(D:ZA z I O i j)(Da:Off z O i j a)(Db:Off z O i j b)
  (hz:IsZip s.heap z I O .none) (hI:IsPair s.heap I (.ref i) (.ref j)) (hO:IsPair s.heap O p q) (h1:zE tp s.heap i a k) (h2:zE tq s.heap j b k) (ha:xJ tp s.heap a xs) (hb:xJ tq s.heap b ys) (hx:xs[k]? = some x) (hy:ys[k]? = some y)
  (hQ:∀ h',IsZip h' z I O (rawInt s.heap.objs.size)→IsPair h' O x y→zE tp h' i a (k+1)→zE tq h' j b (k+1)→IsPair h' s.heap.objs.size x y→h'.objs.size=s.heap.objs.size+1→QM z O i j s.heap h'→Q (.ref s.heap.objs.size) { s with heap:=h' }) :
  wpAny (model prog w) A (Builtin.«zip.__next__» ⟨[.ref z],[]⟩) (fun fin s'=>∃ v,fin=.done (.ret v)∧Q v s') E s:=by
 show wpAny _ _ (field (.ref z) 2 >>= _) _ _ _;refine wpAny_bind (wpAny_field hz rfl (x:=.bool false) rfl ?_)
 show wpAny _ _ (field (.ref z) 3 >>= _) _ _ _;refine wpAny_bind (wpAny_field hz rfl (x:=.ref I) rfl (wpAny_bind (wpAny_seqItems hI rfl ?_)))
 show wpAny _ _ (Builtin.SmallTypes.ownedTupleIsFree (.ref z) >>= _) _ _ _;refine wpAny_bind ?_
 unfold Builtin.SmallTypes.ownedTupleIsFree;refine wpAny_bind (wpAny_field hz rfl (x:=.none) rfl (wpAny_pure ?_))
 simp only[if_true];refine wpAny_bind (wpAny_rule (wpAny_bind (wpAny_field hz rfl (x:=.ref O) rfl (wpAny_bind (wpAny_setField_rec hz (by simp) fun g1 z1 s1=>?_)))))
 replace z1:IsZip g1 z I O .ellipsis:=z1
 refine wpAny_bind ?_;simp only[List.zipIdx_cons,List.zipIdx_nil,List.forIn_cons,List.forIn_nil]
 refine wpAny_bind (wpAny_bind (wpAny_onRaise ?_));show wpAny _ _ (Builtin.SmallTypes.nextOf (.ref i) >>= _) _ _ _
 refine wpAny_bind (gD (h1.keep fun o e=>s1.extBut _ _ D.iz e) (ha.keep fun o e=>s1.extBut _ _ Da.z e) hx fun g2 i2 s2=>wpAny_pure ?_)
 have O2:IsPair g2 O p q:=s2.extBut _ _ D.Oi (s1.extBut _ _ D.Oz hO)
 refine wpAny_bind (wpAny_seqItems O2 rfl (wpAny_bind (wpAny_updateSeq_pair O2 fun g3 O3 s3=>wpAny_bind (wpAny_letGo (wpAny_pure ?_)))))
 replace O3:IsPair g3 O x q:=O3
 refine wpAny_bind (wpAny_bind (wpAny_onRaise ?_));show wpAny _ _ (Builtin.SmallTypes.nextOf (.ref j) >>= _) _ _ _
 refine wpAny_bind (gD (h2.keep fun o e=>s3.extBut _ _ D.Oj.symm (s2.extBut _ _ D.ij.symm (s1.extBut _ _ D.jz e))) (hb.keep fun o e=>s3.extBut _ _ Db.O (s2.extBut _ _ Db.i (s1.extBut _ _ Db.z e))) hy fun g4 j4 s4=>wpAny_pure ?_)
 have O4:IsPair g4 O x q:=s4.extBut _ _ D.Oj O3
 refine wpAny_bind (wpAny_seqItems O4 rfl (wpAny_bind (wpAny_updateSeq_pair O4 fun g5 O5 s5=>wpAny_bind (wpAny_letGo (wpAny_pure (wpAny_pure ?_))))))
 replace O5:IsPair g5 O x y:=O5
 refine wpAny_bind (wpAny_seqItems O5 rfl (wpAny_bind (wpAny_newTuple ?_)))
 have sz:g5.objs.size=s.heap.objs.size:=by rw[s5.1,s4.1,s3.1,s2.1,s1.1]
 have z5:IsZip g5 z I O .ellipsis:=s5.extBut _ _ D.Oz.symm (s4.extBut _ _ D.jz.symm (s3.extBut _ _ D.Oz.symm (s2.extBut _ _ D.iz.symm z1)))
 have k5:QM z O i j s.heap g5:=fun c o c1 c2 c3 c4 e=>s5.extBut _ _ c2 (s4.extBut _ _ c4 (s3.extBut _ _ c2 (s2.extBut _ _ c3 (s1.extBut _ _ c1 e))))
 have i5:zE tp g5 i a (k+1):=i2.keep fun o e=>s5.extBut _ _ D.Oi.symm (s4.extBut _ _ D.ij (s3.extBut _ _ D.Oi.symm e))
 have j5:zE tq g5 j b (k+1):=j4.keep fun o e=>s5.extBut _ _ D.Oj.symm e
 have zl:z<g5.objs.size:=Heap.lt_size z5
 show wpAny _ _ (Builtin.SmallTypes.ownedTupleHandOut (.ref z) (.ref g5.objs.size) >>= _) _ _ _
 refine wpAny_bind ?_;unfold Builtin.SmallTypes.ownedTupleHandOut
 have z6:IsZip (g5.push { cls:=.type "tuple",data:=.seq #[x,y] }) z I O .ellipsis:=Heap.get?_push_of_some _ z5
 refine wpAny_bind (wpAny_setField_rec z6 (by simp) fun g7 z7 s7=>?_)
 replace z7:IsZip g7 z I O (rawInt g5.objs.size):=z7
 refine wpAny_setField_rec z7 (by simp) fun g8 z8 s8=>?_
 replace z8:IsZip g8 z I O (rawInt g5.objs.size):=z8
 have up:∀ c o,c≠z→g5.get? c=some o→g8.get? c=some o:=fun c o c1 e=>s8.extBut _ _ c1 (s7.extBut _ _ c1 (Heap.get?_push_of_some _ e))
 have T8:IsPair g8 g5.objs.size x y:=s8.extBut _ _ (Nat.ne_of_gt zl) (s7.extBut _ _ (Nat.ne_of_gt zl) (Heap.get?_push_size _ rfl))
 have sz8:g8.objs.size=g5.objs.size+1:=by rw[s8.1,s7.1,Heap.size_push]
 rw[sz] at z8 T8 sz8
 refine wpAny_pure ⟨_,rfl,?_⟩
 show Q (.ref g5.objs.size) _
 rw[sz]
 exact hQ g8 z8 (up _ _ D.Oz O5) (i5.keep fun o e=>up _ o D.iz e) (j5.keep fun o e=>up _ o D.jz e) T8 sz8 fun c o c1 c2 c3 c4 e=>up c o c1 (k5 c o c1 c2 c3 c4 e)
end
end _D
end
section
namespace _D
open PySem PySem.Spec PyProof.Rows _L
section
variable {prog:Program}{w:World}{A:Around}{E:Value→Shared→Prop}{s:Shared}
theorem WO {tp tq:Bool}{z I O i j a b:Addr}{k:Nat}{xs ys:Array Value}{p q:Value}{Q:Fin→Shared→Prop}(hh:A.handled=none)(D:ZA z I O i j)(Da:Off z O i j a)(Db:Off z O i j b)
  (hz:IsZip s.heap z I O .none) (hI:IsPair s.heap I (.ref i) (.ref j)) (hO:IsPair s.heap O p q) (h1:zE tp s.heap i a k) (h2:zE tq s.heap j b k) (ha:xJ tp s.heap a xs) (hb:xJ tq s.heap b ys) (hend:xs[k]? = none∨ys[k]? = none)
  (hE:∀ h' e,QM z O i j s.heap h'→(∃ o,h'.get? e=some o∧o.cls=.type "StopIteration")→E (.ref e) { s with heap:=h' }) : wpAny (model prog w) A (Builtin.«zip.__next__» ⟨[.ref z],[]⟩) Q E s:=by
 show wpAny _ _ (field (.ref z) 2 >>= _) _ _ _;refine wpAny_bind (wpAny_field hz rfl (x:=.bool false) rfl ?_)
 show wpAny _ _ (field (.ref z) 3 >>= _) _ _ _;refine wpAny_bind (wpAny_field hz rfl (x:=.ref I) rfl (wpAny_bind (wpAny_seqItems hI rfl ?_)))
 show wpAny _ _ (Builtin.SmallTypes.ownedTupleIsFree (.ref z) >>= _) _ _ _;refine wpAny_bind ?_
 unfold Builtin.SmallTypes.ownedTupleIsFree;refine wpAny_bind (wpAny_field hz rfl (x:=.none) rfl (wpAny_pure ?_))
 simp only[if_true];refine wpAny_bind (wpAny_rule (wpAny_bind (wpAny_field hz rfl (x:=.ref O) rfl (wpAny_bind (wpAny_setField_rec hz (by simp) fun g1 z1 s1=>?_)))))
 replace z1:IsZip g1 z I O .ellipsis:=z1
 refine wpAny_bind ?_;simp only[List.zipIdx_cons,List.zipIdx_nil,List.forIn_cons,List.forIn_nil]
 refine wpAny_bind (wpAny_bind (wpAny_onRaise ?_));show wpAny _ _ (Builtin.SmallTypes.nextOf (.ref i) >>= _) _ _ _
 have it1:zE tp g1 i a k:=h1.keep fun o e=>s1.extBut _ _ D.iz e
 have sq1:xJ tp g1 a xs:=ha.keep fun o e=>s1.extBut _ _ Da.z e
 cases hx:xs[k]? with
 |none =>
  refine wpAny_bind (uV hh it1 sq1 hx fun g2 e x2 he=>?_)
  obtain⟨oe,h3,h4⟩:=he
  have z2:IsZip g2 z I O .ellipsis:=x2 _ _ D.iz.symm z1
  have ne:e≠z:=fun y=>by subst y;rw[z2] at h3;cases h3;simp at h4
  exact wpAny_setField_rec z2 (by simp) fun g3 _ s3=>hE g3 e (fun c o c1 _ c3 _ y=>s3.extBut _ _ c1 (x2 _ _ c3 (s1.extBut _ _ c1 y))) ⟨oe,s3.extBut _ _ ne h3,h4⟩
 |some x =>
  have hy:ys[k]? = none:=by
   rcases hend with y|y
   ·rw[hx] at y;cases y
   ·exact y
  refine wpAny_bind (gD it1 sq1 hx fun g2 i2 s2=>wpAny_pure ?_)
  have O2:IsPair g2 O p q:=s2.extBut _ _ D.Oi (s1.extBut _ _ D.Oz hO)
  refine wpAny_bind (wpAny_seqItems O2 rfl (wpAny_bind (wpAny_updateSeq_pair O2 fun g3 O3 s3=>wpAny_bind (wpAny_letGo (wpAny_pure ?_)))))
  refine wpAny_bind (wpAny_bind (wpAny_onRaise ?_));show wpAny _ _ (Builtin.SmallTypes.nextOf (.ref j) >>= _) _ _ _
  refine wpAny_bind (uV hh (h2.keep fun o e=>s3.extBut _ _ D.Oj.symm (s2.extBut _ _ D.ij.symm (s1.extBut _ _ D.jz e))) (hb.keep fun o e=>s3.extBut _ _ Db.O (s2.extBut _ _ Db.i (s1.extBut _ _ Db.z e))) hy fun g4 e x4 he=>?_)
  obtain⟨oe,h3,h4⟩:=he
  have z4:IsZip g4 z I O .ellipsis:=x4 _ _ D.jz.symm (s3.extBut _ _ D.Oz.symm (s2.extBut _ _ D.iz.symm z1))
  have ne:e≠z:=fun y=>by subst y;rw[z4] at h3;cases h3;simp at h4
  exact wpAny_setField_rec z4 (by simp) fun g5 _ s5=>hE g5 e (fun c o c1 c2 c3 c4 y=>s5.extBut _ _ c1 (x4 _ _ c4 (s3.extBut _ _ c2 (s2.extBut _ _ c3 (s1.extBut _ _ c1 y))))) ⟨oe,s5.extBut _ _ ne h3,h4⟩
abbrev vW (tp:Bool)(l:Addr):Obj:={ cls:=.type (if tp then "tuple_iterator" else "list_iterator"),data:=.fields #[.ref l,.int 0 0] }
abbrev zh1 (tp:Bool)(h:Heap)(a:Addr):Heap:=h.push (vW tp a)
abbrev zh2 (tp tq:Bool)(h:Heap)(a b:Addr):Heap:=(zh1 tp h a).push (vW tq b)
abbrev zh3 (tp tq:Bool)(h:Heap)(a b:Addr):Heap:=(zh2 tp tq h a b).push { cls:=.type "tuple",data:=.seq #[.ref h.objs.size,.ref (zh1 tp h a).objs.size] }
abbrev zh4 (tp tq:Bool)(h:Heap)(a b:Addr):Heap:=(zh3 tp tq h a b).push { cls:=.type "tuple",data:=.seq #[.none,.none] }
abbrev zh5 (tp tq:Bool)(h:Heap)(a b:Addr):Heap:=(zh4 tp tq h a b).push { cls:=.type "zip",data:=.fields #[.none,.bool false,.bool false,.ref (zh2 tp tq h a b).objs.size,.ref (zh3 tp tq h a b).objs.size] }
set_option maxHeartbeats 4000000 in
theorem KL (tp:Bool)(a b:Addr)(xs ys:Array Value) :
  Meets (Builtin.«zip.__new__» ⟨[.type "zip",.ref a,.ref b],[]⟩) (fun _ R s=>xJ tp s.heap a xs∧xJ tp s.heap b ys∧R (.ok (.ret (.ref (zh4 tp tp s.heap a b).objs.size))) { s with heap:=zh5 tp tp s.heap a b }):=
 .of_wp fun prog w A R s h=>by
  obtain⟨hp,g,d,tk,os⟩:=s
  obtain⟨q1,q2,h⟩:=h
  have hsub:=sub_zip
  have e2:∀ ob:Obj,xJ tp (hp.push ob) b ys:=fun ob=>q2.keep fun o e=>Heap.get?_push_of_some _ e
  cases tp
  ·have l1:Heap.IsList (Shared.heap ⟨hp,g,d,tk,os⟩) a xs:=q1
   have l2:Heap.IsList (Shared.heap ⟨hp.push { cls:=.type "list_iterator",data:=.fields #[.ref a,.int 0 0] },g,d,tk,os⟩) b ys:=e2 _
   wp_walk using wpAny_pyIter_list l1,wpAny_pyIter_list l2
   exact⟨_,rfl,h⟩
  ·have l1:Heap.IsTuple (Shared.heap ⟨hp,g,d,tk,os⟩) a xs:=q1
   have l2:Heap.IsTuple (Shared.heap ⟨hp.push { cls:=.type "tuple_iterator",data:=.fields #[.ref a,.int 0 0] },g,d,tk,os⟩) b ys:=e2 _
   wp_walk using wpAny_pyIter_tuple l1,wpAny_pyIter_tuple l2
   exact⟨_,rfl,h⟩
theorem kY {tp:Bool}{h:Heap}{it l:Addr}(e:h.get? it=some (vW tp l)):zE tp h it l 0:=by
 cases tp
 ·exact⟨_,e,rfl,rfl⟩
 ·exact⟨_,e,rfl,rfl⟩
theorem QY {tp:Bool}{a b:Addr}{xs ys:Array Value}{Q:Value→Shared→Prop}(ha:xJ tp s.heap a xs)(hb:xJ tp s.heap b ys)
  (h:∀ h',IsZip h' (s.heap.objs.size+4) (s.heap.objs.size+2) (s.heap.objs.size+3) .none→IsPair h' (s.heap.objs.size+2) (.ref s.heap.objs.size) (.ref (s.heap.objs.size+1)) →
   IsPair h' (s.heap.objs.size+3) .none .none→zE tp h' s.heap.objs.size a 0→zE tp h' (s.heap.objs.size+1) b 0→h'.objs.size=s.heap.objs.size+5→(∀ c o,s.heap.get? c=some o→h'.get? c=some o)→Q (.ref (s.heap.objs.size+4)) { s with heap:=h' }) :
  wpAny (model prog w) A (call (.type "zip") [.ref a,.ref b]) Q E s:=by
 refine callType_new F.called_zip (by decide) (F.typeCall_zip_2 _ _) (F.newCall_zip_2 _ _) (fun obj=>F.args_object_init_3 obj _ _) F.entry_zip_new (KL tp a b xs ys) ⟨ha,hb,?_⟩
 have y1:(zh1 tp s.heap a).objs.size=s.heap.objs.size+1:=Heap.size_push ..
 have y2:(zh2 tp tp s.heap a b).objs.size=s.heap.objs.size+2:=by rw[Heap.size_push,y1]
 have y3:(zh3 tp tp s.heap a b).objs.size=s.heap.objs.size+3:=by rw[Heap.size_push,y2]
 have y4:(zh4 tp tp s.heap a b).objs.size=s.heap.objs.size+4:=by rw[Heap.size_push,y3]
 have y5:(zh5 tp tp s.heap a b).objs.size=s.heap.objs.size+5:=by rw[Heap.size_push,y4]
 have g5:(zh5 tp tp s.heap a b).get? (zh4 tp tp s.heap a b).objs.size=some _:=Heap.get?_push_size _ rfl
 have g4:(zh5 tp tp s.heap a b).get? (zh3 tp tp s.heap a b).objs.size=some _:=Heap.get?_push_of_some _ (Heap.get?_push_size _ rfl)
 have g3:(zh5 tp tp s.heap a b).get? (zh2 tp tp s.heap a b).objs.size=some _:=Heap.get?_push_of_some _ (Heap.get?_push_of_some _ (Heap.get?_push_size _ rfl))
 have g2:(zh5 tp tp s.heap a b).get? (zh1 tp s.heap a).objs.size=some (vW tp b):=Heap.get?_push_of_some _ (Heap.get?_push_of_some _ (Heap.get?_push_of_some _ (Heap.get?_push_size _ rfl)))
 have g1:(zh5 tp tp s.heap a b).get? s.heap.objs.size=some (vW tp a):=Heap.get?_push_of_some _ (Heap.get?_push_of_some _ (Heap.get?_push_of_some _ (Heap.get?_push_of_some _ (Heap.get?_push_size _ rfl))))
 have kp:∀ c o,s.heap.get? c=some o→(zh5 tp tp s.heap a b).get? c=some o:=fun c o e=>Heap.get?_push_of_some _ (Heap.get?_push_of_some _ (Heap.get?_push_of_some _ (Heap.get?_push_of_some _ (Heap.get?_push_of_some _ e))))
 show _∧_
 rw[y2,y3,y4] at g5
 rw[y1,y2] at g3
 rw[y3] at g4
 rw[y1] at g2
 rw[y4]
 exact⟨⟨_,g5,rfl⟩,h _ g5 g3 g4 (kY g1) (kY g2) y5 kp⟩
end
end _D
end
section
namespace _D
open PySem PySem.Spec PyProof.Rows _L
def Sq (tp:Bool)(K:PySem.W.Frag)(H:Hp)(a:Addr)(xs:List V):Prop:=if tp then SqT K H a xs else SqL K H a xs
section
variable {X:Cx}{pins:List (Addr × Obj)}{σ : _L.St}{H:Hp}{s:Shared}
theorem Sq.at {tp:Bool}{a:Addr}{xs:List V}(I:Inv X pins σ H s)(q:Sq tp X.K H a xs):∃ its,qN xs its∧xJ tp s.heap a its.toArray:=by
 cases tp with
 |true =>
  obtain⟨its,rv,p,_⟩:=I.tuple q
  exact⟨its,rv,p⟩
 |false =>
  obtain⟨its,rv,p,_⟩:=I.list q
  exact⟨its,rv,p.isList⟩
theorem Sq.inj {tp:Bool}{a:Addr}{xs ys:List V}(I:Inv X pins σ H s)(q:Sq tp X.K H a xs)(q':Sq tp X.K H a ys):xs=ys:=by
 cases tp with
 |true=>exact I.tuple_inj q q'
 |false=>exact I.list_inj q q'
theorem Sq.off {tp:Bool}{a b:Addr}{xs:List V}(I:Inv X pins σ H s)(q:Sq tp X.K H a xs)(f:x9 X pins H b):a≠b:=by
 have key:H a≠none∨∃ o,X.K.lookup a=some o:=by
  cases tp with
  |true =>
   rcases q with (q|⟨o,q⟩)|⟨o,_,_,q,_⟩
   ·exact .inl (by rw[q];intro z;cases z)
   ·exact .inl (by rw[q];intro z;cases z)
   ·exact .inr ⟨_,q⟩
  |false =>
   rcases q with (q|⟨o,q⟩)|⟨o,_,_,q,_⟩
   ·exact .inl (by rw[q];intro z;cases z)
   ·exact .inl (by rw[q];intro z;cases z)
   ·exact .inr ⟨_,q⟩
 rintro rfl
 rcases key with k|⟨o,k⟩
 ·exact k f.1
 ·have e:=I.mod.kin a o k
  rcases f.2.2.2.1 with z|z
  ·exact I.ok.noex a o e z
  ·exact absurd (Heap.lt_size (I.ok.bs a o e).1) (Nat.not_lt.mpr z)
theorem Inv.turnLay {fp:List Addr}{h':Heap}{T:Addr}{xs:List V}{its:List Value}(I:Inv X pins σ H s)(hf:∀ b∈fp,x9 X pins H b)(k:∀ b o,b ∉ fp→s.heap.get? b=some o→h'.get? b=some o)(th:∀ b∈fp,∃ o,h'.get? b=some o)
  (hT:s.heap.objs.size≤T) (rv:qN xs its) (hx:IsTup h' T its.toArray) (hz:xs.length≤sizeLine):Inv X pins σ (upd H T (.tup xs)) { s with heap:=h' }:=by
 have hn:H T=none:=I.hok.fresh hT
 have ne:∀ b o,s.heap.get? b=some o→b≠T:=fun b o e=>Nat.ne_of_lt (Nat.lt_of_lt_of_le (Heap.lt_size e) hT)
 refine I.step (g':=s.gens) (d':=s.drawn) (t':=s.toks) (ch:=fp) (fun b hb=>⟨(hf b hb).2.2.2.1,(hf b hb).2.1,(hf b hb).2.2.2.2.1,(hf b hb).2.2.2.2.2⟩) (fun b o _ _ hc e _=>k b o hc e) (fun b o _ _ hc e _=>⟨o.slots,k b o hc e⟩)
  (fun b o _ e n=>by rw[qI (ne b o e)];exact n) (fun b o hc e=>⟨o,k b o hc e⟩) (fun b ys e=>by rw[qI (qQ e hn)];exact e) (fun b o u e=>by rw[qI (qQ e hn)];exact e)
  (fun b ps e=>⟨#[],by rw[qI (qQ e hn),e];simp⟩) (fun m hm=>?_) (fun b u e=>?_) I.bare
 ·obtain⟨o,es,ep,ho,r⟩:=hm
  exact⟨o,es,ep,k _ o (fun z=>(hf _ z).2.1 rfl) ho,r⟩
 ·by_cases hb:b=T
  ·subst hb
   rw[qS] at e;cases e
   exact⟨hz,its,rv,hx⟩
  ·rw[qI hb] at e
   refine(I.hok b u e).stay (fun c v hc q=>k c v (fun z=>?_) q) (fun c q=>by rw[qI (qQ q hn)];exact q) fun c ys q=>by rw[qI (qQ q hn)];exact q
   have hcn:=(hf c z).1
   rcases hc with rfl|hc
   ·rw[hcn] at e;cases e
   ·rw[hcn] at hc;cases hc
theorem Inv.turnL {fp:List Addr}{h':Heap}(I:Inv X pins σ H s)(hf:∀ b∈fp,x9 X pins H b)(k:∀ b o,b ∉ fp→s.heap.get? b=some o→h'.get? b=some o):Inv X pins σ H { s with heap:=h' }:=by
 refine I.step (g':=s.gens) (d':=s.drawn) (t':=s.toks) (ch:=fp) (fun b hb=>⟨(hf b hb).2.2.2.1,(hf b hb).2.1,(hf b hb).2.2.2.2.1,(hf b hb).2.2.2.2.2⟩) (fun b o _ _ hc e _=>k b o hc e) (fun b o _ _ hc e _=>⟨o.slots,k b o hc e⟩)
  (fun b o _ e n=>n) (fun b o hc e=>⟨o,k b o hc e⟩) (fun b ys e=>e) (fun b o u e=>e) (fun b ps e=>⟨#[],by rw[e];simp⟩) (fun m hm=>?_) (fun b u e=>?_) I.bare
 ·obtain⟨o,es,ep,ho,r⟩:=hm
  exact⟨o,es,ep,k _ o (fun z=>(hf _ z).2.1 rfl) ho,r⟩
 ·refine(I.hok b u e).stay (fun c v hc q=>k c v (fun z=>?_) q) (fun c q=>q) fun c ys q=>q
  have hcn:=(hf c z).1
  rcases hc with rfl|hc
  ·rw[hcn] at e;cases e
  ·rw[hcn] at hc;cases hc
end
def Itz (tp:Bool)(K:PySem.W.Frag)(a b:Addr):It:=
  ⟨fun i H=>∃ xs ys x y,Sq tp K H a xs∧Sq tp K H b ys∧xs[i]? = some x∧ys[i]? = some y,
   fun i H v H'=>∃ T x y,v=.ref T∧H T=none∧H'=upd H T (.tup [x,y])∧(∀ xs,Sq tp K H a xs→xs[i]? = some x)∧∀ ys,Sq tp K H b ys→ys[i]? = some y,
   fun i H=>∃ xs ys,Sq tp K H a xs∧Sq tp K H b ys∧(xs.length≤i∨ys.length≤i)⟩
def c9 (tp:Bool)(z I O i j a b:Addr)(k:Nat)(h:Heap):Prop:=∃ p q,IsZip h z I O .none∧IsPair h I (.ref i) (.ref j)∧IsPair h O p q∧zE tp h i a k∧zE tp h j b k
theorem pL {tp:Bool}{z I O i j a b:Addr}{k:Nat}{h:Heap}(st:c9 tp z I O i j a b k h):∀ c∈[z,I,O,i,j],∃ o,h.get? c=some o∧∀ v,o.data≠.cell v:=fun c hc=>by
 obtain⟨p,q,s1,s2,s3,s4,s5⟩:=st
 simp only[List.mem_cons,List.not_mem_nil,or_false] at hc
 rcases hc with rfl|rfl|rfl|rfl|rfl
 ·exact⟨_,s1,fun v y=>by cases y⟩
 ·exact⟨_,s2,fun v y=>by cases y⟩
 ·exact⟨_,s3,fun v y=>by cases y⟩
 ·exact s4.there
 ·exact s5.there
theorem Y6 {c z I O i j:Addr}(h:c ∉ [z,I,O,i,j]):c≠z∧c≠O∧c≠i∧c≠j:=by
 simp only[List.mem_cons,List.not_mem_nil,or_false,not_or] at h
 exact⟨h.1,h.2.2.1,h.2.2.2.1,h.2.2.2.2⟩
theorem WE {P:Program}{w:World}{K:PySem.W.Frag}{elts:List Expr}{x1:Nat}{tpos:Pos}{tp:Bool}{z I O i j a b:Addr}(D:ZA z I O i j):Turn P w K (.Tuple elts x1 tpos) (Itz tp K a b) [z,I,O,i,j] z (c9 tp z I O i j a b) where
 mem:=.head _
 obj:=fun k h st=>pL st
 keep:=fun k h h' st kp=>by
  obtain⟨p,q,s1,s2,s3,s4,s5⟩:=st
  exact⟨p,q,kp z (.head _) _ s1,kp I (.tail _ (.head _)) _ s2,kp O (.tail _ (.tail _ (.head _))) _ s3,s4.keep fun o e=>kp i (.tail _ (.tail _ (.tail _ (.head _)))) o e,s5.keep fun o e=>kp j (.tail _ (.tail _ (.tail _ (.tail _ (.head _))))) o e⟩
 item:=by
  intro X hP hw hK hc k pins s σ H E Iv hf st hg
  subst hP hw hK
  obtain⟨p,q,s1,s2,s3,s4,s5⟩:=st
  obtain⟨xs,ys,x,y,qa,qb,hx,hy⟩:=hg
  obtain⟨ia,ra,ha⟩:=qa.at Iv
  obtain⟨ib,rb,hb⟩:=qb.at Iv
  obtain⟨u,hu,ru⟩:=ra.get hx
  obtain⟨u',hu',ru'⟩:=rb.get hy
  have off:∀ {c:Addr} {zs:List V},Sq tp X.K H c zs→Off z O i j c:=fun {c zs} qc=>⟨qc.off Iv (hf z (.head _)),qc.off Iv (hf O (.tail _ (.tail _ (.head _)))),qc.off Iv (hf i (.tail _ (.tail _ (.tail _ (.head _))))),qc.off Iv (hf j (.tail _ (.tail _ (.tail _ (.tail _ (.head _))))))⟩
  have hT:s.TypeIs (.ref z) "zip":=⟨_,s1,rfl⟩
  unfold pyNext
  refine wpAny_bind (wpAny_attempt (wpAny_callSpecial?_slot (name:=Str.ofString "__next__") hT F.slot_zip_next (wpAny_call_entry F.slot_zip_next hT F.entry_zip_next
   (WM D (off qa) (off qb) s1 s2 s3 s4 s5 ha hb (by simpa using hu) (by simpa using hu') fun h' a1 a2 a3 a4 a5 a6 a7=>wpAny_pure ?_) (F.args_zip_next_1 _))))
  refine⟨_,rfl,wpAny_letOwnedTupleGo_zip (s:={ s with heap:=h' }) a1 fun h2 b1 b2=>?_⟩
  have up:∀ c o,c≠z→h'.get? c=some o→h2.get? c=some o:=fun c o n e=>(b2.2 c n).trans e
  have zl:z<s.heap.objs.size:=Heap.lt_size s1
  have T2:IsPair h2 s.heap.objs.size u u':=up _ _ (Nat.ne_of_gt zl) a5
  have st2:c9 tp z I O i j a b (k+1) h2:=⟨u,u',b1,up _ _ D.Iz (a7 I _ D.Iz D.IO D.Ii D.Ij s2),up _ _ D.Oz a2,a3.keep fun o e=>up _ o D.iz e,a4.keep fun o e=>up _ o D.jz e⟩
  refine⟨.ref s.heap.objs.size,upd H s.heap.objs.size (.tup [x,y]),?_,rfl,⟨_,x,y,rfl,Iv.hok.fresh (Nat.le_refl _),rfl,fun zs qz=>by rw[qz.inj Iv qa];exact hx,fun zs qz=>by rw[qz.inj Iv qb];exact hy⟩,st2,fun c hc=>?_⟩
  ·show _L.Inv X pins σ (upd H s.heap.objs.size (.tup [x,y])) { s with heap:=h2 }
   refine Inv.turnLay (fp:=[z,I,O,i,j]) (its:=[u,u']) Iv hf (fun c o hc e=>?_) (fun c hc=>?_) (Nat.le_refl _) (.cons ru (.cons ru' .nil)) ⟨_,T2,rfl,_,rfl⟩ (by show 2≤sizeLine;decide)
   ·have hc:=Y6 hc
    exact up c o hc.1 (a7 c o hc.1 hc.2.1 hc.2.2.1 hc.2.2.2 e)
   ·obtain⟨o,e,_⟩:=pL st2 c hc
    exact⟨o,e⟩
  ·have hn:=(hf c hc).1
   rw[qI ?_]
   ·exact hn
   ·rintro rfl
    obtain⟨o,e,_⟩:=pL ⟨p,q,s1,s2,s3,s4,s5⟩ _ hc
    exact absurd (Heap.lt_size e) (Nat.lt_irrefl _)
 done:=by
  intro X hP hw hK hc k pins s σ H E Iv hf st hg
  subst hP hw hK
  obtain⟨p,q,s1,s2,s3,s4,s5⟩:=st
  obtain⟨xs,ys,qa,qb,hend⟩:=hg
  obtain⟨ia,ra,ha⟩:=qa.at Iv
  obtain⟨ib,rb,hb⟩:=qb.at Iv
  have off:∀ {c:Addr} {zs:List V},Sq tp X.K H c zs→Off z O i j c:=fun {c zs} qc=>⟨qc.off Iv (hf z (.head _)),qc.off Iv (hf O (.tail _ (.tail _ (.head _)))),qc.off Iv (hf i (.tail _ (.tail _ (.tail _ (.head _))))),qc.off Iv (hf j (.tail _ (.tail _ (.tail _ (.tail _ (.head _))))))⟩
  have hT:s.TypeIs (.ref z) "zip":=⟨_,s1,rfl⟩
  have l1:=ra.length
  have l2:=rb.length
  unfold pyNext
  refine wpAny_bind (wpAny_attempt (wpAny_callSpecial?_slot (name:=Str.ofString "__next__") hT F.slot_zip_next (wpAny_call_entry F.slot_zip_next hT F.entry_zip_next
   (WO (Iv.ok.hd hc) D (off qa) (off qb) s1 s2 s3 s4 s5 ha hb ?_ fun h' e kp he=>?_) (F.args_zip_next_1 _))))
  ·rcases hend with y|y
   ·exact .inl (by simp;omega)
   ·exact .inr (by simp;omega)
  ·obtain⟨o,ho,hcl⟩:=he
   refine wpAny_bind (wpAny_isInstance (T:="StopIteration") (b:=true) ⟨o,ho,hcl⟩ isSubtype_stop (wpAny_pure ⟨rfl,Inv.turnL (fp:=[z,I,O,i,j]) Iv hf fun c o hc e=>?_⟩))
   have hc:=Y6 hc
   exact kp c o hc.1 hc.2.1 hc.2.2.1 hc.2.2.2 e
 self:=fun _ _ _ _ _ st h=>by
  obtain⟨p,q,s1,_⟩:=st
  exact wpAny_pyIter_zip s1 h
end _D
end
section
namespace _D
open PySem PySem.Spec PyProof.Rows _L
def uC (xs ys:List D):List D:=List.zipWith (fun x y=>D.tup [x,y]) xs ys
def aF (ds:List D):Option (List D):=match ds with
 |[.tup xs,.tup ys]=>some (uC xs ys)
 |[.lst xs,.lst ys]=>some (uC xs ys)
 |_=>none
def cG (f:DA):DI:=fun env S=>(f env S).bind fun ds S1=>yO (aF ds) S1
theorem WL {xs ys:List D}{i:Nat}:(uC xs ys)[i]? = match xs[i]?,ys[i]? with|some x,some y=>some (D.tup [x,y])|_,_=>none:=by
 unfold uC
 rw[List.getElem?_zipWith]
 cases xs[i]? <;> cases ys[i]? <;> rfl
theorem f7 (xs ys:List D):(uC xs ys).length=min xs.length ys.length:=by simp[uC]
section
variable {K:PySem.W.Frag}
theorem Sq.mono {tp:Bool}{P P':Hp}(e:qF P P'){a:Addr}{xs:List V}(q:Sq tp K P a xs):Sq tp K P' a xs:=by
 cases tp with
 |true=>exact yP e q
 |false=>exact e.seq q
theorem U8 {tp:Bool}{P:Hp}{α : List Addr}{a b:Addr}{xs ys:List D}{vs ws:List V}(qa:Sq tp K P a vs)(qb:Sq tp K P b ws)(ta:qE K P α xs vs)(tb:qE K P α ys ws):ItD K (Itz tp K a b) P α (uC xs ys) where
 go:=fun i H P1 α1 S hi r e _=>by
  rw[f7] at hi
  have h1:i<vs.length:=by rw[← ta.length];omega
  have h2:i<ws.length:=by rw[← tb.length];omega
  exact⟨vs,ws,vs[i],ws[i],qa.mono (e.trans r.sub),qb.mono (e.trans r.sub),by simp,by simp⟩
 yld:=fun i H x H' P1 α1 S hi r e e2 y=>by
  obtain⟨T,u,w,rfl,hT,rfl,hu,hw⟩:=y
  rw[f7] at hi
  have h1:i<xs.length:=by omega
  have h2:i<ys.length:=by omega
  obtain⟨v1,z1,p1⟩:=ta.get (List.getElem?_eq_getElem h1)
  obtain⟨v2,z2,p2⟩:=tb.get (List.getElem?_eq_getElem h2)
  have eu:=hu vs (qa.mono (e.trans r.sub))
  have ew:=hw ws (qb.mono (e.trans r.sub))
  rw[z1] at eu;cases eu
  rw[z2] at ew;cases ew
  obtain⟨r1,s1⟩:=r.pure (o:=.tup [u,w]) hT
  refine⟨_,.tup [xs[i],ys[i]],?_,r1,s1,?_⟩
  ·rw[WL,List.getElem?_eq_getElem h1,List.getElem?_eq_getElem h2]
  ·exact mZ (.of qS) (.cons (Rep.mono (e.trans s1) e2 _ _ p1) (.cons (Rep.mono (e.trans s1) e2 _ _ p2) .nil))
 stop:=fun i H P1 α1 S hi r e _=>by
  rw[f7] at hi
  have l1:=ta.length
  have l2:=tb.length
  exact⟨vs,ws,qa.mono (e.trans r.sub),qb.mono (e.trans r.sub),by omega⟩
end
section
variable {X:Cx}{e1 e2:Expr}{elts:List Expr}{x1:Nat}{tpos:Pos}{f:DA}{p pos:Pos}
theorem QF {tp:Bool}{pins:List (Addr × Obj)}{σ : _L.St}{H P:Hp}{α : List Addr}{S:Sto}{s:Shared}{a b:Addr}{xs ys:List D}{vs ws:List V}{R:It→Hp→Prop}(I:Inv X pins σ H s)(r:Rel X.K H P α S)(qa:Sq tp X.K P a vs)(qb:Sq tp X.K P b ws)(ta:qE X.K P α xs vs)(tb:qE X.K P α ys ws)
  (q:OkI X P α R (uC xs ys) S):wpAny (model X.prog X.w) X.A (call (.type "zip") [.ref a,.ref b]) (fun v s1=>wpAny (model X.prog X.w) X.A (pyIter v) (PIE X pins σ (.Tuple elts x1 tpos) R) X.xe s1) X.xe s:=by
 obtain⟨ia,ra,ha⟩:=(qa.mono r.sub).at I
 obtain⟨ib,rb,hb⟩:=(qb.mono r.sub).at I
 refine QY ha hb fun h' z1 z2 z3 z4 z5 z6 z7=>?_
 refine wpAny_pyIter_zip (s:={ s with heap:=h' }) z1 ?_
 have D:ZA (s.heap.objs.size+4) (s.heap.objs.size+2) (s.heap.objs.size+3) s.heap.objs.size (s.heap.objs.size+1):=by constructor <;> (intro z;simp at z)
 refine⟨_,[s.heap.objs.size+4,s.heap.objs.size+2,s.heap.objs.size+3,s.heap.objs.size,s.heap.objs.size+1],_,_,H,rfl,I.kept (t':=s.toks) z7,WE (a:=a) (b:=b) D,⟨_,_,z1,z2,z3,z4,z5⟩,fun c hc=>?_,q _ _ P α r (qF.refl _) (List.prefix_refl _) (U8 qa qb ta tb)⟩
 have hl:s.heap.objs.size≤c:=by
  simp only[List.mem_cons,List.not_mem_nil,or_false] at hc
  rcases hc with rfl|rfl|rfl|rfl|rfl <;> simp
 exact I.fpOk hl (I.hok.fresh hl)
inductive ZipV (ds:List D)(its:List D):Prop
 |tup (xs ys:List D) (ed:ds=[.tup xs,.tup ys]) (e:its=uC xs ys)
 |lst (xs ys:List D) (ed:ds=[.lst xs,.lst ys]) (e:its=uC xs ys)
theorem KJ {ds its:List D}(h:aF ds=some its):ZipV ds its:=by
 cases ds with
 |nil=>exact nn h
 |cons a ds =>
  cases a with
  |tup xs =>
   cases ds with
   |nil=>exact nn h
   |cons b ds =>
    cases b with
    |tup ys =>
     cases ds with
     |nil=>exact .tup xs ys rfl (Option.some.inj h).symm
     |cons _ _=>exact nn h
    |_=>exact nn h
  |lst xs =>
   cases ds with
   |nil=>exact nn h
   |cons b ds =>
    cases b with
    |lst ys =>
     cases ds with
     |nil=>exact .lst xs ys rfl (Option.some.inj h).symm
     |cons _ _=>exact nn h
    |_=>exact nn h
  |_=>exact nn h
theorem P8 (hg:Gl X "zip")(hm:X.mg "zip" = none)(ha:PA X [e1,e2] (tDA X f))(hs:starEach [e1,e2] X.env=(false,eval e1 X.env)::starEach [e2] X.env:=by rfl)(hpl:(backTo pos (starEach [e2] X.env)).any (·.1)=false:=by rfl) :
  PI X (.Tuple elts x1 tpos) (.Call (.Name "zip" p) [e1,e2] [] pos) (tDI X (cG f)):=by
 intro pins s σ H R I h
 obtain⟨P,α,env,S,r,re,af⟩:=h
 refine Call_ (k7 I hg hm boot_zip (PyProof.Rows.callWith_type1 (thn (wH ha I r re af pos) fun us s1 ⟨vs,H1,P1,α1,ds,S1,I1,rv,r1,re1,rp,e1,e2,af1⟩=>?_) hs hpl))
 obtain⟨its,hi,q⟩:=vQ af1
 cases KJ hi with
 |tup xs ys ed e =>
  subst ed e
  obtain⟨v,w,u,x,rfl,rfl,p1,p2,q1,q2⟩:=gI rp rv
  simp only[Rep] at p1 p2
  obtain⟨a,va,rfl,qa,ta⟩:=p1
  obtain⟨b,vb,rfl,qb,tb⟩:=p2
  cases (show u=Value.ref a from q1)
  cases (show x=Value.ref b from q2)
  exact QF (tp:=true) I1 r1 qa qb ta tb (q.base e1 e2)
 |lst xs ys ed e =>
  subst ed e
  obtain⟨v,w,u,x,rfl,rfl,p1,p2,q1,q2⟩:=gI rp rv
  simp only[Rep] at p1 p2
  obtain⟨a,va,rfl,qa,ta⟩:=p1
  obtain⟨b,vb,rfl,qb,tb⟩:=p2
  cases (show u=Value.ref a from q1)
  cases (show x=Value.ref b from q2)
  exact QF (tp:=false) I1 r1 qa.l qb.l ta tb (q.base e1 e2)
end
end _D
end
section
namespace _D
open PySem PySem.Spec PyProof.Rows _L
def Src (K:PySem.W.Frag)(mg:Str→Option Value)(x:Str)(st:Stmt)(ps:List Str):Prop:=∃ f fd,mg x=some (.ref f)∧Fun K x x st f fd∧yV K fd ps []
def Lk (K:PySem.W.Frag)(f:Addr)(fd:FuncData):Prop:=∃ oc od osl,K.lookup f=some ⟨oc,od,.func fd,osl⟩
theorem pU {K:PySem.W.Frag}{x q:Str}{st:Stmt}{f:Addr}{fd:FuncData}(F:Fun K x q st f fd):Lk K f fd:=by
 obtain⟨oc,od,kV,doc,pm,an,cdv,ct,osl,_,lk,_⟩:=F.ex
 exact⟨oc,od,osl,lk⟩
theorem Lk.one {K:PySem.W.Frag}{f:Addr}{fd fd':FuncData}(h:Lk K f fd)(h':Lk K f fd'):fd=fd':=by
 obtain⟨oc,od,osl,e⟩:=h
 obtain⟨oc',od',osl',e'⟩:=h'
 rw[e] at e'
 cases e'
 rfl
def Def (P:Program)(w:World)(K:PySem.W.Frag)(mg:Str→Option Value)(base:Heap)(cm:Bool)(k:Nat)(x:Str)(n:Nat)(F:DF):Prop:=
 ∃ f fd ps,ps.length=n∧mg x=some (.ref f)∧PySem.W.keepIn K (.ref f)=true∧yV K fd ps [] ∧ Lk K f fd∧FnX P w K mg base cm k f fd ps (spD K n F)
def nZ (P:Program)(w:World)(K:PySem.W.Frag)(mg:Str→Option Value)(base:Heap)(cm:Bool)(k:Nat)(x:Str)(ps:List Str)(F:DF):Prop:=
 ∃ f fd,mg x=some (.ref f)∧PySem.W.keepIn K (.ref f)=true∧yV K fd ps [] ∧ Lk K f fd∧FnX P w K mg base cm k f fd ps (spD K ps.length F)
section
variable {P:Program}{w:World}{K:PySem.W.Frag}{mg:Str→Option Value}{base:Heap}{cm:Bool}
theorem WV {x:Str}{f:Addr}{fd:FuncData}{cdv:Value}(hm:mg x=some (.ref f))(lk:Lk K f fd)(h:fd.code=cdv∧Mod K mg base):kI K x cdv:=fun c T e=>by
 obtain⟨oc,od,osl,lk⟩:=lk
 rw[← h.1]
 exact PySem.W.law_code h.2.kin h.2.glob e hm (h.2.kin _ _ lk) rfl
theorem GY {x:Str}{st:Stmt}{N ps:List Str}{k:Nat}{g:DS}(h:Src K mg x st ps)(S:FnScope N ps (qH st))
  (hbody:∀ (f:Addr) (cdv:Value) (A:Around) (outer:List Env) (s:Shared) (H:Hp) (E:XK),kI K x cdv→RoomC cm k (A.deeper (envOfC x (qH st) s.heap.objs.size f cdv)) →
   PSs (cxC cm P w K mg base N x (qH st) f cdv A outer s H E) (zK st) (tDS (cxC cm P w K mg base N x (qH st) f cdv A outer s H E) g)):Def P w K mg base cm (k+1) x ps.length (qT N.length g):=by
 obtain⟨f,fd,hm,F,hb⟩:=h
 exact⟨f,fd,ps,rfl,hm,F.kp,hb,pU F,fnX F S fun cdv A outer s H E hc hr=>hbody f cdv A outer s H E (WV hm (pU F) hc) hr⟩
theorem VA {x:Str}{st:Stmt}{N ps:List Str}{k:Nat}{g:DS}(h:Src K mg x st ps)(S:FnScope N ps (qH st))
  (hbody:∀ (f:Addr) (cdv:Value) (A:Around) (outer:List Env) (s:Shared) (H:Hp) (E:XK),kI K x cdv→RoomC cm k (A.deeper (envOfC x (qH st) s.heap.objs.size f cdv)) →
   PSs (cxC cm P w K mg base N x (qH st) f cdv A outer s H E) (zK st) (tDS (cxC cm P w K mg base N x (qH st) f cdv A outer s H E) g)):nZ P w K mg base cm (k+1) x ps (qT N.length g):=by
 obtain⟨f,fd,hm,F,hb⟩:=h
 exact⟨f,fd,hm,F.kp,hb,pU F,fnX F S fun cdv A outer s H E hc hr=>hbody f cdv A outer s H E (WV hm (pU F) hc) hr⟩
theorem Def.any {x:Str}{k n:Nat}{F:DF}(h:Def P w K mg base false k x n F):Def P w K mg base cm k x n F:=by
 obtain⟨f,fd,ps,hn,hm,kp,hb,hl,X⟩:=h
 exact⟨f,fd,ps,hn,hm,kp,hb,hl,X.any⟩
end
section
variable {X:Cx}{cm:Bool}{k n:Nat}{F:DF}{x:Str}{p pos:Pos}{e:Expr}{es:List Expr}{fa:DA}
theorem dcN (G:Def X.prog X.w X.K X.mg X.base cm k x n F)(hr:RoomC cm k X.A)(hF:Fn1 X)(hg:Gl X x)(ha:PA X (e::es) (tDA X fa))(hdb:(x == ("__debug__" : Str))=false:=by decide)(he:starEach (e::es) X.env=(false,eval e X.env)::starEach es X.env:=by rfl)(hpl:(backTo pos (starEach es X.env)).any (·.1)=false:=by rfl) :
  PE X (.Call (.Name x p) (e::es) [] pos) (tD X (qO n F fa)):=by
 obtain⟨f,fd,ps,hn,hm,kp,hb,hl,G⟩:=G
 exact V4 G hr hF hg hm kp hb ha hdb he hpl
theorem dcL (G:Def X.prog X.w X.K X.mg X.base cm k x n F)(hr:RoomC cm k X.A)(hF:Fn1 X)(hg:Gl X x)(ha:PA X (e::es) (tDA X fa))(hdb:(x == ("__debug__" : Str))=false:=by decide)(he:starEach (e::es) X.env=(false,eval e X.env)::starEach es X.env:=by rfl)(hpl:(backTo pos (starEach es X.env)).any (·.1)=false:=by rfl) :
  PE X (.Call (.Name x p) (e::es) [] pos) (tD X (qO n (uG F) fa)):=by
 obtain⟨f,fd,ps,hn,hm,kp,hb,hl,G⟩:=G
 exact Z9 G hr hF hg hm kp hb ha hdb he hpl
theorem GN {C:Addr}(hg:Gl X x)(hm:X.mg x=some (.ref C))(hk:PySem.W.keepIn X.K (.ref C)=true)(hd:(x == ("__debug__" : Str))=false:=by decide):PE X (.Name x pos) (tD X (dC (.obj C))):=
 rC hg hm (v:=.ref C) rfl (fun P α => by simp only[Rep];exact⟨trivial,hk⟩) hd
end
def wB:DF:=fun ds S=>match ds with
 |[.dct0]=>.bad
 |_=>lY ds S
theorem YR {X:Cx}:wX X (.builtin "len") wB:=G7 trivial
def gX:DE:=fun _ _=>.bad
theorem GM {X:Cx}{e:Expr}:PE X e (tD X gX):=fun _ _ _ _ _ _ ⟨_,_,_,_,_,_,h⟩=>False.elim h
theorem WU:∃ C:Int→Int→Bool,C=lD:=⟨_,rfl⟩
noncomputable def WT:Int→Int→Bool:=Classical.choose WU
theorem lE:WT=lD:=Classical.choose_spec WU
noncomputable def xW:G2:=i2 WT fun i j=>.int (i*j)
theorem UN {X:Cx}:OpD X (binaryOp .Mult) xW:=by
 unfold xW
 rw[lE]
 exact UM
theorem hu1 {cm:Bool}{k:Nat}{A:Around}(hr:RoomC cm k A):A.units+1<cLine:=by have:=hr.units;omega
end _D
end
section
namespace _D
open PySem PySem.Spec PyProof.Rows _L
def okO (F:DF):DF:=fun ds S=>match F ds S with
 |.ok d S'=>.ok d S'
 |_=>.bad
theorem dJ {F:DF}{ds:List D}{S S':Sto}{d:D}(h:F ds S=.ok d S'):okO F ds S=.ok d S':=by unfold okO;rw[h]
section
variable {X:Cx}{cm:Bool}{k n:Nat}{F:DF}{x:Str}{p pos:Pos}{e:Expr}{es:List Expr}{fa:DA}{f:Addr}{fd:FuncData}{ps:List Str}
theorem JU {pins:List (Addr × Obj)}{σ : _L.St}{H:Hp}{s:Shared}{Q:VK}{us:List Value}{vs:List V}{P:Hp}{α : List Addr}{ds:List D}{S:Sto}(G:FnX X.prog X.w X.K X.mg X.base cm k f fd ps (spD X.K n F))(hr:RoomC cm k X.A)(hb:yV X.K fd ps [])
  (I:Inv X pins σ H s) (r:Rel X.K H P α S) (rv:qN vs us) (rp:qE X.K P α ds vs) (hn:ds.length=n) (af:qU X P α (okO F ds S) Q):wpAny (model X.prog X.w) X.A (call (.ref f) us) (EP X pins σ Q) X.xe s:=by
 have hvn:vs.length=n:=by rw[← rp.length];exact hn
 have hsp:spD X.K n F vs H Q fun _ _ _=>False:=by
  refine⟨hvn,P,α,ds,S,r,rp,?_⟩
  unfold okO at af
  cases q:F ds S with
  |ok d S'=>rw[q] at af;exact af
  |ex c x S'=>rw[q] at af;exact False.elim af
  |bad=>rw[q] at af;exact af
 have hl:us.length=ps.length:=by rw[← rv.length];exact G.len _ _ _ _ hsp
 have hb':=hb s us I.kIn (by rw[List.append_nil];exact hl)
 rw[List.append_nil] at hb'
 refine wpAny_call (codeAny_mono (G.run X.A X.stack s H ⟨us,[]⟩ us vs Q _ hr I.env0 hb' rv hsp) fun r s' hq=>?_)
 cases r with
 |error u =>
  obtain⟨_,_,_,_,_,_,_,_,_,_,_,_,z⟩:=hq
  exact False.elim z
 |ok fl =>
  cases fl with
  |ret u=>exact I.after hq
  |next=>exact False.elim hq
  |brk=>exact False.elim hq
  |cont=>exact False.elim hq
theorem dcO (G:Def X.prog X.w X.K X.mg X.base cm k x n F)(hr:RoomC cm k X.A)(hg:Gl X x)(ha:PA X (e::es) (tDA X fa))(hdb:(x == ("__debug__" : Str))=false:=by decide)(he:starEach (e::es) X.env=(false,eval e X.env)::starEach es X.env:=by rfl)(hpl:(backTo pos (starEach es X.env)).any (·.1)=false:=by rfl) :
  PE X (.Call (.Name x p) (e::es) [] pos) (tD X (qO n (okO F) fa)):=by
 obtain⟨f,fd,ps,hn0,hm,hk,hb,hl,G⟩:=G
 intro pins s σ H Q I h
 obtain⟨P,α,env,S,r,re,af⟩:=h
 refine wpAny_Call_Name_kw (vN I hg hm ?_ hdb)
 refine PySem.W.callWith_K (h₀:=X.base) I.ok.mod.kin hk (thn (wH ha I r re af pos) fun us s1 ⟨vs,H1,P1,α1,ds,S1,I1,rv,r1,re1,rp,e1,e2,af1⟩=>⟨I1.kIn,?_⟩) he hpl
 obtain⟨hn,af2⟩:=p6 (env:=env) (S:=S) af1
 exact JU G hr hb I1 r1 rv rp hn (qU.base e1 e2 af2)
end
end _D
end
section
namespace _D
open PySem PySem.Spec PyProof.Rows _L
structure QE (X:Cx)(e:Expr)(f:DE):Prop where
 get:PE X e (tD X f)
structure QT (X:Cx)(e:Expr)(t:DT):Prop where
 get:PT X e (tDT X t)
structure QW (X:Cx)(e:Expr)(t:DT):Prop where
 get:PWD X e t
structure QA (X:Cx)(es:List Expr)(f:DA):Prop where
 get:PA X es (tDA X f)
structure QO (X:Cx)(e:Option Expr)(f:DO):Prop where
 get:PO X e (tDO X f)
structure QG (X:Cx)(t:Expr)(g:DG):Prop where
 get:PG X t (tDG X g)
structure QGs (X:Cx)(ts:List Expr)(g:DGs):Prop where
 get:PGs X ts (sH X g)
structure QI (X:Cx)(tg it:Expr)(f:DI):Prop where
 get:PI X tg it (tDI X f)
structure QS (X:Cx)(s:Stmt)(f:DS):Prop where
 get:PS X s (tDS X f)
structure QB (X:Cx)(ss:List Stmt)(f:DS):Prop where
 get:PSs X ss (tDS X f)
structure QJ (X:Cx)(es:List Expr)(fs:List DE):Prop where
 get:PJ X es fs
structure ZOp (X:Cx)(f:Value→Value→Sem Value)(g:G2):Prop where
 get:OpD X f g
structure ZUn (X:Cx)(f:Value→Sem Value)(g:D→Sto→Res D):Prop where
 get:UnD X f g
structure ZIx (X:Cx)(g:G2):Prop where
 get:IxD X g
structure ZCall (X:Cx)(f:Value)(F:DF):Prop where
 get:wX X f F
structure ZMt (X:Cx)(id:String)(g:D→List D→Sto→Res D):Prop where
 get:MtD X id g
structure ZSet (X:Cx)(g:G3):Prop where
 get:l7 X (nW X g)
structure ZPass (X:Cx):Prop where
 get:PassesOwn (model X.prog X.w) X.A X.env X.xe
section
variable {X:Cx}{a b c e e1 e2 o i:Expr}{es rest:List Expr}{fa fb fc fe fo fi:DE}{ta tb:DT}{fA:DA}{f g:DS}{st:Stmt}{sts:List Stmt}{x:Str}{p pos:Pos}{n k:Nat}{cm:Bool}{F:DF}{G2':G2}
theorem oS {j}:QE X (.Constant .none j pos) (dC .non):=⟨GT⟩
theorem YB {v j}:QE X (.Constant (.bool v) j pos) (dC (.bl v)):=⟨N7⟩
theorem MA {v j}:QE X (.Constant (.int v) j pos) (dC (.int v)):=⟨GR⟩
theorem MD {v j}:QE X (.Constant (.str v) j pos) (dC (.str v)):=⟨GW⟩
theorem ME (m:Nat)(hN:X.N[m]? = some x)(hv:Vis X.env.scope x)(hd:(x == ("__debug__" : Str))=false)(hcd:(x == ("__classdict__" : Str))=false):QE X (.Name x pos) (qB m):=⟨dv m hN hv hd hcd⟩
theorem J8 {nm:String}(hg:Gl X x)(hm:X.mg x=none)(hv:bootBuiltins x=some (.type nm))(hn:x ≠ "__name__")(hd:(x == ("__debug__" : Str))=false):QE X (.Name x pos) (dC (.ty nm)):=⟨V3 hg hm hv hn hd⟩
theorem M7 {C:Addr}(hg:Gl X x)(hm:X.mg x=some (.ref C))(hk:PySem.W.keepIn X.K (.ref C)=true)(hd:(x == ("__debug__" : Str))=false):QE X (.Name x pos) (dC (.obj C)):=⟨GN hg hm hk hd⟩
theorem JA {v:Int}(hg:Gl X x)(hm:∃ t,X.mg x=some (.int v t))(hd:(x == ("__debug__" : Str))=false):QE X (.Name x pos) (dC (.int v)):=⟨let ⟨_,h⟩:=hm;rC (v:=.int v) hg h ⟨_,rfl⟩ (fun _ _=>by simp only[Rep]) hd⟩
theorem M6:QE X e gX:=⟨GM⟩
theorem LQ {op:UnaryOp}{h:D→Sto→Res D}(ho:ZUn X (unaryOp op) h)(ha:QE X a fa):QE X (.UnaryOp op a pos) (d1 h fa):=⟨NB ho.1 ha.1⟩
theorem MC (ha:QE X a fa):QE X (.UnaryOp .Not a pos) (Z6 fa):=⟨GU ha.1⟩
theorem LP {op:Operator}(ho:ZOp X (binaryOp op) G2')(ha:QE X a fa)(hb:QE X b fb):QE X (.BinOp a op b pos) (d2 G2' fa fb):=⟨NA ho.1 ha.1 hb.1⟩
theorem oR {op:CmpOp}(ho:ZOp X (compareOp op) G2')(ha:QE X a fa)(hb:QE X b fb)(hm:behindInMarks op b=false:=by first|exact k9 _|with_unfolding_all rfl):QE X (.Compare a [op] [b] pos) (d2 G2' fa fb):=⟨GO ho.1 ha.1 hb.1 hm⟩
theorem XY {op op':CmpOp}{g':G2}(ho:ZOp X (compareOp op) G2')(ho':ZOp X (compareOp op') g')(ha:QE X a fa)(hb:QE X b fb)(hc:QE X c fc)(hm:lastMarks [op,op'] [b,c]=false:=by with_unfolding_all rfl):QE X (.Compare a [op,op'] [b,c] pos) (lO G2' g' fa fb fc):=⟨ZC ho.1 ho'.1 ha.1 hb.1 hc.1 hm⟩
theorem oT {op} (h:QE X a fa):QE X (.BoolOp op [a] pos) fa:=⟨GV h.1⟩
theorem oP (ha:QE X a fa)(hb:QE X (.BoolOp .And (b::rest) pos) fb):QE X (.BoolOp .And (a::b::rest) pos) (mC fa fb):=⟨GK ha.1 hb.1⟩
theorem oU {x1} (h:QA X es fA):QE X (.Tuple es x1 pos) (qZ fA):=⟨GX h.1⟩
theorem MB (h:QA X es fA):QE X (.List es pos) (zW fA):=⟨GS h.1⟩
theorem JC (h:QA X es fA):QE X (.List es pos) (fD fA):=⟨V8 h.1⟩
theorem M8:QE X (.Dict [] [] pos) cE:=⟨GP⟩
theorem J9:QE X (.Dict [] [] pos) cF:=⟨V6⟩
theorem LO (ho:ZIx X G2')(ha:QE X a fa)(hb:QE X b fb)(hs:m6 b:=by intro _ _;rfl):QE X (.Subscript a b pos) (d2 G2' fa fb):=⟨N9 ho.1 ha.1 hb.1 hs⟩
theorem W0 {lo hi:Option Expr}{fl fh:DO}{p2:Pos}(he:QE X e fe)(hl:QO X lo fl)(hu:QO X hi fh):QE X (.Subscript e (.Slice lo hi none p2) pos) (dSl fe fl fh):=⟨ZE he.1 hl.1 hu.1⟩
theorem JG:QO X none jY:=⟨VG⟩
theorem JH (he:QE X e fe):QO X (some e) (xX fe):=⟨VH he.1⟩
theorem M9 (he:QE X e fe):QE X (.FormattedValue e (-1) none pos) (d1 jP fe):=⟨GQ he.1⟩
theorem MI:QJ X [] []:=⟨FZ⟩
theorem JF {fs:List DE}(he:QE X e fe)(hr:QJ X es fs):QJ X (e::es) (fe::fs):=⟨UX he.1 hr.1⟩
theorem JB {fs:List DE}(h:QJ X (e1::e2::rest) fs):QE X (.JoinedStr (e1::e2::rest) pos) (nO fs):=⟨V7 h.1⟩
theorem oN:QA X [] qC:=⟨GF⟩
theorem eK (ha:QE X e fa)(hr:QA X es fA)(hs:starEach (e::es) X.env=(false,eval e X.env)::starEach es X.env:=by rfl):QA X (e::es) (qA fa fA):=⟨V1 ha.1 hr.1 hs⟩
theorem qcN (G:Def X.prog X.w X.K X.mg X.base cm k x n F)(hr:RoomC cm k X.A)(hF:Fn1 X)(hg:Gl X x)(ha:QA X (e::es) fA)(hdb:(x == ("__debug__" : Str))=false)(he:starEach (e::es) X.env=(false,eval e X.env)::starEach es X.env:=by rfl)(hpl:(backTo pos (starEach es X.env)).any (·.1)=false:=by rfl):QE X (.Call (.Name x p) (e::es) [] pos) (qO n F fA):=⟨dcN G hr hF hg ha.1 hdb he hpl⟩
theorem qcL (G:Def X.prog X.w X.K X.mg X.base cm k x n F)(hr:RoomC cm k X.A)(hF:Fn1 X)(hg:Gl X x)(ha:QA X (e::es) fA)(hdb:(x == ("__debug__" : Str))=false)(he:starEach (e::es) X.env=(false,eval e X.env)::starEach es X.env:=by rfl)(hpl:(backTo pos (starEach es X.env)).any (·.1)=false:=by rfl):QE X (.Call (.Name x p) (e::es) [] pos) (qO n (uG F) fA):=⟨dcL G hr hF hg ha.1 hdb he hpl⟩
theorem XX {id:String}(hc:ZCall X (.builtin id) F)(hg:Gl X x)(hm:X.mg x=none)(hv:bootBuiltins x=some (.builtin id))(ha:QA X (e::es) fA)(hn:x ≠ "__name__")(hdb:(x == ("__debug__" : Str))=false)(he:starEach (e::es) X.env=(false,eval e X.env)::starEach es X.env:=by rfl)(hpl:(backTo pos (starEach es X.env)).any (·.1)=false:=by rfl):QE X (.Call (.Name x p) (e::es) [] pos) (qL F fA):=⟨Z7 hc.1 hg hm hv ha.1 hn hdb he hpl⟩
theorem oQ {T:String}(hc:ZCall X (.type T) F)(hg:Gl X x)(hm:X.mg x=none)(hv:bootBuiltins x=some (.type T))(ha:QA X (e::es) fA)(hn:x ≠ "__name__")(hdb:(x == ("__debug__" : Str))=false)(he:starEach (e::es) X.env=(false,eval e X.env)::starEach es X.env:=by rfl)(hpl:(backTo pos (starEach es X.env)).any (·.1)=false:=by rfl):QE X (.Call (.Name x p) (e::es) [] pos) (qL F fA):=⟨i7 hc.1 hg hm hv ha.1 hn hdb he hpl⟩
theorem fQ {T id:String}{name:Str}{apos:Pos}{h:D→List D→Sto→Res D}(pa:PlainAttrs T)(slot:Slot T name id)(hty:typeOf (.builtin id)=pure (.type "method_descriptor"))(hT:T = "list" ∨ T = "dict" ∨ T = "int" ∨ T = "str")(hm:ZMt X id h)(ho:QE X o fo)(ha:QA X (e::es) fA)
  (hbase:attributeBase o name X.env (eval o X.env)=eval o X.env:=by rfl)
  (hfew:((backTo pos (starEach (e::es) X.env)).all (fun x=>!x.1)&&(backToKw pos (keywordEach [] X.env)).all (fun x=>x.1.isSome)&&decide ((e::es).length+([]:List Keyword).length+(if ([] : List Keyword).isEmpty then 0 else 1)<30))=true:=by rfl)
  (hline:(apos.endLine == pos.line)=true:=by rfl) (hs:starEach (e::es) X.env=(false,eval e X.env)::starEach es X.env:=by rfl) (hplain:(backTo pos (starEach es X.env)).any (·.1)=false:=by rfl):QE X (.Call (.Attribute o name apos) (e::es) [] pos) (dBm T h fo fA):=⟨N8 pa slot hty hT hm.1 ho.1 ha.1 hbase hfew hline hs hplain⟩
theorem YD (h:QW X e ta):QT X e ta:=⟨PWD.pt h.1⟩
theorem eP (ha:QT X a ta):QW X (.BoolOp .And [a] pos) ta:=⟨VQ ha.1⟩
theorem fR (ha:QT X a ta):QW X (.BoolOp .Or [a] pos) ta:=⟨PV ha.1⟩
theorem Q1 (ha:QT X a ta)(hb:QW X (.BoolOp .And (b::rest) pos) tb):QW X (.BoolOp .And (a::b::rest) pos) (zM ta tb):=⟨PU ha.1 hb.1⟩
theorem nS (ha:QT X a ta)(hb:QW X (.BoolOp .Or (b::rest) pos) tb):QW X (.BoolOp .Or (a::b::rest) pos) (jO ta tb):=⟨NI ha.1 hb.1⟩
theorem MP (ha:QT X a ta):QT X (.UnaryOp .Not a pos) (vV ta):=⟨PP ha.1⟩
theorem oZ {op:CmpOp}(ho:ZOp X (compareOp op) G2')(ha:QE X a fa)(hb:QE X b fb)(hm:behindInMarks op b=false:=by first|exact k9 _|with_unfolding_all rfl):QT X (.Compare a [op] [b] pos) (dTr (d2 G2' fa fb)):=⟨PN ho.1 ha.1 hb.1 hm⟩
theorem Q0 (ha:QE X a fa)(he:∀ whole,isTrue a X.env whole=(do let v ← whole;standAt a.pos;holding [v] (truthy v)):=by intro _;rfl):QT X a (dTr fa):=⟨PQ ha.1 he⟩
theorem JD {m:Nat}(hN:X.N.Nodup)(hi:X.N[m]? = some x)(hx:Loc X.env.scope x)(hf:X.fn x=true∨X.env.scope.names.lookup x=some .local):QG X (.Name x pos) (gNm m):=⟨VB hN hi hx hf⟩
theorem eM:QGs X [] jD:=⟨VC⟩
theorem dR {h:DG}{gs:DGs}(h1:QG X e h)(h2:QGs X es gs)(hs:(assignEach (e::es) X.env).map (·.2)=assign e X.env::(assignEach es X.env).map (·.2):=by rfl):QGs X (e::es) (xA h gs):=⟨ZG h1.1 h2.1 hs⟩
theorem oV {kk:Nat}{gs:DGs}(hc:X.calm=true)(h:QGs X es gs)(hn:(assignEach es X.env).length=n:=by rfl)(hst:(assignEach es X.env).findIdx? (·.1)=none:=by rfl):QG X (.Tuple es kk pos) (gTp n gs):=⟨P6 hc h.1 hn hst⟩
theorem MF {h:G3}(ho:QE X o fo)(hi:QE X i fi)(hs:ZSet X h)
  (ha:∀ v,assign (.Subscript o i pos) X.env v=(do
   let ov ← holding [v] (eval o X.env)
   let iv ← holding [v,ov] (eval i X.env)
   standAt pos
   holding [v,ov,iv] (setItem ov iv v)
   release [v,ov,iv] []):=by intro _;rfl):QG X (.Subscript o i pos) (gSb fo fi h):=⟨GZ ho.1 hi.1 hs.1 ha⟩
theorem MH {tg:Expr}(ha:QE X e fa):QI X tg e (wG fa):=⟨P7 ha.1⟩
theorem W1 {tg:Expr}(hg:Gl X "range")(hm:X.mg "range" = none)(ha:QA X (e::es) fA)(hs:starEach (e::es) X.env=(false,eval e X.env)::starEach es X.env:=by rfl)(hpl:(backTo pos (starEach es X.env)).any (·.1)=false:=by rfl):QI X tg (.Call (.Name "range" p) (e::es) [] pos) (yB fA):=⟨ZH hg hm ha.1 hs hpl⟩
theorem oX {elts:List Expr}{x1:Nat}{tpos:Pos}(hg:Gl X "zip")(hm:X.mg "zip" = none)(ha:QA X [e1,e2] fA)(hs:starEach [e1,e2] X.env=(false,eval e1 X.env)::starEach [e2] X.env:=by rfl)(hpl:(backTo pos (starEach [e2] X.env)).any (·.1)=false:=by rfl):QI X (.Tuple elts x1 tpos) (.Call (.Name "zip" p) [e1,e2] [] pos) (cG fA):=⟨P8 hg hm ha.1 hs hpl⟩
theorem oO:QB X [] x8:=⟨PC⟩
theorem fP (h:QS X st f):QB X [st] f:=⟨PD h.1⟩
theorem pZ (h1:QS X st f)(h2:QB X sts g):QB X (st::sts) (qR f g):=⟨VI h1.1 h2.1⟩
theorem JI (he:QE X e fa)(hs:swapsWith e none pos.line X.env=pure false:=by rfl):QS X (.Expr e pos) (xN fa):=⟨VJ he.1 hs⟩
theorem oY (he:QE X e fa):QS X (.Return (some e) pos) (zB fa):=⟨PH he.1⟩
theorem YC {as bs:List Stmt}(hc:QT X c ta)(ha:QB X as f)(hb:QB X bs g):QS X (.If c as bs pos) (sIf ta f g):=⟨NF hc.1 ha.1 hb.1⟩
theorem MK {tg iter:Expr}{body:List Stmt}{fI:DI}{h:DG}(hp:ZPass X)(hc:X.calm=true)(hi:QI X tg iter fI)(hg:QG X tg h)(hb:QB X body f)(hs:∀ x,foldedSetIterable iter X.env x=pure x:=by intro _;rfl):QS X (.For tg iter body [] pos) (vR fI h f):=⟨PB hp.1 hc hi.1 hg.1 hb.1 hs⟩
theorem MM {m:Nat}{pos':Pos}(hN:X.N.Nodup)(he:QE X e fa)(hi:X.N[m]? = some x)(hx:Loc X.env.scope x)(hs:swapsWith e (some (.Name x pos')) pos.line X.env=pure false)(hf:X.fn x=true∨X.env.scope.names.lookup x=some .local):QS X (.Assign [.Name x pos'] e pos) (zG fa (gNm m)):=⟨PL hN he.1 hi hx hs hf⟩
theorem MJ {tg:Expr}{h:DG}(he:QE X e fa)(hg:QG X tg h)(hs:swapsWithSole [tg] e pos.line X.env=pure false:=by rfl)(hw:swappedStores [tg] e X.env=pure none:=by rfl)(h1:(assignEach [tg] X.env).map (·.2)=[assign tg X.env]:=by rfl):QS X (.Assign [tg] e pos) (zG fa h):=⟨P9 he.1 hg.1 hs hw h1⟩
theorem ML {m l:Nat}{y:Str}{px py pt:Pos} {kt k2 pt2} (hc:X.calm=true) (hN:X.N.Nodup) (ha:QA X [a,b] fA) (hi:X.N[m]? = some x) (hj:X.N[l]? = some y) (hij:m≠l) (hx:X.env.scope.names.lookup x=some .local) (hy:X.env.scope.names.lookup y=some .local)
  (hw:swappedStores [.Tuple [.Name x px,.Name y py] kt pt] (.Tuple [a,b] k2 pt2) X.env=pure (some [x,y]):=by rfl) (hs:swapsWithSole [.Tuple [.Name x px,.Name y py] kt pt] (.Tuple [a,b] k2 pt2) pos.line X.env=pure false:=by rfl) :
  QS X (.Assign [.Tuple [.Name x px,.Name y py] kt pt] (.Tuple [a,b] k2 pt2) pos) (bT m l fA):=⟨PF hc hN ha.1 hi hj hij hx hy hw hs⟩
theorem JK {m l q:Nat}{y z:Str}{px py pz pt:Pos} {kt k2 pt2} (hc:X.calm=true) (hN:X.N.Nodup) (ha:QA X [a,b,c] fA) (hi:X.N[m]? = some x) (hj:X.N[l]? = some y) (hk:X.N[q]? = some z) (hij:m≠l) (hik:m≠q) (hjk:l≠q) (hx:X.env.scope.names.lookup x=some .local) (hy:X.env.scope.names.lookup y=some .local) (hz:X.env.scope.names.lookup z=some .local)
  (hw:swappedStores [.Tuple [.Name x px,.Name y py,.Name z pz] kt pt] (.Tuple [a,b,c] k2 pt2) X.env=pure (some [x,y,z]):=by rfl) (hs:swapsWithSole [.Tuple [.Name x px,.Name y py,.Name z pz] kt pt] (.Tuple [a,b,c] k2 pt2) pos.line X.env=pure false:=by rfl) :
  QS X (.Assign [.Tuple [.Name x px,.Name y py,.Name z pz] kt pt] (.Tuple [a,b,c] k2 pt2) pos) (b7 m l q fA):=⟨VM hc hN ha.1 hi hj hk hij hik hjk hx hy hz hw hs⟩
theorem W3 {C Ae:Addr}{np cpos:Pos}(hc:X.calm=true)(hF:Fn1 X)(hg:Gl X x)(hm:X.mg x=some (.ref C))(hx:bJ X.K C Ae=true)(ha:QA X (e::rest) fA)(hdb:(x == ("__debug__" : Str))=false)(he:starEach (e::rest) X.env=(false,eval e X.env)::starEach rest X.env:=by rfl)(hpl:(backTo cpos (starEach rest X.env)).any (·.1)=false:=by rfl) :
  QS X (.Raise (some (.Call (.Name x np) (e::rest) [] cpos)) none pos) (pJ (.ref C) fA):=⟨ZK hc hF hg hm hx ha.1 hdb he hpl⟩
theorem MN {nm:Str}{C0:Addr}{m:Nat}{body:List Stmt}{b₀:Stmt}{suite:List Stmt}{np hpos:Pos}{cs:List Value}(hF:Fn1 X)(hb:∀ E pn,ZPass (Cx.tryIn X E pn)→QB (Cx.tryIn X E pn) body f)(hs:∀ e,QB (Cx.suite X e) (b₀::suite) g)(hg:Gl X x)(hm:X.mg x=some (.ref C0))(hcs:∀ c∈cs,PySem.W.exmOne X.K c (.ref C0)=some true)(hN:X.N.Nodup)(hi:X.N[m]? = some nm)(hlo:X.env.scope.names.lookup nm=some .local)(hdb:(x == ("__debug__" : Str))=false)(hn:X.N.length=n) :
  QS X (.Try body [.ExceptHandler (some (.Name x np)) (some nm) (b₀::suite) hpos] [] [] pos) (bU n m cs f g):=⟨hn▸PM hF (fun E pn hp=>(hb E pn ⟨hp⟩).1) (fun e=>(hs e).1) hg hm hcs hN hi hlo hdb⟩
theorem DD:ZOp X (binaryOp .Add) zJ:=⟨F9⟩
theorem DW:ZOp X (binaryOp .Sub) vM:=⟨FE⟩
theorem DP:ZOp X (binaryOp .Mult) xW:=⟨UN⟩
theorem DH:ZOp X (binaryOp .FloorDiv) mK:=⟨FA⟩
theorem DN:ZOp X (binaryOp .Mod) kT:=⟨FC⟩
theorem DU:ZOp X (binaryOp .Pow) pC:=⟨FD⟩
theorem RK:ZOp X (compareOp .Lt) gLt:=⟨L7⟩
theorem RJ:ZOp X (compareOp .LtE) gLe:=⟨L6⟩
theorem RH:ZOp X (compareOp .Gt) gGt:=⟨Y7⟩
theorem RG:ZOp X (compareOp .GtE) gGe:=⟨L4⟩
theorem TY:ZOp X (compareOp .Is) gIs:=⟨L5⟩
theorem TX (hr:RoomC cm k X.A):ZOp X (compareOp .Eq) gEq:=⟨L3 hr.units⟩
theorem N1 (hr:RoomC cm k X.A):ZOp X (compareOp .NotEq) gNe:=⟨Y8 hr.units⟩
theorem DQ (hr:RoomC cm k X.A):ZOp X (compareOp .NotEq) (v7 gNe):=⟨OpD.look (Y8 hr.units)⟩
theorem DR:ZUn X (unaryOp .USub) d7:=⟨TQ⟩
theorem RI:ZIx X gIx:=⟨SV⟩
theorem YK:ZCall X (.builtin "isinstance") xE:=⟨aW⟩
theorem TZ {cl:List Addr}(h:ClsK X.K cl):ZCall X (.builtin "isinstance") (zN cl):=⟨YO h⟩
theorem YL:ZCall X (.builtin "len") wB:=⟨YR⟩
theorem YJ (hc:X.calm=true):ZCall X (.builtin "all") (lW false):=⟨KZ false hc⟩
theorem DM:ZCall X (.type "int") lX:=⟨G6⟩
theorem WI:ZMt X "list.append" wJ:=⟨o6⟩
theorem KE:ZMt X "list.count" fF:=⟨XG⟩
theorem KG:ZMt X "list.index" fG:=⟨XH⟩
theorem DV (hr:RoomC cm k X.A):ZSet X yG:=⟨MZ (hu1 hr)⟩
end
section
variable {P:Program}{w:World}{K:PySem.W.Frag}{mg:Str→Option Value}{base:Heap}{cm:Bool}
theorem h9 {N:List Str}{qual:Str}{scope:Scope}{f:Addr}{cd:Value}{A:Around}{outer:List Env}{s:Shared}{H:Hp}{E:XK}:ZPass (cxC cm P w K mg base N qual scope f cd A outer s H E):=⟨Z5⟩
theorem SL {x:Str}{st:Stmt}{N ps:List Str}{k:Nat}{g:DS}{body:List Stmt}(h:Src K mg x st ps)(S:FnScope N ps (qH st))(hbd:zK st=body)
  (hbody:∀ (f:Addr) (cdv:Value) (A:Around) (outer:List Env) (s:Shared) (H:Hp) (E:XK),kI K x cdv→RoomC cm k (A.deeper (envOfC x (qH st) s.heap.objs.size f cdv)) →
   QB (cxC cm P w K mg base N x (qH st) f cdv A outer s H E) body g):Def P w K mg base cm (k+1) x ps.length (qT N.length g):=
 GY h S fun f cdv A outer s H E hc hr=>hbd▸(hbody f cdv A outer s H E hc hr).1
theorem NC {x:Str}{st:Stmt}{N ps:List Str}{k:Nat}{g:DS}{body:List Stmt}(h:Src K mg x st ps)(S:FnScope N ps (qH st))(hbd:zK st=body)
  (hbody:∀ (f:Addr) (cdv:Value) (A:Around) (outer:List Env) (s:Shared) (H:Hp) (E:XK),kI K x cdv→RoomC cm k (A.deeper (envOfC x (qH st) s.heap.objs.size f cdv)) →
   QB (cxC cm P w K mg base N x (qH st) f cdv A outer s H E) body g):nZ P w K mg base cm (k+1) x ps (qT N.length g):=
 VA h S fun f cdv A outer s H E hc hr=>hbd▸(hbody f cdv A outer s H E hc hr).1
theorem V9 {x:Str}{st:Stmt}{ps:List Str}(h:Src K mg x st ps):Def P w K mg base cm 0 x ps.length fun _ _=>.bad:=by
 obtain⟨f,fd,hm,F,hb⟩:=h
 exact⟨f,fd,ps,rfl,hm,F.kp,hb,pU F,⟨fun vs H Q E z=>z.1,fun A outer s H args us vs Q E _ _ _ _ z=>by obtain⟨_,_,_,_,_,_,_,z⟩:=z;exact False.elim z⟩⟩
end
end _D
end
section
namespace _D
open PySem PySem.Spec PyProof.Rows _L
structure QTs (X:Cx)(ifs:List Expr)(t:DT):Prop where
 get:PTs X ifs t
section
variable {X:Cx}{elt tg iter e:Expr}{ifs es:List Expr}{scope:Scope}{pos p:Pos}{N':List Str}{cap:List (Option Nat)}{fi:DI}{g:DG}{t u:DT}{fe:DE}{fa:DA}{x:Str}{cm:Bool}{k n:Nat}{F:DF}
theorem eO:QTs X [] zV:=⟨VP⟩
theorem W4 (h1:QT X e t)(h2:QTs X es u):QTs X (e::es) (zM t u):=⟨ZL h1.1 h2.1⟩
theorem qcO (G:Def X.prog X.w X.K X.mg X.base cm k x n F)(hr:RoomC cm k X.A)(hg:Gl X x)(ha:QA X (e::es) fa)(hdb:(x == ("__debug__" : Str))=false)(he:starEach (e::es) X.env=(false,eval e X.env)::starEach es X.env:=by rfl)(hpl:(backTo pos (starEach es X.env)).any (·.1)=false:=by rfl) :
  QE X (.Call (.Name x p) (e::es) [] pos) (qO n (okO F) fa):=⟨dcO G hr hg ha.1 hdb he hpl⟩
end
end _D
end
section
namespace _D
open PySem PySem.Spec PyProof.Rows _L
def stn (o:Option (Nat × MO))(S:Sto):Prop:=match o with
 |none=>True
 |some p=>S[p.1]? = some p.2
open Classical in
noncomputable def bX (o:Option (Nat × MO))(S:Sto):Bool:=decide (stn o S)
theorem xT {o:Option (Nat × MO)}{S:Sto}:bX o S=true↔stn o S:=by simp[bX]
structure ItD2 (K:PySem.W.Frag)(J:It)(P:Hp)(α : List Addr)(o:Option (Nat × MO))(ds:List D):Prop where
 go:∀ i H P1 α1 S,i<ds.length→Rel K H P1 α1 S→stn o S→qF P P1→α<+:α1→J.go i H
 yld:∀ i H x H' P1 α1 S,i<ds.length→Rel K H P1 α1 S→stn o S→qF P P1→α<+:α1→J.yld i H x H'→∃ P2 d,ds[i]? = some d∧Rel K H' P2 α1 S∧qF P1 P2∧Rep K P2 α1 d x
 stop:∀ i H P1 α1 S,ds.length≤i→Rel K H P1 α1 S→stn o S→qF P P1→α<+:α1→J.stop i H
theorem ItD.two {K:PySem.W.Frag}{J:It}{P:Hp}{α : List Addr}{ds:List D}(h:ItD K J P α ds):ItD2 K J P α none ds:=
 ⟨fun i H P1 α1 S a b _ c d=>h.go i H P1 α1 S a b c d,fun i H x H' P1 α1 S a b _ c d e=>h.yld i H x H' P1 α1 S a b c d e,fun i H P1 α1 S a b _ c d=>h.stop i H P1 α1 S a b c d⟩
abbrev DI2:=qD→Sto→Res (Option (Nat × MO) × List D)
inductive tDI2 (X:Cx)(f:DI2)(σ : _L.St)(H:Hp)(R:It→Hp→Prop):Prop
 |mk (P:Hp) (α : List Addr) (env:qD) (S:Sto) (r:Rel X.K H P α S) (re:qW X.K P α σ env) (af:qJ X P α (f env S) (fun p S'=>∀ J H' P' α',Rel X.K H' P' α' S'→qF P P'→α<+:α'→ItD2 X.K J P' α' p.1 p.2→R J H')):tDI2 X f σ H R
def wM (f:DI):DI2:=fun env S=>(f env S).bind fun ds S1=>.ok (none,ds) S1
section
variable {X:Cx}{K:PySem.W.Frag}{tg e:Expr}{fa:DE}{pos:Pos}
theorem VE {f:DI}(h:PI X tg e (tDI X f)):PI X tg e (tDI2 X (wM f)):=PI.weak h fun σ H R ⟨P,α,env,S,r,re,af⟩=>by
 refine⟨P,α,env,S,r,re,?_⟩
 unfold wM at af
 cases q:f env S with
 |bad=>rw[q] at af;exact af
 |ex c x S'=>rw[q] at af;exact af
 |ok ds S1 =>
  rw[q] at af
  exact fun J H' P' α' r' e1 e2 it=>af J H' P' α' r' e1 e2 it.two
theorem U6 {P:Hp}{α : List Addr}{a:Addr}{n:Nat}{ds:List D}(hα:α[n]? = some a):ItD2 K (Itl K a) P α (some (n,.lst ds)) ds where
 go:=fun i H P1 α1 S hi r st e e2=>by
  obtain⟨vs,z,t⟩:=r.at' n a _ (pY e2 hα) st
  exact⟨vs,vs[i]'(by rw[← t.length];exact hi),.of z,by simp⟩
 yld:=fun i H x H' P1 α1 S hi r st e e2 y=>by
  obtain⟨rfl,y⟩:=y
  obtain⟨vs,z,t⟩:=r.at' n a _ (pY e2 hα) st
  have hx:=y vs (.of z)
  obtain⟨v,h1,h2⟩:=t.get (List.getElem?_eq_getElem hi)
  rw[hx] at h1;cases h1
  exact⟨P1,_,List.getElem?_eq_getElem hi,r,qF.refl _,h2⟩
 stop:=fun i H P1 α1 S hi r st e e2=>by
  obtain⟨vs,z,t⟩:=r.at' n a _ (pY e2 hα) st
  exact⟨vs,.of z,by rw[← t.length];exact hi⟩
def itD (d:D)(S:Sto):Res (Option (Nat × MO) × List D):=match d with
 |.tup xs=>.ok (none,xs) S
 |.lst xs=>.ok (none,xs) S
 |.loc n=>match S[n]? with
  |some (.lst xs)=>.ok (some (n,.lst xs),xs) S
  |_=>.bad
 |_=>.bad
def dIt (f:DE):DI2:=fun env S=>(f env S).bind fun d S1=>itD d S1
theorem ND (ha:PE X e (tD X fa)):PI X tg e (tDI2 X (dIt fa)):=by
 intro pins s σ H R I h
 obtain⟨P,α,env,S,r,re,af⟩:=h
 refine thn (xC ha I r re af) fun vv s1 ⟨v,H1,P1,α1,d,S1,G1,af1⟩=>?_
 have seq:∀ ds,wQ d=some ds→(∀ J H' P' α',Rel X.K H' P' α' S1→qF P P'→α<+:α'→ItD2 X.K J P' α' none ds→R J H')→wpAny (model X.prog X.w) X.A (pyIter vv) (PIE X pins σ tg R) X.xe s1:=fun ds e1 q =>
  dA G1.inv G1.rel G1.val G1.rep e1 fun J H' P' α' r' h1 h2 it=>q J H' P' α' r' (G1.same.trans h1) (G1.pre.trans h2) it.two
 cases d with
 |tup xs=>exact seq xs rfl af1
 |lst xs=>exact seq xs rfl af1
 |loc n =>
  obtain⟨xs,hS,af1⟩:=uX (X:=X) (f:=fun xs=>Res.ok (some (n,MO.lst xs),xs) S1) af1
  have rp:=G1.rep
  simp only[Rep] at rp
  obtain⟨a,rfl,ha⟩:=rp
  cases (show vv=Value.ref a from G1.val)
  obtain⟨vs,z,t⟩:=G1.rel.at' n a _ ha hS
  obtain⟨its,rv,p,hz⟩:=G1.inv.list (SqL.of z)
  refine wpAny_pyIter_list p.isList ?_
  refine⟨s1.heap.objs.size,[s1.heap.objs.size],_,_,H1,rfl,G1.inv.kept (t':=s1.toks) fun b o e=>Heap.get?_push_of_some _ e,nE a _,⟨_,Heap.get?_push_size _ rfl,rfl,rfl⟩,fun b hb=>?_,af1 _ _ P1 α1 G1.rel G1.same G1.pre (U6 ha)⟩
  have e:b=s1.heap.objs.size:=by simpa using hb
  subst e
  exact G1.inv.fpOk (Nat.le_refl _) (G1.inv.hok.fresh (Nat.le_refl _))
 |_=>exact False.elim af1
end
noncomputable def xZ (o:Option (Nat × MO))(g:DG)(f:DS):List D→qD→Sto→Out
 |[],env,S=>if bX o S then .nx env S else .bad
 |d::ds,env,S=>if bX o S then (g d env S).toS env fun env1 S1=>match f env1 S1 with
  |.nx env2 S2=>xZ o g f ds env2 S2
  |.ct env2 S2=>xZ o g f ds env2 S2
  |.bk env2 S2=>.nx env2 S2
  |o=>o
  else .bad
noncomputable def fS (fi:DI2)(g:DG)(f:DS):DS:=fun env S=>(fi env S).toS env fun p S1=>xZ p.1 g f p.2 env S1
inductive LoopW2 (X:Cx)(P1:Hp)(α1:List Addr)(o:Option (Nat × MO))(g:DG)(f:DS)(ds:List D)(D:Ends)(i m:Nat)(σ : _L.St)(H:Hp):Prop
 |mk (hi:i≤ds.length) (hm:m=ds.length-i) (P2:Hp) (α2:List Addr) (env2:qD) (S2:Sto) (r:Rel X.K H P2 α2 S2) (re:qW X.K P2 α2 σ env2) (e1:qF P1 P2) (e2:α1<+:α2) (af:qV X P2 α2 (xZ o g f (ds.drop i) env2 S2) D):LoopW2 X P1 α1 o g f ds D i m σ H
section
variable {X:Cx}{tg:Expr}{pos:Pos}
theorem VL {iter:Expr}{body:List Stmt}{fi:DI2}{g:DG}{f:DS}(hp:PassesOwn (model X.prog X.w) X.A X.env X.xe)(hc:X.calm=true)(hi:PI X tg iter (tDI2 X fi))(hg:PG X tg (tDG X g))(hb:PSs X body (tDS X f))
  (hs:∀ x,foldedSetIterable iter X.env x=pure x:=by intro _;rfl):PS X (.For tg iter body [] pos) (tDS X (fS fi g f)):=psW (oM hp hc hi hg hb hs) fun D σ H ⟨P,α,env,S,r,re,af⟩=>by
 refine⟨P,α,env,S,r,re,?_⟩
 have af1:=xP af
 cases q:fi env S with
 |bad=>rw[q] at af1;exact af1
 |ex c x S'=>rw[q] at af1;exact af1
 |ok p S1 =>
  obtain⟨o,ds⟩:=p
  rw[q] at af1
  have af2:qV X P α (xZ o g f ds env S1) D:=af1
  intro J H1 P1 α1 r1 e1 e2 it
  have it:ItD2 X.K J P1 α1 o ds:=it
  refine⟨LoopW2 X P1 α1 o g f ds D,
   ⟨ds.length,Nat.zero_le _,rfl,P1,α1,env,S1,r1,re.mono e1 e2,qF.refl _,List.prefix_refl _,qV.base e1 e2 af2⟩,?_⟩
  rintro i m σ2 H2 ⟨hi,rfl,P2,α2,env2,S2,r2,re2,e3,e4,af3⟩
  by_cases hsb:bX o S2=true
  ·have hst:=xT.mp hsb
   by_cases hlt:i<ds.length
   ·refine .inr ⟨it.go i H2 P2 α2 S2 hlt r2 hst e3 e4,LoopW2 X P1 α1 o g f ds D (i+1) (ds.length-(i+1)),fun σ' H' w=>⟨_,?_,w⟩,fun x H3 y=>?_⟩
    ·omega
    ·obtain⟨P3,d,hd,r3,e5,rp⟩:=it.yld i H2 x H3 P2 α2 S2 hlt r2 hst e3 e4 y
     have hdr:ds.drop i=d::ds.drop (i+1):=by
      rw[List.drop_eq_getElem_cons hlt]
      rw[List.getElem?_eq_getElem hlt] at hd
      rw[Option.some.inj hd]
     rw[hdr] at af3
     unfold xZ at af3
     rw[if_pos hsb] at af3
     have af4:=xP (qV.base e5 (List.prefix_refl _) af3)
     refine⟨P3,α2,env2,S2,d,r3,re2.mono e5 (List.prefix_refl _),rp,?_⟩
     cases q2:g d env2 S2 with
     |bad=>rw[q2] at af4;exact af4
     |ex c x S'=>rw[q2] at af4;exact af4
     |ok env3 S3 =>
      rw[q2] at af4
      intro σ4 H4 P4 α4 r4 re4 e6 e7
      refine⟨P4,α4,env3,S3,r4,re4,?_⟩
      have af5:=qV.base e6 e7 af4
      cases q3:f env3 S3 with
      |bad=>simp only[q3] at af5;exact af5
      |ex c x env4 S4=>simp only[q3] at af5;exact af5
      |rt d4 S4=>simp only[q3] at af5;exact af5
      |bk env4 S4=>simp only[q3] at af5;exact af5
      |nx env4 S4 =>
       simp only[q3] at af5
       exact fun σ5 H5 P5 α5 r5 re5 e8 e9=>⟨hlt,rfl,P5,α5,env4,S4,r5,re5,((e3.trans e5).trans e6).trans e8,(e4.trans e7).trans e9,qV.base e8 e9 af5⟩
      |ct env4 S4 =>
       simp only[q3] at af5
       exact fun σ5 H5 P5 α5 r5 re5 e8 e9=>⟨hlt,rfl,P5,α5,env4,S4,r5,re5,((e3.trans e5).trans e6).trans e8,(e4.trans e7).trans e9,qV.base e8 e9 af5⟩
   ·have hdr:ds.drop i=[]:=List.drop_eq_nil_of_le (by omega)
    rw[hdr] at af3
    unfold xZ at af3
    rw[if_pos hsb] at af3
    exact .inl ⟨it.stop i H2 P2 α2 S2 (by omega) r2 hst e3 e4,af3 σ2 H2 P2 α2 r2 re2 (qF.refl _) (List.prefix_refl _)⟩
  ·cases hdr:ds.drop i with
   |nil=>rw[hdr] at af3;unfold xZ at af3;rw[if_neg hsb] at af3;exact False.elim af3
   |cons d r=>rw[hdr] at af3;unfold xZ at af3;rw[if_neg hsb] at af3;exact False.elim af3
end
end _D
end
section
namespace _D
open PySem PySem.Spec PyProof.Rows _L
def zR (elt:Expr)(gens:List Comprehension)(scope:Scope)(pos:Pos)(k:Nat)(acc:Value)(env:Env):Sem Unit:=
 match gens[k+1]? with
 |some g'=>do
  let x ← eval g'.iter env
  standAt g'.iter.pos
  let x ← foldedSetIterable g'.iter env x
  let it ← holding [x] (pyIter x)
  let _ ← runOwn (.compStart (.ListComp elt gens scope pos) (k+1) it acc env) env
 |none=>do let _ ← call (.builtin "list.append") [acc,← eval elt env]
theorem WD (elt target iter:Expr)(ifs:List Expr)(gens:List Comprehension)(scope:Scope)(pos:Pos)(it acc:Value)(env:Env)(k:Nat)(hg:gens[k]? = some ⟨target,iter,ifs,0⟩)(ha:∀ g',gens[k+1]? = some g'→g'.is_async=0) :
  compTurn (.ListComp elt gens scope pos) k it acc env=(do
   standAt iter.pos
   match ← pyNext it with
   |none=>pure (.done .next)
   |some v =>
    letOwnedTupleGo target it v
    assign target env v
    let mut ok:=true
    for c in ifs do
     if ok then ok ← isTrue c env (eval c env)
    if ok then zR elt gens scope pos k acc env
    again (.compLoop (.ListComp elt gens scope pos) k it acc env)):=by
 unfold compTurn zR
 simp only[hg]
 cases q:gens[k+1]? with
 |none=>rfl
 |some g' =>
  have h0:=ha g' q
  have e0:(g'.is_async != 0)=false:=by rw[h0];rfl
  simp only[e0,Bool.false_eq_true,if_false,bind_assoc,pure_bind]
  rfl
abbrev DK:=qD→Sto→List D→Res (qD × List D)
noncomputable def goL (o:Option (Nat × MO))(g:DG)(t:DT)(k:DK):List D→DK
 |[],env,S,acc=>if bX o S then .ok (env,acc) S else .bad
 |d::ds,env,S,acc=>if bX o S then (g d env S).bind fun env1 S1=>(t env1 S1).bind fun b S2 =>
   if b then (k env1 S2 acc).bind fun p S3=>goL o g t k ds p.1 S3 p.2 else goL o g t k ds env1 S2 acc
  else .bad
def zI (fe:DE):DK:=fun env S acc=>(fe env S).bind fun x S1=>if acc.length<lim then .ok (env,acc++[x]) S1 else .bad
noncomputable def kIn (fi:DI2)(g:DG)(t:DT)(k:DK):DK:=fun env S acc=>(fi env S).bind fun p S1=>goL p.1 g t k p.2 env S1 acc
def hJ (Y:Cx)(pins:List (Addr × Obj))(P1:Hp)(α1:List Addr)(acc:Addr)(env:qD)(S:Sto)(ds:List D)(s:Shared):Prop:=
 ∃ σ H P α o,TurnSt Y pins P1 α1 [] acc env S ds s σ H P α o
def PK (Y:Cx)(step:Value→Sem Unit)(k:DK):Prop:=
 ∀ (pins:List (Addr × Obj)) (P1:Hp) (α1:List Addr) (acc:Addr) (env env':qD) (S S':Sto) (ds ds':List D) (s:Shared),(∀ H:Hp,H acc=none→x9 Y pins H acc)→hJ Y pins P1 α1 acc env S ds s→k env S ds=.ok (env',ds') S' →
  wpAny (model Y.prog Y.w) Y.A (step (.ref acc)) (fun _ s'=>hJ Y pins P1 α1 acc env' S' ds' s') (fun _ _=>False) s
section
variable {Y:Cx}{elt tg iter:Expr}{ifs:List Expr}{gens:List Comprehension}{scope:Scope}{pos:Pos}{k:Nat}{g:DG}{t:DT}{fe:DE}{it acc:Addr}{fp:List Addr}{J:It}{tn:Nat→Heap→Prop}{items:List D}{P1:Hp}{α1:List Addr}{pins:List (Addr × Obj)}
theorem iJ {X:Cx}{pins:List (Addr × Obj)}{H:Hp}{b:Addr}{fp:List Addr}{h:Heap}(f:x9 X pins H b)(hn:b ∉ fp):x9 X (pins++vB fp h) H b:=by
 obtain⟨f0,f1,f2,f3,f4,f5⟩:=f
 refine⟨f0,f1,f2,f3,f4,fun p hp=>?_⟩
 rcases List.mem_append.mp hp with z|z
 ·exact f5 p (List.mem_append_left _ z)
 ·rcases List.mem_append.mp z with z|z
  ·exact f5 p (List.mem_append_right _ z)
  ·rintro rfl
   exact hn (n6 z).1
theorem Res.bind_inv {β γ:Type}{r:Res β}{f:β→Sto→Res γ}{x:γ}{S:Sto}(h:r.bind f=.ok x S):∃ b S1,r=.ok b S1∧f b S1=.ok x S:=by
 cases r with
 |ok b S1=>exact⟨b,S1,rfl,h⟩
 |_=>cases h
inductive GoC (o:Option (Nat × MO))(g:DG)(t:DT)(k:DK)(d:D)(ds acc:List D)(env:qD)(S SF:Sto)(x:qD × List D):Prop
 |no (env1:qD) (S1 S2:Sto) (z:stn o S) (q1:g d env S=.ok env1 S1) (q2:t env1 S1=.ok false S2) (r:goL o g t k ds env1 S2 acc=.ok x SF):GoC o g t k d ds acc env S SF x
 |yes (env1:qD) (S1 S2:Sto) (env5:qD) (ds5:List D) (S5:Sto) (z:stn o S) (q1:g d env S=.ok env1 S1) (q2:t env1 S1=.ok true S2) (q3:k env1 S2 acc=.ok (env5,ds5) S5) (r:goL o g t k ds env5 S5 ds5=.ok x SF):GoC o g t k d ds acc env S SF x
set_option tactic.hygienic true in
theorem ZW {o:Option (Nat × MO)}{g:DG}{t:DT}{k:DK}{d:D}{ds acc:List D}{env:qD}{S SF:Sto}{x:qD × List D}(h:goL o g t k (d::ds) env S acc=.ok x SF):GoC o g t k d ds acc env S SF x:=by
 simp only[goL] at h
 split at h
 ·rename_i z
  obtain⟨env1,S1,q1,h⟩:=Res.bind_inv h
  obtain⟨b,S2,q2,h⟩:=Res.bind_inv h
  cases b with
  |false=>exact .no env1 S1 S2 (xT.mp z) q1 q2 h
  |true =>
   obtain⟨⟨env5,ds5⟩,S5,q3,h⟩:=Res.bind_inv h
   exact .yes env1 S1 S2 env5 ds5 S5 (xT.mp z) q1 q2 q3 h
 ·cases h
set_option tactic.hygienic true in
theorem U0 {o:Option (Nat × MO)}{g:DG}{t:DT}{k:DK}{acc dsF:List D}{env envF:qD}{S SF:Sto}(h:goL o g t k [] env S acc=.ok (envF,dsF) SF):stn o S∧env=envF∧acc=dsF∧S=SF:=by
 simp only[goL] at h
 split at h
 ·rename_i z
  cases h
  exact⟨xT.mp z,rfl,rfl,rfl⟩
 ·cases h
inductive LpI (Y:Cx)(pins:List (Addr × Obj))(P1:Hp)(α1:List Addr)(fp:List Addr)(acc:Addr)(tn:Nat→Heap→Prop)(G:List D→DK)(items:List D)(x:qD × List D)(SF:Sto)(n:Nat)(s:Shared):Prop
 |mk (i:Nat) (σ : _L.St) (H P:Hp) (α : List Addr) (o:Obj) (env:qD) (S:Sto) (ds:List D) (hn:n=items.length-i) (hi:i≤items.length) (st:TurnSt Y pins P1 α1 fp acc env S ds s σ H P α o) (st1:tn i s.heap) (run:G (items.drop i) env S ds=.ok x SF):LpI Y pins P1 α1 fp acc tn G items x SF n s
theorem K6 {M:Model}{A:Around}{Q:Fin→Shared→Prop}{Qa Qd:Shared→Prop}{E:Value→Shared→Prop}{s:Shared}{it acc:Value}{en:Env}(hgk:gens[k]? = some ⟨tg,iter,ifs,0⟩)(has:∀ g',gens[k+1]? = some g'→g'.is_async=0)
  (ha:∀ s,Qa s→Q (.again (.compLoop (.ListComp elt gens scope pos) k it acc en)) s) (hd:∀ s,Qd s→Q (.done .next) s)
  (h:wpAny M A (pyNext it) (fun r s1=>(r=none→Qd s1)∧∀ v,r=some v→wpAny M A (letOwnedTupleGo tg it v) (fun _ s2=>wpAny M A (assign tg en v) (fun _ s3=>wpAny M A (j0 ifs en) (fun b s4=>(b=false→Qa s4)∧(b=true→wpAny M A (zR elt gens scope pos k acc en) (fun _ s5=>Qa s5) E s4)) E s3) E s2) E s1) E s) :
  wpAny M A (compTurn (.ListComp elt gens scope pos) k it acc en) Q E s:=by
 rw[WD elt tg iter ifs gens scope pos it acc en k hgk has]
 refine wpAny_bind (wpAny_standAt (wpAny_bind (thn h fun r s1 ⟨h0,h1⟩=>?_)))
 cases r with
 |none=>exact wpAny_pure (hd _ (h0 rfl))
 |some v =>
  refine wpAny_bind (thn (h1 v rfl) fun _ s2 h2=>wpAny_bind (thn h2 fun _ s3 h3=>wpAny_bind (thn h3 fun b s4 h4=>?_)))
  cases b with
  |false=>exact wpAny_pure (ha _ (h4.1 rfl))
  |true=>exact wpAny_bind (thn (h4.2 rfl) fun _ s5 h5=>wpAny_pure (ha _ h5))
theorem VX (hfp:∀ H:Hp,(∀ b∈fp,H b=none)→∀ b∈fp,x9 Y pins H b)(hne:acc ∉ fp)(o:Obj)(H':Hp)(hn:∀ b∈fp,H' b=none):∀ b∈fp,x9 Y (pins++[(acc,o)]) H' b:=fun b hb=>by
 obtain⟨f0,f1,f2,f3,f4,f5⟩:=hfp H' hn b hb
 refine⟨f0,f1,f2,f3,f4,fun p hp=>?_⟩
 rcases List.mem_append.mp hp with z|z
 ·exact f5 p (List.mem_append_left _ z)
 ·rcases List.mem_append.mp z with z|z
  ·exact f5 p (List.mem_append_right _ z)
  ·rw[List.mem_singleton.mp z]
   rintro rfl
   exact hne hb
theorem jL {i:Nat}{h:Heap}(T:Turn Y.prog Y.w Y.K tg J fp it tn)(st2:tn (i+1) h)(pl:∀ b∈fp,∃ o,h.get? b=some o∧∀ v,o.data≠.cell v){s5:Shared}{σ5:_L.St}{H5:Hp}(I5:Inv Y (pins++vB fp h) σ5 H5 s5):tn (i+1) s5.heap∧(∀ b∈fp,H5 b=none):=by
 refine⟨T.keep _ _ _ st2 fun b hb o' e=>(I5.pin (b,o') (List.mem_append_right _ (List.mem_append_right _ (uH hb e)))).1,fun b hb=>?_⟩
 obtain⟨o',e,d'⟩:=pl b hb
 exact(I5.pin (b,o') (List.mem_append_right _ (List.mem_append_right _ (uH hb e)))).2.1
theorem cD {o':Option (Nat × MO)}{kk:DK}{Qa Qd:Shared→Prop}{E:Value→Shared→Prop}{s:Shared}{σ : _L.St}{H P:Hp}{α : List Addr}{env envF:qD}{S SF:Sto}{ds dsF:List D}{o:Obj}{i:Nat}(hc:Y.calm=true)(hx:Y.xe=fun _ _=>False)
  (T:Turn Y.prog Y.w Y.K tg J fp it tn) (hit:ItD2 Y.K J P1 α1 o' items) (hg:PG Y tg (tDG Y g)) (ht:PTs Y ifs t) (he:PK Y (fun acc=>zR elt gens scope pos k acc Y.env) kk) (hacc:∀ H:Hp,H acc=none→x9 Y pins H acc) (hfp:∀ H:Hp,(∀ b∈fp,H b=none)→∀ b∈fp,x9 Y pins H b) (hne:acc ∉ fp)
  (hi:i≤items.length) (st:TurnSt Y pins P1 α1 fp acc env S ds s σ H P α o) (st1:tn i s.heap) (run:goL o' g t kk (items.drop i) env S ds=.ok (envF,dsF) SF)
  (hA:∀ s' σ' H' P' α' o1 env1 S' ds',i<items.length→TurnSt Y pins P1 α1 fp acc env1 S' ds' s' σ' H' P' α' o1→tn (i+1) s'.heap→goL o' g t kk (items.drop (i+1)) env1 S' ds'=.ok (envF,dsF) SF→Qa s')
  (hD:∀ s' σ' H' P' α' o',TurnSt Y pins P1 α1 fp acc envF SF dsF s' σ' H' P' α' o'→Qd s') :
  wpAny (model Y.prog Y.w) Y.A (pyNext (.ref it)) (fun r s1=>(r=none→Qd s1)∧∀ v,r=some v→wpAny (model Y.prog Y.w) Y.A (letOwnedTupleGo tg (.ref it) v) (fun _ s2=>wpAny (model Y.prog Y.w) Y.A (assign tg Y.env v) (fun _ s3=>wpAny (model Y.prog Y.w) Y.A (j0 ifs Y.env) (fun b s4=>(b=false→Qa s4)∧(b=true→wpAny (model Y.prog Y.w) Y.A (zR elt gens scope pos k (.ref acc) Y.env) (fun _ s5=>Qa s5) E s4)) E s3) E s2) E s1) E s:=by
 have I1:=_D.Inv.pin1 st.inv (hacc H st.acn) st.at' st.acc.cell
 have fp1:=VX hfp hne o
 by_cases hlt:i<items.length
 ·have hdr:items.drop i=items[i]::items.drop (i+1):=List.drop_eq_getElem_cons hlt
  rw[hdr] at run
  have run:=ZW run
  have hst:stn o' S:=by cases run with|no _ _ _ z=>exact z|yes _ _ _ _ _ _ z=>exact z
  refine gL (T.item Y rfl rfl rfl hc i _ s σ H (fun _ _=>False) I1 (fp1 H st.fpn) st1 (hit.go i H P α S hlt st.rel hst st.same st.pre)) fun r s1 ⟨u,hr,h1⟩=>⟨fun z=>(by rw[hr] at z;cases z),fun v hv=>?_⟩
  obtain rfl:v=u:=Option.some.inj (hv.symm.trans hr)
  refine gL h1 fun _ s2 ⟨x,H2,I2,rx,y,st2,fr2⟩=>?_
  obtain⟨P2,d,hd,r2,e2,rp⟩:=hit.yld i H x H2 P α S hlt st.rel hst st.same st.pre y
  cases (List.getElem?_eq_getElem hlt).symm.trans hd
  have pl:=T.obj _ _ st2
  have I2':=I2.pinned (fp1 _ fr2) pl
  have two:∀ env1 S1 b S2,g items[i] env S=.ok env1 S1→t env1 S1=.ok b S2→(∀ s4 σ3 H4 P4 α4 (I4:Inv Y (pins++vB fp s2.heap) σ3 H4 s4),TurnSt Y pins P1 α1 fp acc env1 S2 ds s4 σ3 H4 P4 α4 o→tn (i+1) s4.heap→(b=false→Qa s4)∧(b=true→wpAny (model Y.prog Y.w) Y.A (zR elt gens scope pos k (.ref acc) Y.env) (fun _ s5=>Qa s5) E s4))→wpAny (model Y.prog Y.w) Y.A (assign tg Y.env v) (fun _ s3=>wpAny (model Y.prog Y.w) Y.A (j0 ifs Y.env) (fun b s4=>(b=false→Qa s4)∧(b=true→wpAny (model Y.prog Y.w) Y.A (zR elt gens scope pos k (.ref acc) Y.env) (fun _ s5=>Qa s5) E s4)) E s3) E s2:=by
   intro env1 S1 b S2 q1 q2 next
   refine gL (hx▸R0 hg I2' r2 (st.env.mono e2 (List.prefix_refl _)) rx rp q1) fun _ s3 ⟨σ3,H3,P3,α3,I3,r3,re3,e3,e3'⟩=>?_
   refine gL (hx▸LN ht I3 r3 re3 q2) fun b' s4 ⟨hb,H4,P4,α4,I4,r4,re4,e4,e4'⟩=>?_
   have I4':Inv Y (pins++vB fp s2.heap) σ3 H4 s4:=I4.pins_of fun p hp=>I4.pin p (List.mem_append_right _ ((List.mem_append.mp hp).elim (fun z=>List.mem_append_left _ (List.mem_append_left _ z)) fun z=>List.mem_append_right _ z))
   have a4:=I4.pin (acc,o) (List.mem_append_right _ (List.mem_append_left _ (List.mem_append_right _ (List.mem_singleton.mpr rfl))))
   rw[hb]
   exact next s4 σ3 H4 P4 α4 I4' ⟨I4'.unpinned,r4,re4,((st.same.trans e2).trans e3).trans e4,(st.pre.trans e3').trans e4',(jL T st2 pl I4').2,a4.2.1,a4.1,st.acc.mono ((e2.trans e3).trans e4) (e3'.trans e4')⟩ (jL T st2 pl I4').1
  cases run with
  |no env1 S1 S2 _ q1 q2 run=>exact two env1 S1 false S2 q1 q2 fun s4 σ3 H4 P4 α4 I4 st4 tn4=>⟨fun _=>hA s4 σ3 H4 P4 α4 o env1 S2 ds hlt st4 tn4 run,fun z=>(by cases z)⟩
  |yes env1 S1 S2 env5 ds5 S5 _ q1 q2 q3 run =>
   refine two env1 S1 true S2 q1 q2 fun s4 σ3 H4 P4 α4 I4 st4 tn4=>⟨fun z=>(by cases z),fun _=>?_⟩
   refine gL (he (pins++vB fp s2.heap) P1 α1 acc env1 env5 S2 S5 ds ds5 s4 (fun H hn=>iJ (hacc H hn) hne) ⟨σ3,H4,P4,α4,o,I4,st4.rel,st4.env,st4.same,st4.pre,fun b hb=>(by cases hb),st4.acn,st4.at',st4.acc⟩ q3) fun _ s5 ⟨σ5,H5,P5,α5,o5,T5⟩=>?_
   exact hA s5 σ5 H5 P5 α5 o5 env5 S5 ds5 hlt ⟨T5.inv.unpinned,T5.rel,T5.env,T5.same,T5.pre,(jL T st2 pl T5.inv).2,T5.acn,T5.at',T5.acc⟩ (jL T st2 pl T5.inv).1 run
 ·rw[List.drop_eq_nil_of_le (by omega)] at run
  obtain⟨z,rfl,rfl,rfl⟩:=U0 run
  refine gL (T.done Y rfl rfl rfl hc i _ s σ H (fun _ _=>False) I1 (fp1 H st.fpn) st1 (hit.stop i H P α _ (by omega) st.rel z st.same st.pre)) fun r s1 ⟨hr,I2⟩=>⟨fun _=>?_,fun v hv=>(by rw[hr] at hv;cases hv)⟩
  have a:=_D.Inv.pinned1 I2
  exact hD s1 σ H P α o ⟨I2.unpinned,st.rel,st.env,st.same,st.pre,st.fpn,a.2,a.1,st.acc⟩
theorem fB {o':Option (Nat × MO)}{kk:DK}{R:Result→Shared→Prop}{s:Shared}{σ : _L.St}{H P:Hp}{α : List Addr}{env envF:qD}{S SF:Sto}{ds0 dsF:List D}{o:Obj}(hc:Y.calm=true)(hx:Y.xe=fun _ _=>False)(hgk:gens[k]? = some ⟨tg,iter,ifs,0⟩)(has:∀ g',gens[k+1]? = some g'→g'.is_async=0)
  (T:Turn Y.prog Y.w Y.K tg J fp it tn) (hit:ItD2 Y.K J P1 α1 o' items) (hg:PG Y tg (tDG Y g)) (ht:PTs Y ifs t) (he:PK Y (fun acc=>zR elt gens scope pos k acc Y.env) kk) (hacc:∀ H:Hp,H acc=none→x9 Y pins H acc) (hfp:∀ H:Hp,(∀ b∈fp,H b=none)→∀ b∈fp,x9 Y pins H b) (hne:acc ∉ fp)
  (st:TurnSt Y pins P1 α1 fp acc env S ds0 s σ H P α o) (st0:tn 0 s.heap) (run:goL o' g t kk items env S ds0=.ok (envF,dsF) SF)
  (hR:∀ s' σ' H' P' α' o',TurnSt Y pins P1 α1 fp acc envF SF dsF s' σ' H' P' α' o'→R (.ok .next) s') :
  codeAny (model Y.prog Y.w) Y.A (.compLoop (.ListComp elt gens scope pos) k (.ref it) (.ref acc) Y.env) R s:=by
 refine codeAny_loop rfl (LpI Y pins P1 α1 fp acc tn (goL o' g t kk) items (envF,dsF) SF) (fun n s hI=>?_) items.length ⟨0,σ,H,P,α,o,env,S,ds0,rfl,Nat.zero_le _,st,st0,run⟩
 obtain⟨i,σ,H,P,α,o,env,S,ds,hn,hi,st,st1,run⟩:=hI
 subst hn
 refine wpAny_noted (K6 hgk has (Qa:=fun s'=>∃ m,m<items.length-i∧LpI Y pins P1 α1 fp acc tn (goL o' g t kk) items (envF,dsF) SF m s') (Qd:=R (.ok .next)) (fun _ h=>⟨rfl,h⟩) (fun _ h=>h) ?_)
 exact cD hc hx T hit hg ht he hacc hfp hne hi st st1 run (fun s' σ' H' P' α' o1 env1 S' ds' hlt st' tn' run'=>⟨_,Nat.sub_succ_lt_self _ _ hlt,i+1,σ',H',P',α',o1,env1,S',ds',rfl,hlt,st',tn',run'⟩) hR
set_option tactic.hygienic true in
theorem UY (hx:Y.xe=fun _ _=>False)(hlast:gens[k+1]? = none)(he:PE Y elt (tD Y fe)):PK Y (fun acc=>zR elt gens scope pos k acc Y.env) (zI fe):=by
 intro pins P1 α1 acc env env' S S' ds ds' s hacc ⟨σ,H,P,α,o,st⟩ run
 show wpAny _ _ (zR elt gens scope pos k (.ref acc) Y.env) _ _ s
 unfold zR
 rw[hlast]
 dsimp only
 unfold zI at run
 cases q3:fe env S with
 |bad=>rw[q3] at run;cases run
 |ex c z S'=>rw[q3] at run;cases run
 |ok d5 S5 =>
  rw[q3,Res.bind_ok] at run
  split at run
  ·rename_i hlen
   cases run
   have fA:=hacc H st.acn
   have I1:=_D.Inv.pin1 st.inv fA st.at' st.acc.cell
   refine wpAny_bind (gL (hx▸SZ he I1 st.rel st.env q3) fun u5 s5 ⟨v5,H5,P5,α5,G5⟩=>?_)
   have J:=_D.Inv.pinned1 G5.inv
   have J1:=G5.inv.unpinned
   obtain⟨J4,J5⟩:=J
   obtain⟨its,n5,vs,ho,rvs,rps,hz⟩:=st.acc
   subst ho
   have hlen':vs.length=ds.length:=rps.length.symm
   have hl2:=rvs.length
   refine wpAny_bind (call_meets F.slot_list_append ⟨_,J4,rfl⟩ F.entry_list_append (F.args_list_append_2 _ _) (PySem.list_append acc its.toArray n5 u5 (by rw[List.size_toArray];rw[← zO];omega)) ⟨J4,?_⟩)
   have q:=PySem.IsL.update J4 (·.push u5)
   have fA5:=hacc H5 J5
   have keep:∀ b o,b≠acc→s5.heap.get? b=some o→(s5.heap.update acc (Obj.mapSeq (·.push u5))).get? b=some o:=fun b o hb e=>(Heap.get?_update_other s5.heap _ (Ne.symm hb)).trans e
   have I6:=J1.turned (t':=s5.toks) keep J5 fA5.2.1 fA5.2.2.2.1 fA5.2.2.2.2.1 fA5.2.2.2.2.2
   refine wpAny_pure ⟨σ,H5,P5,α5,_,I6,G5.rel,G5.env,st.same.trans G5.same,st.pre.trans G5.pre,fun b hb=>(by simp at hb),J5,q,?_⟩
   refine⟨its++[u5],_,vs++[v5],by simp <;> rfl,rvs.append (.cons G5.val .nil),?_,by simp;omega⟩
   exact(qE.mono G5.same G5.pre _ _ rps).append (.cons G5.rep .nil)
  ·cases run
end
end _D
end
section
namespace _D
open PySem PySem.Spec PyProof.Rows _L
theorem lJ {prog:Program}{w:World}{A:Around}{R:Result→Shared→Prop}{s:Shared}{elt:Expr}{gens:List Comprehension}{scope:Scope}{pos:Pos}{k:Nat}{it acc:Value}{env:Env}{g:Comprehension}(hg:gens[k]? = some g)(ha:g.is_async=0)
  (h0:codeAny (model prog w) A (.compLoop (.ListComp elt gens scope pos) k it acc env) R s)
  (h:wpAny (model prog w) A (pyIter it) (fun it' s'=>codeAny (model prog w) A (.compLoop (.ListComp elt gens scope pos) k it' acc env) R s') (notedBy (model prog w) A env fun x s'=>R (.error x) s') s) :
  codeAny (model prog w) A (.compStart (.ListComp elt gens scope pos) k it acc env) R s:=by
 refine codeAny_of_tree ?_
 show wpAny _ _ ((compStart (.ListComp elt gens scope pos) k it acc env).onRaise (fun x=>do noteFrame x env;standAt theWindowsPlace)) _ _ s
 refine wpAny_notedAt ?_
 have hcl:clausesOf (.ListComp elt gens scope pos)=gens:=rfl
 have e0:(g.is_async != 0)=false:=by rw[ha];rfl
 unfold compStart
 simp only[hcl,hg,Option.elim,e0,Bool.false_eq_true,if_false]
 refine wpAny_bind (wpAny_askSetting (wpAny_ite ?_))
 split
 ·exact wpAny_pure (And.intro rfl h0)
 ·refine wpAny_bind (wpAny_rule ?_)
  exact wpAny_bind (wpAny_standAt (wpAny_bind (wpAny_mono h (fun it' s' h'=>wpAny_pure (And.intro rfl h')) fun _ _ x=>x)))
section
variable {Y:Cx}{elt tg iter:Expr}{ifs:List Expr}{gens:List Comprehension}{scope:Scope}{pos:Pos}{k:Nat}{g:DG}{t:DT}{fi:DI2}{kk:DK}
theorem iI {X:Cx}{pins pl:List (Addr × Obj)}{H:Hp}{b:Addr}(f:x9 X (pins++pl) H b):x9 X pins H b:=by
 obtain⟨f0,f1,f2,f3,f4,f5⟩:=f
 refine⟨f0,f1,f2,f3,f4,fun p hp=>f5 p ?_⟩
 rcases List.mem_append.mp hp with z|z
 ·exact List.mem_append_left _ z
 ·exact List.mem_append_right _ (List.mem_append_left _ z)
theorem LJ (hc:Y.calm=true)(hx:Y.xe=fun _ _=>False)(hgk:gens[k+1]? = some ⟨tg,iter,ifs,0⟩)(has:∀ g',gens[k+1+1]? = some g'→g'.is_async=0)(hi:PI Y tg iter (tDI2 Y fi))(hg:PG Y tg (tDG Y g))(ht:PTs Y ifs t)
  (he:PK Y (fun acc=>zR elt gens scope pos (k+1) acc Y.env) kk) (hs:∀ x,foldedSetIterable iter Y.env x=pure x):PK Y (fun acc=>zR elt gens scope pos k acc Y.env) (kIn fi g t kk):=by
 intro pins P1 α1 acc env env' S S' ds ds' s hacc ⟨σ,H,P,α,o,st⟩ run
 show wpAny _ _ (zR elt gens scope pos k (.ref acc) Y.env) _ _ s
 unfold zR
 rw[hgk]
 dsimp only
 unfold kIn at run
 cases q:fi env S with
 |bad=>rw[q] at run;cases run
 |ex c z S'=>rw[q] at run;cases run
 |ok p S1 =>
  rw[q,Res.bind_ok] at run
  have fA:=hacc H st.acn
  have I1:=_D.Inv.pin1 st.inv fA st.at' st.acc.cell
  have key:=hi (pins++[(acc,o)]) s σ H (fun J H1=>∃ P' α',Rel Y.K H1 P' α' S1∧qF P P'∧α<+:α'∧ItD2 Y.K J P' α' p.1 p.2) I1 ⟨P,α,env,S,st.rel,st.env,by rw[q];exact fun J H' P' α' r' e1 e2 it=>⟨P',α',r',e1,e2,it⟩⟩
  rw[hx] at key
  refine wpAny_bind (gL key fun v s1 h1=>wpAny_bind (wpAny_standAt ?_))
  rw[hs]
  refine wpAny_bind (wpAny_pure (wpAny_bind (wpAny_holding (gL h1 fun itv s2 h2=>?_))))
  obtain⟨it,fp,tn,J,H2,rfl,I2,T,st0,hf,P',α',r2,e1,e2,hit⟩:=h2
  have a2:=_D.Inv.pinned1 I2
  have hne:acc ∉ fp:=fun hm=>(hf acc hm).2.2.2.2.2 (acc,o) (List.mem_append_right _ (List.mem_append_right _ (by simp))) rfl
  have loop:codeAny (model Y.prog Y.w) Y.A (.compLoop (.ListComp elt gens scope pos) (k+1) (.ref it) (.ref acc) Y.env) (fun r s'=>match r with
    |.ok f=>hJ Y pins P1 α1 acc env' S' ds' s'
    |.error _=>False) s2:=by
   refine fB (pins:=pins) (fp:=fp) (P1:=P') (α1:=α') (σ:=σ) (H:=H2) (P:=P') (α:=α') (o:=o) hc hx hgk has T hit hg ht he hacc (fun H hn b hb=>?_) hne
    ⟨I2.unpinned,r2,st.env.mono e1 e2,qF.refl _,List.prefix_refl _,fun b hb=>(hf b hb).1,a2.2,a2.1,st.acc.mono e1 e2⟩ st0 run fun s' σ' H' Pf αf o' T'=>?_
   ·obtain⟨_,g1,g2,g3,g4,g5⟩:=iI (hf b hb)
    exact⟨hn b hb,g1,g2,g3,g4,g5⟩
   ·exact⟨σ',H',Pf,αf,o',T'.inv,T'.rel,T'.env,(st.same.trans e1).trans T'.same,(st.pre.trans e2).trans T'.pre,fun b hb=>(by simp at hb),T'.acn,T'.at',T'.acc⟩
  refine wpAny_bind (wpAny_runOwn (codeAny_mono (lJ hgk rfl loop (T.self Y.A 0 _ _ _ st0 loop)) fun r s' h=>?_))
  cases r with
  |error x=>exact False.elim h
  |ok f=>exact wpAny_pure h
end
end _D
end
section
namespace _D
open PySem PySem.Spec PyProof.Rows _L
def mkM (m:Bool)(r:Res (qD × List D)):Res D:=match r with
 |.ok p S2=>if m then .ok (.loc S2.length) (S2++[.lst p.2]) else .ok (.lst p.2) S2
 |_=>.bad
noncomputable def zF (m:Bool)(cap:List (Option Nat))(fi:DI2)(g:DG)(t:DT)(k:DK):DE:=fun env S=>(fi env S).bind fun p S1=>mkM m (goL p.1 g t k p.2 (zT cap env) S1 [])
section
variable {X:Cx}{elt tg iter:Expr}{ifs:List Expr}{scope:Scope}{pos:Pos}{N':List Str}{cap:List (Option Nat)}{fi:DI2}{g:DG}{t:DT}{kk:DK}{rest:List Comprehension}{mm:Bool}
theorem o9 {P:Hp}{α : List Addr}{r:Res (qD × List D)}{Ok:D→Sto→Prop}(h:qJ X P α (mkM mm r) Ok):∃ envF ds SF,r=.ok (envF,ds) SF∧(if mm then Ok (.loc SF.length) (SF++[.lst ds]) else Ok (.lst ds) SF):=by
 cases r with
 |ok p S =>
  obtain⟨envF,ds⟩:=p
  refine⟨envF,ds,S,rfl,?_⟩
  cases mm <;> exact h
 |ex c x S=>exact False.elim h
 |bad=>exact False.elim h
theorem ZM {pins:List (Addr × Obj)}{σ : _L.St}{P1:Hp}{α1:List Addr}{ds:List D}{SF:Sto}{acc C:Addr}{s:Shared}{Q:VK}(c:pN X pins σ P1 α1 ds SF acc C s)(ok:if mm then OkV X P1 α1 Q (.loc SF.length) (SF++[.lst ds]) else OkV X P1 α1 Q (.lst ds) SF):EP X pins σ Q (.ref acc) s:=by
 cases mm with
 |false=>exact VR c ok
 |true =>
  obtain⟨H',P',α',vs,I,r,hn,e1,e2,rp,_⟩:=c
  exact⟨.ref acc,_,I,rfl,eF r hn rp fun v H2 P2 α2 r2 q1 q2 q3=>ok v H2 P2 α2 r2 (e1.trans q1) (e2.trans q2) q3⟩
theorem iB {M:Model}{A:Around}{E:Value→Shared→Prop}{s:Shared}{globals:Addr}{closure:List (Str × Addr)}{qual:Str}{env:Env}{Q:Env→Shared→Prop}
  (hQ:Q (newEnv scope s.heap.objs.size globals (cellsFrom (s.heap.objs.size+1) scope.names closure) qual none .none (some env) builtinsNs) { s with heap:=pushCells (s.heap.push { cls:=.type "dict",data:=.dict #[] }) scope.names }) :
  wpAny M A (newFunctionEnv scope globals closure [] qual none .none (some env)) Q E s:=by
 simp only[newFunctionEnv,Option.isSome_some,if_true]
 refine wpAny_bind (wpAny_alloc ?_)
 refine wpAny_bind (wpAny_layCells _ (fun name kind cells=>by cases hkc:kind == NameKind.cell <;> simp[hkc]) _ _ _ _ ?_)
 rw[show ({ s with heap:=s.heap.push { cls:=.type "dict",data:=.dict #[] } } : Shared).heap.objs.size=s.heap.objs.size+1 from Heap.size_push ..]
 refine wpAny_bind ?_
 rw[List.forIn_nil]
 exact wpAny_pure (wpAny_pure hQ)
theorem bB {o':Option (Nat × MO)}{kk:DK}{pins:List (Addr × Obj)}{σ : _L.St}{H2 P1:Hp}{α1:List Addr}{s2:Shared}{S1 SF:Sto}{env envF:qD}{ds items:List D}{it:Addr}{fp:List Addr}{tn:Nat→Heap→Prop}{J:It}{E:Value→Shared→Prop}{RR:Value→Addr→Result→Shared→Prop}{rest:List Comprehension}
  (hc:X.calm=true) (S:CompSc X.env.scope X.N scope N' cap) (has:∀ g',(⟨tg,iter,ifs,0⟩::rest:List Comprehension)[0+1]? = some g'→g'.is_async=0)
  (hg:∀ cl C ex s₀ H₀,PG (qX X N' scope cl C ex s₀ H₀) tg (tDG (qX X N' scope cl C ex s₀ H₀) g))
  (ht:∀ cl C ex s₀ H₀,PTs (qX X N' scope cl C ex s₀ H₀) ifs t) (he:∀ cl C ex s₀ H₀,PK (qX X N' scope cl C ex s₀ H₀) (fun acc=>zR elt (⟨tg,iter,ifs,0⟩::rest) scope pos 0 acc (qX X N' scope cl C ex s₀ H₀).env) kk)
  (I2:Inv X pins σ H2 s2) (r:Rel X.K H2 P1 α1 S1) (re:qW X.K P1 α1 σ env) (T:Turn X.prog X.w X.K tg J fp it tn) (st0:tn 0 s2.heap) (hf:∀ b∈fp,x9 X pins H2 b) (hit:ItD2 X.K J P1 α1 o' items) (run:goL o' g t kk items (zT cap env) S1 [] = .ok (envF,ds) SF)
  (hRR:∀ acc C s',s2.heap.objs.size≤acc→(∃ m,s'.heap.Ns C m)→s2.heap.objs.size≤C→acc≠C→(∀ h',Heap.SameBut C s'.heap h'→pN X pins σ P1 α1 ds SF acc C { s' with heap:=h' }) → RR (.ref acc) C (.ok .next) s') :
  wpAny (model X.prog X.w) X.A (newList []) (fun acc s₃=>wpAny (model X.prog X.w) X.A (newFunctionEnv scope X.env.globals (wL X.env.cells scope.names []) [] X.env.qual none .none (some X.env)) (fun cenv s₄ =>
   codeAny (model X.prog X.w) X.A (.compStart (.ListComp elt (⟨tg,iter,ifs,0⟩::rest) scope pos) 0 (.ref it) acc { cenv with scope:=relabel scope X.env }) (RR acc cenv.locals) s₄) E s₃) E s2:=by
 have hlt:∀ b∈fp,b<s2.heap.objs.size:=fun b hb=>by
  obtain⟨o,e,_⟩:=T.obj 0 _ st0 b hb
  exact Heap.lt_size e
 refine wpAny_newObj_type (iB ?_)
 dsimp only
 generalize hH2:s2.heap.push { cls:=.type "list",dict:=none,data:=.seq ([] : List Value).toArray } = Hh
 have hsz:Hh.objs.size=s2.heap.objs.size+1:=by rw[← hH2,Heap.size_push]
 have hC:s2.heap.objs.size≤Hh.objs.size:=by rw[hsz];exact Nat.le_succ _
 have hne:s2.heap.objs.size≠Hh.objs.size:=by rw[hsz];exact Nat.ne_of_lt (Nat.lt_succ_self _)
 have kp:∀ b o,Hh.get? b=some o→(pushCells (Hh.push { cls:=.type "dict",data:=.dict #[] }) scope.names).get? b=some o:=fun b o e=>pushCells_keeps _ _ b o (Heap.get?_push_of_some _ e)
 have hns₁:(pushCells (Hh.push { cls:=.type "dict",data:=.dict #[] }) scope.names).Ns Hh.objs.size (fun _=>none):=(Heap.Ns.new Hh (.type "dict")).keeps (pushCells_keeps _ _)
 have co:=cellsFrom_ok scope.names (Hh.push { cls:=.type "dict",data:=.dict #[] }) (Hh.objs.size+1) [] ⟨fun _ _ hm=>(nomatch hm),List.Pairwise.nil⟩ (by rw[Heap.size_push];exact Nat.le_refl _)
 rw[Heap.size_push] at co
 generalize hh₁:pushCells (Hh.push { cls:=.type "dict",data:=.dict #[] }) scope.names=h₁ at kp hns₁ co ⊢
 have keep:∀ b o,s2.heap.get? b=some o→h₁.get? b=some o:=fun b o e=>kp b o (hH2▸Heap.get?_push_of_some _ e)
 have hacc:h₁.get? s2.heap.objs.size=some { cls:=.type "list",data:=.seq ([] : List Value).toArray }:=kp _ _ (hH2▸Heap.get?_push_size _ rfl)
 have I4:∀ tk,Inv (qX X N' scope (kL X scope Hh.objs.size) Hh.objs.size fp s2 H2) [] (vE cap σ) H2 { s2 with heap:=h₁,toks:=tk }:=fun tk =>
  Z3 (s4:={ s2 with heap:=h₁,toks:=tk }) S I2 hf hlt hC hns₁ rfl rfl keep co
 have loop:∀ tk,codeAny (model X.prog X.w) X.A (.compLoop (.ListComp elt (⟨tg,iter,ifs,0⟩::rest) scope pos) 0 (.ref it) (.ref s2.heap.objs.size) (compEnvC scope (kL X scope Hh.objs.size) Hh.objs.size X.env)) (RR (.ref s2.heap.objs.size) Hh.objs.size) { s2 with heap:=h₁,toks:=tk }:=fun tk=>by
  refine fB (kk:=kk) (o':=o') (Y:=qX X N' scope (kL X scope Hh.objs.size) Hh.objs.size fp s2 H2) (pins:=[]) (fp:=fp) (acc:=s2.heap.objs.size) (P1:=P1) (α1:=α1) (σ:=vE cap σ) (H:=H2) (P:=P1) (α:=α1) (o:={ cls:=.type "list",data:=.seq ([] : List Value).toArray }) hc rfl rfl has T hit
   (hg _ _ _ _ _) (ht _ _ _ _ _) (he _ _ _ _ _) (fun H hn=>?_) (fun H hn b hb=>?_) (fun hm=>Nat.lt_irrefl _ (hlt _ hm)) ⟨I4 tk,r,Q2 re cap,qF.refl _,List.prefix_refl _,fun b hb=>(hf b hb).1,I2.hok.fresh (Nat.le_refl _),hacc,⟨[],0,[],rfl,.nil,.nil,Nat.zero_le _⟩⟩ (T.keep _ _ _ st0 fun b hb o e=>keep b o e) run fun s' σ' H' P' α' o' st=>?_
  ·refine⟨hn,hne,fun hm=>?_,.inr (Nat.le_refl _),fun x c h z=>?_,fun p hp=>absurd (show p∈([]:List (Addr × Obj)) from hp) (by simp)⟩
   ·obtain⟨_,o,ho,_⟩:=I2.stack.mem hm
    exact Nat.lt_irrefl _ (Heap.lt_size ho)
   ·rcases xB S I2.ok h with⟨m,_⟩|⟨m,_⟩
    ·exact Nat.lt_irrefl _ (Nat.lt_of_le_of_lt hC (z▸(co.empty x c m).2))
    ·obtain⟨v,ob,hob,_⟩:=I2.cell x c m
     rw[z] at hob
     exact Nat.lt_irrefl _ (Heap.lt_size hob)
  ·obtain⟨_,h1,h2,h3,h4,h5⟩:=hf b hb
   refine⟨hn b hb,Nat.ne_of_lt (Nat.lt_of_lt_of_le (hlt b hb) hC),fun hm=>?_,.inl hb,fun x c h=>(by
    rcases xB S I2.ok h with⟨m,_⟩|⟨m,_⟩
    ·exact Ne.symm (Nat.ne_of_lt (Nat.lt_trans (Nat.lt_of_lt_of_le (hlt b hb) hC) (co.empty x c m).2))
    ·exact h4 x c m),fun p hp=>absurd (show p∈([]:List (Addr × Obj)) from hp) (by simp)⟩
   rcases List.mem_cons.mp (I2.stkSub b hm) with z|z
   ·exact h1 z
   ·exact h2 z
  ·obtain⟨m,hm,_⟩:=st.inv.loc
   exact hRR _ _ s' (Nat.le_refl _) ⟨m,hm⟩ hC hne fun h' sb=>Z2 I2 hf rfl hC (Nat.le_refl _) hne st sb
 exact codeAny_compStart_list (loop _) (T.self X.A 0 _ _ _ (T.keep _ _ _ st0 fun b hb o e=>keep b o e) (loop _))
theorem ZD (hc:X.calm=true)(S:CompSc X.env.scope X.N scope N' cap)(hi:PI X tg iter (tDI2 X fi))
  (hg:∀ cl C ex s₀ H₀,PG (qX X N' scope cl C ex s₀ H₀) tg (tDG (qX X N' scope cl C ex s₀ H₀) g))
  (ht:∀ cl C ex s₀ H₀,PTs (qX X N' scope cl C ex s₀ H₀) ifs t) (has:∀ g',(⟨tg,iter,ifs,0⟩::rest:List Comprehension)[0+1]? = some g'→g'.is_async=0) (he:∀ cl C ex s₀ H₀,PK (qX X N' scope cl C ex s₀ H₀) (fun acc=>zR elt (⟨tg,iter,ifs,0⟩::rest) scope pos 0 acc (qX X N' scope cl C ex s₀ H₀).env) kk)
  (hs:∀ x,foldedSetIterable iter X.env x=pure x:=by intro _;rfl):PE X (.ListComp elt (⟨tg,iter,ifs,0⟩::rest) scope pos) (tD X (zF mm cap fi g t kk)):=by
 intro pins s σ H Q I h
 obtain⟨P,α,env,S0,r,re,af⟩:=h
 rw[eval_ListComp]
 have af':qJ X P α ((fi env S0).bind fun p S1=>mkM mm (goL p.1 g t kk p.2 (zT cap env) S1 [])) (OkV X P α Q):=af
 refine wpAny_comprehension_free (use:=none) rfl hs (r9 S I.ok) S.kind S.names ?_
 refine thn (hi pins s σ H (fun J H1=>∃ (P1:Hp) (α1:List Addr) (p:Option (Nat × MO) × List _D.D) (S1:Sto),Rel X.K H1 P1 α1 S1∧qF P P1∧α<+:α1∧ItD2 X.K J P1 α1 p.1 p.2∧qJ X P α (mkM mm (goL p.1 g t kk p.2 (zT cap env) S1 [])) (OkV X P α Q)) I ⟨P,α,env,S0,r,re,?_⟩) fun xv s1 h1=>thn h1 fun itv s2 h2=>?_
 ·cases q:fi env S0 with
  |bad=>rw[q] at af';exact af'
  |ex c x S'=>rw[q] at af';exact af'
  |ok p S1=>rw[q] at af';exact fun J H1 P1 α1 r1 e1 e2 it=>⟨P1,α1,p,S1,r1,e1,e2,it,af'⟩
 obtain⟨it,fp,tn,J,H2,rfl,I2,T,st0,hf,P1,α1,p,S1,r1,e1,e2,hit,af1⟩:=h2
 obtain⟨envF,ds,SF,run,ok⟩:=o9 af1
 refine bB (RR:=fun acc C=>compPost (model X.prog X.w) X.A X.xe none (EP X pins σ Q) acc C) hc S has hg ht he I2 r1 (re.mono e1 e2) T st0 hf hit run ?_
 intro acc C s' hA ⟨m,hm⟩ hC hne fin
 refine⟨m,hm,fun h' sb=>ZM (mm:=mm) (fin h' sb) ?_⟩
 cases mm with
 |false=>exact fun v H3 P3 α3 r3 q1 q2 q3=>ok v H3 P3 α3 r3 (e1.trans q1) (e2.trans q2) q3
 |true=>exact fun v H3 P3 α3 r3 q1 q2 q3=>ok v H3 P3 α3 r3 (e1.trans q1) (e2.trans q2) q3
theorem ZJ {i:Nat}{y:Str}{py spos:Pos}(hc:X.calm=true)(hN:X.N.Nodup)(S:CompSc X.env.scope X.N scope N' cap)(hi:PI X tg iter (tDI2 X fi))
  (hg:∀ cl C ex s₀ H₀,PG (qX X N' scope cl C ex s₀ H₀) tg (tDG (qX X N' scope cl C ex s₀ H₀) g))
  (ht:∀ cl C ex s₀ H₀,PTs (qX X N' scope cl C ex s₀ H₀) ifs t) (has:∀ g',(⟨tg,iter,ifs,0⟩::rest:List Comprehension)[0+1]? = some g'→g'.is_async=0) (he:∀ cl C ex s₀ H₀,PK (qX X N' scope cl C ex s₀ H₀) (fun acc=>zR elt (⟨tg,iter,ifs,0⟩::rest) scope pos 0 acc (qX X N' scope cl C ex s₀ H₀).env) kk)
  (hy:X.N[i]? = some y:=by rfl) (hyl:Loc X.env.scope y:=by first|exact Or.inl rfl|exact Or.inr rfl) (hf:X.fn y=true∨X.env.scope.names.lookup y=some .local:=by first|exact .inl rfl|exact .inr rfl|assumption)
  (hsw:swapsWith (.ListComp elt (⟨tg,iter,ifs,0⟩::rest) scope pos) (some (.Name y py)) spos.line X.env=pure true:=by rfl)
  (hs:∀ x,foldedSetIterable iter X.env x=pure x:=by intro _;rfl):PS X (.Assign [.Name y py] (.ListComp elt (⟨tg,iter,ifs,0⟩::rest) scope pos) spos) (tDS X (zG (zF mm cap fi g t kk) (gNm i))):=by
 intro pins s σ H D I h
 obtain⟨P,α,env,S0,r,re,af⟩:=h
 have af0:=xP af
 have af':qJ X P α ((fi env S0).bind fun p S1=>mkM mm (goL p.1 g t kk p.2 (zT cap env) S1 [])) (fun d S=>qV X P α (.nx (env.set i (some d)) S) D):=af0
 rw[exec_Assign_Name_used _ _ _ _ hsw]
 refine wpAny_bind (wpAny_standAt (wpAny_bind ?_))
 show wpAny _ X.A (do let _ ← comprehension (.ListComp elt (⟨tg,iter,ifs,0⟩::rest) scope pos) scope X.env _ (newList []) false (eval iter X.env) (some (assign (.Name y py) X.env))) _ _ s
 refine wpAny_bind (wpAny_mono (wpAny_comprehension_free (use:=some (assign (.Name y py) X.env)) (Q:=fun _ s'=>SP X pins D .next s') rfl hs (r9 S I.ok) S.kind S.names ?_) (fun _ s' hq=>wpAny_pure (wpAny_pure hq)) fun _ _ e=>e)
 refine thn (hi pins s σ H (fun J H1=>∃ (P1:Hp) (α1:List Addr) (p:Option (Nat × MO) × List _D.D) (S1:Sto),Rel X.K H1 P1 α1 S1∧qF P P1∧α<+:α1∧ItD2 X.K J P1 α1 p.1 p.2∧qJ X P α (mkM mm (goL p.1 g t kk p.2 (zT cap env) S1 [])) (fun d S=>qV X P α (.nx (env.set i (some d)) S) D)) I ⟨P,α,env,S0,r,re,?_⟩) fun xv s1 h1=>thn h1 fun itv s2 h2=>?_
 ·cases q:fi env S0 with
  |bad=>rw[q] at af';exact af'
  |ex c x S'=>rw[q] at af';exact af'
  |ok p S1=>rw[q] at af';exact fun J H1 P1 α1 r1 e1 e2 it=>⟨P1,α1,p,S1,r1,e1,e2,it,af'⟩
 obtain⟨it,fp,tn,J,H2,rfl,I2,T,st0,hfp,P1,α1,p,S1,r1,e1,e2,hit,af1⟩:=h2
 obtain⟨envF,ds,SF,run,ok⟩:=o9 af1
 refine bB (RR:=fun acc C=>compPost (model X.prog X.w) X.A X.xe (some (assign (.Name y py) X.env)) (fun _ s'=>SP X pins D .next s') acc C) hc S has hg ht he I2 r1 (re.mono e1 e2) T st0 hfp hit run ?_
 intro acc C s' hA ⟨m,hm⟩ hC hne fin
 show wpAny _ X.A (assign (.Name y py) X.env (.ref acc)) _ _ s'
 obtain⟨H3,P3,α3,vs,I3,r3,hn3,q1,q2,rp,hCn⟩:=fin s'.heap (Heap.SameBut.refl _ _)
 obtain⟨r4,e4⟩:=r3.pure (o:=.lst vs) hn3
 have hCn':(upd H3 acc (.lst vs)) C=none:=by rw[qI (Ne.symm hne)];exact hCn
 have fC:=I2.fpOk hC hCn'
 refine wpAny_assign_Name (nD I3 hN hy hyl (show qK (V.ref acc) (Value.ref acc) from rfl) (fun s5 I5 ⟨a,sb,ha⟩=>?_) hf)
 have hCa:C≠a:=by
  rcases ha with rfl|ha
  ·exact fC.2.1
  ·exact fun z=>fC.2.2.2.2.1 _ _ ha z.symm
 refine⟨m,hm.sameBut sb hCa,fun h' sb'=>?_⟩
 have I6:Inv X pins (σ.set i (some (V.ref acc))) (upd H3 acc (.lst vs)) { s5 with heap:=h' }:=I5.turned (t':=s5.toks) (fun b o hb e=>(sb'.2 b hb).trans e) hCn' fC.2.1 fC.2.2.2.1 fC.2.2.2.2.1 fC.2.2.2.2.2
 cases mm with
 |false =>
  refine⟨_,_,I6,ok _ _ (upd P3 acc (.lst vs)) α3 r4 ?_ ((e1.trans q1).trans e4) (e2.trans q2)⟩
  exact((re.mono e1 e2).mono (q1.trans e4) q2).set i (mY (.inl (.inl qS)) (qE.mono e4 (List.prefix_refl _) _ _ rp))
 |true =>
  have hpre:α3<+:α3++[acc]:=List.prefix_append _ _
  have r5:=r3.new (o:=.lst vs) (m:=.lst ds) hn3 ⟨vs,qS,qE.mono (qF.refl _) hpre _ _ rp⟩
  refine⟨_,_,I6,ok _ _ P3 (α3++[acc]) r5 ?_ (e1.trans q1) ((e2.trans q2).trans hpre)⟩
  refine((re.mono e1 e2).mono q1 (q2.trans hpre)).set i ?_
  simp only[Rep]
  exact⟨acc,rfl,by rw[← r3.len];simp⟩
end
end _D
end
section
namespace _D
open PySem PySem.Spec PyProof.Rows _L
section
variable {prog:Program}{w:World}{A:Around}{E:Value→Shared→Prop}{s:Shared}
theorem iA {tp:Bool}{e it l:Addr}{i:Nat}{xs:Array Value}{x old:Value}{Q:Value→Shared→Prop}(he:IsEnum s.heap e it i old)(hit:zE tp s.heap it l i)(hl:xJ tp s.heap l xs)(hx:xs[i]? = some x)(ne:e≠it)
  (hQ:∀ g,IsEnumOut g e it ((i:Int)+1) x s.heap.objs.size→zE tp g it l (i+1)→IsPair g s.heap.objs.size (.int i s.toks) x→g.objs.size=s.heap.objs.size+1→(∀ b o,b≠e→b≠it→s.heap.get? b=some o→g.get? b=some o)→Q (.ref s.heap.objs.size) { s with heap:=g,toks:=s.toks+1 }) :
  wpAny (model prog w) A (Builtin.«enumerate.__next__» ⟨[.ref e],[]⟩) (fun fin s'=>∃ v,fin=.done (.ret v)∧Q v s') E s:=by
 obtain⟨hp,gn,dr,tk,os⟩:=s
 show wpAny _ _ (field (.ref e) 2 >>= _) _ _ _;refine wpAny_bind (wpAny_field he rfl (x:=.ref it) rfl (wpAny_bind (gD hit hl hx fun g1 i1 s1=>?_)))
 replace s1:Heap.SameBut it hp g1:=s1
 have e1:IsEnum g1 e it i old:=(s1.2 e ne).trans he
 show wpAny _ _ (field (.ref e) 3 >>= _) _ _ ⟨g1,gn,dr,tk,os⟩;refine wpAny_bind (wpAny_field e1 rfl (x:=rawInt i) rfl ?_)
 show wpAny _ _ (field (.ref e) 4 >>= _) _ _ ⟨g1,gn,dr,tk,os⟩;refine wpAny_bind (wpAny_field e1 rfl (x:=.none) rfl ?_)
 show wpAny _ _ (mkInt i >>= _) _ _ ⟨g1,gn,dr,tk,os⟩;refine wpAny_bind (wpAny_mkInt ?_)
 show wpAny _ _ (setField (.ref e) 3 (rawInt ((i:Int)+1)) >>= _) _ _ ⟨g1,gn,dr,tk+1,os⟩
 refine wpAny_bind (wpAny_setField_rec e1 (by simp) fun g2 e2 s2=>?_)
 replace s2:Heap.SameBut e g1 g2:=s2
 replace e2:IsEnum g2 e it ((i:Int)+1) old:=e2
 show wpAny _ _ (setField (.ref e) 4 .none >>= _) _ _ ⟨g2,gn,dr,tk+1,os⟩;refine wpAny_bind (wpAny_setField_rec e2 (by simp) fun g3 e3 s3=>?_)
 replace s3:Heap.SameBut e g2 g3:=s3
 replace e3:IsEnum g3 e it ((i:Int)+1) old:=e3
 show wpAny _ _ (newTuple [.int i tk,x] >>= _) _ _ ⟨g3,gn,dr,tk+1,os⟩;refine wpAny_bind (wpAny_newTuple ?_)
 have e4:IsEnum (g3.push { cls:=.type "tuple",data:=.seq #[.int i tk,x] }) e it ((i:Int)+1) old:=Heap.get?_push_of_some _ e3
 generalize q4:g3.push { cls:=.type "tuple",data:=.seq #[.int i tk,x] } = g4 at e4
 have sz:g3.objs.size=hp.objs.size:=by rw[s3.1,s2.1,s1.1]
 have el:e<hp.objs.size:=Heap.lt_size he
 have t4:IsPair g4 hp.objs.size (.int i tk) x:=by rw[← q4,← sz];exact Heap.get?_push_size _ rfl
 have z4:g4.objs.size=hp.objs.size+1:=by rw[← q4,Heap.size_push,sz]
 have k4:∀ b o,b≠e→b≠it→hp.get? b=some o→g4.get? b=some o:=fun b o b1 b2 q=>by
  rw[← q4];exact Heap.get?_push_of_some _ (s3.extBut b o b1 (s2.extBut b o b1 (s1.extBut b o b2 q)))
 have i4:zE tp g4 it l (i+1):=i1.keep fun o q=>by rw[← q4];exact Heap.get?_push_of_some _ (s3.extBut _ o ne.symm (s2.extBut _ o ne.symm q))
 show wpAny _ _ (Builtin.SmallTypes.ownedTupleIsFree (.ref e) >>= _) _ _ ⟨g4,gn,dr,tk+1,os⟩
 rw[sz]
 refine wpAny_bind ?_;unfold Builtin.SmallTypes.ownedTupleIsFree
 refine wpAny_bind (wpAny_field e4 rfl (x:=.none) rfl (wpAny_pure ?_));simp only[if_true]
 refine wpAny_bind (wpAny_rule (wpAny_bind (wpAny_field e4 rfl (x:=old) rfl (wpAny_bind (wpAny_setField_rec e4 (by simp) fun g5 e5 s5=>?_)))))
 replace s5:Heap.SameBut e g4 g5:=s5
 replace e5:IsEnum g5 e it ((i:Int)+1) x:=e5
 show wpAny _ _ (Builtin.SmallTypes.ownedTupleHandOut (.ref e) (.ref hp.objs.size) >>= _) _ _ ⟨g5,gn,dr,tk+1,os⟩
 refine wpAny_bind ?_;unfold Builtin.SmallTypes.ownedTupleHandOut
 refine wpAny_bind (wpAny_setField_rec e5 (by simp) fun g6 e6 s6=>?_)
 replace s6:Heap.SameBut e g5 g6:=s6
 replace e6:IsEnumOut g6 e it ((i:Int)+1) x hp.objs.size:=e6
 refine wpAny_setField_rec e6 (by simp) fun g7 e7 s7=>?_
 replace s7:Heap.SameBut e g6 g7:=s7
 replace e7:IsEnumOut g7 e it ((i:Int)+1) x hp.objs.size:=e7
 have up:∀ b o,b≠e→g4.get? b=some o→g7.get? b=some o:=fun b o b1 q=>s7.extBut b o b1 (s6.extBut b o b1 (s5.extBut b o b1 q))
 exact wpAny_bind (wpAny_letGo (wpAny_pure ⟨_,rfl,hQ g7 e7 (i4.keep fun o q=>up _ o ne.symm q) (up _ _ (Nat.ne_of_gt el) t4) (by rw[s7.1,s6.1,s5.1,z4]) fun b o b1 b2 q=>up b o b1 (k4 b o b1 b2 q)⟩))
set_option maxHeartbeats 4000000 in
set_option tactic.hygienic true in
theorem ZO (tp:Bool)(l:Addr)(xs:Array Value) :
  Meets (Builtin.«enumerate.__new__» ⟨[.type "enumerate",.ref l],[]⟩) (fun _ R s=>(∃ n dct sl,s.heap.get? l=some { cls:=.type (if tp then "tuple" else "list"),dict:=dct,data:=.seq xs n,slots:=sl }) ∧ R (.ok (.ret (.ref (s.heap.push (vW tp l)).objs.size))) { s with heap:=(s.heap.push (vW tp l)).push { cls:=.type "enumerate",data:=.fields #[.none,.bool false,.ref s.heap.objs.size,rawInt 0,.none,.none] } }):=
 .of_wp fun prog w A R s h=>by
  obtain⟨hp,gn,dr,tk,os⟩:=s
  obtain⟨⟨n,dct,sl,hl⟩,h⟩:=h
  have hsub:=sub_enumerate
  cases tp
  ·have L1:Heap.IsList (Shared.heap ⟨hp,gn,dr,tk,os⟩) l xs:=⟨_,hl,rfl,n,rfl⟩
   wp_walk using AutoSeq1.wpAny_loadPart' hl
   refine wpAny_stack_any fun st=>wpAny_pure ?_
   split
   ·rename_i c _ _ _ _ _
    cases (c == Value.type "enumerate") <;> (wp_walk using AutoSeq1.wpAny_loadPart' hl,wpAny_pyIter_list L1;exact⟨_,rfl,h⟩)
   ·wp_walk using AutoSeq1.wpAny_loadPart' hl,wpAny_pyIter_list L1;exact⟨_,rfl,h⟩
  ·have L1:Heap.IsTuple (Shared.heap ⟨hp,gn,dr,tk,os⟩) l xs:=⟨_,hl,rfl,n,rfl⟩
   wp_walk using AutoSeq1.wpAny_loadPart' hl
   refine wpAny_stack_any fun st=>wpAny_pure ?_
   split
   ·rename_i c _ _ _ _ _
    cases (c == Value.type "enumerate") <;> (wp_walk using AutoSeq1.wpAny_loadPart' hl,wpAny_pyIter_tuple L1;exact⟨_,rfl,h⟩)
   ·wp_walk using AutoSeq1.wpAny_loadPart' hl,wpAny_pyIter_tuple L1;exact⟨_,rfl,h⟩
theorem aR {tp:Bool}{l:Addr}{xs:Array Value}{Q:Value→Shared→Prop}(hl:∃ n dct sl,s.heap.get? l=some { cls:=.type (if tp then "tuple" else "list"),dict:=dct,data:=.seq xs n,slots:=sl })
  (h:∀ g,IsEnum g (s.heap.objs.size+1) s.heap.objs.size 0 .none→zE tp g s.heap.objs.size l 0→(∀ b o,s.heap.get? b=some o→g.get? b=some o)→Q (.ref (s.heap.objs.size+1)) { s with heap:=g }) :
  wpAny (model prog w) A (call (.type "enumerate") [.ref l]) Q E s:=by
 refine callType_new F.called_enumerate (by decide) (F.typeCall_enumerate_1 _) (F.newCall_enumerate_1 _) (fun obj=>F.args_object_init_2 obj _) F.entry_enumerate_new (ZO tp l xs) ⟨hl,?_⟩
 have hz:(s.heap.push (vW tp l)).objs.size=s.heap.objs.size+1:=Heap.size_push ..
 show _∧_
 have he:((s.heap.push (vW tp l)).push { cls:=.type "enumerate",data:=.fields #[.none,.bool false,.ref s.heap.objs.size,rawInt 0,.none,.none] }).get? (s.heap.push (vW tp l)).objs.size=some _:=Heap.get?_push_size _ rfl
 rw[hz] at he ⊢
 exact⟨⟨_,he,rfl⟩,h _ he (kY (Heap.get?_push_of_some _ (Heap.get?_push_size _ rfl))) fun b o x=>Heap.get?_push_of_some _ (Heap.get?_push_of_some _ x)⟩
end
end _D
end
section
namespace _D
open PySem PySem.Spec PyProof.Rows _L
def Ite (tp:Bool)(K:PySem.W.Frag)(a:Addr):It:=
  ⟨fun i H=>∃ xs x,Sq tp K H a xs∧xs[i]? = some x,
   fun i H v H'=>∃ T x,v=.ref T∧H T=none∧H'=upd H T (.tup [.int i,x])∧∀ xs,Sq tp K H a xs→xs[i]? = some x,
   fun i H=>∃ xs,Sq tp K H a xs∧xs.length≤i⟩
def aG (tp:Bool)(e it l:Addr)(k:Nat)(h:Heap):Prop:=∃ old,IsEnum h e it k old∧zE tp h it l k
theorem Q9 {P:Program}{w:World}{K:PySem.W.Frag}{elts:List Expr}{x1:Nat}{tpos:Pos}{tp:Bool}{e it a:Addr}(ne:e≠it):Turn P w K (.Tuple elts x1 tpos) (Ite tp K a) [e,it] e (aG tp e it a) where
 mem:=by simp
 obj:=fun k h st c hc=>by
  obtain⟨old,s1,s2⟩:=st
  simp only[List.mem_cons,List.not_mem_nil,or_false] at hc
  rcases hc with rfl|rfl
  ·exact⟨_,s1,fun v y=>by cases y⟩
  ·exact s2.there
 keep:=fun k h h' st kp=>by
  obtain⟨old,s1,s2⟩:=st
  exact⟨old,kp e (by simp) _ s1,s2.keep fun o q=>kp it (by simp) o q⟩
 item:=by
  intro X hP hw hK hc k pins s σ H E Iv hf st hg
  subst hP hw hK
  obtain⟨old,s1,s2⟩:=st
  obtain⟨xs,x,qa,hx⟩:=hg
  obtain⟨ia,ra,ha⟩:=qa.at Iv
  obtain⟨u,hu,ru⟩:=ra.get hx
  have hT:s.TypeIs (.ref e) "enumerate":=⟨_,s1,rfl⟩
  unfold pyNext
  refine wpAny_bind (wpAny_attempt (wpAny_callSpecial?_slot (name:=Str.ofString "__next__") hT F.slot_enumerate_next (wpAny_call_entry F.slot_enumerate_next hT F.entry_enumerate_next
   (iA s1 s2 ha (by simpa using hu) ne fun h' a1 a2 a3 a4 a5=>wpAny_pure ?_) (F.args_enumerate_next_1 _))))
  refine⟨_,rfl,wpAny_letOwnedTupleGo_enum (s:={ s with heap:=h',toks:=s.toks+1 }) a1 fun h2 b1 b2=>?_⟩
  have up:∀ c o,c≠e→h'.get? c=some o→h2.get? c=some o:=fun c o n q=>(b2.2 c n).trans q
  have el:e<s.heap.objs.size:=Heap.lt_size s1
  have T2:IsPair h2 s.heap.objs.size (.int k s.toks) u:=up _ _ (Nat.ne_of_gt el) a3
  have st2:aG tp e it a (k+1) h2:=⟨u,b1,a2.keep fun o q=>up _ o ne.symm q⟩
  refine⟨.ref s.heap.objs.size,upd H s.heap.objs.size (.tup [.int k,x]),?_,rfl,⟨_,x,rfl,Iv.hok.fresh (Nat.le_refl _),rfl,fun zs qz=>by rw[qz.inj Iv qa];exact hx⟩,st2,fun c hc=>?_⟩
  ·have:=Inv.turnLay (fp:=[e,it]) (its:=[.int k s.toks,u]) (h':=h2) (xs:=[.int k,x]) Iv hf (fun c o hc q=>by
    simp only[List.mem_cons,List.not_mem_nil,or_false,not_or] at hc
    exact up c o hc.1 (a5 c o hc.1 hc.2 q)) (fun c hc=>by
    obtain⟨old',t1,t2⟩:=st2
    simp only[List.mem_cons,List.not_mem_nil,or_false] at hc
    rcases hc with rfl|rfl
    ·exact⟨_,t1⟩
    ·obtain⟨o,q,_⟩:=t2.there;exact⟨o,q⟩) (Nat.le_refl _) (.cons ⟨_,rfl⟩ (.cons ru .nil)) ⟨_,T2,rfl,_,rfl⟩ (by show 2≤sizeLine;decide)
   exact this.tok (s.toks+1)
  ·have hn:=(hf c hc).1
   rw[qI ?_]
   ·exact hn
   ·rintro rfl
    obtain⟨o,q,_⟩:∃ o,s.heap.get? s.heap.objs.size=some o∧True:=by
     simp only[List.mem_cons,List.not_mem_nil,or_false] at hc
     rcases hc with z|z
     ·exact⟨_,z▸s1,trivial⟩
     ·obtain⟨o,e',_⟩:=s2.there;exact⟨o,z▸e',trivial⟩
    exact absurd (Heap.lt_size q) (Nat.lt_irrefl _)
 done:=by
  intro X hP hw hK hc k pins s σ H E Iv hf st hg
  subst hP hw hK
  obtain⟨old,s1,s2⟩:=st
  obtain⟨xs,qa,hend⟩:=hg
  obtain⟨ia,ra,ha⟩:=qa.at Iv
  have hT:s.TypeIs (.ref e) "enumerate":=⟨_,s1,rfl⟩
  have l1:=ra.length
  unfold pyNext
  refine wpAny_bind (wpAny_attempt (wpAny_callSpecial?_slot (name:=Str.ofString "__next__") hT F.slot_enumerate_next (wpAny_call_entry F.slot_enumerate_next hT F.entry_enumerate_next ?_ (F.args_enumerate_next_1 _))))
  show wpAny _ _ (field (.ref e) 2 >>= _) _ _ _
  refine wpAny_bind (wpAny_field s1 rfl (x:=.ref it) rfl (wpAny_bind (uV (Iv.ok.hd hc) s2 ha (by simp;omega) fun h' x kp hx'=>?_)))
  obtain⟨o,ho,hcl⟩:=hx'
  refine wpAny_bind (wpAny_isInstance (T:="StopIteration") (b:=true) ⟨o,ho,hcl⟩ isSubtype_stop (wpAny_pure ⟨rfl,Inv.turnL (fp:=[e,it]) Iv hf fun c o hc q=>?_⟩))
  simp only[List.mem_cons,List.not_mem_nil,or_false,not_or] at hc
  exact kp c o hc.2 q
 self:=fun _ _ _ _ _ st h=>by
  obtain⟨old,s1,_⟩:=st
  exact wpAny_pyIter_enum s1 h
def y7 (xs:List D):List D:=xs.mapIdx fun i x=>D.tup [.int i,x]
def WY (ds:List D):Option (List D):=match ds with
 |[.tup xs]=>some (y7 xs)
 |[.lst xs]=>some (y7 xs)
 |_=>none
def nN (f:DA):DI:=fun env S=>(f env S).bind fun ds S1=>yO (WY ds) S1
theorem i9 (xs:List D)(i:Nat):(y7 xs)[i]? = (xs[i]?).map fun x=>D.tup [.int i,x]:=by
 unfold y7
 rw[List.getElem?_mapIdx]
theorem p9 (xs:List D):(y7 xs).length=xs.length:=by simp[y7]
theorem X1 {K:PySem.W.Frag}{tp:Bool}{P:Hp}{α : List Addr}{a:Addr}{xs:List D}{vs:List V}(qa:Sq tp K P a vs)(ta:qE K P α xs vs):ItD K (Ite tp K a) P α (y7 xs) where
 go:=fun i H P1 α1 S hi r e _=>by
  rw[p9] at hi
  have h1:i<vs.length:=by rw[← ta.length];omega
  exact⟨vs,vs[i],qa.mono (e.trans r.sub),by simp⟩
 yld:=fun i H x H' P1 α1 S hi r e e2 y=>by
  obtain⟨T,u,rfl,hT,rfl,hu⟩:=y
  rw[p9] at hi
  obtain⟨v1,z1,p1⟩:=ta.get (List.getElem?_eq_getElem hi)
  have eu:=hu vs (qa.mono (e.trans r.sub))
  rw[z1] at eu;cases eu
  obtain⟨r1,s1⟩:=r.pure (o:=.tup [.int i,u]) hT
  refine⟨_,.tup [.int i,xs[i]],?_,r1,s1,?_⟩
  ·rw[i9,List.getElem?_eq_getElem hi];rfl
  ·exact mZ (.of qS) (.cons (by simp only[Rep]) (.cons (Rep.mono (e.trans s1) e2 _ _ p1) .nil))
 stop:=fun i H P1 α1 S hi r e _=>by
  rw[p9] at hi
  have l1:=ta.length
  exact⟨vs,qa.mono (e.trans r.sub),by omega⟩
section
variable {X:Cx}{e1:Expr}{elts:List Expr}{x1:Nat}{tpos:Pos}{f:DA}{p pos:Pos}
theorem Sq.obj {tp:Bool}{pins:List (Addr × Obj)}{σ : _L.St}{H:Hp}{s:Shared}{a:Addr}{xs:List V}(I:Inv X pins σ H s)(q:Sq tp X.K H a xs):∃ its:List Value,qN xs its∧∃ n dct sl,s.heap.get? a=some { cls:=.type (if tp then "tuple" else "list"),dict:=dct,data:=.seq its.toArray n,slots:=sl }:=by
 obtain⟨its,rv,h⟩:=q.at I
 refine⟨its,rv,?_⟩
 cases tp with
 |true =>
  obtain⟨o,ho,hc,n,hd⟩:=h
  obtain⟨c,d,dt,sl⟩:=o
  dsimp only at hc hd
  subst hc;subst hd
  exact⟨n,_,_,ho⟩
 |false =>
  obtain⟨o,ho,hc,n,hd⟩:=h
  obtain⟨c,d,dt,sl⟩:=o
  dsimp only at hc hd
  subst hc;subst hd
  exact⟨n,_,_,ho⟩
theorem rE {tp:Bool}{pins:List (Addr × Obj)}{σ : _L.St}{H P:Hp}{α : List Addr}{S:Sto}{s:Shared}{a:Addr}{xs:List D}{vs:List V}{R:It→Hp→Prop}(I:Inv X pins σ H s)(r:Rel X.K H P α S)(qa:Sq tp X.K P a vs)(ta:qE X.K P α xs vs)
  (q:OkI X P α R (y7 xs) S):wpAny (model X.prog X.w) X.A (call (.type "enumerate") [.ref a]) (fun v s1=>wpAny (model X.prog X.w) X.A (pyIter v) (PIE X pins σ (.Tuple elts x1 tpos) R) X.xe s1) X.xe s:=by
 obtain⟨ia,ra,ha⟩:=Sq.obj I (qa.mono r.sub)
 refine aR (tp:=tp) ha fun h' z1 z2 z7=>?_
 refine wpAny_pyIter_enum (s:={ s with heap:=h' }) z1 ?_
 refine⟨_,[s.heap.objs.size+1,s.heap.objs.size],_,_,H,rfl,I.kept (t':=s.toks) z7,Q9 (tp:=tp) (a:=a) (by intro z;simp at z),⟨_,z1,z2⟩,fun c hc=>?_,q _ _ P α r (qF.refl _) (List.prefix_refl _) (X1 qa ta)⟩
 have hl:s.heap.objs.size≤c:=by
  simp only[List.mem_cons,List.not_mem_nil,or_false] at hc
  rcases hc with rfl|rfl <;> simp
 exact I.fpOk hl (I.hok.fresh hl)
theorem m9:bootBuiltins "enumerate" = some (.type "enumerate"):=by decide +kernel
theorem ZN {ds its:List D}(h:WY ds=some its):∃ d xs,ds=[d]∧ItV d xs∧its=y7 xs:=by
 cases ds with
 |nil=>exact nn h
 |cons d ds =>
  cases ds with
  |cons _ _=>cases d <;> exact nn h
  |nil =>
   cases d with
   |tup xs=>exact⟨_,xs,rfl,.tup rfl,(Option.some.inj h).symm⟩
   |lst xs=>exact⟨_,xs,rfl,.lst rfl,(Option.some.inj h).symm⟩
   |_=>exact nn h
theorem VD (hg:Gl X "enumerate")(hm:X.mg "enumerate" = none)(ha:PA X [e1] (tDA X f))(hs:starEach [e1] X.env=(false,eval e1 X.env)::starEach [] X.env:=by rfl)(hpl:(backTo pos (starEach [] X.env)).any (·.1)=false:=by rfl) :
  PI X (.Tuple elts x1 tpos) (.Call (.Name "enumerate" p) [e1] [] pos) (tDI X (nN f)):=by
 intro pins s σ H R I h
 obtain⟨P,α,env,S,r,re,af⟩:=h
 refine Call_ (k7 I hg hm m9 (PyProof.Rows.callWith_type1 (thn (wH ha I r re af pos) fun us s1 ⟨vs,H1,P1,α1,ds,S1,I1,rv,r1,re1,rp,e1,e2,af1⟩=>?_) hs hpl))
 obtain⟨its,hi,q⟩:=vQ af1
 obtain⟨d,xs,rfl,hd,rfl⟩:=ZN hi
 obtain⟨v,u,rfl,rfl,p1,q1⟩:=vC rp rv
 cases hd with
 |tup ed =>
  subst ed
  simp only[Rep] at p1
  obtain⟨a,va,rfl,qa,ta⟩:=p1
  cases (show u=Value.ref a from q1)
  exact rE (tp:=true) I1 r1 qa ta (q.base e1 e2)
 |lst ed =>
  subst ed
  simp only[Rep] at p1
  obtain⟨a,va,rfl,qa,ta⟩:=p1
  cases (show u=Value.ref a from q1)
  exact rE (tp:=false) I1 r1 qa.l ta (q.base e1 e2)
end
end _D
end
section
namespace _D
open PySem PySem.Spec PyProof.Rows _L
section
variable {X:Cx}
def xY:D→List D→Sto→Res D:=fun a ds S=>match a,ds with
 |.loc n,[i,x]=>match S[n]? with
  |some (.dct kvs)=>match yL i with
   |some k=>match wF kvs k with
    |some d=>.ok d S
    |none=>if kvs.length<lim then .ok x (S.set n (.dct (wD kvs k x))) else .bad
   |none=>.bad
  |_=>.bad
 |_,_=>.bad
theorem bA (a b c:Value):argsOk "dict.setdefault" ⟨[a,b,c],[]⟩:=by unfold argsOk;kernel_rfl
inductive SdV (a:D)(ds:List D)(S:Sto):Prop
 |bad (e:xY a ds S=.bad)
 |of (n:Nat) (i x:D) (kvs:List (Key × D)) (k:Key) (ea:a=.loc n) (ed:ds=[i,x]) (hS:S[n]? = some (.dct kvs)) (hk:yL i=some k) (e:xY a ds S=(match wF kvs k with|some d=>.ok d S|none=>if kvs.length<lim then .ok x (S.set n (.dct (wD kvs k x))) else .bad))
theorem sdV (a:D)(ds:List D)(S:Sto):SdV a ds S:=by
 cases a with
 |loc n =>
  cases ds with
  |nil=>exact .bad rfl
  |cons i ds =>
   cases ds with
   |nil=>exact .bad rfl
   |cons x ds =>
    cases ds with
    |cons _ _=>exact .bad rfl
    |nil =>
     have z:xY (.loc n) [i,x] S=(match S[n]? with|some (.dct kvs)=>(match yL i with|some k=>(match wF kvs k with|some d=>.ok d S|none=>if kvs.length<lim then .ok x (S.set n (.dct (wD kvs k x))) else .bad)|none=>.bad)|_=>.bad):=rfl
     cases hS:S[n]? with
     |none=>rw[hS] at z;exact .bad z
     |some m =>
      rw[hS] at z
      cases m with
      |dct kvs =>
       cases hk:yL i with
       |none=>rw[hk] at z;exact .bad z
       |some k=>rw[hk] at z;exact .of n i x kvs k rfl rfl hS hk z
      |_=>exact .bad z
 |_=>exact .bad rfl
theorem o8:MtD X "dict.setdefault" xY:=by
 intro pins σ H s P α S v vv vs us a ds Q I r rv p rvs rps af
 cases sdV a ds S with
 |bad e=>rw[e] at af;exact False.elim af
 |of n i x kvs k ea ed hS hk e =>
  rw[e] at af
  subst ea ed
  clear e
  obtain⟨vi,vx,ui,ux,rfl,rfl,pi,px,qi,qx⟩:=gI rps rvs
  simp only[Rep] at p
  obtain⟨b,rfl,q⟩:=p
  obtain⟨ws,z,t⟩:=r.at' n b _ q hS
  cases iR hk pi
  cases (show vv=Value.ref b from rv)
  obtain⟨hz,hd,us',rel,dd⟩:=WW I.hok z
  have hz':us'.length≤sizeLine:=by rw[← rel.length];exact hz
  obtain⟨k1,k2⟩:=rT (k:=k) t
  have er:=rel.val k
  refine call_meetsIn PySem.F.slot_dict_setdefault dd.typeIs PySem.F.entry_dict_setdefault (bA _ _ _) (kt_meets_setdefault (zX X.prog X.w) b (fK qi) hd ux) ⟨us',dd,hz',fun v' hv'=>?_,fun hn h' dd' hs=>?_⟩
  ·cases hv:wF kvs k with
   |none =>
    rw[k2 hv,hv'] at er
    exact False.elim er
   |some d =>
    obtain⟨w',e1,e2⟩:=k1 d hv
    rw[hv] at af
    rw[e1,hv'] at er
    exact⟨w',H,I.tok _,er,xr af r e2⟩
  ·cases hv:wF kvs k with
   |some d =>
    obtain⟨w',e1,e2⟩:=k1 d hv
    rw[e1,hn] at er
    exact False.elim er
   |none =>
    rw[hv] at af
    obtain⟨hl,af⟩:=xM (X:=X) af
    have hl':(yN ws k vx).length≤sizeLine:=by
     have:=jQ ws k vx
     have e3:=mS t
     rw[← zO];omega
    have he:∃ q,h'.get? b=some q:=let ⟨q,_,_,hq,_⟩:=dd';⟨q,hq⟩
    have I':=mD (t':=s.toks+1) I (by rw[z];exact True.intro) hs he (i8 hl' hd (rel.put k qx) dd')
    exact⟨vx,_,I',qx,af _ _ P α (r.put (m':=.dct (wD kvs k x)) q hS (by intro z;cases z) ⟨_,qS,rS px t⟩) (qF.refl _) (List.prefix_refl _) px⟩
def jE:List D→Option (List Int)
 |[]=>some []
 |.int i::r=>(jE r).map (i::·)
 |_::_=>none
theorem d8:∀ {ds:List D} {ns:List Int},jE ds=some ns→ds=ns.map D.int
 |[],ns,h=>by cases h;rfl
 |d::r,ns,h=>by
  cases d with
  |int i =>
   obtain⟨m,h1,rfl⟩:=Option.map_eq_some_iff.mp (show (jE r).map (i::·)=some ns from h)
   rw[d8 h1];rfl
  |_=>exact nn h
theorem tS {K:PySem.W.Frag}{P:Hp}{α : List Addr}:∀ {ns:List Int} {vs:List V},qE K P α (ns.map D.int) vs→vs=ns.map V.int
 |[],vs,r=>by rw[r.nil_inv];rfl
 |n::ns,vs,r=>by
  obtain⟨w,ws,rfl,p,t⟩:=r.cons_inv
  simp only[Rep] at p
  rw[p,tS t];rfl
def RX:G2:=fun a b S=>match a,b with
 |.tup xs,.tup ys=>match jE xs,jE ys with
  |some ns,some ms=>.ok (.bl (_H.lexLt ns ms)) S
  |_,_=>.bad
 |_,_=>gLt a b S
def mL:G2:=fun a b S=>match a,b with
 |.tup xs,.tup ys=>match jE xs,jE ys with
  |some ns,some ms=>.ok (.bl (_H.lexLt ms ns)) S
  |_,_=>.bad
 |_,_=>gGt a b S
end
section
open PySem.SeqAt
open PySem.AutoSeq1 (wpAny_loadPart')
open PySem.MeetsSeq PySem.MeetsSeq2 PySem.MeetsSeq3
theorem W7 (A:Around)(s:Shared)(a:Int)(t:Tok)(c:Int)(u:Tok)(prog:Program)(w:World)(E:Value→Shared→Prop)(Q:Value→Shared→Prop)(h:Q (.bool (decide (a>c))) s) :
  wpAny (model prog w) A (richCompare .Gt (.int a t) (.int c u)) Q E s:=
 (PyProof.Rows.gt_int h:wpAny (model prog w) A (compareOp .Gt (.int a t) (.int c u)) Q E s)
theorem nH (l b:Addr)(items items2:Array Value)(n n2:Nat)(dd dd2:Option Addr)(sl sl2:Array (Option Value))(ns ms:List Int)(hi:IntsAre items.toList ns)(hj:IntsAre items2.toList ms) :
  Meets (Builtin.«tuple.__gt__» ⟨[.ref l,.ref b],[]⟩)
   (fun _ R s=>s.heap.get? l=some { cls:=.type "tuple",dict:=dd,data:=.seq items n,slots:=sl } ∧ s.heap.get? b=some { cls:=.type "tuple",dict:=dd2,data:=.seq items2 n2,slots:=sl2 } ∧
    R (.ok (.ret (.bool (_H.lexLt ms ns)))) s):=
 .of_wp fun prog w A R s h=>by
  obtain⟨hp,g,d,tk,os⟩:=s;obtain⟨hl,hb,h⟩:=h
  have f2:=AutoSeq1.sub_tuple_tuple
  have z1:items.size=ns.length:=by rw[← hi.length];simp
  have z2:items2.size=ms.length:=by rw[← hj.length];simp
  wp_walk using wpAny_loadPart' hl,wpAny_loadPart' hb,wpAny_forIn_list _ (fun rest b s'=>b.1=none∧s'=⟨hp,g,d,tk,os⟩∧∃ (vs ws:List Value) (ns' ms':List Int),rest=vs.zip ws ∧
   IntsAre vs ns'∧IntsAre ws ms'∧ns'.length+items2.size=ms'.length+items.size∧R (.ok (.ret (.bool (_H.lexLt ms' ns')))) ⟨hp,g,d,tk,os⟩) _
  case turn =>
   rintro⟨y,x⟩ rest b s' ⟨hb',rfl,vs,ws,ns',ms',hz,hvi,hwi,hlen,hR⟩
   cases hvi with
   |nil=>rw[List.zip_nil_left] at hz;cases hz
   |cons a t hvi' =>
    cases hwi with
    |nil=>rw[List.zip_nil_right] at hz;cases hz
    |cons c u hwi' =>
     rw[List.zip_cons_cons] at hz
     injection hz with hyx hrest
     injection hyx with hy hx
     subst hy hx
     rw[_H.lexLt_cons] at hR
     simp only[List.length_cons] at hlen
     obtain⟨e,he,hiff⟩:=_H.eqAt_int A.in1 ⟨hp,g,d,tk,os⟩ a t c u
     refine wpAny_bind (he prog w _ _ ?_)
     cases e with
     |true =>
      rw[if_pos (hiff.mp rfl).symm] at hR
      wp_walk
      exact⟨rfl,rfl,_,_,_,_,hrest,hvi',hwi',by omega,hR⟩
     |false =>
      rw[if_neg (fun q=>absurd (hiff.mpr q.symm) Bool.false_ne_true)] at hR
      have hri:=W7 A.in1 ⟨hp,g,d,tk,os⟩ a t c u prog w
      wp_walk using hri
      exact⟨_,rfl,by simpa using hR⟩
  case fin =>
   rintro⟨b1,b2⟩ s' ⟨hb',rfl,vs,ws,ns',ms',hz,hvi,hwi,hlen,hR⟩
   simp only at hb'
   subst hb'
   have hv:_H.lexLt ms' ns'=decide (items2.size<items.size):=by
    cases hvi with
    |nil =>
     cases hwi with
     |nil =>
      simp only[List.length_nil] at hlen
      rw[_H.lexLt_nil_nil]
      exact(decide_eq_false (by omega)).symm
     |cons c u hw =>
      simp only[List.length_nil,List.length_cons] at hlen
      rw[_H.lexLt_cons_nil]
      exact(decide_eq_false (by omega)).symm
    |cons a t hv =>
     cases hwi with
     |nil =>
      simp only[List.length_nil,List.length_cons] at hlen
      rw[_H.lexLt_nil_cons]
      exact(decide_eq_true (by omega)).symm
     |cons c u hw =>
      rw[List.zip_cons_cons] at hz
      cases hz
   rw[hv] at hR
   wp_walk
   exact⟨_,rfl,by simpa [Builtin.Tuple.tupleCompareSizes] using hR⟩
  case h =>
   exact⟨rfl,rfl,items.toList,items2.toList,ns,ms,rfl,hi,hj,by omega,h⟩
end
section
variable {X:Cx}
theorem cK {prog:Program}{w:World}{A:Around}{E:Value→Shared→Prop}{s:Shared}{l b:Addr}{items items2:Array Value}{ns ms:List Int}{Q:Value→Shared→Prop}(hl:IsTup s.heap l items)(hb:IsTup s.heap b items2)(hi:IntsAre items.toList ns)(hj:IntsAre items2.toList ms)
  (hu:A.units<cLine) (h:Q (.bool (_H.lexLt ms ns)) s):wpAny (model prog w) A (compareOp .Gt (.ref l) (.ref b)) Q E s:=by
 obtain⟨⟨cls,dd,data,sl⟩,ho,hc,n,hd⟩:=id hl
 obtain⟨⟨cls2,dd2,data2,sl2⟩,ho2,hc2,n2,hd2⟩:=id hb
 simp only at hc hd hc2 hd2
 subst hc hd hc2 hd2
 exact richCompare_meets_room (op:=.Gt) ⟨_,ho,rfl⟩ ⟨_,ho2,rfl⟩ PySem.F.slot_tuple_gt PySem.F.entry_tuple_gt (PySem.F.args_tuple_gt_2 _ _) (nH l b items items2 n n2 dd dd2 sl sl2 ns ms hi hj)
  ⟨ho,ho2,show Value.bool (_H.lexLt ms ns)≠Value.notImplemented∧Q (.bool (_H.lexLt ms ns)) s from⟨(fun x=>nomatch x),h⟩⟩ hu
theorem sI {pins:List (Addr × Obj)}{σ : _L.St}{H P:Hp}{α : List Addr}{S:Sto}{s:Shared}{xs:List D}{v:V}{vv:Value}{ns:List Int}(I:Inv X pins σ H s)(r:Rel X.K H P α S)(rv:qK v vv)(p:Rep X.K P α (.tup xs) v)(h:jE xs=some ns) :
  ∃ a its,vv=.ref a∧IsTup s.heap a (List.toArray its)∧IntsAre its ns:=by
 have:=d8 h
 subst this
 obtain⟨a,vs,its,rfl,q1,t1,rv1,h1,l1,_⟩:=kG I r p
 have:=tS t1
 subst this
 exact⟨a,its,rv,h1,by simpa using cL rv1⟩
set_option tactic.hygienic true in
theorem FB (hu:X.A.units<cLine):OpD X (compareOp .Gt) mL:=by
 intro pins σ H s P α S v u vv uu a b Q I r rv ru pa pb af
 unfold mL at af
 split at af
 ·rename_i xs ys
  split at af
  ·rename_i ns ms h1 h2
   obtain⟨a,its,rfl,t1,i1⟩:=sI I r rv pa h1
   obtain⟨b,its2,rfl,t2,i2⟩:=sI I r ru pb h2
   exact cK t1 t2 (by simpa using i1) (by simpa using i2) hu ⟨.bl _,H,I,rfl,xr af r (by simp only[Rep])⟩
  ·exact False.elim af
 ·exact Y7 pins σ H s P α S v u vv uu a b Q I r rv ru pa pb af
end
end _D
end
section
namespace _D
open PySem PySem.Spec PyProof.Rows _L
def RT (f:DE):DI:=fun env S=>(f env S).bind fun d S1=>match d with
 |.loc n=>match S1[n]? with
  |some (.dct kvs)=>.ok (kvs.map (·.2)) (S1.set n .dead)
  |_=>.bad
 |_=>.bad
section
variable {X:Cx}{tg o:Expr}{fo:DE}{apos cpos:Pos}
theorem TN {S:Sto}{n:Nat}{kvs:List (Key × D)}(h:S[n]? = some (.dct kvs)):tyD (.loc n) S=some "dict":=by
 show (match S[n]? with|some (.lst _)=>some "list" | some (.dct _)=>some "dict" | _=>none)=_
 rw[h]
end
end _D
end
section
namespace _D
open PySem PySem.Spec PyProof.Rows _L
section
variable {X:Cx}
def uP (ns:List Int):Nat:=(ns.foldl step_dedup []).length
variable {e:Expr}{fa:DE}{p1 p2 pos1 pos2:Pos}
end
end _D
end
section
namespace _D
open PySem PySem.Spec PyProof.Rows _L
structure QI2 (X:Cx)(tg it:Expr)(f:DI2):Prop where
 get:PI X tg it (tDI2 X f)
structure QK (Y:Cx)(step:Value→Sem Unit)(k:DK):Prop where
 get:PK Y step k
section
variable {X Y:Cx}{tg it e o elt iter ie:Expr}{es ifs rest:List Expr}{fa fo fe fi:DE}{fA:DA}{fI:DI}{f2:DI2}{g:DG}{t:DT}{kk:DK}{p pos:Pos}{n k:Nat}{x:Str}{cm:Bool}{F:DF}{f:DS}{gens grest:List Comprehension}{scope:Scope}{N':List Str}{cap:List (Option Nat)}{mm:Bool}
theorem oW (h:QI X tg it fI):QI2 X tg it (wM fI):=⟨VE h.1⟩
theorem MG (h:QE X e fa):QI2 X tg e (dIt fa):=⟨ND h.1⟩
theorem JE {e1:Expr}{elts:List Expr}{x1:Nat}{tpos:Pos}(hg:Gl X "enumerate")(hm:X.mg "enumerate" = none)(ha:QA X [e1] fA)(hs:starEach [e1] X.env=(false,eval e1 X.env)::starEach [] X.env:=by rfl)(hpl:(backTo pos (starEach [] X.env)).any (·.1)=false:=by rfl) :
  QI X (.Tuple elts x1 tpos) (.Call (.Name "enumerate" p) [e1] [] pos) (nN fA):=⟨VD hg hm ha.1 hs hpl⟩
theorem JJ {body:List Stmt}(hp:ZPass X)(hc:X.calm=true)(hi:QI2 X tg iter f2)(hg:QG X tg g)(hb:QB X body f)(hs:∀ x,foldedSetIterable iter X.env x=pure x:=by intro _;rfl):QS X (.For tg iter body [] pos) (fS f2 g f):=⟨VL hp.1 hc hi.1 hg.1 hb.1 hs⟩
theorem eN (hx:Y.xe=fun _ _=>False)(hlast:gens[k+1]? = none)(he:QE Y elt fe):QK Y (fun acc=>zR elt gens scope pos k acc Y.env) (zI fe):=⟨UY hx hlast he.1⟩
theorem LR (hc:Y.calm=true)(hx:Y.xe=fun _ _=>False)(hgk:gens[k+1]? = some ⟨tg,iter,ifs,0⟩)(has:∀ g',gens[k+1+1]? = some g'→g'.is_async=0)(hi:QI2 Y tg iter f2)(hg:QG Y tg g)(ht:QTs Y ifs t)(he:QK Y (fun acc=>zR elt gens scope pos (k+1) acc Y.env) kk)(hs:∀ x,foldedSetIterable iter Y.env x=pure x) :
  QK Y (fun acc=>zR elt gens scope pos k acc Y.env) (kIn f2 g t kk):=⟨LJ hc hx hgk has hi.1 hg.1 ht.1 he.1 hs⟩
theorem XZ (hc:X.calm=true)(S:CompSc X.env.scope X.N scope N' cap)(hi:QI2 X tg iter f2)(hg:∀ cl C ex s₀ H₀,QG (qX X N' scope cl C ex s₀ H₀) tg g)(ht:∀ cl C ex s₀ H₀,QTs (qX X N' scope cl C ex s₀ H₀) ifs t)
  (has:∀ g',(⟨tg,iter,ifs,0⟩::grest:List Comprehension)[0+1]? = some g'→g'.is_async=0)
  (he:∀ cl C ex s₀ H₀,QK (qX X N' scope cl C ex s₀ H₀) (fun acc=>zR elt (⟨tg,iter,ifs,0⟩::grest) scope pos 0 acc (qX X N' scope cl C ex s₀ H₀).env) kk) (hs:∀ x,foldedSetIterable iter X.env x=pure x) :
  QE X (.ListComp elt (⟨tg,iter,ifs,0⟩::grest) scope pos) (zF mm cap f2 g t kk):=
 ⟨ZD hc S hi.1 (fun cl C ex s H=>(hg cl C ex s H).1) (fun cl C ex s H=>(ht cl C ex s H).1) has (fun cl C ex s H=>(he cl C ex s H).1) hs⟩
theorem W2 {m:Nat}{y:Str}{py spos:Pos}(hc:X.calm=true)(hN:X.N.Nodup)(S:CompSc X.env.scope X.N scope N' cap)(hi:QI2 X tg iter f2)(hg:∀ cl C ex s₀ H₀,QG (qX X N' scope cl C ex s₀ H₀) tg g)(ht:∀ cl C ex s₀ H₀,QTs (qX X N' scope cl C ex s₀ H₀) ifs t)
  (has:∀ g',(⟨tg,iter,ifs,0⟩::grest:List Comprehension)[0+1]? = some g'→g'.is_async=0)
  (he:∀ cl C ex s₀ H₀,QK (qX X N' scope cl C ex s₀ H₀) (fun acc=>zR elt (⟨tg,iter,ifs,0⟩::grest) scope pos 0 acc (qX X N' scope cl C ex s₀ H₀).env) kk) (hy:X.N[m]? = some y) (hyl:Loc X.env.scope y) (hf:X.fn y=true∨X.env.scope.names.lookup y=some .local)
  (hsw:swapsWith (.ListComp elt (⟨tg,iter,ifs,0⟩::grest) scope pos) (some (.Name y py)) spos.line X.env=pure true) (hs:∀ x,foldedSetIterable iter X.env x=pure x):QS X (.Assign [.Name y py] (.ListComp elt (⟨tg,iter,ifs,0⟩::grest) scope pos) spos) (zG (zF mm cap f2 g t kk) (gNm m)):=
 ⟨ZJ hc hN S hi.1 (fun cl C ex s H=>(hg cl C ex s H).1) (fun cl C ex s H=>(ht cl C ex s H).1) has (fun cl C ex s H=>(he cl C ex s H).1) hy hyl hf hsw hs⟩
theorem WK:ZMt X "dict.setdefault" xY:=⟨o8⟩
theorem DJ (hr:RoomC cm k X.A):ZOp X (compareOp .Gt) mL:=⟨FB (by have:=hu1 hr;omega)⟩
end
end _D
end
section
namespace _D
open PySem PySem.Spec PyProof.Rows _L
def gM (H:Hp):List (Addr × HO)→Hp
 |[]=>H
 |p::ps=>gM (upd H p.1 p.2) ps
theorem tG {b:Addr}:∀ {L:List (Addr × HO)} {H:Hp},b ∉ L.map (·.1)→gM H L b=H b
 |[],_,_=>rfl
 |p::ps,H,h=>by
  simp only[List.map_cons,List.mem_cons,not_or] at h
  show gM (upd H p.1 p.2) ps b=H b
  rw[tG h.2,qI h.1]
theorem sN {b:Addr}{u:HO}:∀ {L:List (Addr × HO)} {H:Hp},gM H L b=some u→(b,u)∈L∨H b=some u
 |[],_,h=>.inr h
 |p::ps,H,h=>by
  rcases sN (L:=ps) (H:=upd H p.1 p.2) h with h|h
  ·exact .inl (List.mem_cons_of_mem _ h)
  ·by_cases hb:b=p.1
   ·subst hb
    rw[qS] at h
    cases h
    exact .inl (List.mem_cons_self ..)
   ·rw[qI hb] at h
    exact .inr h
section
variable {X:Cx}{pins:List (Addr × Obj)}{σ : _L.St}{H:Hp}{s:Shared}
theorem Inv.laidL {L:List (Addr × HO)}{h':Heap}{t':Nat}(I:Inv X pins σ H s)(k:∀ b u,s.heap.get? b=some u→h'.get? b=some u)(hp:∀ p∈L,s.heap.objs.size≤p.1)(new:∀ p∈L,zA X.prog X.w (gM H L) h' p.1 p.2) :
  Inv X pins σ (gM H L) { s with heap:=h',toks:=t' }:=by
 have old:∀ b u,H b=some u→gM H L b=some u:=fun b u e=>by
  rw[tG (L:=L)]
  ·exact e
  ·intro hb
   obtain⟨p,hp',rfl⟩:=List.mem_map.mp hb
   rw[I.hok.fresh (hp p hp')] at e
   cases e
 have low:∀ b,b<s.heap.objs.size→gM H L b=H b:=fun b hb=>tG fun hm=>by
  obtain⟨p,hp',rfl⟩:=List.mem_map.mp hm
  exact absurd (Nat.lt_of_lt_of_le hb (hp p hp')) (Nat.lt_irrefl _)
 refine I.un ⟨fun b u q _ _ _=>k b u q,fun b u q _ _ _=>⟨u.slots,k b u q⟩,fun b u q n _=>by rw[low b (Heap.lt_size q)];exact n,fun b u q _=>⟨u,k b u q⟩,fun b xs q=>old b _ q,fun b o xs q=>old b _ q,fun b ps q=>⟨#[],by rw[old b _ q];simp⟩⟩ fun b u e=>?_
 rcases sN e with hm|hb
 ·exact new (b,u) hm
 ·exact(I.hok b u hb).stay (fun c v _ q=>k c v q) (fun c q=>old c _ q) fun c xs q=>old c _ q
end
end _D
end
section
namespace _S
open PySem
open PySem.SetTable (Probe leap runEnd turns bits)
def adv (mask:Nat)(p:Probe):Probe:=if p.more>0 then { p with j:=p.j+1,more:=p.more-1 } else { p with j:=(leap mask p.i p.perturb).1,more:=runEnd mask (leap mask p.i p.perturb).1-(leap mask p.i p.perturb).1,i:=(leap mask p.i p.perturb).1,perturb:=(leap mask p.i p.perturb).2 }
def it (mask:Nat):Nat→Probe→Probe
 |0,p=>p
 |n+1,p=>it mask n (adv mask p)
def rs (mask i pert:Nat):Probe:={ j:=i,more:=runEnd mask i-i,i,perturb:=pert,dummy:=none }
def st (mask:Nat)(h:Int):Probe:=rs mask (bits h % (mask+1)) (bits h)
end _S
end
section
namespace _S
open PySem
open PySem.SetTable (Probe leap runEnd turns bits)
structure Own (mask:Nat)(owner:Array (Option Nat))(us:List Nat):Prop where
 size:owner.size=mask+1
 nd:us.Nodup
 le:∀ u∈us,u≤mask
 at':∀ j k,j≤mask→(owner.getD j (some 0)=some k↔us[k]? = some j)
theorem Own.none {mask:Nat}{owner:Array (Option Nat)}{us:List Nat}(O:Own mask owner us){j:Nat}(hj:j≤mask):(owner.getD j (some 0)).isNone=true↔j ∉ us:=by
 constructor
 ·intro h hm
  obtain⟨k,hk,e⟩:=List.mem_iff_getElem.mp hm
  have:=(O.at' j k hj).mpr (by rw[List.getElem?_eq_getElem hk,e])
  rw[this] at h
  cases h
 ·intro h
  cases q:owner.getD j (some 0) with
  |none=>rfl
  |some k=>exact absurd (List.mem_of_getElem? ((O.at' j k hj).mp q)) h
end _S
end
section
namespace _S
open PySem
open PySem.SetTable (Probe leap runEnd turns bits)
def Sup (h0 h:Heap):Prop:=∀ b o,h0.get? b=some o→h.get? b=some o
def isT (prog:Program)(w:World)(h0:Heap)(ks:List Int)(v:Value):Prop:=∃ a,v=.ref a∧IsTupleKey (intKind prog w) h0 ks a
section
variable {prog:Program}{w:World}{h0:Heap}
theorem isT.inj {x y:List Int}{v:Value}(hx:isT prog w h0 x v)(hy:isT prog w h0 y v):x=y:=by
 obtain⟨a,rfl,h1⟩:=hx
 obtain⟨b,e,h2⟩:=hy
 cases e
 exact h1.inj h2
variable {A:Around}{E:Value→Shared→Prop}{s:Shared}
end
end _S
end
section
namespace _S
open PySem
open PySem.SetTable (Probe leap runEnd turns bits)
@[reducible] def setO (es:Array (Int × Value))(ep:Nat)(t:SetTable):Obj:={ cls:=.type "set",dict:=none,data:=.set es ep t }
end _S
end
section
namespace _S
open PySem
def itO (slot i:Nat)(S:Addr)(n ep:Nat):Obj:={ cls:=.type "set_iterator",data:=.fields #[.int slot 0,.int i 0,.ref S,.int n 0,.int ep 0] }
def At (w:World)(I S:Addr)(es:Array (Int × Value))(ep:Nat)(t:SetTable)(i:Nat)(h:Heap):Prop:=
 ∃ slot,h.get? I=some (itO slot i S es.size ep)∧h.get? S=some (setO es ep t)∧(w.params.followText "set-order" = true∨SetTable.below t.place slot=i)
section
variable {prog:Program}{w:World}{A:Around}{E:Value→Shared→Prop}{s:Shared}{S I:Addr}{es:Array (Int × Value)}{ep:Nat}{t:SetTable}
theorem At.type {i:Nat}(h:At w I S es ep t i s.heap):s.TypeIs (.ref I) "set_iterator":=by
 obtain⟨slot,h,_⟩:=h
 exact⟨_,h,rfl⟩
end
end _S
end
section
namespace _S
open PySem PySem.W PyProof.Rows
structure Ord {K:Type}(lt:K→K→Bool):Prop where
 irr:∀ a,lt a a=false
 tr:∀ {a b c},lt a b=true→lt b c=true→lt a c=true
 tri:∀ {a b},lt a b=false→a=b∨lt b a=true
theorem rY:∀ a:List Int,_H.lexLt a a=false
 |[]=>rfl
 |x::xs=>by rw[_H.lexLt_cons,if_pos rfl];exact rY xs
theorem iW:∀ {a b c:List Int},_H.lexLt a b=true→_H.lexLt b c=true→_H.lexLt a c=true
 |_,[],[],_,h=>by cases h
 |_,_::_,[],_,h=>by cases h
 |[],_,_::_,_,_=>rfl
 |_::_,[],_::_,h,_=>by cases h
 |x::xs,y::ys,z::zs,h1,h2=>by
  rw[_H.lexLt_cons] at h1 h2 ⊢
  by_cases e1:x=y
  ·subst e1
   rw[if_pos rfl] at h1
   by_cases e2:x=z
   ·rw[if_pos e2] at h2 ⊢;exact iW h1 h2
   ·rw[if_neg e2] at h2 ⊢;exact h2
  ·rw[if_neg e1] at h1
   have h1:=of_decide_eq_true h1
   by_cases e2:y=z
   ·subst e2;rw[if_neg e1];exact decide_eq_true h1
   ·rw[if_neg e2] at h2
    have h2:=of_decide_eq_true h2
    rw[if_neg (by omega)]
    exact decide_eq_true (by omega)
theorem rZ:∀ {a b:List Int},_H.lexLt a b=false→a=b∨_H.lexLt b a=true
 |[],[],_=>.inl rfl
 |[],_::_,h=>by cases h
 |_::_,[],_=>.inr rfl
 |x::xs,y::ys,h=>by
  rw[_H.lexLt_cons] at h ⊢
  by_cases e:x=y
  ·subst e
   rw[if_pos rfl] at h ⊢
   rcases rZ h with h|h
   ·exact .inl (by rw[h])
   ·exact .inr h
  ·rw[if_neg e] at h
   have h:=of_decide_eq_false h
   rw[if_neg (Ne.symm e)]
   exact .inr (decide_eq_true (by omega))
theorem vO:Ord _H.lexLt:=⟨rY,iW,rZ⟩
theorem tP {α : Type}{p q:α→Bool}:∀ {l:List α},(∀ x∈l,p x=true→q x=true)→(∃ x∈l,q x=true∧p x=false)→l.countP p<l.countP q
 |[],_,⟨x,h,_⟩=>by simp at h
 |a::l,h,⟨x,hx,h1,h2⟩=>by
  have le:l.countP p≤l.countP q:=List.countP_mono_left fun y hy=>h y (by simp[hy])
  rw[List.countP_cons,List.countP_cons]
  rcases List.mem_cons.mp hx with rfl|hx
  ·rw[if_neg (by rw[h2];decide),if_pos h1];omega
  ·have ih:=tP (l:=l) (fun y hy=>h y (by simp[hy])) ⟨x,hx,h1,h2⟩
   have:=h a (by simp)
   cases hp:p a with
   |false=>rw[if_neg (by decide)];split <;> omega
   |true=>rw[if_pos rfl,if_pos (this hp)];omega
section
variable {K:Type}{lt':K→K→Bool}
def gH (lt':K→K→Bool)(ks:List K)(x:K):Int:=(ks.countP (fun k=>lt' k x):Nat)
theorem dX (O:Ord lt'){ks:List K}{x y:K}(hx:x∈ks):lt' x y=decide (gH lt' ks x<gH lt' ks y):=by
 unfold gH
 cases h:lt' x y with
 |true =>
  refine(decide_eq_true ?_).symm
  have:=tP (l:=ks) (p:=fun k=>lt' k x) (q:=fun k=>lt' k y) (fun z _ hz=>O.tr hz h) ⟨x,hx,h,O.irr x⟩
  omega
 |false =>
  refine(decide_eq_false ?_).symm
  have:ks.countP (fun k=>lt' k y)≤ks.countP (fun k=>lt' k x):=by
   rcases O.tri h with e|h'
   ·rw[e];exact Nat.le_refl _
   ·exact List.countP_mono_left fun z _ hz=>O.tr hz h'
  omega
def l9 (lt':K→K→Bool)(ks:List K)(d:K)(i j:Nat):Bool:=lt' (ks.getD i d) (ks.getD j d)
def Nf (lt':K→K→Bool)(l:List K):Prop:=l.Pairwise fun a b=>lt' b a=false
theorem pX (O:Ord lt'):∀ {a b:List K},Nf lt' a→Nf lt' b→a.Perm b→a=b
 |[],b,_,_,p=>(List.nil_perm.mp p).symm
 |x::a,b,ha,hb,p=>by
  cases b with
  |nil=>exact absurd p.symm (by simp)
  |cons y b =>
   unfold Nf at ha hb
   rw[List.pairwise_cons] at ha hb
   have e:x=y:=by
    rcases List.mem_cons.mp (p.mem_iff.mp (.head _)) with e|e
    ·exact e
    ·rcases List.mem_cons.mp (p.mem_iff.mpr (.head _)) with e'|e'
     ·exact e'.symm
     ·have h1:=ha.1 y e'
      have h2:=hb.1 x e
      rcases O.tri h1 with e|h
      ·exact e.symm
      ·rw[h2] at h;cases h
   subst e
   rw[pX O ha.2 hb.2 (List.Perm.cons_inv p)]
def bW (lt':K→K→Bool)(l:List K):List K:=l.mergeSort fun a b=>!lt' b a
theorem jI (l:List K):(bW lt' l).Perm l:=List.mergeSort_perm _ _
theorem tB (O:Ord lt')(l:List K):Nf lt' (bW lt' l):=by
 have:=List.pairwise_mergeSort (le:=fun a b=>!lt' b a) (fun a b c h1 h2=>?_) (fun a b=>?_) l
 ·exact this.imp fun h=>by simpa using h
 ·have h1:lt' b a=false:=by simpa using h1
  have h2:lt' c b=false:=by simpa using h2
  cases h3:lt' c a with
  |false=>rfl
  |true =>
   rcases O.tri h1 with e|h
   ·rw[← e] at h3;rw[h3] at h2;cases h2
   ·have:=O.tr h3 h;rw[h2] at this;cases this
 ·cases h:lt' b a with
  |false=>rfl
  |true =>
   cases h':lt' a b with
   |false=>rfl
   |true=>have:=O.tr h h';rw[O.irr] at this;cases this
end
end _S
end
section
namespace _S
open PySem PySem.W PyProof.Rows
def mM:Bool→Keyed→Array Keyed→Nat→Nat→Nat→StateT SortSt Sem (Option Nat):=sortPriv% PySem.Builtin.gallop
def XJ:Array Keyed→Array Keyed→StateT SortSt Sem (Array Keyed):=sortPriv% PySem.Builtin.mergeLo
def XI:Array Keyed→Array Keyed→StateT SortSt Sem (Array Keyed):=sortPriv% PySem.Builtin.mergeHi
def nv:Keyed:=(Value.none,Value.none)
section
variable {M:Model}{A:Around}{E:Value→Shared→Prop}{s:Shared}{κ : SortKind}{U:Keyed→Prop}{r:Keyed→Int}
structure Cm (M:Model)(A:Around)(s:Shared)(κ : SortKind)(U:Keyed→Prop)(r:Keyed→Int):Prop where
 lt:∀ {x y:Keyed},U x→U y→∀ {E:Value→Shared→Prop} {Q:Option Bool→SortSt→Prop} {st:SortSt},kindOf st=κ→Q (some (decide (r x<r y))) st→wpS M A E s (lt' x y) Q st
theorem z0 {arr:Array Keyed}{i:Nat}{Q:Keyed→SortSt→Prop}{st:SortSt}(h:i<arr.size)(q:Q (arr.getD i nv) st):wpS M A E s (elem' arr i) Q st:=by
 rw[elem'_eq,getElem?_pos arr i h]
 have e:arr.getD i nv=arr[i]:=by simp[Array.getD,h]
 rw[e] at q
 exact wpS_pure q
theorem aE (C:Cm M A s κ U r){left:Bool}{key:Keyed}{arr:Array Keyed}{i:Nat}{Q:Option Bool→SortSt→Prop}{st:SortSt}(hk:kindOf st=κ)(hi:i<arr.size)(hU:U (arr.getD i nv))(hkU:U key)
  (q:Q (some (if left then decide (r (arr.getD i nv)<r key) else !decide (r key<r (arr.getD i nv)))) st) :
  wpS M A E s (do let x ← elem' arr i;if left then lt' x key else (do let a ← lt' key x;pure (a.map (fun b=>!b)))) Q st:=by
 refine wpS_bind (z0 hi ?_)
 cases left with
 |true=>exact C.lt hU hkU hk q
 |false=>exact wpS_bind (C.lt hkU hU hk (wpS_pure q))
theorem fX (C:Cm M A s κ U r){left:Bool}{key:Keyed}{arr:Array Keyed}{base n hint cut:Nat}{Q:Option Nat→SortSt→Prop}{st:SortSt}(hk:kindOf st=κ)(hh:hint<n)(hb:base+n≤arr.size)(hU:∀ i,i<n→U (arr.getD (base+i) nv))(hkU:U key)(hc:cut≤n)
  (hB:∀ i,i<n→(if left then decide (r (arr.getD (base+i) nv)<r key) else !decide (r key<r (arr.getD (base+i) nv)))=decide (i<cut)) (h:Q (some cut) st):wpS M A E s (mM left key arr base n hint) Q st:=by
 have B:∀ {i:Nat} {E:Value→Shared→Prop} {Q:Option Bool→SortSt→Prop},i<n→Q (some (decide (i<cut))) st→wpS M A E s (do let x ← elem' arr (base+i);if left then lt' x key else (do let a ← lt' key x;pure (a.map (fun b=>!b)))) Q st:=by
  intro i E Q hi q
  exact aE C hk (by omega) (hU i hi) hkU (by rw[hB i hi];exact q)
 have bin:∀ {lo hi:Nat} {f:Nat→Option (Option Nat) × Nat × Nat→StateT SortSt Sem (ForInStep (Option (Option Nat) × Nat × Nat))},lo≤cut→cut≤hi→hi≤n →
   (∀ x a b,f x (none,a,b)=if a≥b then pure (.done (none,a,b)) else ((do let x ← elem' arr (base+(a+(b-a)/2));if left then lt' x key else (do let a ← lt' key x;pure (a.map (fun b=>!b)))) >>= fun o=>match o with
    |some more=>if more then pure (.yield (none,a+(b-a)/2+1,b)) else pure (.yield (none,a,a+(b-a)/2))
    |_=>pure (.done (some none,a,b))))→wpS M A E s (forIn [0:n] (none,lo,hi) f) (fun c st'=>st'=st∧∃ a,c=(none,a,cut)) st:=by
  intro lo hi f h1 h2 h3 hf
  refine wpS_forRange (I:=fun x c st'=>st'=st∧∃ a b,c=(none,a,b)∧a≤cut∧cut≤b∧b≤n∧b-a≤n-x) ?_ ?_ ⟨rfl,lo,hi,rfl,h1,h2,h3,by omega⟩
  ·rintro x c st' _ hx ⟨rfl,a,b,rfl,q1,q2,q3,q4⟩
   rw[hf]
   by_cases g:a≥b
   ·rw[if_pos g];exact wpS_pure ⟨rfl,a,by rw[show b=cut by omega]⟩
   ·rw[if_neg g]
    refine wpS_bind (B (by omega) ?_)
    by_cases z:a+(b-a)/2<cut
    ·simp only[z,decide_true,if_true]
     exact wpS_pure ⟨rfl,_,_,rfl,by omega,q2,q3,by omega⟩
    ·simp only[z,decide_false,Bool.false_eq_true,if_false]
     exact wpS_pure ⟨rfl,_,_,rfl,q1,by omega,by omega,by omega⟩
  ·rintro c st' ⟨rfl,a,b,rfl,q1,q2,q3,q4⟩
   exact⟨rfl,a,by rw[show b=cut by omega]⟩
 refine wpS_bind (B hh ?_)
 dsimp only
 by_cases hr:hint<cut
 ·simp only[hr,decide_true,if_true]
  refine wpS_bind (wpS_mono (wpS_forRange (I:=fun x c st'=>st'=st∧∃ a b,c=(none,a,b)∧hint+a<cut∧a<b∧x<b)
   (Q:=fun c st'=>st'=st∧∃ a b,c=(none,a,b)∧hint+a<cut∧cut≤hint+min b (n-hint)) ?_ ?_ ⟨rfl,0,1,rfl,hr,by omega,by omega⟩) ?_)
  ·rintro x c st' _ hx ⟨rfl,a,b,rfl,q1,q2,q3⟩
   dsimp only
   by_cases g:b≥n-hint
   ·rw[if_pos g];exact wpS_pure ⟨rfl,a,b,rfl,q1,by omega⟩
   ·rw[if_neg g]
    refine wpS_bind (B (by omega) ?_)
    by_cases z:hint+b<cut
    ·simp only[z,decide_true,Bool.not_true,Bool.false_eq_true,if_false]
     exact wpS_pure ⟨rfl,_,_,rfl,z,by omega,by omega⟩
    ·simp only[z,decide_false,Bool.not_false,if_true]
     exact wpS_pure ⟨rfl,a,b,rfl,q1,by omega⟩
  ·rintro c st' ⟨rfl,a,b,rfl,q1,q2,q3⟩
   exact⟨rfl,a,b,rfl,q1,by omega⟩
  ·rintro c st' ⟨rfl,a,b,rfl,q1,q2⟩
   dsimp only
   refine wpS_bind (wpS_mono (bin (lo:=hint+a+1) (hi:=hint+min b (n-hint)) (by omega) q2 (by omega) fun _ _ _=>rfl) ?_)
   rintro c st' ⟨rfl,a',rfl⟩
   exact wpS_pure h
 ·simp only[hr,decide_false,Bool.false_eq_true,if_false]
  refine wpS_bind (wpS_mono (wpS_forRange (I:=fun x c st'=>st'=st∧∃ a b,c=(none,a,b)∧cut+a≤hint∧a<b∧x<b)
   (Q:=fun c st'=>st'=st∧∃ a b,c=(none,a,b)∧cut+a≤hint∧hint+1≤cut+min b (hint+1)) ?_ ?_ ⟨rfl,0,1,rfl,by omega,by omega,by omega⟩) ?_)
  ·rintro x c st' _ hx ⟨rfl,a,b,rfl,q1,q2,q3⟩
   dsimp only
   by_cases g:b≥hint+1
   ·rw[if_pos g];exact wpS_pure ⟨rfl,a,b,rfl,q1,by omega⟩
   ·rw[if_neg g]
    refine wpS_bind (B (by omega) ?_)
    by_cases z:hint-b<cut
    ·simp only[z,decide_true,if_true]
     exact wpS_pure ⟨rfl,a,b,rfl,q1,by omega⟩
    ·simp only[z,decide_false,Bool.false_eq_true,if_false]
     exact wpS_pure ⟨rfl,_,_,rfl,by omega,by omega,by omega⟩
  ·rintro c st' ⟨rfl,a,b,rfl,q1,q2,q3⟩
   exact⟨rfl,a,b,rfl,q1,by omega⟩
  ·rintro c st' ⟨rfl,a,b,rfl,q1,q2⟩
   dsimp only
   refine wpS_bind (wpS_mono (bin (lo:=hint+1-min b (hint+1)) (hi:=hint-a) (by omega) (by omega) (by omega) fun _ _ _=>rfl) ?_)
   rintro c st' ⟨rfl,a',rfl⟩
   exact wpS_pure h
end
end _S
end
section
namespace _S
open PySem PySem.W PyProof.Rows
def Le (r:Keyed→Int)(x y:Keyed):Prop:=r x≤r y
structure Mg (r:Keyed→Int)(o A B T:List Keyed):Prop where
 p1:(o++A).Pairwise (Le r)
 p2:(o++B).Pairwise (Le r)
 pm:(o++A++B).Perm T
structure Mh (r:Keyed→Int)(A B o T:List Keyed):Prop where
 p1:(A++o).Pairwise (Le r)
 p2:(B++o).Pairwise (Le r)
 pm:(A++B++o).Perm T
section
variable {r:Keyed→Int}{o A B A1 A2 B1 B2 T:List Keyed}
theorem Mg.b (h:Mg r o A (B1++B2) T)(l:∀ x∈B1,∀ y∈A,Le r x y):Mg r (o++B1) A B2 T:=by
 obtain⟨p1,p2,pm⟩:=h
 refine⟨?_,by rw[List.append_assoc];exact p2,?_⟩
 ·rw[List.append_assoc]
  rw[List.pairwise_append] at p1 p2 ⊢
  refine⟨p1.1,?_,fun x hx y hy=>?_⟩
  ·rw[List.pairwise_append]
   exact⟨(List.pairwise_append.mp p2.2.1).1,p1.2.1,l⟩
  ·rcases List.mem_append.mp hy with hy|hy
   ·exact p2.2.2 x hx y (List.mem_append_left _ hy)
   ·exact p1.2.2 x hx y hy
 ·refine List.Perm.trans ?_ pm
  simp only[List.append_assoc]
  refine List.Perm.append_left _ ?_
  simp only[← List.append_assoc]
  exact List.Perm.append_right _ List.perm_append_comm
theorem Mg.a (h:Mg r o (A1++A2) B T)(l:∀ x∈A1,∀ y∈B,Le r x y):Mg r (o++A1) A2 B T:=by
 obtain⟨p1,p2,pm⟩:=h
 refine⟨by rw[List.append_assoc];exact p1,?_,by simpa only [List.append_assoc] using pm⟩
 rw[List.append_assoc]
 rw[List.pairwise_append] at p1 p2 ⊢
 refine⟨p2.1,?_,fun x hx y hy=>?_⟩
 ·rw[List.pairwise_append]
  exact⟨(List.pairwise_append.mp p1.2.1).1,p2.2.1,l⟩
 ·rcases List.mem_append.mp hy with hy|hy
  ·exact p1.2.2 x hx y (List.mem_append_left _ hy)
  ·exact p2.2.2 x hx y hy
theorem Mh.a (h:Mh r (A1++A2) B o T)(l:∀ x∈B,∀ y∈A2,Le r x y):Mh r A1 B (A2++o) T:=by
 obtain⟨p1,p2,pm⟩:=h
 refine⟨by rw[← List.append_assoc];exact p1,?_,?_⟩
 ·rw[List.append_assoc] at p1
  rw[List.pairwise_append] at p1 p2 ⊢
  refine⟨p2.1,p1.2.1,fun x hx y hy=>?_⟩
  rcases List.mem_append.mp hy with hy|hy
  ·exact l x hx y hy
  ·exact p2.2.2 x hx y hy
 ·refine List.Perm.trans ?_ pm
  simp only[List.append_assoc]
  refine List.Perm.append_left _ ?_
  simp only[← List.append_assoc]
  exact List.Perm.append_right _ List.perm_append_comm
theorem Mh.b (h:Mh r A (B1++B2) o T)(l:∀ x∈A,∀ y∈B2,Le r x y):Mh r A B1 (B2++o) T:=by
 obtain⟨p1,p2,pm⟩:=h
 refine⟨?_,by rw[← List.append_assoc];exact p2,by simpa only [List.append_assoc] using pm⟩
 rw[List.append_assoc] at p2
 rw[List.pairwise_append] at p1 p2 ⊢
 refine⟨p1.1,p2.2.1,fun x hx y hy=>?_⟩
 rcases List.mem_append.mp hy with hy|hy
 ·exact l x hx y hy
 ·exact p1.2.2 x hx y hy
end
structure Mo (r:Keyed→Int)(T:List Keyed)(m:Array Keyed):Prop where
 pm:m.toList.Perm T
 up:m.toList.Pairwise (Le r)
abbrev vD (st:SortSt)(g:Nat):SortSt:=SortSt.mk' (kindOf st) (arrOf st) (pendingOf st) g (failedOf st)
theorem mF {a:Array Keyed}{i:Nat}(h:i<a.size):a.toList.drop i=a.getD i nv::a.toList.drop (i+1):=by
 rw[List.drop_eq_getElem_cons (by simpa using h)]
 congr 1
 simp[Array.getD,h]
theorem zL {a:Array Keyed}{i:Nat}(h:i<a.size):a.getD i nv∈a.toList:=by
 have e:a.getD i nv=a[i]:=by simp[Array.getD,h]
 rw[e]
 exact Array.getElem_mem_toList h
theorem wY {r:Keyed→Int}{a:Array Keyed}(s:a.toList.Pairwise (Le r)){i j:Nat}(h:i≤j)(hj:j<a.size):r (a.getD i nv)≤r (a.getD j nv):=by
 rcases Nat.lt_or_ge i j with l|l
 ·have e:=List.pairwise_iff_getElem.mp s i j (by simpa using Nat.lt_trans l hj) (by simpa using hj) l
  have hi:i<a.size:=Nat.lt_trans l hj
  simpa [Array.getD,hi,hj,Le] using e
 ·rw[Nat.le_antisymm h l];exact Int.le_refl _
theorem gA {a:Array Keyed}{i:Nat}{x:Keyed}(h:x∈a.toList.drop i):∃ j,i≤j∧j<a.size∧x=a.getD j nv:=by
 obtain⟨k,hk,e⟩:=List.mem_iff_getElem.mp h
 rw[List.getElem_drop] at e
 have hk':k<a.size-i:=by simpa using hk
 refine⟨i+k,by omega,by omega,?_⟩
 have:i+k<a.size:=by omega
 simp[Array.getD,this,← e]
theorem gC {a:Array Keyed}{n:Nat}{x:Keyed}(h:x∈a.toList.take n):∃ j,j<n∧j<a.size∧x=a.getD j nv:=by
 obtain⟨k,hk,e⟩:=List.mem_iff_getElem.mp h
 rw[List.getElem_take] at e
 have hk':k<n∧k<a.size:=by rw[List.length_take,Array.length_toList] at hk;omega
 refine⟨k,hk'.1,hk'.2,?_⟩
 simp[Array.getD,hk'.2,← e]
theorem bL {a:Array Keyed}{i k:Nat}:(a.extract i (i+k)).toList++a.toList.drop (i+k)=a.toList.drop i:=by
 rw[Array.toList_extract,List.extract_eq_take_drop,Nat.add_sub_cancel_left,← List.drop_drop]
 exact List.take_append_drop _ _
theorem pQ {a:Array Keyed}{i:Nat}:(a.extract i a.size).toList=a.toList.drop i:=by
 rw[Array.toList_extract,List.extract_eq_take_drop]
 exact List.take_of_length_le (by simp)
theorem mU {a:Array Keyed}{i k:Nat}{x:Keyed}(h:x∈(a.extract i (i+k)).toList):∃ j,i≤j∧j<i+k∧j<a.size∧x=a.getD j nv:=by
 rw[Array.toList_extract,List.extract_eq_take_drop,Nat.add_sub_cancel_left] at h
 obtain⟨m,hm,e⟩:=List.mem_iff_getElem.mp h
 rw[List.getElem_take,List.getElem_drop] at e
 have hm':m<k∧i+m<a.size:=by rw[List.length_take,List.length_drop,Array.length_toList] at hm;omega
 refine⟨i+m,by omega,by omega,hm'.2,?_⟩
 simp[Array.getD,hm'.2,← e]
def GL (r:Keyed→Int)(a b o:Array Keyed)(i j:Nat):Prop:=Mg r o.toList (a.toList.drop i) (b.toList.drop j) (a.toList++b.toList)
section
variable {r:Keyed→Int}{a b o:Array Keyed}{i j k:Nat}
theorem GL.pb (sa:a.toList.Pairwise (Le r))(h:GL r a b o i j)(hj:j<b.size)(l:i<a.size→r (b.getD j nv)≤r (a.getD i nv)):GL r a b (o.push (b.getD j nv)) i (j+1):=by
 have h':Mg r o.toList (a.toList.drop i) ([b.getD j nv]++b.toList.drop (j+1)) (a.toList++b.toList):=by rw[List.singleton_append,← mF hj];exact h
 have:=h'.b fun x hx y hy=>by
  cases List.mem_singleton.mp hx
  obtain⟨m,h1,h2,rfl⟩:=gA hy
  exact Int.le_trans (l (by omega)) (wY sa h1 h2)
 unfold GL
 rw[Array.toList_push]
 exact this
theorem GL.pa (sb:b.toList.Pairwise (Le r))(h:GL r a b o i j)(hi:i<a.size)(l:j<b.size→r (a.getD i nv)≤r (b.getD j nv)):GL r a b (o.push (a.getD i nv)) (i+1) j:=by
 have h':Mg r o.toList ([a.getD i nv]++a.toList.drop (i+1)) (b.toList.drop j) (a.toList++b.toList):=by rw[List.singleton_append,← mF hi];exact h
 have:=h'.a fun x hx y hy=>by
  cases List.mem_singleton.mp hx
  obtain⟨m,h1,h2,rfl⟩:=gA hy
  exact Int.le_trans (l (by omega)) (wY sb h1 h2)
 unfold GL
 rw[Array.toList_push]
 exact this
theorem GL.ea (sb:b.toList.Pairwise (Le r))(h:GL r a b o i j)(hj:j<b.size)(l:∀ m,m<k→r (a.getD (i+m) nv)≤r (b.getD j nv)):GL r a b (o++a.extract i (i+k)) (i+k) j:=by
 have h':Mg r o.toList ((a.extract i (i+k)).toList++a.toList.drop (i+k)) (b.toList.drop j) (a.toList++b.toList):=by rw[bL];exact h
 have:=h'.a fun x hx y hy=>by
  obtain⟨m,h1,h2,h3,rfl⟩:=mU hx
  obtain⟨m',h4,h5,rfl⟩:=gA hy
  have:=l (m-i) (by omega)
  rw[show i+(m-i)=m by omega] at this
  exact Int.le_trans this (wY sb h4 h5)
 unfold GL
 rw[Array.toList_append]
 exact this
theorem GL.eb (sa:a.toList.Pairwise (Le r))(h:GL r a b o i j)(hi:i<a.size)(l:∀ m,m<k→r (b.getD (j+m) nv)≤r (a.getD i nv)):GL r a b (o++b.extract j (j+k)) i (j+k):=by
 have h':Mg r o.toList (a.toList.drop i) ((b.extract j (j+k)).toList++b.toList.drop (j+k)) (a.toList++b.toList):=by rw[bL];exact h
 have:=h'.b fun x hx y hy=>by
  obtain⟨m,h1,h2,h3,rfl⟩:=mU hx
  obtain⟨m',h4,h5,rfl⟩:=gA hy
  have:=l (m-j) (by omega)
  rw[show j+(m-j)=m by omega] at this
  exact Int.le_trans this (wY sa h4 h5)
 unfold GL
 rw[Array.toList_append]
 exact this
theorem GL.fin (h:GL r a b o i j)(e:i=a.size∨j=b.size):Mo r (a.toList++b.toList) (o++a.extract i a.size++b.extract j b.size):=by
 refine⟨?_,?_⟩ <;> rw[Array.toList_append,Array.toList_append,pQ,pQ]
 ·exact h.pm
 ·rcases e with rfl|rfl
  ·rw[List.drop_of_length_le (by simp),List.append_nil];exact h.p2
  ·rw[List.drop_of_length_le (l:=b.toList) (by simp),List.append_nil];exact h.p1
theorem GL.last (h:GL r a b o i j)(e:i+1=a.size)(l:∀ x∈b.toList,Le r x (a.getD (a.size-1) nv)):Mo r (a.toList++b.toList) (o++b.extract j b.size++a.extract i a.size):=by
 have hi:i<a.size:=by omega
 have hd:a.toList.drop i=[a.getD i nv]:=by rw[mF hi,List.drop_of_length_le (by simp;omega)]
 refine⟨?_,?_⟩ <;> rw[Array.toList_append,Array.toList_append,pQ,pQ]
 ·refine List.Perm.trans ?_ h.pm
  rw[List.append_assoc,List.append_assoc]
  exact List.Perm.append_left _ List.perm_append_comm
 ·have p1:=h.p1
  rw[hd] at p1 ⊢
  rw[List.pairwise_append] at p1 ⊢
  refine⟨h.p2,List.pairwise_singleton _ _,fun x hx y hy=>?_⟩
  rcases List.mem_append.mp hx with hx|hx
  ·exact p1.2.2 x hx y hy
  ·cases List.mem_singleton.mp hy
   have:=l x (List.mem_of_mem_drop hx)
   rw[show a.size-1=i by omega] at this
   exact this
end
end _S
end
section
namespace _S
open PySem PySem.W PyProof.Rows
theorem lL {p:Nat→Bool}:∀ (n:Nat),(∀ i j,i≤j→j<n→p j=true→p i=true)→∃ c,c≤n∧∀ i,i<n→p i=decide (i<c)
 |0,_=>⟨0,Nat.le_refl _,fun i h=>by omega⟩
 |n+1,h=>by
  obtain⟨c,hc,e⟩:=lL n fun i j a b=>h i j a (by omega)
  by_cases q:p n=true
  ·refine⟨n+1,Nat.le_refl _,fun i hi=>?_⟩
   rw[h i n (by omega) (by omega) q]
   simp[hi]
  ·refine⟨c,by omega,fun i hi=>?_⟩
   rcases Nat.lt_or_ge i n with l|l
   ·exact e i l
   ·have:i=n:=by omega
    subst this
    have:¬ i<c:=by omega
    simp[this,q]
section
variable {M:Model}{A:Around}{E:Value→Shared→Prop}{s:Shared}{κ : SortKind}{U:Keyed→Prop}{r:Keyed→Int}
theorem qM {σ α:Type}{c:Prop}[Decidable c]{x y:StateT σ Sem α}{Q:α→σ→Prop}{st:σ}(h1:c→wpS M A E s x Q st)(h2:¬ c→wpS M A E s y Q st):wpS M A E s (if c then x else y) Q st:=by
 by_cases h:c
 ·rw[if_pos h];exact h1 h
 ·rw[if_neg h];exact h2 h
theorem ZU (C:Cm M A s κ U r){key:Keyed}{arr:Array Keyed}{base n hint:Nat}{Q:Option Nat→SortSt→Prop}{st:SortSt}(hk:kindOf st=κ)(hh:hint<n)(hb:base+n≤arr.size)(hU:∀ i,i<n→U (arr.getD (base+i) nv))(hkU:U key)
  (sa:∀ i j,i≤j→j<n→r (arr.getD (base+i) nv)≤r (arr.getD (base+j) nv)) (h:∀ c,c≤n→(∀ i,i<c→r (arr.getD (base+i) nv)≤r key)→(∀ i,c≤i→i<n→r key<r (arr.getD (base+i) nv))→Q (some c) st):wpS M A E s (mM false key arr base n hint) Q st:=by
 obtain⟨c,hc,e⟩:=lL (p:=fun i=>!decide (r key<r (arr.getD (base+i) nv))) n fun i j a b q=>by
  have:=sa i j a b
  simp only[Bool.not_eq_true',decide_eq_false_iff_not] at q ⊢
  omega
 refine fX C hk hh hb hU hkU hc (fun i hi=>by simpa using e i hi) (h c hc (fun i hi=>?_) fun i hi hn=>?_)
 ·have:=e i (by omega)
  simp only[hi,decide_true,Bool.not_eq_true',decide_eq_false_iff_not] at this
  omega
 ·have:=e i hn
  simp only[show ¬ i<c by omega,decide_false,Bool.not_eq_false',decide_eq_true_eq] at this
  exact this
theorem ZV (C:Cm M A s κ U r){key:Keyed}{arr:Array Keyed}{base n hint:Nat}{Q:Option Nat→SortSt→Prop}{st:SortSt}(hk:kindOf st=κ)(hh:hint<n)(hb:base+n≤arr.size)(hU:∀ i,i<n→U (arr.getD (base+i) nv))(hkU:U key)
  (sa:∀ i j,i≤j→j<n→r (arr.getD (base+i) nv)≤r (arr.getD (base+j) nv)) (h:∀ c,c≤n→(∀ i,i<c→r (arr.getD (base+i) nv)<r key)→(∀ i,c≤i→i<n→r key≤r (arr.getD (base+i) nv))→Q (some c) st):wpS M A E s (mM true key arr base n hint) Q st:=by
 obtain⟨c,hc,e⟩:=lL (p:=fun i=>decide (r (arr.getD (base+i) nv)<r key)) n fun i j a b q=>by
  have:=sa i j a b
  simp only[decide_eq_true_eq] at q ⊢
  omega
 refine fX C hk hh hb hU hkU hc (fun i hi=>by simpa using e i hi) (h c hc (fun i hi=>?_) fun i hi hn=>?_)
 ·have:=e i (by omega)
  simp only[hi,decide_true,decide_eq_true_eq] at this
  exact this
 ·have:=e i hn
  simp only[show ¬ i<c by omega,decide_false,decide_eq_false_iff_not] at this
  omega
end
section
variable {prog:Program}{w:World}{A:Around}{E:Value→Shared→Prop}{s:Shared}{κ : SortKind}{U:Keyed→Prop}{r:Keyed→Int}
theorem sY (C:Cm (model prog w) A s κ U r){a b:Array Keyed}{Q:Array Keyed→SortSt→Prop}{st:SortSt}(hk:kindOf st=κ)(ua:∀ x∈a.toList,U x)(ub:∀ x∈b.toList,U x)(sa:a.toList.Pairwise (Le r))(sb:b.toList.Pairwise (Le r))
  (h:∀ m g,Mo r (a.toList++b.toList) m→Q m (vD st g)) (ha:0<a.size) (hb:0<b.size) (h0:r (b.getD 0 nv)≤r (a.getD 0 nv)) (h1:∀ x∈b.toList,Le r x (a.getD (a.size-1) nv)):wpS (model prog w) A E s (XJ a b) Q st:=by
 have G0:GL r a b #[] 0 0:=⟨by simpa using sa,by simpa using sb,by simp⟩
 have G1:=G0.pb sa hb fun _=>h0
 refine wpS_bind (wpS_lift (wpAny_rule ⟨rfl,?_⟩))
 refine wpS_bind (z0 hb ?_)
 dsimp only
 refine qM (fun e=>wpS_pure (h _ (gallopOf st) (G1.fin (.inr (by simpa using e))))) fun e1=>?_
 refine qM (fun e=>wpS_pure (h _ (gallopOf st) (G1.last (by simpa using e) h1))) fun e2=>?_
 have e1:1<b.size:=by
  have:¬ 1=b.size:=by simpa using e1
  omega
 have e2:0+1<a.size:=by
  have:¬ 0+1=a.size:=by simpa using e2
  omega
 refine wpS_bind (wpS_get ?_)
 refine wpS_bind (wpS_mono (wpS_forRange (I:=fun x c st'=>(∃ g,st'=vD st g)∧∃ o i j g,c=(none,o,i,j,g)∧GL r a b o i j∧i+1<a.size∧j<b.size∧x<i+j)
  (Q:=fun c st'=>(∃ g,st'=vD st g)∧∃ m,c.1=some m∧Mo r (a.toList++b.toList) m) ?_ ?_ ⟨⟨gallopOf st,rfl⟩,_,0,1,_,rfl,G1,e2,e1,by omega⟩) ?_)
 ·rintro x c st' _ hx ⟨⟨g,rfl⟩,o,i,j,mg,rfl,G,hi,hj,hp⟩
  dsimp only
  refine wpS_bind (wpS_mono (wpS_forRange (I:=fun y c st'=>(∃ g,st'=vD st g)∧∃ o i' j' p q,c=(none,o,i',j',p,q)∧GL r a b o i' j'∧i'+1<a.size∧j'<b.size∧i+j+y≤i'+j')
   (Q:=fun c st'=>(∃ g,st'=vD st g)∧((∃ m,c.1=some m∧Mo r (a.toList++b.toList) m)∨∃ o i' j' p q,c=(none,o,i',j',p,q)∧GL r a b o i' j'∧i'+1<a.size∧j'<b.size∧x+1<i'+j')) ?_ ?_ ⟨⟨g,rfl⟩,o,i,j,0,0,rfl,G,hi,hj,by omega⟩) ?_)
  ·rintro y c st' _ hy ⟨⟨g,rfl⟩,o,i',j',p,q,rfl,G,hi,hj,hq⟩
   dsimp only
   refine wpS_bind (z0 hj (wpS_bind (z0 (i:=i') (by omega) (wpS_bind (C.lt (ub _ (zL hj)) (ua _ (zL (i:=i') (by omega))) hk ?_)))))
   dsimp only
   refine qM (fun l=>?_) fun l=>?_
   ·have l:r (b.getD j' nv)<r (a.getD i' nv):=by simpa using l
    have G2:=G.pb sa hj fun _=>Int.le_of_lt l
    refine wpS_bind (z0 hj ?_)
    refine qM (fun e=>?_) fun e=>?_
    ·exact wpS_pure ⟨⟨g,rfl⟩,.inl ⟨_,rfl,G2.fin (.inr (by simpa using e))⟩⟩
    ·have e:¬ j'+1=b.size:=by simpa using e
     refine qM (fun _=>?_) fun _=>?_
     ·exact wpS_pure ⟨⟨g,rfl⟩,.inr ⟨_,_,_,_,_,rfl,G2,hi,by omega,by omega⟩⟩
     ·exact wpS_pure ⟨⟨g,rfl⟩,_,_,_,_,_,rfl,G2,hi,by omega,by omega⟩
   ·have l:¬ r (b.getD j' nv)<r (a.getD i' nv):=by simpa using l
    have G2:=G.pa sb (by omega) fun _=>Int.not_lt.mp l
    refine wpS_bind (z0 (i:=i') (by omega) ?_)
    refine qM (fun e=>?_) fun e=>?_
    ·exact wpS_pure ⟨⟨g,rfl⟩,.inl ⟨_,rfl,G2.last (by simpa using e) h1⟩⟩
    ·have e:¬ i'+1+1=a.size:=by simpa using e
     refine qM (fun _=>?_) fun _=>?_
     ·exact wpS_pure ⟨⟨g,rfl⟩,.inr ⟨_,_,_,_,_,rfl,G2,by omega,hj,by omega⟩⟩
     ·exact wpS_pure ⟨⟨g,rfl⟩,_,_,_,_,_,rfl,G2,by omega,hj,by omega⟩
  ·rintro c st' ⟨z,o,i',j',p,q,rfl,G,hi,hj,hq⟩
   exact⟨z,.inr ⟨_,_,_,_,_,rfl,G,hi,hj,by omega⟩⟩
  ·rintro c st' ⟨⟨g,rfl⟩,⟨m,hc,hm⟩|⟨o,i',j',p,q,rfl,G,hi,hj,hq⟩⟩
   ·obtain⟨c0,c1⟩:=c
    cases hc
    exact wpS_pure ⟨⟨g,rfl⟩,m,rfl,hm⟩
   dsimp only
   refine wpS_bind (wpS_lift (wpAny_rule ⟨rfl,?_⟩))
   refine wpS_bind (wpS_mono (wpS_forRange (I:=fun y c st'=>(∃ g,st'=vD st g)∧∃ o i' j' p q t,c=(none,o,i',j',p,q,t)∧GL r a b o i' j'∧i'+1<a.size∧j'<b.size∧x+1<i'+j')
    (Q:=fun c st'=>(∃ g,st'=vD st g)∧((∃ m,c.1=some m∧Mo r (a.toList++b.toList) m)∨∃ o i' j' p q t,c=(none,o,i',j',p,q,t)∧GL r a b o i' j'∧i'+1<a.size∧j'<b.size∧x+1<i'+j')) ?_ ?_ ⟨⟨g,rfl⟩,o,i',j',_,_,_,rfl,G,hi,hj,hq⟩) ?_)
   ·rintro y c st' _ hy ⟨⟨g,rfl⟩,o,i,j,p,q,t,rfl,G,hi,hj,hq⟩
    dsimp only
    refine qM (fun _=>?_) fun _=>?_
    all_goals
     refine wpS_bind (wpS_modify ?_)
     refine wpS_bind (z0 hj ?_)
     refine wpS_bind (ZU C hk (by omega) (by omega) (fun i hi=>ua _ (zL (by omega))) (ub _ (zL hj)) (fun i j a b=>wY sa (by omega) (by omega)) fun k k1 k2 k3=>?_)
     dsimp only
     apply qM
     case' h1 =>
      intro kp
      have G2:=G.ea sb hj k2
      refine qM (fun e=>wpS_pure ⟨⟨_,rfl⟩,.inl ⟨_,rfl,G2.last (by simpa using e) h1⟩⟩) fun e3=>?_
      refine qM (fun e=>wpS_pure ⟨⟨_,rfl⟩,.inl ⟨_,rfl,G2.fin (.inl (by simpa using e))⟩⟩) fun e4=>?_
      have e3:¬ i+k+1=a.size:=by simpa using e3
      have e4:¬ i+k=a.size:=by simpa using e4
      have hl:i+k+1<a.size:=by omega
      have hc:=k3 k (Nat.le_refl _) (by omega)
      have hq:x+1<i+k+j:=by omega
     case' h2 =>
      intro kp
      have G2:=G
      have hl:=hi
      have hc:r (b.getD j nv)<r (a.getD i nv):=k3 0 (by omega) (by omega)
     all_goals
      refine wpS_bind (z0 hj ?_)
      have G3:=G2.pb sa hj fun _=>Int.le_of_lt hc
      refine qM (fun e=>wpS_pure ⟨⟨_,rfl⟩,.inl ⟨_,rfl,G3.fin (.inr (by simpa using e))⟩⟩) fun e5=>?_
      have e5:¬ j+1=b.size:=by simpa using e5
      refine wpS_bind (z0 (Nat.lt_of_succ_lt hl) ?_)
      refine wpS_bind (ZV C hk (by omega) (by omega) (fun i hi=>ub _ (zL (by omega))) (ua _ (zL (Nat.lt_of_succ_lt hl))) (fun i j a b=>wY sb (by omega) (by omega)) fun m m1 m2 m3=>?_)
      dsimp only
      apply qM
      case' h1 =>
       intro mp
       have G4:=G3.eb sa (Nat.lt_of_succ_lt hl) fun i hi=>Int.le_of_lt (m2 i hi)
       refine qM (fun e=>wpS_pure ⟨⟨_,rfl⟩,.inl ⟨_,rfl,G4.fin (.inr (by simpa using e))⟩⟩) fun e6=>?_
       have e6:¬ j+1+m=b.size:=by simpa using e6
       have hj4:j+1+m<b.size:=by omega
       have hc4:=m3 m (Nat.le_refl _) (by omega)
      case' h2 =>
       intro mp
       have G4:=G3
       have hj4:j+1<b.size:=by omega
       have hc4:=m3 0 (by omega) (by omega)
      all_goals
       refine wpS_bind (z0 (Nat.lt_of_succ_lt hl) ?_)
       have G5:=G4.pa sb (Nat.lt_of_succ_lt hl) fun _=>hc4
       refine qM (fun e=>wpS_pure ⟨⟨_,rfl⟩,.inl ⟨_,rfl,G5.last (by simpa using e) h1⟩⟩) fun e7=>?_
       simp only[beq_iff_eq] at e7
       exact qM (fun _=>wpS_pure ⟨⟨_,rfl⟩,.inr ⟨_,_,_,_,_,_,rfl,G5,by omega,by omega,by omega⟩⟩) fun _=>wpS_pure ⟨⟨_,rfl⟩,_,_,_,_,_,_,rfl,G5,by omega,by omega,by omega⟩
   ·rintro c st' ⟨z,o,i',j',p,q,t,rfl,G,hi,hj,hq⟩
    exact⟨z,.inr ⟨_,_,_,_,_,_,rfl,G,hi,hj,by omega⟩⟩
   ·rintro c st' ⟨⟨g,rfl⟩,⟨m,hc,hm⟩|⟨o,i',j',p,q,t,rfl,G,hi,hj,hq⟩⟩
    ·obtain⟨c0,c1⟩:=c
     cases hc
     exact wpS_pure ⟨⟨g,rfl⟩,m,rfl,hm⟩
    dsimp only
    refine wpS_bind (wpS_modify ?_)
    exact wpS_pure ⟨⟨_,rfl⟩,_,_,_,_,rfl,G,hi,hj,by omega⟩
 ·rintro c st' ⟨z,o,i',j',p,rfl,G,hi,hj,hq⟩
  exfalso
  omega
 ·rintro c st' ⟨⟨g,rfl⟩,m,hc,hm⟩
  obtain⟨c0,c1⟩:=c
  cases hc
  exact wpS_pure (h m g hm)
end
end _S
end
section
namespace _S
open PySem PySem.W PyProof.Rows
theorem tF {a:Array Keyed}{n:Nat}(h:0<n)(hn:n≤a.size):a.toList.take n=a.toList.take (n-1)++[a.getD (n-1) nv]:=by
 obtain⟨m,rfl⟩:∃ m,n=m+1:=⟨n-1,by omega⟩
 rw[Nat.add_sub_cancel,List.take_add_one]
 have hm:m<a.size:=by omega
 simp[Array.getD,hm]
theorem lV {a:Array Keyed}{i n:Nat}(h:i≤n):a.toList.take i++(a.extract i n).toList=a.toList.take n:=by
 rw[Array.toList_extract,List.extract_eq_take_drop]
 conv=>rhs;rw[show n=i+(n-i) by omega,List.take_add]
theorem kQ {a:Array Keyed}{n:Nat}:(a.extract 0 n).toList=a.toList.take n:=by
 rw[Array.toList_extract,List.extract_eq_take_drop]
 simp
theorem gB {a:Array Keyed}{i n:Nat}{x:Keyed}(hn:i≤n)(h:x∈(a.extract i n).toList):∃ j,i≤j∧j<n∧j<a.size∧x=a.getD j nv:=by
 obtain⟨k,rfl⟩:∃ k,n=i+k:=⟨n-i,by omega⟩
 exact mU h
def GH (r:Keyed→Int)(a b o:Array Keyed)(i j:Nat):Prop:=Mh r (a.toList.take i) (b.toList.take j) o.toList.reverse (a.toList++b.toList)
section
variable {r:Keyed→Int}{a b o:Array Keyed}{i j k:Nat}
theorem GH.pa (sb:b.toList.Pairwise (Le r))(h:GH r a b o i j)(h1:0<i)(h2:i≤a.size)(hj:j≤b.size)(l:0<j→r (b.getD (j-1) nv)≤r (a.getD (i-1) nv)):GH r a b (o.push (a.getD (i-1) nv)) (i-1) j:=by
 have h':Mh r (a.toList.take (i-1)++[a.getD (i-1) nv]) (b.toList.take j) o.toList.reverse (a.toList++b.toList):=by rw[← tF h1 h2];exact h
 have:=h'.a fun x hx y hy=>by
  cases List.mem_singleton.mp hy
  obtain⟨m,q1,q2,rfl⟩:=gC hx
  exact Int.le_trans (wY sb (by omega) (by omega)) (l (by omega))
 unfold GH
 rw[Array.toList_push,List.reverse_append]
 exact this
theorem GH.pb (sa:a.toList.Pairwise (Le r))(h:GH r a b o i j)(h1:0<j)(h2:j≤b.size)(hi:i≤a.size)(l:0<i→r (a.getD (i-1) nv)≤r (b.getD (j-1) nv)):GH r a b (o.push (b.getD (j-1) nv)) i (j-1):=by
 have h':Mh r (a.toList.take i) (b.toList.take (j-1)++[b.getD (j-1) nv]) o.toList.reverse (a.toList++b.toList):=by rw[← tF h1 h2];exact h
 have:=h'.b fun x hx y hy=>by
  cases List.mem_singleton.mp hy
  obtain⟨m,q1,q2,rfl⟩:=gC hx
  exact Int.le_trans (wY sa (by omega) (by omega)) (l (by omega))
 unfold GH
 rw[Array.toList_push,List.reverse_append]
 exact this
theorem GH.ea (sb:b.toList.Pairwise (Le r))(h:GH r a b o i j)(hk:k≤i)(hj:j≤b.size)(l:0<j→∀ m,k≤m→m<i→m<a.size→r (b.getD (j-1) nv)≤r (a.getD m nv)):GH r a b (o++(a.extract k i).reverse) k j:=by
 have h':Mh r (a.toList.take k++(a.extract k i).toList) (b.toList.take j) o.toList.reverse (a.toList++b.toList):=by rw[lV hk];exact h
 have:=h'.a fun x hx y hy=>by
  obtain⟨m,q1,q2,rfl⟩:=gC hx
  obtain⟨m',q3,q4,q5,rfl⟩:=gB hk hy
  exact Int.le_trans (wY sb (by omega) (by omega)) (l (by omega) m' q3 q4 q5)
 unfold GH
 rw[Array.toList_append,Array.toList_reverse,List.reverse_append,List.reverse_reverse]
 exact this
theorem GH.eb (sa:a.toList.Pairwise (Le r))(h:GH r a b o i j)(hk:k≤j)(hi:i≤a.size)(l:0<i→∀ m,k≤m→m<j→m<b.size→r (a.getD (i-1) nv)≤r (b.getD m nv)):GH r a b (o++(b.extract k j).reverse) i k:=by
 have h':Mh r (a.toList.take i) (b.toList.take k++(b.extract k j).toList) o.toList.reverse (a.toList++b.toList):=by rw[lV hk];exact h
 have:=h'.b fun x hx y hy=>by
  obtain⟨m,q1,q2,rfl⟩:=gC hx
  obtain⟨m',q3,q4,q5,rfl⟩:=gB hk hy
  exact Int.le_trans (wY sa (by omega) (by omega)) (l (by omega) m' q3 q4 q5)
 unfold GH
 rw[Array.toList_append,Array.toList_reverse,List.reverse_append,List.reverse_reverse]
 exact this
theorem GH.fin (h:GH r a b o i j)(e:i=0∨j=0):Mo r (a.toList++b.toList) (a.extract 0 i++b.extract 0 j++o.reverse):=by
 refine⟨?_,?_⟩ <;> rw[Array.toList_append,Array.toList_append,kQ,kQ,Array.toList_reverse]
 ·exact h.pm
 ·rcases e with rfl|rfl
  ·rw[List.take_zero,List.nil_append];exact h.p2
  ·rw[List.take_zero,List.append_nil];exact h.p1
theorem GH.first (h:GH r a b o i j)(e:j=1)(hb:0<b.size)(l:∀ x∈a.toList,Le r (b.getD 0 nv) x):Mo r (a.toList++b.toList) (b.extract 0 j++a.extract 0 i++o.reverse):=by
 subst e
 have hd:b.toList.take 1=[b.getD 0 nv]:=by rw[tF (by omega) (by omega)];rfl
 refine⟨?_,?_⟩ <;> rw[Array.toList_append,Array.toList_append,kQ,kQ,Array.toList_reverse]
 ·refine List.Perm.trans ?_ h.pm
  exact List.Perm.append_right _ List.perm_append_comm
 ·have p2:=h.p2
  rw[hd] at p2 ⊢
  rw[List.append_assoc]
  rw[List.pairwise_append] at p2 ⊢
  refine⟨p2.1,h.p1,fun x hx y hy=>?_⟩
  rcases List.mem_append.mp hy with hy|hy
  ·cases List.mem_singleton.mp hx
   exact l y (List.mem_of_mem_take hy)
  ·exact p2.2.2 x hx y hy
end
section
variable {prog:Program}{w:World}{A:Around}{E:Value→Shared→Prop}{s:Shared}{κ : SortKind}{U:Keyed→Prop}{r:Keyed→Int}
theorem sX (C:Cm (model prog w) A s κ U r){a b:Array Keyed}{Q:Array Keyed→SortSt→Prop}{st:SortSt}(hk:kindOf st=κ)(ua:∀ x∈a.toList,U x)(ub:∀ x∈b.toList,U x)(sa:a.toList.Pairwise (Le r))(sb:b.toList.Pairwise (Le r))
  (h:∀ m g,Mo r (a.toList++b.toList) m→Q m (vD st g)) (ha:0<a.size) (hb:0<b.size) (h0:∀ x∈a.toList,Le r (b.getD 0 nv) x) (h1:r (b.getD (b.size-1) nv)≤r (a.getD (a.size-1) nv)):wpS (model prog w) A E s (XI a b) Q st:=by
 have G0:GH r a b #[] a.size b.size:=by
  unfold GH
  rw[List.take_of_length_le (by simp),List.take_of_length_le (by simp)]
  exact⟨by simpa using sa,by simpa using sb,by simp⟩
 have G1:=G0.pa sb ha (Nat.le_refl _) (Nat.le_refl _) fun _=>h1
 refine wpS_bind (wpS_lift (wpAny_rule ⟨rfl,?_⟩))
 refine wpS_bind (z0 (i:=a.size-1) (by omega) ?_)
 dsimp only
 refine qM (fun e=>wpS_pure (h _ (gallopOf st) (G1.fin (.inl (by simpa using e))))) fun e1=>?_
 refine qM (fun e=>wpS_pure (h _ (gallopOf st) (G1.first (by simpa using e) hb h0))) fun e2=>?_
 have e1:¬ a.size-1=0:=by simpa using e1
 have e2:¬ b.size=1:=by simpa using e2
 refine wpS_bind (wpS_get ?_)
 refine wpS_bind (wpS_mono (wpS_forRange (I:=fun x c st'=>(∃ g,st'=vD st g)∧∃ o i j g,c=(none,i,j,o,g)∧GH r a b o i j∧0<i∧i≤a.size∧1<j∧j≤b.size∧x+i+j<a.size+b.size)
  (Q:=fun c st'=>(∃ g,st'=vD st g)∧∃ m,c.1=some m∧Mo r (a.toList++b.toList) m) ?_ ?_ ⟨⟨gallopOf st,rfl⟩,_,a.size-1,b.size,_,rfl,G1,by omega,by omega,by omega,by omega,by omega⟩) ?_)
 ·rintro x c st' _ hx ⟨⟨g,rfl⟩,o,i,j,mg,rfl,G,hi,hi2,hj,hj2,hp⟩
  dsimp only
  refine wpS_bind (wpS_mono (wpS_forRange (I:=fun y c st'=>(∃ g,st'=vD st g)∧∃ o i' j' p q,c=(none,i',j',o,p,q)∧GH r a b o i' j'∧0<i'∧i'≤a.size∧1<j'∧j'≤b.size∧i'+j'+y≤i+j)
   (Q:=fun c st'=>(∃ g,st'=vD st g)∧((∃ m,c.1=some m∧Mo r (a.toList++b.toList) m)∨∃ o i' j' p q,c=(none,i',j',o,p,q)∧GH r a b o i' j'∧0<i'∧i'≤a.size∧1<j'∧j'≤b.size∧x+1+i'+j'<a.size+b.size)) ?_ ?_ ⟨⟨g,rfl⟩,o,i,j,0,0,rfl,G,hi,hi2,hj,hj2,by omega⟩) ?_)
  ·rintro y c st' _ hy ⟨⟨g,rfl⟩,o,i',j',p,q,rfl,G,hi,hi2,hj,hj2,hq⟩
   dsimp only
   refine wpS_bind (z0 (i:=j'-1) (by omega) (wpS_bind (z0 (i:=i'-1) (by omega) (wpS_bind (C.lt (ub _ (zL (i:=j'-1) (by omega))) (ua _ (zL (i:=i'-1) (by omega))) hk ?_)))))
   dsimp only
   refine qM (fun l=>?_) fun l=>?_
   ·have l:r (b.getD (j'-1) nv)<r (a.getD (i'-1) nv):=by simpa using l
    have G2:=G.pa sb hi hi2 hj2 fun _=>Int.le_of_lt l
    refine wpS_bind (z0 (i:=i'-1) (by omega) ?_)
    refine qM (fun e=>wpS_pure ⟨⟨g,rfl⟩,.inl ⟨_,rfl,G2.fin (.inl (by simpa using e))⟩⟩) fun e=>?_
    have e:¬ i'-1=0:=by simpa using e
    exact qM (fun _=>wpS_pure ⟨⟨g,rfl⟩,.inr ⟨_,_,_,_,_,rfl,G2,by omega,by omega,hj,hj2,by omega⟩⟩) fun _=>wpS_pure ⟨⟨g,rfl⟩,_,_,_,_,_,rfl,G2,by omega,by omega,hj,hj2,by omega⟩
   ·have l:¬ r (b.getD (j'-1) nv)<r (a.getD (i'-1) nv):=by simpa using l
    have G2:=G.pb sa (by omega) hj2 hi2 fun _=>Int.not_lt.mp l
    refine wpS_bind (z0 (i:=j'-1) (by omega) ?_)
    refine qM (fun e=>wpS_pure ⟨⟨g,rfl⟩,.inl ⟨_,rfl,G2.first (by simpa using e) hb h0⟩⟩) fun e=>?_
    have e:¬ j'-1=1:=by simpa using e
    exact qM (fun _=>wpS_pure ⟨⟨g,rfl⟩,.inr ⟨_,_,_,_,_,rfl,G2,hi,hi2,by omega,by omega,by omega⟩⟩) fun _=>wpS_pure ⟨⟨g,rfl⟩,_,_,_,_,_,rfl,G2,hi,hi2,by omega,by omega,by omega⟩
  ·rintro c st' ⟨z,o,i',j',p,q,rfl,G,hi,hi2,hj,hj2,hq⟩
   exact⟨z,.inr ⟨_,_,_,_,_,rfl,G,hi,hi2,hj,hj2,by omega⟩⟩
  ·rintro c st' ⟨⟨g,rfl⟩,⟨m,hc,hm⟩|⟨o,i',j',p,q,rfl,G,hi,hi2,hj,hj2,hq⟩⟩
   ·obtain⟨c0,c1⟩:=c
    cases hc
    exact wpS_pure ⟨⟨g,rfl⟩,m,rfl,hm⟩
   dsimp only
   refine wpS_bind (wpS_lift (wpAny_rule ⟨rfl,?_⟩))
   refine wpS_bind (wpS_mono (wpS_forRange (I:=fun y c st'=>(∃ g,st'=vD st g)∧∃ o i' j' p q t,c=(none,i',j',o,p,q,t)∧GH r a b o i' j'∧0<i'∧i'≤a.size∧1<j'∧j'≤b.size∧x+1+i'+j'<a.size+b.size)
    (Q:=fun c st'=>(∃ g,st'=vD st g)∧((∃ m,c.1=some m∧Mo r (a.toList++b.toList) m)∨∃ o i' j' p q t,c=(none,i',j',o,p,q,t)∧GH r a b o i' j'∧0<i'∧i'≤a.size∧1<j'∧j'≤b.size∧x+1+i'+j'<a.size+b.size)) ?_ ?_ ⟨⟨g,rfl⟩,o,i',j',_,_,_,rfl,G,hi,hi2,hj,hj2,hq⟩) ?_)
   ·rintro y c st' _ hy ⟨⟨g,rfl⟩,o,i,j,p,q,t,rfl,G,hi,hi2,hj,hj2,hq⟩
    dsimp only
    refine qM (fun _=>?_) fun _=>?_
    all_goals
     refine wpS_bind (wpS_modify ?_)
     refine wpS_bind (z0 (i:=j-1) (by omega) ?_)
     refine wpS_bind (ZU C hk (by omega) (by omega) (fun i hi=>ua _ (zL (by omega))) (ub _ (zL (i:=j-1) (by omega))) (fun i j a b=>wY sa (by omega) (by omega)) fun k k1 k2 k3=>?_)
     simp only[Nat.zero_add] at k2 k3
     dsimp only
     apply qM
     case' h1 =>
      intro kp
      have G2:=G.ea sb k1 hj2 fun _ m q1 q2 _=>Int.le_of_lt (k3 m q1 q2)
      refine qM (fun e=>wpS_pure ⟨⟨_,rfl⟩,.inl ⟨_,rfl,G2.fin (.inl (by simpa using e))⟩⟩) fun e3=>?_
      have e3:¬ k=0:=by simpa using e3
      have hl:0<k:=by omega
      have hl2:k≤a.size:=by omega
      have hc:=k2 (k-1) (by omega)
      have hq:x+1+k+j<a.size+b.size:=by omega
     case' h2 =>
      intro kp
      have G2:=G
      have hl:=hi
      have hl2:=hi2
      have hc:=k2 (i-1) (by omega)
     all_goals
      refine wpS_bind (z0 (i:=j-1) (by omega) ?_)
      have G3:=G2.pb sa (by omega) hj2 hl2 fun _=>hc
      refine qM (fun e=>wpS_pure ⟨⟨_,rfl⟩,.inl ⟨_,rfl,G3.first (by simpa using e) hb h0⟩⟩) fun e5=>?_
      have e5:¬ j-1=1:=by simpa using e5
      refine wpS_bind (z0 (Nat.lt_of_lt_of_le (Nat.sub_lt hl Nat.one_pos) hl2) ?_)
      refine wpS_bind (ZV C hk (by omega) (by omega) (fun i hi=>ub _ (zL (by omega))) (ua _ (zL (Nat.lt_of_lt_of_le (Nat.sub_lt hl Nat.one_pos) hl2))) (fun i j a b=>wY sb (by omega) (by omega)) fun m m1 m2 m3=>?_)
      simp only[Nat.zero_add] at m2 m3
      dsimp only
      apply qM
      case' h1 =>
       intro mp
       have G4:=G3.eb sa m1 hl2 fun _ m q1 q2 _=>m3 m q1 q2
       refine qM (fun e=>wpS_pure ⟨⟨_,rfl⟩,.inl ⟨_,rfl,G4.first (by simpa using e) hb h0⟩⟩) fun e6=>?_
       refine qM (fun e=>wpS_pure ⟨⟨_,rfl⟩,.inl ⟨_,rfl,G4.fin (.inr (by simpa using e))⟩⟩) fun e7=>?_
       have e6:¬ m=1:=by simpa using e6
       have e7:¬ m=0:=by simpa using e7
       have hj4:1<m:=by omega
       have hj5:m≤b.size:=by omega
       have hc4:=Int.le_of_lt (m2 (m-1) (by omega))
      case' h2 =>
       intro mp
       have G4:=G3
       have hj4:1<j-1:=by omega
       have hj5:j-1≤b.size:=by omega
       have hc4:=Int.le_of_lt (m2 (j-1-1) (by omega))
      all_goals
       refine wpS_bind (z0 (Nat.lt_of_lt_of_le (Nat.sub_lt hl Nat.one_pos) hl2) ?_)
       have G5:=G4.pa sb hl hl2 hj5 fun _=>hc4
       refine qM (fun e=>wpS_pure ⟨⟨_,rfl⟩,.inl ⟨_,rfl,G5.fin (.inl (by simpa using e))⟩⟩) fun e7=>?_
       simp only[beq_iff_eq] at e7
       exact qM (fun _=>wpS_pure ⟨⟨_,rfl⟩,.inr ⟨_,_,_,_,_,_,rfl,G5,by omega,by omega,by omega,by omega,by omega⟩⟩) fun _=>wpS_pure ⟨⟨_,rfl⟩,_,_,_,_,_,_,rfl,G5,by omega,by omega,by omega,by omega,by omega⟩
   ·rintro c st' ⟨z,o,i',j',p,q,t,rfl,G,hi,hi2,hj,hj2,hq⟩
    exact⟨z,.inr ⟨_,_,_,_,_,_,rfl,G,hi,hi2,hj,hj2,by omega⟩⟩
   ·rintro c st' ⟨⟨g,rfl⟩,⟨m,hc,hm⟩|⟨o,i',j',p,q,t,rfl,G,hi,hi2,hj,hj2,hq⟩⟩
    ·obtain⟨c0,c1⟩:=c
     cases hc
     exact wpS_pure ⟨⟨g,rfl⟩,m,rfl,hm⟩
    dsimp only
    refine wpS_bind (wpS_modify ?_)
    exact wpS_pure ⟨⟨_,rfl⟩,_,_,_,_,rfl,G,hi,hi2,hj,hj2,by omega⟩
 ·rintro c st' ⟨z,o,i',j',p,rfl,G,hi,hi2,hj,hj2,hq⟩
  exfalso
  omega
 ·rintro c st' ⟨⟨g,rfl⟩,m,hc,hm⟩
  obtain⟨c0,c1⟩:=c
  cases hc
  exact wpS_pure (h m g hm)
end
end _S
end
section
namespace _S
open PySem PySem.W PyProof.Rows
theorem aD:∀ (l:List Keyed) (arr:Array Keyed) (o d:Nat),o+d+l.length≤arr.size→∀ k,((l.zipIdx d).foldl (fun a p=>a.setIfInBounds (o+p.2) p.1) arr)[k]? = if o+d≤k∧k<o+d+l.length then l[k-(o+d)]? else arr[k]?
 |[],arr,o,d,h,k=>by
  rw[if_neg (by simp only[List.length_nil];omega)];rfl
 |x::l,arr,o,d,h,k=>by
  rw[List.length_cons] at h
  rw[List.zipIdx_cons,List.foldl_cons,aD l _ o (d+1) (by rw[Array.size_setIfInBounds];omega) k,List.length_cons]
  by_cases h1:k=o+d
  ·subst h1
   rw[if_neg (by omega),if_pos (by omega),Nat.sub_self,Array.getElem?_setIfInBounds_self_of_lt (by omega)]
   rfl
  ·by_cases h2:o+(d+1)≤k∧k<o+(d+1)+l.length
   ·rw[if_pos h2,if_pos (by omega),show k-(o+d)=(k-(o+(d+1)))+1 by omega,List.getElem?_cons_succ]
   ·rw[if_neg h2,if_neg (by omega),Array.getElem?_setIfInBounds_ne (by omega)]
def wb (arr:Array Keyed)(o:Nat)(m:Array Keyed):Array Keyed:=m.toList.zipIdx.foldl (fun a p=>a.setIfInBounds (o+p.2) p.1) arr
theorem KA {arr m:Array Keyed}{o:Nat}(h:o+m.size≤arr.size)(k:Nat):(wb arr o m).getD k nv=if o≤k∧k<o+m.size then m.getD (k-o) nv else arr.getD k nv:=by
 have e:=aD m.toList arr o 0 (by simpa using h) k
 simp only[Nat.add_zero,Array.length_toList,Array.getElem?_toList] at e
 rw[Array.getD_eq_getD_getElem?,Array.getD_eq_getD_getElem?,Array.getD_eq_getD_getElem?]
 unfold wb
 rw[e]
 split <;> rfl
theorem KB {arr m:Array Keyed}{o:Nat}(h:o+m.size≤arr.size):(wb arr o m).toList=arr.toList.take o++(m.toList++arr.toList.drop (o+m.size)):=by
 apply List.ext_getElem?
 intro k
 have e:=aD m.toList arr o 0 (by simpa using h) k
 simp only[Nat.add_zero,Array.length_toList,Array.getElem?_toList] at e
 unfold wb
 rw[Array.getElem?_toList,e]
 have lt:(arr.toList.take o).length=o:=by rw[List.length_take,Array.length_toList];omega
 by_cases h1:k<o
 ·rw[if_neg (by omega),List.getElem?_append_left (by omega),List.getElem?_take_of_lt h1,Array.getElem?_toList]
 ·rw[List.getElem?_append_right (by omega),lt]
  by_cases h2:k<o+m.size
  ·rw[if_pos (by omega),List.getElem?_append_left (by rw[Array.length_toList];omega),Array.getElem?_toList]
  ·rw[if_neg (by omega),List.getElem?_append_right (by rw[Array.length_toList];omega),List.getElem?_drop,Array.length_toList,Array.getElem?_toList]
   congr 1
   omega
theorem KC {arr m:Array Keyed}{o n:Nat}(h:o+n≤arr.size)(p:m.toList.Perm (arr.extract o (o+n)).toList):(wb arr o m).toList.Perm arr.toList:=by
 have hm:m.size=n:=by
  have:=p.length_eq
  rw[Array.length_toList,Array.length_toList,Array.size_extract] at this
  omega
 rw[KB (by omega),hm]
 have e:arr.toList=arr.toList.take o++((arr.extract o (o+n)).toList++arr.toList.drop (o+n)):=by rw[bL,List.take_append_drop]
 conv=>rhs;rw[e]
 exact List.Perm.append_left _ (List.Perm.append_right _ p)
def Seg (r:Keyed→Int)(a:Array Keyed)(lo n:Nat):Prop:=∀ i j,lo≤i→i≤j→j<lo+n→r (a.getD i nv)≤r (a.getD j nv)
theorem eW {r:Keyed→Int}{a:Array Keyed}{lo n:Nat}(h:Seg r a lo n){i k:Nat}(h1:lo≤i)(h2:i+k≤lo+n)(h3:i+k≤a.size):(a.extract i (i+k)).toList.Pairwise (Le r):=by
 rw[List.pairwise_iff_getElem]
 intro x y hx hy l
 have hx':x<k:=by rw[Array.length_toList,Array.size_extract] at hx;omega
 have hy':y<k:=by rw[Array.length_toList,Array.size_extract] at hy;omega
 have e:=h (i+x) (i+y) (by omega) (by omega) (by omega)
 have q1:i+x<a.size:=by omega
 have q2:i+y<a.size:=by omega
 simpa [Array.getD,q1,q2,Le] using e
theorem lU {a:Array Keyed}{i k m:Nat}(h:m<k)(h3:i+k≤a.size):(a.extract i (i+k)).getD m nv=a.getD (i+m) nv:=by
 have q1:i+m<a.size:=by omega
 have q2:m<(a.extract i (i+k)).size:=by rw[Array.size_extract];omega
 have q3:m<min (i+k) a.size-i:=by omega
 simp[Array.getD,q1,q3]
theorem ZR {a:Array Keyed}{i j k:Nat}(h1:i≤j)(h2:j≤k):(a.extract i j).toList++(a.extract j k).toList=(a.extract i k).toList:=by
 rw[← Array.toList_append,Array.extract_append_extract]
 congr 2 <;> omega
section
variable {prog:Program}{w:World}{A:Around}{E:Value→Shared→Prop}{s:Shared}{κ : SortKind}{U:Keyed→Prop}{r:Keyed→Int}
theorem KD {M:Model}{σ : Type}{Q:PUnit→σ→Prop}{st st':σ}(h:Q ⟨⟩ st'):wpS M A E s (set st':StateT σ Sem PUnit) Q st:=by
 unfold wpS;rw[StateT.run_set];exact wpAny_pure ⟨rfl,h⟩
theorem sW (C:Cm (model prog w) A s κ U r){i sa na pw nb pz:Nat}{Q:Bool→SortSt→Prop}{arr:Array Keyed}{pd:Array (Nat × Nat × Nat)}{g:Nat}(ua:∀ x∈arr.toList,U x)(e1:pd[i]? = some (sa,na,pw))(e2:pd[i+1]? = some (sa+na,nb,pz))(p1:0<na)(p2:0<nb)(hz:sa+na+nb≤arr.size)
  (s1:Seg r arr sa na) (s2:Seg r arr (sa+na) nb)
  (h:∀ arr' g,arr'.toList.Perm arr.toList→(∀ k,k<sa∨sa+na+nb≤k→arr'.getD k nv=arr.getD k nv)→Seg r arr' sa (na+nb)→Q true (SortSt.mk' κ arr' ((pd.setIfInBounds i (sa,na+nb,pw)).eraseIdxIfInBounds (i+1)) g none)) :
  wpS (model prog w) A E s (mergeAt' i) Q (SortSt.mk' κ arr pd g none):=by
 refine wpS_bind (wpS_get ?_)
 dsimp only
 rw[e1,e2]
 dsimp only
 refine wpS_bind (KD ?_)
 refine wpS_bind (z0 (i:=sa+na) (by omega) ?_)
 refine wpS_bind (ZU C rfl (by omega) (by omega) (fun i hi=>ua _ (zL (by omega))) (ua _ (zL (by omega))) (fun i j a b=>s1 _ _ (by omega) (by omega) (by omega)) fun k k1 k2 k3=>?_)
 dsimp only
 refine qM (fun e=>wpS_pure (h arr g (List.Perm.refl _) (fun _ _=>rfl) fun i j a b c=>?_)) fun e=>?_
 ·have e:na-k=0:=by simpa using e
  by_cases q1:j<sa+na
  ·exact s1 i j a b q1
  ·by_cases q2:sa+na≤i
   ·exact s2 i j q2 b (by omega)
   ·have:=k2 (i-sa) (by omega)
    rw[show sa+(i-sa)=i by omega] at this
    exact Int.le_trans this (s2 _ _ (Nat.le_refl _) (by omega) (by omega))
 have e:¬ na-k=0:=by simpa using e
 refine wpS_bind (z0 (i:=sa+k+(na-k)-1) (by omega) ?_)
 refine wpS_bind (ZV C rfl (by omega) (by omega) (fun i hi=>ua _ (zL (by omega))) (ua _ (zL (by omega))) (fun i j a b=>s2 _ _ (by omega) (by omega) (by omega)) fun m m1 m2 m3=>?_)
 dsimp only
 rw[show sa+k+(na-k)-1=sa+na-1 by omega] at m2 m3
 have hk3:=k3 k (Nat.le_refl _) (by omega)
 refine qM (fun e=>?_) fun e'=>?_
 ·exfalso
  have e:m=0:=by simpa using e
  subst e
  have q1:=m3 0 (Nat.le_refl _) p2
  have q2:=s1 (sa+k) (sa+na-1) (by omega) (by omega) (by omega)
  rw[Nat.add_zero] at q1
  omega
 have e':¬ m=0:=by simpa using e'
 have ex:arr.extract (sa+k) (sa+na)=arr.extract (sa+k) (sa+k+(na-k)):=by rw[show sa+k+(na-k)=sa+na by omega]
 have zx:(arr.extract (sa+k) (sa+na)).size=na-k:=by rw[Array.size_extract];omega
 have zy:(arr.extract (sa+na) (sa+na+m)).size=m:=by rw[Array.size_extract];omega
 have gx:∀ i,i<na-k→(arr.extract (sa+k) (sa+na)).getD i nv=arr.getD (sa+k+i) nv:=fun i hi=>by rw[ex];exact lU hi (by omega)
 have gy:∀ i,i<m→(arr.extract (sa+na) (sa+na+m)).getD i nv=arr.getD (sa+na+i) nv:=fun i hi=>lU hi (by omega)
 have px:(arr.extract (sa+k) (sa+na)).toList.Pairwise (Le r):=by rw[ex];exact eW s1 (by omega) (by omega) (by omega)
 have py:(arr.extract (sa+na) (sa+na+m)).toList.Pairwise (Le r):=eW s2 (by omega) (by omega) (by omega)
 have mx:∀ x∈(arr.extract (sa+k) (sa+na)).toList,∃ j,sa+k≤j∧j<sa+na∧x=arr.getD j nv:=fun x hx=>by
  obtain⟨j,q1,q2,q3,q4⟩:=gB (by omega) hx
  exact⟨j,q1,q2,q4⟩
 have my:∀ x∈(arr.extract (sa+na) (sa+na+m)).toList,∃ j,sa+na≤j∧j<sa+na+m∧x=arr.getD j nv:=fun x hx=>by
  obtain⟨j,q1,q2,q3,q4⟩:=gB (by omega) hx
  exact⟨j,q1,q2,q4⟩
 have lox:∀ x∈(arr.extract (sa+k) (sa+na)).toList,r (arr.getD (sa+na) nv)≤r x∧r x≤r (arr.getD (sa+na-1) nv):=fun x hx=>by
  obtain⟨j,q1,q2,rfl⟩:=mx x hx
  have:=s1 (sa+k) j (by omega) q1 q2
  exact⟨by omega,s1 j _ (by omega) (by omega) (by omega)⟩
 have loy:∀ x∈(arr.extract (sa+na) (sa+na+m)).toList,r (arr.getD (sa+na) nv)≤r x∧r x≤r (arr.getD (sa+na-1) nv):=fun x hx=>by
  obtain⟨j,q1,q2,rfl⟩:=my x hx
  have:=m2 (j-(sa+na)) (by omega)
  rw[show sa+na+(j-(sa+na))=j by omega] at this
  exact⟨s2 _ _ (Nat.le_refl _) q1 (by omega),by omega⟩
 have fin:∀ mg g',Mo r ((arr.extract (sa+k) (sa+na)).toList++(arr.extract (sa+na) (sa+na+m)).toList) mg→Q true (SortSt.mk' κ (wb arr (sa+k) mg) ((pd.setIfInBounds i (sa,na+nb,pw)).eraseIdxIfInBounds (i+1)) g' none):=by
  intro mg g' M
  have ej:(arr.extract (sa+k) (sa+na)).toList++(arr.extract (sa+na) (sa+na+m)).toList=(arr.extract (sa+k) (sa+k+(na-k+m))).toList:=by
   rw[ZR (by omega) (by omega),show sa+k+(na-k+m)=sa+na+m by omega]
  have hm:mg.size=na-k+m:=by
   have:=M.pm.length_eq
   rw[List.length_append,Array.length_toList,Array.length_toList,Array.length_toList,zx,zy] at this
   exact this
  have gd:=fun j=>KA (arr:=arr) (m:=mg) (o:=sa+k) (by omega) j
  refine h _ g' (KC (n:=na-k+m) (by omega) (ej▸M.pm)) (fun j hj=>?_) fun i j a b c=>?_
  ·rw[gd,if_neg (by omega)]
  ·have bd:∀ j,sa+k≤j→j<sa+na+m→r (arr.getD (sa+na) nv)≤r (mg.getD (j-(sa+k)) nv)∧r (mg.getD (j-(sa+k)) nv)≤r (arr.getD (sa+na-1) nv):=fun j h1 h2=>by
    have:=M.pm.mem_iff.mp (zL (a:=mg) (i:=j-(sa+k)) (by omega))
    rcases List.mem_append.mp this with q|q
    ·exact lox _ q
    ·exact loy _ q
   rw[gd,gd,hm]
   by_cases i1:i<sa+k
   ·rw[if_neg (by omega)]
    have u:=k2 (i-sa) (by omega)
    rw[show sa+(i-sa)=i by omega] at u
    by_cases j1:j<sa+k
    ·rw[if_neg (by omega)];exact s1 i j a b (by omega)
    ·by_cases j2:j<sa+na+m
     ·rw[if_pos (by omega)];exact Int.le_trans u (bd j (by omega) j2).1
     ·rw[if_neg (by omega)];exact Int.le_trans u (s2 _ _ (Nat.le_refl _) (by omega) (by omega))
   ·by_cases i2:i<sa+na+m
    ·rw[if_pos (by omega)]
     by_cases j2:j<sa+na+m
     ·rw[if_pos (by omega)];exact wY M.up (by omega) (by omega)
     ·rw[if_neg (by omega)]
      have v:=m3 (j-(sa+na)) (by omega) (by omega)
      rw[show sa+na+(j-(sa+na))=j by omega] at v
      exact Int.le_trans (bd i (by omega) i2).2 v
    ·rw[if_neg (by omega),if_neg (by omega)]
     exact s2 i j (by omega) b (by omega)
 have ux:∀ x∈(arr.extract (sa+k) (sa+na)).toList,U x:=fun x hx=>by obtain⟨j,q1,q2,rfl⟩:=mx x hx;exact ua _ (zL (by omega))
 have uy:∀ x∈(arr.extract (sa+na) (sa+na+m)).toList,U x:=fun x hx=>by obtain⟨j,q1,q2,rfl⟩:=my x hx;exact ua _ (zL (by omega))
 have y0:(arr.extract (sa+na) (sa+na+m)).getD 0 nv=arr.getD (sa+na) nv:=gy 0 (by omega)
 have xl:(arr.extract (sa+k) (sa+na)).getD ((arr.extract (sa+k) (sa+na)).size-1) nv=arr.getD (sa+na-1) nv:=by rw[zx,gx _ (by omega)];congr 1;omega
 refine qM (fun _=>?_) fun _=>?_
 ·refine wpS_bind (sY C rfl ux uy px py (fun mg g' M=>?_) (by rw[zx];omega) (by rw[zy];omega) ?_ fun x hx=>?_)
  ·refine wpS_bind (wpS_modify (wpS_bind (wpS_get (wpS_pure ?_))))
   exact fin mg g' M
  ·rw[y0];exact(lox _ (zL (by rw[zx];omega))).1
  ·rw[xl];exact(loy x hx).2
 ·refine wpS_bind (sX C rfl ux uy px py (fun mg g' M=>?_) (by rw[zx];omega) (by rw[zy];omega) (fun x hx=>?_) ?_)
  ·refine wpS_bind (wpS_modify (wpS_bind (wpS_get (wpS_pure ?_))))
   exact fin mg g' M
  ·rw[y0];exact(lox x hx).1
  ·rw[xl];exact(loy _ (zL (by rw[zy];omega))).2
end
end _S
end
section
namespace _S
open PySem PySem.W PyProof.Rows
def mir (a:Array Keyed)(i j:Nat):Array Keyed:=mirror a i j ((j-i)/2)
theorem wU {a:Array Keyed}{i j:Nat}(hj:j≤a.size)(k:Nat):(mir a i j).getD k nv=if i≤k∧k<j then a.getD (i+j-1-k) nv else a.getD k nv:=by
 rw[Array.getD_eq_getD_getElem?,Array.getD_eq_getD_getElem?,Array.getD_eq_getD_getElem?]
 unfold mir
 rw[getElem?_mirror_all hj]
 split <;> rfl
structure Cr (a b:Array Keyed)(lo n:Nat):Prop where
 pm:b.toList.Perm a.toList
 out:∀ k,k<lo∨lo+n≤k→b.getD k nv=a.getD k nv
theorem Cr.z {a b:Array Keyed}{lo n:Nat}(h:Cr a b lo n):b.size=a.size:=by
 have:=h.pm.length_eq
 simpa using this
theorem Cr.rfl' {a:Array Keyed}{lo n:Nat}:Cr a a lo n:=⟨List.Perm.refl _,fun _ _=>rfl⟩
theorem Cr.mir {a b:Array Keyed}{lo n i j:Nat}(h:Cr a b lo n)(h1:lo≤i)(h2:j≤lo+n)(h3:j≤a.size):Cr a (mir b i j) lo n:=
 ⟨(Array.perm_iff_toList_perm.mp (mirror_perm _ _ _ _)).trans h.pm,fun k hk=>by rw[wU (by rw[h.z];exact h3),if_neg (by omega)];exact h.out k hk⟩
def Dsg (r:Keyed→Int)(a:Array Keyed)(lo n:Nat):Prop:=∀ i j,lo≤i→i≤j→j<lo+n→r (a.getD j nv)≤r (a.getD i nv)
theorem W8 {r:Keyed→Int}{a:Array Keyed}{lo n:Nat}(h:Seg r a lo n)(h1:1≤n)(l:r (a.getD (lo+n-1) nv)≤r (a.getD (lo+n) nv)):Seg r a lo (n+1):=fun i j h2 h3 h4=>by
 by_cases q:j<lo+n
 ·exact h i j h2 h3 q
 ·have:j=lo+n:=by omega
  subst this
  by_cases q2:i=lo+n
  ·subst q2;exact Int.le_refl _
  ·exact Int.le_trans (h i (lo+n-1) h2 (by omega) (by omega)) l
theorem uQ {r:Keyed→Int}{a:Array Keyed}{lo n:Nat}(h:Dsg r a lo n)(h1:1≤n)(l:r (a.getD (lo+n) nv)≤r (a.getD (lo+n-1) nv)):Dsg r a lo (n+1):=fun i j h2 h3 h4=>by
 by_cases q:j<lo+n
 ·exact h i j h2 h3 q
 ·have:j=lo+n:=by omega
  subst this
  by_cases q2:i=lo+n
  ·subst q2;exact Int.le_refl _
  ·exact Int.le_trans l (h i (lo+n-1) h2 (by omega) (by omega))
theorem eX {r:Keyed→Int}{a:Array Keyed}{lo:Nat}:Seg r a lo 1:=fun i j h2 h3 h4=>by
 have:i=j:=by omega
 subst this;exact Int.le_refl _
theorem VO {r:Keyed→Int}{a:Array Keyed}{lo:Nat}:Dsg r a lo 1:=fun i j h2 h3 h4=>by
 have:i=j:=by omega
 subst this;exact Int.le_refl _
def QL (r:Keyed→Int)(a:Array Keyed)(lo n q:Nat):Prop:=q+1≤n∧∀ k,lo+n-(q+1)≤k→k<lo+n→r (a.getD k nv)=r (a.getD (lo+n-1) nv)
set_option tactic.hygienic true in
theorem kP {r:Keyed→Int}{a:Array Keyed}{lo n q:Nat}(hn:lo+n≤a.size)(h:QL r a lo n q)(k:Nat):r ((mir a (lo+n-(q+1)) (lo+n)).getD k nv)=r (a.getD k nv):=by
 rw[wU hn]
 have:=h.1
 split
 ·rename_i c
  rw[h.2 k (by omega) c.2,h.2 _ (by omega) (by omega)]
 ·rfl
theorem VN {r:Keyed→Int}{a:Array Keyed}{lo n:Nat}(hn:lo+n≤a.size)(h:Dsg r a lo n):Seg r (mir a lo (lo+n)) lo n:=fun i j h2 h3 h4=>by
 rw[wU hn,wU hn,if_pos (by omega),if_pos (by omega)]
 exact h _ _ (by omega) (by omega) (by omega)
section
variable {prog:Program}{w:World}{A:Around}{E:Value→Shared→Prop}{s:Shared}{κ : SortKind}{U:Keyed→Prop}{r:Keyed→Int}
theorem kH (C:Cm (model prog w) A s κ U r){i j:Nat}{arr:Array Keyed}{pd:Array (Nat × Nat × Nat)}{g:Nat}{Q:Option Bool→SortSt→Prop}(ua:∀ x∈arr.toList,U x)(hi:i<arr.size)(hj:j<arr.size)
  (q:Q (some (decide (r (arr.getD i nv)<r (arr.getD j nv)))) (SortSt.mk' κ arr pd g none)):wpS (model prog w) A E s (ltAt' i j) Q (SortSt.mk' κ arr pd g none):=by
 refine wpS_bind (wpS_get ?_)
 exact wpS_bind (z0 hi (wpS_bind (z0 hj (C.lt (ua _ (zL hi)) (ua _ (zL hj)) rfl q))))
theorem b9 {i j:Nat}{arr:Array Keyed}{pd:Array (Nat × Nat × Nat)}{g:Nat}{Q:PUnit→SortSt→Prop}(q:Q ⟨⟩ (SortSt.mk' κ (mir arr i j) pd g none)):wpS (model prog w) A E s (reverseSlice' i j) Q (SortSt.mk' κ arr pd g none):=wpS_modify q
theorem nI (C:Cm (model prog w) A s κ U r){lo N:Nat}{arr:Array Keyed}{pd:Array (Nat × Nat × Nat)}{g:Nat}{Q:Option Nat→SortSt→Prop}(ua:∀ x∈arr.toList,U x)(h1:1≤N)(hz:lo+N≤arr.size)
  (h:∀ n b,1≤n→n≤N→Cr arr b lo N→Seg r b lo n→Q (some n) (SortSt.mk' κ b pd g none)):wpS (model prog w) A E s (countRun' lo N) Q (SortSt.mk' κ arr pd g none):=by
 have uc:∀ {b:Array Keyed},Cr arr b lo N→∀ x∈b.toList,U x:=fun h x hx=>ua x (h.pm.mem_iff.mp hx)
 have asc:∀ {b:Array Keyed} {n:Nat} {f:Nat→Option (Option Nat) × Nat→StateT SortSt Sem (ForInStep (Option (Option Nat) × Nat))},Cr arr b lo N→1≤n→n≤N→Seg r b lo n →
   (∀ x m,f x (none,m)=(ltAt' (lo+m) (lo+m-1) >>= fun o=>match o with
    |some z=>if z then pure (.done (none,m)) else pure (.yield (none,m+1))
    |_=>pure (.done (some none,m))))→wpS (model prog w) A E s (forIn [n:N] (none,n) f) (fun c st'=>st'=SortSt.mk' κ b pd g none∧∃ m,c=(none,m)∧n≤m∧m≤N∧Seg r b lo m∧(m=N∨r (b.getD (lo+m) nv)<r (b.getD (lo+m-1) nv))) (SortSt.mk' κ b pd g none):=by
  intro b n f cr hn hN sg hf
  have zb:=cr.z
  refine wpS_forRange (I:=fun x c st'=>st'=SortSt.mk' κ b pd g none∧c=(none,x)∧n≤x∧Seg r b lo x) ?_ ?_ ⟨rfl,rfl,Nat.le_refl _,sg⟩
  ·rintro x c st' hx1 hx ⟨rfl,rfl,hx3,sg⟩
   rw[hf]
   refine wpS_bind (kH C (uc cr) (by omega) (by omega) ?_)
   by_cases l:r (b.getD (lo+x) nv)<r (b.getD (lo+x-1) nv)
   ·simp only[l,decide_true,if_true]
    exact wpS_pure ⟨rfl,x,rfl,hx1,by omega,sg,.inr l⟩
   ·simp only[l,decide_false,Bool.false_eq_true,if_false]
    exact wpS_pure ⟨rfl,rfl,by omega,W8 sg (by omega) (by omega)⟩
  ·rintro c st' ⟨rfl,rfl,hx3,sg⟩
   rw[show max n N=N by omega] at sg ⊢
   exact⟨rfl,N,rfl,hN,Nat.le_refl _,sg,.inl rfl⟩
 refine wpS_bind (wpS_mono (asc Cr.rfl' (Nat.le_refl 1) h1 eX fun _ _=>rfl) ?_)
 rintro c st' ⟨rfl,n,rfl,n1,n2,sg,nd⟩
 dsimp only
 refine qM (fun e=>wpS_pure (h n arr n1 n2 Cr.rfl' sg)) fun e=>?_
 have e:¬ n=N:=by simpa using e
 have nd:r (arr.getD (lo+n) nv)<r (arr.getD (lo+n-1) nv):=by omega
 apply qM
 case' h1 =>
  intro np
  refine wpS_bind (kH C ua (by omega) (by omega) ?_)
  dsimp only
  refine qM (fun e=>wpS_pure (h n arr n1 n2 Cr.rfl' sg)) fun l=>?_
  have l:¬ r (arr.getD lo nv)<r (arr.getD (lo+n-1) nv):=by simpa using l
  refine wpS_bind (b9 ?_)
  have cr:Cr arr (mir arr lo (lo+n)) lo N:=Cr.rfl'.mir (Nat.le_refl _) (by omega) (by omega)
  have ds:Dsg r (mir arr lo (lo+n)) lo (n+1):=by
   refine uQ (fun i j a b c=>?_) n1 ?_
   ·rw[wU (by omega),wU (by omega),if_pos (by omega),if_pos (by omega)]
    exact sg _ _ (by omega) (by omega) (by omega)
   ·rw[wU (by omega),wU (by omega),if_neg (by omega),if_pos (by omega),show lo+(lo+n)-1-(lo+n-1)=lo by omega]
    omega
 case' h2 =>
  intro np
  have cr:Cr arr arr lo N:=Cr.rfl'
  have ds:Dsg r arr lo (n+1):=by
   have:n=1:=by omega
   subst this
   exact uQ VO (Nat.le_refl _) (Int.le_of_lt nd)
 all_goals
  refine wpS_bind (wpS_lift (wpAny_rule ⟨rfl,?_⟩))
  refine wpS_bind (wpS_mono (wpS_forRange (I:=fun x c st'=>∃ b q,st'=SortSt.mk' κ b pd g none∧c=(none,x,q)∧Cr arr b lo N∧Dsg r b lo x∧QL r b lo x q)
   (Q:=fun c st'=>∃ b m q,st'=SortSt.mk' κ b pd g none∧c=(none,m,q)∧1≤m∧m≤N∧Cr arr b lo N∧Dsg r b lo m∧QL r b lo m q) ?_ ?_ ⟨_,0,rfl,rfl,cr,ds,by omega,fun k a b=>by rw[show k=lo+(n+1)-1 by omega]⟩) ?_)
  ·rintro x c st' hx1 hx ⟨b,q,rfl,rfl,cr,ds,eq⟩
   dsimp only
   have zb:=cr.z
   refine wpS_bind (kH C (uc cr) (by omega) (by omega) ?_)
   dsimp only
   refine qM (fun l=>?_) fun l=>?_
   ·have l:r (b.getD (lo+x) nv)<r (b.getD (lo+x-1) nv):=by simpa using l
    refine qM (fun qp=>wpS_bind (b9 (wpS_pure ⟨_,0,rfl,rfl,cr.mir (by have:=eq.1;omega) (by omega) (by omega),fun i j a c d=>?_,by omega,fun k a b=>by rw[show k=lo+(x+1)-1 by omega]⟩))) fun qp=>wpS_pure ⟨_,0,rfl,rfl,cr,uQ ds (by omega) (Int.le_of_lt l),by omega,fun k a b=>by rw[show k=lo+(x+1)-1 by omega]⟩
    rw[kP (by omega) eq,kP (by omega) eq]
    exact uQ ds (by omega) (Int.le_of_lt l) i j a c d
   ·have l:¬ r (b.getD (lo+x) nv)<r (b.getD (lo+x-1) nv):=by simpa using l
    refine wpS_bind (kH C (uc cr) (by omega) (by omega) ?_)
    dsimp only
    refine qM (fun l2=>wpS_pure ⟨b,x,q,rfl,rfl,by omega,by omega,cr,ds,eq⟩) fun l2=>?_
    have l2:¬ r (b.getD (lo+x-1) nv)<r (b.getD (lo+x) nv):=by simpa using l2
    have ee:r (b.getD (lo+x) nv)=r (b.getD (lo+x-1) nv):=by omega
    refine wpS_pure ⟨b,q+1,rfl,rfl,cr,uQ ds (by omega) (by omega),by have:=eq.1;omega,fun k a c=>?_⟩
    rw[show lo+(x+1)-1=lo+x by omega]
    by_cases kx:k=lo+x
    ·rw[kx]
    ·rw[ee];exact eq.2 k (by omega) (by omega)
  ·rintro c st' ⟨b,q,rfl,rfl,cr,ds,eq⟩
   rw[show max (n+1) N=N by omega] at ds eq ⊢
   exact⟨b,N,q,rfl,rfl,h1,Nat.le_refl _,cr,ds,eq⟩
  ·rintro c st' ⟨b,m,q,rfl,rfl,m1,m2,cr,ds,eq⟩
   dsimp only
   have zb:=cr.z
   apply qM
   case' h1 =>
    intro qp
    refine wpS_bind (b9 ?_)
    have cr2:=cr.mir (i:=lo+m-(q+1)) (j:=lo+m) (by have:=eq.1;omega) (by omega) (by omega)
    have ds2:Dsg r (mir b (lo+m-(q+1)) (lo+m)) lo m:=fun i j a c d=>by
     rw[kP (by omega) eq,kP (by omega) eq]
     exact ds i j a c d
   case' h2 =>
    intro qp
    have cr2:=cr
    have ds2:=ds
   all_goals
    have z2:=cr2.z
    refine wpS_bind (b9 ?_)
    refine wpS_bind (wpS_mono (asc (cr2.mir (Nat.le_refl _) (by omega) (by omega)) m1 m2 (VN (by omega) ds2) fun _ _=>rfl) ?_)
    rintro c st' ⟨rfl,n',rfl,q1,q2,q3,_⟩
    exact wpS_pure (h n' _ (by omega) q2 (cr2.mir (Nat.le_refl _) (by omega) (by omega)) q3)
end
end _S
end
section
namespace _S
open PySem PySem.W PyProof.Rows
theorem lC {a:Array Keyed}{src d:Nat}(hs:src<a.size)(hd:d≤src)(k:Nat):(bubble a src d).getD k nv=if k=src-d then a.getD src nv else if src-d<k∧k≤src then a.getD (k-1) nv else a.getD k nv:=by
 simp only[Array.getD_eq_getD_getElem?]
 rw[getElem?_bubble hs d hd]
 repeat' split
 all_goals rfl
section
variable {prog:Program}{w:World}{A:Around}{E:Value→Shared→Prop}{s:Shared}{κ : SortKind}{U:Keyed→Prop}{r:Keyed→Int}
theorem sQ (C:Cm (model prog w) A s κ U r){lo n ok:Nat}{arr:Array Keyed}{pd:Array (Nat × Nat × Nat)}{g:Nat}{Q:Bool→SortSt→Prop}(ua:∀ x∈arr.toList,U x)(h1:ok≤n)(hz:lo+n≤arr.size)(sg:Seg r arr lo ok)
  (h:∀ b,Cr arr b lo n→Seg r b lo n→Q true (SortSt.mk' κ b pd g none)):wpS (model prog w) A E s (binarySort' lo n ok) Q (SortSt.mk' κ arr pd g none):=by
 have uc:∀ {b:Array Keyed},Cr arr b lo n→∀ x∈b.toList,U x:=fun h x hx=>ua x (h.pm.mem_iff.mp hx)
 have sg1:Seg r arr lo (max ok 1):=by
  by_cases q:ok=0
  ·rw[q];exact eX
  ·rw[show max ok 1=ok by omega];exact sg
 refine wpS_bind (wpS_mono (wpS_forRange (I:=fun k c st'=>c=(none,())∧∃ b,st'=SortSt.mk' κ b pd g none∧Cr arr b lo n∧Seg r b lo (min k (max ok (max n 1))))
  (Q:=fun c st'=>c=(none,())∧∃ b,st'=SortSt.mk' κ b pd g none∧Cr arr b lo n∧Seg r b lo n) ?_ ?_ ⟨rfl,arr,rfl,Cr.rfl',?_⟩) ?_)
 ·rintro k c st' hk hkn ⟨rfl,b,rfl,cr,sg⟩
  have zb:=cr.z
  rw[show min k (max ok (max n 1))=k by omega] at sg
  dsimp only
  refine wpS_bind (wpS_mono (wpS_forRange (I:=fun x c st'=>st'=SortSt.mk' κ b pd g none∧∃ l u,c=(none,l,u)∧l≤u∧u≤k∧u-l≤k-x∧(∀ i,i<l→r (b.getD (lo+i) nv)≤r (b.getD (lo+k) nv))∧∀ i,u≤i→i<k→r (b.getD (lo+k) nv)<r (b.getD (lo+i) nv))
   (Q:=fun c st'=>st'=SortSt.mk' κ b pd g none∧∃ l u,c=(none,l,u)∧l≤k∧(∀ i,i<l→r (b.getD (lo+i) nv)≤r (b.getD (lo+k) nv))∧∀ i,l≤i→i<k→r (b.getD (lo+k) nv)<r (b.getD (lo+i) nv)) ?_ ?_
   ⟨rfl,0,k,rfl,by omega,by omega,by omega,fun i hi=>by omega,fun i a b=>by omega⟩) ?_)
  ·rintro x c st' _ hx ⟨rfl,l,u,rfl,q1,q2,q3,q4,q5⟩
   dsimp only
   refine qM (fun e=>wpS_pure ⟨rfl,l,u,rfl,by omega,q4,fun i a b=>q5 i (by omega) b⟩) fun e=>?_
   refine wpS_bind (kH C (uc cr) (by omega) (by omega) ?_)
   dsimp only
   refine qM (fun z=>?_) fun z=>?_
   ·have z:r (b.getD (lo+k) nv)<r (b.getD (lo+(l+u)/2) nv):=by simpa using z
    exact wpS_pure ⟨rfl,_,_,rfl,by omega,by omega,by omega,q4,fun i a c=>Int.lt_of_lt_of_le z (sg _ _ (by omega) (by omega) (by omega))⟩
   ·have z:¬ r (b.getD (lo+k) nv)<r (b.getD (lo+(l+u)/2) nv):=by simpa using z
    exact wpS_pure ⟨rfl,_,_,rfl,by omega,by omega,by omega,fun i a=>Int.le_trans (sg _ _ (by omega) (by omega) (by omega)) (Int.not_lt.mp z),q5⟩
  ·rintro c st' ⟨rfl,l,u,rfl,q1,q2,q3,q4,q5⟩
   exact⟨rfl,l,u,rfl,by omega,q4,fun i a b=>q5 i (by omega) b⟩
  ·rintro c st' ⟨rfl,l,u,rfl,q1,q4,q5⟩
   dsimp only
   refine wpS_bind (wpS_modify (wpS_pure ⟨rfl,_,rfl,⟨(Array.perm_iff_toList_perm.mp (bubble_perm _ _ _)).trans cr.pm,fun j hj=>?_⟩,?_⟩))
   ·show (bubble b (lo+k) (lo+k-(lo+l))).getD j nv=_
    rw[lC (by omega) (by omega),if_neg (by omega),if_neg (by omega)]
    exact cr.out j hj
   ·rw[show min (k+1) (max ok (max n 1))=k+1 by omega]
    have e:∀ j,(bubble b (lo+k) (lo+k-(lo+l))).getD j nv=if j=lo+l then b.getD (lo+k) nv else if lo+l<j∧j≤lo+k then b.getD (j-1) nv else b.getD j nv:=fun j=>by
     rw[lC (by omega) (by omega),show lo+k-(lo+k-(lo+l))=lo+l by omega]
    intro i j a c d
    show r ((bubble b (lo+k) (lo+k-(lo+l))).getD i nv)≤r ((bubble b (lo+k) (lo+k-(lo+l))).getD j nv)
    rw[e,e]
    by_cases i1:i<lo+l
    ·rw[if_neg (by omega),if_neg (by omega)]
     have u1:=q4 (i-lo) (by omega)
     rw[show lo+(i-lo)=i by omega] at u1
     by_cases j1:j<lo+l
     ·rw[if_neg (by omega),if_neg (by omega)];exact sg i j a c (by omega)
     ·by_cases j2:j=lo+l
      ·rw[if_pos j2];exact u1
      ·rw[if_neg j2,if_pos (by omega)];exact sg _ _ a (by omega) (by omega)
    ·by_cases i2:i=lo+l
     ·rw[if_pos i2]
      by_cases j2:j=lo+l
      ·rw[if_pos j2];exact Int.le_refl _
      ·rw[if_neg j2,if_pos (by omega)]
       have:=q5 (j-1-lo) (by omega) (by omega)
       rw[show lo+(j-1-lo)=j-1 by omega] at this
       exact Int.le_of_lt this
     ·rw[if_neg i2,if_pos (by omega),if_neg (by omega),if_pos (by omega)]
      exact sg _ _ (by omega) (by omega) (by omega)
 ·rintro c st' ⟨rfl,b,rfl,cr,sg⟩
  refine⟨rfl,b,rfl,cr,?_⟩
  intro i j a c d
  exact sg i j a c (by omega)
 ·rw[show min (max ok 1) (max ok (max n 1))=max ok 1 by omega];exact sg1
 ·rintro c st' ⟨rfl,b,rfl,cr,sg⟩
  exact wpS_pure (h b cr sg)
end
end _S
end
section
namespace _S
open PySem PySem.W PyProof.Rows
def Rn (r:Keyed→Int)(a:Array Keyed):List (Nat × Nat × Nat)→Nat→Nat→Prop
 |[],x,y=>x=y
 |(s,n,_)::t,x,y=>s=x∧0<n∧Seg r a s n∧Rn r a t (x+n) y
section
variable {r:Keyed→Int}{a b:Array Keyed}
theorem Rn.app:∀ {L1 L2:List (Nat × Nat × Nat)} {x y:Nat},Rn r a (L1++L2) x y↔∃ m,Rn r a L1 x m∧Rn r a L2 m y
 |[],L2,x,y=>⟨fun h=>⟨x,rfl,h⟩,fun ⟨m,h1,h2⟩=>by cases h1;exact h2⟩
 |(s,n,p)::t,L2,x,y=>by
  show s=x∧0<n∧Seg r a s n∧Rn r a (t++L2) (x+n) y↔∃ m,(s=x∧0<n∧Seg r a s n∧Rn r a t (x+n) m)∧Rn r a L2 m y
  rw[Rn.app]
  exact⟨fun ⟨h1,h2,h3,m,h4,h5⟩=>⟨m,⟨h1,h2,h3,h4⟩,h5⟩,fun ⟨m,⟨h1,h2,h3,h4⟩,h5⟩=>⟨h1,h2,h3,m,h4,h5⟩⟩
theorem Rn.le:∀ {L:List (Nat × Nat × Nat)} {x y:Nat},Rn r a L x y→x+L.length≤y
 |[],x,y,h=>by cases h;simp
 |(s,n,p)::t,x,y,h=>by have:=Rn.le h.2.2.2;have:=h.2.1;simp only[List.length_cons];omega
theorem Rn.congr:∀ {L:List (Nat × Nat × Nat)} {x y:Nat},Rn r a L x y→(∀ k,x≤k→k<y→b.getD k nv=a.getD k nv)→Rn r b L x y
 |[],x,y,h,_=>h
 |(s,n,p)::t,x,y,h,e=>by
  obtain⟨rfl,h2,h3,h4⟩:=h
  have l:=Rn.le h4
  refine⟨rfl,h2,fun i j a c d=>?_,Rn.congr h4 fun k h1 h2=>e k (by omega) h2⟩
  rw[e i (by omega) (by omega),e j (by omega) (by omega)]
  exact h3 i j a c d
theorem Rn.mod {f:Nat × Nat × Nat→Nat × Nat × Nat}(hf:∀ u v p,∃ p',f (u,v,p)=(u,v,p')):∀ {L:List (Nat × Nat × Nat)} {i x y:Nat},Rn r a L x y→Rn r a (L.modify i f) x y
 |[],i,x,y,h=>by simpa using h
 |(s,n,p)::t,0,x,y,h=>by
  obtain⟨p',e⟩:=hf s n p
  rw[List.modify_zero_cons,e]
  exact h
 |(s,n,p)::t,i+1,x,y,h=>by
  rw[List.modify_succ_cons]
  exact⟨h.1,h.2.1,h.2.2.1,Rn.mod hf h.2.2.2⟩
end
theorem TK {α : Type}{l:List α}{i:Nat}(h:i+1<l.length):∃ L1 x y L2,l=L1++x::y::L2∧L1.length=i:=by
 refine⟨l.take i,l[i],l[i+1],l.drop (i+2),?_,by rw[List.length_take];omega⟩
 rw[← List.drop_eq_getElem_cons h,← List.drop_eq_getElem_cons (by omega),List.take_append_drop]
section
variable {prog:Program}{w:World}{A:Around}{E:Value→Shared→Prop}{s:Shared}{κ : SortKind}{U:Keyed→Prop}{r:Keyed→Int}
theorem fN (C:Cm (model prog w) A s κ U r){i e:Nat}{Q:Bool→SortSt→Prop}{arr:Array Keyed}{pd:Array (Nat × Nat × Nat)}{g:Nat}(ua:∀ x∈arr.toList,U x)(hi:i+1<pd.size)(R:Rn r arr pd.toList 0 e)(he:e≤arr.size)
  (h:∀ b pd' g,b.toList.Perm arr.toList→(∀ k,e≤k→b.getD k nv=arr.getD k nv)→Rn r b pd'.toList 0 e→pd'.size+1=pd.size→Q true (SortSt.mk' κ b pd' g none)):wpS (model prog w) A E s (mergeAt' i) Q (SortSt.mk' κ arr pd g none):=by
 obtain⟨L1,⟨sa,na,pa⟩,⟨sb,nb,pb⟩,L2,el,hl⟩:=TK (l:=pd.toList) (i:=i) (by simpa using hi)
 rw[el] at R
 obtain⟨m,R1,rfl,p1,s1,rfl,p2,s2,R2⟩:=Rn.app.mp R
 have l2:=Rn.le R2
 have e1:pd[i]? = some (sa,na,pa):=by
  rw[← Array.getElem?_toList,el,← hl,List.getElem?_append_right (Nat.le_refl _),Nat.sub_self];rfl
 have e2:pd[i+1]? = some (sa+na,nb,pb):=by
  rw[← Array.getElem?_toList,el,← hl,List.getElem?_append_right (by omega),Nat.add_sub_cancel_left];rfl
 refine sW C ua e1 e2 p1 p2 (by omega) s1 s2 fun b g pm out sg=>?_
 have ep:((pd.setIfInBounds i (sa,na+nb,pa)).eraseIdxIfInBounds (i+1)).toList=L1++(sa,na+nb,pa)::L2:=by
  rw[Array.toList_eraseIdxIfInBounds,Array.toList_setIfInBounds,el,← hl,List.set_append_right _ _ (Nat.le_refl _),Nat.sub_self,List.set_cons_zero,List.eraseIdx_append_of_length_le (by omega),Nat.add_sub_cancel_left]
  rfl
 refine h b _ g pm (fun k hk=>out k (by omega)) ?_ ?_
 ·rw[ep]
  refine Rn.app.mpr ⟨sa,R1.congr fun k _ hk=>out k (by omega),rfl,by omega,sg,?_⟩
  rw[← Nat.add_assoc]
  exact R2.congr fun k hk _=>out k (by omega)
 ·have:=congrArg List.length ep
  have q:=congrArg List.length el
  simp only[Array.length_toList,List.length_append,List.length_cons] at this q
  omega
theorem nJ (C:Cm (model prog w) A s κ U r){Q:Unit→SortSt→Prop}{arr:Array Keyed}{g:Nat}(ua:∀ x∈arr.toList,U x)(h2:0<arr.size)
  (h:∀ b pd g,b.toList.Perm arr.toList→b.toList.Pairwise (Le r)→Q () (SortSt.mk' κ b pd g none)):wpS (model prog w) A E s sortRuns' Q (SortSt.mk' κ arr #[] g none):=by
 have uc:∀ {b:Array Keyed},b.toList.Perm arr.toList→∀ x∈b.toList,U x:=fun h x hx=>ua x (h.mem_iff.mp hx)
 have zc:∀ {b:Array Keyed},b.toList.Perm arr.toList→b.size=arr.size:=fun h=>by simpa using h.length_eq
 refine wpS_bind (wpS_get ?_)
 dsimp only
 refine wpS_bind (wpS_mono (wpS_forRange (I:=fun x c st'=>∃ b pd g lo,st'=SortSt.mk' κ b pd g none∧c=(none,lo)∧b.toList.Perm arr.toList∧lo≤arr.size∧min x arr.size≤lo∧Rn r b pd.toList 0 lo)
  (Q:=fun c st'=>∃ b pd g,st'=SortSt.mk' κ b pd g none∧c=(none,arr.size)∧b.toList.Perm arr.toList∧Rn r b pd.toList 0 arr.size) ?_ ?_ ⟨arr,#[],g,0,rfl,rfl,List.Perm.refl _,by omega,by omega,rfl⟩) ?_)
 ·rintro x c st' _ hx ⟨b,pd,g,lo,rfl,rfl,pm,lo1,lo2,R⟩
  have zb:=zc pm
  dsimp only
  refine qM (fun e=>wpS_pure ⟨b,pd,g,rfl,by rw[show lo=arr.size by omega],pm,by rw[show arr.size=lo by omega];exact R⟩) fun e=>?_
  refine wpS_bind (nI C (uc pm) (by omega) (by omega) fun n b2 n1 n2 cr sg=>?_)
  have R2:Rn r b2 pd.toList 0 lo:=R.congr fun k _ hk=>cr.out k (.inl hk)
  have pm2:=cr.pm.trans pm
  have z2:=zc pm2
  dsimp only
  apply qM
  case' h1 =>
   intro lt
   refine wpS_bind (wpS_lift (wpAny_rule ⟨rfl,?_⟩))
   refine wpS_bind (sQ C (uc pm2) (by omega) (by omega) sg fun b3 cr3 sg3=>?_)
   have R3:Rn r b3 pd.toList 0 lo:=R2.congr fun k _ hk=>cr3.out k (.inl hk)
   have pm3:=cr3.pm.trans pm2
   refine qM (fun e=>by simp at e) fun _=>?_
   have n3:lo+min (arr.size-lo) ((sortPriv% PySem.Builtin.minRun) arr.size arr.size 0)≤arr.size:=by omega
   have n4:0<min (arr.size-lo) ((sortPriv% PySem.Builtin.minRun) arr.size arr.size 0):=by omega
  case' h2 =>
   intro lt
   have R3:=R2
   have pm3:=pm2
   have sg3:=sg
   have n3:lo+n≤arr.size:=by omega
   have n4:0<n:=n1
  all_goals
   refine wpS_bind (wpS_get ?_)
   dsimp only
   rcases hb:pd.back? with _|⟨s1,l1,p1⟩
   ·dsimp only
    refine wpS_bind (wpS_modify (wpS_pure ⟨_,_,_,_,rfl,rfl,pm3,n3,by omega,?_⟩))
    show Rn r _ (pd.push _).toList 0 _
    rw[Array.toList_push]
    exact Rn.app.mpr ⟨lo,R3,rfl,n4,sg3,rfl⟩
   ·dsimp only
    refine wpS_bind (wpS_mono (wpS_forRange (I:=fun _ c st'=>c=(none,())∧∃ b pd g,st'=SortSt.mk' κ b pd g none∧b.toList.Perm arr.toList∧Rn r b pd.toList 0 lo∧Seg r b lo _)
     (Q:=fun c st'=>c=(none,())∧∃ b pd g,st'=SortSt.mk' κ b pd g none∧b.toList.Perm arr.toList∧Rn r b pd.toList 0 lo∧Seg r b lo _) ?_ (fun _ _ z=>z) ⟨rfl,_,pd,g,rfl,pm3,R3,sg3⟩) ?_)
    ·rintro y c st' _ hy ⟨rfl,b,pd,g,rfl,pm,R,sg⟩
     have zb:=zc pm
     refine wpS_bind (wpS_get ?_)
     dsimp only
     by_cases hp:pd.size>1
     ·rw[if_pos hp]
      rcases hq:pd[pd.size-2]? with _|⟨u,v,old⟩
      ·exact wpS_pure ⟨rfl,b,pd,g,rfl,pm,R,sg⟩
      ·dsimp only
       refine qM (fun _=>wpS_pure ⟨rfl,b,pd,g,rfl,pm,R,sg⟩) fun _=>?_
       refine wpS_bind (fN C (uc pm) (by omega) R (by omega) fun b' pd' g' p' out R' _=>?_)
       refine qM (fun e=>by simp at e) fun _=>wpS_pure ⟨rfl,b',pd',g',rfl,p'.trans pm,R',fun i j a c d=>?_⟩
       rw[out i a,out j (by omega)]
       exact sg i j a c d
     ·rw[if_neg hp]
      exact wpS_pure ⟨rfl,b,pd,g,rfl,pm,R,sg⟩
    ·rintro c st' ⟨rfl,b,pd,g,rfl,pm,R,sg⟩
     dsimp only
     refine wpS_bind (wpS_modify (wpS_bind (wpS_modify (wpS_pure ⟨_,_,_,_,rfl,rfl,pm,n3,by omega,?_⟩))))
     show Rn r b ((pd.modify (pd.size-1) _).push _).toList 0 _
     rw[Array.toList_push,Array.toList_modify]
     exact Rn.app.mpr ⟨lo,Rn.mod (fun _ _ _=>⟨_,rfl⟩) R,rfl,n4,sg,rfl⟩
 ·rintro c st' ⟨b,pd,g,lo,rfl,rfl,pm,lo1,lo2,R⟩
  have:lo=arr.size:=by omega
  subst this
  exact⟨b,pd,g,rfl,rfl,pm,R⟩
 ·rintro c st' ⟨b,pd,g,rfl,rfl,pm,R⟩
  dsimp only
  have hl:=R.le
  rw[Array.length_toList] at hl
  refine wpS_bind (wpS_mono (wpS_forRange (I:=fun x c st'=>c=(none,())∧∃ b pd g,st'=SortSt.mk' κ b pd g none∧b.toList.Perm arr.toList∧Rn r b pd.toList 0 arr.size∧(pd.size≤1∨pd.size+x≤arr.size))
   (Q:=fun c st'=>c=(none,())∧∃ b pd g,st'=SortSt.mk' κ b pd g none∧b.toList.Perm arr.toList∧Rn r b pd.toList 0 arr.size∧pd.size≤1) ?_ ?_ ⟨rfl,b,pd,g,rfl,pm,R,by omega⟩) ?_)
  ·rintro x c st' _ hx ⟨rfl,b,pd,g,rfl,pm,R,hs⟩
   have zb:=zc pm
   refine wpS_bind (wpS_get ?_)
   dsimp only
   refine qM (fun e=>wpS_pure ⟨rfl,b,pd,g,rfl,pm,R,e⟩) fun e=>?_
   refine wpS_bind (fN C (uc pm) ?_ R (by omega) fun b' pd' g' p' out R' z'=>?_)
   ·have e:¬ pd.size≤1:=e
    have q:∀ (c:Prop) [Decidable c],(if c then pd.size-2-1 else pd.size-2)+1<pd.size:=fun c _=>by split <;> omega
    exact q _
   exact qM (fun e=>by simp at e) fun _=>wpS_pure ⟨rfl,b',pd',g',rfl,p'.trans pm,R',by omega⟩
  ·rintro c st' ⟨rfl,b,pd,g,rfl,pm,R,hs⟩
   exact⟨rfl,b,pd,g,rfl,pm,R,by omega⟩
  ·rintro c st' ⟨rfl,b,pd,g,rfl,pm,R,hs⟩
   have zb:=zc pm
   refine wpS_pure (h b pd g pm ?_)
   have hs:pd.toList.length≤1:=by simpa using hs
   revert R hs
   cases pd.toList with
   |nil=>intro R;have:0=arr.size:=R;omega
   |cons q t =>
    obtain⟨s0,n0,p0⟩:=q
    intro R hs
    have:t=[]:=by cases t with|nil=>rfl|cons _ _=>simp at hs
    subst this
    obtain⟨rfl,_,sg,e⟩:=R
    have e:n0=arr.size:=by have:0+n0=arr.size:=e;omega
    subst e
    rw[List.pairwise_iff_getElem]
    intro i j hi hj l
    have hi':i<b.size:=by simpa using hi
    have hj':j<b.size:=by simpa using hj
    have:=sg i j (by omega) (by omega) (by omega)
    simpa [Array.getD,hi',hj',Le] using this
end
end _S
end
section
namespace _S
open PySem PySem.W PyProof.Rows
structure Cmps (prog:Program)(w:World)(h0:Heap)(vs:List Value)(f:Nat→Nat→Bool):Prop where
 ex:∃ κ,∀ (A:Around),A.units+8<cLine→∀ (s:Shared),Sup h0 s.heap→(∀ (Q:SortKind→Shared→Prop) (E:Value→Shared→Prop),Q κ s→wpAny (model prog w) A (keyKind' vs.toArray) Q E s)∧∀ i j (C:Bool→Shared→Prop),i<vs.length→j<vs.length→C (f i j) s→kas_ask prog w A κ vs i j C s
open Classical in
noncomputable def kV {K:Type}(is:K→Value→Prop)(d:K)(v:Value):K:=if h:∃ k,is k v then choose h else d
open Classical in
theorem fK {K:Type}{is:K→Value→Prop}{d:K}{v:Value}(h:∃ k,is k v):is (kV is d v) v:=by
 unfold kV
 rw[dif_pos h]
 exact choose_spec h
section
variable {prog:Program}{w:World}{A:Around}{E:Value→Shared→Prop}{s:Shared}
theorem NV {K:Type}{is:K→Value→Prop}{lt':K→K→Bool}{d:K}(O:Ord lt')(inj:∀ {k k':K} {v:Value},is k v→is k' v→k=k'){a:Addr}{vs:List Value}{ks:List K}{n:Nat}{h0:Heap}{P:PySem.Fin→Shared→Prop}(hlen:vs.length=ks.length)(hks:∀ i v,vs[i]? = some v→is (ks.getD i d) v)(ho:s.heap.get? a=some (seqObj "list" vs.toArray n))(hu:A.units+8<cLine)(hz:vs.length≤100000)(c:2≤vs.length→Cmps prog w h0 vs (l9 lt' ks d))(hS:Sup h0 s.heap)(ha:h0.get? a=none)
  (h:∀ ps:List (K × Value),ps.Perm (ks.zip vs)→Nf lt' (ps.map (·.1))→P (.done (.ret .none)) { s with heap:=sortedHeap s.heap a vs (ps.map (·.2)).toArray }) : wpAny (model prog w) A (Builtin.«list.sort» ⟨[.ref a],[]⟩) P E s:=by
 rw[list_sort_plain]
 have hb:a<s.heap.objs.size:=Heap.lt_size ho
 have hsz:vs.toArray.size=vs.length:=by simp
 refine wpAny_bind (listItems_at ho rfl (wpAny_bind (listUpdate_at ho rfl ?_ (by rw[hsz,sizeLine_eq];omega) (Nat.zero_le _))))
 obtain⟨e1,ho1⟩:∃ e1,(s.heap.update a (Obj.mapSeq fun _=>#[])).get? a=some (seqObj "list" #[] e1):=⟨_,get?_update_seq ho (fun _=>#[])⟩
 refine wpAny_bind (seqEpoch_at ho1 rfl (wpAny_bind (wpAny_newTuple (wpAny_bind (wpAny_newList (wpAny_holding ?_) (Nat.zero_le _))) (by show vs.length≤_;rw[sizeLine_eq];omega))))
 have ho6:(((s.heap.update a (Obj.mapSeq fun _=>#[])).push (seqObj "tuple" vs.toArray 0)).push (seqObj "list" #[] 0)).get? a=some (seqObj "list" #[] e1):=
  Heap.get?_push_of_some _ (Heap.get?_push_of_some _ ho1)
 have S6:Sup h0 (((s.heap.update a (Obj.mapSeq fun _=>#[])).push (seqObj "tuple" vs.toArray 0)).push (seqObj "list" #[] 0)):=fun b o e =>
  Heap.get?_push_of_some _ (Heap.get?_push_of_some _ ((Heap.get?_update_other _ _ (fun z:a=b=>by rw[← z,ha] at e;cases e)).trans (hS b o e)))
 show wpAny (model prog w) A _ P E { s with heap:=((s.heap.update a (Obj.mapSeq fun _=>#[])).push (seqObj "tuple" vs.toArray 0)).push (seqObj "list" #[] 0) }
 dsimp only
 have fin:∀ (st':SortSt) (ps:List (K × Value)),(arrOf st').map (·.2)=(ps.map (·.2)).toArray→failedOf st'=none→ps.Perm (ks.zip vs)→Nf lt' (ps.map (·.1))→wpAny (model prog w) A (do
   let touched:=(← seqEpoch a) != e1
   Builtin.List.listUpdate (.ref a) fun _=>(arrOf st').map (·.2)
   if let some e:=failedOf st' then rule "list.sort.comparison-raised";throw e
   if touched then rule "list.sort.modified";raiseError "ValueError" "list modified during sort"
   ret .none) P E { s with heap:=((s.heap.update a (Obj.mapSeq fun _=>#[])).push (seqObj "tuple" vs.toArray 0)).push (seqObj "list" #[] 0) }:=by
  intro st' ps h1 h2 h3 h4
  have hl:(ps.map (·.2)).length=vs.length:=by rw[List.length_map,h3.length_eq,List.length_zip,hlen,Nat.min_self]
  refine wpAny_bind (seqEpoch_at ho6 rfl ?_)
  rw[h1]
  refine wpAny_bind (listUpdate_at ho6 rfl ?_ (Nat.zero_le _) (by show (ps.map (·.2)).toArray.size≤_;rw[List.size_toArray,hl,sizeLine_eq];omega))
  rw[h2]
  simp only[bne_self_eq_false,Bool.false_eq_true,if_false]
  exact wpAny_pure (h ps h3 h4)
 by_cases h2:vs.toArray.size<2
 ·rw[if_pos h2,if_pos h2]
  refine wpAny_bind (wpAny_pure ?_)
  rw[StateT.run_pure]
  refine wpAny_bind (wpAny_pure ?_)
  refine fin (SortSt.mk' general' (vs.toArray.zip vs.toArray) #[] 7 none) (ks.zip vs) ?_ rfl (List.Perm.refl _) ?_
  ·show (vs.toArray.zip vs.toArray).map (·.2)=_
   apply Array.toList_inj.mp
   simp[List.map_snd_zip,hlen]
  ·rw[List.map_fst_zip (by omega)]
   match ks,hlen with
   |[],_=>exact List.Pairwise.nil
   |[_],_=>exact List.pairwise_singleton _ _
   |_::_::_,e=>simp at e h2;omega
 ·rw[if_neg h2,if_neg h2]
  have h2':2≤vs.length:=by omega
  obtain⟨κ,C⟩:=c h2'
  obtain⟨k1,k2⟩:=C A hu { s with heap:=((s.heap.update a (Obj.mapSeq fun _=>#[])).push (seqObj "tuple" vs.toArray 0)).push (seqObj "list" #[] 0) } S6
  have kv:∀ i,i<vs.length→kV is d (vs.getD i Value.none)=ks.getD i d:=fun i hi=>by
   have q:=hks i (vs.getD i Value.none) (by rw[List.getD_eq_getElem?_getD,List.getElem?_eq_getElem hi];rfl)
   exact inj (fK ⟨_,q⟩) q
  have km:∀ i,i<vs.length→ks.getD i d∈ks:=fun i hi=>by
   have:i<ks.length:=by omega
   simp[List.getD,this]
  have cm:Cm (model prog w) A { s with heap:=((s.heap.update a (Obj.mapSeq fun _=>#[])).push (seqObj "tuple" vs.toArray 0)).push (seqObj "list" #[] 0) } κ (fun x=>∃ i,i<vs.length∧x=(vs.getD i Value.none,vs.getD i Value.none)) (fun x=>gH lt' ks (kV is d x.1)):=by
   refine⟨?_⟩
   rintro x y ⟨i,hi,rfl⟩ ⟨j,hj,rfl⟩ E Q st hk q
   rw[lt'_eq]
   refine wpS_bind (wpS_get ?_)
   rw[hk]
   rw[kv i hi,kv j hj,← dX O (km i hi)] at q
   refine wpS_bind (wpS_lift (wpAny_attempt (wpAny_mono (k2 i j (fun b s'=>s'=_∧b=l9 lt' ks d i j) hi hj ⟨rfl,rfl⟩) ?_ fun _ _ e=>e.elim)))
   rintro b s' ⟨rfl,rfl⟩
   exact⟨rfl,wpS_pure q⟩
  have pl:(vs.toArray.zip vs.toArray).toList=(List.range vs.length).map fun i=>(vs.getD i Value.none,vs.getD i Value.none):=by
   apply List.ext_getElem
   ·simp
   ·intro i h1 h2
    have:i<vs.length:=by simpa using h2
    simp[this]
  refine wpAny_bind (k1 _ _ ?_)
  refine wpAny_bind (wpAny_mono (nJ (E:=E) (Q:=fun _ st'=>∃ b pd g,st'=SortSt.mk' κ b pd g none∧b.toList.Perm (vs.toArray.zip vs.toArray).toList∧b.toList.Pairwise (Le fun x=>gH lt' ks (kV is d x.1))) cm (arr:=vs.toArray.zip vs.toArray) (g:=7) ?_ ?_ fun b pd g p q=>⟨b,pd,g,rfl,p,q⟩) ?_ fun _ _ e=>e)
  ·intro x hx
   rw[pl] at hx
   obtain⟨i,hi,rfl⟩:=List.mem_map.mp hx
   exact⟨i,List.mem_range.mp hi,rfl⟩
  ·simp;omega
  ·rintro⟨⟨⟩,st'⟩ s' ⟨rfl,b,pd,g,rfl,pm,up⟩
   refine fin _ (b.toList.map fun x=>(kV is d x.1,x.2)) ?_ rfl ?_ ?_
   ·show b.map (·.2)=_
    apply Array.toList_inj.mp
    simp
   ·refine(pm.map _).trans ?_
    rw[pl,List.map_map]
    have:ks.zip vs=(List.range vs.length).map fun i=>(ks.getD i d,vs.getD i Value.none):=by
     apply List.ext_getElem
     ·simp[hlen]
     ·intro i h1 h2
      have h3:i<vs.length:=by simpa using h2
      have h4:i<ks.length:=by omega
      simp[h3,h4]
    rw[this]
    refine List.Perm.of_eq (List.map_congr_left fun i hi=>?_)
    show (kV is d (vs.getD i Value.none),_)=_
    rw[kv i (List.mem_range.mp hi)]
   ·unfold Nf
    rw[List.map_map,List.pairwise_map]
    refine up.imp_of_mem fun {x y} hx hy h=>?_
    have hx:=pm.mem_iff.mp hx
    have hy:=pm.mem_iff.mp hy
    rw[pl] at hx hy
    obtain⟨i,hi,rfl⟩:=List.mem_map.mp hx
    obtain⟨j,hj,rfl⟩:=List.mem_map.mp hy
    have h:gH lt' ks (kV is d (vs.getD i Value.none))≤gH lt' ks (kV is d (vs.getD j Value.none)):=h
    show lt' (kV is d (vs.getD j Value.none)) (kV is d (vs.getD i Value.none))=false
    have hj:=List.mem_range.mp hj
    rw[dX O (ks:=ks) (by rw[kv j hj];exact km j hj)]
    exact decide_eq_false (by omega)
end
end _S
end
section
namespace _S
open PySem PySem.W PyProof.Rows
section
variable {K:Type}{lt':K→K→Bool}
theorem N2 {α : Type}{ks:List K}{vs:List α}{d:K}(hl:vs.length=ks.length){p:K × α}(h:p∈ks.zip vs):∃ i,vs[i]? = some p.2∧ks.getD i d=p.1:=by
 obtain⟨i,hi,e⟩:=List.mem_iff_getElem.mp h
 have h1:i<ks.length:=by rw[List.length_zip] at hi;omega
 have h2:i<vs.length:=by omega
 rw[List.getElem_zip] at e
 subst e
 exact⟨i,List.getElem?_eq_getElem h2,by simp[h1]⟩
end
structure Kind (prog:Program)(w:World){K:Type}(is:K→Value→Prop)(hash:K→Int)(lt':K→K→Bool)(d:K)(Fit:K→Prop)(h0:Heap):Prop where
 ord:Ord lt'
 inj:∀ {k k':K} {v:Value},is k v→is k' v→k=k'
 cmps:∀ {vs:List Value} {ks:List K},vs.length=ks.length→(∀ i v,vs[i]? = some v→is (ks.getD i d) v)→(∀ k∈ks,Fit k)→2≤vs.length→Cmps prog w h0 vs (l9 lt' ks d)
end _S
end
section
namespace _D
open PySem PySem.Spec PyProof.Rows _L
def W9:D→Option (List D)
 |.lst xs=>some xs
 |.tup xs=>some xs
 |_=>none
section
variable {X:Cx}{e:Expr}{fa:DE}{p1 p2 pos1 pos2:Pos}
theorem MY {pins:List (Addr × Obj)}{σ : _L.St}{H P:Hp}{α : List Addr}{S:Sto}{s:Shared}{d:D}{xs:List D}{v:V}{vv:Value}(I:Inv X pins σ H s)(r:Rel X.K H P α S)(p:Rep X.K P α d v)(q:qK v vv)(h:W9 d=some xs) :
  ∃ a vs its,vv=.ref a∧qE X.K P α xs vs∧qN vs its∧(s.heap.IsList a its.toArray∨s.heap.IsTuple a its.toArray)∧xs.length=its.length:=by
 cases d with
 |lst ys =>
  cases h
  obtain⟨a,vs,its,n,rfl,_,t,rv,e,l,_⟩:=k8 I r p
  exact⟨a,vs,its,q,t,rv,.inl ⟨_,e,rfl,n,rfl⟩,l⟩
 |tup ys =>
  cases h
  obtain⟨a,vs,its,rfl,_,t,rv,⟨o,e,hc,n,hd⟩,l,_⟩:=kG I r p
  exact⟨a,vs,its,q,t,rv,.inr ⟨o,e,hc,n,hd⟩,l⟩
 |_=>cases h
end
end _D
end
section
namespace _S
open PySem PySem.W PyProof.Rows
section
variable {prog:Program}{w:World}{A:Around}{E:Value→Shared→Prop}{s:Shared}{K:Type}{is:K→Value→Prop}{hash:K→Int}{lt':K→K→Bool}{d:K}{Fit:K→Prop}{h0:Heap}
theorem cY {Q:Value→Shared→Prop}(kd:Kind prog w is hash lt' d Fit h0)(hu:A.units+16<cLine)(hS:Sup h0 s.heap){l:Addr}{vs:List Value}(hl:s.heap.IsList l vs.toArray∨s.heap.IsTuple l vs.toArray)(ks:List K)(hlen:vs.length=ks.length)(hks:∀ i v,vs[i]? = some v→is (ks.getD i d) v)(hf:∀ k∈ks,Fit k)(hoel:vs.length≤100000)
  (h:∀ (h1 h':Heap) (tk:Nat) (D:Addr) (c:Nat) (ps:List (K × Value)),(∀ b o,s.heap.get? b=some o→h1.get? b=some o)→(∀ b o,h1.get? b=some o→h'.get? b=some o)→h1.objs.size≤D→h'.get? D=some (seqObj "list" (ps.map (·.2)).toArray c)→ps.map (·.1)=bW lt' ks→(∀ p∈ps,is p.1 p.2∧p.2∈vs)→ps.length=ks.length→Q (.ref D) { s with heap:=h',toks:=tk }) :
  wpAny (model prog w) A (call (.builtin "sorted") [.ref l]) Q E s:=by
 refine Calls.call_function_entry kind_sorted plain_sorted entry_sorted (args_sorted1 _) ?_
 unfold Builtin.«sorted»
 refine wpAny_bind (m:=checkCount "sorted" 1 1 _) (wpAny_pure ?_)
 have hcol:∀ {R:List Value→Shared→Prop},(∀ h1:Heap,(∀ b o,s.heap.get? b=some o→h1.get? b=some o)→R vs { s with heap:=h1 }) → wpAny (model prog w) A.in1 (collect (.ref l)) R E s:=fun {R} hR=>by
  have e:vs.toArray.toList=vs:=by simp
  rcases hl with⟨o,ho,hc,n,hd⟩|⟨o,ho,hc,n,hd⟩
  ·exact wpAny_collect_seq l (.inl rfl) ho hc hd (fun h' hk=>by rw[e];exact hR h' hk) (by rw[List.size_toArray,sizeLine_eq];omega)
  ·exact wpAny_collect_seq l (.inr rfl) ho hc hd (fun h' hk=>by rw[e];exact hR h' hk) (by rw[List.size_toArray,sizeLine_eq];omega)
 refine wpAny_bind (hcol fun h1 kp1=>?_)
 refine wpAny_bind (wpAny_newList ?_ (by rw[sizeLine_eq];omega))
 have hD:(h1.push (seqObj "list" vs.toArray 0)).get? h1.objs.size=some (seqObj "list" vs.toArray 0):=Heap.get?_push_size _ rfl
 have n0:h0.get? h1.objs.size=none:=by
  cases q:h0.get? h1.objs.size with
  |none=>rfl
  |some o=>exact absurd (Heap.lt_size (kp1 _ _ (hS _ _ q))) (Nat.lt_irrefl _)
 show wpAny _ _ _ _ _ { s with heap:=h1.push (seqObj "list" vs.toArray 0),toks:=s.toks }
 refine wpAny_bind (wpAny_holding (wpAny_call_entry slot_list_sort ⟨_,hD,rfl⟩ entry_list_sort (NV (h0:=h0) (is:=is) kd.ord kd.inj (d:=d) (vs:=vs) hlen hks hD (by show A.units+2+8<cLine;omega) hoel (fun h2=>kd.cmps hlen hks hf h2) (fun b o e=>Heap.get?_push_of_some _ (kp1 b o (hS b o e))) n0 fun ps pm nf=>⟨_,rfl,?_⟩) (args_list_sort _)))
 refine wpAny_pure ⟨_,rfl,?_⟩
 have hz:(h1.push (seqObj "list" vs.toArray 0)).objs.size=h1.objs.size+1:=size_push' ..
 have old:∀ b o,b≠h1.objs.size→(h1.push (seqObj "list" vs.toArray 0)).get? b=some o→((((h1.push (seqObj "list" vs.toArray 0)).update h1.objs.size (Obj.mapSeq fun _=>#[])).push (seqObj "tuple" vs.toArray 0)).push (seqObj "list" #[] 0)).get? b=some o:=fun b o hb e =>
  Heap.get?_push_of_some _ (Heap.get?_push_of_some _ ((Heap.get?_update_other _ _ (Ne.symm hb)).trans e))
 obtain⟨e1,he1⟩:∃ e1,((h1.push (seqObj "list" vs.toArray 0)).update h1.objs.size (Obj.mapSeq fun _=>#[])).get? h1.objs.size=some (seqObj "list" #[] e1):=⟨_,get?_update_seq hD (fun _=>#[])⟩
 have he6:=get?_update_seq (Heap.get?_push_of_some (seqObj "list" #[] 0) (Heap.get?_push_of_some (seqObj "tuple" vs.toArray 0) he1)) (fun _=>(ps.map (·.2)).toArray)
 have pk:(ps.map (·.1)).Perm ks:=by
  have:=pm.map (·.1)
  rwa [List.map_fst_zip (by omega)] at this
 refine h h1 _ s.toks h1.objs.size _ ps kp1 (fun b o e=>?_) (Nat.le_refl _) he6 (pX kd.ord nf (tB kd.ord ks) (pk.trans (jI ks).symm)) (fun p hp=>?_) (by have:=pk.length_eq;rwa [List.length_map] at this)
 ·have hb:b≠h1.objs.size:=fun z=>by
   subst z
   exact absurd (Heap.lt_size e) (Nat.lt_irrefl _)
  exact(Heap.get?_update_other _ _ (Ne.symm hb)).trans (old b o hb (Heap.get?_push_of_some _ e))
 ·obtain⟨i,e1,e2⟩:=N2 (d:=d) hlen (pm.mem_iff.mp hp)
  exact⟨e2▸hks i _ e1,List.mem_of_getElem? e1⟩
end
end _S
end
section
namespace _D
open PySem PySem.Spec PyProof.Rows _L
section
variable {X:Cx}{pins:List (Addr × Obj)}{σ : _L.St}{H P:Hp}{α : List Addr}{S:Sto}{s:Shared}
inductive NewR (X:Cx)(pins:List (Addr × Obj))(σ : _L.St)(H P:Hp)(α : List Addr)(ys:List D)(u:Value)(s':Shared):Prop
 |mk (D:Addr) (vs:List V) (e:u=.ref D) (hn:H D=none) (I:Inv X pins σ (upd H D (.lst vs)) s') (rp:qE X.K P α ys vs):NewR X pins σ H P α ys u s'
theorem Q8 {K:Type}{is:K→Value→Prop}{hash:K→Int}{lt':K→K→Bool}{d:K}{Fit:K→Prop}(kd:_S.Kind X.prog X.w is hash lt' d Fit s.heap)(hu:X.A.units+64<cLine)(I:Inv X pins σ H s)(r:Rel X.K H P α S){a:Addr}{its:List Value}
  (ha:s.heap.IsList a its.toArray∨s.heap.IsTuple a its.toArray) (ks:List K) (hl:ks.length=its.length) (hk:∀ i v,its[i]? = some v→is (ks.getD i d) v) (hn:ks.length≤100000) (hf:∀ k∈ks,Fit k) (enc:K→D)
  (back:∀ k v,is k v→v∈its→∃ vv,qK vv v∧Rep X.K P α (enc k) vv) {E:Value→Shared→Prop} :
  wpAny (model X.prog X.w) X.A (call (.builtin "sorted") [.ref a]) (NewR X pins σ H P α ((_S.bW lt' ks).map enc)) E s:=by
 refine _S.cY kd (by omega) (fun _ _ e=>e) ha ks hl.symm hk hf (by omega) fun h1 h2 tk2 D c ps kp1 kp2 hD hob hps hp hpl=>?_
 have I1:Inv X pins σ H { s with heap:=h1,toks:=s.toks }:=I.kept kp1
 have vv:∀ (ps:List (K × Value)),(∀ p∈ps,is p.1 p.2∧p.2∈its)→∃ vs,qN vs (ps.map (·.2))∧qE X.K P α ((ps.map (·.1)).map enc) vs:=by
  intro ps
  induction ps with
  |nil=>exact fun _=>⟨[],.nil,.nil⟩
  |cons p ps ih =>
   intro h
   obtain⟨vs,a1,a2⟩:=ih fun q hq=>h q (by simp[hq])
   obtain⟨v,b1,b2⟩:=back p.1 p.2 (h p (by simp)).1 (h p (by simp)).2
   exact⟨v::vs,.cons b1 a1,.cons b2 a2⟩
 obtain⟨vs,a1,a2⟩:=vv ps hp
 rw[hps] at a2
 have nd:([(D,HO.lst vs)].map (·.1)).Nodup:=by simp
 have I2:Inv X pins σ (gM H [(D,HO.lst vs)]) { s with heap:=h2,toks:=tk2 }:=Inv.laidL (s:={ s with heap:=h1,toks:=s.toks }) (L:=[(D,HO.lst vs)]) (t':=tk2) I1 kp2 (fun p hpm=>by
  have:p=(D,HO.lst vs):=by simpa using hpm
  subst this;exact hD) fun p hpm=>by
  have:p=(D,HO.lst vs):=by simpa using hpm
  subst this
  refine⟨?_,ps.map (·.2),c,a1,hob⟩
  have:=a1.length
  rw[List.length_map] at this
  rw[this,sizeLine_eq]
  omega
 exact⟨D,vs,rfl,I1.hok.fresh hD,I2,a2⟩
end
end _D
end
section
namespace _L
open PySem PySem.Spec PyProof.Rows
def DZ (H:Hp):Prop:=∀ b,H b=none∨(∃ o xs,H b=some (.frz o (.lst xs)))∨H b=some (.tbl #[])
def Tb0 (K:PySem.W.Frag)(H:Hp):Prop:=∀ x∈wC,∀ c T,PySem.W.tabIn K x=some (c,T)→H T=some (.tbl #[])
structure Tabs (K:PySem.W.Frag)(h:Heap):Prop where
 at':∀ x∈wC,∀ c T,PySem.W.tabIn K x=some (c,T)→PySem.W.CodeHd h c T∧h.get? T=some (PySem.W.tabObj #[]) ∧ K.lookup T=none
 inj:∀ x∈wC,∀ y∈wC,∀ c d T,PySem.W.tabIn K x=some (c,T)→PySem.W.tabIn K y=some (d,T)→x=y
theorem XA {P:Program}{w:World}{K:PySem.W.Frag}{mg mb:Str→Option Value}{CX:CXT}{k:Nat}{fa a:Addr}{fd:FuncData}{x:Str}{sp:Sp}{s₁:Shared}{vs:List Value}{ns:List Int}
  (KX:K.In s₁.heap) (hns:s₁.heap.Ns mainGlobals mg) (hb:s₁.heap.Ns builtinsNs mb) (hbb:∀ x:Str,x ≠ "__name__" → mb x=bootBuiltins x) (hlim:s₁.heap.NoLimit) (hg:s₁.gens=#[]) (hbm:KM mg s₁.heap) (tbs:Tabs K s₁.heap)
  (ha:s₁.heap.get? a=some { cls:=.type "list",data:=.seq vs.toArray }) (hi:IntsAre vs ns) (hl:ns.length≤sizeLine) (hr:Room k callerA)
  (F:∀ base:Heap,K.In base→base.Ns mainGlobals mg→FnOk P w K mg base CX k fa fd [x] sp) (hbind:∀ (s:Shared) (u:Value),BindsTo s fd ⟨[u],[]⟩ [(x,u)])
  (hsp:∀ H:Hp,Tb0 K H→SqX K H a (ns.map V.int)→sp [.ref a] H (fun v _=>v=.bl true) fun _ _ _=>False)
  (hCX:∀ H e s',CX [] H s₁ (fun _ _ _=>False) e s'→False) :
  codeAny (model P w) callerA (.call (.ref fa) ⟨[.ref a],[]⟩) (fun r s'=>r=.ok (.ret (.bool true))∧OldK s₁.heap s'.heap∧s'.os=s₁.os∧AllBare s'.gens) s₁:=by
 have rv:=QC hi
 have lenV:=hi.length
 let isT:Addr→Prop:=fun b=>∃ x∈wC,∃ c,PySem.W.tabIn K x=some (c,b)
 have tab:∀ b,isT b→s₁.heap.get? b=some (PySem.W.tabObj #[]) ∧ K.lookup b=none:=fun b ⟨x,hx,c,h⟩=>(tbs.at' x hx c b h).2
 have core:∀ H:Hp,DZ H→Tb0 K H→SqX K H a (ns.map V.int)→HOk P w H s₁.heap→(∀ b,H b≠none→b=a∨isT b)→(H a≠none→K.lookup a=none) →
   codeAny (model P w) callerA (.call (.ref fa) ⟨[.ref a],[]⟩) (fun r s'=>r=.ok (.ret (.bool true))∧OldK s₁.heap s'.heap∧s'.os=s₁.os∧AllBare s'.gens) s₁:=by
  intro H hO hT hS hok hA hK
  have base_of:∀ {b:Addr} {o:Obj},s₁.heap.get? b=some o→H b=none→(kU s₁.heap H).get? b=some o:=fun e n=>ZY e n
  have noA:∀ {b:Addr} {o:Obj},s₁.heap.get? b=some o→o.cls≠.none→(o.cls≠.type "list" ∨ ∃ es ep,o.data=.dict es ep)→H b=none:=fun {b o} e c1 c2=>by
   cases q:H b with
   |none=>rfl
   |some u =>
    rcases hA b (by rw[q];simp) with e'|e'
    ·subst e'
     rw[ha] at e;cases e
     rcases c2 with z|⟨es,ep,d⟩
     ·exact absurd rfl z
     ·cases d
    ·rw[(tab b e').1] at e;cases e
     exact absurd rfl c1
  have noD:∀ {b:Addr} {o:Obj} {es:Array DictEntry} {ep:Nat},s₁.heap.get? b=some o→o.data=.dict es ep→H b=none:=fun {b o es ep} e d=>by
   cases q:H b with
   |none=>rfl
   |some u =>
    rcases hA b (by rw[q];simp) with e'|e'
    ·subst e'
     rw[ha] at e;cases e;cases d
    ·rw[(tab b e').1] at e;cases e;cases d
  have nsK:∀ {b:Addr} {m:Str→Option Value},s₁.heap.Ns b m→(kU s₁.heap H).Ns b m:=fun {b m} ⟨o,es,ep,e,d,r⟩=>⟨o,es,ep,base_of e (noD e d),d,r⟩
  have hKb:K.In (kU s₁.heap H):=fun b o e=>base_of (KX b o e) (by
   cases q:H b with
   |none=>rfl
   |some u =>
    rcases hA b (by rw[q];simp) with e'|e'
    ·subst e'
     rw[hK (by rw[q];simp)] at e;cases e
    ·rw[(tab b e').2] at e;cases e)
  have hM:Mod K mg (kU s₁.heap H):=by
   refine⟨hKb,nsK hns,⟨mb,nsK hb,hbb⟩,let ⟨mc,h1,h2⟩:=hlim;⟨mc,nsK h1,h2⟩,?_,fun x hx c T h=>?_,tbs.inj⟩
   ·obtain⟨bm,o,b1,b2,b3,b4,b5⟩:=hbm
    exact⟨bm,o,b1,b2,base_of b3 (noA b3 (by rw[b4];nofun) (.inl (by rw[b4];decide))),b4,b5⟩
   ·obtain⟨o,vs,file,tf,flags,tg,inF,text,tt,e1,e2,r⟩:=(tbs.at' x hx c T h).1
    exact⟨o,vs,file,tf,flags,tg,inF,text,tt,base_of e1 (noA e1 (by rw[e2];nofun) (.inl (by rw[e2];decide))),e2,r⟩
  have e0:Env0 P w K mg (kU s₁.heap H) callerA [] s₁ H:=⟨rfl,hM,fun b o e=>UO e,Nat.le_of_eq (iK _ _),trivial,fun b hb=>absurd (show b∈([]:List Addr) from hb) (by simp),hok,.of_eq hg⟩
  refine codeAny_mono ((F _ hKb (nsK hns)).run callerA [] s₁ H ⟨[.ref a],[]⟩ [.ref a] [.ref a] _ _ hr e0 (hbind s₁ (.ref a)) (.cons rfl .nil) (hsp H hT hS)) fun r s' h=>?_
  cases r with
  |error e=>exact(hCX H e s' h).elim
  |ok fl =>
   cases fl with
   |next=>exact False.elim h
   |brk=>exact False.elim h
   |cont=>exact False.elim h
   |ret u =>
    obtain⟨v,H',os,bare,un,hok',r',q⟩:=h
    have q':v=.bl true:=q
    subst q'
    obtain rfl:u=Value.bool true:=r'
    refine⟨rfl,⟨fun b o e=>?_,fun b o e=>un.there b o e (by simp)⟩,os,bare⟩
    cases q:H b with
    |none=>exact .inl (un.keep b o e q (by intro z;exact absurd (show b∈([]:List Addr) from z) (by simp)) (by simp))
    |some u =>
     rcases hO b with z|⟨ob,xs,z⟩|z
     ·rw[q] at z;cases z
     ·have z2:=un.frzs b ob _ z
      obtain⟨e1,_⟩:=hok b _ z
      obtain⟨e2,_⟩:=hok' b _ z2
      rw[e] at e1;cases e1
      exact .inl e2
     ·obtain⟨more,z2⟩:=un.tbls b _ z
      have e1:s₁.heap.get? b=some (PySem.W.tabObj #[]):=hok b _ z
      have e2:s'.heap.get? b=some (PySem.W.tabObj (#[] ++ more)):=hok' b _ z2
      rw[e] at e1;cases e1
      rcases hA b (by rw[q];simp) with e'|⟨x,hx,c,h⟩
      ·subst e';rw[ha] at e;cases e
      ·exact .inr (.inl ⟨((tbs.at' x hx c b h).1.tab e).isCodeTable,rfl,#[],more,rfl,e2⟩)
 have nT:¬ isT a:=fun h=>by
  have z:=(tab a h).1
  rw[ha] at z;cases z
 have tT:∀ x∈wC,∀ c T,PySem.W.tabIn K x=some (c,T)→isT T:=fun x hx c T h=>⟨x,hx,c,h⟩
 have dec:∀ b,Decidable (isT b):=fun b=>Classical.propDecidable _
 cases hk:K.lookup a with
 |some o =>
  have e:=KX a o hk
  rw[ha] at e
  cases e
  refine core (fun b=>if isT b then some (.tbl #[]) else none) (fun b=>?_) (fun x hx c T h=>if_pos (tT x hx c T h)) (.inr ⟨vs,_,hk,by rw[List.length_map];exact hl,rv⟩) (fun b u z=>?_) (fun b z=>?_) fun z=>absurd (if_neg nT) z
  ·by_cases h:isT b
   ·exact .inr (.inr (if_pos h))
   ·exact .inl (if_neg h)
  ·by_cases h:isT b
   ·have z':=(if_pos h).symm.trans z
    cases z'
    exact(tab b h).1
   ·have z':=(if_neg h).symm.trans z
    cases z'
  ·by_cases h:isT b
   ·exact .inr h
   ·exact absurd (if_neg h) z
 |none =>
  refine core (fun b=>if b=a then some (.frz { cls:=.type "list",data:=.seq vs.toArray } (.lst (ns.map V.int))) else if isT b then some (.tbl #[]) else none) (fun b=>?_) (fun x hx c T h=>?_) (.inl (.inr ⟨{ cls:=.type "list",data:=.seq vs.toArray },if_pos rfl⟩)) (fun b u z=>?_) (fun b z=>?_) fun _=>hk
  ·by_cases hb:b=a
   ·exact .inr (.inl ⟨_,_,if_pos hb⟩)
   ·by_cases h:isT b
    ·exact .inr (.inr ((if_neg hb).trans (if_pos h)))
    ·exact .inl ((if_neg hb).trans (if_neg h))
  ·have h':=tT x hx c T h
   exact(if_neg (fun (z:T=a)=>nT (z▸h'))).trans (if_pos h')
  ·by_cases hb:b=a
   ·have z':=(if_pos hb).symm.trans z
    cases z'
    subst hb
    exact⟨ha,by rw[List.length_map];exact hl,vs,_,rv,ha⟩
   ·by_cases h:isT b
    ·have z':=((if_neg hb).trans (if_pos h)).symm.trans z
     cases z'
     exact(tab b h).1
    ·have z':=((if_neg hb).trans (if_neg h)).symm.trans z
     cases z'
  ·by_cases hb:b=a
   ·exact .inl hb
   ·by_cases h:isT b
    ·exact .inr h
    ·exact absurd ((if_neg hb).trans (if_neg h)) z
def cC (q:Program)(K:PySem.W.Frag):Bool:=wC.all fun x=>match PySem.W.tabIn K x with
 |none=>true
 |some (_,T)=>((recsOf q).find? fun e=>e.name == x).isSome&&((K.lookup T).isNone&&wC.all fun y=>match PySem.W.tabIn K y with
  |none=>true
  |some (_,U)=>x == y||!decide (T=U))
theorem K4 {q:Program}{loose:List Str}{mean:ExcName→Option Value}{mg mb:Str→Option Value}{h:Heap}{K:PySem.W.Frag}(T:Top q loose mean mg mb h)(X:K.In h)(c:cC q K=true):Tabs K h:=by
 unfold cC at c
 have g:∀ x∈wC,∀ d U,PySem.W.tabIn K x=some (d,U)→((recsOf q).find? fun e=>e.name == x).isSome=true∧(K.lookup U).isNone=true∧(wC.all fun y=>match PySem.W.tabIn K y with
  |none=>true
  |some (_,V)=>x == y||!decide (U=V))=true:=fun x hx d U e=>by
  have z:=List.all_eq_true.mp c x hx
  rw[e] at z
  simpa only [Bool.and_eq_true] using z
 refine⟨fun x hx d U e=>?_,fun x hx y hy d d' U e1 e2=>?_⟩
 ·obtain⟨z1,z2,_⟩:=g x hx d U e
  obtain⟨r,hr⟩:=Option.isSome_iff_exists.mp z1
  obtain⟨k1,k2⟩:=PySem.W.tab_of T X hr e
  exact⟨k1,k2,by simpa using z2⟩
 ·have z:=List.all_eq_true.mp (g x hx d U e1).2.2 y hy
  rw[e2] at z
  simpa using z
theorem K9 {l:PySem.W.OpenLaw}{n k:Nat}{q:Program}{loose:List Str}{XP:(Str→Option Value)→Heap→Prop}{YP:World→Heap→Prop}{d:DefRec}{K:Params→PySem.W.Frag}{CX:World→CXT}{sp:World→Sp}{x:Str}
  (hn:l.most=some n) (hn2:n≤sizeLine) (hdf:d.params.defaults=[]) (hr:Room k callerA) (ht:∀ p,cC q (K p)=true)
  (hY:∀ (w:World) (h:Heap),YP w h→(K w.params).In h)
  (F:∀ (w:World) (mg:Str→Option Value) (fa:Addr) (h:Heap),(K w.params).In h→h.Ns mainGlobals mg→mg d.name=some (.ref fa) →
   ∃ fd:FuncData,(∀ (s:Shared) (u:Value),BindsTo s fd ⟨[u],[]⟩ [(x,u)]) ∧
    ∀ base:Heap,(K w.params).In base→base.Ns mainGlobals mg→FnOk l.prog w (K w.params) mg base (CX w) k fa fd [x] (sp w))
  (hsp:∀ (w:World) (H:Hp) (a:Addr) (ns:List Int),ns.length≤n→Tb0 (K w.params) H→SqX (K w.params) H a (ns.map V.int)→sp w [.ref a] H (fun v _=>v=.bl true) fun _ _ _=>False)
  (hCX:∀ (w:World) (H:Hp) (s:Shared) (e:Value) (s':Shared),CX w [] H s (fun _ _ _=>False) e s'→False) :
  PySem.W.WalkO q loose XP YP l.row.toRowW d [] (fun f vs=>PySem.call f vs):=by
 refine _A.attach_call hn hdf fun w s₀ s₁ mg mb fa o pm cd doc a vs ns G Y ho hd hcd hmg hobj hints hlen hg=>?_
 have KX:=hY w _ Y
 obtain⟨fd,hb,hF⟩:=F w mg fa _ KX G.T.g hmg
 exact XA KX G.T.g G.T.b G.T.builtins G.T.nolimit hg (let ⟨bm,ob,b1,b2,b3,b4,b5,b6⟩:=G.T.bmain;⟨bm,ob,b1,b2,b3,b4,b5,b6⟩) (K4 G.T KX (ht _)) hobj hints (Nat.le_trans hlen hn2) hr hF hb (fun H hT hS=>hsp w H a ns hlen hT hS) fun H e s'=>hCX w H s₁ e s'
end _L
end
section
namespace _D
open PySem PySem.Spec PyProof.Rows _L
theorem T6 {K:PySem.W.Frag}{h:Heap}{mg:Str→Option Value}(X:K.In h)(G:h.Ns mainGlobals mg){x:Str}{st:Stmt}{ps:List Str}{f:Addr}{oc:Value}{od an:Option Addr}{osl:Array (Option Value)}{kV doc pm cdv ct:Value}
  (a:PySem.W.nsIn K mainGlobals x=some (some (.ref f)))
  (l:K.lookup f=some ⟨oc,od,.func (PySem.W.fnOf x x (y6 st) (zK st) (qH st) .none kV doc pm an cdv ct),osl⟩) (c:PySem.W.codeIn K cdv x=true) (k:PySem.W.keepIn K (.ref f)=true)
  (hb:∀ (kV doc pm:Value) (an:Option Addr) (cdv ct:Value) (us:List Value),us.length=ps.length→bindArgs (PySem.W.fnOf x x (y6 st) (zK st) (qH st) .none kV doc pm an cdv ct) ⟨us,[]⟩=pure (ps.zip us)):Src K mg x st ps:=
 have F:=B8 (st:=st) l c k
 ⟨f,_,PySem.W.mg_of X G a,F,F.binds hb⟩
def lG (K:PySem.W.Frag)(C:Addr):Bool:=
 decide (PySem.W.findIn K (.ref C) "__getattribute__" = some (some (.builtin "BaseException.__getattribute__")))&&decide (PySem.W.findIn K (.ref C) "__getattr__" = some none)
 && decide (PySem.W.findIn K (.ref C) "__class__" = some (some (.builtin "object.__class__")))&&decide (PySem.W.mroIn K C (.type "object")=some true)&&decide (PySem.W.mroIn K C (.type "BaseException")=some true)
 && (PySem.W.clsIn K C).isSome&&decide (PySem.W.kitOne K (.ref C) (.type "ValueError")=some true)
def Z1 (K:PySem.W.Frag):Bool:=
 decide (PySem.W.specialIn K (.builtin "object.__class__") "__get__" = some (some (.builtin "getset_descriptor.__get__")))&&decide (PySem.W.takesIn K (.builtin "object.__class__")=some true)
def G9 (K:PySem.W.Frag)(cl:List Addr):Bool:=cl.all fun C=>cl.all fun B=>decide (PySem.W.kitOne K (.ref C) (.ref B)=some (C == B))
theorem GB {K:PySem.W.Frag}{cl:List Addr}(h1:cl.all (lG K)=true)(h2:Z1 K=true)(h3:G9 K cl=true):ClsK K cl:=by
 have g:=h2
 unfold Z1 at g
 simp only[Bool.and_eq_true,decide_eq_true_eq] at g
 have k1:∀ C∈cl,lG K C=true:=List.all_eq_true.mp h1
 refine⟨fun C hC=>?_,fun C hC B hB=>?_,fun C hC=>?_⟩
 ·have e:=k1 C hC
  unfold lG at e
  simp only[Bool.and_eq_true,decide_eq_true_eq] at e
  obtain⟨⟨⟨⟨⟨⟨e1,e2⟩,e3⟩,e4⟩,e5⟩,e6⟩,e7⟩:=e
  exact⟨e1,e2,e3,g.1,g.2,e4,e5,e6⟩
 ·have e:=List.all_eq_true.mp (List.all_eq_true.mp h3 C hC) B hB
  exact of_decide_eq_true e
 ·have e:=k1 C hC
  unfold lG at e
  simp only[Bool.and_eq_true,decide_eq_true_eq] at e
  exact e.2
def SJ (K:PySem.W.Frag)(cs:List Value)(A:Addr):Bool:=cs.all fun v=>decide (PySem.W.exmOne K v (.ref A)=some true)
def SH (K:PySem.W.Frag)(cs:List Addr)(A:Addr):Bool:=cs.all fun C=>bJ K C A
def SI (K:PySem.W.Frag)(cs:List Addr):Bool:=cs.all fun C=>PySem.W.keepIn K (.ref C)
def nV (K:PySem.W.Frag):Sp:=fun vs H Q E=>Tb0 K H∧∃ a ns,vs=[.ref a]∧SqX K H a (List.map V.int ns)∧ns.length≤63∧∀ H',Q (.bl true) H'
theorem dY {K:PySem.W.Frag}{P:Hp}{α : List Addr}:∀ ns:List Int,qE K P α (ns.map D.int) (ns.map V.int)
 |[]=>.nil
 |n::ns=>.cons (by simp only[Rep]) (dY ns)
def noT (H:Hp):Hp:=fun b=>match H b with
 |some (.tbl _)=>none
 |u=>u
theorem UG {P:Program}{w:World}{K:PySem.W.Frag}{mg:Str→Option Value}{fa:Addr}{st:Stmt}{k:Nat}{x:Str}(hs:Src K mg "law" st [x])(hfa:mg "law" = some (.ref fa))
  (hbd:∀ (kV doc pm:Value) (an:Option Addr) (cdv ct:Value) (s:Shared) (v:Value),BindsTo s (PySem.W.fnOf "law" "law" (y6 st) (zK st) (qH st) .none kV doc pm an cdv ct) ⟨[v],[]⟩ [(x,v)])
  (hall:∀ base:Heap,∃ F,nZ P w K mg base true k "law" [x] F∧∀ ns:List Int,ns.length≤63→∃ S,F [.lst (ns.map D.int)] [] = .ok (.bl true) S) :
  ∃ fd:FuncData,(∀ (s:Shared) (v:Value),BindsTo s fd ⟨[v],[]⟩ [(x,v)])∧∀ base:Heap,K.In base→base.Ns mainGlobals mg→FnOk P w K mg base (CXd P w) k fa fd [x] (nV K):=by
 obtain⟨f,fd,hm,F,hb⟩:=hs
 cases hfa.symm.trans hm
 refine⟨fd,?_,fun base _ _=>?_⟩
 ·obtain⟨oc,od,kV,doc,pm,an,cdv,ct,osl,rfl,_,_⟩:=F.ex
  exact hbd kV doc pm an cdv ct
 ·obtain⟨G,⟨f',fd',hm',_,hb',hl,X⟩,hG⟩:=hall base
  cases hm.symm.trans hm'
  cases hl.one (pU F)
  refine(X.imp fun vs H Q E h=>?_).ok
  obtain⟨tb,a,ns,rfl,hS,hl,k⟩:=h
  obtain⟨S,e⟩:=hG ns hl
  have keep:∀ (b:Addr) (u:HO),H b=some u→(∀ ps,u≠.tbl ps)→noT H b=some u:=fun b u q h=>by
   unfold noT
   rw[q]
   cases u with
   |tbl ps=>exact absurd rfl (h ps)
   |_=>rfl
  have hS':SqX K (noT H) a (List.map V.int ns):=by
   rcases hS with (h|⟨o,h⟩)|h
   ·exact .inl (.inl (keep _ _ h fun _ z=>by cases z))
   ·exact .inl (.inr ⟨o,keep _ _ h fun _ z=>by cases z⟩)
   ·exact .inr h
  have sub:qF (noT H) H:=fun b u q=>by
   unfold noT at q
   cases z:H b with
   |none=>rw[z] at q;cases q
   |some v =>
    rw[z] at q
    cases v with
    |tbl ps=>cases q
    |_=>exact q
  refine⟨rfl,noT H,[],[.lst (ns.map D.int)],[],⟨fun x hx c T h=>⟨#[],tb x hx c T h,by unfold noT;rw[tb x hx c T h],by simp,trivial,fun pos cv z=>by cases z⟩,sub,rfl,.nil,by simp,by simp,by simp⟩,.cons (mY hS' (dY ns)) .nil,?_⟩
  rw[e]
  intro v H' P' α' _ _ _ rv
  simp only[Rep] at rv
  subst rv
  exact k H'
theorem DC {l:PySem.W.OpenLaw}{q:Program}{loose:List Str}{XP:(Str→Option Value)→Heap→Prop}{YP:World→Heap→Prop}{d:DefRec}{K:Params→PySem.W.Frag}{k:Nat}{x:Str}(hn:l.most=some 63)(hdf:d.params.defaults=[])(hr:Room k callerA)(ht:∀ p,cC q (K p)=true)
  (hY:∀ (w:World) (h:Heap),YP w h→(K w.params).In h)
  (F:∀ (w:World) (mg:Str→Option Value) (fa:Addr) (h:Heap),(K w.params).In h→h.Ns mainGlobals mg→mg d.name=some (.ref fa) →
   ∃ fd:FuncData,(∀ (s:Shared) (u:Value),BindsTo s fd ⟨[u],[]⟩ [(x,u)])∧∀ base:Heap,(K w.params).In base→base.Ns mainGlobals mg→FnOk l.prog w (K w.params) mg base (CXd l.prog w) k fa fd [x] (nV (K w.params))) :
  PySem.W.WalkO q loose XP YP l.row.toRowW d [] (fun f vs=>PySem.call f vs):=
 _L.K9 (n:=63) (k:=k) (x:=x) (CX:=fun w=>CXd l.prog w) (sp:=fun w=>nV (K w.params)) hn (by decide) hdf hr ht hY F (fun _ _ a ns hl hT hS=>⟨hT,a,ns,rfl,hS,hl,fun _=>rfl⟩) fun w H s e s' h=>by
  obtain⟨_,_,_,_,_,_,_,_,_,_,_,_,z⟩:=h
  exact z
end _D
end
section
namespace _D
open PySem
theorem us0 {us:List Value}(h:us.length=0):us=[]:=List.eq_nil_of_length_eq_zero h
theorem usS {us:List Value}{n:Nat}(h:us.length=n+1):∃ a vs,us=a::vs∧vs.length=n:=by
 cases us with
 |nil=>exact absurd h (by simp)
 |cons a vs=>exact⟨a,vs,rfl,by simpa using h⟩
theorem us1 {us:List Value}(h:us.length=1):∃ a,us=[a]:=by
 obtain⟨a,vs,rfl,h'⟩:=usS h
 exact⟨a,by rw[us0 h']⟩
theorem us2 {us:List Value}(h:us.length=2):∃ a b,us=[a,b]:=by
 obtain⟨a,vs,rfl,h'⟩:=usS h
 obtain⟨b,rfl⟩:=us1 h'
 exact⟨a,b,rfl⟩
theorem us3 {us:List Value}(h:us.length=3):∃ a b c,us=[a,b,c]:=by
 obtain⟨a,vs,rfl,h'⟩:=usS h
 obtain⟨b,c,rfl⟩:=us2 h'
 exact⟨a,b,c,rfl⟩
end _D
end
section
namespace _D
open PySem PySem.Spec PyProof.Rows _L
theorem YG (F:DF):∃ G:DF,G=F:=⟨F,rfl⟩
noncomputable def sh (F:DF):DF:=Classical.choose (YG F)
theorem xH (F:DF):sh F=F:=Classical.choose_spec (YG F)
def isV:Option NameKind→Bool
 |some .local => true
 |some .cell=>true
 |some .free=>true
 |_=>false
def isL:Option NameKind→Bool
 |some .local => true
 |some .cell=>true
 |_=>false
def isG:Option NameKind→Bool
 |some .globalImplicit=>true
 |_=>false
def okN (x:Str):Bool:=!(x == ("__debug__" : Str))&&(!(x == ("__classdict__" : Str))&&!decide (x = "__name__"))
def okG (X:Cx)(x:Str):Bool:=isG (X.env.kindOf x)&&okN x
def okB (v:Value)(x:Str):Bool:=decide (bootBuiltins x=some v)
def jR (sc:Scope):List Str:=sc.names.filterMap fun y=>if isL (some y.2) then some y.1 else none
def yH (sc:Scope):List Str:=(sc.names.filterMap fun y=>if isL (some y.2)&&!(y.1 == (".0" : Str)) then some y.1 else none)++sc.names.filterMap fun y=>if y.2 == .free then some y.1 else none
def Ck (b:Bool):Prop:=b=true
theorem ck {b:Bool}(h:b=true:=by kernel_rfl):Ck b:=h
structure DfS (F:DF)(P:Program)(w:World)(K:PySem.W.Frag)(mg:Str→Option Value)(base:Heap)(cm:Bool)(k:Nat)(x:Str)(n:Nat):Prop where
 get:Def P w K mg base cm k x n F
def okT (X:Cx)(m:Nat)(x:Str):Bool:=decide (X.N[m]? = some x)&&(isL (X.env.scope.names.lookup x)&&(decide X.N.Nodup&&(X.fn x||decide (X.env.scope.names.lookup x=some .local))))
def okP (X:Cx)(m:Nat)(x:Str):Bool:=decide (X.N[m]? = some x)&&decide (X.env.scope.names.lookup x=some .local)
def nM (scX:Scope)(NX:List Str)(scope:Scope)(cap:List (Option Nat)):Bool:=
 decide (scope.kind=.function)&&(decide (∀ y∈scope.names,y.2=.local → scope.names.lookup y.1=some .local)&&(decide (∀ y∈scope.names,y.2=.cell→scope.names.lookup y.1=some .cell)&&(decide (∀ y∈scope.names,y.2=.free→scX.names.lookup y.1=some .cell∨scX.names.lookup y.1=some .free)
 && (decide (∀ y∈scope.names,y.2=.free→scope.names.lookup y.1=some .free)&&(decide (cap.length=(yH scope).length)&&(((cap.zip (yH scope)).all fun p=>match p.1 with|none=>true|some i=>NX[i]? == some p.2&&scope.names.lookup p.2 == some .free)&&decide (yH scope).Nodup))))))
def fnB (N P:List Str)(sc:Scope):Bool:=
 decide (sc.kind=.function)&&(decide (sc.isCoroutine=false)&&(decide (sc.isGenerator=false)&&(decide N.Nodup&&(decide (N.take P.length=P)&&(decide (∀ x∈P,sc.names.lookup x=some .local ∨ sc.names.lookup x=some .cell)&&decide (∀ y∈sc.names,y.2≠.free))))))
theorem lI {scX:Scope}{NX:List Str}{scope:Scope}{cap:List (Option Nat)}(h:nM scX NX scope cap=true):CompSc scX NX scope (yH scope) cap:=by
 simp only[nM,Bool.and_eq_true,decide_eq_true_eq] at h
 obtain⟨a,b,c,d,e,f,g,k⟩:=h
 exact⟨a,b,c,d,e,f,g,k⟩
theorem lZ {N P:List Str}{sc:Scope}(h:fnB N P sc=true):FnScope N P sc:=by
 simp only[fnB,Bool.and_eq_true,decide_eq_true_eq] at h
 obtain⟨a,b,c,d,e,f,g⟩:=h
 exact⟨a,b,c,d,e,f,g⟩
section
variable {X:Cx}{a b c e o elt tg iter:Expr}{ifs rest:List Expr}{f g:DS}{fa:DE}{f2:DI2}{dg:DG}{t:DT}{kk:DK}{gens grest:List Comprehension}{scope:Scope}{cap:List (Option Nat)}{mm:Bool}{l q:Nat}{y z:Str}{G2':G2}{es:List Expr}{fA:DA}{x:Str}{p pos:Pos}{cm:Bool}{k n m:Nat}{F:DF}
theorem rP {sc:Scope}(h:isV (sc.names.lookup x)=true):Vis sc x:=by
 unfold Vis
 revert h
 cases sc.names.lookup x with
 |none=>intro h;cases h
 |some y=>cases y <;> intro h <;> first|cases h;done|exact .inl rfl|exact .inr (.inl rfl)|exact .inr (.inr rfl)
theorem U4 {sc:Scope}(h:isL (sc.names.lookup x)=true):_L.Loc sc x:=by
 unfold _L.Loc
 revert h
 cases sc.names.lookup x with
 |none=>intro h;cases h
 |some y=>cases y <;> intro h <;> first|cases h;done|exact .inl rfl|exact .inr rfl
theorem kA (h:okN x=true):(x == ("__debug__" : Str))=false∧(x == ("__classdict__" : Str))=false∧x ≠ "__name__":=by
 unfold okN at h
 rw[Bool.and_eq_true,Bool.and_eq_true] at h
 exact⟨by simpa using h.1,by simpa using h.2.1,by simpa using h.2.2⟩
theorem w4 (h:okG X x=true):Gl X x∧(x == ("__debug__" : Str))=false∧x ≠ "__name__":=by
 have h:=(Bool.and_eq_true _ _).mp h
 refine⟨?_,(kA h.2).1,(kA h.2).2.2⟩
 have z:=h.1
 unfold Gl
 revert z
 cases X.env.kindOf x with
 |none=>intro z;cases z
 |some y=>cases y <;> intro z <;> first|cases z;done|rfl
theorem dM (h:okT X m x=true):X.N[m]? = some x∧_L.Loc X.env.scope x∧X.N.Nodup∧(X.fn x=true∨X.env.scope.names.lookup x=some .local):=by
 simp only[okT,Bool.and_eq_true,decide_eq_true_eq,Bool.or_eq_true] at h
 exact⟨h.1,U4 h.2.1,h.2.2⟩
theorem wI (h:okP X m x=true):X.N[m]? = some x∧X.env.scope.names.lookup x=some .local:=by
 simp only[okP,Bool.and_eq_true,decide_eq_true_eq] at h
 exact h
theorem Y1 (h:Ck (okG X x)):Gl X x:=(w4 h).1
theorem aV (h:Ck (decide (X.N[m]? = some x)&&(isV (X.env.scope.names.lookup x)&&okN x))):QE X (.Name x pos) (qB m):=by
 unfold Ck at h
 simp only[Bool.and_eq_true,decide_eq_true_eq] at h
 exact ME m h.1 (rP h.2.1) (kA h.2.2).1 (kA h.2.2).2.1
theorem aBt {nm:String}(h:Ck (okG X x))(hm:X.mg x=none)(hb:Ck (okB (.type nm) x)):QE X (.Name x pos) (dC (.ty nm)):=
 have h:=w4 h
 J8 h.1 hm (of_decide_eq_true hb) h.2.2 h.2.1
theorem aCl {C:Addr}(h:Ck (okG X x))(hm:X.mg x=some (.ref C)∧PySem.W.keepIn X.K (.ref C)=true):QE X (.Name x pos) (dC (.obj C)):=
 have h:=w4 h
 M7 h.1 hm.1 hm.2 h.2.1
theorem aGi {v:Int}(h:Ck (okG X x))(hm:∃ t,X.mg x=some (.int v t)):QE X (.Name x pos) (dC (.int v)):=
 have h:=w4 h
 JA h.1 hm h.2.1
abbrev St1 (X:Cx)(e:Expr)(es:List Expr)(pos:Pos):Prop:=starEach (e::es) X.env=(false,eval e X.env)::starEach es X.env∧(backTo pos (starEach es X.env)).any (·.1)=false
theorem aN (G:DfS F X.prog X.w X.K X.mg X.base cm k x n)(hr:RoomC cm k X.A)(hF:Fn1 X)(h:Ck (okG X x))(ha:QA X (e::es) fA)(s:St1 X e es pos):QE X (.Call (.Name x p) (e::es) [] pos) (qO n F fA):=
 have h:=w4 h
 qcN G.1 hr hF h.1 ha h.2.1 s.1 s.2
theorem aL (G:DfS F X.prog X.w X.K X.mg X.base cm k x n)(hr:RoomC cm k X.A)(hF:Fn1 X)(h:Ck (okG X x))(ha:QA X (e::es) fA)(s:St1 X e es pos):QE X (.Call (.Name x p) (e::es) [] pos) (qO n (uG F) fA):=
 have h:=w4 h
 qcL G.1 hr hF h.1 ha h.2.1 s.1 s.2
theorem aO (G:DfS F X.prog X.w X.K X.mg X.base cm k x n)(hr:RoomC cm k X.A)(h:Ck (okG X x))(ha:QA X (e::es) fA)(s:St1 X e es pos):QE X (.Call (.Name x p) (e::es) [] pos) (qO n (okO F) fA):=
 have h:=w4 h
 qcO G.1 hr h.1 ha h.2.1 s.1 s.2
theorem aB {id:String}(hc:ZCall X (.builtin id) F)(h:Ck (okG X x))(hm:X.mg x=none)(hb:Ck (okB (.builtin id) x))(ha:QA X (e::es) fA)(s:St1 X e es pos):QE X (.Call (.Name x p) (e::es) [] pos) (qL F fA):=
 have h:=w4 h
 XX hc h.1 hm (of_decide_eq_true hb) ha h.2.2 h.2.1 s.1 s.2
theorem aT {T:String}(hc:ZCall X (.type T) F)(h:Ck (okG X x))(hm:X.mg x=none)(hb:Ck (okB (.type T) x))(ha:QA X (e::es) fA)(s:St1 X e es pos):QE X (.Call (.Name x p) (e::es) [] pos) (qL F fA):=
 have h:=w4 h
 oQ hc h.1 hm (of_decide_eq_true hb) ha h.2.2 h.2.1 s.1 s.2
theorem aC (S:Ck (nM X.env.scope X.N scope cap))(hc:X.calm=true)(hi:QI2 X tg iter f2)(hg:∀ cl C ex s₀ H₀,QG (qX X (yH scope) scope cl C ex s₀ H₀) tg dg)(ht:∀ cl C ex s₀ H₀,QTs (qX X (yH scope) scope cl C ex s₀ H₀) ifs t)
  (has:∀ g',(⟨tg,iter,ifs,0⟩::grest:List Comprehension)[0+1]? = some g'→g'.is_async=0)
  (he:∀ cl C ex s₀ H₀,QK (qX X (yH scope) scope cl C ex s₀ H₀) (fun acc=>zR elt (⟨tg,iter,ifs,0⟩::grest) scope pos 0 acc (qX X (yH scope) scope cl C ex s₀ H₀).env) kk) (hs:∀ x,foldedSetIterable iter X.env x=pure x) :
  QE X (.ListComp elt (⟨tg,iter,ifs,0⟩::grest) scope pos) (zF mm cap f2 dg t kk):=XZ hc (lI S) hi hg ht has he hs
theorem aCs {py spos:Pos}(hsw:swapsWith (.ListComp elt (⟨tg,iter,ifs,0⟩::grest) scope pos) (some (.Name y py)) spos.line X.env=pure true)(S:Ck (nM X.env.scope X.N scope cap))(hN:Ck (okT X m y))(hc:X.calm=true)(hi:QI2 X tg iter f2)(hg:∀ cl C ex s₀ H₀,QG (qX X (yH scope) scope cl C ex s₀ H₀) tg dg)(ht:∀ cl C ex s₀ H₀,QTs (qX X (yH scope) scope cl C ex s₀ H₀) ifs t)
  (has:∀ g',(⟨tg,iter,ifs,0⟩::grest:List Comprehension)[0+1]? = some g'→g'.is_async=0)
  (he:∀ cl C ex s₀ H₀,QK (qX X (yH scope) scope cl C ex s₀ H₀) (fun acc=>zR elt (⟨tg,iter,ifs,0⟩::grest) scope pos 0 acc (qX X (yH scope) scope cl C ex s₀ H₀).env) kk) (hs:∀ x,foldedSetIterable iter X.env x=pure x) :
  QS X (.Assign [.Name y py] (.ListComp elt (⟨tg,iter,ifs,0⟩::grest) scope pos) spos) (zG (zF mm cap f2 dg t kk) (gNm m)):=
 have h:=dM hN
 W2 hc h.2.2.1 (lI S) hi hg ht has he h.1 h.2.1 h.2.2.2 hsw hs
theorem aNm (h:Ck (okT X m x)):QG X (.Name x pos) (gNm m):=
 have h:=dM h
 JD h.2.2.1 h.1 h.2.1 h.2.2.2
theorem aSt {pos':Pos}(hs:swapsWith e (some (.Name x pos')) pos.line X.env=pure false)(he:QE X e fa)(h:Ck (okT X m x)):QS X (.Assign [.Name x pos'] e pos) (zG fa (gNm m)):=
 have h:=dM h
 MM h.2.2.1 he h.1 h.2.1 hs h.2.2.2
theorem aP2 {px py pt:Pos} {kt k2 pt2} (h:Ck (decide X.N.Nodup&&(okP X m x&&(okP X l y&&!decide (m=l))))) (hc:X.calm=true) (ha:QA X [a,b] fA)
  (hw:swappedStores [.Tuple [.Name x px,.Name y py] kt pt] (.Tuple [a,b] k2 pt2) X.env=pure (some [x,y])) (hs:swapsWithSole [.Tuple [.Name x px,.Name y py] kt pt] (.Tuple [a,b] k2 pt2) pos.line X.env=pure false) :
  QS X (.Assign [.Tuple [.Name x px,.Name y py] kt pt] (.Tuple [a,b] k2 pt2) pos) (bT m l fA):=by
 unfold Ck at h
 simp only[Bool.and_eq_true,decide_eq_true_eq,Bool.not_eq_true',decide_eq_false_iff_not] at h
 exact ML hc h.1 ha (wI h.2.1).1 (wI h.2.2.1).1 h.2.2.2 (wI h.2.1).2 (wI h.2.2.1).2 hw hs
theorem aP3 {px py pz pt:Pos} {kt k2 pt2} (h:Ck (decide X.N.Nodup&&(okP X m x&&(okP X l y&&(okP X q z&&(!decide (m=l)&&(!decide (m=q)&&!decide (l=q)))))))) (hc:X.calm=true) (ha:QA X [a,b,c] fA)
  (hw:swappedStores [.Tuple [.Name x px,.Name y py,.Name z pz] kt pt] (.Tuple [a,b,c] k2 pt2) X.env=pure (some [x,y,z])) (hs:swapsWithSole [.Tuple [.Name x px,.Name y py,.Name z pz] kt pt] (.Tuple [a,b,c] k2 pt2) pos.line X.env=pure false) :
  QS X (.Assign [.Tuple [.Name x px,.Name y py,.Name z pz] kt pt] (.Tuple [a,b,c] k2 pt2) pos) (b7 m l q fA):=by
 unfold Ck at h
 simp only[Bool.and_eq_true,decide_eq_true_eq,Bool.not_eq_true',decide_eq_false_iff_not] at h
 obtain⟨h1,h2,h3,h4,h5,h6,h7⟩:=h
 exact JK hc h1 ha (wI h2).1 (wI h3).1 (wI h4).1 h5 h6 h7 (wI h2).2 (wI h3).2 (wI h4).2 hw hs
theorem aRs {C:Addr}{np cpos:Pos}(h:Ck (okG X x))(hc:X.calm=true)(hF:Fn1 X)(hm:∃ Ae,X.mg x=some (.ref C)∧bJ X.K C Ae=true)(ha:QA X (e::rest) fA)(s:St1 X e rest cpos) :
  QS X (.Raise (some (.Call (.Name x np) (e::rest) [] cpos)) none pos) (pJ (.ref C) fA):=
 have h:=w4 h
 let ⟨_,hm,hx⟩:=hm
 W3 hc hF h.1 hm hx ha h.2.1 s.1 s.2
theorem aTr {nm:Str}{body:List Stmt}{b₀:Stmt}{suite:List Stmt}{np hpos:Pos}{cs:List Value}(h:Ck (okG X x&&(okP X m nm&&(decide X.N.Nodup&&decide (X.N.length=n)))))(hF:Fn1 X)(hm:∃ C0,X.mg x=some (.ref C0)∧∀ c∈cs,PySem.W.exmOne X.K c (.ref C0)=some true)(hb:∀ E pn,ZPass (Cx.tryIn X E pn)→QB (Cx.tryIn X E pn) body f)(hs:∀ e,QB (Cx.suite X e) (b₀::suite) g) :
  QS X (.Try body [.ExceptHandler (some (.Name x np)) (some nm) (b₀::suite) hpos] [] [] pos) (bU n m cs f g):=by
 unfold Ck at h
 simp only[Bool.and_eq_true,decide_eq_true_eq] at h
 obtain⟨C0,hm,hcs⟩:=hm
 exact MN hF hb hs (w4 h.1).1 hm hcs h.2.2.1 (wI h.2.1).1 (wI h.2.1).2 (w4 h.1).2.1 h.2.2.2
end
structure TxS (K:PySem.W.Frag)(mg:Str→Option Value)(tp:Nat→Stmt)(tab:List (Str × Nat × List Str))(bl:List Str)(clt plt:List (Str × Addr))(cs:List Value)(exl:List Addr)(cst:List (Str × Int)):Prop where
 src:∀ (j:Nat) {x:Str} {i:Nat} {ps:List Str},tab[j]? = some (x,i,ps)→Src K mg x (tp i) ps
 nb:∀ {x:Str},Ck (bl.contains x)→mg x=none
 cl:∀ {x:Str} {C:Addr},clt.lookup x=some C→mg x=some (.ref C)∧PySem.W.keepIn K (.ref C)=true
 rz:∀ {x:Str} {C:Addr},plt.lookup x=some C→∃ Ae,mg x=some (.ref C)∧bJ K C Ae=true
 ct:∃ C0,mg "FarError" = some (.ref C0)∧∀ c∈cs,PySem.W.exmOne K c (.ref C0)=some true
 cls:ClsK K exl
 gi:∀ {x:Str} {v:Int},cst.lookup x=some v→∃ t,mg x=some (.int v t)
end _D
end
section
namespace _D
open PySem PySem.Spec PyProof.Rows _L
section
variable {K:PySem.W.Frag}{mg:Str→Option Value}{cm:Bool}{tp:Nat→Stmt}{tab:List (Str × Nat × List Str)}{bl:List Str}{clt plt:List (Str × Addr)}{cs:List Value}{exl:List Addr}{cst:List (Str × Int)}{x:Str}{i m:Nat}{ps:List Str}{F:DF}{g:DS}
theorem dq (P:Program)(w:World)(base:Heap)(k j:Nat)(T:TxS K mg tp tab bl clt plt cs exl cst)(hj:tab[j]? = some (x,i,ps))(h:Ck (fnB (jR (qH (tp i))) ps (qH (tp i))&&decide ((jR (qH (tp i))).length=m)))(hF:F=qT m g)
  (hb:∀ (f:Addr) (cdv:Value) (A:Around) (outer:List Env) (s:Shared) (H:Hp) (E:XK),kI K x cdv→RoomC cm k (A.deeper (envOfC x (qH (tp i)) s.heap.objs.size f cdv)) →
   QB (cxC cm P w K mg base (jR (qH (tp i))) x (qH (tp i)) f cdv A outer s H E) (zK (tp i)) g):DfS F P w K mg base cm (k+1) x ps.length:=by
 unfold Ck at h
 simp only[Bool.and_eq_true,decide_eq_true_eq] at h
 obtain⟨h,rfl⟩:=h
 exact⟨hF▸SL (T.src j hj) (lZ h) rfl hb⟩
theorem dqP {P:Program}{w:World}{base:Heap}(k j:Nat)(T:TxS K mg tp tab bl clt plt cs exl cst)(hj:tab[j]? = some (x,i,ps))(h:Ck (fnB (jR (qH (tp i))) ps (qH (tp i))&&decide ((jR (qH (tp i))).length=m)))
  (hb:∀ (f:Addr) (cdv:Value) (A:Around) (outer:List Env) (s:Shared) (H:Hp) (E:XK),kI K x cdv→RoomC cm k (A.deeper (envOfC x (qH (tp i)) s.heap.objs.size f cdv)) →
   QB (cxC cm P w K mg base (jR (qH (tp i))) x (qH (tp i)) f cdv A outer s H E) (zK (tp i)) g):nZ P w K mg base cm (k+1) x ps (qT m g):=by
 unfold Ck at h
 simp only[Bool.and_eq_true,decide_eq_true_eq] at h
 obtain⟨h,rfl⟩:=h
 exact NC (T.src j hj) (lZ h) rfl hb
end
theorem hv {a b:Prop}(f:a→b)(h:a):b:=f h
end _D
end
section
namespace _D
open PySem PySem.Spec PyProof.Rows _L
inductive SrcF (K:PySem.W.Frag)(x:Str)(st:Stmt)(ps:List Str):Prop
 |mk {f:Addr} {oc:Value} {od an:Option Addr} {osl:Array (Option Value)} {kV doc pm cdv ct:Value} (a:PySem.W.nsIn K mainGlobals x=some (some (.ref f)))
  (l:K.lookup f=some ⟨oc,od,.func (PySem.W.fnOf x x (y6 st) (zK st) (qH st) .none kV doc pm an cdv ct),osl⟩) (c:PySem.W.codeIn K cdv x=true) (k:PySem.W.keepIn K (.ref f)=true):SrcF K x st ps
def c5 (K:PySem.W.Frag)(tp:Nat→Stmt):List (Str × Nat × List Str)→Prop
 |[]=>True
 |(x,i,ps)::t=>SrcF K x (tp i) ps∧c5 K tp t
def BdF (tp:Nat→Stmt):List (Str × Nat × List Str)→Prop
 |[]=>True
 |(x,i,ps)::t=>(∀ (kV doc pm:Value) (an:Option Addr) (cdv ct:Value) (us:List Value),us.length=ps.length→bindArgs (PySem.W.fnOf x x (y6 (tp i)) (zK (tp i)) (qH (tp i)) .none kV doc pm an cdv ct) ⟨us,[]⟩=pure (ps.zip us))∧BdF tp t
def hV (K:PySem.W.Frag):List (Str × Addr)→Prop
 |[]=>True
 |(x,C)::t=>PySem.W.nsIn K mainGlobals x=some (some (.ref C))∧hV K t
def hW (K:PySem.W.Frag):List (Str × Int)→Prop
 |[]=>True
 |(x,v)::t=>(∃ k,PySem.W.nsIn K mainGlobals x=some (some (.int v k)))∧hW K t
def SR:Option (Option Value)→Bool
 |some none=>true
 |_=>false
section
variable {K:PySem.W.Frag}{h:Heap}{mg:Str→Option Value}{tp:Nat→Stmt}
theorem eZ (X:K.In h)(G:h.Ns mainGlobals mg):∀ (tab:List (Str × Nat × List Str)),c5 K tp tab→BdF tp tab→∀ (j:Nat) {x:Str} {i:Nat} {ps:List Str},tab[j]? = some (x,i,ps)→Src K mg x (tp i) ps
 |[],_,_,_,_,_,_,e=>by cases e
 |(x,i,ps)::t,H,B,0,_,_,_,e=>by
  cases e
  obtain⟨a,l,c,k⟩:=H.1
  exact T6 X G a l c k B.1
 |(x,i,ps)::t,H,B,j+1,_,_,_,e=>eZ X G t H.2 B.2 j e
theorem wR {β : Type}{p:Str→β→Prop}{x:Str}{C:β}:∀ {l:List (Str × β)},(∀ y∈l,p y.1 y.2)→l.lookup x=some C→p x C
 |[],_,e=>by cases e
 |(y,b)::t,H,e=>by
  rw[List.lookup_cons] at e
  cases q:x == y with
  |true =>
   rw[q] at e
   cases e
   rw[eq_of_beq q]
   exact H (y,_) (.head _)
  |false =>
   rw[q] at e
   exact wR (fun z hz=>H z (.tail _ hz)) e
theorem pO (X:K.In h)(G:h.Ns mainGlobals mg):∀ {l:List (Str × Addr)},hV K l→∀ y∈l,mg y.1=some (.ref y.2)
 |(x,C)::t,H,y,hy=>by
  rcases List.mem_cons.mp hy with rfl|hy
  ·exact PySem.W.mg_of X G H.1
  ·exact pO X G H.2 y hy
theorem rA (X:K.In h)(G:h.Ns mainGlobals mg):∀ {l:List (Str × Int)},hW K l→∀ y∈l,∃ k,mg y.1=some (.int y.2 k)
 |(x,C)::t,H,y,hy=>by
  rcases List.mem_cons.mp hy with rfl|hy
  ·obtain⟨k,e⟩:=H.1
   exact⟨k,PySem.W.mg_of X G e⟩
  ·exact rA X G H.2 y hy
theorem DB {tab:List (Str × Nat × List Str)}{bl:List Str}{clt plt:List (Str × Addr)}{cs:List Value}{exl:List Addr}{cst:List (Str × Int)}{far:Addr}(B:BdF tp tab)(hp:∀ y∈plt,y∈clt)(hf:clt.lookup ("FarError" : Str)=some far)(X:K.In h)(G:h.Ns mainGlobals mg)
  (s:c5 K tp tab) (z:(bl.all fun x=>SR (PySem.W.nsIn K mainGlobals x))=true) (q:hV K clt) (g:hW K cst) (e1:exl.all (lG K)=true) (e2:Z1 K=true) (e3:G9 K exl=true) (e4:SJ K cs far=true) (e5:SH K (plt.map (·.2)) far=true) (e6:SI K (clt.map (·.2))=true):TxS K mg tp tab bl clt plt cs exl cst where
 src:=eZ X G tab s B
 nb:=fun {x} hx=>by
  have e:=List.all_eq_true.mp z x (by simpa using List.contains_iff_mem.mp hx)
  refine PySem.W.mg_none_of X G ?_
  revert e
  cases PySem.W.nsIn K mainGlobals x with
  |none=>intro e;cases e
  |some y=>cases y with
   |none=>intro _;rfl
   |some y=>intro e;cases e
 cl:=fun h=>⟨wR (p:=fun x C=>mg x=some (.ref C)) (pO X G q) h,wR (p:=fun _ C=>PySem.W.keepIn K (.ref C)=true) (fun y hy=>List.all_eq_true.mp e6 y.2 (List.mem_map_of_mem hy)) h⟩
 rz:=fun h=>⟨far,wR (p:=fun x C=>mg x=some (.ref C)) (fun y hy=>pO X G q y (hp y hy)) h,wR (p:=fun _ C=>bJ K C far=true) (fun y hy=>List.all_eq_true.mp e5 y.2 (List.mem_map_of_mem hy)) h⟩
 ct:=⟨far,wR (p:=fun x C=>mg x=some (.ref C)) (pO X G q) hf,fun v hv=>of_decide_eq_true (List.all_eq_true.mp e4 v hv)⟩
 cls:=GB e1 e2 e3
 gi:=fun h=>wR (p:=fun x v=>∃ k,mg x=some (.int v k)) (rA X G g) h
end
end _D
end
section
namespace _D
open PySem PySem.Spec PyProof.Rows _L
structure LamT where
 qual:Str
 params:Arguments
 body:Expr
 scope:Scope
def xK (sc:Scope):List Str:=sc.names.filterMap fun y=>if y.2 == .free then some y.1 else none
inductive CloAt (h:Heap)(H:Hp)(fs:List Addr)(L:LamT)(a:Addr)(cv:List V):Prop
 |mk (cl:List (Str × Addr)) (pm ctv:Value) (c:Addr) (oc:Obj) (ws:Array Value) (t:Tok) (o:h.get? a=some (PySem.W.kla_obj "<lambda>" L.qual L.params L.body L.scope cl pm c ctv)) (hc:H c=some (.frz oc (.frz oc (.own 0)))) (hd:oc.data=.fields ws) (ht:ws[1]? = some (.str L.qual t))
  (inj:∀ x y d,cl.lookup x=some d→cl.lookup y=some d→x=y) (cel:∀ x d,cl.lookup x=some d→H d=none∧∃ v,h.IsCell d v) (has:∀ x,L.scope.names.lookup x=some .free→∃ d,cl.lookup x=some d)
  (len:cv.length=(xK L.scope).length) (val:∀ (j:Nat) x v,(xK L.scope)[j]? = some x→cv[j]? = some v→∃ d u,cl.lookup x=some d∧qK v u∧h.IsCell d (some u)) (hn:H a=none) (hf:a ∉ fs):CloAt h H fs L a cv
theorem CloAt.at {X:Cx}{pins:List (Addr × Obj)}{σ : _L.St}{H:Hp}{s:Shared}{L:LamT}{a:Addr}{cv:List V}(C:CloAt X.s₀.heap X.H₀ X.fs L a cv)(F:Fn1 X)(I:Inv X pins σ H s):CloAt s.heap H (frs X.stack) L a cv:=by
 obtain⟨cl,pm,ctv,c,oc,ws,t,o,hc,hd,ht,inj,cel,has,len,val,hn,hf⟩:=C
 have nx:∀ b,b ∉ X.ex:=fun b=>by rw[F.1];simp
 have nf:∀ b o,X.s₀.heap.get? b=some o→b ∉ X.fs→b ∉ frs X.stack:=fun b o e n z=>(F.mem.mp z).elim (Nat.ne_of_lt (Nat.lt_of_lt_of_le (Heap.lt_size e) I.ok.above)) n
 have kc:∀ d v,X.H₀ d=none→X.s₀.heap.IsCell d v→s.heap.IsCell d v:=fun d v h1 ⟨o,e,q⟩=>let ⟨_,z⟩:=I.base.any e h1 (nx d);⟨_,z,q⟩
 refine⟨cl,pm,ctv,c,oc,ws,t,I.base.keep a _ o hn hf (nx a),I.base.frzs _ _ _ hc,hd,ht,inj,fun x d e=>?_,has,len,fun j x v e1 e2=>?_,I.base.free a _ o hn (nx a),nf a _ o hf⟩
 ·obtain⟨h1,v,h3⟩:=cel x d e
  obtain⟨ob,e3,q⟩:=id h3
  exact⟨I.base.free d ob e3 h1 (nx d),v,kc d v h1 h3⟩
 ·obtain⟨d,u,q1,q2,q3⟩:=val j x v e1 e2
  exact⟨d,u,q1,q2,kc d _ (cel x d q1).1 q3⟩
def X6 (cm:Bool)(P:Program)(w:World)(K:PySem.W.Frag)(mg:Str→Option Value)(base:Heap)(N:List Str)(L:LamT)(cl:List (Str × Addr))(f:Addr)(cd:Value)(A:Around)(outer:List Env)(s:Shared)(H:Hp)(E:XK):Cx where
 prog:=P
 w:=w
 K:=K
 mg:=mg
 base:=base
 A:=A.deeper (PySem.W.envX L.qual L.scope s.heap.objs.size f cd cl)
 N:=N
 s₀:=s
 H₀:=H
 env:=PySem.W.envX L.qual L.scope s.heap.objs.size f cd cl
 outer:=outer
 stack:=PySem.W.envX L.qual L.scope s.heap.objs.size f cd cl::outer
 ex:=[]
 calm:=cm
 fn:=fun _=>false
 pn:=[]
 xe:=xeL P w A (PySem.W.envX L.qual L.scope s.heap.objs.size f cd cl) outer H s E
structure LamSc (L:LamT)(ps:List Str):Prop where
 kind:L.scope.kind=.function
 co:L.scope.isCoroutine=false
 gen:L.scope.isGenerator=false
 nocell:∀ y∈L.scope.names,y.2≠.cell
 par:∀ x∈ps,L.scope.names.lookup x=some .local
 one:ps.length≤1
 fr:∀ x∈xK L.scope,L.scope.names.lookup x=some .free
def m5 (P:Program)(w:World)(K:PySem.W.Frag)(mg:Str→Option Value)(base:Heap)(cm:Bool)(k:Nat)(L:LamT)(n:Nat)(G:List D→DF):Prop:=
 ∀ (A:Around) (outer:List Env) (s:Shared) (H:Hp) (us:List Value) (ws cv:List V) (a:Addr) (P':Hp) (α : List Addr) (S:Sto) (caps ds:List D) (Q:VK) (E:XK),RoomC cm k A→Env0 P w K mg base A outer s H→CloAt s.heap H (frs outer) L a cv→Rel K H P' α S →
  qE K P' α caps cv→qE K P' α ds ws→qN ws us→ds.length=n→spR K P' α (G caps ds S) Q E→codeAny (model P w) A (.call (.ref a) ⟨us,[]⟩) (CR (CXd P w) outer P w H s Q E) s
section
variable {P:Program}{w:World}{K:PySem.W.Frag}{mg:Str→Option Value}{base:Heap}{cm:Bool}{L:LamT}{ps:List Str}
theorem U2 {cl:List (Str × Addr)}{f:Addr}{cd:Value}{A:Around}{outer:List Env}{s:Shared}{H:Hp}{E:XK}{us:List Value}{ws cv:List V}{h':Heap}{tk:Nat}(S:LamSc L ps)(hd:cm=true→A.handled=none)(e0:Env0 P w K mg base A outer s H)
  (inj:∀ x y d,cl.lookup x=some d→cl.lookup y=some d→x=y) (cel:∀ x d,cl.lookup x=some d→H d=none∧∃ v,s.heap.IsCell d v) (has:∀ x,L.scope.names.lookup x=some .free→∃ d,cl.lookup x=some d)
  (len:cv.length=(xK L.scope).length) (val:∀ (j:Nat) x v,(xK L.scope)[j]? = some x→cv[j]? = some v→∃ d u,cl.lookup x=some d∧qK v u∧s.heap.IsCell d (some u)) (hl:ws.length=ps.length) (r:qN ws us)
  (hns:h'.Ns s.heap.objs.size fun y=>(ps.zip us).reverse.lookup y) (hk:∀ b o,s.heap.get? b=some o→h'.get? b=some o) :
  Inv (X6 cm P w K mg base (ps++xK L.scope) L cl f cd A outer s H E) [] ((ws++cv).map some) H { s with heap:=h',toks:=tk }:=by
 have kc:∀ d v,s.heap.IsCell d v→h'.IsCell d v:=fun d v ⟨o,e,q⟩=>⟨o,hk d o e,q⟩
 have no:∀ b:Addr,b ∉ ([]:List Addr):=fun b=>by simp
 refine⟨⟨e0.mod,S.kind,rfl,rfl,Nat.le_refl _,inj,fun y hy=>?_,(fun y c z=>nomatch z),hd,Around.frames_deeper e0.frames,.inr ⟨rfl,rfl⟩,fun b z=>absurd z (no b),e0.bs,e0.bsz,fun b _ _=>no b,fun b z=>absurd z (no b),e0.funs,e0.frf⟩,
  rfl,e0.bare,Un.kept hk,⟨_,hns,fun i y v h1 h2 h3=>?_⟩,fun y c h=>?_,e0.hok.fresh (Nat.le_refl _),fun y c h=>(cel y c h).1,fun p hp=>absurd (show p∈([]:List (Addr × Obj)) from hp) (by simp),e0.hok.kept hk,?_⟩
 ·rcases hy with hy|hy
  ·exact absurd rfl (S.nocell _ (PySem.mem_of_lookup hy))
  ·exact has y hy
 ·have h1:(ps++xK L.scope)[i]? = some y:=h1
  rw[List.getElem?_map] at h2
  obtain⟨v',h2,e⟩:=Option.map_eq_some_iff.mp h2
  cases e
  by_cases hi:i<ps.length
  ·rw[List.getElem?_append_left hi] at h1
   rw[List.getElem?_append_left (by rw[hl];exact hi)] at h2
   obtain⟨u,hu,rv⟩:=r.get h2
   refine⟨u,rv,.inl ⟨S.par y (List.mem_of_getElem? h1),?_⟩⟩
   have one:=S.one
   cases ps with
   |nil=>cases h1
   |cons p t =>
    cases t with
    |cons _ _=>simp at one
    |nil =>
     have i0:i=0:=by simpa using hi
     subst i0
     cases us with
     |nil=>cases hu
     |cons u' us =>
      cases h1;cases hu
      simp
  ·rw[List.getElem?_append_right (Nat.le_of_not_lt hi)] at h1
   rw[List.getElem?_append_right (by rw[hl];exact Nat.le_of_not_lt hi),hl] at h2
   obtain⟨d,u,q1,q2,q3⟩:=val _ y v h1 h2
   exact⟨u,q2,.inr ⟨.inr (S.fr y (List.mem_of_getElem? h1)),d,q1,kc d _ q3⟩⟩
 ·obtain⟨_,v,q⟩:=cel y c h
  exact⟨v,kc c v q⟩
 ·show _=(ps++xK L.scope).length
  simp[hl,len]
theorem BO {k:Nat}{fe:DE}(S:LamSc L ps)(hb:∀ (cl:List (Str × Addr)) (pm cdv ctv:Value) (us:List Value),us.length=ps.length→bindArgs (PySem.W.kla_fn "<lambda>" L.qual L.params L.body L.scope cl pm cdv ctv) ⟨us,[]⟩=pure (ps.zip us))
  (hbody:∀ (cl:List (Str × Addr)) (f:Addr) (cd:Value) (A:Around) (outer:List Env) (s:Shared) (H:Hp) (E:XK),RoomC cm k (A.deeper (PySem.W.envX L.qual L.scope s.heap.objs.size f cd cl)) →
   QE (X6 cm P w K mg base (ps++xK L.scope) L cl f cd A outer s H E) L.body fe):m5 P w K mg base cm (k+1) L ps.length fun caps ds S=>fe ((ds++caps).map some) S:=by
 intro A outer s H us ws cv a P' α St caps ds Q E hr e0 C r rc rd rv hn af
 obtain⟨cl,pm,ctv,c,oc,vs,t,o,hc,hd,ht,inj,cel,has,len,val,hna,hf⟩:=C
 have af:spR K P' α (fe ((ds++caps).map some) St) Q E:=af
 have lim:s.heap.NoLimit:=e0.mod.nolimit.keeps fun b o e=>(e0.bs b o e).1
 have hul:us.length=ps.length:=by rw[← rv.length,← rd.length];exact hn
 have hloc:∀ y∈ps.zip us,L.scope.names.lookup y.1=some .local:=fun y hy=>S.par _ (List.of_mem_zip hy).1
 refine PySem.W.kla_callFunE hr.depth o rfl S.co S.gen rfl ⟨c,oc,vs,t,rfl,(e0.hok c _ hc).1,hd,ht⟩ ?_
 rw[hb cl pm (.ref c) ctv us hul]
 refine wpAny_pure (wpAny_newFunctionEnv S.nocell hloc (fun h₁ hns hsb=>?_) S.kind)
 have hk₁:∀ b o,s.heap.get? b=some o→h₁.get? b=some o:=fun b o e=>hsb.extBut b o (Nat.ne_of_lt (Heap.lt_size e)) (Heap.get?_push_of_some _ e)
 refine⟨lim.keeps hk₁,?_⟩
 show codeAny _ _ (.expr L.body (PySem.W.envX L.qual L.scope s.heap.objs.size a (.ref c) cl)) _ _
 have I:=U2 (cm:=cm) (f:=a) (cd:=.ref c) (E:=E) (tk:=s.toks+(ps.zip us).length) S hr.hd e0 inj cel has len val (by rw[← rd.length];exact hn) rv hns hk₁
 have re:qW K P' α ((ws++cv).map some) ((ds++caps).map some):=by
  have z:=rd.append rc
  refine⟨by simp[z.length,rd.length,rc.length],fun i d e=>?_⟩
  rw[List.getElem?_map] at e
  obtain⟨d',e1,e2⟩:=Option.map_eq_some_iff.mp e
  cases e2
  obtain⟨v,h1,h2⟩:=z.get e1
  exact⟨v,by rw[List.getElem?_map,h1];rfl,h2⟩
 refine PySem.W.kla_codeExpr (wpAny_mono ((hbody cl a (.ref c) A outer s H E (hr.deeper _)).1 [] _ _ H Q I ⟨P',α,_,St,r,re,?_⟩) (fun u s' q=>?_) fun _ _ y=>y)
 ·cases z:fe ((ds++caps).map some) St with
  |ok d S'=>rw[z] at af;exact af
  |ex e x S'=>rw[z] at af;exact fun u s' q=>lM (A:=A) rfl q fun H' P1 α1 r1 e1 e2=>af H' P1 α1 r1 e1 e2
  |bad=>rw[z] at af;exact False.elim af
 ·obtain⟨v,H',I',rv',q⟩:=q
  exact⟨v,H',I'.os,I'.bare,I'.base,I'.hok,rv',q⟩
end
open Classical in
noncomputable def kO (i:Nat)(fa:DA)(a:Addr)(cv:List V)(n:Nat)(G:List D→DF):DE:=fun env S=>match env[i]? with
 |some (some (.clo b vs caps))=>if b=a∧vs=cv then (fa env S).bind fun ds S1=>if ds.length=n then G caps ds S1 else .bad else .bad
 |_=>.bad
section
variable {X:Cx}{cm:Bool}{k n i:Nat}{x:Str}{p pos:Pos}{e:Expr}{es:List Expr}{fa:DA}{L:LamT}{G:List D→DF}{a:Addr}{cv:List V}
set_option tactic.hygienic true in
theorem YU {env:qD}{S:Sto}{P:Hp}{α : List Addr}{Ok:D→Sto→Prop}(h:qJ X P α (kO i fa a cv n G env S) Ok):∃ caps,env[i]? = some (some (.clo a cv caps))∧qJ X P α ((fa env S).bind fun ds S1=>if ds.length=n then G caps ds S1 else .bad) Ok:=by
 unfold kO at h
 split at h
 ·rename_i b vs caps e
  obtain⟨⟨rfl,rfl⟩,h1⟩:=xM h
  exact⟨caps,e,h1⟩
 ·exact False.elim h
theorem SM {h:Heap}{H:Hp}{fs:List Addr}(C:CloAt h H fs L a cv):PySem.W.FnAt a h:=by
 obtain⟨cl,pm,ctv,c,oc,ws,t,o,_⟩:=C
 exact⟨_,_,_,_,o⟩
theorem YV {pins:List (Addr × Obj)}{σ : _L.St}{H P:Hp}{α : List Addr}{s:Shared}{Q:VK}{us:List Value}{ws:List V}{caps ds:List D}{S:Sto}(LX:m5 X.prog X.w X.K X.mg X.base cm k L n G)(hr:RoomC cm k X.A)(F:Fn1 X)(C:CloAt X.s₀.heap X.H₀ X.fs L a cv)
  (I:Inv X pins σ H s) (r:Rel X.K H P α S) (rc:qE X.K P α caps cv) (rp:qE X.K P α ds ws) (rv:qN ws us) (af:qU X P α (if ds.length=n then G caps ds S else .bad) Q):wpAny (model X.prog X.w) X.A (call (.ref a) us) (EP X pins σ Q) X.xe s:=by
 obtain⟨hn,af⟩:=xM af
 exact bH (fun _=>F) I af (LX X.A X.stack s H us ws cv a P α S caps ds Q _ hr I.env0 (C.at F I) r rc rp rv hn (sF af))
theorem BQ {pins:List (Addr × Obj)}{σ : _L.St}{H P:Hp}{α : List Addr}{env:qD}{s:Shared}{caps:List D}{Q:Value→Shared→Prop}(hN:X.N[i]? = some x)(hv:Vis X.env.scope x)(hd:(x == ("__debug__" : Str))=false)(hcd:(x == ("__classdict__" : Str))=false)
  (I:Inv X pins σ H s) (re:qW X.K P α σ env) (he:env[i]? = some (some (.clo a cv caps))) (h:∀ s1,Inv X pins σ H s1→qE X.K P α caps cv→Q (.ref a) s1):wpAny (model X.prog X.w) X.A (eval (.Name x p) X.env) Q X.xe s:=by
 obtain⟨v,e1,rp⟩:=re.2 i _ he
 simp only[Rep] at rp
 obtain⟨rfl,rc⟩:=rp
 refine thn (oH hN hv hd hcd pins s σ H (fun v H'=>v=.ref a∧H'=H) I ⟨_,e1,rfl,rfl⟩) fun u s1 ⟨v,H1,I1,rv,z1,z2⟩=>?_
 subst z1;subst z2
 cases (show u=Value.ref a from rv)
 exact h s1 I1 rc
theorem V5 (LX:m5 X.prog X.w X.K X.mg X.base cm k L n G)(hr:RoomC cm k X.A)(F:Fn1 X)(C:CloAt X.s₀.heap X.H₀ X.fs L a cv)(hN:X.N[i]? = some x)(hv:Vis X.env.scope x)(hd:(x == ("__debug__" : Str))=false)(hcd:(x == ("__classdict__" : Str))=false) :
  PE X (.Call (.Name x p) [] [] pos) (tD X (kO i qC a cv n G)):=by
 intro pins s σ H Q I h
 obtain⟨P,α,env,S,r,re,af⟩:=h
 obtain⟨caps,e1,af⟩:=YU af
 refine wpAny_Call_Name_kw (BQ hN hv hd hcd I re e1 fun s1 I1 rc=>?_)
 exact PySem.W.callWith_F0 (SM (C.at F I1)) (YV (us:=[]) LX hr F C I1 r rc .nil .nil af)
end
end _D
end
section
namespace _D
open PySem PySem.Spec PyProof.Rows _L
theorem sV {i j:Nat}{c:Value}(l:List Value)(h:TriplesOk l):TriplesOk (l++[rawInt i,rawInt j,c]):=by
 fun_induction TriplesOk l with
 |case1=>simp[TriplesOk,rawInt]
 |case2 _ _ _ _ _ rest ih=>simp only[List.cons_append,TriplesOk];exact ih h
 |case3=>exact False.elim h
set_option tactic.hygienic true in
theorem aI {pos:Pos}{i j:Nat}{c v:Value}(l:List Value)(h:TriplesOk l)(e:codeAmong pos (l++[rawInt i,rawInt j,c])=some v):codeAmong pos l=some v∨v=c:=by
 fun_induction TriplesOk l with
 |case1 =>
  simp only[List.nil_append,codeAmong,rawInt] at e
  split at e
  ·exact .inr (Option.some.inj e).symm
  ·cases e
 |case2 _ _ _ _ _ rest ih =>
  simp only[List.cons_append,codeAmong] at e ⊢
  split at e
  ·rename_i hc;rw[if_pos hc];exact .inl e
  ·rename_i hc;rw[if_neg hc];exact ih h e
 |case3=>exact False.elim h
theorem MOk.at {K:PySem.W.Frag}{H H' P:Hp}{α : List Addr}{a:Addr}(e:H' a=H a):∀ {o:MO},MOk K H P α a o→MOk K H' P α a o
 |.dead,_=>trivial
 |.lst _,⟨vs,q,r⟩=>⟨vs,e.trans q,r⟩
 |.dct _,⟨vs,q,r⟩=>⟨vs,e.trans q,r⟩
 |.ins _ _,⟨dx,vs,q,r⟩=>⟨dx,vs,e.trans q,r⟩
section
variable {X:Cx}{pins:List (Addr × Obj)}{σ : _L.St}{H P:Hp}{α : List Addr}{s:Shared}{S:Sto}{y:Str}{c T:Addr}
theorem Rel.grown {ps:Array Value}{c':Addr}{oc:Obj}{ws:Array Value}{t:Tok}{i j:Nat}(r:Rel X.K H P α S)(m:Mod X.K X.mg X.base)(hy:y∈wC)(ht:PySem.W.tabIn X.K y=some (c,T))(e:H T=some (.tbl ps))(pn:P T=none)(an:T ∉ α)(ok:TriplesOk ps.toList)
  (cd:∀ pos cv,codeAmong pos ps.toList=some cv→∃ c oc vs t,cv=.ref c∧H c=some (.frz oc (.frz oc (.own 0)))∧oc.data=.fields vs∧vs[1]? = some (.str (y ++ ".<locals>." ++ "<lambda>") t)) (hn:H c'=none) (hd:oc.data=.fields ws) (hs:ws[1]? = some (.str (y ++ ".<locals>." ++ "<lambda>") t)) :
  Rel X.K (upd (upd H T (.tbl (ps++#[rawInt i,rawInt j,.ref c']))) c' (.frz oc (.frz oc (.own 0)))) P α S:=by
 have ne:T≠c':=qQ e hn
 have go:∀ b u,b≠T→H b=some u→upd (upd H T (.tbl (ps++#[rawInt i,rawInt j,.ref c']))) c' (.frz oc (.frz oc (.own 0))) b=some u:=fun b u h q=>by rw[qI (qQ q hn),qI h];exact q
 have nT:∀ b∈α,b≠T:=fun b h z=>an (z▸h)
 have nc:∀ (k:Nat) b,α[k]? = some b→b≠c':=fun k b h z=>r.own k b h (z▸hn)
 have at':∀ (k:Nat) b,α[k]? = some b→upd (upd H T (.tbl (ps++#[rawInt i,rawInt j,.ref c']))) c' (.frz oc (.frz oc (.own 0))) b=H b:=fun k b h=>by rw[qI (nc k b h),qI (nT b (List.mem_of_getElem? h))]
 refine⟨fun x hx d U hU=>?_,fun b u q=>go b u (fun z=>by rw[z,pn] at q;cases q) (r.sub b u q),r.len,r.nd,r.sep,fun k b o h1 h2=>MOk.at (at' k b h1) (r.at' k b o h1 h2),fun k b h=>by rw[at' k b h];exact r.own k b h⟩
 by_cases hT:U=T
 ·subst hT
  cases m.inj x hx y hy d c U hU ht
  refine⟨_,by rw[qI ne];exact qS,pn,an,?_,fun pos cv q=>?_⟩
  ·rw[Array.toList_append];exact sV _ ok
  ·rw[Array.toList_append] at q
   rcases aI _ ok q with q|q
   ·obtain⟨d,od,vs,t,a1,a2,a3⟩:=cd pos cv q
    exact⟨d,od,vs,t,a1,go d _ (fun z=>by rw[z,e] at a2;cases a2) a2,a3⟩
   ·exact⟨c',oc,ws,t,q,qS,hd,hs⟩
 ·obtain⟨qs,e1,p1,a1,ok1,cd1⟩:=r.tb x hx d U hU
  exact⟨qs,go U _ hT e1,p1,a1,ok1,fun pos cv q=>let ⟨d,od,vs,t,b1,b2,b3⟩:=cd1 pos cv q;⟨d,od,vs,t,b1,go d _ (fun z=>by rw[z,e] at b2;cases b2) b2,b3⟩⟩
theorem Inv.pinned {a:Addr}{o:Obj}{h':Heap}{tk:Nat}{H':Hp}(I:Inv X pins σ H' { s with heap:=h'.push o,toks:=tk })(ha:a=h'.objs.size)(hs:s.heap.objs.size≤h'.objs.size)(I0:Inv X pins σ H s)(hn:H' a=none)(hd:∀ v,o.data≠.cell v)(hfr:o.isFreed=false:=by rfl):Inv X ((a,o)::pins) σ H' { s with heap:=h'.push o,toks:=tk }:=by
 refine I.pins_of fun p hp=>?_
 rcases List.mem_cons.mp hp with rfl|hp
 ·subst ha
  exact⟨Heap.get?_push_size _ hfr,hn,Nat.ne_of_gt (Nat.lt_of_lt_of_le I0.lt hs),I0.nofs hs,hd⟩
 ·exact I.pin p (List.mem_append_right _ hp)
theorem X9 {M:Model}{params:Arguments}{body:Expr}{scope:Scope}{lpos:Pos}{cl:List (Str × Addr)}{Q:Value→Shared→Prop}{E:Value→Shared→Prop}(I:Inv X pins σ H s)(r:Rel X.K H P α S)(hy:y∈wC)(ht:PySem.W.tabIn X.K y=some (c,T))(hc:X.env.code=.ref c)(hq:X.env.qual=y ++ ".<locals>.")
  (hdef:defaultsOf params X.env=([],[])) (hcl:closureFor scope X.env=pure cl)
  (h:∀ (a:Addr) (H':Hp) (s':Shared) (pm ctv:Value) (c':Addr) (oc:Obj) (ws:Array Value) (t:Tok),Inv X ((a,PySem.W.kla_obj "<lambda>" (y ++ ".<locals>." ++ "<lambda>") params body scope cl pm c' ctv)::pins) σ H' s'→Rel X.K H' P α S →
   H' c'=some (.frz oc (.frz oc (.own 0)))→oc.data=.fields ws→ws[1]? = some (.str (y ++ ".<locals>." ++ "<lambda>") t)→Q (.ref a) s'):wpAny M X.A (eval (.Lambda params body scope lpos) X.env) Q E s:=by
 obtain⟨ps,e,pn,an,ok,cd⟩:=r.tb y hy c T ht
 have hP:s.heap.get? T=some (PySem.W.tabObj ps):=I.hok T _ e
 have hC:PySem.W.CodeHd s.heap c T:=(I.mod.code y hy c T ht).keeps I.bk
 have hg:s.heap.Ns mainGlobals X.mg:=I.mod.glob.keeps I.bk
 have hgP:mainGlobals≠T:=fun z=>by
  obtain⟨o,es,ep,e1,d1,_⟩:=hg
  rw[z,hP] at e1;cases e1;cases d1
 have hb:s.heap.BuiltinsAt X.mg T:=by
  obtain⟨bm,o,b1,b2,b3,b4,b5,b6⟩:=I.mod.bm
  have b3':=I.bk _ _ b3
  refine⟨bm,o,b1,b2,fun z=>?_,fun z=>?_,b3',b4,b5,b6⟩
  ·obtain⟨o',es,ep,e1,d1,_⟩:=hg
   rw[← z,b3'] at e1;cases e1;rw[b6] at d1;cases d1
  ·rw[z,hP] at b3';cases b3';cases b4
 refine PySem.W.kla_eval hdef ?_
 rw[hq]
 cases hf:codeAmong lpos ps.toList with
 |none =>
  refine PySem.W.kla_makeFunction (mg:=X.mg) hcl I.ok.glob hg hc hC hP ok hf hgP hb fun c' ctv h' tk hx hge hlt hrec htb=>?_
  obtain⟨c2,oc,ws,t,z,hoc,hd,hs⟩:=hrec
  cases z
  have hn:H c'=none:=I.hok.fresh hge
  have ne:T≠c':=qQ e hn
  have hsz:s.heap.objs.size≤h'.objs.size:=Nat.le_trans hge (Nat.le_of_lt hlt)
  let o:=PySem.W.kla_obj "<lambda>" (y ++ ".<locals>." ++ "<lambda>") params body scope cl ((X.mg "__name__").getD .none) c' ctv
  have kp:∀ b u,b≠T→s.heap.get? b=some u→(h'.push o).get? b=some u:=fun b u hb q=>Heap.get?_push_of_some _ (hx b u hb q)
  have eT:(h'.push o).get? T=some (PySem.W.tabObj (ps++#[rawInt lpos.line,rawInt lpos.col,.ref c'])):=Heap.get?_push_of_some _ htb
  let H2:=upd (upd H T (.tbl (ps++#[rawInt lpos.line,rawInt lpos.col,.ref c']))) c' (.frz oc (.frz oc (.own 0)))
  have go:∀ b u,b≠T→H b=some u→H2 b=some u:=fun b u h q=>by show upd _ _ _ b=_;rw[qI (qQ q hn),qI h];exact q
  have go0:∀ b,b≠T→b≠c'→H b=none→H2 b=none:=fun b h h' q=>by show upd _ _ _ b=_;rw[qI h',qI h];exact q
  have nT:∀ b,H b=none→b≠T:=fun b q z=>by rw[z,e] at q;cases q
  have eH:H2 T=some (.tbl (ps++#[rawInt lpos.line,rawInt lpos.col,.ref c'])):=by show upd _ _ _ T=_;rw[qI ne];exact qS
  have un:Un X.fs [] H H2 s.heap (h'.push o):=by
   refine⟨fun b u q n _ _=>kp b u (nT b n) q,fun b u q n _ _=>⟨u.slots,kp b u (nT b n) q⟩,fun b u q n _=>go0 b (nT b n) (Nat.ne_of_lt (Nat.lt_of_lt_of_le (Heap.lt_size q) hge)) n,fun b u q _=>?_,fun b xs q=>go b _ (fun z=>by rw[z,e] at q;cases q) q,fun b u xs q=>go b _ (fun z=>by rw[z,e] at q;cases q) q,fun b qs q=>?_⟩
   ·by_cases hb:b=T
    ·rw[hb];exact⟨_,eT⟩
    ·exact⟨u,kp b u hb q⟩
   ·by_cases hb:b=T
    ·rw[hb,e] at q;cases q
     exact⟨_,by rw[hb];exact eH⟩
    ·exact⟨#[],by rw[go b _ hb q];simp⟩
  have hok:HOk X.prog X.w H2 (h'.push o):=fun b u q=>by
   by_cases hb:b=c'
   ·have q':some (HO.frz oc (.frz oc (.own 0)))=some u:=by rw[← q,hb];exact qS.symm
    cases q'
    have z:(h'.push o).get? b=some oc:=by rw[hb];exact Heap.get?_push_of_some _ hoc
    exact⟨z,z,_,z⟩
   ·by_cases hb2:b=T
    ·rw[hb2,eH] at q;cases q
     rw[hb2];exact eT
    ·have q':H b=some u:=by have q2:upd _ _ _ b=some u:=q;rw[qI hb,qI hb2] at q2;exact q2
     refine(I.hok b u q').stay (fun d v hd q=>kp d v ?_ q) (fun d q=>go d _ (fun z=>by rw[z,e] at q;cases q) q) fun d xs q=>go d _ (fun z=>by rw[z,e] at q;cases q) q
     rcases hd with z|z
     ·rw[z];exact hb2
     ·intro w;rw[w,e] at z;cases z
  have I2:=I.un (t':=tk) un hok
  refine h h'.objs.size H2 _ _ ctv c' oc ws t (Inv.pinned I2 rfl hsz I (go0 _ (fun z=>?_) (Nat.ne_of_gt hlt) (I.hok.fresh hsz)) fun v z=>by cases z) (r.grown I.mod hy ht e pn an ok cd hn hd hs) qS hd hs
  rw[← z] at e
  exact absurd (Nat.lt_of_lt_of_le (I.hok.lt e) hsz) (Nat.lt_irrefl _)
 |some cv =>
  obtain⟨c',oc,ws,t,rfl,a2,a3,a4⟩:=cd lpos cv hf
  refine PySem.W.kla_makeFunctionHit (mg:=X.mg) hcl I.ok.glob hg hc hC hP ok hf hb fun ctv h' tk hk hsz=>?_
  have I2:=I.kept (t':=tk) (h':=h'.push (PySem.W.kla_obj "<lambda>" (y ++ ".<locals>." ++ "<lambda>") params body scope cl ((X.mg "__name__").getD .none) c' ctv)) fun b u q=>Heap.get?_push_of_some _ (hk b u q)
  exact h h'.objs.size H _ _ ctv c' oc ws t (Inv.pinned I2 rfl hsz I (I.hok.fresh hsz) fun v z=>by cases z) r a2 a3 a4
end
end _D
end
section
namespace _D
open PySem PySem.Spec PyProof.Rows _L
def bI:List Nat→qD→Option (List D)
 |[],_=>some []
 |i::r,env=>match env[i]? with
  |some (some d)=>(bI r env).map (d::·)
  |_=>none
set_option tactic.hygienic true in
theorem r6 {K:PySem.W.Frag}{P:Hp}{α : List Addr}{σ : _L.St}{env:qD}(re:qW K P α σ env):∀ (cap:List Nat) (caps:List D),bI cap env=some caps→∃ cv,qE K P α caps cv∧cv.length=cap.length∧∀ (j i:Nat) v,cap[j]? = some i→cv[j]? = some v→σ[i]? = some (some v)
 |[],caps,h=>by cases h;exact⟨[],.nil,rfl,fun j i v e=>by simp at e⟩
 |i::r,caps,h=>by
  unfold bI at h
  split at h
  ·rename_i d e
   obtain⟨ds,h1,rfl⟩:=Option.map_eq_some_iff.mp h
   obtain⟨cv,a1,a2,a3⟩:=r6 re r ds h1
   obtain⟨v,b1,b2⟩:=re.2 i d e
   refine⟨v::cv,.cons b2 a1,by simp[a2],fun j k w e1 e2=>?_⟩
   cases j with
   |zero=>cases e1;cases e2;exact b1
   |succ j=>exact a3 j k w (by simpa using e1) (by simpa using e2)
  ·cases h
open Classical in
noncomputable def uni (f:Addr→List V→Res D):Res D:=if ∀ a cv,f a cv=f 0 [] then f 0 [] else .bad
theorem TV {f:Addr→List V→Res D}{R:Res D}(h:∀ a cv,f a cv=R):uni f=R:=by
 unfold uni
 rw[if_pos fun a cv=>(h a cv).trans (h 0 []).symm]
 exact h 0 []
set_option tactic.hygienic true in
theorem TU {f:Addr→List V→Res D}(h:uni f≠.bad)(a:Addr)(cv:List V):f a cv=uni f:=by
 unfold uni at h ⊢
 split at h
 ·rename_i z;rw[if_pos z];exact z a cv
 ·exact absurd rfl h
def exO (nx:Bool)(R:Res D):Res D:=match nx,R with
 |true,.ex _ _ _=>.bad
 |_,R=>R
noncomputable def gY (nx:Bool)(cap:List Nat)(n N:Nat)(fa:DA)(g:Addr→List V→DS):DE:=fun env S=>match bI cap env with
 |none=>.bad
 |some caps=>(fa env S).bind fun ds S1=>if ds.length+1=n then exO nx (uni fun a cv=>qT N (g a cv) (.clo a cv caps::ds) S1) else .bad
def KN (P:Program)(w:World)(K:PySem.W.Frag)(mg:Str→Option Value)(base:Heap)(cm:Bool)(k kl m:Nat)(x:Str)(n N:Nat)(g:(List D→DF)→Addr→List V→DS):Prop:=
 ∃ f fd st Ns ps,ps.length=n∧Ns.length=N∧mg x=some (.ref f)∧Fun K x x st f fd∧yV K fd ps [] ∧ FnScope Ns ps (qH st)∧∀ (L:LamT) (G:List D→DF) (a:Addr) (cv:List V),m5 P w K mg base cm kl L m G →
  ∀ (cdv:Value) (A:Around) (outer:List Env) (s:Shared) (H:Hp) (E:XK),CloAt s.heap H (frs outer) L a cv→RoomC cm k (A.deeper (envOfC x (qH st) s.heap.objs.size f cdv))→QB (cxC cm P w K mg base Ns x (qH st) f cdv A outer s H E) (zK st) (g G a cv)
def pE (scX:Scope)(NX:List Str)(sc:Scope)(cap:List Nat):Bool:=decide ((xK sc).length=cap.length)&&(cap.zip (xK sc)).all fun p=>NX[p.1]? == some p.2&&(scX.names.lookup p.2 == some .cell||scX.names.lookup p.2 == some .free)
section
variable {X:Cx}{pins:List (Addr × Obj)}{σ : _L.St}{H P:Hp}{α : List Addr}{s:Shared}{S:Sto}{y x:Str}{c T:Addr}{params:Arguments}{body:Expr}{scope:Scope}{lpos p pos:Pos}{es:List Expr}{fa:DA}{nx cm:Bool}{k kl m n N:Nat}{cap:List Nat}{G:List D→DF}{g:(List D→DF)→Addr→List V→DS}
theorem B0 {R:Res D}{Ok:D→Sto→Prop}(h:qJ X P α (exO nx R) Ok):R≠.bad∧qJ X P α R Ok∧((∃ c x S',R=.ex c x S')→nx=false):=by
 cases R with
 |ok d S'=>exact⟨nofun,by cases nx <;> exact h,fun ⟨_,_,_,z⟩=>nomatch z⟩
 |bad=>cases nx <;> exact False.elim h
 |ex c x S' =>
  cases nx with
  |true=>exact False.elim h
  |false=>exact⟨nofun,h,fun _=>rfl⟩
theorem Rel.know {K:PySem.W.Frag}{c':Addr}{oc:Obj}(r:Rel K H P α S)(h:H c'=some (.frz oc (.frz oc (.own 0)))):Rel K H (upd P c' (.frz oc (.frz oc (.own 0)))) α S∧qF P (upd P c' (.frz oc (.frz oc (.own 0)))):=by
 have sP:qF P (upd P c' (.frz oc (.frz oc (.own 0)))):=fun b u q=>by
  by_cases hb:b=c'
  ·have z:=r.sub b u q
   rw[hb,h] at z;cases z
   rw[hb];exact qS
  ·rw[qI hb];exact q
 refine⟨⟨fun x hx d T hT=>let ⟨ps,e,pn,an,ok,cd⟩:=r.tb x hx d T hT;⟨ps,e,(qI fun (z:T=c')=>by rw[z,h] at e;cases e).trans pn,an,ok,cd⟩,fun b u q=>?_,r.len,r.nd,fun i a o h1 h2 h3=>?_,fun i a o h1 h2=>(r.at' i a o h1 h2).mono sP (List.prefix_refl _),r.own⟩,sP⟩
 ·by_cases hb:b=c'
  ·rw[hb,qS] at q;cases q;rw[hb];exact h
  ·rw[qI hb] at q;exact r.sub b u q
 ·have hb:a≠c':=by
   rintro rfl
   have z:=r.at' i a o h1 h2
   cases o with
   |dead=>exact h3 rfl
   |lst ds=>obtain⟨vs,z,_⟩:=z;rw[h] at z;cases z
   |dct kvs=>obtain⟨vs,z,_⟩:=z;rw[h] at z;cases z
   |ins C fs=>obtain⟨dx,vs,z,_⟩:=z;rw[h] at z;cases z
  rw[qI hb];exact r.sep i a o h1 h2 h3
theorem tY {sc:Scope}{z:Str × NameKind}(h:z∈sc.names)(hk:z.2=.free):z.1∈xK sc:=List.mem_filterMap.mpr ⟨z,h,by rw[hk];rfl⟩
set_option tactic.hygienic true in
theorem XO {sc:Scope}{z:Str}(h:z∈xK sc):(z,NameKind.free)∈sc.names:=by
 obtain⟨⟨n,k⟩,h1,h2⟩:=List.mem_filterMap.mp h
 split at h2
 ·rename_i e
  have:k=NameKind.free:=by simpa using e
  cases h2;subst this;exact h1
 ·cases h2
theorem mT (hB:pE X.env.scope X.N scope cap=true){j:Nat}{z:Str}(h:(xK scope)[j]? = some z):∃ i,cap[j]? = some i∧X.N[i]? = some z∧(X.env.scope.names.lookup z=some .cell∨X.env.scope.names.lookup z=some .free):=by
 simp only[pE,Bool.and_eq_true,decide_eq_true_eq] at hB
 obtain⟨hl,ha⟩:=hB
 have hj:j<cap.length:=by rw[← hl];exact(List.getElem?_eq_some_iff.mp h).1
 have e:=List.getElem?_eq_getElem hj
 have hz:(cap[j],z)∈cap.zip (xK scope):=List.mem_iff_getElem?.mpr ⟨j,by rw[List.getElem?_zip_eq_some];exact⟨e,h⟩⟩
 have q:=List.all_eq_true.mp ha _ hz
 simp only[Bool.and_eq_true,Bool.or_eq_true,beq_iff_eq] at q
 exact⟨_,e,q.1,q.2⟩
theorem X8 (hB:pE X.env.scope X.N scope cap=true)(ok:X.Ok):closureFor scope X.env=pure (wL X.env.cells scope.names []):=gQ fun z hz hk=>by
 obtain⟨j,hj⟩:=List.mem_iff_getElem?.mp (tY hz hk)
 obtain⟨i,_,_,q⟩:=mT hB hj
 exact ok.has z.1 q
theorem uS (hB:pE X.env.scope X.N scope cap=true)(ok:X.Ok){z:Str}{d:Addr}(h:(wL X.env.cells scope.names []).lookup z=some d):X.env.cells.lookup z=some d:=by
 rcases jN _ _ h with h|⟨hm,hc⟩
 ·cases h
 ·obtain⟨j,hj⟩:=List.mem_iff_getElem?.mp (tY hm rfl)
  obtain⟨i,_,_,q⟩:=mT hB hj
  obtain⟨d',e⟩:=ok.has z q
  rw[e,Option.getD_some] at hc
  rw[e,hc]
theorem GA {a c':Addr}{oc:Obj}{ws:Array Value}{t:Tok}{pm ctv:Value}{cv:List V}{H':Hp}{s':Shared}(hB:pE X.env.scope X.N scope cap=true)(I:Inv X ((a,PySem.W.kla_obj "<lambda>" (y ++ ".<locals>." ++ "<lambda>") params body scope (wL X.env.cells scope.names []) pm c' ctv)::pins) σ H' s')
  (hc:H' c'=some (.frz oc (.frz oc (.own 0)))) (hd:oc.data=.fields ws) (hs:ws[1]? = some (.str (y ++ ".<locals>." ++ "<lambda>") t)) (hl:cv.length=cap.length) (hv:∀ (j i:Nat) v,cap[j]? = some i→cv[j]? = some v→σ[i]? = some (some v)) :
  CloAt s'.heap H' (frs X.stack) ⟨y ++ ".<locals>." ++ "<lambda>",params,body,scope⟩ a cv:=by
 obtain⟨e1,n1,n2,n3,_⟩:=I.pin _ (List.mem_append_right _ (.head _))
 refine⟨_,pm,ctv,c',oc,ws,t,e1,hc,hd,hs,fun z z' d h1 h2=>I.ok.inj z z' d (uS hB I.ok h1) (uS hB I.ok h2),fun z d h=>⟨I.freeC z d (uS hB I.ok h),I.cell z d (uS hB I.ok h)⟩,fun z hz=>jA _ _ (.inl (PySem.mem_of_lookup hz)),?_,fun j z v h1 h2=>?_,n1,fun z=>?_⟩
 ·simp only[pE,Bool.and_eq_true,decide_eq_true_eq] at hB
  rw[hl,← hB.1]
 ·obtain⟨i,q1,q2,q3⟩:=mT hB h1
  obtain⟨m,hm,hlk⟩:=I.loc
  obtain⟨u,ru,lk⟩:=hlk i z v q2 (hv j i v q1 h2) (q3.elim (fun k=>.inr (.inl k)) fun k=>.inr (.inr k))
  rcases lk with⟨kl,_⟩|⟨_,d,hcl,hcell⟩
  ·have kl':X.env.scope.names.lookup z=some .local:=kl
   rcases q3 with k|k <;> (rw[kl'] at k;cases k)
  ·obtain⟨d',hd'⟩:=jA (cells:=X.env.cells) scope.names [] (.inl (XO (List.mem_of_getElem? h1)))
   have:=uS hB I.ok hd'
   rw[hcl] at this;cases this
   exact⟨d,u,hd',ru,hcell⟩
 ·rcases List.mem_cons.mp (I.stkSub a z) with z|z
  ·exact n2 z
  ·exact n3 z
theorem Z8 (D:KN X.prog X.w X.K X.mg X.base cm k kl m x n N g)(LX:m5 X.prog X.w X.K X.mg X.base cm kl ⟨y ++ ".<locals>." ++ "<lambda>",params,body,scope⟩ m G)(hr:RoomC cm (k+1) X.A)(hF:nx=false→Fn1 X)(hg:Gl X x)(hdb:(x == ("__debug__" : Str))=false)
  (hy:y∈wC) (ht:PySem.W.tabIn X.K y=some (c,T)) (hc:X.env.code=.ref c) (hq:X.env.qual=y ++ ".<locals>.") (hdef:defaultsOf params X.env=([],[])) (hB:pE X.env.scope X.N scope cap=true) (ha:PA X es (tDA X fa))
  (he:starEach (.Lambda params body scope lpos::es) X.env=(false,eval (.Lambda params body scope lpos) X.env)::starEach es X.env) (hpl:(backTo pos (starEach es X.env)).any (·.1)=false) :
  PE X (.Call (.Name x p) (.Lambda params body scope lpos::es) [] pos) (tD X (gY nx cap n N fa (g G))):=by
 intro pins s σ H Q I h
 obtain⟨P,α,env,S,r,re,af⟩:=h
 obtain⟨f,fd,st,Ns,ps,hn,hN,hm,F,hb,hS,hbody⟩:=D
 subst hn;subst hN
 have af:qJ X P α (match bI cap env with
  |none=>.bad
  |some caps=>(fa env S).bind fun ds S1=>if ds.length+1=ps.length then exO nx (uni fun a cv=>qT Ns.length (g G a cv) (.clo a cv caps::ds) S1) else .bad) (OkV X P α Q):=af
 cases hcap:bI cap env with
 |none=>rw[hcap] at af;exact False.elim af
 |some caps =>
  rw[hcap] at af
  obtain⟨cv,rc,hcl,hv⟩:=r6 re cap caps hcap
  refine wpAny_Call_Name_kw (vN I hg hm ?_ hdb)
  refine PySem.W.callWith_K (h₀:=X.base) I.ok.mod.kin F.kp ?_ he hpl
  rw[he]
  show wpAny _ _ (spliced ((false,eval (.Lambda params body scope lpos) X.env)::backTo pos (starEach es X.env))) _ _ s
  refine Calls.spliced_cons (X9 I r hy ht hc hq hdef (X8 hB I.ok) fun a H1 s1 pm ctv c' oc ws t I1 r1 hc' hd hs=>?_)
  obtain⟨rk,sk⟩:=Rel.know r1 hc'
  refine thn (wH ha I1 rk (re.mono sk (List.prefix_refl _)) (qU.base sk (List.prefix_refl _) af) pos) fun us s2 ⟨vs,H2,P2,α2,ds,S2,I2,rv,r2,re2,rp,q1,q2,af2⟩=>⟨I2.kIn,?_⟩
  obtain⟨hl,af3⟩:=xM af2
  obtain⟨nb,af4,nf⟩:=B0 af3
  have e1:=TU nb a cv
  rw[← e1] at af4 nf
  have C:=GA hB I2 (r2.sub _ _ (q1 _ _ qS)) hd hs hcl hv
  have I3:Inv X pins σ H2 s2:=I2.pins_of fun p hp=>I2.pin p (List.mem_append_right _ (List.mem_cons_of_mem _ hp))
  obtain⟨oc',od,kV,doc,pm',an,cdv,ct,osl,rfl,lk,hcd⟩:=F.ex
  have hz:(Value.ref a::us).length=ps.length:=by rw[← hl,rp.length,rv.length];rfl
  have hb':=hb s2 (.ref a::us) I2.kIn (by rw[List.append_nil];exact hz)
  rw[List.append_nil] at hb'
  have rc2:=qE.mono (sk.trans q1) q2 _ _ rc
  have af5:=qU.base q1 q2 af4
  have rv2:qN (V.ref a::vs) (Value.ref a::us):=.cons rfl rv
  exact bH (fun z=>hF (nf z)) I3 af5 (iH lk hcd hS (by rw[← hz];exact rv2.length) hr I3.env0 hb' rv2 (lB (hbody _ G a cv LX cdv X.A X.stack s2 H2 _ C (hr.deeper _)).1 r2 (.cons (by simp only[Rep];exact⟨trivial,rc2⟩) rp) (sF af5)))
end
end _D
end
section
namespace _D
open PySem PySem.Spec PyProof.Rows _L
section
variable {X:Cx}{pins:List (Addr × Obj)}{σ : _L.St}{H P:Hp}{α : List Addr}{s:Shared}{S:Sto}
def kR:DF:=fun ds S=>match ds with
 |[d,.tup [.ty b,.ty c]]=>if xS b=true∧xS c=true then match tyD d S with
   |some a=>.ok (.bl (zH a b||zH a c)) S
   |none=>.bad
  else .bad
 |_=>.bad
inductive KitAt (X:Cx)(u:Value)(t:Value)(h:Heap):Prop
 |mk (Hh:Heap→Prop) (Z:PySem.W.KitX X.K u t Hh) (p:Hh h) (ne:u≠.builtin "__main__.__loader__#opaque"):KitAt X u t h
theorem BL {v:V}{u:Value}{d:D}{a:String}(I:Inv X pins σ H s)(r:Rel X.K H P α S)(q:qK v u)(p:Rep X.K P α d v)(ha:tyD d S=some a):KitAt X u (.type a) s.heap:=by
 cases YI r p ha with
 |tup p' ws e sq ea =>
  subst e ea
  cases (show u=Value.ref p' from q)
  obtain⟨its,rv',⟨o,h1,h2,_⟩,_⟩:=I.tuple sq
  exact⟨_,PySem.W.kitx_tuple,⟨o,h1,h2⟩,fun z=>nomatch z⟩
 |lst p' ws e sq ea =>
  subst e ea
  cases (show u=Value.ref p' from q)
  obtain⟨its,rv',⟨o,_,h1,h2,_⟩,_⟩:=I.list sq
  exact⟨_,PySem.W.kitx_list,⟨o,h1,h2⟩,fun z=>nomatch z⟩
 |of ty =>
  cases ty with
  |non=>cases (show u=Value.none from q);exact⟨_,PySem.W.kitx_none,True.intro,fun z=>nomatch z⟩
  |bl y=>cases (show u=Value.bool y from q);exact⟨_,PySem.W.kitx_bool,True.intro,fun z=>nomatch z⟩
  |int i=>obtain⟨t,q⟩:=(show ∃ t,u=Value.int i t from q);cases q;exact⟨_,PySem.W.kitx_int,True.intro,fun z=>nomatch z⟩
  |str y=>obtain⟨t,q⟩:=(show ∃ t,u=Value.str y t from q);cases q;exact⟨_,PySem.W.kitx_str,True.intro,fun z=>nomatch z⟩
  |flt y=>cases d <;> first|(exact nn ha)|(simp only[Rep] at p;cases p;done)|(simp only[Rep] at p;obtain⟨_,p⟩:=p;cases p.1;done)|(simp only[Rep] at p;obtain⟨_,_,p⟩:=p;cases p.1;done)
  |@lst b xs ea =>
   cases (show u=Value.ref b from q)
   obtain⟨_,_,n,_,h1⟩:=(show zA X.prog X.w H s.heap b (.lst xs) from I.hok b _ ea)
   exact⟨_,PySem.W.kitx_list,⟨_,h1,rfl⟩,fun z=>nomatch z⟩
  |@frz b ob xs ea =>
   cases (show u=Value.ref b from q)
   obtain⟨_,_,_,n,_,h1⟩:=(show zA X.prog X.w H s.heap b (.frz ob (.lst xs)) from I.hok b _ ea)
   exact⟨_,PySem.W.kitx_list,⟨_,h1,rfl⟩,fun z=>nomatch z⟩
  |@tup b xs ea =>
   cases (show u=Value.ref b from q)
   obtain⟨_,_,_,p⟩:=(show zA X.prog X.w H s.heap b (.tup xs) from I.hok b _ ea)
   obtain⟨o,h1,h2,_⟩:=p
   exact⟨_,PySem.W.kitx_tuple,⟨o,h1,h2⟩,fun z=>nomatch z⟩
  |@dK b kvs ea =>
   cases (show u=Value.ref b from q)
   obtain⟨_,_,vs,_,p⟩:=(show zA X.prog X.w H s.heap b (.dK kvs) from I.hok b _ ea)
   obtain⟨o,es,ep,h1,h2,_⟩:=p
   exact⟨_,PySem.W.kitx_dict,⟨o,h1,h2.1⟩,fun z=>nomatch z⟩
  |@dT b kvs ea =>
   cases (show u=Value.ref b from q)
   obtain⟨_,_,xs,_,o,es,ep,h1,h2,_⟩:=(show zA X.prog X.w H s.heap b (.dT kvs) from I.hok b _ ea)
   exact⟨_,PySem.W.kitx_dict,⟨o,h1,h2.1⟩,fun z=>nomatch z⟩
set_option tactic.hygienic true in
theorem X0 {ds:List D}{Ok:D→Sto→Prop}(h:qJ X P α (kR ds S) Ok):∃ d b c a,ds=[d,.tup [.ty b,.ty c]]∧xS b=true∧xS c=true∧tyD d S=some a∧Ok (.bl (zH a b||zH a c)) S:=by
 unfold kR at h
 split at h
 ·rename_i d b c
  obtain⟨⟨h1,h2⟩,h⟩:=xM h
  split at h
  ·rename_i a ha
   exact⟨d,b,c,a,rfl,h1,h2,ha,h⟩
  ·exact False.elim h
 ·exact False.elim h
theorem YQ:wX X (.builtin "isinstance") kR:=by
 intro pins σ H s P α S vs us ds Q I r rv rp af
 obtain⟨d,b,c,a,rfl,hb,hc,ha,ok⟩:=X0 af
 obtain⟨v,w,u,x,rfl,rfl,p,p',q,q'⟩:=gI rp rv
 simp only[Rep] at p'
 obtain⟨tp,ws,rfl,sq,t⟩:=p'
 obtain⟨w1,ws1,rfl,z1,t⟩:=t.cons_inv
 obtain⟨w2,ws2,rfl,z2,t⟩:=t.cons_inv
 cases t.nil_inv
 simp only[Rep] at z1 z2
 subst z1 z2
 cases (show x=Value.ref tp from q')
 obtain⟨its,rvi,⟨o,h1,h2,n,h3⟩,_⟩:=I.tuple (w9 r.sub sq)
 obtain⟨i1,i2,rfl,y1,y2⟩:=nY rvi
 cases (show i1=Value.type b from y1)
 cases (show i2=Value.type c from y2)
 obtain⟨Hh,Z,hp,ne⟩:=BL I r q p ha
 obtain⟨oc,od,odt,osl⟩:=o
 cases h2
 cases h3
 have k1:=mR (K:=X.K) (sL ha) hb
 have k2:=mR (K:=X.K) (sL ha) hc
 refine PySem.W.kia_tup (its:=[.type b,.type c]) (b:=zH a b||zH a c) Z I.kIn hp h1 ?_ ne fun tk=>⟨.bl _,H,I.tok tk,rfl,xr ok r (by simp only[Rep])⟩
 cases z:zH a b with
 |true=>rw[z] at k1;simp only[PySem.W.kitAny,k1];rfl
 |false =>
  rw[z] at k1
  cases z':zH a c with
  |true=>rw[z'] at k2;simp only[PySem.W.kitAny,k1,k2];rfl
  |false=>rw[z'] at k2;simp only[PySem.W.kitAny,k1,k2];rfl
end
end _D
end
section
namespace _D
open PySem PySem.Spec PyProof.Rows _L
def okV (X:Cx)(i:Nat)(x:Str):Bool:=decide (X.N[i]? = some x)&&(isV (X.env.scope.names.lookup x)&&okN x)
def BM (fe:DE):List D→DF:=fun caps ds S=>fe ((ds++caps).map some) S
def X7 (sc:Scope)(ps:List Str):Bool:=decide (sc.kind=.function)&&(decide (sc.isCoroutine=false)&&(decide (sc.isGenerator=false)&&(decide (∀ y∈sc.names,y.2≠.cell)&&(decide (∀ x∈ps,sc.names.lookup x=some .local)&&decide (∀ x∈xK sc,sc.names.lookup x=some .free)))))
structure LmX (G:List D→DF)(P:Program)(w:World)(K:PySem.W.Frag)(mg:Str→Option Value)(base:Heap)(cm:Bool)(k:Nat)(L:LamT)(n:Nat):Prop where
 get:m5 P w K mg base cm k L n G
structure DfL (g:(List D→DF)→Addr→List V→DS)(P:Program)(w:World)(K:PySem.W.Frag)(mg:Str→Option Value)(base:Heap)(cm:Bool)(k kl m:Nat)(x:Str)(n N:Nat):Prop where
 get:KN P w K mg base cm k kl m x n N g
structure ClA (X:Cx)(L:LamT)(a:Addr)(cv:List V):Prop where
 get:CloAt X.s₀.heap X.H₀ X.fs L a cv
structure LmK (X:Cx)(y:Str):Prop where
 get:y∈wC∧kI X.K y X.env.code∧X.env.qual=y ++ ".<locals>." ∧ ∃ c T,PySem.W.tabIn X.K y=some (c,T)
section
variable {X:Cx}{cm nx:Bool}{k kl m n N i:Nat}{x y:Str}{p pos lpos:Pos}{e:Expr}{es:List Expr}{fA:DA}{fe:DE}{L:LamT}{G:List D→DF}{a:Addr}{cv:List V}{g:(List D→DF)→Addr→List V→DS}{Fs:FnL}{cap:List Nat}{params:Arguments}{body:Expr}{scope:Scope}
theorem FG (h:Ck (okV X i x)):X.N[i]? = some x∧Vis X.env.scope x∧(x == ("__debug__" : Str))=false∧(x == ("__classdict__" : Str))=false:=by
 unfold Ck okV at h
 simp only[Bool.and_eq_true,decide_eq_true_eq] at h
 exact⟨h.1,rP h.2.1,(kA h.2.2).1,(kA h.2.2).2.1⟩
theorem aK0 (LX:LmX G X.prog X.w X.K X.mg X.base cm k L n)(C:ClA X L a cv)(hr:RoomC cm k X.A)(F:Fn1 X)(h:Ck (okV X i x)):QE X (.Call (.Name x p) [] [] pos) (kO i qC a cv n G):=
 have h:=FG h
 ⟨V5 LX.1 hr F C.1 h.1 h.2.1 h.2.2.1 h.2.2.2⟩
theorem SX {ps:List Str}{q:Str}(h:Ck (X7 scope ps))(one:ps.length≤1):LamSc ⟨q,params,body,scope⟩ ps:=by
 unfold Ck at h
 simp only[X7,Bool.and_eq_true,decide_eq_true_eq] at h
 obtain⟨a,b,c,d,e,f⟩:=h
 exact⟨a,b,c,d,e,one,f⟩
theorem SB (D:DfL g X.prog X.w X.K X.mg X.base cm k (kl+1) 0 x n N)(M:LmK X y)(hr:RoomC cm (k+1) X.A)(hF:nx=false→Fn1 X)(h:Ck (okG X x&&pE X.env.scope X.N scope cap))(hs:Ck (X7 scope []))(hdef:defaultsOf params X.env=([],[]))
  (hb:∀ (q:Str) (b:Expr) (cl:List (Str × Addr)) (pm cdv ctv:Value),bindArgs (PySem.W.kla_fn "<lambda>" q params b scope cl pm cdv ctv) ⟨[],[]⟩ = pure [])
  (hbody:∀ (cl:List (Str × Addr)) (f:Addr) (cd:Value) (A:Around) (outer:List Env) (s:Shared) (H:Hp) (E:XK),RoomC cm kl (A.deeper (PySem.W.envX (y ++ ".<locals>." ++ "<lambda>") scope s.heap.objs.size f cd cl)) →
   QE (X6 cm X.prog X.w X.K X.mg X.base ([] ++ xK scope) ⟨y ++ ".<locals>." ++ "<lambda>",params,body,scope⟩ cl f cd A outer s H E) body fe)
  (ha:QA X es fA) (s:St1 X (.Lambda params body scope lpos) es pos):QE X (.Call (.Name x p) (.Lambda params body scope lpos::es) [] pos) (gY nx cap n N fA (g (BM fe))):=by
 unfold Ck at h
 rw[Bool.and_eq_true] at h
 obtain⟨m1,m2,m3,c,T,m4⟩:=M.1
 have hg:=w4 h.1
 exact⟨Z8 D.1 (BO (ps:=[]) (SX hs (by decide)) (fun cl pm cdv ctv us hl=>by cases us with|nil=>exact hb _ _ _ _ _ _|cons _ _=>cases hl) hbody) hr hF hg.1 hg.2.1 m1 m4 (m2 c T m4) m3 hdef h.2 ha.1 s.1 s.2⟩
theorem ClA.tr {E:Value→Shared→Prop}{pn:List (Addr × Obj)}(h:ClA X L a cv):ClA (Cx.tryIn X E pn) L a cv:=⟨h.1⟩
theorem lmK {ls:List Str}(h:(ls.all fun y=>(PySem.W.tabIn X.K y).isSome)=true)(hc:kI X.K y X.env.code)(hy:Ck (ls.contains y&&wC.contains y))(hq:X.env.qual=y ++ ".<locals>."):LmK X y:=by
 unfold Ck at hy
 rw[Bool.and_eq_true] at hy
 obtain⟨⟨c,T⟩,e⟩:=Option.isSome_iff_exists.mp (List.all_eq_true.mp h y (by simpa using hy.1))
 exact⟨by simpa using hy.2,hc,hq,c,T,e⟩
theorem QD:ZCall X (.builtin "isinstance") kR:=⟨YQ⟩
end
section
variable {P:Program}{w:World}{K:PySem.W.Frag}{mg:Str→Option Value}{base:Heap}{cm:Bool}{tp:Nat→Stmt}{tab:List (Str × Nat × List Str)}{bl:List Str}{clt plt:List (Str × Addr)}{cs:List Value}{exl:List Addr}{cst:List (Str × Int)}{x:Str}{i:Nat}{ps:List Str}{N:Nat}
theorem dqL {g:(List D→DF)→Addr→List V→DS}(P:Program)(w:World)(base:Heap)(k kl m j:Nat)(T:TxS K mg tp tab bl clt plt cs exl cst)(hj:tab[j]? = some (x,i,ps))(h:Ck (fnB (jR (qH (tp i))) ps (qH (tp i))&&decide ((jR (qH (tp i))).length=N)))
  (hb:∀ (L:LamT) (G:List D→DF) (a:Addr) (cv:List V),LmX G P w K mg base cm kl L m→∀ (f:Addr) (cdv:Value) (A:Around) (outer:List Env) (s:Shared) (H:Hp) (E:XK),ClA (cxC cm P w K mg base (jR (qH (tp i))) x (qH (tp i)) f cdv A outer s H E) L a cv→RoomC cm k (A.deeper (envOfC x (qH (tp i)) s.heap.objs.size f cdv)) →
   QB (cxC cm P w K mg base (jR (qH (tp i))) x (qH (tp i)) f cdv A outer s H E) (zK (tp i)) (g G a cv)):DfL g P w K mg base cm k kl m x ps.length N:=by
 unfold Ck at h
 simp only[Bool.and_eq_true,decide_eq_true_eq] at h
 obtain⟨h,rfl⟩:=h
 obtain⟨f,fd,hm,F,hbd⟩:=T.src j hj
 exact⟨f,fd,tp i,_,ps,rfl,rfl,hm,F,hbd,lZ h,fun L G a cv LX cdv A outer s H E C hr=>hb L G a cv ⟨LX⟩ f cdv A outer s H E ⟨C⟩ hr⟩
end
end _D
end
section
namespace _D
open PySem PySem.Spec PyProof.Rows _L
section
variable {X:Cx}{pins:List (Addr × Obj)}{σ : _L.St}{H P:Hp}{α : List Addr}{s:Shared}{S:Sto}
def jZ:D→List D→Sto→Res D:=fun a ds S=>match a,ds with
 |.loc i,[.lst ys]=>cR S i fun xs=>if xs.length+ys.length≤lim then .ok .non (S.set i (.lst (xs++ys))) else .bad
 |_,_=>.bad
theorem JZ {a:Addr}{xs:List V}(I:Inv X pins σ H s)(h:SqX X.K H a xs):xs.length≤sizeLine∧∃ (its:List Value) (n:Nat),qN xs its∧s.heap.get? a=some { cls:=.type "list",data:=.seq its.toArray n }:=by
 rcases h with h|⟨its,n,e,l,v⟩
 ·exact h.ok I.hok
 ·exact⟨l,its,n,v,I.kIn _ _ e⟩
set_option tactic.hygienic true in
theorem o7:MtD X "list.extend" jZ:=by
 intro pins σ H s P α S v vv vs us a ds Q I r rv p rvs rps af
 unfold jZ at af
 split at af
 ·rename_i i ys
  obtain⟨xs,hS,af⟩:=uX af
  obtain⟨hl,ok⟩:=xM af
  obtain⟨w,u,rfl,rfl,p',q'⟩:=vC rps rvs
  simp only[Rep] at p p'
  obtain⟨l,rfl,q⟩:=p
  obtain⟨b,zs,rfl,sq,t'⟩:=p'
  obtain⟨ws,z,t⟩:=r.at' i l _ q hS
  cases rv
  cases (show u=Value.ref b from q')
  obtain⟨z1,its,n,r1,e⟩:=(show zA X.prog X.w H s.heap l (.lst ws) from I.hok l _ z)
  obtain⟨z2,its2,n2,r2,e2⟩:=JZ I (xG r.sub sq)
  have l1:=r1.length
  have l2:=r2.length
  have l3:=t.length
  have l4:=t'.length
  rw[zO] at hl
  have hsz:its.toArray.size+its2.toArray.size≤sizeLine:=by rw[List.size_toArray,List.size_toArray];omega
  have hlong:¬ (!its.toArray.isEmpty&&Builtin.List.listTooLong (its.toArray.size+its2.toArray.size))=true:=by
   rw[XN hsz,Bool.and_false]
   exact Bool.false_ne_true
  refine call_meets F.slot_list_extend ⟨_,e,rfl⟩ F.entry_list_extend (F.args_list_extend_2 _ _)
   (AutoSeq1.list_extend_list_list_0 l its.toArray n b its2.toArray n2 hlong (by rw[List.size_toArray];omega) (by omega)) ⟨e,e2,?_⟩
  refine⟨.non,_,I.lset (its':=its++its2) z e (by simp) (r1.append r2) (by rw[List.length_append];omega),rfl,?_⟩
  exact xr ok (r.put (m':=.lst (xs++ys)) q hS (by intro z;cases z) ⟨ws++zs,qS,t.append t'⟩) (by simp only[Rep])
 ·exact False.elim af
theorem WJ:ZMt X "list.extend" jZ:=⟨o7⟩
end
end _D
end
section
namespace _D
open PySem PySem.Spec PyProof.Rows _L
mutual
def zD:D→List Int
 |.int n=>[1,n]
 |.tup xs=>2::qY xs
 |_=>[]
def qY:List D→List Int
 |[]=>[0]
 |x::xs=>zD x++qY xs
end
mutual
def yA:D→D→Bool
 |.int _,.int _=>true
 |.tup xs,.tup ys=>wZ xs ys
 |_,_=>false
def wZ:List D→List D→Bool
 |x::xs,y::ys=>yA x y&&wZ xs ys
 |_,_=>true
end
def ltN (a b:D):Bool:=_H.lexLt (zD a) (zD b)
def trb:Nat→D→Bool
 |_,.int _=>true
 |n+1,.tup xs=>xs.all (trb n)
 |_,_=>false
inductive Tr:Nat→D→Prop
 |int (n:Nat) (i:Int):Tr n (.int i)
 |tup (n:Nat) (xs:List D) (h:∀ x∈xs,Tr n x):Tr (n+1) (.tup xs)
theorem D8:∀ {n:Nat} {d:D},trb n d=true→Tr n d:=by
 intro n
 induction n with
 |zero=>intro d h;cases d <;> first|exact .int _ _|exact Bool.noConfusion h
 |succ n ih =>
  intro d h
  cases d with
  |int i=>exact .int _ i
  |tup xs=>exact .tup n xs fun x hx=>ih (List.all_eq_true.mp (show xs.all (trb n)=true from h) x hx)
  |_=>exact Bool.noConfusion h
theorem yS {n:Nat}{d:D}(h:Tr n d):∃ k r,zD d=k::r∧0<k:=by
 cases h with
 |int _ i=>exact⟨1,[i],rfl,by decide⟩
 |tup n xs=>exact⟨2,qY xs,rfl,by decide⟩
theorem zP (x:D)(xs:List D):qY (x::xs)=zD x++qY xs:=rfl
theorem tX:∀ {xs ys:List D} {n m:Nat},(∀ x∈xs,Tr n x)→(∀ y∈ys,Tr m y)→(∀ x∈xs,∀ y∈ys,yA x y=true→∀ r r':List Int,_H.lexLt (zD x++r) (zD y++r')=if eqD x y=true then _H.lexLt r r' else ltN x y)→wZ xs ys=true →
  ∀ r r':List Int,_H.lexLt (qY xs++r) (qY ys++r')=if xI xs ys=true then _H.lexLt r r' else _H.lexLt (qY xs) (qY ys)
 |[],[],_,_,_,_,_,_,r,r'=>rfl
 |[],y::ys,_,_,_,h2,_,_,r,r'=>by
  obtain⟨k,t,e,p⟩:=yS (h2 y (by simp))
  rw[if_neg (by intro z;cases z),zP,e]
  show _H.lexLt (0::r) (k::_)=_H.lexLt [0] (k::_)
  rw[_H.lexLt_cons,_H.lexLt_cons,if_neg (by omega),if_neg (by omega)]
 |x::xs,[],_,_,h1,_,_,_,r,r'=>by
  obtain⟨k,t,e,p⟩:=yS (h1 x (by simp))
  rw[if_neg (by intro z;cases z),zP,e]
  show _H.lexLt (k::_) (0::r')=_H.lexLt (k::_) [0]
  rw[_H.lexLt_cons,_H.lexLt_cons,if_neg (by omega),if_neg (by omega)]
 |x::xs,y::ys,_,_,h1,h2,h3,hc,r,r'=>by
  have hc':(yA x y&&wZ xs ys)=true:=hc
  rw[Bool.and_eq_true] at hc'
  have ih:=tX (fun z hz=>h1 z (by simp[hz])) (fun z hz=>h2 z (by simp[hz])) (fun z hz y' hy=>h3 z (by simp[hz]) y' (by simp[hy])) hc'.2
  rw[zP,zP,List.append_assoc,List.append_assoc,h3 x (by simp) y (by simp) hc'.1,h3 x (by simp) y (by simp) hc'.1,ih,tQ]
  cases eqD x y <;> cases xI xs ys <;> simp
theorem XD {n:Nat}{a:D}(ha:Tr n a):∀ {m:Nat} {b:D},Tr m b→yA a b=true→∀ r r':List Int,_H.lexLt (zD a++r) (zD b++r')=if eqD a b=true then _H.lexLt r r' else ltN a b:=by
 induction ha with
 |int n i =>
  intro m b hb hc r r'
  cases hb with
  |int _ j =>
   show _H.lexLt (1::i::r) (1::j::r')=if (i == j)=true then _ else _H.lexLt [1,i] [1,j]
   simp only[_H.lexLt_cons,if_true,beq_iff_eq]
   split <;> rfl
  |tup _ ys=>exact Bool.noConfusion hc
 |tup n xs hx ih =>
  intro m b hb hc r r'
  cases hb with
  |int _ j=>exact Bool.noConfusion hc
  |tup m ys hy =>
   have h:=tX hx hy (fun x hx' y hy' hc'=>ih x hx' (hy y hy') hc') hc r r'
   show _H.lexLt (2::(qY xs++r)) (2::(qY ys++r'))=if xI xs ys=true then _ else _H.lexLt (2::qY xs) (2::qY ys)
   rw[_H.lexLt_cons,_H.lexLt_cons,if_pos rfl,if_pos rfl,h]
theorem pW {xs ys:List D}:ltN (.tup xs) (.tup ys)=_H.lexLt (qY xs) (qY ys):=by
 show _H.lexLt (2::_) (2::_)=_
 rw[_H.lexLt_cons,if_pos rfl]
theorem vZ {n m:Nat}{x y:D}{xs ys:List D}(hx:Tr n x)(hy:Tr m y)(hc:yA x y=true):_H.lexLt (qY (x::xs)) (qY (y::ys))=if eqD x y=true then _H.lexLt (qY xs) (qY ys) else ltN x y:=XD hx hy hc _ _
set_option tactic.hygienic true in
theorem pV (i j:Int):ltN (.int i) (.int j)=decide (i<j):=by
 show _H.lexLt [1,i] [1,j]=_
 rw[_H.lexLt_cons,if_pos rfl,_H.lexLt_cons]
 split
 ·rename_i h;subst h;simp[_H.lexLt_nil_nil]
 ·rfl
theorem tO:∀ {xs ys:List D} {n m:Nat},(∀ x∈xs,Tr n x)→(∀ y∈ys,Tr m y)→(∀ x∈xs,∀ y∈ys,∀ r r':List Int,zD x++r=zD y++r'→x=y∧r=r')→∀ r r':List Int,qY xs++r=qY ys++r'→xs=ys∧r=r'
 |[],[],_,_,_,_,_,r,r',e=>⟨rfl,by injection e⟩
 |[],y::ys,_,_,_,h2,_,r,r',e=>by
  obtain⟨k,t,e',p⟩:=yS (h2 y (by simp))
  rw[zP,e'] at e
  injection e with e1 e2
  omega
 |x::xs,[],_,_,h1,_,_,r,r',e=>by
  obtain⟨k,t,e',p⟩:=yS (h1 x (by simp))
  rw[zP,e'] at e
  injection e with e1 e2
  omega
 |x::xs,y::ys,_,_,h1,h2,h3,r,r',e=>by
  rw[zP,zP,List.append_assoc,List.append_assoc] at e
  obtain⟨e1,e2⟩:=h3 x (by simp) y (by simp) _ _ e
  obtain⟨e3,e4⟩:=tO (fun z hz=>h1 z (by simp[hz])) (fun z hz=>h2 z (by simp[hz])) (fun z hz y' hy=>h3 z (by simp[hz]) y' (by simp[hy])) _ _ e2
  exact⟨by rw[e1,e3],e4⟩
theorem aY {n:Nat}{a:D}(ha:Tr n a):∀ {m:Nat} {b:D},Tr m b→∀ r r':List Int,zD a++r=zD b++r'→a=b∧r=r':=by
 induction ha with
 |int n i =>
  intro m b hb r r' e
  cases hb with
  |int _ j=>injection e with _ e;injection e with e1 e2;exact⟨by rw[e1],e2⟩
  |tup _ ys=>injection e with e _;cases e
 |tup n xs hx ih =>
  intro m b hb r r' e
  cases hb with
  |int _ j=>injection e with e _;cases e
  |tup m ys hy =>
   injection e with _ e
   obtain⟨e1,e2⟩:=tO hx hy (fun x hx' y hy'=>ih x hx' (hy y hy')) r r' e
   exact⟨by rw[e1],e2⟩
theorem bK {n m:Nat}{a b:D}(ha:Tr n a)(hb:Tr m b)(e:zD a=zD b):a=b:=(aY ha hb [] [] (by rw[e])).1
theorem PY {n:Nat}{a:D}(ha:Tr n a):eqD a a=true:=by
 induction ha with
 |int n i=>show (i == i)=true;simp
 |tup n xs _ ih =>
  show xI xs xs=true
  rw[vI]
  simp only[Nat.min_self,BEq.rfl,Bool.and_true,List.all_eq_true,List.mem_range]
  intro j hj
  exact ih _ (by simp[List.getD,hj])
theorem kM:∀ {xs ys:List D},wZ xs ys=true→∀ {j:Nat} {x y:D},xs[j]? = some x→ys[j]? = some y→yA x y=true
 |[],_,_,j,x,y,e,_=>by simp at e
 |_::_,[],_,j,x,y,_,e=>by simp at e
 |a::xs,b::ys,h,j,x,y,e1,e2=>by
  have h':(yA a b&&wZ xs ys)=true:=h
  rw[Bool.and_eq_true] at h'
  cases j with
  |zero=>cases e1;cases e2;exact h'.1
  |succ j=>exact kM h'.2 (j:=j) (by simpa using e1) (by simpa using e2)
theorem BV {a b c:D}(h1:ltN a b=false)(h2:ltN b c=false):ltN a c=false:=by
 cases h:ltN a c with
 |false=>rfl
 |true =>
  rcases _S.vO.tri h2 with e|e
  ·exact absurd (show ltN a b=true by unfold ltN at *;rw[e];exact h) (by rw[h1];simp)
  ·exact absurd (show ltN a b=true from _S.vO.tr h e) (by rw[h1];simp)
def pK (xs:List D):List D:=_S.bW ltN xs
theorem jJ (xs:List D):(pK xs).Perm xs:=_S.jI xs
theorem nB (xs:List D):(pK xs).map zD=_S.bW _H.lexLt (xs.map zD):=by
 refine _S.pX _S.vO ?_ (_S.tB _S.vO _) (((jJ xs).map zD).trans (_S.jI _).symm)
 unfold _S.Nf
 rw[List.pairwise_map]
 have:=List.pairwise_mergeSort (le:=fun a b=>!ltN b a) (fun a b c h1 h2=>?_) (fun a b=>?_) xs
 ·exact this.imp fun {a b} h=>show ltN b a=false by simpa using h
 ·simp only[Bool.not_eq_true'] at *
  exact BV h2 h1
 ·cases h:ltN b a with
  |false=>simp
  |true =>
   cases h':ltN a b with
   |false=>simp[h']
   |true=>exact absurd (_S.vO.tr h h') (by rw[_S.vO.irr];simp)
theorem UI {xs ys:List D}(h:∀ x∈xs,∀ y∈ys,zD x=zD y→x=y)(e:xs.map zD=ys.map zD):xs=ys:=by
 induction xs generalizing ys with
 |nil=>cases ys with
  |nil=>rfl
  |cons y ys=>cases e
 |cons x xs ih =>
  cases ys with
  |nil=>cases e
  |cons y ys =>
   injection e with e1 e2
   rw[h x (by simp) y (by simp) e1,ih (fun a ha b hb=>h a (by simp[ha]) b (by simp[hb])) e2]
theorem K0 {n:Nat}{xs ys:List D}(h:∀ x∈xs,Tr n x)(p:ys.Perm xs)(s:ys.Pairwise fun a b=>ltN b a=false):pK xs=ys:=by
 refine UI (fun a ha b hb=>bK (h a ((jJ xs).mem_iff.mp ha)) (h b (p.mem_iff.mp hb))) ?_
 rw[nB]
 refine _S.pX _S.vO (_S.tB _S.vO _) ?_ ((_S.jI _).trans (p.map zD).symm)
 unfold _S.Nf
 rw[List.pairwise_map]
 exact s
end _D
end
section
namespace _D
open PySem PySem.Spec PyProof.Rows _L PySem.SeqAt
def hZ (A:Around)(s:Shared)(u v:Value)(c:Bool):Prop:=∀ (prog:Program) (w:World) (E:Value→Shared→Prop) (Q:Value→Shared→Prop),Q (.bool c) s→wpAny (model prog w) A (richCompare .Lt u v) Q E s
inductive LexV (A:Around)(s:Shared):List Value→List Value→Bool→Prop
 |nn:LexV A s [] [] false
 |nc (v:Value) (vs:List Value):LexV A s [] (v::vs) true
 |cn (u:Value) (us:List Value):LexV A s (u::us) [] false
 |eq (u v:Value) (us vs:List Value) (b:Bool) (he:EqAt A s u v true) (h:LexV A s us vs b):LexV A s (u::us) (v::vs) b
 |ne (u v:Value) (us vs:List Value) (b:Bool) (he:EqAt A s u v false) (h:hZ A s u v b):LexV A s (u::us) (v::vs) b
section
open PySem.SeqAt
open PySem.AutoSeq1 (wpAny_loadPart')
open PySem.MeetsSeq PySem.MeetsSeq2 PySem.MeetsSeq3
theorem a8 (l b:Addr)(items items2:Array Value)(n n2:Nat)(dd dd2:Option Addr)(sl sl2:Array (Option Value))(r:Bool) :
  Meets (Builtin.«tuple.__lt__» ⟨[.ref l,.ref b],[]⟩)
   (fun A R s=>s.heap.get? l=some { cls:=.type "tuple",dict:=dd,data:=.seq items n,slots:=sl } ∧ s.heap.get? b=some { cls:=.type "tuple",dict:=dd2,data:=.seq items2 n2,slots:=sl2 } ∧
    LexV A.in1 s items.toList items2.toList r∧R (.ok (.ret (.bool r))) s):=
 .of_wp fun prog w A R s h=>by
  obtain⟨hp,g,d,tk,os⟩:=s;obtain⟨hl,hb,hx,h⟩:=h
  have f2:=AutoSeq1.sub_tuple_tuple
  wp_walk using wpAny_loadPart' hl,wpAny_loadPart' hb,wpAny_forIn_list _ (fun rest b s'=>b.1=none∧s'=⟨hp,g,d,tk,os⟩∧∃ (us vs:List Value),rest=us.zip vs∧LexV A.in1 ⟨hp,g,d,tk,os⟩ us vs r∧us.length+items2.size=vs.length+items.size) _
  case turn =>
   rintro⟨y,x⟩ rest b s' ⟨hb',rfl,us,vs,hz,hx',hlen⟩
   cases hx' with
   |nn=>cases hz
   |nc v vs=>cases hz
   |cn u us=>cases hz
   |eq u v us vs _ he h' =>
    rw[List.zip_cons_cons] at hz
    injection hz with hyx hrest
    injection hyx with hy hx
    subst hy hx
    refine wpAny_bind (he prog w _ _ ?_)
    wp_walk
    exact⟨rfl,rfl,_,_,hrest,h',by simp only[List.length_cons] at hlen;omega⟩
   |ne u v us vs _ he h' =>
    rw[List.zip_cons_cons] at hz
    injection hz with hyx hrest
    injection hyx with hy hx
    subst hy hx
    refine wpAny_bind (he prog w _ _ ?_)
    have hri:=h' prog w
    wp_walk using hri
    exact⟨_,rfl,by simpa using h⟩
  case fin =>
   rintro⟨b1,b2⟩ s' ⟨hb',rfl,us,vs,hz,hx',hlen⟩
   simp only at hb'
   subst hb'
   have hv:r=decide (items.size<items2.size):=by
    cases hx' with
    |nn=>simp only[List.length_nil] at hlen;exact(decide_eq_false (by omega)).symm
    |nc v vs=>simp only[List.length_nil,List.length_cons] at hlen;exact(decide_eq_true (by omega)).symm
    |cn u us=>simp only[List.length_nil,List.length_cons] at hlen;exact(decide_eq_false (by omega)).symm
    |eq u v us vs _ he h'=>cases hz
    |ne u v us vs _ he h'=>cases hz
   rw[hv] at h
   wp_walk
   exact⟨_,rfl,by simpa [Builtin.Tuple.tupleCompareSizes] using h⟩
  case h =>
   exact⟨rfl,rfl,items.toList,items2.toList,rfl,hx,by simp;omega⟩
end
theorem XF {A:Around}{s:Shared}{l b:Addr}{items items2:Array Value}{r:Bool}(hl:s.heap.IsTuple l items)(hb:s.heap.IsTuple b items2)(hu:A.units<cLine)(h:LexV A.in1 s items.toList items2.toList r):hZ A s (.ref l) (.ref b) r:=by
 intro prog w E Q hQ
 obtain⟨⟨cls,dd,data,sl⟩,ho,hc,n,hd⟩:=id hl
 obtain⟨⟨cls2,dd2,data2,sl2⟩,ho2,hc2,n2,hd2⟩:=id hb
 simp only at hc hd hc2 hd2
 subst hc hd hc2 hd2
 exact richCompare_meets_room (op:=.Lt) ⟨_,ho,rfl⟩ ⟨_,ho2,rfl⟩ PySem.F.slot_tuple_lt PySem.F.entry_tuple_lt (PySem.F.args_tuple_lt_2 _ _) (a8 l b items items2 n n2 dd dd2 sl sl2 r)
  ⟨ho,ho2,h,show Value.bool r≠Value.notImplemented∧Q (.bool r) s from⟨(fun x=>nomatch x),hQ⟩⟩ hu
inductive TrV (h:Heap):Nat→D→Value→Prop
 |int (n:Nat) (i:Int) (t:Tok):TrV h n (.int i) (.int i t)
 |tup (n:Nat) (a:Addr) (xs:List D) (its:List Value) (ht:h.IsTuple a its.toArray) (hl:xs.length=its.length) (hs:∀ (j:Nat) (x:D) (v:Value),xs[j]? = some x→its[j]? = some v→TrV h n x v):TrV h (n+1) (.tup xs) (.ref a)
theorem TrV.tr {h:Heap}{n:Nat}{d:D}{v:Value}(t:TrV h n d v):Tr n d:=by
 induction t with
 |int n i t=>exact .int n i
 |tup n a xs its ht hl hs ih =>
  refine .tup n xs fun x hx=>?_
  obtain⟨j,hj,e⟩:=List.mem_iff_getElem.mp hx
  exact ih j x (its[j]'(by omega)) (by rw[List.getElem?_eq_getElem hj,e]) (List.getElem?_eq_getElem (by omega))
theorem TrV.sup {h h':Heap}(S:_S.Sup h h'){n:Nat}{d:D}{v:Value}(t:TrV h n d v):TrV h' n d v:=by
 induction t with
 |int n i t=>exact .int n i t
 |tup n a xs its ht hl hs ih =>
  obtain⟨o,ho,r⟩:=ht
  exact .tup n a xs its ⟨o,S _ _ ho,r⟩ hl ih
theorem TrV.det {h:Heap}{n:Nat}{d:D}{v:Value}(t:TrV h n d v):∀ {m:Nat} {d':D},TrV h m d' v→d=d':=by
 induction t with
 |int n i t=>intro m d' t';cases t' with|int _ _ _=>rfl
 |tup n a xs its ht hl hs ih =>
  intro m d' t'
  cases t' with
  |tup m _ ys its2 ht2 hl2 hs2 =>
   have e:=rO ht ht2
   have e':its=its2:=by simpa using congrArg Array.toList e
   subst e'
   have:xs=ys:=List.ext_getElem (by omega) fun j h1 h2=>ih j _ (its[j]'(by omega)) (List.getElem?_eq_getElem h1) (List.getElem?_eq_getElem (by omega)) (hs2 j _ _ (List.getElem?_eq_getElem h2) (List.getElem?_eq_getElem (by omega)))
   rw[this]
theorem TrV.eq {s:Shared}{n:Nat}{a:D}{u:Value}(t:TrV s.heap n a u):∀ {m:Nat} {b:D} {v:Value} {A:Around},TrV s.heap m b v→yA a b=true→A.units+n<cLine→EqAt A s u v (eqD a b):=by
 induction t with
 |int n i t =>
  intro m b v A t' hc hu
  cases t' with
  |int _ j t'=>exact EqAt.int_int i t j t'
  |tup _ _ _ _ _ _ _=>exact Bool.noConfusion hc
 |tup n a xs its ht hl hs ih =>
  intro m b v A t' hc hu
  cases t' with
  |int _ j t'=>exact Bool.noConfusion hc
  |tup m b ys its2 ht2 hl2 hs2 =>
   refine(Y0 (by omega) ht ht2 hl hl2 (fun j h1 h2=>?_) fun e=>?_).eq
   ·have h1':j<its.length:=by simpa using h1
    have h2':j<its2.length:=by simpa using h2
    have e1:xs[j]? = some (xs.getD j .non):=by simp[List.getD,show j<xs.length by omega]
    have e2:ys[j]? = some (ys.getD j .non):=by simp[List.getD,show j<ys.length by omega]
    have f1:its[j]? = some its.toArray[j]:=by simp[h1']
    have f2:its2[j]? = some its2.toArray[j]:=by simp[h2']
    exact ih j _ _ e1 f1 (hs2 j _ _ e2 f2) (kM hc e1 e2) (by show A.units+1+n<cLine;omega)
   ·subst e
    have:=TrV.det (.tup n a xs its ht hl hs) (.tup m a ys its2 ht2 hl2 hs2)
    injection this with this
    subst this
    exact PY (TrV.tr (.tup n a xs its ht hl hs))
theorem rX {A:Around}{s:Shared}:∀ {xs ys:List D} {us vs:List Value} {n m:Nat},xs.length=us.length→ys.length=vs.length→(∀ x∈xs,Tr n x)→(∀ y∈ys,Tr m y)→wZ xs ys=true →
  (∀ (j:Nat) (x y:D) (u v:Value),xs[j]? = some x→ys[j]? = some y→us[j]? = some u→vs[j]? = some v→EqAt A s u v (eqD x y)∧hZ A s u v (ltN x y))→LexV A s us vs (_H.lexLt (qY xs) (qY ys))
 |[],[],[],[],_,_,_,_,_,_,_,_=>.nn
 |[],y::ys,[],v::vs,_,_,_,_,_,h2,_,_=>by
  obtain⟨k,t,e,p⟩:=yS (h2 y (by simp))
  have:_H.lexLt (qY []) (qY (y::ys))=true:=by
   rw[zP,e]
   show _H.lexLt [0] (k::_)=_
   rw[_H.lexLt_cons,if_neg (by omega)]
   exact decide_eq_true p
  rw[this];exact .nc v vs
 |x::xs,[],u::us,[],_,_,_,_,h1,_,_,_=>by
  obtain⟨k,t,e,p⟩:=yS (h1 x (by simp))
  have:_H.lexLt (qY (x::xs)) (qY []) = false:=by
   rw[zP,e]
   show _H.lexLt (k::_) [0]=_
   rw[_H.lexLt_cons,if_neg (by omega)]
   exact decide_eq_false (by omega)
  rw[this];exact .cn u us
 |x::xs,y::ys,u::us,v::vs,_,_,l1,l2,h1,h2,hc,h=>by
  have hc':(yA x y&&wZ xs ys)=true:=hc
  rw[Bool.and_eq_true] at hc'
  obtain⟨e1,e2⟩:=h 0 x y u v rfl rfl rfl rfl
  rw[vZ (h1 x (by simp)) (h2 y (by simp)) hc'.1]
  cases hq:eqD x y with
  |true =>
   rw[hq] at e1
   exact .eq u v us vs _ e1 (rX (by simpa using l1) (by simpa using l2) (fun z hz=>h1 z (by simp[hz])) (fun z hz=>h2 z (by simp[hz])) hc'.2 fun j a b c d q1 q2 q3 q4=>h (j+1) a b c d (by simpa using q1) (by simpa using q2) (by simpa using q3) (by simpa using q4))
  |false =>
   rw[hq] at e1
   exact .ne u v us vs _ e1 e2
 |[],_,_::_,_,_,_,l1,_,_,_,_,_=>by simp at l1
 |_::_,_,[],_,_,_,l1,_,_,_,_,_=>by simp at l1
 |_,[],_,_::_,_,_,_,l2,_,_,_,_=>by simp at l2
 |_,_::_,_,[],_,_,_,l2,_,_,_,_=>by simp at l2
theorem TrV.lt {s:Shared}{n:Nat}{a:D}{u:Value}(t:TrV s.heap n a u):∀ {m:Nat} {b:D} {v:Value} {A:Around},TrV s.heap m b v→yA a b=true→A.units+n<cLine→hZ A s u v (ltN a b):=by
 induction t with
 |int n i t =>
  intro m b v A t' hc hu
  cases t' with
  |int _ j t' =>
   intro prog w E Q hQ
   rw[pV] at hQ
   exact(PyProof.Rows.lt_int hQ:wpAny (model prog w) A (compareOp .Lt (.int i t) (.int j t')) Q E s)
  |tup _ _ _ _ _ _ _=>exact Bool.noConfusion hc
 |tup n a xs its ht hl hs ih =>
  intro m b v A t' hc hu
  cases t' with
  |int _ j t'=>exact Bool.noConfusion hc
  |tup m b ys its2 ht2 hl2 hs2 =>
   have t1:=TrV.tr (.tup n a xs its ht hl hs)
   have t2:=TrV.tr (.tup m b ys its2 ht2 hl2 hs2)
   cases t1 with
   |tup _ _ t1 =>
    cases t2 with
    |tup _ _ t2 =>
     refine XF ht ht2 (by omega) ?_
     rw[pW]
     refine rX (by simpa using hl) (by simpa using hl2) t1 t2 hc fun j x y u v e1 e2 e3 e4=>?_
     have hu':A.in1.units+n<cLine:=by show A.units+1+n<cLine;omega
     have e3':its[j]? = some u:=by simpa using e3
     have e4':its2[j]? = some v:=by simpa using e4
     exact⟨(hs j x u e1 e3').eq (hs2 j y v e2 e4') (kM hc e1 e2) hu',ih j x u e1 e3' (hs2 j y v e2 e4') (kM hc e1 e2) hu'⟩
section
variable {X:Cx}{pins:List (Addr × Obj)}{σ : _L.St}{H P:Hp}{α : List Addr}{S:Sto}{s:Shared}
theorem TJ (I:Inv X pins σ H s)(r:Rel X.K H P α S):∀ (n:Nat) {d:D} {v:V} {u:Value},trb n d=true→Rep X.K P α d v→qK v u→TrV s.heap n d u:=by
 intro n
 induction n with
 |zero =>
  intro d v u h p q
  cases d with
  |int i=>simp only[Rep] at p;subst p;obtain⟨t,rfl⟩:=q;exact .int _ i t
  |_=>exact Bool.noConfusion h
 |succ n ih =>
  intro d v u h p q
  cases d with
  |int i=>simp only[Rep] at p;subst p;obtain⟨t,rfl⟩:=q;exact .int _ i t
  |tup xs =>
   obtain⟨a,vs,its,rfl,q1,t1,rv1,h1,l1,_⟩:=kG I r p
   cases (show u=Value.ref a from q)
   have la:=t1.length
   have lb:=rv1.length
   refine .tup n a xs its h1 (by omega) fun j x w e1 e2=>?_
   obtain⟨y,f1,f2⟩:=t1.get e1
   obtain⟨z,g1,g2⟩:=rv1.get f1
   cases g1.symm.trans e2
   exact ih (List.all_eq_true.mp (show xs.all (trb n)=true from h) x (List.mem_of_getElem? e1)) f2 g2
  |_=>exact Bool.noConfusion h
end
end _D
end
section
namespace _D
open PySem PySem.Spec PyProof.Rows _L PySem.SeqAt
def neT:D→Bool
 |.tup (_::_)=>true
 |_=>false
def sOk (xs:List D):Bool:=xs.all fun a=>neT a&&trb 6 a&&xs.all fun b=>yA a b
theorem u7 {xs:List D}(h:sOk xs=true){x:D}(hx:x∈xs):neT x=true∧Tr 6 x∧∀ y∈xs,yA x y=true:=by
 have:=List.all_eq_true.mp h x hx
 simp only[Bool.and_eq_true] at this
 exact⟨this.1.1,D8 this.1.2,fun y hy=>List.all_eq_true.mp this.2 y hy⟩
def tyF:D→Value
 |.tup (.int _::_)=>.type "int"
 |_=>.type "tuple"
def isN (h:Heap)(k:List Int)(v:Value):Prop:=∃ d,TrV h 6 d v∧zD d=k
section
open PySem.W
variable {prog:Program}{w:World}{h0:Heap}
theorem dF {A:Around}{s:Shared}{b:Bool}{Q:Bool→Shared→Prop}:∀ {xs ys:List D} {us vs:List Value} {n m i N M:Nat},xs.length=us.length→ys.length=vs.length →
  (∀ (j:Nat) (x:D) (u:Value),xs[j]? = some x→us[j]? = some u→TrV s.heap n x u)→(∀ (j:Nat) (x:D) (u:Value),ys[j]? = some x→vs[j]? = some u→TrV s.heap m x u)→wZ xs ys=true→A.units+n<cLine→((b&&i == 0)=true→∀ x,xs[0]? = some x→∃ j,x=.int j) →
  N+vs.length=M+us.length→Q (_H.lexLt (qY xs) (qY ys)) s→KatLex prog w A b (decide (N<M)) Q (us.zip vs) i s
 |[],[],[],[],_,_,_,N,M,_,_,_,_,_,_,_,hl,h=>by
  have:decide (N<M)=false:=decide_eq_false (by simp at hl;omega)
  rw[this];exact h
 |[],y::ys,[],v::vs,_,_,_,N,M,_,_,_,h2,_,_,_,hl,h=>by
  have:decide (N<M)=true:=decide_eq_true (by simp at hl;omega)
  rw[this]
  obtain⟨k,t,e,p⟩:=yS (h2 0 y v rfl rfl).tr
  rw[zP,e] at h
  have q:_H.lexLt (qY []) (k::t++qY ys)=true:=by
   show _H.lexLt [0] (k::_)=_
   rw[_H.lexLt_cons,if_neg (by omega)]
   exact decide_eq_true p
  rw[q] at h
  exact h
 |x::xs,[],u::us,[],_,_,_,N,M,_,_,h1,_,_,_,_,hl,h=>by
  have:decide (N<M)=false:=decide_eq_false (by simp at hl;omega)
  rw[this]
  obtain⟨k,t,e,p⟩:=yS (h1 0 x u rfl rfl).tr
  rw[zP,e] at h
  have q:_H.lexLt (k::t++qY xs) (qY []) = false:=by
   show _H.lexLt (k::_) [0]=_
   rw[_H.lexLt_cons,if_neg (by omega)]
   exact decide_eq_false (by omega)
  rw[q] at h
  exact h
 |x::xs,y::ys,u::us,v::vs,n,m,i,N,M,l1,l2,h1,h2,hc,hu,hb,hl,h=>by
  have hc':(yA x y&&wZ xs ys)=true:=hc
  rw[Bool.and_eq_true] at hc'
  have t1:=h1 0 x u rfl rfl
  have t2:=h2 0 y v rfl rfl
  rw[vZ t1.tr t2.tr hc'.1] at h
  rw[List.zip_cons_cons]
  refine kat_cons (t1.eq t2 hc'.1 hu prog w _ _ ?_)
  refine kat_go (fun e=>kat_yes ?_) fun e=>kat_no ?_
  ·rw[if_pos e] at h
   refine dF (n:=n) (m:=m) (by simpa using l1) (by simpa using l2) (fun j a b e1 e2=>h1 (j+1) a b (by simpa using e1) (by simpa using e2)) (fun j a b e1 e2=>h2 (j+1) a b (by simpa using e1) (by simpa using e2)) hc'.2 hu (fun z=>?_) (by simp at hl;omega) h
   simp at z
  ·rw[if_neg (by rw[e];simp)] at h
   cases hq:b&&i == 0 with
   |true =>
    obtain⟨j,rfl⟩:=hb hq x rfl
    cases t1 with
    |int _ _ t =>
     cases t2 with
     |int _ k t' =>
      rw[pV] at h
      exact oneLt_int h
     |tup _ _ _ _ _ _ _=>exact Bool.noConfusion hc'.1
   |false=>exact kat_one _ _ (t1.lt t2 hc'.1 hu prog w _ _ h)
 |[],_,_::_,_,_,_,_,_,_,l1,_,_,_,_,_,_,_,_=>by simp at l1
 |_::_,_,[],_,_,_,_,_,_,l1,_,_,_,_,_,_,_,_=>by simp at l1
 |_,[],_,_::_,_,_,_,_,_,_,l2,_,_,_,_,_,_,_=>by simp at l2
 |_,_::_,_,[],_,_,_,_,_,_,l2,_,_,_,_,_,_,_=>by simp at l2
theorem K7 {xs ys:List D}(hc:yA (.tup xs) (.tup ys)=true)(h1:xs≠[])(h2:ys≠[]){n m:Nat}(t1:Tr n (.tup xs))(t2:Tr m (.tup ys)):tyF (.tup xs)=tyF (.tup ys):=by
 cases xs with
 |nil=>exact absurd rfl h1
 |cons x xs =>
  cases ys with
  |nil=>exact absurd rfl h2
  |cons y ys =>
   have hc':(yA x y&&wZ xs ys)=true:=hc
   rw[Bool.and_eq_true] at hc'
   cases t1 with
   |tup _ _ t1 =>
    cases t2 with
    |tup _ _ t2 =>
     have a1:=t1 x (by simp)
     have a2:=t2 y (by simp)
     cases a1 with
     |int _ i=>cases a2 with
      |int _ j=>rfl
      |tup _ _ _=>exact Bool.noConfusion hc'.1
     |tup _ _ _=>cases a2 with
      |int _ j=>exact Bool.noConfusion hc'.1
      |tup _ _ _=>rfl
theorem YH {M:Model}{h:Heap}{T:Value}:∀ {vs:List Value},(∀ v∈vs,∃ d,TrV h 6 d v∧neT d=true∧tyF d=T)→∃ fs,KatTups h vs fs∧fs.length=vs.length∧∀ f∈fs,Looks M h (typeOf f) T
 |[],_=>⟨[],trivial,rfl,fun f hf=>by simp at hf⟩
 |v::vs,hv=>by
  obtain⟨fs,a1,a2,a3⟩:=YH (M:=M) (vs:=vs) fun u hu=>hv u (by simp[hu])
  obtain⟨d,t,hn,ht⟩:=hv v (by simp)
  cases t with
  |int _ _ _=>cases hn
  |tup n a xs its hi hl hs =>
   cases xs with
   |nil=>cases hn
   |cons x xs =>
    cases its with
    |nil=>simp at hl
    |cons f its =>
     obtain⟨o,ho,hc,k,hd⟩:=hi
     refine⟨f::fs,KatTups.cons ho hc hd rfl a1,by simp[a2],fun g hg=>?_⟩
     rcases List.mem_cons.mp hg with rfl|hg
     ·have q:=hs 0 x g rfl rfl
      cases q with
      |int _ i tk =>
       rw[← ht]
       exact Looks.of_pure rfl
      |tup _ b ys jts hi2 _ _ =>
       obtain⟨o2,ho2,hc2,_⟩:=hi2
       rw[← ht,show tyF (.tup (.tup ys::xs))=o2.cls from hc2.symm]
       exact(Looks.ld ho2).andThen .now
     ·exact a3 g hg
theorem GC {xs:List D}(ok:sOk xs=true){vs:List Value}{ks:List (List Int)}(hl:vs.length=ks.length)(hv:∀ i v,vs[i]? = some v→isN h0 (ks.getD i []) v)(hf:∀ k∈ks,∃ x∈xs,zD x=k)(h2:2≤vs.length):_S.Cmps prog w h0 vs (_S.l9 _H.lexLt ks []):=by
 have at':∀ i (hi:i<vs.length),∃ d,d∈xs∧TrV h0 6 d (vs.getD i Value.none)∧zD d=ks.getD i []:=fun i hi=>by
  obtain⟨d,t,e⟩:=hv i vs[i] (List.getElem?_eq_getElem hi)
  obtain⟨x,hx,e2⟩:=hf (ks.getD i []) (by simp[List.getD,show i<ks.length by omega])
  have:=bK t.tr (u7 ok hx).2.1 (e.trans e2.symm)
  subst this
  exact⟨d,hx,by simpa [List.getD,hi] using t,e⟩
 obtain⟨d0,hd0,_,_⟩:=at' 0 (by omega)
 have ty:∀ d∈xs,tyF d=tyF d0:=fun d hd=>by
  obtain⟨n1,t1,c1⟩:=u7 ok hd
  obtain⟨n2,t2,_⟩:=u7 ok hd0
  have c:=c1 d0 hd0
  cases d with
  |tup as =>
   cases d0 with
   |tup bs=>exact K7 c (fun z=>by subst z;cases n1) (fun z=>by subst z;cases n2) t1 t2
   |_=>cases n2
  |_=>cases n1
 refine⟨tuples' (tyF d0 != Value.type "tuple"),fun A hu s hS=>⟨fun Q E h=>?_,fun i j C hi hj h=>?_⟩⟩
 ·obtain⟨fs,a1,a2,a3⟩:=YH (M:=model prog w) (h:=s.heap) (T:=tyF d0) (vs:=vs) fun v hm=>by
   obtain⟨i,hi,e⟩:=List.mem_iff_getElem.mp hm
   obtain⟨d,q1,q2,_⟩:=at' i hi
   have:vs.getD i Value.none=v:=by simp[List.getD,hi,e]
   rw[this] at q2
   exact⟨d,q2.sup hS,(u7 ok q1).1,ty d q1⟩
  refine kat_kind a1 (by omega) a3 ?_ h
  unfold tyF
  split <;> decide
 ·obtain⟨a,a1,a2,a3⟩:=at' i hi
  obtain⟨b,b1,b2,b3⟩:=at' j hj
  unfold _S.l9 at h
  unfold kas_ask
  rw[← a3,← b3] at h
  have t1:=a2.sup hS
  have t2:=b2.sup hS
  obtain⟨n1,_,c1⟩:=u7 ok a1
  obtain⟨n2,_,_⟩:=u7 ok b1
  have tya:=ty a a1
  have c:=c1 b b1
  generalize vs.getD i Value.none=u at *
  generalize vs.getD j Value.none=v at *
  cases t1 with
  |int _ _ _=>cases n1
  |tup n p ps its hi1 l1 s1 =>
   cases t2 with
   |int _ _ _=>cases n2
   |tup m q qs jts hi2 l2 s2 =>
    obtain⟨o1,ho1,_,k1,d1⟩:=hi1
    obtain⟨o2,ho2,_,k2,d2⟩:=hi2
    have h':C (_H.lexLt (qY ps) (qY qs)) s:=by
     have:=@pW ps qs
     unfold ltN at this
     rw[this] at h
     exact h
    refine kat_lt ho1 d1 ho2 d2 (dF (n:=5) (m:=5) l1 l2 s1 s2 c (by omega) (fun z x hx=>?_) (by simp;omega) h')
    rw[← tya] at z
    cases ps with
    |nil=>cases hx
    |cons x' ps =>
     cases hx
     cases x with
     |int i=>exact⟨i,rfl⟩
     |_=>exact absurd z (by simp[tyF])
theorem NT {xs:List D}(ok:sOk xs=true):_S.Kind prog w (isN h0) (fun _=>0) _H.lexLt [] (fun k=>∃ x∈xs,zD x=k) h0:=
 ⟨_S.vO,fun {k k' v} ⟨d,t,e⟩ ⟨d',t',e'⟩=>by rw[← e,← e',t.det t'],fun h1 h2 h3 h4=>GC ok h1 h2 h3 h4⟩
end
def cI (xs:List D)(k:List Int):D:=(xs.find? fun x=>zD x == k).getD .non
theorem rD {xs:List D}(ok:sOk xs=true){x:D}(hx:x∈xs):cI xs (zD x)=x:=by
 unfold cI
 cases h:xs.find? fun y=>zD y == zD x with
 |none=>exact absurd (List.find?_eq_none.mp h x hx) (by simp)
 |some y =>
  have:=List.find?_some h
  exact bK (u7 ok (List.mem_of_find?_eq_some h)).2.1 (u7 ok hx).2.1 (by simpa using this)
def pA:DF:=fun ds S=>match ds with
 |[d]=>match W9 d with
  |some xs=>if (decide (xs.length≤100000)&&sOk xs)=true then .ok (.lst (pK xs)) S else .bad
  |none=>.bad
 |_=>.bad
section
variable {X:Cx}{pins:List (Addr × Obj)}{σ : _L.St}{H P:Hp}{α : List Addr}{S:Sto}{s:Shared}
theorem QZ (hu:X.A.units+64<cLine):wX X (.builtin "sorted") pA:=by
 intro pins σ H s P α S vs us ds Q I r rv rp af
 match ds,af,rp with
 |[],af,_=>exact False.elim af
 |_::_::_,af,_=>exact False.elim af
 |[d],af,rp =>
  simp only[pA] at af
  cases hd:W9 d with
  |none=>rw[hd] at af;exact False.elim af
  |some xs =>
   rw[hd] at af
   dsimp only at af
   obtain⟨hl,af⟩:=xM (X:=X) af
   rw[Bool.and_eq_true,decide_eq_true_eq] at hl
   obtain⟨hl,ok⟩:=hl
   obtain⟨v,u,rfl,rfl,p,q⟩:=vC rp rv
   obtain⟨a,vs,its,rfl,t1,rv1,e1,l1⟩:=MY I r p q hd
   have at':∀ (i:Nat) (u:Value),its[i]? = some u→∃ x vv,xs[i]? = some x∧TrV s.heap 6 x u∧qK vv u∧Rep X.K P α x vv:=fun i u hi=>by
    have hii:i<its.length:=(List.getElem?_eq_some_iff.mp hi).1
    have hx:xs[i]? = some xs[i]:=List.getElem?_eq_getElem (by omega)
    obtain⟨y,f1,f2⟩:=t1.get hx
    obtain⟨z,g1,g2⟩:=rv1.get f1
    cases g1.symm.trans hi
    refine⟨_,y,hx,TJ I r 6 ?_ f2 g2,g2,f2⟩
    have:=List.all_eq_true.mp ok _ (List.getElem_mem (by omega:i<xs.length))
    simp only[Bool.and_eq_true] at this
    exact this.1.2
   have e:(_S.bW _H.lexLt (xs.map zD)).map (cI xs)=pK xs:=by
    rw[← nB,List.map_map]
    conv=>rhs;rw[← List.map_id (pK xs)]
    exact List.map_congr_left fun y hy=>rD ok ((jJ xs).mem_iff.mp hy)
   have G:=Q8 (X:=X) (pins:=pins) (σ:=σ) (H:=H) (P:=P) (α:=α) (S:=S) (E:=X.xe) (d:=[]) (NT (prog:=X.prog) (w:=X.w) (h0:=s.heap) ok) hu I r e1 (xs.map zD) (by simpa using l1) (fun i u hi=>by
     obtain⟨x,vv,q1,q2,_⟩:=at' i u hi
     exact⟨x,q2,by simp[List.getD,q1]⟩) (by simpa using hl) (fun k hk=>by
     obtain⟨x,hx,e⟩:=List.mem_map.mp hk
     exact⟨x,hx,e⟩) (cI xs) fun k u hk hm=>by
    obtain⟨i,hi,e⟩:=List.mem_iff_getElem.mp hm
    obtain⟨x,vv,q1,q2,q3,q4⟩:=at' i u (by rw[List.getElem?_eq_getElem hi,e])
    obtain⟨d',t',e'⟩:=hk
    have:=t'.det q2
    subst this
    rw[← e',rD ok (List.mem_of_getElem? q1)]
    exact⟨vv,q3,q4⟩
   rw[e] at G
   refine thn G fun u' s3 ⟨D,vs',e,hn,I',rp'⟩=>?_
   subst e
   exact⟨.ref D,_,I',rfl,vP r hn rp' af⟩
end
end _D
end
section
namespace _D
open PySem PySem.Spec PyProof.Rows _L
def pP (d:D)(S:Sto):Option (List (Key × D)):=match d with
 |.loc n=>match S[n]? with
  |some (.dct kvs)=>some kvs
  |_=>none
 |_=>none
def yY:DF:=fun ds S=>match ds with
 |[d]=>match pP d S with
  |some kvs=>.ok (.int kvs.length) S
  |none=>.bad
 |_=>.bad
section
variable {X:Cx}{pins:List (Addr × Obj)}{σ : _L.St}{H P:Hp}{α : List Addr}{S:Sto}{s:Shared}
set_option tactic.hygienic true in
theorem GJ (r:Rel X.K H P α S){d:D}{kvs:List (Key × D)}{v:V}(h:pP d S=some kvs)(p:Rep X.K P α d v):∃ a ws,v=.ref a∧H a=some (.dK ws)∧KVs X.K P α kvs ws:=by
 unfold pP at h
 split at h
 ·split at h
  ·rename_i hS
   cases h
   simp only[Rep] at p
   obtain⟨b,rfl,q⟩:=p
   obtain⟨ws,z,t⟩:=r.at' _ b _ q hS
   exact⟨b,ws,rfl,z,t⟩
  ·cases h
 ·cases h
theorem YS:wX X (.builtin "len") yY:=by
 intro pins σ H s P α S vs us ds Q I r rv rp af
 match ds,af,rp with
 |[],af,_=>exact False.elim af
 |_::_::_,af,_=>exact False.elim af
 |[d],af,rp =>
  simp only[yY] at af
  cases hd:pP d S with
  |none=>rw[hd] at af;exact False.elim af
  |some kvs =>
   rw[hd] at af
   obtain⟨v,u,rfl,rfl,p,q⟩:=vC rp rv
   obtain⟨a,ws,rfl,z,t⟩:=GJ r hd p
   cases (show u=Value.ref a from q)
   refine N6 I (.inl z) fun tk s' I'=>⟨.int ws.length,H,I',⟨tk,rfl⟩,xr af r ?_⟩
   simp only[Rep]
   rw[mS t]
end
end _D
end
section
end
section
namespace _D
open PySem PySem.Spec PyProof.Rows _L
section
variable {X:Cx}{cm:Bool}{k:Nat}{o i:Expr}{fo fi:DE}{pos:Pos}
theorem KH (hr:RoomC cm k X.A):ZCall X (.builtin "sorted") pA:=⟨QZ hr.units⟩
theorem N0:ZCall X (.builtin "len") yY:=⟨YS⟩
end
end _D
end
section
namespace _D
open PySem
def Nx (o:Out)(Q:qD→Sto→Prop):Prop:=∃ env S,o=.nx env S∧Q env S
def Rt (o:Out)(Q:D→Sto→Prop):Prop:=∃ d S,o=.rt d S∧Q d S
def Ok {β : Type}(r:Res β)(Q:β→Sto→Prop):Prop:=∃ d S,r=.ok d S∧Q d S
theorem wN {o:Out}{Q:qD→Sto→Prop}{env:qD}{S:Sto}(h:o=.nx env S)(q:Q env S):Nx o Q:=⟨env,S,h,q⟩
theorem D2 {o:Out}{Q:D→Sto→Prop}{d:D}{S:Sto}(h:o=.rt d S)(q:Q d S):Rt o Q:=⟨d,S,h,q⟩
theorem zC {β : Type}{r:Res β}{Q:β→Sto→Prop}{d:β}{S:Sto}(h:r=.ok d S)(q:Q d S):Ok r Q:=⟨d,S,h,q⟩
theorem vA {f g:DS}{env:qD}{S:Sto}{Q:qD→Sto→Prop}(h:Nx (f env S) fun env1 S1=>Nx (g env1 S1) Q):Nx (qR f g env S) Q:=by
 obtain⟨env1,S1,e,env2,S2,e2,q⟩:=h
 exact⟨env2,S2,by unfold qR;rw[e];exact e2,q⟩
theorem z9 {f g:DS}{env:qD}{S:Sto}{Q:D→Sto→Prop}(h:Nx (f env S) fun env1 S1=>Rt (g env1 S1) Q):Rt (qR f g env S) Q:=by
 obtain⟨env1,S1,e,env2,S2,e2,q⟩:=h
 exact⟨env2,S2,by unfold qR;rw[e];exact e2,q⟩
theorem v9 {t:DT}{f g:DS}{env:qD}{S S1:Sto}{b:Bool}{Q:qD→Sto→Prop}(h:t env S=.ok b S1)(k:Nx ((if b then f else g) env S1) Q):Nx (sIf t f g env S) Q:=by
 obtain⟨env2,S2,e2,q⟩:=k
 refine⟨env2,S2,?_,q⟩
 unfold sIf
 rw[h]
 cases b <;> exact e2
theorem zS {f:DE}{i:Nat}{env:qD}{S:Sto}{Q:qD→Sto→Prop}(h:Ok (f env S) fun d S1=>Q (env.set i (some d)) S1):Nx (zG f (gNm i) env S) Q:=by
 obtain⟨d,S1,e,q⟩:=h
 exact⟨_,S1,by unfold zG gNm;rw[e];rfl,q⟩
theorem uJ {f:DE}{env:qD}{S:Sto}{Q:qD→Sto→Prop}(h:Ok (f env S) fun _ S1=>Q env S1):Nx (xN f env S) Q:=by
 obtain⟨d,S1,e,q⟩:=h
 exact⟨_,S1,by unfold xN;rw[e];rfl,q⟩
theorem u0 {f:DE}{env:qD}{S:Sto}{Q:D→Sto→Prop}(h:Ok (f env S) Q):Rt (zB f env S) Q:=by
 obtain⟨d,S1,e,q⟩:=h
 exact⟨_,S1,by unfold zB;rw[e];rfl,q⟩
theorem v8 {fi:DI}{g:DG}{f:DS}{env:qD}{S S1:Sto}{ds:List D}{Q:qD→Sto→Prop}(h:fi env S=.ok ds S1)(k:Nx (jG g f ds env S1) Q):Nx (vR fi g f env S) Q:=by
 obtain⟨env2,S2,e2,q⟩:=k
 exact⟨env2,S2,by unfold vR;rw[h];exact e2,q⟩
theorem wK {g:DG}{f:DS}{Q:qD→Sto→Prop}(I:List D→qD→Sto→Prop)(turn:∀ d ds env S,I (d::ds) env S→∃ env1 S1,g d env S=.ok env1 S1∧Nx (f env1 S1) (I ds))(last:∀ env S,I [] env S→Q env S) :
  ∀ {ds:List D} {env:qD} {S:Sto},I ds env S→Nx (jG g f ds env S) Q
 |[],env,S,h=>⟨env,S,rfl,last env S h⟩
 |d::ds,env,S,h=>by
  obtain⟨env1,S1,e1,env2,S2,e2,h2⟩:=turn d ds env S h
  obtain⟨env3,S3,e3,q⟩:=wK I turn last (ds:=ds) h2
  refine⟨env3,S3,?_,q⟩
  unfold jG
  simp only[e1,Res.toS,e2]
  exact e3
theorem UK {fi:DI2}{g:DG}{f:DS}{env:qD}{S S1:Sto}{o:Option (Nat × MO)}{ds:List D}{Q:qD→Sto→Prop}(h:fi env S=.ok (o,ds) S1)(k:Nx (xZ o g f ds env S1) Q):Nx (fS fi g f env S) Q:=by
 obtain⟨env2,S2,e2,q⟩:=k
 exact⟨env2,S2,by unfold fS;rw[h];exact e2,q⟩
theorem dI {o:Option (Nat × MO)}{g:DG}{f:DS}{Q:qD→Sto→Prop}(I:List D→qD→Sto→Prop)(hI:∀ ds env S,I ds env S→stn o S)(turn:∀ d ds env S,I (d::ds) env S→∃ env1 S1,g d env S=.ok env1 S1∧Nx (f env1 S1) (I ds))(last:∀ env S,I [] env S→Q env S) :
  ∀ {ds:List D} {env:qD} {S:Sto},I ds env S→Nx (xZ o g f ds env S) Q
 |[],env,S,h=>⟨env,S,by unfold xZ;rw[if_pos (xT.mpr (hI _ _ _ h))],last env S h⟩
 |d::ds,env,S,h=>by
  obtain⟨env1,S1,e1,env2,S2,e2,h2⟩:=turn d ds env S h
  obtain⟨env3,S3,e3,q⟩:=dI I hI turn last (ds:=ds) h2
  refine⟨env3,S3,?_,q⟩
  unfold xZ
  rw[if_pos (xT.mpr (hI _ _ _ h))]
  simp only[e1,Res.toS,e2]
  exact e3
theorem pS {o:Option (Nat × MO)}{g:DG}{t:DT}{k:DK}(out:D→List D)(C:qD→Sto→Prop)(hC:∀ env S,C env S→stn o S) :
  ∀ (items:List D) (env:qD) (S:Sto) (acc:List D),C env S→acc.length+(items.flatMap out).length≤lim →
  (∀ d∈items,∀ env S acc,C env S→acc.length+(out d).length≤lim→∃ env1 S1 b S2,g d env S=.ok env1 S1∧t env1 S1=.ok b S2∧((b=false∧out d=[]∧C env1 S2)∨(b=true∧∃ env3 S3,k env1 S2 acc=.ok (env3,acc++out d) S3∧C env3 S3))) →
  ∃ env' S',goL o g t k items env S acc=.ok (env',acc++items.flatMap out) S'∧C env' S'
 |[],env,S,acc,h,hl,_=>⟨env,S,by simp[goL,xT.mpr (hC _ _ h)],h⟩
 |d::ds,env,S,acc,h,hl,step=>by
  rw[List.flatMap_cons,List.length_append] at hl
  obtain⟨env1,S1,b,S2,e1,e2,r⟩:=step d (List.mem_cons_self ..) env S acc h (by omega)
  have hst:=xT.mpr (hC _ _ h)
  rcases r with⟨rfl,h0,h2⟩|⟨rfl,env3,S3,e3,h3⟩
  ·obtain⟨env',S',e,q⟩:=pS out C hC ds env1 S2 acc h2 (by omega) fun d hd=>step d (List.mem_cons_of_mem _ hd)
   refine⟨env',S',?_,q⟩
   simp only[goL,hst,if_true,e1,e2,Res.bind,Bool.false_eq_true,if_false,List.flatMap_cons,h0,List.nil_append]
   exact e
  ·obtain⟨env',S',e,q⟩:=pS out C hC ds env3 S3 (acc++out d) h3 (by rw[List.length_append];omega) fun d hd=>step d (List.mem_cons_of_mem _ hd)
   refine⟨env',S',?_,q⟩
   simp only[goL,hst,if_true,e1,e2,Res.bind,e3,List.flatMap_cons]
   rw[e,List.append_assoc]
theorem g9 {fe:DE}{env:qD}{S S1:Sto}{acc:List D}{x:D}(h:fe env S=.ok x S1)(hl:acc.length<lim):zI fe env S acc=.ok (env,acc++[x]) S1:=by
 unfold zI
 rw[h]
 simp[Res.bind,hl]
theorem jB {cap:List (Option Nat)}{fi:DI2}{g:DG}{t:DT}{k:DK}{env env':qD}{S S1 S':Sto}{o:Option (Nat × MO)}{items ds:List D}(h:fi env S=.ok (o,items) S1)(e:goL o g t k items (zT cap env) S1 [] = .ok (env',ds) S'):zF false cap fi g t k env S=.ok (.lst ds) S':=by
 unfold zF
 rw[h]
 simp only[Res.bind,e,mkM]
 rfl
theorem i3 {cap:List (Option Nat)}{fi:DI2}{g:DG}{t:DT}{k:DK}{env env':qD}{S S1 S':Sto}{o:Option (Nat × MO)}{items ds:List D}(h:fi env S=.ok (o,items) S1)(e:goL o g t k items (zT cap env) S1 [] = .ok (env',ds) S'):zF true cap fi g t k env S=.ok (.loc S'.length) (S'++[.lst ds]):=by
 unfold zF
 rw[h]
 simp only[Res.bind,e,mkM]
 rfl
end _D
end
section
namespace _D
open PySem
theorem eU {n:Nat}{f:DE}{ds:List D}{S S':Sto}{d:D}{env:qD}(hs:yF n ds=env)(h:f env S=.ok d S'):qT n (zB f) ds S=.ok d S':=by
 subst hs
 unfold qT zB
 rw[h]
 rfl
theorem u4 {n:Nat}{g:DS}{ds:List D}{S S':Sto}{d:D}{env:qD}(hs:yF n ds=env)(h:g env S=.rt d S'):qT n g ds S=.ok d S':=by
 subst hs
 unfold qT
 rw[h]
 rfl
theorem K1 {o:Option (Nat × MO)}{S S':Sto}(h:stn o S)(e:S<+:S'):stn o S':=by
 cases o with
 |none=>trivial
 |some p =>
  obtain⟨r,rfl⟩:=e
  have h':S[p.1]? = some p.2:=h
  show (S++r)[p.1]? = some p.2
  rw[List.getElem?_append_left (List.getElem?_eq_some_iff.mp h').1]
  exact h'
theorem yT {α β:Type}(sel:α→Bool)(val:α→β)(l:List α) : (l.flatMap fun d=>if sel d then [val d] else []) = (l.filter sel).map val:=by
 induction l with
 |nil=>rfl
 |cons d l ih =>
  rw[List.flatMap_cons,ih]
  cases h:sel d <;> simp[h]
theorem bD {α β:Type}(f:α→List β)(n:Nat)(l:List α)(h:∀ x∈l,(f x).length≤n):(l.flatMap f).length≤l.length*n:=by
 induction l with
 |nil=>simp
 |cons d l ih =>
  rw[List.flatMap_cons,List.length_append,List.length_cons,Nat.succ_mul]
  have h1:=h d (List.mem_cons_self ..)
  have h2:=ih fun x hx=>h x (List.mem_cons_of_mem _ hx)
  omega
section
variable {cap:List (Option Nat)}{fi:DI2}{g:DG}{t:DT}{fe:DE}{env:qD}{S S0:Sto}{o:Option (Nat × MO)}{items:List D}
theorem GE {fi2:DI2}{g2:DG}{t2:DT}{o2:Option (Nat × MO)}(h:fi env S=.ok (o,items) S)(hst:stn o S)(hst2:stn o2 S)(its2:D→List D)(sel:D→D→Bool)(val:D→D→D)(C:qD→Prop)(C2:D→qD→Prop)(h0:C (zT cap env))(hC2:∀ d env,C2 d env→C env)
  (hl:(items.flatMap fun d=>((its2 d).filter (sel d)).map (val d)).length≤lim)
  (step:∀ d∈items,∀ env,C env→∃ env1,g d env S=.ok env1 S∧C2 d env1∧t env1 S=.ok true S∧fi2 env1 S=.ok (o2,its2 d) S)
  (step2:∀ d∈items,∀ x∈its2 d,∀ env,C2 d env→∃ env1,g2 x env S=.ok env1 S∧C2 d env1∧t2 env1 S=.ok (sel d x) S∧(sel d x=true→fe env1 S=.ok (val d x) S)) :
  zF false cap fi g t (kIn fi2 g2 t2 (zI fe)) env S=.ok (.lst (items.flatMap fun d=>((its2 d).filter (sel d)).map (val d))) S:=by
 obtain⟨env',S',e,_,q⟩:=pS (o:=o) (g:=g) (t:=t) (k:=kIn fi2 g2 t2 (zI fe)) (fun d=>((its2 d).filter (sel d)).map (val d)) (fun env S'=>C env∧S'=S) (fun _ _ h=>h.2▸hst) items (zT cap env) S [] ⟨h0,rfl⟩ (by simpa using hl) (fun d hd env S' acc hC hl=>by
  obtain⟨hc,rfl⟩:=hC
  obtain⟨env1,e1,c1,e2,e3⟩:=step d hd env hc
  obtain⟨env2,S2,e4,q,r⟩:=pS (o:=o2) (g:=g2) (t:=t2) (k:=zI fe) (fun x=>if sel d x then [val d x] else []) (fun env S''=>C2 d env∧S''=S') (fun _ _ h=>h.2▸hst2) (its2 d) env1 S' acc ⟨c1,rfl⟩ (by rw[yT];exact hl) (fun x hx env S'' acc hC hl=>by
   obtain⟨hc,rfl⟩:=hC
   obtain⟨env3,f1,f2,f3,f4⟩:=step2 d hd x hx env hc
   refine⟨env3,S'',sel d x,S'',f1,f3,?_⟩
   cases hs:sel d x with
   |false=>exact .inl ⟨rfl,by simp,f2,rfl⟩
   |true =>
    refine .inr ⟨rfl,env3,S'',?_,f2,rfl⟩
    simp only[if_true]
    exact g9 (f4 hs) (by simp only[hs,if_true,List.length_singleton] at hl;omega))
  subst r
  refine⟨env1,S2,true,S2,e1,e2,.inr ⟨rfl,env2,S2,?_,hC2 d _ q,rfl⟩⟩
  unfold kIn
  rw[e3]
  simp only[Res.bind]
  rw[e4,yT])
 subst q
 have:=jB (cap:=cap) h e
 rwa [List.nil_append] at this
end
end _D
end
section
namespace _D
open PySem
theorem goT {α : Type}{enc:α→D}{o:Option (Nat × MO)}{g:DG}{t:DT}{k:DK}(out:α→List D)(C:qD→Sto→Prop)(hC:∀ env S,C env S→stn o S) :
  ∀ (xs:List α) (env:qD) (S:Sto) (acc:List D),C env S→acc.length+(xs.flatMap out).length≤lim →
  (∀ x∈xs,∀ env S acc,C env S→acc.length+(out x).length≤lim→∃ env1 S1 b S2,g (enc x) env S=.ok env1 S1∧t env1 S1=.ok b S2∧((b=false∧out x=[]∧C env1 S2)∨(b=true∧∃ env3 S3,k env1 S2 acc=.ok (env3,acc++out x) S3∧C env3 S3))) →
  ∃ env' S',goL o g t k (xs.map enc) env S acc=.ok (env',acc++xs.flatMap out) S'∧C env' S'
 |[],env,S,acc,h,hl,_=>⟨env,S,by simp[goL,xT.mpr (hC _ _ h)],h⟩
 |x::xs,env,S,acc,h,hl,step=>by
  rw[List.flatMap_cons,List.length_append] at hl
  obtain⟨env1,S1,b,S2,e1,e2,r⟩:=step x (List.mem_cons_self ..) env S acc h (by omega)
  have hst:=xT.mpr (hC _ _ h)
  rcases r with⟨rfl,h0,h2⟩|⟨rfl,env3,S3,e3,h3⟩
  ·obtain⟨env',S',e,q⟩:=goT out C hC xs env1 S2 acc h2 (by omega) fun d hd=>step d (List.mem_cons_of_mem _ hd)
   refine⟨env',S',?_,q⟩
   simp only[List.map_cons,goL,hst,if_true,e1,e2,Res.bind,Bool.false_eq_true,if_false,List.flatMap_cons,h0,List.nil_append]
   exact e
  ·obtain⟨env',S',e,q⟩:=goT out C hC xs env3 S3 (acc++out x) h3 (by rw[List.length_append];omega) fun d hd=>step d (List.mem_cons_of_mem _ hd)
   refine⟨env',S',?_,q⟩
   simp only[List.map_cons,goL,hst,if_true,e1,e2,Res.bind,e3,List.flatMap_cons]
   rw[e,List.append_assoc]
section
variable {α β:Type}{enc:α→D}{enc2:β→D}{cap:List (Option Nat)}{fi:DI2}{g:DG}{t:DT}{fe:DE}{env:qD}{S S0:Sto}{o:Option (Nat × MO)}{xs:List α}
theorem BA (hst:stn o S)(sel:α→Bool)(val:α→D)(C:qD→Prop)(h0:C env)(hl:xs.length≤lim)
  (step:∀ x∈xs,∀ env S',C env→S<+:S'→∃ env1 S1,g (enc x) env S'=.ok env1 S'∧C env1∧t env1 S'=.ok (sel x) S1∧S'<+:S1∧(sel x=true→∃ S2,fe env1 S1=.ok (val x) S2∧S1<+:S2)) :
  ∃ env' S',goL o g t (zI fe) (xs.map enc) env S [] = .ok (env',(xs.filter sel).map val) S'∧S<+:S':=by
 have lf:(xs.flatMap fun d=>if sel d then [val d] else []).length≤lim:=by
  rw[yT,List.length_map]
  exact Nat.le_trans (List.length_filter_le _ _) hl
 obtain⟨env',S',e,_,q⟩:=goT (enc:=enc) (o:=o) (g:=g) (t:=t) (k:=zI fe) (fun d=>if sel d then [val d] else []) (fun env S'=>C env∧S<+:S') (fun _ _ h=>K1 hst h.2) xs env S [] ⟨h0,List.prefix_refl _⟩ (by simpa using lf) (fun d hd env S' acc hC hl=>by
  obtain⟨env1,S1,e1,c1,e2,p1,k⟩:=step d hd env S' hC.1 hC.2
  refine⟨env1,S',sel d,S1,e1,e2,?_⟩
  cases hs:sel d with
  |false=>exact .inl ⟨rfl,by simp,c1,hC.2.trans p1⟩
  |true =>
   obtain⟨S2,e3,p2⟩:=k hs
   refine .inr ⟨rfl,env1,S2,?_,c1,(hC.2.trans p1).trans p2⟩
   simp only[if_true]
   exact g9 e3 (by simp only[hs,if_true,List.length_singleton] at hl;omega))
 refine⟨env',S',?_,q⟩
 rw[e,List.nil_append,yT]
theorem GD (h:fi env S0=.ok (o,xs.map enc) S)(hst:stn o S)(sel:α→Bool)(val:α→D)(C:qD→Prop)(h0:C (zT cap env))(hl:xs.length≤lim)
  (step:∀ x∈xs,∀ env S',C env→S<+:S'→∃ env1 S1,g (enc x) env S'=.ok env1 S'∧C env1∧t env1 S'=.ok (sel x) S1∧S'<+:S1∧(sel x=true→∃ S2,fe env1 S1=.ok (val x) S2∧S1<+:S2)) :
  ∃ S',zF false cap fi g t (zI fe) env S0=.ok (.lst ((xs.filter sel).map val)) S'∧S<+:S':=by
 obtain⟨env',S',e,q⟩:=BA hst sel val C h0 hl step
 exact⟨S',jB h e,q⟩
theorem YW (h:fi env S0=.ok (o,xs.map enc) S)(hst:stn o S)(sel:α→Bool)(val:α→D)(C:qD→Prop)(h0:C (zT cap env))(hl:xs.length≤lim)
  (step:∀ x∈xs,∀ env S',C env→S<+:S'→∃ env1 S1,g (enc x) env S'=.ok env1 S'∧C env1∧t env1 S'=.ok (sel x) S1∧S'<+:S1∧(sel x=true→∃ S2,fe env1 S1=.ok (val x) S2∧S1<+:S2)) :
  ∃ S',zF true cap fi g t (zI fe) env S0=.ok (.loc S'.length) (S'++[.lst ((xs.filter sel).map val)])∧S<+:S':=by
 obtain⟨env',S',e,q⟩:=BA hst sel val C h0 hl step
 exact⟨S',i3 h e,q⟩
theorem NN (hst:stn o S)(sel:α→Bool)(val:α→D)(C:qD→Prop)(h0:C env)(hl:xs.length≤lim)
  (step:∀ x∈xs,∀ env,C env→∃ env1,g (enc x) env S=.ok env1 S∧C env1∧t env1 S=.ok (sel x) S∧(sel x=true→fe env1 S=.ok (val x) S)) :
  ∃ env',goL o g t (zI fe) (xs.map enc) env S [] = .ok (env',(xs.filter sel).map val) S:=by
 have lf:(xs.flatMap fun d=>if sel d then [val d] else []).length≤lim:=by
  rw[yT,List.length_map]
  exact Nat.le_trans (List.length_filter_le _ _) hl
 obtain⟨env',S',e,_,q⟩:=goT (enc:=enc) (o:=o) (g:=g) (t:=t) (k:=zI fe) (fun d=>if sel d then [val d] else []) (fun env S'=>C env∧S'=S) (fun _ _ h=>h.2▸hst) xs env S [] ⟨h0,rfl⟩ (by simpa using lf) (fun d hd env S' acc hC hl=>by
  obtain⟨hc,rfl⟩:=hC
  obtain⟨env1,e1,c1,e2,k⟩:=step d hd env hc
  refine⟨env1,S',sel d,S',e1,e2,?_⟩
  cases hs:sel d with
  |false=>exact .inl ⟨rfl,by simp,c1,rfl⟩
  |true =>
   refine .inr ⟨rfl,env1,S',?_,c1,rfl⟩
   simp only[if_true]
   exact g9 (k hs) (by simp only[hs,if_true,List.length_singleton] at hl;omega))
 subst q
 refine⟨env',?_⟩
 rw[e,List.nil_append,yT]
theorem jW (h:fi env S=.ok (o,xs.map enc) S)(hst:stn o S)(sel:α→Bool)(val:α→D)(C:qD→Prop)(h0:C (zT cap env))(hl:xs.length≤lim)
  (step:∀ x∈xs,∀ env,C env→∃ env1,g (enc x) env S=.ok env1 S∧C env1∧t env1 S=.ok (sel x) S∧(sel x=true→fe env1 S=.ok (val x) S)) :
  zF false cap fi g t (zI fe) env S=.ok (.lst ((xs.filter sel).map val)) S:=by
 obtain⟨env',e⟩:=NN hst sel val C h0 hl step
 exact jB h e
theorem YX {fi2:DI2}{g2:DG}{t2:DT}{o2:Option (Nat × MO)}(h:fi env S=.ok (o,xs.map enc) S)(hst:stn o S)(hst2:stn o2 S)(ys:α→List β)(sel:α→β→Bool)(val:α→β→D)(C:qD→Prop)(C2:α→qD→Prop)(h0:C (zT cap env))(hC2:∀ x env,C2 x env→C env)
  (hl:(xs.flatMap fun x=>((ys x).filter (sel x)).map (val x)).length≤lim)
  (step:∀ x∈xs,∀ env,C env→∃ env1,g (enc x) env S=.ok env1 S∧C2 x env1∧t env1 S=.ok true S∧fi2 env1 S=.ok (o2,(ys x).map enc2) S)
  (step2:∀ x∈xs,∀ y∈ys x,∀ env,C2 x env→∃ env1,g2 (enc2 y) env S=.ok env1 S∧C2 x env1∧t2 env1 S=.ok (sel x y) S∧(sel x y=true→fe env1 S=.ok (val x y) S)) :
  zF false cap fi g t (kIn fi2 g2 t2 (zI fe)) env S=.ok (.lst (xs.flatMap fun x=>((ys x).filter (sel x)).map (val x))) S:=by
 obtain⟨env',S',e,_,q⟩:=goT (enc:=enc) (o:=o) (g:=g) (t:=t) (k:=kIn fi2 g2 t2 (zI fe)) (fun x=>((ys x).filter (sel x)).map (val x)) (fun env S'=>C env∧S'=S) (fun _ _ h=>h.2▸hst) xs (zT cap env) S [] ⟨h0,rfl⟩ (by simpa using hl) (fun d hd env S' acc hC hl=>by
  obtain⟨hc,rfl⟩:=hC
  obtain⟨env1,e1,c1,e2,e3⟩:=step d hd env hc
  obtain⟨env2,S2,e4,q,r⟩:=goT (enc:=enc2) (o:=o2) (g:=g2) (t:=t2) (k:=zI fe) (fun x=>if sel d x then [val d x] else []) (fun env S''=>C2 d env∧S''=S') (fun _ _ h=>h.2▸hst2) (ys d) env1 S' acc ⟨c1,rfl⟩ (by rw[yT];exact hl) (fun x hx env S'' acc hC hl=>by
   obtain⟨hc,rfl⟩:=hC
   obtain⟨env3,f1,f2,f3,f4⟩:=step2 d hd x hx env hc
   refine⟨env3,S'',sel d x,S'',f1,f3,?_⟩
   cases hs:sel d x with
   |false=>exact .inl ⟨rfl,by simp,f2,rfl⟩
   |true =>
    refine .inr ⟨rfl,env3,S'',?_,f2,rfl⟩
    simp only[if_true]
    exact g9 (f4 hs) (by simp only[hs,if_true,List.length_singleton] at hl;omega))
  subst r
  refine⟨env1,S2,true,S2,e1,e2,.inr ⟨rfl,env2,S2,?_,hC2 d _ q,rfl⟩⟩
  unfold kIn
  rw[e3]
  simp only[Res.bind]
  rw[e4,yT])
 subst q
 have:=jB (cap:=cap) h e
 rwa [List.nil_append] at this
end
end _D
end
section
namespace _D
open PySem
theorem zU {o:G2}{f g:DE}{env:qD}{S S1 S2:Sto}{a b:D}(h1:f env S=.ok a S1)(h2:g env S1=.ok b S2):d2 o f g env S=o a b S2:=by
 unfold d2
 rw[h1]
 simp only[Res.bind]
 rw[h2]
theorem nK {F:DF}{f1:DE}{env:qD}{S S1:Sto}{a:D}(h1:f1 env S=.ok a S1):qO 1 F (qA f1 (qC)) env S=F [a] S1:=by
 simp only[qO,qA,qC,h1,Res.bind,List.length_cons,List.length_nil,if_true]
theorem vU {F:DF}{f1 f2:DE}{env:qD}{S S1 S2:Sto}{a b:D}(h1:f1 env S=.ok a S1)(h2:f2 env S1=.ok b S2):qO 2 F (qA f1 (qA f2 (qC))) env S=F [a,b] S2:=by
 simp only[qO,qA,qC,h1,h2,Res.bind,List.length_cons,List.length_nil,if_true]
theorem xV {F:DF}{f1 f2 f3:DE}{env:qD}{S S1 S2 S3:Sto}{a b c:D}(h1:f1 env S=.ok a S1)(h2:f2 env S1=.ok b S2)(h3:f3 env S2=.ok c S3):qO 3 F (qA f1 (qA f2 (qA f3 (qC)))) env S=F [a,b,c] S3:=by
 simp only[qO,qA,qC,h1,h2,h3,Res.bind,List.length_cons,List.length_nil,if_true]
theorem vY {F:DF}{f1:DE}{env:qD}{S S1:Sto}{a:D}(h1:f1 env S=.ok a S1):qL F (qA f1 (qC)) env S=F [a] S1:=by
 simp only[qL,qA,qC,h1,Res.bind]
theorem yJ {f:DE}{env:qD}{S S1:Sto}{b:Bool}(h:f env S=.ok (.bl b) S1):dTr f env S=.ok b S1:=by
 unfold dTr
 rw[h]
 rfl
theorem oE {f:DT}{env:qD}{S S1:Sto}{b:Bool}(h:f env S=.ok b S1):vV f env S=.ok (!b) S1:=by
 unfold vV
 rw[h]
 rfl
theorem LD {f g:DT}{env:qD}{S S1 S2:Sto}{a b:Bool}(h:f env S=.ok a S1)(k:a=false→g env S1=.ok b S2)(e:a=true→S1=S2):jO f g env S=.ok (a||b) S2:=by
 unfold jO
 rw[h]
 cases a with
 |true=>cases e rfl;rfl
 |false=>exact k rfl
theorem jX {f1:DE}{env:qD}{S S1:Sto}{a:D}(h1:f1 env S=.ok a S1):qA f1 (qC) env S=.ok [a] S1:=by
 simp only[qA,qC,h1,Res.bind]
theorem uO {f1 f2:DE}{env:qD}{S S1 S2:Sto}{a b:D}(h1:f1 env S=.ok a S1)(h2:f2 env S1=.ok b S2):qA f1 (qA f2 (qC)) env S=.ok [a,b] S2:=by
 simp only[qA,qC,h1,h2,Res.bind]
theorem xD {f:DE}{g:DA}{env:qD}{S S1 S2:Sto}{a:D}{as:List D}(h:f env S=.ok a S1)(k:g env S1=.ok as S2):qA f g env S=.ok (a::as) S2:=by
 simp only[qA,h,k,Res.bind]
theorem yD {g:DA}{env:qD}{S S1:Sto}{as:List D}(k:g env S=.ok as S1)(h:as.length≤lim):zW g env S=.ok (.lst as) S1:=by
 simp only[zW,k,Res.bind,h,if_true]
theorem j6 {g:DA}{env:qD}{S S1:Sto}{as:List D}(k:g env S=.ok as S1)(h:as.length≤lim):qZ g env S=.ok (.tup as) S1:=by
 simp only[qZ,k,Res.bind,h,if_true]
theorem vF {env:qD}{i:Nat}{d:D}{S:Sto}(h:env[i]? = some (some d)):qB i env S=.ok d S:=by simp only[qB,h]
theorem jC {α : Type}(l:List α) : l.filter (fun _=>true)=l:=by simp
theorem aQ {α : Type}(p:α→Bool)(l:List α) : x6 (l.map fun x=>D.bl (p x))=some (l.map p):=by
 induction l with
 |nil=>rfl
 |cons x l ih =>
  show (x6 (l.map fun x=>D.bl (p x))).map (p x::·)=_
  rw[ih];rfl
theorem KS {α : Type}{f:DE}{env:qD}{S S1:Sto}{l:List α}{p:α→Bool}(h:f env S=.ok (.lst (l.map fun x=>D.bl (p x))) S1):qL (lW false) (qA f (qC)) env S=.ok (.bl (l.all p)) S1:=by
 rw[vY h]
 show (match (wQ (.lst (l.map fun x=>D.bl (p x)))).bind x6 with|some bs=>Res.ok (D.bl (bs.all id)) S1|none=>.bad)=_
 rw[show (wQ (.lst (l.map fun x=>D.bl (p x)))).bind x6=some (l.map p) from aQ p l]
 simp only[List.all_map]
 rfl
theorem F7 {i j:Nat}{f1 f2:DE}{env:qD}{S S1 S2:Sto}{a b:D}{Q:qD→Sto→Prop}(h1:f1 env S=.ok a S1)(h2:f2 env S1=.ok b S2)(q:Q ((env.set i (some a)).set j (some b)) S2):Nx (bT i j (qA f1 (qA f2 (qC))) env S) Q:=by
 unfold bT
 rw[uO h1 h2]
 exact wN rfl q
end _D
end
section
namespace _K
open PySem _D
theorem TH (b:Bool)(S:Sto):uB (.bl b) S=some b:=rfl
theorem RO (i:Int)(S:Sto):uB (.int i) S=some (i != 0):=rfl
theorem fW (i:Int)(S:Sto):tyD (.int i) S=some "int":=rfl
theorem RV (b:Bool)(S:Sto):tyD (.bl b) S=some "bool":=rfl
theorem RQ (S:Sto):tyD .non S=some "NoneType":=rfl
theorem RS (x:Str)(S:Sto):tyD (.str x) S=some "str":=rfl
theorem sM (x:List D)(S:Sto):tyD (.tup x) S=some "tuple":=rfl
theorem sJ (x:List D)(S:Sto):tyD (.lst x) S=some "list":=rfl
theorem RM (x:List D):wQ (.tup x)=some x:=rfl
theorem RL (x:List D):wQ (.lst x)=some x:=rfl
theorem UR (d:D)(S:Sto):cU (.rt d S)=.ok d S:=rfl
theorem RN (e:qD)(S:Sto):cU (.nx e S)=.ok .non S:=rfl
theorem UQ (c:Value)(x:D)(e:qD)(S:Sto):cU (.ex c x e S)=.ex c x S:=rfl
theorem SY (i j:Nat)(env:qD)(S:Sto)(x y:D):dP i j env S [x,y]=.nx ((env.set i (some x)).set j (some y)) S:=rfl
theorem RP (C:Int→Int→Bool)(f:Int→Int→D)(i j:Int)(S:Sto):i2 C f (.int i) (.int j) S=if C i j=true then .ok (f i j) S else .bad:=rfl
theorem VW (b:Bool)(S:Sto):lX [.bl b] S=.ok (.int (b01 b)) S:=rfl
theorem rL {xs:List D}{k:Int}{d:D}(h:_L.atI xs k=some d)(S:Sto):gIx (.lst xs) (.int k) S=.ok d S:=by
 show _D.yO (_L.atI xs k) S=_
 rw[h]
 rfl
end _K
end
open PySem _D _K
section
namespace _K
open PySem PySem.Spec PyProof.Rows _L _D
def top (i:Nat):Stmt:=PySem.Challenge.pw_fewdistances_k80_lots_of_two_fars.main.body.getD i (.Pass ⟨0,0,0,0⟩)
structure Cl where
 (FarError NoPoint NoLot NoNumber NoCircle NoMarks NoFars NoText NoLine NoDeed Alike TooMany:Addr)
def xR (c:Cl):List Addr:=[c.NoPoint,c.NoLot,c.NoNumber,c.NoCircle,c.NoMarks,c.NoFars,c.NoText,c.NoLine,c.NoDeed,c.Alike,c.TooMany]
def gT (c:Cl):List Value:=[.ref c.NoPoint,.ref c.NoLot,.ref c.NoNumber,.ref c.NoCircle,.ref c.NoMarks,.ref c.NoFars,.ref c.NoText,.ref c.NoLine,.ref c.NoDeed]
abbrev clt (c:Cl):List (Str × Addr):=[("FarError",c.FarError),("NoPoint",c.NoPoint),("NoLot",c.NoLot),("NoNumber",c.NoNumber),("NoCircle",c.NoCircle),("NoMarks",c.NoMarks),("NoFars",c.NoFars),("NoText",c.NoText),("NoLine",c.NoLine),("NoDeed",c.NoDeed),("Alike",c.Alike),("TooMany",c.TooMany)]
abbrev plt (c:Cl):List (Str × Addr):=[("NoPoint",c.NoPoint),("NoLot",c.NoLot),("NoNumber",c.NoNumber),("NoCircle",c.NoCircle),("NoMarks",c.NoMarks),("NoFars",c.NoFars),("NoText",c.NoText),("NoLine",c.NoLine),("NoDeed",c.NoDeed)]
abbrev cst:List (Str × Int):=[("MOST_SIDE",5),("LEAST_POINTS",2),("MOST_POINTS",5)]
abbrev bl:List Str:=["ValueError","all","bool","enumerate","int","isinstance","len","list","range","sorted","str","tuple","zip"]
abbrev tab:List (Str × Nat × List Str):=[("board_points",1,["w","h"]),("grown",2,["lots","points"]),("is_whole",17,["thing"]),("is_within",18,["thing","least","most"]),("need_within",19,["thing","least","most"]),("far_between",21,["one","other"]),("pairs_by_far",22,["points"]),("two_lots",27,["w","h","n"]),("_law_kinds",29,["_law_e"]),("_law_refused",30,["_law_call"]),("_law_same",31,["_law_found","_law_due"]),("_law_cell",32,["_law_script","_law_k"]),("_law_pen",33,["_law_cell_here"]),("_law_draw",34,["_law_pen_here","_law_many"]),("_law_no_number",35,["_law_pen_here","_law_low","_law_high"]),("_law_far",36,["_law_one","_law_other"]),("_law_combos",37,["_law_some","_law_n"]),("_law_two",38,["_law_lot"]),("_law_right",39,["_law_w","_law_h","_law_n"]),("law",40,["_law_script"])]
abbrev Txt (K:PySem.W.Frag)(mg:Str→Option Value)(c:Cl):Prop:=TxS K mg top tab bl (clt c) (plt c) (gT c) (xR c) cst
abbrev BN:List Str:=["law"]
@[reducible] noncomputable def b_board_points:DS:=zB (zF false [none,none,some 1] (wM (yB (qA (qB 0) (qC)))) (gNm 0) (zV) (kIn (wM (yB (qA (qB 2) (qC)))) (gNm 1) (zV) (zI (qZ (qA (qB 0) (qA (qB 1) (qC)))))))
@[irreducible] noncomputable def S_board_points:DF:=sh (qT 2 b_board_points)
theorem uD:S_board_points=qT 2 b_board_points:=by delta S_board_points;exact xH _
@[reducible] noncomputable def b_grown:DS:=zB (zF false [none,none,some 1] (dIt (qB 0)) (gNm 0) (zV) (kIn (dIt (qB 2)) (gNm 1) (zM (dTr (d2 mL (qB 1) (d2 gIx (qB 0) (d1 d7 (dC (.int 1)))))) (zV)) (zI (d2 zJ (qB 0) (qZ (qA (qB 1) (qC)))))))
@[irreducible] noncomputable def S_grown:DF:=sh (qT 2 b_grown)
theorem f9:S_grown=qT 2 b_grown:=by delta S_grown;exact xH _
@[reducible] noncomputable def b_is_whole:DS:=zB (mC (qL xE (qA (qB 0) (qA (dC (.ty "int")) (qC)))) (Z6 (qL xE (qA (qB 0) (qA (dC (.ty "bool")) (qC))))))
@[irreducible] noncomputable def S_is_whole:DF:=sh (qT 1 b_is_whole)
theorem u9:S_is_whole=qT 1 b_is_whole:=by delta S_is_whole;exact xH _
@[reducible] noncomputable def b_is_within:DS:=zB (mC (qO 1 S_is_whole (qA (qB 0) (qC))) (lO gLe gLe (qB 1) (qB 0) (qB 2)))
@[irreducible] noncomputable def S_is_within:DF:=sh (qT 3 b_is_within)
theorem vH:S_is_within=qT 3 b_is_within:=by delta S_is_within;exact xH _
@[reducible] noncomputable def b_need_within (c:Cl):DS:=sIf (vV (dTr (qO 3 S_is_within (qA (qB 0) (qA (qB 1) (qA (qB 2) (qC))))))) (pJ (.ref c.NoNumber) (qA (nO [dC (.str "a whole number from "),d1 jP (qB 1),dC (.str " to "),d1 jP (qB 2),dC (.str " is needed")]) (qC))) (x8)
@[irreducible] noncomputable def S_need_within (c:Cl):DF:=sh (qT 3 (b_need_within c))
theorem yK (c:Cl):S_need_within c=qT 3 (b_need_within c):=by delta S_need_within;exact xH _
@[reducible] noncomputable def b_far_between:DS:=qR (zG (d2 vM (d2 gIx (qB 0) (dC (.int 0))) (d2 gIx (qB 1) (dC (.int 0)))) (gNm 2)) (qR (zG (d2 vM (d2 gIx (qB 0) (dC (.int 1))) (d2 gIx (qB 1) (dC (.int 1)))) (gNm 3)) (zB (d2 zJ (d2 xW (qB 2) (qB 2)) (d2 xW (qB 3) (qB 3)))))
@[irreducible] noncomputable def S_far_between:DF:=sh (qT 4 b_far_between)
theorem uM:S_far_between=qT 4 b_far_between:=by delta S_far_between;exact xH _
@[reducible] noncomputable def b_pairs_by_far:DS:=qR (zG (cE) (gNm 1)) (qR (vR (nN (qA (qB 0) (qC))) (gTp 2 (xA (gNm 2) (xA (gNm 3) (jD)))) (vR (wG (dSl (qB 0) (xX (d2 zJ (qB 2) (dC (.int 1)))) (jY))) (gNm 4) (xN (dBm "list" wJ (dBm "dict" xY (qB 1) (qA (qO 2 S_far_between (qA (qB 3) (qA (qB 4) (qC)))) (qA (fD (qC)) (qC)))) (qA (qZ (qA (qB 3) (qA (qB 4) (qC)))) (qC)))))) (zB (qB 1)))
@[irreducible] noncomputable def S_pairs_by_far:DF:=sh (qT 5 b_pairs_by_far)
theorem uE:S_pairs_by_far=qT 5 b_pairs_by_far:=by delta S_pairs_by_far;exact xH _
@[reducible] noncomputable def b_two_lots (c:Cl):DS:=qR (xN (qO 3 (S_need_within c) (qA (qB 0) (qA (dC (.int 1)) (qA (dC (.int (5))) (qC)))))) (qR (xN (qO 3 (S_need_within c) (qA (qB 1) (qA (dC (.int 1)) (qA (dC (.int (5))) (qC)))))) (qR (xN (qO 3 (S_need_within c) (qA (qB 2) (qA (dC (.int (2))) (qA (dC (.int (5))) (qC)))))) (qR (zG (qO 2 S_board_points (qA (qB 0) (qA (qB 1) (qC)))) (gNm 3)) (qR (zG (zF false [none] (dIt (qB 3)) (gNm 0) (zV) (zI (qZ (qA (qB 0) (qC))))) (gNm 4)) (qR (vR (yB (qA (d2 vM (qB 2) (dC (.int 1))) (qC))) (gNm 5) (zG (zF true [none] (dIt (qO 2 S_grown (qA (qB 4) (qA (qB 3) (qC))))) (gNm 0) (zM (dTr (d2 gLe (qL yY (qA (qO 1 (okO S_pairs_by_far) (qA (qB 0) (qC))) (qC))) (dC (.int 2)))) (zV)) (zI (qB 0))) (gNm 4))) (zB (qB 4)))))))
@[irreducible] noncomputable def S_two_lots (c:Cl):DF:=sh (qT 6 (b_two_lots c))
theorem uA (c:Cl):S_two_lots c=qT 6 (b_two_lots c):=by delta S_two_lots;exact xH _
@[reducible] noncomputable def b__law_kinds (c:Cl):DS:=qR (zG (zW (qA (qL (zN (xR c)) (qA (qB 0) (qA (dC (.obj c.NoPoint)) (qC)))) (qA (qL (zN (xR c)) (qA (qB 0) (qA (dC (.obj c.NoLot)) (qC)))) (qA (qL (zN (xR c)) (qA (qB 0) (qA (dC (.obj c.NoNumber)) (qC)))) (qC))))) (gNm 1)) (qR (zG (d2 zJ (qB 1) (zW (qA (qL (zN (xR c)) (qA (qB 0) (qA (dC (.obj c.NoCircle)) (qC)))) (qA (qL (zN (xR c)) (qA (qB 0) (qA (dC (.obj c.NoMarks)) (qC)))) (qA (qL (zN (xR c)) (qA (qB 0) (qA (dC (.obj c.NoFars)) (qC)))) (qC)))))) (gNm 1)) (qR (zG (d2 zJ (qB 1) (zW (qA (qL (zN (xR c)) (qA (qB 0) (qA (dC (.obj c.NoText)) (qC)))) (qA (qL (zN (xR c)) (qA (qB 0) (qA (dC (.obj c.NoLine)) (qC)))) (qA (qL (zN (xR c)) (qA (qB 0) (qA (dC (.obj c.NoDeed)) (qC)))) (qC)))))) (gNm 1)) (qR (zG (d2 zJ (qB 1) (zW (qA (qL (zN (xR c)) (qA (qB 0) (qA (dC (.obj c.Alike)) (qC)))) (qA (qL (zN (xR c)) (qA (qB 0) (qA (dC (.obj c.TooMany)) (qC)))) (qC))))) (gNm 1)) (qR (sIf (jO (vV (dTr (qL (zN (xR c)) (qA (qB 0) (qA (dC (.ty "ValueError")) (qC)))))) (dTr (d2 gNe (dBm "list" fF (qB 1) (qA (dC (.bl true)) (qC))) (dC (.int 1))))) (zB (dC (.str "other"))) (x8)) (qR (sIf (dTr (qL (zN (xR c)) (qA (qB 0) (qA (dC (.obj c.Alike)) (qC))))) (zB (qZ (qA (dC (.str "alike")) (qA (gX) (qA (gX) (qA (gX) (qA (gX) (qC)))))))) (x8)) (qR (sIf (dTr (qL (zN (xR c)) (qA (qB 0) (qA (dC (.obj c.TooMany)) (qC))))) (zB (qZ (qA (dC (.str "many")) (qA (gX) (qA (gX) (qC)))))) (x8)) (qR (zG (zW (qA (dC (.str "point")) (qA (dC (.str "lot")) (qA (dC (.str "number")) (qA (dC (.str "circle")) (qA (dC (.str "marks")) (qA (dC (.str "fars")) (qA (dC (.str "text")) (qA (dC (.str "line")) (qA (dC (.str "deed")) (qC))))))))))) (gNm 2)) (zB (d2 gIx (qB 2) (dBm "list" fG (qB 1) (qA (dC (.bl true)) (qC))))))))))))
@[irreducible] noncomputable def S__law_kinds (c:Cl):DF:=sh (qT 3 (b__law_kinds c))
theorem j8 (c:Cl):S__law_kinds c=qT 3 (b__law_kinds c):=by delta S__law_kinds;exact xH _
@[reducible] noncomputable def b__law_refused (c:Cl)(G:List D→DF)(a:Addr)(cv:List V):DS:=qR (bU 2 1 (gT c) (xN (kO 0 (qC) a cv 0 G)) (zB (qO 1 (S__law_kinds c) (qA (qB 1) (qC))))) (zB (dC (.str "told")))
@[reducible] noncomputable def b__law_same (S__law_same:DF):DS:=qR (sIf (dTr (d2 gIs (qB 1) (dC .non))) (zB (d2 gIs (qB 0) (dC .non))) (x8)) (qR (sIf (dTr (qL kR (qA (qB 1) (qA (qZ (qA (dC (.ty "list")) (qA (dC (.ty "tuple")) (qC)))) (qC))))) (qR (sIf (dTr (d2 gNe (qL xE (qA (qB 1) (qA (dC (.ty "list")) (qC)))) (qL xE (qA (qB 0) (qA (dC (.ty "list")) (qC)))))) (zB (dC (.bl false))) (x8)) (qR (sIf (jO (dTr (d2 gNe (qL xE (qA (qB 1) (qA (dC (.ty "tuple")) (qC)))) (qL xE (qA (qB 0) (qA (dC (.ty "tuple")) (qC)))))) (dTr (d2 gNe (qL wB (qA (qB 0) (qC))) (qL wB (qA (qB 1) (qC)))))) (zB (dC (.bl false))) (x8)) (zB (qL (lW false) (qA (zF false [none,none] (wM (cG (qA (qB 0) (qA (qB 1) (qC))))) (gTp 2 (xA (gNm 0) (xA (gNm 1) (jD)))) (zV) (zI (qO 2 (okO S__law_same) (qA (qB 0) (qA (qB 1) (qC)))))) (qC)))))) (x8)) (qR (sIf (dTr (qL xE (qA (qB 1) (qA (dC (.ty "str")) (qC))))) (zB (mC (qL xE (qA (qB 0) (qA (dC (.ty "str")) (qC)))) (d2 gEq (qB 0) (qB 1)))) (x8)) (qR (sIf (dTr (d2 gNe (qL xE (qA (qB 0) (qA (dC (.ty "bool")) (qC)))) (qL xE (qA (qB 1) (qA (dC (.ty "bool")) (qC)))))) (zB (dC (.bl false))) (x8)) (zB (mC (qL xE (qA (qB 0) (qA (dC (.ty "int")) (qC)))) (d2 gEq (qB 0) (qB 1)))))))
noncomputable def fT:Nat→DF
 |0=>fun _ _=>.bad
 |n+1=>qT 2 (b__law_same (fT n))
@[irreducible] noncomputable def S__law_same:DF:=sh (fT 6)
theorem jV:S__law_same=fT 6:=by delta S__law_same;exact xH _
@[reducible] noncomputable def b__law_cell:DS:=qR (sIf (dTr (d2 gLt (qB 1) (qL wB (qA (qB 0) (qC))))) (zB (d2 gIx (qB 0) (qB 1))) (x8)) (zB (dC (.int 0)))
@[irreducible] noncomputable def S__law_cell:DF:=sh (qT 2 b__law_cell)
theorem jT:S__law_cell=qT 2 b__law_cell:=by delta S__law_cell;exact xH _
@[reducible] noncomputable def b__law_pen:DS:=zB (fD (qA (qB 0) (qA (qL lX (qA (d2 gGe (qB 0) (d2 pC (dC (.int 10)) (dC (.int 18)))) (qC))) (qC))))
@[irreducible] noncomputable def S__law_pen:DF:=sh (qT 1 b__law_pen)
theorem gO:S__law_pen=qT 1 b__law_pen:=by delta S__law_pen;exact xH _
@[reducible] noncomputable def b__law_draw:DS:=qR (sIf (dTr (d2 gEq (d2 gIx (qB 0) (dC (.int 1))) (dC (.int 1)))) (qR (zG (d2 kT (d2 gIx (qB 0) (dC (.int 0))) (qB 1)) (gNm 2)) (qR (zG (d2 mK (d2 gIx (qB 0) (dC (.int 0))) (qB 1)) (gSb (qB 0) (dC (.int 0)) yG)) (zB (qB 2)))) (x8)) (qR (zG (d2 kT (d2 zJ (d2 xW (d2 kT (d2 gIx (qB 0) (dC (.int 0))) (dC (.int 2147483629))) (dC (.int 48271))) (dC (.int 11))) (dC (.int 2147483629))) (gSb (qB 0) (dC (.int 0)) yG)) (zB (d2 kT (d2 mK (d2 kT (d2 zJ (d2 xW (d2 gIx (qB 0) (dC (.int 0))) (d2 gIx (qB 0) (dC (.int 0)))) (d2 xW (dC (.int 40692)) (d2 gIx (qB 0) (dC (.int 0))))) (dC (.int 2147483647))) (dC (.int 8))) (qB 1))))
@[irreducible] noncomputable def S__law_draw:DF:=sh (qT 3 b__law_draw)
theorem jU:S__law_draw=qT 3 b__law_draw:=by delta S__law_draw;exact xH _
@[reducible] noncomputable def b__law_no_number:DS:=qR (zG (zW (qA (d2 vM (qB 1) (dC (.int 1))) (qA (d2 zJ (qB 2) (dC (.int 1))) (qA (d2 vM (d2 vM (dC (.int 0)) (qB 2)) (dC (.int 1))) (qA (d2 zJ (d2 zJ (qB 2) (dC (.int 1))) (qO 2 S__law_draw (qA (qB 0) (qA (d2 pC (dC (.int 10)) (dC (.int 9))) (qC))))) (qA (dC (.bl true)) (qC))))))) (gNm 3)) (qR (zG (d2 zJ (qB 3) (zW (qA (dC (.bl false)) (qC)))) (gNm 3)) (zB (d2 gIx (d2 zJ (qB 3) (zW (qA (dC .non) (qA (dC (.str "1")) (qA (qZ (qA (dC (.int 1)) (qC))) (qA (zW (qA (dC (.int 1)) (qC))) (qA (cF) (qA (d2 pC (dC (.int 10)) (dC (.int 29))) (qC))))))))) (qO 2 S__law_draw (qA (qB 0) (qA (dC (.int 12)) (qC)))))))
@[irreducible] noncomputable def S__law_no_number:DF:=sh (qT 4 b__law_no_number)
theorem vG:S__law_no_number=qT 4 b__law_no_number:=by delta S__law_no_number;exact xH _
@[reducible] noncomputable def b__law_far:DS:=qR (bT 2 3 (qA (d2 vM (d2 gIx (qB 0) (dC (.int 0))) (d2 gIx (qB 1) (dC (.int 0)))) (qA (d2 vM (d2 gIx (qB 0) (dC (.int 1))) (d2 gIx (qB 1) (dC (.int 1)))) (qC)))) (zB (d2 zJ (d2 xW (qB 2) (qB 2)) (d2 xW (qB 3) (qB 3))))
@[irreducible] noncomputable def S__law_far:DF:=sh (qT 4 b__law_far)
theorem gN:S__law_far=qT 4 b__law_far:=by delta S__law_far;exact xH _
@[reducible] noncomputable def b__law_combos:DS:=qR (zG (zW (qA (qZ (qC)) (qC))) (gNm 2)) (qR (fS (dIt (qB 0)) (gNm 3) (zG (d2 zJ (qB 2) (zF false [none,some 1,some 3] (dIt (qB 2)) (gNm 0) (zM (dTr (d2 gLt (qL wB (qA (qB 0) (qC))) (qB 1))) (zV)) (zI (d2 zJ (qB 0) (qZ (qA (qB 2) (qC))))))) (gNm 2))) (zB (qL pA (qA (zF false [none,some 1] (dIt (qB 2)) (gNm 0) (zM (dTr (d2 gEq (qL wB (qA (qB 0) (qC))) (qB 1))) (zV)) (zI (qB 0))) (qC)))))
@[irreducible] noncomputable def S__law_combos:DF:=sh (qT 4 b__law_combos)
theorem uL:S__law_combos=qT 4 b__law_combos:=by delta S__law_combos;exact xH _
@[reducible] noncomputable def b__law_two:DS:=qR (zG (cE) (gNm 1)) (qR (vR (nN (qA (qB 0) (qC))) (gTp 2 (xA (gNm 2) (xA (gNm 3) (jD)))) (vR (wG (dSl (qB 0) (jY) (xX (qB 2)))) (gNm 4) (zG (dC (.bl true)) (gSb (qB 1) (qO 2 S__law_far (qA (qB 3) (qA (qB 4) (qC)))) yG)))) (zB (d2 gLt (qL yY (qA (qB 1) (qC))) (dC (.int 3)))))
@[irreducible] noncomputable def S__law_two:DF:=sh (qT 5 b__law_two)
theorem gP:S__law_two=qT 5 b__law_two:=by delta S__law_two;exact xH _
@[reducible] noncomputable def b__law_right (c:Cl):DS:=qR (zG (fD (qC)) (gNm 3)) (qR (vR (yB (qA (qB 0) (qC))) (gNm 4) (xN (dBm "list" jZ (qB 3) (qA (zF false [none,some 4] (wM (yB (qA (qB 1) (qC)))) (gNm 0) (zV) (zI (qZ (qA (qB 1) (qA (qB 0) (qC)))))) (qC))))) (qR (zG (zF false [none] (dIt (qO 2 S__law_combos (qA (qB 3) (qA (qB 2) (qC))))) (gNm 0) (zM (dTr (qO 1 (okO S__law_two) (qA (qB 0) (qC)))) (zV)) (zI (qB 0))) (gNm 5)) (qR (vR (yB (qA (dC (.int 2)) (qC))) (gNm 6) (qR (zG (qO 3 (S_two_lots c) (qA (qB 0) (qA (qB 1) (qA (qB 2) (qC))))) (gNm 7)) (qR (sIf (vV (dTr (qO 2 (uG S__law_same) (qA (qB 7) (qA (qB 5) (qC)))))) (zB (dC (.bl false))) (x8)) (xN (dBm "list" wJ (qB 7) (qA (qZ (qC)) (qC))))))) (zB (dC (.bl true))))))
@[irreducible] noncomputable def S__law_right (c:Cl):DF:=sh (qT 8 (b__law_right c))
theorem j9 (c:Cl):S__law_right c=qT 8 (b__law_right c):=by delta S__law_right;exact xH _
@[reducible] noncomputable def b_law (c:Cl):DS:=qR (sIf (jO (dTr (d2 (v7 gNe) (qO 3 (S_two_lots c) (qA (dC (.int 2)) (qA (dC (.int 2)) (qA (dC (.int 4)) (qC))))) (zW (qA (qZ (qA (qZ (qA (dC (.int 0)) (qA (dC (.int 0)) (qC)))) (qA (qZ (qA (dC (.int 0)) (qA (dC (.int 1)) (qC)))) (qA (qZ (qA (dC (.int 1)) (qA (dC (.int 0)) (qC)))) (qA (qZ (qA (dC (.int 1)) (qA (dC (.int 1)) (qC)))) (qC)))))) (qC))))) (dTr (d2 (v7 gNe) (qO 3 (S_two_lots c) (qA (dC (.int 1)) (qA (dC (.int 1)) (qA (dC (.int 2)) (qC))))) (zW (qC))))) (zB (dC (.bl false))) (x8)) (qR (vR (wG (d2 zJ (zW (qA (qO 2 S__law_cell (qA (qB 0) (qA (dC (.int 0)) (qC)))) (qC))) (dSl (qB 0) (xX (dC (.int 1))) (xX (dC (.int 3)))))) (gNm 1) (qR (zG (qO 1 S__law_pen (qA (qB 1) (qC))) (gNm 2)) (qR (b7 3 4 5 (qA (d2 zJ (dC (.int 1)) (qO 2 S__law_draw (qA (qB 2) (qA (dC (.int 5)) (qC))))) (qA (d2 zJ (dC (.int 1)) (qO 2 S__law_draw (qA (qB 2) (qA (dC (.int 5)) (qC))))) (qA (d2 zJ (dC (.int 2)) (qO 2 S__law_draw (qA (qB 2) (qA (dC (.int 4)) (qC))))) (qC))))) (qR (sIf (zM (dTr (d2 gGt (qB 5) (dC (.int 3)))) (dTr (d2 gGt (d2 xW (qB 3) (qB 4)) (dC (.int 16))))) (zG (dC (.int 3)) (gNm 4)) (x8)) (qR (sIf (vV (dTr (qO 3 (S__law_right c) (qA (qB 3) (qA (qB 4) (qA (qB 5) (qC))))))) (zB (dC (.bl false))) (x8)) (qR (bT 6 7 (qA (qO 3 S__law_no_number (qA (qB 2) (qA (dC (.int 1)) (qA (dC (.int 5)) (qC))))) (qA (qO 3 S__law_no_number (qA (qB 2) (qA (dC (.int 2)) (qA (dC (.int 5)) (qC))))) (qC)))) (qR (zG (zW (qA (qZ (qA (qB 6) (qA (qB 4) (qA (qB 5) (qC))))) (qA (qZ (qA (qB 3) (qA (qB 6) (qA (qB 5) (qC))))) (qA (qZ (qA (qB 3) (qA (qB 4) (qA (qB 7) (qC))))) (qC))))) (gNm 8)) (qR (zG (d2 zJ (qB 8) (zW (qA (qZ (qA (qB 6) (qA (qB 6) (qA (qB 7) (qC))))) (qA (qZ (qA (dC (.int 6)) (qA (dC (.int 1)) (qA (dC (.int 2)) (qC))))) (qA (qZ (qA (dC (.int 1)) (qA (dC (.int 6)) (qA (dC (.int 2)) (qC))))) (qA (qZ (qA (dC (.int 1)) (qA (dC (.int 1)) (qA (dC (.int 1)) (qC))))) (qC))))))) (gNm 8)) (vR (wG (d2 zJ (qB 8) (zW (qA (qZ (qA (dC (.int 5)) (qA (dC (.int 5)) (qA (dC (.int 6)) (qC))))) (qA (qZ (qA (dC (.int 0)) (qA (dC (.int 1)) (qA (dC (.int 2)) (qC))))) (qC)))))) (gTp 3 (xA (gNm 9) (xA (gNm 10) (xA (gNm 11) (jD))))) (sIf (dTr (d2 gNe (gY false [9,10,11] 1 2 (qC) (b__law_refused c (BM (qO 3 (S_two_lots c) (qA (qB 0) (qA (qB 1) (qA (qB 2) (qC)))))))) (dC (.str "number")))) (zB (dC (.bl false))) (x8))))))))))) (zB (dC (.bl true))))
end _K
end
section
namespace _K
open PySem _D
theorem pR (i j:Int)(S:Sto):gEq (.int i) (.int j) S=.ok (.bl (decide (i=j))) S:=by kernel_rfl!
theorem VY (i j:Int)(S:Sto):gNe (.int i) (.int j) S=.ok (.bl (decide (i≠j))) S:=by
 have h:gNe (.int i) (.int j) S=.ok (.bl (!decide (i=j))) S:=by kernel_rfl!
 rw[h,← decide_not]
theorem yU (i j:Int)(S:Sto)(h : -(2 ^ 64)<i∧i<2 ^ 64):xW (.int i) (.int j) S=.ok (.int (i*j)) S:=by
 unfold xW i2
 rw[lE]
 unfold lD
 simp only[h,and_self,decide_true,Bool.true_or,if_true]
theorem vK (i j:Int)(S:Sto):zJ (.int i) (.int j) S=.ok (.int (i+j)) S:=rfl
theorem vL {xs ys:List D}(h:xs.length+ys.length≤lim)(S:Sto):zJ (.lst xs) (.lst ys) S=.ok (.lst (xs++ys)) S:=if_pos h
theorem nX {S:Sto}{j:Nat}{xs:List D}(h:S[j]? = some (.lst xs)):tyD (.loc j) S=some "list":=by
 show (match S[j]? with|some (.lst _)=>some "list" | some (.dct _)=>some "dict" | _=>none)=_
 rw[h]
theorem l8 {S:Sto}{j:Nat}{xs:List D}(h:S[j]? = some (.lst xs))(hl:xs.length<lim)(d:D):wJ (.loc j) [d] S=.ok .non (S.set j (.lst (xs++[d]))):=by
 show (match S[j]? with|some (.lst xs)=>(if xs.length<lim then Res.ok D.non (S.set j (.lst (xs++[d]))) else .bad)|_=>.bad)=_
 rw[h]
 exact if_pos hl
theorem pB (a b:Bool)(S:Sto):gNe (.bl a) (.bl b) S=.ok (.bl (a != b)) S:=by
 cases a <;> cases b <;> rfl
theorem yZ (d:D)(b a:String)(S:Sto)(ho:xS b=true)(h:tyD d S=some a):xE [d,.ty b] S=.ok (.bl (zH a b)) S:=by
 unfold xE
 simp[ho,h]
theorem dE (xs:List D)(S:Sto):wB [.lst xs] S=.ok (.int xs.length) S:=rfl
theorem XC (xs:List D)(S:Sto):wB [.tup xs] S=.ok (.int xs.length) S:=rfl
theorem BE (i:Int)(S:Sto):gIs (.int i) .non S=.ok (.bl false) S:=rfl
theorem zY:xS "int" = true∧xS "bool" = true∧xS "tuple" = true∧xS "list" = true∧xS "str" = true:=kd
theorem tE:zH "int" "tuple" = false∧zH "int" "list" = false∧zH "int" "str" = false∧zH "int" "bool" = false∧zH "int" "int" = true∧zH "tuple" "tuple" = true∧zH "tuple" "list" = false∧zH "list" "tuple" = false∧zH "list" "list" = true:=kd
theorem k6 (i j:Int)(S:Sto)(h:0<j):kT (.int i) (.int j) S=.ok (.int (i % j)) S:=by
 unfold kT i2
 simp[h]
theorem rK (i j:Int)(S:Sto)(h:0<j∧j<1073741824):mK (.int i) (.int j) S=.ok (.int (i/j)) S:=by
 unfold mK i2 KW
 simp[h]
def yW (d:D):Prop:=∀ S,tyD d S=some "NoneType" ∨ tyD d S=some "bool" ∨ tyD d S=some "str" ∨ tyD d S=some "tuple" ∨ tyD d S=some "list" ∨ tyD d S=some "dict"
theorem mX (i:Int)(S:Sto):S_is_whole [.int i] S=.ok (.bl true) S:=by
 rw[u9]
 kernel_rfl!
theorem nF (d:D)(S:Sto)(h:yW d):S_is_whole [d] S=.ok (.bl false) S:=by
 rw[u9]
 unfold b_is_whole
 rcases h S with h|h|h|h|h|h <;> simp[qT,yF,UR,RN,UQ,qR,sIf,zB,x8,xN,zG,gNm,gSb,gTp,xA,jD,bT,SY,RY,dC,qB,d1,d2,qA,qC,qL,qO,dTr,vV,jO,zM,zV,mC,Z6,lO,qZ,zW,fD,dBm,dSl,xX,jY,wG,yB,Res.bind,Res.toS,_D.cX,_D.yO,TH,RO,fW,RV,RQ,RS,sM,sJ,RM,RL,RP,gLt,gLe,gGt,gGe,_D.vM,RU,yZ _ _ _ _ zY.1 h,yZ _ _ _ _ zY.2.1 h,zH]
theorem dU (i a b:Int)(S:Sto):S_is_within [.int i,.int a,.int b] S=.ok (.bl (decide (a≤i∧i≤b))) S:=by
 rw[vH]
 unfold b_is_within
 simp[qT,yF,UR,RN,UQ,qR,sIf,zB,x8,xN,zG,gNm,gSb,gTp,xA,jD,bT,SY,RY,dC,qB,d1,d2,qA,qC,qL,qO,dTr,vV,jO,zM,zV,mC,Z6,lO,qZ,zW,fD,dBm,dSl,xX,jY,wG,yB,Res.bind,Res.toS,_D.cX,_D.yO,TH,RO,fW,RV,RQ,RS,sM,sJ,RM,RL,RP,gLt,gLe,gGt,gGe,_D.vM,RU,mX]
 by_cases h:a≤i <;> simp[h,UR]
theorem sU (d:D)(a b:Int)(S:Sto)(h:yW d):S_is_within [d,.int a,.int b] S=.ok (.bl false) S:=by
 rw[vH]
 unfold b_is_within
 simp[qT,yF,UR,RN,UQ,qR,sIf,zB,x8,xN,zG,gNm,gSb,gTp,xA,jD,bT,SY,RY,dC,qB,d1,d2,qA,qC,qL,qO,dTr,vV,jO,zM,zV,mC,Z6,lO,qZ,zW,fD,dBm,dSl,xX,jY,wG,yB,Res.bind,Res.toS,_D.cX,_D.yO,TH,RO,fW,RV,RQ,RS,sM,sJ,RM,RL,RP,gLt,gLe,gGt,gGe,_D.vM,RU,nF d S h]
def vT (a b:Int)(d:D):Prop:=∀ S:Sto,S_is_within [d,.int a,.int b] S=.ok (.bl false) S
theorem yE {a b i:Int}(h:i<a∨b<i):vT a b (.int i):=fun S=>by
 rw[dU]
 have:¬ (a≤i∧i≤b):=by omega
 simp[this]
theorem gE {a b:Int}{d:D}(h:yW d):vT a b d:=fun S=>sU _ _ _ S h
theorem F3:yW .non:=fun _=>.inl rfl
theorem Y5 (b:Bool):yW (.bl b):=fun _=>.inr (.inl rfl)
theorem F4 (x:Str):yW (.str x):=fun _=>.inr (.inr (.inl rfl))
theorem F5 (x:List D):yW (.tup x):=fun _=>.inr (.inr (.inr (.inl rfl)))
theorem F2 (x:List D):yW (.lst x):=fun _=>.inr (.inr (.inr (.inr (.inl rfl))))
theorem F1:yW .dct0:=fun _=>.inr (.inr (.inr (.inr (.inr rfl))))
theorem kE (i a b:Int)(S:Sto)(c:Cl)(h:a≤i∧i≤b):S_need_within c [.int i,.int a,.int b] S=.ok .non S:=by
 rw[yK]
 unfold b_need_within
 simp[qT,yF,UR,RN,UQ,qR,sIf,zB,x8,xN,zG,gNm,gSb,gTp,xA,jD,bT,SY,RY,dC,qB,d1,d2,qA,qC,qL,qO,dTr,vV,jO,zM,zV,mC,Z6,lO,qZ,zW,fD,dBm,dSl,xX,jY,wG,yB,Res.bind,Res.toS,_D.cX,_D.yO,TH,RO,fW,RV,RQ,RS,sM,sJ,RM,RL,RP,gLt,gLe,gGt,gGe,_D.vM,RU,dU,h]
theorem iG (a:Int)(S:Sto)(h:a.natAbs.log2<1920):jP (.int a) S=.ok (.str (toString a)) S:=by
 unfold jP
 simp only[h,if_true]
def BZ (a b:Int):List Str:=[Str.empty++("a whole number from " : Str),Str.empty++("a whole number from " : Str)++((toString a:String):Str),Str.empty++("a whole number from " : Str)++((toString a:String):Str)++(" to " : Str),Str.empty++("a whole number from " : Str)++((toString a:String):Str)++(" to " : Str)++((toString b:String):Str),Str.empty++("a whole number from " : Str)++((toString a:String):Str)++(" to " : Str)++((toString b:String):Str)++(" is needed" : Str)]
def nQ (a b:Int):Bool:=decide (a.natAbs.log2<1920)&&decide (b.natAbs.log2<1920)&&(BZ a b).all fun m=>decide (m.length≤lim)
theorem pD {out y:Str}{p:DE}{ps:List DE}{env:qD}{S S1:Sto}(h:p env S=.ok (.str y) S1)(hl:(out++y).length≤lim):kZ out (p::ps) env S=kZ (out++y) ps env S1:=by
 show ((p env S).bind fun d S1=>match d with|.str y=>if (out++y).length≤lim then kZ (out++y) ps env S1 else .bad|_=>.bad)=_
 rw[h]
 exact if_pos hl
theorem pI (d:D)(a b:Int)(S:Sto)(c:Cl)(hm:nQ a b=true)(h:vT a b d):S_need_within c [d,.int a,.int b] S=.ex (.ref c.NoNumber) .non S:=by
 rw[yK]
 unfold b_need_within
 simp only[nQ,BZ,List.all_cons,List.all_nil,Bool.and_eq_true,Bool.and_true,decide_eq_true_eq] at hm
 obtain⟨⟨la,lb⟩,j1,j2,j3,j4,j5⟩:=hm
 have hj:nO [dC (.str "a whole number from "),d1 jP (qB 1),dC (.str " to "),d1 jP (qB 2),dC (.str " is needed")] [some d,some (.int a),some (.int b)] S=.ok (.str (Str.empty++("a whole number from " : Str)++((toString a:String):Str)++(" to " : Str)++((toString b:String):Str)++(" is needed" : Str))) S:=
  (pD rfl j1).trans ((pD (iG a S la) j2).trans ((pD rfl j3).trans ((pD (iG b S lb) j4).trans ((pD rfl j5).trans (if_pos j5)))))
 have l1:∀ x:D,[x].length≤lim:=fun x=>by show 1≤lim;decide
 simp[qT,yF,UR,RN,UQ,qR,sIf,zB,x8,xN,zG,gNm,gSb,gTp,xA,jD,bT,SY,RY,dC,qB,d1,d2,qA,qC,qL,qO,dTr,vV,jO,zM,zV,mC,Z6,lO,qZ,zW,fD,dBm,dSl,xX,jY,wG,yB,Res.bind,Res.toS,_D.cX,_D.yO,TH,RO,fW,RV,RQ,RS,sM,sJ,RM,RL,RP,gLt,gLe,gGt,gGe,_D.vM,RU,h S,pJ]
 simp only[hj,l1,if_true,UQ]
def j7 (S:Sto)(p:Nat):Prop:=∃ v f:Int,S[p]? = some (.lst [.int v,.int f])
theorem dB (p:Nat)(k:Int)(xs:List D)(d:D)(S:Sto)(h:S[p]? = some (.lst xs))(hk:_L.atI xs k=some d):gIx (.loc p) (.int k) S=.ok d S:=by
 show (match S[p]? with|some (.lst xs)=>_D.yO (_L.atI xs k) S|_=>.bad)=_
 rw[h]
 show _D.yO (_L.atI xs k) S=_
 rw[hk]
 rfl
theorem YA (v f:Int):_L.atI [D.int v,D.int f] 0=some (.int v):=rfl
theorem LI (v f:Int):_L.atI [D.int v,D.int f] 1=some (.int f):=rfl
theorem eI (p:Nat)(v f w:Int)(S:Sto)(h:S[p]? = some (.lst [.int v,.int f])):yG (.loc p) (.int 0) (.int w) S=.ok () (S.set p (.lst [.int w,.int f])):=by
 simp[yG,bM,h,_L.ixN]
theorem dS (S:Sto)(p:Nat)(m:Int)(h:j7 S p)(hm:0<m∧m<1073741824):∃ r v f:Int,S__law_draw [.loc p,.int m] S=.ok (.int r) (S.set p (.lst [.int v,.int f]))∧0≤r∧r<m:=by
 obtain⟨v,f,hp⟩:=h
 have hpl:=(List.getElem?_eq_some_iff.mp hp).1
 have g0:=dB p 0 _ _ S hp (YA v f)
 have g1:=dB p 1 _ _ S hp (LI v f)
 rw[jU]
 unfold b__law_draw
 by_cases hf:f=1
 ·refine⟨v % m,v/m,f,?_,Int.emod_nonneg _ (by omega),Int.emod_lt_of_pos _ hm.1⟩
  subst hf
  simp[qT,yF,UR,RN,UQ,qR,sIf,zB,x8,xN,zG,gNm,gSb,gTp,xA,jD,bT,SY,RY,dC,qB,d1,d2,qA,qC,qL,qO,dTr,vV,jO,zM,zV,mC,Z6,lO,qZ,zW,fD,dBm,dSl,xX,jY,wG,yB,Res.bind,Res.toS,_D.cX,_D.yO,TH,RO,fW,RV,RQ,RS,sM,sJ,RM,RL,RP,gLt,gLe,gGt,gGe,_D.vM,RU,g0,g1,pR,k6 v m S hm.1,rK v m S hm,eI p v 1 (v/m) S hp]
 ·obtain⟨w,hw⟩:∃ w:Int,w=(v % 2147483629*48271+11) % 2147483629:=⟨_,rfl⟩
  have hw1:0≤w∧w<2147483629:=by rw[hw];exact⟨Int.emod_nonneg _ (by omega),Int.emod_lt_of_pos _ (by omega)⟩
  have hv1:0≤v % 2147483629∧v % 2147483629<2147483629:=⟨Int.emod_nonneg _ (by omega),Int.emod_lt_of_pos _ (by omega)⟩
  have hp':(S.set p (MO.lst [.int w,.int f]))[p]? = some (.lst [.int w,.int f]):=by simp[hpl]
  have k0:=dB p 0 _ _ (S.set p (MO.lst [.int w,.int f])) hp' (YA w f)
  have m1:=yU (v % 2147483629) 48271 S ⟨by omega,by omega⟩
  have m2:=yU w w (S.set p (MO.lst [.int w,.int f])) ⟨by omega,by omega⟩
  have m3:=yU 40692 w (S.set p (MO.lst [.int w,.int f])) ⟨by omega,by omega⟩
  have d1:=k6 v 2147483629 S (by omega)
  have d2':=k6 (v % 2147483629*48271+11) 2147483629 S (by omega)
  rw[← hw] at d2'
  have d3:=k6 (w*w+40692*w) 2147483647 (S.set p (MO.lst [.int w,.int f])) (by omega)
  have d4:=rK ((w*w+40692*w) % 2147483647) 8 (S.set p (MO.lst [.int w,.int f])) (by omega)
  have d5:=k6 ((w*w+40692*w) % 2147483647/8) m (S.set p (MO.lst [.int w,.int f])) hm.1
  refine⟨(w*w+40692*w) % 2147483647/8 % m,w,f,?_,Int.emod_nonneg _ (by omega),Int.emod_lt_of_pos _ hm.1⟩
  simp[qT,yF,UR,RN,UQ,qR,sIf,zB,x8,xN,zG,gNm,gSb,gTp,xA,jD,bT,SY,RY,dC,qB,d1,d2,qA,qC,qL,qO,dTr,vV,jO,zM,zV,mC,Z6,lO,qZ,zW,fD,dBm,dSl,xX,jY,wG,yB,Res.bind,Res.toS,_D.cX,_D.yO,TH,RO,fW,RV,RQ,RS,sM,sJ,RM,RL,RP,gLt,gLe,gGt,gGe,_D.vM,RU,g0,g1,pR,hf,d1,m1,vK,d2',eI p v f w S hp,k0,m2,m3,d3,d4,d5]
theorem bQ {S:Sto}{p:Nat}(h:j7 S p)(v f:Int):j7 (S.set p (.lst [.int v,.int f])) p:=by
 obtain⟨v0,f0,hp⟩:=h
 have hpl:=(List.getElem?_eq_some_iff.mp hp).1
 exact⟨v,f,by simp[hpl]⟩
theorem M1 (S:Sto):pC (.int 10) (.int 18) S=.ok (.int 1000000000000000000) S:=rfl
theorem M2 (S:Sto):pC (.int 10) (.int 29) S=.ok (.int 100000000000000000000000000000) S:=rfl
theorem LV (x:Int)(S:Sto):∃ f:Int,S__law_pen [.int x] S=.ok (.loc S.length) (S++[.lst [.int x,.int f]]):=by
 refine⟨b01 (decide (1000000000000000000≤x)),?_⟩
 have l2:2≤lim:=by decide
 rw[gO]
 unfold b__law_pen
 simp[qT,yF,UR,RN,UQ,qR,sIf,zB,x8,xN,zG,gNm,gSb,gTp,xA,jD,bT,SY,RY,dC,qB,d1,d2,qA,qC,qL,qO,dTr,vV,jO,zM,zV,mC,Z6,lO,qZ,zW,fD,dBm,dSl,xX,jY,wG,yB,Res.bind,Res.toS,_D.cX,_D.yO,TH,RO,fW,RV,RQ,RS,sM,sJ,RM,RL,RP,gLt,gLe,gGt,gGe,_D.vM,RU,M1,VW,l2]
theorem MQ (ns:List Int)(S:Sto):∃ x:Int,S__law_cell [.lst (ns.map D.int),.int 0] S=.ok (.int x) S:=by
 rw[jT]
 unfold b__law_cell
 cases ns with
 |nil=>exact⟨0,by simp[qT,yF,UR,RN,UQ,qR,sIf,zB,x8,xN,zG,gNm,gSb,gTp,xA,jD,bT,SY,RY,dC,qB,d1,d2,qA,qC,qL,qO,dTr,vV,jO,zM,zV,mC,Z6,lO,qZ,zW,fD,dBm,dSl,xX,jY,wG,yB,Res.bind,Res.toS,_D.cX,_D.yO,TH,RO,fW,RV,RQ,RS,sM,sJ,RM,RL,RP,gLt,gLe,gGt,gGe,_D.vM,RU,dE]⟩
 |cons n ns =>
  refine⟨n,?_⟩
  have h:(0:Int)<(ns.length:Int)+1:=by omega
  have a:_L.atI (D.int n::ns.map D.int) 0=some (.int n):=by simp[_L.atI,_L.ixN,h]
  simp[qT,yF,UR,RN,UQ,qR,sIf,zB,x8,xN,zG,gNm,gSb,gTp,xA,jD,bT,SY,RY,dC,qB,d1,d2,qA,qC,qL,qO,dTr,vV,jO,zM,zV,mC,Z6,lO,qZ,zW,fD,dBm,dSl,xX,jY,wG,yB,Res.bind,Res.toS,_D.cX,_D.yO,TH,RO,fW,RV,RQ,RS,sM,sJ,RM,RL,RP,gLt,gLe,gGt,gGe,_D.vM,RU,dE,rL a,h]
theorem KU (xs:List D)(r:Int)(h:0≤r∧r<xs.length):∃ d,_L.atI xs r=some d∧d∈xs:=by
 have e:_L.ixN xs.length r=some r.toNat:=by simp[_L.ixN,h]
 have hl:r.toNat<xs.length:=by omega
 exact⟨xs[r.toNat],by simp[_L.atI,e,hl],List.getElem_mem hl⟩
theorem YZ (ns:List Int)(lo hi:Option Int):∃ ms:List Int,wO (ns.map D.int) lo hi=ms.map D.int∧ms.length≤ns.length:=by
 unfold wO
 rw[← List.map_drop,← List.map_take]
 exact⟨_,rfl,by simp;omega⟩
theorem MU {t:DT}{f g:DS}{env:qD}{S S1:Sto}{b:Bool}{Q:D→Sto→Prop}(h:t env S=.ok b S1)(k:Rt ((if b then f else g) env S1) Q):Rt (sIf t f g env S) Q:=by
 obtain⟨d,S2,e2,q⟩:=k
 refine⟨d,S2,?_,q⟩
 unfold sIf
 rw[h]
 cases b <;> exact e2
theorem JT {f g:DS}{env:qD}{S:Sto}{Q:D→Sto→Prop}(h:Rt (f env S) Q):Rt (qR f g env S) Q:=by
 obtain⟨d,S2,e2,q⟩:=h
 exact⟨d,S2,by unfold qR;rw[e2],q⟩
theorem dZ {n:Nat}{g:DS}{ds:List D}{S S':Sto}{d:D}{env:qD}(hs:yF n ds=env)(h:Rt (g env S) fun d' S1=>d'=d∧S1=S'):qT n g ds S=.ok d S':=by
 obtain⟨d',S1,e,rfl,rfl⟩:=h
 exact u4 hs e
def m8 (a b r:Int):List D:=[.int (a-1),.int (b+1),.int (0-b-1),.int (b+1+r),.bl true,.bl false,.non,.str "1",.tup [.int 1],.lst [.int 1],.dct0,.int 100000000000000000000000000000]
theorem YN (a b r:Int)(ha:0≤a∧a≤b∧b<10000000000000000000000000000)(hr:0≤r):∀ d∈m8 a b r,vT a b d:=by
 intro d hd
 simp only[m8,List.mem_cons,List.not_mem_nil,or_false] at hd
 rcases hd with rfl|rfl|rfl|rfl|rfl|rfl|rfl|rfl|rfl|rfl|rfl|rfl
 ·exact yE (by omega)
 ·exact yE (by omega)
 ·exact yE (by omega)
 ·exact yE (by omega)
 ·exact gE (Y5 _)
 ·exact gE (Y5 _)
 ·exact gE F3
 ·exact gE (F4 _)
 ·exact gE (F5 _)
 ·exact gE (F2 _)
 ·exact gE F1
 ·exact yE (by omega)
theorem LL (S:Sto):pC (.int 10) (.int 9) S=.ok (.int 1000000000) S:=rfl
theorem bE (S:Sto)(p:Nat)(a b:Int)(h:j7 S p)(ha:0≤a∧a≤b∧b<10000000000000000000000000000):∃ (d:D) (v f:Int),S__law_no_number [.loc p,.int a,.int b] S=.ok d (S.set p (.lst [.int v,.int f]))∧vT a b d:=by
 obtain⟨r,v,f,e,h0,h1⟩:=dS S p 1000000000 h (by omega)
 obtain⟨r2,v2,f2,e2,h2,h3⟩:=dS (S.set p (.lst [.int v,.int f])) p 12 (bQ h v f) (by omega)
 rw[List.set_set] at e2
 obtain⟨d,hd,hm⟩:=KU (m8 a b r) r2 ⟨h2,h3⟩
 refine⟨d,v2,f2,?_,YN a b r ha h0 d hm⟩
 unfold m8 at hd
 have l1:1≤lim:=by decide
 have l5:5≤lim:=by decide
 have l6:6≤lim:=by decide
 have l12:12≤lim:=by decide
 have k1 (S:Sto):zJ (.lst [.int (a-1),.int (b+1),.int (0-b-1),.int (b+1+r),.bl true]) (.lst [.bl false]) S=.ok (.lst [.int (a-1),.int (b+1),.int (0-b-1),.int (b+1+r),.bl true,.bl false]) S:=vL (by show 6≤lim;exact l6) S
 have k2 (S:Sto):zJ (.lst [.int (a-1),.int (b+1),.int (0-b-1),.int (b+1+r),.bl true,.bl false]) (.lst [.non,.str "1",.tup [.int 1],.lst [.int 1],.dct0,.int 100000000000000000000000000000]) S=.ok (.lst (m8 a b r)) S:=vL (by show 12≤lim;exact l12) S
 have k3 (S:Sto):gIx (.lst (m8 a b r)) (.int r2) S=.ok d S:=rL hd S
 rw[vG]
 refine dZ (env:=[some (.loc p),some (.int a),some (.int b),none]) rfl ?_
 refine z9 (zS (zC (yD (xD rfl (xD rfl (xD rfl (xD ((zU rfl ((vU rfl ((zU rfl rfl).trans (LL S))).trans e)).trans (vK (b+1) r _)) (xD rfl rfl))))) l5) ?_))
 refine z9 (zS (zC ((zU rfl (yD (as:=[.bl false]) (xD rfl rfl) l1)).trans (k1 _)) ?_))
 exact u0 (zC ((zU ((zU rfl (yD (as:=[.non,.str "1",.tup [.int 1],.lst [.int 1],.dct0,.int 100000000000000000000000000000]) (xD rfl (xD rfl (xD (j6 (as:=[.int 1]) (xD rfl rfl) l1) (xD (yD (as:=[.int 1]) (xD rfl rfl) l1) (xD rfl (xD ((zU rfl rfl).trans (M2 _)) rfl)))))) l6)).trans (k2 _)) ((vU rfl rfl).trans e2)).trans (k3 _)) ⟨rfl,rfl⟩)
theorem ZZ {cl:List Addr}{C B:Addr}(hC:C∈cl)(hB:B∈cl)(S:Sto):zN cl [.exn (.ref C),.obj B] S=.ok (.bl (C == B)) S:=by
 show (if (cl.contains C&&cl.contains B)=true then Res.ok (D.bl (C == B)) S else .bad)=_
 rw[List.contains_iff_mem.mpr hC,List.contains_iff_mem.mpr hB]
 rfl
theorem U5 {cl:List Addr}{C:Addr}(hC:C∈cl)(S:Sto):zN cl [.exn (.ref C),.ty "ValueError"] S=.ok (.bl true) S:=by
 show (if (cl.contains C&&(("ValueError" : String) == "ValueError"))=true then Res.ok (D.bl true) S else .bad)=_
 rw[List.contains_iff_mem.mpr hC]
 rfl
theorem yI {cl:List Addr}(nd:cl.Nodup){i j:Nat}{a b:Addr}(ha:cl[i]? = some a)(hb:cl[j]? = some b)(h:i≠j):(a == b)=false:=by
 rw[beq_eq_false_iff_ne]
 rintro rfl
 obtain⟨h1,e1⟩:=List.getElem?_eq_some_iff.mp ha
 obtain⟨h2,e2⟩:=List.getElem?_eq_some_iff.mp hb
 exact h ((List.getElem_inj nd).mp (e1.trans e2.symm))
theorem y8 {cl:List Addr}{env:qD}{S:Sto}{C B:Addr}{b:Bool}(h0:env[0]? = some (some (.exn (.ref C))))(hC:C∈cl)(hB:B∈cl)(e:(C == B)=b):qL (zN cl) (qA (qB 0) (qA (dC (.obj B)) (qC))) env S=.ok (.bl b) S:=by
 unfold qL qA qB
 rw[h0]
 exact(ZZ hC hB S).trans (e▸rfl)
theorem NS {cl:List Addr}{env:qD}{S:Sto}{C:Addr}(h0:env[0]? = some (some (.exn (.ref C))))(hC:C∈cl):qL (zN cl) (qA (qB 0) (qA (dC (.ty "ValueError")) (qC))) env S=.ok (.bl true) S:=by
 unfold qL qA qB
 rw[h0]
 exact U5 hC S
theorem uN {f:DE}{g:DA}{env:qD}{S:Sto}{a:D}{as:List D}(h:f env S=.ok a S)(k:g env S=.ok as S):qA f g env S=.ok (a::as) S:=by
 unfold qA
 rw[h,Res.bind_ok,k]
 rfl
theorem cH {g:DA}{env:qD}{S:Sto}{as:List D}(k:g env S=.ok as S)(h:as.length≤lim):zW g env S=.ok (.lst as) S:=by
 unfold zW
 rw[k,Res.bind_ok,if_pos h]
theorem X3 {o:G2}{f g:DE}{env:qD}{S:Sto}{a b:D}(h1:f env S=.ok a S)(h2:g env S=.ok b S):d2 o f g env S=o a b S:=by
 unfold d2
 rw[h1,Res.bind_ok,h2]
 rfl
theorem WC {f:DE}{env:qD}{S:Sto}{b:Bool}(h:f env S=.ok (.bl b) S):dTr f env S=.ok b S:=by
 unfold dTr
 rw[h]
 rfl
theorem L0 {f:DT}{env:qD}{S:Sto}{b:Bool}(h:f env S=.ok b S):vV f env S=.ok (!b) S:=by
 unfold vV
 rw[h]
 rfl
theorem Y9 {f g:DT}{env:qD}{S:Sto}(h:f env S=.ok false S)(k:g env S=.ok false S):jO f g env S=.ok false S:=by
 unfold jO
 rw[h]
 exact k
theorem bS (c:Cl)(nd:(xR c).Nodup)(S:Sto):S__law_kinds c [.exn (.ref c.NoNumber)] S=.ok (.str "number") S:=by
 have mN:c.NoNumber∈xR c:=.tail _ (.tail _ (.head _))
 rw[j8]
 refine dZ (env:=[some (.exn (.ref c.NoNumber)),none,none]) rfl ?_
 refine z9 (zS (zC (cH (uN (y8 (env:=[some (.exn (.ref c.NoNumber)),none,none]) rfl mN (.head _) (yI (i:=2) (j:=0) nd rfl rfl (by decide))) (uN (y8 (env:=[some (.exn (.ref c.NoNumber)),none,none]) rfl mN (.tail _ (.head _)) (yI (i:=2) (j:=1) nd rfl rfl (by decide))) (uN (y8 (env:=[some (.exn (.ref c.NoNumber)),none,none]) rfl mN (.tail _ (.tail _ (.head _))) (beq_self_eq_true _)) rfl))) (by decide)) ?_))
 refine z9 (zS (zC ((X3 (a:=.lst [.bl false,.bl false,.bl true]) rfl (cH (uN (y8 (env:=[some (.exn (.ref c.NoNumber)),some (.lst [.bl false,.bl false,.bl true]),none]) rfl mN (.tail _ (.tail _ (.tail _ (.head _)))) (yI (i:=2) (j:=3) nd rfl rfl (by decide))) (uN (y8 (env:=[some (.exn (.ref c.NoNumber)),some (.lst [.bl false,.bl false,.bl true]),none]) rfl mN (.tail _ (.tail _ (.tail _ (.tail _ (.head _))))) (yI (i:=2) (j:=4) nd rfl rfl (by decide))) (uN (y8 (env:=[some (.exn (.ref c.NoNumber)),some (.lst [.bl false,.bl false,.bl true]),none]) rfl mN (.tail _ (.tail _ (.tail _ (.tail _ (.tail _ (.head _)))))) (yI (i:=2) (j:=5) nd rfl rfl (by decide))) rfl))) (by decide))).trans (c:=.ok (.lst [.bl false,.bl false,.bl true,.bl false,.bl false,.bl false]) S) (by kernel_rfl!)) ?_))
 refine z9 (zS (zC ((X3 (a:=.lst [.bl false,.bl false,.bl true,.bl false,.bl false,.bl false]) rfl (cH (uN (y8 (env:=[some (.exn (.ref c.NoNumber)),some (.lst [.bl false,.bl false,.bl true,.bl false,.bl false,.bl false]),none]) rfl mN (.tail _ (.tail _ (.tail _ (.tail _ (.tail _ (.tail _ (.head _))))))) (yI (i:=2) (j:=6) nd rfl rfl (by decide))) (uN (y8 (env:=[some (.exn (.ref c.NoNumber)),some (.lst [.bl false,.bl false,.bl true,.bl false,.bl false,.bl false]),none]) rfl mN (.tail _ (.tail _ (.tail _ (.tail _ (.tail _ (.tail _ (.tail _ (.head _)))))))) (yI (i:=2) (j:=7) nd rfl rfl (by decide))) (uN (y8 (env:=[some (.exn (.ref c.NoNumber)),some (.lst [.bl false,.bl false,.bl true,.bl false,.bl false,.bl false]),none]) rfl mN (.tail _ (.tail _ (.tail _ (.tail _ (.tail _ (.tail _ (.tail _ (.tail _ (.head _))))))))) (yI (i:=2) (j:=8) nd rfl rfl (by decide))) rfl))) (by decide))).trans (c:=.ok (.lst [.bl false,.bl false,.bl true,.bl false,.bl false,.bl false,.bl false,.bl false,.bl false]) S) (by kernel_rfl!)) ?_))
 refine z9 (zS (zC ((X3 (a:=.lst [.bl false,.bl false,.bl true,.bl false,.bl false,.bl false,.bl false,.bl false,.bl false]) rfl (cH (uN (y8 (env:=[some (.exn (.ref c.NoNumber)),some (.lst [.bl false,.bl false,.bl true,.bl false,.bl false,.bl false,.bl false,.bl false,.bl false]),none]) rfl mN (.tail _ (.tail _ (.tail _ (.tail _ (.tail _ (.tail _ (.tail _ (.tail _ (.tail _ (.head _)))))))))) (yI (i:=2) (j:=9) nd rfl rfl (by decide))) (uN (y8 (env:=[some (.exn (.ref c.NoNumber)),some (.lst [.bl false,.bl false,.bl true,.bl false,.bl false,.bl false,.bl false,.bl false,.bl false]),none]) rfl mN (.tail _ (.tail _ (.tail _ (.tail _ (.tail _ (.tail _ (.tail _ (.tail _ (.tail _ (.tail _ (.head _))))))))))) (yI (i:=2) (j:=10) nd rfl rfl (by decide))) rfl)) (by decide))).trans (c:=.ok (.lst [.bl false,.bl false,.bl true,.bl false,.bl false,.bl false,.bl false,.bl false,.bl false,.bl false,.bl false]) S) (by kernel_rfl!)) ?_))
 refine z9 (v9 (b:=false) (S1:=S) (Y9 (L0 (WC (NS (env:=[some (.exn (.ref c.NoNumber)),some (.lst [.bl false,.bl false,.bl true,.bl false,.bl false,.bl false,.bl false,.bl false,.bl false,.bl false,.bl false]),none]) rfl mN))) (by kernel_rfl!)) (wN (env:=[some (.exn (.ref c.NoNumber)),some (.lst [.bl false,.bl false,.bl true,.bl false,.bl false,.bl false,.bl false,.bl false,.bl false,.bl false,.bl false]),none]) (S:=S) rfl ?_))
 refine z9 (v9 (WC (y8 (env:=[some (.exn (.ref c.NoNumber)),some (.lst [.bl false,.bl false,.bl true,.bl false,.bl false,.bl false,.bl false,.bl false,.bl false,.bl false,.bl false]),none]) rfl mN (.tail _ (.tail _ (.tail _ (.tail _ (.tail _ (.tail _ (.tail _ (.tail _ (.tail _ (.head _)))))))))) (yI (i:=2) (j:=9) nd rfl rfl (by decide)))) (wN (env:=[some (.exn (.ref c.NoNumber)),some (.lst [.bl false,.bl false,.bl true,.bl false,.bl false,.bl false,.bl false,.bl false,.bl false,.bl false,.bl false]),none]) (S:=S) rfl ?_))
 refine z9 (v9 (WC (y8 (env:=[some (.exn (.ref c.NoNumber)),some (.lst [.bl false,.bl false,.bl true,.bl false,.bl false,.bl false,.bl false,.bl false,.bl false,.bl false,.bl false]),none]) rfl mN (.tail _ (.tail _ (.tail _ (.tail _ (.tail _ (.tail _ (.tail _ (.tail _ (.tail _ (.tail _ (.head _))))))))))) (yI (i:=2) (j:=10) nd rfl rfl (by decide)))) (wN (env:=[some (.exn (.ref c.NoNumber)),some (.lst [.bl false,.bl false,.bl true,.bl false,.bl false,.bl false,.bl false,.bl false,.bl false,.bl false,.bl false]),none]) (S:=S) rfl ?_))
 exact D2 (d:=.str "number") (S:=S) (by kernel_rfl!) ⟨rfl,rfl⟩
theorem mP (d:D)(b c a:String)(S:Sto)(h1:xS b=true)(h2:xS c=true)(h:tyD d S=some a):kR [d,.tup [.ty b,.ty c]] S=.ok (.bl (zH a b||zH a c)) S:=by
 show (if xS b=true∧xS c=true then (match tyD d S with|some a=>Res.ok (D.bl (zH a b||zH a c)) S|none=>.bad) else .bad)=_
 rw[if_pos ⟨h1,h2⟩,h]
def okD:Nat→D→Prop
 |n+1,.tup xs=>xs.length≤lim∧∀ x∈xs,okD n x
 |n+1,.lst xs=>xs.length≤lim∧∀ x∈xs,okD n x
 |_,.int _=>True
 |_,_=>False
theorem WN (ws:List D):uC ws ws=ws.map fun x=>D.tup [x,x]:=by
 induction ws with
 |nil=>rfl
 |cons w ws ih=>exact congrArg (D.tup [w,w]::·) ih
theorem sA (F:DF)(d:D)(ws:List D)(S:Sto)(hw:ws.length≤lim)(h1:gIs d .non S=.ok (.bl false) S)(h2:dTr (qL kR (qA (qB 1) (qA (qZ (qA (dC (.ty "list")) (qA (dC (.ty "tuple")) (qC)))) (qC)))) [some d,some d] S=.ok true S)
  (h3:dTr (d2 gNe (qL xE (qA (qB 1) (qA (dC (.ty "list")) (qC)))) (qL xE (qA (qB 0) (qA (dC (.ty "list")) (qC))))) [some d,some d] S=.ok false S)
  (h3':dTr (d2 gNe (qL xE (qA (qB 1) (qA (dC (.ty "tuple")) (qC)))) (qL xE (qA (qB 0) (qA (dC (.ty "tuple")) (qC))))) [some d,some d] S=.ok false S)
  (h4:wB [d] S=.ok (.int ws.length) S) (h5:aF [d,d]=some (uC ws ws)) (ih:∀ x∈ws,F [x,x] S=.ok (.bl true) S):qT 2 (b__law_same F) [d,d] S=.ok (.bl true) S:=by
 have h1':dTr (d2 gIs (qB 1) (dC .non)) [some d,some d] S=.ok false S:=yJ ((zU (a:=d) rfl rfl).trans h1)
 have h4':dTr (d2 gNe (qL wB (qA (qB 0) (qC))) (qL wB (qA (qB 1) (qC)))) [some d,some d] S=.ok false S:=by
  refine(yJ ((zU ((vY (a:=d) rfl).trans h4) ((vY (a:=d) rfl).trans h4)).trans (VY _ _ S))).trans ?_
  rw[decide_eq_false (fun h=>h rfl)]
 have h5':wM (cG (qA (qB 0) (qA (qB 1) (qC)))) [some d,some d] S=.ok (none,ws.map fun x=>D.tup [x,x]) S:=by
  unfold wM
  show (Res.bind (_D.yO (aF [d,d]) S) _)=_
  rw[h5,WN]
  rfl
 have hc:=jW (cap:=[none,none]) (g:=gTp 2 (xA (gNm 0) (xA (gNm 1) (jD)))) (t:=zV) (fe:=qO 2 (okO F) (qA (qB 0) (qA (qB 1) (qC)))) h5' trivial (fun _=>true) (fun _=>D.bl true) (fun env=>∃ a b,env=[a,b]) ⟨none,none,rfl⟩ hw
  (fun x hx env ⟨a,b,e⟩=>by
   subst e
   exact⟨[some x,some x],rfl,⟨_,_,rfl⟩,rfl,fun _=>(vU (a:=x) (b:=x) rfl rfl).trans (dJ (ih x hx))⟩)
 rw[jC] at hc
 have ha:=KS (p:=fun _=>true) hc
 rw[show (ws.all fun _=>true)=true from by simp] at ha
 exact dZ rfl (z9 (v9 h1' (wN rfl (JT (MU h2 (z9 (v9 h3 (wN rfl (z9 (v9 (Y9 h3' h4') (wN rfl (u0 (zC ha ⟨rfl,rfl⟩)))))))))))))
theorem sC (F:DF)(i:Int)(S:Sto):qT 2 (b__law_same F) [.int i,.int i] S=.ok (.bl true) S:=by
 have l2:2≤lim:=by decide
 simp[qT,yF,UR,RN,UQ,qR,sIf,zB,x8,xN,zG,gNm,gSb,gTp,xA,jD,bT,SY,RY,dC,qB,d1,d2,qA,qC,qL,qO,dTr,vV,jO,zM,zV,mC,Z6,lO,qZ,zW,fD,dBm,dSl,xX,jY,wG,yB,Res.bind,Res.toS,_D.cX,_D.yO,TH,RO,fW,RV,RQ,RS,sM,sJ,RM,RL,RP,gLt,gLe,gGt,gGe,_D.vM,RU,BE,mP _ _ _ _ S zY.2.2.2.1 zY.2.2.1 (fW i S),yZ _ _ _ S zY.1 (fW i S),yZ _ _ _ S zY.2.1 (fW i S),yZ _ _ _ S zY.2.2.2.2 (fW i S),tE,pB,pR,l2]
theorem sD (F:DF)(d:D)(ws:List D)(S:Sto)(hw:ws.length≤lim)(hd:d=.tup ws∨d=.lst ws)(ih:∀ x∈ws,F [x,x] S=.ok (.bl true) S):qT 2 (b__law_same F) [d,d] S=.ok (.bl true) S:=by
 have l2:2≤lim:=by decide
 rcases hd with rfl|rfl
 ·refine sA F (.tup ws) ws S hw rfl ?_ ?_ ?_ rfl rfl ih
  ·simp[qT,yF,UR,RN,UQ,qR,sIf,zB,x8,xN,zG,gNm,gSb,gTp,xA,jD,bT,SY,RY,dC,qB,d1,d2,qA,qC,qL,qO,dTr,vV,jO,zM,zV,mC,Z6,lO,qZ,zW,fD,dBm,dSl,xX,jY,wG,yB,Res.bind,Res.toS,_D.cX,_D.yO,TH,RO,fW,RV,RQ,RS,sM,sJ,RM,RL,RP,gLt,gLe,gGt,gGe,_D.vM,RU,mP _ _ _ _ S zY.2.2.2.1 zY.2.2.1 (sM ws S),tE,l2]
  ·simp[qT,yF,UR,RN,UQ,qR,sIf,zB,x8,xN,zG,gNm,gSb,gTp,xA,jD,bT,SY,RY,dC,qB,d1,d2,qA,qC,qL,qO,dTr,vV,jO,zM,zV,mC,Z6,lO,qZ,zW,fD,dBm,dSl,xX,jY,wG,yB,Res.bind,Res.toS,_D.cX,_D.yO,TH,RO,fW,RV,RQ,RS,sM,sJ,RM,RL,RP,gLt,gLe,gGt,gGe,_D.vM,RU,yZ _ _ _ S zY.2.2.2.1 (sM ws S),pB]
  ·simp[qT,yF,UR,RN,UQ,qR,sIf,zB,x8,xN,zG,gNm,gSb,gTp,xA,jD,bT,SY,RY,dC,qB,d1,d2,qA,qC,qL,qO,dTr,vV,jO,zM,zV,mC,Z6,lO,qZ,zW,fD,dBm,dSl,xX,jY,wG,yB,Res.bind,Res.toS,_D.cX,_D.yO,TH,RO,fW,RV,RQ,RS,sM,sJ,RM,RL,RP,gLt,gLe,gGt,gGe,_D.vM,RU,yZ _ _ _ S zY.2.2.1 (sM ws S),pB]
 ·refine sA F (.lst ws) ws S hw rfl ?_ ?_ ?_ rfl rfl ih
  ·simp[qT,yF,UR,RN,UQ,qR,sIf,zB,x8,xN,zG,gNm,gSb,gTp,xA,jD,bT,SY,RY,dC,qB,d1,d2,qA,qC,qL,qO,dTr,vV,jO,zM,zV,mC,Z6,lO,qZ,zW,fD,dBm,dSl,xX,jY,wG,yB,Res.bind,Res.toS,_D.cX,_D.yO,TH,RO,fW,RV,RQ,RS,sM,sJ,RM,RL,RP,gLt,gLe,gGt,gGe,_D.vM,RU,mP _ _ _ _ S zY.2.2.2.1 zY.2.2.1 (sJ ws S),tE,l2]
  ·simp[qT,yF,UR,RN,UQ,qR,sIf,zB,x8,xN,zG,gNm,gSb,gTp,xA,jD,bT,SY,RY,dC,qB,d1,d2,qA,qC,qL,qO,dTr,vV,jO,zM,zV,mC,Z6,lO,qZ,zW,fD,dBm,dSl,xX,jY,wG,yB,Res.bind,Res.toS,_D.cX,_D.yO,TH,RO,fW,RV,RQ,RS,sM,sJ,RM,RL,RP,gLt,gLe,gGt,gGe,_D.vM,RU,yZ _ _ _ S zY.2.2.2.1 (sJ ws S),pB]
  ·simp[qT,yF,UR,RN,UQ,qR,sIf,zB,x8,xN,zG,gNm,gSb,gTp,xA,jD,bT,SY,RY,dC,qB,d1,d2,qA,qC,qL,qO,dTr,vV,jO,zM,zV,mC,Z6,lO,qZ,zW,fD,dBm,dSl,xX,jY,wG,yB,Res.bind,Res.toS,_D.cX,_D.yO,TH,RO,fW,RV,RQ,RS,sM,sJ,RM,RL,RP,gLt,gLe,gGt,gGe,_D.vM,RU,yZ _ _ _ S zY.2.2.1 (sJ ws S),pB]
theorem Q6:∀ (n:Nat) (d:D) (S:Sto),okD n d→fT (n+1) [d,d] S=.ok (.bl true) S:=by
 intro n
 induction n with
 |zero =>
  intro d S h
  cases d with
  |int i=>exact sC _ i S
  |_=>exact False.elim h
 |succ n ih =>
  intro d S h
  cases d with
  |tup ws=>exact sD _ _ ws S h.1 (.inl rfl) fun x hx=>ih x S (h.2 x hx)
  |lst ws=>exact sD _ _ ws S h.1 (.inr rfl) fun x hx=>ih x S (h.2 x hx)
  |int i=>exact sC _ i S
  |_=>exact False.elim h
theorem b0 (S:Sto):∀ (n m:Nat) (d:D),okD n d→n≤m→wV m S d=some d:=by
 have mp:∀ (f:D→Option D) (xs:List D),(∀ x∈xs,f x=some x)→mapO f xs=some xs:=by
  intro f xs
  induction xs with
  |nil=>exact fun _=>rfl
  |cons x xs ih =>
   intro h
   have h1:=h x (List.mem_cons_self ..)
   have h2:=ih fun y hy=>h y (List.mem_cons_of_mem _ hy)
   simp[mapO,h1,h2]
 intro n
 induction n with
 |zero =>
  intro m d h _
  cases d <;> cases m <;> first|rfl|exact False.elim h
 |succ n ih =>
  intro m d h hm
  obtain⟨m,rfl⟩:∃ k,m=k+1:=⟨m-1,by omega⟩
  cases d with
  |tup ws =>
   show (mapO (wV m S) ws).map D.tup=_
   rw[mp _ ws fun x hx=>ih m x (h.2 x hx) (by omega)]
   rfl
  |lst ws =>
   show (mapO (wV m S) ws).map D.lst=_
   rw[mp _ ws fun x hx=>ih m x (h.2 x hx) (by omega)]
   rfl
  |int i=>rfl
  |_=>exact False.elim h
theorem t8 (S:Sto)(j n:Nat)(xs:List D)(h:S[j]? = some (.lst xs))(hx:okD n (.lst xs))(hn:n≤20):wV 20 S (.loc j)=some (.lst xs):=by
 have:=b0 S n 20 (.lst xs) hx hn
 show (match S[j]? with|some (.lst xs)=>(mapO (wV 19 S) xs).map D.lst|_=>none)=_
 rw[h]
 exact this
theorem iY (S:Sto)(a b d:D)(n:Nat)(ha:wV 20 S a=some d)(hb:wV 20 S b=some d)(hd:okD n d)(hn:n+1=6):uG S__law_same [a,b] S=.ok (.bl true) S:=by
 have h:=Q6 n d (uF S) hd
 rw[hn] at h
 unfold uG
 rw[jV]
 simp only[mapO,p7,ha,hb]
 rw[h]
 rfl
end _K
end
section
namespace _K
open PySem _D
abbrev Pt:=Int × Int
def ptD (p:Pt):D:=.tup [.int p.1,.int p.2]
def qG (l:List Pt):D:=.tup (l.map ptD)
def far (p q:Pt):Int:=(p.1-q.1)*(p.1-q.1)+(p.2-q.2)*(p.2-q.2)
def jM (p:Pt):Prop:=-2000≤p.1∧p.1≤2000 ∧ -2000≤p.2∧p.2≤2000
theorem iP (p:Pt)(S:Sto):gIx (ptD p) (.int 0) S=.ok (.int p.1) S:=rfl
theorem iQ (p:Pt)(S:Sto):gIx (ptD p) (.int 1) S=.ok (.int p.2) S:=rfl
theorem LU (p q:Pt)(S:Sto)(hp:jM p)(hq:jM q):S_far_between [ptD p,ptD q] S=.ok (.int (far p q)) S:=by
 obtain⟨a1,a2,a3,a4⟩:=hp
 obtain⟨b1,b2,b3,b4⟩:=hq
 have m1:=yU (p.1-q.1) (p.1-q.1) S ⟨by omega,by omega⟩
 have m2:=yU (p.2-q.2) (p.2-q.2) S ⟨by omega,by omega⟩
 rw[uM]
 unfold b_far_between
 simp[qT,yF,UR,RN,UQ,qR,sIf,zB,x8,xN,zG,gNm,gSb,gTp,xA,jD,bT,SY,RY,dC,qB,d1,d2,qA,qC,qL,qO,dTr,vV,jO,zM,zV,mC,Z6,lO,qZ,zW,fD,dBm,dSl,xX,jY,wG,yB,Res.bind,Res.toS,_D.cX,_D.yO,TH,RO,fW,RV,RQ,RS,sM,sJ,RM,RL,RP,gLt,gLe,gGt,gGe,_D.vM,RU,iP,iQ,m1,m2,vK,far]
theorem MR (p q:Pt)(S:Sto)(hp:jM p)(hq:jM q):S__law_far [ptD p,ptD q] S=.ok (.int (far p q)) S:=by
 obtain⟨a1,a2,a3,a4⟩:=hp
 obtain⟨b1,b2,b3,b4⟩:=hq
 have m1:=yU (p.1-q.1) (p.1-q.1) S ⟨by omega,by omega⟩
 have m2:=yU (p.2-q.2) (p.2-q.2) S ⟨by omega,by omega⟩
 rw[gN]
 unfold b__law_far
 simp[qT,yF,UR,RN,UQ,qR,sIf,zB,x8,xN,zG,gNm,gSb,gTp,xA,jD,bT,SY,RY,dC,qB,d1,d2,qA,qC,qL,qO,dTr,vV,jO,zM,zV,mC,Z6,lO,qZ,zW,fD,dBm,dSl,xX,jY,wG,yB,Res.bind,Res.toS,_D.cX,_D.yO,TH,RO,fW,RV,RQ,RS,sM,sJ,RM,RL,RP,gLt,gLe,gGt,gGe,_D.vM,RU,iP,iQ,m1,m2,vK,far]
def iD (n:Nat):D:=.int (n:Int)
def pt (x y:Nat):Pt:=((x:Int),(y:Int))
def qP (w h:Nat):List Pt:=(List.range w).flatMap fun (x:Nat)=>(List.range h).map fun (y:Nat)=>pt x y
theorem wA (w h:Nat):(qP w h).length=w*h:=by
 unfold qP
 induction w with
 |zero=>simp
 |succ w ih=>rw[List.range_succ,List.flatMap_append,List.length_append,ih];simp[Nat.succ_mul]
theorem aP {w h:Nat}{p:Pt}(m:p∈qP w h):0≤p.1∧p.1<w∧0≤p.2∧p.2<h:=by
 unfold qP at m
 obtain⟨x,hx,m⟩:=List.mem_flatMap.mp m
 obtain⟨y,hy,rfl⟩:=List.mem_map.mp m
 simp at hx hy
 unfold pt
 refine⟨?_,?_,?_,?_⟩ <;> dsimp only <;> omega
theorem QV {w h:Nat}(hw:w≤12)(hh:h≤12){p:Pt}(m:p∈qP w h):jM p:=by
 have:=aP m
 unfold jM
 omega
theorem D1 (n:Nat)(h:n≤1000000):gJ [.int (n:Int)]=some (w6 0 (n:Int).toNat):=by
 unfold gJ
 have : -(2 ^ 62)≤(n:Int)∧(n:Int)<2 ^ 62:=⟨by omega,by omega⟩
 exact if_pos this
theorem W6 (n:Nat):w6 0 (n:Int).toNat=(List.range n).map iD:=by
 unfold w6
 rw[Int.toNat_natCast]
 congr 1
 funext i
 unfold iD
 rw[Int.zero_add]
theorem JR (n:Nat)(h:n≤1000000):gJ [.int (n:Int)]=some ((List.range n).map iD):=by
 rw[D1 n h,W6]
theorem Q4 {β : Type}(b:β)(S:Sto):_D.yO (some b) S=.ok b S:=rfl
theorem mQ (f:DE)(n:Nat)(env:qD)(S:Sto)(h:n≤1000000)(e:f env S=.ok (.int (n:Int)) S):yB (qA f qC) env S=.ok ((List.range n).map iD) S:=by
 have e1:qA f qC env S=.ok [.int (n:Int)] S:=by unfold qA qC;rw[e];rfl
 unfold yB
 rw[e1,Res.bind_ok,JR n h,Q4]
theorem d9 (f:DE)(n:Nat)(env:qD)(S:Sto)(h:n≤1000000)(e:f env S=.ok (.int (n:Int)) S):wM (yB (qA f qC)) env S=.ok (none,(List.range n).map iD) S:=by
 unfold wM
 rw[mQ f n env S h e,Res.bind_ok]
theorem JM (w h:Nat)(S:Sto)(hw:w≤12)(hh:h≤12):S_board_points [.int (w:Int),.int (h:Int)] S=.ok (.lst ((qP w h).map ptD)) S:=by
 have eq:((List.range w).map iD).flatMap (fun d=>(((List.range h).map iD).filter (fun _=>true)).map (fun e=>D.tup [d,e]))=(qP w h).map ptD:=by
  rw[List.flatMap_map]
  unfold qP
  rw[List.map_flatMap]
  congr 1
  funext x
  rw[jC,List.map_map,List.map_map]
  rfl
 have hl:((qP w h).map ptD).length≤lim:=by
  rw[List.length_map,wA]
  have:w*h≤12*12:=Nat.mul_le_mul hw hh
  unfold lim
  omega
 have hc:=GE (cap:=[none,none,some 1]) (fi:=wM (yB (qA (qB 0) (qC)))) (g:=gNm 0) (t:=zV) (fi2:=wM (yB (qA (qB 2) (qC)))) (g2:=gNm 1) (t2:=zV) (fe:=qZ (qA (qB 0) (qA (qB 1) (qC)))) (env:=[some (.int (w:Int)),some (.int (h:Int))]) (S:=S) (o:=none) (o2:=none) (items:=(List.range w).map iD)
  (d9 _ w _ S (by omega) rfl) trivial trivial (fun _=>(List.range h).map iD) (fun _ _=>true) (fun d e=>D.tup [d,e]) (fun env=>∃ a b,env=[a,b,some (.int (h:Int))]) (fun d env=>∃ b,env=[some d,b,some (.int (h:Int))]) ⟨none,none,rfl⟩ (fun d env ⟨b,e⟩=>⟨_,_,e⟩) (by rw[eq];exact hl)
  (fun d hd env ⟨a,b,e⟩=>by
   subst e
   exact⟨[some d,b,some (.int (h:Int))],rfl,⟨b,rfl⟩,rfl,d9 _ h _ S (by omega) rfl⟩)
  (fun d hd x hx env ⟨b,e⟩=>by
   subst e
   have l2:2≤lim:=by decide
   exact⟨[some d,some x,some (.int (h:Int))],rfl,⟨_,rfl⟩,rfl,fun _=>by simp[qT,yF,UR,RN,UQ,qR,sIf,zB,x8,xN,zG,gNm,gSb,gTp,xA,jD,bT,SY,RY,dC,qB,d1,d2,qA,qC,qL,qO,dTr,vV,jO,zM,zV,mC,Z6,lO,qZ,zW,fD,dBm,dSl,xX,jY,wG,yB,Res.bind,Res.toS,_D.cX,_D.yO,TH,RO,fW,RV,RQ,RS,sM,sJ,RM,RL,RP,gLt,gLe,gGt,gGe,_D.vM,RU,l2]⟩)
 rw[eq] at hc
 rw[uD]
 exact eU rfl hc
end _K
end
section
namespace _K
open PySem _D
theorem Z4 (xs:List D)(i:Nat):wO xs (some ((i:Int)+1)) none=xs.drop (i+1):=by
 unfold wO
 have e1:_H.sIx xs.length 0 (some ((i:Int)+1))=min (i+1) xs.length:=by
  have:((i:Int)+1)=((i+1:Nat):Int):=by omega
  rw[this,_H.sIx_nat]
 rw[e1,_H.sIx_none]
 by_cases h:i+1≤xs.length
 ·rw[Nat.min_eq_left h,List.take_of_length_le (by simp)]
 ·have:xs.drop (i+1)=[]:=List.drop_eq_nil_of_le (by omega)
  rw[this,Nat.min_eq_right (by omega)]
  simp
def eL:Nat→List D→List D
 |_,[]=>[]
 |k,x::xs=>D.tup [.int (k:Int),x]::eL (k+1) xs
theorem lQ (xs:List D):y7 xs=eL 0 xs:=by
 have key:∀ (xs:List D) (k:Nat),(xs.mapIdx fun i x=>D.tup [.int ((i+k:Nat):Int),x])=eL k xs:=by
  intro xs
  induction xs with
  |nil=>intro k;rfl
  |cons x xs ih =>
   intro k
   rw[List.mapIdx_cons]
   show _::_=D.tup [.int (k:Int),x]::eL (k+1) xs
   congr 1
   ·simp
   ·rw[← ih (k+1)]
    congr 1
    funext i y
    congr 4
    omega
 have:=key xs 0
 simpa [y7] using this
def xQ:List Pt→List (Pt × Pt)
 |[]=>[]
 |p::ps=>ps.map (fun q=>(p,q))++xQ ps
def mI (x:Pt × Pt):Int:=far x.1 x.2
def fars (l:List Pt):List Int:=(xQ l).map mI
def prD (x:Pt × Pt):D:=.tup [ptD x.1,ptD x.2]
structure GI {β : Type}(key:β→Int)(enc:β→D)(n:Nat)(prs:List β)(kvs:List (_L.Key × D))(S:Sto):Prop where
 dict:S[n]? = some (.dct kvs)
 lists:∀ kv∈kvs,∃ (f:Int) (j:Nat),kv=(.inl f,.loc j)∧n<j∧S[j]? = some (.lst ((prs.filter fun x=>key x == f).map enc))
 nd:(kvs.map (·.2)).Nodup
 keys:kvs.map (·.1)=((prs.map key).foldl PyProof.Rows.step_dedup []).map Sum.inl
set_option tactic.hygienic true in
theorem WB {l:List Int}{k x:Int}:x∈PyProof.Rows.step_dedup l k↔x∈l∨x=k:=by
 unfold PyProof.Rows.step_dedup
 split
 ·rename_i h
  simp at h
  constructor
  ·exact fun z=>.inl z
  ·rintro (z|rfl)
   ·exact z
   ·exact h
 ·simp
theorem h8 {l:List Int}{k:Int}(h:k∈l):PyProof.Rows.step_dedup l k=l:=by
 unfold PyProof.Rows.step_dedup
 rw[if_pos (by simpa using h)]
theorem sG {l:List Int}{k:Int}(h:k ∉ l):PyProof.Rows.step_dedup l k=l++[k]:=by
 unfold PyProof.Rows.step_dedup
 rw[if_neg (by simpa using h)]
theorem kS {ks:List Int}:∀ {l:List Int} {x:Int},x∈ks.foldl PyProof.Rows.step_dedup l↔x∈l∨x∈ks:=by
 induction ks with
 |nil=>intro l x;simp
 |cons k ks ih =>
  intro l x
  rw[List.foldl_cons,ih,WB,List.mem_cons]
  constructor
  ·rintro ((h|h)|h)
   ·exact .inl h
   ·exact .inr (.inl h)
   ·exact .inr (.inr h)
  ·rintro (h|h|h)
   ·exact .inl (.inl h)
   ·exact .inl (.inr h)
   ·exact .inr h
theorem d6 {ks:List Int}:∀ {l:List Int},(ks.foldl PyProof.Rows.step_dedup l).length≤l.length+ks.length:=by
 induction ks with
 |nil=>intro l;simp
 |cons k ks ih =>
  intro l
  rw[List.foldl_cons]
  have h1:=ih (l:=PyProof.Rows.step_dedup l k)
  have h2:(PyProof.Rows.step_dedup l k).length≤l.length+1:=by
   unfold PyProof.Rows.step_dedup
   split <;> simp
  rw[List.length_cons]
  omega
theorem WH {kvs:List (_L.Key × D)}{k:_L.Key}{d:D}(h:wF kvs k=some d):(k,d)∈kvs:=by
 unfold wF at h
 obtain⟨kv,h1,rfl⟩:=Option.map_eq_some_iff.mp h
 have h2:=List.find?_some h1
 have h3:=List.mem_of_find?_eq_some h1
 have h4:kv.1=k:=by simpa using h2
 subst h4
 exact h3
theorem WG {kvs:List (_L.Key × D)}{k:_L.Key}(h:wF kvs k=none):∀ kv∈kvs,kv.1≠k:=by
 unfold wF at h
 have h1:=Option.map_eq_none_iff.mp h
 intro kv hk e
 have:=List.find?_eq_none.mp h1 kv hk
 simp[e] at this
theorem YF {n:Nat}{kvs:List (_L.Key × D)}{S:Sto}{i x:D}{k:_L.Key}(hd:S[n]? = some (.dct kvs))(hk:yL i=some k):xY (.loc n) [i,x] S=(match wF kvs k with|some d=>.ok d S|none=>if kvs.length<lim then .ok x (S.set n (.dct (wD kvs k x))) else .bad):=by
 show (match S[n]? with|some (.dct kvs)=>(match yL i with|some k=>(match wF kvs k with|some d=>Res.ok d S|none=>if kvs.length<lim then .ok x (S.set n (.dct (wD kvs k x))) else .bad)|none=>.bad)|_=>.bad)=_
 rw[hd,hk]
theorem JW {n:Nat}{kvs:List (_L.Key × D)}{S:Sto}{i x d:D}{k:_L.Key}(hd:S[n]? = some (.dct kvs))(hk:yL i=some k)(hv:wF kvs k=some d):xY (.loc n) [i,x] S=.ok d S:=by
 rw[YF hd hk,hv]
theorem JV {n:Nat}{kvs:List (_L.Key × D)}{S:Sto}{i x:D}{k:_L.Key}(hd:S[n]? = some (.dct kvs))(hk:yL i=some k)(hv:wF kvs k=none)(hl:kvs.length<lim):xY (.loc n) [i,x] S=.ok x (S.set n (.dct (wD kvs k x))):=by
 rw[YF hd hk,hv]
 exact if_pos hl
theorem oB {β γ:Type}{l:List β}{f:β→γ}(nd:(l.map f).Nodup){x y:β}(hx:x∈l)(hy:y∈l)(e:f x=f y):x=y:=by
 obtain⟨a,ha,rfl⟩:=List.mem_iff_getElem.mp hx
 obtain⟨b,hb,rfl⟩:=List.mem_iff_getElem.mp hy
 have:a=b:=(List.getElem_inj nd (h₀:=by simpa using ha) (h₁:=by simpa using hb)).mp (by simpa using e)
 subst this
 rfl
set_option tactic.hygienic true in
theorem rJ:∀ (ks l:List Int),l.Nodup→(ks.foldl PyProof.Rows.step_dedup l).Nodup:=by
 intro ks
 induction ks with
 |nil=>exact fun l h=>h
 |cons k ks ih =>
  intro l h
  rw[List.foldl_cons]
  apply ih
  unfold PyProof.Rows.step_dedup
  split
  ·exact h
  ·rename_i hn
   rw[List.nodup_append]
   refine⟨h,by simp,?_⟩
   intro a ha b hb hab
   simp at hb hn
   subst hb;subst hab
   exact hn ha
theorem UA {kvs:List (_L.Key × D)}{ks:List Int}(h:kvs.map (·.1)=(ks.foldl PyProof.Rows.step_dedup []).map Sum.inl):(kvs.map (·.1)).Nodup:=by
 rw[h,List.Nodup,List.pairwise_map]
 exact(rJ ks [] List.nodup_nil).imp fun hne e=>hne (Sum.inl.inj e)
theorem VZ {β : Type}{key:β→Int}{enc:β→D}{n:Nat}{prs:List β}{kvs:List (_L.Key × D)}{S:Sto}(I:GI key enc n prs kvs S)(x:β)(hl:prs.length<lim) :
  ∃ (j:Nat) (S1 S2:Sto) (kvs':List (_L.Key × D)),xY (.loc n) [.int (key x),.loc S.length] (S++[.lst []]) = .ok (.loc j) S1∧tyD (.loc j) S1=some "list" ∧ wJ (.loc j) [enc x] S1=.ok .non S2∧GI key enc n (prs++[x]) kvs' S2∧∀ m,m<n→S2[m]? = S[m]?:=by
 have hnS:n<S.length:=(List.getElem?_eq_some_iff.mp I.dict).1
 have hd:(S++[MO.lst []])[n]? = some (.dct kvs):=by rw[List.getElem?_append_left hnS];exact I.dict
 have hkl:kvs.length≤prs.length:=by
  have h1:kvs.length=(kvs.map (·.1)).length:=by simp
  rw[h1,I.keys,List.length_map]
  have:=d6 (ks:=prs.map key) (l:=[])
  simpa using this
 have hlim:kvs.length<lim:=by omega
 have jlt:∀ {f:Int} {j:Nat},((Sum.inl f:_L.Key),D.loc j)∈kvs→n<j∧j<S.length∧S[j]? = some (.lst ((prs.filter fun x=>key x == f).map enc)):=by
  intro f j hm
  obtain⟨f',j',e,h1,h2⟩:=I.lists _ hm
  cases e
  exact⟨h1,(List.getElem?_eq_some_iff.mp h2).1,h2⟩
 cases hv:wF kvs (.inl (key x)) with
 |some d =>
  have hm:=WH hv
  obtain⟨f,j,e,h1,h2⟩:=I.lists _ hm
  have e1:f=key x:=by
   have:=congrArg Prod.fst e
   exact(Sum.inl.inj this).symm
  have e2:d=.loc j:=congrArg Prod.snd e
  subst e1;subst e2
  have hjS:=(List.getElem?_eq_some_iff.mp h2).1
  have h2':(S++[MO.lst []])[j]? = some (.lst ((prs.filter fun y=>key y == key x).map enc)):=by rw[List.getElem?_append_left hjS];exact h2
  have hll:((prs.filter fun y=>key y == key x).map enc).length<lim:=by
   rw[List.length_map]
   have:=List.length_filter_le (fun y=>key y == key x) prs
   omega
  refine⟨j,S++[MO.lst []],(S++[MO.lst []]).set j (.lst ((prs.filter fun y=>key y == key x).map enc++[enc x])),kvs,?_,?_,?_,⟨?_,?_,I.nd,?_⟩,?_⟩
  ·exact JW hd rfl hv
  ·exact nX h2'
  ·exact l8 h2' hll _
  ·rw[List.getElem?_set_ne (by omega)];exact hd
  ·intro kv hk
   obtain⟨f',j',rfl,h3,h4⟩:=I.lists kv hk
   refine⟨f',j',rfl,h3,?_⟩
   have hj':=(List.getElem?_eq_some_iff.mp h4).1
   by_cases hjj:j=j'
   ·subst hjj
    have hff:f'=key x:=Sum.inl.inj (congrArg Prod.fst (oB (f:=(·.2)) I.nd hk hm rfl))
    subst hff
    rw[List.getElem?_set_self (by simp;omega)]
    rw[List.filter_append]
    simp
   ·rw[List.getElem?_set_ne hjj,List.getElem?_append_left hj',h4]
    have hne:(key x == f')=false:=by
     rw[beq_eq_false_iff_ne]
     rintro rfl
     exact hjj (D.loc.inj (congrArg Prod.snd (oB (f:=(·.1)) (UA I.keys) hm hk rfl)))
    rw[List.filter_append]
    simp[hne]
  ·rw[List.map_append,List.foldl_append]
   show _=(PyProof.Rows.step_dedup ((prs.map key).foldl PyProof.Rows.step_dedup []) (key x)).map Sum.inl
   have hin:key x∈(prs.map key).foldl PyProof.Rows.step_dedup []:=by
    have:(Sum.inl (key x):_L.Key)∈kvs.map (·.1):=List.mem_map.mpr ⟨_,hm,rfl⟩
    rw[I.keys] at this
    obtain⟨y,hy,e⟩:=List.mem_map.mp this
    cases e
    exact hy
   rw[h8 hin]
   exact I.keys
  ·intro m hm
   rw[List.getElem?_set_ne (by omega),List.getElem?_append_left (by omega)]
 |none =>
  have hno:=WG hv
  have hput:wD kvs (.inl (key x)) (.loc S.length)=kvs++[(.inl (key x),.loc S.length)]:=by
   unfold wD
   rw[if_neg]
   rw[List.any_eq_true]
   rintro⟨kv,hk,e⟩
   exact hno kv hk (by simpa using e)
  have hfn:key x ∉ prs.map key:=by
   intro hin
   have:(Sum.inl (key x):_L.Key)∈kvs.map (·.1):=by
    rw[I.keys]
    exact List.mem_map.mpr ⟨_,kS.mpr (.inr hin),rfl⟩
   obtain⟨kv,hk,e⟩:=List.mem_map.mp this
   exact hno kv hk e
  have hS1:((S++[MO.lst []]).set n (.dct (kvs++[(Sum.inl (key x),.loc S.length)])))[S.length]? = some (.lst []):=by
   rw[List.getElem?_set_ne (by omega)]
   simp
  refine⟨S.length,(S++[MO.lst []]).set n (.dct (kvs++[(.inl (key x),.loc S.length)])),((S++[MO.lst []]).set n (.dct (kvs++[(.inl (key x),.loc S.length)]))).set S.length (.lst [enc x]),kvs++[(.inl (key x),.loc S.length)],?_,?_,?_,⟨?_,?_,?_,?_⟩,?_⟩
  ·rw[← hput]
   exact JV hd rfl hv hlim
  ·exact nX hS1
  ·have:(0:Nat)<lim:=by decide
   exact l8 hS1 this _
  ·rw[List.getElem?_set_ne (by omega),List.getElem?_set_self (by simp;omega)]
  ·intro kv hk
   rcases List.mem_append.mp hk with hk|hk
   ·obtain⟨f',j',rfl,h3,h4⟩:=I.lists kv hk
    have hj':=(List.getElem?_eq_some_iff.mp h4).1
    refine⟨f',j',rfl,h3,?_⟩
    rw[List.getElem?_set_ne (by omega),List.getElem?_set_ne (by omega),List.getElem?_append_left hj',h4]
    have hne:(key x == f')=false:=by
     rw[beq_eq_false_iff_ne]
     intro e
     exact hno _ hk (by rw[e])
    rw[List.filter_append]
    simp[hne]
   ·have:kv=(.inl (key x),.loc S.length):=by simpa using hk
    subst this
    refine⟨key x,S.length,rfl,hnS,?_⟩
    rw[List.getElem?_set_self (by simp)]
    have:(prs.filter fun y=>key y == key x)=[]:=by
     rw[List.filter_eq_nil_iff]
     intro y hy e
     exact hfn (by rw[← (by simpa using e:key y=key x)];exact List.mem_map.mpr ⟨y,hy,rfl⟩)
    rw[List.filter_append,this]
    simp
  ·rw[List.map_append,List.nodup_append]
   refine⟨I.nd,by simp,?_⟩
   intro a ha b hb hab
   simp at hb
   subst hb
   subst hab
   obtain⟨kv,hk,e⟩:=List.mem_map.mp ha
   obtain⟨f',j',rfl,h3,h4⟩:=I.lists kv hk
   have hj':=(List.getElem?_eq_some_iff.mp h4).1
   have:j'=S.length:=D.loc.inj e
   omega
  ·rw[List.map_append,I.keys,List.map_append,List.foldl_append]
   show _=(PyProof.Rows.step_dedup ((prs.map key).foldl PyProof.Rows.step_dedup []) (key x)).map Sum.inl
   have hin:key x ∉ (prs.map key).foldl PyProof.Rows.step_dedup []:=by
    intro h
    rcases kS.mp h with h|h
    ·simp at h
    ·exact hfn h
   rw[sG hin,List.map_append]
   rfl
  ·intro m hm
   rw[List.getElem?_set_ne (by omega),List.getElem?_set_ne (by omega),List.getElem?_append_left (by omega)]
end _K
end
section
namespace _K
open PySem _D
theorem QR (l:List Pt):(xQ l).length≤l.length*l.length:=by
 induction l with
 |nil=>simp[xQ]
 |cons p l ih =>
  have e:(p::l).length*(p::l).length=l.length*l.length+l.length+l.length+1:=by
   simp only[List.length_cons,Nat.add_mul,Nat.mul_add]
   omega
  rw[e]
  simp only[xQ,List.length_append,List.length_map]
  omega
theorem oK {S S':Sto}(h:∀ m,m<S.length→S'[m]? = S[m]?):S<+:S':=by
 rw[List.prefix_iff_getElem?]
 intro i hi
 rw[h i hi,List.getElem?_eq_getElem hi]
theorem NW {l:List Pt}(h:l.length≤41):(xQ l).length<4000:=by
 have h1:=QR l
 have h2:l.length*l.length≤41*41:=Nat.mul_le_mul h h
 omega
inductive IvG1 (l:List Pt)(S:Sto)(ds:List D)(env:qD)(S':Sto):Prop
 |mk (i:Nat) (e2 e3 e4:Option D) (done:List (Pt × Pt)) (kvs:List (_L.Key × D)) (h_0:env=[some (qG l),some (.loc S.length),e2,e3,e4]) (h_1:ds=eL i ((l.drop i).map ptD)) (h_2:GI mI prD S.length done kvs S') (h_3:done++xQ (l.drop i)=xQ l) (h_4:∀ m,m<S.length→S'[m]? = S[m]?):IvG1 l S ds env S'
inductive IvG2 (l:List Pt)(S:Sto)(i:Nat)(p:Pt)(rest:List Pt)(ds:List D)(env:qD)(S':Sto):Prop
 |mk (r:List Pt) (e4:Option D) (done:List (Pt × Pt)) (kvs:List (_L.Key × D)) (h_0:env=[some (qG l),some (.loc S.length),some (.int (i:Int)),some (ptD p),e4]) (h_1:ds=r.map ptD) (h_2:(∀ q∈r,q∈l)) (h_3:GI mI prD S.length done kvs S') (h_4:done++(r.map (fun q=>(p,q))++xQ rest)=xQ l) (h_5:∀ m,m<S.length→S'[m]? = S[m]?):IvG2 l S i p rest ds env S'
theorem JO (l:List Pt)(S:Sto)(hok:∀ p∈l,jM p)(hl:l.length≤41):∃ (kvs:List (_L.Key × D)) (S':Sto),S_pairs_by_far [qG l] S=.ok (.loc S.length) S'∧GI mI prD S.length (xQ l) kvs S'∧∀ m,m<S.length→S'[m]? = S[m]?:=by
 have key:Rt (b_pairs_by_far [some (qG l),none,none,none,none] S) fun d S'=>d=.loc S.length∧∃ kvs,GI mI prD S.length (xQ l) kvs S'∧∀ m,m<S.length→S'[m]? = S[m]?:=by
  unfold b_pairs_by_far
  refine z9 (zS (zC rfl ?_))
  refine z9 (v8 (ds:=y7 (l.map ptD)) (S1:=S++[.dct []]) rfl ?_)
  refine wK (IvG1 l S) ?_ ?_ ?_
  ·rintro d ds env S' ⟨i,e2,e3,e4,done,kvs,rfl,hds,G,hall,hpre⟩
   cases hdr:l.drop i with
   |nil=>rw[hdr] at hds;cases hds
   |cons p rest =>
    rw[hdr] at hds hall
    simp only[List.map_cons,eL] at hds
    injection hds with h1 h2
    subst h1 h2
    have hrest:l.drop (i+1)=rest:=by
     have:=congrArg List.tail hdr
     simpa [List.tail_drop] using this
    have hmem:∀ q∈p::rest,q∈l:=fun q hq=>List.mem_of_mem_drop (hdr▸hq)
    refine⟨[some (qG l),some (.loc S.length),some (.int (i:Int)),some (ptD p),e4],S',rfl,?_⟩
    have hsl:wG (dSl (qB 0) (xX (d2 zJ (qB 2) (dC (.int 1)))) (jY)) [some (qG l),some (.loc S.length),some (.int (i:Int)),some (ptD p),e4] S'=.ok (rest.map ptD) S':=by
     have e1:gSl (qG l) (some ((i:Int)+1)) none S'=.ok (.tup (rest.map ptD)) S':=by
      show Res.ok (D.tup (wO (l.map ptD) (some ((i:Int)+1)) none)) S'=_
      rw[Z4,← List.map_drop,hrest]
     simp[qT,yF,UR,RN,UQ,qR,sIf,zB,x8,xN,zG,gNm,gSb,gTp,xA,jD,bT,SY,RY,dC,qB,d1,d2,qA,qC,qL,qO,dTr,vV,jO,zM,zV,mC,Z6,lO,qZ,zW,fD,dBm,dSl,xX,jY,wG,yB,Res.bind,Res.toS,_D.cX,_D.yO,TH,RO,fW,RV,RQ,RS,sM,sJ,RM,RL,RP,gLt,gLe,gGt,gGe,_D.vM,RU,vK,e1]
    refine v8 hsl ?_
    refine wK (IvG2 l S i p rest) ?_ ?_ ?_
    ·rintro d ds env S' ⟨r,e4,done,kvs,rfl,hds,hr,G,hall,hpre⟩
     cases r with
     |nil=>cases hds
     |cons q r =>
      injection hds with h1 h2
      subst h1 h2
      have hdl:done.length<lim:=by
       unfold lim
       have:=congrArg List.length hall
       have h3:=NW hl
       simp only[List.length_append] at this
       omega
      obtain⟨j,S1,S2,kvs',f1,f2,f3,G',hp'⟩:=VZ G (p,q) hdl
      refine⟨[some (qG l),some (.loc S.length),some (.int (i:Int)),some (ptD p),some (ptD q)],S',rfl,?_⟩
      refine uJ ?_
      have hfar:=LU p q S' (hok p (hmem p (List.mem_cons_self ..))) (hok q (hr q (List.mem_cons_self ..)))
      have hty:tyD (.loc S.length) S'=some "dict":=TN G.dict
      have l2:2≤lim:=by decide
      have l0:0≤lim:=by decide
      have f1':xY (.loc S.length) [.int (far p q),.loc S'.length] (S'++[MO.lst []]) = .ok (.loc j) S1:=f1
      have f3':wJ (.loc j) [.tup [ptD p,ptD q]] S1=.ok .non S2:=f3
      refine zC (d:=.non) (S:=S2) ?_ ?_
      ·simp[qT,yF,UR,RN,UQ,qR,sIf,zB,x8,xN,zG,gNm,gSb,gTp,xA,jD,bT,SY,RY,dC,qB,d1,d2,qA,qC,qL,qO,dTr,vV,jO,zM,zV,mC,Z6,lO,qZ,zW,fD,dBm,dSl,xX,jY,wG,yB,Res.bind,Res.toS,_D.cX,_D.yO,TH,RO,fW,RV,RQ,RS,sM,sJ,RM,RL,RP,gLt,gLe,gGt,gGe,_D.vM,RU,hfar,hty,l2,l0,f1',f2,f3']
      ·refine⟨r,_,done++[(p,q)],kvs',rfl,rfl,fun q' hq=>hr q' (List.mem_cons_of_mem _ hq),G',?_,fun m hm=>(hp' m hm).trans (hpre m hm)⟩
       rw[← hall]
       simp
    ·rintro env S' ⟨r,e4,done,kvs,rfl,hds,hr,G,hall,hpre⟩
     cases r with
     |cons _ _=>cases hds
     |nil =>
      refine⟨i+1,_,_,_,done,kvs,rfl,?_,G,?_,hpre⟩
      ·rw[hrest]
      ·rw[hrest];simpa using hall
    ·exact⟨rest,e4,done,kvs,rfl,rfl,fun q hq=>hmem q (List.mem_cons_of_mem _ hq),G,by simpa [xQ] using hall,hpre⟩
  ·rintro env S' ⟨i,e2,e3,e4,done,kvs,rfl,hds,G,hall,hpre⟩
   refine u0 (zC rfl ⟨rfl,kvs,?_,hpre⟩)
   cases hdr:l.drop i with
   |cons _ _=>rw[hdr] at hds;cases hds
   |nil =>
    rw[hdr] at hall
    have:done=xQ l:=by simpa [xQ] using hall
    rw[← this]
    exact G
  ·refine⟨0,none,none,none,[],[],rfl,?_,⟨?_,?_,List.nodup_nil,rfl⟩,rfl,?_⟩
   ·rw[lQ];rfl
   ·simp
   ·intro kv hk;simp at hk
   ·intro m hm;rw[List.getElem?_append_left hm]
 obtain⟨d,S',e,rfl,kvs,G,hp⟩:=key
 exact⟨kvs,S',by rw[uE];exact u4 rfl e,G,hp⟩
end _K
end
section
namespace _K
open PySem _D
theorem tZ:∀ (ks ms:List Int),ks.Nodup→(∀ k∈ks,k∈ms)→ks.length≤ms.length
 |[],ms,_,_=>by simp
 |k::ks,ms,nd,h=>by
  have hk:=h k (List.mem_cons_self ..)
  have nd':=List.nodup_cons.mp nd
  have:=tZ ks (ms.erase k) nd'.2 (fun x hx=>by
   have hx':=h x (List.mem_cons_of_mem _ hx)
   have hne:x≠k:=fun e=>nd'.1 (e▸hx)
   exact(List.mem_erase_of_ne hne).mpr hx')
  rw[List.length_erase_of_mem hk] at this
  have:0<ms.length:=List.length_pos_of_mem hk
  simp only[List.length_cons]
  omega
theorem p8 {ns ms:List Int}(h:∀ x∈ns,x∈ms):uP ns≤uP ms:=by
 unfold uP
 refine tZ _ _ (rJ ns [] List.nodup_nil) fun x hx=>?_
 rcases kS.mp hx with z|z
 ·cases z
 ·exact kS.mpr (.inr (h x z))
theorem VF {ns ms:List Int}(h:∀ x,x∈ns↔x∈ms):uP ns=uP ms:=Nat.le_antisymm (p8 fun x hx=>(h x).mp hx) (p8 fun x hx=>(h x).mpr hx)
theorem rG (p q:Pt):far p q=far q p:=by
 have e:∀ a b:Int,(a-b)*(a-b)=(b-a)*(b-a):=fun a b=>by
  rw[← Int.neg_sub b a,Int.neg_mul_neg]
 unfold far
 rw[e p.1 q.1,e p.2 q.2]
def xU:List Pt→List Pt→List Int
 |_,[]=>[]
 |pre,p::ps=>pre.map (fun q=>far p q)++xU (pre++[p]) ps
theorem aM (x:Int):∀ (ps pre:List Pt),x∈xU pre ps↔x∈fars ps∨∃ p∈ps,∃ q∈pre,x=far p q:=by
 intro ps
 induction ps with
 |nil=>intro pre;simp[xU,fars,xQ]
 |cons p ps ih =>
  intro pre
  rw[xU,List.mem_append,ih]
  have hf:x∈fars (p::ps)↔(∃ q∈ps,x=far p q)∨x∈fars ps:=by
   unfold fars
   rw[xQ,List.map_append,List.mem_append,List.map_map]
   refine or_congr ⟨fun h=>?_,fun h=>?_⟩ Iff.rfl
   ·obtain⟨q,hq,e⟩:=List.mem_map.mp h
    exact⟨q,hq,e.symm⟩
   ·obtain⟨q,hq,e⟩:=h
    exact List.mem_map.mpr ⟨q,hq,e.symm⟩
  rw[hf]
  constructor
  ·rintro (h|h|⟨a,ha,b,hb,e⟩)
   ·obtain⟨q,hq,e⟩:=List.mem_map.mp h
    exact .inr ⟨p,List.mem_cons_self ..,q,hq,e.symm⟩
   ·exact .inl (.inr h)
   ·rcases List.mem_append.mp hb with hb|hb
    ·exact .inr ⟨a,List.mem_cons_of_mem _ ha,b,hb,e⟩
    ·have:b=p:=by simpa using hb
     subst this
     exact .inl (.inl ⟨a,ha,by rw[e,rG]⟩)
  ·rintro ((⟨q,hq,e⟩|h)|⟨a,ha,b,hb,e⟩)
   ·exact .inr (.inr ⟨q,hq,p,by simp,by rw[e,rG]⟩)
   ·exact .inr (.inl h)
   ·rcases List.mem_cons.mp ha with rfl|ha
    ·exact .inl (List.mem_map.mpr ⟨b,hb,e.symm⟩)
    ·exact .inr (.inr ⟨a,ha,b,by simp[hb],e⟩)
theorem cB (l:List Pt):uP (xU [] l)=uP (fars l):=VF fun x=>by
 rw[aM]
 simp
theorem aK:∀ (ps pre:List Pt),(xU pre ps).length≤ps.length*(pre.length+ps.length):=by
 intro ps
 induction ps with
 |nil=>intro pre;simp[xU]
 |cons p ps ih =>
  intro pre
  have:=ih (pre++[p])
  rw[xU,List.length_append,List.length_map,List.length_cons]
  rw[List.length_append,List.length_singleton] at this
  have e:(ps.length+1)*(pre.length+(ps.length+1))=ps.length*(pre.length+1+ps.length)+(pre.length+(ps.length+1)):=by
   rw[Nat.succ_mul,Nat.add_assoc pre.length 1,Nat.add_comm 1]
  omega
theorem V0 (ys:List D)(n:Nat):wO ys none (some (n:Int))=ys.take n:=by
 unfold wO
 rw[_H.sIx_nat,_H.sIx_none]
 simp
theorem T3 {S:Sto}{j:Nat}{kvs:List (_L.Key × D)}(h:S[j]? = some (.dct kvs))(hl:kvs.length<lim)(n:Int)(d:D):yG (.loc j) (.int n) d S=.ok () (S.set j (.dct (wD kvs (.inl n) d))):=by
 show (match S[j]? with|some (.dct kvs)=>(match yL (.int n) with|some k=>(if kvs.length<lim then Res.ok () (S.set j (.dct (wD kvs k d))) else .bad)|none=>.bad)|_=>bM (.loc j) (.int n) d S)=_
 rw[h]
 exact if_pos hl
theorem D3 {f o i:DE}{h:G3}{env:qD}{S S1 S2 S3 S4:Sto}{d a b:D}(h1:f env S=.ok d S1)(h2:o env S1=.ok a S2)(h3:i env S2=.ok b S3)(h4:h a b d S3=.ok () S4):zG f (gSb o i h) env S=.nx env S4:=by
 simp only[zG,gSb,h1,h2,h3,h4,Res.toS,Res.bind]
theorem XW (kvs:List (_L.Key × D))(ks:List Int)(f:Int)(d:D)(h:kvs.map (·.1)=(ks.foldl PyProof.Rows.step_dedup []).map Sum.inl):(wD kvs (.inl f) d).map (·.1)=((ks++[f]).foldl PyProof.Rows.step_dedup []).map Sum.inl:=by
 rw[List.foldl_append,List.foldl_cons,List.foldl_nil]
 unfold wD
 have hm:(kvs.any fun kv=>decide (kv.1=.inl f))=true↔f∈ks.foldl PyProof.Rows.step_dedup []:=by
  rw[List.any_eq_true]
  constructor
  ·rintro⟨kv,hk,e⟩
   have:kv.1∈kvs.map (·.1):=List.mem_map.mpr ⟨kv,hk,rfl⟩
   rw[of_decide_eq_true e,h] at this
   obtain⟨g,hg,e⟩:=List.mem_map.mp this
   injection e with e
   exact e▸hg
  ·intro hf
   have:(Sum.inl f:_L.Key)∈kvs.map (·.1):=by rw[h];exact List.mem_map.mpr ⟨f,hf,rfl⟩
   obtain⟨kv,hk,e⟩:=List.mem_map.mp this
   exact⟨kv,hk,decide_eq_true e⟩
 by_cases hf:f∈ks.foldl PyProof.Rows.step_dedup []
 ·rw[if_pos (hm.mpr hf),h8 hf,← h,List.map_map]
  apply List.map_congr_left
  intro kv _
  show (if kv.1=.inl f then (kv.1,d) else kv).1=kv.1
  split <;> rfl
 ·rw[if_neg (fun z=>hf (hm.mp z)),sG hf,List.map_append,List.map_append,h]
  rfl
theorem V2 {S:Sto}{n:Nat}{kvs:List (_L.Key × D)}(h:S[n]? = some (.dct kvs)):pP (.loc n) S=some kvs:=by
 show (match S[n]? with|some (.dct kvs)=>some kvs|_=>none)=_
 rw[h]
theorem rV {S:Sto}{n:Nat}{kvs:List (_L.Key × D)}(h:S[n]? = some (.dct kvs)):yY [.loc n] S=.ok (.int kvs.length) S:=by
 show (match pP (.loc n) S with|some kvs=>Res.ok (D.int kvs.length) S|none=>.bad)=_
 rw[V2 h]
structure TI (n:Nat)(ks:List Int)(S S':Sto):Prop where
 ex:∃ kvs:List (_L.Key × D),S'[n]? = some (.dct kvs)∧kvs.map (·.1)=(ks.foldl PyProof.Rows.step_dedup []).map Sum.inl
 pre:∀ m,m<n→S'[m]? = S[m]?
inductive IvT1 (l:List Pt)(S:Sto)(ds:List D)(env:qD)(S':Sto):Prop
 |mk (pre rest:List Pt) (e2 e3 e4:Option D) (ks:List Int) (h_0:env=[some (qG l),some (.loc S.length),e2,e3,e4]) (h_1:ds=eL pre.length (rest.map ptD)) (h_2:pre++rest=l) (h_3:TI S.length ks S S') (h_4:ks++xU pre rest=xU [] l):IvT1 l S ds env S'
inductive IvT2 (l:List Pt)(S:Sto)(pre:List Pt)(p:Pt)(rest:List Pt)(ds:List D)(env:qD)(S':Sto):Prop
 |mk (r:List Pt) (e4:Option D) (ks:List Int) (h_0:env=[some (qG l),some (.loc S.length),some (.int (pre.length:Int)),some (ptD p),e4]) (h_1:ds=r.map ptD) (h_2:(∀ q∈r,q∈l)) (h_3:TI S.length ks S S') (h_4:ks++(r.map (fun q=>far p q)++xU (pre++[p]) rest)=xU [] l):IvT2 l S pre p rest ds env S'
def jS (l:List Pt):Int:=(uP (fars l):Int)
def xF (l:List Pt):Bool:=decide (jS l≤2)
theorem LY (l:List Pt)(S:Sto)(hok:∀ p∈l,jM p)(hl:l.length≤41):∃ S':Sto,S__law_two [qG l] S=.ok (.bl (xF l)) S'∧S<+:S':=by
 have hbl:(xU [] l).length<4000:=by
  have h1:=aK l []
  have h2:l.length*l.length≤41*41:=Nat.mul_le_mul hl hl
  simp only[List.length_nil,Nat.zero_add] at h1
  omega
 have key:Rt (b__law_two [some (qG l),none,none,none,none] S) fun d S'=>d=.bl (xF l)∧S<+:S':=by
  unfold b__law_two
  refine z9 (zS (zC rfl ?_))
  refine z9 (v8 (ds:=y7 (l.map ptD)) (S1:=S++[.dct []]) rfl ?_)
  refine wK (IvT1 l S) ?_ ?_ ?_
  ·rintro d ds env S' ⟨pre,rest,e2,e3,e4,ks,rfl,hds,hpr,T,hall⟩
   cases rest with
   |nil=>cases hds
   |cons p rest =>
    simp only[List.map_cons,eL] at hds
    injection hds with h1 h2
    subst h1 h2
    refine⟨[some (qG l),some (.loc S.length),some (.int (pre.length:Int)),some (ptD p),e4],S',rfl,?_⟩
    have hpm:p∈l:=by rw[← hpr];simp
    have hsl:wG (dSl (qB 0) (jY) (xX (qB 2))) [some (qG l),some (.loc S.length),some (.int (pre.length:Int)),some (ptD p),e4] S'=.ok (pre.map ptD) S':=by
     have e1:gSl (qG l) none (some (pre.length:Int)) S'=.ok (.tup (pre.map ptD)) S':=by
      show Res.ok (D.tup (wO (l.map ptD) none (some (pre.length:Int)))) S'=_
      rw[V0,← List.map_take,← hpr,List.take_left']
      rfl
     simp[qT,yF,UR,RN,UQ,qR,sIf,zB,x8,xN,zG,gNm,gSb,gTp,xA,jD,bT,SY,RY,dC,qB,d1,d2,qA,qC,qL,qO,dTr,vV,jO,zM,zV,mC,Z6,lO,qZ,zW,fD,dBm,dSl,xX,jY,wG,yB,Res.bind,Res.toS,_D.cX,_D.yO,TH,RO,fW,RV,RQ,RS,sM,sJ,RM,RL,RP,gLt,gLe,gGt,gGe,_D.vM,RU,e1]
    refine v8 hsl ?_
    refine wK (IvT2 l S pre p rest) ?_ ?_ ?_
    ·rintro d ds env S' ⟨r,e4,ks,rfl,hds,hr,T,hall⟩
     cases r with
     |nil=>cases hds
     |cons q r =>
      injection hds with h1 h2
      subst h1 h2
      refine⟨[some (qG l),some (.loc S.length),some (.int (pre.length:Int)),some (ptD p),some (ptD q)],S',rfl,?_⟩
      have hfar:=MR p q S' (hok p hpm) (hok q (hr q (List.mem_cons_self ..)))
      obtain⟨⟨kvs,hk,hks⟩,hpre⟩:=T
      have hkl:kvs.length<lim:=by
       have a1:=congrArg List.length hks
       have a2:=d6 (ks:=ks) (l:=[])
       have a3:=congrArg List.length hall
       simp only[List.length_map,List.length_append,List.length_nil] at a1 a2 a3
       unfold lim
       omega
      have hsl:=(List.getElem?_eq_some_iff.mp hk).1
      refine wN (D3 (S2:=S') (S3:=S') (d:=.bl true) (a:=.loc S.length) (b:=.int (far p q)) rfl rfl ((vU (a:=ptD p) (b:=ptD q) rfl rfl).trans hfar) (T3 hk hkl (far p q) (.bl true))) ?_
      refine⟨r,_,ks++[far p q],rfl,rfl,fun q' hq=>hr q' (List.mem_cons_of_mem _ hq),⟨⟨_,by simp[hsl],XW kvs ks (far p q) (.bl true) hks⟩,fun m hm=>?_⟩,?_⟩
      ·rw[List.getElem?_set_ne (by omega)]
       exact hpre m hm
      ·rw[← hall]
       simp
    ·rintro env S' ⟨r,e4,ks,rfl,hds,hr,T,hall⟩
     cases r with
     |cons _ _=>cases hds
     |nil =>
      refine⟨pre++[p],rest,_,_,_,ks,rfl,?_,by rw[← hpr];simp,T,by simpa using hall⟩
      rw[List.length_append];rfl
    ·exact⟨pre,e4,ks,rfl,rfl,fun q hq=>by rw[← hpr];simp[hq],T,by simpa [xU] using hall⟩
  ·rintro env S' ⟨pre,rest,e2,e3,e4,ks,rfl,hds,hpr,T,hall⟩
   cases rest with
   |cons _ _=>cases hds
   |nil =>
    obtain⟨⟨kvs,hk,hks⟩,hpre⟩:=T
    have hks':ks=xU [] l:=by simpa [xU] using hall
    subst hks'
    have hn:(kvs.length:Int)=jS l:=by
     have:=congrArg List.length hks
     rw[List.length_map,List.length_map] at this
     unfold jS
     rw[this,← cB]
     rfl
    refine u0 (zC ((zU ((vY (a:=.loc S.length) rfl).trans (rV hk)) (b:=.int 3) rfl)) ⟨?_,oK hpre⟩)
    show D.bl (decide ((kvs.length:Int)<3))=_
    rw[hn]
    unfold xF
    rw[decide_eq_decide.mpr (⟨fun h=>by omega,fun h=>by omega⟩:jS l<3↔jS l≤2)]
  ·exact⟨[],l,none,none,none,[],rfl,by rw[lQ];rfl,rfl,⟨⟨[],by simp,rfl⟩,fun m hm=>by rw[List.getElem?_append_left hm]⟩,rfl⟩
 obtain⟨d,S',e,rfl,hp⟩:=key
 exact⟨S',by rw[gP];exact u4 rfl e,hp⟩
end _K
end
section
namespace _K
open PySem _D
def ltP (p q:Pt):Bool:=_H.lexLt [p.1,p.2] [q.1,q.2]
def vX (l:List Pt):Pt:=l.getLastD (0,0)
def grow (pts:List Pt)(L:List (List Pt)):List (List Pt):=L.flatMap fun lot=>(pts.filter fun p=>ltP (vX lot) p).map fun p=>lot++[p]
def ltL:List Pt→List Pt→Bool
 |[],[]=>false
 |[],_::_=>true
 |_::_,[]=>false
 |p::ps,q::qs=>if p=q then ltL ps qs else ltP p q
theorem UH (p:Pt):ltP p p=false:=_S.vO.irr _
theorem o4 {p q r:Pt}(h1:ltP p q=true)(h2:ltP q r=true):ltP p r=true:=_S.vO.tr h1 h2
theorem fM {p q:Pt}(h:ltP p q=true):p≠q:=fun e=>by subst e;rw[UH] at h;cases h
theorem PX (p q:Pt):eqD (ptD p) (ptD q)=decide (p=q):=by
 show (p.1 == q.1&&(p.2 == q.2&&true))=_
 rw[Bool.eq_iff_iff]
 simp[Prod.ext_iff]
theorem cZ (n:Nat)(p:Pt):Tr (n+1) (ptD p):=.tup n _ fun x hx=>by
 simp only[List.mem_cons,List.not_mem_nil,or_false] at hx
 rcases hx with rfl|rfl <;> exact .int _ _
theorem TB (n:Nat)(l:List Pt):Tr (n+2) (qG l):=.tup _ _ fun x hx=>by
 obtain⟨p,_,rfl⟩:=List.mem_map.mp hx
 exact cZ n p
theorem TC (n:Nat)(p:Pt):trb (n+1) (ptD p)=true:=by cases n <;> rfl
theorem K5 (n:Nat)(l:List Pt):trb (n+2) (qG l)=true:=List.all_eq_true.mpr fun x hx=>by
 obtain⟨p,_,rfl⟩:=List.mem_map.mp hx
 exact TC n p
theorem lH:∀ a b:List Pt,wZ (a.map ptD) (b.map ptD)=true
 |[],_=>rfl
 |_::_,[]=>rfl
 |p::a,q::b=>by
  show (yA (ptD p) (ptD q)&&wZ (a.map ptD) (b.map ptD))=true
  rw[lH a b];rfl
theorem BU (p q:Pt):ltN (ptD p) (ptD q)=ltP p q:=by
 have h1:=@vZ 0 0 (.int p.1) (.int q.1) [.int p.2] [.int q.2] (.int _ _) (.int _ _) rfl
 have h2:=@vZ 0 0 (.int p.2) (.int q.2) [] [] (.int _ _) (.int _ _) rfl
 unfold ptD
 rw[pW,h1,h2,pV,pV]
 unfold ltP
 rw[_H.lexLt_cons,_H.lexLt_cons]
 show (if (p.1 == q.1)=true then if (p.2 == q.2)=true then _ else _ else _)=_
 simp only[beq_iff_eq]
 rfl
theorem eE (a b:List Pt):ltN (qG a) (qG b)=ltL a b:=by
 unfold qG
 rw[pW]
 induction a generalizing b with
 |nil=>cases b with
  |nil=>rfl
  |cons q b=>exact(by rfl:_H.lexLt [0] (2::_)=true)
 |cons p a ih=>cases b with
  |nil=>exact(by rfl:_H.lexLt (2::_) [0]=false)
  |cons q b =>
   rw[List.map_cons,List.map_cons,vZ (cZ 0 p) (cZ 0 q) rfl,ih,PX,BU]
   simp[ltL]
theorem o3 {a b:List Pt}(h:ltL a b=true):ltL b a=false:=by
 rw[← eE] at *
 cases q:ltN (qG b) (qG a) with
 |false=>rfl
 |true=>exact absurd (_S.vO.tr h q) (by rw[_S.vO.irr];simp)
set_option tactic.hygienic true in
theorem eB:∀ {a b:List Pt} (c d:List Pt),ltL a b=true→a.length=b.length→ltL (a++c) (b++d)=true
 |[],[],_,_,h,_=>by cases h
 |[],_::_,_,_,_,l=>by simp at l
 |_::_,[],_,_,h,_=>by cases h
 |p::a,q::b,c,d,h,l=>by
  simp only[List.cons_append,ltL] at *
  split
  ·rename_i e
   rw[if_pos e] at h
   exact eB c d h (by simpa using l)
  ·rename_i e
   rw[if_neg e] at h
   exact h
theorem eD {c d:List Pt}(h:ltL c d=true):∀ a:List Pt,ltL (a++c) (a++d)=true
 |[]=>h
 |p::a=>by
  simp only[List.cons_append,ltL,if_true]
  exact eD h a
theorem eC {p q:Pt}(h:ltP p q=true):ltL [p] [q]=true:=by
 simp only[ltL,if_neg (fM h)]
 exact h
def x5 (pts:List Pt):Nat→List (List Pt)
 |0=>pts.map fun p=>[p]
 |k+1=>grow pts (x5 pts k)
theorem uW {α : Type}(l:List α) : l=[]∨∃ l' b,l=l'++[b]:=by simpa only [List.concat_eq_append] using List.eq_nil_or_concat l
theorem pF (l:List Pt)(p:Pt):vX (l++[p])=p:=by simp[vX]
abbrev Up (l:List Pt):Prop:=l.Pairwise fun p q=>ltP p q=true
theorem K8 {l:List Pt}{p:Pt}(h:Up l)(hl:ltP (vX l) p=true):∀ x∈l,ltP x p=true:=by
 intro x hx
 rcases uW l with rfl|⟨l',q,rfl⟩
 ·cases hx
 ·rw[pF] at hl
  rcases List.mem_append.mp hx with hx|hx
  ·exact o4 ((List.pairwise_append.mp h).2.2 x hx q (by simp)) hl
  ·have:x=q:=by simpa using hx
   subst this
   exact hl
theorem yM (pts:List Pt):∀ (k:Nat) (l:List Pt),l∈x5 pts k↔l.length=k+1∧Up l∧∀ x∈l,x∈pts
 |0,l=>by
  constructor
  ·intro h
   obtain⟨p,hp,rfl⟩:=List.mem_map.mp h
   refine⟨rfl,by simp,fun x hx=>?_⟩
   have:x=p:=by simpa using hx
   subst this
   exact hp
  ·rintro⟨h1,_,h3⟩
   match l,h1 with
   |[p],_=>exact List.mem_map.mpr ⟨p,h3 p (by simp),rfl⟩
 |k+1,l=>by
  constructor
  ·intro h
   obtain⟨l0,h0,h⟩:=List.mem_flatMap.mp h
   obtain⟨p,hp,rfl⟩:=List.mem_map.mp h
   obtain⟨hp1,hp2⟩:=List.mem_filter.mp hp
   obtain⟨a1,a2,a3⟩:=(yM pts k l0).mp h0
   refine⟨by simp[a1],?_,fun x hx=>?_⟩
   ·exact List.pairwise_append.mpr ⟨a2,by simp,fun x hx y hy=>by
     have:y=p:=by simpa using hy
     subst this
     exact K8 a2 hp2 x hx⟩
   ·rcases List.mem_append.mp hx with hx|hx
    ·exact a3 x hx
    ·have:x=p:=by simpa using hx
     subst this;exact hp1
  ·rintro⟨h1,h2,h3⟩
   rcases uW l with rfl|⟨l0,p,rfl⟩
   ·cases h1
   ·have hl:l0.length=k+1:=by simpa using h1
    obtain⟨b1,_,b3⟩:=List.pairwise_append.mp h2
    refine List.mem_flatMap.mpr ⟨l0,(yM pts k l0).mpr ⟨hl,b1,fun x hx=>h3 x (by simp[hx])⟩,List.mem_map.mpr ⟨p,List.mem_filter.mpr ⟨h3 p (by simp),?_⟩,rfl⟩⟩
    rcases uW l0 with rfl|⟨l1,q,rfl⟩
    ·cases hl
    ·rw[pF]
     exact b3 q (by simp) p (by simp)
theorem eA {pts:List Pt}(hs:Up pts):∀ k:Nat,(x5 pts k).Pairwise fun a b=>ltL a b=true
 |0=>by
  show (pts.map fun p=>[p]).Pairwise _
  rw[List.pairwise_map]
  exact hs.imp fun h=>eC h
 |k+1=>by
  show (grow pts (x5 pts k)).Pairwise _
  unfold grow
  rw[List.pairwise_flatMap]
  refine⟨fun lot _=>?_,?_⟩
  ·rw[List.pairwise_map]
   exact(hs.filter _).imp fun h=>eD (eC h) lot
  ·refine(eA hs k).imp_of_mem fun {a b} ha hb h x hx y hy=>?_
   obtain⟨p,_,rfl⟩:=List.mem_map.mp hx
   obtain⟨q,_,rfl⟩:=List.mem_map.mp hy
   refine eB _ _ h ?_
   rw[((yM pts k a).mp ha).1,((yM pts k b).mp hb).1]
def chS (n:Nat)(acc:List (List Pt))(p:Pt):List (List Pt):=acc++(acc.filter fun l=>decide (l.length<n)).map fun l=>l++[p]
def chF (n:Nat)(ps:List Pt):List (List Pt):=ps.foldl (chS n) [[]]
theorem gV (n:Nat):∀ (k:Nat) (ps:List Pt),ps.length=k→Up ps→(∀ l,l∈chF n ps↔l.length≤n∧Up l∧∀ x∈l,x∈ps)∧(chF n ps).Nodup∧(chF n ps).length≤2 ^ k
 |0,ps,hk,_=>by
  have:ps=[]:=List.length_eq_zero_iff.mp hk
  subst this
  refine⟨fun l=>?_,by simp[chF],by simp[chF]⟩
  constructor
  ·intro h
   have:l=[]:=by simpa [chF] using h
   subst this
   simp
  ·rintro⟨_,_,h⟩
   cases l with
   |nil=>simp[chF]
   |cons x l=>exact absurd (h x (by simp)) (by simp)
 |k+1,ps,hk,hu=>by
  rcases uW ps with rfl|⟨ps,p,rfl⟩
  ·cases hk
  ·obtain⟨u1,_,u3⟩:=List.pairwise_append.mp hu
   have lt:∀ x∈ps,ltP x p=true:=fun x hx=>u3 x hx p (by simp)
   obtain⟨ih,nd,ln⟩:=gV n k ps (by simpa using hk) u1
   have e:chF n (ps++[p])=chS n (chF n ps) p:=by simp[chF]
   rw[e]
   generalize chF n ps=F at ih nd ln
   refine⟨fun l=>?_,?_,?_⟩
   ·unfold chS
    rw[List.mem_append]
    constructor
    ·rintro (h|h)
     ·obtain⟨a1,a2,a3⟩:=(ih l).mp h
      exact⟨a1,a2,fun x hx=>by simp[a3 x hx]⟩
     ·obtain⟨l0,h0,rfl⟩:=List.mem_map.mp h
      obtain⟨h0,hn⟩:=List.mem_filter.mp h0
      obtain⟨a1,a2,a3⟩:=(ih l0).mp h0
      have hn':l0.length<n:=by simpa using hn
      refine⟨by simp;omega,?_,fun x hx=>?_⟩
      ·exact List.pairwise_append.mpr ⟨a2,by simp,fun x hx y hy=>by
        have:y=p:=by simpa using hy
        subst this
        exact lt x (a3 x hx)⟩
      ·rcases List.mem_append.mp hx with hx|hx
       ·simp[a3 x hx]
       ·simp at hx;simp[hx]
    ·rintro⟨h1,h2,h3⟩
     rcases uW l with rfl|⟨l0,q,rfl⟩
     ·exact .inl ((ih []).mpr ⟨by simp,by simp,by simp⟩)
     ·obtain⟨b1,_,b3⟩:=List.pairwise_append.mp h2
      have hlt:∀ x∈l0,ltP x q=true:=fun x hx=>b3 x hx q (by simp)
      by_cases hq:q=p
      ·subst hq
       refine .inr (List.mem_map.mpr ⟨l0,List.mem_filter.mpr ⟨(ih l0).mpr ⟨by simp at h1;omega,b1,fun x hx=>?_⟩,decide_eq_true (by simp at h1;omega)⟩,rfl⟩)
       rcases List.mem_append.mp (h3 x (by simp[hx])) with h|h
       ·exact h
       ·have:x=q:=by simpa using h
        exact absurd this (fM (hlt x hx))
      ·have hq':q∈ps:=by
        rcases List.mem_append.mp (h3 q (by simp)) with h|h
        ·exact h
        ·exact absurd (by simpa using h) hq
       refine .inl ((ih _).mpr ⟨h1,h2,fun x hx=>?_⟩)
       rcases List.mem_append.mp (h3 x hx) with h|h
       ·exact h
       ·have hxp:x=p:=by simpa using h
        rcases List.mem_append.mp hx with hx|hx
        ·have:=o4 (hlt x hx) (lt q hq')
         exact absurd hxp (fM this)
        ·have:x=q:=by simpa using hx
         rw[this];exact hq'
   ·unfold chS
    rw[List.nodup_append]
    refine⟨nd,?_,fun a ha b hb hab=>?_⟩
    ·unfold List.Nodup
     rw[List.pairwise_map]
     exact(nd.filter _).imp fun h e=>h (List.append_cancel_right e)
    ·subst hab
     obtain⟨l0,h0,rfl⟩:=List.mem_map.mp hb
     have:=((ih _).mp ha).2.2 p (by simp)
     exact absurd rfl (fM (lt p this))
   ·unfold chS
    rw[List.length_append,List.length_map,Nat.pow_succ]
    have:=List.length_filter_le (fun l=>decide (l.length<n)) F
    omega
theorem G8 (n:Nat)(ps:List Pt):∀ j,((chF n ps).filter fun l=>decide (l.length≤j)).length≤(ps.length+1) ^ j:=by
 generalize hk:ps.length=k
 induction k generalizing ps with
 |zero =>
  intro j
  have:ps=[]:=List.length_eq_zero_iff.mp hk
  subst this
  refine Nat.le_trans (List.length_filter_le _ _) ?_
  simp[chF]
 |succ k ih =>
  rcases uW ps with rfl|⟨ps,p,rfl⟩
  ·cases hk
  ·intro j
   have hk':ps.length=k:=by simpa using hk
   have e:chF n (ps++[p])=chS n (chF n ps) p:=by simp[chF]
   rw[e]
   unfold chS
   rw[List.filter_append,List.length_append,List.filter_map,List.length_map]
   have h1:=ih ps hk' j
   cases j with
   |zero =>
    have:(((chF n ps).filter fun l=>decide (l.length<n)).filter ((fun l=>decide (l.length≤0))∘fun l=>l++[p]))=[]:=by
     rw[List.filter_eq_nil_iff]
     intro a _
     simp
    rw[this]
    simpa using h1
   |succ j =>
    have h2:=ih ps hk' j
    have h3:(((chF n ps).filter fun l=>decide (l.length<n)).filter ((fun l=>decide (l.length≤j+1))∘fun l=>l++[p])).length≤((chF n ps).filter fun l=>decide (l.length≤j)).length:=by
     rw[List.filter_filter]
     rw[← List.countP_eq_length_filter,← List.countP_eq_length_filter]
     refine List.countP_mono_left fun a _ h=>?_
     simp at h
     exact decide_eq_true (by omega)
    have h4:(k+1) ^ j≤(k+1+1) ^ j:=Nat.pow_le_pow_left (by omega) j
    have h5:(k+1) ^ j*(k+1)≤(k+1+1) ^ j*(k+1):=Nat.mul_le_mul_right _ h4
    rw[Nat.pow_succ,Nat.mul_succ] at *
    omega
theorem aX (n:Nat)(ps:List Pt)(hu:Up ps):(chF n ps).length≤(ps.length+1) ^ n:=by
 have h:=G8 n ps n
 rwa [List.filter_eq_self.mpr] at h
 intro l hl
 exact decide_eq_true (((gV n ps.length ps rfl hu).1 l).mp hl).1
theorem tN {pts:List Pt}(hu:Up pts)(k:Nat):pK (((chF (k+1) pts).filter fun l=>decide (l.length=k+1)).map qG)=(x5 pts k).map qG:=by
 obtain⟨h1,h2,_⟩:=gV (k+1) pts.length pts rfl hu
 have up:=eA hu k
 refine K0 (n:=2) (fun x hx=>?_) (List.Perm.map _ ((List.perm_ext_iff_of_nodup ?_ ?_).mpr fun l=>?_)) ?_
 ·obtain⟨l,_,rfl⟩:=List.mem_map.mp hx
  exact TB 0 l
 ·exact up.imp fun {a b} h e=>by
   subst e
   rw[o3 h] at h
   cases h
 ·exact h2.filter _
 ·rw[yM,List.mem_filter,h1]
  constructor
  ·rintro⟨a,b,c⟩
   exact⟨⟨by omega,b,c⟩,by simpa using a⟩
  ·rintro⟨⟨a,b,c⟩,d⟩
   exact⟨by simpa using d,b,c⟩
 ·rw[List.pairwise_map]
  exact up.imp fun h=>by rw[eE];exact o3 h
theorem kK (w h:Nat):Up (qP w h):=by
 unfold Up qP
 rw[List.pairwise_flatMap]
 refine⟨fun x _=>?_,?_⟩
 ·rw[List.pairwise_map]
  exact List.pairwise_lt_range.imp fun {a b} hab=>by
   show _H.lexLt [(x:Int),(a:Int)] [(x:Int),(b:Int)]=true
   rw[_H.lexLt_cons,if_pos rfl,_H.lexLt_cons,if_neg (by omega)]
   exact decide_eq_true (by omega)
 ·refine List.pairwise_lt_range.imp fun {a b} hab p hp q hq=>?_
  obtain⟨y,_,rfl⟩:=List.mem_map.mp hp
  obtain⟨z,_,rfl⟩:=List.mem_map.mp hq
  show _H.lexLt [(a:Int),(y:Int)] [(b:Int),(z:Int)]=true
  rw[_H.lexLt_cons,if_neg (by omega)]
  exact decide_eq_true (by omega)
end _K
end
section
namespace _K
open PySem _D
theorem NO (p q:Pt)(S:Sto):mL (ptD p) (ptD q) S=.ok (.bl (ltP q p)) S:=rfl
theorem aS (lot:List Pt)(p:Pt)(S:Sto)(h:lot.length≤50):zJ (qG lot) (.tup [ptD p]) S=.ok (qG (lot++[p])) S:=by
 have hl:(lot.map ptD).length+1≤lim:=by
  rw[List.length_map]
  unfold lim
  omega
 have e:zJ (.tup (lot.map ptD)) (.tup [ptD p]) S=.ok (.tup (lot.map ptD++[ptD p])) S:=if_pos hl
 unfold qG
 rw[e,List.map_append]
 rfl
theorem U9 (lot:List Pt)(S:Sto)(h:lot≠[]):gIx (qG lot) (.int (-1)) S=.ok (ptD (vX lot)) S:=by
 rcases uW lot with rfl|⟨l,p,rfl⟩
 ·exact absurd rfl h
 ·rw[pF]
  have e:_L.atI ((l++[p]).map ptD) (-1)=some (ptD p):=by
   have hn:_L.ixN ((l++[p]).map ptD).length (-1)=some l.length:=by
    unfold _L.ixN
    simp
    omega
   unfold _L.atI
   rw[hn]
   simp
  show _D.yO (_L.atI ((l++[p]).map ptD) (-1)) S=_
  rw[e]
  rfl
theorem bN (pts:List Pt)(L:List (List Pt)):(grow pts L).length≤L.length*pts.length:=by
 refine bD _ pts.length L fun lot _=>?_
 rw[List.length_map]
 exact List.length_filter_le _ _
theorem NZ (env:qD)(S:Sto):d1 d7 (dC (.int 1)) env S=.ok (.int (-1)) S:=rfl
theorem JN (d:D)(o:Option (Nat × MO))(pts:List Pt)(L:List (List Pt))(S:Sto)(hd:itD d S=.ok (o,L.map qG) S)(ho:stn o S)(hL:∀ lot∈L,lot≠[]∧lot.length≤50)(hb:L.length*pts.length≤lim):S_grown [d,.lst (pts.map ptD)] S=.ok (.lst ((grow pts L).map qG)) S:=by
 have eq:(L.flatMap fun lot=>(pts.filter fun p=>ltP (vX lot) p).map fun p=>qG (lot++[p]))=(grow pts L).map qG:=by
  unfold grow
  rw[List.map_flatMap]
  congr 1
  funext lot
  rw[List.map_map]
  rfl
 have hl:((grow pts L).map qG).length≤lim:=by
  rw[List.length_map]
  exact Nat.le_trans (bN pts L) hb
 have hit:dIt (qB 0) [some d,some (.lst (pts.map ptD))] S=.ok (o,L.map qG) S:=hd
 have l1:1≤lim:=by decide
 have hc:=YX (enc:=qG) (enc2:=ptD) (cap:=[none,none,some 1]) (g:=gNm 0) (t:=zV) (fi2:=dIt (qB 2)) (g2:=gNm 1) (t2:=zM (dTr (d2 mL (qB 1) (d2 gIx (qB 0) (d1 d7 (dC (.int 1)))))) (zV)) (fe:=d2 zJ (qB 0) (qZ (qA (qB 1) (qC)))) (o2:=none) hit ho trivial (fun _=>pts) (fun lot p=>ltP (vX lot) p) (fun lot p=>qG (lot++[p]))
  (fun env=>∃ a b,env=[a,b,some (.lst (pts.map ptD))]) (fun lot env=>∃ b,env=[some (qG lot),b,some (.lst (pts.map ptD))]) ⟨none,none,rfl⟩ (fun lot env ⟨b,e⟩=>⟨_,_,e⟩) (by rw[eq];exact hl)
  (fun lot hlot env ⟨a,b,e⟩=>by
   subst e
   exact⟨[some (qG lot),b,some (.lst (pts.map ptD))],rfl,⟨_,rfl⟩,rfl,rfl⟩)
  (fun lot hlot p hp env ⟨b,e⟩=>by
   subst e
   obtain⟨n1,n2⟩:=hL lot hlot
   have x1:=U9 lot S n1
   have c1:=aS lot p S n2
   refine⟨[some (qG lot),some (ptD p),some (.lst (pts.map ptD))],rfl,⟨_,rfl⟩,?_,fun _=>?_⟩
   ·simp only[zM,dTr,d2,qB,List.getElem?_cons_zero,List.getElem?_cons_succ,Res.bind,NZ,x1,NO,TH,_D.cX,zV]
    cases ltP (vX lot) p <;> rfl
   ·simp[qT,yF,UR,RN,UQ,qR,sIf,zB,x8,xN,zG,gNm,gSb,gTp,xA,jD,bT,SY,RY,dC,qB,d1,d2,qA,qC,qL,qO,dTr,vV,jO,zM,zV,mC,Z6,lO,qZ,zW,fD,dBm,dSl,xX,jY,wG,yB,Res.bind,Res.toS,_D.cX,_D.yO,TH,RO,fW,RV,RQ,RS,sM,sJ,RM,RL,RP,gLt,gLe,gGt,gGe,_D.vM,RU,l1,c1])
 rw[eq] at hc
 rw[f9]
 exact eU rfl hc
def QN (m k:Nat):Prop:=m≤16∨(m≤25∧k≤2)
theorem Y3 {S:Sto}{b:Nat}{xs:List D}(h:S[b]? = some (.lst xs)):itD (.loc b) S=.ok (some (b,.lst xs),xs) S:=by
 show (match S[b]? with|some (.lst xs)=>Res.ok (some (b,MO.lst xs),xs) S|_=>.bad)=_
 rw[h]
theorem uU {N:Nat}{pts:List Pt}(hp:pts.length≤N):∀ k:Nat,(x5 pts k).length≤N ^ (k+1)
 |0=>by simpa [x5] using hp
 |k+1=>by
  show (grow pts (x5 pts k)).length≤_
  refine Nat.le_trans (bN _ _) ?_
  rw[Nat.pow_succ N (k+1)]
  exact Nat.mul_le_mul (uU hp k) hp
theorem dG {pts:List Pt}{k:Nat}(hp:QN pts.length k)(k0:k≤4){j:Nat}(hj:j≤k):(x5 pts j).length*pts.length≤lim:=by
 unfold lim
 rcases hp with h|⟨h,hk⟩
 ·refine Nat.le_trans (Nat.mul_le_mul (uU h j) h) ?_
  have:16 ^ (j+1)≤16 ^ 5:=Nat.pow_le_pow_right (by omega) (by omega)
  omega
 ·refine Nat.le_trans (Nat.mul_le_mul (uU h j) h) ?_
  have:25 ^ (j+1)≤25 ^ 3:=Nat.pow_le_pow_right (by omega) (by omega)
  omega
inductive IvH (b:Nat)(pts:List Pt)(n:Nat)(S:Sto)(ds:List D)(env:qD)(S':Sto):Prop
 |mk (ps qs:List Pt) (e3:Option D) (h_0:S'=S) (h_1:env=[some (.loc b),some (.int (n:Int)),some (.lst ((chF n ps).map qG)),e3]) (h_2:ps++qs=pts) (h_3:ds=qs.map ptD):IvH b pts n S ds env S'
theorem YT (n:Nat)(ps:List Pt)(p:Pt):chF n (ps++[p])=chS n (chF n ps) p:=by simp[chF]
theorem BW (a b:Nat)(S:Sto):gLt (.int (a:Int)) (.int (b:Int)) S=.ok (.bl (decide (a<b))) S:=by
 show Res.ok (D.bl (decide ((a:Int)<b))) S=_
 simp
theorem PZ (a b:Nat)(S:Sto):gEq (.int (a:Int)) (.int (b:Int)) S=.ok (.bl (decide (a=b))) S:=by
 rw[pR,(decide_eq_decide.mpr ⟨fun h=>by omega,fun h=>by omega⟩:decide ((a:Int)=b)=decide (a=b))]
theorem rW (l:List Pt)(S:Sto):wB [qG l] S=.ok (.int (l.length:Int)) S:=by
 unfold qG
 rw[XC,List.length_map]
theorem sZ {f:DE}{env:qD}{S:Sto}{b:Bool}(h:f env S=.ok (.bl b) S):zM (dTr f) zV env S=.ok b S:=by
 unfold zM
 rw[yJ h]
 cases b <;> rfl
theorem W5 (pts:List Pt)(k:Nat)(hp:QN pts.length k)(hu:Up pts)(k0:k≤5)(S:Sto)(b:Nat)(hb:S[b]? = some (.lst (pts.map ptD))):S__law_combos [.loc b,.int ((k+1:Nat):Int)] S=.ok (.lst ((x5 pts k).map qG)) S:=by
 have big:∀ ps qs,ps++qs=pts→(chF (k+1) ps).length≤65536∧∀ l∈chF (k+1) ps,l.length≤50:=fun ps qs e=>by
  have hl:ps.length≤pts.length:=by have:=congrArg List.length e;simp at this;omega
  have up:Up ps:=by rw[← e] at hu;exact(List.pairwise_append.mp hu).1
  obtain⟨a,_,c⟩:=gV (k+1) ps.length ps rfl up
  refine⟨?_,fun l hl=>?_⟩
  ·rcases hp with h|h
   ·exact Nat.le_trans c (Nat.le_trans (Nat.pow_le_pow_right (by omega) (Nat.le_trans hl h)) (by decide))
   ·refine Nat.le_trans (aX (k+1) ps up) (Nat.le_trans (Nat.pow_le_pow_left (show ps.length+1≤26 by omega) _) ?_)
    exact Nat.le_trans (Nat.pow_le_pow_right (by omega) (show k+1≤3 by omega)) (by decide)
  ·have:=((a l).mp hl).1
   omega
 have key:Rt (b__law_combos [some (.loc b),some (.int ((k+1:Nat):Int)),none,none] S) fun d S'=>d=.lst ((x5 pts k).map qG)∧S'=S:=by
  unfold b__law_combos
  have l1:1≤lim:=by decide
  have l0:0≤lim:=by decide
  refine z9 (zS (zC (d:=.lst [qG []]) (yD (jX (j6 (as:=[]) rfl l0)) l1) ?_))
  simp only[List.set_cons_succ,List.set_cons_zero]
  refine z9 (UK (o:=some (b,.lst (pts.map ptD))) (ds:=pts.map ptD) (S1:=S) (Y3 hb) ?_)
  refine dI (IvH b pts (k+1) S) (fun ds env S' h=>?_) ?_ ?_ ⟨[],pts,none,rfl,rfl,rfl,rfl⟩
  ·obtain⟨ps,qs,e3,rfl,_,_,_⟩:=h
   exact hb
  ·rintro d ds env S' ⟨ps,qs,e3,rfl,rfl,hpq,hds⟩
   cases qs with
   |nil=>cases hds
   |cons q qs =>
    injection hds with h1 h2
    subst h1 h2
    refine⟨[some (.loc b),some (.int ((k+1:Nat):Int)),some (.lst ((chF (k+1) ps).map qG)),some (ptD q)],S',rfl,?_⟩
    obtain⟨b1,b2⟩:=big ps _ hpq
    have hc:=jW (enc:=qG) (cap:=[none,some 1,some 3]) (fi:=dIt (qB 2)) (g:=gNm 0) (t:=zM (dTr (d2 gLt (qL wB (qA (qB 0) (qC))) (qB 1))) (zV)) (fe:=d2 zJ (qB 0) (qZ (qA (qB 2) (qC)))) (env:=[some (.loc b),some (.int ((k+1:Nat):Int)),some (.lst ((chF (k+1) ps).map qG)),some (ptD q)]) (S:=S') (o:=none) rfl trivial (fun l=>decide (l.length<k+1)) (fun l=>qG (l++[q])) (fun env=>∃ a,env=[a,some (.int ((k+1:Nat):Int)),some (ptD q)]) ⟨none,rfl⟩ (by unfold lim;omega)
     (fun l hl env ⟨a,e⟩=>by
      subst e
      refine⟨[some (qG l),some (.int ((k+1:Nat):Int)),some (ptD q)],rfl,⟨_,rfl⟩,sZ ((zU ((vY (a:=qG l) rfl).trans (rW l S')) rfl).trans (BW _ _ _)),fun _=>?_⟩
      exact(zU (a:=qG l) rfl (j6 (jX (a:=ptD q) rfl) l1)).trans (aS l q S' (b2 l hl)))
    have e:(chF (k+1) ps).map qG++((chF (k+1) ps).filter fun l=>decide (l.length<k+1)).map (fun l=>qG (l++[q]))=(chF (k+1) (ps++[q])).map qG:=by
     rw[YT]
     unfold chS
     rw[List.map_append,List.map_map]
     rfl
    have hq:((chF (k+1) ps).map qG).length+(((chF (k+1) ps).filter fun l=>decide (l.length<k+1)).map (fun l=>qG (l++[q]))).length≤lim:=by
     rw[List.length_map,List.length_map]
     have:=List.length_filter_le (fun l=>decide (l.length<k+1)) (chF (k+1) ps)
     unfold lim
     omega
    refine zS (zC ((zU (a:=.lst ((chF (k+1) ps).map qG)) rfl hc).trans (vL hq S')) ?_)
    rw[e]
    exact⟨ps++[q],qs,some (ptD q),rfl,rfl,by rw[← hpq];simp,rfl⟩
  ·rintro env S' ⟨ps,qs,e3,rfl,rfl,hpq,hds⟩
   cases qs with
   |cons _ _=>cases hds
   |nil =>
    have:ps=pts:=by simpa using hpq
    subst this
    obtain⟨b1,b2⟩:=big ps [] (by simp)
    have hc:=jW (enc:=qG) (cap:=[none,some 1]) (fi:=dIt (qB 2)) (g:=gNm 0) (t:=zM (dTr (d2 gEq (qL wB (qA (qB 0) (qC))) (qB 1))) (zV)) (fe:=qB 0) (env:=[some (.loc b),some (.int ((k+1:Nat):Int)),some (.lst ((chF (k+1) ps).map qG)),e3]) (S:=S') (o:=none) rfl trivial (fun l=>decide (l.length=k+1)) qG (fun env=>∃ a,env=[a,some (.int ((k+1:Nat):Int))]) ⟨none,rfl⟩ (by unfold lim;omega)
     (fun l hl env ⟨a,e⟩=>by
      subst e
      exact⟨[some (qG l),some (.int ((k+1:Nat):Int))],rfl,⟨_,rfl⟩,sZ ((zU ((vY (a:=qG l) rfl).trans (rW l S')) rfl).trans (PZ _ _ _)),fun _=>rfl⟩)
    refine u0 (zC (d:=.lst ((x5 ps k).map qG)) (S:=S') ((vY hc).trans ?_) ⟨rfl,rfl⟩)
    have hs:pA [.lst (((chF (k+1) ps).filter fun l=>decide (l.length=k+1)).map qG)] S'=.ok (.lst (pK (((chF (k+1) ps).filter fun l=>decide (l.length=k+1)).map qG))) S':=by
     refine if_pos ?_
     rw[Bool.and_eq_true,decide_eq_true_eq]
     refine⟨?_,?_⟩
     ·rw[List.length_map]
      have:=List.length_filter_le (fun l=>decide (l.length=k+1)) (chF (k+1) ps)
      omega
     ·refine List.all_eq_true.mpr fun x hx=>?_
      obtain⟨l,hl,rfl⟩:=List.mem_map.mp hx
      have ll:l.length=k+1:=by simpa using (List.mem_filter.mp hl).2
      rw[Bool.and_eq_true,Bool.and_eq_true]
      refine⟨⟨?_,K5 4 l⟩,List.all_eq_true.mpr fun y hy=>?_⟩
      ·cases l with
       |nil=>cases ll
       |cons _ _=>rfl
      ·obtain⟨m,_,rfl⟩:=List.mem_map.mp hy
       exact lH l m
    rw[hs,tN hu]
 obtain⟨d,S',e,rfl,rfl⟩:=key
 rw[uL]
 exact u4 rfl e
end _K
end
section
namespace _K
open PySem _D
theorem QQ (l:List Pt)(p:Pt){x:Pt × Pt}(h:x∈xQ l):x∈xQ (l++[p]):=by
 induction l with
 |nil=>cases h
 |cons q l ih =>
  simp only[List.cons_append,xQ,List.mem_append,List.mem_map] at *
  rcases h with⟨r,hr,rfl⟩|h
  ·exact .inl ⟨r,.inl hr,rfl⟩
  ·exact .inr (ih h)
theorem JX {l:List Pt}{p:Pt}(h:xF (l++[p])=true):xF l=true:=by
 have h1:uP (fars l)≤uP (fars (l++[p])):=p8 fun x hx=>by
  obtain⟨y,hy,rfl⟩:=List.mem_map.mp hx
  exact List.mem_map.mpr ⟨y,QQ l p hy,rfl⟩
 have h2:jS (l++[p])≤2:=of_decide_eq_true h
 refine decide_eq_true ?_
 unfold jS at *
 omega
def zQ (pts:List Pt):Nat→List (List Pt)
 |0=>pts.map fun p=>[p]
 |k+1=>(grow pts (zQ pts k)).filter xF
theorem ZX (pts:List Pt)(L:List (List Pt)):(grow pts (L.filter xF)).filter xF=(grow pts L).filter xF:=by
 induction L with
 |nil=>rfl
 |cons l L ih =>
  have e:∀ (l:List Pt) (L:List (List Pt)),grow pts (l::L)=((pts.filter fun p=>ltP (vX l) p).map fun p=>l++[p])++grow pts L:=fun l L=>List.flatMap_cons
  rw[e,List.filter_append,← ih]
  cases hs:xF l with
  |true=>rw[List.filter_cons_of_pos hs,e,List.filter_append]
  |false =>
   rw[List.filter_cons_of_neg (by rw[hs];exact Bool.false_ne_true)]
   have:(((pts.filter fun p=>ltP (vX l) p).map fun p=>l++[p]).filter xF)=[]:=by
    rw[List.filter_eq_nil_iff]
    intro a ha h
    obtain⟨p,_,rfl⟩:=List.mem_map.mp ha
    rw[JX h] at hs
    cases hs
   rw[this,List.nil_append]
theorem uT (pts:List Pt):∀ k,zQ pts k=(x5 pts k).filter xF
 |0=>by
  show (pts.map fun p=>[p])=(pts.map fun p=>[p]).filter xF
  rw[List.filter_eq_self.mpr]
  intro l hl
  obtain⟨p,_,rfl⟩:=List.mem_map.mp hl
  rfl
 |k+1=>by
  show (grow pts (zQ pts k)).filter xF=(grow pts (x5 pts k)).filter xF
  rw[uT pts k,ZX]
structure Ok3 (w h k:Nat):Prop where
 hw:1≤w∧w≤5
 hh:1≤h∧h≤5
 hk:1≤k∧k≤4
 sz:QN (w*h) k
theorem bO {w h k j:Nat}(o:Ok3 w h k)(hj:j≤k){l:List Pt}(hl:l∈x5 (qP w h) j):(∀ p∈l,jM p)∧l.length≤41:=by
 obtain⟨a,_,b⟩:=(yM _ _ l).mp hl
 exact⟨fun p hp=>QV (by have:=o.hw;omega) (by have:=o.hh;omega) (b p hp),by have:=o.hk;omega⟩
theorem iZ {w h k:Nat}(o:Ok3 w h k){j:Nat}(hj:j≤k):(x5 (qP w h) j).length≤lim:=by
 have hk:=o.hk
 unfold lim
 rcases o.sz with h|⟨h,_⟩
 ·refine Nat.le_trans (uU (N:=16) (by rw[wA];exact h) j) ?_
  have:16 ^ (j+1)≤16 ^ 5:=Nat.pow_le_pow_right (by omega) (by omega)
  omega
 ·refine Nat.le_trans (uU (N:=25) (by rw[wA];exact h) j) ?_
  have:25 ^ (j+1)≤25 ^ 5:=Nat.pow_le_pow_right (by omega) (by omega)
  omega
theorem c6 {pts:List Pt}{k:Nat}{l:List Pt}(h:l∈zQ pts k):l∈x5 pts k:=by
 rw[uT] at h
 exact(List.mem_filter.mp h).1
theorem B9 {l:List Pt}{n:Nat}{kvs:List (_L.Key × D)}{S:Sto}(G:GI mI prD n (xQ l) kvs S):(kvs.length:Int)=jS l:=by
 have:=congrArg List.length G.keys
 rw[List.length_map,List.length_map] at this
 unfold jS uP fars
 rw[this]
inductive LotsAt (L:List (List Pt))(d:D)(S0 S:Sto):Prop
 |fix (h:d=.lst (L.map qG))
 |at (j:Nat) (h:d=.loc j) (hj:S[j]? = some (.lst (L.map qG))) (hl:S0.length≤j)
theorem LotsAt.it {L:List (List Pt)}{d:D}{S0 S:Sto}(h:LotsAt L d S0 S):∃ o,itD d S=.ok (o,L.map qG) S∧stn o S:=by
 cases h with
 |fix h=>subst h;exact⟨none,rfl,trivial⟩
 |«at» j h hj hl=>subst h;exact⟨_,Y3 hj,hj⟩
theorem MX {l:List Pt}{env:qD}{S:Sto}(h0:env[0]? = some (some (qG l)))(hok:∀ p∈l,jM p)(hl:l.length≤41):∃ S',zM (dTr (d2 gLe (qL yY (qA (qO 1 (okO S_pairs_by_far) (qA (qB 0) (qC))) (qC))) (dC (.int 2)))) (zV) env S=.ok (xF l) S'∧S<+:S':=by
 obtain⟨kvs,S1,c1,G1,pre1⟩:=JO l S hok hl
 have hlen:=(vY (F:=yY) ((nK (f1:=qB 0) (vF h0)).trans (dJ c1))).trans (rV G1.dict)
 rw[B9 G1] at hlen
 have h2:dTr (d2 gLe (qL yY (qA (qO 1 (okO S_pairs_by_far) (qA (qB 0) (qC))) (qC))) (dC (.int 2))) env S=.ok (xF l) S1:=yJ ((zU (o:=gLe) (b:=.int 2) hlen rfl).trans (show gLe (.int (jS l)) (.int 2) S1=.ok (.bl (xF l)) S1 from rfl))
 refine⟨S1,?_,oK pre1⟩
 unfold zM
 rw[h2]
 cases xF l <;> rfl
theorem MS {w h k j:Nat}(o:Ok3 w h k)(hj:j+1≤k)(d:D)(S0 S:Sto)(env:qD)(h3:env[3]? = some (some (.lst ((qP w h).map ptD))))(h4:env[4]? = some (some d))(hd:LotsAt (zQ (qP w h) j) d S0 S) :
  ∃ S',zF true [none] (dIt (qO 2 S_grown (qA (qB 4) (qA (qB 3) (qC))))) (gNm 0) (zM (dTr (d2 gLe (qL yY (qA (qO 1 (okO S_pairs_by_far) (qA (qB 0) (qC))) (qC))) (dC (.int 2)))) (zV)) (zI (qB 0)) env S=.ok (.loc S'.length) (S'++[.lst ((zQ (qP w h) (j+1)).map qG)])∧S<+:S':=by
 have hk:=o.hk
 obtain⟨oo,i1,i2⟩:=hd.it
 have sub:(zQ (qP w h) j).length≤(x5 (qP w h) j).length:=by rw[uT];exact List.length_filter_le _ _
 have hg:=JN d oo (qP w h) (zQ (qP w h) j) S i1 i2 (fun lot hl=>by
  have:=((yM _ j lot).mp (c6 hl)).1
  exact⟨fun e=>(by subst e;cases this),by omega⟩) (Nat.le_trans (Nat.mul_le_mul_right _ sub) (dG (k:=k) (by rw[wA];exact o.sz) hk.2 (by omega)))
 have hit:dIt (qO 2 S_grown (qA (qB 4) (qA (qB 3) (qC)))) env S=.ok (none,(grow (qP w h) (zQ (qP w h) j)).map qG) S:=by
  unfold dIt
  rw[(vU (vF h4) (vF h3)).trans hg]
  rfl
 have mem:∀ l∈grow (qP w h) (zQ (qP w h) j),l∈x5 (qP w h) (j+1):=fun l hl=>by
  obtain⟨l0,h0,h⟩:=List.mem_flatMap.mp hl
  exact List.mem_flatMap.mpr ⟨l0,c6 h0,h⟩
 have glen:(grow (qP w h) (zQ (qP w h) j)).length≤lim:=Nat.le_trans (bN _ _) (Nat.le_trans (Nat.mul_le_mul_right _ sub) (dG (k:=k) (by rw[wA];exact o.sz) hk.2 (by omega)))
 obtain⟨S',e,q⟩:=YW (enc:=qG) (cap:=[none]) (g:=gNm 0) (t:=zM (dTr (d2 gLe (qL yY (qA (qO 1 (okO S_pairs_by_far) (qA (qB 0) (qC))) (qC))) (dC (.int 2)))) (zV)) (fe:=qB 0) hit trivial xF qG (fun env=>∃ a,env=[a]) ⟨none,rfl⟩ glen
  (fun l hl env S' ⟨a,e⟩ _=>by
   subst e
   obtain⟨m1,m2⟩:=bO o hj (mem l hl)
   obtain⟨S1,t1,t2⟩:=MX (l:=l) (env:=[some (qG l)]) (S:=S') rfl m1 m2
   exact⟨[some (qG l)],S1,rfl,⟨_,rfl⟩,t1,t2,fun _=>⟨S1,rfl,List.prefix_refl _⟩⟩)
 exact⟨S',e,q⟩
inductive IvW (w h k:Nat)(S:Sto)(ds:List D)(env:qD)(S':Sto):Prop
 |mk (j:Nat) (d:D) (e5:Option D) (h_0:env=[some (.int (w:Int)),some (.int (h:Int)),some (.int ((k:Int)+1)),some (.lst ((qP w h).map ptD)),some d,e5]) (h_1:j+ds.length=k) (h_2:LotsAt (zQ (qP w h) j) d S S') (h_3:S<+:S') (h_4:j=0∨∃ i,d=.loc i):IvW w h k S ds env S'
theorem gF (c:Cl){w h k:Nat}(o:Ok3 w h k)(S:Sto):∃ (j:Nat) (S':Sto),S_two_lots c [.int (w:Int),.int (h:Int),.int ((k:Int)+1)] S=.ok (.loc j) S'∧S'[j]? = some (.lst ((zQ (qP w h) k).map qG))∧S.length≤j∧S<+:S':=by
 have hw:=o.hw
 have hh:=o.hh
 have hk:=o.hk
 have key:Rt (b_two_lots c [some (.int (w:Int)),some (.int (h:Int)),some (.int ((k:Int)+1)),none,none,none] S) fun d S'=>∃ j,d=.loc j∧S'[j]? = some (.lst ((zQ (qP w h) k).map qG))∧S.length≤j∧S<+:S':=by
  unfold b_two_lots
  have n1:=kE (w:Int) 1 5 S c ⟨by omega,by omega⟩
  have n2:=kE (h:Int) 1 5 S c ⟨by omega,by omega⟩
  have n3:=kE ((k:Int)+1) 2 5 S c ⟨by omega,by omega⟩
  refine z9 (uJ (zC (d:=.non) (S:=S) ((xV (a:=.int (w:Int)) (b:=.int 1) (c:=.int 5) rfl rfl rfl).trans n1) ?_))
  refine z9 (uJ (zC (d:=.non) (S:=S) ((xV (a:=.int (h:Int)) (b:=.int 1) (c:=.int 5) rfl rfl rfl).trans n2) ?_))
  refine z9 (uJ (zC (d:=.non) (S:=S) ((xV (a:=.int ((k:Int)+1)) (b:=.int 2) (c:=.int 5) rfl rfl rfl).trans n3) ?_))
  refine z9 (zS (zC ((vU (a:=.int (w:Int)) (b:=.int (h:Int)) rfl rfl).trans (JM w h S (by omega) (by omega))) ?_))
  simp only[List.set_cons_succ,List.set_cons_zero]
  have l1:1≤lim:=by decide
  have hbl:(qP w h).length≤lim:=by
   rw[wA]
   have:w*h≤5*5:=Nat.mul_le_mul hw.2 hh.2
   unfold lim
   omega
  have hc:=jW (enc:=ptD) (cap:=[none]) (fi:=dIt (qB 3)) (g:=gNm 0) (t:=zV) (fe:=qZ (qA (qB 0) (qC))) (env:=[some (.int (w:Int)),some (.int (h:Int)),some (.int ((k:Int)+1)),some (.lst ((qP w h).map ptD)),none,none]) (S:=S) (o:=none) rfl trivial (fun _=>true) (fun p=>qG [p]) (fun env=>∃ a,env=[a]) ⟨none,rfl⟩ hbl
   (fun p hp env ⟨a,e⟩=>by
    subst e
    exact⟨[some (ptD p)],rfl,⟨_,rfl⟩,rfl,fun _=>j6 (jX (a:=ptD p) rfl) l1⟩)
  rw[jC] at hc
  have e0:((qP w h).map fun p=>qG [p])=(zQ (qP w h) 0).map qG:=by simp[zQ]
  rw[e0] at hc
  refine z9 (zS (zC hc ?_))
  clear hc e0
  simp only[List.set_cons_succ,List.set_cons_zero]
  have hr:yB (qA (d2 vM (qB 2) (dC (.int 1))) (qC)) [some (.int (w:Int)),some (.int (h:Int)),some (.int ((k:Int)+1)),some (.lst ((qP w h).map ptD)),some (.lst ((zQ (qP w h) 0).map qG)),none] S=.ok ((List.range k).map iD) S:=mQ _ k _ S (by omega) (by
   have:vM (.int ((k:Int)+1)) (.int 1) S=.ok (.int (k:Int)) S:=by
    show Res.ok (D.int ((k:Int)+1-1)) S=_
    rw[Int.add_sub_cancel]
   exact(zU (a:=.int ((k:Int)+1)) (b:=.int 1) rfl rfl).trans this)
  refine z9 (v8 hr ?_)
  refine wK (IvW w h k S) ?_ ?_ ⟨0,_,none,rfl,by simp,.fix rfl,List.prefix_refl _,.inl rfl⟩
  ·rintro d ds env S' ⟨j,dd,e5,rfl,hj,hd,hp,_⟩
   refine⟨[some (.int (w:Int)),some (.int (h:Int)),some (.int ((k:Int)+1)),some (.lst ((qP w h).map ptD)),some dd,some d],S',rfl,?_⟩
   simp only[List.length_cons] at hj
   obtain⟨S1,e,q⟩:=MS o (j:=j) (by omega) dd S S' [some (.int (w:Int)),some (.int (h:Int)),some (.int ((k:Int)+1)),some (.lst ((qP w h).map ptD)),some dd,some d] rfl rfl hd
   exact zS (zC e ⟨j+1,_,_,rfl,by omega,.at S1.length rfl (by simp) (hp.trans q).length_le,(hp.trans q).trans (List.prefix_append _ _),.inr ⟨_,rfl⟩⟩)
  ·rintro env S' ⟨j,d,e5,rfl,hj,hd,hp,hl⟩
   have:j=k:=by simpa using hj
   subst this
   rcases hl with z|⟨i,rfl⟩
   ·omega
   ·cases hd with
    |fix z=>cases z
    |«at» i' z hi hl =>
     injection z with z
     subst z
     exact u0 (zC (d:=.loc i) (S:=S') rfl ⟨i,rfl,hi,hl,hp⟩)
 obtain⟨d,S',e,j,rfl,h1,h2,h3⟩:=key
 exact⟨j,S',by rw[uA];exact u4 rfl e,h1,h2,h3⟩
inductive No3 (a b n:D):Prop
 |one (h:vT 1 5 a)
 |two (w:Int) (ea:a=.int w) (hw:1≤w∧w≤5) (h:vT 1 5 b)
 |three (w h:Int) (ea:a=.int w) (eb:b=.int h) (hw:1≤w∧w≤5) (hh:1≤h∧h≤5) (hn:vT 2 5 n)
theorem Y4:nQ 1 5=true:=kd
theorem BY:nQ 2 5=true:=kd
theorem lS {f:DE}{g:DS}{env:qD}{S S':Sto}{v:Value}{x:D}(h:f env S=.ex v x S'):qR (xN f) g env S=.ex v x env S':=by
 simp only[qR,xN,h,Res.toS]
theorem dN {f:DE}{g:DS}{env:qD}{S S':Sto}{x:D}(h:f env S=.ok x S'):qR (xN f) g env S=g env S':=by
 simp only[qR,xN,h,Res.toS]
theorem MV {n:Nat}{g:DS}{ds:List D}{S S':Sto}{v:Value}{x:D}{env env':qD}(hs:yF n ds=env)(h:g env S=.ex v x env' S'):qT n g ds S=.ex v x S':=by
 subst hs
 unfold qT
 rw[h]
 rfl
theorem F6 (c:Cl)(a b n:D)(S:Sto)(h:No3 a b n):S_two_lots c [a,b,n] S=.ex (.ref c.NoNumber) .non S:=by
 rw[uA]
 refine MV (env:=[some a,some b,some n,none,none,none]) (env':=[some a,some b,some n,none,none,none]) rfl ?_
 unfold b_two_lots
 cases h with
 |one h=>exact lS ((xV (a:=a) (b:=.int 1) (c:=.int 5) rfl rfl rfl).trans (pI a 1 5 S c Y4 h))
 |two w ea hw h =>
  subst ea
  rw[dN ((xV (a:=.int w) (b:=.int 1) (c:=.int 5) rfl rfl rfl).trans (kE w 1 5 S c hw))]
  exact lS ((xV (a:=b) (b:=.int 1) (c:=.int 5) rfl rfl rfl).trans (pI b 1 5 S c Y4 h))
 |three w h ea eb hw hh hn =>
  subst ea eb
  rw[dN ((xV (a:=.int w) (b:=.int 1) (c:=.int 5) rfl rfl rfl).trans (kE w 1 5 S c hw)),dN ((xV (a:=.int h) (b:=.int 1) (c:=.int 5) rfl rfl rfl).trans (kE h 1 5 S c hh))]
  exact lS ((xV (a:=n) (b:=.int 2) (c:=.int 5) rfl rfl rfl).trans (pI n 2 5 S c BY hn))
end _K
end
section
namespace _K
open PySem _D
theorem L8 (p:Pt):okD 1 (ptD p):=⟨by show 2≤lim;decide,fun x hx=>by
 simp at hx
 rcases hx with rfl|rfl <;> trivial⟩
theorem FH {l:List Pt}(h:l.length≤41):okD 2 (qG l):=⟨by rw[List.length_map];unfold lim;omega,fun x hx=>by
 obtain⟨p,_,rfl⟩:=List.mem_map.mp hx
 exact L8 p⟩
theorem kB {L:List (List Pt)}(h:L.length≤lim)(hl:∀ l∈L,l.length≤41):okD 3 (.lst (L.map qG)):=⟨by rw[List.length_map];exact h,fun x hx=>by
 obtain⟨p,hp,rfl⟩:=List.mem_map.mp hx
 exact FH (hl p hp)⟩
theorem oI (n:Nat)(i:Int):pl n (.int i)=true:=by cases n <;> rfl
theorem LK (n:Nat)(p:Pt):pl (n+1) (ptD p)=true:=by
 show ([D.int p.1,D.int p.2].all (pl n))=true
 rw[List.all_cons,List.all_cons,oI,oI]
 rfl
theorem M0 (n:Nat)(l:List Pt):pl (n+2) (qG l)=true:=by
 show ((l.map ptD).all (pl (n+1)))=true
 rw[List.all_map]
 exact List.all_eq_true.mpr fun p _=>LK n p
theorem eJ (n:Nat)(L:List (List Pt)):pl (n+3) (.lst (L.map qG))=true:=by
 show ((L.map qG).all (pl (n+2)))=true
 rw[List.all_map]
 exact List.all_eq_true.mpr fun l _=>M0 n l
theorem eG (S:Sto)(a b:D)(L M:List (List Pt))(ha:wV 20 S a=some (.lst (L.map qG)))(hb:wV 20 S b=some (.lst (M.map qG))):v7 gNe a b S=.ok (.bl (!eqD (.lst (L.map qG)) (.lst (M.map qG)))) S:=by
 have h1:pl yC (.lst (L.map qG))=true:=eJ 27 L
 have h2:pl yC (.lst (M.map qG))=true:=eJ 27 M
 unfold v7 p7
 rw[ha,hb]
 show nP (gNe (.lst (L.map qG)) (.lst (M.map qG)) (uF S)) S=_
 unfold gNe
 rw[h1,h2]
 rfl
theorem oF:∀ (n:Nat) (d:D),okD n d→okD (n+1) d:=by
 intro n
 induction n with
 |zero =>
  intro d h
  cases d with
  |int _=>trivial
  |_=>exact False.elim h
 |succ n ih =>
  intro d h
  cases d with
  |int _=>trivial
  |tup xs=>exact⟨h.1,fun x hx=>ih x (h.2 x hx)⟩
  |lst xs=>exact⟨h.1,fun x hx=>ih x (h.2 x hx)⟩
  |_=>exact False.elim h
theorem Q5 (S:Sto)(j:Nat)(L:List (List Pt))(h:L.length≤lim)(hl:∀ l∈L,l.length≤41)(hj:S[j]? = some (.lst (L.map qG))):uG S__law_same [.loc j,.lst (L.map qG)] S=.ok (.bl true) S:=
 iY S _ _ _ 5 (t8 S j 3 _ hj (kB h hl) (by omega)) (b0 S 3 20 _ (kB h hl) (by omega)) (oF _ _ (oF _ _ (kB h hl))) rfl
theorem WQ {w h k:Nat}(o:Ok3 w h k):(zQ (qP w h) k).length<lim:=by
 have h1:=(gV (k+1) (qP w h).length (qP w h) rfl (kK w h)).2.2
 have h1':=aX (k+1) (qP w h) (kK w h)
 have h2:=congrArg List.length (tN (kK w h) k)
 have h3:=(jJ (((chF (k+1) (qP w h)).filter fun l=>decide (l.length=k+1)).map qG)).length_eq
 have h4:=List.length_filter_le (fun l=>decide (l.length=k+1)) (chF (k+1) (qP w h))
 have h5:=List.length_filter_le xF (x5 (qP w h) k)
 rw[← uT] at h5
 simp only[List.length_map] at h2 h3
 have h6:(chF (k+1) (qP w h)).length≤65536:=by
  rw[wA] at h1 h1'
  rcases o.sz with z|⟨z,z'⟩
  ·exact Nat.le_trans h1 (Nat.le_trans (Nat.pow_le_pow_right (by omega) z) (by decide))
  ·refine Nat.le_trans h1' (Nat.le_trans (Nat.pow_le_pow_left (show w*h+1≤26 by omega) _) ?_)
   exact Nat.le_trans (Nat.pow_le_pow_right (by omega) (show k+1≤3 by omega)) (by decide)
 unfold lim
 omega
theorem S9 {w h k:Nat}(o:Ok3 w h k):∀ l∈zQ (qP w h) k,l.length≤41:=fun l hl=>(bO o (Nat.le_refl k) (c6 hl)).2
theorem WS {ty:String}{g:D→List D→Sto→Res D}{fo:DE}{fa:DA}{env:qD}{S S1 S2:Sto}{o:D}{ds:List D}(h1:fo env S=.ok o S1)(ht:tyD o S1=some ty)(h2:fa env S1=.ok ds S2):dBm ty g fo fa env S=g o ds S2:=by
 unfold dBm
 rw[h1,Res.bind_ok,ht,if_pos (by simp),h2,Res.bind_ok]
theorem B4 {S:Sto}{j:Nat}{xs ys:List D}(h:S[j]? = some (.lst xs))(hl:xs.length+ys.length≤lim):jZ (.loc j) [.lst ys] S=.ok .non (S.set j (.lst (xs++ys))):=by
 show (match S[j]? with|some (.lst xs)=>(if xs.length+ys.length≤lim then Res.ok D.non (S.set j (.lst (xs++ys))) else .bad)|_=>.bad)=_
 rw[h]
 exact if_pos hl
theorem JY (S:Sto)(a b:MO):(S++[a]).set S.length b=S++[b]:=by simp
theorem MT (h x:Nat)(hh:h≤12)(env:qD)(S:Sto)(h1:env[1]? = some (some (.int (h:Int))))(h4:env[4]? = some (some (iD x))):zF false [none,some 4] (wM (yB (qA (qB 1) (qC)))) (gNm 0) (zV) (zI (qZ (qA (qB 1) (qA (qB 0) (qC))))) env S=.ok (.lst (((List.range h).map fun y=>pt x y).map ptD)) S:=by
 have hs:zT [none,some 4] env=[none,some (iD x)]:=by simp[zT,h4]
 have l2:2≤lim:=by decide
 have hc:=jW (enc:=iD) (cap:=[none,some 4]) (g:=gNm 0) (t:=zV) (fe:=qZ (qA (qB 1) (qA (qB 0) (qC)))) (d9 _ h env S (by omega) (vF h1)) trivial (fun _=>true) (fun y=>ptD (pt x y)) (fun env=>∃ a,env=[a,some (iD x)]) ⟨none,hs⟩ (by rw[List.length_range];unfold lim;omega)
  (fun y hy env ⟨a,e⟩=>by
   subst e
   exact⟨[some (iD y),some (iD x)],rfl,⟨_,rfl⟩,rfl,fun _=>j6 (as:=[iD x,iD y]) (uO rfl rfl) l2⟩)
 rw[jC] at hc
 rw[List.map_map]
 exact hc
inductive IvX (w h:Nat)(n:D)(S:Sto)(ds:List D)(env:qD)(S':Sto):Prop
 |mk (pre rest:List Nat) (e4:Option D) (h_0:env=[some (.int (w:Int)),some (.int (h:Int)),some n,some (.loc S.length),e4,none,none,none]) (h_1:ds=rest.map iD) (h_2:pre++rest=List.range w) (h_3:S'=S++[.lst ((pre.flatMap fun x=>(List.range h).map fun y=>pt x y).map ptD)]):IvX w h n S ds env S'
theorem PR {w h k:Nat}(o:Ok3 w h k)(b:Nat)(env:qD)(S:Sto)(hb:S[b]? = some (.lst ((qP w h).map ptD)))(h3:env[3]? = some (some (.loc b)))(h2:env[2]? = some (some (.int ((k:Int)+1)))):∃ S',zF false [none] (dIt (qO 2 S__law_combos (qA (qB 3) (qA (qB 2) (qC))))) (gNm 0) (zM (dTr (qO 1 (okO S__law_two) (qA (qB 0) (qC)))) (zV)) (zI (qB 0)) env S=.ok (.lst ((zQ (qP w h) k).map qG)) S'∧S<+:S':=by
 have hk:=o.hk
 have hc:=W5 (qP w h) k (by rw[wA];exact o.sz) (kK w h) (by omega) S b hb
 have ek:((k+1:Nat):Int)=(k:Int)+1:=by omega
 rw[ek] at hc
 have hit:dIt (qO 2 S__law_combos (qA (qB 3) (qA (qB 2) (qC)))) env S=.ok (none,(x5 (qP w h) k).map qG) S:=by
  unfold dIt
  rw[(vU (vF h3) (vF h2)).trans hc]
  rfl
 rw[uT]
 exact GD (enc:=qG) (cap:=[none]) (g:=gNm 0) (t:=zM (dTr (qO 1 (okO S__law_two) (qA (qB 0) (qC)))) (zV)) (fe:=qB 0) hit trivial xF qG (fun env=>∃ a,env=[a]) ⟨none,rfl⟩ (iZ o (Nat.le_refl k))
  (fun l hl env S' ⟨a,e⟩ _=>by
   subst e
   obtain⟨m1,m2⟩:=bO o (Nat.le_refl k) hl
   obtain⟨S1,t1,t2⟩:=LY l S' m1 m2
   refine⟨[some (qG l)],S1,rfl,⟨_,rfl⟩,?_,t2,fun _=>⟨S1,rfl,List.prefix_refl _⟩⟩
   have h2:dTr (qO 1 (okO S__law_two) (qA (qB 0) (qC))) [some (qG l)] S'=.ok (xF l) S1:=yJ ((nK (a:=qG l) rfl).trans (dJ t1))
   unfold zM
   rw[h2]
   cases xF l <;> rfl)
theorem YM (env:qD)(S:Sto):yB (qA (dC (.int 2)) (qC)) env S=.ok [.int 0,.int 1] S:=by
 have h:gJ [.int 2]=some [.int 0,.int 1]:=rfl
 simp[qT,yF,UR,RN,UQ,qR,sIf,zB,x8,xN,zG,gNm,gSb,gTp,xA,jD,bT,SY,RY,dC,qB,d1,d2,qA,qC,qL,qO,dTr,vV,jO,zM,zV,mC,Z6,lO,qZ,zW,fD,dBm,dSl,xX,jY,wG,yB,Res.bind,Res.toS,_D.cX,_D.yO,TH,RO,fW,RV,RQ,RS,sM,sJ,RM,RL,RP,gLt,gLe,gGt,gGe,_D.vM,RU,h]
inductive IvY (w h k:Nat)(S0:Sto)(b:D)(e4:Option D)(ds:List D)(env:qD)(S':Sto):Prop
 |mk (e6 e7:Option D) (h_0:env=[some (.int (w:Int)),some (.int (h:Int)),some (.int ((k:Int)+1)),some b,e4,some (.lst ((zQ (qP w h) k).map qG)),e6,e7]) (h_1:∀ m,m<S0.length→S'[m]? = S0[m]?) (h_2:S0.length≤S'.length):IvY w h k S0 b e4 ds env S'
theorem JP (c:Cl){w h k:Nat}(o:Ok3 w h k)(S:Sto):∃ S',S__law_right c [.int (w:Int),.int (h:Int),.int ((k:Int)+1)] S=.ok (.bl true) S'∧∀ m,m<S.length→S'[m]? = S[m]?:=by
 have hw:=o.hw
 have hh:=o.hh
 have hk:=o.hk
 have l0:0≤lim:=by decide
 have key:Rt (b__law_right c [some (.int (w:Int)),some (.int (h:Int)),some (.int ((k:Int)+1)),none,none,none,none,none] S) fun d S'=>d=.bl true∧∀ m,m<S.length→S'[m]? = S[m]?:=by
  unfold b__law_right
  refine z9 (zS (zC (d:=.loc S.length) (S:=S++[.lst []]) rfl ?_))
  simp only[List.set_cons_succ,List.set_cons_zero]
  refine z9 (v8 (mQ (qB 0) w _ _ (by omega) rfl) ?_)
  refine wK (IvX w h (.int ((k:Int)+1)) S) ?_ ?_ ⟨[],List.range w,none,rfl,rfl,rfl,rfl⟩
  ·rintro d ds env S' ⟨pre,rest,e4,rfl,hds,hpr,rfl⟩
   cases rest with
   |nil=>cases hds
   |cons x rest =>
    injection hds with h1 h2
    subst h1 h2
    refine⟨[some (.int (w:Int)),some (.int (h:Int)),some (.int ((k:Int)+1)),some (.loc S.length),some (iD x),none,none,none],_,rfl,?_⟩
    have hS:(S++[MO.lst ((pre.flatMap fun x=>(List.range h).map fun y=>pt x y).map ptD)])[S.length]? = some (.lst ((pre.flatMap fun x=>(List.range h).map fun y=>pt x y).map ptD)):=by simp
    have hlen:((pre.flatMap fun x=>(List.range h).map fun y=>pt x y).map ptD).length+(((List.range h).map fun y=>pt x y).map ptD).length≤lim:=by
     have e:(pre.flatMap fun x=>(List.range h).map fun y=>pt x y).length≤pre.length*h:=bD _ h pre fun x _=>by simp
     have e2:=congrArg List.length hpr
     simp only[List.length_append,List.length_cons,List.length_range] at e2
     have e3:pre.length*h≤5*5:=Nat.mul_le_mul (by omega) hh.2
     simp only[List.length_map,List.length_range]
     unfold lim
     omega
    refine uJ (zC ((WS (o:=.loc S.length) rfl (nX hS) (jX (MT h x (by omega) _ _ rfl rfl))).trans (B4 hS hlen)) ?_)
    refine⟨pre++[x],rest,_,rfl,rfl,by rw[← hpr];simp,?_⟩
    rw[JY,← List.map_append,List.flatMap_append]
    simp
  ·rintro env S' ⟨pre,rest,e4,rfl,hds,hpr,rfl⟩
   cases rest with
   |cons _ _=>cases hds
   |nil =>
    have hp:pre=List.range w:=by simpa using hpr
    subst hp
    have hS:(S++[MO.lst ((qP w h).map ptD)])[S.length]? = some (.lst ((qP w h).map ptD)):=by simp
    obtain⟨S1,e1,q1⟩:=PR o S.length [some (.int (w:Int)),some (.int (h:Int)),some (.int ((k:Int)+1)),some (.loc S.length),e4,none,none,none] (S++[MO.lst ((qP w h).map ptD)]) hS rfl rfl
    refine z9 (zS (zC e1 ?_))
    clear e1
    simp only[List.set_cons_succ,List.set_cons_zero]
    have q2:S<+:S1:=(List.prefix_append _ _).trans q1
    refine z9 (v8 (YM _ _) ?_)
    refine wK (IvY w h k S (.loc S.length) e4) ?_ ?_ ⟨none,none,rfl,fun m hm=>?_,q2.length_le⟩
    ·rintro d ds env S' ⟨e6,e7,rfl,hm,hle⟩
     refine⟨[some (.int (w:Int)),some (.int (h:Int)),some (.int ((k:Int)+1)),some (.loc S.length),e4,some (.lst ((zQ (qP w h) k).map qG)),some d,e7],S',rfl,?_⟩
     obtain⟨j,T,c1,t1,t2,t3⟩:=gF c o S'
     refine vA (zS (zC ((xV (a:=.int (w:Int)) (b:=.int (h:Int)) (c:=.int ((k:Int)+1)) rfl rfl rfl).trans c1) ?_))
     simp only[List.set_cons_succ,List.set_cons_zero]
     refine vA (v9 (oE (yJ ((vU (a:=.loc j) (b:=.lst ((zQ (qP w h) k).map qG)) rfl rfl).trans (Q5 T j _ (Nat.le_of_lt (WQ o)) (S9 o) t1)))) (wN rfl ?_))
     refine uJ (zC ((WS (o:=.loc j) rfl (nX t1) (jX (j6 (as:=[]) rfl l0))).trans (l8 t1 (by rw[List.length_map];exact WQ o) _)) ?_)
     refine⟨_,_,rfl,fun m hm'=>?_,by rw[List.length_set];exact Nat.le_trans hle t3.length_le⟩
     rw[List.getElem?_set_ne (by omega),← hm m hm']
     exact(List.prefix_iff_getElem?.mp t3 m (by omega)).trans (List.getElem?_eq_getElem (by omega)).symm
    ·rintro env S' ⟨e6,e7,rfl,hm,hle⟩
     exact u0 (zC (d:=.bl true) (S:=S') rfl ⟨rfl,hm⟩)
    ·exact(List.prefix_iff_getElem?.mp q2 m hm).trans (List.getElem?_eq_getElem hm).symm
 obtain⟨d,S',e,rfl,hm⟩:=key
 exact⟨S',by rw[j9];exact u4 rfl e,hm⟩
end _K
end
section
namespace _K
open PySem _D
theorem SK {i:Nat}{a:Addr}{cv:List _L.V}{G:List D→DF}{env:qD}{S:Sto}{caps:List D}(h:env[i]? = some (some (.clo a cv caps))):kO i (qC) a cv 0 G env S=G caps [] S:=by
 unfold kO
 rw[h]
 show (if a=a∧cv=cv then _ else _)=_
 rw[if_pos ⟨rfl,rfl⟩]
 rfl
theorem KY {nx:Bool}{cap:List Nat}{N:Nat}{g:Addr→List _L.V→DS}{env:qD}{S:Sto}{caps:List D}{R:Res D}(h:bI cap env=some caps)(e:∀ a cv,qT N (g a cv) [.clo a cv caps] S=R)(hR:exO nx R=R) :
  gY nx cap 1 N (qC) g env S=R:=by
 unfold gY
 rw[h]
 show (if 0+1=1 then exO nx (uni fun a cv=>qT N (g a cv) [.clo a cv caps] S) else .bad)=_
 rw[if_pos rfl,TV e,hR]
theorem aU (c:Cl):(gT c).contains (.ref c.NoNumber)=true:=by
 rw[List.contains_iff_mem]
 simp[gT]
theorem LW (c:Cl)(nd:(xR c).Nodup)(G:List D→DF)(caps:List D)(S:Sto)(x:D)(h:G caps [] S=.ex (.ref c.NoNumber) x S)(a:Addr)(cv:List _L.V):qT 2 (b__law_refused c G a cv) [.clo a cv caps] S=.ok (.str "number") S:=by
 have e:kO 0 (qC) a cv 0 G [some (.clo a cv caps),none] S=.ex (.ref c.NoNumber) x S:=(SK rfl).trans h
 refine u4 (env:=[some (.clo a cv caps),none]) rfl ?_
 unfold b__law_refused
 have k:bU 2 1 (gT c) (xN (kO 0 (qC) a cv 0 G)) (zB (qO 1 (S__law_kinds c) (qA (qB 1) (qC)))) [some (.clo a cv caps),none] S=.rt (.str "number") S:=by
  unfold bU xN
  rw[e]
  simp only[Res.toS,aU c,if_true]
  have z:qO 1 (S__law_kinds c) (qA (qB 1) (qC)) ((List.replicate 2 none).set 1 (some (.exn (.ref c.NoNumber)))) S=.ok (.str "number") S:=(nK rfl).trans (bS c nd S)
  simp only[zB,z,Res.toS]
 unfold qR
 rw[k]
theorem F0 (S:Sto):gNe (.str "number") (.str "number") S=.ok (.bl false) S:=by kernel_rfl!
theorem Z0 (ns:List Int)(hl:ns.length≤63)(env:qD)(S:Sto)(h0:env[0]? = some (some (.lst (ns.map D.int)))):∃ ms:List Int,wG (d2 zJ (zW (qA (qO 2 S__law_cell (qA (qB 0) (qA (dC (.int 0)) (qC)))) (qC))) (dSl (qB 0) (xX (dC (.int 1))) (xX (dC (.int 3))))) env S=.ok (ms.map D.int) S:=by
 obtain⟨x,hx⟩:=MQ ns S
 obtain⟨ms,hm,hml⟩:=YZ ns (some 1) (some 3)
 refine⟨x::ms,?_⟩
 have l1:1≤lim:=by decide
 have hs:dSl (qB 0) (xX (dC (.int 1))) (xX (dC (.int 3))) env S=.ok (.lst (ms.map D.int)) S:=by
  simp only[dSl,vF h0,Res.bind,xX,dC]
  show Res.ok (D.lst (wO (ns.map D.int) (some 1) (some 3))) S=_
  rw[hm]
 have hc:zW (qA (qO 2 S__law_cell (qA (qB 0) (qA (dC (.int 0)) (qC)))) (qC)) env S=.ok (.lst [.int x]) S:=yD (jX ((vU (vF h0) rfl).trans hx)) l1
 unfold wG
 rw[zU hc hs,vL (by rw[List.length_map];show 1+ms.length≤lim;unfold lim;omega)]
 rfl
theorem lP (S:Sto)(p:Nat)(b m:Nat)(env:qD)(h1:env[2]? = some (some (.loc p)))(h:j7 S p)(hm:0<m∧m<1000):∃ (r:Nat) (S1:Sto),d2 zJ (dC (.int (b:Int))) (qO 2 S__law_draw (qA (qB 2) (qA (dC (.int (m:Int))) (qC)))) env S=.ok (.int ((b:Int)+(r:Int))) S1∧j7 S1 p∧r<m:=by
 obtain⟨r,v,f,e,a,b'⟩:=dS S p m h (by omega)
 obtain⟨r,rfl⟩:=Int.eq_ofNat_of_zero_le a
 exact⟨r,_,(zU (a:=.int (b:Int)) rfl ((vU (a:=.loc p) (vF h1) rfl).trans e)).trans (vK _ _ _),bQ h v f,by omega⟩
theorem UL {i j k:Nat}{f1 f2 f3:DE}{env:qD}{S S1 S2 S3:Sto}{a b c:D}{Q:qD→Sto→Prop}(h1:f1 env S=.ok a S1)(h2:f2 env S1=.ok b S2)(h3:f3 env S2=.ok c S3)(q:Q (((env.set i (some a)).set j (some b)).set k (some c)) S3):Nx (b7 i j k (qA f1 (qA f2 (qA f3 (qC)))) env S) Q:=by
 unfold b7
 rw[xD h1 (uO h2 h3)]
 exact wN rfl q
theorem N3 {f g:DT}{env:qD}{S:Sto}{a b:Bool}(h:f env S=.ok a S)(k:g env S=.ok b S):zM f g env S=.ok (a&&b) S:=by
 unfold zM
 rw[h]
 cases a with
 |false=>rfl
 |true=>exact k
def trD (x:D × D × D):D:=.tup [x.1,x.2.1,x.2.2]
theorem t3 {f1 f2 f3:DE}{env:qD}{S:Sto}{a b c:D}(h1:f1 env S=.ok a S)(h2:f2 env S=.ok b S)(h3:f3 env S=.ok c S):qZ (qA f1 (qA f2 (qA f3 (qC)))) env S=.ok (trD (a,b,c)) S:=by
 have l3:3≤lim:=by decide
 exact j6 (xD h1 (uO h2 h3)) l3
theorem gt3 (i j k:Nat)(a b c:D)(env:qD)(S:Sto):gTp 3 (xA (gNm i) (xA (gNm j) (xA (gNm k) (jD)))) (trD (a,b,c)) env S=.ok (((env.set i (some a)).set j (some b)).set k (some c)) S:=rfl
def uI (w h n:Int)(d e:D):List (D × D × D):=[(d,.int h,.int n),(.int w,d,.int n),(.int w,.int h,e)]
def gK (d e:D):List (D × D × D):=[(d,d,e),(.int 6,.int 1,.int 2),(.int 1,.int 6,.int 2),(.int 1,.int 1,.int 1)]
def nU:List (D × D × D):=[(.int 5,.int 5,.int 6),(.int 0,.int 1,.int 2)]
theorem JS (w h n:Int)(d e:D)(hw:1≤w∧w≤5)(hh:1≤h∧h≤5)(hd:vT 1 5 d)(he:vT 2 5 e):∀ x∈uI w h n d e++gK d e++nU,No3 x.1 x.2.1 x.2.2:=by
 intro x hx
 simp only[uI,gK,nU,List.cons_append,List.nil_append,List.mem_cons,List.not_mem_nil,or_false] at hx
 rcases hx with rfl|rfl|rfl|rfl|rfl|rfl|rfl|rfl|rfl
 ·exact .one hd
 ·exact .two w rfl hw hd
 ·exact .three w h rfl rfl hw hh he
 ·exact .one hd
 ·exact .one (yE (by omega))
 ·exact .two 1 rfl (by omega) (yE (by omega))
 ·exact .three 1 1 rfl rfl (by omega) (by omega) (yE (by omega))
 ·exact .three 5 5 rfl rfl (by omega) (by omega) (yE (by omega))
 ·exact .one (yE (by omega))
theorem S8:zQ (qP 2 2) 3=[[(0,0),(0,1),(1,0),(1,1)]]:=kd
theorem S7:zQ (qP 1 1) 1=[]:=kd
theorem ZS (c:Cl)(env:qD)(S:Sto):∃ S',jO (dTr (d2 (v7 gNe) (qO 3 (S_two_lots c) (qA (dC (.int 2)) (qA (dC (.int 2)) (qA (dC (.int 4)) (qC))))) (zW (qA (qZ (qA (qZ (qA (dC (.int 0)) (qA (dC (.int 0)) (qC)))) (qA (qZ (qA (dC (.int 0)) (qA (dC (.int 1)) (qC)))) (qA (qZ (qA (dC (.int 1)) (qA (dC (.int 0)) (qC)))) (qA (qZ (qA (dC (.int 1)) (qA (dC (.int 1)) (qC)))) (qC)))))) (qC))))) (dTr (d2 (v7 gNe) (qO 3 (S_two_lots c) (qA (dC (.int 1)) (qA (dC (.int 1)) (qA (dC (.int 2)) (qC))))) (zW (qC)))) env S=.ok false S':=by
 obtain⟨j,S1,c1,j1,_,q1⟩:=gF c (w:=2) (h:=2) (k:=3) ⟨by omega,by omega,by omega,.inl (by omega)⟩ S
 obtain⟨i,S2,c2,i1,_,q2⟩:=gF c (w:=1) (h:=1) (k:=1) ⟨by omega,by omega,by omega,.inl (by omega)⟩ S1
 rw[S8] at j1
 rw[S7] at i1
 have l0:0≤lim:=by decide
 have l1:1≤lim:=by decide
 have hL:zW (qA (qZ (qA (qZ (qA (dC (.int 0)) (qA (dC (.int 0)) (qC)))) (qA (qZ (qA (dC (.int 0)) (qA (dC (.int 1)) (qC)))) (qA (qZ (qA (dC (.int 1)) (qA (dC (.int 0)) (qC)))) (qA (qZ (qA (dC (.int 1)) (qA (dC (.int 1)) (qC)))) (qC)))))) (qC)) env S1=.ok (.lst ([[((0:Int),(0:Int)),(0,1),(1,0),(1,1)]].map qG)) S1:=by kernel_rfl!
 have hk1:okD 3 (.lst ([[((0:Int),(0:Int)),(0,1),(1,0),(1,1)]].map qG)):=kB (by show 1≤lim;decide) (fun l hl=>by
  have:l=[((0:Int),(0:Int)),(0,1),(1,0),(1,1)]:=by simpa using hl
  subst this
  decide)
 have hk2:okD 3 (.lst (([] : List (List Pt)).map qG)):=kB (by show 0≤lim;decide) (fun l hl=>by cases hl)
 have e1:v7 gNe (.loc j) (.lst ([[((0:Int),(0:Int)),(0,1),(1,0),(1,1)]].map qG)) S1=.ok (.bl false) S1:=by
  rw[eG S1 (.loc j) _ _ _ (t8 S1 j 3 _ j1 hk1 (by omega)) (b0 S1 3 20 _ hk1 (by omega))]
  have e:eqD (.lst ([[((0:Int),(0:Int)),(0,1),(1,0),(1,1)]].map qG)) (.lst ([[((0:Int),(0:Int)),(0,1),(1,0),(1,1)]].map qG))=true:=kd
  rw[e]
  rfl
 have e2:v7 gNe (.loc i) (.lst (([] : List (List Pt)).map qG)) S2=.ok (.bl false) S2:=by
  rw[eG S2 (.loc i) _ _ _ (t8 S2 i 3 _ i1 hk2 (by omega)) (b0 S2 3 20 _ hk2 (by omega))]
  have e:eqD (.lst (([] : List (List Pt)).map qG)) (.lst (([] : List (List Pt)).map qG))=true:=kd
  rw[e]
  rfl
 exact⟨S2,LD (a:=false) (b:=false) (yJ ((zU ((xV (a:=.int 2) (b:=.int 2) (c:=.int 4) rfl rfl rfl).trans c1) hL).trans e1)) (fun _=>yJ ((zU ((xV (a:=.int 1) (b:=.int 1) (c:=.int 2) rfl rfl rfl).trans c2) (yD (as:=[]) rfl l0)).trans e2)) (fun z=>by cases z)⟩
def h3 (w h k:Nat):Nat:=if 3<k+1∧16<w*h then 3 else h
theorem FF {w h k:Nat}(hw:1≤w∧w≤5)(hh:1≤h∧h≤5)(hk:1≤k∧k≤4):Ok3 w (h3 w h k) k:=by
 have hwh:w*h≤5*5:=Nat.mul_le_mul hw.2 hh.2
 unfold h3
 split
 ·exact⟨hw,by omega,hk,.inl (by omega)⟩
 ·refine⟨hw,hh,hk,?_⟩
  by_cases z:16<w*h
  ·exact .inr (by omega)
  ·exact .inl (by omega)
theorem NP {w h k:Nat}(hw:w≤5)(ns:List Int)(e1 e6 e7 e8 e9 e10 e11:Option D)(p:Nat)(S:Sto){Q:qD→Sto→Prop}(q:Q [some (.lst (ns.map D.int)),e1,some (.loc p),some (.int (w:Int)),some (.int (h3 w h k:Int)),some (.int ((k:Int)+1)),e6,e7,e8,e9,e10,e11] S) :
  Nx (sIf (zM (dTr (d2 gGt (qB 5) (dC (.int 3)))) (dTr (d2 gGt (d2 xW (qB 3) (qB 4)) (dC (.int 16))))) (zG (dC (.int 3)) (gNm 4)) (x8) [some (.lst (ns.map D.int)),e1,some (.loc p),some (.int (w:Int)),some (.int (h:Int)),some (.int ((k:Int)+1)),e6,e7,e8,e9,e10,e11] S) Q:=by
 have hm:=(zU (o:=xW) (f:=qB 3) (g:=qB 4) (env:=[some (.lst (ns.map D.int)),e1,some (.loc p),some (.int (w:Int)),some (.int (h:Int)),some (.int ((k:Int)+1)),e6,e7,e8,e9,e10,e11]) (S:=S) (a:=.int (w:Int)) (b:=.int (h:Int)) rfl rfl).trans (yU (w:Int) (h:Int) S ⟨by omega,by omega⟩)
 have h1:d2 gGt (qB 5) (dC (.int 3)) [some (.lst (ns.map D.int)),e1,some (.loc p),some (.int (w:Int)),some (.int (h:Int)),some (.int ((k:Int)+1)),e6,e7,e8,e9,e10,e11] S=.ok (.bl (decide ((k:Int)+1>3))) S:=rfl
 have h2:d2 gGt (d2 xW (qB 3) (qB 4)) (dC (.int 16)) [some (.lst (ns.map D.int)),e1,some (.loc p),some (.int (w:Int)),some (.int (h:Int)),some (.int ((k:Int)+1)),e6,e7,e8,e9,e10,e11] S=.ok (.bl (decide ((w:Int)*(h:Int)>16))) S:=(zU (b:=.int 16) hm rfl).trans rfl
 refine v9 (N3 (yJ h1) (yJ h2)) ?_
 have e:(w:Int)*(h:Int)=((w*h:Nat):Int):=by push_cast;rfl
 rw[e]
 by_cases z:3<k+1∧16<w*h
 ·rw[decide_eq_true (show (k:Int)+1>3 by omega),decide_eq_true (show ((w*h:Nat):Int)>16 by omega)]
  have hz:h3 w h k=3:=if_pos z
  rw[hz] at q
  exact zS (zC rfl q)
 ·have hz:h3 w h k=h:=if_neg z
  rw[hz] at q
  have:(decide ((k:Int)+1>3)&&decide (((w*h:Nat):Int)>16))=false:=by
   rw[← Bool.decide_and]
   exact decide_eq_false (by omega)
  rw[this]
  exact wN rfl q
def IvA (ns:List Int)(ds:List D)(env:qD)(_:Sto):Prop:=∃ (ms:List Int) (e1 e2 e3 e4 e5 e6 e7 e8 e9 e10 e11:Option D),ds=ms.map D.int∧env=[some (.lst (ns.map D.int)),e1,e2,e3,e4,e5,e6,e7,e8,e9,e10,e11]
theorem XB (c:Cl)(nd:(xR c).Nodup)(ns:List Int)(hl:ns.length≤63):∃ S,qT 12 (b_law c) [.lst (ns.map D.int)] [] = .ok (.bl true) S:=by
 have key:Rt (b_law c [some (.lst (ns.map D.int)),none,none,none,none,none,none,none,none,none,none,none] []) fun d _=>d=.bl true:=by
  obtain⟨S00,hf⟩:=ZS c [some (.lst (ns.map D.int)),none,none,none,none,none,none,none,none,none,none,none] []
  refine z9 (v9 hf (wN rfl ?_))
  obtain⟨ms,hms⟩:=Z0 ns hl [some (.lst (ns.map D.int)),none,none,none,none,none,none,none,none,none,none,none] S00 rfl
  refine z9 (v8 hms ?_)
  refine wK (IvA ns) ?_ ?_ ⟨ms,none,none,none,none,none,none,none,none,none,none,none,rfl,rfl⟩
  ·rintro d ds env S ⟨ms,e1,e2,e3,e4,e5,e6,e7,e8,e9,e10,e11,hds,rfl⟩
   cases ms with
   |nil=>cases hds
   |cons y ms =>
    injection hds with h1 h2
    subst h1 h2
    refine⟨[some (.lst (ns.map D.int)),some (.int y),e2,e3,e4,e5,e6,e7,e8,e9,e10,e11],S,rfl,?_⟩
    obtain⟨f,hpen⟩:=LV y S
    refine vA (zS (zC ((nK (a:=.int y) rfl).trans hpen) ?_))
    have p0:j7 (S++[.lst [.int y,.int f]]) S.length:=⟨y,f,by simp⟩
    generalize S++[.lst [.int y,.int f]]=S0 at p0
    generalize S.length=p at p0
    clear hpen hms hf
    simp only[List.set_cons_succ,List.set_cons_zero]
    obtain⟨r1,S1,c1,p1,u1⟩:=lP S0 p 1 5 [some (.lst (ns.map D.int)),some (.int y),some (.loc p),e3,e4,e5,e6,e7,e8,e9,e10,e11] rfl p0 (by omega)
    obtain⟨r2,S2,c2,p2,u2⟩:=lP S1 p 1 5 [some (.lst (ns.map D.int)),some (.int y),some (.loc p),e3,e4,e5,e6,e7,e8,e9,e10,e11] rfl p1 (by omega)
    obtain⟨r3,S3,c3,p3,u3⟩:=lP S2 p 2 4 [some (.lst (ns.map D.int)),some (.int y),some (.loc p),e3,e4,e5,e6,e7,e8,e9,e10,e11] rfl p2 (by omega)
    refine vA (UL c1 c2 c3 ?_)
    clear c1 c2 c3 p0 p1 p2
    simp only[List.set_cons_succ,List.set_cons_zero]
    have w1:((1:Nat):Int)+(r1:Int)=((1+r1:Nat):Int):=by omega
    have w2:((1:Nat):Int)+(r2:Int)=((1+r2:Nat):Int):=by omega
    have w3:((2:Nat):Int)+(r3:Int)=((1+r3:Nat):Int)+1:=by omega
    rw[w1,w2,w3]
    have o:=FF (w:=1+r1) (h:=1+r2) (k:=1+r3) (by omega) (by omega) (by omega)
    refine vA (NP (by omega) ns _ _ _ _ _ _ _ p S3 ?_)
    generalize h3 (1+r1) (1+r2) (1+r3)=h at o
    generalize 1+r1=w at o
    generalize 1+r3=k at o
    clear w1 w2 w3 u1 u2 u3
    obtain⟨T,ct,tp⟩:=JP c o S3
    refine vA (v9 (oE (yJ ((xV (a:=.int (w:Int)) (b:=.int (h:Int)) (c:=.int ((k:Int)+1)) rfl rfl rfl).trans ct))) (wN rfl ?_))
    have p4:j7 T p:=by
     obtain⟨v,f,e⟩:=p3
     exact⟨v,f,(tp p (List.getElem?_eq_some_iff.mp e).1).trans e⟩
    clear ct tp p3
    obtain⟨d1,v1,f1,n1,nn1⟩:=bE T p 1 5 p4 (by omega)
    have p5:=bQ p4 v1 f1
    generalize T.set p (.lst [.int v1,.int f1])=T1 at n1 p5
    obtain⟨d2',v2,f2,n2,nn2⟩:=bE T1 p 2 5 p5 (by omega)
    generalize T1.set p (.lst [.int v2,.int f2])=T2 at n2
    refine vA (F7 ((xV (a:=.loc p) (b:=.int 1) (c:=.int 5) rfl rfl rfl).trans n1) ((xV (a:=.loc p) (b:=.int 2) (c:=.int 5) rfl rfl rfl).trans n2) ?_)
    clear n1 n2 p4 p5
    simp only[List.set_cons_succ,List.set_cons_zero]
    have l3:3≤lim:=by decide
    have l4:4≤lim:=by decide
    have l2:2≤lim:=by decide
    refine vA (zS (zC (d:=.lst ((uI (w:Int) (h:Int) ((k:Int)+1) d1 d2').map trD)) (yD (xD (t3 (a:=d1) (b:=.int (h:Int)) (c:=.int ((k:Int)+1)) rfl rfl rfl) (uO (t3 (a:=.int (w:Int)) (b:=d1) (c:=.int ((k:Int)+1)) rfl rfl rfl) (t3 (a:=.int (w:Int)) (b:=.int (h:Int)) (c:=d2') rfl rfl rfl))) l3) ?_))
    simp only[List.set_cons_succ,List.set_cons_zero]
    refine vA (zS (zC (d:=.lst ((uI (w:Int) (h:Int) ((k:Int)+1) d1 d2'++gK d1 d2').map trD)) ((zU (a:=.lst ((uI (w:Int) (h:Int) ((k:Int)+1) d1 d2').map trD)) rfl (yD (xD (t3 (a:=d1) (b:=d1) (c:=d2') rfl rfl rfl) (xD (t3 (a:=.int 6) (b:=.int 1) (c:=.int 2) rfl rfl rfl) (uO (t3 (a:=.int 1) (b:=.int 6) (c:=.int 2) rfl rfl rfl) (t3 (a:=.int 1) (b:=.int 1) (c:=.int 1) rfl rfl rfl)))) l4)).trans (vL (by show 3+4≤lim;decide) T2)) ?_))
    simp only[List.set_cons_succ,List.set_cons_zero]
    have hit:wG (d2 zJ (qB 8) (zW (qA (qZ (qA (dC (.int 5)) (qA (dC (.int 5)) (qA (dC (.int 6)) (qC))))) (qA (qZ (qA (dC (.int 0)) (qA (dC (.int 1)) (qA (dC (.int 2)) (qC))))) (qC))))) [some (.lst (ns.map D.int)),some (.int y),some (.loc p),some (.int (w:Int)),some (.int (h:Int)),some (.int ((k:Int)+1)),some d1,some d2',some (.lst ((uI (w:Int) (h:Int) ((k:Int)+1) d1 d2'++gK d1 d2').map trD)),e9,e10,e11] T2=.ok ((uI (w:Int) (h:Int) ((k:Int)+1) d1 d2'++gK d1 d2'++nU).map trD) T2:=by
     unfold wG
     rw[(zU (a:=.lst ((uI (w:Int) (h:Int) ((k:Int)+1) d1 d2'++gK d1 d2').map trD)) rfl (yD (uO (t3 (a:=.int 5) (b:=.int 5) (c:=.int 6) rfl rfl rfl) (t3 (a:=.int 0) (b:=.int 1) (c:=.int 2) rfl rfl rfl)) l2)).trans (vL (by show 7+2≤lim;decide) T2)]
     rfl
    refine v8 hit ?_
    clear hit
    have hno:=JS (w:Int) (h:Int) ((k:Int)+1) d1 d2' (by have:=o.hw;omega) (by have:=o.hh;omega) nn1 nn2
    generalize uI (w:Int) (h:Int) ((k:Int)+1) d1 d2'++gK d1 d2'=R at *
    generalize hA:R++nU=A at *
    clear hA
    refine wK (fun ds env _=>∃ (xs:List (D × D × D)) (e9 e10 e11:Option D),ds=xs.map trD∧(∀ x∈xs,No3 x.1 x.2.1 x.2.2)∧env=[some (.lst (ns.map D.int)),some (.int y),some (.loc p),some (.int (w:Int)),some (.int (h:Int)),some (.int ((k:Int)+1)),some d1,some d2',some (.lst (R.map trD)),e9,e10,e11]) ?_ ?_ ⟨A,e9,e10,e11,rfl,hno,rfl⟩
    ·rintro d ds env S ⟨xs,e9,e10,e11,hds,hx,rfl⟩
     cases xs with
     |nil=>cases hds
     |cons x xs =>
      injection hds with h1 h2
      subst h1 h2
      obtain⟨a,b,n⟩:=x
      refine⟨[some (.lst (ns.map D.int)),some (.int y),some (.loc p),some (.int (w:Int)),some (.int (h:Int)),some (.int ((k:Int)+1)),some d1,some d2',some (.lst (R.map trD)),some a,some b,some n],S,gt3 9 10 11 a b n _ _,?_⟩
      exact v9 (yJ ((zU (KY (caps:=[a,b,n]) rfl (LW c nd _ [a,b,n] S .non ((xV (F:=S_two_lots c) (f1:=qB 0) (f2:=qB 1) (f3:=qB 2) (env:=[some a,some b,some n]) (S:=S) rfl rfl rfl).trans (F6 c a b n S (hx _ (List.mem_cons_self ..))))) rfl) rfl).trans (F0 S))) (wN rfl ⟨xs,_,_,_,rfl,fun x hx'=>hx x (List.mem_cons_of_mem _ hx'),rfl⟩)
    ·rintro env S ⟨xs,e9,e10,e11,hds,hx,rfl⟩
     exact⟨ms,_,_,_,_,_,_,_,_,_,_,_,rfl,rfl⟩
  ·rintro env S ⟨ms,e1,e2,e3,e4,e5,e6,e7,e8,e9,e10,e11,_,rfl⟩
   exact u0 (zC (d:=.bl true) (S:=S) rfl rfl)
 obtain⟨d,S',e,rfl⟩:=key
 exact⟨S',u4 rfl e⟩
end _K
end
section
namespace _K
open PySem PySem.Spec PyProof.Rows _L _D
theorem w5 {P:Program}{w:World}{K:PySem.W.Frag}{mg:Str→Option Value}{base:Heap}{c:Cl}(T:Txt K mg c){k:Nat}{F:DF}(d:DfS F P w K mg base true k "_law_same" 2):DfS (qT 2 (b__law_same F)) P w K mg base true (k+1) "_law_same" 2:=by
 refine dq P w base k 10 T rfl ck rfl ?_
 intros
 repeat' first
  |with_reducible exact ck
  |((with_reducible show QE _ _ _);with_reducible first|apply aV|apply YB|apply oS|apply aBt|apply aO|(apply aB;first|apply YL|apply YK|apply YJ|apply QD)|apply aC|apply oU|apply oR|apply oT|apply oP)
  |((with_reducible show _=_);first|exact T.nb ck|exact k9 _|exact rfl|with_unfolding_all rfl)
  |((with_reducible show ZOp _ _ _);with_reducible first|apply TX|apply N1|apply TY)
  |((with_reducible show RoomC _ _ _);first|assumption|exact RoomC.mono (by assumption)|exact RoomC.mono (RoomC.any (by assumption))|exact RoomC.mark (by assumption) _|exact RoomC.mono (RoomC.mark (by assumption) _))
  |((with_reducible show St1 _ _ _ _);exact⟨rfl,rfl⟩)
  |((with_reducible show DfS _ _ _ _ _ _ _ _ _ _);assumption)
  |with_reducible first|apply oO|apply fP|apply pZ|apply eK|apply oN|apply oZ|(apply YD;first|apply fR|apply nS)|apply Q0|apply fR|apply nS|apply aNm|apply oV|apply dR|apply eM|apply oX|apply oW|apply eO|apply eN|apply oY|apply YC|apply Y1
  |((with_reducible apply aSt);case hs=>exact rfl)
  |((with_reducible show ClA _ _ _ _);first|assumption|exact ClA.tr (by assumption))
  |((with_reducible show LmX _ _ _ _ _ _ _ _ _ _);assumption)
  |((with_reducible show DfL _ _ _ _ _ _ _ _ _ _ _ _ _);assumption)
  |((with_reducible show ZF _ _ _ _);first|apply aFn|apply aFn0)
  |exact fun _=>⟨rfl,rfl,rfl⟩
  |(intro h;cases h;done)
  |((with_reducible show ZPass _);first|assumption|exact h9)
  |exact⟨rfl,rfl⟩
  |exact⟨rfl,rfl,rfl⟩
  |apply fP
  |apply pZ
  |(intros;rfl)
  |(intro _ h;cases h <;> rfl)
  |decide
  |intro _
theorem UF {P:Program}{w:World}{K:PySem.W.Frag}{mg:Str→Option Value}{base:Heap}{c:Cl}(T:Txt K mg c)(nd:(xR c).Nodup)(hT:(BN.all fun y=>(PySem.W.tabIn K y).isSome)=true):∃ F,nZ P w K mg base true 8 "law" ["_law_script"] F∧∀ ns:List Int,ns.length≤63→∃ S,F [.lst (ns.map D.int)] [] = .ok (.bl true) S:=by
 refine hv (fun _=>?_) (dq (cm:=true) P w base 0 0 T rfl ck (uD) ?_)
 refine hv (fun _=>?_) (dq (cm:=true) P w base 0 1 T rfl ck (f9) ?_)
 refine hv (fun _=>?_) (dq (cm:=true) P w base 0 2 T rfl ck (u9) ?_)
 refine hv (fun _=>?_) (dq (cm:=true) P w base 1 3 T rfl ck (vH) ?_)
 refine hv (fun _=>?_) (dq (cm:=true) P w base 2 4 T rfl ck (yK c) ?_)
 refine hv (fun _=>?_) (dq (cm:=true) P w base 0 5 T rfl ck (uM) ?_)
 refine hv (fun _=>?_) (dq (cm:=true) P w base 1 6 T rfl ck (uE) ?_)
 refine hv (fun _=>?_) (dq (cm:=true) P w base 3 7 T rfl ck (uA c) ?_)
 refine hv (fun _=>?_) (dq (cm:=false) P w base 0 8 T rfl ck (j8 c) ?_)
 refine hv (fun _=>?_) (dqL (cm:=true) (g:=b__law_refused c) (N:=2) P w base 5 5 0 9 T rfl ck ?_)
 have s0:DfS (fT 0) P w K mg base true 0 "_law_same" 2:=⟨V9 (T.src 10 rfl)⟩
 have d__law_same:DfS S__law_same P w K mg base true 6 "_law_same" 2:=jV▸w5 T (w5 T (w5 T (w5 T (w5 T (w5 T s0)))))
 refine hv (fun _=>?_) (dq (cm:=true) P w base 0 11 T rfl ck (jT) ?_)
 refine hv (fun _=>?_) (dq (cm:=true) P w base 0 12 T rfl ck (gO) ?_)
 refine hv (fun _=>?_) (dq (cm:=true) P w base 0 13 T rfl ck (jU) ?_)
 refine hv (fun _=>?_) (dq (cm:=true) P w base 1 14 T rfl ck (vG) ?_)
 refine hv (fun _=>?_) (dq (cm:=true) P w base 0 15 T rfl ck (gN) ?_)
 refine hv (fun _=>?_) (dq (cm:=true) P w base 0 16 T rfl ck (uL) ?_)
 refine hv (fun _=>?_) (dq (cm:=true) P w base 1 17 T rfl ck (gP) ?_)
 refine hv (fun _=>?_) (dq (cm:=true) P w base 6 18 T rfl ck (j9 c) ?_)
 refine⟨_,dqP 7 19 T rfl ck ?_,XB c nd⟩
 all_goals
  intros
  repeat' first
   |with_reducible exact ck
   |((with_reducible show QE _ _ _);with_reducible first|apply aV|apply MA|apply YB|apply MD|apply oS|apply aBt|apply aGi|apply aCl|apply aL|apply aO|apply aN|(apply aB;first|apply YL|apply YK|apply YJ|apply KH|apply N0|apply QD|apply TZ)|(apply aT;first|apply DM)|apply aC|apply oU|apply MB|apply JC|apply LO|apply W0|apply LP|apply oR|apply XY|apply MC|apply LQ|apply oT|apply oP|apply JB|apply M9|apply J9|apply M8|(apply fQ;(case slot=>apply PySem.F.slot_dict_setdefault);(case' hm=>first|apply WK))|(apply fQ;(case slot=>apply PySem.F.slot_list_append);(case' hm=>first|apply WI))|(apply fQ;(case slot=>apply PySem.F.slot_list_count);(case' hm=>first|apply KE))|(apply fQ;(case slot=>apply PySem.F.slot_list_extend);(case' hm=>first|apply WJ))|(apply fQ;(case slot=>apply PySem.F.slot_list_index);(case' hm=>first|apply KG))|apply M6)
   |((with_reducible show _=_);first|exact T.nb ck|with_reducible apply PySem.F.plainAttrs_dict|with_reducible apply PySem.F.plainAttrs_list|with_reducible apply PySem.F.type_dict_setdefault|with_reducible apply PySem.F.type_list_append|with_reducible apply PySem.F.type_list_count|with_reducible apply PySem.F.type_list_extend|with_reducible apply PySem.F.type_list_index|exact k9 _|exact rfl|with_unfolding_all rfl)
   |((with_reducible show ZOp _ _ _);with_reducible first|apply DD|apply DW|apply DP|apply DH|apply DN|apply DU|apply RK|apply RJ|apply RH|apply RG|apply DQ|apply TX|apply N1|apply TY|apply DJ)
   |((with_reducible show RoomC _ _ _);first|assumption|exact RoomC.mono (by assumption)|exact RoomC.mono (RoomC.any (by assumption))|exact RoomC.mark (by assumption) _|exact RoomC.mono (RoomC.mark (by assumption) _))
   |((with_reducible show St1 _ _ _ _);exact⟨rfl,rfl⟩)
   |((with_reducible show DfS _ _ _ _ _ _ _ _ _ _);assumption)
   |with_reducible first|apply oO|apply fP|apply pZ|apply eK|apply oN|apply aK0|apply JG|apply JH|apply JF|apply MI|apply MP|apply oZ|(apply YD;first|apply eP|apply fR|apply Q1|apply nS)|apply Q0|apply eP|apply fR|apply Q1|apply nS|apply aNm|apply oV|apply MF|apply dR|apply eM|apply MH|apply W1|apply oX|apply JE|apply oW|apply MG|apply eO|apply W4|apply eN|apply LR|apply oY|apply YC|apply JI|apply JJ|apply MK|apply aP2|apply aP3|apply aRs|apply aTr|apply DR|apply RI|apply DV|apply Y1|apply PySem.F.plainAttrs_dict|apply PySem.F.plainAttrs_list|apply PySem.F.type_dict_setdefault|apply PySem.F.type_list_append|apply PySem.F.type_list_count|apply PySem.F.type_list_extend|apply PySem.F.type_list_index
   |((with_reducible apply aCs);case hsw=>exact rfl)
   |((with_reducible apply aSt);case hs=>exact rfl)
   |with_reducible apply MJ
   |exact T.cls
   |exact T.cl (by kernel_rfl)
   |exact T.rz (by kernel_rfl)
   |exact T.ct
   |exact T.gi (by kernel_rfl)
   |((with_reducible apply SB);(case D=>assumption))
   |((with_reducible show ClA _ _ _ _);first|assumption|exact ClA.tr (by assumption))
   |((with_reducible show LmX _ _ _ _ _ _ _ _ _ _);assumption)
   |((with_reducible show DfL _ _ _ _ _ _ _ _ _ _ _ _ _);assumption)
   |((with_reducible show LmK _ _);refine lmK hT (by assumption) ?_ rfl)
   |((with_reducible show ZF _ _ _ _);first|apply aFn|apply aFn0)
   |exact fun _=>⟨rfl,rfl,rfl⟩
   |(intro h;cases h;done)
   |((with_reducible show ZPass _);first|assumption|exact h9)
   |exact⟨rfl,rfl⟩
   |exact⟨rfl,rfl,rfl⟩
   |apply fP
   |apply pZ
   |decide
   |(intros;rfl)
   |(intro _ h;cases h <;> rfl)
   |intro _
end _K
end
namespace _K
open PySem PySem.Spec PyProof.Rows _L _D
theorem bdf:BdF top tab:=by
 repeat (refine⟨?_,?_⟩;(intro _ _ _ _ _ _ us h;first|(obtain⟨_,rfl⟩:=us1 h;rfl)|(obtain⟨_,_,rfl⟩:=us2 h;rfl)|(obtain⟨_,_,_,rfl⟩:=us3 h;rfl)))
 exact trivial
theorem N4 {K:PySem.W.Frag}{C0 C1 C2 C3 C4 C5 C6 C7 C8 C9 C10 C11:Addr}(q0:PySem.W.nsIn K mainGlobals "FarError" = some (some (.ref C0)))(q1:PySem.W.nsIn K mainGlobals "NoPoint" = some (some (.ref C1)))(q2:PySem.W.nsIn K mainGlobals "NoLot" = some (some (.ref C2)))(q3:PySem.W.nsIn K mainGlobals "NoNumber" = some (some (.ref C3)))(q4:PySem.W.nsIn K mainGlobals "NoCircle" = some (some (.ref C4)))(q5:PySem.W.nsIn K mainGlobals "NoMarks" = some (some (.ref C5)))(q6:PySem.W.nsIn K mainGlobals "NoFars" = some (some (.ref C6)))(q7:PySem.W.nsIn K mainGlobals "NoText" = some (some (.ref C7)))(q8:PySem.W.nsIn K mainGlobals "NoLine" = some (some (.ref C8)))(q9:PySem.W.nsIn K mainGlobals "NoDeed" = some (some (.ref C9)))(q10:PySem.W.nsIn K mainGlobals "Alike" = some (some (.ref C10)))(q11:PySem.W.nsIn K mainGlobals "TooMany" = some (some (.ref C11))):hV K (clt ⟨C0,C1,C2,C3,C4,C5,C6,C7,C8,C9,C10,C11⟩):=⟨q0,q1,q2,q3,q4,q5,q6,q7,q8,q9,q10,q11,trivial⟩
theorem N5 {K:PySem.W.Frag}{k0 k1 k2:Tok}(g0:PySem.W.nsIn K mainGlobals "MOST_SIDE" = some (some (.int (5) k0)))(g1:PySem.W.nsIn K mainGlobals "LEAST_POINTS" = some (some (.int (2) k1)))(g2:PySem.W.nsIn K mainGlobals "MOST_POINTS" = some (some (.int (5) k2))):hW K cst:=⟨⟨_,g0⟩,⟨_,g1⟩,⟨_,g2⟩,trivial⟩
theorem BP {P:Program}{w:World}{K:PySem.W.Frag}{mg:Str→Option Value}{c:Cl}{fa:Addr}(T:Txt K mg c)(nd:(xR c).Nodup)(hT:(BN.all fun y=>(PySem.W.tabIn K y).isSome)=true)(hfa:mg "law" = some (.ref fa)) :
  ∃ fd:FuncData,(∀ (s:Shared) (v:Value),BindsTo s fd ⟨[v],[]⟩ [("_law_script",v)])∧∀ base:Heap,K.In base→base.Ns mainGlobals mg→FnOk P w K mg base (CXd P w) 8 fa fd ["_law_script"] (nV K):=
 UG (T.src 19 rfl) hfa (fun kV doc pm an cdv ct s v=>.of_eq rfl) fun base=>UF T nd hT
end _K
theorem PySem.W.Fast.tw11688861774872586001 : True := trivial
theorem PySem.W.Fast.tw10627063447355589970 : True := trivial
theorem PySem.W.Fast.tw8809398595601327339 : True := trivial
theorem PySem.W.Fast.tw12479342221831496159 : True := trivial
theorem PySem.W.Fast.tw14975079450639739815 : True := trivial
theorem PySem.W.Fast.tw10859468714984250976 : True := trivial
theorem PySem.W.Fast.tw6237359813478100299 : True := trivial
theorem PySem.W.Fast.tw11434200134402890856 : True := trivial
theorem PySem.W.Fast.tw4496876880618982472 : True := trivial
theorem PySem.W.Fast.tw17916737567855794539 : True := trivial
theorem PySem.W.Fast.tw4820497565118436493 : True := trivial
theorem PySem.W.Fast.tw7240243057897378543 : True := trivial
theorem PySem.W.Fast.tw11296335481956244234 : True := trivial
theorem PySem.W.Fast.tw3504497581231963547 : True := trivial
theorem PySem.W.Fast.tw5151342264850431965 : True := trivial
theorem PySem.W.Fast.tw6997117922043070916 : True := trivial
theorem PySem.W.Fast.tw14846623962812261932 : True := trivial
theorem PySem.W.Fast.tw702748363022017431 : True := trivial
theorem PySem.W.Fast.tw6085297626664668565 : True := trivial
theorem PySem.W.Fast.tw10075075009158949671 : True := trivial
theorem PySem.W.Fast.tw898011165101817283 : True := trivial
theorem PySem.W.Fast.tw12173165530269254983 : True := trivial
theorem PySem.W.Fast.tw16923934485620766895 : True := trivial
theorem PySem.W.Fast.tw14863475916802479341 : True := trivial
theorem PySem.W.Fast.tw12344787586286559704 : True := trivial
theorem PySem.W.Fast.tw15987505089934561445 : True := trivial
theorem PySem.W.Fast.tw10688974145995708200 : True := trivial
theorem PySem.W.Fast.tw6644167983143434220 : True := trivial
theorem PySem.W.Fast.tw5336594828418083424 : True := trivial
theorem PySem.W.Fast.tw2132258252898494356 : True := trivial
theorem PySem.W.Fast.tw1025926253962712329 : True := trivial
theorem PySem.W.Fast.tw18286626040697702456 : True := trivial
theorem PySem.W.Fast.tw12703512922046267878 : True := trivial
theorem PySem.W.Fast.tw15826893234741316131 : True := trivial
theorem PySem.W.Fast.tw3848173116221755371 : True := trivial
theorem PySem.W.Fast.tw4178569984931402220 : True := trivial
theorem PySem.W.Fast.tw17594030746783059484 : True := trivial
theorem PySem.W.Fast.tw1613985012935163180 : True := trivial
theorem PySem.W.Fast.tw1105843623939712798 : True := trivial
theorem PySem.W.Fast.tw2294621363801012243 : True := trivial
theorem PySem.W.Fast.tw8091010539775440803 : True := trivial
theorem PySem.W.Fast.tw5825060618765552765 : True := trivial
theorem PySem.W.Fast.tw5563378457026813869 : True := trivial
theorem PySem.W.Fast.tw853312442746542323 : True := trivial
theorem PySem.W.Fast.tw11836823643939421318 : True := trivial
theorem PySem.W.Fast.tw11556804561355654707 : True := trivial
theorem PySem.W.Fast.tw808678703493710982 : True := trivial
theorem PySem.W.Fast.tw3542865881559410210 : True := trivial
theorem PySem.W.Fast.tw6901822301911859355 : True := trivial
theorem PySem.W.Fast.tw10895880037050211186 : True := trivial
theorem PySem.W.Fast.tw12895682639749121354 : True := trivial
theorem PySem.W.Fast.tw4622641515216586043 : True := trivial
theorem PySem.W.Fast.tw13675273746051464836 : True := trivial
theorem PySem.W.Fast.tw14517116947203321830 : True := trivial
theorem PySem.W.Fast.tw14715914343831407207 : True := trivial
theorem PySem.W.Fast.tw16969976614073574091 : True := trivial
theorem PySem.W.Fast.tw15730705109495047966 : True := trivial
theorem PySem.W.Fast.tw5281278517213397368 : True := trivial
theorem PySem.W.Fast.tw15647197085840275736 : True := trivial
theorem PySem.W.Fast.tw12276661182741482181 : True := trivial
theorem PySem.W.Fast.tw1060925022414338220 : True := trivial
theorem PySem.W.Fast.tw15421505787218198250 : True := trivial
theorem PySem.W.Fast.tw5702618238331337860 : True := trivial
theorem PySem.W.Fast.tw5491798205639629506 : True := trivial
theorem PySem.W.Fast.tw11224127847574300386 : True := trivial
theorem PySem.W.Fast.tw2603664268926922248 : True := trivial
theorem PySem.W.Fast.tw13012340441166712033 : True := trivial
theorem PySem.W.Fast.tw16742412079736129521 : True := trivial
theorem PySem.W.Fast.tw11041118133952885322 : True := trivial
theorem PySem.W.Fast.tw13368983038800813818 : True := trivial
theorem PySem.W.Fast.tw4950856238747231520 : True := trivial
theorem PySem.W.Fast.tw9058627247074324453 : True := trivial
theorem PySem.W.Fast.tw14851074192912072048 : True := trivial
theorem PySem.W.Fast.tw12581327537514563385 : True := trivial
theorem PySem.W.Fast.tw7459196120590412359 : True := trivial
theorem PySem.W.Fast.tw3541407127308900139 : True := trivial
open PySem PySem.W PyProof.Rows
set_option maxRecDepth 100000 in
set_option maxHeartbeats 0 in
theorem PySem.Challenge.cw_fewdistances_k80_lots_of_two_fars_holds : PySem.Challenge.rw_fewdistances_k80_lots_of_two_fars.Holds := by
 w_on;o_law;k_head;(case hw=>w_witness2)
 k_fill
 refine _D.DC (l:=PySem.Challenge.rw_fewdistances_k80_lots_of_two_fars) (k:=8) (x:="_law_script") rfl rfl ⟨rfl,by decide,by decide,rfl⟩ (fun _=>by kernel_rfl) (fun w h Y=>PySem.W.km_in_of Y) ?F
 case F =>
  intro w mg fa h KX G hmg
  refine' _K.BP (_D.DB _K.bdf ?hp rfl KX G ?s ?z (_K.N4 ?q0 ?q1 ?q2 ?q3 ?q4 ?q5 ?q6 ?q7 ?q8 ?q9 ?q10 ?q11) (_K.N5 ?gi0 ?gi1 ?gi2) ?e1 ?e2 ?e3 ?e4 ?e5 ?e6) ?nd ?hT hmg
  (case s=>(repeat (refine' ⟨_D.SrcF.mk ?a ?l ?c ?k,?_⟩;(case a=>k_is);(case l=>k_is);(case c=>k_is);(case k=>k_is)));exact trivial)
  (case z=>rfl)
  (case q0=>k_is)
  (case q1=>k_is)
  (case q2=>k_is)
  (case q3=>k_is)
  (case q4=>k_is)
  (case q5=>k_is)
  (case q6=>k_is)
  (case q7=>k_is)
  (case q8=>k_is)
  (case q9=>k_is)
  (case q10=>k_is)
  (case q11=>k_is)
  (case gi0=>k_is)
  (case gi1=>k_is)
  (case gi2=>k_is)
  (case hp=>intro y hy;revert hy;simp;grind)
  (case e1=>rfl)
  (case e2=>rfl)
  (case e3=>rfl)
  (case e4=>rfl)
  (case e5=>rfl)
  (case e6=>rfl)
  (case nd=>decide)
  (case hT=>rfl)
