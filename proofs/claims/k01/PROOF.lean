import PyProof.Rows.All
import Wide.All
import OpenK.AllK
import Wide.FinOn
import Lean
import PyProof.EqAt
import PyProof.EqKinds
import PyProof.TupleCall
import PyProof.SetKind
import PyProof.TupleKey
import PyProof.Rows.SetFrom
import KE.KSortTup
import PyProof.NeKinds
import PyProof.ZipIter
import KE.KTryMore
import KE.KIsAll
import PyProof.Rows.CountFlat
import PyProof.Rows.FStr
import PyProof.EnumMake
import PyProof.EnumStmt
import KE.KDictLaws
import PyProof.DictWalks
import KE.KItemsList
import PyProof.SumWalkG
import PyProof.Rows.SumGenD
import PyProof.SeqI2
import PyProof.ReprRoads
import PyProof.ReprBulk
import PySem.Challenge.RW_fewdistances_k01_points_and_lots_looked
set_option Elab.async false
set_option linter.all false
set_option maxRecDepth 100000
set_option maxHeartbeats 0
set_option tactic.hygienic false
set_option bootstrap.genMatcherCode false
set_option genSizeOf false
set_option compiler.extract_closed false
theorem kd {p:Prop}[Decidable p](h:p:=by decide +kernel):p:=h
section
namespace _L
open PySem PySem.Spec PyProof.Rows
abbrev Key:=Sum Int Str
def eR:Key→Value→Bool
 |.inl k,v=>Value.isInt k v
 |.inr x,v=>Value.isStrOf x v
def AJ (w:World):Key→Int
 |.inl k=>hashInt k
 |.inr x=>hashStr w x
theorem y8:∀ {k:Key} {v:Value},eR k v=true→(∃ i t,k=Sum.inl i∧v=Value.int i t)∨(∃ x t,k=Sum.inr x∧v=Value.str x t)
 |.inl i,v,h=>by
  obtain⟨t,e⟩:=Value.isInt_shape (k:=i) (v:=v) h
  exact .inl ⟨i,t,rfl,e⟩
 |.inr x,v,h=>by
  obtain⟨t,e⟩:=Value.isStrOf_shape (x:=x) (v:=v) h
  exact .inr ⟨x,t,rfl,e⟩
theorem GS (i:Int)(t:Tok):eR (.inl i) (.int i t)=true:=by simp[eR,Value.isInt]
theorem GT (x:Str)(t:Tok):eR (.inr x) (.str x t)=true:=by simp[eR,Value.isStrOf]
theorem R5 (a b:Int):decide ((Sum.inl a:Key)=Sum.inl b)=(a == b):=by
 by_cases e:a=b
 ·subst e;simp
 ·have h:¬ (Sum.inl a:Key)=Sum.inl b:=fun q=>e (Sum.inl.inj q)
  rw[decide_eq_false h]
  exact(beq_eq_false_iff_ne.mpr e).symm
theorem R8 (a b:Str):decide ((Sum.inr a:Key)=Sum.inr b)=decide (a=b):=by
 by_cases e:a=b
 ·subst e;simp
 ·have h:¬ (Sum.inr a:Key)=Sum.inr b:=fun q=>e (Sum.inr.inj q)
  rw[decide_eq_false h,decide_eq_false e]
theorem R6 (a:Int)(b:Str):decide ((Sum.inl a:Key)=Sum.inr b)=false:=decide_eq_false (fun q=>nomatch q)
theorem R7 (a:Str)(b:Int):decide ((Sum.inr a:Key)=Sum.inl b)=false:=decide_eq_false (fun q=>nomatch q)
def yJ (prog:Program)(w:World):PySem.KeyKind prog w Key where
 is:=eR
 hash:=AJ w
 inj:=fun v a b ha hb=>by
  rcases y8 ha with⟨i,t,rfl,rfl⟩|⟨x,t,rfl,rfl⟩
  ·rcases y8 hb with⟨j,u,rfl,e⟩|⟨y,u,rfl,e⟩
   ·injection e with e1 _;rw[e1]
   ·exact nomatch e
  ·rcases y8 hb with⟨j,u,rfl,e⟩|⟨y,u,rfl,e⟩
   ·exact nomatch e
   ·injection e with e1 _;rw[e1]
 byValue:=fun k v h=>by
  rcases y8 h with⟨i,t,rfl,rfl⟩|⟨x,t,rfl,rfl⟩ <;> rfl
 pyHash:=fun hv h=>by
  rcases y8 hv with⟨i,t,rfl,rfl⟩|⟨x,t,rfl,rfl⟩
  ·exact wpAny_pyHash_int h
  ·exact wpAny_pyHash_str h
 eqBool:=fun hu hv h=>by
  rcases y8 hu with⟨i,t,rfl,rfl⟩|⟨x,t,rfl,rfl⟩
  ·rcases y8 hv with⟨j,u,rfl,rfl⟩|⟨y,u,rfl,rfl⟩
   ·rw[R5] at h;exact wpAny_eqBool_int h
   ·rw[R6] at h;exact SeqAt.EqAt.int_str i t y u _ _ _ _ h
  ·rcases y8 hv with⟨j,u,rfl,rfl⟩|⟨y,u,rfl,rfl⟩
   ·rw[R7] at h;exact SeqAt.EqAt.str_int x t j u _ _ _ _ h
   ·rw[R8] at h;exact wpAny_eqBool_str h
 «strs»:=fun k x t v h=>by
  rcases y8 h with⟨i,u,rfl,e⟩|⟨y,u,rfl,e⟩
  ·exact nomatch e
  ·injection e with e1 _
   subst e1
   cases v <;> rfl
theorem VW (prog:Program)(w:World)(i:Int)(t:Tok):(yJ prog w).is (.inl i) (.int i t)=true:=GS i t
theorem VX (prog:Program)(w:World)(x:Str)(t:Tok):(yJ prog w).is (.inr x) (.str x t)=true:=GT x t
end _L
namespace _L
open PySem PySem.Spec PyProof.Rows
inductive V where
 |non|bl (b:Bool)|int (i:Int)|str (x:Str)|byt (b:Array UInt8)|flt (b:UInt64)|ref (a:Addr)|ty (n:String)
 deriving DecidableEq
def qO:V→Value→Prop
 |.non,u=>u=Value.none
 |.bl b,u=>u=Value.bool b
 |.int i,u=>∃ t,u=Value.int i t
 |.str x,u=>∃ t,u=Value.str x t
 |.byt b,u=>∃ t,u=Value.bytes b t
 |.flt b,u=>∃ t,u=Value.float b t
 |.ref a,u=>u=Value.ref a
 |.ty n,u=>u=Value.type n
abbrev qQ:List V→List Value→Prop:=Paired qO
theorem qQ.length {xs:List V}{us:List Value}(r:qQ xs us):xs.length=us.length:=Paired.length r
theorem qQ.get:∀ {xs:List V} {us:List Value} {i:Nat} {x:V},qQ xs us→xs[i]? = some x→∃ u,us[i]? = some u∧qO x u
 |_,_,_,_,.nil,e=>by simp at e
 |_,_,0,_,.cons r _,e=>by simp at e;subst e;exact⟨_,rfl,r⟩
 |_,_,i+1,x,.cons _ t,e=>by
  obtain⟨u,h1,h2⟩:=qQ.get (i:=i) (x:=x) t (by simpa using e)
  exact⟨u,by simpa using h1,h2⟩
theorem qQ.set {x:V}{u:Value}(r:qO x u):∀ {xs:List V} {us:List Value} (i:Nat),qQ xs us→qQ (xs.set i x) (us.set i u)
 |_,_,_,.nil=>.nil
 |_,_,0,.cons _ t=>.cons r t
 |_,_,i+1,.cons q t=>.cons q (qQ.set r i t)
theorem qQ.append {xs ys:List V}{us ws:List Value}(h:qQ xs us)(s:qQ ys ws):qQ (xs++ys) (us++ws):=by
 induction h with
 |nil=>exact s
 |cons r t ih=>exact .cons r ih
theorem qQ.take:∀ {xs:List V} {us:List Value} (n:Nat),qQ xs us→qQ (xs.take n) (us.take n)
 |_,_,0,_=>.nil
 |_,_,_+1,.nil=>.nil
 |_,_,n+1,.cons r t=>.cons r (qQ.take n t)
theorem qQ.drop:∀ {xs:List V} {us:List Value} (n:Nat),qQ xs us→qQ (xs.drop n) (us.drop n)
 |_,_,0,r=>r
 |_,_,_+1,.nil=>.nil
 |_,_,n+1,.cons _ t=>qQ.drop n t
def oK:Option V→Option Value→Prop
 |some v,some u=>qO v u
 |none,none=>True
 |_,_=>False
def KV {κ : Type}:List (κ × V)→List (κ × Value)→Prop:=Paired fun (p:κ × V) (q:κ × Value)=>p.1=q.1∧qO p.2 q.2
def kV:Key→V
 |.inl i=>.int i
 |.inr x=>.str x
inductive HO where
  |lst (xs:List V)
  |tup (xs:List V)
  |dK (kvs:List (Key × V))|dT (kvs:List (List Key × V))
  |set (S:Int→Bool) (n:Nat)
  |ins (C dx:Addr) (fs:List (Str × V))
  |own (x:Addr)
  |xd (fs:List (Str × V))
  |met (f x:Addr)
  |rng (lo hi:Int)
  |frz (o:Obj) (u:HO)
  |tbl (ps:Array Value)
  |ext (φ : Heap→Prop)
abbrev Hp:=Addr→Option HO
def upd (H:Hp)(a:Addr)(o:HO):Hp:=fun b=>if b=a then some o else H b
theorem xR {H:Hp}{a:Addr}{o:HO}:upd H a o a=some o:=by unfold upd;rw[if_pos rfl]
theorem zI {H:Hp}{a b:Addr}{o:HO}(h:b≠a):upd H a o b=H b:=by unfold upd;rw[if_neg h]
theorem HZ {H:Hp}{a b:Addr}{o u:HO}(h:H a=some o)(h':H b=some u)(d:o≠u):a≠b:=by
 intro e;subst e;rw[h] at h';exact d (Option.some.inj h')
theorem xT {H:Hp}{a b:Addr}{o:HO}(h:H a=some o)(h':H b=none):a≠b:=by
 intro e;subst e;rw[h] at h';cases h'
section
variable (P:Program)(w:World)
def xG (H:Hp)(h:Heap)(a:Addr):HO→Prop
 |.lst xs=>xs.length≤sizeLine∧∃ (its:List Value) (n:Nat),qQ xs its∧h.get? a=some { cls:=.type "list",data:=.seq its.toArray n }
 |.tup xs=>xs.length≤sizeLine∧∃ its:List Value,qQ xs its∧IsTup h a its.toArray
 |.dK kvs=>kvs.length≤sizeLine∧(a == sysModules)=false∧∃ vs,KV kvs vs∧h.DictOf (yJ P w) a vs
 |.dT kvs=>kvs.length≤sizeLine∧(a == sysModules)=false∧∃ xs:List (List Key × Addr × Value),
   Paired (fun (p:List Key × V) (q:List Key × Addr × Value)=>p.1=q.1∧H q.2.1=some (.tup (p.1.map kV))∧qO p.2 q.2.2) kvs xs ∧
   ∃ o es ep,h.get? a=some o∧o.ExactDict∧o.data=.dict es ep∧es.toList=xs.map (entryOfKey (tupleKind (yJ P w)))∧(xs.map (·.1)).Nodup
 |.set S n=>h.SetOf (intKind P w) a S n
 |.ins C dx fs=>H dx=some (.own a)∧fs.length≤1000∧dx≠a∧h.get? a=some (PySem.W.instObj C dx) ∧
   ∃ mA,h.Ns1 dx mA∧(∀ f,oK (fs.lookup f) (mA f))∧PySem.Within mA (fs.map (·.1))
 |.own _=>∃ o,h.get? a=some o
 |.xd fs=>∃ mA,h.Ns1 a mA∧∀ f,oK (fs.lookup f) (mA f)
 |.rng lo hi=>∃ t u v,h.get? a=some { cls:=.type "range",data:=.fields #[.int lo t,.int hi u,.int 1 v] }
 |.frz o u=>h.get? a=some o∧xG H h a u
 |.tbl ps=>h.get? a=some { cls:=.none,data:=.fields ps }
 |.met f x=>h.get? a=some (PySem.W.methodObj (.ref f) (.ref x))
 |.ext φ => φ h∧(∃ o,h.get? a=some o)∧∀ h1 h2:Heap,φ h1→(∀ o,h1.get? a=some o→h2.get? a=some o)→φ h2
def HOk (H:Hp)(h:Heap):Prop:=∀ a o,H a=some o→xG P w H h a o
end
section
variable {P:Program}{w:World}{H H':Hp}{h h':Heap}{a:Addr}{o:HO}
theorem xG.lt (x:xG P w H h a o):a<h.objs.size:=by
 cases o with
 |lst xs=>obtain⟨_,_,_,_,e⟩:=x;exact Heap.lt_size e
 |tup xs=>obtain⟨_,_,_,p⟩:=x;exact p.lt
 |dK kvs=>obtain⟨_,_,_,_,o,_,_,e,_⟩:=x;exact Heap.lt_size e
 |dT kvs=>obtain⟨_,_,_,_,o,_,_,e,_⟩:=x;exact Heap.lt_size e
 |set S n=>obtain⟨o,_,_,_,e,_⟩:=x;exact Heap.lt_size e
 |ins C dx fs=>obtain⟨_,_,_,e,_⟩:=x;exact Heap.lt_size e
 |own y=>obtain⟨_,e⟩:=x;exact Heap.lt_size e
 |xd fs=>obtain⟨_,⟨_,_,_,e,_⟩,_⟩:=x;exact Heap.lt_size e
 |rng lo hi=>obtain⟨_,_,_,e⟩:=x;exact Heap.lt_size e
 |frz ob u=>obtain⟨e,_⟩:=x;exact Heap.lt_size e
 |tbl ps=>exact Heap.lt_size (show h.get? a=some _ from x)
 |met f y=>exact Heap.lt_size (show h.get? a=some _ from x)
 |ext φ => obtain⟨_,⟨_,e⟩,_⟩:=x;exact Heap.lt_size e
theorem Paired.mapP {α β:Type}{F G:α→β→Prop}{l₁:List α}{l₂:List β}(h:Paired F l₁ l₂)(f:∀ a b,F a b→G a b):Paired G l₁ l₂:=by
 induction h with
 |nil=>exact .nil
 |cons r t ih=>exact .cons (f _ _ r) ih
theorem xG.stay (x:xG P w H h a o)(k:∀ b u,(b=a∨H b=some (.own a))→h.get? b=some u→h'.get? b=some u)
  (ho:∀ b,H b=some (.own a)→H' b=some (.own a)) (ht:∀ b xs,H b=some (.tup xs)→H' b=some (.tup xs)):xG P w H' h' a o:=by
 induction o with
 |lst xs=>obtain⟨z,its,n,r,e⟩:=x;exact⟨z,its,n,r,k _ _ (.inl rfl) e⟩
 |tup xs=>obtain⟨z,its,r,ob,e,c⟩:=x;exact⟨z,its,r,ob,k _ _ (.inl rfl) e,c⟩
 |dK kvs=>obtain⟨z,y,vs,r,ob,es,ep,e,c⟩:=x;exact⟨z,y,vs,r,ob,es,ep,k _ _ (.inl rfl) e,c⟩
 |dT kvs =>
  obtain⟨z,y,xs,r,ob,es,ep,e,c⟩:=x
  exact⟨z,y,xs,Paired.mapP r fun p q z=>⟨z.1,ht _ _ z.2.1,z.2.2⟩,ob,es,ep,k _ _ (.inl rfl) e,c⟩
 |set S n=>obtain⟨ob,es,ep,t,e,c⟩:=x;exact⟨ob,es,ep,t,k _ _ (.inl rfl) e,c⟩
 |ins C dx fs =>
  obtain⟨d,z,ne,e,mA,⟨od,es,ep,e2,c⟩,r⟩:=x
  exact⟨ho _ d,z,ne,k _ _ (.inl rfl) e,mA,⟨od,es,ep,k _ _ (.inr d) e2,c⟩,r⟩
 |own y=>obtain⟨ob,e⟩:=x;exact⟨ob,k _ _ (.inl rfl) e⟩
 |xd fs=>obtain⟨mA,⟨od,es,ep,e,c⟩,r⟩:=x;exact⟨mA,⟨od,es,ep,k _ _ (.inl rfl) e,c⟩,r⟩
 |rng lo hi=>obtain⟨t,u,v,e⟩:=x;exact⟨t,u,v,k _ _ (.inl rfl) e⟩
 |frz ob u ih=>obtain⟨e,q⟩:=x;exact⟨k _ _ (.inl rfl) e,ih q⟩
 |tbl ps =>
  have e:h.get? a=some { cls:=.none,data:=.fields ps }:=x
  show h'.get? a=some { cls:=.none,data:=.fields ps }
  exact k a _ (.inl rfl) e
 |met f y =>
  have e:h.get? a=some (PySem.W.methodObj (.ref f) (.ref y)):=x
  show h'.get? a=some (PySem.W.methodObj (.ref f) (.ref y))
  exact k a _ (.inl rfl) e
 |ext φ => obtain⟨p,⟨o,e⟩,st⟩:=x;exact⟨st _ _ p fun o q=>k _ _ (.inl rfl) q,⟨o,k _ _ (.inl rfl) e⟩,st⟩
theorem HOk.lt (x:HOk P w H h)(e:H a=some o):a<h.objs.size:=(x a o e).lt
theorem HOk.fresh (x:HOk P w H h)(e:h.objs.size≤a):H a=none:=by
 cases q:H a with
 |none=>rfl
 |some u=>exact absurd (Nat.lt_of_lt_of_le (x.lt q) e) (Nat.lt_irrefl _)
theorem HOk.kept (x:HOk P w H h)(k:∀ b u,h.get? b=some u→h'.get? b=some u):HOk P w H h':=fun a o e =>
 (x a o e).stay (fun b u _ q=>k b u q) (fun _ q=>q) fun _ _ q=>q
theorem HOk.laid (x:HOk P w H h)(k:∀ b u,h.get? b=some u→h'.get? b=some u)(hp:h.objs.size≤a)(new:xG P w (upd H a o) h' a o):HOk P w (upd H a o) h':=fun b u e=>by
 have hn:=x.fresh hp
 by_cases hb:b=a
 ·subst hb;rw[xR] at e;cases e;exact new
 ·rw[zI hb] at e
  exact(x b u e).stay (fun c v _ q=>k c v q) (fun c q=>by rw[zI (xT q hn)];exact q) fun c xs q=>by rw[zI (xT q hn)];exact q
end
def Rd (H:Hp)(a:Addr)(u:HO):Prop:=H a=some u∨∃ o,H a=some (.frz o u)
theorem Rd.of {H:Hp}{a:Addr}{u:HO}(h:H a=some u):Rd H a u:=.inl h
theorem Rd.ok {P:Program}{w:World}{H:Hp}{h:Heap}{a:Addr}{u:HO}(r:Rd H a u)(x:HOk P w H h):xG P w H h a u:=by
 rcases r with r|⟨o,r⟩
 ·exact x a u r
 ·obtain⟨_,q⟩:=x a _ r
  exact q
def Mut:Option HO→Prop
 |some (.lst _)=>True
 |some (.dK _)=>True
 |some (.dT _)=>True
 |some (.set _ _)=>True
 |some (.ins _ _ _)=>True
 |some (.ext _)=>True
 |_=>False
section
variable {P:Program}{w:World}{H:Hp}{h h':Heap}{x e:Addr}{o':HO}
theorem HOk.write (ok:HOk P w H h)(mu:Mut (H x))(he:e=x∨H e=some (.own x))(k:∀ b u,b≠e→h.get? b=some u→h'.get? b=some u)(heo:∃ u,h'.get? e=some u)
  (new:xG P w (upd H x o') h' x o'):HOk P w (upd H x o') h':=fun b u q=>by
 have nown:∀ c y,H c=some (.own y)→c≠x:=fun c y r z=>by subst z;rw[r] at mu;exact mu
 have ntup:∀ c xs,H c=some (.tup xs)→c≠x:=fun c xs r z=>by subst z;rw[r] at mu;exact mu
 by_cases hb:b=x
 ·subst hb;rw[xR] at q;cases q;exact new
 ·rw[zI hb] at q
  by_cases hbe:b=e
  ·have q':H b=some (.own x):=by
    rcases he with z|z
    ·exact absurd (hbe.trans z) hb
    ·rw[hbe];exact z
   rw[q] at q';cases q'
   obtain⟨v,hv⟩:=heo
   exact⟨v,by rw[hbe];exact hv⟩
  ·refine(ok b u q).stay (fun c v hc r=>k c v ?_ r) (fun c r=>by rw[zI (nown c b r)];exact r) fun c xs r=>by rw[zI (ntup c xs r)];exact r
   rcases hc with rfl|hc
   ·exact hbe
   ·rintro rfl
    rcases he with z|z
    ·exact nown c b hc z
    ·rw[hc] at z;cases z;exact hb rfl
end
structure Un (fs ex:List Addr)(H H':Hp)(h h':Heap):Prop where
 keep:∀ b o,h.get? b=some o→H b=none→b ∉ fs→b ∉ ex→h'.get? b=some o
 slot:∀ b o,h.get? b=some o→H b=none→b∈fs→b ∉ ex→∃ sl,h'.get? b=some { o with slots:=sl }
 free:∀ b o,h.get? b=some o→H b=none→b ∉ ex→H' b=none
 there:∀ b o,h.get? b=some o→b ∉ ex→∃ o',h'.get? b=some o'
 tups:∀ b xs,H b=some (.tup xs)→H' b=some (.tup xs)
 frzs:∀ b o u,H b=some (.frz o u)→H' b=some (.frz o u)
 tbls:∀ b ps,H b=some (.tbl ps)→∃ more,H' b=some (.tbl (ps++more))
section
variable {fs fs' ex ex':List Addr}{H H1 H2:Hp}{h h1 h2 h':Heap}{a x e:Addr}{o:HO}
theorem Un.any (u:Un fs ex H H1 h h1){b:Addr}{ob:Obj}(q:h.get? b=some ob)(n:H b=none)(hx:b ∉ ex):∃ sl,h1.get? b=some { ob with slots:=sl }:=by
 by_cases hb:b∈fs
 ·exact u.slot b ob q n hb hx
 ·exact⟨ob.slots,u.keep b ob q n hb hx⟩
theorem Un.kept (k:∀ b u,h.get? b=some u→h'.get? b=some u):Un fs ex H H h h':=
 ⟨fun b ob q _ _ _=>k b ob q,fun b ob q _ _ _=>⟨ob.slots,k b ob q⟩,fun _ _ _ n _=>n,fun b ob q _=>⟨ob,k b ob q⟩,fun _ _ q=>q,fun _ _ _ q=>q,fun _ ps q=>⟨#[],by rw[q];simp⟩⟩
theorem Un.refl:Un fs ex H H h h:=Un.kept fun _ _ q=>q
theorem Un.laid (k:∀ b u,h.get? b=some u→h'.get? b=some u)(hp:h.objs.size≤a)(hn:H a=none):Un fs ex H (upd H a o) h h' where
 keep:=fun b u q _ _ _=>k b u q
 slot:=fun b u q _ _ _=>⟨u.slots,k b u q⟩
 free:=fun b u q n _=>by rw[zI (Nat.ne_of_lt (Nat.lt_of_lt_of_le (Heap.lt_size q) hp))];exact n
 there:=fun b u q _=>⟨u,k b u q⟩
 tups:=fun b xs q=>by rw[zI (xT q hn)];exact q
 frzs:=fun b u xs q=>by rw[zI (xT q hn)];exact q
 tbls:=fun b ps q=>⟨#[],by rw[zI (xT q hn),q];simp⟩
theorem Un.write (mu:Mut (H x))(he:e=x∨H e=some (.own x))(k:∀ b u,b≠e→h.get? b=some u→h'.get? b=some u)(heo:∃ u,h'.get? e=some u):Un fs ex H (upd H x o) h h':=by
 have hx:∀ b,H b=none→b≠x:=fun b n z=>by subst z;rw[n] at mu;exact mu
 have hb:∀ b,H b=none→b≠e:=fun b n z=>by
  subst z
  rcases he with r|r
  ·exact hx b n r
  ·rw[n] at r;cases r
 have hm:∀ b u,H b=some u→¬ Mut (some u)→b≠x:=fun b u q nm z=>by subst z;rw[q] at mu;exact nm mu
 refine⟨fun b u q n _ _=>k b u (hb b n) q,fun b u q n _ _=>⟨u.slots,k b u (hb b n) q⟩,fun b u q n _=>by rw[zI (hx b n)];exact n,fun b u q _=>?_,
  fun b xs q=>by rw[zI (hm b _ q fun z=>z)];exact q,fun b u xs q=>by rw[zI (hm b _ q fun z=>z)];exact q,fun b ps q=>⟨#[],by rw[zI (hm b _ q fun z=>z),q];simp⟩⟩
 by_cases hbe:b=e
 ·subst hbe;exact heo
 ·exact⟨u,k b u hbe q⟩
end
def trk (h:Heap)(H:Hp):List Addr:=(List.range h.objs.size).filter fun a=>(H a).isSome
def d9 (h:Heap)(H:Hp):Heap:=PySem.W.hideAll h (trk h H)
theorem GL (h:Heap)(H:Hp):(d9 h H).objs.size=h.objs.size:=PySem.W.hideAll_size _ _
theorem FI {h:Heap}{H:Hp}{b:Addr}{o:Obj}(e:h.get? b=some o)(n:H b=none):(d9 h H).get? b=some o:=
 PySem.W.hideAll_get _ e fun hm=>by
  have q:(H b).isSome=true:=(List.mem_filter.mp hm).2
  rw[n] at q;simp at q
theorem L7 {h:Heap}{H:Hp}{b:Addr}{o:Obj}(e:(d9 h H).get? b=some o):h.get? b=some o∧H b=none:=by
 have e':h.get? b=some o:=PySem.W.of_hideAll (trk h H) e
 refine⟨e',?_⟩
 cases q:H b with
 |none=>rfl
 |some x =>
  have hm:b∈trk h H:=List.mem_filter.mpr ⟨List.mem_range.mpr (Heap.lt_size e'),by simp[q]⟩
  have z:(d9 h H).get? b=none:=PySem.W.hideAll_none (trk h H) hm
  rw[z] at e;cases e
end _L
namespace _L
open PySem PySem.Spec PyProof.Rows
structure Mod (K:PySem.W.Frag)(mg:Str→Option Value)(base:Heap):Prop where
 kin:K.In base
 glob:base.Ns mainGlobals mg
 blt:∃ mb,base.Ns builtinsNs mb∧∀ x:Str,x ≠ "__name__" → mb x=bootBuiltins x
 nolimit:base.NoLimit
structure Cx where
 prog:Program
 w:World
 K:PySem.W.Frag
 mg:Str→Option Value
 base:Heap
 A:Around
 N:List Str
 s₀:Shared
 H₀:Hp
 env:Env
 outer:List Env
 stack:List Env
 ex:List Addr
 fn:Str→Bool
 calm:Bool
 pn:List (Addr × Obj)
 xe:Value→Shared→Prop
def frs (l:List Env):List Addr:=l.filterMap (·.frame)
abbrev Cx.fs (X:Cx):List Addr:=frs X.outer
def Vis (sc:Scope)(x:Str):Prop:=sc.names.lookup x=some .local ∨ sc.names.lookup x=some .cell∨sc.names.lookup x=some .free
def Loc (sc:Scope)(x:Str):Prop:=sc.names.lookup x=some .local ∨ sc.names.lookup x=some .cell
def A2 (env:Env)(h:Heap)(m:Str→Option Value)(x:Str)(u:Value):Prop:=
 (env.kindOf x=some .local ∧ m x=some u)∨((env.kindOf x=some .cell∨env.kindOf x=some .free)∧∃ c,env.cells.lookup x=some c∧h.IsCell c (some u))
structure Cx.Ok (X:Cx):Prop where
 mod:Mod X.K X.mg X.base
 kind:X.env.scope.kind=.function
 glob:X.env.globals=mainGlobals
 blt:X.env.builtins=builtinsNs
 above:X.s₀.heap.objs.size≤X.env.locals
 inj:∀ x y c,X.env.cells.lookup x=some c→X.env.cells.lookup y=some c→x=y
 has:∀ x,(X.env.kindOf x=some .cell∨X.env.kindOf x=some .free)→∃ c,X.env.cells.lookup x=some c
 cab:∀ x c,X.fn x=true→X.env.cells.lookup x=some c→X.s₀.heap.objs.size≤c
 hd:X.calm=true→X.A.handled=none
 frames:X.A.frames=some X.stack
 stk:X.stack=X.outer∨(X.stack=X.env::X.outer∧X.env.frame=some X.env.locals)
 exf:∀ b∈X.ex,b≠X.env.locals∧∀ x c,X.env.cells.lookup x=some c→c≠b
 bs:∀ b o,X.base.get? b=some o→X.s₀.heap.get? b=some o∧X.H₀ b=none
 bsz:X.base.objs.size≤X.s₀.heap.objs.size
 noex:∀ b o,X.base.get? b=some o→b ∉ X.ex
 exfs:∀ b∈X.ex,b ∉ X.fs
 funs:X.s₀.heap.FunFrames X.base X.outer
 frf:∀ b∈X.fs,X.H₀ b=none
structure Inv (X:Cx)(pins:List (Addr × Obj))(σ : List (Option V))(H:Hp)(s:Shared):Prop where
 ok:X.Ok
 os:s.os=X.s₀.os
 bare:AllBare s.gens
 base:Un X.fs X.ex X.H₀ H X.s₀.heap s.heap
 loc:∃ m,s.heap.Ns X.env.locals m∧∀ (i:Nat) (x:Str) (v:V),X.N[i]? = some x→σ[i]? = some (some v)→Vis X.env.scope x→∃ u,qO v u∧A2 X.env s.heap m x u
 cell:∀ x c,X.env.cells.lookup x=some c→∃ v,s.heap.IsCell c v
 free:H X.env.locals=none
 freeC:∀ x c,X.env.cells.lookup x=some c→H c=none
 pin:∀ p∈X.pn++pins,s.heap.get? p.1=some p.2∧H p.1=none∧p.1≠X.env.locals∧p.1 ∉ X.fs∧∀ v,p.2.data≠.cell v
 hok:HOk X.prog X.w H s.heap
 len:σ.length=X.N.length
section
variable {X:Cx}{pins:List (Addr × Obj)}{σ : List (Option V)}{H H':Hp}{s:Shared}{h':Heap}
theorem Cx.Ok.nofr (ok:X.Ok){b:Addr}{o:Obj}(e:X.base.get? b=some o):b ∉ X.fs:=fun hb=>by
 have:=(ok.funs.mem hb).1
 rw[e] at this;cases this
theorem Inv.bs (I:Inv X pins σ H s):∀ b o,X.base.get? b=some o→s.heap.get? b=some o∧H b=none:=fun b o e =>
 ⟨I.base.keep b o (I.ok.bs b o e).1 (I.ok.bs b o e).2 (I.ok.nofr e) (I.ok.noex b o e),I.base.free b o (I.ok.bs b o e).1 (I.ok.bs b o e).2 (I.ok.noex b o e)⟩
theorem Inv.bk (I:Inv X pins σ H s):∀ b o,X.base.get? b=some o→s.heap.get? b=some o:=fun b o e=>(I.bs b o e).1
theorem Inv.mod (I:Inv X pins σ H s):Mod X.K X.mg X.base:=I.ok.mod
theorem Inv.kIn (I:Inv X pins σ H s):X.K.In s.heap:=I.ok.mod.kin.keeps I.bk
theorem Inv.nolimit (I:Inv X pins σ H s):s.heap.NoLimit:=I.ok.mod.nolimit.keeps I.bk
theorem Inv.lt (I:Inv X pins σ H s):X.env.locals<s.heap.objs.size:=let ⟨_,hn,_⟩:=I.loc;hn.lt
theorem Inv.sz (I:Inv X pins σ H s):X.s₀.heap.objs.size≤s.heap.objs.size:=Nat.le_trans I.ok.above (Nat.le_of_lt I.lt)
theorem Inv.nofs (I:Inv X pins σ H s){a:Addr}(h:s.heap.objs.size≤a):a ∉ X.fs:=fun hb=>by
 obtain⟨_,o,ho,_⟩:=I.ok.funs.mem hb
 exact absurd (Nat.lt_of_lt_of_le (Heap.lt_size ho) (Nat.le_trans I.sz h)) (Nat.lt_irrefl _)
theorem Inv.cne (I:Inv X pins σ H s):∀ x c,X.env.cells.lookup x=some c→c≠X.env.locals:=fun x c e z=>by
 obtain⟨v,o,ho,hd⟩:=I.cell x c e
 obtain⟨m,⟨o',es,ep,ho',hd',_⟩,_⟩:=I.loc
 rw[z,ho'] at ho;cases ho;rw[hd'] at hd;cases hd
theorem Inv.funs (I:Inv X pins σ H s):s.heap.FunFrames X.base X.outer:=by
 have all:∀ (l:List Env),(∀ b∈frs l,b∈X.fs)→X.s₀.heap.FunFrames X.base l→s.heap.FunFrames X.base l:=by
  intro l
  induction l with
  |nil=>intro _ _;trivial
  |cons env r ih =>
   intro hs hl
   obtain⟨hk,⟨L,o,hf,hn,ho,hd⟩,hr⟩:=hl
   have hL:L∈X.fs:=hs L (by unfold frs;rw[List.filterMap_cons,hf];exact List.mem_cons_self)
   obtain⟨sl,e⟩:=I.base.slot L o ho (I.ok.frf L hL) hL fun z=>I.ok.exfs L z hL
   exact⟨hk,⟨L,_,hf,hn,e,hd⟩,ih (fun b hb=>hs b (by unfold frs;rw[List.filterMap_cons,hf];exact List.mem_cons_of_mem _ hb)) hr⟩
 exact all X.outer (fun _ hb=>hb) I.ok.funs
theorem Inv.stack (I:Inv X pins σ H s):s.heap.FunFrames X.base X.stack:=by
 rcases I.ok.stk with e|⟨e,hf⟩
 ·rw[e];exact I.funs
 ·rw[e]
  obtain⟨m,hn,_⟩:=I.loc
  refine .cons (by rw[I.ok.kind];decide) hf hn ?_ I.funs
  exact Heap.get?_none_of_le (Nat.le_trans I.ok.bsz I.ok.above)
theorem Inv.stkSub (I:Inv X pins σ H s):∀ b∈frs X.stack,b∈X.env.locals::X.fs:=fun b hb=>by
 rcases I.ok.stk with e|⟨e,hf⟩
 ·rw[e] at hb;exact List.mem_cons_of_mem _ hb
 ·rw[e] at hb
  unfold frs at hb
  rw[List.filterMap_cons,hf] at hb
  exact hb
theorem Inv.stkFree (I:Inv X pins σ H s):∀ b∈frs X.stack,H b=none:=fun b hb=>by
 rcases List.mem_cons.mp (I.stkSub b hb) with e|hb
 ·rw[e];exact I.free
 ·obtain⟨_,o,ho,_⟩:=I.ok.funs.mem hb
  exact I.base.free b o ho (I.ok.frf b hb) fun z=>I.ok.exfs b z hb
theorem Inv.step {g':Array GenState}{t':Nat}{d':Drawn}{ch:List Addr}(I:Inv X pins σ H s)
  (hch:∀ b∈ch,(b∈X.ex∨X.s₀.heap.objs.size≤b)∧b≠X.env.locals∧(∀ x c,X.env.cells.lookup x=some c→c≠b)∧∀ p∈X.pn++pins,p.1≠b)
  (keep:∀ b o,b≠X.env.locals→b ∉ X.fs→b ∉ ch→s.heap.get? b=some o→H b=none→h'.get? b=some o)
  (slot:∀ b o,b≠X.env.locals→b∈X.fs→b ∉ ch→s.heap.get? b=some o→H b=none→∃ sl,h'.get? b=some { o with slots:=sl }) (free:∀ b o,b ∉ ch→s.heap.get? b=some o→H b=none→H' b=none)
  (there:∀ b o,b ∉ ch→s.heap.get? b=some o→∃ o',h'.get? b=some o')
  (tups:∀ b xs,H b=some (.tup xs)→H' b=some (.tup xs)) (frzs:∀ b o u,H b=some (.frz o u)→H' b=some (.frz o u)) (tbls:∀ b ps,H b=some (.tbl ps)→∃ more,H' b=some (.tbl (ps++more)))
  (ns:∀ m,s.heap.Ns X.env.locals m→h'.Ns X.env.locals m) (hok:HOk X.prog X.w H' h') (hg:AllBare g') :
  Inv X pins σ H' { s with heap:=h',gens:=g',drawn:=d',toks:=t' }:=by
 have neL:∀ b o,X.s₀.heap.get? b=some o→b≠X.env.locals:=fun b o e=>Nat.ne_of_lt (Nat.lt_of_lt_of_le (Heap.lt_size e) I.ok.above)
 have neC:∀ b o,X.s₀.heap.get? b=some o→b ∉ X.ex→b ∉ ch:=fun b o e hx hb=>by
  rcases (hch b hb).1 with z|z
  ·exact hx z
  ·exact absurd (Nat.lt_of_lt_of_le (Heap.lt_size e) z) (Nat.lt_irrefl _)
 have cellK:∀ x c,X.env.cells.lookup x=some c→∀ v,s.heap.IsCell c v→h'.IsCell c v:=fun x c e v ⟨o,ho,hd⟩=>by
  have nch:c ∉ ch:=fun z=>(hch c z).2.2.1 x c e rfl
  by_cases hc:c∈X.fs
  ·obtain⟨sl,q⟩:=slot c o (I.cne x c e) hc nch ho (I.freeC x c e)
   exact⟨_,q,hd⟩
  ·exact⟨o,keep c o (I.cne x c e) hc nch ho (I.freeC x c e),hd⟩
 refine⟨I.ok,I.os,hg,⟨fun b o e n hb hx=>?_,fun b o e n hb hx=>?_,fun b o e n hx=>?_,fun b o e hx=>?_,fun b xs e=>tups b xs (I.base.tups b xs e),fun b o xs e=>frzs b o xs (I.base.frzs b o xs e),fun b ps e=>?_⟩,?_,fun x c e=>?_,?_,fun x c e=>?_,fun p hp=>?_,hok,I.len⟩
 ·exact keep b o (neL b o e) hb (neC b o e hx) (I.base.keep b o e n hb hx) (I.base.free b o e n hx)
 ·obtain⟨sl,e1⟩:=I.base.slot b o e n hb hx
  obtain⟨sl',e2⟩:=slot b _ (neL b o e) hb (neC b o e hx) e1 (I.base.free b o e n hx)
  exact⟨sl',e2⟩
 ·obtain⟨o',e1⟩:=I.base.there b o e hx
  exact free b o' (neC b o e hx) e1 (I.base.free b o e n hx)
 ·obtain⟨o',e1⟩:=I.base.there b o e hx
  exact there b o' (neC b o e hx) e1
 ·obtain⟨m1,e1⟩:=I.base.tbls b ps e
  obtain⟨m2,e2⟩:=tbls b _ e1
  exact⟨m1++m2,by rw[e2,Array.append_assoc]⟩
 ·obtain⟨m,hn,hl⟩:=I.loc
  refine⟨m,ns m hn,fun i x v e1 e2 e3=>?_⟩
  obtain⟨u,r,l⟩:=hl i x v e1 e2 e3
  refine⟨u,r,?_⟩
  rcases l with l|⟨k,c,e,z⟩
  ·exact .inl l
  ·exact .inr ⟨k,c,e,cellK x c e _ z⟩
 ·obtain⟨v,z⟩:=I.cell x c e
  exact⟨v,cellK x c e v z⟩
 ·obtain⟨m,⟨o,_,_,ho,_⟩,_⟩:=I.loc
  exact free _ o (fun z=>(hch _ z).2.1 rfl) ho I.free
 ·obtain⟨v,o,ho,hd⟩:=I.cell x c e
  exact free c o (fun z=>(hch c z).2.2.1 x c e rfl) ho (I.freeC x c e)
 ·obtain⟨e,n,ne,nf,d⟩:=I.pin p hp
  have nch:p.1 ∉ ch:=fun z=>(hch p.1 z).2.2.2 p hp rfl
  exact⟨keep p.1 p.2 ne nf nch e n,free p.1 p.2 nch e n,ne,nf,d⟩
theorem Inv.un {t':Nat}(I:Inv X pins σ H s)(u:Un X.fs [] H H' s.heap h')(hok:HOk X.prog X.w H' h'):Inv X pins σ H' { s with heap:=h',toks:=t' }:=by
 obtain⟨m,⟨o,es,ep,ho,r⟩,_⟩:=id I.loc
 obtain⟨sl,hL⟩:=u.any ho I.free (by simp)
 exact I.step (g':=s.gens) (d':=s.drawn) (ch:=[]) (fun _ z=>nomatch z) (fun b o _ hb _ e n=>u.keep b o e n hb (by simp)) (fun b o _ hb _ e n=>u.slot b o e n hb (by simp)) (fun b o _ e n=>u.free b o e n (by simp)) (fun b o _ e=>u.there b o e (by simp)) u.tups u.frzs u.tbls (fun m' hm=>by
  obtain⟨o',es',ep',ho',r'⟩:=hm
  rw[ho] at ho';cases ho'
  exact⟨_,es',ep',hL,r'⟩) hok I.bare
theorem Inv.call {g':Array GenState}{t':Nat}{d':Drawn}{ch:List Addr}(I:Inv X pins σ H s)(u:Un (frs X.stack) ch H H' s.heap h')(hok:HOk X.prog X.w H' h')(hg:AllBare g')
  (hch:∀ b∈ch,(b∈X.ex∨X.s₀.heap.objs.size≤b)∧b≠X.env.locals∧(∀ x c,X.env.cells.lookup x=some c→c≠b)∧∀ p∈X.pn++pins,p.1≠b) :
  Inv X pins σ H' { s with heap:=h',gens:=g',drawn:=d',toks:=t' }:=by
 obtain⟨m,⟨o,es,ep,ho,r⟩,_⟩:=id I.loc
 obtain⟨sl,hL⟩:=u.any ho I.free fun z=>(hch _ z).2.1 rfl
 exact I.step (ch:=ch) hch (fun b o hL hb hc e n=>u.keep b o e n (fun z=>(List.mem_cons.mp (I.stkSub b z)).elim hL hb) hc) (fun b o _ _ hc e n=>u.any e n hc) (fun b o hc e n=>u.free b o e n hc) (fun b o hc e=>u.there b o e hc) u.tups u.frzs u.tbls (fun m' hm=>by
  obtain⟨o',es',ep',ho',r'⟩:=hm
  rw[ho] at ho';cases ho'
  exact⟨_,es',ep',hL,r'⟩) hok hg
theorem Inv.turned {t':Nat}{it:Addr}(I:Inv X pins σ H s)(k:∀ b o,b≠it→s.heap.get? b=some o→h'.get? b=some o)(hn:H it=none)(hL:it≠X.env.locals)
  (h1:it∈X.ex∨X.s₀.heap.objs.size≤it) (h2:∀ x c,X.env.cells.lookup x=some c→c≠it) (h3:∀ p∈X.pn++pins,p.1≠it):Inv X pins σ H { s with heap:=h',toks:=t' }:=by
 have nit:∀ b u,H b=some u→b≠it:=fun b u e z=>by rw[z,hn] at e;cases e
 refine I.step (g':=s.gens) (d':=s.drawn) (ch:=[it]) (fun b hb=>?_) (fun b o _ _ hc e _=>k b o (fun z=>hc (by simp[z])) e) (fun b o _ _ hc e _=>⟨o.slots,k b o (fun z=>hc (by simp[z])) e⟩) (fun _ _ _ _ n=>n)
  (fun b o hc e=>⟨o,k b o (fun z=>hc (by simp[z])) e⟩) (fun _ _ e=>e) (fun _ _ _ e=>e) (fun b ps e=>⟨#[],by rw[e];simp⟩) (fun m hm=>?_) (fun b u e=>?_) I.bare
 ·have e:b=it:=by simpa using hb
  subst e
  exact⟨h1,hL,h2,h3⟩
 ·obtain⟨o,es,ep,ho,r⟩:=hm
  exact⟨o,es,ep,k _ o (Ne.symm hL) ho,r⟩
 ·refine(I.hok b u e).stay (fun c v hc q=>k c v ?_ q) (fun _ q=>q) fun _ _ q=>q
  rcases hc with z|z
  ·rw[z];exact nit b u e
  ·exact nit c _ z
theorem Inv.tok (I:Inv X pins σ H s)(t:Nat):Inv X pins σ H { s with toks:=t }:=I.un (h':=s.heap) (t':=t) Un.refl I.hok
theorem Inv.kept {t':Nat}(I:Inv X pins σ H s)(k:∀ b u,s.heap.get? b=some u→h'.get? b=some u):Inv X pins σ H { s with heap:=h',toks:=t' }:=I.un (Un.kept k) (I.hok.kept k)
theorem Inv.laid {a:Addr}{o:HO}{t':Nat}(I:Inv X pins σ H s)(k:∀ b u,s.heap.get? b=some u→h'.get? b=some u)(hp:s.heap.objs.size≤a)(new:xG X.prog X.w (upd H a o) h' a o) :
  Inv X pins σ (upd H a o) { s with heap:=h',toks:=t' }:=I.un (Un.laid k hp (I.hok.fresh hp)) (I.hok.laid k hp new)
theorem Inv.write {x e:Addr}{o:HO}{t':Nat}(I:Inv X pins σ H s)(mu:Mut (H x))(he:e=x∨H e=some (.own x))(k:∀ b u,b≠e→s.heap.get? b=some u→h'.get? b=some u)(heo:∃ u,h'.get? e=some u)
  (new:xG X.prog X.w (upd H x o) h' x o):Inv X pins σ (upd H x o) { s with heap:=h',toks:=t' }:=I.un (Un.write mu he k heo) (I.hok.write mu he k heo new)
theorem Inv.pins_of {pins':List (Addr × Obj)}(I:Inv X pins σ H s)(h:∀ p∈pins',s.heap.get? p.1=some p.2∧H p.1=none∧p.1≠X.env.locals∧p.1 ∉ X.fs∧∀ v,p.2.data≠.cell v):Inv X pins' σ H s:=
 ⟨I.ok,I.os,I.bare,I.base,I.loc,I.cell,I.free,I.freeC,fun p hp=>(List.mem_append.mp hp).elim (fun z=>I.pin p (List.mem_append_left _ z)) (h p),I.hok,I.len⟩
theorem YH {N:List Str}(hN:N.Nodup){i j:Nat}{x:Str}(a:N[i]? = some x)(b:N[j]? = some x):i=j:=by
 obtain⟨h1,e1⟩:=List.getElem?_eq_some_iff.mp a
 obtain⟨h2,e2⟩:=List.getElem?_eq_some_iff.mp b
 exact(List.getElem_inj hN).mp (e1.trans e2.symm)
theorem ZZ {M:Model}{A:Around}{E:Value→Shared→Prop}{i:Nat}{x:Str}{v:V}{u:Value}{Q:Unit→Shared→Prop}(I:Inv X pins σ H s)(hN:X.N.Nodup)(hi:X.N[i]? = some x)(hx:Loc X.env.scope x)(r:qO v u)
  (h:∀ s',Inv X pins (σ.set i (some v)) H s'→(∃ a,Heap.SameBut a s.heap s'.heap∧(a=X.env.locals∨X.env.cells.lookup x=some a))→Q () s') (hf:X.fn x=true∨X.env.scope.names.lookup x=some .local:=by first|exact .inl rfl|exact .inr rfl|assumption):wpAny M A (storeName X.env x u) Q E s:=by
 obtain⟨m,hn,hl⟩:=id I.loc
 have hcls:(X.env.scope.kind == .class||(X.env.scope.kind == .module&&X.env.locals != X.env.globals))=false:=by rw[I.ok.kind];rfl
 have hiσ:i<σ.length:=by rw[I.len];exact(List.getElem?_eq_some_iff.mp hi).1
 have cne:=I.cne
 have tracked:∀ {a:Addr} {h':Heap},(∃ o,s.heap.get? a=some o∧H a=none)→Heap.SameBut a s.heap h'→HOk X.prog X.w H h':=fun {a h'} ha hs b ob e=>by
  obtain⟨_,_,hfree⟩:=ha
  refine(I.hok b ob e).stay (fun c w' hc q=>(hs.2 c ?_).trans q) (fun _ q=>q) fun _ _ q=>q
  rintro rfl
  rcases hc with rfl|hc
  ·rw[hfree] at e;cases e
  ·rw[hfree] at hc;cases hc
 rcases hx with hk|hk
 ·refine wpAny_storeName_local hk hn (fun h' hn' hs=>?_) hcls
  obtain⟨oL,_,_,hoL,_⟩:=id hn
  refine h _ ⟨I.ok,I.os,I.bare,⟨fun b o e n hb hx=>?_,fun b o e n hb hx=>?_,I.base.free,fun b o e hx=>?_,I.base.tups,I.base.frzs,I.base.tbls⟩,⟨_,hn',fun j y v' e1 e2 e3=>?_⟩,fun y c e=>?_,I.free,I.freeC,fun p hp=>?_,tracked ⟨oL,hoL,I.free⟩ hs,by simpa using I.len⟩ ⟨_,hs,.inl rfl⟩
  ·exact(hs.2 b (Nat.ne_of_lt (Nat.lt_of_lt_of_le (Heap.lt_size e) I.ok.above))).trans (I.base.keep b o e n hb hx)
  ·obtain⟨sl,e1⟩:=I.base.slot b o e n hb hx
   exact⟨sl,(hs.2 b (Nat.ne_of_lt (Nat.lt_of_lt_of_le (Heap.lt_size e) I.ok.above))).trans e1⟩
  ·obtain⟨o',e1⟩:=I.base.there b o e hx
   exact⟨o',(hs.2 b (Nat.ne_of_lt (Nat.lt_of_lt_of_le (Heap.lt_size e) I.ok.above))).trans e1⟩
  ·by_cases hj:j=i
   ·subst hj
    rw[hi] at e1;cases e1
    rw[List.getElem?_set_self hiσ] at e2
    cases e2
    exact⟨u,r,.inl ⟨hk,by simp⟩⟩
   ·rw[List.getElem?_set_ne (Ne.symm hj)] at e2
    obtain⟨u',r',q⟩:=hl j y v' e1 e2 e3
    refine⟨u',r',?_⟩
    rcases q with⟨k,e⟩|⟨k,c,e,z⟩
    ·refine .inl ⟨k,?_⟩
     have:y≠x:=fun e=>hj (YH hN e1 (e▸hi))
     simp[this,e]
    ·exact .inr ⟨k,c,e,z.sameBut hs (cne y c e)⟩
  ·obtain⟨w',z⟩:=I.cell y c e
   exact⟨w',z.sameBut hs (cne y c e)⟩
  ·obtain⟨e,n,ne,nf,d⟩:=I.pin p hp
   exact⟨(hs.2 p.1 ne).trans e,n,ne,nf,d⟩
 ·have hfn:X.fn x=true:=by
   rcases hf with z|z
   ·exact z
   ·rw[z] at hk;cases hk
  obtain⟨c,hc⟩:=I.ok.has x (.inl hk)
  obtain⟨w',z⟩:=I.cell x c hc
  refine wpAny_storeName_cell I.ok.kind hk hc z (fun h' hc' hs=>?_)
  obtain⟨oc,hoc,hocd⟩:=id z
  refine h { s with heap:=h' } ⟨I.ok,I.os,I.bare,⟨fun b o e n hb hx=>?_,fun b o e n hb hx=>?_,I.base.free,fun b o e hx=>?_,I.base.tups,I.base.frzs,I.base.tbls⟩,⟨m,hn.sameBut hs (Ne.symm (cne x c hc)),fun j y v' e1 e2 e3=>?_⟩,fun y c' e=>?_,I.free,I.freeC,fun p hp=>?_,tracked ⟨oc,hoc,I.freeC x c hc⟩ hs,by simpa using I.len⟩ ⟨c,hs,.inr hc⟩
  ·exact(hs.2 b (Nat.ne_of_lt (Nat.lt_of_lt_of_le (Heap.lt_size e) (I.ok.cab x c hfn hc)))).trans (I.base.keep b o e n hb hx)
  ·obtain⟨sl,e1⟩:=I.base.slot b o e n hb hx
   exact⟨sl,(hs.2 b (Nat.ne_of_lt (Nat.lt_of_lt_of_le (Heap.lt_size e) (I.ok.cab x c hfn hc)))).trans e1⟩
  ·obtain⟨o',e1⟩:=I.base.there b o e hx
   exact⟨o',(hs.2 b (Nat.ne_of_lt (Nat.lt_of_lt_of_le (Heap.lt_size e) (I.ok.cab x c hfn hc)))).trans e1⟩
  ·by_cases hj:j=i
   ·subst hj
    rw[hi] at e1;cases e1
    rw[List.getElem?_set_self hiσ] at e2
    cases e2
    exact⟨u,r,.inr ⟨.inl hk,c,hc,hc'⟩⟩
   ·rw[List.getElem?_set_ne (Ne.symm hj)] at e2
    obtain⟨u',r',q⟩:=hl j y v' e1 e2 e3
    refine⟨u',r',?_⟩
    rcases q with q|⟨k,c',e,z'⟩
    ·exact .inl q
    ·refine .inr ⟨k,c',e,z'.sameBut hs ?_⟩
     rintro rfl
     exact hj (YH hN e1 (I.ok.inj _ _ _ e hc▸hi))
  ·by_cases hcc:c'=c
   ·subst hcc;exact⟨_,hc'⟩
   ·obtain⟨w2,z2⟩:=I.cell y c' e
    exact⟨w2,z2.sameBut hs hcc⟩
  ·obtain⟨e,n,ne,nf,d⟩:=I.pin p hp
   refine⟨(hs.2 p.1 ?_).trans e,n,ne,nf,d⟩
   intro q
   rw[q,hoc] at e
   have q':oc=p.2:=Option.some.inj e
   exact d w' (by rw[← q'];exact hocd)
theorem dO {M:Model}{A:Around}{E:Value→Shared→Prop}{i:Nat}{x:Str}{v:V}{u:Value}{Q:Unit→Shared→Prop}(I:Inv X pins σ H s)(hN:X.N.Nodup)(hi:X.N[i]? = some x)(hx:Loc X.env.scope x)(r:qO v u)
  (h:∀ s',Inv X pins (σ.set i (some v)) H s'→Q () s') (hf:X.fn x=true∨X.env.scope.names.lookup x=some .local:=by first|exact .inl rfl|exact .inr rfl|assumption):wpAny M A (storeName X.env x u) Q E s:=
 ZZ I hN hi hx r (fun s' I' _=>h s' I') hf
theorem Inv.call' {s':Shared}{ch:List Addr}(I:Inv X pins σ H s)(ho:s'.os=s.os)(u:Un (frs X.stack) ch H H' s.heap s'.heap)(hok:HOk X.prog X.w H' s'.heap)(hg:AllBare s'.gens)
  (hch:∀ b∈ch,(b∈X.ex∨X.s₀.heap.objs.size≤b)∧b≠X.env.locals∧(∀ x c,X.env.cells.lookup x=some c→c≠b)∧∀ p∈X.pn++pins,p.1≠b):Inv X pins σ H' s':=by
 obtain⟨h',g',d',t',o'⟩:=s'
 have e:o'=s.os:=ho
 subst e
 exact I.call (g':=g') (t':=t') (d':=d') u hok hg hch
end
abbrev XK:=Value→Option Addr→Hp→Prop
abbrev St:=List (Option V)
abbrev VK:=V→Hp→Prop
abbrev TE:=St→Hp→VK→Prop
abbrev TT:=St→Hp→(Bool→Hp→Prop)→Prop
abbrev TA:=St→Hp→(List V→Hp→Prop)→Prop
structure Ends where
 nx:St→Hp→Prop
 rt:VK
 bk:St→Hp→Prop:=fun _ _=>False
 ct:St→Hp→Prop:=fun _ _=>False
abbrev TS:=Ends→St→Hp→Prop
inductive EP (X:Cx)(pins:List (Addr × Obj))(σ : St)(Q:VK)(u:Value)(s':Shared):Prop
 |mk (v:V) (H':Hp) (I:Inv X pins σ H' s') (r:qO v u) (q:Q v H'):EP X pins σ Q u s'
inductive TP (X:Cx)(pins:List (Addr × Obj))(σ : St)(Q:Bool→Hp→Prop)(b:Bool)(s':Shared):Prop
 |mk (H':Hp) (I:Inv X pins σ H' s') (q:Q b H'):TP X pins σ Q b s'
inductive AP (X:Cx)(pins:List (Addr × Obj))(σ : St)(Q:List V→Hp→Prop)(us:List Value)(s':Shared):Prop
 |mk (vs:List V) (H':Hp) (I:Inv X pins σ H' s') (r:qQ vs us) (q:Q vs H'):AP X pins σ Q us s'
def SP (X:Cx)(pins:List (Addr × Obj))(D:Ends)(f:Flow)(s':Shared):Prop:=
 match f with
 |.next=>∃ σ' H',Inv X pins σ' H' s'∧D.nx σ' H'
 |.brk=>∃ σ' H',Inv X pins σ' H' s'∧D.bk σ' H'
 |.cont=>∃ σ' H',Inv X pins σ' H' s'∧D.ct σ' H'
 |.ret u=>∃ v σ' H',Inv X pins σ' H' s'∧qO v u∧D.rt v H'
def PE (X:Cx)(e:Expr)(t:TE):Prop:=
 ∀ (pins:List (Addr × Obj)) (s:Shared) (σ : St) (H:Hp) (Q:VK),Inv X pins σ H s→t σ H Q→wpAny (model X.prog X.w) X.A (eval e X.env) (EP X pins σ Q) X.xe s
def PT (X:Cx)(e:Expr)(t:TT):Prop:=
 ∀ (pins:List (Addr × Obj)) (s:Shared) (σ : St) (H:Hp) (Q:Bool→Hp→Prop),Inv X pins σ H s→t σ H Q→wpAny (model X.prog X.w) X.A (isTrue e X.env (eval e X.env)) (TP X pins σ Q) X.xe s
def PW (X:Cx)(e:Expr)(t:TT):Prop:=
 ∀ (whole:Sem Value) (pins:List (Addr × Obj)) (s:Shared) (σ : St) (H:Hp) (Q:Bool→Hp→Prop),Inv X pins σ H s→t σ H Q→wpAny (model X.prog X.w) X.A (isTrue e X.env whole) (TP X pins σ Q) X.xe s
def PA (X:Cx)(es:List Expr)(t:TA):Prop:=
 ∀ (pos:Pos) (pins:List (Addr × Obj)) (s:Shared) (σ : St) (H:Hp) (Q:List V→Hp→Prop),Inv X pins σ H s→t σ H Q→wpAny (model X.prog X.w) X.A (spliced (backTo pos (starEach es X.env))) (AP X pins σ Q) X.xe s
def PS (X:Cx)(st:Stmt)(t:TS):Prop:=
 ∀ (pins:List (Addr × Obj)) (s:Shared) (σ : St) (H:Hp) (D:Ends),Inv X pins σ H s→t D σ H→wpAny (model X.prog X.w) X.A (exec st X.env) (SP X pins D) X.xe s
def PSs (X:Cx)(st:List Stmt)(t:TS):Prop:=
 ∀ (pins:List (Addr × Obj)) (s:Shared) (σ : St) (H:Hp) (D:Ends),Inv X pins σ H s→t D σ H→wpAny (model X.prog X.w) X.A (execs st X.env) (SP X pins D) X.xe s
theorem thn {α : Type}{t:Sem α}{Q Q':α→Shared→Prop}{M:Model}{A:Around}{E:Value→Shared→Prop}{s:Shared}(h:wpAny M A t Q E s)(hQ:∀ a s,Q a s→Q' a s):wpAny M A t Q' E s:=wpAny_mono h hQ fun _ _ x=>x
end _L
namespace _L
open PySem PySem.Spec PyProof.Rows
section
variable {X:Cx}
theorem bin {a b:Expr}{ta tb:TE}(ha:PE X a ta)(hb:PE X b tb){pins:List (Addr × Obj)}{s:Shared}{σ : St}{H:Hp}{R:V→V→Hp→Prop}(I:Inv X pins σ H s)(h:ta σ H fun x H1=>tb σ H1 fun y H2=>R x y H2)
  {α:Type} {Q:α→Shared→Prop} {f:Value→Value→Sem α}
  (hf:∀ v u s2 x y H2,Inv X pins σ H2 s2→qO x v→qO y u→R x y H2→wpAny (model X.prog X.w) X.A (f v u) Q X.xe s2) :
  wpAny (model X.prog X.w) X.A (eval a X.env) (fun v s₁=>wpAny (model X.prog X.w) X.A (eval b X.env) (fun u s₂=>wpAny (model X.prog X.w) X.A (f v u) Q X.xe s₂) X.xe s₁) X.xe s:=by
 refine thn (ha pins s σ H _ I h) fun v s1 ⟨x,H1,I1,r1,q1⟩=>?_
 refine thn (hb pins s1 σ H1 _ I1 q1) fun u s2 ⟨y,H2,I2,r2,q2⟩=>?_
 exact hf v u s2 x y H2 I2 r1 r2 q2
def EQ (i:Nat):TE:=fun σ H Q=>∃ v,σ[i]? = some (some v)∧Q v H
def tC (v:V):TE:=fun _ H Q=>Q v H
theorem E7 {i:Nat}{x:Str}{pos:Pos}(hN:X.N[i]? = some x)(hv:Vis X.env.scope x)(hd:(x == ("__debug__" : Str))=false:=by decide)(hcd:(x == ("__classdict__" : Str))=false:=by decide):PE X (.Name x pos) (EQ i):=by
 intro pins s σ H Q I h
 obtain⟨v,e,h⟩:=h
 obtain⟨m,hn,hl⟩:=I.loc
 obtain⟨u,r,l⟩:=hl i x v hN e hv
 have fin:EP X pins σ Q u s:=⟨v,H,I,r,h⟩
 rcases l with⟨hk,hm⟩|⟨hk,c,hc,hcell⟩
 ·exact wpAny_Name (wpAny_loadName_local I.ok.kind hk hn hm fin) hd
 ·rcases hk with hk|hk
  ·exact wpAny_Name (wpAny_loadName_cell I.ok.kind hk hc hcell fin) hd
  ·exact wpAny_Name (wpAny_loadName_free I.ok.kind hk hc hcell fin hcd) hd
theorem E1 {i j pos}:PE X (.Constant (.int i) j pos) (tC (.int i)):=fun _ _ _ H _ I h=>wpAny_Constant_int ⟨.int i,H,I.tok _,⟨_,rfl⟩,h⟩
theorem C9 {b j pos}:PE X (.Constant (.bool b) j pos) (tC (.bl b)):=fun _ _ _ H _ I h=>Constant_bool ⟨.bl b,H,I,rfl,h⟩
theorem E2 {j pos}:PE X (.Constant .none j pos) (tC .non):=fun _ _ _ H _ I h=>Constant_none ⟨.non,H,I,rfl,h⟩
theorem E5 {x j pos}:PE X (.Constant (.str x) j pos) (tC (.str x)):=fun _ _ _ H _ I h=>Calls.Constant_str ⟨.str x,H,I.tok _,⟨_,rfl⟩,h⟩
def Gl (X:Cx)(x:Str):Prop:=X.env.kindOf x=some .globalImplicit
theorem Q4 {E:Value→Shared→Prop}{pins:List (Addr × Obj)}{s:Shared}{σ : St}{H:Hp}{x:Str}{u:Value}{pos:Pos}{Q:Value→Shared→Prop}(I:Inv X pins σ H s)(hg:Gl X x)(hm:X.mg x=some u)(h:Q u s)
  (hd:(x == ("__debug__" : Str))=false:=by decide):wpAny (model X.prog X.w) X.A (eval (.Name x pos) X.env) Q E s:=
 Calls.Name_function_global I.ok.kind hg (Calls.loadGlobal_global (by rw[I.ok.glob];exact I.mod.glob.keeps I.bk) hm h) hd
theorem mQ {E:Value→Shared→Prop}{pins:List (Addr × Obj)}{s:Shared}{σ : St}{H:Hp}{x:Str}{u:Value}{pos:Pos}{Q:Value→Shared→Prop}(I:Inv X pins σ H s)(hg:Gl X x)(hm:X.mg x=none)(hv:bootBuiltins x=some u)(h:Q u s)
  (hn:x ≠ "__name__":=by decide) (hd:(x == ("__debug__" : Str))=false:=by decide):wpAny (model X.prog X.w) X.A (eval (.Name x pos) X.env) Q E s:=by
 obtain⟨mb,h1,h2⟩:=I.mod.blt
 exact Calls.Name_function_global I.ok.kind hg (Calls.loadGlobal_builtin (by rw[I.ok.glob];exact I.mod.glob.keeps I.bk) hm (by rw[I.ok.blt];exact h1.keeps I.bk) ((h2 x hn).trans hv) h) hd
theorem LD {x:Str}{v:V}{u:Value}{pos:Pos}(hg:Gl X x)(hm:X.mg x=some u)(r:qO v u)(hd:(x == ("__debug__" : Str))=false:=by decide):PE X (.Name x pos) (tC v):=
 fun _ _ _ H _ I h=>Q4 I hg hm ⟨v,H,I,r,h⟩ hd
theorem LC {x:Str}{v:V}{u:Value}{pos:Pos}(hg:Gl X x)(hm:X.mg x=none)(hv:bootBuiltins x=some u)(r:qO v u)(hn:x ≠ "__name__":=by decide)(hd:(x == ("__debug__" : Str))=false:=by decide):PE X (.Name x pos) (tC v):=
 fun _ _ _ H _ I h=>mQ I hg hm hv ⟨v,H,I,r,h⟩ hn hd
variable {a b:Expr}{ta tb:TE}{pos:Pos}
variable {tA tB':TT}{rest:List Expr}
theorem EF (ha:PT X a tA):PW X (.BoolOp .Or [a] pos) tA:=by
 intro wh pins s σ H Q I h
 refine isTrue_or (thn (ha pins s σ H Q I h) fun c s1 e=>?_)
 cases c with
 |false=>exact isTrue_or_nil e
 |true=>exact e
theorem E4 {op}{t:TE}(h:PE X a t):PE X (.BoolOp op [a] pos) t:=fun pins s σ H Q I hw=>BoolOp_one (h pins s σ H Q I hw)
end
end _L
namespace _L
open PySem PySem.Spec PyProof.Rows
def SqL (K:PySem.W.Frag)(H:Hp)(a:Addr)(xs:List V):Prop:=
 Rd H a (.lst xs) ∨
  ∃ (o:Obj) (its:Array Value) (n:Nat),K.lookup a=some o∧o.cls=.type "list" ∧ o.dict=none∧o.data=.seq its n∧its.size≤sizeLine∧qQ xs its.toList
def SqT (K:PySem.W.Frag)(H:Hp)(a:Addr)(xs:List V):Prop:=
 Rd H a (.tup xs) ∨
  ∃ (o:Obj) (its:Array Value) (n:Nat),K.lookup a=some o∧o.cls=.type "tuple" ∧ o.data=.seq its n∧its.size≤sizeLine∧qQ xs its.toList
def A4:Value→Option V
 |.none=>some .non
 |.bool b=>some (.bl b)
 |.int i _=>some (.int i)
 |.str x _=>some (.str x)
 |.bytes b _=>some (.byt b)
 |.float b _=>some (.flt b)
 |.ref a=>some (.ref a)
 |.type n=>some (.ty n)
 |_=>none
theorem qO.abs {x:V}{u:Value}(r:qO x u):A4 u=some x:=by
 cases x with
 |non=>cases r;rfl
 |bl _=>cases r;rfl
 |int _=>obtain⟨t,rfl⟩:=r;rfl
 |str _=>obtain⟨t,rfl⟩:=r;rfl
 |byt _=>obtain⟨t,rfl⟩:=r;rfl
 |flt _=>obtain⟨t,rfl⟩:=r;rfl
 |ref _=>cases r;rfl
 |ty _=>cases r;rfl
theorem qO.inj {x y:V}{u:Value}(r:qO x u)(q:qO y u):x=y:=Option.some.inj (r.abs.symm.trans q.abs)
theorem qQ.inj {xs ys:List V}{us:List Value}(h:qQ xs us)(k:qQ ys us):xs=ys:=by
 induction h generalizing ys with
 |nil=>cases k;rfl
 |cons r t ih =>
  cases k with
  |cons r' t'=>rw[r.inj r',ih t']
section
variable {X:Cx}{pins:List (Addr × Obj)}{σ : St}{H:Hp}{s:Shared}{a:Addr}{xs ys:List V}
theorem SqL.of {K:PySem.W.Frag}(h:H a=some (.lst xs)):SqL K H a xs:=.inl (.inl h)
theorem SqT.of {K:PySem.W.Frag}(h:H a=some (.tup xs)):SqT K H a xs:=.inl (.inl h)
theorem Inv.list (I:Inv X pins σ H s)(h:SqL X.K H a xs):∃ its:List Value,qQ xs its∧PlainL s.heap a its.toArray∧xs.length≤sizeLine:=by
 rcases h with h|⟨o,its,n,hk,hc,hd,hs,hz,r⟩
 ·obtain⟨z,its,n,r,e⟩:=h.ok I.hok
  exact⟨its,r,⟨_,n,e,rfl,rfl,rfl⟩,z⟩
 ·refine⟨its.toList,r,⟨o,n,I.kIn a o hk,hc,hd,by simpa using hs⟩,?_⟩
  have e:=r.length
  simp only[Array.length_toList] at e
  omega
theorem Inv.tuple (I:Inv X pins σ H s)(h:SqT X.K H a xs):∃ its:List Value,qQ xs its∧IsTup s.heap a its.toArray∧xs.length≤sizeLine:=by
 rcases h with h|⟨o,its,n,hk,hc,hs,hz,r⟩
 ·obtain⟨z,its,r,p⟩:=h.ok I.hok
  exact⟨its,r,p,z⟩
 ·refine⟨its.toList,r,⟨o,I.kIn a o hk,hc,n,by simpa using hs⟩,?_⟩
  have e:=r.length
  simp only[Array.length_toList] at e
  omega
theorem Inv.list_inj (I:Inv X pins σ H s)(h:SqL X.K H a xs)(h':SqL X.K H a ys):xs=ys:=by
 obtain⟨its,r,⟨o,n,e,_,_,d⟩,_⟩:=I.list h
 obtain⟨its',r',⟨o',n',e',_,_,d'⟩,_⟩:=I.list h'
 rw[e] at e';cases e'
 rw[d] at d'
 injection d' with d1 _
 have:its=its':=by simpa using congrArg Array.toList d1
 subst this
 exact r.inj r'
theorem Inv.tuple_inj (I:Inv X pins σ H s)(h:SqT X.K H a xs)(h':SqT X.K H a ys):xs=ys:=by
 obtain⟨its,r,⟨o,e,_,n,d⟩,_⟩:=I.tuple h
 obtain⟨its',r',⟨o',e',_,n',d'⟩,_⟩:=I.tuple h'
 rw[e] at e';cases e'
 rw[d] at d'
 injection d' with d1 _
 have:its=its':=by simpa using congrArg Array.toList d1
 subst this
 exact r.inj r'
end
abbrev Cx.wish (X:Cx)(E:Value→Shared→Prop):Cx:={ X with xe:=E }
abbrev Cx.nox (X:Cx):Cx:=X.wish fun _ _=>False
theorem Cx.Ok.wish {X:Cx}(ok:X.Ok)(E:Value→Shared→Prop):(X.wish E).Ok:=
 ⟨ok.mod,ok.kind,ok.glob,ok.blt,ok.above,ok.inj,ok.has,ok.cab,ok.hd,ok.frames,ok.stk,ok.exf,ok.bs,ok.bsz,ok.noex,ok.exfs,ok.funs,ok.frf⟩
theorem Cx.Ok.unwish {X:Cx}{E:Value→Shared→Prop}(ok:(X.wish E).Ok):X.Ok:=
 ⟨ok.mod,ok.kind,ok.glob,ok.blt,ok.above,ok.inj,ok.has,ok.cab,ok.hd,ok.frames,ok.stk,ok.exf,ok.bs,ok.bsz,ok.noex,ok.exfs,ok.funs,ok.frf⟩
section
variable {X:Cx}{pins:List (Addr × Obj)}{σ : St}{H:Hp}{s:Shared}{E:Value→Shared→Prop}
theorem Inv.wish (I:Inv X pins σ H s)(E:Value→Shared→Prop):Inv (X.wish E) pins σ H s:=⟨I.ok.wish E,I.os,I.bare,I.base,I.loc,I.cell,I.free,I.freeC,I.pin,I.hok,I.len⟩
theorem Inv.unwish (I:Inv (X.wish E) pins σ H s):Inv X pins σ H s:=⟨I.ok.unwish,I.os,I.bare,I.base,I.loc,I.cell,I.free,I.freeC,I.pin,I.hok,I.len⟩
theorem SP.unwish {D:Ends}{f:Flow}{s':Shared}(h:SP (X.wish E) pins D f s'):SP X pins D f s':=by
 cases f with
 |next=>obtain⟨σ',H',I,q⟩:=h;exact⟨σ',H',I.unwish,q⟩
 |brk=>obtain⟨σ',H',I,q⟩:=h;exact⟨σ',H',I.unwish,q⟩
 |cont=>obtain⟨σ',H',I,q⟩:=h;exact⟨σ',H',I.unwish,q⟩
 |ret u=>obtain⟨v,σ',H',I,r,q⟩:=h;exact⟨v,σ',H',I.unwish,r,q⟩
theorem PE.nox {e:Expr}{t:TE}(h:PE X.nox e t):PE X e t:=fun pins s σ H Q I hw =>
 wpAny_mono (h pins s σ H Q (I.wish _) hw) (fun _ _ ⟨v,H',I',r,q⟩=>⟨v,H',I'.unwish,r,q⟩) fun _ _ z=>False.elim z
theorem PT.nox {e:Expr}{t:TT}(h:PT X.nox e t):PT X e t:=fun pins s σ H Q I hw =>
 wpAny_mono (h pins s σ H Q (I.wish _) hw) (fun _ _ ⟨H',I',q⟩=>⟨H',I'.unwish,q⟩) fun _ _ z=>False.elim z
theorem PSs.nox {st:List Stmt}{t:TS}(h:PSs X.nox st t):PSs X st t:=fun pins s σ H D I hw =>
 wpAny_mono (h pins s σ H D (I.wish _) hw) (fun _ _ q=>q.unwish) fun _ _ z=>False.elim z
end
section
variable {X:Cx}{st:Stmt}{rest:List Stmt}{t u:TS}{e:Expr}{te:TE}{pos:Pos}
def CS:TS:=fun D σ H=>D.nx σ H
def I8 (t u:TS):TS:=fun D σ H=>t { D with nx:=u D } σ H
theorem LJ:PSs X [] CS:=fun _ _ σ H _ I h=>wpAny_execs_nil ⟨σ,H,I,h⟩
theorem M1 (h1:PS X st t)(h2:PSs X rest u):PSs X (st::rest) (I8 t u):=by
 intro pins s σ H D I h
 refine wpAny_execs_cons (thn (h1 pins s σ H { D with nx:=u D } I h) fun f s1 q=>?_)
 cases f with
 |next =>
  obtain⟨σ',H',I',q⟩:=q
  exact h2 pins s1 σ' H' D I' q
 |ret v=>exact q
 |brk=>exact q
 |cont=>exact q
theorem LK (h1:PS X st t):PSs X [st] t:=by
 intro pins s σ H D I h
 refine wpAny_execs_cons (thn (h1 pins s σ H D I h) fun f s1 q=>?_)
 cases f with
 |next=>exact wpAny_execs_nil q
 |ret v=>exact q
 |brk=>exact q
 |cont=>exact q
end
abbrev TG:=V→St→Hp→(St→Hp→Prop)→Prop
abbrev TGs:=List V→St→Hp→(St→Hp→Prop)→Prop
def PG (X:Cx)(target:Expr)(t:TG):Prop:=
 ∀ (pins:List (Addr × Obj)) (s:Shared) (σ : St) (H:Hp) (v:V) (u:Value) (Q:St→Hp→Prop),Inv X pins σ H s→qO v u→t v σ H Q →
  wpAny (model X.prog X.w) X.A (assign target X.env u) (fun _ s'=>∃ σ' H',Inv X pins σ' H' s'∧Q σ' H') X.xe s
def PGs (X:Cx)(ts:List Expr)(t:TGs):Prop:=
 ∀ (pins:List (Addr × Obj)) (s:Shared) (σ : St) (H:Hp) (vs:List V) (us:List Value) (Q:St→Hp→Prop),Inv X pins σ H s→qQ vs us→t vs σ H Q →
  wpAny (model X.prog X.w) X.A (assignInOrder ((assignEach ts X.env).map (·.2)) us) (fun _ s'=>∃ σ' H',Inv X pins σ' H' s'∧Q σ' H') X.xe s
abbrev BK:=V→V→V→Hp→(Hp→Prop)→Prop
def XY (X:Cx)(t:BK):Prop:=
 ∀ (pins:List (Addr × Obj)) (s:Shared) (σ : St) (H:Hp) (o i v:V) (ov iv u:Value) (Q:Hp→Prop),Inv X pins σ H s→qO o ov→qO i iv→qO v u→t o i v H Q →
  wpAny (model X.prog X.w) X.A (setItem ov iv u) (fun _ s'=>∃ H',Inv X pins σ H' s'∧Q H') X.xe s
section
variable {X:Cx}{pos:Pos}
def HQ (i:Nat):TG:=fun v σ H Q=>Q (σ.set i (some v)) H
theorem LE {i:Nat}{x:Str}(hN:X.N.Nodup)(hi:X.N[i]? = some x)(hx:Loc X.env.scope x)(hf:X.fn x=true∨X.env.scope.names.lookup x=some .local:=by first|exact .inl rfl|exact .inr rfl|assumption):PG X (.Name x pos) (HQ i):=by
 intro pins s σ H v u Q I r h
 exact wpAny_assign_Name (dO I hN hi hx r (fun s' I'=>⟨_,H,I',h⟩) hf)
def AD:TGs:=fun vs σ H Q=>vs=[]∧Q σ H
def HP (t:TG)(u:TGs):TGs:=fun vs σ H Q=>∃ v r,vs=v::r∧t v σ H fun σ' H'=>u r σ' H' Q
theorem LF:PGs X [] AD:=by
 intro pins s σ H vs us Q I r h
 obtain⟨e,h⟩:=h
 subst e
 cases r
 exact assignInOrder_nil ⟨σ,H,I,h⟩
theorem FZ {e:Expr}{es:List Expr}{t:TG}{u:TGs}(h1:PG X e t)(h2:PGs X es u)
  (hs:(assignEach (e::es) X.env).map (·.2)=assign e X.env::(assignEach es X.env).map (·.2):=by rfl):PGs X (e::es) (HP t u):=by
 intro pins s σ H vs us Q I r h
 obtain⟨v,vr,e1,h⟩:=h
 subst e1
 cases r with
 |cons r rr =>
  rw[hs]
  refine assignInOrder_cons (thn (h1 pins s σ H _ _ _ I r h) fun _ s1 ⟨σ1,H1,I1,q1⟩=>?_)
  exact h2 pins s1 σ1 H1 _ _ Q I1 rr q1
def AE (K:PySem.W.Frag)(n:Nat)(t:TGs):TG:=fun v σ H Q=>∃ a xs,v=.ref a∧SqT K H a xs∧xs.length=n∧t xs σ H Q
theorem E8 {es:List Expr}{k:Nat}{t:TGs}{n:Nat}(hc:X.calm=true)(h:PGs X es t)
  (hn:(assignEach es X.env).length=n:=by rfl) (hst:(assignEach es X.env).findIdx? (·.1)=none:=by rfl):PG X (.Tuple es k pos) (AE X.K n t):=by
 intro pins s σ H v u Q I r hw
 obtain⟨a,xs,e1,hq,hl,hw⟩:=hw
 subst e1
 cases r
 obtain⟨its,rv,ht,hz⟩:=I.tuple hq
 refine assign_Tuple_tuple (I.ok.hd hc) ht (by simp[hn,← hl,rv.length]) hst fun h' hx=>?_
 have I1:Inv X pins σ H { s with heap:=h' }:=I.kept (t':=s.toks) fun b o e=>hx b o (Nat.ne_of_lt (Heap.lt_size e)) e
 exact h pins _ σ H xs _ Q I1 (by simpa using rv) hw
def vE (to ti:TE)(t:BK):TG:=fun v σ H Q=>to σ H fun o H1=>ti σ H1 fun i H2=>t o i v H2 fun H3=>Q σ H3
def AZ (i j:Nat)(ta:TA):TS:=fun D σ H=>ta σ H fun vs H1=>∃ v w,vs=[v,w]∧D.nx ((σ.set i (some v)).set j (some w)) H1
theorem EC {i j:Nat}{x y:Str}{a b:Expr}{ta:TA}{px py pt:Pos} {kt k2 pt2} (hc:X.calm=true) (hN:X.N.Nodup) (hi:X.N[i]? = some x) (hj:X.N[j]? = some y) (hij:i≠j)
  (hx:X.env.scope.names.lookup x=some .local) (hy:X.env.scope.names.lookup y=some .local) (ha:PA X [a,b] ta)
  (hw:swappedStores [.Tuple [.Name x px,.Name y py] kt pt] (.Tuple [a,b] k2 pt2) X.env=pure (some [x,y]))
  (hs:swapsWithSole [.Tuple [.Name x px,.Name y py] kt pt] (.Tuple [a,b] k2 pt2) pos.line X.env=pure false:=by rfl) :
  PS X (.Assign [.Tuple [.Name x px,.Name y py] kt pt] (.Tuple [a,b] k2 pt2) pos) (AZ i j ta):=by
 intro pins s σ H D I h
 rw[exec_Assign_arm]
 refine wpAny_bind (wpAny_standAt ?_)
 rw[hs]
 refine wpAny_bind (wpAny_pure ?_)
 rw[if_neg (by decide)]
 refine wpAny_bind (Tuple_ (thn (ha _ pins s σ H _ I h) fun us s1 ⟨vs,H1,I1,r1,q1⟩=>?_))
 obtain⟨v,w,e1,q1⟩:=q1
 subst e1
 obtain⟨u1,u2,rfl,rv,rw'⟩:∃ u1 u2,us=[u1,u2]∧qO v u1∧qO w u2:=by
  cases r1 with
  |cons p q =>
   cases q with
   |cons p' q' =>
    cases q'
    exact⟨_,_,rfl,p,p'⟩
 refine wpAny_newObj_type ?_ (by show 2≤sizeLine;decide)
 have I2:Inv X pins σ H1 { s1 with heap:=s1.heap.push { cls:=.type "tuple",data:=.seq [u1,u2].toArray } }:=I1.kept (t':=s1.toks) fun b o e=>Heap.get?_push_of_some _ e
 rw[hw]
 refine wpAny_bind (wpAny_pure ?_)
 show wpAny (model X.prog X.w) X.A (do rule "assign.swapped-stores";let items ← unpackItems (.ref s1.heap.objs.size) 2 none;assignInOrder [fun v=>bindName X.env y v,fun v=>bindName X.env x v] items.reverse;pure Flow.next) _ _ _
 refine wpAny_bind (wpAny_rule (wpAny_bind (unpackItems_tuple (items:=#[u1,u2]) (I.ok.hd hc) (IsTup.new s1.heap _) fun h' hx'=>?_)))
 have I3:=I2.kept (h':=h') (t':=s1.toks) fun b o e=>hx' b o (Nat.ne_of_lt (Heap.lt_size e)) e
 show wpAny _ _ (assignInOrder [fun v=>bindName X.env y v,fun v=>bindName X.env x v] [u2,u1] >>= fun _=>pure Flow.next) _ _ _
 refine wpAny_bind (assignInOrder_cons (wpAny_bindName (dO I3 hN hj (.inl hy) rw' (fun s2 I4=>?_) (.inr hy))))
 refine assignInOrder_cons (wpAny_bindName (dO I4 hN hi (.inl hx) rv (fun s3 I5=>assignInOrder_nil (wpAny_pure ?_)) (.inr hx)))
 rw[List.set_comm _ _ (Ne.symm hij)] at I5
 exact⟨_,H1,I5,q1⟩
end
structure It where
 go:Nat→Hp→Prop
 yld:Nat→Hp→V→Hp→Prop
 stop:Nat→Hp→Prop
def yX (X:Cx)(pins:List (Addr × Obj))(H:Hp)(b:Addr):Prop:=
 H b=none∧b≠X.env.locals∧b ∉ X.fs∧(b∈X.ex∨X.s₀.heap.objs.size≤b)∧(∀ x c,X.env.cells.lookup x=some c→c≠b)∧∀ p∈X.pn++pins,p.1≠b
theorem Inv.fpOk {X:Cx}{pins:List (Addr × Obj)}{σ : St}{H H':Hp}{s:Shared}{b:Addr}(I:Inv X pins σ H s)(hb:s.heap.objs.size≤b)(hn:H' b=none):yX X pins H' b:=by
 refine⟨hn,Nat.ne_of_gt (Nat.lt_of_lt_of_le I.lt hb),I.nofs hb,.inr (Nat.le_trans I.sz hb),fun x c e z=>?_,fun p hp z=>?_⟩
 ·obtain⟨v,q⟩:=I.cell x c e
  exact absurd (Nat.lt_of_lt_of_le q.lt (by rw[z];exact hb)) (Nat.lt_irrefl _)
 ·exact absurd (Nat.lt_of_lt_of_le (Heap.lt_size (I.pin p hp).1) (by rw[z];exact hb)) (Nat.lt_irrefl _)
structure Turn (P:Program)(w:World)(K:PySem.W.Frag)(tg:Expr)(J:It)(fp:List Addr)(it:Addr)(tn:Nat→Heap→Prop):Prop where
 mem:it∈fp
 obj:∀ i h,tn i h→∀ b∈fp,∃ o,h.get? b=some o∧∀ v,o.data≠.cell v
 keep:∀ i h h',tn i h→(∀ b∈fp,∀ o,h.get? b=some o→h'.get? b=some o)→tn i h'
 item:∀ (X:Cx),X.prog=P→X.w=w→X.K=K→X.calm=true→∀ (i:Nat) (pins:List (Addr × Obj)) (s:Shared) (σ : St) (H:Hp) (E:Value→Shared→Prop),Inv X pins σ H s→(∀ b∈fp,yX X pins H b)→tn i s.heap→J.go i H →
  wpAny (model P w) X.A (pyNext (.ref it)) (fun r s1=>∃ u,r=some u ∧
   wpAny (model P w) X.A (letOwnedTupleGo tg (.ref it) u) (fun _ s2=>∃ x H',Inv X pins σ H' s2∧qO x u∧J.yld i H x H'∧tn (i+1) s2.heap∧∀ b∈fp,H' b=none) E s1) E s
 done:∀ (X:Cx),X.prog=P→X.w=w→X.K=K→X.calm=true→∀ (i:Nat) (pins:List (Addr × Obj)) (s:Shared) (σ : St) (H:Hp) (E:Value→Shared→Prop),Inv X pins σ H s→(∀ b∈fp,yX X pins H b)→tn i s.heap→J.stop i H →
  wpAny (model P w) X.A (pyNext (.ref it)) (fun r s1=>r=none∧Inv X pins σ H s1) E s
 self:∀ (A:Around) (i:Nat) (s:Shared) (Q:Value→Shared→Prop) (E:Value→Shared→Prop),tn i s.heap→Q (.ref it) s→wpAny (model P w) A (pyIter (.ref it)) Q E s
abbrev TI:=St→Hp→(It→Hp→Prop)→Prop
inductive PIE (X:Cx)(pins:List (Addr × Obj))(σ : St)(tg:Expr)(R:It→Hp→Prop)(itv:Value)(s2:Shared):Prop
 |mk (it:Addr) (fp:List Addr) (tn:Nat→Heap→Prop) (J:It) (H':Hp) (e:itv=.ref it) (I:Inv X pins σ H' s2) (t:Turn X.prog X.w X.K tg J fp it tn) (z:tn 0 s2.heap) (f:∀ b∈fp,yX X pins H' b) (q:R J H'):PIE X pins σ tg R itv s2
def PI (X:Cx)(tg iter:Expr)(wi:TI):Prop:=
 ∀ (pins:List (Addr × Obj)) (s:Shared) (σ : St) (H:Hp) (R:It→Hp→Prop),Inv X pins σ H s→wi σ H R →
  wpAny (model X.prog X.w) X.A (eval iter X.env) (fun v s1=>wpAny (model X.prog X.w) X.A (pyIter v) (PIE X pins σ tg R) X.xe s1) X.xe s
theorem K2 {M:Model}{A:Around}{E:Value→Shared→Prop}{s:Shared}{tg:Expr}{it:Addr}{u:Value}{o:Obj}{n:String}{vs:Array Value}{Q:Unit→Shared→Prop}(ho:s.heap.get? it=some o)(hc:o.cls=.type n)(hd:o.data=.fields vs)
    (hn:["enumerate","zip","dict_itemiterator","dict_reverseitemiterator","odict_iterator","itertools.zip_longest","itertools.pairwise"].contains n=false) (hQ:Q () s):wpAny M A (letOwnedTupleGo tg (.ref it) u) Q E s:=by
  unfold letOwnedTupleGo
  cases tg <;> first
    |exact wpAny_pure hQ
    |(cases u <;> first
        |exact wpAny_pure hQ
        | (refine wpAny_bind (wpAny_load ho ?_)
           rw[hc,hd]
           show wpAny M A (if (["enumerate","zip","dict_itemiterator","dict_reverseitemiterator","odict_iterator","itertools.zip_longest","itertools.pairwise"].contains n&&vs[0]? == some (rawInt _))=true then _ else _) Q E s
           rw[if_neg (by intro h;rw[hn,Bool.false_and] at h;cases h)]
           exact wpAny_pure hQ))
def Itl (K:PySem.W.Frag)(a:Addr):It:=
 ⟨fun i H=>∃ xs x,SqL K H a xs∧xs[i]? = some x,fun i H x H'=>H'=H∧∀ xs,SqL K H a xs→xs[i]? = some x,fun i H=>∃ xs,SqL K H a xs∧xs.length≤i⟩
def Itt (K:PySem.W.Frag)(a:Addr):It:=
 ⟨fun i H=>∃ xs x,SqT K H a xs∧xs[i]? = some x,fun i H x H'=>H'=H∧∀ xs,SqT K H a xs→xs[i]? = some x,fun i H=>∃ xs,SqT K H a xs∧xs.length≤i⟩
def Itr (lo:Int)(n:Nat):It:=⟨fun i _=>i<n,fun i H x H'=>H'=H∧x=.int (lo+i),fun i _=>n≤i⟩
theorem X2 {P:Program}{w:World}{K:PySem.W.Frag}{tg:Expr}(a it:Addr):Turn P w K tg (Itl K a) [it] it (fun i h=>h.IsListIter it a i) where
 mem:=by simp
 obj:=fun i h st b hb=>by
  have e:b=it:=by simpa using hb
  subst e
  obtain⟨o,e,c,d⟩:=st
  exact⟨o,e,fun v z=>by rw[d] at z;cases z⟩
 keep:=fun i h h' st k=>st.at fun o e=>k it (by simp) o e
 item:=by
  intro X hP hw hK hc i pins s σ H E I hf st hg
  subst hP hw hK
  obtain⟨xs,x,hq,hx⟩:=hg
  obtain⟨its,rv,p,hz⟩:=I.list hq
  obtain⟨u,hu,ru⟩:=rv.get hx
  obtain⟨f0,f1,f2,f3,f4,f5⟩:=hf it (by simp)
  refine wpAny_pyNext_list_item st p.isList (x:=u) (by simpa using hu) fun h' st' sb=>?_
  have I1:Inv X pins σ H { s with heap:=h' }:=I.turned (t':=s.toks) (fun b o hb e=>(sb.2 b hb).trans e) f0 f1 f3 f4 f5
  obtain⟨o,e,c,d⟩:=id st'
  exact⟨u,rfl,K2 (s:={ s with heap:=h' }) e c d (by decide) ⟨x,H,I1,ru,⟨rfl,fun ys hy=>by rw[I.list_inj hy hq];exact hx⟩,st',fun b hb=>(hf b hb).1⟩⟩
 done:=by
  intro X hP hw hK hc i pins s σ H E I hf st hg
  subst hP hw hK
  obtain⟨xs,hq,hx⟩:=hg
  obtain⟨its,rv,p,hz⟩:=I.list hq
  obtain⟨f0,f1,f2,f3,f4,f5⟩:=hf it (by simp)
  have hl:=rv.length
  exact wpAny_pyNext_list_end (I.ok.hd hc) st p.isList (by simp;omega) fun h' eb=>⟨rfl,I.turned (t':=s.toks) (fun b o hb e=>eb b o hb e) f0 f1 f3 f4 f5⟩
 self:=fun _ _ _ _ _ st h=>wpAny_pyIter_listiter st h
theorem KN {P:Program}{w:World}{K:PySem.W.Frag}{tg:Expr}(a it:Addr):Turn P w K tg (Itt K a) [it] it (fun i h=>h.IsTupleIter it a i) where
 mem:=by simp
 obj:=fun i h st b hb=>by
  have e:b=it:=by simpa using hb
  subst e
  obtain⟨o,e,c,d⟩:=st
  exact⟨o,e,fun v z=>by rw[d] at z;cases z⟩
 keep:=fun i h h' st k=>st.at fun o e=>k it (by simp) o e
 item:=by
  intro X hP hw hK hc i pins s σ H E I hf st hg
  subst hP hw hK
  obtain⟨xs,x,hq,hx⟩:=hg
  obtain⟨its,rv,p,hz⟩:=I.tuple hq
  obtain⟨u,hu,ru⟩:=rv.get hx
  obtain⟨f0,f1,f2,f3,f4,f5⟩:=hf it (by simp)
  refine wpAny_pyNext_tuple_item st (show s.heap.IsTuple a its.toArray from p) (x:=u) (by simpa using hu) fun h' st' sb=>?_
  have I1:Inv X pins σ H { s with heap:=h' }:=I.turned (t':=s.toks) (fun b o hb e=>(sb.2 b hb).trans e) f0 f1 f3 f4 f5
  obtain⟨o,e,c,d⟩:=id st'
  exact⟨u,rfl,K2 (s:={ s with heap:=h' }) e c d (by decide) ⟨x,H,I1,ru,⟨rfl,fun ys hy=>by rw[I.tuple_inj hy hq];exact hx⟩,st',fun b hb=>(hf b hb).1⟩⟩
 done:=by
  intro X hP hw hK hc i pins s σ H E I hf st hg
  subst hP hw hK
  obtain⟨xs,hq,hx⟩:=hg
  obtain⟨its,rv,p,hz⟩:=I.tuple hq
  obtain⟨f0,f1,f2,f3,f4,f5⟩:=hf it (by simp)
  have hl:=rv.length
  exact wpAny_pyNext_tuple_end (I.ok.hd hc) st (show s.heap.IsTuple a its.toArray from p) (by simp;omega) fun h' eb=>⟨rfl,I.turned (t':=s.toks) (fun b o hb e=>eb b o hb e) f0 f1 f3 f4 f5⟩
 self:=fun _ _ _ _ _ st h=>wpAny_pyIter_tupleiter st h
theorem KM {P:Program}{w:World}{K:PySem.W.Frag}{tg:Expr}(it:Addr)(lo:Int)(n:Nat):Turn P w K tg (Itr lo n) [it] it (fun i h=>IsRangeIter h it (lo+(i:Nat)*1) ((n:Int)-(i:Nat)) 1) where
 mem:=by simp
 obj:=fun i h st b hb=>by
  have e:b=it:=by simpa using hb
  subst e
  exact⟨_,st,fun v z=>by
   have z':Data.fields _=Data.cell v:=z
   cases z'⟩
 keep:=fun i h h' st k=>k it (by simp) _ st
 item:=by
  intro X hP hw hK hc i pins s σ H E I hf st hg
  subst hP hw hK
  obtain⟨f0,f1,f2,f3,f4,f5⟩:=hf it (by simp)
  have W:=Walks.range (prog:=X.prog) (w:=X.w) (I.ok.hd hc) it lo 1 n
  refine W.item i s _ _ hg st fun v h' tk hv st' kk=>?_
  obtain⟨t,rfl⟩:=hv
  have I1:Inv X pins σ H { s with heap:=h',toks:=tk }:=I.turned (fun b o hb e=>kk b o (by simpa using hb) e) f0 f1 f3 f4 f5
  refine⟨_,rfl,K2 (s:={ s with heap:=h',toks:=tk }) (n:="range_iterator") st' rfl rfl (by decide) ⟨.int (lo+i),H,I1,⟨t,?_⟩,⟨rfl,rfl⟩,st',fun b hb=>(hf b hb).1⟩⟩
  rw[Int.mul_one]
 done:=by
  intro X hP hw hK hc i pins s σ H E I hf st hg
  subst hP hw hK
  obtain⟨f0,f1,f2,f3,f4,f5⟩:=hf it (by simp)
  exact wpAny_pyNext_range_end (I.ok.hd hc) st (by have:n≤i:=hg;omega) fun h' eb=>⟨rfl,I.turned (t':=s.toks) (fun b o hb e=>eb b o hb e) f0 f1 f3 f4 f5⟩
 self:=fun _ _ _ _ _ st h=>wpAny_pyIter_rangeiter st h
end _L
namespace _L
open PySem PySem.Spec PyProof.Rows
section
variable {X:Cx}{tg:Expr}
theorem YX {pins:List (Addr × Obj)}{σ : St}{H:Hp}{s:Shared}{R:It→Hp→Prop}{E:Value→Shared→Prop}{lo hi:Int}{t u v:Tok}{tk:Nat}(I:Inv X pins σ H s)(h1 : -(2 ^ 62)≤lo)(h2:lo<2 ^ 62)(h3 : -(2 ^ 62)≤hi)(h4:hi<2 ^ 62)
  (q:R (Itr lo (hi-lo).toNat) H):wpAny (model X.prog X.w) X.A (pyIter (.ref s.heap.objs.size)) (PIE X pins σ tg R) E { s with heap:=s.heap.push { cls:=.type "range",data:=.fields #[.int lo t,.int hi u,.int 1 v] },toks:=tk }:=by
 refine wpAny_pyIter_range (IsRange.new ..) (small_one h1 h2 h3 h4) ?_
 have I1:Inv X pins σ H { s with heap:=s.heap.push { cls:=.type "range",data:=.fields #[.int lo t,.int hi u,.int 1 v] },toks:=tk }:=I.kept fun b o e=>Heap.get?_push_of_some _ e
 refine⟨(s.heap.push { cls:=.type "range",data:=.fields #[.int lo t,.int hi u,.int 1 v] }).objs.size,[(s.heap.push { cls:=.type "range",data:=.fields #[.int lo t,.int hi u,.int 1 v] }).objs.size],_,_,H,rfl,
  I1.kept (t':=tk) fun b o e=>Heap.get?_push_of_some _ e,KM _ lo (hi-lo).toNat,?_,fun b hb=>?_,q⟩
 ·have e1:lo+((0:Nat):Int)*1=lo:=by simp
  have e2:(((hi-lo).toNat:Nat):Int)-((0:Nat):Int)=Builtin.Range.rangeSize lo hi 1:=by rw[rangeSize_one];split <;> omega
  show IsRangeIter _ _ (lo+((0:Nat):Int)*1) ((((hi-lo).toNat:Nat):Int)-((0:Nat):Int)) 1
  rw[e1,e2]
  exact Heap.get?_push_size _ rfl
 ·have e:b=(s.heap.push { cls:=.type "range",data:=.fields #[.int lo t,.int hi u,.int 1 v] }).objs.size:=by simpa using hb
  subst e
  exact I1.fpOk (Nat.le_refl _) (I1.hok.fresh (Nat.le_refl _))
def AW (wi:TI)(g:TG)(tb:TS):TS:=fun D σ H=>wi σ H fun J H1=>∃ W:Nat→Nat→St→Hp→Prop,(∃ m,W 0 m σ H1)∧∀ i m σ H,W i m σ H →
 (J.stop i H∧D.nx σ H)∨(J.go i H∧∃ N:St→Hp→Prop,(∀ σ' H',N σ' H'→∃ m',m'<m∧W (i+1) m' σ' H')∧∀ x H',J.yld i H x H'→g x σ H' fun σ2 H2=>tb { D with nx:=N,ct:=N,bk:=D.nx } σ2 H2)
def gV (fp:List Addr)(h:Heap):List (Addr × Obj):=fp.filterMap fun b=>(h.get? b).map fun o=>(b,o)
theorem fN {fp:List Addr}{h:Heap}{b:Addr}{o:Obj}(hb:b∈fp)(e:h.get? b=some o):(b,o)∈gV fp h:=List.mem_filterMap.mpr ⟨b,hb,by rw[e];rfl⟩
theorem ZO {fp:List Addr}{h:Heap}{p:Addr × Obj}(hp:p∈gV fp h):p.1∈fp∧h.get? p.1=some p.2:=by
 obtain⟨b,hb,e⟩:=List.mem_filterMap.mp hp
 cases q:h.get? b with
 |none=>rw[q] at e;cases e
 |some o =>
  rw[q] at e
  have e':(b,o)=p:=Option.some.inj e
  subst e'
  exact⟨hb,q⟩
theorem Inv.pinned {pins:List (Addr × Obj)}{σ : St}{H:Hp}{s:Shared}{fp:List Addr}(I:Inv X pins σ H s)(hf:∀ b∈fp,yX X pins H b)(ho:∀ b∈fp,∃ o,s.heap.get? b=some o∧∀ v,o.data≠.cell v):Inv X (pins++gV fp s.heap) σ H s:=
 I.pins_of fun p hp=>(List.mem_append.mp hp).elim (fun z=>I.pin p (List.mem_append_right _ z)) fun z=>by
  obtain⟨hb,e⟩:=ZO z
  obtain⟨f0,f1,f2,_⟩:=hf p.1 hb
  obtain⟨o,e',d⟩:=ho p.1 hb
  rw[e] at e';cases e'
  exact⟨e,f0,f1,f2,d⟩
theorem Inv.unpinned {pins pl:List (Addr × Obj)}{σ : St}{H:Hp}{s:Shared}(I:Inv X (pins++pl) σ H s):Inv X pins σ H s:=I.pins_of fun p hp=>I.pin p (List.mem_append_right _ (List.mem_append_left _ hp))
inductive ForI (X:Cx)(pins:List (Addr × Obj))(fp:List Addr)(tn:Nat→Heap→Prop)(W:Nat→Nat→St→Hp→Prop)(n:Nat)(s':Shared):Prop
 |mk (i:Nat) (σ' : St) (H':Hp) (I:Inv X pins σ' H' s') (t:tn i s'.heap) (f:∀ b∈fp,H' b=none) (w:W i n σ' H'):ForI X pins fp tn W n s'
theorem EB {iter:Expr}{body:List Stmt}{wi:TI}{g:TG}{tb:TS}{pos:Pos}(hp:PassesOwn (model X.prog X.w) X.A X.env X.xe)(hc:X.calm=true)(hi:PI X tg iter wi)(hg:PG X tg g)(hb:PSs X body tb)
  (hs:∀ x,foldedSetIterable iter X.env x=pure x:=by intro _;rfl):PS X (.For tg iter body [] pos) (AW wi g tb):=by
 intro pins s σ H D I h
 refine wpAny_For (thn (hi pins s σ H _ I h) fun v s1 h1=>thn h1 fun itv s2 h2=>?_) hs
 obtain⟨it,fp,tn,J,H2,e,I2,T,st2,f2,W,⟨m0,w0⟩,turn⟩:=h2
 subst e
 have stat:∀ {H':Hp},(∀ b∈fp,H' b=none)→∀ b∈fp,yX X pins H' b:=fun hn b hb=>⟨hn b hb,(f2 b hb).2⟩
 refine codeAny_forLoop_any (ForI X pins fp tn W) ?_ m0 ⟨0,σ,H2,I2,st2,fun b hb=>(f2 b hb).1,w0⟩
 rintro n s3 ⟨i,σ3,H3,I3,st3,fr3,w3⟩
 rcases turn i n σ3 H3 w3 with⟨stop,qn⟩|⟨go,N,hN,step⟩
 ·refine wpAny_passesOwn hp (thn (T.done X rfl rfl rfl hc i pins s3 σ3 H3 X.xe I3 (stat fr3) st3 stop) fun r s4 ⟨hr,I4⟩=>?_)
  subst hr
  exact wpAny_execs_nil ⟨σ3,H3,I4,qn⟩
 ·refine wpAny_passesOwn hp (thn (T.item X rfl rfl rfl hc i pins s3 σ3 H3 X.xe I3 (stat fr3) st3 go) fun r s4 ⟨u,hr,h4⟩=>?_)
  subst hr
  refine wpAny_passesOwn hp (thn h4 fun _ s5 ⟨x,H5,I5,r5,y5,st5,fr5⟩=>?_)
  have I5':=I5.pinned (stat fr5) (T.obj _ _ st5)
  refine wpAny_passesOwn hp (thn (hg _ s5 σ3 H5 x u _ I5' r5 (step x H5 y5)) fun _ s6 ⟨σ6,H6,I6,q6⟩=>?_)
  refine wpAny_passesOwn hp (thn (hb _ s6 σ6 H6 _ I6 q6) fun f s7 q7=>?_)
  have again:∀ {σ7:St} {H7:Hp},Inv X (pins++gV fp s5.heap) σ7 H7 s7→N σ7 H7→∃ m,m<n∧ForI X pins fp tn W m s7:=fun {σ7 H7} I7 n7=>by
   obtain⟨m',hm,w7⟩:=hN σ7 H7 n7
   refine⟨m',hm,i+1,σ7,H7,I7.unpinned,T.keep _ _ _ st5 fun b hb o e=>(I7.pin (b,o) (List.mem_append_right _ (List.mem_append_right _ (fN hb e)))).1,fun b hb=>?_,w7⟩
   obtain⟨o,e,d⟩:=T.obj _ _ st5 b hb
   exact(I7.pin (b,o) (List.mem_append_right _ (List.mem_append_right _ (fN hb e)))).2.1
  cases f with
  |next=>obtain⟨σ7,H7,I7,n7⟩:=q7;exact again I7 n7
  |cont=>obtain⟨σ7,H7,I7,n7⟩:=q7;exact again I7 n7
  |brk=>obtain⟨σ7,H7,I7,q7⟩:=q7;exact⟨σ7,H7,I7.unpinned,q7⟩
  |ret v=>obtain⟨x7,σ7,H7,I7,r7,q7⟩:=q7;exact⟨x7,σ7,H7,I7.unpinned,r7,q7⟩
end
end _L
namespace _L
open PySem PySem.Spec PyProof.Rows
abbrev R2:=V→V→Hp→VK→Prop
def OpR (X:Cx)(f:Value→Value→Sem Value)(r:R2):Prop:=
 ∀ (pins:List (Addr × Obj)) (s:Shared) (σ : St) (H:Hp) (x y:V) (v u:Value) (Q:VK),Inv X pins σ H s→qO x v→qO y u→r x y H Q →
  wpAny (model X.prog X.w) X.A (f v u) (EP X pins σ Q) X.xe s
def UnR (X:Cx)(f:Value→Sem Value)(r:V→Hp→VK→Prop):Prop:=
 ∀ (pins:List (Addr × Obj)) (s:Shared) (σ : St) (H:Hp) (x:V) (v:Value) (Q:VK),Inv X pins σ H s→qO x v→r x H Q →
  wpAny (model X.prog X.w) X.A (f v) (EP X pins σ Q) X.xe s
def t8 (X:Cx)(f:Value)(r:List V→Hp→VK→Prop):Prop:=
 ∀ (pins:List (Addr × Obj)) (s:Shared) (σ : St) (H:Hp) (xs:List V) (us:List Value) (Q:VK),Inv X pins σ H s→qQ xs us→r xs H Q →
  wpAny (model X.prog X.w) X.A (call f us) (EP X pins σ Q) X.xe s
def A3 (X:Cx)(r:V→Hp→(Bool→Hp→Prop)→Prop):Prop:=
 ∀ (pins:List (Addr × Obj)) (s:Shared) (σ : St) (H:Hp) (x:V) (v:Value) (Q:Bool→Hp→Prop),Inv X pins σ H s→qO x v→r x H Q →
  wpAny (model X.prog X.w) X.A (truthy v) (TP X pins σ Q) X.xe s
def tOp (r:R2)(ta tb:TE):TE:=fun σ H Q=>ta σ H fun x H1=>tb σ H1 fun y H2=>r x y H2 Q
def rI (C:Int→Int→Prop)(g:Int→Int→V):R2:=fun x y H Q=>∃ i j,x=.int i∧y=.int j∧C i j∧Q (g i j) H
def rI0 (g:Int→Int→V):R2:=fun x y H Q=>∃ i j,x=.int i∧y=.int j∧Q (g i j) H
def rU (g:Int→V):V→Hp→VK→Prop:=fun x H Q=>∃ i,x=.int i∧Q (g i) H
section
variable {X:Cx}{a b c:Expr}{ta tb tc:TE}{pos:Pos}
theorem A8 (ha:PE X a ta)(hb:PE X b tb){pins:List (Addr × Obj)}{s:Shared}{σ : St}{H:Hp}{R:V→V→Hp→Prop}(I:Inv X pins σ H s)
  (h:ta σ H fun x H1=>tb σ H1 fun y H2=>R x y H2) {Q:Value→Shared→Prop} {f:Value→Value→Sem Value}
  (hf:∀ v u s2 x y H2,Inv X pins σ H2 s2→qO x v→qO y u→R x y H2→wpAny (model X.prog X.w) X.A (f v u) Q X.xe s2) :
  wpAny (model X.prog X.w) X.A (eval a X.env) (fun v s₁=>wpAny (model X.prog X.w) X.A (eval b X.env) (fun u s₂=>wpAny (model X.prog X.w) X.A (f v u) Q X.xe s₂) X.xe s₁) X.xe s:=by
 refine thn (ha pins s σ H _ I h) fun v s1 ⟨x,H1,I1,r1,q1⟩=>?_
 refine thn (hb pins s1 σ H1 _ I1 q1) fun u s2 ⟨y,H2,I2,r2,q2⟩=>?_
 exact hf v u s2 x y H2 I2 r1 r2 q2
theorem opI {f:Value→Value→Sem Value}{C:Int→Int→Prop}{g:Int→Int→Int}
  (rule:∀ (i j:Int) (t u:Tok) (s:Shared) (Q:Value→Shared→Prop) (E:Value→Shared→Prop),C i j→Q (.int (g i j) s.toks) { s with toks:=s.toks+1 } → wpAny (model X.prog X.w) X.A (f (.int i t) (.int j u)) Q E s) :
  OpR X f (rI C fun i j=>.int (g i j)):=by
 intro pins s σ H x y v u Q I rx ry h
 obtain⟨i,j,rfl,rfl,hc,q⟩:=h
 obtain⟨t,rfl⟩:=rx
 obtain⟨t',rfl⟩:=ry
 exact rule i j t t' s _ _ hc ⟨.int (g i j),H,I.tok _,⟨_,rfl⟩,q⟩
theorem RT {f:Value→Value→Sem Value}{g:Int→Int→Int}
  (rule:∀ (i j:Int) (t u:Tok) (s:Shared) (Q:Value→Shared→Prop) (E:Value→Shared→Prop),Q (.int (g i j) s.toks) { s with toks:=s.toks+1 } → wpAny (model X.prog X.w) X.A (f (.int i t) (.int j u)) Q E s) :
  OpR X f (rI0 fun i j=>.int (g i j)):=by
 intro pins s σ H x y v u Q I rx ry h
 obtain⟨i,j,rfl,rfl,q⟩:=h
 obtain⟨t,rfl⟩:=rx
 obtain⟨t',rfl⟩:=ry
 exact rule i j t t' s _ _ ⟨.int (g i j),H,I.tok _,⟨_,rfl⟩,q⟩
theorem FS {f:Value→Value→Sem Value}{g:Int→Int→Bool}
  (rule:∀ (i j:Int) (t u:Tok) (s:Shared) (Q:Value→Shared→Prop) (E:Value→Shared→Prop),Q (.bool (g i j)) s→wpAny (model X.prog X.w) X.A (f (.int i t) (.int j u)) Q E s) :
  OpR X f (rI0 fun i j=>.bl (g i j)):=by
 intro pins s σ H x y v u Q I rx ry h
 obtain⟨i,j,rfl,rfl,q⟩:=h
 obtain⟨t,rfl⟩:=rx
 obtain⟨t',rfl⟩:=ry
 exact rule i j t t' s _ _ ⟨.bl (g i j),H,I,rfl,q⟩
def A0 (i j:Int):Prop:=0<j∧j<1073741824
def A1 (i j:Int):Prop:=0≤j∧j≤1000000∧i.natAbs<2 ^ 64
def BH (i j:Int):Prop:=(-(2 ^ 64)<i∧i<2 ^ 64)∨(-(2 ^ 64)<j∧j<2 ^ 64)
theorem BH.ok {i j:Int}(h:BH i j):IntMulOk i j:=by
 rcases h with⟨h1,h2⟩|⟨h1,h2⟩
 ·exact .of_left (intBits_le_64 h1 h2)
 ·exact .of_right (intBits_le_64 h1 h2)
theorem RU:OpR X (binaryOp .Add) (rI0 fun i j=>.int (i+j)):=RT fun _ _ _ _ _ _ _ q=>add_int q
theorem RZ:OpR X (binaryOp .Sub) (rI0 fun i j=>.int (i-j)):=RT fun _ _ _ _ _ _ _ q=>sub_int q
theorem RX:OpR X (binaryOp .Mult) (rI BH fun i j=>.int (i*j)):=opI fun _ _ _ _ _ _ _ hc q=>mul_int q hc.ok
theorem L8:OpR X (binaryOp .FloorDiv) (rI A0 fun i j=>.int (i/j)):=opI fun i j _ _ _ _ _ hc q=>by
 have h1:(0:Int)<j:=hc.1
 have h2:j<1073741824:=hc.2
 exact floordiv_int (by omega) (by rw[Int.fdiv_eq_ediv_of_nonneg i (by omega)];exact q) (.inl (PyProof.noPylong_small (by omega)))
theorem RW:OpR X (binaryOp .Mod) (rI (fun _ j=>0<j) fun i j=>.int (i % j)):=opI fun i j _ _ _ _ _ hc q=>by
 have h1:(0:Int)<j:=hc
 exact mod_int' (by omega) (by rw[Int.fmod_eq_emod_of_nonneg i (by omega)];exact q)
theorem RY:OpR X (binaryOp .Pow) (rI A1 fun i j=>.int (i ^ j.toNat)):=opI fun _ _ _ _ _ _ _ hc q=>pow_int_small hc.1 hc.2.1 hc.2.2 q
theorem unI {f:Value→Sem Value}{g:Int→Int}
  (rule:∀ (i:Int) (t:Tok) (s:Shared) (Q:Value→Shared→Prop) (E:Value→Shared→Prop),Q (.int (g i) s.toks) { s with toks:=s.toks+1 } → wpAny (model X.prog X.w) X.A (f (.int i t)) Q E s) :
  UnR X f (rU fun i=>.int (g i)):=by
 intro pins s σ H x v Q I rx h
 obtain⟨i,rfl,q⟩:=h
 obtain⟨t,rfl⟩:=rx
 exact rule i t s _ _ ⟨.int (g i),H,I.tok _,⟨_,rfl⟩,q⟩
theorem EW:UnR X (unaryOp .USub) (rU fun i=>.int (-i)):=unI fun _ _ _ _ _ q=>neg_int q
end
section
variable {X:Cx}{a b c:Expr}{ta tb tc:TE}{pos:Pos}
theorem SW {pins:List (Addr × Obj)}{σ : St}{H:Hp}{s:Shared}{Q:VK}{k k':Bool}(I:Inv X pins σ H s)(q:Q (.bl k) H)(e:k=k'):EP X pins σ Q (.bool k') s:=by
 subst e
 exact⟨.bl k,H,I,rfl,q⟩
theorem C8:OpR X (compareOp .Lt) (rI0 fun i j=>.bl (decide (i<j))):=FS fun _ _ _ _ _ _ _ q=>lt_int q
theorem C7:OpR X (compareOp .LtE) (rI0 fun i j=>.bl (decide (i≤j))):=FS fun _ _ _ _ _ _ _ q=>le_int q
theorem C6:OpR X (compareOp .GtE) (rI0 fun i j=>.bl (decide (j≤i))):=FS fun _ _ _ _ _ _ _ q=>ge_int q
theorem RV:OpR X (compareOp .Is) (fun x y H Q=>y=.non∧Q (.bl (decide (x=.non))) H):=by
 intro pins s σ H x y v u Q I rx ry h
 obtain⟨rfl,q⟩:=h
 cases ry
 refine is_none_gen (SW I q ?_)
 cases x <;> first
  |(cases rx;rfl)
  |(obtain⟨t,rfl⟩:=rx;rfl)
theorem OpR.or {f:Value→Value→Sem Value}{r r':R2}(h:OpR X f r)(h':OpR X f r'):OpR X f (fun x y H Q=>r x y H Q∨r' x y H Q):=by
 intro pins s σ H x y v u Q I rx ry q
 rcases q with q|q
 ·exact h pins s σ H x y v u Q I rx ry q
 ·exact h' pins s σ H x y v u Q I rx ry q
theorem iY (b:Expr){op:CmpOp}(h:op≠.In:=by decide)(h2:op≠.NotIn:=by decide):behindInMarks op b=false:=by
 have e1:(op == CmpOp.In)=false:=by cases op <;> first|rfl|exact absurd rfl h
 have e2:(op == CmpOp.NotIn)=false:=by cases op <;> first|rfl|exact absurd rfl h2
 cases b <;> simp[behindInMarks,e1,e2]
def JL (K:PySem.W.Frag)(x:V)(H:Hp)(k:Bool):Prop:=
 match x with
 |.non=>k=false
 |.bl b=>k=b
 |.int i=>k=(i != 0)
 |.str y=>y.length≤sizeLine∧k=((y.length:Int) != 0)
 |.byt y=>y.size≤sizeLine∧k=((y.size:Int) != 0)
 |.ref p=>(∃ xs,SqL K H p xs∧k=!xs.isEmpty)∨(∃ xs,SqT K H p xs∧k=!xs.isEmpty)∨∃ kvs,H p=some (.dK kvs)∧k=!kvs.isEmpty
 |_=>False
theorem K4 {κ : Type}{kvs:List (κ × V)}{vs:List (κ × Value)}(r:KV kvs vs):(!vs.isEmpty)=!kvs.isEmpty:=by
 cases r <;> rfl
theorem iM {xs:List V}{its:List Value}(r:qQ xs its):(!its.toArray.isEmpty)=!xs.isEmpty:=by
 cases r <;> simp
theorem rN:(sizeLine:Nat)<2 ^ 63:=by rw[sizeLine_eq];decide
theorem eA:A3 X (fun x H Q=>∃ k,JL X.K x H k∧Q k H):=by
 intro pins s σ H x v Q I rx h
 obtain⟨k,e,q⟩:=h
 have hl:=rN
 have hs:sizeLine=16777216:=sizeLine_eq
 cases x with
 |non =>
  cases rx
  have e':k=false:=e
  subst e'
  exact truthy_none ⟨H,I,q⟩
 |bl b =>
  cases rx
  have e':k=b:=e
  subst e'
  exact wpAny_truthy_bool ⟨H,I,q⟩
 |int i =>
  obtain⟨t,rfl⟩:=rx
  have e':k=(i != 0):=e
  subst e'
  exact PySem.P.truthy_int ⟨H,I,q⟩
 |str y =>
  obtain⟨t,rfl⟩:=rx
  obtain⟨hy,e'⟩:y.length≤sizeLine∧k=((y.length:Int) != 0):=e
  subst e'
  exact PySem.P.truthy_str (by omega) ⟨H,I.tok _,q⟩
 |byt y =>
  obtain⟨t,rfl⟩:=rx
  obtain⟨hy,e'⟩:y.size≤sizeLine∧k=((y.size:Int) != 0):=e
  subst e'
  exact PySem.W.truthy_bytes (by omega) ⟨H,I.tok _,q⟩
 |ref p =>
  cases rx
  have e':(∃ xs,SqL X.K H p xs∧k=!xs.isEmpty)∨(∃ xs,SqT X.K H p xs∧k=!xs.isEmpty)∨∃ kvs,H p=some (.dK kvs)∧k=!kvs.isEmpty:=e
  rcases e' with⟨xs,hx,e'⟩|⟨xs,hx,e'⟩|⟨kvs,hx,e'⟩
  ·subst e'
   obtain⟨its,r,pl,hz⟩:=I.list hx
   have hlen:=r.length
   exact wpAny_truthy_list pl.isList (by simp only[List.size_toArray];omega) ⟨H,I.tok _,by rw[iM r];exact q⟩
  ·subst e'
   obtain⟨its,r,pl,hz⟩:=I.tuple hx
   have hlen:=r.length
   exact truthy_tuple pl (by simp only[List.size_toArray];omega) ⟨H,I.tok _,by rw[iM r];exact q⟩
  ·subst e'
   obtain⟨hz,hS,vs,r,m⟩:kvs.length≤sizeLine∧(p == sysModules)=false∧∃ vs,KV kvs vs∧s.heap.DictOf (yJ X.prog X.w) p vs:=I.hok p _ hx
   have hlen:kvs.length=vs.length:=Paired.length r
   exact wpAny_truthy_dict hS m (by omega) ⟨H,I.tok _,by rw[K4 r];exact q⟩
 |_=>exact(show False from e).elim
theorem KA:OpR X (binaryOp .Add) (fun x y H Q=>∃ i j,x=.str i∧y=.str j∧i.length+j.length≤sizeLine∧Q (.str (i++j)) H):=by
 intro pins s σ H x y v u Q I rx ry h
 obtain⟨i,j,rfl,rfl,hz,q⟩:=h
 obtain⟨t,rfl⟩:=rx
 obtain⟨t',rfl⟩:=ry
 exact add_str (fun t' tk=>⟨.str (i++j),H,I.tok _,⟨_,rfl⟩,q⟩) hz
theorem tR {x:V}{us:List Value}(r:qQ [x] us):∃ u,us=[u]∧qO x u:=by
 cases r with
 |cons r1 r2=>cases r2;exact⟨_,rfl,r1⟩
theorem KO {x y:V}{us:List Value}(r:qQ [x,y] us):∃ u w',us=[u,w']∧qO x u∧qO y w':=by
 cases r with
 |cons r1 r2 =>
  cases r2 with
  |cons r3 r4=>cases r4;exact⟨_,_,rfl,r1,r3⟩
theorem Z7:t8 X (.type "int") (fun xs H Q=>(∃ i,xs=[.int i]∧Q (.int i) H)∨∃ k,xs=[.bl k]∧Q (.int (if k then 1 else 0)) H):=by
 intro pins s σ H xs us Q I r h
 rcases h with⟨i,rfl,q⟩|⟨k,rfl,q⟩
 ·obtain⟨u,rfl,t,rfl⟩:=tR r
  exact call_int_int ⟨.int i,H,I,⟨_,rfl⟩,q⟩
 ·obtain⟨u,rfl,r1⟩:=tR r
  cases r1
  exact call_int_bool ⟨.int (if k then 1 else 0),H,I.tok _,⟨_,rfl⟩,q⟩
def D4 (K:PySem.W.Frag)(x:V)(H:Hp)(n:Nat):Prop:=
 match x with
 |.str y=>y.length≤sizeLine∧n=y.length
 |.byt y=>y.size≤sizeLine∧n=y.size
 |.ref p=>(∃ xs,SqL K H p xs∧n=xs.length)∨∃ xs,SqT K H p xs∧n=xs.length
 |_=>False
theorem BN:t8 X (.builtin "len") (fun xs H Q=>∃ x n,xs=[x]∧D4 X.K x H n∧Q (.int n) H):=by
 intro pins s σ H xs us Q I r h
 obtain⟨x,n,rfl,e,q⟩:=h
 obtain⟨u,rfl,rx⟩:=tR r
 have hl:=rN
 have hs:sizeLine=16777216:=sizeLine_eq
 cases x with
 |str y =>
  obtain⟨t,rfl⟩:=rx
  obtain⟨hy,e'⟩:y.length≤sizeLine∧n=y.length:=e
  subst e'
  exact len_str (by omega) ⟨.int _,H,I.tok _,⟨_,rfl⟩,q⟩
 |byt y =>
  obtain⟨t,rfl⟩:=rx
  obtain⟨hy,e'⟩:y.size≤sizeLine∧n=y.size:=e
  subst e'
  exact PySem.W.len_bytes (by omega) ⟨.int _,H,I.tok _,⟨_,rfl⟩,q⟩
 |ref p =>
  cases rx
  have e':(∃ xs,SqL X.K H p xs∧n=xs.length)∨∃ xs,SqT X.K H p xs∧n=xs.length:=e
  rcases e' with⟨xs,hx,e'⟩|⟨xs,hx,e'⟩
  ·subst e'
   obtain⟨its,r',pl,hz⟩:=I.list hx
   have hlen:=r'.length
   exact Calls.call_len_list pl.isList (by simp only[List.size_toArray];omega) ⟨.int xs.length,H,I.tok _,⟨_,by simp only[List.size_toArray];rw[hlen]⟩,q⟩
  ·subst e'
   obtain⟨its,r',pl,hz⟩:=I.tuple hx
   have hlen:=r'.length
   exact len_tuple pl (by simp only[List.size_toArray];omega) ⟨.int xs.length,H,I.tok _,⟨_,by simp only[List.size_toArray];rw[hlen]⟩,q⟩
 |_=>exact(show False from e).elim
end
end _L
namespace _L
open PySem PySem.Spec PyProof.Rows
structure ObjM (h:Heap)(x dx C:Addr)(mA:Str→Option Value):Prop where
 obj:h.get? x=some (PySem.W.instObj C dx)
 ns:h.Ns1 dx mA
 ne:dx≠x
set_option tactic.hygienic true in
theorem GY {h:Heap}{dx:Addr}{mA:Str→Option Value}(n:h.Ns1 dx mA):∃ od,h.get? dx=some od∧∀ name,PySem.W.lookIn name od=some (mA name):=by
 obtain⟨o,es,ep,ho,hd,hk,_,hm⟩:=n
 refine⟨o,ho,fun name=>?_⟩
 have e:=hm name
 unfold nsFind findBy at e
 rw[← Array.find?_toList] at e
 unfold PySem.W.lookIn
 rw[hd]
 dsimp only
 split
 ·rename_i y q
  rw[q] at e
  exact congrArg some e
 ·rename_i q
  rw[q] at e
  have a:es.toList.any (·.refKey)=false:=by
   rw[List.any_eq_false]
   intro y hy
   obtain⟨z,t,hkey⟩:=hk y (Array.mem_toList_iff.mp hy)
   simp[DictEntry.refKey,hkey]
  have a':¬ es.toList.any (·.refKey)=true:=by rw[a];exact Bool.false_ne_true
  rw[if_neg a']
  exact congrArg some e
theorem ObjM.look {h:Heap}{x dx C:Addr}{mA:Str→Option Value}(I:ObjM h x dx C mA):∃ od,PySem.W.InstAt h x (PySem.W.instObj C dx) C (some od)∧∀ name,PySem.W.lookIn name od=some (mA name):=
 let ⟨od,ho,hl⟩:=GY I.ns
 ⟨od,⟨I.obj,rfl,rfl,ho⟩,hl⟩
section
variable {P:Program}{w:World}{H H':Hp}{h h':Heap}{a C dx:Addr}{fs fs':List (Str × V)}
theorem NG (hok:HOk P w H h)(e:H a=some (.ins C dx fs)):∃ mA,ObjM h a dx C mA∧(∀ f,oK (fs.lookup f) (mA f))∧PySem.Within mA (fs.map (·.1))∧fs.length≤1000∧H dx=some (.own a):=by
 obtain⟨d,z,ne,ob,mA,n,r,q⟩:=(show xG P w H h a (.ins C dx fs) from hok a _ e)
 exact⟨mA,⟨ob,n,ne⟩,r,q,z,d⟩
end
structure Cls (K:PySem.W.Frag)(C:Addr):Prop where
 pg:PySem.W.plainGet K C Str.empty=true
 hd:PySem.W.hasDictIn K C=true
 po:PySem.W.plainOver K C=true
 sa:PySem.W.findIn K (.ref C) "__setattr__" = some (some (.builtin "object.__setattr__"))
theorem Cls.get {K:PySem.W.Frag}{C:Addr}(c:Cls K C)(f:Str):PySem.W.plainGet K C f=true:=c.pg
section
variable {X:Cx}{pins:List (Addr × Obj)}{σ : St}{H:Hp}{s:Shared}{A:Around}{E:Value→Shared→Prop}{Q:Value→Shared→Prop}{c:Value}{b:Bool}
inductive TyOf (K:PySem.W.Frag)(H:Hp):V→Value→Prop where
 |non:TyOf K H .non (.type "NoneType")
 |bl (x:Bool):TyOf K H (.bl x) (.type "bool")
 |int (i:Int):TyOf K H (.int i) (.type "int")
 |str (x:Str):TyOf K H (.str x) (.type "str")
 |flt (x:UInt64):TyOf K H (.flt x) (.type "float")
 |lst {a:Addr} {xs:List V} (e:H a=some (.lst xs)):TyOf K H (.ref a) (.type "list")
 |frz {a:Addr} {o:Obj} {xs:List V} (e:H a=some (.frz o (.lst xs))):TyOf K H (.ref a) (.type "list")
 |tup {a:Addr} {xs:List V} (e:H a=some (.tup xs)):TyOf K H (.ref a) (.type "tuple")
 |dK {a:Addr} {kvs:List (Key × V)} (e:H a=some (.dK kvs)):TyOf K H (.ref a) (.type "dict")
 |dT {a:Addr} {kvs:List (List Key × V)} (e:H a=some (.dT kvs)):TyOf K H (.ref a) (.type "dict")
 |ins {a C dx:Addr} {fs:List (Str × V)} (e:H a=some (.ins C dx fs)) (cl:Cls K C) (ha:PySem.W.findIn K (.ref C) "__class__" = some (some (.builtin "object.__class__")))
   (hn:PySem.W.specialIn K (.builtin "object.__class__") "__get__" = some (some (.builtin "getset_descriptor.__get__"))) (htk:PySem.W.takesIn K (.builtin "object.__class__")=some true)
   (hm:PySem.W.mroIn K C (.type "object")=some true):TyOf K H (.ref a) (.ref C)
theorem GQ {x:V}{u t:Value}(I:Inv X pins σ H s)(rx:qO x u)(ty:TyOf X.K H x t)(e:PySem.W.kitOne X.K t c=some b)(h:∀ tk,Q (.bool b) { s with toks:=tk }) :
  wpAny (model X.prog X.w) A (call (.builtin "isinstance") [u,c]) Q E s:=by
 cases ty with
 |non=>cases (show u=Value.none from rx);exact PySem.W.kia_one PySem.W.kitx_none I.kIn True.intro e (fun z=>nomatch z) h
 |bl y=>cases (show u=Value.bool y from rx);exact PySem.W.kia_one PySem.W.kitx_bool I.kIn True.intro e (fun z=>nomatch z) h
 |int i=>obtain⟨t,q⟩:=(show ∃ t,u=Value.int i t from rx);cases q;exact PySem.W.kia_one PySem.W.kitx_int I.kIn True.intro e (fun z=>nomatch z) h
 |str y=>obtain⟨t,q⟩:=(show ∃ t,u=Value.str y t from rx);cases q;exact PySem.W.kia_one PySem.W.kitx_str I.kIn True.intro e (fun z=>nomatch z) h
 |flt y=>obtain⟨t,q⟩:=(show ∃ t,u=Value.float y t from rx);cases q;exact PySem.W.kia_one PySem.W.kitx_float I.kIn True.intro e (fun z=>nomatch z) h
 |@lst a xs ea =>
  cases (show u=Value.ref a from rx)
  obtain⟨_,_,n,_,h1⟩:=(show xG X.prog X.w H s.heap a (.lst xs) from I.hok a _ ea)
  exact PySem.W.kia_one PySem.W.kitx_list I.kIn ⟨_,h1,rfl⟩ e (fun z=>nomatch z) h
 |@frz a ob xs ea =>
  cases (show u=Value.ref a from rx)
  obtain⟨_,_,_,n,_,h1⟩:=(show xG X.prog X.w H s.heap a (.frz ob (.lst xs)) from I.hok a _ ea)
  exact PySem.W.kia_one PySem.W.kitx_list I.kIn ⟨_,h1,rfl⟩ e (fun z=>nomatch z) h
 |@tup a xs ea =>
  cases (show u=Value.ref a from rx)
  obtain⟨_,_,_,p⟩:=(show xG X.prog X.w H s.heap a (.tup xs) from I.hok a _ ea)
  obtain⟨o,h1,h2,_⟩:=p
  exact PySem.W.kia_one PySem.W.kitx_tuple I.kIn ⟨o,h1,h2⟩ e (fun z=>nomatch z) h
 |@dK a kvs ea =>
  cases (show u=Value.ref a from rx)
  obtain⟨_,_,vs,_,p⟩:=(show xG X.prog X.w H s.heap a (.dK kvs) from I.hok a _ ea)
  obtain⟨o,es,ep,h1,h2,_⟩:=p
  exact PySem.W.kia_one PySem.W.kitx_dict I.kIn ⟨o,h1,h2.1⟩ e (fun z=>nomatch z) h
 |@dT a kvs ea =>
  cases (show u=Value.ref a from rx)
  obtain⟨_,_,xs,_,o,es,ep,h1,h2,_⟩:=(show xG X.prog X.w H s.heap a (.dT kvs) from I.hok a _ ea)
  exact PySem.W.kia_one PySem.W.kitx_dict I.kIn ⟨o,h1,h2.1⟩ e (fun z=>nomatch z) h
 |@ins a C dx fs ea cl ha hn htk hm =>
  cases (show u=Value.ref a from rx)
  obtain⟨mA,O,_⟩:=NG I.hok ea
  obtain⟨od,J,_⟩:=O.look
  exact PySem.W.kia_one (PySem.W.kitx_own (cl.get _) cl.hd ha hn htk hm) I.kIn J e (fun z=>nomatch z) h
end
end _L
namespace _L
open PySem PySem.Spec PyProof.Rows
structure Room (k:Nat)(A:Around):Prop where
 hd:A.handled=none
 dp:A.depth+3*k+5<recursionLimit
 un:A.units+16*k+200<cLine
 gd:A.guards=some []
theorem Room.deeper {k:Nat}{A:Around}(r:Room (k+1) A)(env:Env):Room k (A.deeper env):=
 ⟨r.hd,by have:=r.dp;show A.depth+1+3*k+5<_;omega,by have:=r.un;show A.units+3+16*k+200<_;omega,r.gd⟩
theorem Room.depth {k:Nat}{A:Around}(r:Room k A):A.depth<recursionLimit:=by have:=r.dp;omega
theorem Room.units {k:Nat}{A:Around}(r:Room k A):A.units+64<cLine:=by have:=r.un;omega
def AY:TA:=fun _ H Q=>Q [] H
section
variable {X:Cx}{e:Expr}{es:List Expr}{te:TE}{t:TA}{pos:Pos}
theorem E0:PA X [] AY:=fun _ _ _ _ H Q I h=>Calls.spliced_nil ⟨[],H,I,.nil,h⟩
def I9 (t:TA):TE:=fun σ H Q=>t σ H fun xs H1=>xs.length≤sizeLine∧∀ p,H1 p=none→Q (.ref p) (upd H1 p (.tup xs))
def AX (t:TA):TE:=fun σ H Q=>t σ H fun xs H1=>xs.length≤sizeLine∧∀ p,H1 p=none→Q (.ref p) (upd H1 p (.lst xs))
theorem E6 {x1} (h:PA X es t):PE X (.Tuple es x1 pos) (I9 t):=by
 intro pins s σ H Q I hq
 refine wpAny_Tuple_spliced (thn (h pos pins s σ H _ I hq) fun us s1 ⟨xs,H1,I1,r,z,q⟩=>⟨by rw[← r.length];exact z,?_⟩)
 have hf:H1 s1.heap.objs.size=none:=I1.hok.fresh (Nat.le_refl _)
 refine⟨.ref s1.heap.objs.size,upd H1 s1.heap.objs.size (.tup xs),I1.laid (t':=s1.toks) (fun b u e=>Heap.get?_push_of_some _ e) (Nat.le_refl _) ?_,rfl,q _ hf⟩
 exact⟨z,us,r,⟨_,Heap.get?_push_size _ rfl,rfl,_,rfl⟩⟩
theorem PM (h:PA X es t):PE X (.List es pos) (AX t):=by
 intro pins s σ H Q I hq
 refine wpAny_List_spliced (thn (h pos pins s σ H _ I hq) fun us s1 ⟨xs,H1,I1,r,z,q⟩=>⟨by rw[← r.length];exact z,?_⟩)
 have hf:H1 s1.heap.objs.size=none:=I1.hok.fresh (Nat.le_refl _)
 refine⟨.ref s1.heap.objs.size,upd H1 s1.heap.objs.size (.lst xs),I1.laid (t':=s1.toks) (fun b u e=>Heap.get?_push_of_some _ e) (Nat.le_refl _) ?_,rfl,q _ hf⟩
 exact⟨z,us,0,r,Heap.get?_push_size _ rfl⟩
end
abbrev Sp:=List V→Hp→VK→XK→Prop
abbrev CXT:=List Env→Hp→Shared→XK→Value→Shared→Prop
structure Env0 (P:Program)(w:World)(K:PySem.W.Frag)(mg:Str→Option Value)(base:Heap)(A:Around)(outer:List Env)(s:Shared)(H:Hp):Prop where
 frames:A.frames=some outer
 mod:Mod K mg base
 bs:∀ b o,base.get? b=some o→s.heap.get? b=some o∧H b=none
 bsz:base.objs.size≤s.heap.objs.size
 funs:s.heap.FunFrames base outer
 frf:∀ b∈frs outer,H b=none
 hok:HOk P w H s.heap
 bare:AllBare s.gens
def CE (outer:List Env)(P:Program)(w:World)(H:Hp)(s:Shared)(Q:VK)(u:Value)(s':Shared):Prop:=
 ∃ v H',s'.os=s.os∧AllBare s'.gens∧Un (frs outer) [] H H' s.heap s'.heap∧HOk P w H' s'.heap∧qO v u∧Q v H'
def CR (CX:CXT)(outer:List Env)(P:Program)(w:World)(H:Hp)(s:Shared)(Q:VK)(E:XK)(r:Result)(s':Shared):Prop:=
 match r with
 |.ok (.ret u)=>CE outer P w H s Q u s'
 |.ok _=>False
 |.error e=>CX outer H s E e s'
structure FnOk (P:Program)(w:World)(K:PySem.W.Frag)(mg:Str→Option Value)(base:Heap)(CX:CXT)(k:Nat)(f:Addr)(fd:FuncData)(ps:List Str)(sp:Sp):Prop where
 len:∀ vs H Q E,sp vs H Q E→vs.length=ps.length
 run:∀ (A:Around) (outer:List Env) (s:Shared) (H:Hp) (args:Args) (us:List Value) (vs:List V) (Q:VK) (E:XK),Room k A→Env0 P w K mg base A outer s H→BindsTo s fd args (ps.zip us)→qQ vs us→sp vs H Q E →
  codeAny (model P w) A (.call (.ref f) args) (CR CX outer P w H s Q E) s
section
variable {X:Cx}{pins:List (Addr × Obj)}{σ : St}{H:Hp}{s s':Shared}
theorem Inv.env0 (I:Inv X pins σ H s):Env0 X.prog X.w X.K X.mg X.base X.A X.stack s H:=
 ⟨I.ok.frames,I.ok.mod,I.bs,Nat.le_trans I.ok.bsz I.sz,I.stack,I.stkFree,I.hok,I.bare⟩
theorem Inv.after {Q:VK}{u:Value}(I:Inv X pins σ H s)(h:CE X.stack X.prog X.w H s Q u s'):EP X pins σ Q u s':=by
 obtain⟨v,H',os,bare,un,hok,r,q⟩:=h
 obtain⟨hh,g,d,t,os'⟩:=s'
 obtain rfl:os'=s.os:=os
 exact⟨v,H',I.call (h':=hh) (g':=g) (d':=d) (t':=t) (ch:=[]) un hok bare (fun b z=>absurd z (by simp)),r,q⟩
end
def fD (K:PySem.W.Frag)(fd:FuncData)(ps:List Str)(ds:List Value):Prop:=
 ∀ (s:Shared) (us:List Value),K.In s.heap→(us++ds).length=ps.length→BindsTo s fd ⟨us,[]⟩ (ps.zip (us++ds))
theorem fD.all {K:PySem.W.Frag}{fd:FuncData}{ps:List Str}(h:∀ us:List Value,us.length=ps.length→bindArgs fd ⟨us,[]⟩=pure (ps.zip us)):fD K fd ps []:=fun s us _ hl=>by
 rw[List.append_nil] at hl ⊢
 exact .of_eq (h us hl)
structure FnScope (N P:List Str)(sc:Scope):Prop where
 kind:sc.kind=.function
 co:sc.isCoroutine=false
 gen:sc.isGenerator=false
 nd:N.Nodup
 pre:N.take P.length=P
 par:∀ x∈P,sc.names.lookup x=some .local ∨ sc.names.lookup x=some .cell
 nofree:∀ y∈sc.names,y.2≠.free
theorem Z5 {kindOf:Str→Option NameKind}{x:Str}:∀ {binds:List (Str × Value)} {m:Str→Option Value},(∀ v,(x,v) ∉ binds)→bindL kindOf binds m x=m x
 |[],_,_=>rfl
 |(n,v)::r,m,h=>by
  unfold bindL
  rw[Z5 fun w hw=>h w (List.mem_cons_of_mem _ hw)]
  split
  ·have:x≠n:=by rintro rfl;exact h v List.mem_cons_self
   simp[this]
  ·rfl
theorem Z3 {kindOf:Str→Option NameKind}{x:Str}:∀ {binds:List (Str × Value)} {m:Str→Option Value},(∀ v,(x,v) ∉ binds)→bindC kindOf binds m x=m x
 |[],_,_=>rfl
 |(n,v)::r,m,h=>by
  unfold bindC
  rw[Z3 fun w hw=>h w (List.mem_cons_of_mem _ hw)]
  split
  ·rfl
  ·have:x≠n:=by rintro rfl;exact h v List.mem_cons_self
   simp[this]
theorem Z4 {kindOf:Str→Option NameKind}{x:Str}{v:Value}:∀ {P:List Str} {vs:List Value} {i:Nat} {m:Str→Option Value},P.Nodup→P[i]? = some x→vs[i]? = some v→kindOf x=some .local →
  bindL kindOf (P.zip vs) m x=some v
 |[],_,_,_,_,h,_,_=>by simp at h
 |_::_,[],_,_,_,_,h,_=>by simp at h
 |p::P,w::vs,0,m,nd,h1,h2,hk=>by
  simp at h1 h2;subst h1;subst h2
  show bindL kindOf ((p,w)::P.zip vs) m p=_
  unfold bindL
  rw[Z5 fun v hv=>(List.nodup_cons.mp nd).1 (List.of_mem_zip hv).1,if_pos hk]
  simp
 |p::P,w::vs,i+1,m,nd,h1,h2,hk=>by
  show bindL kindOf ((p,w)::P.zip vs) m x=_
  unfold bindL
  exact Z4 (i:=i) (List.nodup_cons.mp nd).2 (by simpa using h1) (by simpa using h2) hk
theorem Z2 {kindOf:Str→Option NameKind}{x:Str}{v:Value}:∀ {P:List Str} {vs:List Value} {i:Nat} {m:Str→Option Value},P.Nodup→P[i]? = some x→vs[i]? = some v→kindOf x≠some .local →
  bindC kindOf (P.zip vs) m x=some v
 |[],_,_,_,_,h,_,_=>by simp at h
 |_::_,[],_,_,_,_,h,_=>by simp at h
 |p::P,w::vs,0,m,nd,h1,h2,hk=>by
  simp at h1 h2;subst h1;subst h2
  show bindC kindOf ((p,w)::P.zip vs) m p=_
  unfold bindC
  rw[Z3 fun v hv=>(List.nodup_cons.mp nd).1 (List.of_mem_zip hv).1,if_neg hk]
  simp
 |p::P,w::vs,i+1,m,nd,h1,h2,hk=>by
  show bindC kindOf ((p,w)::P.zip vs) m x=_
  unfold bindC
  exact Z2 (i:=i) (List.nodup_cons.mp nd).2 (by simpa using h1) (by simpa using h2) hk
def uQ (N:List Str)(vs:List V):St:=vs.map some++List.replicate (N.length-vs.length) none
def oQ (CX:CXT)(P:Program)(w:World)(K:PySem.W.Frag)(mg:Str→Option Value)(base:Heap)(N:List Str)(qual:Str)(scope:Scope)(f:Addr)(cd:Value)(A:Around)(outer:List Env)(s:Shared)(H:Hp)(E:XK):Cx where
 prog:=P
 w:=w
 K:=K
 mg:=mg
 base:=base
 A:=A.deeper (envOfC qual scope s.heap.objs.size f cd)
 N:=N
 s₀:=s
 H₀:=H
 env:=envOfC qual scope s.heap.objs.size f cd
 outer:=outer
 stack:=envOfC qual scope s.heap.objs.size f cd::outer
 ex:=[]
 calm:=true
 fn:=fun _=>true
 pn:=[]
 xe:=fun e s'=>wpAny (model P w) (A.deeper (envOfC qual scope s.heap.objs.size f cd)) (leaving (envOfC qual scope s.heap.objs.size f cd) e) (fun _ s''=>CX outer H s E e s'') (fun e' s''=>CX outer H s E e' s'') s'
theorem WB {sc:Scope}{n:Nat}{x:Str}(h:sc.names.lookup x=some .cell):∃ c,(cellsFrom n sc.names []).lookup x=some c:=by
 have q:=PySem.W.cellsFrom_some sc.names n [] (.inl h)
 exact Option.isSome_iff_exists.mp q
theorem ZI {CX:CXT}{P:Program}{w:World}{K:PySem.W.Frag}{mg:Str→Option Value}{base:Heap}{N ps:List Str}{qual:Str}{scope:Scope}{f:Addr}{cd:Value}{A:Around}{outer:List Env}{s s1:Shared}{H:Hp}{E:XK}{us:List Value}{vs:List V}
  (S:FnScope N ps scope) (hd:A.handled=none) (e0:Env0 P w K mg base A outer s H) (hl:vs.length=ps.length) (r:qQ vs us)
  (x:InCallC s s.heap.objs.size (bindL (envOfC qual scope s.heap.objs.size f cd).kindOf (ps.zip us) fun _=>none) (cellsFrom (s.heap.objs.size+1) scope.names []) (bindC (envOfC qual scope s.heap.objs.size f cd).kindOf (ps.zip us) fun _=>none) s1) :
  Inv (oQ CX P w K mg base N qual scope f cd A outer s H E) [] (uQ N vs) H s1:=by
 have hpl:ps.length≤N.length:=by have:=congrArg List.length S.pre;rw[List.length_take] at this;omega
 obtain⟨h1,tk,rfl,hk⟩:=x.done
 have noA:∀ b:Addr,b ∉ (oQ CX P w K mg base N qual scope f cd A outer s H E).ex:=fun b z=>absurd (show b∈([]:List Addr) from z) (by simp)
 refine⟨⟨e0.mod,S.kind,rfl,rfl,Nat.le_refl _,fun y z c h1 h2=>?_,fun y hy=>?_,fun y c _ h=>?_,fun _=>hd,Around.frames_deeper e0.frames,.inr ⟨rfl,rfl⟩,fun b z=>absurd z (noA b),e0.bs,e0.bsz,fun b _ _=>noA b,fun b z=>absurd z (noA b),e0.funs,e0.frf⟩,
  rfl,e0.bare,Un.kept hk,⟨_,x.toInCall.ns,fun i y v h1 h2 h3=>?_⟩,fun y c h=>⟨_,x.cell y c h⟩,e0.hok.fresh (Nat.le_refl _),fun y c h=>?_,fun p hp=>absurd (show p∈([]:List (Addr × Obj)) from hp) (by simp),e0.hok.kept hk,?_⟩
 ·exact name_of_addr x.apart (PySem.mem_of_lookup h1) (PySem.mem_of_lookup h2)
 ·have hy:scope.names.lookup y=some .cell∨scope.names.lookup y=some .free:=hy
  rcases hy with hy|hy
  ·exact WB hy
  ·exact absurd rfl (S.nofree _ (PySem.mem_of_lookup hy))
 ·exact Nat.le_of_lt (x.above y c (PySem.mem_of_lookup h))
 ·have hi:i<vs.length:=by
   unfold uQ at h2
   by_cases hi:i<vs.length
   ·exact hi
   ·rw[List.getElem?_append_right (by simpa using hi)] at h2
    rw[List.getElem?_replicate] at h2
    split at h2 <;> cases h2
  have ha:vs[i]? = some v:=by
   unfold uQ at h2
   rw[List.getElem?_append_left (by simpa using hi),List.getElem?_map] at h2
   cases e:vs[i]? with
   |none=>rw[e] at h2;cases h2
   |some a=>rw[e] at h2;cases h2;rfl
  obtain⟨u,hu,rv⟩:=r.get ha
  have hp:ps[i]? = some y:=by
   rw[← S.pre,List.getElem?_take_of_lt (by omega)];exact h1
  have ndP:ps.Nodup:=by rw[← S.pre];exact S.nd.sublist (List.take_sublist _ _)
  refine⟨u,rv,?_⟩
  rcases S.par y (List.mem_of_getElem? hp) with k|k
  ·exact .inl ⟨k,Z4 ndP hp hu k⟩
  ·obtain⟨c,e⟩:=WB (n:=s.heap.objs.size+1) k
   refine .inr ⟨.inl k,c,e,?_⟩
   have q:=x.cell y c e
   rw[Z2 ndP hp hu (by show scope.names.lookup y≠_;rw[k];decide)] at q
   exact q
 ·exact e0.hok.fresh (Nat.le_of_lt (x.above y c (PySem.mem_of_lookup h)))
 ·unfold uQ
  show _=N.length
  rw[List.length_append,List.length_map,List.length_replicate]
  omega
theorem HN {CX:CXT}{P:Program}{w:World}{K:PySem.W.Frag}{mg:Str→Option Value}{base:Heap}{k:Nat}{f:Addr}{name qual:Str}{params:Arguments}{body:List Stmt}{scope:Scope}{dV kV doc pm cdv ct oc:Value}{an od:Option Addr}
  {osl:Array (Option Value)} {N ps:List Str} {sp:Sp} (lk:K.lookup f=some ⟨oc,od,.func (PySem.W.fnOf name qual params body scope dV kV doc pm an cdv ct),osl⟩) (hcd:PySem.W.codeIn K cdv qual=true) (S:FnScope N ps scope)
  (len:∀ vs H Q E,sp vs H Q E→vs.length=ps.length)
  (hbody:∀ (A:Around) (outer:List Env) (s:Shared) (H:Hp) (vs:List V) (Q:VK) (E:XK),Room k (A.deeper (envOfC qual scope s.heap.objs.size f cdv))→sp vs H Q E →
   ∃ t,PSs (oQ CX P w K mg base N qual scope f cdv A outer s H E) body t∧t { nx:=fun _ H'=>Q .non H',rt:=Q } (uQ N vs) H) :
  FnOk P w K mg base CX (k+1) f (PySem.W.fnOf name qual params body scope dV kV doc pm an cdv ct) ps sp:=by
 refine⟨len,fun A outer s H args us vs Q E hr e0 hb r hsp=>?_⟩
 have hl:=len _ _ _ _ hsp
 have KX:K.In s.heap:=e0.mod.kin.keeps fun b o e=>(e0.bs b o e).1
 have lim:s.heap.NoLimit:=e0.mod.nolimit.keeps fun b o e=>(e0.bs b o e).1
 have hkind:∀ y∈ps.zip us,scope.names.lookup y.1=some .local ∨ (scope.names.lookup y.1=some .cell∧((cellsFrom (s.heap.objs.size+1) scope.names []).lookup y.1).isSome=true):=fun ⟨n,v⟩ hy=>by
  rcases S.par n (List.of_mem_zip hy).1 with q|q
  ·exact .inl q
  ·exact .inr ⟨q,PySem.W.cellsFrom_some _ _ _ (.inl q)⟩
 refine codeAny_call_function hr.depth (KX _ _ lk) rfl S.co S.gen rfl (PySem.W.codeRec_of KX hcd) (hb _ _ _ _ ?_)
 refine wpAny_newFunctionEnv_cells S.kind hkind fun env he s1 x=>?_
 subst he
 refine⟨lim.keeps x.toInCall.keep,codeAny_func ?_⟩
 obtain⟨t,ht,hq⟩:=hbody A outer s H vs Q E (hr.deeper _) hsp
 have I:Inv (oQ CX P w K mg base N qual scope f cdv A outer s H E) [] (uQ N vs) H s1:=ZI S hr.hd e0 hl r x
 refine wpAny_mono (ht [] s1 (uQ N vs) H _ I hq) (fun fl s' hs=>?_) fun e s' hs=>hs
 have fin:∀ {σ' : St} {H':Hp} {v:V} {u:Value},Inv (oQ CX P w K mg base N qual scope f cdv A outer s H E) [] σ' H' s'→qO v u→Q v H'→CE outer P w H s Q u s':=
  fun {σ' H' v u} J rv q=>⟨v,H',J.os,J.bare,J.base,J.hok,rv,q⟩
 cases fl with
 |ret u =>
  obtain⟨v,σ',H',J,rv,q⟩:=hs
  exact fin J rv q
 |next =>
  obtain⟨σ',H',J,q⟩:=hs
  exact fin (v:=V.non) (u:=Value.none) J rfl q
 |brk =>
  obtain⟨_,_,_,q⟩:=hs
  exact False.elim q
 |cont =>
  obtain⟨_,_,_,q⟩:=hs
  exact False.elim q
end _L
namespace _H
open PySem PyProof.Rows
def lexLt:List Int→List Int→Bool
 |[],[]=>false
 |[],_::_=>true
 |_::_,[]=>false
 |x::xs,y::ys=>if x=y then lexLt xs ys else decide (x<y)
theorem lexLt_cons (x y:Int)(xs ys:List Int):lexLt (x::xs) (y::ys)=if x=y then lexLt xs ys else decide (x<y):=rfl
theorem XD:lexLt [] []=false:=rfl
theorem Q7 (y:Int)(ys:List Int):lexLt [] (y::ys)=true:=rfl
theorem Q6 (x:Int)(xs:List Int):lexLt (x::xs) [] = false:=rfl
theorem FF (A:Around)(s:Shared)(a:Int)(t:Tok)(c:Int)(u:Tok):∃ e,SeqAt.EqAt A s (.int a t) (.int c u) e∧(e=true↔a=c):=
 ⟨(a == c),SeqAt.EqAt.int_int a t c u,by simp⟩
theorem M6 (A:Around)(s:Shared)(a:Int)(t:Tok)(c:Int)(u:Tok)(prog:Program)(w:World)(E:Value→Shared→Prop)(Q:Value→Shared→Prop)(h:Q (.bool (decide (a<c))) s) :
  wpAny (model prog w) A (richCompare .Lt (.int a t) (.int c u)) Q E s:=
 (PyProof.Rows.lt_int h:wpAny (model prog w) A (compareOp .Lt (.int a t) (.int c u)) Q E s)
section
open PySem.SeqAt
open PySem.AutoSeq1 (wpAny_loadPart')
open PySem.MeetsSeq PySem.MeetsSeq2 PySem.MeetsSeq3
theorem XR (l b:Addr)(items items2:Array Value)(n n2:Nat)(dd dd2:Option Addr)(sl sl2:Array (Option Value))(ns ms:List Int)(hi:IntsAre items.toList ns)(hj:IntsAre items2.toList ms) :
  Meets (Builtin.«tuple.__lt__» ⟨[.ref l,.ref b],[]⟩)
   (fun _ R s=>s.heap.get? l=some { cls:=.type "tuple",dict:=dd,data:=.seq items n,slots:=sl } ∧ s.heap.get? b=some { cls:=.type "tuple",dict:=dd2,data:=.seq items2 n2,slots:=sl2 } ∧
    R (.ok (.ret (.bool (lexLt ns ms)))) s):=
 .of_wp fun prog w A R s h=>by
  obtain⟨hp,g,d,tk,os⟩:=s;obtain⟨hl,hb,h⟩:=h
  have f2:=AutoSeq1.sub_tuple_tuple
  have z1:items.size=ns.length:=by rw[← hi.length];simp
  have z2:items2.size=ms.length:=by rw[← hj.length];simp
  wp_walk using wpAny_loadPart' hl,wpAny_loadPart' hb,wpAny_forIn_list _ (fun rest b s'=>b.1=none∧s'=⟨hp,g,d,tk,os⟩∧∃ (vs ws:List Value) (ns' ms':List Int),rest=vs.zip ws ∧
   IntsAre vs ns'∧IntsAre ws ms'∧ns'.length+items2.size=ms'.length+items.size∧R (.ok (.ret (.bool (lexLt ns' ms')))) ⟨hp,g,d,tk,os⟩) _
  case turn =>
   rintro⟨y,x⟩ rest b s' ⟨hb',rfl,vs,ws,ns',ms',hz,hvi,hwi,hlen,hR⟩
   cases hvi with
   |nil=>rw[List.zip_nil_left] at hz;cases hz
   |cons a t hvi' =>
    cases hwi with
    |nil=>rw[List.zip_nil_right] at hz;cases hz
    |cons c u hwi' =>
     rw[List.zip_cons_cons] at hz
     injection hz with hyx hrest
     injection hyx with hy hx
     subst hy hx
     rw[lexLt_cons] at hR
     simp only[List.length_cons] at hlen
     obtain⟨e,he,hiff⟩:=FF A.in1 ⟨hp,g,d,tk,os⟩ a t c u
     refine wpAny_bind (he prog w _ _ ?_)
     cases e with
     |true =>
      rw[if_pos (hiff.mp rfl)] at hR
      wp_walk
      exact⟨rfl,rfl,_,_,_,_,hrest,hvi',hwi',by omega,hR⟩
     |false =>
      rw[if_neg (fun q=>absurd (hiff.mpr q) Bool.false_ne_true)] at hR
      have hri:=M6 A.in1 ⟨hp,g,d,tk,os⟩ a t c u prog w
      wp_walk using hri
      exact⟨_,rfl,by simpa using hR⟩
  case fin =>
   rintro⟨b1,b2⟩ s' ⟨hb',rfl,vs,ws,ns',ms',hz,hvi,hwi,hlen,hR⟩
   simp only at hb'
   subst hb'
   have hv:lexLt ns' ms'=decide (items.size<items2.size):=by
    cases hvi with
    |nil =>
     cases hwi with
     |nil =>
      simp only[List.length_nil] at hlen
      rw[XD]
      exact(decide_eq_false (by omega)).symm
     |cons c u hw =>
      simp only[List.length_nil,List.length_cons] at hlen
      rw[Q7]
      exact(decide_eq_true (by omega)).symm
    |cons a t hv =>
     cases hwi with
     |nil =>
      simp only[List.length_nil,List.length_cons] at hlen
      rw[Q6]
      exact(decide_eq_false (by omega)).symm
     |cons c u hw =>
      rw[List.zip_cons_cons] at hz
      cases hz
   rw[hv] at hR
   wp_walk
   exact⟨_,rfl,by simpa [Builtin.Tuple.tupleCompareSizes] using hR⟩
  case h =>
   exact⟨rfl,rfl,items.toList,items2.toList,ns,ms,rfl,hi,hj,by omega,h⟩
end
section
variable {prog:Program}{w:World}{A:Around}{E:Value→Shared→Prop}{s:Shared}
theorem lt_tupInts {l b:Addr}{items items2:Array Value}{ns ms:List Int}{Q:Value→Shared→Prop}(hl:IsTup s.heap l items)(hb:IsTup s.heap b items2)(hi:IntsAre items.toList ns)(hj:IntsAre items2.toList ms)
  (hu:A.units<cLine) (h:Q (.bool (lexLt ns ms)) s):wpAny (model prog w) A (compareOp .Lt (.ref l) (.ref b)) Q E s:=by
 obtain⟨⟨cls,dd,data,sl⟩,ho,hc,n,hd⟩:=id hl
 obtain⟨⟨cls2,dd2,data2,sl2⟩,ho2,hc2,n2,hd2⟩:=id hb
 simp only at hc hd hc2 hd2
 subst hc hd hc2 hd2
 exact richCompare_meets_room (op:=.Lt) ⟨_,ho,rfl⟩ ⟨_,ho2,rfl⟩ PySem.F.slot_tuple_lt PySem.F.entry_tuple_lt (PySem.F.args_tuple_lt_2 _ _) (XR l b items items2 n n2 dd dd2 sl sl2 ns ms hi hj)
  ⟨ho,ho2,show Value.bool (lexLt ns ms)≠Value.notImplemented∧Q (.bool (lexLt ns ms)) s from⟨(fun x=>nomatch x),h⟩⟩ hu
theorem cat_tup {t b:Addr}{vs ws:List Value}{Q:Value→Shared→Prop}(ht:IsTup s.heap t vs.toArray)(hb:IsTup s.heap b ws.toArray)(hv:vs≠[])
  (h1:ws=[]→Q (.ref t) s) (h2:ws≠[]→Q (.ref s.heap.objs.size) { s with heap:=s.heap.push { cls:=.type "tuple",data:=.seq (vs++ws).toArray } })
  (hsz:vs.length+ws.length≤sizeLine):wpAny (model prog w) A (binaryOp .Add (.ref t) (.ref b)) Q E s:=by
 obtain⟨⟨cls,dd,data,sl⟩,ho,hc,n,hd⟩:=id ht
 obtain⟨⟨cls2,dd2,data2,sl2⟩,ho2,hc2,n2,hd2⟩:=id hb
 simp only at hc hd hc2 hd2
 subst hc hd hc2 hd2
 have e:vs.toArray++ws.toArray=(vs++ws).toArray:=by simp
 by_cases hw:ws=[]
 ·exact concat_meets ⟨_,ho,rfl⟩ ⟨_,ho2,rfl⟩ noFill_tuple_add seq_tuple_add PySem.F.slot_tuple_add PySem.F.entry_tuple_add (PySem.F.args_tuple_add_2 _ _)
   (tuple_addW1 t b vs.toArray ws.toArray n n2 dd dd2 sl sl2 (by simpa using hv) (by simp[hw])) ⟨ho,ho2,h1 hw⟩
 ·refine concat_meets ⟨_,ho,rfl⟩ ⟨_,ho2,rfl⟩ noFill_tuple_add seq_tuple_add PySem.F.slot_tuple_add PySem.F.entry_tuple_add (PySem.F.args_tuple_add_2 _ _)
   (tuple_addW2 t b vs.toArray ws.toArray n n2 dd dd2 sl sl2 (by simpa using hv) (by simpa using hw) (by rw[List.size_toArray,List.size_toArray];exact hsz)) ⟨ho,ho2,?_⟩
  rw[e]
  exact h2 hw
def sIx (n d:Nat):Option Int→Nat
 |none=>d
 |some v=>if v<0 then (v+(n:Int)).toNat else min v.toNat n
theorem EK (n d:Nat)(hd:d≤n)(o:Option Int):sIx n d o≤n:=by
 cases o with
 |none=>exact hd
 |some v =>
  show (if v<0 then (v+(n:Int)).toNat else min v.toNat n)≤n
  by_cases hv:v<0
  ·rw[if_pos hv];omega
  ·rw[if_neg hv];exact Nat.min_le_right _ _
theorem UC (v:Int)(n d:Nat):(if v<0 then max (v+(n:Int)) 0 else min v (n:Int))=((sIx n d (some v):Nat):Int):=by
 show (if v<0 then max (v+(n:Int)) 0 else min v (n:Int))=(((if v<0 then (v+(n:Int)).toNat else min v.toNat n):Nat):Int)
 by_cases hv:v<0
 ·simp only[if_pos hv];omega
 ·simp only[if_neg hv];omega
theorem JN (lo hi:Option Int)(n:Nat):Builtin.Slice.sliceAdjust lo hi 1 (n:Int)=(((sIx n 0 lo:Nat):Int),((sIx n n hi:Nat):Int)):=by
 have h1:¬ ((1:Int)<0):=by omega
 unfold Builtin.Slice.sliceAdjust
 simp only[h1,if_false]
 refine Prod.ext ?_ ?_
 ·cases lo with
  |none=>rfl
  |some v=>exact UC v n 0
 ·cases hi with
  |none=>rfl
  |some v=>exact UC v n n
theorem KD (i j:Nat):Builtin.Slice.slicePlaces (i:Int) (j:Int) 1=j-i:=by
 unfold Builtin.Slice.slicePlaces
 have h1:(1:Int)>0:=by omega
 simp only[h1,if_true,Int.ediv_one]
 split <;> omega
theorem oD {v:Value}{o:Option Int}{Q:Option Int→Shared→Prop}(p:IsPart v o)(h:Q o s):wpAny (model prog w) A (Builtin.Slice.slicePartIndex v) Q E s:=by
 cases p with
 |none=>exact slicePart_none h
 |int i t=>exact slicePart_int h
theorem mZ {sl:Addr}{vl vu:Value}{lo hi:Option Int}{n:Nat}{Q:Int × Int × Nat→Shared→Prop}(hs:s.heap.IsSliceOf sl vl vu .none)(pl:IsPart vl lo)(pu:IsPart vu hi)
  (h:Q (((sIx n 0 lo:Nat):Int),1,sIx n n hi-sIx n 0 lo) s):wpAny (model prog w) A (Builtin.Slice.sliceApplied (.ref sl) (pure (n:Int))) Q E s:=by
 obtain⟨os,hos,hcs,hds⟩:=id hs
 unfold Builtin.Slice.sliceApplied Builtin.Slice.sliceFields
 refine wpAny_bind (wpAny_bind (wpAny_field hos hds (x:=vl) rfl (wpAny_bind (wpAny_field hos hds (x:=vu) rfl (wpAny_bind (wpAny_field hos hds (x:=.none) rfl (wpAny_pure ?_)))))))
 refine wpAny_bind (slicePart_none ?_)
 show wpAny _ _ (if ((1:Int) == 0)=true then _ else _) _ _ s
 rw[if_neg (by decide)]
 refine wpAny_bind (oD pl (wpAny_bind (oD pu (wpAny_bind (wpAny_pure ?_)))))
 show wpAny _ _ (match Builtin.Slice.sliceAdjust lo hi 1 (n:Int) with|(lo,hi)=>pure (lo,(1:Int),Builtin.Slice.slicePlaces lo hi 1)) _ _ s
 rw[JN lo hi n]
 show wpAny _ _ (pure (((sIx n 0 lo:Nat):Int),(1:Int),Builtin.Slice.slicePlaces ((sIx n 0 lo:Nat):Int) ((sIx n n hi:Nat):Int) 1)) _ _ s
 rw[KD]
 exact wpAny_pure h
theorem M0 (xs:Array Value)(i k:Nat):((List.range k).filterMap fun (m:Nat)=>xs[((i:Int)+(m:Int)*1).toNat]?).toArray=((xs.toList.drop i).take k).toArray:=by
 have e:(fun (m:Nat)=>xs[((i:Int)+(m:Int)*1).toNat]?)=fun m=>xs[i+m]?:=by
  funext m
  have:((i:Int)+(m:Int)*1).toNat=i+m:=by omega
  rw[this]
 rw[e]
 have:=pick_run xs i k
 rw[List.filterMap_map] at this
 have e2:((fun x=>xs[x]?)∘fun x=>i+x)=fun m=>xs[i+m]?:=rfl
 rw[e2] at this
 rw[this]
theorem getItem_tuple_cut {t sl:Addr}{items:Array Value}{vl vu:Value}{lo hi:Option Int}{Q:Value→Shared→Prop}(ht:IsTup s.heap t items)(hs:s.heap.IsSliceOf sl vl vu .none)(pl:IsPart vl lo)(pu:IsPart vu hi)
  (hw:¬ (sIx items.size 0 lo=0∧sIx items.size items.size hi=items.size))
  (h:Q (.ref s.heap.objs.size) { s with heap:=s.heap.push { cls:=.type "tuple",data:=.seq ((items.toList.drop (sIx items.size 0 lo)).take (sIx items.size items.size hi-sIx items.size 0 lo)).toArray } })
  (hsz:items.size≤sizeLine):wpAny (model prog w) A (getItem (.ref t) (.ref sl)) Q E s:=by
 have htake:sizeOk (.seq ((items.toList.drop (sIx items.size 0 lo)).take (sIx items.size items.size hi-sIx items.size 0 lo)).toArray):=by
  show ((items.toList.drop (sIx items.size 0 lo)).take (sIx items.size items.size hi-sIx items.size 0 lo)).toArray.size≤sizeLine
  rw[List.size_toArray,List.length_take,List.length_drop,Array.length_toList]
  omega
 have hj:sIx items.size items.size hi≤items.size:=EK _ _ (Nat.le_refl _) hi
 obtain⟨os,hos,hcs,hds⟩:=id hs
 have hTs:s.TypeIs (.ref sl) "slice":=⟨os,hos,hcs⟩
 unfold getItem
 try with_reducible refine wpAny_holding ?_
 first|refine wpAny_bind (wpAny_pure ?_)|skip
 refine wpAny_bind (wpAny_sequenceKey ht.typeIs (by decide) ?_)
 refine wpAny_bind (wpAny_callSpecial?_slot (name:=Str.ofString "__getitem__") ht.typeIs PyProof.Rows.slot_tuple_getitem
  (wpAny_call_entry PyProof.Rows.slot_tuple_getitem ht.typeIs entry_tuple_getitem ?_ (args_tuple_getitem _ _)))
 show wpAny _ _ (Builtin.Tuple.tupleItemsOf (.ref t) >>= _) _ _ s
 refine wpAny_bind (tupleItemsOf_ ht ?_)
 refine wpAny_bind (wpAny_typeOf hTs ?_)
 rw[if_pos (by decide)]
 refine wpAny_bind (mZ hs pl pu ?_)
 have hno:¬ ((((sIx items.size 0 lo:Nat):Int) == 0&&(1:Int) == 1&&(sIx items.size items.size hi-sIx items.size 0 lo) == items.size)=true):=by
  intro q
  rw[Bool.and_eq_true,Bool.and_eq_true] at q
  have q1:((sIx items.size 0 lo:Nat):Int)=0:=eq_of_beq q.1.1
  have q2:sIx items.size items.size hi-sIx items.size 0 lo=items.size:=eq_of_beq q.2
  exact hw ⟨by omega,by omega⟩
 show wpAny _ _ (if (((sIx items.size 0 lo:Nat):Int) == 0&&(1:Int) == 1&&(sIx items.size items.size hi-sIx items.size 0 lo) == items.size)=true then _ else _) _ _ s
 rw[if_neg hno,M0]
 first
  |exact wpAny_bind (m:=Builtin.Tuple.tupleExact _) (wpAny_newObj_type (wpAny_pure ⟨_,rfl,wpAny_pure h⟩) htake)
  |exact wpAny_bind (m:=Builtin.Tuple.tupleExact _) (wpAny_newObj_type (wpAny_bind (wpAny_pure (wpAny_pure ⟨_,rfl,wpAny_pure h⟩))) htake)
  |exact wpAny_bind (wpAny_bind (m:=Builtin.Tuple.tupleExact _) (wpAny_newObj_type (wpAny_pure (wpAny_pure ⟨_,rfl,wpAny_pure h⟩)) htake))
  |exact wpAny_bind (wpAny_bind (m:=Builtin.Tuple.tupleExact _) (wpAny_newObj_type (wpAny_pure ⟨_,rfl,wpAny_pure h⟩) htake))
end
end _H
namespace _L
open PySem PySem.Spec PyProof.Rows
abbrev TO:=St→Hp→(Option Int→Hp→Prop)→Prop
def PO (X:Cx)(e:Option Expr)(t:TO):Prop:=
 ∀ (pins:List (Addr × Obj)) (s:Shared) (σ : St) (H:Hp) (Q:Option Int→Hp→Prop),Inv X pins σ H s→t σ H Q →
  wpAny (model X.prog X.w) X.A (evalPart e X.env) (fun u s'=>∃ o H',Inv X pins σ H' s'∧IsPart u o∧Q o H') X.xe s
def LT:TO:=fun _ H Q=>Q none H
def CT (t:TE):TO:=fun σ H Q=>t σ H fun x H1=>∃ i,x=.int i∧Q (some i) H1
theorem iK {ns:List Int}:∀ {us:List Value},qQ (ns.map V.int) us→IntsAre us ns:=by
 induction ns with
 |nil=>intro us r;rw[List.map_nil] at r;cases r;exact .nil
 |cons n ns ih =>
  intro us r
  rw[List.map_cons] at r
  cases r with
  |cons r1 r2 =>
   obtain⟨t,e⟩:=r1
   subst e
   exact .cons n t (ih r2)
section
variable {X:Cx}{e:Expr}{te:TE}{lo hi:Option Expr}{tl th:TO}{pos p2:Pos}
theorem LH:PO X none LT:=by
 intro pins s σ H Q I h
 rw[evalPart_none]
 exact wpAny_pure ⟨none,H,I,.none,h⟩
theorem LI (h:PE X e te):PO X (some e) (CT te):=by
 intro pins s σ H Q I hw
 rw[evalPart_some]
 refine thn (h pins s σ H _ I hw) fun u s1 ⟨x,H1,I1,r1,q1⟩=>?_
 obtain⟨i,rfl,q⟩:=q1
 obtain⟨t,rfl⟩:=r1
 exact⟨some i,H1,I1,.int i t,q⟩
def SlR (X:Cx)(r:V→Option Int→Option Int→Hp→VK→Prop):Prop:=
 ∀ (pins:List (Addr × Obj)) (s:Shared) (σ : St) (H:Hp) (x:V) (v vl vu:Value) (lo hi:Option Int) (sl:Addr) (Q:VK),Inv X pins σ H s→qO x v→s.heap.IsSliceOf sl vl vu .none→IsPart vl lo→IsPart vu hi→r x lo hi H Q →
  ∃ T id,typeLookup (.type T) "__getitem__" = pure (some (.builtin id))∧s.TypeIs v T∧wpAny (model X.prog X.w) X.A (getItem v (.ref sl)) (EP X pins σ Q) X.xe s
theorem SlR.or {r r':V→Option Int→Option Int→Hp→VK→Prop}(h:SlR X r)(h':SlR X r'):SlR X (fun x lo hi H Q=>r x lo hi H Q∨r' x lo hi H Q):=by
 intro pins s σ H x v vl vu lo hi sl Q I rx hs pl pu q
 rcases q with q|q
 ·exact h pins s σ H x v vl vu lo hi sl Q I rx hs pl pu q
 ·exact h' pins s σ H x v vl vu lo hi sl Q I rx hs pl pu q
def tSl (r:V→Option Int→Option Int→Hp→VK→Prop)(te:TE)(tl th:TO):TE:=fun σ H Q=>te σ H fun x H1=>tl σ H1 fun l H2=>th σ H2 fun u H3=>r x l u H3 Q
theorem FX {r:V→Option Int→Option Int→Hp→VK→Prop}(hr:SlR X r)(he:PE X e te)(hl:PO X lo tl)(hu:PO X hi th):PE X (.Subscript e (.Slice lo hi none p2) pos) (tSl r te tl th):=by
 intro pins s σ H Q I h
 refine Subscript_ (thn (he pins s σ H _ I h) fun v s1 ⟨x,H1,I1,r1,q1⟩=>?_)
 refine wpAny_Slice (thn (hl pins s1 σ H1 _ I1 q1) fun vl s2 ⟨l,H2,I2,pl,q2⟩=>thn (hu pins s2 σ H2 _ I2 q2) fun vu s3 ⟨u,H3,I3,pu,q3⟩=>?_)
 rw[evalPart_none]
 refine wpAny_pure ?_
 have I4:Inv X pins σ H3 { s3 with heap:=s3.heap.push { cls:=.type "slice",data:=.fields #[vl,vu,.none] } }:=I3.kept (t':=s3.toks) fun b ob q=>Heap.get?_push_of_some _ q
 obtain⟨T,id,hT,ht,hg⟩:=hr pins { s3 with heap:=s3.heap.push { cls:=.type "slice",data:=.fields #[vl,vu,.none] } } σ H3 x v vl vu l u s3.heap.objs.size Q I4 r1 (Heap.IsSliceOf.new ..) pl pu q3
 show wpAny (model X.prog X.w) X.A (subscriptTail e (.Slice lo hi none p2) v (.ref s3.heap.objs.size)) (EP X pins σ Q) X.xe { s3 with heap:=s3.heap.push { cls:=.type "slice",data:=.fields #[vl,vu,.none] } }
 exact tail_any (ops:=[.ref s3.heap.objs.size,v]) ht hT hg (by with_unfolding_all rfl)
def sY (xs:List V)(lo hi:Option Int):List V:=(xs.drop (_H.sIx xs.length 0 lo)).take (_H.sIx xs.length xs.length hi-_H.sIx xs.length 0 lo)
theorem cJ (xs:List V)(lo hi:Option Int):(sY xs lo hi).length≤xs.length:=by
 unfold sY
 rw[List.length_take,List.length_drop]
 omega
def AT (K:PySem.W.Frag):V→Option Int→Option Int→Hp→VK→Prop:=fun x lo hi H Q=>∃ a xs,x=.ref a∧SqT K H a xs ∧
 ¬ (_H.sIx xs.length 0 lo=0∧_H.sIx xs.length xs.length hi=xs.length)∧∀ p,H p=none→Q (.ref p) (upd H p (.tup (sY xs lo hi)))
theorem EN:SlR X (AT X.K):=by
 intro pins s σ H x v vl vu lo hi sl Q I rx hs pl pu h
 obtain⟨a,xs,rfl,hx,hw,q⟩:=h
 cases rx
 obtain⟨its,r,ht,hz⟩:=I.tuple hx
 have hlen:its.toArray.size=xs.length:=by rw[List.size_toArray];exact r.length.symm
 refine⟨"tuple",_,PyProof.Rows.slot_tuple_getitem.lookup,ht.typeIs,?_⟩
 refine _H.getItem_tuple_cut ht hs pl pu (by rw[hlen];exact hw) ?_ (by rw[hlen];exact hz)
 rw[hlen]
 refine⟨.ref s.heap.objs.size,_,I.laid (t':=s.toks) (o:=.tup (sY xs lo hi)) (fun b ob q=>Heap.get?_push_of_some _ q) (Nat.le_refl _) ?_,rfl,q _ (I.hok.fresh (Nat.le_refl _))⟩
 exact⟨Nat.le_trans (cJ xs lo hi) hz,_,(r.drop (_H.sIx xs.length 0 lo)).take (_H.sIx xs.length xs.length hi-_H.sIx xs.length 0 lo),IsTup.new _ _⟩
end
end _L
namespace _L
open PySem PySem.Spec PyProof.Rows
def ixN (n:Nat)(i:Int):Option Nat:=if 0≤i then (if i<n then some i.toNat else none) else if -(n:Int)≤i then some (i+n).toNat else none
def atI {α : Type}(xs:List α)(i:Int):Option α:=(ixN xs.length i).bind fun j=>xs[j]?
theorem UT {n:Nat}{i:Int}{j:Nat}(h:ixN n i=some j):seqIndex? i n=some j∧j<n ∧ -(n:Int)≤i∧i<n:=by
 unfold ixN at h
 by_cases h0:0≤i
 ·rw[if_pos h0] at h
  by_cases h1:i<n
  ·rw[if_pos h1] at h
   have e:i.toNat=j:=Option.some.inj h
   exact⟨by rw[seqIndex_of h0 h1,e],by omega,by omega,h1⟩
  ·rw[if_neg h1] at h;cases h
 ·rw[if_neg h0] at h
  by_cases h1 : -(n:Int)≤i
  ·rw[if_pos h1] at h
   have e:(i+n).toNat=j:=Option.some.inj h
   exact⟨by rw[seqIndex_neg (by omega) h1,e],by omega,h1,by omega⟩
  ·rw[if_neg h1] at h;cases h
theorem U8 {α : Type}{xs:List α}{i:Int}{v:α}(h:atI xs i=some v):∃ j,seqIndex? i xs.length=some j∧xs[j]? = some v∧j<xs.length ∧ -(xs.length:Int)≤i∧i<xs.length:=by
 unfold atI at h
 cases e:ixN xs.length i with
 |none=>rw[e] at h;cases h
 |some j =>
  rw[e] at h
  obtain⟨h1,h2,h3,h4⟩:=UT e
  exact⟨j,h1,h,h2,h3,h4⟩
def oJ (b:Expr):Prop:=∀ o i,subscripted b false o i=operate [o,i] (getItem o i)
def IxR (X:Cx)(r:R2):Prop:=
 ∀ (value slice:Expr) (pins:List (Addr × Obj)) (s:Shared) (σ : St) (H:Hp) (x y:V) (v u:Value) (Q:VK),Inv X pins σ H s→qO x v→qO y u→r x y H Q →
  subscripted slice false v u=operate [v,u] (getItem v u)→wpAny (model X.prog X.w) X.A (subscriptTail value slice v u) (EP X pins σ Q) X.xe s
def MtR (X:Cx)(id:String)(r:V→List V→Hp→VK→Prop):Prop:=
 ∀ (pins:List (Addr × Obj)) (s:Shared) (σ : St) (H:Hp) (x:V) (xs:List V) (v:Value) (us:List Value) (Q:VK),Inv X pins σ H s→qO x v→qQ xs us→r x xs H Q →
  wpAny (model X.prog X.w) X.A (call (.builtin id) (v::us)) (EP X pins σ Q) X.xe s
section
variable {X:Cx}{a b:Expr}{ta tb:TE}{pos:Pos}
theorem IxR.or {r r':R2}(h:IxR X r)(h':IxR X r'):IxR X (fun x y H Q=>r x y H Q∨r' x y H Q):=by
 intro value slice pins s σ H x y v u Q I rx ry q hs
 rcases q with q|q
 ·exact h value slice pins s σ H x y v u Q I rx ry q hs
 ·exact h' value slice pins s σ H x y v u Q I rx ry q hs
theorem MtR.or {id:String}{r r':V→List V→Hp→VK→Prop}(h:MtR X id r)(h':MtR X id r'):MtR X id (fun x xs H Q=>r x xs H Q∨r' x xs H Q):=by
 intro pins s σ H x xs v us Q I rx rs q
 rcases q with q|q
 ·exact h pins s σ H x xs v us Q I rx rs q
 ·exact h' pins s σ H x xs v us Q I rx rs q
theorem CA {r:R2}(hr:IxR X r)(ha:PE X a ta)(hb:PE X b tb)(hs:oJ b):PE X (.Subscript a b pos) (tOp r ta tb):=by
 intro pins s σ H Q I h
 exact Subscript_ (A8 ha hb I h fun v u s2 x y H2 I2 rx ry q=>hr a b pins s2 σ H2 x y v u Q I2 rx ry q (hs _ _))
def AO (K:PySem.W.Frag):R2:=fun x y H Q=>∃ p xs i v,x=.ref p∧y=.int i∧SqL K H p xs∧atI xs i=some v∧Q v H
def AQ (K:PySem.W.Frag):R2:=fun x y H Q=>∃ p xs i v,x=.ref p∧y=.int i∧SqT K H p xs∧atI xs i=some v∧Q v H
theorem UU:IxR X (AO X.K):=by
 intro value slice pins s σ H x y v u Q I rx ry h hs
 obtain⟨p,xs,i,z,rfl,rfl,hq,he,q⟩:=h
 cases rx
 obtain⟨t,rfl⟩:=ry
 obtain⟨its,r,pl,hz⟩:=I.list hq
 obtain⟨j,h1,h2,h3,h4,h5⟩:=U8 he
 obtain⟨w,ew,rw'⟩:=r.get h2
 have hl:=r.length
 have hn:=rN
 have fin:EP X pins σ Q w s:=⟨z,H,I,rw',q⟩
 by_cases h0:0≤i
 ·have hj:i.toNat=j:=by
   rw[seqIndex_of h0 h5] at h1
   exact Option.some.inj h1
  exact item_listR pl.isList h0 (by omega) (by rw[hj];simpa using ew) fin hs
 ·have hj:(i+(its.toArray.size:Int)).toNat=j:=by
   rw[seqIndex_neg (by omega) h4] at h1
   rw[List.size_toArray,← hl]
   exact Option.some.inj h1
  exact subscriptTail_builtinR (x:=w) pl.isList.typeIs slot_list_getitem.lookup
   (wpAny_getItem_list_neg (Q:=fun r s'=>r=w∧EP X pins σ Q r s') pl.isList (by omega) (by rw[List.size_toArray] <;> omega) (by omega) (by rw[hj];simpa using ew) ⟨rfl,fin⟩) hs
theorem rM:IxR X (AQ X.K):=by
 intro value slice pins s σ H x y v u Q I rx ry h hs
 obtain⟨p,xs,i,z,rfl,rfl,hq,he,q⟩:=h
 cases rx
 obtain⟨t,rfl⟩:=ry
 obtain⟨its,r,pl,hz⟩:=I.tuple hq
 obtain⟨j,h1,h2,h3,h4,h5⟩:=U8 he
 obtain⟨w,ew,rw'⟩:=r.get h2
 have hl:=r.length
 have hn:=rN
 have fin:EP X pins σ Q w s:=⟨z,H,I,rw',q⟩
 exact subscriptTail_builtinR (x:=w) pl.typeIs slot_tuple_getitem.lookup
  (getItem_tuple (j:=j) (Q:=fun r s'=>r=w∧EP X pins σ Q r s') pl (by omega) (by omega) (by rw[List.size_toArray,← hl];exact h1) (by simpa using ew) ⟨rfl,fin⟩) hs
theorem K7 (its:List Value)(n j:Nat)(u:Value):Obj.mapSeq (·.setIfInBounds j u) { cls:=.type "list",data:=.seq its.toArray n } = { cls:=.type "list",data:=.seq (its.set j u).toArray n }:=by
 simp[Obj.mapSeq]
theorem Inv.lst {pins:List (Addr × Obj)}{σ : St}{H:Hp}{s:Shared}{p:Addr}{xs:List V}(I:Inv X pins σ H s)(h:H p=some (.lst xs)) :
  ∃ (its:List Value) (n:Nat),qQ xs its∧s.heap.get? p=some { cls:=.type "list",data:=.seq its.toArray n } ∧ xs.length≤sizeLine:=by
 obtain⟨z,its,n,r,e⟩:=I.hok p _ h
 exact⟨its,n,r,e,z⟩
theorem Inv.lstUpd {pins:List (Addr × Obj)}{σ : St}{H:Hp}{s:Shared}{p:Addr}{xs ys:List V}{its its':List Value}{n n':Nat}{f:Obj→Obj}(I:Inv X pins σ H s)(h:H p=some (.lst xs))
  (ho:s.heap.get? p=some { cls:=.type "list",data:=.seq its.toArray n }) (hf:f { cls:=.type "list",data:=.seq its.toArray n } = { cls:=.type "list",data:=.seq its'.toArray n' }) (r:qQ ys its') (hz:ys.length≤sizeLine) (t:Nat) :
  Inv X pins σ (upd H p (.lst ys)) { s with heap:=s.heap.update p f,toks:=t }:=by
 have e:(s.heap.update p f).get? p=some { cls:=.type "list",data:=.seq its'.toArray n' }:=by
  rw[Heap.get?_update_self f ho (by rw[hf] <;> rfl),hf]
 refine I.write (x:=p) (e:=p) (by rw[h];trivial) (.inl rfl) (fun b u hb q=>(Heap.get?_update_other _ _ (Ne.symm hb)).trans q) ⟨_,e⟩ ?_
 exact⟨hz,its',n',r,e⟩
def CF:V→V→V→Hp→(Hp→Prop)→Prop:=fun o i v H Q=>∃ p xs k j,o=.ref p∧i=.int k∧H p=some (.lst xs)∧ixN xs.length k=some j∧Q (upd H p (.lst (xs.set j v)))
theorem M9:XY X CF:=by
 intro pins s σ H o i v ov iv u Q I ro ri rv h
 obtain⟨p,xs,k,j,rfl,rfl,hp,hj,q⟩:=h
 cases ro
 obtain⟨t,rfl⟩:=ri
 obtain⟨its,n,r,ho,hz⟩:=I.lst hp
 obtain⟨h1,h2,h3,h4⟩:=UT hj
 have hl:=r.length
 have hn:=rN
 have I':Inv X pins σ (upd H p (.lst (xs.set j v))) { s with heap:=s.heap.update p (Obj.mapSeq (·.setIfInBounds j u)) }:=
  I.lstUpd hp ho (K7 its n j u) (r.set rv j) (by rw[List.length_set];exact hz) s.toks
 by_cases h0:0≤k
 ·have hk:k.toNat=j:=by
   rw[seqIndex_of h0 h4] at h1
   exact Option.some.inj h1
  exact PySem.W.ki_setAt ho h0 (by omega) (by rw[List.size_toArray,← hl];exact h4) (by rw[hk];exact⟨_,I',q⟩)
 ·have hk:(k+(its.toArray.size:Int)).toNat=j:=by
   rw[seqIndex_neg (by omega) h3] at h1
   rw[List.size_toArray,← hl]
   exact Option.some.inj h1
  exact PySem.W.ki_setBack ho (by omega) (by rw[List.size_toArray,← hl];exact h3) (by omega) (by rw[hk];exact⟨_,I',q⟩)
theorem V7 (lo hi:Option Int)(n:Nat):(sliceBounds lo hi none n).1=((_H.sIx n 0 lo:Nat):Int)∧(sliceBounds lo hi none n).2.1=((_H.sIx n n hi:Nat):Int)∧(sliceBounds lo hi none n).2.2=1:=by
 refine⟨?_,?_,rfl⟩
 ·cases lo with
  |none=>simp[sliceBounds,_H.sIx]
  |some i =>
   simp only[sliceBounds,_H.sIx,Option.getD_none,show (1:Int)>0 by decide,if_true]
   by_cases h:i<0
   ·simp only[h,if_true] <;> omega
   ·simp only[h,if_false] <;> omega
 ·cases hi with
  |none=>simp[sliceBounds,_H.sIx]
  |some i =>
   simp only[sliceBounds,_H.sIx,Option.getD_none,show (1:Int)>0 by decide,if_true]
   by_cases h:i<0
   ·simp only[h,if_true] <;> omega
   ·simp only[h,if_false] <;> omega
theorem XQ (its:List Value)(lo hi:Option Int):slicePick its.toArray lo hi none=((its.drop (_H.sIx its.length 0 lo)).take (_H.sIx its.length its.length hi-_H.sIx its.length 0 lo)).toArray:=by
 obtain⟨h1,h2,h3⟩:=V7 lo hi its.toArray.size
 unfold slicePick
 rw[h1,h2,h3]
 simp only[sliceRange_one,pick_run,List.size_toArray] <;> rfl
def AS (K:PySem.W.Frag):V→Option Int→Option Int→Hp→VK→Prop:=fun x lo hi H Q=>∃ a xs,x=.ref a∧SqL K H a xs∧∀ p,H p=none→Q (.ref p) (upd H p (.lst (sY xs lo hi)))
theorem JE:SlR X (AS X.K):=by
 intro pins s σ H x v vl vu lo hi sl Q I rx hs pl pu h
 obtain⟨a,xs,rfl,hx,q⟩:=h
 cases rx
 obtain⟨its,r,ht,hz⟩:=I.list hx
 have hlen:=r.length
 refine⟨"list",_,slot_list_getitem.lookup,ht.isList.typeIs,?_⟩
 refine wpAny_getItem_list_slice ht.isList hs pl pu .none (by simp) ?_ (by rw[List.size_toArray] <;> omega)
 rw[XQ,← hlen]
 refine⟨.ref s.heap.objs.size,_,I.laid (t':=s.toks) (o:=.lst (sY xs lo hi)) (fun b ob q=>Heap.get?_push_of_some _ q) (Nat.le_refl _) ?_,rfl,q _ (I.hok.fresh (Nat.le_refl _))⟩
 exact⟨Nat.le_trans (cJ xs lo hi) hz,_,0,(r.drop (_H.sIx xs.length 0 lo)).take (_H.sIx xs.length xs.length hi-_H.sIx xs.length 0 lo),Heap.get?_push_size _ rfl⟩
theorem t8.or {f:Value}{r r':List V→Hp→VK→Prop}(h:t8 X f r)(h':t8 X f r'):t8 X f (fun xs H Q=>r xs H Q∨r' xs H Q):=by
 intro pins s σ H xs us Q I rs q
 rcases q with q|q
 ·exact h pins s σ H xs us Q I rs q
 ·exact h' pins s σ H xs us Q I rs q
theorem sT:t8 X (.type "list") (fun xs H Q=>∃ p ys,xs=[.ref p]∧(SqL X.K H p ys∨SqT X.K H p ys)∧∀ l,H l=none→Q (.ref l) (upd H l (.lst ys))):=by
 intro pins s σ H xs us Q I r h
 obtain⟨p,ys,rfl,hq,q⟩:=h
 obtain⟨u,rfl,rx⟩:=tR r
 cases rx
 have fin:∀ (its:List Value),qQ ys its→ys.length≤sizeLine→∀ (h':Heap) (c':Nat),(∀ b o',s.heap.get? b=some o'→h'.get? b=some o') →
   h'.get? s.heap.objs.size=some { cls:=.type "list",dict:=none,data:=.seq its.toArray c',slots:=#[] } → EP X pins σ Q (.ref s.heap.objs.size) { s with heap:=h' }:=fun its r' hz h' c' kp e =>
  ⟨.ref s.heap.objs.size,_,I.laid (t':=s.toks) kp (Nat.le_refl _) (show xG X.prog X.w _ h' _ (.lst ys) from⟨hz,its,c',r',e⟩),rfl,q _ (I.hok.fresh (Nat.le_refl _))⟩
 rcases hq with hq|hq
 ·obtain⟨its,r',pl,hz⟩:=I.list hq
  have hlen:=r'.length
  obtain⟨o,ho,hc,n,hd⟩:=pl.isList
  exact call_list_seq p (.inl rfl) ho hc hd (fun h' c' kp e=>fin its r' hz h' c' kp e) (by simp only[List.size_toArray] <;> omega)
 ·obtain⟨its,r',pl,hz⟩:=I.tuple hq
  have hlen:=r'.length
  obtain⟨o,ho,hc,n,hd⟩:=pl
  exact call_list_seq p (.inr rfl) ho hc hd (fun h' c' kp e=>fin its r' hz h' c' kp e) (by simp only[List.size_toArray] <;> omega)
theorem s9:t8 X (.type "tuple") (fun xs H Q=>∃ p ys,xs=[.ref p]∧((SqL X.K H p ys∧∀ l,H l=none→Q (.ref l) (upd H l (.tup ys)))∨(SqT X.K H p ys∧Q (.ref p) H))):=by
 intro pins s σ H xs us Q I r h
 obtain⟨p,ys,rfl,h⟩:=h
 obtain⟨u,rfl,rx⟩:=tR r
 cases rx
 rcases h with⟨hq,q⟩|⟨hq,q⟩
 ·obtain⟨its,r',pl,hz⟩:=I.list hq
  have hlen:=r'.length
  refine call_tuple_list pl.isList (fun h' kp=>?_) (by simp only[List.size_toArray] <;> omega)
  have I1:Inv X pins σ H { s with heap:=h' }:=I.kept (t':=s.toks) kp
  have I2:Inv X pins σ (upd H h'.objs.size (.tup ys)) { s with heap:=h'.push { cls:=.type "tuple",data:=.seq its.toArray } }:=
   I1.laid (t':=s.toks) (fun b o e=>Heap.get?_push_of_some _ e) (Nat.le_refl _) (show xG X.prog X.w _ _ _ (.tup ys) from⟨hz,its,r',IsTup.new _ _⟩)
  exact⟨.ref h'.objs.size,_,I2,rfl,q _ (I1.hok.fresh (Nat.le_refl _))⟩
 ·obtain⟨its,r',pl,hz⟩:=I.tuple hq
  exact call_tuple_same pl ⟨.ref p,H,I,rfl,q⟩
variable {o e:Expr}{es:List Expr}{to:TE}{t:TA}{name:Str}{apos cpos:Pos}{T id:String}{r:V→List V→Hp→VK→Prop}
/- xs.append(e),list.index on a module's tuple .. are MtR facts of 06m -/
end
end _L
namespace _L
open PySem PySem.Spec PyProof.Rows
theorem qQ.one {x:V}{us:List Value}(h:qQ [x] us):∃ u,us=[u]∧qO x u:=tR h
theorem qQ.two {x y:V}{us:List Value}(h:qQ [x,y] us):∃ u v,us=[u,v]∧qO x u∧qO y v:=KO h
end _L
namespace _L
open PySem PySem.Spec PyProof.Rows
section
variable {κ : Type}[DecidableEq κ]
def t0 (kvs:List (κ × V))(k:κ):Option V:=(kvs.find? fun kv=>decide (kv.1=k)).map (·.2)
def gW (kvs:List (κ × V))(k:κ)(v:V):List (κ × V):=
 if (kvs.any fun kv=>decide (kv.1=k))=true then kvs.map (fun kv=>if kv.1=k then (kv.1,v) else kv) else kvs++[(k,v)]
theorem VJ {p:κ × V}{r:List (κ × V)}{k:κ}(e:p.1=k):t0 (p::r) k=some p.2:=by simp[t0,List.find?_cons,e]
theorem VI {p:κ × V}{r:List (κ × V)}{k:κ}(e:¬ p.1=k):t0 (p::r) k=t0 r k:=by simp[t0,List.find?_cons,e]
theorem VH (k:κ):∀ kvs:List (κ × V),(kvs.any fun kv=>decide (kv.1=k))=(t0 kvs k).isSome
 |[]=>rfl
 |p::r=>by
  rw[List.any_cons]
  by_cases e:p.1=k
  ·simp only[VJ e,decide_eq_true e,Bool.true_or,Option.isSome_some]
  ·rw[VI e,decide_eq_false e,Bool.false_or];exact VH k r
theorem cM (kvs:List (κ × V))(k:κ)(v:V):(gW kvs k v).length≤kvs.length+1:=by
 unfold gW
 split
 ·rw[List.length_map];omega
 ·rw[List.length_append,List.length_cons,List.length_nil];omega
theorem oK.isSome_eq {o:Option V}{u:Option Value}(r:oK o u):o.isSome=u.isSome:=by
 cases o with
 |none=>cases u with
  |none=>rfl
  |some _=>exact(show False from r).elim
 |some _=>cases u with
  |none=>exact(show False from r).elim
  |some _=>rfl
theorem KV.any {kvs:List (κ × V)}{vs:List (κ × Value)}(r:KV kvs vs)(k:κ):(kvs.any fun kv=>decide (kv.1=k))=vs.any fun kv=>decide (kv.1=k):=by
 unfold KV at r
 induction r with
 |nil=>rfl
 |cons h t ih=>rw[List.any_cons,List.any_cons,ih,h.1]
theorem KV.repl {kvs:List (κ × V)}{vs:List (κ × Value)}(r:KV kvs vs)(k:κ){y:V}{u:Value}(ry:qO y u) :
  KV (kvs.map fun kv=>if kv.1=k then (kv.1,y) else kv) (vs.map fun kv=>if kv.1=k then (kv.1,u) else kv):=by
 unfold KV at r ⊢
 induction r with
 |nil=>exact .nil
 |@cons p q ps qs h t ih =>
  rw[List.map_cons,List.map_cons]
  refine .cons ?_ ih
  obtain⟨h1,h2⟩:=h
  by_cases e:p.1=k
  ·rw[if_pos e,if_pos (h1.symm.trans e)];exact⟨h1,ry⟩
  ·rw[if_neg e,if_neg (fun z=>e (h1.trans z))];exact⟨h1,h2⟩
theorem KV.put {kvs:List (κ × V)}{vs:List (κ × Value)}(r:KV kvs vs)(k:κ){y:V}{u:Value}(ry:qO y u):KV (gW kvs k y) (stored vs k u):=by
 unfold gW stored
 rw[r.any k]
 by_cases e:(vs.any fun kv=>decide (kv.1=k))=true
 ·rw[if_pos e,if_pos e];exact r.repl k ry
 ·rw[if_neg e,if_neg e];exact Paired.snoc r ⟨rfl,ry⟩
theorem KV.length {kvs:List (κ × V)}{vs:List (κ × Value)}(r:KV kvs vs):kvs.length=vs.length:=Paired.length r
end
theorem MT {P:Program}{w:World}{k:Key}{u:Value}(r:qO (kV k) u):(yJ P w).is k u=true:=by
 cases k with
 |inl i=>obtain⟨t,e⟩:=(show ∃ t,u=Value.int i t from r);subst e;exact VW P w i t
 |inr x=>obtain⟨t,e⟩:=(show ∃ t,u=Value.str x t from r);subst e;exact VX P w x t
theorem ZK {P:Program}{w:World}:∀ {ks:List Key} {us:List Value},qQ (ks.map kV) us→ItemsAre (yJ P w) ks us
 |[],_,r=>by rw[List.map_nil] at r;cases r;exact .nil
 |k::ks,_,r=>by
  rw[List.map_cons] at r
  cases r with
  |cons h t=>exact .cons (MT h) (ZK t)
abbrev KT (H:Hp):List (List Key × V)→List (List Key × Addr × Value)→Prop:=Paired fun p q=>p.1=q.1∧H q.2.1=some (.tup (p.1.map kV))∧qO p.2 q.2.2
theorem KT.val {H:Hp}{kvs:List (List Key × V)}{xs:List (List Key × Addr × Value)}(r:KT H kvs xs)(k:List Key):oK (t0 kvs k) ((atKey xs k).map (·.2)):=by
 induction r with
 |nil=>exact True.intro
 |@cons p q ps qs h t ih =>
  obtain⟨h1,_,h2⟩:=h
  by_cases e:p.1=k
  ·have e':q.1=k:=h1.symm.trans e
   have b:atKey (q::qs) k=some q.2:=by simp[atKey,List.find?_cons,e']
   rw[VJ e,b];exact h2
  ·have e':¬ q.1=k:=fun z=>e (h1.trans z)
   have b:atKey (q::qs) k=atKey qs k:=by simp[atKey,List.find?_cons,e']
   rw[VI e,b];exact ih
theorem KT.repl {H:Hp}{kvs:List (List Key × V)}{xs:List (List Key × Addr × Value)}(r:KT H kvs xs)(k:List Key){y:V}{u:Value}(ry:qO y u) :
  KT H (kvs.map fun kv=>if kv.1=k then (kv.1,y) else kv) (xs.map (putAt k u)):=by
 induction r with
 |nil=>exact .nil
 |@cons p q ps qs h t ih =>
  rw[List.map_cons,List.map_cons]
  refine .cons ?_ ih
  obtain⟨h1,h2,h3⟩:=h
  unfold putAt
  by_cases e:p.1=k
  ·rw[if_pos e,if_pos (h1.symm.trans e)];exact⟨h1,h2,ry⟩
  ·rw[if_neg e,if_neg (fun z=>e (h1.trans z))];exact⟨h1,h2,h3⟩
theorem KT.put {H:Hp}{kvs:List (List Key × V)}{xs:List (List Key × Addr × Value)}(r:KT H kvs xs)(k:List Key){b:Addr}{y:V}{u:Value}(hb:H b=some (.tup (k.map kV)))(ry:qO y u) :
  KT H (gW kvs k y) (storedH xs k b u):=by
 have e:(kvs.any fun kv=>decide (kv.1=k))=(atKey xs k).isSome:=by
  rw[VH,(r.val k).isSome_eq,Option.isSome_map]
 unfold gW storedH
 rw[e]
 by_cases q:(atKey xs k).isSome=true
 ·rw[if_pos q,if_pos q];exact r.repl k ry
 ·rw[if_neg q,if_neg q];exact Paired.snoc r ⟨rfl,hb,ry⟩
theorem KT.keeps {H H':Hp}{kvs:List (List Key × V)}{xs:List (List Key × Addr × Value)}(r:KT H kvs xs)(ht:∀ b ys,H b=some (.tup ys)→H' b=some (.tup ys)):KT H' kvs xs:=
 Paired.mapP r fun _ _ z=>⟨z.1,ht _ _ z.2.1,z.2.2⟩
section
variable {P:Program}{w:World}{H:Hp}{h:Heap}{a:Addr}
theorem T4 {u:HO}(ok:HOk P w H h)(e:Rd H a u):xG P w H h a u:=e.ok ok
theorem HG {kvs:List (Key × V)}(ok:HOk P w H h)(e:Rd H a (.dK kvs)):kvs.length≤sizeLine∧(a == sysModules)=false∧∃ vs,KV kvs vs∧h.DictOf (yJ P w) a vs:=
 show xG P w H h a (.dK kvs) from T4 ok e
theorem HF {kvs:List (Key × V)}(ok:HOk P w H h)(e:H a=some (.dK kvs)):kvs.length≤sizeLine∧(a == sysModules)=false∧∃ vs,KV kvs vs∧h.DictOf (yJ P w) a vs:=HG ok (.inl e)
theorem GU {ks:List Key}(ok:HOk P w H h)(e:H a=some (.tup (ks.map kV))):(tupleKind (yJ P w)).is h ks a:=by
 obtain⟨_,its,r,o,h1,h2,n,h3⟩:=(show xG P w H h a (.tup (ks.map kV)) from ok a _ e)
 exact⟨o,its.toArray,n,h1,h2,h3,by simpa using ZK r⟩
theorem HJ {kvs:List (List Key × V)}(ok:HOk P w H h)(e:Rd H a (.dT kvs)):kvs.length≤sizeLine∧(a == sysModules)=false ∧
  ∃ xs,KT H kvs xs∧h.DictOfH (tupleKind (yJ P w)) a xs:=by
 obtain⟨z,y,xs,r,o,es,ep,h1,h2,h3,h4,h5⟩:=(show xG P w H h a (.dT kvs) from T4 ok e)
 refine⟨z,y,xs,r,o,es,ep,h1,h2,h3,h4,fun x hx=>?_,h5⟩
 have all:∀ {l:List (List Key × V)} {m:List (List Key × Addr × Value)},KT H l m→∀ x∈m,(tupleKind (yJ P w)).is h x.1 x.2.1:=by
  intro l m q
  induction q with
  |nil=>intro x hx;exact nomatch hx
  |@cons p q ps qs hq t ih =>
   intro x hx
   rcases List.mem_cons.mp hx with e|hx
   ·subst e
    exact GU ok (by rw[← hq.1];exact hq.2.1)
   ·exact ih x hx
 exact all r x hx
theorem HI {kvs:List (List Key × V)}(ok:HOk P w H h)(e:H a=some (.dT kvs)):kvs.length≤sizeLine∧(a == sysModules)=false ∧
  ∃ xs,KT H kvs xs∧h.DictOfH (tupleKind (yJ P w)) a xs:=HJ ok (.inl e)
end
def JJ (H:Hp)(a:Addr)(y:V)(r:Option V):Prop:=
 (∃ kvs k,Rd H a (.dK kvs)∧y=kV k∧r=t0 kvs k)∨∃ kvs k b,Rd H a (.dT kvs)∧y=.ref b∧H b=some (.tup (k.map kV))∧r=t0 kvs k
def oI (H:Hp)(a:Addr)(y v:V)(H':Hp):Prop:=
 (∃ kvs k,H a=some (.dK kvs)∧y=kV k∧kvs.length<sizeLine∧H'=upd H a (.dK (gW kvs k v))) ∨
 ∃ kvs k b,H a=some (.dT kvs)∧y=.ref b∧H b=some (.tup (k.map kV))∧kvs.length<sizeLine∧H'=upd H a (.dT (gW kvs k v))
theorem JJ.k {H:Hp}{a:Addr}{kvs:List (Key × V)}{k:Key}(e:H a=some (.dK kvs)):JJ H a (kV k) (t0 kvs k):=.inl ⟨kvs,k,.inl e,rfl,rfl⟩
theorem JJ.t {H:Hp}{a b:Addr}{kvs:List (List Key × V)}{k:List Key}(e:H a=some (.dT kvs))(eb:H b=some (.tup (k.map kV))):JJ H a (.ref b) (t0 kvs k):=.inr ⟨kvs,k,b,.inl e,rfl,eb,rfl⟩
theorem oI.k {H:Hp}{a:Addr}{kvs:List (Key × V)}{k:Key}{v:V}(e:H a=some (.dK kvs))(hl:kvs.length<sizeLine):oI H a (kV k) v (upd H a (.dK (gW kvs k v))):=.inl ⟨kvs,k,e,rfl,hl,rfl⟩
theorem oI.t {H:Hp}{a b:Addr}{kvs:List (List Key × V)}{k:List Key}{v:V}(e:H a=some (.dT kvs))(eb:H b=some (.tup (k.map kV)))(hl:kvs.length<sizeLine) :
  oI H a (.ref b) v (upd H a (.dT (gW kvs k v))):=.inr ⟨kvs,k,b,e,rfl,eb,hl,rfl⟩
section
variable {X:Cx}{pins:List (Addr × Obj)}{σ : St}{H:Hp}{s:Shared}{a:Addr}{y v:V}{u r:Value}{o:Option V}{A:Around}{E:Value→Shared→Prop}
theorem Inv.big (I:Inv X pins σ H s):sysModules<s.heap.objs.size:=by
 have h:mainGlobals<s.heap.objs.size:=(I.mod.glob.keeps I.bk).lt
 exact Nat.lt_trans (by decide) h
theorem UG {h':Heap}{t':Nat}{ob:HO}(I:Inv X pins σ H s)(mu:Mut (H a))(hs:Heap.SameBut a s.heap h')(he:∃ q,h'.get? a=some q)(new:xG X.prog X.w (upd H a ob) h' a ob) :
  Inv X pins σ (upd H a ob) { s with heap:=h',toks:=t' }:=
 I.write (x:=a) (e:=a) mu (.inl rfl) (fun b q hb z=>(hs.2 b hb).trans z) he new
theorem SI {P:Program}{w:World}{H':Hp}{h':Heap}{kvs:List (Key × V)}{vs:List (Key × Value)}(z:kvs.length≤sizeLine)(hd:(a == sysModules)=false)(rel:KV kvs vs)(dd:h'.DictOf (yJ P w) a vs) :
  xG P w H' h' a (.dK kvs):=⟨z,hd,vs,rel,dd⟩
theorem GC {H':Hp}{Q:Unit→Shared→Prop}(hu:A.units+1<cLine)(I:Inv X pins σ H s)(g:oI H a y v H')(ry:qO y u)(rv:qO v r)(h:∀ s',Inv X pins σ H' s'→Q () s') :
  wpAny (model X.prog X.w) A (setItem (.ref a) u r) Q E s:=by
 rcases g with⟨kvs,k,e,ey,l,eH⟩|⟨kvs,k,b,e,ey,eb,l,eH⟩
 ·subst ey eH
  obtain⟨z,hd,vs,rel,dd⟩:=HF I.hok e
  have hz:vs.length≤sizeLine:=by rw[← rel.length];exact z
  have hl:(gW kvs k v).length≤sizeLine:=by have:=cM kvs k v;omega
  refine wpAny_setItem_pairs (hsz:=hz) (MT ry) dd fun h' dd' hs=>h _ ?_
  have he:∃ q,h'.get? a=some q:=let ⟨q,_,_,hq,_⟩:=dd';⟨q,hq⟩
  exact UG I (by rw[e];exact True.intro) hs he (SI hl hd (rel.put k rv) dd')
 ·subst ey eH
  cases (show u=Value.ref b from ry)
  obtain⟨z,hd,xs,rel,dd⟩:=HI I.hok e
  have hz:xs.length≤sizeLine:=by rw[← Paired.length rel];exact z
  have hl:(gW kvs k v).length≤sizeLine:=by have:=cM kvs k v;omega
  refine wpAny_setItem_heap (hsz:=hz) (tupleKind_room_in1 hu) (GU I.hok eb) dd fun h' dd' hs=>h _ ?_
  obtain⟨q,es,ep,hq,h2,h3,h4,_,h5⟩:=dd'
  refine UG I (by rw[e];exact True.intro) hs ⟨q,hq⟩ ⟨hl,hd,_,(rel.put k eb rv).keeps fun c ys ec=>?_,q,es,ep,hq,h2,h3,h4,h5⟩
  rw[zI (HZ ec e (fun z=>nomatch z))]
  exact ec
end
theorem FA {P:Program}{w:World}{H:Hp}(h:Heap)(hb:sysModules<h.objs.size):xG P w H (h.push { cls:=.type "dict",data:=.dict #[] }) h.objs.size (.dK []):=
 ⟨Nat.zero_le _,beq_eq_false_iff_ne.mpr (Ne.symm (Nat.ne_of_lt hb)),[],.nil,Heap.DictOf.new h⟩
def EO:TE:=fun _ H Q=>∀ p,H p=none→Q (.ref p) (upd H p (.dK []))
section
variable {X:Cx}{pos:Pos}
theorem FW:PE X (.Dict [] [] pos) EO:=fun pins s σ H Q I h =>
 wpAny_Dict_empty ⟨.ref s.heap.objs.size,_,I.laid (a:=s.heap.objs.size) (o:=.dK []) (t':=s.toks) (fun _ _ q=>Heap.get?_push_of_some _ q) (Nat.le_refl _) (FA s.heap I.big),rfl,h _ (I.hok.fresh (Nat.le_refl _))⟩
end
end _L
namespace _A
open PySem PySem.W PySem.Calls PyProof.Rows
theorem iL {P:Params}{h:Heap}:∀ (ns:List Int) (vs:List Value),WellAll P h vs (ns.map WData.int)→IntsAre vs ns:=by
 intro ns
 induction ns with
 |nil =>
  intro vs w
  rw[List.map_nil] at w
  cases w
  exact .nil
 |cons n ns ih =>
  intro vs w
  rw[List.map_cons] at w
  cases w with
  |cons a b =>
   cases a
   exact .cons _ _ (ih _ b)
theorem B8 {l:OpenLaw}{n:Nat}(hn:l.most=some n){P:Params}{h:Heap}{args:List WData}{vals:List Value}
  (hpre:l.row.toRowW.claim.pre args=true) (hwl:WellAll P h vals args) :
  ∃ a vs ns,vals=[Value.ref a]∧args=[WData.list (ns.map WData.int)]∧h.get? a=some { cls:=.type "list",data:=.seq vs.toArray } ∧ IntsAre vs ns∧ns.length≤n:=by
 have hsh:WShape.hasAll [] args [.list .int]=true:=(pre_splitW hpre).1
 have hc:l.pre.holds [] { args:=args } = true:=(pre_splitW hpre).2
 obtain⟨d,r,rfl,h1,h2⟩:=hasAllW_cons hsh
 obtain rfl:=hasAllW_nil h2
 obtain⟨xs,rfl,h3⟩:=hasW_list h1
 obtain⟨ns,rfl⟩:=items_int h3
 have hlen:ns.length≤n:=by
  unfold OpenLaw.pre at hc
  have h4:(WTm.not (.lt (.lit (.int (n:Int))) (.len (.arg 0)))).holds [] { args:=[.list (ns.map .int)] } = true:=by
   have h4:=(holds_andW hc).1
   rw[hn] at h4
   exact h4
  have h5:=condW_of h4 (w_not (w_lt w_lit (w_len_list (w_arg rfl))))
  rw[List.length_map] at h5
  refine Nat.le_of_not_lt fun q=>?_
  have q':(n:Int)<((ns.length:Nat):Int):=by omega
  first
   |(rw[decide_eq_true q'] at h5;exact absurd h5 (by decide))
   |(simp at h5;omega)
 cases hwl with
 |cons w1 w2 =>
  cases w2
  cases w1 with
  |list ho hall=>exact⟨_,_,ns,rfl,rfl,ho,iL ns _ hall,hlen⟩
theorem PR (l:OpenLaw)(args:List WData):l.row.toRowW.claim.post args (.bool true) args=true:=
 postW_of (r:=l.row.toRowW) (X:=(true == true))
  (show WShape.has [] (.bool true) .bool=true by first|rfl|decide|simp[WShape.has,WShape.arms,WShape.armsAll])
  (show (WTm.eq .res (.lit (.bool true))).value [] { args:=args,res:=some (.bool true),after:=args } = some (.bool (true == true)) from w_eq_bool (w_res rfl) w_lit) rfl
theorem attach_call {l:OpenLaw}{n:Nat}{q:Program}{loose:List Str}{XP:(Str→Option Value)→Heap→Prop}{YP:World→Heap→Prop}{d:DefRec}
  (hn:l.most=some n) (hdf:d.params.defaults=[])
  (call:∀ (w:World) (s₀ s₁:Shared) (mg mb:Str→Option Value) (fa:Addr) (o:Obj) (pm cd doc:Value) (a:Addr) (vs:List Value) (ns:List Int),
   Ground q loose [] XP w s₀ mg mb s₁.heap→YP w s₁.heap →
   s₁.heap.get? fa=some o→o.data=.func (docDef d.name d.params d.body d.scope pm cd doc)→s₁.heap.CodeRec cd d.name→mg d.name=some (.ref fa) →
   s₁.heap.get? a=some { cls:=.type "list",data:=.seq vs.toArray } → IntsAre vs ns→ns.length≤n→s₁.gens=#[] →
   codeAny (model l.prog w) callerA (.call (.ref fa) ⟨[.ref a],[]⟩) (fun r s'=>r=.ok (.ret (.bool true))∧OldK s₁.heap s'.heap∧s'.os=s₁.os∧AllBare s'.gens) s₁) :
  WalkO q loose XP YP l.row.toRowW d [] (fun f vs=>PySem.call f vs):=by
 intro w s₀ s₁ mg mb G Y fa o pm cd doc dV kV ho hd hcd hD hmg hg args vals as hpre hlay hrd hwl hlo
 obtain rfl:dV=.none:=Dflts.none hD hdf
 obtain rfl:kV=.none:=Dflts.noKw hD
 obtain⟨a,vs,ns,rfl,rfl,hobj,hints,hlen⟩:=B8 hn hpre hwl
 refine enter_call (codeAny_mono (call w s₀ s₁ mg mb fa o pm cd doc a vs ns G Y ho (fd_plain hd) hcd hmg hobj hints hlen hg) fun r s' hq=>?_)
 obtain⟨rfl,h2,h3,h4⟩:=hq
 exact⟨.inl ⟨.bool true,.bool true,[],rfl,fun _=>rfl,.bool true,PR l _,fun _=>⟨List.Pairwise.nil,fun _ hm=>(nomatch hm)⟩⟩,h2,h3,h4⟩
end _A
namespace _L
open PySem PySem.Spec PyProof.Rows
theorem BD {vs:List Value}{ns:List Int}(h:IntsAre vs ns):qQ (ns.map V.int) vs:=by
 induction h with
 |nil=>exact .nil
 |cons n t h ih=>exact .cons ⟨t,rfl⟩ ih
def SqX (K:PySem.W.Frag)(H:Hp)(a:Addr)(xs:List V):Prop:=
 Rd H a (.lst xs)∨∃ (its:List Value) (n:Nat),K.lookup a=some { cls:=.type "list",data:=.seq its.toArray n } ∧ xs.length≤sizeLine∧qQ xs its
theorem SqX.l {K:PySem.W.Frag}{H:Hp}{a:Addr}{xs:List V}(h:SqX K H a xs):SqL K H a xs:=by
 rcases h with h|⟨its,n,e,l,v⟩
 ·exact .inl h
 ·exact .inr ⟨_,its.toArray,n,e,rfl,rfl,rfl,by rw[List.size_toArray,← v.length];exact l,by simpa using v⟩
def BJ (H:Hp):Prop:=∀ b,H b=none∨∃ o xs,H b=some (.frz o (.lst xs))
theorem FN {P:Program}{w:World}{K:PySem.W.Frag}{mg mb:Str→Option Value}{CX:CXT}{k:Nat}{fa a:Addr}{fd:FuncData}{x:Str}{sp:Sp}{s₁:Shared}{vs:List Value}{ns:List Int}
  (KX:K.In s₁.heap) (hns:s₁.heap.Ns mainGlobals mg) (hb:s₁.heap.Ns builtinsNs mb) (hbb:∀ x:Str,x ≠ "__name__" → mb x=bootBuiltins x) (hlim:s₁.heap.NoLimit) (hg:s₁.gens=#[])
  (ha:s₁.heap.get? a=some { cls:=.type "list",data:=.seq vs.toArray }) (hi:IntsAre vs ns) (hl:ns.length≤sizeLine) (hr:Room k callerA)
  (F:∀ base:Heap,K.In base→base.Ns mainGlobals mg→FnOk P w K mg base CX k fa fd [x] sp) (hbind:∀ (s:Shared) (u:Value),BindsTo s fd ⟨[u],[]⟩ [(x,u)])
  (hsp:∀ H:Hp,BJ H→SqX K H a (ns.map V.int)→sp [.ref a] H (fun v _=>v=.bl true) fun _ _ _=>False)
  (hCX:∀ H e s',CX [] H s₁ (fun _ _ _=>False) e s'→False) :
  codeAny (model P w) callerA (.call (.ref fa) ⟨[.ref a],[]⟩) (fun r s'=>r=.ok (.ret (.bool true))∧OldK s₁.heap s'.heap∧s'.os=s₁.os∧AllBare s'.gens) s₁:=by
 have rv:=BD hi
 have lenV:=hi.length
 have core:∀ H:Hp,BJ H→SqX K H a (ns.map V.int)→HOk P w H s₁.heap→(∀ b,H b≠none→b=a)→(H a≠none→K.lookup a=none) →
   codeAny (model P w) callerA (.call (.ref fa) ⟨[.ref a],[]⟩) (fun r s'=>r=.ok (.ret (.bool true))∧OldK s₁.heap s'.heap∧s'.os=s₁.os∧AllBare s'.gens) s₁:=by
  intro H hO hS hok hA hK
  have base_of:∀ {b:Addr} {o:Obj},s₁.heap.get? b=some o→H b=none→(d9 s₁.heap H).get? b=some o:=fun e n=>FI e n
  have noA:∀ {b:Addr} {o:Obj} {es:Array DictEntry} {ep:Nat},s₁.heap.get? b=some o→o.data=.dict es ep→H b=none:=fun {b o es ep} e d=>by
   cases q:H b with
   |none=>rfl
   |some u =>
    have e':b=a:=hA b (by rw[q];simp)
    subst e'
    rw[ha] at e;cases e
    have d':Data.seq vs.toArray _=Data.dict es ep:=d
    cases d'
  have nsK:∀ {b:Addr} {m:Str→Option Value},s₁.heap.Ns b m→(d9 s₁.heap H).Ns b m:=fun {b m} ⟨o,es,ep,e,d,r⟩=>⟨o,es,ep,base_of e (noA e d),d,r⟩
  have hKb:K.In (d9 s₁.heap H):=fun b o e=>base_of (KX b o e) (by
   cases q:H b with
   |none=>rfl
   |some u =>
    have e':b=a:=hA b (by rw[q];simp)
    subst e'
    rw[hK (by rw[q];simp)] at e;cases e)
  have hM:Mod K mg (d9 s₁.heap H):=⟨hKb,nsK hns,⟨mb,nsK hb,hbb⟩,let ⟨mc,h1,h2⟩:=hlim;⟨mc,nsK h1,h2⟩⟩
  have e0:Env0 P w K mg (d9 s₁.heap H) callerA [] s₁ H:=⟨rfl,hM,fun b o e=>L7 e,Nat.le_of_eq (GL _ _),trivial,fun b hb=>absurd (show b∈([]:List Addr) from hb) (by simp),hok,.of_eq hg⟩
  refine codeAny_mono ((F _ hKb (nsK hns)).run callerA [] s₁ H ⟨[.ref a],[]⟩ [.ref a] [.ref a] _ _ hr e0 (hbind s₁ (.ref a)) (.cons rfl .nil) (hsp H hO hS)) fun r s' h=>?_
  cases r with
  |error e=>exact(hCX H e s' h).elim
  |ok fl =>
   cases fl with
   |next=>exact False.elim h
   |brk=>exact False.elim h
   |cont=>exact False.elim h
   |ret u =>
    obtain⟨v,H',os,bare,un,hok',r',q⟩:=h
    have q':v=.bl true:=q
    subst q'
    obtain rfl:u=Value.bool true:=r'
    refine⟨rfl,OldK.of_keep fun b o e=>?_,os,bare⟩
    cases q:H b with
    |none=>exact un.keep b o e q (by intro z;exact absurd (show b∈([]:List Addr) from z) (by simp)) (by simp)
    |some u =>
     rcases hO b with z|⟨ob,xs,z⟩
     ·rw[q] at z;cases z
     ·have z2:=un.frzs b ob _ z
      obtain⟨e1,_⟩:=hok b _ z
      obtain⟨e2,_⟩:=hok' b _ z2
      rw[e] at e1;cases e1
      exact e2
 cases hk:K.lookup a with
 |some o =>
  have e:=KX a o hk
  rw[ha] at e
  cases e
  refine core (fun _=>none) (fun _=>.inl rfl) (.inr ⟨vs,_,hk,by rw[List.length_map];exact hl,rv⟩) (fun b u z=>by have z':(none:Option HO)=some u:=z;cases z') (fun b z=>absurd rfl z) fun z=>absurd rfl z
 |none =>
  refine core (fun b=>if b=a then some (.frz { cls:=.type "list",data:=.seq vs.toArray } (.lst (ns.map V.int))) else none) (fun b=>?_) (.inl (.inr ⟨{ cls:=.type "list",data:=.seq vs.toArray },if_pos rfl⟩)) (fun b u z=>?_) (fun b z=>?_) fun _=>hk
  ·by_cases hb:b=a
   ·exact .inr ⟨_,_,if_pos hb⟩
   ·exact .inl (if_neg hb)
  ·by_cases hb:b=a
   ·have z':=(if_pos hb).symm.trans z
    cases z'
    subst hb
    exact⟨ha,by rw[List.length_map];exact hl,vs,_,rv,ha⟩
   ·have z':=(if_neg hb).symm.trans z
    cases z'
  ·by_cases hb:b=a
   ·exact hb
   ·exact absurd (if_neg hb) z
end _L
namespace _L
open PySem PySem.Spec PyProof.Rows
theorem LY {l:PySem.W.OpenLaw}{n k:Nat}{q:Program}{loose:List Str}{XP:(Str→Option Value)→Heap→Prop}{YP:World→Heap→Prop}{d:DefRec}{K:Params→PySem.W.Frag}{CX:World→CXT}{sp:World→Sp}{x:Str}
  (hn:l.most=some n) (hn2:n≤sizeLine) (hdf:d.params.defaults=[]) (hr:Room k callerA)
  (hY:∀ (w:World) (h:Heap),YP w h→(K w.params).In h)
  (F:∀ (w:World) (mg:Str→Option Value) (fa:Addr) (h:Heap),(K w.params).In h→h.Ns mainGlobals mg→mg d.name=some (.ref fa) →
   ∃ fd:FuncData,(∀ (s:Shared) (u:Value),BindsTo s fd ⟨[u],[]⟩ [(x,u)]) ∧
    ∀ base:Heap,(K w.params).In base→base.Ns mainGlobals mg→FnOk l.prog w (K w.params) mg base (CX w) k fa fd [x] (sp w))
  (hsp:∀ (w:World) (H:Hp) (a:Addr) (ns:List Int),ns.length≤n→BJ H→SqX (K w.params) H a (ns.map V.int)→sp w [.ref a] H (fun v _=>v=.bl true) fun _ _ _=>False)
  (hCX:∀ (w:World) (H:Hp) (s:Shared) (e:Value) (s':Shared),CX w [] H s (fun _ _ _=>False) e s'→False) :
  PySem.W.WalkO q loose XP YP l.row.toRowW d [] (fun f vs=>PySem.call f vs):=by
 refine _A.attach_call hn hdf fun w s₀ s₁ mg mb fa o pm cd doc a vs ns G Y ho hd hcd hmg hobj hints hlen hg=>?_
 have KX:=hY w _ Y
 obtain⟨fd,hb,hF⟩:=F w mg fa _ KX G.T.g hmg
 exact FN KX G.T.g G.T.b G.T.builtins G.T.nolimit hg hobj hints (Nat.le_trans hlen hn2) hr hF hb (fun H hO hS=>hsp w H a ns hlen hO hS) fun H e s'=>hCX w H s₁ e s'
end _L
namespace _L
open PySem PySem.Spec PyProof.Rows
def qR (s:Stmt):Arguments:=match s with
 |.FunctionDef _ a _ _ _ _ _ _ _ _=>a
 |_=>{ posonlyargs:=[],args:=[],vararg:=none,kwonlyargs:=[],kw_defaults:=[],kwarg:=none,defaults:=[] }
def qM (s:Stmt):List Stmt:=match s with
 |.FunctionDef _ _ b _ _ _ _ _ _ _=>b
 |_=>[]
def q9 (s:Stmt):Scope:=match s with
 |.FunctionDef _ _ _ _ _ _ sc _ _ _=>sc
 |_=>{ kind:=.function,names:=[],isGenerator:=false,isCoroutine:=false }
abbrev CX0:CXT:=fun _ _ _ _ _ _=>False
structure Fun (K:PySem.W.Frag)(x qual:Str)(st:Stmt)(f:Addr)(fd:FuncData):Prop where
 ex:∃ (oc:Value) (od:Option Addr) (kV doc pm:Value) (an:Option Addr) (cdv ct:Value) (osl:Array (Option Value)),
  fd=PySem.W.fnOf x qual (qR st) (qM st) (q9 st) .none kV doc pm an cdv ct∧K.lookup f=some ⟨oc,od,.func fd,osl⟩∧PySem.W.codeIn K cdv qual=true
 kp:PySem.W.keepIn K (.ref f)=true
section
variable {P:Program}{w:World}{K:PySem.W.Frag}{mg:Str→Option Value}{base:Heap}
theorem Fun.ok {x qual:Str}{st:Stmt}{f:Addr}{fd:FuncData}{N ps:List Str}{k:Nat}{sp:Sp}(F:Fun K x qual st f fd)(S:FnScope N ps (q9 st))(len:∀ vs H Q E,sp vs H Q E→vs.length=ps.length)
  (hbody:∀ (cdv:Value) (A:Around) (outer:List Env) (s:Shared) (H:Hp) (vs:List V) (Q:VK) (E:XK),Room k (A.deeper (envOfC qual (q9 st) s.heap.objs.size f cdv))→sp vs H Q E →
   ∃ t,PSs (oQ CX0 P w K mg base N qual (q9 st) f cdv A outer s H E).nox (qM st) t∧t { nx:=fun _ H'=>Q .non H',rt:=Q } (uQ N vs) H):FnOk P w K mg base CX0 (k+1) f fd ps sp:=by
 obtain⟨oc,od,kV,doc,pm,an,cdv,ct,osl,rfl,lk,hcd⟩:=F.ex
 refine HN lk hcd S len fun A outer s H vs Q E hr hsp=>?_
 obtain⟨t,h,q⟩:=hbody cdv A outer s H vs Q E hr hsp
 exact⟨t,h.nox,q⟩
theorem Fun.binds {x qual:Str}{st:Stmt}{f:Addr}{fd:FuncData}{ps:List Str}(F:Fun K x qual st f fd)
  (h:∀ (kV doc pm:Value) (an:Option Addr) (cdv ct:Value) (us:List Value),us.length=ps.length→bindArgs (PySem.W.fnOf x qual (qR st) (qM st) (q9 st) .none kV doc pm an cdv ct) ⟨us,[]⟩=pure (ps.zip us)):fD K fd ps []:=by
 obtain⟨oc,od,kV,doc,pm,an,cdv,ct,osl,rfl,lk,hcd⟩:=F.ex
 exact .all (h kV doc pm an cdv ct)
theorem SZ {x qual:Str}{st:Stmt}{f:Addr}{oc:Value}{od an:Option Addr}{osl:Array (Option Value)}{kV doc pm cdv ct:Value}(l:K.lookup f=some ⟨oc,od,.func (PySem.W.fnOf x qual (qR st) (qM st) (q9 st) .none kV doc pm an cdv ct),osl⟩)
  (c:PySem.W.codeIn K cdv qual=true) (k:PySem.W.keepIn K (.ref f)=true):Fun K x qual st f (PySem.W.fnOf x qual (qR st) (qM st) (q9 st) .none kV doc pm an cdv ct):=⟨⟨oc,od,kV,doc,pm,an,cdv,ct,osl,rfl,l,c⟩,k⟩
end
def qL (H H':Hp):Prop:=∀ b o,H b=some o→H' b=some o
theorem qL.refl (H:Hp):qL H H:=fun _ _ h=>h
theorem qL.trans {H H1 H2:Hp}(a:qL H H1)(b:qL H1 H2):qL H H2:=fun c o h=>b c o (a c o h)
theorem qL.free {H H':Hp}(e:qL H H'){l:Addr}(h:H' l=Option.none):H l=Option.none:=by
 cases q:H l with
 |none=>rfl
 |some o =>
  rw[e l o q] at h
  cases h
theorem qL.seq {K:PySem.W.Frag}{H H':Hp}{a:Addr}{xs:List V}(e:qL H H')(h:SqL K H a xs):SqL K H' a xs:=by
 rcases h with (h|⟨o,h⟩)|h
 ·exact .inl (.inl (e _ _ h))
 ·exact .inl (.inr ⟨o,e _ _ h⟩)
 ·exact .inr h
end _L
end
section
namespace _S
open PySem
def Rs (xs:Array Nat):Prop:=xs.toList.Pairwise (· < ·)
theorem Rs.lt {xs:Array Nat}(h:Rs xs){a b:Nat}{x y:Nat}(hab:a<b)(ha:xs[a]? = some x)(hb:xs[b]? = some y):x<y:=by
 obtain⟨h1,e1⟩:=Array.getElem?_eq_some_iff.mp ha
 obtain⟨h2,e2⟩:=Array.getElem?_eq_some_iff.mp hb
 have:=List.pairwise_iff_getElem.mp h a b (by simpa using h1) (by simpa using h2) hab
 rw[← e1,← e2];simpa using this
theorem getD_some {xs:Array Nat}{i x d:Nat}(h:xs[i]? = some x):xs.getD i d=x:=by
 obtain⟨h1,e1⟩:=Array.getElem?_eq_some_iff.mp h
 simp[Array.getD,h1,e1]
structure Bel (xs:Array Nat)(j p:Nat):Prop where
 le:p≤xs.size
 lo:∀ i x,i<p→xs[i]? = some x→x<j
 hi:∀ i x,p≤i→xs[i]? = some x→j≤x
set_option tactic.hygienic true in
theorem cV {xs:Array Nat}(h:Rs xs)(j:Nat):∀ (fuel lo hi:Nat),hi-lo≤fuel→lo≤hi→hi≤xs.size →
  (∀ i x,i<lo→xs[i]? = some x→x<j)→(∀ i x,hi≤i→xs[i]? = some x→j≤x)→Bel xs j (SetTable.below.go xs j fuel lo hi)
 |0,lo,hi,h1,h2,h3,h4,h5=>by
  have:lo=hi:=by omega
  subst this
  exact⟨h3,h4,h5⟩
 |fuel+1,lo,hi,h1,h2,h3,h4,h5=>by
  unfold SetTable.below.go
  by_cases hlt:lo<hi
  ·rw[if_pos hlt]
   have hm:(lo+hi)/2<xs.size:=by omega
   have e:xs[(lo+hi)/2]? = some xs[(lo+hi)/2]:=Array.getElem?_eq_getElem hm
   simp only[getD_some e]
   split
   ·rename_i hc
    refine cV h j fuel _ hi (by omega) (by omega) h3 (fun i x hi' ex=>?_) h5
    by_cases q:i=(lo+hi)/2
    ·subst q;rw[e] at ex;cases ex;exact hc
    ·exact Nat.lt_trans (h.lt (by omega) ex e) hc
   ·rename_i hc
    refine cV h j fuel lo _ (by omega) (by omega) (by omega) h4 (fun i x hi' ex=>?_)
    by_cases q:i=(lo+hi)/2
    ·subst q;rw[e] at ex;cases ex;omega
    ·have:=h.lt (show (lo+hi)/2<i by omega) e ex
     omega
  ·rw[if_neg hlt]
   have:lo=hi:=by omega
   subst this
   exact⟨h3,h4,h5⟩
theorem m8 {xs:Array Nat}(h:Rs xs)(j:Nat):Bel xs j (SetTable.below xs j):=
 cV h j _ _ _ (by omega) (by omega) (Nat.le_refl _) (fun i x hi=>by omega) fun i x hi ex=>by
  have:=(Array.getElem?_eq_some_iff.mp ex).1
  omega
theorem cU {xs:Array Nat}(h:Rs xs){i j:Nat}(e:xs[i]? = some j):SetTable.below xs j=i:=by
 have b:=m8 h j
 have hi:=(Array.getElem?_eq_some_iff.mp e).1
 by_cases h1:SetTable.below xs j<i
 ·have e2:xs[SetTable.below xs j]? = some xs[SetTable.below xs j]:=Array.getElem?_eq_getElem (by omega)
  have:=h.lt h1 e2 e
  have:=b.hi _ _ (Nat.le_refl _) e2
  omega
 ·by_cases h2:i<SetTable.below xs j
  ·have:=b.lo _ _ h2 e
   omega
  ·omega
theorem JO {xs:Array Nat}(h:Rs xs){i j:Nat}(e:xs[i]? = some j):SetTable.below xs (j+1)=i+1:=by
 have b:=m8 h (j+1)
 have hi:=(Array.getElem?_eq_some_iff.mp e).1
 have h1:i<SetTable.below xs (j+1):=by
  apply Classical.byContradiction
  intro q
  have:=b.hi _ _ (by omega) e
  omega
 by_cases h2:i+1<SetTable.below xs (j+1)
 ·have hz:i+1<xs.size:=by have:=b.le;omega
  have e2:xs[i+1]? = some xs[i+1]:=Array.getElem?_eq_getElem hz
  have:=b.lo _ _ h2 e2
  have:=h.lt (Nat.lt_succ_self i) e e2
  omega
 ·omega
theorem JP {xs:Array Nat}(h:Rs xs):SetTable.below xs 0=0:=by
 have b:=m8 h 0
 apply Classical.byContradiction
 intro q
 have hz:0<xs.size:=by have:=b.le;omega
 have e2:xs[0]? = some xs[0]:=Array.getElem?_eq_getElem hz
 have:=b.lo _ _ (by omega) e2
 omega
structure Tb (t:SetTable):Prop where
 rs:Rs t.place
 dm:t.dummies=#[]
theorem UO (j:Nat):SetTable.has #[] j=false:=by simp[SetTable.has]
theorem ZV {t:SetTable}(T:Tb t){i j:Nat}(e:t.place[i]? = some j):t.slot j=.live i:=by
 unfold SetTable.slot
 simp only[cU T.rs e,e]
 simp
theorem KJ {t:SetTable}(T:Tb t)(j:Nat):(∃ i,t.slot j=.live i∧t.place[i]? = some j)∨(t.slot j=.empty∧j ∉ t.place.toList):=by
 by_cases h:j∈t.place.toList
 ·obtain⟨i,hi,e⟩:=List.mem_iff_getElem.mp h
  have e':t.place[i]? = some j:=by rw[← Array.getElem?_toList,List.getElem?_eq_getElem hi,e]
  exact .inl ⟨i,ZV T e',e'⟩
 ·refine .inr ⟨?_,h⟩
  unfold SetTable.slot
  simp only[T.dm,UO]
  rw[if_neg,if_neg (by simp)]
  intro q
  apply h
  have:t.place[SetTable.below t.place j]? = some j:=by simpa using q
  obtain⟨h1,e1⟩:=Array.getElem?_eq_some_iff.mp this
  rw[← e1]
  simp
theorem B5 {xs:Array Nat}(h:Rs xs){j:Nat}(hj:j ∉ xs.toList):Rs (SetTable.insertAt xs (SetTable.below xs j) j):=by
 have b:=m8 h j
 unfold Rs
 rw[SetTable.toList_insertAt]
 have key:∀ (i:Nat) (x:Nat),xs.toList[i]? = some x→(i<SetTable.below xs j→x<j)∧(SetTable.below xs j≤i→j<x):=fun i x e=>by
  have e':xs[i]? = some x:=by rw[← Array.getElem?_toList];exact e
  refine⟨fun q=>b.lo _ _ q e',fun q=>?_⟩
  have h1:=b.hi _ _ q e'
  have:x≠j:=by
   rintro rfl
   exact hj (List.mem_of_getElem? e)
  omega
 have tk:∀ x∈xs.toList.take (SetTable.below xs j),x<j:=fun x hx=>by
  obtain⟨i,hi,e⟩:=List.mem_iff_getElem.mp hx
  rw[List.length_take] at hi
  rw[List.getElem_take] at e
  exact(key i x (by rw[List.getElem?_eq_getElem (by omega),e])).1 (by omega)
 have dr:∀ x∈xs.toList.drop (SetTable.below xs j),j<x:=fun x hx=>by
  obtain⟨i,hi,e⟩:=List.mem_iff_getElem.mp hx
  rw[List.length_drop] at hi
  rw[List.getElem_drop] at e
  exact(key (SetTable.below xs j+i) x (by rw[List.getElem?_eq_getElem (by omega),e])).2 (by omega)
 rw[List.pairwise_append,List.pairwise_cons]
 refine⟨List.Pairwise.take h,⟨dr,List.Pairwise.drop h⟩,fun x hx y hy=>?_⟩
 rcases List.mem_cons.mp hy with rfl|hy
 ·exact tk x hx
 ·exact Nat.lt_trans (tk x hx) (dr y hy)
theorem iJ {α : Type}(xs:Array α){p:Nat}(hp:p≤xs.size)(x:α)(i:Nat):(SetTable.insertAt xs p x)[i]? = if i<p then xs[i]? else if i=p then some x else xs[i-1]?:=by
 rw[← Array.getElem?_toList,SetTable.toList_insertAt]
 have hl:(xs.toList.take p).length=p:=by simp;omega
 by_cases h1:i<p
 ·rw[if_pos h1,List.getElem?_append_left (by omega),List.getElem?_take_of_lt h1,Array.getElem?_toList]
 ·rw[if_neg h1,List.getElem?_append_right (by omega),hl]
  by_cases h2:i=p
  ·subst h2;simp
  ·rw[if_neg h2]
   obtain⟨k,hk⟩:∃ k,i-p=k+1:=⟨i-p-1,by omega⟩
   rw[hk,List.getElem?_cons_succ,List.getElem?_drop,Array.getElem?_toList]
   congr 1;omega
theorem pT {α : Type}(xs:Array α)(p:Nat)(x:α):(SetTable.insertAt xs p x).size=xs.size+1:=by
 have:=(SetTable.insertAt_perm xs p x).length_eq
 simpa using this
theorem EE {t:SetTable}(T:Tb t){j:Nat}(hj:j ∉ t.place.toList):Tb (t.put j).1:=by
 refine⟨B5 T.rs hj,?_⟩
 show (if SetTable.has t.dummies j then _ else t.dummies)=#[]
 rw[T.dm,UO]
 rfl
end _S
end
section
namespace _S
open PySem
open PySem.SetTable (Probe leap runEnd turns bits)
def adv (mask:Nat)(p:Probe):Probe:=if p.more>0 then { p with j:=p.j+1,more:=p.more-1 } else { p with j:=(leap mask p.i p.perturb).1,more:=runEnd mask (leap mask p.i p.perturb).1-(leap mask p.i p.perturb).1,i:=(leap mask p.i p.perturb).1,perturb:=(leap mask p.i p.perturb).2 }
theorem D9 (t:SetTable)(p:Probe):t.advance p=adv t.mask p:=rfl
def it (mask:Nat):Nat→Probe→Probe
 |0,p=>p
 |n+1,p=>it mask n (adv mask p)
theorem eQ (mask:Nat):∀ (n:Nat) (p:Probe),it mask (n+1) p=adv mask (it mask n p)
 |0,p=>rfl
 |n+1,p=>eQ mask n (adv mask p)
theorem iO (mask:Nat):∀ (m n:Nat) (p:Probe),it mask (m+n) p=it mask n (it mask m p)
 |0,n,p=>by rw[Nat.zero_add];rfl
 |m+1,n,p=>by rw[Nat.add_right_comm];exact iO mask m n (adv mask p)
def rs (mask i pert:Nat):Probe:={ j:=i,more:=runEnd mask i-i,i,perturb:=pert,dummy:=none }
def st (mask:Nat)(h:Int):Probe:=rs mask (bits h % (mask+1)) (bits h)
theorem CQ (t:SetTable)(h:Int):t.probeStart h=st t.mask h:=rfl
theorem rL (mask i pert:Nat):∀ k,k≤runEnd mask i-i→it mask k (rs mask i pert)={ j:=i+k,more:=runEnd mask i-i-k,i,perturb:=pert,dummy:=none }
 |0,_=>rfl
 |k+1,hk=>by
  rw[eQ,rL mask i pert k (by omega)]
  unfold adv
  rw[if_pos (by show runEnd mask i-i-k>0;omega)]
  simp only[Probe.mk.injEq,and_true,true_and]
  omega
theorem UR (mask i pert:Nat):it mask (runEnd mask i-i+1) (rs mask i pert)=rs mask (leap mask i pert).1 (leap mask i pert).2:=by
 rw[eQ,rL mask i pert _ (Nat.le_refl _)]
 unfold adv
 rw[if_neg (by show ¬ (runEnd mask i-i-(runEnd mask i-i)>0);omega)]
 rfl
theorem EJ (mask i:Nat):runEnd mask i-i+1≤10:=by
 unfold runEnd
 split <;> omega
def lp (mask:Nat):Nat→Nat × Nat→Nat × Nat
 |0,q=>q
 |n+1,q=>lp mask n (leap mask q.1 q.2)
theorem P7 (mask:Nat):∀ (m n:Nat) (q:Nat × Nat),lp mask (m+n) q=lp mask n (lp mask m q)
 |0,n,p=>by rw[Nat.zero_add];rfl
 |m+1,n,p=>by rw[Nat.add_right_comm];exact P7 mask m n _
theorem MS (mask:Nat):∀ (n i pert:Nat),∃ k,k≤10*n∧it mask k (rs mask i pert)=rs mask (lp mask n (i,pert)).1 (lp mask n (i,pert)).2
 |0,i,pert=>⟨0,by omega,rfl⟩
 |n+1,i,pert=>by
  obtain⟨k,hk,e⟩:=MS mask n (leap mask i pert).1 (leap mask i pert).2
  refine⟨(runEnd mask i-i+1)+k,by have:=EJ mask i;omega,?_⟩
  rw[iO,UR,e]
  rfl
theorem UX (mask:Nat):∀ (n i pert:Nat),(lp mask n (i,pert)).2=pert/32 ^ n
 |0,i,pert=>by simp[lp]
 |n+1,i,pert=>by
  show (lp mask n ((leap mask i pert).1,pert/32)).2=_
  rw[UX mask n _ (pert/32),Nat.div_div_eq_div_mul,← Nat.pow_succ']
theorem Q5 (mask i pert:Nat):(leap mask i pert).1≤mask:=Nat.le_of_lt_succ (Nat.mod_lt _ (Nat.succ_pos _))
theorem MU (mask:Nat):∀ (n i pert:Nat),i≤mask→(lp mask n (i,pert)).1≤mask
 |0,i,pert,h=>h
 |n+1,i,pert,h=>MU mask n _ _ (Q5 mask i pert)
theorem U9 (h:Int):bits h<2 ^ 64:=by
 unfold bits
 have h1:(0:Int)≤h % 2 ^ 64:=Int.emod_nonneg _ (by decide)
 have h2:h % 2 ^ 64<(2 ^ 64:Int):=Int.emod_lt_of_pos _ (by decide)
 omega
def cyc (mask:Nat):Nat→Nat→Nat
 |0,i=>i
 |n+1,i=>cyc mask n ((i*5+1) % (mask+1))
theorem eJ (mask:Nat):∀ (m n i:Nat),cyc mask (m+n) i=cyc mask n (cyc mask m i)
 |0,n,p=>by rw[Nat.zero_add];rfl
 |m+1,n,p=>by rw[Nat.add_right_comm];exact eJ mask m n _
theorem P8 (mask:Nat):∀ (n i:Nat),(lp mask n (i,0)).1=cyc mask n i
 |0,i=>rfl
 |n+1,i=>by
  show (lp mask n (leap mask i 0)).1=_
  have:leap mask i 0=((i*5+1) % (mask+1),0):=by simp[leap]
  rw[this,P8 mask n]
  rfl
def Msk (mask:Nat):Prop:=mask=7∨mask=31∨mask=127
def GA (mask:Nat):Bool:=(List.range (mask+1)).all (fun e=>(List.range (mask+1)).any fun n=>cyc mask n 0 == e)&&cyc mask (mask+1) 0 == 0
theorem GB {mask:Nat}(h:Msk mask):GA mask=true:=by
 rcases h with rfl|rfl|rfl <;> decide +kernel
theorem F0 {mask:Nat}(h:Msk mask){i e:Nat}(hi:i≤mask)(he:e≤mask):∃ n,n≤mask∧cyc mask n i=e:=by
 have a:=GB h
 unfold GA at a
 rw[Bool.and_eq_true,List.all_eq_true] at a
 obtain⟨a1,a2⟩:=a
 have g:∀ e,e≤mask→∃ n,n≤mask∧cyc mask n 0=e:=fun e he=>by
  obtain⟨n,hn,q⟩:=List.any_eq_true.mp (a1 e (List.mem_range.mpr (by omega)))
  exact⟨n,by have:=List.mem_range.mp hn;omega,by simpa using q⟩
 have a3:cyc mask (mask+1) 0=0:=by simpa using a2
 obtain⟨m,hm,em⟩:=g i hi
 obtain⟨n,hn,en⟩:=g e he
 by_cases q:m≤n
 ·refine⟨n-m,by omega,?_⟩
  rw[← em,← eJ,show m+(n-m)=n by omega]
  exact en
 ·refine⟨n+(mask+1)-m,by omega,?_⟩
  rw[← em,← eJ,show m+(n+(mask+1)-m)=(mask+1)+n by omega,eJ,a3]
  exact en
theorem YC {mask:Nat}(h:Msk mask){i pert e:Nat}(hi:i≤mask)(hp:pert<2 ^ 64)(he:e≤mask):∃ n,n≤mask+13∧(lp mask n (i,pert)).1=e:=by
 have h0:(lp mask 13 (i,pert)).2=0:=by
  rw[UX]
  apply Nat.div_eq_of_lt
  exact Nat.lt_trans hp (by decide)
 obtain⟨n,hn,q⟩:=F0 h (MU mask 13 i pert hi) he
 refine⟨13+n,by omega,?_⟩
 rw[P7]
 have:lp mask 13 (i,pert)=((lp mask 13 (i,pert)).1,0):=by rw[← h0]
 rw[this,P8]
 exact q
theorem Y0 {mask:Nat}(h:Msk mask)(hs:Int){e:Nat}(he:e≤mask):∃ n,n<10*turns mask∧(it mask n (st mask hs)).j=e:=by
 obtain⟨n,hn,q⟩:=YC h (i:=bits hs % (mask+1)) (Nat.le_of_lt_succ (Nat.mod_lt _ (Nat.succ_pos _))) (U9 hs) he
 obtain⟨k,hk,e1⟩:=MS mask n (bits hs % (mask+1)) (bits hs)
 refine⟨k,by unfold turns;omega,?_⟩
 show (it mask k (rs mask _ _)).j=e
 rw[e1]
 exact q
theorem aI (mask:Nat):∀ (n:Nat) (p:Probe),(it mask n p).dummy=p.dummy
 |0,p=>rfl
 |n+1,p=>by
  show (it mask n (adv mask p)).dummy=_
  rw[aI mask n]
  unfold adv
  split <;> rfl
def Way (t:SetTable)(p:Probe)(n:Nat):Prop:=∀ m,m<n→(it t.mask m p).j∈t.place.toList
inductive Meets (t:SetTable)(hashAt:Nat→Int)(h:Int)(p:Probe)(fuel:Nat):Option SetTable.Met→Prop
 |emp (n:Nat) (hn:n<fuel) (w:Way t p n) (e:(it t.mask n p).j ∉ t.place.toList) (q:∀ m i,m<n→t.place[i]? = some (it t.mask m p).j→hashAt i≠h):Meets t hashAt h p fuel (some (.empty (it t.mask n p).j none))
 |cand (n i:Nat) (hn:n<fuel) (w:Way t p n) (e:t.place[i]? = some (it t.mask n p).j) (hh:hashAt i=h) (q:∀ m i,m<n→t.place[i]? = some (it t.mask m p).j→hashAt i≠h):Meets t hashAt h p fuel (some (.candidate (it t.mask n p).j i (it t.mask (n+1) p)))
theorem B4 {xs:Array Nat}(h:Rs xs){a b x:Nat}(ha:xs[a]? = some x)(hb:xs[b]? = some x):a=b:=by rw[← cU h ha,cU h hb]
set_option tactic.hygienic true in
theorem d8 {t:SetTable}(T:Tb t)(hashAt:Nat→Int)(h:Int):∀ (fuel:Nat) (p:Probe),p.dummy=none→(∃ n,n<fuel∧(it t.mask n p).j ∉ t.place.toList)→Meets t hashAt h p fuel (SetTable.probe.go t hashAt h fuel p)
 |0,p,_,⟨n,hn,_⟩=>by omega
 |fuel+1,p,hd,⟨n,hn,hne⟩=>by
  unfold SetTable.probe.go
  rcases KJ T p.j with⟨i,e,ei⟩|⟨e,q⟩
  ·rw[e]
   simp only
   split
   ·rename_i hh
    exact Meets.cand 0 i (by omega) (fun m hm=>by omega) ei (by simpa using hh) fun m i hm=>by omega
   ·rename_i hh
    have hh':hashAt i≠h:=by simpa using hh
    have hn0:n≠0:=by
     rintro rfl
     exact hne (List.mem_of_getElem? (by rw[Array.getElem?_toList];exact ei))
    obtain⟨n',rfl⟩:∃ n',n=n'+1:=⟨n-1,by omega⟩
    have ih:=d8 T hashAt h fuel (adv t.mask p) (by rw[← hd];exact aI t.mask 1 p) ⟨n',by omega,hne⟩
    rw[D9]
    have mem0:p.j∈t.place.toList:=List.mem_of_getElem? (by rw[Array.getElem?_toList];exact ei)
    have up:∀ {k:Nat},Way t (adv t.mask p) k→Way t p (k+1):=fun {k} w m hm=>by
     cases m with
     |zero=>exact mem0
     |succ m=>exact w m (by omega)
    have upq:∀ {k:Nat},(∀ m i,m<k→t.place[i]? = some (it t.mask m (adv t.mask p)).j→hashAt i≠h)→∀ m i,m<k+1→t.place[i]? = some (it t.mask m p).j→hashAt i≠h:=fun {k} q m i' hm e'=>by
     cases m with
     |zero=>rw[B4 T.rs e' ei];exact hh'
     |succ m=>exact q m i' (by omega) e'
    generalize hg:SetTable.probe.go t hashAt h fuel (adv t.mask p)=r at ih
    cases ih with
    |emp k hk w e1 q1=>exact Meets.emp (p:=p) (k+1) (by omega) (up w) e1 (upq q1)
    |cand k i' hk w e1 hh1 q1=>exact Meets.cand (p:=p) (k+1) i' (by omega) (up w) e1 hh1 (upq q1)
  ·rw[e]
   simp only[hd]
   exact Meets.emp (p:=p) 0 (by omega) (fun m hm=>by omega) q fun m i hm=>by omega
end _S
end
section
namespace _S
open PySem
open PySem.SetTable (Probe leap runEnd turns bits)
structure Own (mask:Nat)(owner:Array (Option Nat))(us:List Nat):Prop where
 size:owner.size=mask+1
 nd:us.Nodup
 le:∀ u∈us,u≤mask
 at':∀ j k,j≤mask→(owner.getD j (some 0)=some k↔us[k]? = some j)
theorem QQ {mask i:Nat}(hi:i≤mask):runEnd mask i≤mask:=by
 unfold runEnd
 split <;> omega
theorem QR (mask i:Nat):i≤runEnd mask i:=by
 unfold runEnd
 split <;> omega
theorem Own.none {mask:Nat}{owner:Array (Option Nat)}{us:List Nat}(O:Own mask owner us){j:Nat}(hj:j≤mask):(owner.getD j (some 0)).isNone=true↔j ∉ us:=by
 constructor
 ·intro h hm
  obtain⟨k,hk,e⟩:=List.mem_iff_getElem.mp hm
  have:=(O.at' j k hj).mpr (by rw[List.getElem?_eq_getElem hk,e])
  rw[this] at h
  cases h
 ·intro h
  cases q:owner.getD j (some 0) with
  |none=>rfl
  |some k=>exact absurd (List.mem_of_getElem? ((O.at' j k hj).mp q)) h
theorem ZF {mask:Nat}{owner:Array (Option Nat)}{us:List Nat}(O:Own mask owner us):∀ (fuel i pert:Nat),i≤mask→(∃ L,L<fuel∧(lp mask L (i,pert)).1 ∉ us) →
  ∃ n,SetTable.layClean.free mask owner fuel i pert=some (it mask n (rs mask i pert)).j∧(it mask n (rs mask i pert)).j≤mask∧(it mask n (rs mask i pert)).j ∉ us∧∀ m,m<n→(it mask m (rs mask i pert)).j∈us
 |0,i,pert,hi,⟨L,hL,_⟩=>by omega
 |fuel+1,i,pert,hi,⟨L,hL,hne⟩=>by
  unfold SetTable.layClean.free
  have hmx:=QQ hi
  have hmn:=QR mask i
  cases hf:(List.range (runEnd mask i+1-i)).find? fun k=>(owner.getD (i+k) (some 0)).isNone with
  |some k =>
   obtain⟨h1,h2,h3⟩:=List.find?_range_eq_some.mp hf
   have hk:k<runEnd mask i+1-i:=List.mem_range.mp h2
   have ej:(it mask k (rs mask i pert)).j=i+k:=by rw[rL mask i pert k (by omega)]
   refine⟨k,?_,?_,?_,fun m hm=>?_⟩
   ·rw[ej]
   ·rw[ej];omega
   ·rw[ej];exact(O.none (by omega)).mp h1
   ·rw[rL mask i pert m (by omega)]
    have:=h3 m hm
    apply Classical.byContradiction
    intro q
    rw[(O.none (show i+m≤mask by omega)).mpr q] at this
    cases this
  |none =>
   have hall:∀ k,k<runEnd mask i+1-i→i+k∈us:=fun k hk=>by
    have:=List.find?_eq_none.mp hf k (List.mem_range.mpr hk)
    apply Classical.byContradiction
    intro q
    exact this ((O.none (show i+k≤mask by omega)).mpr q)
   have hL0:L≠0:=by
    rintro rfl
    exact hne (hall 0 (by omega))
   obtain⟨L',rfl⟩:∃ L',L=L'+1:=⟨L-1,by omega⟩
   obtain⟨n,q1,q2,q3,q4⟩:=ZF O fuel (leap mask i pert).1 (leap mask i pert).2 (Q5 mask i pert) ⟨L',by omega,hne⟩
   have e:∀ m,it mask (runEnd mask i-i+1+m) (rs mask i pert)=it mask m (rs mask (leap mask i pert).1 (leap mask i pert).2):=fun m=>by rw[iO,UR]
   refine⟨runEnd mask i-i+1+n,?_,?_,?_,fun m hm=>?_⟩
   ·rw[e];exact q1
   ·rw[e];exact q2
   ·rw[e];exact q3
   ·by_cases hlt:m<runEnd mask i-i+1
    ·rw[rL mask i pert m (by omega)]
     exact hall m (by omega)
    ·obtain⟨m',rfl⟩:∃ m',m=runEnd mask i-i+1+m':=⟨m-(runEnd mask i-i+1),by omega⟩
     rw[e]
     exact q4 m' (by omega)
theorem gap {mask:Nat}{us:List Nat}(h:us.length≤mask):∃ e,e≤mask∧e ∉ us:=by
 apply Classical.byContradiction
 intro q
 have:List.range (mask+1) ⊆ us:=fun e he=>by
  apply Classical.byContradiction
  intro r
  exact q ⟨e,by have:=List.mem_range.mp he;omega,r⟩
 have:=List.Nodup.length_le_of_subset List.nodup_range this
 rw[List.length_range] at this
 omega
theorem LB (mask:Nat):Own mask (Array.replicate (mask+1) none) []:=by
 refine⟨by simp,List.nodup_nil,fun u hu=>by simp at hu,fun j k hj=>?_⟩
 have:j<mask+1:=by omega
 simp[Array.getD,this]
theorem FV {mask:Nat}{owner:Array (Option Nat)}{us:List Nat}(O:Own mask owner us){j:Nat}(hj:j≤mask)(hn:j ∉ us):Own mask (owner.setIfInBounds j (some us.length)) (us++[j]):=by
 refine⟨by simp[O.size],?_,fun u hu=>?_,fun i k hi=>?_⟩
 ·rw[List.nodup_append]
  refine⟨O.nd,by simp,fun a ha b hb=>?_⟩
  simp at hb
  rintro rfl
  subst hb
  exact hn ha
 ·rcases List.mem_append.mp hu with h|h
  ·exact O.le u h
  ·simp at h;omega
 ·have hsz:=O.size
  have hi':i<owner.size:=by omega
  have hk:∀ {k},us[k]? = some i→k<us.length:=fun q=>(List.getElem?_eq_some_iff.mp q).1
  by_cases hij:j=i
  ·subst hij
   have e1:(owner.setIfInBounds j (some us.length)).getD j (some 0)=some us.length:=by simp[Array.getD,hi']
   rw[e1]
   constructor
   ·intro q;cases q;simp
   ·intro q
    by_cases h1:k<us.length
    ·rw[List.getElem?_append_left h1] at q
     exact absurd (List.mem_of_getElem? q) hn
    ·rw[List.getElem?_append_right (by omega)] at q
     have:k-us.length=0:=by
      cases hz:k-us.length with
      |zero=>rfl
      |succ z=>rw[hz] at q;simp at q
     congr 1;omega
  ·have e1:(owner.setIfInBounds j (some us.length)).getD i (some 0)=owner.getD i (some 0):=by
    simp[Array.getD,hi',Array.getElem_setIfInBounds,hij]
   rw[e1,O.at' i k hi]
   constructor
   ·intro q;rw[List.getElem?_append_left (hk q)];exact q
   ·intro q
    by_cases h1:k<us.length
    ·rw[List.getElem?_append_left h1] at q;exact q
    ·rw[List.getElem?_append_right (by omega)] at q
     cases hz:k-us.length with
     |zero=>rw[hz] at q;simp at q;exact absurd q hij
     |succ z=>rw[hz] at q;simp at q
def JK (mask:Nat)(us:List Nat)(hs:List Int):Prop:=∀ (k:Nat) (h:Int),hs[k]? = some h→∃ n,us[k]? = some (it mask n (st mask h)).j∧∀ m,m<n→(it mask m (st mask h)).j∈us
theorem ZE {mask:Nat}(hM:Msk mask):∀ (hs done:List Int) (owner:Array (Option Nat)) (us:List Nat),Own mask owner us→us.length=done.length→done.length+hs.length≤mask→JK mask us done →
  ∃ owner' us',hs.foldl (fun acc h=>do
   let (owner,k) ← acc
   let j ← SetTable.layClean.free mask owner (turns mask) (bits h % (mask+1)) (bits h)
   pure (owner.setIfInBounds j (some k),k+1)) (some (owner,us.length))=some (owner',us'.length)∧Own mask owner' us'∧us'.length=done.length+hs.length∧JK mask us' (done++hs)
 |[],done,owner,us,O,hl,_,hL=>⟨owner,us,rfl,O,by simpa using hl,by simpa using hL⟩
 |h::hs,done,owner,us,O,hl,hlen,hL=>by
  rw[List.length_cons] at hlen
  obtain⟨e,he,hne⟩:=gap (mask:=mask) (us:=us) (by omega)
  obtain⟨L,hLn,hLe⟩:=YC hM (i:=bits h % (mask+1)) (Nat.le_of_lt_succ (Nat.mod_lt _ (Nat.succ_pos _))) (U9 h) he
  obtain⟨n,q1,q2,q3,q4⟩:=ZF O (turns mask) (bits h % (mask+1)) (bits h) (Nat.le_of_lt_succ (Nat.mod_lt _ (Nat.succ_pos _))) ⟨L,by unfold turns;omega,by rw[hLe];exact hne⟩
  have O':=FV O q2 q3
  have hL':JK mask (us++[(it mask n (rs mask (bits h % (mask+1)) (bits h))).j]) (done++[h]):=fun k h' e'=>by
   by_cases hk:k<done.length
   ·rw[List.getElem?_append_left hk] at e'
    obtain⟨n',w1,w2⟩:=hL k h' e'
    exact⟨n',by rw[List.getElem?_append_left (by omega)];exact w1,fun m hm=>List.mem_append_left _ (w2 m hm)⟩
   ·rw[List.getElem?_append_right (by omega)] at e'
    cases hz:k-done.length with
    |succ z=>rw[hz] at e';simp at e'
    |zero =>
     rw[hz] at e'
     simp at e'
     subst e'
     refine⟨n,?_,fun m hm=>List.mem_append_left _ (q4 m hm)⟩
     rw[List.getElem?_append_right (by omega),hl,hz]
     rfl
  obtain⟨owner',us',r1,r2,r3,r4⟩:=ZE hM hs (done++[h]) _ _ O' (by simp[hl]) (by simp;omega) hL'
  refine⟨owner',us',?_,r2,by simpa [Nat.add_assoc,Nat.add_comm 1] using r3,by simpa using r4⟩
  rw[List.foldl_cons]
  rw[List.length_append] at r1
  have e0:(do
   let (owner,k) ← some (owner,us.length)
   let j ← SetTable.layClean.free mask owner (turns mask) (bits h % (mask+1)) (bits h)
   pure (owner.setIfInBounds j (some k),k+1))=some (owner.setIfInBounds (it mask n (rs mask (bits h % (mask+1)) (bits h))).j (some us.length),us.length+1):=by
   show (SetTable.layClean.free mask owner (turns mask) (bits h % (mask+1)) (bits h)).bind _=_
   rw[q1]
   rfl
  rw[e0]
  exact r1
theorem XC {mask:Nat}(hM:Msk mask)(hs:Array Int)(hlen:hs.size≤mask):∃ owner us,SetTable.layClean mask hs=some owner∧Own mask owner us∧us.length=hs.size∧JK mask us hs.toList:=by
 obtain⟨owner',us',r1,r2,r3,r4⟩:=ZE hM hs.toList [] _ [] (LB mask) rfl (by simpa using hlen) (fun k h e=>by simp at e)
 refine⟨owner',us',?_,r2,by simpa using r3,by simpa using r4⟩
 unfold SetTable.layClean
 rw[← Array.foldl_toList]
 have:(([]:List Nat).length)=0:=rfl
 rw[this] at r1
 erw [r1]
 rfl
structure Laid (mask:Nat)(hs:Array Int)(t:SetTable)(qY:Array Nat):Prop where
 msk:t.mask=mask
 tb:Tb t
 size:t.place.size=hs.size
 le:∀ x∈t.place.toList,x≤mask
 perm:qY.toList.Perm (List.range hs.size)
 way:∀ (i k:Nat) (h:Int),qY[i]? = some k→hs[k]? = some h→∃ n,t.place[i]? = some (it mask n (st mask h)).j∧Way t (st mask h) n
theorem GV {mask:Nat}(hM:Msk mask)(hs:Array Int)(hlen:hs.size≤mask)(finger moves:Nat)(led plain:Bool) :
  ∃ t qY,SetTable.laid mask finger moves led plain hs=some (t,qY)∧t.led=led∧t.plain=plain∧Laid mask hs t qY:=by
 obtain⟨owner,us,e,O,hl,hL⟩:=XC hM hs hlen
 have hg:∀ j,j≤mask→owner.getD j none=owner.getD j (some 0):=fun j hj=>by
  have:j<owner.size:=by rw[O.size];omega
  simp[Array.getD,this]
 generalize hlv:((List.range (mask+1)).filterMap fun j=>(owner.getD j none).map (j,·))=live
 have mem:∀ (j k:Nat),(j,k)∈live↔us[k]? = some j:=fun j k=>by
  rw[← hlv,List.mem_filterMap]
  constructor
  ·rintro⟨j',hj',q⟩
   have hj'':j'≤mask:=by have:=List.mem_range.mp hj';omega
   rw[hg j' hj''] at q
   cases hz:owner.getD j' (some 0) with
   |none=>rw[hz] at q;cases q
   |some k' =>
    rw[hz] at q
    simp at q
    obtain⟨rfl,rfl⟩:=q
    exact(O.at' _ _ hj'').mp hz
  ·intro q
   have hj:j≤mask:=O.le j (List.mem_of_getElem? q)
   refine⟨j,List.mem_range.mpr (by omega),?_⟩
   rw[hg j hj,(O.at' j k hj).mpr q]
   rfl
 have hfst:live.map (·.1)=(List.range (mask+1)).filter fun j=>(owner.getD j none).isSome:=by
  rw[← hlv,List.map_filterMap]
  generalize owner.getD=f
  induction List.range (mask+1) with
  |nil=>rfl
  |cons a l ih =>
   rw[List.filterMap_cons,List.filter_cons]
   cases hz:f a none with
   |none=>simpa using ih
   |some k=>simpa using ih
 have hR:(live.map (·.1)).Pairwise (· < ·):=by
  rw[hfst]
  exact List.Pairwise.filter _ List.pairwise_lt_range
 have ndl:(live.map (·.2)).Nodup:=by
  unfold List.Nodup
  rw[List.pairwise_map]
  have h1:=List.pairwise_map.mp hR
  refine List.Pairwise.imp_of_mem (fun {a b} ha hb hab=>?_) h1
  intro q
  have ea:=(mem a.1 a.2).mp ha
  have eb:=(mem b.1 b.2).mp hb
  rw[← q,ea] at eb
  simp at eb
  omega
 have pm:(live.map (·.2)).Perm (List.range hs.size):=by
  rw[List.perm_ext_iff_of_nodup ndl List.nodup_range]
  intro k
  rw[List.mem_map,List.mem_range,← hl]
  constructor
  ·rintro⟨⟨j,k'⟩,h1,rfl⟩
   exact(List.getElem?_eq_some_iff.mp ((mem j k').mp h1)).1
  ·intro hk
   exact⟨(us[k],k),(mem _ _).mpr (List.getElem?_eq_getElem hk),rfl⟩
 have hmem:∀ j,j∈live.map (·.1)↔j∈us:=fun j=>by
  rw[List.mem_map]
  constructor
  ·rintro⟨⟨j',k⟩,h1,rfl⟩
   exact List.mem_of_getElem? ((mem _ _).mp h1)
  ·intro h1
   obtain⟨k,hk,e⟩:=List.mem_iff_getElem.mp h1
   exact⟨(j,k),(mem _ _).mpr (by rw[List.getElem?_eq_getElem hk,e]),rfl⟩
 refine⟨{ mask,place:=(live.map (·.1)).toArray,dummies:=#[],finger,led,moves,plain },(live.map (·.2)).toArray,?_,rfl,rfl,rfl,⟨?_,rfl⟩,?_,fun x hx=>?_,?_,fun i k h e1 e2=>?_⟩
 ·unfold SetTable.laid
  rw[e,← hlv]
  rfl
 ·exact hR
 ·have:=pm.length_eq
  simp at this ⊢
  exact this
 ·exact O.le x ((hmem x).mp hx)
 ·exact pm
 ·have e1':(live.map (·.2))[i]? = some k:=by simpa using e1
  rw[List.getElem?_map] at e1'
  cases hz:live[i]? with
  |none=>rw[hz] at e1';cases e1'
  |some jk =>
   rw[hz] at e1'
   simp at e1'
   have hin:=List.mem_of_getElem? hz
   have hu:=(mem jk.1 jk.2).mp hin
   obtain⟨n,w1,w2⟩:=hL k h (by rw[Array.getElem?_toList];exact e2)
   rw[← e1'] at w1
   rw[hu] at w1
   refine⟨n,?_,fun m hm=>?_⟩
   ·rw[← w1]
    simp[hz]
   ·have:=(hmem _).mpr (w2 m hm)
    simpa using this
theorem LR {t:SetTable}{hs:Array Int}{w:Nat}:SetTable.relaid t hs w=SetTable.laid (SetTable.sizeAbove w-1) t.finger (t.movedTo (SetTable.sizeAbove w-1)) t.led t.plain hs:=rfl
end _S
end
section
namespace _S
open PySem
open PySem.SetTable (Probe leap runEnd turns bits)
structure Set0 {K:Type}(is:K→Value→Prop)(hash:K→Int)(es:Array (Int × Value))(seen:List K):Prop where
 good:∀ e∈es.toList,∃ k,e.1=hash k∧is k e.2
 nd:es.toList.Pairwise fun a b=>∀ k,is k a.2→¬ is k b.2
 mem:∀ k,k∈seen↔∃ e∈es.toList,is k e.2
section
variable {K:Type}{is:K→Value→Prop}{hash:K→Int}{es es':Array (Int × Value)}{seen seen':List K}
theorem Set0.perm (Z:Set0 is hash es seen)(p:es'.toList.Perm es.toList):Set0 is hash es' seen:=
 ⟨fun e he=>Z.good e (p.mem_iff.mp he),(p.pairwise_iff fun {x y} h k hy hx=>h k hx hy).mpr Z.nd,fun k=>(Z.mem k).trans ⟨fun ⟨e,he,q⟩=>⟨e,p.mem_iff.mpr he,q⟩,fun ⟨e,he,q⟩=>⟨e,p.mem_iff.mp he,q⟩⟩⟩
theorem Set0.nil:Set0 is hash #[] []:=⟨fun e he=>by simp at he,by simp,fun k=>by simp⟩
theorem Set0.push (Z:Set0 is hash es seen)(inj:∀ {k k':K} {v:Value},is k v→is k' v→k=k'){k:K}{x:Value}(hk:is k x)(hn:k ∉ seen)(p:es'.toList.Perm (es.toList++[(hash k,x)])):Set0 is hash es' (k::seen):=by
 refine Set0.perm (es:=es.push (hash k,x)) ⟨fun e he=>?_,?_,fun k'=>?_⟩ (by simpa using p)
 ·rw[Array.toList_push] at he
  rcases List.mem_append.mp he with he|he
  ·exact Z.good e he
  ·simp at he;subst he;exact⟨k,rfl,hk⟩
 ·rw[Array.toList_push,List.pairwise_append]
  refine⟨Z.nd,by simp,fun a ha b hb k' h1 h2=>?_⟩
  simp at hb;subst hb
  have:=inj hk h2
  subst this
  exact hn ((Z.mem k).mpr ⟨a,ha,h1⟩)
 ·rw[List.mem_cons,Z.mem,Array.toList_push]
  constructor
  ·rintro (rfl|⟨e,he,q⟩)
   ·exact⟨(hash k',x),by simp,hk⟩
   ·exact⟨e,List.mem_append_left _ he,q⟩
  ·rintro⟨e,he,q⟩
   rcases List.mem_append.mp he with he|he
   ·exact .inr ⟨e,he,q⟩
   ·simp at he;subst he;exact .inl (inj q hk)
theorem Set0.again (Z:Set0 is hash es seen){k:K}(hk:k∈seen):Set0 is hash es (k::seen):=
 ⟨Z.good,Z.nd,fun k'=>by rw[List.mem_cons,Z.mem];exact⟨fun h=>h.elim (fun e=>by subst e;exact(Z.mem _).mp hk) id,.inr⟩⟩
end
section
open Classical in
theorem aK {K:Type}{is:K→Value→Prop}:∀ (L:List (Int × Value)) (U:List K),L.Pairwise (fun a b=>∀ k,is k a.2→¬ is k b.2)→(∀ e∈L,∃ k∈U,is k e.2)→L.length≤U.length
 |[],U,_,_=>Nat.zero_le _
 |e::L,U,nd,h=>by
  rw[List.pairwise_cons] at nd
  obtain⟨k0,hk0,q0⟩:=h e (by simp)
  have ih:=aK L (U.erase k0) nd.2 fun e' he'=>by
   obtain⟨k,hk,q⟩:=h e' (by simp[he'])
   have:k≠k0:=fun z=>nd.1 e' he' k0 q0 (z▸q)
   exact⟨k,(List.mem_erase_of_ne this).mpr hk,q⟩
  rw[List.length_erase_of_mem hk0] at ih
  have:0<U.length:=List.length_pos_of_mem hk0
  rw[List.length_cons]
  omega
open Classical in
theorem Set0.few {K:Type}{is:K→Value→Prop}{hash:K→Int}{es:Array (Int × Value)}{seen U:List K}{k:K}(Z:Set0 is hash es seen)(hU:∀ k'∈seen,k'∈U)(hk:k∈U)(hn:k ∉ seen):es.size<U.length:=by
 have:=aK es.toList (U.erase k) Z.nd fun e he=>by
  obtain⟨k',_,q⟩:=Z.good e he
  have hs:=(Z.mem k').mpr ⟨e,he,q⟩
  have hne:k'≠k:=fun z=>hn (z▸hs)
  exact⟨k',(List.mem_erase_of_ne hne).mpr (hU k' hs),q⟩
 rw[List.length_erase_of_mem hk,Array.length_toList] at this
 have:0<U.length:=List.length_pos_of_mem hk
 omega
end
structure TabT (t:SetTable)(es:Array (Int × Value)):Prop where
 tb:Tb t
 msk:Msk t.mask
 size:t.place.size=es.size
 le:∀ x∈t.place.toList,x≤t.mask
 few:es.size*5<t.mask*3
 way:∀ (i:Nat) (e:Int × Value),es[i]? = some e→∃ n,t.place[i]? = some (it t.mask n (st t.mask e.1)).j∧Way t (st t.mask e.1) n
 plain:t.plain=true
theorem TabT.fits {t:SetTable}{es:Array (Int × Value)}(T:TabT t es):t.fits es.size=true:=by
 have h1:=T.size
 have h2:=T.few
 have h3:t.fill=es.size:=by unfold SetTable.fill;rw[T.tb.dm,h1];rfl
 unfold SetTable.fits
 rw[h3,h1]
 rcases T.msk with h|h|h <;> rw[h] at h2 ⊢ <;> simp <;> omega
theorem TabT.gap {t:SetTable}{es:Array (Int × Value)}(T:TabT t es):∃ e,e≤t.mask∧e ∉ t.place.toList:=by
 apply _S.gap
 rw[Array.length_toList,T.size]
 have h2:=T.few
 rcases T.msk with h|h|h <;> rw[h] at h2 ⊢ <;> omega
theorem TabT.odd {t:SetTable}{es:Array (Int × Value)}(T:TabT t es):t.gaveWay=false:=by
 unfold SetTable.gaveWay
 rcases T.msk with h|h|h <;> rw[h] <;> rfl
theorem TabT.put {t:SetTable}{es:Array (Int × Value)}(T:TabT t es){h:Int}{x:Value}{n:Nat}(w:Way t (st t.mask h) n)(hn:(it t.mask n (st t.mask h)).j ∉ t.place.toList)(hle:(it t.mask n (st t.mask h)).j≤t.mask) :
  let es':=SetTable.insertAt es (t.put (it t.mask n (st t.mask h)).j).2 (h,x)
  Tb (t.put (it t.mask n (st t.mask h)).j).1∧(t.put (it t.mask n (st t.mask h)).j).1.place.size=es'.size∧(∀ y∈(t.put (it t.mask n (st t.mask h)).j).1.place.toList,y≤t.mask) ∧
  (∀ (i:Nat) (e:Int × Value),es'[i]? = some e→∃ m,(t.put (it t.mask n (st t.mask h)).j).1.place[i]? = some (it t.mask m (st t.mask e.1)).j∧Way (t.put (it t.mask n (st t.mask h)).j).1 (st t.mask e.1) m):=by
 generalize hj:(it t.mask n (st t.mask h)).j=j at *
 have pm:∀ y,y∈(t.put j).1.place.toList↔y=j∨y∈t.place.toList:=fun y=>by
  show y∈(SetTable.insertAt t.place (SetTable.below t.place j) j).toList↔_
  rw[(SetTable.insertAt_perm _ _ _).mem_iff]
  simp[or_comm]
 have hb:SetTable.below t.place j≤t.place.size:=(m8 T.tb.rs j).le
 have wm:∀ {p:Probe} {m:Nat},Way t p m→Way (t.put j).1 p m:=fun {p m} w q hq=>(pm _).mpr (.inr (w q hq))
 refine⟨EE T.tb hn,?_,fun y hy=>?_,fun i e he=>?_⟩
 ·show (SetTable.insertAt t.place _ j).size=(SetTable.insertAt es _ (h,x)).size
  rw[pT,pT,T.size]
 ·rcases (pm y).mp hy with rfl|hy
  ·exact hle
  ·exact T.le y hy
 ·have he':(if i<SetTable.below t.place j then es[i]? else if i=SetTable.below t.place j then some (h,x) else es[i-1]?)=some e:=by
   rw[← iJ es (by rw[← T.size];exact hb)]
   exact he
  have pl:(t.put j).1.place[i]? = if i<SetTable.below t.place j then t.place[i]? else if i=SetTable.below t.place j then some j else t.place[i-1]?:=iJ t.place hb j i
  rw[pl]
  by_cases h1:i<SetTable.below t.place j
  ·rw[if_pos h1] at he' ⊢
   obtain⟨m,q1,q2⟩:=T.way i e he'
   exact⟨m,q1,wm q2⟩
  ·rw[if_neg h1] at he' ⊢
   by_cases h2:i=SetTable.below t.place j
   ·rw[if_pos h2] at he' ⊢
    cases he'
    exact⟨n,by rw[hj],wm w⟩
   ·rw[if_neg h2] at he' ⊢
    obtain⟨m,q1,q2⟩:=T.way _ e he'
    exact⟨m,q1,wm q2⟩
theorem MR {mask:Nat}(p:Probe)(hp:p.j+p.more≤mask):∀ n,(it mask n p).j+(it mask n p).more≤mask
 |0=>hp
 |n+1=>by
  rw[eQ]
  have ih:=MR p hp n
  unfold adv
  split
  ·show (it mask n p).j+1+((it mask n p).more-1)≤mask
   omega
  ·show (leap mask _ _).1+(runEnd mask (leap mask _ _).1-(leap mask _ _).1)≤mask
   have h1:=QQ (Q5 mask (it mask n p).i (it mask n p).perturb)
   have h2:=QR mask (leap mask (it mask n p).i (it mask n p).perturb).1
   omega
theorem T6 (mask:Nat)(h:Int)(n:Nat):(it mask n (st mask h)).j≤mask:=by
 have h0:bits h % (mask+1)≤mask:=Nat.le_of_lt_succ (Nat.mod_lt _ (Nat.succ_pos _))
 have:=MR (mask:=mask) (st mask h) (by
  show bits h % (mask+1)+(runEnd mask (bits h % (mask+1))-bits h % (mask+1))≤mask
  have h1:=QQ h0
  have h2:=QR mask (bits h % (mask+1))
  omega) n
 omega
theorem cP {t:SetTable}{es:Array (Int × Value)}(hM:Msk t.mask)(hp:t.plain=true)(h1:t.place.size=es.size)(h2:es.size≤64)(hf:t.tooFull=true)(hd:t.dummies=#[])(h3:(es.size-1)*5<t.mask*3)(h4:0<es.size) :
  SetTable.sizeAbove (SetTable.grown es.size)≤128∧∃ t' qY,t.relaid (es.map (·.1)) (SetTable.grown es.size)=some (t',qY)∧t'.led=t.led∧(qY.filterMap (es[·]?)).toList.Perm es.toList∧TabT t' (qY.filterMap (es[·]?))∧qY.toList.Perm (List.range es.size):=by
 have hfill:t.fill=es.size:=by unfold SetTable.fill;rw[hd,h1];rfl
 have hful:t.mask*3≤es.size*5:=by
  unfold SetTable.tooFull at hf
  rw[hfill] at hf
  simpa using hf
 have hcase:(es.size=5∧SetTable.sizeAbove (SetTable.grown es.size)=32)∨(es.size=19∧SetTable.sizeAbove (SetTable.grown es.size)=128):=by
  rcases hM with h|h|h <;> rw[h] at hful h3
  ·have:es.size=5:=by omega
   exact .inl ⟨this,by rw[this];decide⟩
  ·have:es.size=19:=by omega
   exact .inr ⟨this,by rw[this];decide⟩
  ·omega
 have hM':Msk (SetTable.sizeAbove (SetTable.grown es.size)-1):=by
  rcases hcase with⟨_,h⟩|⟨_,h⟩ <;> rw[h]
  ·exact .inr (.inl rfl)
  ·exact .inr (.inr rfl)
 have hle:(es.map (·.1)).size≤SetTable.sizeAbove (SetTable.grown es.size)-1:=by
  rw[Array.size_map]
  rcases hcase with⟨h5,h⟩|⟨h5,h⟩ <;> rw[h,h5] <;> omega
 obtain⟨t',qY,e,l1,l2,L⟩:=GV hM' (es.map (·.1)) hle t.finger (t.movedTo (SetTable.sizeAbove (SetTable.grown es.size)-1)) t.led t.plain
 have hosz:qY.size=es.size:=by
  have:=L.perm.length_eq
  simpa using this
 have hord:∀ i k,qY[i]? = some k→k<es.size:=fun i k q=>by
  have:k∈List.range (es.map (·.1)).size:=L.perm.mem_iff.mp (List.mem_of_getElem? (by rw[Array.getElem?_toList];exact q))
  simpa using this
 have hfm:(qY.filterMap (es[·]?)).toList=qY.toList.map fun k=>es.toList.getD k (0,.none):=by
  rw[Array.toList_filterMap]
  have:∀ l:List Nat,(∀ k∈l,k<es.size)→l.filterMap (es[·]?)=l.map fun k=>es.toList.getD k (0,.none):=by
   intro l
   induction l with
   |nil=>intro _;rfl
   |cons a l ih =>
    intro hl
    have ha:=hl a (by simp)
    rw[List.filterMap_cons,List.map_cons,ih fun k hk=>hl k (by simp[hk])]
    rw[Array.getElem?_eq_getElem ha]
    simp[ha]
  refine this _ fun k hk=>?_
  obtain⟨i,hi,q⟩:=List.mem_iff_getElem.mp hk
  exact hord i k (by rw[← Array.getElem?_toList,List.getElem?_eq_getElem hi,q])
 have hperm:(qY.filterMap (es[·]?)).toList.Perm es.toList:=by
  rw[hfm]
  have p1:=L.perm.map fun k=>es.toList.getD k (0,Value.none)
  refine p1.trans ?_
  have e2:(List.range (es.map (·.1)).size).map (fun k=>es.toList.getD k (0,Value.none))=es.toList:=by
   apply List.ext_getElem
   ·simp
   ·intro i a1 a2
    have a3:i<es.size:=by simpa using a2
    simp[a3]
  rw[e2]
 have hsz:(qY.filterMap (es[·]?)).size=es.size:=by rw[← Array.length_toList,hperm.length_eq,Array.length_toList]
 have hentry:∀ i,(qY.filterMap (es[·]?))[i]? = (qY[i]?).map fun k=>es.toList.getD k (0,.none):=fun i=>by
  rw[← Array.getElem?_toList,hfm,List.getElem?_map,Array.getElem?_toList]
 refine⟨by rcases hcase with⟨_,h⟩|⟨_,h⟩ <;> rw[h] <;> decide,t',qY,by rw[LR];exact e,l1,hperm,⟨L.tb,by rw[L.msk];exact hM',by rw[L.size,hsz,Array.size_map],by rw[L.msk];exact L.le,?_,fun i en q=>?_,by rw[l2];exact hp⟩,by have:=L.perm;rwa [Array.size_map] at this⟩
 ·rw[hsz,L.msk]
  rcases hcase with⟨h5,h⟩|⟨h5,h⟩ <;> rw[h,h5] <;> omega
 ·rw[hentry] at q
  cases hz:qY[i]? with
  |none=>rw[hz] at q;cases q
  |some k =>
   rw[hz] at q
   simp only[Option.map_some,Option.some.injEq] at q
   have hk:=hord i k hz
   have:(es.map (·.1))[k]? = some en.1:=by
    rw[Array.getElem?_map,Array.getElem?_eq_getElem hk]
    rw[← q]
    simp[hk]
   rw[L.msk]
   exact L.way i k en.1 hz this
end _S
end
section
namespace _S
open PySem
open PySem.SetTable (Probe leap runEnd turns bits)
def Sup (h0 h:Heap):Prop:=∀ b o,h0.get? b=some o→h.get? b=some o
def isT (prog:Program)(w:World)(h0:Heap)(ks:List Int)(v:Value):Prop:=∃ a,v=.ref a∧IsTupleKey (intKind prog w) h0 ks a
section
variable {prog:Program}{w:World}{h0:Heap}
theorem isT.inj {x y:List Int}{v:Value}(hx:isT prog w h0 x v)(hy:isT prog w h0 y v):x=y:=by
 obtain⟨a,rfl,h1⟩:=hx
 obtain⟨b,e,h2⟩:=hy
 cases e
 exact h1.inj h2
theorem bQ {h:Heap}{ks:List Int}{a:Addr}(hS:Sup h0 h)(hx:IsTupleKey (intKind prog w) h0 ks a):IsTupleKey (intKind prog w) h ks a:=by
 obtain⟨o,items,n,ho,r⟩:=hx
 exact⟨o,items,n,hS _ _ ho,r⟩
variable {A:Around}{E:Value→Shared→Prop}{s:Shared}
theorem HS {k:List Int}{v:Value}{Q:Int→Shared→Prop}(hu:A.units<cLine)(hS:Sup h0 s.heap)(hx:isT prog w h0 k v)(h:Q (tupleKeyHash (intKind prog w) k) { s with toks:=s.toks+(k.length+1) }) : wpAny (model prog w) A (pyHash v) Q E s:=by
 obtain⟨a,rfl,hx⟩:=hx
 exact wpAny_pyHash_tuple hu (bQ hS hx) h
theorem eqT {k k':List Int}{v v':Value}{Q:Bool→Shared→Prop}(hu:A.units<cLine)(hS:Sup h0 s.heap)(hx:isT prog w h0 k v)(hy:isT prog w h0 k' v')(h:Q (decide (k=k')) s):wpAny (model prog w) A (eqBool v v') Q E s:=by
 obtain⟨a,rfl,hx⟩:=hx
 obtain⟨b,rfl,hy⟩:=hy
 exact wpAny_eqBool_tuple hu (bQ hS hx) (bQ hS hy) h
theorem iQ {prog:Program}{w:World}:∀ {ks:List Int} {vs:List Value},ItemsAre (intKind prog w) ks vs→∀ v∈vs,∃ i t,v=.int i t:=by
 intro ks vs h
 induction h with
 |nil=>intro v hv;simp at hv
 |@cons k v' ks vs h1 _ ih =>
  intro v hv
  rcases List.mem_cons.mp hv with rfl|hv
  ·cases v <;> first|exact⟨_,_,rfl⟩|exact absurd h1 (by rintro⟨⟩)
  ·exact ih v hv
theorem A9 {k:List Int}{v:Value}{Q:Bool→Shared→Prop}(hS:Sup h0 s.heap)(hx:isT prog w h0 k v)(h:Q true s):wpAny (model prog w) A (hashByValue 8 v) Q E s:=by
 obtain⟨a,rfl,hx⟩:=hx
 have hx:=bQ hS hx
 have hT:=hx.typeIs
 obtain⟨o,items,n,ho,_,hd,hi⟩:=hx
 unfold hashByValue
 refine wpAny_bind (wpAny_specialOf hT F.slot_tuple_hash.lookup ?_)
 show wpAny _ _ (seqItems? (.ref a) >>= _) Q E s
 refine wpAny_bind (wpAny_seqItems ho hd ?_)
 refine wpAny_bind ?_
 show wpAny _ _ (forIn items _ _) _ _ s
 rw[← Array.forIn_toList]
 refine wpAny_forIn_list _ (fun rest r s'=>r.1=none∧s'=s∧∀ v∈rest,∃ i t,v=.int i t) _ ?_ ?_ _ _ ⟨rfl,rfl,iQ hi⟩
 ·rintro v rest r s' ⟨hr,rfl,hall⟩
  obtain⟨i,t,rfl⟩:=hall v List.mem_cons_self
  show wpAny _ _ (hashByValue 7 (.int i t) >>= _) _ _ _
  rw[show hashByValue 7 (.int i t)=pure true from rfl]
  refine wpAny_bind (wpAny_pure ?_)
  simp only[Bool.not_true,Bool.false_eq_true,if_false]
  exact wpAny_pure ⟨rfl,rfl,fun u hu'=>hall u (List.mem_cons_of_mem _ hu')⟩
 ·rintro⟨r1,r2⟩ s' ⟨hr,rfl,_⟩
  simp only at hr
  subst hr
  exact wpAny_pure h
theorem G8 {k:List Int}{v:Value}{Q:Bool→Shared→Prop}(hS:Sup h0 s.heap)(hx:isT prog w h0 k v)(h:Q false s):wpAny (model prog w) A (ofAClassStatement 8 v) Q E s:=by
 obtain⟨a,rfl,hx⟩:=hx
 have hx:=bQ hS hx
 have hT:=hx.typeIs
 obtain⟨o,items,n,ho,_,hd,hi⟩:=hx
 unfold ofAClassStatement
 refine wpAny_bind (wpAny_typeOf hT ?_)
 dsimp only
 refine wpAny_bind (wpAny_pure ?_)
 simp only[Bool.not_true,Bool.false_eq_true,if_false]
 refine wpAny_bind (wpAny_seqItems ho hd ?_)
 refine wpAny_bind ?_
 show wpAny _ _ (forIn items _ _) _ _ s
 rw[← Array.forIn_toList]
 refine wpAny_forIn_list _ (fun rest r s'=>r.1=none∧s'=s∧∀ v∈rest,∃ i t,v=.int i t) _ ?_ ?_ _ _ ⟨rfl,rfl,iQ hi⟩
 ·rintro v rest r s' ⟨hr,rfl,hall⟩
  obtain⟨i,t,rfl⟩:=hall v List.mem_cons_self
  show wpAny _ _ (ofAClassStatement 7 (.int i t) >>= _) _ _ _
  rw[show ofAClassStatement 7 (.int i t)=pure false from rfl]
  refine wpAny_bind (wpAny_pure ?_)
  simp only[Bool.false_eq_true,if_false]
  exact wpAny_pure ⟨rfl,rfl,fun u hu'=>hall u (List.mem_cons_of_mem _ hu')⟩
 ·rintro⟨r1,r2⟩ s' ⟨hr,rfl,_⟩
  simp only at hr
  subst hr
  exact wpAny_pure h
theorem B0 {k:List Int}{v:Value}{Q:Bool→Shared→Prop}(hS:Sup h0 s.heap)(hx:isT prog w h0 k v)(h:Q true s):wpAny (model prog w) A (eqIsQuiet 8 v) Q E s:=by
 obtain⟨a,rfl,hx⟩:=hx
 exact wpAny_eqIsQuiet_tuple (bQ hS hx) h
theorem K5 {α : Type}{c:Prop}[Decidable c]{M:Model}{t u:Sem α}{Q:α→Shared→Prop}(h1:c→wpAny M A t Q E s)(h2:¬ c→wpAny M A u Q E s):wpAny M A (if c then t else u) Q E s:=by
 by_cases h:c
 ·rw[if_pos h];exact h1 h
 ·rw[if_neg h];exact h2 h
theorem CN {k:List Int}{x:Value}{ys:List Value}{Q:Bool→Shared→Prop}(hS:Sup h0 s.heap)(hx:isT prog w h0 k x)(hy:∀ y∈ys,∃ k',isT prog w h0 k' y)(h:Q false s):wpAny (model prog w) A (searchCouldBeSeen x ys) Q E s:=by
 unfold searchCouldBeSeen
 refine wpAny_bind ?_
 refine wpAny_forIn_list _ (fun rest r s'=>r.1=none∧s'=s∧∀ v∈rest,∃ k',isT prog w h0 k' v) _ ?_ ?_ _ _ ⟨rfl,rfl,hy⟩
 ·rintro v rest r s' ⟨hr,rfl,hall⟩
  obtain⟨k',hv⟩:=hall v List.mem_cons_self
  have hrest:∀ u∈rest,∃ k',isT prog w h0 k' u:=fun u hu'=>hall u (List.mem_cons_of_mem _ hu')
  dsimp only
  refine K5 (fun _=>wpAny_pure ⟨rfl,rfl,hrest⟩) fun _=>?_
  ·refine wpAny_bind (B0 hS hx ?_)
   simp only[Bool.not_true,Bool.false_eq_true,if_false]
   refine wpAny_bind (B0 hS hv ?_)
   simp only[Bool.not_true,Bool.false_eq_true,if_false]
   refine wpAny_bind (G8 hS hx ?_)
   simp only[Bool.false_eq_true,if_false]
   refine wpAny_bind (G8 hS hv ?_)
   simp only[Bool.false_eq_true,if_false]
   exact wpAny_pure ⟨rfl,rfl,hrest⟩
 ·rintro⟨r1,r2⟩ s' ⟨hr,rfl,_⟩
  simp only at hr
  subst hr
  exact wpAny_pure h
theorem CM {k:List Int}{v:Value}{Q:Bool→Shared→Prop}(hx:isT prog w h0 k v)(h:Q true s):wpAny (model prog w) A (isSame v v) Q E s:=by
 obtain⟨a,rfl,hx⟩:=hx
 unfold isSame
 simp only[beq_self_eq_true,if_true]
 exact wpAny_pure h
theorem MP {k:List Int}{x:Value}{S:Addr}{o:Obj}{es:Array (Int × Value)}{ep:Nat}{t:SetTable}{seen:List (List Int)}(hu:A.units<cLine)(hS:Sup h0 s.heap)(ho:s.heap.get? S=some o)(hd:o.data=.set es ep t)
  (T:TabT t es) (Z:Set0 (isT prog w h0) (tupleKeyHash (intKind prog w)) es seen) (hx:isT prog w h0 k x) (N:Nat) (hNw:Way t (st t.mask (tupleKeyHash (intKind prog w) k)) N)
  (hNe:(it t.mask N (st t.mask (tupleKeyHash (intKind prog w) k))).j ∉ t.place.toList) (hNf:N<10*turns t.mask) {Q:SetFound→Shared→Prop}
  (h1:k∈seen→Q (.there none) s) (h2:k ∉ seen→Q (.free (it t.mask N (st t.mask (tupleKeyHash (intKind prog w) k))).j false) s) :
  ∀ (fuel n:Nat) (stand:Option Probe),stand.getD (t.probeStart (tupleKeyHash (intKind prog w) k))=it t.mask n (st t.mask (tupleKeyHash (intKind prog w) k))→n≤N→N-n<fuel →
   (∀ (m i:Nat) (e:Int × Value),m<n→t.place[i]? = some (it t.mask m (st t.mask (tupleKeyHash (intKind prog w) k))).j→es[i]? = some e→¬ isT prog w h0 k e.2) →
   wpAny (model prog w) A (setSearchFrom S x (tupleKeyHash (intKind prog w) k) true fuel stand) Q E s
 |0,n,stand,_,_,hf,_=>by omega
 |fuel+1,n,stand,hst,hn,hf,hq=>by
  unfold setSearchFrom
  refine wpAny_bind (wpAny_setState_of ho hd T.fits ?_)
  dsimp only
  rw[T.odd]
  simp only[Bool.false_eq_true,if_false]
  rw[hst]
  generalize hg:t.probe _ (tupleKeyHash (intKind prog w) k) (it t.mask n (st t.mask (tupleKeyHash (intKind prog w) k)))=r
  obtain⟨H,hH,hg⟩:∃ H:Nat→Int,(∀ i,H i=(es[i]?.map (·.1)).getD 0)∧t.probe H (tupleKeyHash (intKind prog w) k) (it t.mask n (st t.mask (tupleKeyHash (intKind prog w) k)))=r:=⟨_,fun i=>rfl,hg⟩
  have itn:∀ m,it t.mask m (it t.mask n (st t.mask (tupleKeyHash (intKind prog w) k)))=it t.mask (n+m) (st t.mask (tupleKeyHash (intKind prog w) k)):=fun m=>(iO _ _ _ _).symm
  have gm:Meets t H (tupleKeyHash (intKind prog w) k) (it t.mask n (st t.mask (tupleKeyHash (intKind prog w) k))) (10*turns t.mask) r:=by
   rw[← hg]
   refine d8 T.tb H _ _ _ (by rw[aI];rfl) ⟨N-n,by omega,?_⟩
   rw[itn,show n+(N-n)=N by omega]
   exact hNe
  have miss:∀ j:Nat,(∀ m i:Nat,m<j→t.place[i]? = some (it t.mask m (it t.mask n (st t.mask (tupleKeyHash (intKind prog w) k)))).j→H i≠tupleKeyHash (intKind prog w) k) →
    ∀ (m i:Nat) (e:Int × Value),m<n+j→t.place[i]? = some (it t.mask m (st t.mask (tupleKeyHash (intKind prog w) k))).j→es[i]? = some e→¬ isT prog w h0 k e.2:=fun j qj m i e hm ei ee hk=>by
   by_cases hmn:m<n
   ·exact hq m i e hmn ei ee hk
   ·refine qj (m-n) i (by omega) (by rw[itn,show n+(m-n)=m by omega];exact ei) ?_
    rw[hH,ee]
    obtain⟨k',e1,e2⟩:=Z.good e (List.mem_of_getElem? (by rw[Array.getElem?_toList];exact ee))
    rw[isT.inj hk e2]
    simpa using e1
  cases gm with
  |emp j hj w' e' q =>
   rw[itn] at e'
   have hjN:n+j=N:=by
    rcases Nat.lt_trichotomy (n+j) N with h|h|h
    ·exact absurd (hNw _ h) e'
    ·exact h
    ·have:=w' (N-n) (by omega)
     rw[itn,show n+(N-n)=N by omega] at this
     exact absurd this hNe
   dsimp only
   rw[itn,hjN]
   refine wpAny_pure (h2 fun hk=>?_)
   obtain⟨e,he,hke⟩:=(Z.mem k).mp hk
   obtain⟨i,hi,ei⟩:=List.mem_iff_getElem.mp he
   have ei':es[i]? = some e:=by rw[← Array.getElem?_toList,List.getElem?_eq_getElem hi,ei]
   obtain⟨m,w1,w2⟩:=T.way i e ei'
   obtain⟨k',g1,g2⟩:=Z.good e he
   have:=isT.inj hke g2
   subst this
   rw[g1] at w1 w2
   have hmN:m<N:=by
    apply Classical.byContradiction
    intro hc
    by_cases hmN:m=N
    ·subst hmN
     exact hNe (List.mem_of_getElem? (by rw[Array.getElem?_toList];exact w1))
    ·exact hNe (w2 N (by omega))
   exact miss j q m i e (by omega) w1 ei' hke
  |cand j i hj w' e' hh q =>
   rw[itn] at e'
   have hi:i<es.size:=by
    rw[← T.size]
    exact(Array.getElem?_eq_some_iff.mp e').1
   have ei:es[i]? = some es[i]:=Array.getElem?_eq_getElem hi
   have hjN:n+j<N:=by
    rcases Nat.lt_trichotomy (n+j) N with h|h|h
    ·exact h
    ·rw[h] at e'
     exact absurd (List.mem_of_getElem? (by rw[Array.getElem?_toList];exact e')) hNe
    ·have:=w' (N-n) (by omega)
     rw[itn,show n+(N-n)=N by omega] at this
     exact absurd this hNe
   obtain⟨k',g1,g2⟩:=Z.good es[i] (by simp)
   dsimp only
   have main:wpAny (model prog w) A (do
     let some (_,y):=es[i]?|unsupported "internal:set-entry"
     let equal ← holding [y] (eqBool y x)
     let (es',_,t') ← setState S
     if true&&equal then return .there none
     let some same:=t'.sameMemory t.moves t.mask|unsupported "set.changed-during-lookup:is-the-new-block-at-the-old-address"
     let still ← match (if same then t'.slot (it t.mask j (it t.mask n (st t.mask (tupleKeyHash (intKind prog w) k)))).j else .empty) with
      |.live i'=>match es'[i']? with
       |some (_,y')=>do pure (if ← isSame y' y then some i' else none)
       |none=>pure none
      |_=>pure none
     match still with
     |none=>rule "set.search.anew";setSearchFrom S x (tupleKeyHash (intKind prog w) k) true fuel none
     |some i'=>if equal then return .there (some i') else setSearchFrom S x (tupleKeyHash (intKind prog w) k) true fuel (some (it t.mask (j+1) (it t.mask n (st t.mask (tupleKeyHash (intKind prog w) k)))))) Q E s:=by
    rw[ei]
    dsimp only
    refine wpAny_bind (wpAny_holding (eqT hu hS g2 hx ?_))
    refine wpAny_bind (wpAny_setState_of ho hd T.fits ?_)
    by_cases hkk:k'=k
    ·subst hkk
     simp only[decide_true,Bool.and_self,if_true]
     exact wpAny_pure (h1 ((Z.mem k').mpr ⟨es[i],by simp,g2⟩))
    ·simp only[hkk,decide_false,Bool.and_false,Bool.false_eq_true,if_false]
     have hm:t.sameMemory t.moves t.mask=some true:=by simp[SetTable.sameMemory]
     rw[hm]
     dsimp only
     rw[itn,ZV T.tb e']
     simp only[if_true,ei]
     refine wpAny_bind (CM g2 ?_)
     simp only[if_true]
     refine wpAny_bind (wpAny_pure ?_)
     dsimp only
     refine MP hu hS ho hd T Z hx N hNw hNe hNf h1 h2 fuel (n+j+1) _ ?_ (by omega) (by omega) fun m i' e hm ei' ee hk=>?_
     ·rw[Option.getD_some,itn]
      rfl
     ·by_cases hmj:m<n+j
      ·exact miss j q m i' e hmj ei' ee hk
      ·have:m=n+j:=by omega
       subst this
       have:=B4 T.tb.rs ei' e'
       subst this
       rw[ei] at ee
       cases ee
       exact hkk (isT.inj g2 hk)
   refine K5 (fun _=>?_) fun _=>?_
   ·refine wpAny_bind (CN hS hx (fun y hy=>?_) ?_)
    ·obtain⟨e,he,rfl⟩:=List.mem_map.mp hy
     have:e∈es.toList:=by
      have:=(Array.mem_toList_iff.mp he)
      exact Array.mem_toList_iff.mpr (Array.mem_filter.mp this).1
     obtain⟨k2,_,g⟩:=Z.good e this
     exact⟨k2,g⟩
    ·simp only[Bool.false_eq_true,if_false]
     exact main
   ·exact main
end
end _S
end
section
namespace _S
open PySem
open PySem.SetTable (Probe leap runEnd turns bits)
@[reducible] def setO (es:Array (Int × Value))(ep:Nat)(t:SetTable):Obj:={ cls:=.type "set",dict:=none,data:=.set es ep t }
theorem eW {h:Heap}{S:Addr}{es es':Array (Int × Value)}{ep:Nat}{t t':SetTable}(ho:h.get? S=some (setO es ep t)):(h.update S (Obj.putSet es' t')).get? S=some (setO es' (ep+1) t'):=Heap.get?_update_self _ ho rfl
structure SetK {K:Type}(is:K→Value→Prop)(hash:K→Int)(S:Addr)(led:Bool)(V:List Value)(seen:List K)(h:Heap):Prop where
 ex:∃ es ep t,h.get? S=some (setO es ep t)∧Set0 is hash es seen∧TabT t es∧t.led=led∧∀ e∈es.toList,e.2∈V
section
variable {prog:Program}{w:World}{h0:Heap}{A:Around}{E:Value→Shared→Prop}{s:Shared}{S:Addr}{led:Bool}{V:List Value}
theorem M7 (a:Addr)(wanted:Nat):setRelay a wanted=(do
  let (es,_,t) ← setState a
  if SetTable.sizeAbove wanted>sizeLine then unsupported "set:memory"
  let (es,t) ← (do
   let some (t,qY):=t.relaid (es.map (·.1)) wanted|unsupported "internal:set-table-without-room"
   let es':=qY.filterMap (es[·]?)
   if es'.size != es.size then unsupported "internal:set-table-lost-an-element"
   pure (es',t))
  storeSet a es t):=rfl
theorem A6 {seen:List (List Int)}{k:List Int}{x:Value}{Q:Bool→Shared→Prop}(hu:A.units<cLine)(hS:Sup h0 s.heap)(Z:SetK (isT prog w h0) (tupleKeyHash (intKind prog w)) S led V seen s.heap)(hx:isT prog w h0 k x)(hV:x∈V){U:List (List Int)}(hU:U.length≤63)(hU1:∀ k'∈seen,k'∈U)(hU2:k∈U)
  (h:∀ (b:Bool) (h':Heap) (tk:Nat),s.toks≤tk→Heap.SameBut S s.heap h'→SetK (isT prog w h0) (tupleKeyHash (intKind prog w)) S led V (k::seen) h'→Q b { s with heap:=h',toks:=tk }) : wpAny (model prog w) A (setAdd S x) Q E s:=by
 obtain⟨es,ep,t,ho,Z,T,hl,hm⟩:=Z
 unfold setAdd
 refine wpAny_holding (wpAny_bind (HS hu hS hx ?_))
 unfold setAddHashed setAddHashedIn
 refine wpAny_holding (wpAny_bind (wpAny_setState_of (s:={ s with toks:=s.toks+(k.length+1) }) ho rfl T.fits ?_))
 dsimp only
 have hsc:byScan x es=false:=by
  obtain⟨a,rfl,_⟩:=hx
  rfl
 rw[hsc]
 simp only[Bool.false_eq_true,if_false]
 obtain⟨e,he,hne⟩:=T.gap
 have first:∃ N,Way t (st t.mask (tupleKeyHash (intKind prog w) k)) N∧(it t.mask N (st t.mask (tupleKeyHash (intKind prog w) k))).j ∉ t.place.toList∧N<10*turns t.mask:=by
  obtain⟨N,hN,eN⟩:=Y0 T.msk (tupleKeyHash (intKind prog w) k) he
  have gm:=d8 T.tb (fun _=>tupleKeyHash (intKind prog w) k+1) (tupleKeyHash (intKind prog w) k) (10*turns t.mask) (st t.mask (tupleKeyHash (intKind prog w) k)) rfl ⟨N,hN,by rw[eN];exact hne⟩
  generalize SetTable.probe.go t _ _ _ _=r at gm
  cases gm with
  |emp j hj w' e' q=>exact⟨j,w',e',hj⟩
  |cand j i hj w' e' hh q=>exact absurd hh (by omega)
 obtain⟨N,hNw,hNe,hNf⟩:=first
 have hNt:N<100000:=by
  have:turns t.mask≤142:=by
   unfold turns
   rcases T.msk with h|h|h <;> rw[h] <;> omega
  omega
 refine wpAny_bind (MP (s:={ s with toks:=s.toks+(k.length+1) }) hu hS ho rfl T Z hx N hNw hNe hNf (fun hk=>?_) (fun hk=>?_) 100000 0 none rfl (by omega) (by omega) fun m i e hm=>by omega)
 ·exact wpAny_pure (h _ s.heap _ (by omega) (Heap.SameBut.refl _ _) ⟨es,ep,t,ho,Z.again hk,T,hl,hm⟩)
 ·have hle:es.size<63:=Nat.lt_of_lt_of_le (Z.few hU1 hU2 hk) hU
  dsimp only
  refine wpAny_bind (wpAny_setState_of (s:={ s with toks:=s.toks+(k.length+1) }) ho rfl T.fits ?_)
  obtain⟨p1,p2,p3,p4⟩:=T.put (h:=tupleKeyHash (intKind prog w) k) (x:=x) hNw hNe (T6 _ _ _)
  generalize hj:(it t.mask N (st t.mask (tupleKeyHash (intKind prog w) k))).j=j at *
  have m1:(t.put j).1.mask=t.mask:=rfl
  have m2:(t.put j).1.plain=true:=T.plain
  have m3:(t.put j).1.led=led:=hl
  generalize hp:t.put j=tp at *
  obtain⟨t1,p⟩:=tp
  dsimp only at p1 p2 p3 p4 m1 m2 m3 ⊢
  rw[m2]
  simp only[if_true]
  refine wpAny_bind (A9 (s:={ s with toks:=s.toks+(k.length+1) }) hS hx ?_)
  simp only[if_true,Bool.not_false,Bool.true_and]
  have hsz:(SetTable.insertAt es p (tupleKeyHash (intKind prog w) k,x)).size=es.size+1:=pT _ _ _
  have hline:es.size+1≤sizeLine:=by rw[sizeLine_eq];omega
  refine wpAny_bind (wpAny_storeSet_of (s:={ s with toks:=s.toks+(k.length+1) }) ho rfl ?_ (by rw[hsz];exact hline))
  have Z1:Set0 (isT prog w h0) (tupleKeyHash (intKind prog w)) (SetTable.insertAt es p (tupleKeyHash (intKind prog w) k,x)) (k::seen):=by
   refine Z.push (fun a b=>isT.inj a b) hx hk ?_
   have:=SetTable.insertAt_perm es p (tupleKeyHash (intKind prog w) k,x)
   rw[Array.toList_push] at this
   exact this
  have hm1:∀ e∈(SetTable.insertAt es p (tupleKeyHash (intKind prog w) k,x)).toList,e.2∈V:=fun e he=>by
   have:=(SetTable.insertAt_perm es p (tupleKeyHash (intKind prog w) k,x)).mem_iff.mp he
   rw[Array.toList_push] at this
   rcases List.mem_append.mp this with h1|h1
   ·exact hm e h1
   ·simp at h1;subst h1;exact hV
  have ho1:=eW (es':=SetTable.insertAt es p (tupleKeyHash (intKind prog w) k,x)) (t':=t1) ho
  have sb1:=Heap.SameBut.update s.heap S (Obj.putSet (SetTable.insertAt es p (tupleKeyHash (intKind prog w) k,x)) t1)
  have hfit:t1.fits (SetTable.insertAt es p (tupleKeyHash (intKind prog w) k,x)).size=true:=by
   have h3:t1.fill=es.size+1:=by unfold SetTable.fill;rw[p1.dm,p2,hsz];rfl
   have h2:=T.few
   unfold SetTable.fits
   rw[h3,p2,hsz,m1]
   rcases T.msk with h|h|h <;> rw[h] at h2 ⊢ <;> simp <;> omega
  refine K5 (fun hf=>?_) fun hf=>?_
  ·have hM1:Msk t1.mask:=by rw[m1];exact T.msk
   have h3:((SetTable.insertAt es p (tupleKeyHash (intKind prog w) k,x)).size-1)*5<t1.mask*3:=by rw[hsz,m1];exact T.few
   obtain⟨q1,t2,qY,q2,q3,q4,q5,_⟩:=cP hM1 m2 p2 (by rw[hsz];omega) (by simpa using hf) p1.dm h3 (by rw[hsz];omega)
   rw[hsz] at q1 q2
   rw[M7]
   refine wpAny_bind ?_
   refine wpAny_bind (wpAny_setState_of (s:={ s with heap:=_,toks:=s.toks+(k.length+1) }) ho1 rfl hfit ?_)
   dsimp only
   rw[if_neg (by rw[sizeLine_eq];omega)]
   refine wpAny_bind ?_
   rw[q2]
   dsimp only
   have hs2:(qY.filterMap fun x_1=>(SetTable.insertAt es p (tupleKeyHash (intKind prog w) k,x))[x_1]?).size=es.size+1:=by rw[← Array.length_toList,q4.length_eq,Array.length_toList,hsz]
   rw[if_neg (by rw[hs2,hsz];simp)]
   refine wpAny_pure ?_
   refine wpAny_storeSet_of (s:={ s with heap:=_,toks:=s.toks+(k.length+1) }) ho1 rfl ?_ (by rw[hs2];exact hline)
   refine wpAny_pure (h _ _ _ (Nat.le_add_right _ _) (sb1.trans (Heap.SameBut.update _ S _)) ⟨_,_,t2,eW ho1,Z1.perm q4,q5,by rw[q3];exact m3,fun e he=>hm1 e (q4.mem_iff.mp he)⟩)
  ·refine wpAny_pure (h _ _ _ (Nat.le_add_right _ _) sb1 ⟨_,_,t1,ho1,Z1,⟨p1,by rw[m1];exact T.msk,p2,by rw[m1];exact p3,?_,by rw[m1];exact p4,m2⟩,m3,hm1⟩)
   have h3:t1.fill=es.size+1:=by unfold SetTable.fill;rw[p1.dm,p2,hsz];rfl
   unfold SetTable.tooFull at hf
   rw[h3] at hf
   rw[hsz]
   simpa using hf
end
end _S
end
section
namespace _S
open PySem
open PySem.SetTable (Probe leap runEnd turns bits)
def isI (prog:Program)(w:World)(k:Int)(v:Value):Prop:=(intKind prog w).is k v=true
section
variable {prog:Program}{w:World}{A:Around}{E:Value→Shared→Prop}{s:Shared}{S:Addr}{led:Bool}{V:List Value}
set_option tactic.hygienic true in
theorem jU {k:Int}{v:Value}(h:isI prog w k v):∃ t,v=.int k t:=by
 cases v <;> first|(exact absurd h (by rintro⟨⟩)) | skip
 rename_i i t
 refine⟨t,?_⟩
 have:i=k:=(intKind prog w).inj (.int i t) i k (intKind_is _ _ _ _) h
 rw[this]
theorem WS {es:Array (Int × Value)}{seen:List Int}(Z:Set0 (isI prog w) (intKind prog w).hash es seen):ElemsOf (intKind prog w) es.toList:=fun e he=>by
 obtain⟨k,h1,h2⟩:=Z.good e he
 refine⟨⟨k,h2,h1⟩,?_⟩
 obtain⟨t,q⟩:=jU h2
 rw[q];rfl
theorem A5 {seen:List Int}{k:Int}{x:Value}{Q:Bool→Shared→Prop}(Z:SetK (isI prog w) (intKind prog w).hash S led V seen s.heap)(hx:isI prog w k x)(hV:x∈V){U:List Int}(hU:U.length≤63)(hU1:∀ k'∈seen,k'∈U)(hU2:k∈U)
  (h:∀ (b:Bool) (h':Heap) (tk:Nat),s.toks≤tk→Heap.SameBut S s.heap h'→SetK (isI prog w) (intKind prog w).hash S led V (k::seen) h'→Q b { s with heap:=h',toks:=tk }) : wpAny (model prog w) A (setAdd S x) Q E s:=by
 obtain⟨es,ep,t,ho,Z,T,hl,hm⟩:=Z
 have hsc:x.scannable=true:=by
  obtain⟨tk,q⟩:=jU hx
  rw[q];rfl
 have hf:=T.fits
 have hb:es.size<scanBound:=by
  have h1:=T.few
  have:scanBound=4096:=rfl
  rcases T.msk with h|h|h <;> rw[h] at h1 <;> omega
 unfold setAdd
 refine wpAny_holding (wpAny_bind ((intKind prog w).pyHash (k:=k) hx ?_))
 unfold setAddHashed setAddHashedIn
 refine wpAny_holding (wpAny_bind (wpAny_setState_of (s:={ s with toks:=s.toks+1 }) ho rfl hf ?_))
 dsimp only
 rw[byScan_of hsc hb (WS Z)]
 simp only[if_true]
 unfold setAddByScan
 refine wpAny_bind (wpAny_bind (wpAny_rule (wpAny_bind (wpAny_setScan_of (s:={ s with toks:=s.toks+1 }) hx ho rfl hf (WS Z) ?_))))
 cases hr:es.toList.findIdx? (fun e=>(intKind prog w).is k e.2) with
 |some j =>
  dsimp only
  obtain⟨hj,hpj,_⟩:=List.findIdx?_eq_some_iff_getElem.mp hr
  have hk:k∈seen:=(Z.mem k).mpr ⟨es.toList[j],List.getElem_mem hj,hpj⟩
  exact wpAny_pure (wpAny_pure (h _ s.heap _ (Nat.le_add_right _ _) (Heap.SameBut.refl _ _) ⟨es,ep,t,ho,Z.again hk,T,hl,hm⟩))
 |none =>
  dsimp only
  have hk:k ∉ seen:=fun hk=>by
   obtain⟨e,he,q⟩:=(Z.mem k).mp hk
   have:=List.findIdx?_eq_none_iff.mp hr e he
   rw[show (intKind prog w).is k e.2=true from q] at this
   cases this
  have hle:es.size<63:=Nat.lt_of_lt_of_le (Z.few hU1 hU2 hk) hU
  obtain⟨e,he,hne⟩:=T.gap
  have first:∃ N,Way t (st t.mask ((intKind prog w).hash k)) N∧(it t.mask N (st t.mask ((intKind prog w).hash k))).j ∉ t.place.toList∧t.freeSlot ((intKind prog w).hash k)=some ((it t.mask N (st t.mask ((intKind prog w).hash k))).j,false):=by
   obtain⟨N,hN,eN⟩:=Y0 T.msk ((intKind prog w).hash k) he
   have gm:=d8 T.tb (fun _=>(intKind prog w).hash k+1) ((intKind prog w).hash k) (10*turns t.mask) (st t.mask ((intKind prog w).hash k)) rfl ⟨N,hN,by rw[eN];exact hne⟩
   unfold SetTable.freeSlot SetTable.probe
   rw[CQ]
   generalize SetTable.probe.go t _ _ _ _=r at gm
   cases gm with
   |emp j hj w' e' q=>exact⟨j,w',e',rfl⟩
   |cand j i hj w' e' hh q=>exact absurd hh (by omega)
  obtain⟨N,hNw,hNe,hfs⟩:=first
  obtain⟨p1,p2,p3,p4⟩:=T.put (h:=(intKind prog w).hash k) (x:=x) hNw hNe (T6 _ _ _)
  generalize hj:(it t.mask N (st t.mask ((intKind prog w).hash k))).j=j at *
  have m1:(t.put j).1.mask=t.mask:=rfl
  have m2:(t.put j).1.plain=true:=T.plain
  have m3:(t.put j).1.led=led:=hl
  generalize hp:t.put j=tp at *
  obtain⟨t1,p⟩:=tp
  dsimp only at p1 p2 p3 p4 m1 m2 m3 ⊢
  have hsz:(SetTable.insertAt es p ((intKind prog w).hash k,x)).size=es.size+1:=pT _ _ _
  have hfit:t1.fits (SetTable.insertAt es p ((intKind prog w).hash k,x)).size=true:=by
   have h3:t1.fill=es.size+1:=by unfold SetTable.fill;rw[p1.dm,p2,hsz];rfl
   have h2:=T.few
   unfold SetTable.fits
   rw[h3,p2,hsz,m1]
   rcases T.msk with h|h|h <;> rw[h] at h2 ⊢ <;> simp <;> omega
  have lay:layNew t es ((intKind prog w).hash k) x=(SetTable.insertAt es p ((intKind prog w).hash k,x),t1,false,false):=by
   unfold layNew
   rw[hfs]
   dsimp only
   rw[hp]
   dsimp only
   unfold SetTable.orStandIn
   rw[hfit]
   rfl
  rw[lay]
  dsimp only
  refine wpAny_bind (wpAny_pure (a:=()) ?_)
  have hbv:hashByValue 8 x=pure true:=by
   rw[hashByValue_scannable 8 hsc]
   obtain⟨tk,q⟩:=jU hx
   subst q
   rfl
  rw[hbv,ite_self]
  refine wpAny_bind (wpAny_pure ?_)
  simp only[if_true]
  have hline:es.size+1≤sizeLine:=by rw[sizeLine_eq];omega
  refine wpAny_bind (wpAny_storeSet_of (s:={ s with toks:=s.toks+1 }) ho rfl ?_ (by rw[hsz];exact hline))
  have pm:(SetTable.insertAt es p ((intKind prog w).hash k,x)).toList.Perm (es.toList++[((intKind prog w).hash k,x)]):=by
   have:=SetTable.insertAt_perm es p ((intKind prog w).hash k,x)
   rw[Array.toList_push] at this
   exact this
  have Z1:Set0 (isI prog w) (intKind prog w).hash (SetTable.insertAt es p ((intKind prog w).hash k,x)) (k::seen):=Z.push (fun a b=>(intKind prog w).inj _ _ _ a b) hx hk pm
  have hm1:∀ e∈(SetTable.insertAt es p ((intKind prog w).hash k,x)).toList,e.2∈V:=fun e he=>by
   rcases List.mem_append.mp (pm.mem_iff.mp he) with h1|h1
   ·exact hm e h1
   ·simp at h1;subst h1;exact hV
  have ho1:=eW (es':=SetTable.insertAt es p ((intKind prog w).hash k,x)) (t':=t1) ho
  have sb1:=Heap.SameBut.update s.heap S (Obj.putSet (SetTable.insertAt es p ((intKind prog w).hash k,x)) t1)
  refine K5 (fun hf=>?_) fun hf=>?_
  ·have hM1:Msk t1.mask:=by rw[m1];exact T.msk
   have h3:((SetTable.insertAt es p ((intKind prog w).hash k,x)).size-1)*5<t1.mask*3:=by rw[hsz,m1];exact T.few
   obtain⟨q1,t2,qY,q2,q3,q4,q5,q6⟩:=cP hM1 m2 p2 (by rw[hsz];omega) (by simpa using hf) p1.dm h3 (by rw[hsz];omega)
   have hs2:(qY.filterMap fun x_1=>(SetTable.insertAt es p ((intKind prog w).hash k,x))[x_1]?).size=es.size+1:=by rw[← Array.length_toList,q4.length_eq,Array.length_toList,hsz]
   have rl:relayAll t1 (SetTable.insertAt es p ((intKind prog w).hash k,x)) (SetTable.grown (SetTable.insertAt es p ((intKind prog w).hash k,x)).size)=(qY.filterMap fun x_1=>(SetTable.insertAt es p ((intKind prog w).hash k,x))[x_1]?,t2,false):=by
    unfold relayAll
    rw[q2]
    dsimp only
    have c1:coversAll qY (SetTable.insertAt es p ((intKind prog w).hash k,x)).size=true:=by
     unfold coversAll
     exact List.isPerm_iff.mpr q6
    rw[c1,q5.fits]
    rfl
   rw[rl]
   dsimp only
   refine wpAny_bind (wpAny_pure (a:=()) ?_)
   refine wpAny_bind (wpAny_storeSet_of (s:={ s with heap:=_,toks:=s.toks+1 }) ho1 rfl ?_ (by rw[hs2];exact hline))
   exact wpAny_pure (wpAny_pure (h _ _ _ (Nat.le_add_right _ _) (sb1.trans (Heap.SameBut.update _ S _)) ⟨_,_,t2,eW ho1,Z1.perm q4,q5,by rw[q3];exact m3,fun e he=>hm1 e (q4.mem_iff.mp he)⟩))
  ·refine wpAny_pure (wpAny_pure (h _ _ _ (Nat.le_add_right _ _) sb1 ⟨_,_,t1,ho1,Z1,⟨p1,by rw[m1];exact T.msk,p2,by rw[m1];exact p3,?_,by rw[m1];exact p4,m2⟩,m3,hm1⟩))
   have h3:t1.fill=es.size+1:=by unfold SetTable.fill;rw[p1.dm,p2,hsz];rfl
   unfold SetTable.tooFull at hf
   rw[h3] at hf
   rw[hsz]
   simpa using hf
end
end _S
end
section
namespace _S
open PySem
structure AddS (prog:Program)(w:World){K:Type}(is:K→Value→Prop)(hash:K→Int)(h0:Heap):Prop where
 add:∀ {A:Around} {E:Value→Shared→Prop} {s:Shared} {S:Addr} {led:Bool} {V:List Value} {seen U:List K} {k:K} {x:Value} {Q:Bool→Shared→Prop},A.units<cLine→Sup h0 s.heap→SetK is hash S led V seen s.heap→is k x→x∈V→U.length≤63→(∀ k'∈seen,k'∈U)→k∈U →
  (∀ (b:Bool) (h':Heap) (tk:Nat),s.toks≤tk→Heap.SameBut S s.heap h'→SetK is hash S led V (k::seen) h'→Q b { s with heap:=h',toks:=tk }) → wpAny (model prog w) A (setAdd S x) Q E s
theorem D6 {prog:Program}{w:World}(h0:Heap):AddS prog w (isT prog w h0) (tupleKeyHash (intKind prog w)) h0:=⟨fun hu hS Z hx hV h1 h2 h3 h=>A6 hu hS Z hx hV h1 h2 h3 h⟩
theorem D5 {prog:Program}{w:World}(h0:Heap):AddS prog w (isI prog w) (intKind prog w).hash h0:=⟨fun _ _ Z hx hV h1 h2 h3 h=>A5 Z hx hV h1 h2 h3 h⟩
def jS {K:Type}(key:Nat→K):Nat→List K
 |0=>[]
 |i+1=>key i::jS key i
theorem tN {K:Type}{key:Nat→K}{k:K}:∀ {n:Nat},k∈jS key n↔∃ i,i<n∧key i=k
 |0=>by simp[jS]
 |n+1=>by
  rw[jS,List.mem_cons,tN]
  constructor
  ·rintro (rfl|⟨i,h,e⟩)
   ·exact⟨n,by omega,rfl⟩
   ·exact⟨i,by omega,e⟩
  ·rintro⟨i,h,e⟩
   by_cases hi:i=n
   ·subst hi;exact .inl e.symm
   ·exact .inr ⟨i,by omega,e⟩
section
variable {prog:Program}{w:World}{A:Around}{R:Result→Shared→Prop}{I:Addr}{fp wr:List Addr}{G:Array GenState→Array GenState→Prop}{n:Nat}{P:Nat→Value→Prop}{St:Nat→Shared→Prop}
variable {K:Type}{is:K→Value→Prop}{hash:K→Int}{h0:Heap}{led:Bool}{V:List Value}{U:List K}
theorem SetK.sup {S:Addr}{seen:List K}{h h':Heap}(Z:SetK is hash S led V seen h)(e:∀ o,h.get? S=some o→h'.get? S=some o):SetK is hash S led V seen h':=by
 obtain⟨es,ep,t,ho,r⟩:=Z
 exact⟨es,ep,t,e _ ho,r⟩
theorem JD (a:AddS prog w is hash h0)(W:WalksS prog w A.in1 I fp wr G n P St)(S:Addr)(hSf:S ∉ fp)(hu:A.in1.units<cLine)(key:Nat→K)(hkey:∀ i v,P i v→is (key i) v∧v∈V)(hU:U.length≤63)(hUk:∀ i,i<n→key i∈U)
  (hS0:h0.get? S=none) (hw0:∀ b∈wr,h0.get? b=none):∀ (k i:Nat) (s:Shared),n-i=k→i≤n→St i s→Sup h0 s.heap→SetK is hash S led V (jS key i) s.heap →
   (∀ s',Moved (S::wr) G s s'→SetK is hash S led V (jS key n) s'.heap→R (.ok (.ret .none)) s')→codeAny (model prog w) A (.builtin "set.update.loop" ⟨[.ref S,.ref I],[]⟩) R s:=by
 have hSw:S ∉ wr:=fun h=>hSf (W.sub _ h)
 have hsub:∀ b∈wr,b∈S::wr:=fun b hb=>List.mem_cons_of_mem _ hb
 intro k
 induction k with
 |zero =>
  intro i s hk hi hst hS Z hR
  have hin:i=n:=by omega
  subst hin
  refine codeAny_builtin PyProof.Rows.F.entry_set_update_loop ?_
  rw[Around.under_plainId PyProof.Rows.F.plain_set_update_loop _]
  show wpAny _ A.in1 (pyNext (.ref I) >>= _) _ _ s
  refine wpAny_bind (W.done s _ _ hst fun s' hm=>?_)
  exact wpAny_pure (hR s' (hm.mono hsub) (Z.sup fun o e=>hm.heap S _ hSw e))
 |succ k ih =>
  intro i s hk hi hst hS Z hR
  have hlt:i<n:=by omega
  refine codeAny_builtin PyProof.Rows.F.entry_set_update_loop ?_
  rw[Around.under_plainId PyProof.Rows.F.plain_set_update_loop _]
  show wpAny _ A.in1 (pyNext (.ref I) >>= _) _ _ s
  refine wpAny_bind (W.item i s _ _ hlt hst fun v s' hP hst' hm=>?_)
  obtain⟨q1,q2⟩:=hkey i v hP
  have hS':Sup h0 s'.heap:=fun b o e=>hm.heap b o (fun hb=>by rw[hw0 b hb] at e;cases e) (hS b o e)
  show wpAny _ A.in1 (holding [v] (setAdd S v) >>= _) _ _ s'
  refine wpAny_bind (wpAny_holding (a.add hu hS' (Z.sup fun o e=>hm.heap S _ hSw e) q1 q2 hU (fun k' hk'=>?_) (hUk i hlt) fun b h' tk htk hsb Z'=>?_))
  ·obtain⟨j,hj,e⟩:=tN.mp hk'
   exact e▸hUk j (by omega)
  ·refine wpAny_pure ⟨plainId_quiet PyProof.Rows.F.plain_set_update_loop _,ih (i+1) _ (by omega) hlt (W.frame _ s' _ _ hst' htk fun b hb o e=>?_) (fun b o e=>?_) Z' fun s'' hm'' Z''=>?_⟩
   ·rw[hsb.2 b (fun h:b=S=>hSf (by rw[← h];exact hb))];exact e
   ·rw[hsb.2 b (fun h:b=S=>by rw[h,hS0] at e;cases e)];exact hS' b o e
   ·refine hR s'' (Moved.trans W.gtrans ((hm.mono hsub).then_heap htk fun b o hb e=>?_) hm'') Z''
    rw[hsb.2 b (fun h:b=S=>hb (by rw[h];exact List.mem_cons_self))];exact e
end
section
variable {prog:Program}{w:World}{A:Around}{E:Value→Shared→Prop}{s:Shared}
def uX (w:World):Bool:=!w.params.followText "set-order"
@[reducible] def set0 (w:World):Obj:=setO #[] 0 (.fresh 0 0 (uX w))
theorem cN (a:Value){Q₁:Value→Shared→Prop}(h:Q₁ (.ref s.heap.objs.size) { s with heap:=s.heap.push (set0 w) }) : codeAny (model prog w) A (.call (.builtin "set.__new__") ⟨[.type "set",a],[]⟩) (wants Q₁ E) s:=by
 refine codeAny_of_tree ?_
 show wpAny _ A.in1 (do checkBuiltinCall "set.__new__" ⟨[.type "set",a],[]⟩;again (.builtin "set.__new__" ⟨[.type "set",a],[]⟩)) _ _ s
 refine wpAny_bind (wpAny_of_eq (PySem.F.newCall_set_1 a) (wpAny_pure ⟨plainId_quiet PySem.F.plain_set_new _,codeAny_builtin PySem.F.entry_set_new ?_⟩))
 rw[Around.under_plainId PySem.F.plain_set_new _]
 unfold Builtin.«set.__new__» Builtin.Frozenset.newClass
 have hsub:=PySem.sub_set_self
 obtain⟨hp,g,d,tk,os⟩:=s
 dsimp only
 wp_walk
 refine wpAny_askSetting (wpAny_pure ?_)
 dsimp only
 simp only[newObj]
 exact wpAny_bind (wpAny_alloc (wpAny_pure (wpAny_pure h)))
theorem X0 (w:World):TabT (.fresh 0 0 (uX w)) #[]:=⟨⟨by unfold Rs;exact List.Pairwise.nil,rfl⟩,.inl rfl,rfl,fun x hx=>(by cases hx),(show 0*5<7*3 by decide),fun i e h=>(by simp at h),rfl⟩
variable {K:Type}{is:K→Value→Prop}{hash:K→Int}{U:List K}
theorem BO (a:AddS prog w is hash s.heap){l:Addr}{items:Array Value}{Q:Value→Shared→Prop}(hh:A.handled=none)(hu:A.units+8<cLine)(hl:s.heap.IsList l items)(key:Nat→K)(hkey:∀ i v,items[i]? = some v→is (key i) v)(hU:U.length≤63)(hUk:∀ i,i<items.size→key i∈U)
  (h:∀ (h':Heap) (tk:Nat),SetK is hash s.heap.objs.size (uX w) items.toList (jS key items.size) h'→(∀ b o,s.heap.get? b=some o→h'.get? b=some o)→Q (.ref s.heap.objs.size) { s with heap:=h',toks:=tk }) :
  wpAny (model prog w) A (call (.type "set") [.ref l]) Q E s:=by
 obtain⟨c,tl,hmro⟩:=PySem.F.called_set.mro
 have hmade:=PySem.F.called_set.made
 have hsub:=PySem.F.called_set.sub
 refine wpAny_call (codeAny_of_tree ?_)
 show wpAny _ _ (callAny (.type "set") _) _ _ _
 refine wpAny_pure ⟨Code.quiet_builtin _ (by decide +kernel),codeAny_builtin PySem.F.entry_type_call ?_⟩
 rw[Around.under_plain (weight_type_call_type "set" [.ref l] []) rfl]
 have h1:=PySem.F.called_set.notType
 have h2:=PySem.F.called_set.canCreate
 have hct:=PySem.F.typeCall_set_1 (.ref l)
 repeat (any_goals (first|assumption|wp_step))
 refine codeAny_mono (cN (.ref l) (E:=E) (Q₁:=fun obj s₁=>obj=.ref s.heap.objs.size∧s₁={ s with heap:=s.heap.push (set0 w) }) ⟨rfl,rfl⟩) fun r s₁ hr=>?_
 cases r with
 |error e=>exact hr
 |ok fl =>
  cases fl with
  |ret obj =>
   obtain⟨rfl,rfl⟩:=hr
   have hS:(s.heap.push (set0 w)).get? s.heap.objs.size=some (set0 w):=Heap.get?_push_size _ rfl
   have hT:Shared.TypeIs { s with heap:=s.heap.push (set0 w) } (.ref s.heap.objs.size) "set":=⟨_,hS,rfl⟩
   have hli:=PySem.F.called_set.init.lookup
   have hbi:=PySem.F.called_set.init.bind (.ref s.heap.objs.size)
   repeat (any_goals (first|assumption|wp_step))
   refine codeAny_mono (codeAny_call_builtin (R:=wants (fun r s₂=>r=.none∧∃ h' tk,s₂={ s with heap:=h',toks:=tk } ∧ SetK is hash s.heap.objs.size (uX w) items.toList (jS key items.size) h'∧∀ b o,s.heap.get? b=some o→h'.get? b=some o) E) PySem.F.called_set.init.plain PySem.F.entry_set_init (check_set_init_1 hT ?_)) fun r₂ s₂ hr₂=>?_
   ·obtain⟨ol,hol,hcl,nl,hdl⟩:=hl
    obtain⟨ocls,odict,odata,oslots⟩:=ol
    simp only at hcl hdl
    subst hcl;subst hdl
    have hol':(s.heap.push (set0 w)).get? l=some { cls:=.type "list",dict:=odict,data:=.seq items nl,slots:=oslots }:=Heap.get?_push_of_some _ hol
    have hsls:=PySem.F.sub_list_set
    have hslf:=PySem.F.sub_list_frozenset
    have hne:(Value.type "list" == Value.type "dict")=false:=by decide
    have hl1:(s.heap.push (set0 w)).IsList l items:=⟨_,hol',rfl,nl,rfl⟩
    unfold Builtin.«set.__init__» noKeywords Builtin.Frozenset.updateFrom
    generalize hPI:pyIter=PI
    wp_walk
    subst hPI
    refine wpAny_pyIter_list hl1 ?_
    refine wpAny_bind (wpAny_runValue ?_)
    have hlS:l<s.heap.objs.size:=Heap.lt_size hol
    have hneI:l≠(s.heap.push (set0 w)).objs.size:=by
     rw[Heap.size_push];exact Nat.ne_of_lt (Nat.lt_succ_of_lt hlS)
    have nS:s.heap.get? s.heap.objs.size=none:=Heap.get?_none_of_le (Nat.le_refl _)
    have nI:s.heap.get? (s.heap.push (set0 w)).objs.size=none:=Heap.get?_none_of_le (by rw[Heap.size_push];exact Nat.le_succ _)
    refine JD (led:=uX w) (V:=items.toList) a ((Walks.list (A:=A.in1.in1.in1) (by simp[hh]) _ l hneI items).toS) s.heap.objs.size ?_ (by show A.units+3<cLine;omega) key (fun i v hv=>⟨hkey i v hv,?_⟩) hU hUk nS (fun b hb=>?_) (items.size-0) 0 _ (by omega) (Nat.zero_le _)
     ⟨⟨_,Heap.get?_push_size _ rfl,rfl,rfl⟩,hl1.push _⟩ (fun b o e=>Heap.get?_push_of_some _ (Heap.get?_push_of_some _ e)) ?_ fun s' hm hS'=>?_
    ·rw[Heap.size_push];simp only[List.mem_cons,List.mem_singleton,List.not_mem_nil,or_false,not_or]
     exact⟨Nat.ne_of_lt (Nat.lt_succ_self _),Nat.ne_of_gt hlS⟩
    ·exact List.mem_of_getElem? (by rw[Array.getElem?_toList];exact hv)
    ·rw[List.mem_singleton.mp hb];exact nI
    ·exact⟨#[],0,_,Heap.get?_push_of_some _ hS,Set0.nil,X0 w,rfl,fun e he=>by simp at he⟩
    ·obtain⟨h',g',d',tk',os'⟩:=s'
     have eg:g'=s.gens:=hm.gens
     have ed:d'=s.drawn:=hm.drawn
     have eo:os'=s.os:=hm.os
     subst eg;subst ed;subst eo
     refine wpAny_pure (wpAny_pure ⟨rfl,h',tk',rfl,hS',fun b o e=>?_⟩)
     refine hm.heap b o (fun hb=>?_) (Heap.get?_push_of_some _ (Heap.get?_push_of_some _ e))
     rcases List.mem_cons.mp hb with rfl|hb
     ·rw[nS] at e;cases e
     ·rw[List.mem_singleton.mp hb,nI] at e;cases e
   ·cases r₂ with
    |error e=>exact hr₂
    |ok fl₂ =>
     cases fl₂ with
     |ret r =>
      obtain⟨rfl,h',tk,rfl,hS',hk'⟩:=hr₂
      repeat (any_goals (first|assumption|wp_step))
      exact h _ _ hS' hk'
     |_=>exact hr₂.elim
  |_=>exact hr.elim
theorem G6 (a:AddS prog w is hash s.heap){l:Addr}{items:Array Value}{Q:Value→Shared→Prop}(hh:A.handled=none)(hu:A.units+8<cLine)(hl:s.heap.IsTuple l items)(key:Nat→K)(hkey:∀ i v,items[i]? = some v→is (key i) v)(hU:U.length≤63)(hUk:∀ i,i<items.size→key i∈U)
  (h:∀ (h':Heap) (tk:Nat),SetK is hash s.heap.objs.size (uX w) items.toList (jS key items.size) h'→(∀ b o,s.heap.get? b=some o→h'.get? b=some o)→Q (.ref s.heap.objs.size) { s with heap:=h',toks:=tk }) :
  wpAny (model prog w) A (call (.type "set") [.ref l]) Q E s:=by
 obtain⟨c,tl,hmro⟩:=PySem.F.called_set.mro
 have hmade:=PySem.F.called_set.made
 have hsub:=PySem.F.called_set.sub
 refine wpAny_call (codeAny_of_tree ?_)
 show wpAny _ _ (callAny (.type "set") _) _ _ _
 refine wpAny_pure ⟨Code.quiet_builtin _ (by decide +kernel),codeAny_builtin PySem.F.entry_type_call ?_⟩
 rw[Around.under_plain (weight_type_call_type "set" [.ref l] []) rfl]
 have h1:=PySem.F.called_set.notType
 have h2:=PySem.F.called_set.canCreate
 have hct:=PySem.F.typeCall_set_1 (.ref l)
 repeat (any_goals (first|assumption|wp_step))
 refine codeAny_mono (cN (.ref l) (E:=E) (Q₁:=fun obj s₁=>obj=.ref s.heap.objs.size∧s₁={ s with heap:=s.heap.push (set0 w) }) ⟨rfl,rfl⟩) fun r s₁ hr=>?_
 cases r with
 |error e=>exact hr
 |ok fl =>
  cases fl with
  |ret obj =>
   obtain⟨rfl,rfl⟩:=hr
   have hS:(s.heap.push (set0 w)).get? s.heap.objs.size=some (set0 w):=Heap.get?_push_size _ rfl
   have hT:Shared.TypeIs { s with heap:=s.heap.push (set0 w) } (.ref s.heap.objs.size) "set":=⟨_,hS,rfl⟩
   have hli:=PySem.F.called_set.init.lookup
   have hbi:=PySem.F.called_set.init.bind (.ref s.heap.objs.size)
   repeat (any_goals (first|assumption|wp_step))
   refine codeAny_mono (codeAny_call_builtin (R:=wants (fun r s₂=>r=.none∧∃ h' tk,s₂={ s with heap:=h',toks:=tk } ∧ SetK is hash s.heap.objs.size (uX w) items.toList (jS key items.size) h'∧∀ b o,s.heap.get? b=some o→h'.get? b=some o) E) PySem.F.called_set.init.plain PySem.F.entry_set_init (check_set_init_1 hT ?_)) fun r₂ s₂ hr₂=>?_
   ·obtain⟨ol,hol,hcl,nl,hdl⟩:=hl
    obtain⟨ocls,odict,odata,oslots⟩:=ol
    simp only at hcl hdl
    subst hcl;subst hdl
    have hol':(s.heap.push (set0 w)).get? l=some { cls:=.type "tuple",dict:=odict,data:=.seq items nl,slots:=oslots }:=Heap.get?_push_of_some _ hol
    have hsls:=PySem.F.sub_tuple_set
    have hslf:=PySem.F.sub_tuple_frozenset
    have hne:(Value.type "tuple" == Value.type "dict")=false:=by decide
    have hl1:(s.heap.push (set0 w)).IsTuple l items:=⟨_,hol',rfl,nl,rfl⟩
    unfold Builtin.«set.__init__» noKeywords Builtin.Frozenset.updateFrom
    generalize hPI:pyIter=PI
    wp_walk
    subst hPI
    refine wpAny_pyIter_tuple hl1 ?_
    refine wpAny_bind (wpAny_runValue ?_)
    have hlS:l<s.heap.objs.size:=Heap.lt_size hol
    have hneI:l≠(s.heap.push (set0 w)).objs.size:=by
     rw[Heap.size_push];exact Nat.ne_of_lt (Nat.lt_succ_of_lt hlS)
    have nS:s.heap.get? s.heap.objs.size=none:=Heap.get?_none_of_le (Nat.le_refl _)
    have nI:s.heap.get? (s.heap.push (set0 w)).objs.size=none:=Heap.get?_none_of_le (by rw[Heap.size_push];exact Nat.le_succ _)
    refine JD (led:=uX w) (V:=items.toList) a ((Walks.tuple (A:=A.in1.in1.in1) (by simp[hh]) _ l hneI items).toS) s.heap.objs.size ?_ (by show A.units+3<cLine;omega) key (fun i v hv=>⟨hkey i v hv,?_⟩) hU hUk nS (fun b hb=>?_) (items.size-0) 0 _ (by omega) (Nat.zero_le _)
     ⟨⟨_,Heap.get?_push_size _ rfl,rfl,rfl⟩,hl1.push _⟩ (fun b o e=>Heap.get?_push_of_some _ (Heap.get?_push_of_some _ e)) ?_ fun s' hm hS'=>?_
    ·rw[Heap.size_push];simp only[List.mem_cons,List.mem_singleton,List.not_mem_nil,or_false,not_or]
     exact⟨Nat.ne_of_lt (Nat.lt_succ_self _),Nat.ne_of_gt hlS⟩
    ·exact List.mem_of_getElem? (by rw[Array.getElem?_toList];exact hv)
    ·rw[List.mem_singleton.mp hb];exact nI
    ·exact⟨#[],0,_,Heap.get?_push_of_some _ hS,Set0.nil,X0 w,rfl,fun e he=>by simp at he⟩
    ·obtain⟨h',g',d',tk',os'⟩:=s'
     have eg:g'=s.gens:=hm.gens
     have ed:d'=s.drawn:=hm.drawn
     have eo:os'=s.os:=hm.os
     subst eg;subst ed;subst eo
     refine wpAny_pure (wpAny_pure ⟨rfl,h',tk',rfl,hS',fun b o e=>?_⟩)
     refine hm.heap b o (fun hb=>?_) (Heap.get?_push_of_some _ (Heap.get?_push_of_some _ e))
     rcases List.mem_cons.mp hb with rfl|hb
     ·rw[nS] at e;cases e
     ·rw[List.mem_singleton.mp hb,nI] at e;cases e
   ·cases r₂ with
    |error e=>exact hr₂
    |ok fl₂ =>
     cases fl₂ with
     |ret r =>
      obtain⟨rfl,h',tk,rfl,hS',hk'⟩:=hr₂
      repeat (any_goals (first|assumption|wp_step))
      exact h _ _ hS' hk'
     |_=>exact hr₂.elim
  |_=>exact hr.elim
theorem JQ (a:AddS prog w is hash s.heap){l:Addr}{items:Array Value}{Q:Value→Shared→Prop}(hh:A.handled=none)(hu:A.units+8<cLine)(hl:s.heap.IsList l items∨s.heap.IsTuple l items)(key:Nat→K)(hkey:∀ i v,items[i]? = some v→is (key i) v)(hU:U.length≤63)(hUk:∀ i,i<items.size→key i∈U)
  (h:∀ (h':Heap) (tk:Nat),SetK is hash s.heap.objs.size (uX w) items.toList (jS key items.size) h'→(∀ b o,s.heap.get? b=some o→h'.get? b=some o)→Q (.ref s.heap.objs.size) { s with heap:=h',toks:=tk }) :
  wpAny (model prog w) A (call (.type "set") [.ref l]) Q E s:=by
 rcases hl with hl|hl
 ·exact BO a hh hu hl key hkey hU hUk h
 ·exact G6 a hh hu hl key hkey hU hUk h
end
end _S
end
section
namespace _S
open PySem
theorem i8 {α : Type}:∀ {l:List α} {i:Nat} (h:i<l.length),(l[i]::l.eraseIdx i).Perm l
 |a::l,0,h=>by simp
 |a::l,i+1,h=>by
  rw[List.eraseIdx_cons_succ,List.getElem_cons_succ]
  exact(List.Perm.swap _ _ _).trans ((i8 (l:=l) (i:=i) (by simpa using h)).cons a)
theorem ZP {α : Type}(next:Nat→Nat):∀ (fuel k:Nat) (left:List α) (out:Array α),left.length=fuel→(pickOrder.go next fuel k left out).toList.Perm (out.toList++left)
 |0,k,left,out,h=>by
  have:left=[]:=List.eq_nil_of_length_eq_zero h
  subst this
  unfold pickOrder.go
  simp
 |fuel+1,k,left,out,h=>by
  unfold pickOrder.go
  have hlt:next k % left.length<left.length:=Nat.mod_lt _ (by omega)
  rw[List.getElem?_eq_getElem hlt]
  dsimp only
  refine(ZP next fuel (k+1) _ _ (by rw[List.length_eraseIdx,if_pos hlt];omega)).trans ?_
  rw[Array.toList_push,List.append_assoc]
  refine List.Perm.append_left _ ?_
  exact i8 hlt
theorem QF {α : Type}(next:Nat→Nat)(xs:Array α) : (pickOrder next xs).toList.Perm xs.toList:=by
 have:=ZP next xs.size 0 xs.toList #[] (by simp)
 simpa [pickOrder] using this
theorem gC:Slot "set_iterator" "__next__" "set_iterator.__next__":=
 .of (owner:="set_iterator") (n:="__next__") (by rw[typeLookup_type,builtinLookup_eq_fast];kernel_rfl) (by decide +kernel) (by decide +kernel) (by decide +kernel) (.inl (by decide +kernel)) (by rw[isSubtype_type];kernel_rfl)
theorem i7:entryFor table "set_iterator.__next__" = some Builtin.«set_iterator.__next__»:=entryFor_of_fast (by kernel_rfl)
theorem QZ (a:Value):argsOk "set_iterator.__next__" ⟨[a],[]⟩:=by unfold argsOk;kernel_rfl
theorem ZW:Slot "set_iterator" "__iter__" "set_iterator.__iter__":=
 .of (owner:="set_iterator") (n:="__iter__") (by rw[typeLookup_type,builtinLookup_eq_fast];kernel_rfl) (by decide +kernel) (by decide +kernel) (by decide +kernel) (.inl (by decide +kernel)) (by rw[isSubtype_type];kernel_rfl)
theorem JY:entryFor table "set_iterator.__iter__" = some Builtin.«dict_keyiterator.__iter__»:=entryFor_alias (id':="dict_keyiterator.__iter__") (by kernel_rfl) rfl (by decide +kernel) (by kernel_rfl)
theorem KR (a:Value):argsOk "set_iterator.__iter__" ⟨[a],[]⟩:=by unfold argsOk;kernel_rfl
theorem JX:entryFor table "set.__iter__" = some Builtin.«frozenset.__iter__»:=entryFor_alias (id':="frozenset.__iter__") (by kernel_rfl) rfl (by decide +kernel) (by kernel_rfl)
theorem NZ (a:Addr)(slot given epochThen:Nat):setNext a slot given epochThen=(do
  let (es,epoch,t) ← setState a
  if ← setsByText then
   if epoch != epochThen then unsupported "set_iterator.__next__:elements-changed"
   return ((← setWalk a)[given]?).map fun e=>(e.2,slot)
  if !t.plain&&es.size>1 then unsupported "set_iterator.__next__:the-table-is-plain-no-more"
  (do if !t.led&&!es.isEmpty then unsupported "set:maker-not-led")
  return match es[SetTable.below t.place slot]?,t.place[SetTable.below t.place slot]? with
   |some (_,x),some j=>some (x,j+1)
   |_,_=>none):=rfl
theorem LX (a:Addr):setWalk a=(do
  let (es,epoch,t) ← setState a
  if ← setsByText then return pickOrder ((← ask).params.setOrder a epoch) es
  if !t.plain&&es.size>1 then return (← drawOrder es.size es.toList).toArray
  (do if !t.led&&es.size>1 then unsupported "set:maker-not-led")
  return es):=rfl
theorem FB (a:Addr):setDrawn a=(do
  let (es,_,t) ← setState a
  let byText ← setsByText
  return !byText&&(!t.plain&&es.size>1)):=rfl
structure Still (w:World)(S:Addr)(es:Array (Int × Value))(ep:Nat)(t:SetTable):Prop where
 tab:TabT t es
 led:t.led=uX w
noncomputable def qY (w:World)(S:Addr)(ep:Nat)(es:Array (Int × Value)):Array (Int × Value):=if w.params.followText "set-order" = true then pickOrder (w.params.setOrder S ep) es else es
theorem o3 (w:World)(S:Addr)(ep:Nat)(es:Array (Int × Value)):(qY w S ep es).toList.Perm es.toList:=by
 unfold qY
 split
 ·exact QF _ _
 ·exact List.Perm.refl _
theorem fQ (w:World)(S:Addr)(ep:Nat)(es:Array (Int × Value)):(qY w S ep es).size=es.size:=by
 rw[← Array.length_toList,(o3 w S ep es).length_eq,Array.length_toList]
def itO (slot i:Nat)(S:Addr)(n ep:Nat):Obj:={ cls:=.type "set_iterator",data:=.fields #[.int slot 0,.int i 0,.ref S,.int n 0,.int ep 0] }
def At (w:World)(I S:Addr)(es:Array (Int × Value))(ep:Nat)(t:SetTable)(i:Nat)(h:Heap):Prop:=
 ∃ slot,h.get? I=some (itO slot i S es.size ep)∧h.get? S=some (setO es ep t)∧(w.params.followText "set-order" = true∨SetTable.below t.place slot=i)
section
variable {prog:Program}{w:World}{A:Around}{E:Value→Shared→Prop}{s:Shared}{S I:Addr}{es:Array (Int × Value)}{ep:Nat}{t:SetTable}
theorem KI {slot i:Nat}{Q:Option (Value × Nat)→Shared→Prop}(Z:Still w S es ep t)(ho:s.heap.get? S=some (setO es ep t))(hs:w.params.followText "set-order" = true∨SetTable.below t.place slot=i)
  (h1:∀ e slot',(qY w S ep es)[i]? = some e→(w.params.followText "set-order" = true∨SetTable.below t.place slot'=i+1)→Q (some (e.2,slot')) s) (h2:(qY w S ep es)[i]? = none→Q none s):wpAny (model prog w) A (setNext S slot i ep) Q E s:=by
 rw[NZ]
 refine wpAny_bind (wpAny_setState_of ho rfl Z.tab.fits ?_)
 dsimp only
 refine wpAny_bind (wpAny_bind (wpAny_askSetting (wpAny_pure ?_)))
 cases hf:w.params.followText "set-order" with
 |true =>
  show wpAny _ _ (if (w.params.followText "set-order")=true then _ else _) _ _ _
  rw[if_pos hf]
  have hb:(ep != ep)=false:=by simp
  rw[hb]
  simp only[Bool.false_eq_true,if_false]
  refine wpAny_bind ?_
  rw[LX]
  refine wpAny_bind (wpAny_setState_of ho rfl Z.tab.fits ?_)
  dsimp only
  refine wpAny_bind (wpAny_bind (wpAny_askSetting (wpAny_pure ?_)))
  show wpAny _ _ (if (w.params.followText "set-order")=true then _ else _) _ _ _
  rw[if_pos hf]
  refine wpAny_bind (wpAny_askSetting (wpAny_pure (wpAny_pure ?_)))
  show Q (((pickOrder (w.params.setOrder S ep) es)[i]?).map fun e=>(e.2,slot)) s
  have ho':qY w S ep es=pickOrder (w.params.setOrder S ep) es:=by unfold qY;rw[if_pos hf]
  rw[ho'] at h1 h2
  cases hx:(pickOrder (w.params.setOrder S ep) es)[i]? with
  |none=>exact h2 hx
  |some e=>exact h1 e slot hx (.inl hf)
 |false =>
  show wpAny _ _ (if (w.params.followText "set-order")=true then _ else _) _ _ _
  rw[if_neg (by rw[hf];decide),Z.tab.plain,Z.led]
  unfold uX
  rw[hf]
  simp only[Bool.not_true,Bool.false_and,Bool.false_eq_true,if_false,Bool.not_false]
  have hb:SetTable.below t.place slot=i:=by
   rcases hs with h|h
   ·rw[hf] at h;cases h
   ·exact h
  rw[hb]
  have ho':qY w S ep es=es:=by unfold qY;rw[if_neg (by rw[hf];decide)]
  rw[ho'] at h1 h2
  refine wpAny_pure ?_
  cases hx:es[i]? with
  |none=>exact h2 hx
  |some e =>
   have hi:i<t.place.size:=by rw[Z.tab.size];exact(Array.getElem?_eq_some_iff.mp hx).1
   have hp:t.place[i]? = some t.place[i]:=Array.getElem?_eq_getElem hi
   rw[hp]
   exact h1 e _ hx (.inr (JO Z.tab.tb.rs hp))
theorem At.type {i:Nat}(h:At w I S es ep t i s.heap):s.TypeIs (.ref I) "set_iterator":=by
 obtain⟨slot,h,_⟩:=h
 exact⟨_,h,rfl⟩
theorem ZN {i:Nat}{Q:Value→Shared→Prop}(Z:Still w S es ep t)(hI:At w I S es ep t i s.heap)
  (h1:∀ e slot' slot,(qY w S ep es)[i]? = some e→s.heap.get? I=some (itO slot i S es.size ep)→s.heap.get? S=some (setO es ep t)→(w.params.followText "set-order" = true∨SetTable.below t.place slot'=i+1) →
   Q e.2 { s with heap:=(s.heap.update I (Obj.mapFields (·.setIfInBounds 0 (rawInt slot')))).update I (Obj.mapFields (·.setIfInBounds 1 (rawInt ((i:Int)+1)))) })
  (h2:(qY w S ep es)[i]? = none→wpAny (model prog w) A (do setField (.ref I) 2 .none;raiseNew (← newExc (.type "StopIteration") [])) (fun (fin:PySem.Fin) s'=>∃ r,fin=.done (.ret r)∧Q r s') E s) :
  wpAny (model prog w) A (Builtin.«set_iterator.__next__» ⟨[.ref I],[]⟩) (fun fin s'=>∃ r,fin=.done (.ret r)∧Q r s') E s:=by
 obtain⟨slot,hg,hS,hb⟩:=hI
 show wpAny _ _ (fieldsOf (.ref I) >>= _) _ _ s
 refine wpAny_bind (wpAny_fieldsOf hg rfl ?_)
 show wpAny _ _ (setEntries S >>= _) _ _ s
 refine wpAny_bind (wpAny_setEntries_of hS rfl Z.tab.fits ?_)
 have hne:(((es.size:Nat):Int) != ((es.size:Nat):Int))=false:=by simp
 rw[hne]
 simp only[Bool.false_eq_true,if_false]
 show wpAny _ _ (setNext S (slot:Int).toNat (i:Int).toNat (ep:Int).toNat >>= _) _ _ s
 rw[Int.toNat_natCast,Int.toNat_natCast,Int.toNat_natCast]
 refine wpAny_bind (KI Z hS hb (fun e slot' he hb'=>?_) fun he=>?_)
 ·dsimp only
  refine wpAny_bind (wpAny_setField hg rfl (by show 0<5;decide) ?_)
  have hg2:=Heap.get?_update_self (Obj.mapFields (·.setIfInBounds 0 (rawInt slot'))) hg rfl
  refine wpAny_bind (wpAny_setField hg2 rfl (by show 1<5;decide) ?_)
  exact wpAny_pure ⟨_,rfl,h1 e slot' slot he hg hS hb'⟩
 ·exact h2 he
theorem LW (hh:A.handled=none)(hne:S≠I)(Z:Still w S es ep t):Walks prog w A I [I,S] [I] es.size (fun i v=>∃ e,(qY w S ep es)[i]? = some e∧e.2=v) (fun i h=>At w I S es ep t i h) where
 sub:=fun b hb=>by simp at hb;simp[hb]
 frame:=fun i h h' ⟨slot,h1,h2,h3⟩ hk=>⟨slot,hk I (by simp) _ h1,hk S (by simp) _ h2,h3⟩
 item:=fun i s Q E hi st hQ=>by
  unfold pyNext
  refine wpAny_bind (wpAny_attempt (wpAny_callSpecial?_slot (name:=Str.ofString "__next__") st.type gC (wpAny_call_entry gC st.type i7 (ZN Z st (fun e slot' slot he hg hS hb=>?_) fun he=>?_) (QZ _))))
  ·refine wpAny_pure (hQ e.2 _ s.toks ⟨e,he,rfl⟩ ⟨slot',?_,?_,hb⟩ fun b o hb e=>?_)
   ·exact Heap.get?_update_self _ (Heap.get?_update_self _ hg rfl) rfl
   ·rw[Heap.get?_update_other _ _ hne.symm,Heap.get?_update_other _ _ hne.symm];exact hS
   ·have hb:I≠b:=fun z=>hb (by simp[z])
    rw[Heap.get?_update_other _ _ hb,Heap.get?_update_other _ _ hb];exact e
  ·have:=Array.getElem?_eq_none_iff.mp he
   rw[fQ] at this
   omega
 done:=fun s Q E st hQ=>by
  unfold pyNext
  refine wpAny_bind (wpAny_attempt (wpAny_callSpecial?_slot (name:=Str.ofString "__next__") st.type gC (wpAny_call_entry gC st.type i7 (ZN Z st (fun e slot' slot he hg hS hb=>?_) fun he=>?_) (QZ _))))
  ·have:=(Array.getElem?_eq_some_iff.mp he).1
   rw[fQ] at this
   omega
  ·obtain⟨slot,hg,hS,hb⟩:=st
   refine wpAny_bind (wpAny_setField hg rfl (by show 2<5;decide) ?_)
   refine wpAny_bind ?_
   simp only[newExc,newTuple]
   refine wpAny_bind (wpAny_newObj_type ?_ (by size_fits))
   refine wpAny_bind (m:=firstArgMember _ _) (wpAny_of_eq (a:=Value.none) (by first|rfl|(simp only[firstArgMember];rfl)) ?_)
   refine wpAny_newObj_type ?_ (by size_fits)
   simp only[raiseNew]
   refine wpAny_bind (wpAny_handled ?_)
   rw[show A.in1.handled=none from hh]
   refine wpAny_bind (wpAny_pure (wpAny_throw ?_))
   refine wpAny_bind (wpAny_isInstance (T:="StopIteration") (b:=true) ⟨_,Heap.get?_push_size _ rfl,rfl⟩ isSubtype_stop ?_)
   refine wpAny_pure (hQ _ s.toks fun b o hb e=>?_)
   exact(((Heap.SameBut.update ..).extBut.push _).push _) b o (fun z=>hb (by simp[z])) e
 self:=fun i s Q E st hQ=>by
  refine wpAny_pyIter_slot st.type ZW (wpAny_call_entry ZW st.type JY ?_ (KR _))
  show wpAny _ _ (ret (.ref I)) _ _ s
  exact wpAny_pure ⟨_,rfl,"set_iterator",_,st.type,gC.lookup,hQ⟩
theorem FL {Q:Value→Shared→Prop}(Z:Still w S es ep t)(ho:s.heap.get? S=some (setO es ep t))(h:Q (.ref s.heap.objs.size) { s with heap:=s.heap.push (itO 0 0 S es.size ep) }) : wpAny (model prog w) A (pyIter (.ref S)) Q E s:=by
 have hT:s.TypeIs (.ref S) "set":=⟨_,ho,rfl⟩
 refine wpAny_pyIter_slot hT PySem.F.slot_set_iter (wpAny_call_entry PySem.F.slot_set_iter hT JX ?_ (PySem.F.args_set_iter_1 _))
 show wpAny _ _ (Builtin.Frozenset.sizeOf S >>= _) _ _ s
 unfold Builtin.Frozenset.sizeOf
 refine wpAny_bind (wpAny_bind (wpAny_setEntries_of ho rfl Z.tab.fits (wpAny_pure ?_)))
 refine wpAny_bind ?_
 rw[FB]
 refine wpAny_bind (wpAny_setState_of ho rfl Z.tab.fits ?_)
 dsimp only
 refine wpAny_bind (wpAny_bind (wpAny_askSetting (wpAny_pure (wpAny_pure ?_))))
 rw[Z.tab.plain]
 simp only[Bool.not_true,Bool.false_and,Bool.and_false,Bool.false_eq_true,if_false]
 refine wpAny_bind (wpAny_pure ?_)
 unfold setEpoch
 refine wpAny_bind (wpAny_bind (wpAny_setState_of ho rfl Z.tab.fits (wpAny_pure ?_)))
 refine wpAny_bind (wpAny_newObj_type (wpAny_pure ⟨_,rfl,"set_iterator",_,⟨_,Heap.get?_push_size _ rfl,rfl⟩,gC.lookup,h⟩))
theorem TD (Z:Still w S es ep t)(ho:s.heap.get? S=some (setO es ep t)):At w s.heap.objs.size S es ep t 0 (s.heap.push (itO 0 0 S es.size ep)):=
 ⟨0,Heap.get?_push_size _ rfl,Heap.get?_push_of_some _ ho,.inr (JP Z.tab.tb.rs)⟩
end
end _S
end
section
namespace _S
open PySem PySem.W PyProof.Rows
def run (f:Nat→Nat→Bool){α : Type}:KasT α → α
 |.ret a=>a
 |.ask i j k=>run f (k (f i j))
theorem pM (f:Nat→Nat→Bool){α β:Type}(g:α→KasT β) : ∀ t:KasT α,run f (t.bind g)=run f (g (run f t))
 |.ret _=>rfl
 |.ask i j k=>pM f g (k (f i j))
section
variable (r:Nat→Int)
def lt (i j:Nat):Bool:=decide (r i<r j)
def ky (p:Array Nat)(k:Nat):Int:=r (p.getD k 0)
def Up (p:Array Nat)(n:Nat):Prop:=∀ i j,i≤j→j<n→ky r p i≤ky r p j
def Dn (p:Array Nat)(n:Nat):Prop:=∀ i j,i≤j→j<n→ky r p j≤ky r p i
variable {r}
theorem iS {p q:Array Nat}{i j:Nat}(h:p[i]? = q[j]?):ky r p i=ky r q j:=by
 unfold ky
 rw[Array.getD_eq_getD_getElem?,Array.getD_eq_getD_getElem?,h]
set_option tactic.hygienic true in
theorem iT {p:Array Nat}{i j:Nat}(hj:j≤p.size)(k:Nat):ky r (kas_rev p i j) k=if i≤k∧k<j then ky r p (i+j-1-k) else ky r p k:=by
 have:=getElem?_mirror_all (xs:=p) (i:=i) hj k
 unfold kas_rev
 split
 ·rename_i h;rw[if_pos h] at this;exact iS this
 ·rename_i h;rw[if_neg h] at this;exact iS this
theorem kY (p:Array Nat)(i j:Nat):(kas_rev p i j).size=p.size:=mirror_size _ _ _ _
theorem uP (p:Array Nat)(i j:Nat):(kas_rev p i j).Perm p:=mirror_perm _ _ _ _
theorem cR (p:Array Nat):∀ (f n:Nat),1≤n→let m:=run (lt r) (kas_asc p f n);n≤m∧m≤n+f∧(∀ k,n≤k→k<m→ky r p (k-1)≤ky r p k)∧(m<n+f→ky r p m<ky r p (m-1))
 |0,n,_=>⟨Nat.le_refl _,Nat.le_refl _,fun k h1 h2=>by have:k<n:=h2;omega,fun h=>by have:n<n+0:=h;omega⟩
 |f+1,n,hn=>by
  simp only[kas_asc,run]
  cases hc:lt r (p.getD n 0) (p.getD (n-1) 0) with
  |true =>
   simp only[if_true,run]
   exact⟨Nat.le_refl _,by omega,fun k h1 h2=>by omega,fun _=>of_decide_eq_true hc⟩
  |false =>
   simp only[Bool.false_eq_true,if_false]
   obtain⟨h1,h2,h3,h4⟩:=cR p f (n+1) (by omega)
   refine⟨by omega,by omega,fun k a b=>?_,fun h=>h4 (by omega)⟩
   by_cases hk:k=n
   ·subst hk
    exact Int.not_lt.mp (of_decide_eq_false hc)
   ·exact h3 k (by omega) b
theorem TB {p:Array Nat}{m:Nat}(h:∀ k,1≤k→k<m→ky r p (k-1)≤ky r p k):Up r p m:=by
 intro i j hij hj
 induction j with
 |zero =>
  have:i=0:=by omega
  subst this;exact Int.le_refl _
 |succ j ih =>
  by_cases e:i=j+1
  ·subst e;exact Int.le_refl _
  ·exact Int.le_trans (ih (by omega) (by omega)) (h (j+1) (by omega) hj)
def Eqs (p:Array Nat)(n q:Nat):Prop:=q<n∧∀ k,n-(q+1)≤k→k<n→ky r p k=ky r p (n-1)
theorem WT (p:Array Nat)(n:Nat):Eqs (r:=r) p (n+1) 0:=⟨Nat.succ_pos _,fun k a b=>by
 have:k=n:=by omega
 subst this
 rfl⟩
set_option tactic.hygienic true in
theorem UL {p:Array Nat}{n q:Nat}(hn:n≤p.size)(h:Eqs (r:=r) p n q)(k:Nat):ky r (kas_rev p (n-(q+1)) n) k=ky r p k:=by
 rw[iT hn]
 split
 ·rename_i hk
  rw[h.2 k hk.1 hk.2,h.2 (n-(q+1)+n-1-k) (by omega) (by omega)]
 ·rfl
theorem oW {p p':Array Nat}(h:∀ k,ky r p' k=ky r p k){n:Nat}(d:Dn r p n):Dn r p' n:=fun i j a b=>by rw[h,h];exact d i j a b
theorem tH:∀ (f:Nat) (p:Array Nat) (n q:Nat),n+f≤p.size→1≤n→Dn r p n→Eqs (r:=r) p n q →
  let o:=run (lt r) (kas_desc f p n q);o.1.size=p.size∧o.1.Perm p∧n≤o.2.1∧o.2.1≤n+f∧Dn r o.1 o.2.1∧Eqs (r:=r) o.1 o.2.1 o.2.2
 |0,p,n,q,_,_,d,e=>⟨rfl,Array.Perm.refl _,Nat.le_refl _,Nat.le_refl _,d,e⟩
 |f+1,p,n,q,hs,hn,d,e=>by
  simp only[kas_desc,run]
  cases hc:lt r (p.getD n 0) (p.getD (n-1) 0) with
  |true =>
   have hlt:ky r p n<ky r p (n-1):=of_decide_eq_true hc
   simp only[if_true]
   have d':Dn r p (n+1):=fun i j a b=>by
    by_cases hj:j=n
    ·subst hj
     by_cases hi:i=j
     ·subst hi;exact Int.le_refl _
     ·exact Int.le_trans (Int.le_of_lt hlt) (d i (j-1) (by omega) (by omega))
    ·exact d i j a (by omega)
   have e':∀ p:Array Nat,Eqs (r:=r) p (n+1) 0:=fun p=>WT p n
   by_cases hq:q>0
   ·rw[if_pos hq]
    have hk:=UL (r:=r) (p:=p) (n:=n) (q:=q) (by omega) e
    obtain⟨a1,a2,a3,a4,a5,a6⟩:=tH f (kas_rev p (n-(q+1)) n) (n+1) 0 (by rw[kY];omega) (by omega) (oW hk d') (e' _)
    exact⟨by rw[a1,kY],a2.trans (uP _ _ _),by omega,by omega,a5,a6⟩
   ·rw[if_neg hq]
    obtain⟨a1,a2,a3,a4,a5,a6⟩:=tH f p (n+1) 0 (by omega) (by omega) d' (e' _)
    exact⟨a1,a2,by omega,by omega,a5,a6⟩
  |false =>
   simp only[Bool.false_eq_true,if_false,run]
   cases hd:lt r (p.getD (n-1) 0) (p.getD n 0) with
   |true =>
    simp only[if_true,run]
    exact⟨by trivial,Array.Perm.refl _,Nat.le_refl _,by omega,d,e⟩
   |false =>
    simp only[Bool.false_eq_true,if_false]
    have he:ky r p n=ky r p (n-1):=Int.le_antisymm (Int.not_lt.mp (of_decide_eq_false hd)) (Int.not_lt.mp (of_decide_eq_false hc))
    have d':Dn r p (n+1):=fun i j a b=>by
     by_cases hj:j=n
     ·subst hj
      by_cases hi:i=j
      ·subst hi;exact Int.le_refl _
      ·rw[he];exact d i (j-1) (by omega) (by omega)
     ·exact d i j a (by omega)
    have e':Eqs (r:=r) p (n+1) (q+1):=⟨by have:=e.1;omega,fun k a b=>by
     by_cases hk:k=n
     ·subst hk;rfl
     ·rw[e.2 k (by omega) (by omega)];exact he.symm⟩
    obtain⟨a1,a2,a3,a4,a5,a6⟩:=tH f p (n+1) (q+1) (by omega) (by omega) d' e'
    exact⟨a1,a2,by omega,by omega,a5,a6⟩
structure Got (r:Nat→Int)(p:Array Nat)(N:Nat)(o:Nat × Array Nat):Prop where
 size:o.2.size=p.size
 perm:o.2.Perm p
 pos:1≤o.1
 le:o.1≤N
 up:Up r o.2 o.1
theorem X1 {p:Array Nat}{n N:Nat}(hN:N≤p.size)(hn:1≤n)(hnN:n≤N)(d:Dn r p n):Got r p N (run (lt r) (kas_tail3 n N p)):=by
 unfold kas_tail3
 rw[pM]
 obtain⟨h1,h2,h3,h4⟩:=cR (r:=r) (kas_rev p 0 n) (N-n) n hn
 refine⟨kY _ _ _,uP _ _ _,Nat.le_trans hn h1,Nat.le_trans h2 (by omega),TB fun k a b=>?_⟩
 show ky r (kas_rev p 0 n) (k-1)≤ky r (kas_rev p 0 n) k
 by_cases hk:n≤k
 ·exact h3 k hk b
 ·rw[iT (by omega),iT (by omega),if_pos (by omega),if_pos (by omega)]
  exact d _ _ (by omega) (by omega)
theorem sI {p:Array Nat}{n N:Nat}(hN:N≤p.size)(hn:1≤n)(hnN:n+1≤N)(d:Dn r p (n+1)):Got r p N (run (lt r) (kas_descPart n N p)):=by
 unfold kas_descPart
 rw[pM]
 obtain⟨a1,a2,a3,a4,a5,a6⟩:=tH (r:=r) (N-(n+1)) p (n+1) 0 (by omega) (by omega) d (WT p n)
 generalize run (lt r) (kas_desc (N-(n+1)) p (n+1) 0)=o at *
 split
 ·have hk:=UL (r:=r) (p:=o.1) (n:=o.2.1) (q:=o.2.2) (by omega) a6
  have g:=X1 (p:=kas_rev o.1 (o.2.1-(o.2.2+1)) o.2.1) (N:=N) (by rw[kY];omega) (by omega) (by omega) (oW hk a5)
  exact⟨by rw[g.size,kY,a1],(g.perm.trans (uP _ _ _)).trans a2,g.pos,g.le,g.up⟩
 ·have g:=X1 (p:=o.1) (N:=N) (by omega) (by omega) (by omega) a5
  exact⟨by rw[g.size,a1],g.perm.trans a2,g.pos,g.le,g.up⟩
theorem JT {p:Array Nat}{N:Nat}(hN:N≤p.size)(h1:1≤N):Got r p N (run (lt r) (kas_count N p)):=by
 unfold kas_count
 rw[pM]
 obtain⟨b1,b2,b3,b4⟩:=cR (r:=r) p (N-1) 1 (Nat.le_refl _)
 generalize run (lt r) (kas_asc p (N-1) 1)=n at *
 have up:Up r p n:=TB b3
 by_cases hn:n=N
 ·subst hn
  rw[if_pos (by simp)]
  exact⟨rfl,Array.Perm.refl _,h1,Nat.le_refl _,up⟩
 ·rw[if_neg (by simpa using hn)]
  have hlt:=b4 (by omega)
  by_cases hn1:n>1
  ·rw[if_pos hn1]
   simp only[run]
   cases hc:lt r (p.getD 0 0) (p.getD (n-1) 0) with
   |true=>simp only[if_true,run];exact⟨rfl,Array.Perm.refl _,by show 1≤n;omega,by show n≤N;omega,up⟩
   |false =>
    simp only[Bool.false_eq_true,if_false]
    have hle:ky r p (n-1)≤ky r p 0:=Int.not_lt.mp (of_decide_eq_false hc)
    have all:∀ k,k<n→ky r p k=ky r p 0:=fun k hk=>Int.le_antisymm (Int.le_trans (up k (n-1) (by omega) (by omega)) hle) (up 0 k (by omega) hk)
    have keys:∀ k,ky r (kas_rev p 0 n) k=ky r p k:=fun k=>by
     rw[iT (by omega)]
     split
     ·rw[all k (by omega),all _ (by omega)]
     ·rfl
    have g:=sI (p:=kas_rev p 0 n) (n:=n) (N:=N) (by rw[kY];omega) (by omega) (by omega) (oW keys fun i j a b=>by
     by_cases hj:j=n
     ·subst hj
      by_cases hi:i=j
      ·subst hi;exact Int.le_refl _
      ·rw[all i (by omega),← all (j-1) (by omega)];exact Int.le_of_lt hlt
     ·rw[all i (by omega),all j (by omega)];exact Int.le_refl _)
    exact⟨by rw[g.size,kY],g.perm.trans (uP _ _ _),g.pos,g.le,g.up⟩
  ·rw[if_neg hn1]
   have e:n=1:=by omega
   subst e
   exact sI hN (Nat.le_refl _) (by omega) fun i j a b=>by
    by_cases hij:i=j
    ·subst hij;exact Int.le_refl _
    ·have:i=0:=by omega
     have:j=1:=by omega
     subst i j;exact Int.le_of_lt hlt
theorem dG (p:Array Nat)(k:Nat)(up:Up r p k):∀ (f l h:Nat),h-l≤f→l≤h→h≤k→(∀ i,i<l→ky r p i≤ky r p k)→(∀ i,h≤i→i<k→ky r p k<ky r p i) →
  let m:=run (lt r) (kas_place p k f l h);m≤k∧(∀ i,i<m→ky r p i≤ky r p k)∧(∀ i,m≤i→i<k→ky r p k<ky r p i)
 |0,l,h,hf,hl,hk,a,b=>by
  have:l=h:=by omega
  subst this
  exact⟨hk,a,b⟩
 |f+1,l,h,hf,hl,hk,a,b=>by
  simp only[kas_place]
  by_cases hc:l≥h
  ·rw[if_pos hc]
   have:l=h:=by omega
   subst this
   exact⟨hk,a,b⟩
  ·rw[if_neg hc]
   simp only[run]
   cases hq:lt r (p.getD k 0) (p.getD ((l+h)/2) 0) with
   |true =>
    simp only[if_true]
    have hlt:ky r p k<ky r p ((l+h)/2):=of_decide_eq_true hq
    exact dG p k up f l ((l+h)/2) (by omega) (by omega) (by omega) a fun i x y=>Int.lt_of_lt_of_le hlt (up _ _ x y)
   |false =>
    simp only[Bool.false_eq_true,if_false]
    have hle:ky r p ((l+h)/2)≤ky r p k:=Int.not_lt.mp (of_decide_eq_false hq)
    exact dG p k up f ((l+h)/2+1) h (by omega) (by omega) hk (fun i x=>Int.le_trans (up _ _ (by omega) (by omega)) hle) b
theorem ZL {p:Array Nat}{k l:Nat}(hk:k<p.size)(hl:l≤k)(i:Nat):ky r (bubble p k (k-l)) i=if i=l then ky r p k else if l<i∧i≤k then ky r p (i-1) else ky r p i:=by
 have h:=getElem?_bubble (xs:=p) hk (k-l) (by omega) i
 rw[show k-(k-l)=l by omega] at h
 by_cases h1:i=l
 ·rw[if_pos h1] at h ⊢;exact iS h
 ·rw[if_neg h1] at h ⊢
  by_cases h2:l<i∧i≤k
  ·rw[if_pos h2] at h ⊢;exact iS h
  ·rw[if_neg h2] at h ⊢;exact iS h
theorem W5:∀ (f:Nat) (p:Array Nat) (k:Nat),k+f≤p.size→Up r p k→let o:=run (lt r) (kas_bin f p k);o.size=p.size∧o.Perm p∧Up r o (k+f)
 |0,p,k,_,up=>⟨rfl,Array.Perm.refl _,up⟩
 |f+1,p,k,hs,up=>by
  simp only[kas_bin]
  rw[pM]
  obtain⟨h1,h2,h3⟩:=dG p k up k 0 k (by omega) (by omega) (Nat.le_refl _) (fun i hi=>by omega) fun i a b=>by omega
  generalize run (lt r) (kas_place p k k 0 k)=l at *
  have up':Up r (bubble p k (k-l)) (k+1):=fun i j a b=>by
   rw[ZL (by omega) h1,ZL (by omega) h1]
   by_cases e1:i=l
   ·rw[if_pos e1]
    by_cases e2:j=l
    ·rw[if_pos e2];exact Int.le_refl _
    ·rw[if_neg e2,if_pos (by omega)]
     exact Int.le_of_lt (h3 (j-1) (by omega) (by omega))
   ·rw[if_neg e1]
    by_cases e3:l<i∧i≤k
    ·rw[if_pos e3,if_neg (by omega),if_pos (by omega)]
     exact up _ _ (by omega) (by omega)
    ·rw[if_neg e3]
     by_cases e2:j=l
     ·rw[if_pos e2];exact h2 i (by omega)
     ·rw[if_neg e2]
      by_cases e4:l<j∧j≤k
      ·rw[if_pos e4];exact up _ _ (by omega) (by omega)
      ·rw[if_neg e4];exact up _ _ a (by omega)
  obtain⟨a1,a2,a3⟩:=W5 f (bubble p k (k-l)) (k+1) (by rw[bubble_size];omega) up'
  exact⟨by rw[a1,bubble_size],a2.trans (bubble_perm _ _ _),by rw[show k+(f+1)=k+1+f by omega];exact a3⟩
set_option tactic.hygienic true in
theorem ZX {n:Nat}(hn:1≤n):let o:=run (lt r) (kas_sort n);o.toList.Perm (List.range n)∧Up r o n:=by
 unfold kas_sort
 simp only[pM]
 have hz:(List.toArray (List.range n)).size=n:=by simp
 have g:=JT (r:=r) (p:=List.toArray (List.range n)) (N:=n) (by omega) hn
 generalize run (lt r) (kas_count n (List.toArray (List.range n)))=c at *
 have pm:∀ {o:Array Nat},o.Perm (List.toArray (List.range n))→o.toList.Perm (List.range n):=fun h=>by simpa using Array.perm_iff_toList_perm.mp h
 split
 ·rename_i hlt
  have hm:max c.1 1=c.1:=by have:=g.pos;omega
  rw[hm]
  obtain⟨a1,a2,a3⟩:=W5 (n-c.1) c.2 c.1 (by rw[g.size,hz];omega) g.up
  refine⟨pm (a2.trans g.perm),?_⟩
  rw[show c.1+(n-c.1)=n by omega] at a3
  exact a3
 ·rename_i hlt
  have:c.1=n:=by have:=g.le;omega
  refine⟨pm g.perm,?_⟩
  have u:=g.up
  rw[this] at u
  exact u
end
end _S
end
section
namespace _S
open PySem PySem.W PyProof.Rows
def Inn (n:Nat){α : Type}(T:α→Prop):KasT α → Prop
 |.ret a=>T a
 |.ask i j k=>i<n∧j<n∧∀ b,Inn n T (k b)
def PB (n:Nat)(p:Array Nat):Prop:=∀ k,p.getD k 0<n
theorem PB.perm {p q:Array Nat}{n:Nat}(h:PB n p)(e:q.Perm p):PB n q:=fun k=>by
 by_cases hk:k<q.size
 ·have e1:q.getD k 0=q[k]:=by simp[Array.getD,hk]
  rw[e1]
  have:q[k]∈p:=e.mem_iff.mp (Array.getElem_mem hk)
  obtain⟨j,hj,e2⟩:=Array.mem_iff_getElem.mp this
  have:=h j
  rw[show p.getD j 0=p[j] by simp[Array.getD,hj]] at this
  rw[← e2];exact this
 ·have e1:q.getD k 0=0:=by simp[Array.getD,hk]
  rw[e1]
  exact Nat.lt_of_le_of_lt (Nat.zero_le _) (h 0)
theorem Inn.bind {n:Nat}{α β:Type}{T:α→Prop}{U:β→Prop}{g:α→KasT β} : ∀ {t:KasT α},Inn n T t→(∀ a,T a→Inn n U (g a))→Inn n U (t.bind g)
 |.ret a,h,hg=>hg a h
 |.ask i j k,⟨h1,h2,h3⟩,hg=>⟨h1,h2,fun b=>Inn.bind (h3 b) hg⟩
theorem BF {n:Nat}{f:Nat→Nat→Bool}{cmp:Nat→Nat→(Bool→Shared→Prop)→Shared→Prop}{s:Shared}(hc:∀ i j (C:Bool→Shared→Prop),i<n→j<n→C (f i j) s→cmp i j C s){α : Type}{T:α→Prop}{G:α→Shared→Prop}:∀ t:KasT α,Inn n T t→G (run f t) s→t.kasWp cmp G s
 |.ret _,_,h=>h
 |.ask i j k,⟨h1,h2,h3⟩,h=>hc i j _ h1 h2 (BF hc (k (f i j)) (h3 _) h)
theorem u6 {n:Nat}{α : Type}{T:α→Prop}{c:Prop}[Decidable c]{a b:KasT α}(h1:Inn n T a)(h2:Inn n T b):Inn n T (if c then a else b):=by
 split
 ·exact h1
 ·exact h2
section
variable {n:Nat}
theorem Q2 {p:Array Nat}(h:PB n p):∀ f m,Inn n (fun _=>True) (kas_asc p f m)
 |0,m=>trivial
 |f+1,m=>⟨h _,h _,fun b=>u6 trivial (Q2 h f (m+1))⟩
theorem dA:∀ (f:Nat) {p:Array Nat} (m q:Nat),PB n p→Inn n (fun o=>PB n o.1) (kas_desc f p m q)
 |0,p,m,q,h=>h
 |f+1,p,m,q,h=>⟨h _,h _,fun b=>u6 (u6 (dA f _ _ (h.perm (uP _ _ _))) (dA f _ _ h)) ⟨h _,h _,fun d=>u6 h (dA f _ _ h)⟩⟩
theorem ZG {p:Array Nat}(h:PB n p)(m N:Nat):Inn n (fun o=>PB n o.2) (kas_tail3 m N p):=Inn.bind (Q2 (h.perm (uP _ _ _)) _ _) fun _ _=>h.perm (uP _ _ _)
theorem rJ {p:Array Nat}(h:PB n p)(m N:Nat):Inn n (fun o=>PB n o.2) (kas_descPart m N p):=Inn.bind (dA _ _ _ h) fun o ho=>u6 (ZG (ho.perm (uP _ _ _)) _ _) (ZG ho _ _)
theorem GO {p:Array Nat}(h:PB n p)(N:Nat):Inn n (fun o=>PB n o.2) (kas_count N p):=Inn.bind (Q2 h _ _) fun m _=>u6 h (u6 ⟨h _,h _,fun b=>u6 h (rJ (h.perm (uP _ _ _)) _ _)⟩ (rJ h _ _))
theorem rK {p:Array Nat}(h:PB n p)(k:Nat):∀ f l r,Inn n (fun _=>True) (kas_place p k f l r)
 |0,l,r=>trivial
 |f+1,l,r=>u6 (T:=fun _=>True) trivial ⟨h _,h _,fun b=>u6 (rK h k f _ _) (rK h k f _ _)⟩
theorem UP:∀ (f:Nat) {p:Array Nat} (k:Nat),PB n p→Inn n (fun _=>True) (kas_bin f p k)
 |0,p,k,h=>trivial
 |f+1,p,k,h=>Inn.bind (rK h k k 0 k) fun l _=>UP f (k+1) (h.perm (bubble_perm _ _ _))
theorem aG (hn:0<n):Inn n (fun _=>True) (kas_sort n):=by
 have h:PB n (List.toArray (List.range n)):=fun k=>by
  by_cases hk:k<n
  ·simp[Array.getD,hk]
  ·simp[Array.getD,hk,hn]
 exact Inn.bind (GO h n) fun o ho=>u6 (UP _ _ ho) (show Inn n (fun _=>True) (.ret o.2) from trivial)
end
structure Cmps (prog:Program)(w:World)(h0:Heap)(vs:List Value)(f:Nat→Nat→Bool):Prop where
 ex:∃ κ,∀ (A:Around),A.units<cLine→∀ (s:Shared),Sup h0 s.heap→(∀ (Q:SortKind→Shared→Prop) (E:Value→Shared→Prop),Q κ s→wpAny (model prog w) A (keyKind' vs.toArray) Q E s)∧∀ i j (C:Bool→Shared→Prop),i<vs.length→j<vs.length→C (f i j) s→kas_ask prog w A κ vs i j C s
def kR (vs:List Value)(f:Nat→Nat→Bool):List Value:=if vs.length<2 then vs else (run f (kas_sort vs.length)).toList.map fun i=>vs.getD i Value.none
section
variable {prog:Program}{w:World}{A:Around}{E:Value→Shared→Prop}{s:Shared}
theorem HX {a:Addr}{vs:List Value}{n:Nat}{h0:Heap}{f:Nat→Nat→Bool}{P:PySem.Fin→Shared→Prop}(ho:s.heap.get? a=some (seqObj "list" vs.toArray n))(hu:A.units<cLine)(h64:vs.length<64)(c:2≤vs.length→Cmps prog w h0 vs f)(hS:Sup h0 s.heap)(ha:h0.get? a=none)
  (hl:(kR vs f).length=vs.length) (h:P (.done (.ret .none)) { s with heap:=sortedHeap s.heap a vs (kR vs f).toArray }) : wpAny (model prog w) A (Builtin.«list.sort» ⟨[.ref a],[]⟩) P E s:=by
 rw[list_sort_plain]
 have hb:a<s.heap.objs.size:=Heap.lt_size ho
 have hsz:vs.toArray.size=vs.length:=by simp
 refine wpAny_bind (listItems_at ho rfl (wpAny_bind (listUpdate_at ho rfl ?_ (by rw[hsz,sizeLine_eq];omega) (Nat.zero_le _))))
 obtain⟨e1,ho1⟩:∃ e1,(s.heap.update a (Obj.mapSeq fun _=>#[])).get? a=some (seqObj "list" #[] e1):=⟨_,get?_update_seq ho (fun _=>#[])⟩
 refine wpAny_bind (seqEpoch_at ho1 rfl (wpAny_bind (wpAny_newTuple (wpAny_bind (wpAny_newList (wpAny_holding ?_) (Nat.zero_le _))) (by show vs.length≤_;rw[sizeLine_eq];omega))))
 have ho6:(((s.heap.update a (Obj.mapSeq fun _=>#[])).push (seqObj "tuple" vs.toArray 0)).push (seqObj "list" #[] 0)).get? a=some (seqObj "list" #[] e1):=
  Heap.get?_push_of_some _ (Heap.get?_push_of_some _ ho1)
 have S6:Sup h0 (((s.heap.update a (Obj.mapSeq fun _=>#[])).push (seqObj "tuple" vs.toArray 0)).push (seqObj "list" #[] 0)):=fun b o e =>
  Heap.get?_push_of_some _ (Heap.get?_push_of_some _ ((Heap.get?_update_other _ _ (fun z:a=b=>by rw[← z,ha] at e;cases e)).trans (hS b o e)))
 show wpAny (model prog w) A _ P E { s with heap:=((s.heap.update a (Obj.mapSeq fun _=>#[])).push (seqObj "tuple" vs.toArray 0)).push (seqObj "list" #[] 0) }
 dsimp only
 have fin:∀ st':SortSt,(arrOf st').map (·.2)=(kR vs f).toArray→failedOf st'=none→wpAny (model prog w) A (do
   let touched:=(← seqEpoch a) != e1
   Builtin.List.listUpdate (.ref a) fun _=>(arrOf st').map (·.2)
   if let some e:=failedOf st' then rule "list.sort.comparison-raised";throw e
   if touched then rule "list.sort.modified";raiseError "ValueError" "list modified during sort"
   ret .none) P E { s with heap:=((s.heap.update a (Obj.mapSeq fun _=>#[])).push (seqObj "tuple" vs.toArray 0)).push (seqObj "list" #[] 0) }:=by
  intro st' h1 h2
  refine wpAny_bind (seqEpoch_at ho6 rfl ?_)
  rw[h1]
  refine wpAny_bind (listUpdate_at ho6 rfl ?_ (Nat.zero_le _) (by show (kR vs f).toArray.size≤_;rw[List.size_toArray,hl,sizeLine_eq];omega))
  rw[h2]
  simp only[bne_self_eq_false,Bool.false_eq_true,if_false]
  exact wpAny_pure h
 by_cases h2:vs.toArray.size<2
 ·rw[if_pos h2,if_pos h2]
  refine wpAny_bind (wpAny_pure ?_)
  rw[StateT.run_pure]
  refine wpAny_bind (wpAny_pure ?_)
  refine fin (SortSt.mk' general' (vs.toArray.zip vs.toArray) #[] 7 none) ?_ rfl
  show (vs.toArray.zip vs.toArray).map (·.2)=_
  unfold kR
  rw[if_pos (by rw[← hsz];exact h2)]
  apply Array.toList_inj.mp
  simp[List.map_snd_zip]
 ·rw[if_neg h2,if_neg h2]
  have h2':2≤vs.length:=by omega
  obtain⟨κ,C⟩:=c h2'
  obtain⟨k1,k2⟩:=C A hu { s with heap:=((s.heap.update a (Obj.mapSeq fun _=>#[])).push (seqObj "tuple" vs.toArray 0)).push (seqObj "list" #[] 0) } S6
  refine wpAny_bind (k1 _ _ ?_)
  refine wpAny_bind (wpAny_mono (kat_run (ks:=vs) (vs:=vs) (Q:=fun st' s'=>(arrOf st').map (·.2)=(kR vs f).toArray∧failedOf st'=none∧s'={ s with heap:=((s.heap.update a (Obj.mapSeq fun _=>#[])).push (seqObj "tuple" vs.toArray 0)).push (seqObj "list" #[] 0) })
   (G:=fun p s'=>p=run f (kas_sort vs.length)∧s'={ s with heap:=((s.heap.update a (Obj.mapSeq fun _=>#[])).push (seqObj "tuple" vs.toArray 0)).push (seqObj "list" #[] 0) }) rfl h2' h64 (fun p st' s' a1 a2 a3 a4=>⟨?_,a3,a4.2⟩) (BF k2 _ (aG (by omega)) ⟨rfl,rfl⟩)) ?_ fun _ _ e=>e)
  ·rw[kat_snds rfl a2,a4.1]
   unfold kR
   rw[if_neg (by omega)]
  ·rintro⟨⟨⟩,st'⟩ s' ⟨q1,q2,rfl⟩
   exact fin st' q1 q2
end
end _S
end
section
namespace _S
open PySem PySem.W PyProof.Rows
structure Ord {K:Type}(lt:K→K→Bool):Prop where
 irr:∀ a,lt a a=false
 tr:∀ {a b c},lt a b=true→lt b c=true→lt a c=true
 tri:∀ {a b},lt a b=false→a=b∨lt b a=true
def ltI (a b:Int):Bool:=decide (a<b)
theorem AK:Ord ltI:=⟨fun a=>by simp[ltI],fun {a b c} h1 h2=>by simp only[ltI,decide_eq_true_eq] at *;omega,fun {a b} h=>by simp only[ltI,decide_eq_true_eq,decide_eq_false_iff_not] at *;omega⟩
theorem UV:∀ a:List Int,_H.lexLt a a=false
 |[]=>rfl
 |x::xs=>by rw[_H.lexLt_cons,if_pos rfl];exact UV xs
theorem GX:∀ {a b c:List Int},_H.lexLt a b=true→_H.lexLt b c=true→_H.lexLt a c=true
 |_,[],[],_,h=>by cases h
 |_,_::_,[],_,h=>by cases h
 |[],_,_::_,_,_=>rfl
 |_::_,[],_::_,h,_=>by cases h
 |x::xs,y::ys,z::zs,h1,h2=>by
  rw[_H.lexLt_cons] at h1 h2 ⊢
  by_cases e1:x=y
  ·subst e1
   rw[if_pos rfl] at h1
   by_cases e2:x=z
   ·rw[if_pos e2] at h2 ⊢;exact GX h1 h2
   ·rw[if_neg e2] at h2 ⊢;exact h2
  ·rw[if_neg e1] at h1
   have h1:=of_decide_eq_true h1
   by_cases e2:y=z
   ·subst e2;rw[if_neg e1];exact decide_eq_true h1
   ·rw[if_neg e2] at h2
    have h2:=of_decide_eq_true h2
    rw[if_neg (by omega)]
    exact decide_eq_true (by omega)
theorem UW:∀ {a b:List Int},_H.lexLt a b=false→a=b∨_H.lexLt b a=true
 |[],[],_=>.inl rfl
 |[],_::_,h=>by cases h
 |_::_,[],_=>.inr rfl
 |x::xs,y::ys,h=>by
  rw[_H.lexLt_cons] at h ⊢
  by_cases e:x=y
  ·subst e
   rw[if_pos rfl] at h ⊢
   rcases UW h with h|h
   ·exact .inl (by rw[h])
   ·exact .inr h
  ·rw[if_neg e] at h
   have h:=of_decide_eq_false h
   rw[if_neg (Ne.symm e)]
   exact .inr (decide_eq_true (by omega))
theorem rR:Ord _H.lexLt:=⟨UV,GX,UW⟩
theorem Z9 {α : Type}{p q:α→Bool}:∀ {l:List α},(∀ x∈l,p x=true→q x=true)→(∃ x∈l,q x=true∧p x=false)→l.countP p<l.countP q
 |[],_,⟨x,h,_⟩=>by simp at h
 |a::l,h,⟨x,hx,h1,h2⟩=>by
  have le:l.countP p≤l.countP q:=List.countP_mono_left fun y hy=>h y (by simp[hy])
  rw[List.countP_cons,List.countP_cons]
  rcases List.mem_cons.mp hx with rfl|hx
  ·rw[if_neg (by rw[h2];decide),if_pos h1];omega
  ·have ih:=Z9 (l:=l) (fun y hy=>h y (by simp[hy])) ⟨x,hx,h1,h2⟩
   have:=h a (by simp)
   cases hp:p a with
   |false=>rw[if_neg (by decide)];split <;> omega
   |true=>rw[if_pos rfl,if_pos (this hp)];omega
section
variable {K:Type}{lt':K→K→Bool}
def QL (lt':K→K→Bool)(ks:List K)(d:K)(i:Nat):Int:=(ks.countP (fun k=>lt' k (ks.getD i d)):Nat)
theorem QM (O:Ord lt')(ks:List K)(d:K){i j:Nat}(hi:i<ks.length)(hj:j<ks.length):lt' (ks.getD i d) (ks.getD j d)=lt (QL lt' ks d) i j:=by
 have mi:ks.getD i d∈ks:=by simp[List.getD,hi]
 have mj:ks.getD j d∈ks:=by simp[List.getD,hj]
 unfold lt QL
 cases h:lt' (ks.getD i d) (ks.getD j d) with
 |true =>
  refine(decide_eq_true ?_).symm
  have:=Z9 (l:=ks) (p:=fun k=>lt' k (ks.getD i d)) (q:=fun k=>lt' k (ks.getD j d)) (fun x _ hx=>O.tr hx h) ⟨_,mi,h,O.irr _⟩
  omega
 |false =>
  refine(decide_eq_false ?_).symm
  have:ks.countP (fun k=>lt' k (ks.getD j d))≤ks.countP (fun k=>lt' k (ks.getD i d)):=by
   rcases O.tri h with e|h'
   ·rw[e];exact Nat.le_refl _
   ·exact List.countP_mono_left fun x _ hx=>O.tr hx h'
  omega
theorem rX {n:Nat}{f g:Nat→Nat→Bool}(h:∀ i j,i<n→j<n→f i j=g i j){α : Type}{T:α→Prop}:∀ t:KasT α,Inn n T t→run f t=run g t
 |.ret _,_=>rfl
 |.ask i j k,⟨h1,h2,h3⟩=>by
  show run f (k (f i j))=run g (k (g i j))
  rw[h i j h1 h2]
  exact rX h _ (h3 _)
def gJ (lt':K→K→Bool)(ks:List K)(d:K)(i j:Nat):Bool:=lt' (ks.getD i d) (ks.getD j d)
def perm (lt':K→K→Bool)(ks:List K)(d:K):List Nat:=if ks.length<2 then List.range ks.length else (run (gJ lt' ks d) (kas_sort ks.length)).toList
set_option tactic.hygienic true in
theorem rS (O:Ord lt')(ks:List K)(d:K):(perm lt' ks d).Perm (List.range ks.length):=by
 unfold perm
 split
 ·exact List.Perm.refl _
 ·rename_i h
  rw[rX (f:=gJ lt' ks d) (g:=lt (QL lt' ks d)) (fun i j hi hj=>QM O ks d hi hj) (kas_sort ks.length) (aG (by omega))]
  exact(ZX (r:=QL lt' ks d) (n:=ks.length) (by omega)).1
theorem ZM {α : Type}(ks:List α)(d:α):(List.range ks.length).map (ks.getD · d)=ks:=by
 apply List.ext_getElem
 ·simp
 ·intro i h1 h2
  simp[h2]
def KB (lt':K→K→Bool)(ks:List K)(d:K):List K:=(perm lt' ks d).map (ks.getD · d)
theorem PL (O:Ord lt')(ks:List K)(d:K):(KB lt' ks d).Perm ks:=by
 have:=(rS O ks d).map (ks.getD · d)
 rwa [ZM] at this
theorem L9 (O:Ord lt')(ks:List K)(d:K)(nd:ks.Nodup):(KB lt' ks d).Pairwise (fun a b=>lt' a b=true):=by
 have pp:=rS O ks d
 have ndp:(perm lt' ks d).Nodup:=pp.nodup_iff.mpr List.nodup_range
 unfold KB
 rw[List.pairwise_map]
 refine List.pairwise_iff_getElem.mpr fun i j hi hj hij=>?_
 have bd:∀ k (hk:k<(perm lt' ks d).length),(perm lt' ks d)[k]<ks.length:=fun k hk=>List.mem_range.mp (pp.mem_iff.mp (List.getElem_mem hk))
 have len:(perm lt' ks d).length=ks.length:=by rw[pp.length_eq,List.length_range]
 have hne:(perm lt' ks d)[i]≠(perm lt' ks d)[j]:=fun e=>by
  have:=(List.getElem_inj ndp).mp e
  omega
 have hk:ks.getD (perm lt' ks d)[i] d≠ks.getD (perm lt' ks d)[j] d:=fun e=>by
  have b1:=bd i hi
  have b2:=bd j hj
  rw[show ks.getD (perm lt' ks d)[i] d=ks[(perm lt' ks d)[i]] by simp[List.getD,b1],show ks.getD (perm lt' ks d)[j] d=ks[(perm lt' ks d)[j]] by simp[List.getD,b2]] at e
  exact hne ((List.getElem_inj nd).mp e)
 cases h:lt' (ks.getD (perm lt' ks d)[i] d) (ks.getD (perm lt' ks d)[j] d) with
 |true=>rfl
 |false =>
  exfalso
  rcases O.tri h with e|h'
  ·exact hk e
  ·have h2:¬ ks.length<2:=fun h2=>by omega
   have u:=(ZX (r:=QL lt' ks d) (n:=ks.length) (by omega)).2
   rw[← rX (f:=gJ lt' ks d) (g:=lt (QL lt' ks d)) (fun i j hi hj=>QM O ks d hi hj) (kas_sort ks.length) (aG (by omega))] at u
   have hp:perm lt' ks d=(run (gJ lt' ks d) (kas_sort ks.length)).toList:=by unfold perm;rw[if_neg h2]
   have:=u i j (by omega) (by omega)
   rw[QM O ks d (bd j hj) (bd i hi)] at h'
   have h'':=of_decide_eq_true h'
   have gd:∀ k (hk:k<(perm lt' ks d).length),(run (gJ lt' ks d) (kas_sort ks.length)).getD k 0=(perm lt' ks d)[k]:=fun k hk=>by
    have hk':k<(run (gJ lt' ks d) (kas_sort ks.length)).size:=by rw[hp,Array.length_toList] at hk;exact hk
    simp only[hp,Array.getElem_toList]
    simp[Array.getD,hk']
   unfold ky at this
   rw[gd i hi,gd j hj] at this
   omega
def mO (lt':K→K→Bool)(x:K):List K→List K
 |[]=>[x]
 |y::l=>if lt' x y then x::y::l else if lt' y x then y::mO lt' x l else y::l
def srt (lt':K→K→Bool):List K→List K
 |[]=>[]
 |x::xs=>mO lt' x (srt lt' xs)
set_option tactic.hygienic true in
theorem aH (O:Ord lt')(x y:K):∀ l:List K,y∈mO lt' x l↔y=x∨y∈l
 |[]=>by simp[mO]
 |z::l=>by
  unfold mO
  split
  ·simp
  ·rename_i h1
   split
   ·rw[List.mem_cons,aH O x y l,List.mem_cons]
    exact⟨fun h=>by rcases h with h|h|h <;> simp[h],fun h=>by rcases h with h|h|h <;> simp[h]⟩
   ·rename_i h2
    have:x=z:=(O.tri (by simpa using h1)).elim id fun h=>absurd h h2
    subst this
    simp
set_option tactic.hygienic true in
theorem UQ (O:Ord lt')(x:K):∀ l:List K,l.Pairwise (fun a b=>lt' a b=true)→(mO lt' x l).Pairwise (fun a b=>lt' a b=true)
 |[],_=>by simp[mO]
 |z::l,h=>by
  rw[List.pairwise_cons] at h
  unfold mO
  split
  ·rename_i h1
   refine List.pairwise_cons.mpr ⟨fun y hy=>?_,List.pairwise_cons.mpr h⟩
   rcases List.mem_cons.mp hy with rfl|hy
   ·exact h1
   ·exact O.tr h1 (h.1 y hy)
  ·split
   ·rename_i h2
    refine List.pairwise_cons.mpr ⟨fun y hy=>?_,UQ O x l h.2⟩
    rcases (aH O x y l).mp hy with rfl|hy
    ·exact h2
    ·exact h.1 y hy
   ·exact List.pairwise_cons.mpr h
theorem gD (O:Ord lt')(y:K):∀ l:List K,y∈srt lt' l↔y∈l
 |[]=>by simp[srt]
 |x::l=>by rw[srt,aH O,gD O y l,List.mem_cons]
theorem lM (O:Ord lt'):∀ l:List K,(srt lt' l).Pairwise (fun a b=>lt' a b=true)
 |[]=>by simp[srt]
 |x::l=>UQ O x _ (lM O l)
theorem hB (O:Ord lt'):∀ {a b:List K},a.Pairwise (fun a b=>lt' a b=true)→b.Pairwise (fun a b=>lt' a b=true)→(∀ x,x∈a↔x∈b)→a=b
 |[],[],_,_,_=>rfl
 |[],y::b,_,_,h=>by have:=(h y).mpr (by simp);simp at this
 |x::a,[],_,_,h=>by have:=(h x).mp (by simp);simp at this
 |x::a,y::b,ha,hb,h=>by
  rw[List.pairwise_cons] at ha hb
  have asym:∀ {u v},lt' u v=true→lt' v u=true→False:=fun p q=>by have:=O.tr p q;rw[O.irr] at this;cases this
  have e:x=y:=by
   rcases List.mem_cons.mp ((h x).mp (by simp)) with e|e
   ·exact e
   ·rcases List.mem_cons.mp ((h y).mpr (by simp)) with e'|e'
    ·exact e'.symm
    ·exact(asym (hb.1 x e) (ha.1 y e')).elim
  subst e
  have ne:∀ {z:K} {l:List K},(∀ y∈l,lt' x y=true)→z∈l→z≠x:=fun h hz e=>by subst e;have:=h _ hz;rw[O.irr] at this;cases this
  rw[hB O ha.2 hb.2 fun z=>⟨fun hz=>?_,fun hz=>?_⟩]
  ·exact(List.mem_cons.mp ((h z).mp (by simp[hz]))).elim (fun e=>absurd e (ne ha.1 hz)) id
  ·exact(List.mem_cons.mp ((h z).mpr (by simp[hz]))).elim (fun e=>absurd e (ne hb.1 hz)) id
theorem FT (O:Ord lt')(ks xs:List K)(d:K)(nd:ks.Nodup)(h:∀ x,x∈ks↔x∈xs):KB lt' ks d=srt lt' xs:=
 hB O (L9 O ks d nd) (lM O xs) fun x=>by rw[(PL O ks d).mem_iff,gD O,h]
end
end _S
end
section
namespace _S
open PySem PySem.W PyProof.Rows
theorem NW:typeLookup (.type "set") "__len__" = pure (some (.builtin "set.__len__")):=PySem.F.slot_set_len.lookup
section
variable {prog:Program}{w:World}{A:Around}{E:Value→Shared→Prop}{s:Shared}{S:Addr}{es:Array (Int × Value)}{ep:Nat}{t:SetTable}
theorem FJ {r:Addr}(hT:s.TypeIs (.ref r) "set"){Q:Bool→Shared→Prop}(h:Q false s):wpAny (model prog w) A (Builtin.List.listLengthHint (.ref r)) Q E s:=by
 unfold Builtin.List.listLengthHint
 refine wpAny_bind (wpAny_specialOf hT NW ?_)
 generalize hid:("set.__len__" : String)=id0
 wp_delta
 rw[show splitId id0=some ("set","__len__") from by subst hid;decide +kernel]
 subst hid
 refine wpAny_bind (wpAny_isInstance (T:="set") (b:=true) hT (by rw[isSubtype_type];kernel_rfl) ?_)
 refine wpAny_ite_split (fun hab=>absurd hab (by decide)) (fun _=>?_)
 refine wpAny_ite_split (fun _=>?_) (fun hab=>absurd (by decide +kernel) hab)
 exact wpAny_bind (wpAny_typeOf hT (wpAny_pure h))
theorem VR {Q:List Value→Shared→Prop}(hh:A.handled=none)(Z:Still w S es ep t)(ho:s.heap.get? S=some (setO es ep t))(hn:es.size≤1000)
  (h:∀ h' tk,(∀ b o,s.heap.get? b=some o→h'.get? b=some o)→s.heap.objs.size<h'.objs.size→Q ((qY w S ep es).toList.map (·.2)) { s with heap:=h',toks:=tk }) : wpAny (model prog w) A (collect (.ref S)) Q E s:=by
 have hS:S<s.heap.objs.size:=Heap.lt_size ho
 unfold collect
 refine wpAny_bind (wpAny_runValue (codeAny_builtin PySem.F.entry_proto_collect ?_))
 rw[Around.under_plainId PySem.F.plain_proto_collect _]
 show wpAny _ A.in1 (newList [] >>= fun l=>again (.builtin "list.__iadd__" ⟨[l,.ref S],[]⟩)) _ _ s
 refine wpAny_bind (wpAny_newObj_type (wpAny_pure ⟨plainId_quiet PySem.F.plain_list_iadd _,codeAny_builtin PySem.F.entry_list_iadd ?_⟩))
 rw[Around.under_plainId PySem.F.plain_list_iadd _]
 have hD:(s.heap.push { cls:=.type "list",data:=.seq ([] : List Value).toArray }).get? s.heap.objs.size=some { cls:=.type "list",data:=.seq #[] }:=Heap.get?_push_size _ rfl
 have ho1:(s.heap.push { cls:=.type "list",data:=.seq ([] : List Value).toArray }).get? S=some (setO es ep t):=Heap.get?_push_of_some _ ho
 show wpAny _ A.in1 (Builtin.List.listExtendWith (.ref s.heap.objs.size) (.ref S) (.ref s.heap.objs.size)) _ _ _
 unfold Builtin.List.listExtendWith
 have hT1:Shared.TypeIs { s with heap:=s.heap.push { cls:=.type "list",data:=.seq ([] : List Value).toArray } } (.ref S) "set":=⟨_,ho1,rfl⟩
 refine wpAny_bind (wpAny_typeOf hT1 ?_)
 have h1:Builtin.List.listSameRef (.ref s.heap.objs.size) (.ref S)=false:=by simp[Builtin.List.listSameRef];exact Nat.ne_of_gt hS
 rw[if_neg (by rw[h1];decide)]
 refine wpAny_bind (FL (s:={ s with heap:=s.heap.push { cls:=.type "list",data:=.seq ([] : List Value).toArray } }) Z ho1 ?_)
 have hD2:=Heap.get?_push_of_some (itO 0 0 S es.size ep) hD
 have hT2:Shared.TypeIs { s with heap:=(s.heap.push { cls:=.type "list",data:=.seq ([] : List Value).toArray }).push (itO 0 0 S es.size ep) } (.ref S) "set":=⟨_,Heap.get?_push_of_some _ ho1,rfl⟩
 refine wpAny_bind (wpAny_holding (FJ hT2 ?_))
 refine wpAny_ite_split (fun _=>?_) (fun hab=>absurd (by decide) hab)
 refine wpAny_bind (wpAny_rule (wpAny_bind ?_))
 show wpAny _ _ (updateSeq s.heap.objs.size (·.push .none) >>= fun _=>updateSeq s.heap.objs.size (·.pop)) _ _ _
 refine wpAny_bind (wpAny_updateSeq hD2 rfl ?_)
 have hD3:=Heap.get?_update_self (Obj.mapSeq (·.push Value.none)) hD2 rfl
 refine wpAny_updateSeq (hz:=by seq_fits) hD3 rfl ?_
 have hD4:=Heap.get?_update_self (Obj.mapSeq (·.pop)) hD3 rfl
 have sz:(s.heap.push { cls:=.type "list",data:=.seq ([] : List Value).toArray }).objs.size=s.heap.objs.size+1:=Heap.size_push ..
 have oth:∀ {b:Addr} {o:Obj},b≠s.heap.objs.size→((s.heap.push { cls:=.type "list",data:=.seq ([] : List Value).toArray }).push (itO 0 0 S es.size ep)).get? b=some o →
   ((((s.heap.push { cls:=.type "list",data:=.seq ([] : List Value).toArray }).push (itO 0 0 S es.size ep)).update s.heap.objs.size (Obj.mapSeq (·.push Value.none))).update s.heap.objs.size (Obj.mapSeq (·.pop))).get? b=some o:=
  fun hb e=>(Heap.get?_update_other _ _ (Ne.symm hb)).trans ((Heap.get?_update_other _ _ (Ne.symm hb)).trans e)
 have at0:=TD (w:=w) (s:={ s with heap:=s.heap.push { cls:=.type "list",data:=.seq ([] : List Value).toArray } }) Z ho1
 refine wpAny_pure ⟨plainId_quiet PySem.F.plain_extend_loop _,?_⟩
 refine codeAny_extend_loopS ((LW (prog:=prog) (A:=A.in1) (I:=(s.heap.push { cls:=.type "list",data:=.seq ([] : List Value).toArray }).objs.size) hh (by rw[sz];exact Nat.ne_of_lt (Nat.lt_succ_of_lt hS)) Z).toS) (by rw[sizeLine_eq];omega) s.heap.objs.size ?_ _ es.size 0 _ #[] _ rfl (Nat.zero_le _) ?_ hD4 (ItemsOf.nil _) fun s' acc c hm hS' hacc=>?_
 ·rw[sz]
  simp only[List.mem_cons,List.not_mem_nil,or_false,not_or]
  exact⟨Nat.ne_of_lt (Nat.lt_succ_self _),Nat.ne_of_gt hS⟩
 ·obtain⟨slot,a1,a2,a3⟩:=at0
  exact⟨slot,oth (by rw[sz];exact Nat.ne_of_gt (Nat.lt_succ_self _)) a1,oth (Nat.ne_of_lt hS) a2,a3⟩
 ·show wpAny _ A (load s.heap.objs.size >>= _) _ _ s'
  refine wpAny_bind (wpAny_load hS' ?_)
  obtain⟨h',g',d',tk',os'⟩:=s'
  have eg:g'=s.gens:=hm.gens
  have ed:d'=s.drawn:=hm.drawn
  have eo:os'=s.os:=hm.os
  subst eg;subst ed;subst eo
  have e:acc.toList=(qY w S ep es).toList.map (·.2):=by
   refine List.ext_getElem? fun i=>?_
   rw[Array.getElem?_toList,List.getElem?_map,Array.getElem?_toList]
   by_cases hi:i<es.size
   ·have hi':i<acc.size:=by rw[hacc.1];exact hi
    obtain⟨e,he,q⟩:=hacc.2 i acc[i] (Array.getElem?_eq_getElem hi')
    rw[Array.getElem?_eq_getElem hi',he,Option.map_some,q]
   ·rw[Array.getElem?_eq_none (by rw[hacc.1];omega),Array.getElem?_eq_none (by rw[fQ];omega)]
    rfl
  refine wpAny_pure ?_
  show Q acc.toList _
  rw[e]
  refine h h' tk' (fun b o q=>?_) (Heap.lt_size hS')
  have hb:b<s.heap.objs.size:=Heap.lt_size q
  refine hm.heap b o (fun hx=>?_) (oth (Nat.ne_of_lt hb) (Heap.get?_push_of_some _ (Heap.get?_push_of_some _ q)))
  simp only[List.mem_cons,List.not_mem_nil,or_false] at hx
  rcases hx with hx|hx
  ·exact absurd hb (by rw[hx];exact Nat.lt_irrefl _)
  ·exact absurd hb (by rw[hx,sz];exact Nat.not_lt.mpr (Nat.le_succ _))
end
end _S
end
section
namespace _S
open PySem PySem.W PyProof.Rows
section
variable {prog:Program}{w:World}{h0:Heap}
theorem NY {A:Around}{s:Shared}{b:Bool}{Q:Bool→Shared→Prop}:∀ {xs ys:List Int} {us vs:List Value} {i:Nat} {N M:Nat},ItemsAre (intKind prog w) xs us→ItemsAre (intKind prog w) ys vs→N+ys.length=M+xs.length→Q (_H.lexLt xs ys) s→KatLex prog w A b (decide (N<M)) Q (us.zip vs) i s:=by
 intro xs ys us vs i N M hx
 induction hx generalizing ys vs i with
 |nil =>
  intro hy hl h
  cases hy with
  |nil =>
   have:decide (N<M)=false:=decide_eq_false (by simp at hl;omega)
   rw[this];exact h
  |@cons k v ys vs q r =>
   have:decide (N<M)=true:=decide_eq_true (by simp at hl;omega)
   rw[this];exact h
 |@cons x u xs us qx rx ih =>
  intro hy hl h
  cases hy with
  |nil =>
   have:decide (N<M)=false:=decide_eq_false (by simp at hl;omega)
   rw[this];exact h
  |@cons y v ys vs qy ry =>
   obtain⟨t,rfl⟩:=jU (prog:=prog) (w:=w) qx
   obtain⟨t',rfl⟩:=jU (prog:=prog) (w:=w) qy
   rw[List.zip_cons_cons]
   refine kat_cons (wpAny_eqBool_int ?_)
   rw[_H.lexLt_cons] at h
   refine kat_go (fun e=>kat_yes ?_) fun e=>kat_no ?_
   ·rw[if_pos (by simpa using e)] at h
    exact ih ry (by simp at hl;omega) h
   ·rw[if_neg (by simpa using e)] at h
    cases b&&i == 0 with
    |true=>exact oneLt_int h
    |false=>exact kat_one _ _ (PyProof.Rows.lt_int h)
theorem JI {h:Heap}:∀ {vs:List Value} {ks:List (List Int)},vs.length=ks.length→(∀ i v,vs[i]? = some v→isT prog w h (ks.getD i []) v)→(∀ k∈ks,k≠[])→∃ fs,KatTups h vs fs∧fs.length=vs.length∧∀ f∈fs,∃ n t,f=Value.int n t
 |[],[],_,_,_=>⟨[],trivial,rfl,fun f hf=>by simp at hf⟩
 |v::vs,k::ks,hl,hv,hne=>by
  obtain⟨fs,a1,a2,a3⟩:=JI (vs:=vs) (ks:=ks) (by simpa using hl) (fun i u hu=>by simpa using hv (i+1) u (by simpa using hu)) fun k hk=>hne k (by simp[hk])
  obtain⟨a,rfl,o,items,n,ho,hc,hd,hi⟩:=hv 0 v rfl
  have hk:k≠[]:=hne k (by simp)
  have hi':ItemsAre (intKind prog w) k items.toList:=hi
  cases hz:items.toList with
  |nil=>rw[hz] at hi';cases hi';exact absurd rfl hk
  |cons f rest =>
   rw[hz] at hi'
   cases hi' with
   |cons q _ =>
    obtain⟨t,rfl⟩:=jU (prog:=prog) (w:=w) q
    refine⟨_::fs,KatTups.cons ho hc hd (by rw[← Array.getElem?_toList,hz];rfl) a1,by simp[a2],fun f hf=>?_⟩
    rcases List.mem_cons.mp hf with rfl|hf
    ·exact⟨_,_,rfl⟩
    ·exact a3 f hf
theorem DR {vs:List Value}{ks:List (List Int)}(hl:vs.length=ks.length)(hv:∀ i v,vs[i]? = some v→isT prog w h0 (ks.getD i []) v)(hne:∀ k∈ks,k≠[])(h2:2≤vs.length):Cmps prog w h0 vs (gJ _H.lexLt ks []):=by
 refine⟨tuples' (Value.type "int" != Value.type "tuple"),fun A hu s hS=>⟨fun Q E h=>?_,fun i j C hi hj h=>?_⟩⟩
 ·obtain⟨fs,a1,a2,a3⟩:=JI (h:=s.heap) hl (fun i v hv'=>by obtain⟨a,e,q⟩:=hv i v hv';exact⟨a,e,bQ hS q⟩) hne
  refine kat_kind a1 (by omega) (fun v hv'=>?_) (by decide) h
  obtain⟨n,t,rfl⟩:=a3 v hv'
  exact Looks.of_pure rfl
 ·have g:∀ k (hk:k<vs.length),∃ a,vs.getD k Value.none=.ref a∧IsTupleKey (intKind prog w) s.heap (ks.getD k []) a:=fun k hk=>by
   obtain⟨a,e,q⟩:=hv k vs[k] (List.getElem?_eq_getElem hk)
   exact⟨a,by rw[← e];simp[List.getD,hk],bQ hS q⟩
  obtain⟨a,ea,oa,ia,na,ha,_,da,qa⟩:=g i hi
  obtain⟨b,eb,ob,ib,nb,hb,_,db,qb⟩:=g j hj
  unfold kas_ask
  rw[ea,eb]
  refine kat_lt ha da hb db (NY qa qb ?_ h)
  have la:=qa.length
  have lb:=qb.length
  simp only[Array.length_toList] at la lb
  omega
theorem DQ {vs:List Value}{ks:List Int}(hl:vs.length=ks.length)(hv:∀ i v,vs[i]? = some v→isI prog w (ks.getD i 0) v)(h2:2≤vs.length):Cmps prog w h0 vs (gJ ltI ks 0):=by
 have hi:∀ v∈vs,∃ n t,v=Value.int n t:=fun v hm=>by
  obtain⟨i,hi,e⟩:=List.mem_iff_getElem.mp hm
  obtain⟨t,q⟩:=jU (hv i v (by rw[List.getElem?_eq_getElem hi,e]))
  exact⟨_,t,q⟩
 refine⟨oneType',fun A hu s hS=>⟨fun Q E h=>?_,fun i j C hi hj h=>?_⟩⟩
 ·obtain⟨v₁,v₂,rest,rfl⟩:∃ v₁ v₂ rest,vs=v₁::v₂::rest:=by
   match vs,h2 with
   |v₁::v₂::rest,_=>exact⟨v₁,v₂,rest,rfl⟩
  rw[keyKind_ints (intsAre_map _ hi)]
  exact wpAny_pure h
 ·have g:∀ k (hk:k<vs.length),∃ t,vs.getD k Value.none=.int (ks.getD k 0) t:=fun k hk=>by
   obtain⟨t,q⟩:=jU (hv k vs[k] (List.getElem?_eq_getElem hk))
   exact⟨t,by rw[← q];simp[List.getD,hk]⟩
  obtain⟨t,et⟩:=g i hi
  obtain⟨u,eu⟩:=g j hj
  unfold kas_ask
  rw[et,eu]
  exact kat_lt_int h
end
section
variable {K:Type}{lt':K→K→Bool}
theorem FU (O:Ord lt'){vs:List Value}{ks:List K}{d:K}(hl:vs.length=ks.length):kR vs (gJ lt' ks d)=(perm lt' ks d).map (vs.getD · Value.none):=by
 unfold kR perm
 rw[hl]
 split
 ·rw[← hl,ZM]
 ·rfl
end
structure Kind (prog:Program)(w:World){K:Type}(is:K→Value→Prop)(hash:K→Int)(lt':K→K→Bool)(d:K)(Fit:K→Prop)(h0:Heap):Prop where
 ord:Ord lt'
 inj:∀ {k k':K} {v:Value},is k v→is k' v→k=k'
 cmps:∀ {vs:List Value} {ks:List K},vs.length=ks.length→(∀ i v,vs[i]? = some v→is (ks.getD i d) v)→(∀ k∈ks,Fit k)→2≤vs.length→Cmps prog w h0 vs (gJ lt' ks d)
theorem HV (prog:Program)(w:World)(h0:Heap):Kind prog w (isT prog w h0) (tupleKeyHash (intKind prog w)) _H.lexLt [] (·≠[]) h0:=⟨rR,isT.inj,fun h1 h2 h3 h4=>DR h1 h2 h3 h4⟩
theorem HU (prog:Program)(w:World)(h0:Heap):Kind prog w (isI prog w) (intKind prog w).hash ltI 0 (fun _=>True) h0:=⟨AK,fun a b=>(intKind prog w).inj _ _ _ a b,fun h1 h2 _ h4=>DQ h1 h2 h4⟩
section
variable {prog:Program}{w:World}{A:Around}{E:Value→Shared→Prop}{s:Shared}{K:Type}{is:K→Value→Prop}{hash:K→Int}{lt':K→K→Bool}{d:K}{Fit:K→Prop}{h0:Heap}{S:Addr}{V:List Value}{seen:List K}
open Classical in
noncomputable def kOf (is:K→Value→Prop)(d:K)(e:Int × Value):K:=if h:∃ k,is k e.2 then choose h else d
open Classical in
theorem R3 {e:Int × Value}(h:∃ k,is k e.2):is (kOf is d e) e.2:=by
 unfold kOf
 rw[dif_pos h]
 exact choose_spec h
theorem KL {Q:Value→Shared→Prop}(kd:Kind prog w is hash lt' d Fit h0)(hh:A.handled=none)(hu:A.units+8<cLine)(hS:Sup h0 s.heap)(Z:SetK is hash S (uX w) V seen s.heap)(hf:∀ k∈seen,Fit k){U:List K}(hU:U.length≤63)(hU1:∀ k∈seen,k∈U)
  (h:∀ h' tk D c (ps:List (K × Value)),(∀ b o,s.heap.get? b=some o→h'.get? b=some o)→s.heap.objs.size≤D→h'.get? D=some (seqObj "list" (ps.map (·.2)).toArray c)→ps.map (·.1)=srt lt' seen→(∀ p∈ps,is p.1 p.2∧p.2∈V)→ps.length<64→Q (.ref D) { s with heap:=h',toks:=tk }) :
  wpAny (model prog w) A (call (.builtin "sorted") [.ref S]) Q E s:=by
 obtain⟨es,ep,t,ho,Z0,T,hl,hV⟩:=Z
 have st:Still w S es ep t:=⟨T,hl⟩
 have hn:es.size<64:=by
  have:=aK es.toList U Z0.nd fun e he=>by
   obtain⟨k',_,q⟩:=Z0.good e he
   exact⟨k',hU1 k' ((Z0.mem k').mpr ⟨e,he,q⟩),q⟩
  rw[Array.length_toList] at this
  omega
 have op:=o3 w S ep es
 have osz:=fQ w S ep es
 have good:∀ e∈(qY w S ep es).toList,is (kOf is d e) e.2∧e.2∈V:=fun e he=>by
  have he':=op.mem_iff.mp he
  obtain⟨k,_,q⟩:=Z0.good e he'
  exact⟨R3 ⟨k,q⟩,hV e he'⟩
 have nd0:(qY w S ep es).toList.Pairwise fun a b=>∀ k,is k a.2→¬ is k b.2:=(op.pairwise_iff fun {x y} h k hy hx=>h k hx hy).mpr Z0.nd
 generalize hoe:(qY w S ep es).toList=oe at *
 have hoel:oe.length<64:=by rw[op.length_eq,Array.length_toList];exact hn
 have hks:∀ i v,(oe.map (·.2))[i]? = some v→is ((oe.map (kOf is d)).getD i d) v∧v∈V:=fun i v hv=>by
  rw[List.getElem?_map] at hv
  cases hi:oe[i]? with
  |none=>rw[hi] at hv;cases hv
  |some e =>
   rw[hi] at hv
   cases hv
   have g:=good e (List.mem_of_getElem? hi)
   have:(oe.map (kOf is d)).getD i d=kOf is d e:=by rw[List.getD_eq_getElem?_getD,List.getElem?_map,hi];rfl
   rw[this];exact g
 have nd:(oe.map (kOf is d)).Nodup:=by
  unfold List.Nodup
  rw[List.pairwise_map]
  refine List.Pairwise.imp_of_mem (fun {a b} ha hb h e=>?_) nd0
  exact h _ (good a ha).1 (e▸(good b hb).1)
 have mem:∀ x,x∈oe.map (kOf is d)↔x∈seen:=fun x=>by
  rw[Z0.mem,List.mem_map]
  constructor
  ·rintro⟨e,he,rfl⟩
   exact⟨e,op.mem_iff.mp he,(good e he).1⟩
  ·rintro⟨e,he,q⟩
   exact⟨e,op.mem_iff.mpr he,kd.inj (good e (op.mem_iff.mpr he)).1 q⟩
 have hlen:(oe.map (·.2)).length=(oe.map (kOf is d)).length:=by simp
 have hout:=FU kd.ord (d:=d) hlen
 have pp:=rS kd.ord (oe.map (kOf is d)) d
 refine Calls.call_function_entry kind_sorted plain_sorted entry_sorted (args_sorted1 _) ?_
 unfold Builtin.«sorted»
 refine wpAny_bind (m:=checkCount "sorted" 1 1 _) (wpAny_pure ?_)
 refine wpAny_bind (VR hh st ho (by omega) fun h1 tk1 kp1 hlt=>?_)
 rw[hoe]
 refine wpAny_bind (wpAny_newList ?_ (by rw[sizeLine_eq,List.length_map];omega))
 have hD:(h1.push (seqObj "list" (oe.map (·.2)).toArray 0)).get? h1.objs.size=some (seqObj "list" (oe.map (·.2)).toArray 0):=Heap.get?_push_size _ rfl
 have n0:h0.get? h1.objs.size=none:=by
  cases q:h0.get? h1.objs.size with
  |none=>rfl
  |some o=>exact absurd (Heap.lt_size (hS _ _ q)) (Nat.not_lt.mpr (Nat.le_of_lt hlt))
 have hps:((perm lt' (oe.map (kOf is d)) d).map fun i=>((oe.map (kOf is d)).getD i d,(oe.map (·.2)).getD i Value.none)).map (·.2)=kR (oe.map (·.2)) (gJ lt' (oe.map (kOf is d)) d):=by
  rw[hout,List.map_map];rfl
 have hpl:(kR (oe.map (·.2)) (gJ lt' (oe.map (kOf is d)) d)).length=(oe.map (·.2)).length:=by rw[hout,List.length_map,pp.length_eq,List.length_range,hlen]
 show wpAny _ _ _ _ _ { s with heap:=h1.push (seqObj "list" (oe.map (·.2)).toArray 0),toks:=tk1 }
 refine wpAny_bind (wpAny_holding (wpAny_call_entry slot_list_sort ⟨_,hD,rfl⟩ entry_list_sort (HX (h0:=h0) (f:=gJ lt' (oe.map (kOf is d)) d) hD (by show A.units+2<cLine;omega) (by rw[List.length_map];exact hoel) (fun h2=>kd.cmps hlen (fun i v hv=>(hks i v hv).1) (fun k hk=>hf k ((mem k).mp hk)) h2) (fun b o e=>Heap.get?_push_of_some _ (kp1 b o (hS b o e))) n0 hpl ⟨_,rfl,?_⟩) (args_list_sort _)))
 refine wpAny_pure ⟨_,rfl,?_⟩
 have hz:(h1.push (seqObj "list" (oe.map (·.2)).toArray 0)).objs.size=h1.objs.size+1:=size_push' ..
 have old:∀ b o,b≠h1.objs.size→(h1.push (seqObj "list" (oe.map (·.2)).toArray 0)).get? b=some o→((((h1.push (seqObj "list" (oe.map (·.2)).toArray 0)).update h1.objs.size (Obj.mapSeq fun _=>#[])).push (seqObj "tuple" (oe.map (·.2)).toArray 0)).push (seqObj "list" #[] 0)).get? b=some o:=fun b o hb e =>
  Heap.get?_push_of_some _ (Heap.get?_push_of_some _ ((Heap.get?_update_other _ _ (Ne.symm hb)).trans e))
 obtain⟨e1,he1⟩:∃ e1,((h1.push (seqObj "list" (oe.map (·.2)).toArray 0)).update h1.objs.size (Obj.mapSeq fun _=>#[])).get? h1.objs.size=some (seqObj "list" #[] e1):=⟨_,get?_update_seq hD (fun _=>#[])⟩
 have he6:=get?_update_seq (Heap.get?_push_of_some (seqObj "list" #[] 0) (Heap.get?_push_of_some (seqObj "tuple" (oe.map (·.2)).toArray 0) he1)) (fun _=>(kR (oe.map (·.2)) (gJ lt' (oe.map (kOf is d)) d)).toArray)
 refine h _ tk1 h1.objs.size _ ((perm lt' (oe.map (kOf is d)) d).map fun i=>((oe.map (kOf is d)).getD i d,(oe.map (·.2)).getD i Value.none)) (fun b o e=>?_) (Nat.le_of_lt hlt) (by rw[hps];exact he6) ?_ (fun p hp=>?_) (by rw[List.length_map,pp.length_eq,List.length_range,List.length_map];exact hoel)
 ·have hb:b≠h1.objs.size:=fun z=>by
   subst z
   exact absurd (Heap.lt_size e) (Nat.not_lt.mpr (Nat.le_of_lt hlt))
  exact(Heap.get?_update_other _ _ (Ne.symm hb)).trans (old b o hb (Heap.get?_push_of_some _ (kp1 b o e)))
 ·rw[List.map_map,← FT kd.ord (oe.map (kOf is d)) seen d nd mem]
  rfl
 ·obtain⟨i,hi,rfl⟩:=List.mem_map.mp hp
  have hi':i<oe.length:=by
   have:=List.mem_range.mp (pp.mem_iff.mp hi)
   rwa [List.length_map] at this
  have hv:(oe.map (·.2))[i]? = some ((oe.map (·.2)).getD i Value.none):=by
   rw[List.getD_eq_getElem?_getD,List.getElem?_eq_getElem (by rw[List.length_map];exact hi')]
   rfl
  exact hks i _ hv
end
end _S
end
section
namespace _D
open PySem PySem.Spec PyProof.Rows _L
inductive D where
 |non|bl (b:Bool)|int (i:Int)|str (x:Str)|ty (n:String)|obj (a:Addr)|tup (xs:List D)|lst (xs:List D)|dct0|loc (i:Nat)|exn (c:Value)|fd (ks:List Key) (ds:List D)
def AB (a:Addr)(c:Value):HO:=.ext fun h=>∃ ob,h.get? a=some ob∧ob.cls=c
inductive MO where
 |dead|lst (xs:List D)|dct (kvs:List (Key × D))|ins (C:Addr) (fs:List (Str × D))
abbrev Sto:=List MO
inductive Res (β : Type) where
 |ok (d:β) (S:Sto)|ex (c:Value) (x:D) (S:Sto)|bad
@[inline] def Res.bind {β γ:Type}(r:Res β)(f:β→Sto→Res γ) : Res γ:=
 match r with
 |.ok d S=>f d S
 |.ex c x S=>.ex c x S
 |.bad=>.bad
theorem Res.bind_ok {β γ:Type}(d:β)(S:Sto)(f:β→Sto→Res γ) : (Res.ok d S).bind f=f d S:=rfl
section
variable (K:PySem.W.Frag)(P:Hp)(α : List Addr)
mutual
def Rep:D→V→Prop
 |.non,v=>v=.non
 |.bl b,v=>v=.bl b
 |.int i,v=>v=.int i
 |.str x,v=>v=.str x
 |.ty n,v=>v=.ty n
 |.obj a,v=>v=.ref a∧PySem.W.keepIn K (.ref a)=true
 |.tup ds,v=>∃ a vs,v=.ref a∧SqT K P a vs∧qI ds vs
 |.lst ds,v=>∃ a vs,v=.ref a∧SqX K P a vs∧qI ds vs
 |.dct0,v=>∃ a,v=.ref a∧P a=some (.dK [])
 |.loc i,v=>∃ a,v=.ref a∧α[i]? = some a
 |.exn c,v=>∃ a,v=.ref a∧P a=some (AB a c)
 |.fd ks ds,v=>∃ a o vs,v=.ref a∧P a=some (.frz o (.dK (ks.zip vs)))∧ks.length=vs.length∧qI ds vs
def qI:List D→List V→Prop
 |[],vs=>vs=[]
 |d::ds,vs=>∃ w ws,vs=w::ws∧Rep d w∧qI ds ws
end
end
section
variable {K:PySem.W.Frag}{P P':Hp}{α α':List Addr}
theorem pO (e:qL P P'){a:Addr}{xs:List V}(h:SqT K P a xs):SqT K P' a xs:=by
 rcases h with (h|⟨o,h⟩)|h
 ·exact .inl (.inl (e _ _ h))
 ·exact .inl (.inr ⟨o,e _ _ h⟩)
 ·exact .inr h
theorem J8 (e:qL P P'){a:Addr}{u:HO}(h:Rd P a u):Rd P' a u:=by
 rcases h with h|⟨o,h⟩
 ·exact .inl (e _ _ h)
 ·exact .inr ⟨o,e _ _ h⟩
theorem vW (e:qL P P'){a:Addr}{xs:List V}(h:SqX K P a xs):SqX K P' a xs:=by
 rcases h with h|h
 ·exact .inl (J8 e h)
 ·exact .inr h
theorem eU {i:Nat}{a:Addr}(h:α<+:α')(e:α[i]? = some a):α'[i]? = some a:=by
 obtain⟨r,rfl⟩:=h
 rw[List.getElem?_append_left (List.getElem?_eq_some_iff.mp e).1]
 exact e
mutual
theorem Rep.mono (e:qL P P')(h:α<+:α'):∀ (d:D) (v:V),Rep K P α d v→Rep K P' α' d v
 |.non,_,r=>by simpa only [Rep] using r
 |.bl _,_,r=>by simpa only [Rep] using r
 |.int _,_,r=>by simpa only [Rep] using r
 |.str _,_,r=>by simpa only [Rep] using r
 |.ty _,_,r=>by simpa only [Rep] using r
 |.obj _,_,r=>by simpa only [Rep] using r
 |.tup ds,v,r=>by
  simp only[Rep] at r ⊢
  obtain⟨a,vs,rfl,q,t⟩:=r
  exact⟨a,vs,rfl,pO e q,qI.mono e h ds vs t⟩
 |.lst ds,v,r=>by
  simp only[Rep] at r ⊢
  obtain⟨a,vs,rfl,q,t⟩:=r
  exact⟨a,vs,rfl,vW e q,qI.mono e h ds vs t⟩
 |.dct0,v,r=>by
  simp only[Rep] at r ⊢
  obtain⟨a,rfl,q⟩:=r
  exact⟨a,rfl,e _ _ q⟩
 |.loc i,v,r=>by
  simp only[Rep] at r ⊢
  obtain⟨a,rfl,q⟩:=r
  exact⟨a,rfl,eU h q⟩
 |.exn c,v,r=>by
  simp only[Rep] at r ⊢
  obtain⟨a,rfl,q⟩:=r
  exact⟨a,rfl,e _ _ q⟩
 |.fd ks ds,v,r=>by
  simp only[Rep] at r ⊢
  obtain⟨a,o,vs,rfl,q,hl,t⟩:=r
  exact⟨a,o,vs,rfl,e _ _ q,hl,qI.mono e h ds vs t⟩
theorem qI.mono (e:qL P P')(h:α<+:α'):∀ (ds:List D) (vs:List V),qI K P α ds vs→qI K P' α' ds vs
 |[],vs,r=>by simpa only [qI] using r
 |d::ds,vs,r=>by
  simp only[qI] at r ⊢
  obtain⟨w,ws,rfl,r1,r2⟩:=r
  exact⟨w,ws,rfl,Rep.mono e h d w r1,qI.mono e h ds ws r2⟩
end
theorem qI.nil:qI K P α [] []:=by simp only[qI]
theorem qI.cons {d:D}{v:V}{ds:List D}{vs:List V}(r:Rep K P α d v)(t:qI K P α ds vs):qI K P α (d::ds) (v::vs):=by
 simp only[qI];exact⟨v,vs,rfl,r,t⟩
theorem qI.nil_inv {vs:List V}(r:qI K P α [] vs):vs=[]:=by simpa only [qI] using r
theorem qI.cons_inv {d:D}{ds:List D}{vs:List V}(r:qI K P α (d::ds) vs):∃ w ws,vs=w::ws∧Rep K P α d w∧qI K P α ds ws:=by simpa only [qI] using r
theorem qI.length:∀ {ds:List D} {vs:List V},qI K P α ds vs→ds.length=vs.length
 |[],vs,r=>by rw[r.nil_inv];rfl
 |d::ds,vs,r=>by
  obtain⟨w,ws,rfl,_,t⟩:=r.cons_inv
  rw[List.length_cons,List.length_cons,t.length]
theorem qI.append:∀ {ds es:List D} {vs ws:List V},qI K P α ds vs→qI K P α es ws→qI K P α (ds++es) (vs++ws)
 |[],es,vs,ws,r,t=>by rw[r.nil_inv];exact t
 |d::ds,es,vs,ws,r,t=>by
  obtain⟨w,us,rfl,r1,r2⟩:=r.cons_inv
  exact .cons r1 (r2.append t)
theorem qI.get:∀ {ds:List D} {vs:List V} {i:Nat} {d:D},qI K P α ds vs→ds[i]? = some d→∃ v,vs[i]? = some v∧Rep K P α d v
 |[],_,_,_,_,e=>by simp at e
 |d::ds,vs,i,d',r,e=>by
  obtain⟨w,ws,rfl,r1,r2⟩:=r.cons_inv
  cases i with
  |zero=>simp at e;subst e;exact⟨w,rfl,r1⟩
  |succ i =>
   obtain⟨v,h1,h2⟩:=r2.get (i:=i) (d:=d') (by simpa using e)
   exact⟨v,by simpa using h1,h2⟩
theorem qI.drop:∀ {ds:List D} {vs:List V} (n:Nat),qI K P α ds vs→qI K P α (ds.drop n) (vs.drop n)
 |ds,vs,0,r=>by simpa using r
 |[],vs,n+1,r=>by rw[r.nil_inv];exact .nil
 |d::ds,vs,n+1,r=>by
  obtain⟨w,ws,rfl,_,r2⟩:=r.cons_inv
  simpa using r2.drop n
theorem qI.take:∀ {ds:List D} {vs:List V} (n:Nat),qI K P α ds vs→qI K P α (ds.take n) (vs.take n)
 |ds,vs,0,r=>by simpa using qI.nil
 |[],vs,n+1,r=>by rw[r.nil_inv];exact .nil
 |d::ds,vs,n+1,r=>by
  obtain⟨w,ws,rfl,r1,r2⟩:=r.cons_inv
  simpa using qI.cons r1 (r2.take n)
theorem qI.set {d:D}{v:V}(q:Rep K P α d v):∀ {ds:List D} {vs:List V} (n:Nat),qI K P α ds vs→qI K P α (ds.set n d) (vs.set n v)
 |[],vs,n,r=>by rw[r.nil_inv];exact .nil
 |e::ds,vs,0,r=>by
  obtain⟨w,ws,rfl,r1,r2⟩:=r.cons_inv
  exact .cons q r2
 |e::ds,vs,n+1,r=>by
  obtain⟨w,ws,rfl,r1,r2⟩:=r.cons_inv
  exact .cons r1 (r2.set q n)
end
abbrev qG:=List (Option D)
def xC (K:PySem.W.Frag)(P:Hp)(α : List Addr)(σ : _L.St)(env:qG):Prop:=env.length=σ.length∧∀ (i:Nat) (d:D),env[i]? = some (some d)→∃ v,σ[i]? = some (some v)∧Rep K P α d v
def KVs (K:PySem.W.Frag)(P:Hp)(α : List Addr){κ : Type}:List (κ × D)→List (κ × V)→Prop:=Paired fun (p:κ × D) (q:κ × V)=>p.1=q.1∧Rep K P α p.2 q.2
def MOk (K:PySem.W.Frag)(H P:Hp)(α : List Addr)(a:Addr):MO→Prop
 |.dead=>True
 |.lst ds=>∃ vs,H a=some (.lst vs)∧qI K P α ds vs
 |.dct kvs=>∃ vs,H a=some (.dK vs)∧KVs K P α kvs vs
 |.ins C fs=>∃ dx vs,H a=some (.ins C dx vs)∧KVs K P α fs vs
structure Rel (K:PySem.W.Frag)(H P:Hp)(α : List Addr)(S:Sto):Prop where
 sub:qL P H
 len:α.length=S.length
 nd:α.Nodup
 sep:∀ (i:Nat) (a:Addr) (o:MO),α[i]? = some a→S[i]? = some o→o≠.dead→P a=none
 at':∀ (i:Nat) (a:Addr) (o:MO),α[i]? = some a→S[i]? = some o→MOk K H P α a o
 own:∀ (i:Nat) (a:Addr),α[i]? = some a→H a≠none
section
variable {K:PySem.W.Frag}{H P P':Hp}{α α':List Addr}{S:Sto}
theorem xC.mono {σ : _L.St}{env:qG}(e:qL P P')(h:α<+:α')(r:xC K P α σ env):xC K P' α' σ env:=
 ⟨r.1,fun i d q=>let ⟨v,h1,h2⟩:=r.2 i d q;⟨v,h1,Rep.mono e h d v h2⟩⟩
theorem KVs.mono {κ : Type}(e:qL P P')(h:α<+:α'){kvs:List (κ × D)}{vs:List (κ × V)}(r:KVs K P α kvs vs):KVs K P' α' kvs vs:=by
 refine Paired.mapP r fun p q z=>⟨z.1,Rep.mono e h _ _ z.2⟩
theorem MOk.mono {a:Addr}(e:qL P P')(h:α<+:α'):∀ {o:MO},MOk K H P α a o→MOk K H P' α' a o
 |.dead,_=>trivial
 |.lst _,⟨vs,q,r⟩=>⟨vs,q,qI.mono e h _ _ r⟩
 |.dct _,⟨vs,q,r⟩=>⟨vs,q,r.mono e h⟩
 |.ins _ _,⟨dx,vs,q,r⟩=>⟨dx,vs,q,r.mono e h⟩
theorem Rel.grow {H':Hp}(r:Rel K H P α S)(e:qL H H'):Rel K H' P α S where
 sub:=r.sub.trans e
 len:=r.len
 nd:=r.nd
 sep:=r.sep
 at':=fun i a o q1 q2=>by
  have m:=r.at' i a o q1 q2
  cases o with
  |dead=>trivial
  |lst ds=>obtain⟨vs,q,t⟩:=m;exact⟨vs,e _ _ q,t⟩
  |dct kvs=>obtain⟨vs,q,t⟩:=m;exact⟨vs,e _ _ q,t⟩
  |ins C fs=>obtain⟨dx,vs,q,t⟩:=m;exact⟨dx,vs,e _ _ q,t⟩
 own:=fun i a q=>by
  have m:=r.own i a q
  cases z:H a with
  |none=>exact absurd z m
  |some o=>rw[e _ _ z];intro w;cases w
theorem aT {H:Hp}{a:Addr}{o:HO}(h:H a=none):qL H (upd H a o):=fun b u e=>by rw[zI (xT e h)];exact e
theorem Rel.pure {a:Addr}{o:HO}(r:Rel K H P α S)(h:H a=none):Rel K (upd H a o) (upd P a o) α S∧qL P (upd P a o):=by
 have hP:P a=none:=by
  cases z:P a with
  |none=>rfl
  |some u=>rw[r.sub _ _ z] at h;cases h
 have sP:qL P (upd P a o):=aT hP
 have r1:=r.grow (aT (o:=o) h)
 refine⟨⟨fun b u e=>?_,r.len,r.nd,fun i b u q1 q2 q3=>?_,fun i b u q1 q2=>(r1.at' i b u q1 q2).mono sP (List.prefix_refl _),r1.own⟩,sP⟩
 ·by_cases hb:b=a
  ·subst hb;rw[xR] at e ⊢;exact e
  ·rw[zI hb] at e ⊢;exact r.sub _ _ e
 ·have hb:b≠a:=by rintro rfl;exact r.own i b q1 h
  rw[zI hb]
  exact r.sep i b u q1 q2 q3
theorem Rel.new {a:Addr}{o:HO}{m:MO}(r:Rel K H P α S)(h:H a=none)(hm:MOk K (upd H a o) P (α ++ [a]) a m):Rel K (upd H a o) P (α ++ [a]) (S++[m]):=by
 have hP:P a=none:=by
  cases z:P a with
  |none=>rfl
  |some u=>rw[r.sub _ _ z] at h;cases h
 have r1:=r.grow (aT (o:=o) h)
 have hp:α<+:α++[a]:=List.prefix_append _ _
 have split:∀ (i:Nat) (b:Addr),(α++[a])[i]? = some b→(i<α.length∧α[i]? = some b)∨(i=α.length∧b=a):=fun i b q=>by
  by_cases hi:i<α.length
  ·rw[List.getElem?_append_left hi] at q;exact .inl ⟨hi,q⟩
  ·rw[List.getElem?_append_right (by omega)] at q
   cases hk:i-α.length with
   |zero=>rw[hk] at q;simp at q;exact .inr ⟨by omega,q.symm⟩
   |succ k=>rw[hk] at q;simp at q
 refine⟨r1.sub,by simp[r.len],?_,fun i b u q1 q2 q3=>?_,fun i b u q1 q2=>?_,fun i b q=>?_⟩
 ·rw[List.nodup_append]
  refine⟨r.nd,by simp,fun b hb c hc e=>?_⟩
  simp at hc;subst hc;subst e
  obtain⟨i,hi,e⟩:=List.mem_iff_getElem.mp hb
  exact r.own i b (by rw[List.getElem?_eq_getElem hi,e]) h
 ·rcases split i b q1 with⟨hi,z⟩|⟨hi,rfl⟩
  ·rw[List.getElem?_append_left (by rw[← r.len];exact hi)] at q2
   exact r.sep i b u z q2 q3
  ·exact hP
 ·rcases split i b q1 with⟨hi,z⟩|⟨hi,rfl⟩
  ·rw[List.getElem?_append_left (by rw[← r.len];exact hi)] at q2
   exact(r1.at' i b u z q2).mono (qL.refl _) hp
  ·rw[hi,r.len,List.getElem?_append_right (Nat.le_refl _)] at q2
   simp at q2;subst q2
   exact hm
 ·rcases split i b q with⟨_,z⟩|⟨_,rfl⟩
  ·exact r1.own i b z
  ·rw[xR];intro z;cases z
theorem PH {N:List Addr}(hN:N.Nodup){i j:Nat}{x:Addr}(a:N[i]? = some x)(b:N[j]? = some x):i=j:=by
 obtain⟨h1,e1⟩:=List.getElem?_eq_some_iff.mp a
 obtain⟨h2,e2⟩:=List.getElem?_eq_some_iff.mp b
 exact(List.getElem_inj hN).mp (e1.trans e2.symm)
theorem Rel.put {a:Addr}{i:Nat}{o:HO}{m m':MO}(r:Rel K H P α S)(ha:α[i]? = some a)(hs:S[i]? = some m)(hd:m≠.dead)(hm:MOk K (upd H a o) P α a m'):Rel K (upd H a o) P α (S.set i m'):=by
 have hP:=r.sep i a m ha hs hd
 have hi:i<S.length:=(List.getElem?_eq_some_iff.mp hs).1
 refine⟨fun b u e=>?_,by simp[r.len],r.nd,fun j b u q1 q2 q3=>?_,fun j b u q1 q2=>?_,fun j b q=>?_⟩
 ·have hb:b≠a:=by rintro rfl;rw[hP] at e;cases e
  rw[zI hb];exact r.sub _ _ e
 ·by_cases hj:j=i
  ·subst hj;rw[ha] at q1;cases q1;exact hP
  ·rw[List.getElem?_set_ne (Ne.symm hj)] at q2;exact r.sep j b u q1 q2 q3
 ·by_cases hj:j=i
  ·subst hj;rw[ha] at q1;cases q1
   rw[List.getElem?_set_self hi] at q2;cases q2
   exact hm
  ·rw[List.getElem?_set_ne (Ne.symm hj)] at q2
   have hb:b≠a:=by rintro rfl;exact hj (PH r.nd q1 ha)
   have z:=r.at' j b u q1 q2
   cases u with
   |dead=>trivial
   |lst ds=>obtain⟨vs,q,t⟩:=z;exact⟨vs,by rw[zI hb];exact q,t⟩
   |dct kvs=>obtain⟨vs,q,t⟩:=z;exact⟨vs,by rw[zI hb];exact q,t⟩
   |ins C fs=>obtain⟨dx,vs,q,t⟩:=z;exact⟨dx,vs,by rw[zI hb];exact q,t⟩
 ·by_cases hb:b=a
  ·subst hb;rw[xR];intro z;cases z
  ·rw[zI hb];exact r.own j b q
end
theorem nn {β : Type}{a:β}{p:Prop}(h:(none:Option β) = some a):p:=by cases h
theorem dD {β : Type}{c:Prop}[Decidable c]{a b:β}(h:(if c then some a else none)=some b):c∧a=b:=by
 by_cases z:c
 ·rw[if_pos z] at h;exact⟨z,Option.some.inj h⟩
 ·rw[if_neg z] at h;exact nn h
end _D
end
section
namespace _D
open PySem PySem.Spec PyProof.Rows _L
abbrev DE:=qG→Sto→Res D
abbrev DT:=qG→Sto→Res Bool
abbrev DA:=qG→Sto→Res (List D)
inductive Out where
 |nx (env:qG) (S:Sto)|rt (d:D) (S:Sto)|bk (env:qG) (S:Sto)|ct (env:qG) (S:Sto)|ex (c:Value) (x:D) (env:qG) (S:Sto)|bad
abbrev DS:=qG→Sto→Out
def Old (X:Cx)(pins:List (Addr × Obj))(H:Hp)(b:Addr):Prop:=
 (∃ o,X.s₀.heap.get? b=some o)∨H b≠none∨(∃ p∈X.pn++pins,p.1=b)∨∃ x,X.env.cells.lookup x=some b
def Cv (X:Cx)(pins:List (Addr × Obj))(H:Hp)(B h:Heap):Prop:=∀ b o,h.get? b=some o→Old X pins H b→b ∉ frs X.stack→B.get? b=some o
inductive FlyX (X:Cx)(pins:List (Addr × Obj))(H:Hp)(c:Value)(e:Addr)(h:Heap):Prop where
 |new (g:Heap) (args:List Value):Heap.MadeExcOf g h e c args→g.FunFrames X.base X.stack→(∀ b o,h.get? b=some o→Old X pins H b→g.get? b=some o)→FlyX X pins H c e h
 |fly (B:Heap) (a0:Value):Heap.FlyingW B X.stack e c a0 h→Cv X pins H B h→FlyX X pins H c e h
inductive XOk (X:Cx)(P:Hp)(α : List Addr)(c:Value)(x:D)(S:Sto)(u:Value)(s:Shared):Prop
 |mk (e:Addr) (pins:List (Addr × Obj)) (σ : _L.St) (H:Hp) (P':Hp) (α' : List Addr) (e1:u=.ref e) (I:Inv X pins σ H s) (r:Rel X.K H P' α' S) (q1:qL P P') (q2:α<+:α') (q3:X.ex=[]∧X.stack=X.env::X.outer∧X.env.frame=some X.env.locals) (q4:FlyX X pins H c e s.heap):XOk X P α c x S u s
theorem XOk.base {X:Cx}{P P1:Hp}{α α1:List Addr}{c:Value}{x:D}{S:Sto}{u:Value}{s:Shared}(e:qL P P1)(h:α<+:α1)(k:XOk X P1 α1 c x S u s):XOk X P α c x S u s:=by
 obtain⟨a,pins,σ,H,P',α',e1,I,r,q1,q2,q3,q4⟩:=k
 exact⟨a,pins,σ,H,P',α',e1,I,r,e.trans q1,h.trans q2,q3,q4⟩
section
variable (X:Cx)
def qN {β : Type}(P:Hp)(α : List Addr)(r:Res β)(Ok:β→Sto→Prop):Prop:=
 match r with
 |.ok d S'=>Ok d S'
 |.ex c x S'=>∀ u s',XOk X P α c x S' u s'→X.xe u s'
 |.bad=>False
def OkV (P:Hp)(α : List Addr)(Q:VK)(d:D)(S':Sto):Prop:=∀ v H' P' α',Rel X.K H' P' α' S'→qL P P'→α<+:α'→Rep X.K P' α' d v→Q v H'
def OkT (P:Hp)(α : List Addr)(Q:Bool→Hp→Prop)(b:Bool)(S':Sto):Prop:=∀ H' P' α',Rel X.K H' P' α' S'→qL P P'→α<+:α'→Q b H'
def OkA (P:Hp)(α : List Addr)(Q:List V→Hp→Prop)(ds:List D)(S':Sto):Prop:=∀ vs H' P' α',Rel X.K H' P' α' S'→qL P P'→α<+:α'→qI X.K P' α' ds vs→Q vs H'
abbrev x8 (P:Hp)(α : List Addr)(r:Res D)(Q:VK):Prop:=qN X P α r (OkV X P α Q)
abbrev gF (P:Hp)(α : List Addr)(r:Res Bool)(Q:Bool→Hp→Prop):Prop:=qN X P α r (OkT X P α Q)
abbrev sS (P:Hp)(α : List Addr)(r:Res (List D))(Q:List V→Hp→Prop):Prop:=qN X P α r (OkA X P α Q)
def xL (P:Hp)(α : List Addr)(r:Out)(D:Ends):Prop:=
 match r with
 |.nx env' S'=>∀ σ' H' P' α',Rel X.K H' P' α' S'→xC X.K P' α' σ' env'→qL P P'→α<+:α'→D.nx σ' H'
 |.bk env' S'=>∀ σ' H' P' α',Rel X.K H' P' α' S'→xC X.K P' α' σ' env'→qL P P'→α<+:α'→D.bk σ' H'
 |.ct env' S'=>∀ σ' H' P' α',Rel X.K H' P' α' S'→xC X.K P' α' σ' env'→qL P P'→α<+:α'→D.ct σ' H'
 |.rt d S'=>∀ v H' P' α',Rel X.K H' P' α' S'→qL P P'→α<+:α'→Rep X.K P' α' d v→D.rt v H'
 |.ex c x _ S'=>∀ u s',XOk X P α c x S' u s'→X.xe u s'
 |.bad=>False
inductive tD (f:DE)(σ : _L.St)(H:Hp)(Q:VK):Prop
 |mk (P:Hp) (α : List Addr) (env:qG) (S:Sto) (r:Rel X.K H P α S) (re:xC X.K P α σ env) (af:x8 X P α (f env S) Q):tD f σ H Q
inductive tDT (f:DT)(σ : _L.St)(H:Hp)(Q:Bool→Hp→Prop):Prop
 |mk (P:Hp) (α : List Addr) (env:qG) (S:Sto) (r:Rel X.K H P α S) (re:xC X.K P α σ env) (af:gF X P α (f env S) Q):tDT f σ H Q
inductive tDA (f:DA)(σ : _L.St)(H:Hp)(Q:List V→Hp→Prop):Prop
 |mk (P:Hp) (α : List Addr) (env:qG) (S:Sto) (r:Rel X.K H P α S) (re:xC X.K P α σ env) (af:sS X P α (f env S) Q):tDA f σ H Q
inductive tDS (f:DS)(D:Ends)(σ : _L.St)(H:Hp):Prop
 |mk (P:Hp) (α : List Addr) (env:qG) (S:Sto) (r:Rel X.K H P α S) (re:xC X.K P α σ env) (af:xL X P α (f env S) D):tDS f D σ H
end
section
variable {X:Cx}{P P1:Hp}{α α1:List Addr}
theorem x8.base {r:Res D}{Q:VK}(e:qL P P1)(h:α<+:α1)(k:x8 X P α r Q):x8 X P1 α1 r Q:=by
 cases r with
 |ok d S=>exact fun v H' P' α' r q1 q2 q3=>k v H' P' α' r (e.trans q1) (h.trans q2) q3
 |ex c x S=>exact fun u s' q=>k u s' (q.base e h)
 |bad=>exact k
theorem gF.base {r:Res Bool}{Q:Bool→Hp→Prop}(e:qL P P1)(h:α<+:α1)(k:gF X P α r Q):gF X P1 α1 r Q:=by
 cases r with
 |ok d S=>exact fun H' P' α' r q1 q2=>k H' P' α' r (e.trans q1) (h.trans q2)
 |ex c x S=>exact fun u s' q=>k u s' (q.base e h)
 |bad=>exact k
theorem sS.base {r:Res (List D)}{Q:List V→Hp→Prop}(e:qL P P1)(h:α<+:α1)(k:sS X P α r Q):sS X P1 α1 r Q:=by
 cases r with
 |ok d S=>exact fun v H' P' α' r q1 q2 q3=>k v H' P' α' r (e.trans q1) (h.trans q2) q3
 |ex c x S=>exact fun u s' q=>k u s' (q.base e h)
 |bad=>exact k
theorem xL.base {r:Out}{D:Ends}(e:qL P P1)(h:α<+:α1)(k:xL X P α r D):xL X P1 α1 r D:=by
 cases r with
 |nx env S=>exact fun v H' P' α' r q0 q1 q2=>k v H' P' α' r q0 (e.trans q1) (h.trans q2)
 |bk env S=>exact fun v H' P' α' r q0 q1 q2=>k v H' P' α' r q0 (e.trans q1) (h.trans q2)
 |ct env S=>exact fun v H' P' α' r q0 q1 q2=>k v H' P' α' r q0 (e.trans q1) (h.trans q2)
 |rt d S=>exact fun v H' P' α' r q1 q2 q3=>k v H' P' α' r (e.trans q1) (h.trans q2) q3
 |ex c x env S=>exact fun u s' q=>k u s' (q.base e h)
 |bad=>exact k
theorem xr {Q:VK}{v:V}{H:Hp}{d:D}{S:Sto}(k:OkV X P α Q d S)(r:Rel X.K H P α S)(q:Rep X.K P α d v):Q v H:=k v H P α r (qL.refl _) (List.prefix_refl _) q
end
section
variable {X:Cx}{a b e:Expr}{pos:Pos}
theorem peW {t t':TE}(h:PE X e t)(w:∀ σ H Q,t' σ H Q→t σ H Q):PE X e t':=fun pins s σ H Q I q=>h pins s σ H Q I (w σ H Q q)
theorem psW {st:Stmt}{t t':TS}(h:PS X st t)(w:∀ D σ H,t' D σ H→t D σ H):PS X st t':=fun pins s σ H D I q=>h pins s σ H D I (w D σ H q)
theorem ED {st:List Stmt}{t t':TS}(h:PSs X st t)(w:∀ D σ H,t' D σ H→t D σ H):PSs X st t':=fun pins s σ H D I q=>h pins s σ H D I (w D σ H q)
theorem paW {es:List Expr}{t t':TA}(h:PA X es t)(w:∀ σ H Q,t' σ H Q→t σ H Q):PA X es t':=fun pos pins s σ H Q I q=>h pos pins s σ H Q I (w σ H Q q)
structure Got (X:Cx)(pins:List (Addr × Obj))(σ : _L.St)(env:qG)(P:Hp)(α : List Addr)(u:Value)(s1:Shared)(v:V)(H1 P1:Hp)(α1:List Addr)(d:D)(S1:Sto):Prop where
 inv:Inv X pins σ H1 s1
 val:qO v u
 rel:Rel X.K H1 P1 α1 S1
 env:xC X.K P1 α1 σ env
 rep:Rep X.K P1 α1 d v
 same:qL P P1
 pre:α<+:α1
inductive GotG (X:Cx)(pins:List (Addr × Obj))(σ : _L.St)(env:qG)(P:Hp)(α : List Addr)(u:Value)(s1:Shared){γ : Type}(g:D→Sto→Res γ)(Ok:γ→Sto→Prop):Prop
 |mk (v:V) (H1 P1:Hp) (α1:List Addr) (d:D) (S1:Sto) (G:Got X pins σ env P α u s1 v H1 P1 α1 d S1) (q:qN X P α (g d S1) Ok):GotG X pins σ env P α u s1 g Ok
inductive GotAG (X:Cx)(pins:List (Addr × Obj))(σ : _L.St)(env:qG)(P:Hp)(α : List Addr)(us:List Value)(s1:Shared){γ : Type}(g:List D→Sto→Res γ)(Ok:γ→Sto→Prop):Prop
 |mk (vs:List V) (H1 P1:Hp) (α1:List Addr) (ds:List D) (S1:Sto) (I:Inv X pins σ H1 s1) (rv:qQ vs us) (r:Rel X.K H1 P1 α1 S1) (re:xC X.K P1 α1 σ env) (rp:qI X.K P1 α1 ds vs) (e1:qL P P1) (e2:α<+:α1) (q:qN X P α (g ds S1) Ok):GotAG X pins σ env P α us s1 g Ok
inductive GotT (X:Cx)(pins:List (Addr × Obj))(σ : _L.St)(env:qG)(P:Hp)(α : List Addr)(b:Bool)(s1:Shared){γ : Type}(g:Bool→Sto→Res γ)(Ok:γ→Sto→Prop):Prop
 |mk (H1 P1:Hp) (α1:List Addr) (S1:Sto) (I:Inv X pins σ H1 s1) (r:Rel X.K H1 P1 α1 S1) (re:xC X.K P1 α1 σ env) (e1:qL P P1) (e2:α<+:α1) (q:qN X P α (g b S1) Ok):GotT X pins σ env P α b s1 g Ok
theorem wS {γ : Type}{f:DE}{g:D→Sto→Res γ}{Ok:γ→Sto→Prop}{pins:List (Addr × Obj)}{s:Shared}{σ : _L.St}{H P:Hp}{α : List Addr}{env:qG}{S:Sto}(he:PE X e (tD X f))(I:Inv X pins σ H s)(r:Rel X.K H P α S)
  (re:xC X.K P α σ env) (af:qN X P α ((f env S).bind g) Ok) :
  wpAny (model X.prog X.w) X.A (eval e X.env) (fun u s1=>GotG X pins σ env P α u s1 g Ok) X.xe s:=by
 refine thn (he pins s σ H (fun v H1=>∃ P1 α1 d S1,Rel X.K H1 P1 α1 S1∧xC X.K P1 α1 σ env∧Rep X.K P1 α1 d v∧qL P P1∧α<+:α1∧qN X P α (g d S1) Ok) I ⟨P,α,env,S,r,re,?_⟩) fun u s1 ⟨v,H1,I1,rv,P1,α1,d,S1,q1,q2,q3,q4,q5,q6⟩=>⟨v,H1,P1,α1,d,S1,⟨I1,rv,q1,q2,q3,q4,q5⟩,q6⟩
 cases q:f env S with
 |bad=>rw[q] at af;exact af
 |ex c x S'=>rw[q] at af;exact af
 |ok d S' =>
  rw[q] at af
  exact fun v H' P' α' r' e1 e2 rp=>⟨P',α',d,S',r',re.mono e1 e2,rp,e1,e2,af⟩
theorem mH {γ : Type}{es:List Expr}{f:DA}{g:List D→Sto→Res γ}{Ok:γ→Sto→Prop}{pins:List (Addr × Obj)}{s:Shared}{σ : _L.St}{H P:Hp}{α : List Addr}{env:qG}{S:Sto}(he:PA X es (tDA X f))(I:Inv X pins σ H s)(r:Rel X.K H P α S)
  (re:xC X.K P α σ env) (af:qN X P α ((f env S).bind g) Ok) (pos:Pos) :
  wpAny (model X.prog X.w) X.A (spliced (backTo pos (starEach es X.env))) (fun us s1=>GotAG X pins σ env P α us s1 g Ok) X.xe s:=by
 refine thn (he pos pins s σ H (fun vs H1=>∃ P1 α1 ds S1,Rel X.K H1 P1 α1 S1∧xC X.K P1 α1 σ env∧qI X.K P1 α1 ds vs∧qL P P1∧α<+:α1∧qN X P α (g ds S1) Ok) I ⟨P,α,env,S,r,re,?_⟩) fun u s1 ⟨v,H1,I1,rv,P1,α1,d,S1,q1,q2,q3,q4,q5,q6⟩=>⟨v,H1,P1,α1,d,S1,I1,rv,q1,q2,q3,q4,q5,q6⟩
 cases q:f env S with
 |bad=>rw[q] at af;exact af
 |ex c x S'=>rw[q] at af;exact af
 |ok d S' =>
  rw[q] at af
  exact fun v H' P' α' r' e1 e2 rp=>⟨P',α',d,S',r',re.mono e1 e2,rp,e1,e2,af⟩
theorem aZ {γ : Type}{f:DT}{g:Bool→Sto→Res γ}{Ok:γ→Sto→Prop}{pins:List (Addr × Obj)}{s:Shared}{σ : _L.St}{H P:Hp}{α : List Addr}{env:qG}{S:Sto}{m:Sem Bool}
  (he:∀ (Q:Bool→Hp→Prop),tDT X f σ H Q→wpAny (model X.prog X.w) X.A m (TP X pins σ Q) X.xe s) (r:Rel X.K H P α S) (re:xC X.K P α σ env) (af:qN X P α ((f env S).bind g) Ok) :
  wpAny (model X.prog X.w) X.A m (fun b s1=>GotT X pins σ env P α b s1 g Ok) X.xe s:=by
 refine thn (he (fun b H1=>∃ P1 α1 S1,Rel X.K H1 P1 α1 S1∧xC X.K P1 α1 σ env∧qL P P1∧α<+:α1∧qN X P α (g b S1) Ok) ⟨P,α,env,S,r,re,?_⟩) fun b s1 ⟨H1,I1,P1,α1,S1,q1,q2,q4,q5,q6⟩=>⟨H1,P1,α1,S1,I1,q1,q2,q4,q5,q6⟩
 cases q:f env S with
 |bad=>rw[q] at af;exact af
 |ex c x S'=>rw[q] at af;exact af
 |ok d S' =>
  rw[q] at af
  exact fun H' P' α' r' e1 e2=>⟨P',α',S',r',re.mono e1 e2,e1,e2,af⟩
def dC (d:D):DE:=fun _ S=>.ok d S
def qB (i:Nat):DE:=fun env S=>match env[i]? with
 |some (some d)=>.ok d S
 |_=>.bad
theorem DY {i j}:PE X (.Constant (.int i) j pos) (tD X (dC (.int i))):=peW E1 fun σ H Q ⟨P,α,env,S,r,re,af⟩=>xr af r (by simp only[Rep])
theorem H8 {i j}:PE X (.Constant (.bool i) j pos) (tD X (dC (.bl i))):=peW C9 fun σ H Q ⟨P,α,env,S,r,re,af⟩=>xr af r (by simp only[Rep])
theorem SA {i j}:PE X (.Constant (.str i) j pos) (tD X (dC (.str i))):=peW E5 fun σ H Q ⟨P,α,env,S,r,re,af⟩=>xr af r (by simp only[Rep])
theorem S7 {j}:PE X (.Constant .none j pos) (tD X (dC .non)):=peW E2 fun σ H Q ⟨P,α,env,S,r,re,af⟩=>xr af r (by simp only[Rep])
set_option tactic.hygienic true in
theorem LU {i:Nat}{σ : _L.St}{H:Hp}{Q:VK}(h:tD X (qB i) σ H Q):EQ i σ H Q:=by
 obtain⟨P,α,env,S,r,re,af⟩:=h
 unfold qB at af
 split at af
 ·rename_i d q
  obtain⟨v,h1,h2⟩:=re.2 i d q
  exact⟨v,h1,xr af r h2⟩
 ·exact False.elim af
theorem dv (i:Nat){x:Str}(hN:X.N[i]? = some x:=by rfl)(hv:Vis X.env.scope x:=by first|exact Or.inl rfl|exact Or.inr (Or.inl rfl)|exact Or.inr (Or.inr rfl))(hd:(x == ("__debug__" : Str))=false:=by decide)
  (hcd:(x == ("__classdict__" : Str))=false:=by decide):PE X (.Name x pos) (tD X (qB i)):=peW (E7 hN hv hd hcd) fun σ H Q h=>LU h
theorem TY {x:Str}{d:D}{v:V}{u:Value}(hg:Gl X x)(hm:X.mg x=some u)(r:qO v u)(q:∀ P α,Rep X.K P α d v)(hd:(x == ("__debug__" : Str))=false:=by decide):PE X (.Name x pos) (tD X (dC d)):=
 peW (LD hg hm r hd) fun σ H Q ⟨P,α,env,S,r,re,af⟩=>xr af r (q _ _)
theorem TV {x:Str}{n:String}(hg:Gl X x)(hm:X.mg x=none)(hv:bootBuiltins x=some (.type n))(hn:x ≠ "__name__":=by decide)(hd:(x == ("__debug__" : Str))=false:=by decide):PE X (.Name x pos) (tD X (dC (.ty n))):=
 peW (LC (v:=.ty n) hg hm hv rfl hn hd) fun σ H Q ⟨P,α,env,S,r,re,af⟩=>xr af r (by simp only[Rep])
abbrev G2:=D→D→Sto→Res D
def OpD (X:Cx)(f:Value→Value→Sem Value)(g:G2):Prop:=
 ∀ (pins:List (Addr × Obj)) (σ : _L.St) (H:Hp) (s:Shared) (P:Hp) (α : List Addr) (S:Sto) (v u:V) (vv uu:Value) (a b:D) (Q:VK),Inv X pins σ H s→Rel X.K H P α S→qO v vv→qO u uu→Rep X.K P α a v→Rep X.K P α b u→x8 X P α (g a b S) Q →
  wpAny (model X.prog X.w) X.A (f vv uu) (EP X pins σ Q) X.xe s
theorem OpD.of {f:Value→Value→Sem Value}{r:R2}{g:G2}(h:OpR X f r)(w:∀ H P α S v u a b Q,Rel X.K H P α S→Rep X.K P α a v→Rep X.K P α b u→x8 X P α (g a b S) Q→r v u H Q):OpD X f g:=
 fun pins σ H s P α S v u vv uu a b Q I rl r1 r2 p1 p2 af=>h pins s σ H v u vv uu Q I r1 r2 (w H P α S v u a b Q rl p1 p2 af)
def UnD (X:Cx)(f:Value→Sem Value)(g:D→Sto→Res D):Prop:=
 ∀ (pins:List (Addr × Obj)) (σ : _L.St) (H:Hp) (s:Shared) (P:Hp) (α : List Addr) (S:Sto) (v:V) (vv:Value) (a:D) (Q:VK),Inv X pins σ H s→Rel X.K H P α S→qO v vv→Rep X.K P α a v→x8 X P α (g a S) Q →
  wpAny (model X.prog X.w) X.A (f vv) (EP X pins σ Q) X.xe s
def IxD (X:Cx)(g:G2):Prop:=
 ∀ (value slice:Expr) (pins:List (Addr × Obj)) (σ : _L.St) (H:Hp) (s:Shared) (P:Hp) (α : List Addr) (S:Sto) (v u:V) (vv uu:Value) (a b:D) (Q:VK),Inv X pins σ H s→Rel X.K H P α S→qO v vv→qO u uu→Rep X.K P α a v→Rep X.K P α b u→x8 X P α (g a b S) Q →
  subscripted slice false vv uu=operate [vv,uu] (getItem vv uu)→wpAny (model X.prog X.w) X.A (subscriptTail value slice vv uu) (EP X pins σ Q) X.xe s
def kL (X:Cx)(f:Value)(g:List D→Sto→Res D):Prop:=
 ∀ (pins:List (Addr × Obj)) (σ : _L.St) (H:Hp) (s:Shared) (P:Hp) (α : List Addr) (S:Sto) (vs:List V) (us:List Value) (ds:List D) (Q:VK),Inv X pins σ H s→Rel X.K H P α S→qQ vs us→qI X.K P α ds vs→x8 X P α (g ds S) Q →
  wpAny (model X.prog X.w) X.A (call f us) (EP X pins σ Q) X.xe s
def d2 (g:G2)(fa fb:DE):DE:=fun env S=>(fa env S).bind fun x S1=>(fb env S1).bind fun y S2=>g x y S2
def d1 (g:D→Sto→Res D)(fa:DE):DE:=fun env S=>(fa env S).bind g
variable {fa fb:DE}
theorem WK {g:G2}{f:Value→Value→Sem Value}{pins:List (Addr × Obj)}{s:Shared}{σ : _L.St}{H:Hp}{Q:VK}(ho:OpD X f g)(ha:PE X a (tD X fa))(hb:PE X b (tD X fb))(I:Inv X pins σ H s)(h:tD X (d2 g fa fb) σ H Q) :
  wpAny (model X.prog X.w) X.A (eval a X.env) (fun v s₁=>wpAny (model X.prog X.w) X.A (eval b X.env) (fun u s₂=>wpAny (model X.prog X.w) X.A (f v u) (EP X pins σ Q) X.xe s₂) X.xe s₁) X.xe s:=by
 obtain⟨P,α,env,S,r,re,af⟩:=h
 refine thn (wS ha I r re af) fun vv s1 ⟨v,H1,P1,α1,d,S1,G1,af1⟩=>?_
 refine thn (wS hb G1.inv G1.rel G1.env (P:=P1) (α:=α1) (Ok:=OkV X P1 α1 Q) (g:=fun y S2=>g d y S2) ?_) fun uu s2 ⟨u,H2,P2,α2,d',S2,G2,af2⟩=>?_
 ·exact x8.base G1.same G1.pre af1
 ·exact ho pins σ H2 s2 P2 α2 S2 v u vv uu d d' Q G2.inv G2.rel G1.val G2.val (Rep.mono G2.same G2.pre _ _ G1.rep) G2.rep (x8.base G2.same G2.pre af2)
theorem HB {op:Operator}{g:G2}(ho:OpD X (binaryOp op) g)(ha:PE X a (tD X fa))(hb:PE X b (tD X fb)):PE X (.BinOp a op b pos) (tD X (d2 g fa fb)):=
 fun pins s σ H Q I h=>wpAny_BinOp (WK ho ha hb I h)
theorem DX {op:CmpOp}{g:G2}(ho:OpD X (compareOp op) g)(ha:PE X a (tD X fa))(hb:PE X b (tD X fb))(hm:behindInMarks op b=false:=by first|exact iY _|with_unfolding_all rfl):PE X (.Compare a [op] [b] pos) (tD X (d2 g fa fb)):=
 fun pins s σ H Q I h=>wpAny_Compare1 (WK ho ha hb I h) hm
theorem HC {op:UnaryOp}{g:D→Sto→Res D}(ho:UnD X (unaryOp op) g)(ha:PE X a (tD X fa)):PE X (.UnaryOp op a pos) (tD X (d1 g fa)):=by
 intro pins s σ H Q I h
 obtain⟨P,α,env,S,r,re,af⟩:=h
 exact UnaryOp_ (thn (wS ha I r re af) fun vv s1 ⟨v,H1,P1,α1,d,S1,G1,af1⟩=>ho pins σ H1 s1 P1 α1 S1 v vv d Q G1.inv G1.rel G1.val G1.rep (x8.base G1.same G1.pre af1))
theorem HA {g:G2}(ho:IxD X g)(ha:PE X a (tD X fa))(hb:PE X b (tD X fb))(hs:oJ b:=by intro _ _;rfl):PE X (.Subscript a b pos) (tD X (d2 g fa fb)):=by
 intro pins s σ H Q I h
 obtain⟨P,α,env,S,r,re,af⟩:=h
 have IxR':IxR X (fun x y H Q=>∃ P α S a b,Rel X.K H P α S∧Rep X.K P α a x∧Rep X.K P α b y∧x8 X P α (g a b S) Q):=fun value slice pins s σ H x y v u Q I rx ry ⟨P,α,S,a,b,r,p1,p2,af⟩ hsl =>
  ho value slice pins σ H s P α S x y v u a b Q I r rx ry p1 p2 af hsl
 refine peW (CA IxR' ha hb hs) (t':=tD X (d2 g fa fb)) (fun σ H Q h=>?_) pins s σ H Q I ⟨P,α,env,S,r,re,af⟩
 obtain⟨P,α,env,S,r,re,af⟩:=h
 refine⟨P,α,env,S,r,re,?_⟩
 unfold d2 at af
 cases q:fa env S with
 |bad=>rw[q] at af;exact af
 |ex c x S'=>rw[q] at af;exact af
 |ok d S1 =>
  rw[q] at af
  intro v H1 P1 α1 r1 e1 e2 rp
  refine⟨P1,α1,env,S1,r1,re.mono e1 e2,?_⟩
  have af':x8 X P α ((fb env S1).bind fun y S2=>g d y S2) Q:=af
  cases q2:fb env S1 with
  |bad=>rw[q2] at af';exact af'
  |ex c x S'=>rw[q2] at af';exact fun u s' z=>af' u s' (z.base e1 e2)
  |ok d' S2 =>
   rw[q2] at af'
   intro u H2 P2 α2 r2 e3 e4 rp2
   exact⟨P2,α2,S2,d,d',r2,Rep.mono e3 e4 _ _ rp,rp2,x8.base (e1.trans e3) (e2.trans e4) af'⟩
def qC:DA:=fun _ S=>.ok [] S
def q8 (f:DE)(g:DA):DA:=fun env S=>(f env S).bind fun x S1=>(g env S1).bind fun xs S2=>.ok (x::xs) S2
theorem DU:PA X [] (tDA X qC):=paW E0 fun σ H Q ⟨P,α,env,S,r,re,af⟩=>af [] H P α r (qL.refl _) (List.prefix_refl _) .nil
theorem TR {es:List Expr}{g:DA}(ha:PE X e (tD X fa))(hr:PA X es (tDA X g))(hs:starEach (e::es) X.env=(false,eval e X.env)::starEach es X.env:=by rfl):PA X (e::es) (tDA X (q8 fa g)):=by
 intro pos pins s σ H Q I h
 obtain⟨P,α,env,S,r,re,af⟩:=h
 rw[hs]
 show wpAny _ _ (spliced ((false,eval e X.env)::backTo pos (starEach es X.env))) _ _ s
 refine Calls.spliced_cons (thn (wS ha I r re af) fun u s1 ⟨x,H1,P1,α1,d,S1,G1,af1⟩=>?_)
 refine thn (mH hr G1.inv G1.rel G1.env (P:=P1) (α:=α1) (Ok:=OkA X P1 α1 Q) (sS.base G1.same G1.pre af1) pos) fun us s2 ⟨xs,H2,P2,α2,ds,S2,I2,rv,r2,re2,rp2,e1,e2,af2⟩=>?_
 exact⟨x::xs,H2,I2,.cons G1.val rv,af2 _ _ _ _ r2 e1 e2 (.cons (Rep.mono e1 e2 _ _ G1.rep) rp2)⟩
def lim:Nat:=16777216
theorem vL:lim=sizeLine:=sizeLine_eq.symm
def qV (f:DA):DE:=fun env S=>(f env S).bind fun xs S1=>if xs.length≤lim then .ok (.tup xs) S1 else .bad
def xX (f:DA):DE:=fun env S=>(f env S).bind fun xs S1=>if xs.length≤lim then .ok (.lst xs) S1 else .bad
def JU (f:DA):DE:=fun env S=>(f env S).bind fun xs S1=>if xs.length≤lim then .ok (.loc S1.length) (S1++[.lst xs]) else .bad
theorem J9 {K:PySem.W.Frag}{P:Hp}{α : List Addr}{a:Addr}{ds:List D}{vs:List V}(h:SqT K P a vs)(r:qI K P α ds vs):Rep K P α (.tup ds) (.ref a):=by simp only[Rep];exact⟨a,vs,rfl,h,r⟩
theorem h9 {K:PySem.W.Frag}{P:Hp}{α : List Addr}{a:Addr}{ds:List D}{vs:List V}(h:SqX K P a vs)(r:qI K P α ds vs):Rep K P α (.lst ds) (.ref a):=by simp only[Rep];exact⟨a,vs,rfl,h,r⟩
theorem dH {H P:Hp}{α : List Addr}{S:Sto}{p:Addr}{ds:List D}{vs:List V}{Q:VK}(r:Rel X.K H P α S)(hp:H p=none)(rp:qI X.K P α ds vs)(af:OkV X P α Q (.tup ds) S):Q (.ref p) (upd H p (.tup vs)):=by
 obtain⟨r1,e1⟩:=r.pure (o:=.tup vs) hp
 exact af _ _ _ α r1 e1 (List.prefix_refl _) (J9 (.of xR) (qI.mono e1 (List.prefix_refl _) _ _ rp))
theorem kX {H P:Hp}{α : List Addr}{S:Sto}{p:Addr}{ds:List D}{vs:List V}{Q:VK}(r:Rel X.K H P α S)(hp:H p=none)(rp:qI X.K P α ds vs)(af:OkV X P α Q (.lst ds) S):Q (.ref p) (upd H p (.lst vs)):=by
 obtain⟨r1,e1⟩:=r.pure (o:=.lst vs) hp
 exact af _ _ _ α r1 e1 (List.prefix_refl _) (h9 (.inl (.inl xR)) (qI.mono e1 (List.prefix_refl _) _ _ rp))
theorem UZ {H P:Hp}{α : List Addr}{S:Sto}{p:Addr}{ds:List D}{vs:List V}{Q:VK}(r:Rel X.K H P α S)(hp:H p=none)(rp:qI X.K P α ds vs)(af:OkV X P α Q (.loc S.length) (S++[.lst ds])):Q (.ref p) (upd H p (.lst vs)):=by
 have hpre:α<+:α++[p]:=List.prefix_append _ _
 have r1:=r.new (o:=.lst vs) (m:=.lst ds) hp ⟨vs,xR,qI.mono (qL.refl _) hpre _ _ rp⟩
 refine af _ _ _ _ r1 (qL.refl _) hpre ?_
 simp only[Rep]
 exact⟨p,rfl,by rw[← r.len];simp⟩
theorem oV {f:DA}{σ : _L.St}{H:Hp}{Q:VK}{G:List D→Sto→Res D}{mk:List V→HO}(h:tD X (fun env S=>(f env S).bind fun xs S1=>if xs.length≤lim then G xs S1 else .bad) σ H Q)
  (k:∀ H1 P1 α1 S1 ds vs p,Rel X.K H1 P1 α1 S1→H1 p=none→qI X.K P1 α1 ds vs→x8 X P1 α1 (G ds S1) Q→Q (.ref p) (upd H1 p (mk vs))) :
  tDA X f σ H fun vs H1=>vs.length≤sizeLine∧∀ p,H1 p=none→Q (.ref p) (upd H1 p (mk vs)):=by
 obtain⟨P,α,env,S,r,re,af⟩:=h
 refine⟨P,α,env,S,r,re,?_⟩
 have af':x8 X P α ((f env S).bind fun xs S1=>if xs.length≤lim then G xs S1 else .bad) Q:=af
 cases q:f env S with
 |bad=>rw[q] at af';exact af'
 |ex c x S'=>rw[q] at af';exact af'
 |ok ds S1 =>
  rw[q] at af'
  intro vs H1 P1 α1 r1 e1 e2 rp
  have af2:x8 X P α (if ds.length≤lim then G ds S1 else .bad) Q:=af'
  by_cases hl:ds.length≤lim
  ·rw[if_pos hl] at af2
   exact⟨by rw[← rp.length,← vL];exact hl,fun p hp=>k H1 P1 α1 S1 ds vs p r1 hp rp (x8.base e1 e2 af2)⟩
  ·rw[if_neg hl] at af2;exact False.elim af2
theorem SB {es:List Expr}{f:DA} {x1} (h:PA X es (tDA X f)):PE X (.Tuple es x1 pos) (tD X (qV f)):=
 peW (E6 h) fun σ H Q q=>oV (G:=fun xs S1=>.ok (.tup xs) S1) (mk:=.tup) q fun H1 P1 α1 S1 ds vs p r hp rp af=>dH r hp rp af
theorem DZ {es:List Expr}{f:DA}(h:PA X es (tDA X f)):PE X (.List es pos) (tD X (xX f)):=
 peW (PM h) fun σ H Q q=>oV (G:=fun xs S1=>.ok (.lst xs) S1) (mk:=.lst) q fun H1 P1 α1 S1 ds vs p r hp rp af=>kX r hp rp af
theorem TZ {es:List Expr}{f:DA}(h:PA X es (tDA X f)):PE X (.List es pos) (tD X (JU f)):=
 peW (PM h) fun σ H Q q=>oV (G:=fun xs S1=>.ok (.loc S1.length) (S1++[MO.lst xs])) (mk:=.lst) q fun H1 P1 α1 S1 ds vs p r hp rp af=>UZ r hp rp af
end
end _D
end
section
namespace _D
open PySem PySem.Spec PyProof.Rows _L
section
variable {X:Cx}{a b c e:Expr}{pos:Pos}{fa fb fc:DE}{ta tb:DT}
def yF:D→Sto→Option Bool
 |.non,_=>some false
 |.bl b,_=>some b
 |.int i,_=>some (i != 0)
 |.str x,_=>if x.length≤lim then some ((x.length:Int) != 0) else none
 |.tup xs,_=>some (!xs.isEmpty)
 |.lst xs,_=>some (!xs.isEmpty)
 |.dct0,_=>some false
 |.loc i,S=>match S[i]? with
  |some (.lst xs)=>some (!xs.isEmpty)
  |some (.dct kvs)=>some (!kvs.isEmpty)
  |_=>none
 |_,_=>none
theorem qI.isEmpty {K:PySem.W.Frag}{P:Hp}{α : List Addr}{ds:List D}{vs:List V}(r:qI K P α ds vs):(!ds.isEmpty)=!vs.isEmpty:=by
 cases ds with
 |nil=>rw[r.nil_inv];rfl
 |cons d ds=>obtain⟨w,ws,rfl,_,_⟩:=r.cons_inv;rfl
theorem vI {K:PySem.W.Frag}{H P:Hp}(e:qL P H){a:Addr}{xs:List V}(h:SqT K P a xs):SqT K H a xs:=pO e h
theorem fY {H P:Hp}{α : List Addr}{S:Sto}{v:V}{d:D}{k:Bool}(r:Rel X.K H P α S)(p:Rep X.K P α d v)(h:yF d S=some k):JL X.K v H k:=by
 cases d with
 |non=>simp only[Rep] at p;subst p;cases h;rfl
 |bl b=>simp only[Rep] at p;subst p;cases h;rfl
 |int i=>simp only[Rep] at p;subst p;cases h;rfl
 |str x =>
  simp only[Rep] at p;subst p
  obtain⟨hl,rfl⟩:=dD h
  exact⟨by rw[← vL];exact hl,rfl⟩
 |tup xs =>
  simp only[Rep] at p
  obtain⟨a,vs,rfl,q,t⟩:=p
  cases h
  exact .inr (.inl ⟨vs,vI r.sub q,t.isEmpty⟩)
 |lst xs =>
  simp only[Rep] at p
  obtain⟨a,vs,rfl,q,t⟩:=p
  cases h
  exact .inl ⟨vs,(vW r.sub q).l,t.isEmpty⟩
 |dct0 =>
  simp only[Rep] at p
  obtain⟨a,rfl,q⟩:=p
  cases h
  exact .inr (.inr ⟨[],r.sub _ _ q,rfl⟩)
 |loc i =>
  simp only[Rep] at p
  obtain⟨a,rfl,q⟩:=p
  have h:(match S[i]? with|some (.lst xs)=>some (!xs.isEmpty)|some (.dct kvs)=>some (!kvs.isEmpty)|_=>none)=some k:=h
  cases hs:S[i]? with
  |none=>rw[hs] at h;exact nn h
  |some m =>
   rw[hs] at h
   cases m with
   |lst xs =>
    cases h
    obtain⟨vs,z,t⟩:=r.at' i a _ q hs
    exact .inl ⟨vs,.of z,t.isEmpty⟩
   |dct kvs =>
    cases h
    obtain⟨vs,z,t⟩:=r.at' i a _ q hs
    refine .inr (.inr ⟨vs,z,?_⟩)
    cases t <;> rfl
   |_=>exact nn h
 |ty n=>exact nn h
 |obj a=>exact nn h
 |exn c=>exact nn h
 |fd ks ds=>exact nn h
theorem T9 {pins:List (Addr × Obj)}{s:Shared}{σ : _L.St}{H P:Hp}{α : List Addr}{S:Sto}{v:V}{vv:Value}{d:D}{k:Bool}{Q:Bool→Hp→Prop}(I:Inv X pins σ H s)(r:Rel X.K H P α S)(rv:qO v vv)(p:Rep X.K P α d v)(h:yF d S=some k)(q:Q k H) :
  wpAny (model X.prog X.w) X.A (truthy vv) (TP X pins σ Q) X.xe s:=eA pins s σ H v vv Q I rv ⟨k,fY r p h,q⟩
def gX (o:Option Bool)(S:Sto):Res Bool:=match o with
 |some b=>.ok b S
 |none=>.bad
def dTr (f:DE):DT:=fun env S=>(f env S).bind fun d S1=>gX (yF d S1) S1
theorem QP {o:Option Bool}{S:Sto}{P:Hp}{α : List Addr}{Ok:Bool→Sto→Prop}(h:qN X P α (gX o S) Ok):∃ b,o=some b∧Ok b S:=by
 cases o with
 |none=>exact False.elim h
 |some b=>exact⟨b,rfl,h⟩
theorem ST (ha:PE X a (tD X fa))(he:∀ whole,isTrue a X.env whole=(do let v ← whole;standAt a.pos;holding [v] (truthy v)):=by intro _;rfl):PT X a (tDT X (dTr fa)):=by
 intro pins s σ H Q I h
 obtain⟨P,α,env,S,r,re,af⟩:=h
 refine isTrue_plain (thn (wS ha I r re af) fun vv s1 ⟨v,H1,P1,α1,d,S1,G1,af1⟩=>?_) (he _)
 obtain⟨k,e1,q⟩:=QP af1
 exact T9 G1.inv G1.rel G1.val G1.rep e1 (q H1 P1 α1 G1.rel G1.same G1.pre)
theorem SR {op:CmpOp}{g:G2}(ho:OpD X (compareOp op) g)(ha:PE X a (tD X fa))(hb:PE X b (tD X fb))(hm:behindInMarks op b=false:=by first|exact iY _|with_unfolding_all rfl):PT X (.Compare a [op] [b] pos) (tDT X (dTr (d2 g fa fb))):=by
 intro pins s σ H Q I h
 obtain⟨P,α,env,S,r,re,af⟩:=h
 refine wpAny_isTrue_Compare1 ?_ hm
 have key:tD X (d2 g fa fb) σ H (fun v H1=>∃ k,JL X.K v H1 k∧Q k H1):=by
  refine⟨P,α,env,S,r,re,?_⟩
  have af':qN X P α ((d2 g fa fb env S).bind fun d S1=>gX (yF d S1) S1) (OkT X P α Q):=af
  cases q:d2 g fa fb env S with
  |bad=>rw[q] at af';exact af'
  |ex c x S'=>rw[q] at af';exact af'
  |ok d S1 =>
   rw[q] at af'
   obtain⟨k,e1,qk⟩:=QP (X:=X) af'
   exact fun v H1 P1 α1 r1 e3 e4 rp=>⟨k,fY r1 rp e1,qk H1 P1 α1 r1 e3 e4⟩
 exact thn (WK ho ha hb I key) fun v s1 h1=>thn h1 fun u s2 h2=>thn h2 fun x s3 ⟨y,H3,I3,r3,k,tk,qk⟩=>eA pins s3 σ H3 y x Q I3 r3 ⟨k,tk,qk⟩
def wU (g g':G2)(fa fb fc:DE):DE:=fun env S=>(fa env S).bind fun x S1=>(fb env S1).bind fun y S2=>(g x y S2).bind fun z S3 =>
 match yF z S3 with
 |some true=>(fc env S3).bind fun w S4=>g' y w S4
 |some false=>.ok z S3
 |none=>.bad
inductive GotO (X:Cx)(pins:List (Addr × Obj))(σ : _L.St)(P:Hp)(α : List Addr)(w:Value)(s1:Shared){γ : Type}(k:D→Sto→Res γ)(Ok:γ→Sto→Prop):Prop
 |mk (y:V) (H1 P1:Hp) (α1:List Addr) (d:D) (S1:Sto) (I:Inv X pins σ H1 s1) (rv:qO y w) (r:Rel X.K H1 P1 α1 S1) (rp:Rep X.K P1 α1 d y) (e1:qL P P1) (e2:α<+:α1) (q:qN X P α (k d S1) Ok):GotO X pins σ P α w s1 k Ok
theorem YQ {γ : Type}{f:Value→Value→Sem Value}{g:G2}{k:D→Sto→Res γ}{Ok:γ→Sto→Prop}{pins:List (Addr × Obj)}{σ : _L.St}{H:Hp}{s:Shared}{P:Hp}{α : List Addr}{S:Sto}{v u:V}{vv uu:Value}{a b:D}(ho:OpD X f g)(I:Inv X pins σ H s)(r:Rel X.K H P α S)
  (rv:qO v vv) (ru:qO u uu) (pa:Rep X.K P α a v) (pb:Rep X.K P α b u) (af:qN X P α ((g a b S).bind k) Ok) :
  wpAny (model X.prog X.w) X.A (f vv uu) (fun w s1=>GotO X pins σ P α w s1 k Ok) X.xe s:=by
 refine thn (ho pins σ H s P α S v u vv uu a b (fun y H1=>∃ P1 α1 d S1,Rel X.K H1 P1 α1 S1∧Rep X.K P1 α1 d y∧qL P P1∧α<+:α1∧qN X P α (k d S1) Ok) I r rv ru pa pb ?_) fun w s1 ⟨y,H1,I1,r1,P1,α1,d,S1,q1,q2,q3,q4,q5⟩=>⟨y,H1,P1,α1,d,S1,I1,r1,q1,q2,q3,q4,q5⟩
 cases q:g a b S with
 |bad=>rw[q] at af;exact af
 |ex c x S'=>rw[q] at af;exact af
 |ok d S' =>
  rw[q] at af
  exact fun v H' P' α' r' e1 e2 rp=>⟨P',α',d,S',r',rp,e1,e2,af⟩
theorem qN.base' {β : Type}{P P1:Hp}{α α1:List Addr}{r:Res β}{Ok Ok1:β→Sto→Prop}(e:qL P P1)(h:α<+:α1)(ho:∀ d S,Ok d S→Ok1 d S)(k:qN X P α r Ok):qN X P1 α1 r Ok1:=by
 cases r with
 |ok d S=>exact ho d S k
 |ex c x S=>exact fun u s' q=>k u s' (q.base e h)
 |bad=>exact k
theorem F5 {op op':CmpOp}{g g':G2}(ho:OpD X (compareOp op) g)(ho':OpD X (compareOp op') g')(ha:PE X a (tD X fa))(hb:PE X b (tD X fb))(hc:PE X c (tD X fc))
  (hm:lastMarks [op,op'] [b,c]=false:=by with_unfolding_all rfl):PE X (.Compare a [op,op'] [b,c] pos) (tD X (wU g g' fa fb fc)):=by
 intro pins s σ H Q I h
 obtain⟨P,α,env,S,r,re,af⟩:=h
 refine Compare_chain (thn (wS ha I r re af) fun vv s1 ⟨v,H1,P1,α1,d,S1,G1,af1⟩=>chain_link (thn (wS hb G1.inv G1.rel G1.env (x8.base G1.same G1.pre af1)) fun uu s2 ⟨u,H2,P2,α2,d',S2,G2,af2⟩ =>
  thn (YQ ho G2.inv G2.rel G1.val G2.val (Rep.mono G2.same G2.pre _ _ G1.rep) G2.rep (x8.base G2.same G2.pre af2)) fun w s3 ⟨y,H3,P3,α3,z,S3,I3,r3,rl3,rp3,e3,e4,af3⟩=>?_)) hm
 cases ht:yF z S3 with
 |none=>simp only[ht] at af3;exact False.elim af3
 |some k =>
  simp only[ht] at af3
  have tv:=fY rl3 rp3 ht
  refine thn (eA pins s3 σ H3 y w (fun k' H'=>k'=k∧H'=H3) I3 r3 ⟨k,tv,rfl,rfl⟩) fun k' s4 ⟨H4,I4,hk,hH⟩=>?_
  subst hk;subst hH
  cases k' with
  |false=>exact ite_ff ⟨y,H4,I4,r3,af3 y H4 P3 α3 rl3 e3 e4 rp3⟩
  |true =>
   refine ite_tt (chain_last (thn (wS hc I4 rl3 (G2.env.mono e3 e4) (x8.base e3 e4 af3)) fun ww s5 ⟨w',H5,P5,α5,d5,S5,G5,af5⟩=>?_))
   exact ho' pins σ H5 s5 P5 α5 S5 u w' uu ww d' d5 Q G5.inv G5.rel G2.val G5.val (Rep.mono (e3.trans G5.same) (e4.trans G5.pre) _ _ G2.rep) G5.rep (x8.base G5.same G5.pre af5)
theorem FD {op op':CmpOp}{g g':G2}(ho:OpD X (compareOp op) g)(ho':OpD X (compareOp op') g')(ha:PE X a (tD X fa))(hb:PE X b (tD X fb))(hc:PE X c (tD X fc))
  (hm:lastMarks [op,op'] [b,c]=false:=by with_unfolding_all rfl):PT X (.Compare a [op,op'] [b,c] pos) (tDT X (dTr (wU g g' fa fb fc))):=by
 intro pins s σ H Q I h
 obtain⟨P,α,env,S,r,re,af⟩:=h
 have af':qN X P α ((wU g g' fa fb fc env S).bind fun d S1=>gX (yF d S1) S1) (OkT X P α Q):=af
 have assoc:(wU g g' fa fb fc env S).bind (fun d S1=>gX (yF d S1) S1)=(fa env S).bind fun x S1=>(fb env S1).bind fun y S2=>(g x y S2).bind fun z S3 =>
   match yF z S3 with
   |some true=>((fc env S3).bind fun w S4=>g' y w S4).bind fun d S1=>gX (yF d S1) S1
   |some false=>.ok false S3
   |none=>.bad:=by
  unfold wU
  cases fa env S with
  |bad=>rfl
  |ex _ _ _=>rfl
  |ok x S1 =>
   show Res.bind (Res.bind (fb env S1) _) _=Res.bind (fb env S1) _
   cases fb env S1 with
   |bad=>rfl
   |ex _ _ _=>rfl
   |ok y S2 =>
    show Res.bind (Res.bind (g x y S2) _) _=Res.bind (g x y S2) _
    cases g x y S2 with
    |bad=>rfl
    |ex _ _ _=>rfl
    |ok z S3 =>
     show Res.bind (match yF z S3 with|some true=>(fc env S3).bind fun w S4=>g' y w S4|some false=>.ok z S3|none=>.bad) _=_
     cases ht:yF z S3 with
     |none=>simp only[ht,Res.bind]
     |some k=>cases k <;> simp only[ht,Res.bind,gX]
 rw[assoc] at af'
 refine isTrue_chain (thn (wS ha I r re af') fun vv s1 ⟨v,H1,P1,α1,d,S1,G1,af1⟩=>test_link (thn (wS hb G1.inv G1.rel G1.env (gF.base G1.same G1.pre af1)) fun uu s2 ⟨u,H2,P2,α2,d',S2,G2,af2⟩ =>
  thn (YQ ho G2.inv G2.rel G1.val G2.val (Rep.mono G2.same G2.pre _ _ G1.rep) G2.rep (gF.base G2.same G2.pre af2)) fun w s3 ⟨y,H3,P3,α3,z,S3,I3,r3,rl3,rp3,e3,e4,af3⟩=>?_)) hm
 cases ht:yF z S3 with
 |none=>simp only[ht] at af3;exact False.elim af3
 |some k =>
  simp only[ht] at af3
  have tv:=fY rl3 rp3 ht
  refine thn (eA pins s3 σ H3 y w (fun k' H'=>k'=k∧H'=H3) I3 r3 ⟨k,tv,rfl,rfl⟩) fun k' s4 ⟨H4,I4,hk,hH⟩=>?_
  subst hk;subst hH
  cases k' with
  |false=>exact ite_ff ⟨H4,I4,af3 H4 P3 α3 rl3 e3 e4⟩
  |true =>
   have af4:qN X P2 α2 ((fc env S3).bind fun w S4=>(g' d' w S4).bind fun d S1=>gX (yF d S1) S1) (OkT X P2 α2 Q):=by
    have e:((fc env S3).bind fun w S4=>(g' d' w S4).bind fun d S1=>gX (yF d S1) S1)=(((fc env S3).bind fun w S4=>g' d' w S4).bind fun d S1=>gX (yF d S1) S1):=by
     cases fc env S3 <;> rfl
    rw[e];exact af3
   refine ite_tt (test_last (thn (wS hc I4 rl3 (G2.env.mono e3 e4) (gF.base e3 e4 af4)) fun ww s5 ⟨w',H5,P5,α5,d5,S5,G5,af5⟩ =>
    thn (YQ ho' G5.inv G5.rel G2.val G5.val (Rep.mono (e3.trans G5.same) (e4.trans G5.pre) _ _ G2.rep) G5.rep (gF.base G5.same G5.pre af5)) fun x6 s6 ⟨y6,H6,P6,α6,d6,S6,I6,r6,rl6,rp6,e5,e6,af6⟩=>?_))
   obtain⟨k6,q6,z6⟩:=QP af6
   exact T9 I6 rl6 r6 rp6 q6 (z6 H6 P6 α6 rl6 e5 e6)
def wC (t:DT):DT:=fun env S=>(t env S).bind fun b S1=>.ok (!b) S1
def jA (t u:DT):DT:=fun env S=>(t env S).bind fun b S1=>if b then .ok true S1 else u env S1
theorem SS (ha:PT X a (tDT X ta)):PT X (.UnaryOp .Not a pos) (tDT X (wC ta)):=by
 intro pins s σ H Q I h
 obtain⟨P,α,env,S,r,re,af⟩:=h
 refine isTrue_not (thn (aZ (fun Q' q=>ha pins s σ H Q' I q) r re af) fun b s1 ⟨H1,P1,α1,S1,I1,r1,re1,e1,e2,af1⟩=>⟨H1,I1,af1 H1 P1 α1 r1 e1 e2⟩)
def PWD (X:Cx)(e:Expr)(t:DT):Prop:=PW X e (tDT X t)
theorem PWD.pt {t:DT}(h:PWD X e t):PT X e (tDT X t):=h _
theorem SU (ha:PT X a (tDT X ta)):PWD X (.BoolOp .Or [a] pos) ta:=EF ha
theorem HK {rest:List Expr}(ha:PT X a (tDT X ta))(hb:PWD X (.BoolOp .Or (b::rest) pos) tb):PWD X (.BoolOp .Or (a::b::rest) pos) (jA ta tb):=by
 intro wh pins s σ H Q I h
 obtain⟨P,α,env,S,r,re,af⟩:=h
 refine isTrue_or (thn (aZ (fun Q' q=>ha pins s σ H Q' I q) r re af) fun k s1 ⟨H1,P1,α1,S1,I1,r1,re1,e1,e2,af1⟩=>?_)
 cases k with
 |true=>exact⟨H1,I1,af1 H1 P1 α1 r1 e1 e2⟩
 |false=>exact hb wh pins s1 σ H1 Q I1 ⟨P1,α1,env,S1,r1,re1,gF.base e1 e2 af1⟩
def k7 (f g:DE):DE:=fun env S=>(f env S).bind fun x S1=>match yF x S1 with
 |some true=>g env S1
 |some false=>.ok x S1
 |none=>.bad
def JV (f:DE):DE:=fun env S=>(f env S).bind fun x S1=>match yF x S1 with
 |some b=>.ok (.bl (!b)) S1
 |none=>.bad
theorem S9 {op} (h:PE X a (tD X fa)):PE X (.BoolOp op [a] pos) (tD X fa):=E4 h
theorem ER {pins:List (Addr × Obj)}{s:Shared}{σ : _L.St}{H:Hp}{v:V}{vv:Value}{k:Bool}{R:Bool→Shared→Prop}(I:Inv X pins σ H s)(rv:qO v vv)(t:JL X.K v H k)(h:∀ s',Inv X pins σ H s'→R k s') :
  wpAny (model X.prog X.w) X.A (truthy vv) R X.xe s:=thn (eA pins s σ H v vv (fun k' H'=>k'=k∧H'=H) I rv ⟨k,t,rfl,rfl⟩) fun k' s4 ⟨H4,I4,hk,hH⟩=>by subst hk;subst hH;exact h s4 I4
theorem DW {rest:List Expr}(ha:PE X a (tD X fa))(hb:PE X (.BoolOp .And (b::rest) pos) (tD X fb)):PE X (.BoolOp .And (a::b::rest) pos) (tD X (k7 fa fb)):=by
 intro pins s σ H Q I h
 obtain⟨P,α,env,S,r,re,af⟩:=h
 refine BoolOp_and (thn (wS ha I r re af) fun vv s1 ⟨v,H1,P1,α1,d,S1,G1,af1⟩=>?_)
 cases ht:yF d S1 with
 |none=>simp only[ht] at af1;exact False.elim af1
 |some k =>
  simp only[ht] at af1
  refine ER G1.inv G1.val (fY G1.rel G1.rep ht) fun s2 I2=>?_
  cases k with
  |true=>exact hb pins s2 σ H1 Q I2 ⟨P1,α1,env,S1,G1.rel,G1.env,x8.base G1.same G1.pre af1⟩
  |false=>exact⟨v,H1,I2,G1.val,af1 v H1 P1 α1 G1.rel G1.same G1.pre G1.rep⟩
theorem S8 (ha:PE X a (tD X fa)):PE X (.UnaryOp .Not a pos) (tD X (JV fa)):=by
 intro pins s σ H Q I h
 obtain⟨P,α,env,S,r,re,af⟩:=h
 refine UnaryOp_ (thn (wS ha I r re af) fun vv s1 ⟨v,H1,P1,α1,d,S1,G1,af1⟩=>?_)
 cases ht:yF d S1 with
 |none=>simp only[ht] at af1;exact False.elim af1
 |some k =>
  simp only[ht] at af1
  exact not_of (ER G1.inv G1.val (fY G1.rel G1.rep ht) fun s2 I2=>⟨.bl (!k),H1,I2,rfl,af1 (.bl (!k)) H1 P1 α1 G1.rel G1.same G1.pre (by simp only[Rep])⟩)
def dIf (t:DT)(f g:DE):DE:=fun env S=>(t env S).bind fun b S1=>if b then f env S1 else g env S1
theorem H9 (hc:PT X c (tDT X ta))(ha:PE X a (tD X fa))(hb:PE X b (tD X fb)):PE X (.IfExp c a b pos) (tD X (dIf ta fa fb)):=by
 intro pins s σ H Q I h
 obtain⟨P,α,env,S,r,re,af⟩:=h
 refine wpAny_IfExp (thn (aZ (fun Q' q=>hc pins s σ H Q' I q) r re af) fun k s1 ⟨H1,P1,α1,S1,I1,r1,re1,e1,e2,af1⟩=>?_)
 cases k with
 |true=>exact ha pins s1 σ H1 Q I1 ⟨P1,α1,env,S1,r1,re1,x8.base e1 e2 af1⟩
 |false=>exact hb pins s1 σ H1 Q I1 ⟨P1,α1,env,S1,r1,re1,x8.base e1 e2 af1⟩
end
end _D
end
section
namespace _D
open PySem PySem.Spec PyProof.Rows _L
@[inline] def Res.toS {β : Type}(env:qG)(r:Res β)(k:β→Sto→Out):Out:=
 match r with
 |.ok d S=>k d S
 |.ex c x S=>.ex c x env S
 |.bad=>.bad
section
variable {X:Cx}{a b c e:Expr}{pos:Pos}{fa fb fc:DE}{ta tb:DT}{f g:DS}{st:Stmt}{rest:List Stmt}
def xP:DS:=fun env S=>.nx env S
def zL (f g:DS):DS:=fun env S=>match f env S with
 |.nx env1 S1=>g env1 S1
 |o=>o
theorem SL:PSs X [] (tDS X xP):=ED LJ fun D σ H ⟨P,α,env,S,r,re,af⟩=>af σ H P α r re (qL.refl _) (List.prefix_refl _)
theorem N8 (h1:PS X st (tDS X f))(h2:PSs X rest (tDS X g)):PSs X (st::rest) (tDS X (zL f g)):=ED (M1 h1 h2) fun D σ H ⟨P,α,env,S,r,re,af⟩=>by
 refine⟨P,α,env,S,r,re,?_⟩
 unfold zL at af
 cases q:f env S with
 |nx env1 S1 =>
  rw[q] at af
  exact fun σ' H' P' α' r' re' e1 e2=>⟨P',α',env1,S1,r',re',xL.base e1 e2 af⟩
 |rt d S1=>rw[q] at af;exact af
 |bk env1 S1=>rw[q] at af;exact af
 |ct env1 S1=>rw[q] at af;exact af
 |ex c x env1 S1=>rw[q] at af;exact af
 |bad=>rw[q] at af;exact af
theorem SM (h1:PS X st (tDS X f)):PSs X [st] (tDS X f):=LK h1
theorem gE {β : Type}{P:Hp}{α : List Addr}{env:qG}{r:Res β}{k:β→Sto→Out}{D:Ends}(h:xL X P α (r.toS env k) D):qN X P α r fun d S=>xL X P α (k d S) D:=by
 cases r with
 |ok d S=>exact h
 |ex c x S=>exact h
 |bad=>exact h
inductive GotS (X:Cx)(pins:List (Addr × Obj))(σ : _L.St)(env:qG)(P:Hp)(α : List Addr)(u:Value)(s1:Shared)(k:D→Sto→Out)(E:Ends):Prop
 |mk (v:V) (H1 P1:Hp) (α1:List Addr) (d:D) (S1:Sto) (G:Got X pins σ env P α u s1 v H1 P1 α1 d S1) (q:xL X P1 α1 (k d S1) E):GotS X pins σ env P α u s1 k E
theorem WL {k:D→Sto→Out}{pins:List (Addr × Obj)}{s:Shared}{σ : _L.St}{H P:Hp}{α : List Addr}{env:qG}{S:Sto}{D:Ends}(he:PE X e (tD X fa))(I:Inv X pins σ H s)(r:Rel X.K H P α S)
  (re:xC X.K P α σ env) (af:xL X P α ((fa env S).toS env k) D) :
  wpAny (model X.prog X.w) X.A (eval e X.env) (fun u s1=>GotS X pins σ env P α u s1 k D) X.xe s:=by
 have af1:qN X P α ((fa env S).bind fun d S=>.ok d S) fun d S=>xL X P α (k d S) D:=by
  have:=gE af
  cases q:fa env S <;> rw[q] at this <;> exact this
 exact thn (wS he I r re af1) fun u s1 ⟨v,H1,P1,α1,d,S1,G,q⟩=>⟨v,H1,P1,α1,d,S1,G,xL.base G.same G.pre q⟩
def IS (f:DE):DS:=fun env S=>(f env S).toS env fun _ S1=>.nx env S1
def zX (f:DE):DS:=fun env S=>(f env S).toS env fun d S1=>.rt d S1
theorem SO (he:PE X e (tD X fa)):PS X (.Return (some e) pos) (tDS X (zX fa)):=by
 intro pins s σ H D I h
 obtain⟨P,α,env,S,r,re,af⟩:=h
 exact wpAny_Return_some (thn (WL he I r re af) fun v s1 ⟨x,H1,P1,α1,d,S1,G,q⟩=>⟨x,σ,H1,G.inv,G.val,q x H1 P1 α1 G.rel (qL.refl _) (List.prefix_refl _) G.rep⟩)
def sIf (t:DT)(f g:DS):DS:=fun env S=>(t env S).toS env fun b S1=>if b then f env S1 else g env S1
theorem HH {c:Expr}{as bs:List Stmt}(hc:PT X c (tDT X ta))(ha:PSs X as (tDS X f))(hb:PSs X bs (tDS X g)):PS X (.If c as bs pos) (tDS X (sIf ta f g)):=by
 intro pins s σ H D I h
 obtain⟨P,α,env,S,r,re,af⟩:=h
 have af1:qN X P α ((ta env S).bind fun d S=>.ok d S) fun b S=>xL X P α (if b then f env S else g env S) D:=by
  have:=gE af
  cases q:ta env S <;> rw[q] at this <;> exact this
 refine wpAny_If (thn (aZ (fun Q' q=>hc pins s σ H Q' I q) r re af1) fun k s1 ⟨H1,P1,α1,S1,I1,r1,re1,e1,e2,af2⟩=>?_)
 cases k with
 |true=>exact ha pins s1 σ H1 D I1 ⟨P1,α1,env,S1,r1,re1,xL.base e1 e2 af2⟩
 |false=>exact hb pins s1 σ H1 D I1 ⟨P1,α1,env,S1,r1,re1,xL.base e1 e2 af2⟩
abbrev DG:=D→qG→Sto→Res qG
abbrev DGs:=List D→qG→Sto→Res qG
def OkE (X:Cx)(P:Hp)(α : List Addr)(Q:_L.St→Hp→Prop)(env':qG)(S':Sto):Prop:=∀ σ' H' P' α',Rel X.K H' P' α' S'→xC X.K P' α' σ' env'→qL P P'→α<+:α'→Q σ' H'
def tDG (X:Cx)(g:DG):TG:=fun v σ H Q=>∃ P α env S d,Rel X.K H P α S∧xC X.K P α σ env∧Rep X.K P α d v∧qN X P α (g d env S) (OkE X P α Q)
def V9 (X:Cx)(g:DGs):TGs:=fun vs σ H Q=>∃ P α env S ds,Rel X.K H P α S∧xC X.K P α σ env∧qI X.K P α ds vs∧qN X P α (g ds env S) (OkE X P α Q)
theorem xC.set {K:PySem.W.Frag}{P:Hp}{α : List Addr}{σ : _L.St}{env:qG}{d:D}{v:V}(re:xC K P α σ env)(i:Nat)(rp:Rep K P α d v):xC K P α (σ.set i (some v)) (env.set i (some d)):=by
 refine⟨by simp[re.1],fun j d' e=>?_⟩
 by_cases hj:i=j
 ·subst hj
  by_cases hi:i<env.length
  ·rw[List.getElem?_set_self hi] at e
   cases e
   exact⟨v,by rw[List.getElem?_set_self (by rw[← re.1];exact hi)],rp⟩
  ·rw[List.getElem?_eq_none (by simp;omega)] at e;cases e
 ·rw[List.getElem?_set_ne hj] at e ⊢
  exact re.2 j d' e
def gNm (i:Nat):DG:=fun d env S=>.ok (env.set i (some d)) S
theorem N3 {i:Nat}{x:Str}(hN:X.N.Nodup)(hi:X.N[i]? = some x:=by rfl)(hx:Loc X.env.scope x:=by first|exact Or.inl rfl|exact Or.inr rfl)(hf:X.fn x=true∨X.env.scope.names.lookup x=some .local:=by first|exact .inl rfl|exact .inr rfl|assumption):PG X (.Name x pos) (tDG X (gNm i)):=by
 intro pins s σ H v u Q I rv h
 obtain⟨P,α,env,S,d,r,re,rp,af⟩:=h
 exact LE hN hi hx hf pins s σ H v u Q I rv (af _ H P α r (re.set i rp) (qL.refl _) (List.prefix_refl _))
def uM:DGs:=fun ds env S=>match ds with
 |[]=>.ok env S
 |_=>.bad
def xB (g:DG)(gs:DGs):DGs:=fun ds env S=>match ds with
 |d::r=>(g d env S).bind fun env1 S1=>gs r env1 S1
 |[]=>.bad
theorem N4:PGs X [] (V9 X uM):=by
 intro pins s σ H vs us Q I rv h
 obtain⟨P,α,env,S,ds,r,re,rp,af⟩:=h
 cases ds with
 |nil=>exact LF pins s σ H vs us Q I rv ⟨rp.nil_inv,af σ H P α r re (qL.refl _) (List.prefix_refl _)⟩
 |cons d ds=>exact False.elim af
theorem F8 {es:List Expr}{g:DG}{gs:DGs}(h1:PG X e (tDG X g))(h2:PGs X es (V9 X gs))(hs:(assignEach (e::es) X.env).map (·.2)=assign e X.env::(assignEach es X.env).map (·.2):=by rfl):PGs X (e::es) (V9 X (xB g gs)):=by
 intro pins s σ H vs us Q I rv h
 obtain⟨P,α,env,S,ds,r,re,rp,af⟩:=h
 cases ds with
 |nil=>exact False.elim af
 |cons d ds =>
  obtain⟨w,ws,rfl,p1,p2⟩:=rp.cons_inv
  refine FZ h1 h2 hs pins s σ H _ us Q I rv ⟨w,ws,rfl,P,α,env,S,d,r,re,p1,?_⟩
  have af':qN X P α ((g d env S).bind fun env1 S1=>gs ds env1 S1) (OkE X P α Q):=af
  cases q:g d env S with
  |bad=>rw[q] at af';exact af'
  |ex c x S'=>rw[q] at af';exact af'
  |ok env1 S1 =>
   rw[q] at af'
   intro σ' H' P' α' r' re' e1 e2
   refine⟨P',α',env1,S1,ds,r',re',qI.mono e1 e2 _ _ p2,qN.base' e1 e2 (fun env' S' ok σ2 H2 P2 α2 r2 re2 e3 e4=>ok σ2 H2 P2 α2 r2 re2 (e1.trans e3) (e2.trans e4)) af'⟩
def gTp (n:Nat)(gs:DGs):DG:=fun d env S=>match d with
 |.tup xs=>if xs.length=n then gs xs env S else .bad
 |_=>.bad
set_option tactic.hygienic true in
theorem SE {es:List Expr}{k:Nat}{gs:DGs}{n:Nat}(hc:X.calm=true)(h:PGs X es (V9 X gs))(hn:(assignEach es X.env).length=n:=by rfl)(hst:(assignEach es X.env).findIdx? (·.1)=none:=by rfl):PG X (.Tuple es k pos) (tDG X (gTp n gs)):=by
 intro pins s σ H v u Q I rv hw
 obtain⟨P,α,env,S,d,r,re,rp,af⟩:=hw
 cases d with
 |tup xs =>
  simp only[Rep] at rp
  obtain⟨a,vs,rfl,q,t⟩:=rp
  simp only[gTp] at af
  split at af
  ·rename_i hl
   exact E8 hc h hn hst pins s σ H _ u Q I rv ⟨a,vs,rfl,vI r.sub q,by rw[← t.length];exact hl,P,α,env,S,xs,r,re,t,af⟩
  ·exact False.elim af
 |_=>exact False.elim af
abbrev G3:=D→D→D→Sto→Res Unit
def OkU (X:Cx)(P:Hp)(α : List Addr)(Q:Hp→Prop)(_:Unit)(S':Sto):Prop:=∀ H' P' α',Rel X.K H' P' α' S'→qL P P'→α<+:α'→Q H'
def XW (X:Cx)(g:G3):BK:=fun o i v H Q=>∃ P α S a b d,Rel X.K H P α S∧Rep X.K P α a o∧Rep X.K P α b i∧Rep X.K P α d v∧qN X P α (g a b d S) (OkU X P α Q)
def gSb (fo fi:DE)(g:G3):DG:=fun d env S=>(fo env S).bind fun o S1=>(fi env S1).bind fun i S2=>(g o i d S2).bind fun _ S3=>.ok env S3
theorem SD {o i:Expr}{fo fi:DE}{g:G3}(ho:PE X o (tD X fo))(hi:PE X i (tD X fi))(hs:XY X (XW X g))
  (ha:∀ v,assign (.Subscript o i pos) X.env v=(do
   let ov ← holding [v] (eval o X.env)
   let iv ← holding [v,ov] (eval i X.env)
   standAt pos
   holding [v,ov,iv] (setItem ov iv v)
   release [v,ov,iv] []):=by intro _;rfl):PG X (.Subscript o i pos) (tDG X (gSb fo fi g)):=by
 intro pins s σ H v u Q I rv h
 obtain⟨P,α,env,S,d,r,re,rp,af⟩:=h
 rw[ha]
 refine wpAny_bind (wpAny_holding (thn (wS ho I r re af) fun ov s1 ⟨x,H1,P1,α1,d1,S1,G1,af1⟩=>?_))
 refine wpAny_bind (wpAny_holding (thn (wS hi G1.inv G1.rel G1.env (P:=P1) (α:=α1) (Ok:=OkE X P1 α1 Q) (qN.base' G1.same G1.pre (fun env' S' ok σ2 H2 P2 α2 r2 re2 e3 e4=>ok σ2 H2 P2 α2 r2 re2 (G1.same.trans e3) (G1.pre.trans e4)) af1)) fun iv s2 ⟨y,H2,P2,α2,d2,S2,G2,af2⟩=>?_))
 refine wpAny_bind (wpAny_standAt (wpAny_bind (wpAny_holding (thn (hs pins s2 σ H2 x y v ov iv u (fun H3=>Q σ H3) G2.inv G1.val G2.val rv ⟨P2,α2,S2,d1,d2,d,G2.rel,Rep.mono G2.same G2.pre _ _ G1.rep,G2.rep,Rep.mono (G1.same.trans G2.same) (G1.pre.trans G2.pre) _ _ rp,?_⟩) fun _ s3 ⟨H3,I3,q3⟩=>?_))))
 ·cases q:g d1 d2 d S2 with
  |bad=>rw[q] at af2;exact af2
  |ex c x S'=>rw[q] at af2;exact fun u s' z=>af2 u s' (z.base G2.same G2.pre)
  |ok w S3 =>
   rw[q] at af2
   exact fun H' P' α' r' e1 e2=>af2 σ H' P' α' r' (G2.env.mono e1 e2) (G2.same.trans e1) (G2.pre.trans e2)
 ·exact wpAny_release ⟨σ,H3,I3,q3⟩
def xN (f:DE)(g:DG):DS:=fun env S=>(f env S).toS env fun d S1=>(g d env S1).toS env fun env' S2=>.nx env' S2
theorem KS {g:DG}{d:D}{env:qG}{S:Sto}{P:Hp}{α : List Addr}{D':Ends}(h:xL X P α ((g d env S).toS env fun env' S2=>.nx env' S2) D'):qN X P α (g d env S) (OkE X P α D'.nx):=by
 cases q:g d env S with
 |bad=>rw[q] at h;exact h
 |ex c x S'=>rw[q] at h;exact h
 |ok env1 S1=>rw[q] at h;exact h
theorem SJ {tg e:Expr}{g:DG}(he:PE X e (tD X fa))(hg:PG X tg (tDG X g))(hs:swapsWithSole [tg] e pos.line X.env=pure false:=by rfl)(hw:swappedStores [tg] e X.env=pure none:=by rfl)
  (h1:(assignEach [tg] X.env).map (·.2)=[assign tg X.env]:=by rfl):PS X (.Assign [tg] e pos) (tDS X (xN fa g)):=by
 intro pins s σ H D I h
 obtain⟨P,α,env,S,r,re,af⟩:=h
 refine wpAny_Assign_stores (thn (WL he I r re af) fun v s1 ⟨x,H1,P1,α1,d,S1,G,q⟩=>?_) hs hw
 rw[h1]
 exact thn (hg pins s1 σ H1 x v _ G.inv G.val ⟨P1,α1,env,S1,d,G.rel,G.env,G.rep,KS q⟩) fun _ s2 q=>q
theorem SQ {i:Nat}{x:Str}{e:Expr}{pos':Pos}(hN:X.N.Nodup)(he:PE X e (tD X fa))(hi:X.N[i]? = some x:=by rfl)(hx:Loc X.env.scope x:=by first|exact Or.inl rfl|exact Or.inr rfl)(hs:swapsWith e (some (.Name x pos')) pos.line X.env=pure false:=by rfl)
  (hf:X.fn x=true∨X.env.scope.names.lookup x=some .local:=by first|exact .inl rfl|exact .inr rfl|assumption):PS X (.Assign [.Name x pos'] e pos) (tDS X (xN fa (gNm i))):=by
 intro pins s σ H D I h
 obtain⟨P,α,env,S,r,re,af⟩:=h
 refine wpAny_Assign_Name (thn (WL he I r re af) fun v s1 ⟨y,H1,P1,α1,d,S1,G,q⟩=>?_) hs
 exact dO G.inv hN hi hx G.val (fun s2 I2=>⟨_,H1,I2,q _ H1 P1 α1 G.rel (G.env.set i G.rep) (qL.refl _) (List.prefix_refl _)⟩) hf
def YR (i j:Nat)(env:qG)(S1:Sto):List D→Out
 |[x,y]=>.nx ((env.set i (some x)).set j (some y)) S1
 |_=>.bad
def aS (i j:Nat)(f:DA):DS:=fun env S=>(f env S).toS env fun ds S1=>YR i j env S1 ds
theorem SN {i j:Nat}{x y:Str}{a b:Expr}{f:DA}{px py pt:Pos} {kt k2 pt2} (hc:X.calm=true) (hN:X.N.Nodup) (ha:PA X [a,b] (tDA X f)) (hi:X.N[i]? = some x:=by rfl) (hj:X.N[j]? = some y:=by rfl) (hij:i≠j:=by decide)
  (hx:X.env.scope.names.lookup x=some .local:=by rfl) (hy:X.env.scope.names.lookup y=some .local:=by rfl)
  (hw:swappedStores [.Tuple [.Name x px,.Name y py] kt pt] (.Tuple [a,b] k2 pt2) X.env=pure (some [x,y]):=by rfl)
  (hs:swapsWithSole [.Tuple [.Name x px,.Name y py] kt pt] (.Tuple [a,b] k2 pt2) pos.line X.env=pure false:=by rfl) :
  PS X (.Assign [.Tuple [.Name x px,.Name y py] kt pt] (.Tuple [a,b] k2 pt2) pos) (tDS X (aS i j f)):=psW (EC hc hN hi hj hij hx hy ha hw hs) fun D σ H ⟨P,α,env,S,r,re,af⟩=>by
 refine⟨P,α,env,S,r,re,?_⟩
 have af1:=gE af
 cases q:f env S with
 |bad=>rw[q] at af1;exact af1
 |ex c x S'=>rw[q] at af1;exact af1
 |ok ds S1 =>
  rw[q] at af1
  intro vs H' P' α' r' e1 e2 rp
  have af2:xL X P α (YR i j env S1 ds) D:=af1
  cases ds with
  |nil=>exact False.elim af2
  |cons d ds=>cases ds with
   |nil=>exact False.elim af2
   |cons d' ds=>cases ds with
    |cons _ _=>exact False.elim af2
    |nil =>
     obtain⟨w,ws,rfl,p1,t⟩:=rp.cons_inv
     obtain⟨w',ws',rfl,p2,t⟩:=t.cons_inv
     rw[t.nil_inv]
     exact⟨w,w',rfl,af2 _ _ P' α' r' (((re.mono e1 e2).set i p1).set j p2) e1 e2⟩
end
end _D
end
section
namespace _D
open PySem PySem.Spec PyProof.Rows _L
structure ItD (K:PySem.W.Frag)(J:It)(P:Hp)(α : List Addr)(ds:List D):Prop where
 go:∀ i H P1 α1 S,i<ds.length→Rel K H P1 α1 S→qL P P1→α<+:α1→J.go i H
 yld:∀ i H x H' P1 α1 S,i<ds.length→Rel K H P1 α1 S→qL P P1→α<+:α1→J.yld i H x H'→∃ P2 d,ds[i]? = some d∧Rel K H' P2 α1 S∧qL P1 P2∧Rep K P2 α1 d x
 stop:∀ i H P1 α1 S,ds.length≤i→Rel K H P1 α1 S→qL P P1→α<+:α1→J.stop i H
abbrev DI:=qG→Sto→Res (List D)
def OkI (X:Cx)(P:Hp)(α : List Addr)(R:It→Hp→Prop)(ds:List D)(S':Sto):Prop:=∀ J H' P' α',Rel X.K H' P' α' S'→qL P P'→α<+:α'→ItD X.K J P' α' ds→R J H'
inductive tDI (X:Cx)(f:DI)(σ : _L.St)(H:Hp)(R:It→Hp→Prop):Prop
 |mk (P:Hp) (α : List Addr) (env:qG) (S:Sto) (r:Rel X.K H P α S) (re:xC X.K P α σ env) (af:qN X P α (f env S) (OkI X P α R)):tDI X f σ H R
def gY {β : Type}(o:Option β)(S:Sto):Res β:=match o with
 |some b=>.ok b S
 |none=>.bad
theorem fX {X:Cx}{β : Type}{o:Option β}{S:Sto}{P:Hp}{α : List Addr}{Ok:β→Sto→Prop}(h:qN X P α (gY o S) Ok):∃ b,o=some b∧Ok b S:=by
 cases o with
 |none=>exact False.elim h
 |some b=>exact⟨b,rfl,h⟩
theorem iP {X:Cx}{β : Type}{c:Prop}[Decidable c]{r:Res β}{P:Hp}{α : List Addr}{Ok:β→Sto→Prop}(h:qN X P α (if c then r else .bad) Ok):c∧qN X P α r Ok:=by
 by_cases z:c
 ·rw[if_pos z] at h;exact⟨z,h⟩
 ·rw[if_neg z] at h;exact False.elim h
theorem YO {X:Cx}{β : Type}{ds:List D}{g:D→Res β}{P:Hp}{α : List Addr}{Ok:β→Sto→Prop}(h:qN X P α (match ds with|[d]=>g d|_=>.bad) Ok):∃ d,ds=[d]∧qN X P α (g d) Ok:=by
 cases ds with
 |nil=>exact False.elim h
 |cons d ds =>
  cases ds with
  |nil=>exact⟨d,rfl,h⟩
  |cons _ _=>exact False.elim h
theorem UY {β : Type}{S:Sto}{i:Nat}{f:List D→Option β}{g:List (Key × D)→Option β}{b:β}(h:(match S[i]? with|some (.lst xs)=>f xs|some (.dct kvs)=>g kvs|_=>none)=some b):(∃ xs,S[i]? = some (.lst xs)∧f xs=some b)∨∃ kvs,S[i]? = some (.dct kvs)∧g kvs=some b:=by
 cases e:S[i]? with
 |none=>rw[e] at h;exact nn h
 |some m =>
  rw[e] at h
  cases m with
  |lst xs=>exact .inl ⟨xs,rfl,h⟩
  |dct kvs=>exact .inr ⟨kvs,rfl,h⟩
  |_=>exact nn h
theorem RD {β : Type}{S:Sto}{i:Nat}{f:List D→Option β}{b:β}(h:(match S[i]? with|some (.lst xs)=>f xs|_=>none)=some b):∃ xs,S[i]? = some (.lst xs)∧f xs=some b:=by
 cases e:S[i]? with
 |none=>rw[e] at h;exact nn h
 |some m =>
  rw[e] at h
  cases m with
  |lst xs=>exact⟨xs,rfl,h⟩
  |_=>exact nn h
inductive ItV (d:D)(xs:List D):Prop
 |tup (e:d=.tup xs)
 |lst (e:d=.lst xs)
def MX {β : Type}(S:Sto)(n:Nat)(f:List D→Res β) : Res β:=match S[n]? with
 |some (.lst xs)=>f xs
 |_=>.bad
theorem dF {X:Cx}{β : Type}{S:Sto}{n:Nat}{f:List D→Res β}{P:Hp}{α : List Addr}{Ok:β→Sto→Prop}(h:qN X P α (MX S n f) Ok):∃ xs,S[n]? = some (.lst xs)∧qN X P α (f xs) Ok:=by
 unfold MX at h
 cases e:S[n]? with
 |none=>rw[e] at h;exact False.elim h
 |some m =>
  rw[e] at h
  cases m with
  |lst xs=>exact⟨xs,rfl,h⟩
  |_=>exact False.elim h
def wK:D→Option (List D)
 |.tup xs=>some xs
 |.lst xs=>some xs
 |_=>none
theorem itV {d:D}{xs:List D}(h:wK d=some xs):ItV d xs:=by
 cases d with
 |tup ys=>exact .tup (congrArg D.tup (Option.some.inj h))
 |lst ys=>exact .lst (congrArg D.lst (Option.some.inj h))
 |_=>exact nn h
def bD (f:DE):DI:=fun env S=>(f env S).bind fun d S1=>gY (wK d) S1
section
variable {X:Cx}{K:PySem.W.Frag}{tg e:Expr}{fa:DE}{pos:Pos}
theorem FK {P:Hp}{α : List Addr}{a:Addr}{ds:List D}{vs:List V}(q:SqL K P a vs)(t:qI K P α ds vs):ItD K (Itl K a) P α ds where
 go:=fun i H P1 α1 S hi r e _=>⟨vs,vs[i]'(by rw[← t.length];exact hi),(e.trans r.sub).seq q,by simp⟩
 yld:=fun i H x H' P1 α1 S hi r e e2 y=>by
  obtain⟨rfl,y⟩:=y
  have hx:=y vs ((e.trans r.sub).seq q)
  obtain⟨v,h1,h2⟩:=t.get (List.getElem?_eq_getElem hi)
  rw[hx] at h1;cases h1
  exact⟨P1,_,List.getElem?_eq_getElem hi,r,qL.refl _,Rep.mono e e2 _ _ h2⟩
 stop:=fun i H P1 α1 S hi r e _=>⟨vs,(e.trans r.sub).seq q,by rw[← t.length];exact hi⟩
theorem NK {P:Hp}{α : List Addr}{a:Addr}{ds:List D}{vs:List V}(q:SqT K P a vs)(t:qI K P α ds vs):ItD K (Itt K a) P α ds where
 go:=fun i H P1 α1 S hi r e _=>⟨vs,vs[i]'(by rw[← t.length];exact hi),pO (e.trans r.sub) q,by simp⟩
 yld:=fun i H x H' P1 α1 S hi r e e2 y=>by
  obtain⟨rfl,y⟩:=y
  have hx:=y vs (pO (e.trans r.sub) q)
  obtain⟨v,h1,h2⟩:=t.get (List.getElem?_eq_getElem hi)
  rw[hx] at h1;cases h1
  exact⟨P1,_,List.getElem?_eq_getElem hi,r,qL.refl _,Rep.mono e e2 _ _ h2⟩
 stop:=fun i H P1 α1 S hi r e _=>⟨vs,pO (e.trans r.sub) q,by rw[← t.length];exact hi⟩
theorem Y1 {pins:List (Addr × Obj)}{σ : _L.St}{H P:Hp}{α : List Addr}{S:Sto}{s:Shared}{v:V}{vv:Value}{d:D}{ds:List D}{R:It→Hp→Prop}(I:Inv X pins σ H s)(r:Rel X.K H P α S)(rv:qO v vv)(rp:Rep X.K P α d v)(hd:wK d=some ds)
  (q:OkI X P α R ds S):wpAny (model X.prog X.w) X.A (pyIter vv) (PIE X pins σ tg R) X.xe s:=by
 cases d with
 |tup xs =>
  cases hd
  simp only[Rep] at rp
  obtain⟨a,vs,rfl,sq,t⟩:=rp
  cases rv
  obtain⟨its,rv,p,hz⟩:=I.tuple (vI r.sub sq)
  refine wpAny_pyIter_tuple (show s.heap.IsTuple a its.toArray from p) ?_
  refine⟨s.heap.objs.size,[s.heap.objs.size],_,_,H,rfl,I.kept (t':=s.toks) fun b o e=>Heap.get?_push_of_some _ e,KN a _,⟨_,Heap.get?_push_size _ rfl,rfl,rfl⟩,fun b hb=>?_,q _ _ P α r (qL.refl _) (List.prefix_refl _) (NK sq t)⟩
  have e:b=s.heap.objs.size:=by simpa using hb
  subst e
  exact I.fpOk (Nat.le_refl _) (I.hok.fresh (Nat.le_refl _))
 |lst xs =>
  cases hd
  simp only[Rep] at rp
  obtain⟨a,vs,rfl,sq,t⟩:=rp
  cases rv
  obtain⟨its,rv,p,hz⟩:=I.list ((vW r.sub sq).l)
  refine wpAny_pyIter_list p.isList ?_
  refine⟨s.heap.objs.size,[s.heap.objs.size],_,_,H,rfl,I.kept (t':=s.toks) fun b o e=>Heap.get?_push_of_some _ e,X2 a _,⟨_,Heap.get?_push_size _ rfl,rfl,rfl⟩,fun b hb=>?_,q _ _ P α r (qL.refl _) (List.prefix_refl _) (FK sq.l t)⟩
  have e:b=s.heap.objs.size:=by simpa using hb
  subst e
  exact I.fpOk (Nat.le_refl _) (I.hok.fresh (Nat.le_refl _))
 |_=>cases hd
theorem OkI.base {P P1:Hp}{α α1:List Addr}{R:It→Hp→Prop}{ds:List D}{S:Sto}(e:qL P P1)(h:α<+:α1)(k:OkI X P α R ds S):OkI X P1 α1 R ds S:=fun J H' P' α' r q1 q2 q3=>k J H' P' α' r (e.trans q1) (h.trans q2) q3
theorem SG (ha:PE X e (tD X fa)):PI X tg e (tDI X (bD fa)):=by
 intro pins s σ H R I h
 obtain⟨P,α,env,S,r,re,af⟩:=h
 refine thn (wS ha I r re af) fun vv s1 ⟨v,H1,P1,α1,d,S1,G1,af1⟩=>?_
 obtain⟨ds,e1,q⟩:=fX af1
 exact Y1 G1.inv G1.rel G1.val G1.rep e1 (q.base G1.same G1.pre)
def u8 (lo:Int)(n:Nat):List D:=(List.range n).map fun (i:Nat)=>D.int (lo+(i:Int))
theorem dL (lo:Int)(n:Nat):(u8 lo n).length=n:=by simp[u8]
theorem ZJ {P:Hp}{α : List Addr}{lo:Int}{n:Nat}:ItD K (Itr lo n) P α (u8 lo n) where
 go:=fun i H P1 α1 S hi r e _=>by rw[dL] at hi;exact hi
 yld:=fun i H x H' P1 α1 S hi r e e2 y=>by
  obtain⟨rfl,rfl⟩:=y
  rw[dL] at hi
  exact⟨P1,.int (lo+i),by simp[u8,hi],r,qL.refl _,by simp only[Rep]⟩
 stop:=fun i H P1 α1 S hi r e _=>by rw[dL] at hi;exact hi
def rW (ds:List D):Option (List D):=match ds with
 |[.int j]=>if -(2 ^ 62)≤j∧j<2 ^ 62 then some (u8 0 j.toNat) else none
 |[.int i,.int j]=>if -(2 ^ 62)≤i∧i<2 ^ 62 ∧ -(2 ^ 62)≤j∧j<2 ^ 62 then some (u8 i (j-i).toNat) else none
 |_=>none
def uL (f:DA):DI:=fun env S=>(f env S).bind fun ds S1=>gY (rW ds) S1
def asI:D→Option Int
 |.int i=>some i
 |_=>none
theorem cQ {d:D}{i:Int}(h:asI d=some i):d=.int i:=by
 cases d with
 |int k=>exact congrArg D.int (Option.some.inj h)
 |_=>exact nn h
inductive RngV:List D→List D→Prop
 |one (j:Int) (h : -(2 ^ 62)≤j∧j<2 ^ 62):RngV [.int j] (u8 0 j.toNat)
 |two (i j:Int) (h : -(2 ^ 62)≤i∧i<2 ^ 62 ∧ -(2 ^ 62)≤j∧j<2 ^ 62):RngV [.int i,.int j] (u8 i (j-i).toNat)
theorem CJ (d:D):rW [d]=(asI d).bind fun j=>if -(2 ^ 62)≤j∧j<2 ^ 62 then some (u8 0 j.toNat) else none:=by cases d <;> rfl
theorem CK (d d':D):rW [d,d']=(asI d).bind fun i=>(asI d').bind fun j=>if -(2 ^ 62)≤i∧i<2 ^ 62 ∧ -(2 ^ 62)≤j∧j<2 ^ 62 then some (u8 i (j-i).toNat) else none:=by
 cases d with
 |int i=>cases d' <;> rfl
 |_=>rfl
theorem LN {ds its:List D}(h:rW ds=some its):RngV ds its:=by
 cases ds with
 |nil=>exact nn h
 |cons d ds =>
  cases ds with
  |nil =>
   obtain⟨j,e,h⟩:=Option.bind_eq_some_iff.mp ((CJ d).symm.trans h)
   obtain⟨c,rfl⟩:=dD h
   rw[cQ e]
   exact .one j c
  |cons d' ds =>
   cases ds with
   |nil =>
    obtain⟨i,e,h⟩:=Option.bind_eq_some_iff.mp ((CK d d').symm.trans h)
    obtain⟨j,e',h⟩:=Option.bind_eq_some_iff.mp h
    obtain⟨c,rfl⟩:=dD h
    rw[cQ e,cQ e']
    exact .two i j c
   |cons _ _ =>
    have h0:∀ d'' t,rW (d::d'::d''::t)=none:=fun d'' t=>by cases d <;> first|rfl|(cases d' <;> rfl)
    exact nn ((h0 _ _).symm.trans h)
theorem QN {K:PySem.W.Frag}{P:Hp}{α : List Addr}{i:Int}{vs:List V}{ds:List D}(r:qI K P α (.int i::ds) vs):∃ ws,vs=.int i::ws∧qI K P α ds ws:=by
 obtain⟨w,ws,rfl,p,t⟩:=r.cons_inv
 exact⟨ws,congrArg (· :: ws) (by simpa only [Rep] using p),t⟩
theorem PI.weak {iter:Expr}{t t':TI}(h:PI X tg iter t)(w:∀ σ H R,t' σ H R→t σ H R):PI X tg iter t':=fun pins s σ H R I q=>h pins s σ H R I (w σ H R q)
end
section
variable {X:Cx}{tg a b:Expr}{f:DA}{p pos:Pos}
theorem F9 {e:Expr}{es:List Expr}(hg:Gl X "range")(hm:X.mg "range" = none)(ha:PA X (e::es) (tDA X f))(hs:starEach (e::es) X.env=(false,eval e X.env)::starEach es X.env:=by rfl)(hpl:(backTo pos (starEach es X.env)).any (·.1)=false:=by rfl) :
  PI X tg (.Call (.Name "range" p) (e::es) [] pos) (tDI X (uL f)):=by
 intro pins s σ H R I h
 obtain⟨P,α,env,S,r,re,af⟩:=h
 refine Call_ (mQ I hg hm boot_range (PyProof.Rows.callWith_type1 (thn (mH ha I r re af pos) fun us s1 ⟨vs,H1,P1,α1,ds,S1,I1,rv,r1,re1,rp,e1,e2,af1⟩=>?_) hs hpl))
 obtain⟨its,hi,q⟩:=fX af1
 cases LN hi with
 |one j c =>
  obtain⟨ws,rfl,t1⟩:=QN rp
  cases t1.nil_inv
  obtain⟨u,rfl,t,rfl⟩:=tR rv
  refine call_range_1 (YX I1 (by omega) (by omega) c.1 c.2 ?_)
  have z:=q (Itr 0 j.toNat) H1 P1 α1 r1 e1 e2 ZJ
  rw[Int.sub_zero]
  exact z
 |two i j c =>
  obtain⟨ws,rfl,t1⟩:=QN rp
  obtain⟨ws2,rfl,t2⟩:=QN t1
  cases t2.nil_inv
  obtain⟨u,u',rfl,⟨t,rfl⟩,t',rfl⟩:=KO rv
  exact call_range_2 (YX I1 c.1 c.2.1 c.2.2.1 c.2.2.2 (q (Itr i (j-i).toNat) H1 P1 α1 r1 e1 e2 ZJ))
def pW (g:DG)(f:DS):List D→qG→Sto→Out
 |[],env,S=>.nx env S
 |d::ds,env,S=>(g d env S).toS env fun env1 S1=>match f env1 S1 with
  |.nx env2 S2=>pW g f ds env2 S2
  |.ct env2 S2=>pW g f ds env2 S2
  |.bk env2 S2=>.nx env2 S2
  |o=>o
def dN (fi:DI)(g:DG)(f:DS):DS:=fun env S=>(fi env S).toS env fun ds S1=>pW g f ds env S1
inductive LoopW (X:Cx)(P1:Hp)(α1:List Addr)(g:DG)(f:DS)(ds:List D)(D:Ends)(i m:Nat)(σ : _L.St)(H:Hp):Prop
 |mk (hi:i≤ds.length) (hm:m=ds.length-i) (P2:Hp) (α2:List Addr) (env2:qG) (S2:Sto) (r:Rel X.K H P2 α2 S2) (re:xC X.K P2 α2 σ env2) (e1:qL P1 P2) (e2:α1<+:α2) (af:xL X P2 α2 (pW g f (ds.drop i) env2 S2) D):LoopW X P1 α1 g f ds D i m σ H
theorem SK {iter:Expr}{body:List Stmt}{fi:DI}{g:DG}{f:DS}(hp:PassesOwn (model X.prog X.w) X.A X.env X.xe)(hc:X.calm=true)(hi:PI X tg iter (tDI X fi))(hg:PG X tg (tDG X g))(hb:PSs X body (tDS X f))
  (hs:∀ x,foldedSetIterable iter X.env x=pure x:=by intro _;rfl):PS X (.For tg iter body [] pos) (tDS X (dN fi g f)):=psW (EB hp hc hi hg hb hs) fun D σ H ⟨P,α,env,S,r,re,af⟩=>by
 refine⟨P,α,env,S,r,re,?_⟩
 have af1:=gE af
 cases q:fi env S with
 |bad=>rw[q] at af1;exact af1
 |ex c x S'=>rw[q] at af1;exact af1
 |ok ds S1 =>
  rw[q] at af1
  have af2:xL X P α (pW g f ds env S1) D:=af1
  intro J H1 P1 α1 r1 e1 e2 it
  refine⟨LoopW X P1 α1 g f ds D,
   ⟨ds.length,Nat.zero_le _,rfl,P1,α1,env,S1,r1,re.mono e1 e2,qL.refl _,List.prefix_refl _,xL.base e1 e2 af2⟩,?_⟩
  rintro i m σ2 H2 ⟨hi,rfl,P2,α2,env2,S2,r2,re2,e3,e4,af3⟩
  by_cases hlt:i<ds.length
  ·refine .inr ⟨it.go i H2 P2 α2 S2 hlt r2 e3 e4,LoopW X P1 α1 g f ds D (i+1) (ds.length-(i+1)),fun σ' H' w=>⟨_,?_,w⟩,fun x H3 y=>?_⟩
   ·omega
   ·obtain⟨P3,d,hd,r3,e5,rp⟩:=it.yld i H2 x H3 P2 α2 S2 hlt r2 e3 e4 y
    have hdr:ds.drop i=d::ds.drop (i+1):=by
     rw[List.drop_eq_getElem_cons hlt]
     rw[List.getElem?_eq_getElem hlt] at hd
     rw[Option.some.inj hd]
    rw[hdr] at af3
    have af4:=gE (xL.base e5 (List.prefix_refl _) af3)
    refine⟨P3,α2,env2,S2,d,r3,re2.mono e5 (List.prefix_refl _),rp,?_⟩
    cases q2:g d env2 S2 with
    |bad=>rw[q2] at af4;exact af4
    |ex c x S'=>rw[q2] at af4;exact af4
    |ok env3 S3 =>
     rw[q2] at af4
     intro σ4 H4 P4 α4 r4 re4 e6 e7
     refine⟨P4,α4,env3,S3,r4,re4,?_⟩
     have af5:=xL.base e6 e7 af4
     cases q3:f env3 S3 with
     |bad=>simp only[q3] at af5;exact af5
     |ex c x env4 S4=>simp only[q3] at af5;exact af5
     |rt d4 S4=>simp only[q3] at af5;exact af5
     |bk env4 S4=>simp only[q3] at af5;exact af5
     |nx env4 S4 =>
      simp only[q3] at af5
      exact fun σ5 H5 P5 α5 r5 re5 e8 e9=>⟨hlt,rfl,P5,α5,env4,S4,r5,re5,((e3.trans e5).trans e6).trans e8,(e4.trans e7).trans e9,xL.base e8 e9 af5⟩
     |ct env4 S4 =>
      simp only[q3] at af5
      exact fun σ5 H5 P5 α5 r5 re5 e8 e9=>⟨hlt,rfl,P5,α5,env4,S4,r5,re5,((e3.trans e5).trans e6).trans e8,(e4.trans e7).trans e9,xL.base e8 e9 af5⟩
  ·have hdr:ds.drop i=[]:=List.drop_eq_nil_of_le (by omega)
   rw[hdr] at af3
   exact .inl ⟨it.stop i H2 P2 α2 S2 (by omega) r2 e3 e4,af3 σ2 H2 P2 α2 r2 re2 (qL.refl _) (List.prefix_refl _)⟩
end
end _D
end
section
namespace _D
open PySem PySem.Spec PyProof.Rows _L
abbrev DF:=List D→Sto→Res D
section
variable {X:Cx}{x:Str}{p pos:Pos}{e:Expr}{es:List Expr}{F:DF}{fa:DA}
def qH (F:DF)(fa:DA):DE:=fun env S=>(fa env S).bind fun ds S1=>F ds S1
theorem Z6 {F:DF}{u:Value}{pins:List (Addr × Obj)}{s1:Shared}{σ : _L.St}{H1 P P1:Hp}{α α1:List Addr}{vs:List V}{us:List Value}{ds:List D}{S1:Sto}{Q:VK}(hc:kL X u F)(I1:Inv X pins σ H1 s1)(r1:Rel X.K H1 P1 α1 S1)(rv:qQ vs us)
  (rp:qI X.K P1 α1 ds vs) (e1:qL P P1) (e2:α<+:α1) (af:qN X P α (F ds S1) (OkV X P α Q)):wpAny (model X.prog X.w) X.A (call u us) (EP X pins σ Q) X.xe s1:=hc pins σ H1 s1 P1 α1 S1 vs us ds Q I1 r1 rv rp (x8.base e1 e2 af)
theorem F4 {id:String}(hc:kL X (.builtin id) F)(hg:Gl X x)(hm:X.mg x=none)(hv:bootBuiltins x=some (.builtin id))(ha:PA X (e::es) (tDA X fa))(hn:x ≠ "__name__":=by decide)(hdb:(x == ("__debug__" : Str))=false:=by decide)
  (he:starEach (e::es) X.env=(false,eval e X.env)::starEach es X.env:=by rfl) (hpl:(backTo pos (starEach es X.env)).any (·.1)=false:=by rfl):PE X (.Call (.Name x p) (e::es) [] pos) (tD X (qH F fa)):=by
 intro pins s σ H Q I h
 obtain⟨P,α,env,S,r,re,af⟩:=h
 refine wpAny_Call_Name_kw (mQ I hg hm hv ?_ hn hdb)
 exact PyProof.Rows.callWith_builtin1 (thn (mH ha I r re af pos) fun us s1 ⟨vs,H1,P1,α1,ds,S1,I1,rv,r1,re1,rp,e1,e2,af1⟩=>Z6 hc I1 r1 rv rp e1 e2 af1) he hpl
theorem GG {T:String}(hc:kL X (.type T) F)(hg:Gl X x)(hm:X.mg x=none)(hv:bootBuiltins x=some (.type T))(ha:PA X (e::es) (tDA X fa))(hn:x ≠ "__name__":=by decide)(hdb:(x == ("__debug__" : Str))=false:=by decide)
  (he:starEach (e::es) X.env=(false,eval e X.env)::starEach es X.env:=by rfl) (hpl:(backTo pos (starEach es X.env)).any (·.1)=false:=by rfl):PE X (.Call (.Name x p) (e::es) [] pos) (tD X (qH F fa)):=by
 intro pins s σ H Q I h
 obtain⟨P,α,env,S,r,re,af⟩:=h
 refine wpAny_Call_Name_kw (mQ I hg hm hv ?_ hn hdb)
 exact PyProof.Rows.callWith_type1 (thn (mH ha I r re af pos) fun us s1 ⟨vs,H1,P1,α1,ds,S1,I1,rv,r1,re1,rp,e1,e2,af1⟩=>Z6 hc I1 r1 rv rp e1 e2 af1) he hpl
end
end _D
end
section
namespace _D
open PySem PySem.Spec PyProof.Rows _L
theorem aV {α : Type}{t:Sem α}{Q Q':α→Shared→Prop}{M:Model}{A:Around}{E:Value→Shared→Prop}{s:Shared}(h:wpAny M A t Q (fun _ _=>False) s)(hQ:∀ a s,Q a s→Q' a s):wpAny M A t Q' E s:=wpAny_mono h hQ fun _ _ x=>x.elim
def lN (ifs:List Expr)(env:Env):Sem Bool:=forIn ifs true fun c r=>if r=true then do let ok ← PySem.isTrue c env (eval c env);pure (ForInStep.yield ok) else pure (ForInStep.yield r)
def PTs (X:Cx)(ifs:List Expr)(t:DT):Prop:=
 ∀ (pins:List (Addr × Obj)) (s:Shared) (σ : _L.St) (H:Hp) (Q:Bool→Hp→Prop),Inv X pins σ H s→tDT X t σ H Q→wpAny (model X.prog X.w) X.A (lN ifs X.env) (TP X pins σ Q) X.xe s
def xE:DT:=fun _ S=>.ok true S
section
variable {X:Cx}
theorem N9:PTs X [] xE:=fun pins s σ H Q I ⟨P,α,env,S,r,re,af⟩=>by
 unfold lN
 rw[List.forIn_nil]
 exact wpAny_pure ⟨H,I,af H P α r (qL.refl _) (List.prefix_refl _)⟩
theorem AM {e:Expr}{f:DE}{pins:List (Addr × Obj)}{s:Shared}{σ : _L.St}{H P:Hp}{α : List Addr}{env:qG}{S:Sto}{d:D}{S1:Sto}(he:PE X e (tD X f))(I:Inv X pins σ H s)(r:Rel X.K H P α S)(re:xC X.K P α σ env)(q:f env S=.ok d S1) :
  wpAny (model X.prog X.w) X.A (eval e X.env) (fun u s1=>∃ v H1 P1 α1,Got X pins σ env P α u s1 v H1 P1 α1 d S1) X.xe s:=by
 refine thn (wS (g:=fun d S=>Res.ok d S) (Ok:=fun d' S'=>d'=d∧S'=S1) he I r re (by rw[q];exact⟨rfl,rfl⟩)) fun u s1 ⟨v,H1,P1,α1,d',S',G,h1,h2⟩=>?_
 have e1:d'=d:=h1
 have e2:S'=S1:=h2
 subst e1;subst e2
 exact⟨v,H1,P1,α1,G⟩
theorem CC {ifs:List Expr}{t:DT}{pins:List (Addr × Obj)}{s:Shared}{σ : _L.St}{H P:Hp}{α : List Addr}{env:qG}{S:Sto}{b:Bool}{S1:Sto}(he:PTs X ifs t)(I:Inv X pins σ H s)(r:Rel X.K H P α S)(re:xC X.K P α σ env)(q:t env S=.ok b S1) :
  wpAny (model X.prog X.w) X.A (lN ifs X.env) (fun b' s1=>b'=b∧∃ H1 P1 α1,Inv X pins σ H1 s1∧Rel X.K H1 P1 α1 S1∧xC X.K P1 α1 σ env∧qL P P1∧α<+:α1) X.xe s:=by
 refine thn (he pins s σ H (fun b' H1=>b'=b∧∃ P1 α1,Rel X.K H1 P1 α1 S1∧xC X.K P1 α1 σ env∧qL P P1∧α<+:α1) I ⟨P,α,env,S,r,re,?_⟩) fun b' s1 ⟨H1,I1,e,P1,α1,q1,q2,q3,q4⟩=>⟨e,H1,P1,α1,I1,q1,q2,q3,q4⟩
 rw[q]
 exact fun H' P' α' r' e1 e2=>⟨rfl,P',α',r',re.mono e1 e2,e1,e2⟩
theorem AN {tg:Expr}{g:DG}{pins:List (Addr × Obj)}{s:Shared}{σ : _L.St}{H P:Hp}{α : List Addr}{env env1:qG}{S:Sto}{d:D}{v:V}{u:Value}{S1:Sto}(hg:PG X tg (tDG X g))(I:Inv X pins σ H s)(r:Rel X.K H P α S)(re:xC X.K P α σ env)(rv:qO v u)
  (rp:Rep X.K P α d v) (q:g d env S=.ok env1 S1) :
  wpAny (model X.prog X.w) X.A (assign tg X.env u) (fun _ s1=>∃ σ1 H1 P1 α1,Inv X pins σ1 H1 s1∧Rel X.K H1 P1 α1 S1∧xC X.K P1 α1 σ1 env1∧qL P P1∧α<+:α1) X.xe s:=by
 refine thn (hg pins s σ H v u (fun σ1 H1=>∃ P1 α1,Rel X.K H1 P1 α1 S1∧xC X.K P1 α1 σ1 env1∧qL P P1∧α<+:α1) I rv ⟨P,α,env,S,d,r,re,rp,?_⟩) fun _ s1 ⟨σ1,H1,I1,P1,α1,q1,q2,q3,q4⟩=>⟨σ1,H1,P1,α1,I1,q1,q2,q3,q4⟩
 rw[q]
 exact fun σ' H' P' α' r' re' e1 e2=>⟨P',α',r',re',e1,e2⟩
def oH (K:PySem.W.Frag)(P:Hp)(α : List Addr)(ds:List D)(o:Obj):Prop:=∃ (its:List Value) (n:Nat) (vs:List V),o={ cls:=.type "list",data:=.seq its.toArray n } ∧ qQ vs its∧qI K P α ds vs∧ds.length≤lim
theorem oH.mono {K:PySem.W.Frag}{P P1:Hp}{α α1:List Addr}{ds:List D}{o:Obj}(e:qL P P1)(h:α<+:α1)(a:oH K P α ds o):oH K P1 α1 ds o:=by
 obtain⟨its,n,vs,q1,q2,q3,q4⟩:=a
 exact⟨its,n,vs,q1,q2,qI.mono e h _ _ q3,q4⟩
theorem oH.cell {K:PySem.W.Frag}{P:Hp}{α : List Addr}{ds:List D}{o:Obj}(a:oH K P α ds o):∀ v,o.data≠.cell v:=by
 obtain⟨its,n,vs,rfl,_⟩:=a
 intro v z;cases z
theorem Inv.pin1 {pins:List (Addr × Obj)}{σ : _L.St}{H:Hp}{s:Shared}{a:Addr}{o:Obj}(I:Inv X pins σ H s)(f:yX X pins H a)(e:s.heap.get? a=some o)(d:∀ v,o.data≠.cell v):Inv X (pins++[(a,o)]) σ H s:=
 I.pins_of fun p hp=>(List.mem_append.mp hp).elim (fun z=>I.pin p (List.mem_append_right _ z)) fun z=>by
  have e':p=(a,o):=by simpa using z
  subst e'
  exact⟨e,f.1,f.2.1,f.2.2.1,d⟩
theorem Inv.pinned1 {pins:List (Addr × Obj)}{σ : _L.St}{H:Hp}{s:Shared}{a:Addr}{o:Obj}(I:Inv X (pins++[(a,o)]) σ H s):s.heap.get? a=some o∧H a=none:=by
 have:=I.pin (a,o) (List.mem_append_right _ (List.mem_append_right _ (by simp)))
 exact⟨this.1,this.2.1⟩
end
end _D
end
section
namespace _D
open PySem PySem.Spec PyProof.Rows _L
structure TurnSt (Y:Cx)(pins:List (Addr × Obj))(P1:Hp)(α1:List Addr)(fp:List Addr)(acc:Addr)(env:qG)(S:Sto)(ds:List D)(s:Shared)(σ : _L.St)(H P:Hp)(α : List Addr)(o:Obj):Prop where
 inv:Inv Y pins σ H s
 rel:Rel Y.K H P α S
 env:xC Y.K P α σ env
 same:qL P1 P
 pre:α1<+:α
 fpn:∀ b∈fp,H b=none
 acn:H acc=none
 at':s.heap.get? acc=some o
 acc:oH Y.K P α ds o
end _D
end
section
namespace _D
open PySem PySem.Spec PyProof.Rows _L
def uK (cells:List (Str × Addr)):List (Str × NameKind)→List (Str × Addr)→List (Str × Addr)
 |[],cs=>cs
 |(n,k)::r,cs=>uK cells r (if k == .free then (n,(cells.lookup n).getD 0)::cs else cs)
theorem X7 {env:Env}{scope:Scope}(h:∀ y∈scope.names,y.2=.free→∃ c,env.cells.lookup y.1=some c):closureFor scope env=pure (uK env.cells scope.names []):=by
 have go:∀ (l:List (Str × NameKind)) (cs:List (Str × Addr)),(∀ y∈l,y.2=.free→∃ c,env.cells.lookup y.1=some c) →
   (forIn l cs fun x cs=>match x with|(name,kind)=>if (kind == NameKind.free)=true then do let a ← cellOf env name;pure (ForInStep.yield ((name,a)::cs)) else pure (ForInStep.yield cs):Sem (List (Str × Addr)))=pure (uK env.cells l cs):=by
  intro l
  induction l with
  |nil=>intro cs _;rfl
  |cons y r ih =>
   intro cs hl
   obtain⟨n,k⟩:=y
   rw[List.forIn_cons]
   by_cases hk:k=.free
   ·subst hk
    obtain⟨c,hc⟩:=hl (n,.free) List.mem_cons_self rfl
    have hc':env.cells.lookup n=some c:=hc
    have e:cellOf env n=pure c:=by unfold cellOf;rw[hc']
    simp only[beq_self_eq_true,if_true,e,pure_bind]
    rw[ih _ fun z hz=>hl z (List.mem_cons_of_mem _ hz)]
    simp only[uK,beq_self_eq_true,if_true,hc',Option.getD_some]
   ·have hb:(k == NameKind.free)=false:=by simpa using hk
    simp only[hb,Bool.false_eq_true,if_false,pure_bind]
    rw[ih _ fun z hz=>hl z (List.mem_cons_of_mem _ hz)]
    simp only[uK,hb,Bool.false_eq_true,if_false]
 unfold closureFor
 have:=go scope.names [] h
 simp only[bind_pure]
 exact this
theorem cG {cells:List (Str × Addr)}{x:Str}{c:Addr}:∀ (l:List (Str × NameKind)) (cs:List (Str × Addr)),(uK cells l cs).lookup x=some c→cs.lookup x=some c∨((x,NameKind.free)∈l∧c=(cells.lookup x).getD 0)
 |[],cs,h=>.inl h
 |(n,k)::r,cs,h=>by
  rcases cG r _ h with h|⟨h1,h2⟩
  ·by_cases hk:k=.free
   ·subst hk
    simp only[beq_self_eq_true,if_true,List.lookup_cons] at h
    cases hb:x == n with
    |true =>
     rw[hb] at h
     have e:x=n:=by simpa using hb
     subst e
     exact .inr ⟨List.mem_cons_self,(Option.some.inj h).symm⟩
    |false=>rw[hb] at h;exact .inl h
   ·have hb:(k == NameKind.free)=false:=by simpa using hk
    simp only[hb,Bool.false_eq_true,if_false] at h
    exact .inl h
  ·exact .inr ⟨List.mem_cons_of_mem _ h1,h2⟩
theorem sX {cells:List (Str × Addr)}{x:Str}:∀ (l:List (Str × NameKind)) (cs:List (Str × Addr)),((x,NameKind.free)∈l∨∃ c,cs.lookup x=some c)→∃ c,(uK cells l cs).lookup x=some c
 |[],cs,h=>by
  rcases h with h|h
  ·cases h
  ·exact h
 |(n,k)::r,cs,h=>by
  refine sX r _ ?_
  rcases h with h|⟨c,h⟩
  ·rcases List.mem_cons.mp h with e|h
   ·cases e
    exact .inr ⟨(cells.lookup x).getD 0,by simp only[beq_self_eq_true,if_true,List.lookup_cons]⟩
   ·exact .inl h
  ·by_cases hk:k=.free
   ·subst hk
    simp only[beq_self_eq_true,if_true,List.lookup_cons]
    cases hb:x == n with
    |true=>exact .inr ⟨_,rfl⟩
    |false=>exact .inr ⟨c,h⟩
   ·have hb:(k == NameKind.free)=false:=by simpa using hk
    simp only[hb,Bool.false_eq_true,if_false]
    exact .inr ⟨c,h⟩
structure CompSc (scX:Scope)(NX:List Str)(scope:Scope)(N':List Str)(cap:List (Option Nat)):Prop where
 kind:scope.kind=.function
 names:∀ y∈scope.names,y.2=.local → scope.names.lookup y.1=some .local
 nocell:∀ y∈scope.names,y.2≠.cell
 free:∀ y∈scope.names,y.2=.free→scX.names.lookup y.1=some .cell∨scX.names.lookup y.1=some .free
 fr2:∀ y∈scope.names,y.2=.free→scope.names.lookup y.1=some .free
 len:cap.length=N'.length
 caps:((cap.zip N').all fun p=>match p.1 with|none=>true|some i=>NX[i]? == some p.2&&scope.names.lookup p.2 == some .free)=true
 nd:N'.Nodup
def p9 (cap:List (Option Nat))(σ : _L.St):_L.St:=cap.map fun o=>match o with
 |none=>none
 |some i=>(σ[i]?).join
def vN (cap:List (Option Nat))(env:qG):qG:=cap.map fun o=>match o with
 |none=>none
 |some i=>(env[i]?).join
theorem B1 {K:PySem.W.Frag}{P:Hp}{α : List Addr}{σ : _L.St}{env:qG}(re:xC K P α σ env)(cap:List (Option Nat)):xC K P α (p9 cap σ) (vN cap env):=by
 refine⟨by simp[p9,vN],fun j d e=>?_⟩
 unfold vN at e
 unfold p9
 rw[List.getElem?_map] at e ⊢
 cases q:cap[j]? with
 |none=>rw[q] at e;cases e
 |some o =>
  rw[q] at e
  cases o with
  |none=>cases e
  |some i =>
   have e':(env[i]?).join=some d:=by simpa using e
   cases z:env[i]? with
   |none=>rw[z] at e';cases e'
   |some w =>
    rw[z] at e'
    have e'':w=some d:=e'
    subst e''
    obtain⟨v,h1,h2⟩:=re.2 i d z
    exact⟨v,by simp[h1],h2⟩
def zV (X:Cx)(N':List Str)(scope:Scope)(cl:List (Str × Addr))(C:Addr)(ex:List Addr)(s₀:Shared)(H₀:Hp):Cx:=
 { X with N:=N',s₀:=s₀,H₀:=H₀,env:=compEnvC scope cl C X.env,outer:=X.stack,stack:=X.stack,ex:=ex,fn:=fun _=>false,pn:=[],xe:=fun _ _=>False }
theorem mW {scope:Scope}{env:Env}:∀ {names:List (Str × NameKind)} {x:Str} {k:NameKind},
  (names.map fun (n,k)=>if (k == NameKind.free&&env.scope.kind == .function&&env.kindOf n == some .cell) then (n,NameKind.cell) else (n,k)).lookup x=some k →
  names.lookup x=some k∨(k=.cell∧names.lookup x=some .free)
 |[],_,_,h=>by simp at h
 |(n,k0)::r,x,k,h=>by
  rw[List.map_cons,List.lookup_cons] at h
  rw[List.lookup_cons]
  dsimp only at h
  cases hb:(k0 == NameKind.free&&env.scope.kind == .function&&env.kindOf n == some .cell) with
  |true =>
   rw[hb] at h
   simp only[if_true] at h
   cases hx:x == n with
   |true =>
    rw[hx] at h
    have e:NameKind.cell=k:=Option.some.inj h
    have hk:k0=.free:=by
     have:=(Bool.and_eq_true _ _).mp hb
     have:=(Bool.and_eq_true _ _).mp this.1
     simpa using this.1
    subst hk
    exact .inr ⟨e.symm,rfl⟩
   |false=>rw[hx] at h;exact mW (scope:=scope) h
  |false =>
   rw[hb] at h
   simp only[Bool.false_eq_true,if_false] at h
   cases hx:x == n with
   |true=>rw[hx] at h;exact .inl h
   |false=>rw[hx] at h;exact mW (scope:=scope) h
section
variable {X:Cx}{scope:Scope}{N':List Str}{cap:List (Option Nat)}{pins:List (Addr × Obj)}{σ : _L.St}{H2:Hp}{s2:Shared}{fp:List Addr}
theorem lU (S:CompSc X.env.scope X.N scope N' cap){x:Str}{k:NameKind}(h:(relabel scope X.env).names.lookup x=some k):scope.names.lookup x=some k∨(k=.cell∧scope.names.lookup x=some .free):=mW (scope:=scope) h
theorem vK (S:CompSc X.env.scope X.N scope N' cap)(ok:X.Ok){x:Str}{c:Addr}(h:(uK X.env.cells scope.names []).lookup x=some c):X.env.cells.lookup x=some c:=by
 rcases cG _ _ h with h|⟨hm,hc⟩
 ·cases h
 ·have:=S.free _ hm rfl
  obtain⟨c',hc'⟩:=ok.has x this
  rw[hc',Option.getD_some] at hc
  rw[hc',hc]
theorem TN {C:Addr}(S:CompSc X.env.scope X.N scope N' cap)(I2:Inv X pins σ H2 s2)(hf:∀ b∈fp,yX X pins H2 b)(hlt:∀ b∈fp,b<s2.heap.objs.size)(hC:s2.heap.objs.size≤C) :
  (zV X N' scope (uK X.env.cells scope.names []) C fp s2 H2).Ok where
 mod:=I2.ok.mod
 kind:=S.kind
 glob:=I2.ok.glob
 blt:=I2.ok.blt
 above:=hC
 inj:=fun x y c h1 h2=>I2.ok.inj x y c (vK S I2.ok h1) (vK S I2.ok h2)
 has:=fun x hx=>by
  have hx':(relabel scope X.env).names.lookup x=some .cell∨(relabel scope X.env).names.lookup x=some .free:=hx
  have hf:scope.names.lookup x=some .free:=by
   rcases hx' with h|h
   ·rcases lU S h with h|⟨_,h⟩
    ·exact absurd rfl (S.nocell _ (PySem.mem_of_lookup h))
    ·exact h
   ·rcases lU S h with h|⟨z,_⟩
    ·exact h
    ·cases z
  exact sX _ _ (.inl (PySem.mem_of_lookup hf))
 cab:=fun x c h _=>by cases h
 hd:=I2.ok.hd
 frames:=I2.ok.frames
 stk:=.inl rfl
 exf:=fun b hb=>⟨Nat.ne_of_lt (Nat.lt_of_lt_of_le (hlt b hb) hC),fun x c h=>(hf b hb).2.2.2.2.1 x c (vK S I2.ok h)⟩
 bs:=I2.bs
 bsz:=Nat.le_trans I2.ok.bsz I2.sz
 noex:=fun b o e hb=>by
  obtain⟨_,_,_,h,_⟩:=hf b hb
  rcases h with h|h
  ·exact I2.ok.noex b o e h
  ·exact absurd (Nat.lt_of_lt_of_le (Heap.lt_size e) (Nat.le_trans I2.ok.bsz h)) (Nat.lt_irrefl _)
 exfs:=fun b hb hb2=>by
  obtain⟨_,h1,h2,_⟩:=hf b hb
  rcases List.mem_cons.mp (I2.stkSub b hb2) with z|z
  ·exact h1 z
  ·exact h2 z
 funs:=I2.stack
 frf:=I2.stkFree
theorem BY {s4:Shared}{C:Addr}{m:Str→Option Value}(S:CompSc X.env.scope X.N scope N' cap)(I2:Inv X pins σ H2 s2)(hf:∀ b∈fp,yX X pins H2 b)(hlt:∀ b∈fp,b<s2.heap.objs.size)(hC:s2.heap.objs.size≤C)
  (hn:s4.heap.Ns C m) (os:s4.os=s2.os) (gens:s4.gens=s2.gens) (keep:∀ b o,s2.heap.get? b=some o→s4.heap.get? b=some o) :
  Inv (zV X N' scope (uK X.env.cells scope.names []) C fp s2 H2) [] (p9 cap σ) H2 s4 where
 ok:=TN S I2 hf hlt hC
 os:=os
 bare:=gens▸I2.bare
 base:=Un.kept keep
 loc:=by
  refine⟨m,hn,fun j x v h1 h2 h3=>?_⟩
  have h1':N'[j]? = some x:=h1
  unfold p9 at h2
  rw[List.getElem?_map] at h2
  cases q:cap[j]? with
  |none=>rw[q] at h2;cases h2
  |some o =>
   rw[q] at h2
   cases o with
   |none=>cases h2
   |some i =>
    have e':(σ[i]?).join=some v:=by simpa using h2
    have hσ:σ[i]? = some (some v):=by
     cases z:σ[i]? with
     |none=>rw[z] at e';cases e'
     |some w=>rw[z] at e';have:w=some v:=e';rw[this]
    have hz:(some i,x)∈cap.zip N':=by
     refine List.mem_iff_getElem?.mpr ⟨j,?_⟩
     rw[List.getElem?_zip_eq_some]
     exact⟨q,h1'⟩
    have hc:=List.all_eq_true.mp S.caps _ hz
    simp only[Bool.and_eq_true,beq_iff_eq] at hc
    obtain⟨hN,hfr⟩:=hc
    have hk:=S.free _ (PySem.mem_of_lookup hfr) rfl
    obtain⟨mo,hmo,hl⟩:=I2.loc
    have vis:Vis X.env.scope x:=by
     rcases hk with k|k
     ·exact .inr (.inl k)
     ·exact .inr (.inr k)
    obtain⟨u,ru,lk⟩:=hl i x v hN hσ vis
    refine⟨u,ru,?_⟩
    rcases lk with⟨kl,_⟩|⟨_,c,hcl,hcell⟩
    ·have kl':X.env.scope.names.lookup x=some .local:=kl
     rcases hk with k|k
     ·have k':X.env.scope.names.lookup x=some .cell:=k
      rw[kl'] at k';cases k'
     ·have k':X.env.scope.names.lookup x=some .free:=k
      rw[kl'] at k';cases k'
    ·obtain⟨c',hc'⟩:=sX (cells:=X.env.cells) scope.names [] (.inl (PySem.mem_of_lookup hfr))
     have e2:=vK S I2.ok hc'
     rw[hcl] at e2;cases e2
     refine .inr ⟨?_,c,hc',?_⟩
     ·have h3':Vis (relabel scope X.env) x:=h3
      rcases h3' with h|h|h
      ·rcases lU S h with h|⟨z,_⟩
       ·rw[hfr] at h;cases h
       ·cases z
      ·exact .inl h
      ·exact .inr h
     ·obtain⟨ob,hob,hd⟩:=hcell
      exact⟨ob,keep c ob hob,hd⟩
 cell:=fun x c h=>by
  obtain⟨v,ob,hob,hd⟩:=I2.cell x c (vK S I2.ok h)
  exact⟨v,ob,keep c ob hob,hd⟩
 free:=I2.hok.fresh hC
 freeC:=fun x c h=>I2.freeC x c (vK S I2.ok h)
 pin:=fun p hp=>absurd (show p∈([]:List (Addr × Obj)) from hp) (by simp)
 hok:=I2.hok.kept keep
 len:=by
  show (p9 cap σ).length=N'.length
  simp[p9,S.len]
end
end _D
end
section
namespace _D
open PySem PySem.Spec PyProof.Rows _L
theorem GN {P:Program}{w:World}{H:Hp}{h:Heap}{a:Addr}{o:HO}(x:HOk P w H h)(hn:H a=none)(new:xG P w (upd H a o) h a o):HOk P w (upd H a o) h:=fun b u e=>by
 by_cases hb:b=a
 ·subst hb;rw[xR] at e;cases e;exact new
 ·rw[zI hb] at e
  exact(x b u e).stay (fun c v _ q=>q) (fun c q=>by rw[zI (xT q hn)];exact q) fun c xs q=>by rw[zI (xT q hn)];exact q
theorem GM {P:Program}{w:World}{H:Hp}{h h':Heap}{C:Addr}(x:HOk P w H h)(hn:H C=none)(k:∀ b o,b≠C→h.get? b=some o→h'.get? b=some o):HOk P w H h':=fun b u e =>
 (x b u e).stay (fun c v hc q=>k c v (by
  rintro rfl
  rcases hc with z|z
  ·subst z;rw[hn] at e;cases e
  ·rw[hn] at z;cases z) q) (fun _ q=>q) fun _ _ q=>q
section
variable {X:Cx}{elt tg iter:Expr}{ifs:List Expr}{scope:Scope}{pos:Pos}{N':List Str}{cap:List (Option Nat)}{fi:DI}{g:DG}{t:DT}{fe:DE}
def eE (X:Cx)(pins:List (Addr × Obj))(σ : _L.St)(P1:Hp)(α1:List Addr)(ds:List D)(SF:Sto)(acc C:Addr)(s:Shared):Prop:=
 ∃ (H' P':Hp) (α' : List Addr) (vs:List V),Inv X pins σ (upd H' acc (.lst vs)) s∧Rel X.K H' P' α' SF∧H' acc=none∧qL P1 P'∧α1<+:α'∧qI X.K P' α' ds vs∧H' C=none
theorem BX {Y:Cx}{pins:List (Addr × Obj)}{σ σ':_L.St}{H2:Hp}{s2 s':Shared}{fp:List Addr}{acc C:Addr}{P1:Hp}{α1:List Addr}{H' P':Hp}{α' : List Addr}{envF:qG}{SF:Sto}{ds:List D}{o:Obj}{cl:List (Str × Addr)}(I2:Inv X pins σ H2 s2)
  (hf:∀ b∈fp,yX X pins H2 b) (hY:Y=zV X N' scope cl C fp s2 H2) (hC:s2.heap.objs.size≤C) (hA:s2.heap.objs.size≤acc) (hne:acc≠C) (st:TurnSt Y [] P1 α1 fp acc envF SF ds s' σ' H' P' α' o)
  {h':Heap} (sb:Heap.SameBut C s'.heap h'):eE X pins σ P1 α1 ds SF acc C { s' with heap:=h' }:=by
 subst hY
 obtain⟨its,n,vs,rfl,rv,rp,hz⟩:=st.acc
 have kC:∀ b o,b≠C→s'.heap.get? b=some o→h'.get? b=some o:=fun b o hb e=>(sb.2 b hb).trans e
 have nC:∀ b o,s2.heap.get? b=some o→b≠C:=fun b o e=>Nat.ne_of_lt (Nat.lt_of_lt_of_le (Heap.lt_size e) hC)
 have nA:∀ b o,s2.heap.get? b=some o→b≠acc:=fun b o e=>Nat.ne_of_lt (Nat.lt_of_lt_of_le (Heap.lt_size e) hA)
 have base:Un (frs X.stack) fp H2 H' s2.heap s'.heap:=st.inv.base
 have nt:∀ b u,H' b=some u→b≠acc:=fun b u e=>xT e st.acn
 have un:Un (frs X.stack) fp H2 (upd H' acc (.lst vs)) s2.heap h':=by
  refine⟨fun b ob q hn hb hx=>kC b ob (nC b ob q) (base.keep b ob q hn hb hx),fun b ob q hn hb hx=>?_,fun b ob q hn hx=>?_,fun b ob q hx=>?_,fun b xs q=>?_,fun b ob u q=>?_,fun b ps q=>?_⟩
  ·obtain⟨sl,e⟩:=base.slot b ob q hn hb hx
   exact⟨sl,kC b _ (nC b ob q) e⟩
  ·rw[zI (nA b ob q)];exact base.free b ob q hn hx
  ·obtain⟨o',e⟩:=base.there b ob q hx
   exact⟨o',kC b o' (nC b ob q) e⟩
  ·have:=base.tups b xs q;rw[zI (nt _ _ this)];exact this
  ·have:=base.frzs b ob u q;rw[zI (nt _ _ this)];exact this
  ·obtain⟨more,e⟩:=base.tbls b ps q
   exact⟨more,by rw[zI (nt _ _ e)];exact e⟩
 have hok':HOk X.prog X.w H' h':=GM st.inv.hok st.inv.free kC
 have hat:h'.get? acc=some { cls:=.type "list",data:=.seq its.toArray n }:=kC acc _ hne st.at'
 have hok:HOk X.prog X.w (upd H' acc (.lst vs)) h':=GN hok' st.acn ⟨by rw[← rp.length,← vL];exact hz,its,n,rv,hat⟩
 refine⟨H',P',α',vs,?_,st.rel,st.acn,st.same,st.pre,rp,st.inv.free⟩
 exact I2.call' (s':={ s' with heap:=h' }) (ch:=fp) (st.inv.os) un hok st.inv.bare fun b hb=>by
  obtain⟨_,h1,h2,h3,h4,h5⟩:=hf b hb
  exact⟨h3,h1,h4,h5⟩
theorem UD (S:CompSc X.env.scope X.N scope N' cap)(ok:X.Ok):closureFor scope X.env=pure (uK X.env.cells scope.names []):=X7 fun y hy hk=>ok.has y.1 (S.free y hy hk)
theorem NA {pins:List (Addr × Obj)}{σ : _L.St}{P1:Hp}{α1:List Addr}{ds:List D}{SF:Sto}{acc C:Addr}{s:Shared}{Q:VK}(c:eE X pins σ P1 α1 ds SF acc C s)(ok:OkV X P1 α1 Q (.lst ds) SF):EP X pins σ Q (.ref acc) s:=by
 obtain⟨H',P',α',vs,I,r,hn,e1,e2,rp,_⟩:=c
 exact⟨.ref acc,_,I,rfl,kX r hn rp fun v H2 P2 α2 r2 q1 q2 q3=>ok v H2 P2 α2 r2 (e1.trans q1) (e2.trans q2) q3⟩
end
end _D
end
section
namespace _D
open PySem PySem.Spec PyProof.Rows _L PySem.SeqAt
def b01 (b:Bool):Int:=if b then 1 else 0
mutual
def eqD:D→D→Bool
 |.non,.non=>true
 |.bl a,.bl b=>a == b
 |.bl a,.int b=>b01 a == b
 |.int a,.bl b=>a == b01 b
 |.int a,.int b=>a == b
 |.str a,.str b=>a == b
 |.tup xs,.tup ys=>yS xs ys
 |.lst xs,.lst ys=>yS xs ys
 |_,_=>false
def yS:List D→List D→Bool
 |[],[]=>true
 |x::xs,y::ys=>eqD x y&&yS xs ys
 |_,_=>false
end
def pl:Nat→D→Bool
 |_,.non=>true
 |_,.bl _=>true
 |_,.int _=>true
 |_,.str _=>true
 |n+1,.tup xs=>xs.all (pl n)
 |n+1,.lst xs=>xs.all (pl n)
 |_,_=>false
theorem GI (x y:D)(xs ys:List D):yS (x::xs) (y::ys)=(eqD x y&&yS xs ys):=rfl
theorem mK:∀ (xs ys:List D),yS xs ys=((List.range (min xs.length ys.length)).all (fun j=>eqD (xs.getD j .non) (ys.getD j .non))&&xs.length == ys.length)
 |[],[]=>rfl
 |[],y::ys=>rfl
 |x::xs,[]=>rfl
 |x::xs,y::ys=>by
  have ih:=mK xs ys
  rw[GI,ih,List.length_cons,List.length_cons,Nat.succ_min_succ,List.range_succ_eq_map,List.all_cons,List.all_map,Bool.and_assoc]
  have e:(xs.length+1 == ys.length+1)=(xs.length == ys.length):=by simp
  rw[e]
  rfl
theorem FG {xs ys:List D}(h:xs.length≠ys.length):yS xs ys=false:=by
 rw[mK]
 simp[h]
theorem oY (xs ys:List D):eqD (.tup xs) (.tup ys)=yS xs ys:=rfl
theorem oX (xs ys:List D):eqD (.lst xs) (.lst ys)=yS xs ys:=rfl
section
variable {X:Cx}{pins:List (Addr × Obj)}{σ : _L.St}{H P:Hp}{α : List Addr}{S:Sto}{s:Shared}
inductive Kd (X:Cx)(P:Hp)(α : List Addr)(s:Shared):D→Value→Prop where
 |non:Kd X P α s .non .none
 |bl (b:Bool):Kd X P α s (.bl b) (.bool b)
 |int (i:Int) (t:Tok):Kd X P α s (.int i) (.int i t)
 |str (x:Str) (t:Tok):Kd X P α s (.str x) (.str x t)
 |tup (a:Addr) (xs:List D) (its:List Value) (vs:List V) (rp:qI X.K P α xs vs) (rv:qQ vs its) (h:s.heap.IsTuple a its.toArray) (q:SqT X.K P a vs):Kd X P α s (.tup xs) (.ref a)
 |lst (a:Addr) (xs:List D) (its:List Value) (vs:List V) (rp:qI X.K P α xs vs) (rv:qQ vs its) (h:s.heap.IsList a its.toArray) (q:SqX X.K P a vs):Kd X P α s (.lst xs) (.ref a)
theorem tJ (I:Inv X pins σ H s)(r:Rel X.K H P α S){n:Nat}{d:D}{v:V}{u:Value}(h:pl n d=true)(p:Rep X.K P α d v)(rv:qO v u):Kd X P α s d u:=by
 cases d with
 |non=>simp only[Rep] at p;subst p;cases rv;exact .non
 |bl b=>simp only[Rep] at p;subst p;cases rv;exact .bl b
 |int i=>simp only[Rep] at p;subst p;obtain⟨t,rfl⟩:=rv;exact .int i t
 |str x=>simp only[Rep] at p;subst p;obtain⟨t,rfl⟩:=rv;exact .str x t
 |tup xs =>
  simp only[Rep] at p
  obtain⟨a,vs,rfl,q,t⟩:=p
  cases rv
  obtain⟨its,r1,p1,_⟩:=I.tuple (vI r.sub q)
  exact .tup a xs its vs t r1 p1 q
 |lst xs =>
  simp only[Rep] at p
  obtain⟨a,vs,rfl,q,t⟩:=p
  cases rv
  obtain⟨its,r1,p1,_⟩:=I.list ((vW r.sub q).l)
  exact .lst a xs its vs t r1 p1.isList q
 |_=>cases n <;> exact Bool.noConfusion h
theorem mP {ds:List D}{vs:List V}{its:List Value}(rp:qI X.K P α ds vs)(rv:qQ vs its){j:Nat}(h:j<its.toArray.size):∃ v,Rep X.K P α (ds.getD j .non) v∧qO v its.toArray[j]∧ds.getD j .non∈ds:=by
 have l1:=rp.length
 have l2:=rv.length
 have hj:j<its.length:=by simpa using h
 have hd:j<ds.length:=by omega
 obtain⟨v,e1,p⟩:=rp.get (List.getElem?_eq_getElem hd)
 obtain⟨u,e2,q⟩:=rv.get e1
 have e3:its.toArray[j]=u:=by
  have:its[j]? = some its[j]:=List.getElem?_eq_getElem hj
  rw[this] at e2
  simpa using Option.some.inj e2
 have e4:ds.getD j .non=ds[j]:=by simp[List.getD,hd]
 rw[e3,e4]
 exact⟨v,p,q,List.getElem_mem hd⟩
theorem tO {n:Nat}{ds:List D}(h:ds.all (pl n)=true){d:D}(hd:d∈ds):pl n d=true:=List.all_eq_true.mp h d hd
theorem NI {h:Heap}{a:Addr}{xs ys:Array Value}(h1:h.IsTuple a xs)(h2:h.IsTuple a ys):xs=ys:=by
 obtain⟨o,e,_,n,d⟩:=h1
 obtain⟨o',e',_,n',d'⟩:=h2
 cases e.symm.trans e'
 cases d.symm.trans d'
 rfl
theorem NH {h:Heap}{a:Addr}{xs ys:Array Value}(h1:h.IsList a xs)(h2:h.IsList a ys):xs=ys:=by
 obtain⟨o,e,_,n,d⟩:=h1
 obtain⟨o',e',_,n',d'⟩:=h2
 cases e.symm.trans e'
 cases d.symm.trans d'
 rfl
theorem R0 {h:Heap}{a:Addr}{xs ys:Array Value}(h1:h.IsTuple a xs)(h2:h.IsList a ys):False:=by
 obtain⟨o,e,c,_⟩:=h1
 obtain⟨o',e',c',_⟩:=h2
 cases e.symm.trans e'
 exact absurd (c.symm.trans c') (by decide)
inductive Seqs (X:Cx)(P:Hp)(α : List Addr)(xs ys:List D)(its its2:List Value):Prop
 |mk (vs ws:List V) (rp:qI X.K P α xs vs) (rv:qQ vs its) (rp2:qI X.K P α ys ws) (rv2:qQ ws its2):Seqs X P α xs ys its its2
theorem Seqs.len1 {xs ys:List D}{its its2:List Value}(q:Seqs X P α xs ys its its2):xs.length=its.length:=by
 obtain⟨vs,ws,rp,rv,_,_⟩:=q
 exact rp.length.trans rv.length
theorem Seqs.len2 {xs ys:List D}{its its2:List Value}(q:Seqs X P α xs ys its its2):ys.length=its2.length:=by
 obtain⟨vs,ws,_,_,rp,rv⟩:=q
 exact rp.length.trans rv.length
inductive SameR (X:Cx)(P:Hp)(α : List Addr):D→D→Prop
 |eq {d d':D} (h:eqD d d'=true):SameR X P α d d'
 |tt (xs ys:List D) (its:List Value) (q:Seqs X P α xs ys its its):SameR X P α (.tup xs) (.tup ys)
 |ll (xs ys:List D) (its:List Value) (q:Seqs X P α xs ys its its):SameR X P α (.lst xs) (.lst ys)
theorem JC {d d':D}{u:Value}(k1:Kd X P α s d u)(k2:Kd X P α s d' u):SameR X P α d d':=by
 cases k1 with
 |non=>cases k2;exact .eq rfl
 |bl b=>cases k2;exact .eq (beq_self_eq_true _)
 |int i t=>cases k2;exact .eq (beq_self_eq_true _)
 |str x t=>cases k2;exact .eq (beq_self_eq_true _)
 |tup a xs its vs rp rv h q =>
  cases k2 with
  |tup _ ys its2 ws rp2 rv2 h2 q2 =>
   cases NI h h2
   exact .tt xs ys its ⟨vs,ws,rp,rv,rp2,rv2⟩
  |lst _ ys its2 ws rp2 rv2 h2 q2=>exact(R0 h h2).elim
 |lst a xs its vs rp rv h q =>
  cases k2 with
  |lst _ ys its2 ws rp2 rv2 h2 q2 =>
   cases NH h h2
   exact .ll xs ys its ⟨vs,ws,rp,rv,rp2,rv2⟩
  |tup _ ys its2 ws rp2 rv2 h2 q2=>exact(R0 h2 h).elim
theorem ZD (I:Inv X pins σ H s)(r:Rel X.K H P α S){m:Nat}(ih:∀ (d d':D) (u:Value),pl m d=true→pl m d'=true→Kd X P α s d u→Kd X P α s d' u→eqD d d'=true){xs ys:List D}{its:List Value}(h1:xs.all (pl m)=true)(h2:ys.all (pl m)=true)(q:Seqs X P α xs ys its its):yS xs ys=true:=by
 obtain⟨vs,ws,rp,rv,rp2,rv2⟩:=q
 have l1:=rp.length.trans rv.length
 have l2:=rp2.length.trans rv2.length
 rw[mK,l1,l2,Nat.min_self,Bool.and_eq_true]
 refine⟨List.all_eq_true.mpr fun j hj=>?_,BEq.rfl⟩
 have hj:j<its.toArray.size:=List.mem_range.mp hj
 obtain⟨w1,y1,z1,m1⟩:=mP rp rv hj
 obtain⟨w2,y2,z2,m2⟩:=mP rp2 rv2 hj
 exact ih _ _ _ (tO h1 m1) (tO h2 m2) (tJ I r (tO h1 m1) y1 z1) (tJ I r (tO h2 m2) y2 z2)
theorem UK (I:Inv X pins σ H s)(r:Rel X.K H P α S):∀ (n:Nat) (d d':D) (u:Value),pl n d=true→pl n d'=true→Kd X P α s d u→Kd X P α s d' u→eqD d d'=true:=by
 intro n
 induction n with
 |zero =>
  intro d d' u h1 h2 k1 k2
  cases JC k1 k2 with
  |eq h=>exact h
  |tt=>exact Bool.noConfusion h1
  |ll=>exact Bool.noConfusion h1
 |succ m ih =>
  intro d d' u h1 h2 k1 k2
  cases JC k1 k2 with
  |eq h=>exact h
  |tt xs ys its q=>exact(oY xs ys).trans (ZD I r ih h1 h2 q)
  |ll xs ys its q=>exact(oX xs ys).trans (ZD I r ih h1 h2 q)
structure E3 (A:Around)(s:Shared)(u u':Value)(b:Bool):Prop where
 eq:EqAt A s u u' b
 rc:RcAt A s u u' b
 ne:RcNeAt A s u u' (!b)
inductive EqR (X:Cx)(P:Hp)(α : List Addr)(A:Around)(s:Shared):D→D→Value→Value→Prop
 |of {d d':D} {u u':Value} (b:Bool) (e:eqD d d'=b) (h:E3 A s u u' b):EqR X P α A s d d' u u'
 |tt (a b:Addr) (xs ys:List D) (its its2:List Value) (ha:s.heap.IsTuple a its.toArray) (hb:s.heap.IsTuple b its2.toArray) (q:Seqs X P α xs ys its its2):EqR X P α A s (.tup xs) (.tup ys) (.ref a) (.ref b)
 |ll (a b:Addr) (xs ys:List D) (its its2:List Value) (ha:s.heap.IsList a its.toArray) (hb:s.heap.IsList b its2.toArray) (q:Seqs X P α xs ys its its2):EqR X P α A s (.lst xs) (.lst ys) (.ref a) (.ref b)
theorem MN {A:Around}{d d':D}{u u':Value}(hu:A.units<cLine)(k1:Kd X P α s d u)(k2:Kd X P α s d' u'):EqR X P α A s d d' u u':=by
 cases k1 with
 |non  =>
  cases k2 with
  |non  => exact .of _ rfl ⟨EqAt.same _,RcAt.none_none,RcNeAt.none_none⟩
  |bl b=>exact .of _ rfl ⟨EqAt.none_bool b,RcAt.none_bool b,RcNeAt.none_bool b⟩
  |int b tb=>exact .of _ rfl ⟨EqAt.none_int b tb,RcAt.none_int b tb,RcNeAt.none_int b tb⟩
  |str b tb=>exact .of _ rfl ⟨EqAt.none_str b tb,RcAt.none_str b tb,RcNeAt.none_str b tb⟩
  |tup b ys its2 ws rp2 rv2 hb qb=>exact .of _ rfl ⟨EqAt.none_tuple hb hu,RcAt.none_tuple hb hu,RcNeAt.none_tuple hb hu⟩
  |lst b ys its2 ws rp2 rv2 hb qb=>exact .of _ rfl ⟨EqAt.none_list hb hu,RcAt.none_list hb hu,RcNeAt.none_list hb hu⟩
 |bl a =>
  cases k2 with
  |non  => exact .of _ rfl ⟨EqAt.bool_none a,RcAt.bool_none a,RcNeAt.bool_none a⟩
  |bl b=>exact .of _ rfl ⟨EqAt.bool_bool a b,RcAt.bool_bool a b,RcNeAt.bool_bool a b⟩
  |int b tb=>exact .of _ rfl ⟨EqAt.bool_int a b tb,RcAt.bool_int a b tb,RcNeAt.bool_int a b tb⟩
  |str b tb=>exact .of _ rfl ⟨EqAt.bool_str a b tb,RcAt.bool_str a b tb,RcNeAt.bool_str a b tb⟩
  |tup b ys its2 ws rp2 rv2 hb qb=>exact .of _ rfl ⟨EqAt.bool_tuple a hb hu,RcAt.bool_tuple a hb hu,RcNeAt.bool_tuple a hb hu⟩
  |lst b ys its2 ws rp2 rv2 hb qb=>exact .of _ rfl ⟨EqAt.bool_list a hb hu,RcAt.bool_list a hb hu,RcNeAt.bool_list a hb hu⟩
 |int a ta =>
  cases k2 with
  |non  => exact .of _ rfl ⟨EqAt.int_none a ta,RcAt.int_none a ta,RcNeAt.int_none a ta⟩
  |bl b=>exact .of _ rfl ⟨EqAt.int_bool a ta b,RcAt.int_bool a ta b,RcNeAt.int_bool a ta b⟩
  |int b tb=>exact .of _ rfl ⟨EqAt.int_int a ta b tb,RcAt.int_int a ta b tb,RcNeAt.int_int a ta b tb⟩
  |str b tb=>exact .of _ rfl ⟨EqAt.int_str a ta b tb,RcAt.int_str a ta b tb,RcNeAt.int_str a ta b tb⟩
  |tup b ys its2 ws rp2 rv2 hb qb=>exact .of _ rfl ⟨EqAt.int_tuple a ta hb hu,RcAt.int_tuple a ta hb hu,RcNeAt.int_tuple a ta hb hu⟩
  |lst b ys its2 ws rp2 rv2 hb qb=>exact .of _ rfl ⟨EqAt.int_list a ta hb hu,RcAt.int_list a ta hb hu,RcNeAt.int_list a ta hb hu⟩
 |str a ta =>
  cases k2 with
  |non  => exact .of _ rfl ⟨EqAt.str_none a ta,RcAt.str_none a ta,RcNeAt.str_none a ta⟩
  |bl b=>exact .of _ rfl ⟨EqAt.str_bool a ta b,RcAt.str_bool a ta b,RcNeAt.str_bool a ta b⟩
  |int b tb=>exact .of _ rfl ⟨EqAt.str_int a ta b tb,RcAt.str_int a ta b tb,RcNeAt.str_int a ta b tb⟩
  |str b tb=>exact .of _ rfl ⟨EqAt.str_str a ta b tb,RcAt.str_str a ta b tb,RcNeAt.str_str a ta b tb⟩
  |tup b ys its2 ws rp2 rv2 hb qb=>exact .of _ rfl ⟨EqAt.str_tuple a ta hb hu,RcAt.str_tuple a ta hb hu,RcNeAt.str_tuple a ta hb hu⟩
  |lst b ys its2 ws rp2 rv2 hb qb=>exact .of _ rfl ⟨EqAt.str_list a ta hb hu,RcAt.str_list a ta hb hu,RcNeAt.str_list a ta hb hu⟩
 |tup a xs its vs rp rv ha qa =>
  cases k2 with
  |non  => exact .of _ rfl ⟨EqAt.tuple_none ha hu,RcAt.tuple_none ha hu,RcNeAt.tuple_none ha hu⟩
  |bl b=>exact .of _ rfl ⟨EqAt.tuple_bool b ha hu,RcAt.tuple_bool b ha hu,RcNeAt.tuple_bool b ha hu⟩
  |int b tb=>exact .of _ rfl ⟨EqAt.tuple_int b tb ha hu,RcAt.tuple_int b tb ha hu,RcNeAt.tuple_int b tb ha hu⟩
  |str b tb=>exact .of _ rfl ⟨EqAt.tuple_str b tb ha hu,RcAt.tuple_str b tb ha hu,RcNeAt.tuple_str b tb ha hu⟩
  |tup b ys its2 ws rp2 rv2 hb qb=>exact .tt a b xs ys its its2 ha hb ⟨vs,ws,rp,rv,rp2,rv2⟩
  |lst b ys its2 ws rp2 rv2 hb qb=>exact .of _ rfl ⟨EqAt.tuple_list ha hb hu,RcAt.tuple_list ha hb hu,RcNeAt.tuple_list ha hb hu⟩
 |lst a xs its vs rp rv ha qa =>
  cases k2 with
  |non  => exact .of _ rfl ⟨EqAt.list_none ha hu,RcAt.list_none ha hu,RcNeAt.list_none ha hu⟩
  |bl b=>exact .of _ rfl ⟨EqAt.list_bool b ha hu,RcAt.list_bool b ha hu,RcNeAt.list_bool b ha hu⟩
  |int b tb=>exact .of _ rfl ⟨EqAt.list_int b tb ha hu,RcAt.list_int b tb ha hu,RcNeAt.list_int b tb ha hu⟩
  |str b tb=>exact .of _ rfl ⟨EqAt.list_str b tb ha hu,RcAt.list_str b tb ha hu,RcNeAt.list_str b tb ha hu⟩
  |tup b ys its2 ws rp2 rv2 hb qb=>exact .of _ rfl ⟨EqAt.list_tuple ha hb hu,RcAt.list_tuple ha hb hu,RcNeAt.list_tuple ha hb hu⟩
  |lst b ys its2 ws rp2 rv2 hb qb=>exact .ll a b xs ys its its2 ha hb ⟨vs,ws,rp,rv,rp2,rv2⟩
theorem E3.cast {A:Around}{u u':Value}{b c:Bool}(e:c=b)(h:E3 A s u u' b):E3 A s u u' c:=e▸h
theorem HM {A:Around}{a b:Addr}{xs ys:List D}{its its2:List Value}(hu:A.units<cLine)(ha:s.heap.IsTuple a its.toArray)(hb:s.heap.IsTuple b its2.toArray)(l1:xs.length=its.length)(l2:ys.length=its2.length)
  (sub:∀ j (h1:j<its.toArray.size) (h2:j<its2.toArray.size),EqAt A.in1 s its.toArray[j] its2.toArray[j] (eqD (xs.getD j .non) (ys.getD j .non))) (same:a=b→yS xs ys=true):E3 A s (.ref a) (.ref b) (yS xs ys):=by
 have e:yS xs ys=((List.range (min its.toArray.size its2.toArray.size)).all (fun j=>eqD (xs.getD j .non) (ys.getD j .non))&&its.toArray.size == its2.toArray.size):=by rw[mK,l1,l2];rfl
 have R1:=RcAt.tuples ha hb hu sub
 have R2:=RcNeAt.tuples ha hb hu sub
 rw[← e] at R1 R2
 refine⟨?_,R1,R2⟩
 by_cases hab:a=b
 ·rw[same hab,hab]
  exact EqAt.same _
 ·exact EqAt.of_refs hab R1
theorem HL {A:Around}{a b:Addr}{xs ys:List D}{its its2:List Value}(hu:A.units<cLine)(ha:s.heap.IsList a its.toArray)(hb:s.heap.IsList b its2.toArray)(l1:xs.length=its.length)(l2:ys.length=its2.length)
  (sub:∀ j (h1:j<its.toArray.size) (h2:j<its2.toArray.size),EqAt A.in1 s its.toArray[j] its2.toArray[j] (eqD (xs.getD j .non) (ys.getD j .non))) (same:a=b→yS xs ys=true):E3 A s (.ref a) (.ref b) (yS xs ys):=by
 have R:RcAt A s (.ref a) (.ref b) (yS xs ys)∧RcNeAt A s (.ref a) (.ref b) (!yS xs ys):=by
  by_cases hl:its.length=its2.length
  ·have e:yS xs ys=(List.range its.toArray.size).all (fun j=>eqD (xs.getD j .non) (ys.getD j .non)):=by rw[mK,l1,l2,← hl,Nat.min_self,BEq.rfl,Bool.and_true];rfl
   rw[e]
   exact⟨RcAt.lists ha hb hl hu sub,RcNeAt.lists ha hb hl hu sub⟩
  ·rw[FG (by rw[l1,l2];exact hl)]
   have hn:(its.toArray.size != its2.toArray.size)=true:=bne_iff_ne.mpr hl
   exact⟨RcAt.lists_lengths ha hb hn hu,RcNeAt.lists_lengths ha hb hn hu⟩
 refine⟨?_,R.1,R.2⟩
 by_cases hab:a=b
 ·rw[same hab,hab]
  exact EqAt.same _
 ·exact EqAt.of_refs hab R.1
theorem GH (I:Inv X pins σ H s)(r:Rel X.K H P α S):∀ (n:Nat) (A:Around) (d d':D) (u u':Value),A.units+n<cLine→pl n d=true→pl n d'=true→Kd X P α s d u→Kd X P α s d' u'→E3 A s u u' (eqD d d'):=by
 intro n
 induction n with
 |zero =>
  intro A d d' u u' hu h1 h2 k1 k2
  cases MN hu k1 k2 with
  |of b e h=>exact h.cast e
  |tt=>exact Bool.noConfusion h1
  |ll=>exact Bool.noConfusion h1
 |succ m ih =>
  intro A d d' u u' hu h1 h2 k1 k2
  have hu0:A.units<cLine:=Nat.lt_of_le_of_lt (Nat.le_add_right _ _) hu
  have hu1:A.in1.units+m<cLine:=by show A.units+1+m<cLine;omega
  have sub:∀ {xs ys:List D} {its its2:List Value},xs.all (pl m)=true→ys.all (pl m)=true→Seqs X P α xs ys its its2 →
    ∀ j (h1:j<its.toArray.size) (h2:j<its2.toArray.size),EqAt A.in1 s its.toArray[j] its2.toArray[j] (eqD (xs.getD j .non) (ys.getD j .non)):=fun {xs ys its its2} a1 a2 ⟨vs,ws,b1,b2,c1,c2⟩ j g1 g2=>by
   obtain⟨w1,y1,z1,m1⟩:=mP b1 b2 g1
   obtain⟨w2,y2,z2,m2⟩:=mP c1 c2 g2
   exact(ih A.in1 _ _ _ _ hu1 (tO a1 m1) (tO a2 m2) (tJ I r (tO a1 m1) y1 z1) (tJ I r (tO a2 m2) y2 z2)).eq
  cases MN hu0 k1 k2 with
  |of b e h=>exact h.cast e
  |tt a b xs ys its its2 ha hb q=>exact(HM hu0 ha hb q.len1 q.len2 (sub h1 h2 q) fun e=>by subst e;exact(oY xs ys).symm.trans (UK I r (m+1) _ _ _ h1 h2 k1 k2)).cast (oY xs ys)
  |ll a b xs ys its its2 ha hb q=>exact(HL hu0 ha hb q.len1 q.len2 (sub h1 h2 q) fun e=>by subst e;exact(oX xs ys).symm.trans (UK I r (m+1) _ _ _ h1 h2 k1 k2)).cast (oX xs ys)
def kI:Nat:=30
def gEq:G2:=fun a b S=>if pl kI a&&pl kI b then .ok (.bl (eqD a b)) S else .bad
def gNe:G2:=fun a b S=>if pl kI a&&pl kI b then .ok (.bl (!eqD a b)) S else .bad
set_option tactic.hygienic true in
theorem C1 (hu:X.A.units+64<cLine):OpD X (compareOp .Eq) gEq:=by
 intro pins σ H s P α S v u vv uu a b Q I r rv ru pa pb af
 unfold gEq at af
 split at af
 ·rename_i h
  rw[Bool.and_eq_true] at h
  exact(GH I r kI X.A a b vv uu (by unfold kI;omega) h.1 h.2 (tJ I r h.1 pa rv) (tJ I r h.2 pb ru)).rc _ _ _ _ ⟨.bl _,H,I,rfl,xr af r (by simp only[Rep])⟩
 ·exact False.elim af
set_option tactic.hygienic true in
theorem C5 (hu:X.A.units+64<cLine):OpD X (compareOp .NotEq) gNe:=by
 intro pins σ H s P α S v u vv uu a b Q I r rv ru pa pb af
 unfold gNe at af
 split at af
 ·rename_i h
  rw[Bool.and_eq_true] at h
  exact(GH I r kI X.A a b vv uu (by unfold kI;omega) h.1 h.2 (tJ I r h.1 pa rv) (tJ I r h.2 pb ru)).ne _ _ _ _ ⟨.bl _,H,I,rfl,xr af r (by simp only[Rep])⟩
 ·exact False.elim af
end
end _D
end
section
namespace _D
open PySem PySem.Spec PyProof.Rows _L
section
variable {X:Cx}
def i2 (C:Int→Int→Bool)(f:Int→Int→D):G2:=fun a b S=>match a,b with
 |.int i,.int j=>if C i j then .ok (f i j) S else .bad
 |_,_=>.bad
theorem MQ {C:Int→Int→Bool}{f:Int→Int→D}{a b:D}{S:Sto}{P:Hp}{α : List Addr}{Ok:D→Sto→Prop}(h:qN X P α (i2 C f a b S) Ok):∃ i j,a=.int i∧b=.int j∧C i j=true∧Ok (f i j) S:=by
 cases a with
 |int i =>
  cases b with
  |int j =>
   obtain⟨hc,h⟩:=iP (X:=X) h
   exact⟨i,j,rfl,rfl,hc,h⟩
  |_=>exact False.elim h
 |_=>exact False.elim h
theorem u9 {P:Hp}{α : List Addr}{i:Int}{v:V}(r:Rep X.K P α (.int i) v):v=.int i:=by simpa only [Rep] using r
theorem o2 {f:Value→Value→Sem Value}{C':Int→Int→Prop}{v:Int→Int→V}{C:Int→Int→Bool}{d:Int→Int→D}(h:OpR X f (rI C' v))(hC:∀ i j,C i j=true→C' i j)(hv:∀ P α i j,Rep X.K P α (d i j) (v i j)):OpD X f (i2 C d):=
 OpD.of h fun H P α S x y a b Q r p1 p2 af=>by
  obtain⟨i,j,rfl,rfl,hc,ok⟩:=MQ af
  exact⟨i,j,u9 p1,u9 p2,hC i j hc,xr ok r (hv P α i j)⟩
theorem o0 {f:Value→Value→Sem Value}{v:Int→Int→V}{d:Int→Int→D}(h:OpR X f (rI0 v))(hv:∀ P α i j,Rep X.K P α (d i j) (v i j)):OpD X f (i2 (fun _ _=>true) d):=
 OpD.of h fun H P α S x y a b Q r p1 p2 af=>by
  obtain⟨i,j,rfl,rfl,_,ok⟩:=MQ af
  exact⟨i,j,u9 p1,u9 p2,xr ok r (hv P α i j)⟩
def vE:G2:=i2 (fun _ _=>true) fun i j=>.int (i-j)
theorem RP:OpD X (binaryOp .Sub) vE:=o0 RZ fun P α i j=>by simp only[Rep]
def W6 (i j:Int):Bool:=decide (-(2 ^ 64)<i∧i<2 ^ 64)||decide (-(2 ^ 64)<j∧j<2 ^ 64)
theorem L3:OpD X (binaryOp .Mult) (i2 W6 fun i j=>.int (i*j)):=o2 RX (fun i j h=>by
 unfold W6 at h
 rw[Bool.or_eq_true] at h
 rcases h with h|h
 ·exact .inl (of_decide_eq_true h)
 ·exact .inr (of_decide_eq_true h)) fun P α i j=>by simp only[Rep]
def DD (i j:Int):Bool:=decide (0<j∧j<1073741824)
def jE:G2:=i2 DD fun i j=>.int (i/j)
theorem RL:OpD X (binaryOp .FloorDiv) jE:=o2 L8 (fun i j h=>(of_decide_eq_true h:0<j∧j<1073741824)) fun P α i j=>by simp only[Rep]
def k9:G2:=i2 (fun _ j=>decide (0<j)) fun i j=>.int (i % j)
theorem RN:OpD X (binaryOp .Mod) k9:=o2 RW (fun i j h=>of_decide_eq_true h) fun P α i j=>by simp only[Rep]
def AA (i j:Int):Bool:=decide (0≤j∧j≤1000000∧i.natAbs<2 ^ 64)
def cZ:G2:=i2 AA fun i j=>.int (i ^ j.toNat)
theorem RO:OpD X (binaryOp .Pow) cZ:=o2 RY (fun i j h=>(of_decide_eq_true h:0≤j∧j≤1000000∧i.natAbs<2 ^ 64)) fun P α i j=>by simp only[Rep]
def gLt:G2:=i2 (fun _ _=>true) fun i j=>.bl (decide (i<j))
def gLe:G2:=i2 (fun _ _=>true) fun i j=>.bl (decide (i≤j))
def gGt:G2:=i2 (fun _ _=>true) fun i j=>.bl (decide (j<i))
def gGe:G2:=i2 (fun _ _=>true) fun i j=>.bl (decide (j≤i))
theorem MW:OpD X (compareOp .Lt) gLt:=o0 C8 fun P α i j=>by simp only[Rep]
theorem C4:OpD X (compareOp .LtE) gLe:=o0 C7 fun P α i j=>by simp only[Rep]
theorem C2:OpD X (compareOp .GtE) gGe:=o0 C6 fun P α i j=>by simp only[Rep]
def kA:D→Sto→Res D:=fun a S=>match a with
 |.int i=>.ok (.int (-i)) S
 |_=>.bad
theorem EV:UnD X (unaryOp .USub) kA:=by
 intro pins σ H s P α S v vv a Q I r rv p af
 cases a with
 |int i=>exact EW pins s σ H v vv Q I rv ⟨i,u9 p,xr af r (by simp only[Rep])⟩
 |_=>exact False.elim af
def gIs:G2:=fun a b S=>match b with
 |.non=>match a with
  |.non=>.ok (.bl true) S
  |_=>.ok (.bl false) S
 |_=>.bad
theorem L1 {P:Hp}{α : List Addr}{d:D}{v:V}(r:Rep X.K P α d v):decide (v=.non)=(match d with|.non=>true|_=>false):=by
 cases d <;> simp only[Rep] at r
 case non=>subst r;rfl
 case bl=>subst r;rfl
 case int=>subst r;rfl
 case str=>subst r;rfl
 case ty=>subst r;rfl
 case obj=>obtain⟨rfl,_⟩:=r;rfl
 case tup=>obtain⟨a,vs,rfl,_⟩:=r;rfl
 case lst=>obtain⟨a,vs,rfl,_⟩:=r;rfl
 case dct0=>obtain⟨a,rfl,_⟩:=r;rfl
 case loc=>obtain⟨a,rfl,_⟩:=r;rfl
 case exn=>obtain⟨a,rfl,_⟩:=r;rfl
 case fd=>obtain⟨a,o,vs,rfl,_⟩:=r;rfl
theorem C3:OpD X (compareOp .Is) gIs:=OpD.of RV fun H P α S x y a b Q r p1 p2 af=>by
 cases b with
 |non =>
  simp only[Rep] at p2
  refine⟨p2,?_⟩
  rw[L1 p1]
  cases a <;> exact xr af r (by simp only[Rep])
 |_=>exact False.elim af
def qZ:G2:=fun a b S=>match a,b with
 |.int i,.int j=>.ok (.int (i+j)) S
 |.str x,.str y=>if x.length+y.length≤lim then .ok (.str (x++y)) S else .bad
 |.tup xs,.tup ys=>if xs.length+ys.length≤lim then .ok (.tup (xs++ys)) S else .bad
 |.lst xs,.lst ys=>if xs.length+ys.length≤lim then .ok (.lst (xs++ys)) S else .bad
 |_,_=>.bad
theorem bR {pins:List (Addr × Obj)}{σ : _L.St}{H P:Hp}{α : List Addr}{S:Sto}{s:Shared}{xs:List D}{v:V}(I:Inv X pins σ H s)(r:Rel X.K H P α S)(p:Rep X.K P α (.tup xs) v) :
  ∃ a vs its,v=.ref a∧SqT X.K P a vs∧qI X.K P α xs vs∧qQ vs its∧IsTup s.heap a its.toArray∧xs.length=its.length∧xs.length≤lim:=by
 simp only[Rep] at p
 obtain⟨a,vs,rfl,q,t⟩:=p
 obtain⟨its,rv,p1,z⟩:=I.tuple (vI r.sub q)
 exact⟨a,vs,its,rfl,q,t,rv,p1,by rw[t.length,rv.length],by rw[t.length,vL];exact z⟩
theorem rO {pins:List (Addr × Obj)}{σ : _L.St}{H P:Hp}{α : List Addr}{S:Sto}{s:Shared}{xs:List D}{v:V}(I:Inv X pins σ H s)(r:Rel X.K H P α S)(p:Rep X.K P α (.lst xs) v) :
  ∃ a vs its n,v=.ref a∧SqX X.K P a vs∧qI X.K P α xs vs∧qQ vs its∧s.heap.get? a=some { cls:=.type "list",data:=.seq its.toArray n } ∧ xs.length=its.length∧xs.length≤lim:=by
 simp only[Rep] at p
 obtain⟨a,vs,rfl,q,t⟩:=p
 have:∃ its n,qQ vs its∧s.heap.get? a=some { cls:=.type "list",data:=.seq its.toArray n } ∧ vs.length≤sizeLine:=by
  rcases q with q|⟨its,n,e,z,rv⟩
  ·obtain⟨z,its,n,rv,e⟩:=(J8 r.sub q).ok I.hok
   exact⟨its,n,rv,e,z⟩
  ·exact⟨its,n,rv,I.kIn _ _ e,z⟩
 obtain⟨its,n,rv,e,z⟩:=this
 exact⟨a,vs,its,n,rfl,q,t,rv,e,by rw[t.length,rv.length],by rw[t.length,vL];exact z⟩
theorem Y3 {pins:List (Addr × Obj)}{σ : _L.St}{H P:Hp}{α : List Addr}{S:Sto}{s:Shared}{xs:List D}{vs:List V}{its:List Value}{Q:VK}(I:Inv X pins σ H s)(r:Rel X.K H P α S)(t:qI X.K P α xs vs)(rv:qQ vs its)(hz:xs.length≤lim)
  (ok:OkV X P α Q (.tup xs) S):EP X pins σ Q (.ref s.heap.objs.size) { s with heap:=s.heap.push { cls:=.type "tuple",data:=.seq its.toArray } }:=by
 refine⟨.ref s.heap.objs.size,_,I.laid (t':=s.toks) (o:=.tup vs) (fun b ob q=>Heap.get?_push_of_some _ q) (Nat.le_refl _) ⟨by rw[← t.length,← vL];exact hz,its,rv,IsTup.new _ _⟩,rfl,dH r (I.hok.fresh (Nat.le_refl _)) t ok⟩
theorem FM {pins:List (Addr × Obj)}{σ : _L.St}{H P:Hp}{α : List Addr}{S:Sto}{s:Shared}{xs:List D}{vs:List V}{its:List Value}{Q:VK}(I:Inv X pins σ H s)(r:Rel X.K H P α S)(t:qI X.K P α xs vs)(rv:qQ vs its)(hz:xs.length≤lim)
  (ok:OkV X P α Q (.lst xs) S):EP X pins σ Q (.ref s.heap.objs.size) { s with heap:=s.heap.push { cls:=.type "list",data:=.seq its.toArray } }:=by
 refine⟨.ref s.heap.objs.size,_,I.laid (t':=s.toks) (o:=.lst vs) (fun b ob q=>Heap.get?_push_of_some _ q) (Nat.le_refl _) ⟨by rw[← t.length,← vL];exact hz,its,0,rv,Heap.get?_push_size _ rfl⟩,rfl,kX r (I.hok.fresh (Nat.le_refl _)) t ok⟩
theorem D8 {pins:List (Addr × Obj)}{σ : _L.St}{H P:Hp}{α : List Addr}{S:Sto}{s:Shared}{xs ys:List D}{v u:V}{vv uu:Value}{Q:VK}(I:Inv X pins σ H s)(r:Rel X.K H P α S)(rv:qO v vv)(ru:qO u uu)(pa:Rep X.K P α (.tup xs) v)(pb:Rep X.K P α (.tup ys) u)(hl:xs.length+ys.length≤lim)(af:OkV X P α Q (.tup (xs++ys)) S) :
  wpAny (model X.prog X.w) X.A (binaryOp .Add vv uu) (EP X pins σ Q) X.xe s:=by
 obtain⟨a,vs,its,rfl,q1,t1,rv1,h1,l1,_⟩:=bR I r pa
 obtain⟨b,ws,its2,rfl,q2,t2,rv2,h2,l2,_⟩:=bR I r pb
 cases rv
 cases ru
 by_cases hx:its=[]
 ·obtain⟨⟨cls,dd,data,sl⟩,ho,hc,n,hd⟩:=id h1
  obtain⟨⟨cls2,dd2,data2,sl2⟩,ho2,hc2,n2,hd2⟩:=id h2
  simp only at hc hd hc2 hd2
  subst hc hd hc2 hd2
  have hxs:xs=[]:=List.length_eq_zero_iff.mp (by rw[l1,hx];rfl)
  subst hxs
  exact concat_meets ⟨_,ho,rfl⟩ ⟨_,ho2,rfl⟩ noFill_tuple_add seq_tuple_add PySem.F.slot_tuple_add PySem.F.entry_tuple_add (PySem.F.args_tuple_add_2 _ _) (tuple_addW0 a b its.toArray its2.toArray n n2 dd dd2 sl sl2 (by simp[hx]))
   ⟨ho,ho2,⟨.ref b,H,I,rfl,xr af r pb⟩⟩
 ·refine _H.cat_tup h1 h2 hx (fun z=>⟨.ref a,H,I,rfl,xr af r ?_⟩) (fun z=>?_) (by rw[← l1,← l2,← vL];exact hl)
  ·have hys:ys=[]:=List.length_eq_zero_iff.mp (by rw[l2,z];rfl)
   rw[hys,List.append_nil];exact pa
  ·exact Y3 I r (t1.append t2) (rv1.append rv2) (by rw[List.length_append];exact hl) af
theorem D7 {pins:List (Addr × Obj)}{σ : _L.St}{H P:Hp}{α : List Addr}{S:Sto}{s:Shared}{xs ys:List D}{v u:V}{vv uu:Value}{Q:VK}(I:Inv X pins σ H s)(r:Rel X.K H P α S)(rv:qO v vv)(ru:qO u uu)(pa:Rep X.K P α (.lst xs) v)(pb:Rep X.K P α (.lst ys) u)(hl:xs.length+ys.length≤lim)(af:OkV X P α Q (.lst (xs++ys)) S) :
  wpAny (model X.prog X.w) X.A (binaryOp .Add vv uu) (EP X pins σ Q) X.xe s:=by
 obtain⟨a,vs,its,n,rfl,q1,t1,rv1,h1,l1,_⟩:=rO I r pa
 obtain⟨b,ws,its2,n2,rfl,q2,t2,rv2,h2,l2,_⟩:=rO I r pb
 cases rv
 cases ru
 refine PySem.P.add_list h1 h2 ?_ (by rw[List.size_toArray,List.size_toArray,← l1,← l2,← vL];exact hl)
 rw[List.append_toArray]
 exact FM I r (t1.append t2) (rv1.append rv2) (by rw[List.length_append];exact hl) af
inductive AddV (a b:D)(S:Sto):Prop
 |bad (e:qZ a b S=.bad)
 |int (i j:Int) (ea:a=.int i) (eb:b=.int j)
 |str (x y:Str) (ea:a=.str x) (eb:b=.str y)
 |tup (x y:List D) (ea:a=.tup x) (eb:b=.tup y)
 |lst (x y:List D) (ea:a=.lst x) (eb:b=.lst y)
theorem A7 (a b:D)(S:Sto):AddV a b S:=by
 cases a with
 |int i=>cases b with
  |int j=>exact .int i j rfl rfl
  |_=>exact .bad rfl
 |str i=>cases b with
  |str j=>exact .str i j rfl rfl
  |_=>exact .bad rfl
 |tup i=>cases b with
  |tup j=>exact .tup i j rfl rfl
  |_=>exact .bad rfl
 |lst i=>cases b with
  |lst j=>exact .lst i j rfl rfl
  |_=>exact .bad rfl
 |_=>exact .bad rfl
theorem RK:OpD X (binaryOp .Add) qZ:=by
 intro pins σ H s P α S v u vv uu a b Q I r rv ru pa pb af
 cases A7 a b S with
 |bad e=>rw[e] at af;exact False.elim af
 |int i j ea eb =>
  subst ea eb
  exact RU pins s σ H v u vv uu Q I rv ru ⟨i,j,u9 pa,u9 pb,xr af r (by simp only[Rep])⟩
 |str x y ea eb =>
  subst ea eb
  obtain⟨hl,af⟩:=iP (X:=X) af
  simp only[Rep] at pa pb
  exact KA pins s σ H v u vv uu Q I rv ru ⟨x,y,pa,pb,by rw[← vL];exact hl,xr af r (by simp only[Rep])⟩
 |tup xs ys ea eb =>
  subst ea eb
  obtain⟨hl,af⟩:=iP (X:=X) af
  exact D8 I r rv ru pa pb hl af
 |lst xs ys ea eb =>
  subst ea eb
  obtain⟨hl,af⟩:=iP (X:=X) af
  exact D7 I r rv ru pa pb hl af
def gIx:G2:=fun a b S=>match b with
 |.int k=>match a with
  |.tup xs=>gY (atI xs k) S
  |.lst xs=>gY (atI xs k) S
  |.loc i=>match S[i]? with
   |some (.lst xs)=>gY (atI xs k) S
   |_=>.bad
  |_=>.bad
 |_=>.bad
theorem oM {P:Hp}{α : List Addr}{ds:List D}{vs:List V}{k:Int}{d:D}(rp:qI X.K P α ds vs)(h:atI ds k=some d):∃ v,atI vs k=some v∧Rep X.K P α d v:=by
 unfold atI at h ⊢
 rw[← rp.length]
 cases q:ixN ds.length k with
 |none=>rw[q] at h;cases h
 |some j =>
  rw[q] at h
  obtain⟨v,h1,h2⟩:=rp.get (show ds[j]? = some d from h)
  exact⟨v,h1,h2⟩
theorem AI:IxD X gIx:=by
 intro value slice pins σ H s P α S v u vv uu a b Q I r rv ru pa pb af hs
 cases b with
 |int k =>
  have hk:=u9 pb
  cases a with
  |tup xs =>
   obtain⟨d,e,ok⟩:=fX (X:=X) af
   simp only[Rep] at pa
   obtain⟨p,vs,rfl,q,t⟩:=pa
   obtain⟨w,e1,rw'⟩:=oM t e
   exact rM value slice pins s σ H _ u vv uu Q I rv ru ⟨p,vs,k,w,rfl,hk,vI r.sub q,e1,xr ok r rw'⟩ hs
  |lst xs =>
   obtain⟨d,e,ok⟩:=fX (X:=X) af
   simp only[Rep] at pa
   obtain⟨p,vs,rfl,q,t⟩:=pa
   obtain⟨w,e1,rw'⟩:=oM t e
   exact UU value slice pins s σ H _ u vv uu Q I rv ru ⟨p,vs,k,w,rfl,hk,(vW r.sub q).l,e1,xr ok r rw'⟩ hs
  |loc i =>
   obtain⟨xs,hS,af⟩:=dF (X:=X) (f:=fun xs=>gY (atI xs k) S) af
   obtain⟨d,e,ok⟩:=fX (X:=X) af
   simp only[Rep] at pa
   obtain⟨p,rfl,q⟩:=pa
   obtain⟨vs,z,t⟩:=r.at' i p _ q hS
   obtain⟨w,e1,rw'⟩:=oM t e
   exact UU value slice pins s σ H _ u vv uu Q I rv ru ⟨p,vs,k,w,rfl,hk,.of z,e1,xr ok r rw'⟩ hs
  |_=>exact False.elim af
 |_=>exact False.elim af
def Q0:G3:=fun o i d S=>match o,i with
 |.loc n,.int k=>match S[n]? with
  |some (.lst xs)=>match ixN xs.length k with
   |some j=>.ok () (S.set n (.lst (xs.set j d)))
   |none=>.bad
  |_=>.bad
 |_,_=>.bad
theorem CP:XY X (XW X Q0):=by
 intro pins s σ H o i v ov iv u Q I ro ri rv h
 obtain⟨P,α,S,a,b,d,r,pa,pb,pd,af⟩:=h
 cases a with
 |loc n =>
  cases b with
  |int k =>
   obtain⟨xs,hS,af⟩:=dF (X:=X) (f:=fun xs=>match ixN xs.length k with|some j=>.ok () (S.set n (.lst (xs.set j d)))|none=>.bad) af
   cases hj:ixN xs.length k with
   |none=>rw[hj] at af;exact False.elim af
   |some j =>
    rw[hj] at af
    simp only[Rep] at pa
    obtain⟨p,rfl,q⟩:=pa
    obtain⟨vs,z,t⟩:=r.at' n p _ q hS
    refine M9 pins s σ H _ i v ov iv u Q I ro ri rv ⟨p,vs,k,j,rfl,u9 pb,z,by rw[← t.length];exact hj,?_⟩
    refine af _ P α (r.put (m':=.lst (xs.set j d)) q hS (by intro z;cases z) ⟨vs.set j v,xR,t.set pd j⟩) (qL.refl _) (List.prefix_refl _)
  |_=>exact False.elim af
 |_=>exact False.elim af
def RB:D→Sto→Option Nat
 |.tup xs,_=>some xs.length
 |.lst xs,_=>some xs.length
 |.str x,_=>if x.length≤lim then some x.length else none
 |.dct0,_=>some 0
 |.loc i,S=>match S[i]? with
  |some (.lst xs)=>some xs.length
  |_=>none
 |_,_=>none
def WV:DF:=fun ds S=>match ds with
 |[d]=>match RB d S with
  |some n=>.ok (.int n) S
  |none=>.bad
 |_=>.bad
end
end _D
end
section
namespace _D
open PySem PySem.Spec PyProof.Rows _L
section
variable {X:Cx}
theorem dM {P:Hp}{α : List Addr}{d:D}{vs:List V}{us:List Value}(rp:qI X.K P α [d] vs)(rv:qQ vs us):∃ v u,vs=[v]∧us=[u]∧Rep X.K P α d v∧qO v u:=by
 obtain⟨v,ws,rfl,p,t⟩:=rp.cons_inv
 have:=t.nil_inv;subst this
 obtain⟨u,rfl,q⟩:=tR rv
 exact⟨v,u,rfl,rfl,p,q⟩
theorem KH {P:Hp}{α : List Addr}{d e:D}{vs:List V}{us:List Value}(rp:qI X.K P α [d,e] vs)(rv:qQ vs us):∃ v w u x,vs=[v,w]∧us=[u,x]∧Rep X.K P α d v∧Rep X.K P α e w∧qO v u∧qO w x:=by
 obtain⟨v,ws,rfl,p,t⟩:=rp.cons_inv
 obtain⟨w,ws,rfl,p',t⟩:=t.cons_inv
 have:=t.nil_inv;subst this
 obtain⟨u,x,rfl,q,q'⟩:=KO rv
 exact⟨v,w,u,x,rfl,rfl,p,p',q,q'⟩
def K6 (d:D)(S:Sto):Option Nat:=match d with
 |.dct0=>none
 |_=>RB d S
theorem RC {H P:Hp}{α : List Addr}{S:Sto}{d:D}{v:V}{n:Nat}(r:Rel X.K H P α S)(p:Rep X.K P α d v)(hn:K6 d S=some n):D4 X.K v H n:=by
 cases d with
 |str x =>
  cases (show v=.str x from p)
  obtain⟨hl,rfl⟩:=dD hn
  exact⟨by rw[← vL];exact hl,rfl⟩
 |tup xs =>
  simp only[Rep] at p
  obtain⟨a,ws,rfl,sq,t⟩:=p
  cases hn
  exact .inr ⟨ws,vI r.sub sq,t.length⟩
 |lst xs =>
  simp only[Rep] at p
  obtain⟨a,ws,rfl,sq,t⟩:=p
  cases hn
  exact .inl ⟨ws,(vW r.sub sq).l,t.length⟩
 |loc i =>
  simp only[Rep] at p
  obtain⟨a,rfl,e⟩:=p
  obtain⟨xs,hS,hn⟩:=RD (f:=fun xs=>some xs.length) hn
  cases hn
  obtain⟨ws,z,t⟩:=r.at' i a _ e hS
  exact .inl ⟨ws,.of z,t.length⟩
 |_=>exact nn hn
inductive LenD1 (ds:List D)(S:Sto)(r:Res D):Prop
 |bad (e:r=.bad)
 |of (d:D) (n:Nat) (ed:ds=[d]) (hn:K6 d S=some n) (e:r=.ok (.int n) S)
theorem HW (ds:List D)(S:Sto):LenD1 ds S (match ds with|[.dct0]=>.bad|_=>WV ds S):=by
 cases ds with
 |nil=>exact .bad rfl
 |cons d ds =>
  cases ds with
  |cons _ _=>cases d <;> exact .bad rfl
  |nil =>
   have z:(match [d] with|[D.dct0]=>Res.bad|_=>WV [d] S)=(match K6 d S with|some n=>Res.ok (D.int n) S|none=>.bad):=by cases d <;> rfl
   rw[z]
   cases hn:K6 d S with
   |none=>exact .bad rfl
   |some n=>exact .of d n rfl hn rfl
theorem DN (hD:True):kL X (.builtin "len") (fun ds S=>match ds with|[.dct0]=>.bad|_=>WV ds S):=by
 intro pins σ H s P α S vs us ds Q I r rv rp af
 have af1:qN X P α (match ds with|[D.dct0]=>Res.bad|_=>WV ds S) (OkV X P α Q):=af
 clear af
 cases HW ds S with
 |bad e=>rw[e] at af1;exact False.elim af1
 |of d n ed hn e =>
  rw[e] at af1
  subst ed
  obtain⟨v,u,rfl,rfl,p,q⟩:=dM rp rv
  exact BN pins s σ H _ _ Q I rv ⟨v,n,rfl,RC r p hn,xr af1 r (by simp only[Rep])⟩
def tyD:D→Sto→Option String
 |.non,_=>some "NoneType"
 |.bl _,_=>some "bool"
 |.int _,_=>some "int"
 |.str _,_=>some "str"
 |.tup _,_=>some "tuple"
 |.lst _,_=>some "list"
 |.dct0,_=>some "dict"
 |.loc i,S=>match S[i]? with
  |some (.lst _)=>some "list"
  |some (.dct _)=>some "dict"
  |_=>none
 |_,_=>none
def yH (a b:String):Bool:=a == b||(a == "bool" && b == "int")
def pL (b:String):Bool:=b == "int" || b == "bool" || b == "tuple" || b == "list" || b == "str" || b == "dict"
def R9 (a b:String):Option Bool:=if (Value.type a == Value.type b)=true then some true else if PySem.W.kitMeta b=true then (fastBuiltinMro a).map (·.contains (.type b)) else none
def tyL:List String:=["NoneType","bool","int","str","tuple","list","dict"]
def okL:List String:=["int","bool","tuple","list","str","dict"]
theorem NM:(tyL.all fun a=>okL.all fun b=>decide (R9 a b=some (yH a b)))=true:=by decide +kernel
theorem RS {b:String}(hb:pL b=true):b∈okL:=by simpa [pL,okL,or_assoc] using hb
theorem NN {K:PySem.W.Frag}{a b:String}(ha:a∈tyL)(hb:pL b=true):PySem.W.kitOne K (.type a) (.type b)=some (yH a b):=
 of_decide_eq_true (p:=R9 a b=some (yH a b)) (List.all_eq_true.mp (List.all_eq_true.mp NM a ha) b (RS hb))
def x5:DF:=fun ds S=>match ds with
 |[d,.ty b]=>if pL b then match tyD d S with
   |some a=>.ok (.bl (yH a b)) S
   |none=>.bad
  else .bad
 |_=>.bad
inductive TyV (X:Cx)(H:Hp)(v:V)(a:String):Prop
 |of (t:TyOf X.K H v (.type a))
 |tup (p:Addr) (vs:List V) (e:v=.ref p) (q:SqT X.K H p vs) (ea:a = "tuple")
 |lst (p:Addr) (vs:List V) (e:v=.ref p) (q:SqL X.K H p vs) (ea:a = "list")
theorem EU {d:D}{S:Sto}{a:String}(h:tyD d S=some a):a∈tyL:=by
 cases d with
 |non=>cases h;exact .head _
 |bl b=>cases h;exact .tail _ (.head _)
 |int i=>cases h;exact .tail _ (.tail _ (.head _))
 |str x=>cases h;exact .tail _ (.tail _ (.tail _ (.head _)))
 |tup xs=>cases h;exact .tail _ (.tail _ (.tail _ (.tail _ (.head _))))
 |lst xs=>cases h;exact .tail _ (.tail _ (.tail _ (.tail _ (.tail _ (.head _)))))
 |dct0=>cases h;exact .tail _ (.tail _ (.tail _ (.tail _ (.tail _ (.tail _ (.head _))))))
 |loc i =>
  rcases UY (f:=fun _=>some "list") (g:=fun _=>some "dict") h with⟨_,_,h⟩|⟨_,_,h⟩
  ·cases h;exact .tail _ (.tail _ (.tail _ (.tail _ (.tail _ (.head _)))))
  ·cases h;exact .tail _ (.tail _ (.tail _ (.tail _ (.tail _ (.tail _ (.head _))))))
 |_=>exact nn h
theorem CV {H P:Hp}{α : List Addr}{S:Sto}{d:D}{v:V}{a:String}(r:Rel X.K H P α S)(p:Rep X.K P α d v)(h:tyD d S=some a):TyV X H v a:=by
 cases d with
 |non=>cases h;cases (show v=.non from p);exact .of .non
 |bl b=>cases h;cases (show v=.bl b from p);exact .of (.bl b)
 |int i=>cases h;cases (show v=.int i from p);exact .of (.int i)
 |str x=>cases h;cases (show v=.str x from p);exact .of (.str x)
 |tup xs =>
  cases h
  simp only[Rep] at p
  obtain⟨a,vs,e,q,t⟩:=p
  exact .tup a vs e (vI r.sub q) rfl
 |lst xs =>
  cases h
  simp only[Rep] at p
  obtain⟨a,vs,e,q,t⟩:=p
  exact .lst a vs e (vW r.sub q).l rfl
 |dct0 =>
  cases h
  simp only[Rep] at p
  obtain⟨a,rfl,q⟩:=p
  exact .of (.dK (r.sub _ _ q))
 |loc i =>
  simp only[Rep] at p
  obtain⟨a,rfl,q⟩:=p
  rcases UY (f:=fun _=>some "list") (g:=fun _=>some "dict") h with⟨xs,hS,h⟩|⟨kvs,hS,h⟩
  ·cases h
   obtain⟨vs,z,t⟩:=r.at' i a _ q hS
   exact .of (.lst z)
  ·cases h
   obtain⟨vs,z,t⟩:=r.at' i a _ q hS
   exact .of (.dK z)
 |_=>exact nn h
inductive IsiV (ds:List D)(S:Sto):Prop
 |bad (e:x5 ds S=.bad)
 |of (d:D) (b a:String) (ed:ds=[d,.ty b]) (hb:pL b=true) (ha:tyD d S=some a) (e:x5 ds S=.ok (.bl (yH a b)) S)
theorem AH (ds:List D)(S:Sto):IsiV ds S:=by
 cases ds with
 |nil=>exact .bad rfl
 |cons d ds =>
  cases ds with
  |nil=>exact .bad rfl
  |cons e ds =>
   cases ds with
   |cons _ _=>cases e <;> exact .bad rfl
   |nil =>
    cases e with
    |ty b =>
     have z:x5 [d,.ty b] S=if pL b then (match tyD d S with|some a=>.ok (.bl (yH a b)) S|none=>.bad) else .bad:=rfl
     by_cases hb:pL b=true
     ·rw[if_pos hb] at z
      cases ha:tyD d S with
      |none=>rw[ha] at z;exact .bad z
      |some a=>rw[ha] at z;exact .of d b a rfl hb ha z
     ·rw[if_neg hb] at z
      exact .bad z
    |_=>exact .bad rfl
theorem DM:kL X (.builtin "isinstance") x5:=by
 intro pins σ H s P α S vs us ds Q I r rv rp af
 cases AH ds S with
 |bad e=>rw[e] at af;exact False.elim af
 |of d b a ed hb ha e =>
  subst ed
  rw[e] at af
  obtain⟨v,w,u,x,rfl,rfl,p,p',q,q'⟩:=KH rp rv
  simp only[Rep] at p'
  subst p'
  cases (show x=Value.type b from q')
  have kit:=NN (K:=X.K) (EU ha) hb
  have fin:∀ tk,EP X pins σ Q (.bool (yH a b)) { s with toks:=tk }:=fun tk=>⟨.bl _,H,I.tok tk,rfl,xr af r (by simp only[Rep])⟩
  cases CV r p ha with
  |of ht=>exact GQ I q ht kit fin
  |tup p' ws e sq ea =>
   subst e ea
   cases (show u=Value.ref p' from q)
   obtain⟨its,rv',⟨o,h1,h2,_⟩,_⟩:=I.tuple sq
   exact PySem.W.kia_one PySem.W.kitx_tuple I.kIn ⟨o,h1,h2⟩ kit (fun z=>nomatch z) fin
  |lst p' ws e sq ea =>
   subst e ea
   cases (show u=Value.ref p' from q)
   obtain⟨its,rv',⟨o,_,h1,h2,_⟩,_⟩:=I.list sq
   exact PySem.W.kia_one PySem.W.kitx_list I.kIn ⟨o,h1,h2⟩ kit (fun z=>nomatch z) fin
def j7:List D→Option (List Bool)
 |[]=>some []
 |.bl b::r=>(j7 r).map (b::·)
 |_=>none
theorem lR {P:Hp}{α : List Addr}:∀ {ds:List D} {bs:List Bool} {vs:List V} {us:List Value},j7 ds=some bs→qI X.K P α ds vs→qQ vs us→us=bs.map Value.bool
 |[],bs,vs,us,h,rp,rv=>by
  cases h
  have:=rp.nil_inv;subst this
  cases rv;rfl
 |d::ds,bs,vs,us,h,rp,rv=>by
  cases d with
  |bl b =>
   obtain⟨bs',q,rfl⟩:=Option.map_eq_some_iff.mp (show (j7 ds).map (b::·)=some bs from h)
   obtain⟨w,ws,rfl,p,t⟩:=rp.cons_inv
   simp only[Rep] at p;subst p
   cases rv with
   |cons q1 q2 =>
    cases (show _=Value.bool b from q1)
    rw[lR q t q2]
    rfl
  |_=>exact nn h
def gS (any:Bool):DF:=fun ds S=>match ds with
 |[d]=>match (wK d).bind j7 with
  |some bs=>.ok (.bl (if any then bs.any id else bs.all id)) S
  |none=>.bad
 |_=>.bad
theorem ZS (bs:List Bool):((List.range bs.length).all fun i=>bs.getD i false)=bs.all id:=by
 induction bs with
 |nil=>rfl
 |cons b bs ih =>
  rw[List.length_cons,List.range_succ_eq_map,List.all_cons,List.all_map,List.all_cons,← ih]
  rfl
theorem ZT (bs:List Bool):((List.range bs.length).any fun i=>bs.getD i false)=bs.any id:=by
 induction bs with
 |nil=>rfl
 |cons b bs ih =>
  rw[List.length_cons,List.range_succ_eq_map,List.any_cons,List.any_map,List.any_cons,← ih]
  rfl
theorem GR {pins:List (Addr × Obj)}{σ : _L.St}{H:Hp}{s:Shared}{o:Obj}{h':Heap}{tk:Nat}(I:Inv X pins σ H s)(k:∀ b ob,b ∉ [s.heap.objs.size]→(s.heap.push o).get? b=some ob→h'.get? b=some ob):Inv X pins σ H { s with heap:=h',toks:=tk }:=
 I.kept fun b u e=>k b u (by simp;exact Nat.ne_of_lt (Heap.lt_size e)) (Heap.get?_push_of_some _ e)
theorem tP {bs:List Bool}{its:List Value}(hi:its=bs.map Value.bool){A:Around}:TruthOf X.prog X.w A (fun i v=>its.toArray[i]? = some v) (fun i=>bs.getD i false):=fun i v s' Q' E' hv hQ=>by
 subst hi
 have hv':(bs.map Value.bool)[i]? = some v:=by simpa using hv
 rw[List.getElem?_map] at hv'
 cases e:bs[i]? with
 |none=>rw[e] at hv';exact nn hv'
 |some b =>
  rw[e] at hv'
  cases Option.some.inj hv'
  have:bs.getD i false=b:=by simp[List.getD,e]
  have hQ':Q' (bs.getD i false) s':=hQ
  rw[this] at hQ'
  exact wpAny_truthy_bool hQ'
theorem NB {any:Bool}{ds:List D}{S:Sto}{P:Hp}{α : List Addr}{Ok:D→Sto→Prop}(h:qN X P α (gS any ds S) Ok):∃ d xs bs,ds=[d]∧ItV d xs∧j7 xs=some bs∧Ok (.bl (if any then bs.any id else bs.all id)) S:=by
 obtain⟨d,rfl,h1⟩:=YO (X:=X) (β:=D) (g:=fun d=>match (wK d).bind j7 with|some bs=>.ok (D.bl (if any then bs.any id else bs.all id)) S|none=>.bad) h
 cases hb:(wK d).bind j7 with
 |none=>rw[hb] at h1;exact False.elim h1
 |some bs =>
  rw[hb] at h1
  obtain⟨xs,hx,hbs⟩:=Option.bind_eq_some_iff.mp hb
  exact⟨d,xs,bs,rfl,itV hx,hbs,h1⟩
theorem DH (any:Bool)(hc:X.calm=true):kL X (.builtin (if any then "any" else "all")) (gS any):=by
 intro pins σ H s P α S vs us ds Q I r rv rp af
 obtain⟨d,xs,bs,ed,hd,hbs,ok⟩:=NB af
 clear af
 subst ed
 obtain⟨v,u,rfl,rfl,p,q⟩:=dM rp rv
 clear rp
 have fin:∀ {o:Obj} (h':Heap) (tk:Nat),(∀ b ob,b ∉ [s.heap.objs.size]→(s.heap.push o).get? b=some ob→h'.get? b=some ob)→EP X pins σ Q (.bool (if any then bs.any id else bs.all id)) { s with heap:=h',toks:=tk }:=
  fun {o} h' tk k=>⟨.bl _,H,GR I k,rfl,xr ok r (by simp only[Rep])⟩
 clear rv ok
 have hh:X.A.in1.handled=none:=I.ok.hd hc
 cases hd with
 |tup ed =>
  subst ed
  obtain⟨a,ws,its,rfl,sq,t,rvi,ht,hl,_⟩:=bR I r p
  cases (show u=Value.ref a from q)
  have hi:=lR hbs t rvi
  have hlen:its.toArray.size=bs.length:=by rw[hi];simp
  have hne:a≠s.heap.objs.size:=by obtain⟨o,e,_⟩:=ht;exact Nat.ne_of_lt (Heap.lt_size e)
  have W:=Walks.tuple (prog:=X.prog) (w:=X.w) hh s.heap.objs.size a hne its.toArray
  have hT:∀ o,(s.heap.push o).IsTuple a its.toArray:=fun o=>by obtain⟨o,e,c⟩:=ht;exact⟨o,Heap.get?_push_of_some _ e,c⟩
  have ht':s.heap.IsTuple a its.toArray:=ht
  cases any with
  |false =>
   refine call_all_walk (wpAny_pyIter_tuple ht' ⟨s.heap.objs.size,_,_,_,_,_,_,rfl,W,⟨⟨_,Heap.get?_push_size _ rfl,rfl,rfl⟩,hT _⟩,tP hi,fun h' tk k=>?_⟩)
   rw[hlen,ZS]
   exact fin h' tk k
  |true =>
   refine call_any_walk (wpAny_pyIter_tuple ht' ⟨s.heap.objs.size,_,_,_,_,_,_,rfl,W,⟨⟨_,Heap.get?_push_size _ rfl,rfl,rfl⟩,hT _⟩,tP hi,fun h' tk k=>?_⟩)
   rw[hlen,ZT]
   exact fin h' tk k
 |lst ed =>
  subst ed
  obtain⟨a,ws,its,n,rfl,sq,t,rvi,ht,hl,_⟩:=rO I r p
  cases (show u=Value.ref a from q)
  have hL:s.heap.IsList a its.toArray:=⟨_,ht,rfl,n,rfl⟩
  have hi:=lR hbs t rvi
  have hlen:its.toArray.size=bs.length:=by rw[hi];simp
  have hne:a≠s.heap.objs.size:=Nat.ne_of_lt (Heap.lt_size ht)
  have W:=Walks.list (prog:=X.prog) (w:=X.w) hh s.heap.objs.size a hne its.toArray
  have hL':∀ o,(s.heap.push o).IsList a its.toArray:=fun o=>⟨_,Heap.get?_push_of_some _ ht,rfl,n,rfl⟩
  cases any with
  |false =>
   refine call_all_walk (wpAny_pyIter_list hL ⟨s.heap.objs.size,_,_,_,_,_,_,rfl,W,⟨⟨_,Heap.get?_push_size _ rfl,rfl,rfl⟩,hL' _⟩,tP hi,fun h' tk k=>?_⟩)
   rw[hlen,ZS]
   exact fin h' tk k
  |true =>
   refine call_any_walk (wpAny_pyIter_list hL ⟨s.heap.objs.size,_,_,_,_,_,_,rfl,W,⟨⟨_,Heap.get?_push_size _ rfl,rfl,rfl⟩,hL' _⟩,tP hi,fun h' tk k=>?_⟩)
   rw[hlen,ZT]
   exact fin h' tk k
def WU:DF:=fun ds S=>match ds with
 |[.int i]=>.ok (.int i) S
 |[.bl b]=>.ok (.int (b01 b)) S
 |_=>.bad
inductive IntV (ds:List D)(S:Sto):Prop
 |bad (e:WU ds S=.bad)
 |int (i:Int) (e:ds=[.int i])
 |bl (b:Bool) (e:ds=[.bl b])
theorem AG (ds:List D)(S:Sto):IntV ds S:=by
 cases ds with
 |nil=>exact .bad rfl
 |cons d ds =>
  cases ds with
  |cons _ _=>cases d <;> exact .bad rfl
  |nil =>
   cases d with
   |int i=>exact .int i rfl
   |bl b=>exact .bl b rfl
   |_=>exact .bad rfl
theorem DJ:kL X (.type "int") WU:=by
 intro pins σ H s P α S vs us ds Q I r rv rp af
 cases AG ds S with
 |bad e=>rw[e] at af;exact False.elim af
 |int i e =>
  subst e
  obtain⟨v,u,rfl,rfl,p,q⟩:=dM rp rv
  exact Z7 pins s σ H _ _ Q I rv (.inl ⟨_,by rw[u9 p],xr af r (by simp only[Rep])⟩)
 |bl b e =>
  subst e
  obtain⟨v,u,rfl,rfl,p,q⟩:=dM rp rv
  simp only[Rep] at p;subst p
  exact Z7 pins s σ H _ _ Q I rv (.inr ⟨_,rfl,xr af r (by simp only[Rep];rfl)⟩)
def nQ:DF:=fun ds S=>match ds with
 |[d]=>match wK d with
  |some xs=>.ok (.tup xs) S
  |none=>.bad
 |_=>.bad
theorem BT:kL X (.type "tuple") nQ:=by
 intro pins σ H s P α S vs us ds Q I r rv rp af
 obtain⟨d,rfl,af1⟩:=YO (X:=X) (β:=D) (g:=fun d=>match wK d with|some xs=>.ok (D.tup xs) S|none=>.bad) af
 obtain⟨xs,hx,af2⟩:∃ xs,wK d=some xs∧OkV X P α Q (.tup xs) S:=by
  cases hx:wK d with
  |none=>rw[hx] at af1;exact False.elim af1
  |some xs=>rw[hx] at af1;exact⟨xs,rfl,af1⟩
 obtain⟨v,u,rfl,rfl,p,q⟩:=dM rp rv
 cases itV hx with
 |tup e =>
  subst e
  have p0:=p
  simp only[Rep] at p
  obtain⟨a,ws,rfl,sq,t⟩:=p
  exact s9 pins s σ H _ _ Q I rv ⟨a,ws,rfl,.inr ⟨vI r.sub sq,xr af2 r p0⟩⟩
 |lst e =>
  subst e
  simp only[Rep] at p
  obtain⟨a,ws,rfl,sq,t⟩:=p
  exact s9 pins s σ H _ _ Q I rv ⟨a,ws,rfl,.inl ⟨(vW r.sub sq).l,fun l hl=>dH r hl t af2⟩⟩
def eL:DF:=fun ds S=>match ds with
 |[d]=>match wK d with
  |some xs=>.ok (.lst xs) S
  |none=>.bad
 |_=>.bad
theorem TK:kL X (.type "list") eL:=by
 intro pins σ H s P α S vs us ds Q I r rv rp af
 obtain⟨d,rfl,af1⟩:=YO (X:=X) (β:=D) (g:=fun d=>match wK d with|some xs=>.ok (D.lst xs) S|none=>.bad) af
 obtain⟨xs,hx,af2⟩:∃ xs,wK d=some xs∧OkV X P α Q (.lst xs) S:=by
  cases hx:wK d with
  |none=>rw[hx] at af1;exact False.elim af1
  |some xs=>rw[hx] at af1;exact⟨xs,rfl,af1⟩
 obtain⟨v,u,rfl,rfl,p,q⟩:=dM rp rv
 cases itV hx with
 |tup e =>
  subst e
  simp only[Rep] at p
  obtain⟨a,ws,rfl,sq,t⟩:=p
  exact sT pins s σ H _ _ Q I rv ⟨a,ws,rfl,.inr (vI r.sub sq),fun l hl=>kX r hl t af2⟩
 |lst e =>
  subst e
  simp only[Rep] at p
  obtain⟨a,ws,rfl,sq,t⟩:=p
  exact sT pins s σ H _ _ Q I rv ⟨a,ws,rfl,.inl ((vW r.sub sq).l),fun l hl=>kX r hl t af2⟩
end
end _D
end
section
namespace _D
open PySem PySem.Spec PyProof.Rows _L
def w4 (tp:Bool)(h:Heap)(it l:Addr)(k:Nat):Prop:=if tp then h.IsTupleIter it l k else h.IsListIter it l k
def vX (tp:Bool)(h:Heap)(l:Addr)(xs:Array Value):Prop:=if tp then h.IsTuple l xs else h.IsList l xs
theorem w4.keep {tp:Bool}{h h':Heap}{it l:Addr}{k:Nat}(x:w4 tp h it l k)(q:∀ o,h.get? it=some o→h'.get? it=some o):w4 tp h' it l k:=by
 cases tp <;> (obtain⟨o,e,r⟩:=x;exact⟨o,q o e,r⟩)
theorem vX.keep {tp:Bool}{h h':Heap}{l:Addr}{xs:Array Value}(x:vX tp h l xs)(q:∀ o,h.get? l=some o→h'.get? l=some o):vX tp h' l xs:=by
 cases tp <;> (obtain⟨o,e,r⟩:=x;exact⟨o,q o e,r⟩)
theorem w4.there {tp:Bool}{h:Heap}{it l:Addr}{k:Nat}(x:w4 tp h it l k):∃ o,h.get? it=some o∧∀ v,o.data≠.cell v:=by
 cases tp <;> (obtain⟨o,e,_,d⟩:=x;exact⟨o,e,fun v z=>by rw[d] at z;cases z⟩)
section
variable {prog:Program}{w:World}{A:Around}{E:Value→Shared→Prop}{s:Shared}
theorem FQ {it t:Addr}{i:Nat}{items:Array Value}{x:Value}{Q:Value→Shared→Prop}(hit:s.heap.IsTupleIter it t i)(ht:s.heap.IsTuple t items)(hx:items[i]? = some x)
  (hQ:∀ h',h'.IsTupleIter it t (i+1)→Heap.SameBut it s.heap h'→Q x { s with heap:=h' }) : wpAny (model prog w) A (Builtin.SmallTypes.nextOf (.ref it)) Q E s:=by
 obtain⟨o,e,c,d⟩:=id hit
 obtain⟨u,eu,_,m,du⟩:=ht
 unfold Builtin.SmallTypes.nextOf
 refine wpAny_bind (wpAny_callSpecial?_slot (name:=Str.ofString "__next__") hit.typeIs F.slot_tuple_iterator_next (wpAny_call_entry F.slot_tuple_iterator_next hit.typeIs F.entry_tuple_iterator_next ?_ (F.args_tuple_iterator_next_1 _)))
 show wpAny _ _ (field (.ref it) 0 >>= _) _ _ s;refine wpAny_bind (wpAny_field e d (x:=.ref t) rfl ?_)
 show wpAny _ _ (if (Value.ref t == Value.none)=true then _ else _) _ _ s;rw[if_neg (show ¬ ((Value.ref t == Value.none)=true) from Bool.false_ne_true)]
 show wpAny _ _ (field (.ref it) 1 >>= _) _ _ s;refine wpAny_bind (wpAny_field e d (x:=.int i 0) rfl ?_)
 show wpAny _ _ (seqItems? (.ref t) >>= _) _ _ s;refine wpAny_bind (wpAny_seqItems eu du ?_)
 simp only[Int.toNat_natCast,hx]
 refine wpAny_bind (wpAny_setField e d (by simp) (wpAny_pure ⟨x,rfl,wpAny_pure (hQ _ ⟨_,Heap.get?_update_self _ e (Obj.isFreed_of_fields (Obj.data_mapFields d _)),(Obj.cls_mapFields ..).trans c,?_⟩ (Heap.SameBut.update ..))⟩))
 rw[Obj.data_mapFields d];simp[rawInt]
theorem YG {it t:Addr}{i:Nat}{items:Array Value}{Q:Value→Shared→Prop}(hh:A.handled=none)(hit:s.heap.IsTupleIter it t i)(ht:s.heap.IsTuple t items)(hx:items[i]? = none)
  (hE:∀ h' e,Heap.ExtBut it s.heap h'→(∃ o,h'.get? e=some o∧o.cls=.type "StopIteration")→E (.ref e) { s with heap:=h' }) : wpAny (model prog w) A (Builtin.SmallTypes.nextOf (.ref it)) Q E s:=by
 obtain⟨o,e,c,d⟩:=id hit
 obtain⟨u,eu,_,m,du⟩:=ht
 unfold Builtin.SmallTypes.nextOf
 refine wpAny_bind (wpAny_callSpecial?_slot (name:=Str.ofString "__next__") hit.typeIs F.slot_tuple_iterator_next (wpAny_call_entry F.slot_tuple_iterator_next hit.typeIs F.entry_tuple_iterator_next ?_ (F.args_tuple_iterator_next_1 _)))
 show wpAny _ _ (field (.ref it) 0 >>= _) _ _ s;refine wpAny_bind (wpAny_field e d (x:=.ref t) rfl ?_)
 show wpAny _ _ (if (Value.ref t == Value.none)=true then _ else _) _ _ s;rw[if_neg (show ¬ ((Value.ref t == Value.none)=true) from Bool.false_ne_true)]
 show wpAny _ _ (field (.ref it) 1 >>= _) _ _ s;refine wpAny_bind (wpAny_field e d (x:=.int i 0) rfl ?_)
 show wpAny _ _ (seqItems? (.ref t) >>= _) _ _ s;refine wpAny_bind (wpAny_seqItems eu du ?_)
 simp only[Int.toNat_natCast,hx];refine wpAny_bind (wpAny_rule (wpAny_bind (wpAny_setField e d (by simp) ?_)))
 show wpAny _ _ (newExc (.type "StopIteration") [] >>= _) _ _ _;refine wpAny_bind ?_
 simp only[newExc,newTuple];refine wpAny_bind (wpAny_newObj_type ?_ (by size_fits))
 refine wpAny_bind (m:=firstArgMember _ _) (wpAny_of_eq (a:=Value.none) (by first|rfl|(simp only[firstArgMember];rfl)) (wpAny_newObj_type ?_ (by size_fits)))
 simp only[raiseNew];refine wpAny_bind (wpAny_handled ?_)
 first|rw[show A.in1.handled=none from hh]|rw[hh]
 exact wpAny_bind (wpAny_pure (wpAny_throw (hE _ _ (((Heap.SameBut.update ..).extBut.push _).push _) ⟨_,Heap.get?_push_size _ rfl,rfl⟩)))
theorem aN {tp:Bool}{it l:Addr}{k:Nat}{xs:Array Value}{x:Value}{Q:Value→Shared→Prop}(hit:w4 tp s.heap it l k)(hl:vX tp s.heap l xs)(hx:xs[k]? = some x)
  (hQ:∀ h',w4 tp h' it l (k+1)→Heap.SameBut it s.heap h'→Q x { s with heap:=h' }) : wpAny (model prog w) A (Builtin.SmallTypes.nextOf (.ref it)) Q E s:=by
 cases tp with
 |false=>exact wpAny_nextOf_list_item hit hl hx hQ
 |true=>exact FQ hit hl hx hQ
theorem rP {tp:Bool}{it l:Addr}{k:Nat}{xs:Array Value}{Q:Value→Shared→Prop}(hh:A.handled=none)(hit:w4 tp s.heap it l k)(hl:vX tp s.heap l xs)(hx:xs[k]? = none)
  (hE:∀ h' e,Heap.ExtBut it s.heap h'→(∃ o,h'.get? e=some o∧o.cls=.type "StopIteration")→E (.ref e) { s with heap:=h' }) : wpAny (model prog w) A (Builtin.SmallTypes.nextOf (.ref it)) Q E s:=by
 cases tp with
 |false=>exact wpAny_nextOf_list_end hh hit hl hx hE
 |true=>exact YG hh hit hl hx hE
structure ZA (z I O i j:Addr):Prop where
 Iz:I≠z
 Oz:O≠z
 iz:i≠z
 jz:j≠z
 IO:I≠O
 Ii:I≠i
 Ij:I≠j
 Oi:O≠i
 Oj:O≠j
 ij:i≠j
structure Off (z O i j a:Addr):Prop where
 z:a≠z
 O:a≠O
 i:a≠i
 j:a≠j
abbrev BI (z O i j:Addr)(h h':Heap):Prop:=∀ c o,c≠z→c≠O→c≠i→c≠j→h.get? c=some o→h'.get? c=some o
theorem MH {tp tq:Bool}{z I O i j a b:Addr}{k:Nat}{xs ys:Array Value}{x y p q:Value}{Q:Value→Shared→Prop}(D:ZA z I O i j)(Da:Off z O i j a)(Db:Off z O i j b)
  (hz:IsZip s.heap z I O .none) (hI:IsPair s.heap I (.ref i) (.ref j)) (hO:IsPair s.heap O p q) (h1:w4 tp s.heap i a k) (h2:w4 tq s.heap j b k) (ha:vX tp s.heap a xs) (hb:vX tq s.heap b ys) (hx:xs[k]? = some x) (hy:ys[k]? = some y)
  (hQ:∀ h',IsZip h' z I O (rawInt s.heap.objs.size)→IsPair h' O x y→w4 tp h' i a (k+1)→w4 tq h' j b (k+1)→IsPair h' s.heap.objs.size x y→h'.objs.size=s.heap.objs.size+1→BI z O i j s.heap h'→Q (.ref s.heap.objs.size) { s with heap:=h' }) :
  wpAny (model prog w) A (Builtin.«zip.__next__» ⟨[.ref z],[]⟩) (fun fin s'=>∃ v,fin=.done (.ret v)∧Q v s') E s:=by
 show wpAny _ _ (field (.ref z) 2 >>= _) _ _ _;refine wpAny_bind (wpAny_field hz rfl (x:=.bool false) rfl ?_)
 show wpAny _ _ (field (.ref z) 3 >>= _) _ _ _;refine wpAny_bind (wpAny_field hz rfl (x:=.ref I) rfl (wpAny_bind (wpAny_seqItems hI rfl ?_)))
 show wpAny _ _ (Builtin.SmallTypes.ownedTupleIsFree (.ref z) >>= _) _ _ _;refine wpAny_bind ?_
 unfold Builtin.SmallTypes.ownedTupleIsFree;refine wpAny_bind (wpAny_field hz rfl (x:=.none) rfl (wpAny_pure ?_))
 simp only[if_true];refine wpAny_bind (wpAny_rule (wpAny_bind (wpAny_field hz rfl (x:=.ref O) rfl (wpAny_bind (wpAny_setField_rec hz (by simp) fun g1 z1 s1=>?_)))))
 replace z1:IsZip g1 z I O .ellipsis:=z1
 refine wpAny_bind ?_;simp only[List.zipIdx_cons,List.zipIdx_nil,List.forIn_cons,List.forIn_nil]
 refine wpAny_bind (wpAny_bind (wpAny_onRaise ?_));show wpAny _ _ (Builtin.SmallTypes.nextOf (.ref i) >>= _) _ _ _
 refine wpAny_bind (aN (h1.keep fun o e=>s1.extBut _ _ D.iz e) (ha.keep fun o e=>s1.extBut _ _ Da.z e) hx fun g2 i2 s2=>wpAny_pure ?_)
 have O2:IsPair g2 O p q:=s2.extBut _ _ D.Oi (s1.extBut _ _ D.Oz hO)
 refine wpAny_bind (wpAny_seqItems O2 rfl (wpAny_bind (wpAny_updateSeq_pair O2 fun g3 O3 s3=>wpAny_bind (wpAny_letGo (wpAny_pure ?_)))))
 replace O3:IsPair g3 O x q:=O3
 refine wpAny_bind (wpAny_bind (wpAny_onRaise ?_));show wpAny _ _ (Builtin.SmallTypes.nextOf (.ref j) >>= _) _ _ _
 refine wpAny_bind (aN (h2.keep fun o e=>s3.extBut _ _ D.Oj.symm (s2.extBut _ _ D.ij.symm (s1.extBut _ _ D.jz e))) (hb.keep fun o e=>s3.extBut _ _ Db.O (s2.extBut _ _ Db.i (s1.extBut _ _ Db.z e))) hy fun g4 j4 s4=>wpAny_pure ?_)
 have O4:IsPair g4 O x q:=s4.extBut _ _ D.Oj O3
 refine wpAny_bind (wpAny_seqItems O4 rfl (wpAny_bind (wpAny_updateSeq_pair O4 fun g5 O5 s5=>wpAny_bind (wpAny_letGo (wpAny_pure (wpAny_pure ?_))))))
 replace O5:IsPair g5 O x y:=O5
 refine wpAny_bind (wpAny_seqItems O5 rfl (wpAny_bind (wpAny_newTuple ?_)))
 have sz:g5.objs.size=s.heap.objs.size:=by rw[s5.1,s4.1,s3.1,s2.1,s1.1]
 have z5:IsZip g5 z I O .ellipsis:=s5.extBut _ _ D.Oz.symm (s4.extBut _ _ D.jz.symm (s3.extBut _ _ D.Oz.symm (s2.extBut _ _ D.iz.symm z1)))
 have k5:BI z O i j s.heap g5:=fun c o c1 c2 c3 c4 e=>s5.extBut _ _ c2 (s4.extBut _ _ c4 (s3.extBut _ _ c2 (s2.extBut _ _ c3 (s1.extBut _ _ c1 e))))
 have i5:w4 tp g5 i a (k+1):=i2.keep fun o e=>s5.extBut _ _ D.Oi.symm (s4.extBut _ _ D.ij (s3.extBut _ _ D.Oi.symm e))
 have j5:w4 tq g5 j b (k+1):=j4.keep fun o e=>s5.extBut _ _ D.Oj.symm e
 have zl:z<g5.objs.size:=Heap.lt_size z5
 show wpAny _ _ (Builtin.SmallTypes.ownedTupleHandOut (.ref z) (.ref g5.objs.size) >>= _) _ _ _
 refine wpAny_bind ?_;unfold Builtin.SmallTypes.ownedTupleHandOut
 have z6:IsZip (g5.push { cls:=.type "tuple",data:=.seq #[x,y] }) z I O .ellipsis:=Heap.get?_push_of_some _ z5
 refine wpAny_bind (wpAny_setField_rec z6 (by simp) fun g7 z7 s7=>?_)
 replace z7:IsZip g7 z I O (rawInt g5.objs.size):=z7
 refine wpAny_setField_rec z7 (by simp) fun g8 z8 s8=>?_
 replace z8:IsZip g8 z I O (rawInt g5.objs.size):=z8
 have up:∀ c o,c≠z→g5.get? c=some o→g8.get? c=some o:=fun c o c1 e=>s8.extBut _ _ c1 (s7.extBut _ _ c1 (Heap.get?_push_of_some _ e))
 have T8:IsPair g8 g5.objs.size x y:=s8.extBut _ _ (Nat.ne_of_gt zl) (s7.extBut _ _ (Nat.ne_of_gt zl) (Heap.get?_push_size _ rfl))
 have sz8:g8.objs.size=g5.objs.size+1:=by rw[s8.1,s7.1,Heap.size_push]
 rw[sz] at z8 T8 sz8
 refine wpAny_pure ⟨_,rfl,?_⟩
 show Q (.ref g5.objs.size) _
 rw[sz]
 exact hQ g8 z8 (up _ _ D.Oz O5) (i5.keep fun o e=>up _ o D.iz e) (j5.keep fun o e=>up _ o D.jz e) T8 sz8 fun c o c1 c2 c3 c4 e=>up c o c1 (k5 c o c1 c2 c3 c4 e)
end
end _D
end
section
namespace _D
open PySem PySem.Spec PyProof.Rows _L
theorem xG.there {P:Program}{w:World}{H:Hp}{h:Heap}{a:Addr}{o:HO}(x:xG P w H h a o):∃ ob,h.get? a=some ob:=by
 cases o with
 |lst xs=>obtain⟨_,_,_,_,e⟩:=x;exact⟨_,e⟩
 |tup xs=>obtain⟨_,_,_,ob,e,_⟩:=x;exact⟨_,e⟩
 |dK kvs=>obtain⟨_,_,_,_,o,_,_,e,_⟩:=x;exact⟨_,e⟩
 |dT kvs=>obtain⟨_,_,_,_,o,_,_,e,_⟩:=x;exact⟨_,e⟩
 |set S n=>obtain⟨o,_,_,_,e,_⟩:=x;exact⟨_,e⟩
 |ins C dx fs=>obtain⟨_,_,_,e,_⟩:=x;exact⟨_,e⟩
 |own y=>obtain⟨_,e⟩:=x;exact⟨_,e⟩
 |xd fs=>obtain⟨_,⟨_,_,_,e,_⟩,_⟩:=x;exact⟨_,e⟩
 |rng lo hi=>obtain⟨_,_,_,e⟩:=x;exact⟨_,e⟩
 |frz ob u=>obtain⟨e,_⟩:=x;exact⟨_,e⟩
 |tbl ps=>exact⟨_,show h.get? a=some _ from x⟩
 |met f y=>exact⟨_,show h.get? a=some _ from x⟩
 |ext φ => obtain⟨_,e,_⟩:=x;exact e
section
variable {X:Cx}{pins:List (Addr × Obj)}{σ : _L.St}{H:Hp}{s:Shared}{B h':Heap}
abbrev Fn1 (X:Cx):Prop:=X.ex=[]∧X.stack=X.env::X.outer∧X.env.frame=some X.env.locals
theorem Fn1.mem (F:Fn1 X){b:Addr}:b∈frs X.stack↔b=X.env.locals∨b∈X.fs:=by
 rw[F.2.1]
 unfold frs
 rw[List.filterMap_cons,F.2.2]
 exact List.mem_cons
theorem Old.there (I:Inv X pins σ H s)(F:Fn1 X){b:Addr}(o:Old X pins H b):∃ ob,s.heap.get? b=some ob:=by
 rcases o with⟨o,e⟩|e|⟨p,hp,rfl⟩|⟨x,e⟩
 ·exact I.base.there b o e (by rw[F.1];simp)
 ·cases q:H b with
  |none=>exact absurd q e
  |some u=>exact xG.there (I.hok b u q)
 ·exact⟨_,(I.pin p hp).1⟩
 ·obtain⟨v,ob,ho,_⟩:=I.cell x b e
  exact⟨ob,ho⟩
theorem Inv.fly (I:Inv X pins σ H s)(F:Fn1 X)(cv:Cv X pins H B s.heap)(st:B.StaysIn h')(up:s.heap.UpToSlots h'):Inv X pins σ H { s with heap:=h' } ∧ Cv X pins H B h':=by
 have kp:∀ b o,s.heap.get? b=some o→Old X pins H b→b ∉ frs X.stack→h'.get? b=some o:=fun b o e q n=>st b o (cv b o e q n)
 have neL:∀ b o,X.s₀.heap.get? b=some o→b≠X.env.locals:=fun b o e=>Nat.ne_of_lt (Nat.lt_of_lt_of_le (Heap.lt_size e) I.ok.above)
 have nofr:∀ b o,X.s₀.heap.get? b=some o→b ∉ X.fs→b ∉ frs X.stack:=fun b o e n z=>(F.mem.mp z).elim (neL b o e) n
 have nx:∀ b,b ∉ X.ex:=fun b=>by rw[F.1];simp
 have frU:∀ b,b∈frs X.stack→∀ o,s.heap.get? b=some o→∃ sl,h'.get? b=some { o with slots:=sl }:=fun b hb o e=>by
  obtain⟨_,o',e',nf⟩:=I.stack.mem hb
  rw[e] at e';cases e'
  exact up b o e nf
 have cellK:∀ x c,X.env.cells.lookup x=some c→∀ v,s.heap.IsCell c v→h'.IsCell c v:=fun x c e v ⟨o,ho,hd⟩=>by
  obtain⟨sl,q⟩:=up c o ho fun vs z=>by rw[hd] at z;cases z
  exact⟨_,q,hd⟩
 refine⟨⟨I.ok,I.os,I.bare,⟨fun b o e n hb hx=>?_,fun b o e n hb hx=>?_,I.base.free,fun b o e hx=>?_,I.base.tups,I.base.frzs,I.base.tbls⟩,?_,fun x c e=>?_,I.free,I.freeC,fun p hp=>?_,fun a o e=>?_,I.len⟩,fun b o e q n=>?_⟩
 ·exact kp b o (I.base.keep b o e n hb hx) (.inl ⟨o,e⟩) (nofr b o e hb)
 ·obtain⟨sl,e1⟩:=I.base.slot b o e n hb hx
  obtain⟨sl',e2⟩:=frU b (F.mem.mpr (.inr hb)) _ e1
  exact⟨sl',e2⟩
 ·obtain⟨o',e1⟩:=I.base.there b o e hx
  by_cases hb:b∈frs X.stack
  ·obtain⟨sl,e2⟩:=frU b hb _ e1
   exact⟨_,e2⟩
  ·exact⟨o',kp b o' e1 (.inl ⟨o,e⟩) hb⟩
 ·obtain⟨m,hn,hl⟩:=I.loc
  refine⟨m,up.ns hn,fun i x v e1 e2 e3=>?_⟩
  obtain⟨u,r,l⟩:=hl i x v e1 e2 e3
  refine⟨u,r,?_⟩
  rcases l with l|⟨k,c,e,z⟩
  ·exact .inl l
  ·exact .inr ⟨k,c,e,cellK x c e _ z⟩
 ·obtain⟨v,z⟩:=I.cell x c e
  exact⟨v,cellK x c e v z⟩
 ·obtain⟨e,n,ne,nf,d⟩:=I.pin p hp
  exact⟨kp p.1 p.2 e (.inr (.inr (.inl ⟨p,hp,rfl⟩))) fun z=>(F.mem.mp z).elim ne nf,n,ne,nf,d⟩
 ·refine(I.hok a o e).stay (fun b u hb q=>?_) (fun _ q=>q) fun _ _ q=>q
  have hn:H b≠none:=by
   rcases hb with rfl|hb
   ·rw[e];intro z;cases z
   ·rw[hb];intro z;cases z
  exact kp b u q (.inr (.inl hn)) fun z=>hn (I.stkFree b z)
 ·obtain⟨o1,e1⟩:=Old.there I F q
  have e2:=cv b o1 e1 q n
  have e3:=st b o1 e2
  rw[e] at e3;cases e3
  exact e2
theorem RE {c:Value}{e:Addr}{g:Heap}{args:List Value}(I:Inv X pins σ H s)(hm:Heap.MadeExcOf g s.heap e c args)(hf:g.FunFrames X.base X.stack)(hk:∀ b o,s.heap.get? b=some o→Old X pins H b→g.get? b=some o) :
  (PySem.W.hideAll g (frs X.stack)).StaysIn g∧g.FunFrames (PySem.W.hideAll g (frs X.stack)) X.stack∧Cv X pins H (PySem.W.hideAll g (frs X.stack)) s.heap:=
 ⟨fun b o q=>PySem.W.of_hideAll _ q,PySem.W.funFrames_hide hf fun env he a ha=>List.mem_filterMap.mpr ⟨env,he,ha⟩,fun b o e q n=>PySem.W.hideAll_get _ (hk b o e q) n⟩
theorem GW {M:Model}{A:Around}{E:Value→Shared→Prop}{c:Value}{e:Addr}{Q:Unit→Shared→Prop}(I:Inv X pins σ H s)(F:Fn1 X)(hA:A.frames=some X.stack)(f:FlyX X pins H c e s.heap)
  (hQ:∀ h' B a0,Heap.FlyingW B X.outer e c a0 h'→Inv X pins σ H { s with heap:=h' } → Cv X pins H B h'→Q () { s with heap:=h' }) : wpAny M A (leaving X.env (.ref e)) Q E s:=by
 cases f with
 |new g args hm hf hk =>
  obtain⟨k1,k2,k3⟩:=RE I hm hf hk
  rw[F.2.1] at hA
  refine wpAny_leaves_madeW hA F.2.2 k1 (by rw[← F.2.1];exact k2) hm fun h' t x1 x2 x3 x4=>?_
  obtain⟨I1,cv1⟩:=Inv.fly I F k3 x1.1 x4
  exact hQ h' _ _ x1 I1 cv1
 |fly B a0 fl cv =>
  rw[F.2.1] at hA
  refine wpAny_leaves_onW hA F.2.2 (by rw[← F.2.1];exact fl) fun h' x1 x2=>?_
  obtain⟨I1,cv1⟩:=Inv.fly I F cv x1.1 x2
  exact hQ h' _ _ x1 I1 cv1
end
def CXd (P:Program)(w:World):CXT:=fun outer H s E u s' =>
 ∃ e c H' B a0,u=.ref e∧s'.os=s.os∧AllBare s'.gens∧Un (frs outer) [] H H' s.heap s'.heap∧HOk P w H' s'.heap∧Heap.FlyingW B outer e c a0 s'.heap ∧
  (∀ b o,s'.heap.get? b=some o→((∃ o,s.heap.get? b=some o)∨H' b≠none)→b ∉ frs outer→B.get? b=some o)∧E c none H'
section
variable {X:Cx}{pins:List (Addr × Obj)}{σ : _L.St}{H:Hp}{s s':Shared}
theorem SX {E:XK}{u:Value}(I:Inv X pins σ H s)(F:Fn1 X)(h:CXd X.prog X.w X.stack H s E u s'):∃ e c H',u=.ref e∧Inv X pins σ H' s'∧FlyX X pins H' c e s'.heap∧E c none H':=by
 obtain⟨e,c,H',B,a0,rfl,os,bare,un,hok,fl,cov,q⟩:=h
 have I':Inv X pins σ H' s':=Inv.call' I os un hok bare (ch:=[]) fun b z=>absurd z (by simp)
 refine⟨e,c,H',rfl,I',.fly B a0 fl fun b o eb old n=>cov b o eb ?_ n,q⟩
 rcases old with⟨o,z⟩|z|⟨p,hp,rfl⟩|⟨x,z⟩
 ·exact .inl (I.base.there b o z (by rw[F.1];simp))
 ·exact .inr z
 ·exact .inl ⟨_,(I.pin p hp).1⟩
 ·obtain⟨v,ob,ho,_⟩:=I.cell x b z
  exact .inl ⟨ob,ho⟩
end
end _D
end
section
namespace _D
open PySem PySem.Spec PyProof.Rows _L
structure RoomC (cm:Bool)(k:Nat)(A:Around):Prop where
 hd:cm=true→A.handled=none
 dp:A.depth+3*k+5<recursionLimit
 un:A.units+16*k+200<cLine
 gd:A.guards=some []
theorem RoomC.mono {cm:Bool}{j k:Nat}{A:Around}(r:RoomC cm k A)(h:j≤k:=by decide):RoomC cm j A:=⟨r.hd,by have:=r.dp;omega,by have:=r.un;omega,r.gd⟩
theorem RoomC.deeper {cm:Bool}{k:Nat}{A:Around}(r:RoomC cm (k+1) A)(env:Env):RoomC cm k (A.deeper env):=
 ⟨r.hd,by have:=r.dp;show A.depth+1+3*k+5<_;omega,by have:=r.un;show A.units+3+16*k+200<_;omega,r.gd⟩
theorem RoomC.depth {cm:Bool}{k:Nat}{A:Around}(r:RoomC cm k A):A.depth<recursionLimit:=by have:=r.dp;omega
theorem RoomC.units {cm:Bool}{k:Nat}{A:Around}(r:RoomC cm k A):A.units+64<cLine:=by have:=r.un;omega
theorem RoomC.of {k:Nat}{A:Around}(r:Room k A):RoomC true k A:=⟨fun _=>r.hd,r.dp,r.un,r.gd⟩
abbrev Cx.re (X:Cx)(A:Around)(cm:Bool)(E:Value→Shared→Prop):Cx:={ X with A:=A,calm:=cm,xe:=E }
theorem Inv.re {X:Cx}{pins:List (Addr × Obj)}{σ : _L.St}{H:Hp}{s:Shared}(I:Inv X pins σ H s)(A:Around)(cm:Bool)(E:Value→Shared→Prop)(hf:A.frames=some X.stack)(hh:cm=true→A.handled=none):Inv (Cx.re X A cm E) pins σ H s:=
 ⟨⟨I.ok.mod,I.ok.kind,I.ok.glob,I.ok.blt,I.ok.above,I.ok.inj,I.ok.has,I.ok.cab,hh,hf,I.ok.stk,I.ok.exf,I.ok.bs,I.ok.bsz,I.ok.noex,I.ok.exfs,I.ok.funs,I.ok.frf⟩,I.os,I.bare,I.base,I.loc,I.cell,I.free,I.freeC,I.pin,I.hok,I.len⟩
structure FnX (P:Program)(w:World)(K:PySem.W.Frag)(mg:Str→Option Value)(base:Heap)(cm:Bool)(k:Nat)(f:Addr)(fd:FuncData)(ps:List Str)(sp:Sp):Prop where
 len:∀ vs H Q E,sp vs H Q E→vs.length=ps.length
 run:∀ (A:Around) (outer:List Env) (s:Shared) (H:Hp) (args:Args) (us:List Value) (vs:List V) (Q:VK) (E:XK),RoomC cm k A→Env0 P w K mg base A outer s H→BindsTo s fd args (ps.zip us)→qQ vs us→sp vs H Q E →
  codeAny (model P w) A (.call (.ref f) args) (CR (CXd P w) outer P w H s Q E) s
theorem FnX.ok {P:Program}{w:World}{K:PySem.W.Frag}{mg:Str→Option Value}{base:Heap}{k:Nat}{f:Addr}{fd:FuncData}{ps:List Str}{sp:Sp}(F:FnX P w K mg base true k f fd ps sp):FnOk P w K mg base (CXd P w) k f fd ps sp:=
 ⟨F.len,fun A outer s H args us vs Q E hr=>F.run A outer s H args us vs Q E (.of hr)⟩
theorem FnX.imp {P:Program}{w:World}{K:PySem.W.Frag}{mg:Str→Option Value}{base:Heap}{cm:Bool}{k:Nat}{f:Addr}{fd:FuncData}{ps:List Str}{sp sp':Sp}(F:FnX P w K mg base cm k f fd ps sp)
  (h:∀ vs H Q E,sp' vs H Q E→sp vs H Q E):FnX P w K mg base cm k f fd ps sp':=
 ⟨fun vs H Q E q=>F.len vs H Q E (h _ _ _ _ q),fun A outer s H args us vs Q E hr he hb hv hs=>F.run A outer s H args us vs Q E hr he hb hv (h _ _ _ _ hs)⟩
def cxC (cm:Bool)(P:Program)(w:World)(K:PySem.W.Frag)(mg:Str→Option Value)(base:Heap)(N:List Str)(qual:Str)(scope:Scope)(f:Addr)(cd:Value)(A:Around)(outer:List Env)(s:Shared)(H:Hp)(E:XK):Cx where
 prog:=P
 w:=w
 K:=K
 mg:=mg
 base:=base
 A:=A.deeper (envOfC qual scope s.heap.objs.size f cd)
 N:=N
 s₀:=s
 H₀:=H
 env:=envOfC qual scope s.heap.objs.size f cd
 outer:=outer
 stack:=envOfC qual scope s.heap.objs.size f cd::outer
 ex:=[]
 calm:=cm
 fn:=fun _=>true
 pn:=[]
 xe:=fun e s'=>wpAny (model P w) (A.deeper (envOfC qual scope s.heap.objs.size f cd)) (leaving (envOfC qual scope s.heap.objs.size f cd) e) (fun _ s''=>CXd P w outer H s E e s'') (fun e' s''=>CXd P w outer H s E e' s'') s'
section
variable {P:Program}{w:World}{K:PySem.W.Frag}{mg:Str→Option Value}{base:Heap}{cm:Bool}{N:List Str}{qual:Str}{scope:Scope}{f:Addr}{cd:Value}{A:Around}{outer:List Env}{s:Shared}{H:Hp}{E:XK}
theorem BZ:PassesOwn (model P w) (A.deeper (envOfC qual scope s.heap.objs.size f cd)) (envOfC qual scope s.heap.objs.size f cd) (cxC cm P w K mg base N qual scope f cd A outer s H E).xe:=PassesOwn.leaving (Q₁:=fun e s''=>CXd P w outer H s E e s'')
theorem G9 {P0:Hp}{α : List Addr}{c:Value}{x:D}{S:Sto}{u:Value}{s':Shared}(k:XOk (cxC cm P w K mg base N qual scope f cd A outer s H E) P0 α c x S u s')
  (q:∀ H' P' α',Rel K H' P' α' S→qL P0 P'→α<+:α'→E c none H'):(cxC cm P w K mg base N qual scope f cd A outer s H E).xe u s':=by
 obtain⟨e,pins,σ,H1,P1,α1,rfl,I,r,e1,e2,F,fl⟩:=k
 refine GW (X:=cxC cm P w K mg base N qual scope f cd A outer s H E) I F I.ok.frames fl fun h' B a0 x1 I1 cv=>?_
 refine⟨e,c,H1,B,a0,rfl,I1.os,I1.bare,I1.base,I1.hok,x1,fun b o eb hb n=>cv b o eb ?_ fun z=>?_,q H1 P1 α1 r e1 e2⟩
 ·rcases hb with z|z
  ·exact .inl z
  ·exact .inr (.inl z)
 ·rcases (Fn1.mem F).mp z with z|z
  ·subst z
   rcases hb with⟨o',e'⟩|z
   ·exact absurd (Heap.lt_size e') (Nat.not_lt.mpr I1.ok.above)
   ·exact z I1.free
  ·exact n z
theorem K3 {ps:List Str}{s1:Shared}{us:List Value}{vs:List V}(S:FnScope N ps scope)(hd:cm=true→A.handled=none)(e0:Env0 P w K mg base A outer s H)(hl:vs.length=ps.length)(r:qQ vs us)
  (x:InCallC s s.heap.objs.size (bindL (envOfC qual scope s.heap.objs.size f cd).kindOf (ps.zip us) fun _=>none) (cellsFrom (s.heap.objs.size+1) scope.names []) (bindC (envOfC qual scope s.heap.objs.size f cd).kindOf (ps.zip us) fun _=>none) s1) :
  Inv (cxC cm P w K mg base N qual scope f cd A outer s H E) [] (_L.uQ N vs) H s1:=by
 have I:=ZI (CX:=CXd P w) (E:=E) (A:={ A with handled:=none }) S rfl ⟨e0.frames,e0.mod,e0.bs,e0.bsz,e0.funs,e0.frf,e0.hok,e0.bare⟩ hl r x
 have J:=Inv.re I (A.deeper (envOfC qual scope s.heap.objs.size f cd)) cm (cxC cm P w K mg base N qual scope f cd A outer s H E).xe (Around.frames_deeper e0.frames) hd
 exact J
end
theorem SY {P:Program}{w:World}{K:PySem.W.Frag}{mg:Str→Option Value}{base:Heap}{cm:Bool}{k:Nat}{f:Addr}{x qual:Str}{st:Stmt}{fd:FuncData}{N ps:List Str}{sp:Sp}(F:Fun K x qual st f fd)(S:FnScope N ps (q9 st))
  (len:∀ vs H Q E,sp vs H Q E→vs.length=ps.length)
  (hbody:∀ (cdv:Value) (A:Around) (outer:List Env) (s:Shared) (H:Hp) (vs:List V) (Q:VK) (E:XK),RoomC cm k (A.deeper (envOfC qual (q9 st) s.heap.objs.size f cdv))→sp vs H Q E →
   ∃ t,PSs (cxC cm P w K mg base N qual (q9 st) f cdv A outer s H E) (qM st) t∧t { nx:=fun _ H'=>Q .non H',rt:=Q } (_L.uQ N vs) H) :
  FnX P w K mg base cm (k+1) f fd ps sp:=by
 obtain⟨oc,od,kV,doc,pm,an,cdv,ct,osl,rfl,lk,hcd⟩:=F.ex
 refine⟨len,fun A outer s H args us vs Q E hr e0 hb r hsp=>?_⟩
 have hl:=len _ _ _ _ hsp
 have KX:K.In s.heap:=e0.mod.kin.keeps fun b o e=>(e0.bs b o e).1
 have lim:s.heap.NoLimit:=e0.mod.nolimit.keeps fun b o e=>(e0.bs b o e).1
 have hkind:∀ y∈ps.zip us,(q9 st).names.lookup y.1=some .local ∨ ((q9 st).names.lookup y.1=some .cell∧((cellsFrom (s.heap.objs.size+1) (q9 st).names []).lookup y.1).isSome=true):=fun ⟨n,v⟩ hy=>by
  rcases S.par n (List.of_mem_zip hy).1 with q|q
  ·exact .inl q
  ·exact .inr ⟨q,PySem.W.cellsFrom_some _ _ _ (.inl q)⟩
 refine codeAny_call_function hr.depth (KX _ _ lk) rfl S.co S.gen rfl (PySem.W.codeRec_of KX hcd) (hb _ _ _ _ ?_)
 refine wpAny_newFunctionEnv_cells S.kind hkind fun env he s1 x=>?_
 subst he
 refine⟨lim.keeps x.toInCall.keep,codeAny_func ?_⟩
 obtain⟨t,ht,hq⟩:=hbody cdv A outer s H vs Q E (hr.deeper _) hsp
 have I:Inv (cxC cm P w K mg base N qual (q9 st) f cdv A outer s H E) [] (_L.uQ N vs) H s1:=K3 S hr.hd e0 hl r x
 refine wpAny_mono (ht [] s1 (_L.uQ N vs) H _ I hq) (fun fl s' hs=>?_) fun e s' hs=>hs
 have fin:∀ {σ' : _L.St} {H':Hp} {v:V} {u:Value},Inv (cxC cm P w K mg base N qual (q9 st) f cdv A outer s H E) [] σ' H' s'→qO v u→Q v H'→CE outer P w H s Q u s':=
  fun {σ' H' v u} J rv q=>⟨v,H',J.os,J.bare,J.base,J.hok,rv,q⟩
 cases fl with
 |ret u =>
  obtain⟨v,σ',H',J,rv,q⟩:=hs
  exact fin J rv q
 |next =>
  obtain⟨σ',H',J,q⟩:=hs
  exact fin (v:=V.non) (u:=Value.none) J rfl q
 |brk =>
  obtain⟨_,_,_,q⟩:=hs
  exact False.elim q
 |cont =>
  obtain⟨_,_,_,q⟩:=hs
  exact False.elim q
def p8 (n:Nat)(ds:List D):qG:=ds.map some++List.replicate (n-ds.length) none
def KC:Out→Res D
 |.rt d S=>.ok d S
 |.nx _ S=>.ok .non S
 |.ex c x _ S=>.ex c x S
 |_=>.bad
def zA (n:Nat)(g:DS):DF:=fun ds S=>KC (g (p8 n ds) S)
def spD (K:PySem.W.Frag)(n:Nat)(F:DF):Sp:=fun vs H Q E=>vs.length=n∧∃ P α ds S,Rel K H P α S∧qI K P α ds vs∧match F ds S with
 |.ok d S'=>∀ v H' P' α',Rel K H' P' α' S'→qL P P'→α<+:α'→Rep K P' α' d v→Q v H'
 |.ex c _ S'=>∀ H' P' α',Rel K H' P' α' S'→qL P P'→α<+:α'→E c none H'
 |.bad=>False
theorem KG {K:PySem.W.Frag}{P:Hp}{α : List Addr}{N:List Str}{ds:List D}{vs:List V}(r:qI K P α ds vs):xC K P α (_L.uQ N vs) (p8 N.length ds):=by
 refine⟨by simp[p8,_L.uQ,r.length],fun i d e=>?_⟩
 unfold p8 at e
 unfold _L.uQ
 by_cases hi:i<ds.length
 ·rw[List.getElem?_append_left (by simpa using hi),List.getElem?_map] at e
  rw[List.getElem?_append_left (by rw[List.length_map,← r.length];exact hi),List.getElem?_map]
  cases q:ds[i]? with
  |none=>rw[q] at e;cases e
  |some d' =>
   rw[q] at e;cases e
   obtain⟨v,h1,h2⟩:=r.get q
   exact⟨v,by rw[h1];rfl,h2⟩
 ·rw[List.getElem?_append_right (by simpa using hi),List.getElem?_replicate] at e
  split at e <;> cases e
section
variable {P:Program}{w:World}{K:PySem.W.Frag}{mg:Str→Option Value}{base:Heap}{cm:Bool}
theorem fnX {x qual:Str}{st:Stmt}{f:Addr}{fd:FuncData}{N ps:List Str}{k:Nat}{g:DS}(F:Fun K x qual st f fd)(S:FnScope N ps (q9 st))
  (hbody:∀ (cdv:Value) (A:Around) (outer:List Env) (s:Shared) (H:Hp) (E:XK),RoomC cm k (A.deeper (envOfC qual (q9 st) s.heap.objs.size f cdv)) →
   PSs (cxC cm P w K mg base N qual (q9 st) f cdv A outer s H E) (qM st) (tDS (cxC cm P w K mg base N qual (q9 st) f cdv A outer s H E) g)) :
  FnX P w K mg base cm (k+1) f fd ps (spD K ps.length (zA N.length g)):=by
 refine SY F S (fun vs H Q E h=>h.1) fun cdv A outer s H vs Q E hr h=>?_
 obtain⟨hl,P',α,ds,S',r,rp,af⟩:=h
 refine⟨_,hbody cdv A outer s H E hr,P',α,p8 N.length ds,S',r,KG rp,?_⟩
 unfold zA at af
 cases q:g (p8 N.length ds) S' with
 |rt d S1=>rw[q] at af;exact fun v H' P1 α1 r1 e1 e2 p1=>af v H' P1 α1 r1 e1 e2 p1
 |nx env S1=>rw[q] at af;exact fun σ' H' P1 α1 r1 re1 e1 e2=>af .non H' P1 α1 r1 e1 e2 (by simp only[Rep])
 |bk env S1=>rw[q] at af;exact False.elim af
 |ct env S1=>rw[q] at af;exact False.elim af
 |ex c x env S1=>rw[q] at af;exact fun u s' z=>G9 z fun H' P1 α1 r1 e1 e2=>af H' P1 α1 r1 e1 e2
 |bad=>rw[q] at af;exact False.elim af
end
section
variable {X:Cx}{cm:Bool}{k:Nat}{f:Addr}{fd:FuncData}{ps:List Str}{F:DF}{x:Str}{p pos:Pos}{e:Expr}{es:List Expr}{fa:DA}{n:Nat}
def qP (n:Nat)(F:DF)(fa:DA):DE:=fun env S=>(fa env S).bind fun ds S1=>if ds.length=n then F ds S1 else .bad
theorem LQ {pins:List (Addr × Obj)}{σ : _L.St}{H:Hp}{s:Shared}{Q:VK}{us:List Value}{vs:List V}{P:Hp}{α : List Addr}{ds:List D}{S:Sto}(G:FnX X.prog X.w X.K X.mg X.base cm k f fd ps (spD X.K n F))(hr:RoomC cm k X.A)(hb:fD X.K fd ps [])(hF:Fn1 X)
  (I:Inv X pins σ H s) (r:Rel X.K H P α S) (rv:qQ vs us) (rp:qI X.K P α ds vs) (hn:ds.length=n) (af:x8 X P α (F ds S) Q):wpAny (model X.prog X.w) X.A (call (.ref f) us) (EP X pins σ Q) X.xe s:=by
 have hvn:vs.length=n:=by rw[← rp.length];exact hn
 let E:XK:=fun c _ H'=>match F ds S with
  |.ex c' _ S'=>c=c'∧∃ P' α',Rel X.K H' P' α' S'∧qL P P'∧α<+:α'
  |_=>False
 have hsp:spD X.K n F vs H Q E:=by
  refine⟨hvn,P,α,ds,S,r,rp,?_⟩
  cases q:F ds S with
  |ok d S'=>rw[q] at af;exact af
  |ex c x S' =>
   intro H' P' α' r' e1 e2
   show match F ds S with|.ex c' _ S'=>c=c'∧∃ P' α',Rel X.K H' P' α' S'∧qL P P'∧α<+:α'|_=>False
   rw[q]
   exact⟨rfl,P',α',r',e1,e2⟩
  |bad=>rw[q] at af;exact af
 have hl:us.length=ps.length:=by rw[← rv.length];exact G.len _ _ _ _ hsp
 have hb':=hb s us I.kIn (by rw[List.append_nil];exact hl)
 rw[List.append_nil] at hb'
 refine wpAny_call (codeAny_mono (G.run X.A X.stack s H ⟨us,[]⟩ us vs Q E hr I.env0 hb' rv hsp) fun r s' hq=>?_)
 cases r with
 |error u =>
  obtain⟨a,c,H',rfl,I',fl,q⟩:=SX I hF hq
  cases z:F ds S with
  |ok d S'=>simp only[E,z] at q
  |bad=>simp only[E,z] at q
  |ex c' x' S' =>
   simp only[E,z] at q
   obtain⟨rfl,P',α',r',e1,e2⟩:=q
   rw[z] at af
   exact af _ _ ⟨a,pins,σ,H',P',α',rfl,I',r',e1,e2,hF,fl⟩
 |ok fl =>
  cases fl with
  |ret u=>exact I.after hq
  |next=>exact False.elim hq
  |brk=>exact False.elim hq
  |cont=>exact False.elim hq
theorem ZC {env:qG}{S S1:Sto}{P:Hp}{α : List Addr}{ds:List D}{Ok:D→Sto→Prop}(h:qN X P α (if ds.length=n then F ds S1 else .bad) Ok):ds.length=n∧qN X P α (F ds S1) Ok:=by
 by_cases hn:ds.length=n
 ·rw[if_pos hn] at h;exact⟨hn,h⟩
 ·rw[if_neg hn] at h;exact False.elim h
theorem TW (G:FnX X.prog X.w X.K X.mg X.base cm k f fd ps (spD X.K n F))(hr:RoomC cm k X.A)(hF:Fn1 X)(hg:Gl X x)(hm:X.mg x=some (.ref f))(hk:PySem.W.keepIn X.K (.ref f)=true)(hb:fD X.K fd ps [])
  (ha:PA X (e::es) (tDA X fa)) (hdb:(x == ("__debug__" : Str))=false:=by decide) (he:starEach (e::es) X.env=(false,eval e X.env)::starEach es X.env:=by rfl) (hpl:(backTo pos (starEach es X.env)).any (·.1)=false:=by rfl) :
  PE X (.Call (.Name x p) (e::es) [] pos) (tD X (qP n F fa)):=by
 intro pins s σ H Q I h
 obtain⟨P,α,env,S,r,re,af⟩:=h
 refine wpAny_Call_Name_kw (Q4 I hg hm ?_ hdb)
 refine PySem.W.callWith_K (h₀:=X.base) I.ok.mod.kin hk (thn (mH ha I r re af pos) fun us s1 ⟨vs,H1,P1,α1,ds,S1,I1,rv,r1,re1,rp,e1,e2,af1⟩=>⟨I1.kIn,?_⟩) he hpl
 obtain⟨hn,af2⟩:=ZC (env:=env) (S:=S) af1
 exact LQ G hr hb hF I1 r1 rv rp hn (x8.base e1 e2 af2)
end
end _D
end
section
namespace _D
open PySem PySem.Spec PyProof.Rows _L
section
variable {X:Cx}
def dBm (T:String)(g:D→List D→Sto→Res D)(fo:DE)(fa:DA):DE:=fun env S=>(fo env S).bind fun a S1=>if (tyD a S1 == some T)=true then (fa env S1).bind fun ds S2=>g a ds S2 else .bad
variable {o e:Expr}{es:List Expr}{fo:DE}{fa:DA}{name:Str}{apos cpos:Pos}{T id:String}{g:D→List D→Sto→Res D}
def NE:D→List D→Sto→Res D:=fun a ds S=>match a,ds with
 |.loc i,[d]=>match S[i]? with
  |some (.lst xs)=>if xs.length<lim then .ok .non (S.set i (.lst (xs++[d]))) else .bad
  |_=>.bad
 |_,_=>.bad
end
end _D
end
section
namespace _D
open PySem PySem.Spec PyProof.Rows _L
def Q3:D→Option Key
 |.int i=>some (.inl i)
 |.str x=>some (.inr x)
 |_=>none
def IA (kvs:List (Key × D))(k:Key):Option D:=(kvs.find? fun kv=>decide (kv.1=k)).map (·.2)
def aQ (kvs:List (Key × D))(k:Key)(v:D):List (Key × D):=
 if (kvs.any fun kv=>decide (kv.1=k))=true then kvs.map (fun kv=>if kv.1=k then (kv.1,v) else kv) else kvs++[(k,v)]
section
variable {K:PySem.W.Frag}{P:Hp}{α : List Addr}
theorem NR {kvs:List (Key × D)}{vs:List (Key × V)}(r:KVs K P α kvs vs):kvs.length=vs.length:=Paired.length r
theorem NO {k:Key}{kvs:List (Key × D)}{vs:List (Key × V)}(h:KVs K P α kvs vs):(kvs.any fun kv=>decide (kv.1=k))=(vs.any fun kv=>decide (kv.1=k)):=by
 induction h with
 |nil=>rfl
 |cons z t ih=>rw[List.any_cons,List.any_cons,ih,z.1]
theorem NS {k:Key}{d:D}{v:V}(q:Rep K P α d v){kvs:List (Key × D)}{vs:List (Key × V)}(h:KVs K P α kvs vs):KVs K P α (kvs.map fun kv=>if kv.1=k then (kv.1,d) else kv) (vs.map fun kv=>if kv.1=k then (kv.1,v) else kv):=by
 induction h with
 |nil=>exact .nil
 |cons z t ih =>
  rw[List.map_cons,List.map_cons]
  refine .cons ?_ ih
  rw[← z.1]
  split
  ·exact⟨rfl,q⟩
  ·exact z
theorem NQ {k:Key}{d:D}{v:V}(q:Rep K P α d v){kvs:List (Key × D)}{vs:List (Key × V)}(h:KVs K P α kvs vs):KVs K P α (kvs++[(k,d)]) (vs++[(k,v)]):=by
 induction h with
 |nil=>exact .cons ⟨rfl,q⟩ .nil
 |cons z t ih=>exact .cons z ih
theorem NT {k:Key}{d:D}{v:V}(q:Rep K P α d v){kvs:List (Key × D)}{vs:List (Key × V)}(r:KVs K P α kvs vs):KVs K P α (aQ kvs k d) (gW vs k v):=by
 unfold aQ gW
 rw[NO r]
 split
 ·exact NS q r
 ·exact NQ q r
theorem R4 {d:D}{k:Key}{v:V}(h:Q3 d=some k)(r:Rep K P α d v):v=kV k:=by
 cases d with
 |int i=>cases h;simp only[Rep] at r;exact r
 |str x=>cases h;simp only[Rep] at r;exact r
 |_=>cases h
end
section
variable {X:Cx}{o i e:Expr}{pos:Pos}{fo fi:DE}
def fJ:DE:=fun _ S=>.ok .dct0 S
theorem TX:PE X (.Dict [] [] pos) (tD X fJ):=by
 refine peW FW fun σ H Q ⟨P,α,env,S,r,re,af⟩ p hp=>?_
 obtain⟨r1,e1⟩:=r.pure (o:=.dK []) hp
 refine af _ _ _ α r1 e1 (List.prefix_refl _) ?_
 simp only[Rep]
 exact⟨p,rfl,xR⟩
def pS:G3:=fun o i d S=>match o with
 |.loc n=>match S[n]? with
  |some (.dct kvs)=>match Q3 i with
   |some k=>if kvs.length<lim then .ok () (S.set n (.dct (aQ kvs k d))) else .bad
   |none=>.bad
  |_=>Q0 o i d S
 |_=>Q0 o i d S
inductive Set2V (a b d:D)(S:Sto):Prop
 |bad (e:pS a b d S=.bad)
 |old (e:pS a b d S=Q0 a b d S)
 |of (n:Nat) (kvs:List (Key × D)) (k:Key) (ea:a=.loc n) (hS:S[n]? = some (.dct kvs)) (hk:Q3 b=some k) (hl:kvs.length<lim) (e:pS a b d S=.ok () (S.set n (.dct (aQ kvs k d))))
theorem CO (a b d:D)(S:Sto):Set2V a b d S:=by
 cases a with
 |loc n =>
  have z:pS (.loc n) b d S=(match S[n]? with|some (.dct kvs)=>(match Q3 b with|some k=>(if kvs.length<lim then .ok () (S.set n (.dct (aQ kvs k d))) else .bad)|none=>.bad)|_=>Q0 (.loc n) b d S):=rfl
  cases hS:S[n]? with
  |none=>rw[hS] at z;exact .old z
  |some m =>
   rw[hS] at z
   cases m with
   |dct kvs =>
    cases hk:Q3 b with
    |none=>rw[hk] at z;exact .bad z
    |some k =>
     rw[hk] at z
     by_cases hl:kvs.length<lim
     ·exact .of n kvs k rfl hS hk hl (z.trans (if_pos hl))
     ·exact .bad (z.trans (if_neg hl))
   |_=>exact .old z
 |_=>exact .old rfl
theorem EM (hu:X.A.units+1<cLine):XY X (XW X pS):=by
 intro pins s σ H o i v ov iv u Q I ro ri rv h
 obtain⟨P,α,S,a,b,d,r,pa,pb,pd,af⟩:=h
 cases CO a b d S with
 |bad e=>rw[e] at af;exact False.elim af
 |old e =>
  rw[e] at af
  exact CP pins s σ H o i v ov iv u Q I ro ri rv ⟨P,α,S,a,b,d,r,pa,pb,pd,af⟩
 |of n kvs k ea hS hk hl e =>
  rw[e] at af
  subst ea
  simp only[Rep] at pa
  obtain⟨p,rfl,q⟩:=pa
  obtain⟨vs,z,t⟩:=r.at' n p _ q hS
  cases R4 hk pb
  cases (show ov=Value.ref p from ro)
  refine GC hu I (oI.k (v:=v) z (by rw[← NR t,← vL];exact hl)) ri rv fun s' I'=>⟨_,I',?_⟩
  exact af _ P α (r.put (m':=.dct (aQ kvs k d)) q hS (by intro z;cases z) ⟨_,xR,NT pd t⟩) (qL.refl _) (List.prefix_refl _)
end
end _D
end
section
namespace _D
open PySem PySem.Spec PyProof.Rows _L
section
variable {X:Cx}{a b c e:Expr}{pos:Pos}{fa fe:DE}
def IV (i:Nat)(g:G2)(fe:DE):DS:=fun env S=>match env[i]? with
 |some (some x)=>(fe env S).toS env fun y S1=>(g x y S1).toS env fun z S2=>.nx (env.set i (some z)) S2
 |_=>.bad
def IR:G2:=i2 (fun _ _=>true) fun i j=>.int (i+j)
def xW (xs:List D)(lo hi:Option Int):List D:=(xs.drop (_H.sIx xs.length 0 lo)).take (_H.sIx xs.length xs.length hi-_H.sIx xs.length 0 lo)
abbrev DO:=qG→Sto→Res (Option Int)
def OkO (X:Cx)(P:Hp)(α : List Addr)(Q:Option Int→Hp→Prop)(o:Option Int)(S':Sto):Prop:=∀ H' P' α',Rel X.K H' P' α' S'→qL P P'→α<+:α'→Q o H'
def tDO (X:Cx)(f:DO):TO:=fun σ H Q=>∃ P α env S,Rel X.K H P α S∧xC X.K P α σ env∧qN X P α (f env S) (OkO X P α Q)
def zQ:DO:=fun _ S=>.ok none S
def zK (f:DE):DO:=fun env S=>(f env S).bind fun d S1=>match d with
 |.int i=>.ok (some i) S1
 |_=>.bad
theorem N6:PO X none (tDO X zQ):=fun pins s σ H Q I ⟨P,α,env,S,r,re,af⟩=>LH pins s σ H Q I (af H P α r (qL.refl _) (List.prefix_refl _))
theorem N7 (he:PE X e (tD X fe)):PO X (some e) (tDO X (zK fe)):=by
 intro pins s σ H Q I h
 obtain⟨P,α,env,S,r,re,af⟩:=h
 refine LI (te:=tD X fe) he pins s σ H Q I ⟨P,α,env,S,r,re,?_⟩
 have af':qN X P α ((fe env S).bind fun d S1=>match d with|.int i=>.ok (some i) S1|_=>.bad) (OkO X P α Q):=af
 cases q:fe env S with
 |bad=>rw[q] at af';exact af'
 |ex c x S'=>rw[q] at af';exact af'
 |ok d S1 =>
  rw[q] at af'
  intro v H1 P1 α1 r1 e1 e2 rp
  cases d with
  |int i=>exact⟨i,u9 rp,af' H1 P1 α1 r1 e1 e2⟩
  |_=>exact False.elim af'
theorem qI.cut {K:PySem.W.Frag}{P:Hp}{α : List Addr}{ds:List D}{vs:List V}(r:qI K P α ds vs)(lo hi:Option Int):qI K P α (xW ds lo hi) (sY vs lo hi):=by
 unfold xW sY
 rw[r.length]
 exact(r.drop _).take _
def gSl (d:D)(lo hi:Option Int)(S:Sto):Res D:=match d with
 |.lst xs=>.ok (.lst (xW xs lo hi)) S
 |.loc i=>match S[i]? with
  |some (.lst xs)=>.ok (.lst (xW xs lo hi)) S
  |_=>.bad
 |.tup xs=>.ok (.tup (xW xs lo hi)) S
 |_=>.bad
def dSl (fe:DE)(fl fh:DO):DE:=fun env S=>(fe env S).bind fun d S1=>(fl env S1).bind fun lo S2=>(fh env S2).bind fun hi S3=>gSl d lo hi S3
end
end _D
end
section
namespace _D
open PySem PySem.Spec PyProof.Rows _L _H
section
variable {prog:Program}{w:World}{A:Around}{E:Value→Shared→Prop}{s:Shared}
theorem sM {t sl:Addr}{items:Array Value}{vl vu:Value}{lo hi:Option Int}{Q:Value→Shared→Prop}(ht:IsTup s.heap t items)(hs:s.heap.IsSliceOf sl vl vu .none)(pl:IsPart vl lo)(pu:IsPart vu hi)
  (hw:sIx items.size 0 lo=0∧sIx items.size items.size hi=items.size) (h:Q (.ref t) s):wpAny (model prog w) A (getItem (.ref t) (.ref sl)) Q E s:=by
 obtain⟨ob,hob,hcb,_⟩:=id hs
 have hTs:s.TypeIs (.ref sl) "slice":=⟨ob,hob,hcb⟩
 unfold getItem
 try with_reducible refine wpAny_holding ?_
 first|refine wpAny_bind (wpAny_pure ?_)|skip
 refine wpAny_bind (wpAny_sequenceKey ht.typeIs (by decide) ?_)
 refine wpAny_bind (wpAny_callSpecial?_slot (name:=Str.ofString "__getitem__") ht.typeIs PyProof.Rows.slot_tuple_getitem
  (wpAny_call_entry PyProof.Rows.slot_tuple_getitem ht.typeIs entry_tuple_getitem ?_ (args_tuple_getitem _ _)))
 show wpAny _ _ (Builtin.Tuple.tupleItemsOf (.ref t) >>= _) _ _ s
 refine wpAny_bind (tupleItemsOf_ ht ?_)
 refine wpAny_bind (wpAny_typeOf hTs ?_)
 rw[if_pos (by decide)]
 refine wpAny_bind (mZ hs pl pu ?_)
 show wpAny _ _ (if (((sIx items.size 0 lo:Nat):Int) == 0&&(1:Int) == 1&&(sIx items.size items.size hi-sIx items.size 0 lo) == items.size)=true then _ else _) _ _ s
 rw[hw.1,hw.2,if_pos (by simp)]
 unfold Builtin.Tuple.tupleIsExact
 refine wpAny_bind (wpAny_bind (wpAny_typeOf ht.typeIs (wpAny_pure ?_)))
 rw[if_pos (by decide)]
 exact wpAny_bind (wpAny_rule (wpAny_pure ⟨_,rfl,wpAny_pure h⟩))
end
section
variable {X:Cx}{e:Expr}{fe:DE}{pos p2:Pos}
def AR (X:Cx):V→Option Int→Option Int→Hp→VK→Prop:=fun x lo hi H Q=>∃ P α S d,Rel X.K H P α S∧Rep X.K P α d x∧x8 X P α (gSl d lo hi S) Q
theorem AV:SlR X (AR X):=by
 intro pins s σ H x v vl vu lo hi sl Q I rx hs pl pu h
 obtain⟨P,α,S,d,r,p,af⟩:=h
 cases d with
 |lst xs =>
  simp only[Rep] at p
  obtain⟨a,vs,rfl,q,t⟩:=p
  exact JE pins s σ H _ v vl vu lo hi sl Q I rx hs pl pu ⟨a,vs,rfl,(vW r.sub q).l,fun b hb=>kX r hb (qI.cut t lo hi) af⟩
 |loc i =>
  obtain⟨xs,hS,af⟩:=dF (X:=X) (f:=fun xs=>Res.ok (D.lst (xW xs lo hi)) S) af
  simp only[Rep] at p
  obtain⟨a,rfl,q⟩:=p
  obtain⟨vs,z,t⟩:=r.at' i a _ q hS
  exact JE pins s σ H _ v vl vu lo hi sl Q I rx hs pl pu ⟨a,vs,rfl,SqL.of z,fun b hb=>kX r hb (qI.cut t lo hi) af⟩
 |tup xs =>
  have p0:=p
  simp only[Rep] at p
  obtain⟨a,vs,rfl,q,t⟩:=p
  by_cases hw:sIx vs.length 0 lo=0∧sIx vs.length vs.length hi=vs.length
  ·cases rx
   obtain⟨its,rv,ht,hz⟩:=I.tuple (vI r.sub q)
   have hlen:its.toArray.size=vs.length:=by rw[List.size_toArray];exact rv.length.symm
   refine⟨"tuple",_,PyProof.Rows.slot_tuple_getitem.lookup,ht.typeIs,sM ht hs pl pu (by rw[hlen];exact hw) ⟨.ref a,H,I,rfl,xr af r ?_⟩⟩
   have e:xW xs lo hi=xs:=by
    unfold xW
    rw[t.length,hw.1,hw.2,← t.length]
    simp
   rw[e]
   exact p0
  ·exact EN pins s σ H _ v vl vu lo hi sl Q I rx hs pl pu ⟨a,vs,rfl,vI r.sub q,hw,fun b hb=>dH r hb (qI.cut t lo hi) af⟩
 |_=>exact False.elim af
theorem F7 {lo hi:Option Expr}{fl fh:DO}(he:PE X e (tD X fe))(hl:PO X lo (tDO X fl))(hu:PO X hi (tDO X fh)):PE X (.Subscript e (.Slice lo hi none p2) pos) (tD X (dSl fe fl fh)):=
 peW (FX AV he hl hu) fun σ H Q ⟨P,α,env,S,r,re,af⟩=>by
  refine⟨P,α,env,S,r,re,?_⟩
  have af':qN X P α ((fe env S).bind fun d S1=>(fl env S1).bind fun lo S2=>(fh env S2).bind fun hi S3=>gSl d lo hi S3) (OkV X P α Q):=af
  cases q:fe env S with
  |bad=>rw[q] at af';exact af'
  |ex c x S'=>rw[q] at af';exact af'
  |ok d S1 =>
   rw[q] at af'
   intro v H1 P1 α1 r1 e1 e2 rp
   refine⟨P1,α1,env,S1,r1,re.mono e1 e2,?_⟩
   have af2:qN X P1 α1 ((fl env S1).bind fun lo S2=>(fh env S2).bind fun hi S3=>gSl d lo hi S3) (OkV X P1 α1 Q):=x8.base e1 e2 af'
   cases q2:fl env S1 with
   |bad=>rw[q2] at af2;exact af2
   |ex c x S'=>rw[q2] at af2;exact af2
   |ok l S2 =>
    rw[q2] at af2
    intro H2 P2 α2 r2 e3 e4
    refine⟨P2,α2,env,S2,r2,(re.mono e1 e2).mono e3 e4,?_⟩
    have af3:qN X P2 α2 ((fh env S2).bind fun hi S3=>gSl d l hi S3) (OkV X P2 α2 Q):=x8.base e3 e4 af2
    cases q3:fh env S2 with
    |bad=>rw[q3] at af3;exact af3
    |ex c x S'=>rw[q3] at af3;exact af3
    |ok u S3 =>
     rw[q3] at af3
     intro H3 P3 α3 r3 e5 e6
     exact⟨P3,α3,S3,d,r3,Rep.mono (e3.trans e5) (e4.trans e6) _ _ rp,x8.base e5 e6 af3⟩
end
end _D
end
section
namespace _D
open PySem PySem.Spec PyProof.Rows _L
section
variable {prog:Program}{w:World}{A:Around}{E:Value→Shared→Prop}{s:Shared}
theorem MI {tp tq:Bool}{z I O i j a b:Addr}{k:Nat}{xs ys:Array Value}{p q:Value}{Q:Fin→Shared→Prop}(hh:A.handled=none)(D:ZA z I O i j)(Da:Off z O i j a)(Db:Off z O i j b)
  (hz:IsZip s.heap z I O .none) (hI:IsPair s.heap I (.ref i) (.ref j)) (hO:IsPair s.heap O p q) (h1:w4 tp s.heap i a k) (h2:w4 tq s.heap j b k) (ha:vX tp s.heap a xs) (hb:vX tq s.heap b ys) (hend:xs[k]? = none∨ys[k]? = none)
  (hE:∀ h' e,BI z O i j s.heap h'→(∃ o,h'.get? e=some o∧o.cls=.type "StopIteration")→E (.ref e) { s with heap:=h' }) : wpAny (model prog w) A (Builtin.«zip.__next__» ⟨[.ref z],[]⟩) Q E s:=by
 show wpAny _ _ (field (.ref z) 2 >>= _) _ _ _;refine wpAny_bind (wpAny_field hz rfl (x:=.bool false) rfl ?_)
 show wpAny _ _ (field (.ref z) 3 >>= _) _ _ _;refine wpAny_bind (wpAny_field hz rfl (x:=.ref I) rfl (wpAny_bind (wpAny_seqItems hI rfl ?_)))
 show wpAny _ _ (Builtin.SmallTypes.ownedTupleIsFree (.ref z) >>= _) _ _ _;refine wpAny_bind ?_
 unfold Builtin.SmallTypes.ownedTupleIsFree;refine wpAny_bind (wpAny_field hz rfl (x:=.none) rfl (wpAny_pure ?_))
 simp only[if_true];refine wpAny_bind (wpAny_rule (wpAny_bind (wpAny_field hz rfl (x:=.ref O) rfl (wpAny_bind (wpAny_setField_rec hz (by simp) fun g1 z1 s1=>?_)))))
 replace z1:IsZip g1 z I O .ellipsis:=z1
 refine wpAny_bind ?_;simp only[List.zipIdx_cons,List.zipIdx_nil,List.forIn_cons,List.forIn_nil]
 refine wpAny_bind (wpAny_bind (wpAny_onRaise ?_));show wpAny _ _ (Builtin.SmallTypes.nextOf (.ref i) >>= _) _ _ _
 have it1:w4 tp g1 i a k:=h1.keep fun o e=>s1.extBut _ _ D.iz e
 have sq1:vX tp g1 a xs:=ha.keep fun o e=>s1.extBut _ _ Da.z e
 cases hx:xs[k]? with
 |none =>
  refine wpAny_bind (rP hh it1 sq1 hx fun g2 e x2 he=>?_)
  obtain⟨oe,h3,h4⟩:=he
  have z2:IsZip g2 z I O .ellipsis:=x2 _ _ D.iz.symm z1
  have ne:e≠z:=fun y=>by subst y;rw[z2] at h3;cases h3;simp at h4
  exact wpAny_setField_rec z2 (by simp) fun g3 _ s3=>hE g3 e (fun c o c1 _ c3 _ y=>s3.extBut _ _ c1 (x2 _ _ c3 (s1.extBut _ _ c1 y))) ⟨oe,s3.extBut _ _ ne h3,h4⟩
 |some x =>
  have hy:ys[k]? = none:=by
   rcases hend with y|y
   ·rw[hx] at y;cases y
   ·exact y
  refine wpAny_bind (aN it1 sq1 hx fun g2 i2 s2=>wpAny_pure ?_)
  have O2:IsPair g2 O p q:=s2.extBut _ _ D.Oi (s1.extBut _ _ D.Oz hO)
  refine wpAny_bind (wpAny_seqItems O2 rfl (wpAny_bind (wpAny_updateSeq_pair O2 fun g3 O3 s3=>wpAny_bind (wpAny_letGo (wpAny_pure ?_)))))
  refine wpAny_bind (wpAny_bind (wpAny_onRaise ?_));show wpAny _ _ (Builtin.SmallTypes.nextOf (.ref j) >>= _) _ _ _
  refine wpAny_bind (rP hh (h2.keep fun o e=>s3.extBut _ _ D.Oj.symm (s2.extBut _ _ D.ij.symm (s1.extBut _ _ D.jz e))) (hb.keep fun o e=>s3.extBut _ _ Db.O (s2.extBut _ _ Db.i (s1.extBut _ _ Db.z e))) hy fun g4 e x4 he=>?_)
  obtain⟨oe,h3,h4⟩:=he
  have z4:IsZip g4 z I O .ellipsis:=x4 _ _ D.jz.symm (s3.extBut _ _ D.Oz.symm (s2.extBut _ _ D.iz.symm z1))
  have ne:e≠z:=fun y=>by subst y;rw[z4] at h3;cases h3;simp at h4
  exact wpAny_setField_rec z4 (by simp) fun g5 _ s5=>hE g5 e (fun c o c1 c2 c3 c4 y=>s5.extBut _ _ c1 (x4 _ _ c4 (s3.extBut _ _ c2 (s2.extBut _ _ c3 (s1.extBut _ _ c1 y))))) ⟨oe,s5.extBut _ _ ne h3,h4⟩
abbrev iN (tp:Bool)(l:Addr):Obj:={ cls:=.type (if tp then "tuple_iterator" else "list_iterator"),data:=.fields #[.ref l,.int 0 0] }
abbrev zh1 (tp:Bool)(h:Heap)(a:Addr):Heap:=h.push (iN tp a)
abbrev zh2 (tp tq:Bool)(h:Heap)(a b:Addr):Heap:=(zh1 tp h a).push (iN tq b)
abbrev zh3 (tp tq:Bool)(h:Heap)(a b:Addr):Heap:=(zh2 tp tq h a b).push { cls:=.type "tuple",data:=.seq #[.ref h.objs.size,.ref (zh1 tp h a).objs.size] }
abbrev zh4 (tp tq:Bool)(h:Heap)(a b:Addr):Heap:=(zh3 tp tq h a b).push { cls:=.type "tuple",data:=.seq #[.none,.none] }
abbrev zh5 (tp tq:Bool)(h:Heap)(a b:Addr):Heap:=(zh4 tp tq h a b).push { cls:=.type "zip",data:=.fields #[.none,.bool false,.bool false,.ref (zh2 tp tq h a b).objs.size,.ref (zh3 tp tq h a b).objs.size] }
set_option maxHeartbeats 4000000 in
theorem D3 (tp:Bool)(a b:Addr)(xs ys:Array Value) :
  Meets (Builtin.«zip.__new__» ⟨[.type "zip",.ref a,.ref b],[]⟩) (fun _ R s=>vX tp s.heap a xs∧vX tp s.heap b ys∧R (.ok (.ret (.ref (zh4 tp tp s.heap a b).objs.size))) { s with heap:=zh5 tp tp s.heap a b }):=
 .of_wp fun prog w A R s h=>by
  obtain⟨hp,g,d,tk,os⟩:=s
  obtain⟨q1,q2,h⟩:=h
  have hsub:=sub_zip
  have e2:∀ ob:Obj,vX tp (hp.push ob) b ys:=fun ob=>q2.keep fun o e=>Heap.get?_push_of_some _ e
  cases tp
  ·have l1:Heap.IsList (Shared.heap ⟨hp,g,d,tk,os⟩) a xs:=q1
   have l2:Heap.IsList (Shared.heap ⟨hp.push { cls:=.type "list_iterator",data:=.fields #[.ref a,.int 0 0] },g,d,tk,os⟩) b ys:=e2 _
   wp_walk using wpAny_pyIter_list l1,wpAny_pyIter_list l2
   exact⟨_,rfl,h⟩
  ·have l1:Heap.IsTuple (Shared.heap ⟨hp,g,d,tk,os⟩) a xs:=q1
   have l2:Heap.IsTuple (Shared.heap ⟨hp.push { cls:=.type "tuple_iterator",data:=.fields #[.ref a,.int 0 0] },g,d,tk,os⟩) b ys:=e2 _
   wp_walk using wpAny_pyIter_tuple l1,wpAny_pyIter_tuple l2
   exact⟨_,rfl,h⟩
theorem iR {tp:Bool}{h:Heap}{it l:Addr}(e:h.get? it=some (iN tp l)):w4 tp h it l 0:=by
 cases tp
 ·exact⟨_,e,rfl,rfl⟩
 ·exact⟨_,e,rfl,rfl⟩
theorem BP {tp:Bool}{a b:Addr}{xs ys:Array Value}{Q:Value→Shared→Prop}(ha:vX tp s.heap a xs)(hb:vX tp s.heap b ys)
  (h:∀ h',IsZip h' (s.heap.objs.size+4) (s.heap.objs.size+2) (s.heap.objs.size+3) .none→IsPair h' (s.heap.objs.size+2) (.ref s.heap.objs.size) (.ref (s.heap.objs.size+1)) →
   IsPair h' (s.heap.objs.size+3) .none .none→w4 tp h' s.heap.objs.size a 0→w4 tp h' (s.heap.objs.size+1) b 0→h'.objs.size=s.heap.objs.size+5→(∀ c o,s.heap.get? c=some o→h'.get? c=some o)→Q (.ref (s.heap.objs.size+4)) { s with heap:=h' }) :
  wpAny (model prog w) A (call (.type "zip") [.ref a,.ref b]) Q E s:=by
 refine callType_new F.called_zip (by decide) (F.typeCall_zip_2 _ _) (F.newCall_zip_2 _ _) (fun obj=>F.args_object_init_3 obj _ _) F.entry_zip_new (D3 tp a b xs ys) ⟨ha,hb,?_⟩
 have y1:(zh1 tp s.heap a).objs.size=s.heap.objs.size+1:=Heap.size_push ..
 have y2:(zh2 tp tp s.heap a b).objs.size=s.heap.objs.size+2:=by rw[Heap.size_push,y1]
 have y3:(zh3 tp tp s.heap a b).objs.size=s.heap.objs.size+3:=by rw[Heap.size_push,y2]
 have y4:(zh4 tp tp s.heap a b).objs.size=s.heap.objs.size+4:=by rw[Heap.size_push,y3]
 have y5:(zh5 tp tp s.heap a b).objs.size=s.heap.objs.size+5:=by rw[Heap.size_push,y4]
 have g5:(zh5 tp tp s.heap a b).get? (zh4 tp tp s.heap a b).objs.size=some _:=Heap.get?_push_size _ rfl
 have g4:(zh5 tp tp s.heap a b).get? (zh3 tp tp s.heap a b).objs.size=some _:=Heap.get?_push_of_some _ (Heap.get?_push_size _ rfl)
 have g3:(zh5 tp tp s.heap a b).get? (zh2 tp tp s.heap a b).objs.size=some _:=Heap.get?_push_of_some _ (Heap.get?_push_of_some _ (Heap.get?_push_size _ rfl))
 have g2:(zh5 tp tp s.heap a b).get? (zh1 tp s.heap a).objs.size=some (iN tp b):=Heap.get?_push_of_some _ (Heap.get?_push_of_some _ (Heap.get?_push_of_some _ (Heap.get?_push_size _ rfl)))
 have g1:(zh5 tp tp s.heap a b).get? s.heap.objs.size=some (iN tp a):=Heap.get?_push_of_some _ (Heap.get?_push_of_some _ (Heap.get?_push_of_some _ (Heap.get?_push_of_some _ (Heap.get?_push_size _ rfl))))
 have kp:∀ c o,s.heap.get? c=some o→(zh5 tp tp s.heap a b).get? c=some o:=fun c o e=>Heap.get?_push_of_some _ (Heap.get?_push_of_some _ (Heap.get?_push_of_some _ (Heap.get?_push_of_some _ (Heap.get?_push_of_some _ e))))
 show _∧_
 rw[y2,y3,y4] at g5
 rw[y1,y2] at g3
 rw[y3] at g4
 rw[y1] at g2
 rw[y4]
 exact⟨⟨_,g5,rfl⟩,h _ g5 g3 g4 (iR g1) (iR g2) y5 kp⟩
end
end _D
end
section
namespace _D
open PySem PySem.Spec PyProof.Rows _L
def Sq (tp:Bool)(K:PySem.W.Frag)(H:Hp)(a:Addr)(xs:List V):Prop:=if tp then SqT K H a xs else SqL K H a xs
section
variable {X:Cx}{pins:List (Addr × Obj)}{σ : _L.St}{H:Hp}{s:Shared}
theorem Sq.at {tp:Bool}{a:Addr}{xs:List V}(I:Inv X pins σ H s)(q:Sq tp X.K H a xs):∃ its,qQ xs its∧vX tp s.heap a its.toArray:=by
 cases tp with
 |true =>
  obtain⟨its,rv,p,_⟩:=I.tuple q
  exact⟨its,rv,p⟩
 |false =>
  obtain⟨its,rv,p,_⟩:=I.list q
  exact⟨its,rv,p.isList⟩
theorem Sq.inj {tp:Bool}{a:Addr}{xs ys:List V}(I:Inv X pins σ H s)(q:Sq tp X.K H a xs)(q':Sq tp X.K H a ys):xs=ys:=by
 cases tp with
 |true=>exact I.tuple_inj q q'
 |false=>exact I.list_inj q q'
theorem Sq.off {tp:Bool}{a b:Addr}{xs:List V}(I:Inv X pins σ H s)(q:Sq tp X.K H a xs)(f:yX X pins H b):a≠b:=by
 have key:H a≠none∨∃ o,X.K.lookup a=some o:=by
  cases tp with
  |true =>
   rcases q with (q|⟨o,q⟩)|⟨o,_,_,q,_⟩
   ·exact .inl (by rw[q];intro z;cases z)
   ·exact .inl (by rw[q];intro z;cases z)
   ·exact .inr ⟨_,q⟩
  |false =>
   rcases q with (q|⟨o,q⟩)|⟨o,_,_,q,_⟩
   ·exact .inl (by rw[q];intro z;cases z)
   ·exact .inl (by rw[q];intro z;cases z)
   ·exact .inr ⟨_,q⟩
 rintro rfl
 rcases key with k|⟨o,k⟩
 ·exact k f.1
 ·have e:=I.mod.kin a o k
  rcases f.2.2.2.1 with z|z
  ·exact I.ok.noex a o e z
  ·exact absurd (Heap.lt_size (I.ok.bs a o e).1) (Nat.not_lt.mpr z)
theorem Inv.turnLay {fp:List Addr}{h':Heap}{T:Addr}{xs:List V}{its:List Value}(I:Inv X pins σ H s)(hf:∀ b∈fp,yX X pins H b)(k:∀ b o,b ∉ fp→s.heap.get? b=some o→h'.get? b=some o)(th:∀ b∈fp,∃ o,h'.get? b=some o)
  (hT:s.heap.objs.size≤T) (rv:qQ xs its) (hx:IsTup h' T its.toArray) (hz:xs.length≤sizeLine):Inv X pins σ (upd H T (.tup xs)) { s with heap:=h' }:=by
 have hn:H T=none:=I.hok.fresh hT
 have ne:∀ b o,s.heap.get? b=some o→b≠T:=fun b o e=>Nat.ne_of_lt (Nat.lt_of_lt_of_le (Heap.lt_size e) hT)
 refine I.step (g':=s.gens) (d':=s.drawn) (t':=s.toks) (ch:=fp) (fun b hb=>⟨(hf b hb).2.2.2.1,(hf b hb).2.1,(hf b hb).2.2.2.2.1,(hf b hb).2.2.2.2.2⟩) (fun b o _ _ hc e _=>k b o hc e) (fun b o _ _ hc e _=>⟨o.slots,k b o hc e⟩)
  (fun b o _ e n=>by rw[zI (ne b o e)];exact n) (fun b o hc e=>⟨o,k b o hc e⟩) (fun b ys e=>by rw[zI (xT e hn)];exact e) (fun b o u e=>by rw[zI (xT e hn)];exact e)
  (fun b ps e=>⟨#[],by rw[zI (xT e hn),e];simp⟩) (fun m hm=>?_) (fun b u e=>?_) I.bare
 ·obtain⟨o,es,ep,ho,r⟩:=hm
  exact⟨o,es,ep,k _ o (fun z=>(hf _ z).2.1 rfl) ho,r⟩
 ·by_cases hb:b=T
  ·subst hb
   rw[xR] at e;cases e
   exact⟨hz,its,rv,hx⟩
  ·rw[zI hb] at e
   refine(I.hok b u e).stay (fun c v hc q=>k c v (fun z=>?_) q) (fun c q=>by rw[zI (xT q hn)];exact q) fun c ys q=>by rw[zI (xT q hn)];exact q
   have hcn:=(hf c z).1
   rcases hc with rfl|hc
   ·rw[hcn] at e;cases e
   ·rw[hcn] at hc;cases hc
theorem Inv.turnL {fp:List Addr}{h':Heap}(I:Inv X pins σ H s)(hf:∀ b∈fp,yX X pins H b)(k:∀ b o,b ∉ fp→s.heap.get? b=some o→h'.get? b=some o):Inv X pins σ H { s with heap:=h' }:=by
 refine I.step (g':=s.gens) (d':=s.drawn) (t':=s.toks) (ch:=fp) (fun b hb=>⟨(hf b hb).2.2.2.1,(hf b hb).2.1,(hf b hb).2.2.2.2.1,(hf b hb).2.2.2.2.2⟩) (fun b o _ _ hc e _=>k b o hc e) (fun b o _ _ hc e _=>⟨o.slots,k b o hc e⟩)
  (fun b o _ e n=>n) (fun b o hc e=>⟨o,k b o hc e⟩) (fun b ys e=>e) (fun b o u e=>e) (fun b ps e=>⟨#[],by rw[e];simp⟩) (fun m hm=>?_) (fun b u e=>?_) I.bare
 ·obtain⟨o,es,ep,ho,r⟩:=hm
  exact⟨o,es,ep,k _ o (fun z=>(hf _ z).2.1 rfl) ho,r⟩
 ·refine(I.hok b u e).stay (fun c v hc q=>k c v (fun z=>?_) q) (fun c q=>q) fun c ys q=>q
  have hcn:=(hf c z).1
  rcases hc with rfl|hc
  ·rw[hcn] at e;cases e
  ·rw[hcn] at hc;cases hc
end
def Itz (tp:Bool)(K:PySem.W.Frag)(a b:Addr):It:=
  ⟨fun i H=>∃ xs ys x y,Sq tp K H a xs∧Sq tp K H b ys∧xs[i]? = some x∧ys[i]? = some y,
   fun i H v H'=>∃ T x y,v=.ref T∧H T=none∧H'=upd H T (.tup [x,y])∧(∀ xs,Sq tp K H a xs→xs[i]? = some x)∧∀ ys,Sq tp K H b ys→ys[i]? = some y,
   fun i H=>∃ xs ys,Sq tp K H a xs∧Sq tp K H b ys∧(xs.length≤i∨ys.length≤i)⟩
def JM (tp:Bool)(z I O i j a b:Addr)(k:Nat)(h:Heap):Prop:=∃ p q,IsZip h z I O .none∧IsPair h I (.ref i) (.ref j)∧IsPair h O p q∧w4 tp h i a k∧w4 tp h j b k
theorem eD {tp:Bool}{z I O i j a b:Addr}{k:Nat}{h:Heap}(st:JM tp z I O i j a b k h):∀ c∈[z,I,O,i,j],∃ o,h.get? c=some o∧∀ v,o.data≠.cell v:=fun c hc=>by
 obtain⟨p,q,s1,s2,s3,s4,s5⟩:=st
 simp only[List.mem_cons,List.not_mem_nil,or_false] at hc
 rcases hc with rfl|rfl|rfl|rfl|rfl
 ·exact⟨_,s1,fun v y=>by cases y⟩
 ·exact⟨_,s2,fun v y=>by cases y⟩
 ·exact⟨_,s3,fun v y=>by cases y⟩
 ·exact s4.there
 ·exact s5.there
theorem MV {c z I O i j:Addr}(h:c ∉ [z,I,O,i,j]):c≠z∧c≠O∧c≠i∧c≠j:=by
 simp only[List.mem_cons,List.not_mem_nil,or_false,not_or] at h
 exact⟨h.1,h.2.2.1,h.2.2.2.1,h.2.2.2.2⟩
theorem MF {P:Program}{w:World}{K:PySem.W.Frag}{elts:List Expr}{x1:Nat}{tpos:Pos}{tp:Bool}{z I O i j a b:Addr}(D:ZA z I O i j):Turn P w K (.Tuple elts x1 tpos) (Itz tp K a b) [z,I,O,i,j] z (JM tp z I O i j a b) where
 mem:=.head _
 obj:=fun k h st=>eD st
 keep:=fun k h h' st kp=>by
  obtain⟨p,q,s1,s2,s3,s4,s5⟩:=st
  exact⟨p,q,kp z (.head _) _ s1,kp I (.tail _ (.head _)) _ s2,kp O (.tail _ (.tail _ (.head _))) _ s3,s4.keep fun o e=>kp i (.tail _ (.tail _ (.tail _ (.head _)))) o e,s5.keep fun o e=>kp j (.tail _ (.tail _ (.tail _ (.tail _ (.head _))))) o e⟩
 item:=by
  intro X hP hw hK hc k pins s σ H E Iv hf st hg
  subst hP hw hK
  obtain⟨p,q,s1,s2,s3,s4,s5⟩:=st
  obtain⟨xs,ys,x,y,qa,qb,hx,hy⟩:=hg
  obtain⟨ia,ra,ha⟩:=qa.at Iv
  obtain⟨ib,rb,hb⟩:=qb.at Iv
  obtain⟨u,hu,ru⟩:=ra.get hx
  obtain⟨u',hu',ru'⟩:=rb.get hy
  have off:∀ {c:Addr} {zs:List V},Sq tp X.K H c zs→Off z O i j c:=fun {c zs} qc=>⟨qc.off Iv (hf z (.head _)),qc.off Iv (hf O (.tail _ (.tail _ (.head _)))),qc.off Iv (hf i (.tail _ (.tail _ (.tail _ (.head _))))),qc.off Iv (hf j (.tail _ (.tail _ (.tail _ (.tail _ (.head _))))))⟩
  have hT:s.TypeIs (.ref z) "zip":=⟨_,s1,rfl⟩
  unfold pyNext
  refine wpAny_bind (wpAny_attempt (wpAny_callSpecial?_slot (name:=Str.ofString "__next__") hT F.slot_zip_next (wpAny_call_entry F.slot_zip_next hT F.entry_zip_next
   (MH D (off qa) (off qb) s1 s2 s3 s4 s5 ha hb (by simpa using hu) (by simpa using hu') fun h' a1 a2 a3 a4 a5 a6 a7=>wpAny_pure ?_) (F.args_zip_next_1 _))))
  refine⟨_,rfl,wpAny_letOwnedTupleGo_zip (s:={ s with heap:=h' }) a1 fun h2 b1 b2=>?_⟩
  have up:∀ c o,c≠z→h'.get? c=some o→h2.get? c=some o:=fun c o n e=>(b2.2 c n).trans e
  have zl:z<s.heap.objs.size:=Heap.lt_size s1
  have T2:IsPair h2 s.heap.objs.size u u':=up _ _ (Nat.ne_of_gt zl) a5
  have st2:JM tp z I O i j a b (k+1) h2:=⟨u,u',b1,up _ _ D.Iz (a7 I _ D.Iz D.IO D.Ii D.Ij s2),up _ _ D.Oz a2,a3.keep fun o e=>up _ o D.iz e,a4.keep fun o e=>up _ o D.jz e⟩
  refine⟨.ref s.heap.objs.size,upd H s.heap.objs.size (.tup [x,y]),?_,rfl,⟨_,x,y,rfl,Iv.hok.fresh (Nat.le_refl _),rfl,fun zs qz=>by rw[qz.inj Iv qa];exact hx,fun zs qz=>by rw[qz.inj Iv qb];exact hy⟩,st2,fun c hc=>?_⟩
  ·show _L.Inv X pins σ (upd H s.heap.objs.size (.tup [x,y])) { s with heap:=h2 }
   refine Inv.turnLay (fp:=[z,I,O,i,j]) (its:=[u,u']) Iv hf (fun c o hc e=>?_) (fun c hc=>?_) (Nat.le_refl _) (.cons ru (.cons ru' .nil)) ⟨_,T2,rfl,_,rfl⟩ (by show 2≤sizeLine;decide)
   ·have hc:=MV hc
    exact up c o hc.1 (a7 c o hc.1 hc.2.1 hc.2.2.1 hc.2.2.2 e)
   ·obtain⟨o,e,_⟩:=eD st2 c hc
    exact⟨o,e⟩
  ·have hn:=(hf c hc).1
   rw[zI ?_]
   ·exact hn
   ·rintro rfl
    obtain⟨o,e,_⟩:=eD ⟨p,q,s1,s2,s3,s4,s5⟩ _ hc
    exact absurd (Heap.lt_size e) (Nat.lt_irrefl _)
 done:=by
  intro X hP hw hK hc k pins s σ H E Iv hf st hg
  subst hP hw hK
  obtain⟨p,q,s1,s2,s3,s4,s5⟩:=st
  obtain⟨xs,ys,qa,qb,hend⟩:=hg
  obtain⟨ia,ra,ha⟩:=qa.at Iv
  obtain⟨ib,rb,hb⟩:=qb.at Iv
  have off:∀ {c:Addr} {zs:List V},Sq tp X.K H c zs→Off z O i j c:=fun {c zs} qc=>⟨qc.off Iv (hf z (.head _)),qc.off Iv (hf O (.tail _ (.tail _ (.head _)))),qc.off Iv (hf i (.tail _ (.tail _ (.tail _ (.head _))))),qc.off Iv (hf j (.tail _ (.tail _ (.tail _ (.tail _ (.head _))))))⟩
  have hT:s.TypeIs (.ref z) "zip":=⟨_,s1,rfl⟩
  have l1:=ra.length
  have l2:=rb.length
  unfold pyNext
  refine wpAny_bind (wpAny_attempt (wpAny_callSpecial?_slot (name:=Str.ofString "__next__") hT F.slot_zip_next (wpAny_call_entry F.slot_zip_next hT F.entry_zip_next
   (MI (Iv.ok.hd hc) D (off qa) (off qb) s1 s2 s3 s4 s5 ha hb ?_ fun h' e kp he=>?_) (F.args_zip_next_1 _))))
  ·rcases hend with y|y
   ·exact .inl (by simp;omega)
   ·exact .inr (by simp;omega)
  ·obtain⟨o,ho,hcl⟩:=he
   refine wpAny_bind (wpAny_isInstance (T:="StopIteration") (b:=true) ⟨o,ho,hcl⟩ isSubtype_stop (wpAny_pure ⟨rfl,Inv.turnL (fp:=[z,I,O,i,j]) Iv hf fun c o hc e=>?_⟩))
   have hc:=MV hc
   exact kp c o hc.1 hc.2.1 hc.2.2.1 hc.2.2.2 e
 self:=fun _ _ _ _ _ st h=>by
  obtain⟨p,q,s1,_⟩:=st
  exact wpAny_pyIter_zip s1 h
end _D
end
section
namespace _D
open PySem PySem.Spec PyProof.Rows _L
def j2 (xs ys:List D):List D:=List.zipWith (fun x y=>D.tup [x,y]) xs ys
def KQ (ds:List D):Option (List D):=match ds with
 |[.tup xs,.tup ys]=>some (j2 xs ys)
 |[.lst xs,.lst ys]=>some (j2 xs ys)
 |_=>none
def r0 (f:DA):DI:=fun env S=>(f env S).bind fun ds S1=>gY (KQ ds) S1
theorem MG {xs ys:List D}{i:Nat}:(j2 xs ys)[i]? = match xs[i]?,ys[i]? with|some x,some y=>some (D.tup [x,y])|_,_=>none:=by
 unfold j2
 rw[List.getElem?_zipWith]
 cases xs[i]? <;> cases ys[i]? <;> rfl
theorem aW (xs ys:List D):(j2 xs ys).length=min xs.length ys.length:=by simp[j2]
section
variable {K:PySem.W.Frag}
theorem Sq.mono {tp:Bool}{P P':Hp}(e:qL P P'){a:Addr}{xs:List V}(q:Sq tp K P a xs):Sq tp K P' a xs:=by
 cases tp with
 |true=>exact pO e q
 |false=>exact e.seq q
theorem NL {tp:Bool}{P:Hp}{α : List Addr}{a b:Addr}{xs ys:List D}{vs ws:List V}(qa:Sq tp K P a vs)(qb:Sq tp K P b ws)(ta:qI K P α xs vs)(tb:qI K P α ys ws):ItD K (Itz tp K a b) P α (j2 xs ys) where
 go:=fun i H P1 α1 S hi r e _=>by
  rw[aW] at hi
  have h1:i<vs.length:=by rw[← ta.length];omega
  have h2:i<ws.length:=by rw[← tb.length];omega
  exact⟨vs,ws,vs[i],ws[i],qa.mono (e.trans r.sub),qb.mono (e.trans r.sub),by simp,by simp⟩
 yld:=fun i H x H' P1 α1 S hi r e e2 y=>by
  obtain⟨T,u,w,rfl,hT,rfl,hu,hw⟩:=y
  rw[aW] at hi
  have h1:i<xs.length:=by omega
  have h2:i<ys.length:=by omega
  obtain⟨v1,z1,p1⟩:=ta.get (List.getElem?_eq_getElem h1)
  obtain⟨v2,z2,p2⟩:=tb.get (List.getElem?_eq_getElem h2)
  have eu:=hu vs (qa.mono (e.trans r.sub))
  have ew:=hw ws (qb.mono (e.trans r.sub))
  rw[z1] at eu;cases eu
  rw[z2] at ew;cases ew
  obtain⟨r1,s1⟩:=r.pure (o:=.tup [u,w]) hT
  refine⟨_,.tup [xs[i],ys[i]],?_,r1,s1,?_⟩
  ·rw[MG,List.getElem?_eq_getElem h1,List.getElem?_eq_getElem h2]
  ·exact J9 (.of xR) (.cons (Rep.mono (e.trans s1) e2 _ _ p1) (.cons (Rep.mono (e.trans s1) e2 _ _ p2) .nil))
 stop:=fun i H P1 α1 S hi r e _=>by
  rw[aW] at hi
  have l1:=ta.length
  have l2:=tb.length
  exact⟨vs,ws,qa.mono (e.trans r.sub),qb.mono (e.trans r.sub),by omega⟩
end
section
variable {X:Cx}{e1 e2:Expr}{elts:List Expr}{x1:Nat}{tpos:Pos}{f:DA}{p pos:Pos}
theorem BG {tp:Bool}{pins:List (Addr × Obj)}{σ : _L.St}{H P:Hp}{α : List Addr}{S:Sto}{s:Shared}{a b:Addr}{xs ys:List D}{vs ws:List V}{R:It→Hp→Prop}(I:Inv X pins σ H s)(r:Rel X.K H P α S)(qa:Sq tp X.K P a vs)(qb:Sq tp X.K P b ws)(ta:qI X.K P α xs vs)(tb:qI X.K P α ys ws)
  (q:OkI X P α R (j2 xs ys) S):wpAny (model X.prog X.w) X.A (call (.type "zip") [.ref a,.ref b]) (fun v s1=>wpAny (model X.prog X.w) X.A (pyIter v) (PIE X pins σ (.Tuple elts x1 tpos) R) X.xe s1) X.xe s:=by
 obtain⟨ia,ra,ha⟩:=(qa.mono r.sub).at I
 obtain⟨ib,rb,hb⟩:=(qb.mono r.sub).at I
 refine BP ha hb fun h' z1 z2 z3 z4 z5 z6 z7=>?_
 refine wpAny_pyIter_zip (s:={ s with heap:=h' }) z1 ?_
 have D:ZA (s.heap.objs.size+4) (s.heap.objs.size+2) (s.heap.objs.size+3) s.heap.objs.size (s.heap.objs.size+1):=by constructor <;> (intro z;simp at z)
 refine⟨_,[s.heap.objs.size+4,s.heap.objs.size+2,s.heap.objs.size+3,s.heap.objs.size,s.heap.objs.size+1],_,_,H,rfl,I.kept (t':=s.toks) z7,MF (a:=a) (b:=b) D,⟨_,_,z1,z2,z3,z4,z5⟩,fun c hc=>?_,q _ _ P α r (qL.refl _) (List.prefix_refl _) (NL qa qb ta tb)⟩
 have hl:s.heap.objs.size≤c:=by
  simp only[List.mem_cons,List.not_mem_nil,or_false] at hc
  rcases hc with rfl|rfl|rfl|rfl|rfl <;> simp
 exact I.fpOk hl (I.hok.fresh hl)
inductive ZipV (ds:List D)(its:List D):Prop
 |tup (xs ys:List D) (ed:ds=[.tup xs,.tup ys]) (e:its=j2 xs ys)
 |lst (xs ys:List D) (ed:ds=[.lst xs,.lst ys]) (e:its=j2 xs ys)
theorem D2 {ds its:List D}(h:KQ ds=some its):ZipV ds its:=by
 cases ds with
 |nil=>exact nn h
 |cons a ds =>
  cases a with
  |tup xs =>
   cases ds with
   |nil=>exact nn h
   |cons b ds =>
    cases b with
    |tup ys =>
     cases ds with
     |nil=>exact .tup xs ys rfl (Option.some.inj h).symm
     |cons _ _=>exact nn h
    |_=>exact nn h
  |lst xs =>
   cases ds with
   |nil=>exact nn h
   |cons b ds =>
    cases b with
    |lst ys =>
     cases ds with
     |nil=>exact .lst xs ys rfl (Option.some.inj h).symm
     |cons _ _=>exact nn h
    |_=>exact nn h
  |_=>exact nn h
theorem SH (hg:Gl X "zip")(hm:X.mg "zip" = none)(ha:PA X [e1,e2] (tDA X f))(hs:starEach [e1,e2] X.env=(false,eval e1 X.env)::starEach [e2] X.env:=by rfl)(hpl:(backTo pos (starEach [e2] X.env)).any (·.1)=false:=by rfl) :
  PI X (.Tuple elts x1 tpos) (.Call (.Name "zip" p) [e1,e2] [] pos) (tDI X (r0 f)):=by
 intro pins s σ H R I h
 obtain⟨P,α,env,S,r,re,af⟩:=h
 refine Call_ (mQ I hg hm boot_zip (PyProof.Rows.callWith_type1 (thn (mH ha I r re af pos) fun us s1 ⟨vs,H1,P1,α1,ds,S1,I1,rv,r1,re1,rp,e1,e2,af1⟩=>?_) hs hpl))
 obtain⟨its,hi,q⟩:=fX af1
 cases D2 hi with
 |tup xs ys ed e =>
  subst ed e
  obtain⟨v,w,u,x,rfl,rfl,p1,p2,q1,q2⟩:=KH rp rv
  simp only[Rep] at p1 p2
  obtain⟨a,va,rfl,qa,ta⟩:=p1
  obtain⟨b,vb,rfl,qb,tb⟩:=p2
  cases (show u=Value.ref a from q1)
  cases (show x=Value.ref b from q2)
  exact BG (tp:=true) I1 r1 qa qb ta tb (q.base e1 e2)
 |lst xs ys ed e =>
  subst ed e
  obtain⟨v,w,u,x,rfl,rfl,p1,p2,q1,q2⟩:=KH rp rv
  simp only[Rep] at p1 p2
  obtain⟨a,va,rfl,qa,ta⟩:=p1
  obtain⟨b,vb,rfl,qb,tb⟩:=p2
  cases (show u=Value.ref a from q1)
  cases (show x=Value.ref b from q2)
  exact BG (tp:=false) I1 r1 qa.l qb.l ta tb (q.base e1 e2)
end
end _D
end
section
namespace _D
open PySem PySem.Spec PyProof.Rows _L
def Src (K:PySem.W.Frag)(mg:Str→Option Value)(x:Str)(st:Stmt)(ps:List Str):Prop:=∃ f fd,mg x=some (.ref f)∧Fun K x x st f fd∧fD K fd ps []
def Lk (K:PySem.W.Frag)(f:Addr)(fd:FuncData):Prop:=∃ oc od osl,K.lookup f=some ⟨oc,od,.func fd,osl⟩
theorem XU {K:PySem.W.Frag}{x q:Str}{st:Stmt}{f:Addr}{fd:FuncData}(F:Fun K x q st f fd):Lk K f fd:=by
 obtain⟨oc,od,kV,doc,pm,an,cdv,ct,osl,_,lk,_⟩:=F.ex
 exact⟨oc,od,osl,lk⟩
theorem Lk.one {K:PySem.W.Frag}{f:Addr}{fd fd':FuncData}(h:Lk K f fd)(h':Lk K f fd'):fd=fd':=by
 obtain⟨oc,od,osl,e⟩:=h
 obtain⟨oc',od',osl',e'⟩:=h'
 rw[e] at e'
 cases e'
 rfl
def Def (P:Program)(w:World)(K:PySem.W.Frag)(mg:Str→Option Value)(base:Heap)(cm:Bool)(k:Nat)(x:Str)(n:Nat)(F:DF):Prop:=
 ∃ f fd ps,ps.length=n∧mg x=some (.ref f)∧PySem.W.keepIn K (.ref f)=true∧fD K fd ps [] ∧ Lk K f fd∧FnX P w K mg base cm k f fd ps (spD K n F)
def XX (P:Program)(w:World)(K:PySem.W.Frag)(mg:Str→Option Value)(base:Heap)(cm:Bool)(k:Nat)(x:Str)(ps:List Str)(F:DF):Prop:=
 ∃ f fd,mg x=some (.ref f)∧PySem.W.keepIn K (.ref f)=true∧fD K fd ps [] ∧ Lk K f fd∧FnX P w K mg base cm k f fd ps (spD K ps.length F)
section
variable {P:Program}{w:World}{K:PySem.W.Frag}{mg:Str→Option Value}{base:Heap}{cm:Bool}
theorem SC {x:Str}{st:Stmt}{N ps:List Str}{k:Nat}{g:DS}(h:Src K mg x st ps)(S:FnScope N ps (q9 st))
  (hbody:∀ (f:Addr) (cdv:Value) (A:Around) (outer:List Env) (s:Shared) (H:Hp) (E:XK),RoomC cm k (A.deeper (envOfC x (q9 st) s.heap.objs.size f cdv)) →
   PSs (cxC cm P w K mg base N x (q9 st) f cdv A outer s H E) (qM st) (tDS (cxC cm P w K mg base N x (q9 st) f cdv A outer s H E) g)):Def P w K mg base cm (k+1) x ps.length (zA N.length g):=by
 obtain⟨f,fd,hm,F,hb⟩:=h
 exact⟨f,fd,ps,rfl,hm,F.kp,hb,XU F,fnX F S fun cdv A outer s H E hr=>hbody f cdv A outer s H E hr⟩
theorem N2 {x:Str}{st:Stmt}{N ps:List Str}{k:Nat}{g:DS}(h:Src K mg x st ps)(S:FnScope N ps (q9 st))
  (hbody:∀ (f:Addr) (cdv:Value) (A:Around) (outer:List Env) (s:Shared) (H:Hp) (E:XK),RoomC cm k (A.deeper (envOfC x (q9 st) s.heap.objs.size f cdv)) →
   PSs (cxC cm P w K mg base N x (q9 st) f cdv A outer s H E) (qM st) (tDS (cxC cm P w K mg base N x (q9 st) f cdv A outer s H E) g)):XX P w K mg base cm (k+1) x ps (zA N.length g):=by
 obtain⟨f,fd,hm,F,hb⟩:=h
 exact⟨f,fd,hm,F.kp,hb,XU F,fnX F S fun cdv A outer s H E hr=>hbody f cdv A outer s H E hr⟩
end
section
variable {X:Cx}{cm:Bool}{k n:Nat}{F:DF}{x:Str}{p pos:Pos}{e:Expr}{es:List Expr}{fa:DA}
theorem dcN (G:Def X.prog X.w X.K X.mg X.base cm k x n F)(hr:RoomC cm k X.A)(hF:Fn1 X)(hg:Gl X x)(ha:PA X (e::es) (tDA X fa))(hdb:(x == ("__debug__" : Str))=false:=by decide)(he:starEach (e::es) X.env=(false,eval e X.env)::starEach es X.env:=by rfl)(hpl:(backTo pos (starEach es X.env)).any (·.1)=false:=by rfl) :
  PE X (.Call (.Name x p) (e::es) [] pos) (tD X (qP n F fa)):=by
 obtain⟨f,fd,ps,hn,hm,kp,hb,hl,G⟩:=G
 exact TW G hr hF hg hm kp hb ha hdb he hpl
end
def xO:DF:=fun ds S=>match ds with
 |[.dct0]=>.bad
 |_=>WV ds S
theorem TJ {X:Cx}:kL X (.builtin "len") xO:=DN trivial
theorem ML:∃ C:Int→Int→Bool,C=W6:=⟨_,rfl⟩
noncomputable def MK:Int→Int→Bool:=Classical.choose ML
theorem W7:MK=W6:=Classical.choose_spec ML
noncomputable def vY:G2:=i2 MK fun i j=>.int (i*j)
theorem L4 {X:Cx}:OpD X (binaryOp .Mult) vY:=by
 unfold vY
 rw[W7]
 exact L3
theorem hu1 {cm:Bool}{k:Nat}{A:Around}(hr:RoomC cm k A):A.units+1<cLine:=by have:=hr.units;omega
theorem aY:bootBuiltins "int" = some (.type "int"):=by decide +kernel
theorem eF:bootBuiltins "bool" = some (.type "bool"):=by decide +kernel
theorem vR:bootBuiltins "tuple" = some (.type "tuple"):=by decide +kernel
theorem fS:bootBuiltins "list" = some (.type "list"):=by decide +kernel
theorem G0:bootBuiltins "str" = some (.type "str"):=by decide +kernel
theorem zF:bootBuiltins "isinstance" = some (.builtin "isinstance"):=by decide +kernel
theorem gO:bootBuiltins "len" = some (.builtin "len"):=by decide +kernel
theorem nN:bootBuiltins "all" = some (.builtin "all"):=by decide +kernel
end _D
end
section
namespace _D
open PySem PySem.Spec PyProof.Rows _L
structure QE (X:Cx)(e:Expr)(f:DE):Prop where
 get:PE X e (tD X f)
structure QT (X:Cx)(e:Expr)(t:DT):Prop where
 get:PT X e (tDT X t)
structure QW (X:Cx)(e:Expr)(t:DT):Prop where
 get:PWD X e t
structure QA (X:Cx)(es:List Expr)(f:DA):Prop where
 get:PA X es (tDA X f)
structure QO (X:Cx)(e:Option Expr)(f:DO):Prop where
 get:PO X e (tDO X f)
structure QG (X:Cx)(t:Expr)(g:DG):Prop where
 get:PG X t (tDG X g)
structure QGs (X:Cx)(ts:List Expr)(g:DGs):Prop where
 get:PGs X ts (V9 X g)
structure QI (X:Cx)(tg it:Expr)(f:DI):Prop where
 get:PI X tg it (tDI X f)
structure QS (X:Cx)(s:Stmt)(f:DS):Prop where
 get:PS X s (tDS X f)
structure QB (X:Cx)(ss:List Stmt)(f:DS):Prop where
 get:PSs X ss (tDS X f)
structure ZOp (X:Cx)(f:Value→Value→Sem Value)(g:G2):Prop where
 get:OpD X f g
structure ZUn (X:Cx)(f:Value→Sem Value)(g:D→Sto→Res D):Prop where
 get:UnD X f g
structure ZIx (X:Cx)(g:G2):Prop where
 get:IxD X g
structure ZCall (X:Cx)(f:Value)(F:DF):Prop where
 get:kL X f F
structure ZSet (X:Cx)(g:G3):Prop where
 get:XY X (XW X g)
structure ZPass (X:Cx):Prop where
 get:PassesOwn (model X.prog X.w) X.A X.env X.xe
section
variable {X:Cx}{a b c e e1 e2 o i:Expr}{es rest:List Expr}{fa fb fc fe fo fi:DE}{ta tb:DT}{fA:DA}{f g:DS}{st:Stmt}{sts:List Stmt}{x:Str}{p pos:Pos}{n k:Nat}{cm:Bool}{F:DF}{G2':G2}
theorem lI {j}:QE X (.Constant .none j pos) (dC .non):=⟨S7⟩
theorem uO {v j}:QE X (.Constant (.bool v) j pos) (dC (.bl v)):=⟨H8⟩
theorem qF {v j}:QE X (.Constant (.int v) j pos) (dC (.int v)):=⟨DY⟩
theorem o9 {v j}:QE X (.Constant (.str v) j pos) (dC (.str v)):=⟨SA⟩
theorem qD (m:Nat)(hN:X.N[m]? = some x)(hv:Vis X.env.scope x)(hd:(x == ("__debug__" : Str))=false)(hcd:(x == ("__classdict__" : Str))=false):QE X (.Name x pos) (qB m):=⟨dv m hN hv hd hcd⟩
theorem xZ {nm:String}(hg:Gl X x)(hm:X.mg x=none)(hv:bootBuiltins x=some (.type nm))(hn:x ≠ "__name__")(hd:(x == ("__debug__" : Str))=false):QE X (.Name x pos) (dC (.ty nm)):=⟨TV hg hm hv hn hd⟩
theorem QH {v:Int}(hg:Gl X x)(hm:∃ t,X.mg x=some (.int v t))(hd:(x == ("__debug__" : Str))=false):QE X (.Name x pos) (dC (.int v)):=⟨let ⟨_,h⟩:=hm;TY (v:=.int v) hg h ⟨_,rfl⟩ (fun _ _=>by simp only[Rep]) hd⟩
theorem eY {op:UnaryOp}{h:D→Sto→Res D}(ho:ZUn X (unaryOp op) h)(ha:QE X a fa):QE X (.UnaryOp op a pos) (d1 h fa):=⟨HC ho.1 ha.1⟩
theorem PV (ha:QE X a fa):QE X (.UnaryOp .Not a pos) (JV fa):=⟨S8 ha.1⟩
theorem qT {op:Operator}(ho:ZOp X (binaryOp op) G2')(ha:QE X a fa)(hb:QE X b fb):QE X (.BinOp a op b pos) (d2 G2' fa fb):=⟨HB ho.1 ha.1 hb.1⟩
theorem bN {op:CmpOp}(ho:ZOp X (compareOp op) G2')(ha:QE X a fa)(hb:QE X b fb)(hm:behindInMarks op b=false:=by first|exact iY _|with_unfolding_all rfl):QE X (.Compare a [op] [b] pos) (d2 G2' fa fb):=⟨DX ho.1 ha.1 hb.1 hm⟩
theorem YT {op op':CmpOp}{g':G2}(ho:ZOp X (compareOp op) G2')(ho':ZOp X (compareOp op') g')(ha:QE X a fa)(hb:QE X b fb)(hc:QE X c fc)(hm:lastMarks [op,op'] [b,c]=false:=by with_unfolding_all rfl):QE X (.Compare a [op,op'] [b,c] pos) (wU G2' g' fa fb fc):=⟨F5 ho.1 ho'.1 ha.1 hb.1 hc.1 hm⟩
theorem mV {op} (h:QE X a fa):QE X (.BoolOp op [a] pos) fa:=⟨S9 h.1⟩
theorem bM (ha:QE X a fa)(hb:QE X (.BoolOp .And (b::rest) pos) fb):QE X (.BoolOp .And (a::b::rest) pos) (k7 fa fb):=⟨DW ha.1 hb.1⟩
theorem CD (hc:QT X c ta)(ha:QE X a fa)(hb:QE X b fb):QE X (.IfExp c a b pos) (dIf ta fa fb):=⟨H9 hc.1 ha.1 hb.1⟩
theorem zT {x1} (h:QA X es fA):QE X (.Tuple es x1 pos) (qV fA):=⟨SB h.1⟩
theorem yP (h:QA X es fA):QE X (.List es pos) (xX fA):=⟨DZ h.1⟩
theorem LL (h:QA X es fA):QE X (.List es pos) (JU fA):=⟨TZ h.1⟩
theorem eX:QE X (.Dict [] [] pos) fJ:=⟨TX⟩
theorem yT (ho:ZIx X G2')(ha:QE X a fa)(hb:QE X b fb)(hs:oJ b:=by intro _ _;rfl):QE X (.Subscript a b pos) (d2 G2' fa fb):=⟨HA ho.1 ha.1 hb.1 hs⟩
theorem wZ {lo hi:Option Expr}{fl fh:DO}{p2:Pos}(he:QE X e fe)(hl:QO X lo fl)(hu:QO X hi fh):QE X (.Subscript e (.Slice lo hi none p2) pos) (dSl fe fl fh):=⟨F7 he.1 hl.1 hu.1⟩
theorem vH:QO X none zQ:=⟨N6⟩
theorem yK (he:QE X e fe):QO X (some e) (zK fe):=⟨N7 he.1⟩
theorem qE:QA X [] qC:=⟨DU⟩
theorem qA (ha:QE X e fa)(hr:QA X es fA)(hs:starEach (e::es) X.env=(false,eval e X.env)::starEach es X.env:=by rfl):QA X (e::es) (q8 fa fA):=⟨TR ha.1 hr.1 hs⟩
theorem qcN (G:Def X.prog X.w X.K X.mg X.base cm k x n F)(hr:RoomC cm k X.A)(hF:Fn1 X)(hg:Gl X x)(ha:QA X (e::es) fA)(hdb:(x == ("__debug__" : Str))=false)(he:starEach (e::es) X.env=(false,eval e X.env)::starEach es X.env:=by rfl)(hpl:(backTo pos (starEach es X.env)).any (·.1)=false:=by rfl):QE X (.Call (.Name x p) (e::es) [] pos) (qP n F fA):=⟨dcN G hr hF hg ha.1 hdb he hpl⟩
theorem qX {id:String}(hc:ZCall X (.builtin id) F)(hg:Gl X x)(hm:X.mg x=none)(hv:bootBuiltins x=some (.builtin id))(ha:QA X (e::es) fA)(hn:x ≠ "__name__")(hdb:(x == ("__debug__" : Str))=false)(he:starEach (e::es) X.env=(false,eval e X.env)::starEach es X.env:=by rfl)(hpl:(backTo pos (starEach es X.env)).any (·.1)=false:=by rfl):QE X (.Call (.Name x p) (e::es) [] pos) (qH F fA):=⟨F4 hc.1 hg hm hv ha.1 hn hdb he hpl⟩
theorem jL {T:String}(hc:ZCall X (.type T) F)(hg:Gl X x)(hm:X.mg x=none)(hv:bootBuiltins x=some (.type T))(ha:QA X (e::es) fA)(hn:x ≠ "__name__")(hdb:(x == ("__debug__" : Str))=false)(he:starEach (e::es) X.env=(false,eval e X.env)::starEach es X.env:=by rfl)(hpl:(backTo pos (starEach es X.env)).any (·.1)=false:=by rfl):QE X (.Call (.Name x p) (e::es) [] pos) (qH F fA):=⟨GG hc.1 hg hm hv ha.1 hn hdb he hpl⟩
theorem eZ (h:QW X e ta):QT X e ta:=⟨PWD.pt h.1⟩
theorem lK (ha:QT X a ta):QW X (.BoolOp .Or [a] pos) ta:=⟨SU ha.1⟩
theorem dJ (ha:QT X a ta)(hb:QW X (.BoolOp .Or (b::rest) pos) tb):QW X (.BoolOp .Or (a::b::rest) pos) (jA ta tb):=⟨HK ha.1 hb.1⟩
theorem jO (ha:QT X a ta):QT X (.UnaryOp .Not a pos) (wC ta):=⟨SS ha.1⟩
theorem jN {op:CmpOp}(ho:ZOp X (compareOp op) G2')(ha:QE X a fa)(hb:QE X b fb)(hm:behindInMarks op b=false:=by first|exact iY _|with_unfolding_all rfl):QT X (.Compare a [op] [b] pos) (dTr (d2 G2' fa fb)):=⟨SR ho.1 ha.1 hb.1 hm⟩
theorem YW {op op':CmpOp}{g':G2}(ho:ZOp X (compareOp op) G2')(ho':ZOp X (compareOp op') g')(ha:QE X a fa)(hb:QE X b fb)(hc:QE X c fc)(hm:lastMarks [op,op'] [b,c]=false:=by with_unfolding_all rfl):QT X (.Compare a [op,op'] [b,c] pos) (dTr (wU G2' g' fa fb fc)):=⟨FD ho.1 ho'.1 ha.1 hb.1 hc.1 hm⟩
theorem u7 (ha:QE X a fa)(he:∀ whole,isTrue a X.env whole=(do let v ← whole;standAt a.pos;holding [v] (truthy v)):=by intro _;rfl):QT X a (dTr fa):=⟨ST ha.1 he⟩
theorem zW {m:Nat}(hN:X.N.Nodup)(hi:X.N[m]? = some x)(hx:Loc X.env.scope x)(hf:X.fn x=true∨X.env.scope.names.lookup x=some .local):QG X (.Name x pos) (gNm m):=⟨N3 hN hi hx hf⟩
theorem fW:QGs X [] uM:=⟨N4⟩
theorem yO {h:DG}{gs:DGs}(h1:QG X e h)(h2:QGs X es gs)(hs:(assignEach (e::es) X.env).map (·.2)=assign e X.env::(assignEach es X.env).map (·.2):=by rfl):QGs X (e::es) (xB h gs):=⟨F8 h1.1 h2.1 hs⟩
theorem lJ {kk:Nat}{gs:DGs}(hc:X.calm=true)(h:QGs X es gs)(hn:(assignEach es X.env).length=n:=by rfl)(hst:(assignEach es X.env).findIdx? (·.1)=none:=by rfl):QG X (.Tuple es kk pos) (gTp n gs):=⟨SE hc h.1 hn hst⟩
theorem PX {h:G3}(ho:QE X o fo)(hi:QE X i fi)(hs:ZSet X h)
  (ha:∀ v,assign (.Subscript o i pos) X.env v=(do
   let ov ← holding [v] (eval o X.env)
   let iv ← holding [v,ov] (eval i X.env)
   standAt pos
   holding [v,ov,iv] (setItem ov iv v)
   release [v,ov,iv] []):=by intro _;rfl):QG X (.Subscript o i pos) (gSb fo fi h):=⟨SD ho.1 hi.1 hs.1 ha⟩
theorem PY {tg:Expr}(ha:QE X e fa):QI X tg e (bD fa):=⟨SG ha.1⟩
theorem jM {tg:Expr}(hg:Gl X "range")(hm:X.mg "range" = none)(ha:QA X (e::es) fA)(hs:starEach (e::es) X.env=(false,eval e X.env)::starEach es X.env:=by rfl)(hpl:(backTo pos (starEach es X.env)).any (·.1)=false:=by rfl):QI X tg (.Call (.Name "range" p) (e::es) [] pos) (uL fA):=⟨F9 hg hm ha.1 hs hpl⟩
theorem PZ {elts:List Expr}{x1:Nat}{tpos:Pos}(hg:Gl X "zip")(hm:X.mg "zip" = none)(ha:QA X [e1,e2] fA)(hs:starEach [e1,e2] X.env=(false,eval e1 X.env)::starEach [e2] X.env:=by rfl)(hpl:(backTo pos (starEach [e2] X.env)).any (·.1)=false:=by rfl):QI X (.Tuple elts x1 tpos) (.Call (.Name "zip" p) [e1,e2] [] pos) (r0 fA):=⟨SH hg hm ha.1 hs hpl⟩
theorem wV:QB X [] xP:=⟨SL⟩
theorem zM (h:QS X st f):QB X [st] f:=⟨SM h.1⟩
theorem qS (h1:QS X st f)(h2:QB X sts g):QB X (st::sts) (zL f g):=⟨N8 h1.1 h2.1⟩
theorem zU (he:QE X e fa):QS X (.Return (some e) pos) (zX fa):=⟨SO he.1⟩
theorem vD {as bs:List Stmt}(hc:QT X c ta)(ha:QB X as f)(hb:QB X bs g):QS X (.If c as bs pos) (sIf ta f g):=⟨HH hc.1 ha.1 hb.1⟩
theorem oA {tg iter:Expr}{body:List Stmt}{fI:DI}{h:DG}(hp:ZPass X)(hc:X.calm=true)(hi:QI X tg iter fI)(hg:QG X tg h)(hb:QB X body f)(hs:∀ x,foldedSetIterable iter X.env x=pure x:=by intro _;rfl):QS X (.For tg iter body [] pos) (dN fI h f):=⟨SK hp.1 hc hi.1 hg.1 hb.1 hs⟩
theorem wL {m:Nat}{pos':Pos}(hN:X.N.Nodup)(he:QE X e fa)(hi:X.N[m]? = some x)(hx:Loc X.env.scope x)(hs:swapsWith e (some (.Name x pos')) pos.line X.env=pure false)(hf:X.fn x=true∨X.env.scope.names.lookup x=some .local):QS X (.Assign [.Name x pos'] e pos) (xN fa (gNm m)):=⟨SQ hN he.1 hi hx hs hf⟩
theorem YU {tg:Expr}{h:DG}(he:QE X e fa)(hg:QG X tg h)(hs:swapsWithSole [tg] e pos.line X.env=pure false:=by rfl)(hw:swappedStores [tg] e X.env=pure none:=by rfl)(h1:(assignEach [tg] X.env).map (·.2)=[assign tg X.env]:=by rfl):QS X (.Assign [tg] e pos) (xN fa h):=⟨SJ he.1 hg.1 hs hw h1⟩
theorem YV {m l:Nat}{y:Str}{px py pt:Pos} {kt k2 pt2} (hc:X.calm=true) (hN:X.N.Nodup) (ha:QA X [a,b] fA) (hi:X.N[m]? = some x) (hj:X.N[l]? = some y) (hij:m≠l) (hx:X.env.scope.names.lookup x=some .local) (hy:X.env.scope.names.lookup y=some .local)
  (hw:swappedStores [.Tuple [.Name x px,.Name y py] kt pt] (.Tuple [a,b] k2 pt2) X.env=pure (some [x,y]):=by rfl) (hs:swapsWithSole [.Tuple [.Name x px,.Name y py] kt pt] (.Tuple [a,b] k2 pt2) pos.line X.env=pure false:=by rfl) :
  QS X (.Assign [.Tuple [.Name x px,.Name y py] kt pt] (.Tuple [a,b] k2 pt2) pos) (aS m l fA):=⟨SN hc hN ha.1 hi hj hij hx hy hw hs⟩
theorem xK:ZOp X (binaryOp .Add) qZ:=⟨RK⟩
theorem dQ:ZOp X (binaryOp .Sub) vE:=⟨RP⟩
theorem hX:ZOp X (binaryOp .Mult) vY:=⟨L4⟩
theorem hW:ZOp X (binaryOp .FloorDiv) jE:=⟨RL⟩
theorem tS:ZOp X (binaryOp .Mod) k9:=⟨RN⟩
theorem TC:ZOp X (binaryOp .Pow) cZ:=⟨RO⟩
theorem IC:ZOp X (compareOp .Lt) gLt:=⟨MW⟩
theorem eC:ZOp X (compareOp .LtE) gLe:=⟨C4⟩
theorem IB:ZOp X (compareOp .GtE) gGe:=⟨C2⟩
theorem EY:ZOp X (compareOp .Is) gIs:=⟨C3⟩
theorem dP (hr:RoomC cm k X.A):ZOp X (compareOp .Eq) gEq:=⟨C1 hr.units⟩
theorem VL (hr:RoomC cm k X.A):ZOp X (compareOp .NotEq) gNe:=⟨C5 hr.units⟩
theorem hZ:ZUn X (unaryOp .USub) kA:=⟨EV⟩
theorem uS:ZIx X gIx:=⟨AI⟩
theorem yU:ZCall X (.builtin "isinstance") x5:=⟨DM⟩
theorem jV:ZCall X (.builtin "len") xO:=⟨TJ⟩
theorem b0 (hc:X.calm=true):ZCall X (.builtin "all") (gS false):=⟨DH false hc⟩
theorem oG:ZCall X (.type "int") WU:=⟨DJ⟩
theorem pP:ZCall X (.type "tuple") nQ:=⟨BT⟩
theorem t3:ZCall X (.type "list") eL:=⟨TK⟩
theorem c0 (hr:RoomC cm k X.A):ZSet X pS:=⟨EM (hu1 hr)⟩
end
section
variable {P:Program}{w:World}{K:PySem.W.Frag}{mg:Str→Option Value}{base:Heap}{cm:Bool}
theorem c7 {N:List Str}{qual:Str}{scope:Scope}{f:Addr}{cd:Value}{A:Around}{outer:List Env}{s:Shared}{H:Hp}{E:XK}:ZPass (cxC cm P w K mg base N qual scope f cd A outer s H E):=⟨BZ⟩
theorem jC {x:Str}{st:Stmt}{N ps:List Str}{k:Nat}{g:DS}{body:List Stmt}(h:Src K mg x st ps)(S:FnScope N ps (q9 st))(hbd:qM st=body)
  (hbody:∀ (f:Addr) (cdv:Value) (A:Around) (outer:List Env) (s:Shared) (H:Hp) (E:XK),RoomC cm k (A.deeper (envOfC x (q9 st) s.heap.objs.size f cdv)) →
   QB (cxC cm P w K mg base N x (q9 st) f cdv A outer s H E) body g):Def P w K mg base cm (k+1) x ps.length (zA N.length g):=
 SC h S fun f cdv A outer s H E hr=>hbd▸(hbody f cdv A outer s H E hr).1
theorem HD {x:Str}{st:Stmt}{N ps:List Str}{k:Nat}{g:DS}{body:List Stmt}(h:Src K mg x st ps)(S:FnScope N ps (q9 st))(hbd:qM st=body)
  (hbody:∀ (f:Addr) (cdv:Value) (A:Around) (outer:List Env) (s:Shared) (H:Hp) (E:XK),RoomC cm k (A.deeper (envOfC x (q9 st) s.heap.objs.size f cdv)) →
   QB (cxC cm P w K mg base N x (q9 st) f cdv A outer s H E) body g):XX P w K mg base cm (k+1) x ps (zA N.length g):=
 N2 h S fun f cdv A outer s H E hr=>hbd▸(hbody f cdv A outer s H E hr).1
theorem N1 {x:Str}{st:Stmt}{ps:List Str}(h:Src K mg x st ps):Def P w K mg base cm 0 x ps.length fun _ _=>.bad:=by
 obtain⟨f,fd,hm,F,hb⟩:=h
 exact⟨f,fd,ps,rfl,hm,F.kp,hb,XU F,⟨fun vs H Q E z=>z.1,fun A outer s H args us vs Q E _ _ _ _ z=>by obtain⟨_,_,_,_,_,_,_,z⟩:=z;exact False.elim z⟩⟩
end
end _D
end
section
namespace _D
open PySem PySem.Spec PyProof.Rows _L
theorem wW {K:PySem.W.Frag}{h:Heap}{mg:Str→Option Value}(X:K.In h)(G:h.Ns mainGlobals mg){x:Str}{st:Stmt}{ps:List Str}{f:Addr}{oc:Value}{od an:Option Addr}{osl:Array (Option Value)}{kV doc pm cdv ct:Value}
  (a:PySem.W.nsIn K mainGlobals x=some (some (.ref f)))
  (l:K.lookup f=some ⟨oc,od,.func (PySem.W.fnOf x x (qR st) (qM st) (q9 st) .none kV doc pm an cdv ct),osl⟩) (c:PySem.W.codeIn K cdv x=true) (k:PySem.W.keepIn K (.ref f)=true)
  (hb:∀ (kV doc pm:Value) (an:Option Addr) (cdv ct:Value) (us:List Value),us.length=ps.length→bindArgs (PySem.W.fnOf x x (qR st) (qM st) (q9 st) .none kV doc pm an cdv ct) ⟨us,[]⟩=pure (ps.zip us)):Src K mg x st ps:=
 have F:=SZ (st:=st) l c k
 ⟨f,_,PySem.W.mg_of X G a,F,F.binds hb⟩
def XV (K:PySem.W.Frag):Sp:=fun vs H Q E=>∃ a ns,vs=[.ref a]∧SqX K H a (List.map V.int ns)∧ns.length≤63∧∀ H',Q (.bl true) H'
theorem YZ {K:PySem.W.Frag}{P:Hp}{α : List Addr}:∀ ns:List Int,qI K P α (ns.map D.int) (ns.map V.int)
 |[]=>.nil
 |n::ns=>.cons (by simp only[Rep]) (YZ ns)
theorem NV {P:Program}{w:World}{K:PySem.W.Frag}{mg:Str→Option Value}{fa:Addr}{st:Stmt}{k:Nat}{x:Str}(hs:Src K mg "law" st [x])(hfa:mg "law" = some (.ref fa))
  (hbd:∀ (kV doc pm:Value) (an:Option Addr) (cdv ct:Value) (s:Shared) (v:Value),BindsTo s (PySem.W.fnOf "law" "law" (qR st) (qM st) (q9 st) .none kV doc pm an cdv ct) ⟨[v],[]⟩ [(x,v)])
  (hall:∀ base:Heap,∃ F,XX P w K mg base true k "law" [x] F∧∀ ns:List Int,ns.length≤63→∃ S,F [.lst (ns.map D.int)] [] = .ok (.bl true) S) :
  ∃ fd:FuncData,(∀ (s:Shared) (v:Value),BindsTo s fd ⟨[v],[]⟩ [(x,v)])∧∀ base:Heap,K.In base→base.Ns mainGlobals mg→FnOk P w K mg base (CXd P w) k fa fd [x] (XV K):=by
 obtain⟨f,fd,hm,F,hb⟩:=hs
 cases hfa.symm.trans hm
 refine⟨fd,?_,fun base _ _=>?_⟩
 ·obtain⟨oc,od,kV,doc,pm,an,cdv,ct,osl,rfl,_,_⟩:=F.ex
  exact hbd kV doc pm an cdv ct
 ·obtain⟨G,⟨f',fd',hm',_,hb',hl,X⟩,hG⟩:=hall base
  cases hm.symm.trans hm'
  cases hl.one (XU F)
  refine(X.imp fun vs H Q E h=>?_).ok
  obtain⟨a,ns,rfl,hS,hl,k⟩:=h
  obtain⟨S,e⟩:=hG ns hl
  refine⟨rfl,H,[],[.lst (ns.map D.int)],[],⟨qL.refl _,rfl,.nil,by simp,by simp,by simp⟩,.cons (h9 hS (YZ ns)) .nil,?_⟩
  rw[e]
  intro v H' P' α' _ _ _ rv
  simp only[Rep] at rv
  subst rv
  exact k H'
theorem CW {l:PySem.W.OpenLaw}{q:Program}{loose:List Str}{XP:(Str→Option Value)→Heap→Prop}{YP:World→Heap→Prop}{d:DefRec}{K:Params→PySem.W.Frag}{k:Nat}{x:Str}(hn:l.most=some 63)(hdf:d.params.defaults=[])(hr:Room k callerA)
  (hY:∀ (w:World) (h:Heap),YP w h→(K w.params).In h)
  (F:∀ (w:World) (mg:Str→Option Value) (fa:Addr) (h:Heap),(K w.params).In h→h.Ns mainGlobals mg→mg d.name=some (.ref fa) →
   ∃ fd:FuncData,(∀ (s:Shared) (u:Value),BindsTo s fd ⟨[u],[]⟩ [(x,u)])∧∀ base:Heap,(K w.params).In base→base.Ns mainGlobals mg→FnOk l.prog w (K w.params) mg base (CXd l.prog w) k fa fd [x] (XV (K w.params))) :
  PySem.W.WalkO q loose XP YP l.row.toRowW d [] (fun f vs=>PySem.call f vs):=
 _L.LY (n:=63) (k:=k) (x:=x) (CX:=fun w=>CXd l.prog w) (sp:=fun w=>XV (K w.params)) hn (by decide) hdf hr hY F (fun _ _ a ns hl _ hS=>⟨a,ns,rfl,hS,hl,fun _=>rfl⟩) fun w H s e s' h=>by
  obtain⟨_,_,_,_,_,_,_,_,_,_,_,_,z⟩:=h
  exact z
end _D
end
section
namespace _D
open PySem
theorem us0 {us:List Value}(h:us.length=0):us=[]:=List.eq_nil_of_length_eq_zero h
theorem usS {us:List Value}{n:Nat}(h:us.length=n+1):∃ a vs,us=a::vs∧vs.length=n:=by
 cases us with
 |nil=>exact absurd h (by simp)
 |cons a vs=>exact⟨a,vs,rfl,by simpa using h⟩
theorem us1 {us:List Value}(h:us.length=1):∃ a,us=[a]:=by
 obtain⟨a,vs,rfl,h'⟩:=usS h
 exact⟨a,by rw[us0 h']⟩
theorem us2 {us:List Value}(h:us.length=2):∃ a b,us=[a,b]:=by
 obtain⟨a,vs,rfl,h'⟩:=usS h
 obtain⟨b,rfl⟩:=us1 h'
 exact⟨a,b,rfl⟩
theorem us3 {us:List Value}(h:us.length=3):∃ a b c,us=[a,b,c]:=by
 obtain⟨a,vs,rfl,h'⟩:=usS h
 obtain⟨b,c,rfl⟩:=us2 h'
 exact⟨a,b,c,rfl⟩
end _D
end
section
namespace _D
open PySem PySem.Spec PyProof.Rows _L
def okO (F:DF):DF:=fun ds S=>match F ds S with
 |.ok d S'=>.ok d S'
 |_=>.bad
theorem bL {F:DF}{ds:List D}{S S':Sto}{d:D}(h:F ds S=.ok d S'):okO F ds S=.ok d S':=by unfold okO;rw[h]
section
variable {X:Cx}{cm:Bool}{k n:Nat}{F:DF}{x:Str}{p pos:Pos}{e:Expr}{es:List Expr}{fa:DA}{f:Addr}{fd:FuncData}{ps:List Str}
theorem LP {pins:List (Addr × Obj)}{σ : _L.St}{H:Hp}{s:Shared}{Q:VK}{us:List Value}{vs:List V}{P:Hp}{α : List Addr}{ds:List D}{S:Sto}(G:FnX X.prog X.w X.K X.mg X.base cm k f fd ps (spD X.K n F))(hr:RoomC cm k X.A)(hb:fD X.K fd ps [])
  (I:Inv X pins σ H s) (r:Rel X.K H P α S) (rv:qQ vs us) (rp:qI X.K P α ds vs) (hn:ds.length=n) (af:x8 X P α (okO F ds S) Q):wpAny (model X.prog X.w) X.A (call (.ref f) us) (EP X pins σ Q) X.xe s:=by
 have hvn:vs.length=n:=by rw[← rp.length];exact hn
 have hsp:spD X.K n F vs H Q fun _ _ _=>False:=by
  refine⟨hvn,P,α,ds,S,r,rp,?_⟩
  unfold okO at af
  cases q:F ds S with
  |ok d S'=>rw[q] at af;exact af
  |ex c x S'=>rw[q] at af;exact False.elim af
  |bad=>rw[q] at af;exact af
 have hl:us.length=ps.length:=by rw[← rv.length];exact G.len _ _ _ _ hsp
 have hb':=hb s us I.kIn (by rw[List.append_nil];exact hl)
 rw[List.append_nil] at hb'
 refine wpAny_call (codeAny_mono (G.run X.A X.stack s H ⟨us,[]⟩ us vs Q _ hr I.env0 hb' rv hsp) fun r s' hq=>?_)
 cases r with
 |error u =>
  obtain⟨_,_,_,_,_,_,_,_,_,_,_,_,z⟩:=hq
  exact False.elim z
 |ok fl =>
  cases fl with
  |ret u=>exact I.after hq
  |next=>exact False.elim hq
  |brk=>exact False.elim hq
  |cont=>exact False.elim hq
theorem dcO (G:Def X.prog X.w X.K X.mg X.base cm k x n F)(hr:RoomC cm k X.A)(hg:Gl X x)(ha:PA X (e::es) (tDA X fa))(hdb:(x == ("__debug__" : Str))=false:=by decide)(he:starEach (e::es) X.env=(false,eval e X.env)::starEach es X.env:=by rfl)(hpl:(backTo pos (starEach es X.env)).any (·.1)=false:=by rfl) :
  PE X (.Call (.Name x p) (e::es) [] pos) (tD X (qP n (okO F) fa)):=by
 obtain⟨f,fd,ps,hn0,hm,hk,hb,hl,G⟩:=G
 intro pins s σ H Q I h
 obtain⟨P,α,env,S,r,re,af⟩:=h
 refine wpAny_Call_Name_kw (Q4 I hg hm ?_ hdb)
 refine PySem.W.callWith_K (h₀:=X.base) I.ok.mod.kin hk (thn (mH ha I r re af pos) fun us s1 ⟨vs,H1,P1,α1,ds,S1,I1,rv,r1,re1,rp,e1,e2,af1⟩=>⟨I1.kIn,?_⟩) he hpl
 obtain⟨hn,af2⟩:=ZC (env:=env) (S:=S) af1
 exact LP G hr hb I1 r1 rv rp hn (x8.base e1 e2 af2)
end
end _D
end
section
namespace _D
open PySem PySem.Spec PyProof.Rows _L
section
variable {X:Cx}{scope:Scope}{N':List Str}{cl:List (Str × Addr)}{C:Addr}{ex:List Addr}{s₀:Shared}{H₀:Hp}{x:Str}
set_option tactic.hygienic true in
theorem gA {env:Env}:∀ {names:List (Str × NameKind)} {x:Str} {k:NameKind},names.lookup x=some k →
  (names.map fun (n,k)=>if (k == NameKind.free&&env.scope.kind == .function&&env.kindOf n == some .cell) then (n,NameKind.cell) else (n,k)).lookup x=some k ∨
  (k=.free∧(names.map fun (n,k)=>if (k == NameKind.free&&env.scope.kind == .function&&env.kindOf n == some .cell) then (n,NameKind.cell) else (n,k)).lookup x=some .cell)
 |[],x,k,h=>by simp at h
 |(n,k0)::r,x,k,h=>by
  rw[List.lookup_cons] at h
  rw[List.map_cons]
  dsimp only
  cases hx:x == n with
  |true =>
   rw[hx] at h
   have e:k0=k:=Option.some.inj h
   subst e
   split
   ·rename_i hb
    right
    have h1:=(Bool.and_eq_true _ _).mp hb
    have h2:=(Bool.and_eq_true _ _).mp h1.1
    refine⟨by simpa using h2.1,?_⟩
    rw[List.lookup_cons,hx]
   ·left
    rw[List.lookup_cons,hx]
  |false =>
   rw[hx] at h
   have ih:=gA (env:=env) h
   split
   ·rw[List.lookup_cons,hx];exact ih
   ·rw[List.lookup_cons,hx];exact ih
theorem zD (h:scope.names.lookup x=some .local ∨ scope.names.lookup x=some .free):Vis (zV X N' scope cl C ex s₀ H₀).env.scope x:=by
 rcases h with h|h
 ·rcases gA (env:=X.env) h with g|⟨e,_⟩
  ·exact .inl g
  ·cases e
 ·rcases gA (env:=X.env) h with g|⟨_,g⟩
  ·exact .inr (.inr g)
  ·exact .inr (.inl g)
theorem xD (h:scope.names.lookup x=some .local):Loc (zV X N' scope cl C ex s₀ H₀).env.scope x:=by
 rcases gA (env:=X.env) h with g|⟨e,_⟩
 ·exact .inl g
 ·cases e
theorem j0 (h:scope.names.lookup x=some .globalImplicit):Gl (zV X N' scope cl C ex s₀ H₀) x:=by
 rcases gA (env:=X.env) h with g|⟨e,_⟩
 ·exact g
 ·cases e
end
structure QTs (X:Cx)(ifs:List Expr)(t:DT):Prop where
 get:PTs X ifs t
section
variable {X:Cx}{elt tg iter e:Expr}{ifs es:List Expr}{scope:Scope}{pos p:Pos}{N':List Str}{cap:List (Option Nat)}{fi:DI}{g:DG}{t u:DT}{fe:DE}{fa:DA}{x:Str}{cm:Bool}{k n:Nat}{F:DF}
theorem wN:QTs X [] xE:=⟨N9⟩
theorem qcO (G:Def X.prog X.w X.K X.mg X.base cm k x n F)(hr:RoomC cm k X.A)(hg:Gl X x)(ha:QA X (e::es) fa)(hdb:(x == ("__debug__" : Str))=false)(he:starEach (e::es) X.env=(false,eval e X.env)::starEach es X.env:=by rfl)(hpl:(backTo pos (starEach es X.env)).any (·.1)=false:=by rfl) :
  QE X (.Call (.Name x p) (e::es) [] pos) (qP n (okO F) fa):=⟨dcO G hr hg ha.1 hdb he hpl⟩
end
end _D
end
section
namespace _D
open PySem PySem.Spec PyProof.Rows _L
def stn (o:Option (Nat × MO))(S:Sto):Prop:=match o with
 |none=>True
 |some p=>S[p.1]? = some p.2
open Classical in
noncomputable def QX (o:Option (Nat × MO))(S:Sto):Bool:=decide (stn o S)
theorem uR {o:Option (Nat × MO)}{S:Sto}:QX o S=true↔stn o S:=by simp[QX]
structure ItD2 (K:PySem.W.Frag)(J:It)(P:Hp)(α : List Addr)(o:Option (Nat × MO))(ds:List D):Prop where
 go:∀ i H P1 α1 S,i<ds.length→Rel K H P1 α1 S→stn o S→qL P P1→α<+:α1→J.go i H
 yld:∀ i H x H' P1 α1 S,i<ds.length→Rel K H P1 α1 S→stn o S→qL P P1→α<+:α1→J.yld i H x H'→∃ P2 d,ds[i]? = some d∧Rel K H' P2 α1 S∧qL P1 P2∧Rep K P2 α1 d x
 stop:∀ i H P1 α1 S,ds.length≤i→Rel K H P1 α1 S→stn o S→qL P P1→α<+:α1→J.stop i H
theorem ItD.two {K:PySem.W.Frag}{J:It}{P:Hp}{α : List Addr}{ds:List D}(h:ItD K J P α ds):ItD2 K J P α none ds:=
 ⟨fun i H P1 α1 S a b _ c d=>h.go i H P1 α1 S a b c d,fun i H x H' P1 α1 S a b _ c d e=>h.yld i H x H' P1 α1 S a b c d e,fun i H P1 α1 S a b _ c d=>h.stop i H P1 α1 S a b c d⟩
abbrev DI2:=qG→Sto→Res (Option (Nat × MO) × List D)
inductive tDI2 (X:Cx)(f:DI2)(σ : _L.St)(H:Hp)(R:It→Hp→Prop):Prop
 |mk (P:Hp) (α : List Addr) (env:qG) (S:Sto) (r:Rel X.K H P α S) (re:xC X.K P α σ env) (af:qN X P α (f env S) (fun p S'=>∀ J H' P' α',Rel X.K H' P' α' S'→qL P P'→α<+:α'→ItD2 X.K J P' α' p.1 p.2→R J H')):tDI2 X f σ H R
def y9 (f:DI):DI2:=fun env S=>(f env S).bind fun ds S1=>.ok (none,ds) S1
section
variable {X:Cx}{K:PySem.W.Frag}{tg e:Expr}{fa:DE}{pos:Pos}
theorem N5 {f:DI}(h:PI X tg e (tDI X f)):PI X tg e (tDI2 X (y9 f)):=PI.weak h fun σ H R ⟨P,α,env,S,r,re,af⟩=>by
 refine⟨P,α,env,S,r,re,?_⟩
 unfold y9 at af
 cases q:f env S with
 |bad=>rw[q] at af;exact af
 |ex c x S'=>rw[q] at af;exact af
 |ok ds S1 =>
  rw[q] at af
  exact fun J H' P' α' r' e1 e2 it=>af J H' P' α' r' e1 e2 it.two
theorem NJ {P:Hp}{α : List Addr}{a:Addr}{n:Nat}{ds:List D}(hα:α[n]? = some a):ItD2 K (Itl K a) P α (some (n,.lst ds)) ds where
 go:=fun i H P1 α1 S hi r st e e2=>by
  obtain⟨vs,z,t⟩:=r.at' n a _ (eU e2 hα) st
  exact⟨vs,vs[i]'(by rw[← t.length];exact hi),.of z,by simp⟩
 yld:=fun i H x H' P1 α1 S hi r st e e2 y=>by
  obtain⟨rfl,y⟩:=y
  obtain⟨vs,z,t⟩:=r.at' n a _ (eU e2 hα) st
  have hx:=y vs (.of z)
  obtain⟨v,h1,h2⟩:=t.get (List.getElem?_eq_getElem hi)
  rw[hx] at h1;cases h1
  exact⟨P1,_,List.getElem?_eq_getElem hi,r,qL.refl _,h2⟩
 stop:=fun i H P1 α1 S hi r st e e2=>by
  obtain⟨vs,z,t⟩:=r.at' n a _ (eU e2 hα) st
  exact⟨vs,.of z,by rw[← t.length];exact hi⟩
def itD (d:D)(S:Sto):Res (Option (Nat × MO) × List D):=match d with
 |.tup xs=>.ok (none,xs) S
 |.lst xs=>.ok (none,xs) S
 |.loc n=>match S[n]? with
  |some (.lst xs)=>.ok (some (n,.lst xs),xs) S
  |_=>.bad
 |_=>.bad
def dIt (f:DE):DI2:=fun env S=>(f env S).bind fun d S1=>itD d S1
theorem HE (ha:PE X e (tD X fa)):PI X tg e (tDI2 X (dIt fa)):=by
 intro pins s σ H R I h
 obtain⟨P,α,env,S,r,re,af⟩:=h
 refine thn (wS ha I r re af) fun vv s1 ⟨v,H1,P1,α1,d,S1,G1,af1⟩=>?_
 have seq:∀ ds,wK d=some ds→(∀ J H' P' α',Rel X.K H' P' α' S1→qL P P'→α<+:α'→ItD2 X.K J P' α' none ds→R J H')→wpAny (model X.prog X.w) X.A (pyIter vv) (PIE X pins σ tg R) X.xe s1:=fun ds e1 q =>
  Y1 G1.inv G1.rel G1.val G1.rep e1 fun J H' P' α' r' h1 h2 it=>q J H' P' α' r' (G1.same.trans h1) (G1.pre.trans h2) it.two
 cases d with
 |tup xs=>exact seq xs rfl af1
 |lst xs=>exact seq xs rfl af1
 |loc n =>
  obtain⟨xs,hS,af1⟩:=dF (X:=X) (f:=fun xs=>Res.ok (some (n,MO.lst xs),xs) S1) af1
  have rp:=G1.rep
  simp only[Rep] at rp
  obtain⟨a,rfl,ha⟩:=rp
  cases (show vv=Value.ref a from G1.val)
  obtain⟨vs,z,t⟩:=G1.rel.at' n a _ ha hS
  obtain⟨its,rv,p,hz⟩:=G1.inv.list (SqL.of z)
  refine wpAny_pyIter_list p.isList ?_
  refine⟨s1.heap.objs.size,[s1.heap.objs.size],_,_,H1,rfl,G1.inv.kept (t':=s1.toks) fun b o e=>Heap.get?_push_of_some _ e,X2 a _,⟨_,Heap.get?_push_size _ rfl,rfl,rfl⟩,fun b hb=>?_,af1 _ _ P1 α1 G1.rel G1.same G1.pre (NJ ha)⟩
  have e:b=s1.heap.objs.size:=by simpa using hb
  subst e
  exact G1.inv.fpOk (Nat.le_refl _) (G1.inv.hok.fresh (Nat.le_refl _))
 |_=>exact False.elim af1
end
end _D
end
section
namespace _D
open PySem PySem.Spec PyProof.Rows _L
def vO (elt:Expr)(gens:List Comprehension)(scope:Scope)(pos:Pos)(k:Nat)(acc:Value)(env:Env):Sem Unit:=
 match gens[k+1]? with
 |some g'=>do
  let x ← eval g'.iter env
  standAt g'.iter.pos
  let x ← foldedSetIterable g'.iter env x
  let it ← holding [x] (pyIter x)
  let _ ← runOwn (.compStart (.ListComp elt gens scope pos) (k+1) it acc env) env
 |none=>do let _ ← call (.builtin "list.append") [acc,← eval elt env]
theorem ME (elt target iter:Expr)(ifs:List Expr)(gens:List Comprehension)(scope:Scope)(pos:Pos)(it acc:Value)(env:Env)(k:Nat)(hg:gens[k]? = some ⟨target,iter,ifs,0⟩)(ha:∀ g',gens[k+1]? = some g'→g'.is_async=0) :
  compTurn (.ListComp elt gens scope pos) k it acc env=(do
   standAt iter.pos
   match ← pyNext it with
   |none=>pure (.done .next)
   |some v =>
    letOwnedTupleGo target it v
    assign target env v
    let mut ok:=true
    for c in ifs do
     if ok then ok ← isTrue c env (eval c env)
    if ok then vO elt gens scope pos k acc env
    again (.compLoop (.ListComp elt gens scope pos) k it acc env)):=by
 unfold compTurn vO
 simp only[hg]
 cases q:gens[k+1]? with
 |none=>rfl
 |some g' =>
  have h0:=ha g' q
  have e0:(g'.is_async != 0)=false:=by rw[h0];rfl
  simp only[e0,Bool.false_eq_true,if_false,bind_assoc,pure_bind]
  rfl
abbrev DK:=qG→Sto→List D→Res (qG × List D)
noncomputable def goL (o:Option (Nat × MO))(g:DG)(t:DT)(k:DK):List D→DK
 |[],env,S,acc=>if QX o S then .ok (env,acc) S else .bad
 |d::ds,env,S,acc=>if QX o S then (g d env S).bind fun env1 S1=>(t env1 S1).bind fun b S2 =>
   if b then (k env1 S2 acc).bind fun p S3=>goL o g t k ds p.1 S3 p.2 else goL o g t k ds env1 S2 acc
  else .bad
def zR (fe:DE):DK:=fun env S acc=>(fe env S).bind fun x S1=>if acc.length<lim then .ok (env,acc++[x]) S1 else .bad
def MJ (Y:Cx)(pins:List (Addr × Obj))(P1:Hp)(α1:List Addr)(acc:Addr)(env:qG)(S:Sto)(ds:List D)(s:Shared):Prop:=
 ∃ σ H P α o,TurnSt Y pins P1 α1 [] acc env S ds s σ H P α o
def PK (Y:Cx)(step:Value→Sem Unit)(k:DK):Prop:=
 ∀ (pins:List (Addr × Obj)) (P1:Hp) (α1:List Addr) (acc:Addr) (env env':qG) (S S':Sto) (ds ds':List D) (s:Shared),(∀ H:Hp,H acc=none→yX Y pins H acc)→MJ Y pins P1 α1 acc env S ds s→k env S ds=.ok (env',ds') S' →
  wpAny (model Y.prog Y.w) Y.A (step (.ref acc)) (fun _ s'=>MJ Y pins P1 α1 acc env' S' ds' s') (fun _ _=>False) s
section
variable {Y:Cx}{elt tg iter:Expr}{ifs:List Expr}{gens:List Comprehension}{scope:Scope}{pos:Pos}{k:Nat}{g:DG}{t:DT}{fe:DE}{it acc:Addr}{fp:List Addr}{J:It}{tn:Nat→Heap→Prop}{items:List D}{P1:Hp}{α1:List Addr}{pins:List (Addr × Obj)}
theorem GK {X:Cx}{pins:List (Addr × Obj)}{H:Hp}{b:Addr}{fp:List Addr}{h:Heap}(f:yX X pins H b)(hn:b ∉ fp):yX X (pins++gV fp h) H b:=by
 obtain⟨f0,f1,f2,f3,f4,f5⟩:=f
 refine⟨f0,f1,f2,f3,f4,fun p hp=>?_⟩
 rcases List.mem_append.mp hp with z|z
 ·exact f5 p (List.mem_append_left _ z)
 ·rcases List.mem_append.mp z with z|z
  ·exact f5 p (List.mem_append_right _ z)
  ·rintro rfl
   exact hn (ZO z).1
theorem Res.bind_inv {β γ:Type}{r:Res β}{f:β→Sto→Res γ}{x:γ}{S:Sto}(h:r.bind f=.ok x S):∃ b S1,r=.ok b S1∧f b S1=.ok x S:=by
 cases r with
 |ok b S1=>exact⟨b,S1,rfl,h⟩
 |_=>cases h
inductive GoC (o:Option (Nat × MO))(g:DG)(t:DT)(k:DK)(d:D)(ds acc:List D)(env:qG)(S SF:Sto)(x:qG × List D):Prop
 |no (env1:qG) (S1 S2:Sto) (z:stn o S) (q1:g d env S=.ok env1 S1) (q2:t env1 S1=.ok false S2) (r:goL o g t k ds env1 S2 acc=.ok x SF):GoC o g t k d ds acc env S SF x
 |yes (env1:qG) (S1 S2:Sto) (env5:qG) (ds5:List D) (S5:Sto) (z:stn o S) (q1:g d env S=.ok env1 S1) (q2:t env1 S1=.ok true S2) (q3:k env1 S2 acc=.ok (env5,ds5) S5) (r:goL o g t k ds env5 S5 ds5=.ok x SF):GoC o g t k d ds acc env S SF x
set_option tactic.hygienic true in
theorem FH {o:Option (Nat × MO)}{g:DG}{t:DT}{k:DK}{d:D}{ds acc:List D}{env:qG}{S SF:Sto}{x:qG × List D}(h:goL o g t k (d::ds) env S acc=.ok x SF):GoC o g t k d ds acc env S SF x:=by
 simp only[goL] at h
 split at h
 ·rename_i z
  obtain⟨env1,S1,q1,h⟩:=Res.bind_inv h
  obtain⟨b,S2,q2,h⟩:=Res.bind_inv h
  cases b with
  |false=>exact .no env1 S1 S2 (uR.mp z) q1 q2 h
  |true =>
   obtain⟨⟨env5,ds5⟩,S5,q3,h⟩:=Res.bind_inv h
   exact .yes env1 S1 S2 env5 ds5 S5 (uR.mp z) q1 q2 q3 h
 ·cases h
set_option tactic.hygienic true in
theorem NF {o:Option (Nat × MO)}{g:DG}{t:DT}{k:DK}{acc dsF:List D}{env envF:qG}{S SF:Sto}(h:goL o g t k [] env S acc=.ok (envF,dsF) SF):stn o S∧env=envF∧acc=dsF∧S=SF:=by
 simp only[goL] at h
 split at h
 ·rename_i z
  cases h
  exact⟨uR.mp z,rfl,rfl,rfl⟩
 ·cases h
inductive LpI (Y:Cx)(pins:List (Addr × Obj))(P1:Hp)(α1:List Addr)(fp:List Addr)(acc:Addr)(tn:Nat→Heap→Prop)(G:List D→DK)(items:List D)(x:qG × List D)(SF:Sto)(n:Nat)(s:Shared):Prop
 |mk (i:Nat) (σ : _L.St) (H P:Hp) (α : List Addr) (o:Obj) (env:qG) (S:Sto) (ds:List D) (hn:n=items.length-i) (hi:i≤items.length) (st:TurnSt Y pins P1 α1 fp acc env S ds s σ H P α o) (st1:tn i s.heap) (run:G (items.drop i) env S ds=.ok x SF):LpI Y pins P1 α1 fp acc tn G items x SF n s
theorem LV {M:Model}{A:Around}{Q:Fin→Shared→Prop}{Qa Qd:Shared→Prop}{E:Value→Shared→Prop}{s:Shared}{it acc:Value}{en:Env}(hgk:gens[k]? = some ⟨tg,iter,ifs,0⟩)(has:∀ g',gens[k+1]? = some g'→g'.is_async=0)
  (ha:∀ s,Qa s→Q (.again (.compLoop (.ListComp elt gens scope pos) k it acc en)) s) (hd:∀ s,Qd s→Q (.done .next) s)
  (h:wpAny M A (pyNext it) (fun r s1=>(r=none→Qd s1)∧∀ v,r=some v→wpAny M A (letOwnedTupleGo tg it v) (fun _ s2=>wpAny M A (assign tg en v) (fun _ s3=>wpAny M A (lN ifs en) (fun b s4=>(b=false→Qa s4)∧(b=true→wpAny M A (vO elt gens scope pos k acc en) (fun _ s5=>Qa s5) E s4)) E s3) E s2) E s1) E s) :
  wpAny M A (compTurn (.ListComp elt gens scope pos) k it acc en) Q E s:=by
 rw[ME elt tg iter ifs gens scope pos it acc en k hgk has]
 refine wpAny_bind (wpAny_standAt (wpAny_bind (thn h fun r s1 ⟨h0,h1⟩=>?_)))
 cases r with
 |none=>exact wpAny_pure (hd _ (h0 rfl))
 |some v =>
  refine wpAny_bind (thn (h1 v rfl) fun _ s2 h2=>wpAny_bind (thn h2 fun _ s3 h3=>wpAny_bind (thn h3 fun b s4 h4=>?_)))
  cases b with
  |false=>exact wpAny_pure (ha _ (h4.1 rfl))
  |true=>exact wpAny_bind (thn (h4.2 rfl) fun _ s5 h5=>wpAny_pure (ha _ h5))
theorem ND (hfp:∀ H:Hp,(∀ b∈fp,H b=none)→∀ b∈fp,yX Y pins H b)(hne:acc ∉ fp)(o:Obj)(H':Hp)(hn:∀ b∈fp,H' b=none):∀ b∈fp,yX Y (pins++[(acc,o)]) H' b:=fun b hb=>by
 obtain⟨f0,f1,f2,f3,f4,f5⟩:=hfp H' hn b hb
 refine⟨f0,f1,f2,f3,f4,fun p hp=>?_⟩
 rcases List.mem_append.mp hp with z|z
 ·exact f5 p (List.mem_append_left _ z)
 ·rcases List.mem_append.mp z with z|z
  ·exact f5 p (List.mem_append_right _ z)
  ·rw[List.mem_singleton.mp z]
   rintro rfl
   exact hne hb
theorem tQ {i:Nat}{h:Heap}(T:Turn Y.prog Y.w Y.K tg J fp it tn)(st2:tn (i+1) h)(pl:∀ b∈fp,∃ o,h.get? b=some o∧∀ v,o.data≠.cell v){s5:Shared}{σ5:_L.St}{H5:Hp}(I5:Inv Y (pins++gV fp h) σ5 H5 s5):tn (i+1) s5.heap∧(∀ b∈fp,H5 b=none):=by
 refine⟨T.keep _ _ _ st2 fun b hb o' e=>(I5.pin (b,o') (List.mem_append_right _ (List.mem_append_right _ (fN hb e)))).1,fun b hb=>?_⟩
 obtain⟨o',e,d'⟩:=pl b hb
 exact(I5.pin (b,o') (List.mem_append_right _ (List.mem_append_right _ (fN hb e)))).2.1
theorem JS {o':Option (Nat × MO)}{kk:DK}{Qa Qd:Shared→Prop}{E:Value→Shared→Prop}{s:Shared}{σ : _L.St}{H P:Hp}{α : List Addr}{env envF:qG}{S SF:Sto}{ds dsF:List D}{o:Obj}{i:Nat}(hc:Y.calm=true)(hx:Y.xe=fun _ _=>False)
  (T:Turn Y.prog Y.w Y.K tg J fp it tn) (hit:ItD2 Y.K J P1 α1 o' items) (hg:PG Y tg (tDG Y g)) (ht:PTs Y ifs t) (he:PK Y (fun acc=>vO elt gens scope pos k acc Y.env) kk) (hacc:∀ H:Hp,H acc=none→yX Y pins H acc) (hfp:∀ H:Hp,(∀ b∈fp,H b=none)→∀ b∈fp,yX Y pins H b) (hne:acc ∉ fp)
  (hi:i≤items.length) (st:TurnSt Y pins P1 α1 fp acc env S ds s σ H P α o) (st1:tn i s.heap) (run:goL o' g t kk (items.drop i) env S ds=.ok (envF,dsF) SF)
  (hA:∀ s' σ' H' P' α' o1 env1 S' ds',i<items.length→TurnSt Y pins P1 α1 fp acc env1 S' ds' s' σ' H' P' α' o1→tn (i+1) s'.heap→goL o' g t kk (items.drop (i+1)) env1 S' ds'=.ok (envF,dsF) SF→Qa s')
  (hD:∀ s' σ' H' P' α' o',TurnSt Y pins P1 α1 fp acc envF SF dsF s' σ' H' P' α' o'→Qd s') :
  wpAny (model Y.prog Y.w) Y.A (pyNext (.ref it)) (fun r s1=>(r=none→Qd s1)∧∀ v,r=some v→wpAny (model Y.prog Y.w) Y.A (letOwnedTupleGo tg (.ref it) v) (fun _ s2=>wpAny (model Y.prog Y.w) Y.A (assign tg Y.env v) (fun _ s3=>wpAny (model Y.prog Y.w) Y.A (lN ifs Y.env) (fun b s4=>(b=false→Qa s4)∧(b=true→wpAny (model Y.prog Y.w) Y.A (vO elt gens scope pos k (.ref acc) Y.env) (fun _ s5=>Qa s5) E s4)) E s3) E s2) E s1) E s:=by
 have I1:=_D.Inv.pin1 st.inv (hacc H st.acn) st.at' st.acc.cell
 have fp1:=ND hfp hne o
 by_cases hlt:i<items.length
 ·have hdr:items.drop i=items[i]::items.drop (i+1):=List.drop_eq_getElem_cons hlt
  rw[hdr] at run
  have run:=FH run
  have hst:stn o' S:=by cases run with|no _ _ _ z=>exact z|yes _ _ _ _ _ _ z=>exact z
  refine aV (T.item Y rfl rfl rfl hc i _ s σ H (fun _ _=>False) I1 (fp1 H st.fpn) st1 (hit.go i H P α S hlt st.rel hst st.same st.pre)) fun r s1 ⟨u,hr,h1⟩=>⟨fun z=>(by rw[hr] at z;cases z),fun v hv=>?_⟩
  obtain rfl:v=u:=Option.some.inj (hv.symm.trans hr)
  refine aV h1 fun _ s2 ⟨x,H2,I2,rx,y,st2,fr2⟩=>?_
  obtain⟨P2,d,hd,r2,e2,rp⟩:=hit.yld i H x H2 P α S hlt st.rel hst st.same st.pre y
  cases (List.getElem?_eq_getElem hlt).symm.trans hd
  have pl:=T.obj _ _ st2
  have I2':=I2.pinned (fp1 _ fr2) pl
  have two:∀ env1 S1 b S2,g items[i] env S=.ok env1 S1→t env1 S1=.ok b S2→(∀ s4 σ3 H4 P4 α4 (I4:Inv Y (pins++gV fp s2.heap) σ3 H4 s4),TurnSt Y pins P1 α1 fp acc env1 S2 ds s4 σ3 H4 P4 α4 o→tn (i+1) s4.heap→(b=false→Qa s4)∧(b=true→wpAny (model Y.prog Y.w) Y.A (vO elt gens scope pos k (.ref acc) Y.env) (fun _ s5=>Qa s5) E s4))→wpAny (model Y.prog Y.w) Y.A (assign tg Y.env v) (fun _ s3=>wpAny (model Y.prog Y.w) Y.A (lN ifs Y.env) (fun b s4=>(b=false→Qa s4)∧(b=true→wpAny (model Y.prog Y.w) Y.A (vO elt gens scope pos k (.ref acc) Y.env) (fun _ s5=>Qa s5) E s4)) E s3) E s2:=by
   intro env1 S1 b S2 q1 q2 next
   refine aV (hx▸AN hg I2' r2 (st.env.mono e2 (List.prefix_refl _)) rx rp q1) fun _ s3 ⟨σ3,H3,P3,α3,I3,r3,re3,e3,e3'⟩=>?_
   refine aV (hx▸CC ht I3 r3 re3 q2) fun b' s4 ⟨hb,H4,P4,α4,I4,r4,re4,e4,e4'⟩=>?_
   have I4':Inv Y (pins++gV fp s2.heap) σ3 H4 s4:=I4.pins_of fun p hp=>I4.pin p (List.mem_append_right _ ((List.mem_append.mp hp).elim (fun z=>List.mem_append_left _ (List.mem_append_left _ z)) fun z=>List.mem_append_right _ z))
   have a4:=I4.pin (acc,o) (List.mem_append_right _ (List.mem_append_left _ (List.mem_append_right _ (List.mem_singleton.mpr rfl))))
   rw[hb]
   exact next s4 σ3 H4 P4 α4 I4' ⟨I4'.unpinned,r4,re4,((st.same.trans e2).trans e3).trans e4,(st.pre.trans e3').trans e4',(tQ T st2 pl I4').2,a4.2.1,a4.1,st.acc.mono ((e2.trans e3).trans e4) (e3'.trans e4')⟩ (tQ T st2 pl I4').1
  cases run with
  |no env1 S1 S2 _ q1 q2 run=>exact two env1 S1 false S2 q1 q2 fun s4 σ3 H4 P4 α4 I4 st4 tn4=>⟨fun _=>hA s4 σ3 H4 P4 α4 o env1 S2 ds hlt st4 tn4 run,fun z=>(by cases z)⟩
  |yes env1 S1 S2 env5 ds5 S5 _ q1 q2 q3 run =>
   refine two env1 S1 true S2 q1 q2 fun s4 σ3 H4 P4 α4 I4 st4 tn4=>⟨fun z=>(by cases z),fun _=>?_⟩
   refine aV (he (pins++gV fp s2.heap) P1 α1 acc env1 env5 S2 S5 ds ds5 s4 (fun H hn=>GK (hacc H hn) hne) ⟨σ3,H4,P4,α4,o,I4,st4.rel,st4.env,st4.same,st4.pre,fun b hb=>(by cases hb),st4.acn,st4.at',st4.acc⟩ q3) fun _ s5 ⟨σ5,H5,P5,α5,o5,T5⟩=>?_
   exact hA s5 σ5 H5 P5 α5 o5 env5 S5 ds5 hlt ⟨T5.inv.unpinned,T5.rel,T5.env,T5.same,T5.pre,(tQ T st2 pl T5.inv).2,T5.acn,T5.at',T5.acc⟩ (tQ T st2 pl T5.inv).1 run
 ·rw[List.drop_eq_nil_of_le (by omega)] at run
  obtain⟨z,rfl,rfl,rfl⟩:=NF run
  refine aV (T.done Y rfl rfl rfl hc i _ s σ H (fun _ _=>False) I1 (fp1 H st.fpn) st1 (hit.stop i H P α _ (by omega) st.rel z st.same st.pre)) fun r s1 ⟨hr,I2⟩=>⟨fun _=>?_,fun v hv=>(by rw[hr] at hv;cases hv)⟩
  have a:=_D.Inv.pinned1 I2
  exact hD s1 σ H P α o ⟨I2.unpinned,st.rel,st.env,st.same,st.pre,st.fpn,a.2,a.1,st.acc⟩
theorem JR {o':Option (Nat × MO)}{kk:DK}{R:Result→Shared→Prop}{s:Shared}{σ : _L.St}{H P:Hp}{α : List Addr}{env envF:qG}{S SF:Sto}{ds0 dsF:List D}{o:Obj}(hc:Y.calm=true)(hx:Y.xe=fun _ _=>False)(hgk:gens[k]? = some ⟨tg,iter,ifs,0⟩)(has:∀ g',gens[k+1]? = some g'→g'.is_async=0)
  (T:Turn Y.prog Y.w Y.K tg J fp it tn) (hit:ItD2 Y.K J P1 α1 o' items) (hg:PG Y tg (tDG Y g)) (ht:PTs Y ifs t) (he:PK Y (fun acc=>vO elt gens scope pos k acc Y.env) kk) (hacc:∀ H:Hp,H acc=none→yX Y pins H acc) (hfp:∀ H:Hp,(∀ b∈fp,H b=none)→∀ b∈fp,yX Y pins H b) (hne:acc ∉ fp)
  (st:TurnSt Y pins P1 α1 fp acc env S ds0 s σ H P α o) (st0:tn 0 s.heap) (run:goL o' g t kk items env S ds0=.ok (envF,dsF) SF)
  (hR:∀ s' σ' H' P' α' o',TurnSt Y pins P1 α1 fp acc envF SF dsF s' σ' H' P' α' o'→R (.ok .next) s') :
  codeAny (model Y.prog Y.w) Y.A (.compLoop (.ListComp elt gens scope pos) k (.ref it) (.ref acc) Y.env) R s:=by
 refine codeAny_loop rfl (LpI Y pins P1 α1 fp acc tn (goL o' g t kk) items (envF,dsF) SF) (fun n s hI=>?_) items.length ⟨0,σ,H,P,α,o,env,S,ds0,rfl,Nat.zero_le _,st,st0,run⟩
 obtain⟨i,σ,H,P,α,o,env,S,ds,hn,hi,st,st1,run⟩:=hI
 subst hn
 refine wpAny_noted (LV hgk has (Qa:=fun s'=>∃ m,m<items.length-i∧LpI Y pins P1 α1 fp acc tn (goL o' g t kk) items (envF,dsF) SF m s') (Qd:=R (.ok .next)) (fun _ h=>⟨rfl,h⟩) (fun _ h=>h) ?_)
 exact JS hc hx T hit hg ht he hacc hfp hne hi st st1 run (fun s' σ' H' P' α' o1 env1 S' ds' hlt st' tn' run'=>⟨_,Nat.sub_succ_lt_self _ _ hlt,i+1,σ',H',P',α',o1,env1,S',ds',rfl,hlt,st',tn',run'⟩) hR
set_option tactic.hygienic true in
theorem LG (hx:Y.xe=fun _ _=>False)(hlast:gens[k+1]? = none)(he:PE Y elt (tD Y fe)):PK Y (fun acc=>vO elt gens scope pos k acc Y.env) (zR fe):=by
 intro pins P1 α1 acc env env' S S' ds ds' s hacc ⟨σ,H,P,α,o,st⟩ run
 show wpAny _ _ (vO elt gens scope pos k (.ref acc) Y.env) _ _ s
 unfold vO
 rw[hlast]
 dsimp only
 unfold zR at run
 cases q3:fe env S with
 |bad=>rw[q3] at run;cases run
 |ex c z S'=>rw[q3] at run;cases run
 |ok d5 S5 =>
  rw[q3,Res.bind_ok] at run
  split at run
  ·rename_i hlen
   cases run
   have fA:=hacc H st.acn
   have I1:=_D.Inv.pin1 st.inv fA st.at' st.acc.cell
   refine wpAny_bind (aV (hx▸AM he I1 st.rel st.env q3) fun u5 s5 ⟨v5,H5,P5,α5,G5⟩=>?_)
   have J:=_D.Inv.pinned1 G5.inv
   have J1:=G5.inv.unpinned
   obtain⟨J4,J5⟩:=J
   obtain⟨its,n5,vs,ho,rvs,rps,hz⟩:=st.acc
   subst ho
   have hlen':vs.length=ds.length:=rps.length.symm
   have hl2:=rvs.length
   refine wpAny_bind (call_meets F.slot_list_append ⟨_,J4,rfl⟩ F.entry_list_append (F.args_list_append_2 _ _) (PySem.list_append acc its.toArray n5 u5 (by rw[List.size_toArray];rw[← vL];omega)) ⟨J4,?_⟩)
   have q:=PySem.IsL.update J4 (·.push u5)
   have fA5:=hacc H5 J5
   have keep:∀ b o,b≠acc→s5.heap.get? b=some o→(s5.heap.update acc (Obj.mapSeq (·.push u5))).get? b=some o:=fun b o hb e=>(Heap.get?_update_other s5.heap _ (Ne.symm hb)).trans e
   have I6:=J1.turned (t':=s5.toks) keep J5 fA5.2.1 fA5.2.2.2.1 fA5.2.2.2.2.1 fA5.2.2.2.2.2
   refine wpAny_pure ⟨σ,H5,P5,α5,_,I6,G5.rel,G5.env,st.same.trans G5.same,st.pre.trans G5.pre,fun b hb=>(by simp at hb),J5,q,?_⟩
   refine⟨its++[u5],_,vs++[v5],by simp <;> rfl,rvs.append (.cons G5.val .nil),?_,by simp;omega⟩
   exact(qI.mono G5.same G5.pre _ _ rps).append (.cons G5.rep .nil)
  ·cases run
end
end _D
end
section
namespace _D
open PySem PySem.Spec PyProof.Rows _L
def mkM (m:Bool)(r:Res (qG × List D)):Res D:=match r with
 |.ok p S2=>if m then .ok (.loc S2.length) (S2++[.lst p.2]) else .ok (.lst p.2) S2
 |_=>.bad
noncomputable def zP (m:Bool)(cap:List (Option Nat))(fi:DI2)(g:DG)(t:DT)(k:DK):DE:=fun env S=>(fi env S).bind fun p S1=>mkM m (goL p.1 g t k p.2 (vN cap env) S1 [])
section
variable {X:Cx}{elt tg iter:Expr}{ifs:List Expr}{scope:Scope}{pos:Pos}{N':List Str}{cap:List (Option Nat)}{fi:DI2}{g:DG}{t:DT}{kk:DK}{rest:List Comprehension}{mm:Bool}
theorem P9 {P:Hp}{α : List Addr}{r:Res (qG × List D)}{Ok:D→Sto→Prop}(h:qN X P α (mkM mm r) Ok):∃ envF ds SF,r=.ok (envF,ds) SF∧(if mm then Ok (.loc SF.length) (SF++[.lst ds]) else Ok (.lst ds) SF):=by
 cases r with
 |ok p S =>
  obtain⟨envF,ds⟩:=p
  refine⟨envF,ds,S,rfl,?_⟩
  cases mm <;> exact h
 |ex c x S=>exact False.elim h
 |bad=>exact False.elim h
theorem FE {pins:List (Addr × Obj)}{σ : _L.St}{P1:Hp}{α1:List Addr}{ds:List D}{SF:Sto}{acc C:Addr}{s:Shared}{Q:VK}(c:eE X pins σ P1 α1 ds SF acc C s)(ok:if mm then OkV X P1 α1 Q (.loc SF.length) (SF++[.lst ds]) else OkV X P1 α1 Q (.lst ds) SF):EP X pins σ Q (.ref acc) s:=by
 cases mm with
 |false=>exact NA c ok
 |true =>
  obtain⟨H',P',α',vs,I,r,hn,e1,e2,rp,_⟩:=c
  exact⟨.ref acc,_,I,rfl,UZ r hn rp fun v H2 P2 α2 r2 q1 q2 q3=>ok v H2 P2 α2 r2 (e1.trans q1) (e2.trans q2) q3⟩
theorem cH {o':Option (Nat × MO)}{kk:DK}{pins:List (Addr × Obj)}{σ : _L.St}{H2 P1:Hp}{α1:List Addr}{s2:Shared}{S1 SF:Sto}{env envF:qG}{ds items:List D}{it:Addr}{fp:List Addr}{tn:Nat→Heap→Prop}{J:It}{E:Value→Shared→Prop}{RR:Value→Addr→Result→Shared→Prop}{rest:List Comprehension}
  (hc:X.calm=true) (S:CompSc X.env.scope X.N scope N' cap) (has:∀ g',(⟨tg,iter,ifs,0⟩::rest:List Comprehension)[0+1]? = some g'→g'.is_async=0)
  (hg:∀ cl C ex s₀ H₀,PG (zV X N' scope cl C ex s₀ H₀) tg (tDG (zV X N' scope cl C ex s₀ H₀) g))
  (ht:∀ cl C ex s₀ H₀,PTs (zV X N' scope cl C ex s₀ H₀) ifs t) (he:∀ cl C ex s₀ H₀,PK (zV X N' scope cl C ex s₀ H₀) (fun acc=>vO elt (⟨tg,iter,ifs,0⟩::rest) scope pos 0 acc (zV X N' scope cl C ex s₀ H₀).env) kk)
  (I2:Inv X pins σ H2 s2) (r:Rel X.K H2 P1 α1 S1) (re:xC X.K P1 α1 σ env) (T:Turn X.prog X.w X.K tg J fp it tn) (st0:tn 0 s2.heap) (hf:∀ b∈fp,yX X pins H2 b) (hit:ItD2 X.K J P1 α1 o' items) (run:goL o' g t kk items (vN cap env) S1 [] = .ok (envF,ds) SF)
  (hRR:∀ acc C s',s2.heap.objs.size≤acc→(∃ m,s'.heap.Ns C m)→s2.heap.objs.size≤C→acc≠C→(∀ h',Heap.SameBut C s'.heap h'→eE X pins σ P1 α1 ds SF acc C { s' with heap:=h' }) → RR (.ref acc) C (.ok .next) s') :
  wpAny (model X.prog X.w) X.A (newList []) (fun acc s₃=>wpAny (model X.prog X.w) X.A (newFunctionEnv scope X.env.globals (uK X.env.cells scope.names []) [] X.env.qual none .none (some X.env)) (fun cenv s₄ =>
   codeAny (model X.prog X.w) X.A (.compStart (.ListComp elt (⟨tg,iter,ifs,0⟩::rest) scope pos) 0 (.ref it) acc { cenv with scope:=relabel scope X.env }) (RR acc cenv.locals) s₄) E s₃) E s2:=by
 have hlt:∀ b∈fp,b<s2.heap.objs.size:=fun b hb=>by
  obtain⟨o,e,_⟩:=T.obj 0 _ st0 b hb
  exact Heap.lt_size e
 refine wpAny_newObj_type (wpAny_newFunctionEnv S.nocell (by intro y hy;simp at hy) (fun h₁ hns₁ hsb₁=>?_) S.kind)
 dsimp only at hns₁ hsb₁ ⊢
 generalize hH2:s2.heap.push { cls:=.type "list",dict:=none,data:=.seq ([] : List Value).toArray } = Hh at hns₁ hsb₁ ⊢
 have hsz:Hh.objs.size=s2.heap.objs.size+1:=by rw[← hH2,Heap.size_push]
 have hC:s2.heap.objs.size≤Hh.objs.size:=by rw[hsz];exact Nat.le_succ _
 have hne:s2.heap.objs.size≠Hh.objs.size:=by rw[hsz];exact Nat.ne_of_lt (Nat.lt_succ_self _)
 have keep:∀ b o,s2.heap.get? b=some o→h₁.get? b=some o:=fun b o e=>by
  have hb:b≠Hh.objs.size:=by rw[hsz];exact Nat.ne_of_lt (Nat.lt_succ_of_lt (Heap.lt_size e))
  exact hsb₁.extBut b o hb (Heap.get?_push_of_some _ (hH2▸Heap.get?_push_of_some _ e))
 have hacc:h₁.get? s2.heap.objs.size=some { cls:=.type "list",data:=.seq ([] : List Value).toArray }:=hsb₁.extBut _ _ hne (Heap.get?_push_of_some _ (hH2▸Heap.get?_push_size _ rfl))
 have I4:∀ tk,Inv (zV X N' scope (uK X.env.cells scope.names []) Hh.objs.size fp s2 H2) [] (p9 cap σ) H2 { s2 with heap:=h₁,toks:=tk }:=fun tk =>
  BY (s4:={ s2 with heap:=h₁,toks:=tk }) S I2 hf hlt hC hns₁ rfl rfl keep
 have loop:∀ tk,codeAny (model X.prog X.w) X.A (.compLoop (.ListComp elt (⟨tg,iter,ifs,0⟩::rest) scope pos) 0 (.ref it) (.ref s2.heap.objs.size) (compEnvC scope (uK X.env.cells scope.names []) Hh.objs.size X.env)) (RR (.ref s2.heap.objs.size) Hh.objs.size) { s2 with heap:=h₁,toks:=tk }:=fun tk=>by
  refine JR (kk:=kk) (o':=o') (Y:=zV X N' scope (uK X.env.cells scope.names []) Hh.objs.size fp s2 H2) (pins:=[]) (fp:=fp) (acc:=s2.heap.objs.size) (P1:=P1) (α1:=α1) (σ:=p9 cap σ) (H:=H2) (P:=P1) (α:=α1) (o:={ cls:=.type "list",data:=.seq ([] : List Value).toArray }) hc rfl rfl has T hit
   (hg _ _ _ _ _) (ht _ _ _ _ _) (he _ _ _ _ _) (fun H hn=>?_) (fun H hn b hb=>?_) (fun hm=>Nat.lt_irrefl _ (hlt _ hm)) ⟨I4 tk,r,B1 re cap,qL.refl _,List.prefix_refl _,fun b hb=>(hf b hb).1,I2.hok.fresh (Nat.le_refl _),hacc,⟨[],0,[],rfl,.nil,.nil,Nat.zero_le _⟩⟩ (T.keep _ _ _ st0 fun b hb o e=>keep b o e) run fun s' σ' H' P' α' o' st=>?_
  ·refine⟨hn,hne,fun hm=>?_,.inr (Nat.le_refl _),fun x c h z=>?_,fun p hp=>absurd (show p∈([]:List (Addr × Obj)) from hp) (by simp)⟩
   ·obtain⟨_,o,ho,_⟩:=I2.stack.mem hm
    exact Nat.lt_irrefl _ (Heap.lt_size ho)
   ·obtain⟨v,ob,hob,_⟩:=I2.cell x c (vK S I2.ok h)
    rw[z] at hob
    exact Nat.lt_irrefl _ (Heap.lt_size hob)
  ·obtain⟨_,h1,h2,h3,h4,h5⟩:=hf b hb
   refine⟨hn b hb,Nat.ne_of_lt (Nat.lt_of_lt_of_le (hlt b hb) hC),fun hm=>?_,.inl hb,fun x c h=>h4 x c (vK S I2.ok h),fun p hp=>absurd (show p∈([]:List (Addr × Obj)) from hp) (by simp)⟩
   rcases List.mem_cons.mp (I2.stkSub b hm) with z|z
   ·exact h1 z
   ·exact h2 z
  ·obtain⟨m,hm,_⟩:=st.inv.loc
   exact hRR _ _ s' (Nat.le_refl _) ⟨m,hm⟩ hC hne fun h' sb=>BX I2 hf rfl hC (Nat.le_refl _) hne st sb
 exact codeAny_compStart_list (loop _) (T.self X.A 0 _ _ _ (T.keep _ _ _ st0 fun b hb o e=>keep b o e) (loop _))
theorem F6 (hc:X.calm=true)(S:CompSc X.env.scope X.N scope N' cap)(hi:PI X tg iter (tDI2 X fi))
  (hg:∀ cl C ex s₀ H₀,PG (zV X N' scope cl C ex s₀ H₀) tg (tDG (zV X N' scope cl C ex s₀ H₀) g))
  (ht:∀ cl C ex s₀ H₀,PTs (zV X N' scope cl C ex s₀ H₀) ifs t) (has:∀ g',(⟨tg,iter,ifs,0⟩::rest:List Comprehension)[0+1]? = some g'→g'.is_async=0) (he:∀ cl C ex s₀ H₀,PK (zV X N' scope cl C ex s₀ H₀) (fun acc=>vO elt (⟨tg,iter,ifs,0⟩::rest) scope pos 0 acc (zV X N' scope cl C ex s₀ H₀).env) kk)
  (hs:∀ x,foldedSetIterable iter X.env x=pure x:=by intro _;rfl):PE X (.ListComp elt (⟨tg,iter,ifs,0⟩::rest) scope pos) (tD X (zP mm cap fi g t kk)):=by
 intro pins s σ H Q I h
 obtain⟨P,α,env,S0,r,re,af⟩:=h
 rw[eval_ListComp]
 have af':qN X P α ((fi env S0).bind fun p S1=>mkM mm (goL p.1 g t kk p.2 (vN cap env) S1 [])) (OkV X P α Q):=af
 refine wpAny_comprehension_free (use:=none) rfl hs (UD S I.ok) S.kind S.names ?_
 refine thn (hi pins s σ H (fun J H1=>∃ (P1:Hp) (α1:List Addr) (p:Option (Nat × MO) × List _D.D) (S1:Sto),Rel X.K H1 P1 α1 S1∧qL P P1∧α<+:α1∧ItD2 X.K J P1 α1 p.1 p.2∧qN X P α (mkM mm (goL p.1 g t kk p.2 (vN cap env) S1 [])) (OkV X P α Q)) I ⟨P,α,env,S0,r,re,?_⟩) fun xv s1 h1=>thn h1 fun itv s2 h2=>?_
 ·cases q:fi env S0 with
  |bad=>rw[q] at af';exact af'
  |ex c x S'=>rw[q] at af';exact af'
  |ok p S1=>rw[q] at af';exact fun J H1 P1 α1 r1 e1 e2 it=>⟨P1,α1,p,S1,r1,e1,e2,it,af'⟩
 obtain⟨it,fp,tn,J,H2,rfl,I2,T,st0,hf,P1,α1,p,S1,r1,e1,e2,hit,af1⟩:=h2
 obtain⟨envF,ds,SF,run,ok⟩:=P9 af1
 refine cH (RR:=fun acc C=>compPost (model X.prog X.w) X.A X.xe none (EP X pins σ Q) acc C) hc S has hg ht he I2 r1 (re.mono e1 e2) T st0 hf hit run ?_
 intro acc C s' hA ⟨m,hm⟩ hC hne fin
 refine⟨m,hm,fun h' sb=>FE (mm:=mm) (fin h' sb) ?_⟩
 cases mm with
 |false=>exact fun v H3 P3 α3 r3 q1 q2 q3=>ok v H3 P3 α3 r3 (e1.trans q1) (e2.trans q2) q3
 |true=>exact fun v H3 P3 α3 r3 q1 q2 q3=>ok v H3 P3 α3 r3 (e1.trans q1) (e2.trans q2) q3
theorem FC {i:Nat}{y:Str}{py spos:Pos}(hc:X.calm=true)(hN:X.N.Nodup)(S:CompSc X.env.scope X.N scope N' cap)(hi:PI X tg iter (tDI2 X fi))
  (hg:∀ cl C ex s₀ H₀,PG (zV X N' scope cl C ex s₀ H₀) tg (tDG (zV X N' scope cl C ex s₀ H₀) g))
  (ht:∀ cl C ex s₀ H₀,PTs (zV X N' scope cl C ex s₀ H₀) ifs t) (has:∀ g',(⟨tg,iter,ifs,0⟩::rest:List Comprehension)[0+1]? = some g'→g'.is_async=0) (he:∀ cl C ex s₀ H₀,PK (zV X N' scope cl C ex s₀ H₀) (fun acc=>vO elt (⟨tg,iter,ifs,0⟩::rest) scope pos 0 acc (zV X N' scope cl C ex s₀ H₀).env) kk)
  (hy:X.N[i]? = some y:=by rfl) (hyl:Loc X.env.scope y:=by first|exact Or.inl rfl|exact Or.inr rfl) (hf:X.fn y=true∨X.env.scope.names.lookup y=some .local:=by first|exact .inl rfl|exact .inr rfl|assumption)
  (hsw:swapsWith (.ListComp elt (⟨tg,iter,ifs,0⟩::rest) scope pos) (some (.Name y py)) spos.line X.env=pure true:=by rfl)
  (hs:∀ x,foldedSetIterable iter X.env x=pure x:=by intro _;rfl):PS X (.Assign [.Name y py] (.ListComp elt (⟨tg,iter,ifs,0⟩::rest) scope pos) spos) (tDS X (xN (zP mm cap fi g t kk) (gNm i))):=by
 intro pins s σ H D I h
 obtain⟨P,α,env,S0,r,re,af⟩:=h
 have af0:=gE af
 have af':qN X P α ((fi env S0).bind fun p S1=>mkM mm (goL p.1 g t kk p.2 (vN cap env) S1 [])) (fun d S=>xL X P α (.nx (env.set i (some d)) S) D):=af0
 rw[exec_Assign_Name_used _ _ _ _ hsw]
 refine wpAny_bind (wpAny_standAt (wpAny_bind ?_))
 show wpAny _ X.A (do let _ ← comprehension (.ListComp elt (⟨tg,iter,ifs,0⟩::rest) scope pos) scope X.env _ (newList []) false (eval iter X.env) (some (assign (.Name y py) X.env))) _ _ s
 refine wpAny_bind (wpAny_mono (wpAny_comprehension_free (use:=some (assign (.Name y py) X.env)) (Q:=fun _ s'=>SP X pins D .next s') rfl hs (UD S I.ok) S.kind S.names ?_) (fun _ s' hq=>wpAny_pure (wpAny_pure hq)) fun _ _ e=>e)
 refine thn (hi pins s σ H (fun J H1=>∃ (P1:Hp) (α1:List Addr) (p:Option (Nat × MO) × List _D.D) (S1:Sto),Rel X.K H1 P1 α1 S1∧qL P P1∧α<+:α1∧ItD2 X.K J P1 α1 p.1 p.2∧qN X P α (mkM mm (goL p.1 g t kk p.2 (vN cap env) S1 [])) (fun d S=>xL X P α (.nx (env.set i (some d)) S) D)) I ⟨P,α,env,S0,r,re,?_⟩) fun xv s1 h1=>thn h1 fun itv s2 h2=>?_
 ·cases q:fi env S0 with
  |bad=>rw[q] at af';exact af'
  |ex c x S'=>rw[q] at af';exact af'
  |ok p S1=>rw[q] at af';exact fun J H1 P1 α1 r1 e1 e2 it=>⟨P1,α1,p,S1,r1,e1,e2,it,af'⟩
 obtain⟨it,fp,tn,J,H2,rfl,I2,T,st0,hfp,P1,α1,p,S1,r1,e1,e2,hit,af1⟩:=h2
 obtain⟨envF,ds,SF,run,ok⟩:=P9 af1
 refine cH (RR:=fun acc C=>compPost (model X.prog X.w) X.A X.xe (some (assign (.Name y py) X.env)) (fun _ s'=>SP X pins D .next s') acc C) hc S has hg ht he I2 r1 (re.mono e1 e2) T st0 hfp hit run ?_
 intro acc C s' hA ⟨m,hm⟩ hC hne fin
 show wpAny _ X.A (assign (.Name y py) X.env (.ref acc)) _ _ s'
 obtain⟨H3,P3,α3,vs,I3,r3,hn3,q1,q2,rp,hCn⟩:=fin s'.heap (Heap.SameBut.refl _ _)
 obtain⟨r4,e4⟩:=r3.pure (o:=.lst vs) hn3
 have hCn':(upd H3 acc (.lst vs)) C=none:=by rw[zI (Ne.symm hne)];exact hCn
 have fC:=I2.fpOk hC hCn'
 refine wpAny_assign_Name (ZZ I3 hN hy hyl (show qO (V.ref acc) (Value.ref acc) from rfl) (fun s5 I5 ⟨a,sb,ha⟩=>?_) hf)
 have hCa:C≠a:=by
  rcases ha with rfl|ha
  ·exact fC.2.1
  ·exact fun z=>fC.2.2.2.2.1 _ _ ha z.symm
 refine⟨m,hm.sameBut sb hCa,fun h' sb'=>?_⟩
 have I6:Inv X pins (σ.set i (some (V.ref acc))) (upd H3 acc (.lst vs)) { s5 with heap:=h' }:=I5.turned (t':=s5.toks) (fun b o hb e=>(sb'.2 b hb).trans e) hCn' fC.2.1 fC.2.2.2.1 fC.2.2.2.2.1 fC.2.2.2.2.2
 cases mm with
 |false =>
  refine⟨_,_,I6,ok _ _ (upd P3 acc (.lst vs)) α3 r4 ?_ ((e1.trans q1).trans e4) (e2.trans q2)⟩
  exact((re.mono e1 e2).mono (q1.trans e4) q2).set i (h9 (.inl (.inl xR)) (qI.mono e4 (List.prefix_refl _) _ _ rp))
 |true =>
  have hpre:α3<+:α3++[acc]:=List.prefix_append _ _
  have r5:=r3.new (o:=.lst vs) (m:=.lst ds) hn3 ⟨vs,xR,qI.mono (qL.refl _) hpre _ _ rp⟩
  refine⟨_,_,I6,ok _ _ P3 (α3++[acc]) r5 ?_ (e1.trans q1) ((e2.trans q2).trans hpre)⟩
  refine((re.mono e1 e2).mono q1 (q2.trans hpre)).set i ?_
  simp only[Rep]
  exact⟨acc,rfl,by rw[← r3.len];simp⟩
end
end _D
end
section
namespace _D
open PySem PySem.Spec PyProof.Rows _L
section
variable {X:Cx}
def ID:D→List D→Sto→Res D:=fun a ds S=>match a,ds with
 |.loc n,[i,x]=>match S[n]? with
  |some (.dct kvs)=>match Q3 i with
   |some k=>match IA kvs k with
    |some d=>.ok d S
    |none=>if kvs.length<lim then .ok x (S.set n (.dct (aQ kvs k x))) else .bad
   |none=>.bad
  |_=>.bad
 |_,_=>.bad
def jT:List D→Option (List Int)
 |[]=>some []
 |.int i::r=>(jT r).map (i::·)
 |_::_=>none
theorem ZH (ns:List Int):jT (ns.map D.int)=some ns:=by
 induction ns with
 |nil=>rfl
 |cons n r ih=>exact congrArg (Option.map (n::·)) ih
theorem dB:∀ {ds:List D} {ns:List Int},jT ds=some ns→ds=ns.map D.int
 |[],ns,h=>by cases h;rfl
 |d::r,ns,h=>by
  cases d with
  |int i =>
   obtain⟨m,h1,rfl⟩:=Option.map_eq_some_iff.mp (show (jT r).map (i::·)=some ns from h)
   rw[dB h1];rfl
  |_=>exact nn h
theorem tI {K:PySem.W.Frag}{P:Hp}{α : List Addr}:∀ {ns:List Int} {vs:List V},qI K P α (ns.map D.int) vs→vs=ns.map V.int
 |[],vs,r=>by rw[r.nil_inv];rfl
 |n::ns,vs,r=>by
  obtain⟨w,ws,rfl,p,t⟩:=r.cons_inv
  simp only[Rep] at p
  rw[p,tI t];rfl
def cY:G2:=fun a b S=>match a,b with
 |.tup xs,.tup ys=>match jT xs,jT ys with
  |some ns,some ms=>.ok (.bl (_H.lexLt ns ms)) S
  |_,_=>.bad
 |_,_=>gLt a b S
end
section
variable {X:Cx}
theorem VC {pins:List (Addr × Obj)}{σ : _L.St}{H P:Hp}{α : List Addr}{S:Sto}{s:Shared}{xs:List D}{v:V}{vv:Value}{ns:List Int}(I:Inv X pins σ H s)(r:Rel X.K H P α S)(rv:qO v vv)(p:Rep X.K P α (.tup xs) v)(h:jT xs=some ns) :
  ∃ a its,vv=.ref a∧IsTup s.heap a (List.toArray its)∧IntsAre its ns:=by
 have:=dB h
 subst this
 obtain⟨a,vs,its,rfl,q1,t1,rv1,h1,l1,_⟩:=bR I r p
 have:=tI t1
 subst this
 exact⟨a,its,rv,h1,by simpa using iK rv1⟩
set_option tactic.hygienic true in
theorem RM (hu:X.A.units<cLine):OpD X (compareOp .Lt) cY:=by
 intro pins σ H s P α S v u vv uu a b Q I r rv ru pa pb af
 unfold cY at af
 split at af
 ·rename_i xs ys
  split at af
  ·rename_i ns ms h1 h2
   obtain⟨a,its,rfl,t1,i1⟩:=VC I r rv pa h1
   obtain⟨b,its2,rfl,t2,i2⟩:=VC I r ru pb h2
   exact _H.lt_tupInts t1 t2 (by simpa using i1) (by simpa using i2) hu ⟨.bl _,H,I,rfl,xr af r (by simp only[Rep])⟩
  ·exact False.elim af
 ·exact MW pins σ H s P α S v u vv uu a b Q I r rv ru pa pb af
end
end _D
end
section
namespace _D
open PySem PySem.Spec PyProof.Rows _L
section
variable {X:Cx}
theorem BM:bootBuiltins "set" = some (.type "set"):=by decide +kernel
variable {e:Expr}{fa:DE}{p1 p2 pos1 pos2:Pos}
end
end _D
end
section
namespace _D
open PySem PySem.Spec PyProof.Rows _L
def pA (H:Hp):List (Addr × HO)→Hp
 |[]=>H
 |p::ps=>pA (upd H p.1 p.2) ps
theorem hJ {b:Addr}:∀ {L:List (Addr × HO)} {H:Hp},b ∉ L.map (·.1)→pA H L b=H b
 |[],_,_=>rfl
 |p::ps,H,h=>by
  simp only[List.map_cons,List.mem_cons,not_or] at h
  show pA (upd H p.1 p.2) ps b=H b
  rw[hJ h.2,zI h.1]
theorem VG {a:Addr}{o:HO}:∀ {L:List (Addr × HO)} {H:Hp},(L.map (·.1)).Nodup→(a,o)∈L→pA H L a=some o
 |p::ps,H,nd,h=>by
  simp only[List.map_cons,List.nodup_cons] at nd
  show pA (upd H p.1 p.2) ps a=some o
  rcases List.mem_cons.mp h with rfl|h
  ·rw[hJ nd.1,xR]
  ·exact VG nd.2 h
theorem VF {b:Addr}{u:HO}:∀ {L:List (Addr × HO)} {H:Hp},pA H L b=some u→(b,u)∈L∨H b=some u
 |[],_,h=>.inr h
 |p::ps,H,h=>by
  rcases VF (L:=ps) (H:=upd H p.1 p.2) h with h|h
  ·exact .inl (List.mem_cons_of_mem _ h)
  ·by_cases hb:b=p.1
   ·subst hb
    rw[xR] at h
    cases h
    exact .inl (List.mem_cons_self ..)
   ·rw[zI hb] at h
    exact .inr h
section
variable {K:PySem.W.Frag}
theorem Rel.pureL {α : List Addr}{S:Sto}:∀ {L:List (Addr × HO)} {H P:Hp},(∀ p∈L,H p.1=none)→(L.map (·.1)).Nodup→Rel K H P α S→Rel K (pA H L) (pA P L) α S∧qL P (pA P L)
 |[],_,_,_,_,r=>⟨r,qL.refl _⟩
 |p::ps,H,P,hn,nd,r=>by
  simp only[List.map_cons,List.nodup_cons] at nd
  obtain⟨r1,e1⟩:=r.pure (o:=p.2) (hn p (List.mem_cons_self ..))
  obtain⟨r2,e2⟩:=Rel.pureL (L:=ps) (fun q hq=>by
   have:q.1≠p.1:=fun e=>nd.1 (e▸List.mem_map.mpr ⟨q,hq,rfl⟩)
   rw[zI this]
   exact hn q (List.mem_cons_of_mem _ hq)) nd.2 r1
  exact⟨r2,e1.trans e2⟩
end
section
variable {X:Cx}{pins:List (Addr × Obj)}{σ : _L.St}{H:Hp}{s:Shared}
theorem Inv.laidL {L:List (Addr × HO)}{h':Heap}{t':Nat}(I:Inv X pins σ H s)(k:∀ b u,s.heap.get? b=some u→h'.get? b=some u)(hp:∀ p∈L,s.heap.objs.size≤p.1)(new:∀ p∈L,xG X.prog X.w (pA H L) h' p.1 p.2) :
  Inv X pins σ (pA H L) { s with heap:=h',toks:=t' }:=by
 have old:∀ b u,H b=some u→pA H L b=some u:=fun b u e=>by
  rw[hJ (L:=L)]
  ·exact e
  ·intro hb
   obtain⟨p,hp',rfl⟩:=List.mem_map.mp hb
   rw[I.hok.fresh (hp p hp')] at e
   cases e
 have low:∀ b,b<s.heap.objs.size→pA H L b=H b:=fun b hb=>hJ fun hm=>by
  obtain⟨p,hp',rfl⟩:=List.mem_map.mp hm
  exact absurd (Nat.lt_of_lt_of_le hb (hp p hp')) (Nat.lt_irrefl _)
 refine I.un ⟨fun b u q _ _ _=>k b u q,fun b u q _ _ _=>⟨u.slots,k b u q⟩,fun b u q n _=>by rw[low b (Heap.lt_size q)];exact n,fun b u q _=>⟨u,k b u q⟩,fun b xs q=>old b _ q,fun b o xs q=>old b _ q,fun b ps q=>⟨#[],by rw[old b _ q];simp⟩⟩ fun b u e=>?_
 rcases VF e with hm|hb
 ·exact new (b,u) hm
 ·exact(I.hok b u hb).stay (fun c v _ q=>k c v q) (fun c q=>old c _ q) fun c xs q=>old c _ q
end
end _D
end
section
namespace _D
open PySem PySem.Spec PyProof.Rows _L
def pZ:List D→Option (List (List Int))
 |[]=>some []
 |.tup ys::r=>(jT ys).bind fun k=>(pZ r).map (k::·)
 |_::_=>none
def tpD (k:List Int):D:=.tup (k.map D.int)
theorem VD:∀ {ds:List D} {ks:List (List Int)},pZ ds=some ks→ds=ks.map tpD
 |[],ks,h=>by cases h;rfl
 |d::r,ks,h=>by
  cases d with
  |tup ys =>
   obtain⟨k,h1,h2⟩:=Option.bind_eq_some_iff.mp (show (jT ys).bind (fun k=>(pZ r).map (k::·))=some ks from h)
   obtain⟨m,h3,rfl⟩:=Option.map_eq_some_iff.mp h2
   rw[VD h3,dB h1];rfl
  |_=>cases h
theorem eB (ks:List (List Int)):pZ (ks.map tpD)=some ks:=by
 induction ks with
 |nil=>rfl
 |cons k ks ih =>
  show (jT (k.map D.int)).bind (fun k=>(pZ (ks.map tpD)).map (k::·))=_
  rw[ZH,ih];rfl
def pN (xs:List D):Option (List D):=match jT xs with
 |some ns=>if (_S.srt _S.ltI ns).length<64 then some ((_S.srt _S.ltI ns).map D.int) else none
 |none=>match pZ xs with
  |some ks=>if ((_S.srt _H.lexLt ks).length<64&&ks.all fun k=>!k.isEmpty) then some ((_S.srt _H.lexLt ks).map tpD) else none
  |none=>none
def V6:D→Option (List D)
 |.lst xs=>some xs
 |.tup xs=>some xs
 |_=>none
def jB (f:DE):DE:=fun env S=>(f env S).bind fun d S1=>match (V6 d).bind pN with
 |some ys=>.ok (.lst ys) S1
 |none=>.bad
theorem MC {K:Type}{lt':K→K→Bool}(O:_S.Ord lt')(ks:List K)(d:K):_S.srt lt' (_S.jS (fun i=>ks.getD i d) ks.length)=_S.srt lt' ks:=
 _S.hB O (_S.lM O _) (_S.lM O _) fun x=>by
  rw[_S.gD O,_S.gD O,_S.tN]
  constructor
  ·rintro⟨i,hi,rfl⟩
   simp[List.getD,hi]
  ·intro hx
   obtain⟨i,hi,e⟩:=List.mem_iff_getElem.mp hx
   exact⟨i,hi,by simp[List.getD,hi,e]⟩
section
variable {X:Cx}{pins:List (Addr × Obj)}{σ : _L.St}{H P:Hp}{α : List Addr}{S:Sto}{s:Shared}
inductive NewL (X:Cx)(pins:List (Addr × Obj))(σ : _L.St)(P:Hp)(α : List Addr)(S:Sto)(ys:List D)(u:Value)(s':Shared):Prop
 |mk (v:V) (H' P':Hp) (I:Inv X pins σ H' s') (rv:qO v u) (r:Rel X.K H' P' α S) (e:qL P P') (rp:Rep X.K P' α (.lst ys) v):NewL X pins σ P α S ys u s'
theorem oE {K:Type}{is:K→Value→Prop}{hash:K→Int}{lt':K→K→Bool}{d:K}{Fit:K→Prop}(kd:_S.Kind X.prog X.w is hash lt' d Fit s.heap)(ad:_S.AddS X.prog X.w is hash s.heap)(hc:X.calm=true)(hu:X.A.units+64<cLine)(I:Inv X pins σ H s)(r:Rel X.K H P α S){a:Addr}{its:List Value}
  (ha:s.heap.IsList a its.toArray∨s.heap.IsTuple a its.toArray) (ks:List K) (hl:ks.length=its.length) (hk:∀ i v,its[i]? = some v→is (ks.getD i d) v) (hn:(_S.srt lt' ks).length<64) (hf:∀ k∈ks,Fit k) (enc:K→D)
  (back:∀ k v,is k v→v∈its→∃ vv,qO vv v∧Rep X.K P α (enc k) vv) {E:Value→Shared→Prop} :
  wpAny (model X.prog X.w) X.A (call (.type "set") [.ref a]) (fun u s1=>wpAny (model X.prog X.w) X.A (call (.builtin "sorted") [u]) (NewL X pins σ P α S ((_S.srt lt' ks).map enc)) E s1) E s:=by
 have hsz:its.toArray.size=ks.length:=by rw[List.size_toArray,hl]
 have mem:∀ k,k∈_S.srt lt' ks↔k∈ks:=fun k=>_S.gD kd.ord k ks
 have inn:∀ i,i<ks.length→ks.getD i d∈ks:=fun i hi=>by simp[List.getD,hi]
 refine _S.JQ (U:=_S.srt lt' ks) ad (I.ok.hd hc) (by omega) ha (fun i=>ks.getD i d) (fun i v hv=>hk i v (by simpa using hv)) (by omega) (fun i hi=>(mem _).mpr (inn i (by rw[← hsz];exact hi))) fun h1 tk1 Z kp=>?_
 have seen:∀ k∈_S.jS (fun i=>ks.getD i d) its.toArray.size,k∈ks:=fun k hk'=>by
  obtain⟨i,hi,rfl⟩:=_S.tN.mp hk'
  exact inn i (by rw[← hsz];exact hi)
 have I1:Inv X pins σ H { s with heap:=h1,toks:=tk1 }:=I.kept kp
 refine _S.KL (s:={ s with heap:=h1,toks:=tk1 }) kd (I.ok.hd hc) (by omega) kp Z (fun k hk'=>hf k (seen k hk')) (U:=_S.srt lt' ks) (by omega) (fun k hk'=>(mem k).mpr (seen k hk')) fun h2 tk2 D c ps kp2 hD hob hps hp hpl=>?_
 rw[hsz,MC kd.ord] at hps
 have vv:∀ (ps:List (K × Value)),(∀ p∈ps,is p.1 p.2∧p.2∈its)→∃ vs,qQ vs (ps.map (·.2))∧qI X.K P α ((ps.map (·.1)).map enc) vs:=by
  intro ps
  induction ps with
  |nil=>exact fun _=>⟨[],.nil,.nil⟩
  |cons p ps ih =>
   intro h
   obtain⟨vs,a1,a2⟩:=ih fun q hq=>h q (by simp[hq])
   obtain⟨v,b1,b2⟩:=back p.1 p.2 (h p (by simp)).1 (h p (by simp)).2
   exact⟨v::vs,.cons b1 a1,.cons b2 a2⟩
 obtain⟨vs,a1,a2⟩:=vv ps fun p hpm=>by simpa using hp p hpm
 rw[hps] at a2
 have nd:([(D,HO.lst vs)].map (·.1)).Nodup:=by simp
 have I2:Inv X pins σ (pA H [(D,HO.lst vs)]) { s with heap:=h2,toks:=tk2 }:=Inv.laidL (s:={ s with heap:=h1,toks:=tk1 }) (L:=[(D,HO.lst vs)]) (t':=tk2) I1 kp2 (fun p hpm=>by
  have:p=(D,HO.lst vs):=by simpa using hpm
  subst this;exact hD) fun p hpm=>by
  have:p=(D,HO.lst vs):=by simpa using hpm
  subst this
  refine⟨?_,ps.map (·.2),c,a1,hob⟩
  have:=a1.length
  rw[List.length_map] at this
  rw[this,sizeLine_eq]
  omega
 obtain⟨r2,e2⟩:=r.pureL (L:=[(D,HO.lst vs)]) (fun p hpm=>I1.hok.fresh (by
  have:p=(D,HO.lst vs):=by simpa using hpm
  subst this;exact hD)) nd
 exact⟨.ref D,_,_,I2,rfl,r2,e2,h9 (.inl (.inl (VG nd (by simp)))) (qI.mono e2 (List.prefix_refl _) _ _ a2)⟩
end
section
variable {X:Cx}{e:Expr}{fa:DE}{p1 p2 pos1 pos2:Pos}
theorem KZ:bootBuiltins "sorted" = some (.builtin "sorted"):=by decide +kernel
theorem US {prog:Program}{w:World}:∀ {k:List Int} {us:List Value},qQ (k.map V.int) us→ItemsAre (intKind prog w) k us
 |[],us,h=>by cases h;exact .nil
 |i::k,us,h=>by
  cases h with
  |cons q t =>
   obtain⟨tk,rfl⟩:=q
   exact .cons (intKind_is _ _ _ _) (US t)
theorem EL {pins:List (Addr × Obj)}{σ : _L.St}{H P:Hp}{α : List Addr}{S:Sto}{s:Shared}{d:D}{xs:List D}{v:V}{vv:Value}(I:Inv X pins σ H s)(r:Rel X.K H P α S)(p:Rep X.K P α d v)(q:qO v vv)(h:V6 d=some xs) :
  ∃ a vs its,vv=.ref a∧qI X.K P α xs vs∧qQ vs its∧(s.heap.IsList a its.toArray∨s.heap.IsTuple a its.toArray)∧xs.length=its.length:=by
 cases d with
 |lst ys =>
  cases h
  obtain⟨a,vs,its,n,rfl,_,t,rv,e,l,_⟩:=rO I r p
  exact⟨a,vs,its,q,t,rv,.inl ⟨_,e,rfl,n,rfl⟩,l⟩
 |tup ys =>
  cases h
  obtain⟨a,vs,its,rfl,_,t,rv,⟨o,e,hc,n,hd⟩,l,_⟩:=bR I r p
  exact⟨a,vs,its,q,t,rv,.inr ⟨o,e,hc,n,hd⟩,l⟩
 |_=>cases h
set_option tactic.hygienic true in
theorem JW (hc:X.calm=true)(hu:X.A.units+64<cLine)(hg:Gl X "sorted")(hm:X.mg "sorted" = none)(hg2:Gl X "set")(hm2:X.mg "set" = none)(ha:PE X e (tD X fa))(he:starEach [e] X.env=(false,eval e X.env)::starEach [] X.env:=by rfl) :
  PE X (.Call (.Name "sorted" p1) [.Call (.Name "set" p2) [e] [] pos2] [] pos1) (tD X (jB fa)):=by
 intro pins s σ H Q I h
 obtain⟨P,α,env,S,r,re,af⟩:=h
 refine wpAny_Call_Name_kw (mQ I hg hm KZ ?_)
 refine PyProof.Rows.callWith_builtin1 ?_ rfl rfl
 refine Calls.spliced_cons ?_
 refine Call_ (mQ I hg2 hm2 BM (PyProof.Rows.callWith_type1 ?_ he rfl))
 rw[he]
 refine Calls.spliced_cons (thn (wS ha I r re af) fun vv s1 ⟨v,H1,P1,α1,d,S1,G1,af1⟩=>Calls.spliced_nil ?_)
 cases hq:(V6 d).bind pN with
 |none=>simp only[hq] at af1;exact False.elim af1
 |some ys =>
   simp only[hq] at af1
   obtain⟨xs,hd,hs⟩:=Option.bind_eq_some_iff.mp hq
   obtain⟨a,vs,its,rfl,t1,rv1,e1,l1⟩:=EL G1.inv G1.rel G1.rep G1.val hd
   have main:wpAny (model X.prog X.w) X.A (call (.type "set") [.ref a]) (fun u s1=>wpAny (model X.prog X.w) X.A (call (.builtin "sorted") [u]) (NewL X pins σ P1 α1 S1 ys) X.xe s1) X.xe s1:=by
    unfold pN at hs
    cases hi:jT xs with
    |some ns =>
     rw[hi] at hs
     dsimp only at hs
     split at hs
     ·rename_i hlt
      cases hs
      have:=dB hi
      subst this
      have:=tI t1
      subst this
      refine oE (d:=0) (_S.HU X.prog X.w s1.heap) (_S.D5 s1.heap) hc hu G1.inv G1.rel e1 ns (by simpa using l1) (fun i u hu'=>?_) hlt (fun _ _=>trivial) D.int fun k u hk _=>?_
      ·have hi:IntsAre its ns:=by simpa using iK rv1
       obtain⟨t,rfl⟩:=PyProof.Rows.IntsAre.int_at hi i u hu'
       exact intKind_is _ _ _ _
      ·obtain⟨t,rfl⟩:=_S.jU hk
       exact⟨.int k,⟨t,rfl⟩,by simp only[Rep]⟩
     ·cases hs
    |none =>
     rw[hi] at hs
     dsimp only at hs
     cases ht:pZ xs with
     |none=>rw[ht] at hs;cases hs
     |some ks =>
      rw[ht] at hs
      dsimp only at hs
      split at hs
      ·rename_i hlt
       cases hs
       have hlt':=Bool.and_eq_true_iff.mp hlt
       have:=VD ht
       subst this
       have at':∀ (i:Nat) (u:Value),its[i]? = some u→∃ b,u=.ref b∧IsTupleKey (intKind X.prog X.w) s1.heap (ks.getD i []) b∧∃ vv,qO vv u∧Rep X.K P1 α1 (tpD (ks.getD i [])) vv:=fun i u hu'=>by
        have hii:i<its.length:=(List.getElem?_eq_some_iff.mp hu').1
        have hik:i<ks.length:=by rw[List.length_map] at l1;omega
        obtain⟨v,p,q,_⟩:=mP t1 rv1 (j:=i) (by rw[List.size_toArray];exact hii)
        have hd:(ks.map tpD).getD i D.non=tpD (ks.getD i []):=by simp[List.getD,hik]
        rw[hd] at p
        have hu2:its.toArray[i]'(by rw[List.size_toArray];exact hii)=u:=by
         rw[List.getElem?_eq_getElem hii] at hu'
         simpa using hu'
        rw[hu2] at q
        obtain⟨b,ws,us,rfl,sq,t,rv,⟨o,ho,hcl,m,hd⟩,_,_⟩:=bR G1.inv G1.rel (show Rep X.K P1 α1 (.tup ((ks.getD i []).map D.int)) v from p)
        cases (show u=Value.ref b from q)
        have:=tI t
        subst this
        exact⟨b,rfl,⟨o,us.toArray,m,ho,hcl,hd,by simpa using US rv⟩,.ref b,rfl,p⟩
       refine oE (d:=[]) (_S.HV X.prog X.w s1.heap) (_S.D6 s1.heap) hc hu G1.inv G1.rel e1 ks (by simpa using l1) (fun i u hu'=>?_) (of_decide_eq_true hlt'.1) (fun k hk=>?_) tpD fun k u hk hm'=>?_
       ·obtain⟨b,rfl,q,_⟩:=at' i u hu'
        exact⟨b,rfl,q⟩
       ·have:=List.all_eq_true.mp hlt'.2 k hk
        intro z
        subst z
        cases this
       ·obtain⟨i,hi',rfl⟩:=List.mem_iff_getElem.mp hm'
        obtain⟨b,eb,q,w,rw',pw⟩:=at' i _ (List.getElem?_eq_getElem hi')
        have:k=ks.getD i []:=_S.isT.inj hk ⟨b,eb,q⟩
        rw[this]
        exact⟨w,rw',pw⟩
      ·cases hs
   refine thn main fun u s2 h2=>Calls.spliced_nil (thn h2 fun u' s3 ⟨v,H',P',I',rv,r',e',rp⟩=>?_)
   exact⟨v,H',I',rv,af1 v H' P' α1 r' (G1.same.trans e') G1.pre rp⟩
end
end _D
end
section
namespace _D
open PySem PySem.Spec PyProof.Rows _L
mutual
def pyD:D→Option PyData
 |.non=>some .none
 |.bl b=>some (.bool b)
 |.int i=>some (.int i)
 |.str x=>some (.str x)
 |.tup xs=>(dI xs).map .tuple
 |.lst xs=>(dI xs).map .list
 |.dct0=>some (.dict [])
 |_=>none
def dI:List D→Option (List PyData)
 |[]=>some []
 |d::ds=>(pyD d).bind fun x=>(dI ds).map (x::·)
end
mutual
def fO:D→Bool
 |.lst _=>false
 |.tup xs=>lG xs
 |_=>true
def lG:List D→Bool
 |[]=>true
 |d::ds=>fO d&&lG ds
end
def rV (d:D)(p:PyData):Bool:=p.showable&&p.leavesShort 40&&decide (p.bulk≤2 ^ 16)&&decide (p.depth≤60)&&(!p.hasDict||fO d)
def pX (d:D):Option Str:=(pyD d).bind fun p=>if rV d p then some p.shown else none
def eM:DF:=fun ds S=>match ds with
 |[d]=>match pX d with
  |some x=>.ok (.str x) S
  |none=>.bad
 |_=>.bad
section
variable {X:Cx}{pins:List (Addr × Obj)}{σ : _L.St}{H P:Hp}{α : List Addr}{S:Sto}{s:Shared}
mutual
theorem YY (I:Inv X pins σ H s)(r:Rel X.K H P α S):∀ (d:D) (p:PyData) (v:V) (u:Value),pyD d=some p→Rep X.K P α d v→qO v u→∃ as,Reads s.heap u p as∧(fO d=true→sysModules ∉ as)
 |.non,p,v,u,h,q,rv=>by
  cases h;simp only[Rep] at q;subst q;cases (show u=Value.none from rv);exact⟨_,.none,by simp⟩
 |.bl b,p,v,u,h,q,rv=>by
  cases h;simp only[Rep] at q;subst q;cases (show u=Value.bool b from rv);exact⟨_,.bool b,by simp⟩
 |.int i,p,v,u,h,q,rv=>by
  cases h;simp only[Rep] at q;subst q;obtain⟨t,rfl⟩:=rv;exact⟨_,.int i t,by simp⟩
 |.str x,p,v,u,h,q,rv=>by
  cases h;simp only[Rep] at q;subst q;obtain⟨t,rfl⟩:=rv;exact⟨_,.str x t,by simp⟩
 |.tup xs,p,v,u,h,q,rv=>by
  simp only[pyD] at h
  obtain⟨ps,h1,rfl⟩:=Option.map_eq_some_iff.mp h
  obtain⟨a,vs,its,rfl,_,t,rvs,⟨o,e,hc,n,hd⟩,_,_⟩:=bR I r q
  cases (show u=Value.ref a from rv)
  obtain⟨as,ra,ha⟩:=rT I r xs ps vs its h1 t rvs
  exact⟨as,.tuple e hc hd (by simpa using ra),fun z=>ha (by simpa only [fO] using z)⟩
 |.lst xs,p,v,u,h,q,rv=>by
  simp only[pyD] at h
  obtain⟨ps,h1,rfl⟩:=Option.map_eq_some_iff.mp h
  obtain⟨a,vs,its,n,rfl,_,t,rvs,e,_,_⟩:=rO I r q
  cases (show u=Value.ref a from rv)
  obtain⟨as,ra,_⟩:=rT I r xs ps vs its h1 t rvs
  exact⟨a::as,.list e rfl rfl (by simpa using ra),fun z=>by simp[fO] at z⟩
 |.dct0,p,v,u,h,q,rv=>by
  cases h
  simp only[Rep] at q
  obtain⟨a,rfl,q⟩:=q
  cases (show u=Value.ref a from rv)
  obtain⟨_,ne,vs,kv,o,es,ep,e,hx,hd,_,hp,_⟩:=I.hok _ _ (r.sub _ _ q)
  cases kv
  have he:es.toList=[]:=by
   generalize es.toList=l at hp
   cases hp;rfl
  refine⟨[a]++[],.dict (kvs:=[]) e hx.1 hd ?_ ?_,fun _=>by simpa using (fun z=>(beq_eq_false_iff_ne.mp ne) z.symm)⟩
  ·rw[he];exact .nil
  ·rw[he];exact .nil
 |.ty _,p,v,u,h,_,_=>by simp[pyD] at h
 |.obj _,p,v,u,h,_,_=>by simp[pyD] at h
 |.loc _,p,v,u,h,_,_=>by simp[pyD] at h
 |.exn _,p,v,u,h,_,_=>by simp[pyD] at h
 |.fd _ _,p,v,u,h,_,_=>by simp[pyD] at h
theorem rT (I:Inv X pins σ H s)(r:Rel X.K H P α S):∀ (ds:List D) (ps:List PyData) (vs:List V) (us:List Value),dI ds=some ps→qI X.K P α ds vs→qQ vs us→∃ as,ReadsAll s.heap us ps as∧(lG ds=true→sysModules ∉ as)
 |[],ps,vs,us,h,q,rv=>by
  cases h;cases q.nil_inv;cases rv;exact⟨[],.nil,by simp⟩
 |d::ds,ps,vs,us,h,q,rv=>by
  simp only[dI] at h
  obtain⟨p,h1,h2⟩:=Option.bind_eq_some_iff.mp h
  obtain⟨ps',h3,rfl⟩:=Option.map_eq_some_iff.mp h2
  obtain⟨w,ws,rfl,q1,q2⟩:=q.cons_inv
  cases rv with
  |cons r1 r2 =>
   obtain⟨as,a1,a2⟩:=YY I r d p w _ h1 q1 r1
   obtain⟨bs,b1,b2⟩:=rT I r ds ps' ws _ h3 q2 r2
   refine⟨as++bs,.cons a1 b1,fun z=>?_⟩
   simp only[lG,Bool.and_eq_true] at z
   simp only[List.mem_append,not_or]
   exact⟨a2 z.1,b2 z.2⟩
end
set_option tactic.hygienic true in
theorem ZU {d:D}{x:Str}(h:pX d=some x):∃ p,pyD d=some p∧p.shown=x∧p.showable=true∧p.shown.length≤sizeLine∧p.depth≤60∧(p.hasDict=true→fO d=true):=by
 unfold pX at h
 obtain⟨p,h1,h2⟩:=Option.bind_eq_some_iff.mp h
 split at h2
 ·rename_i hk
  cases h2
  simp only[rV,Bool.and_eq_true,decide_eq_true_eq,Bool.or_eq_true,Bool.not_eq_true'] at hk
  obtain⟨⟨⟨⟨k1,k2⟩,k3⟩,k4⟩,k5⟩:=hk
  refine⟨p,h1,rfl,k1,?_,k4,fun z=>k5.resolve_left (by rw[z];simp)⟩
  have:=PyData.shown_le_bulk 40 (by omega) p k2
  rw[sizeLine_eq]
  omega
 ·cases h2
theorem TM (hg:X.A.guards=some [])(hu:X.A.units+64<cLine):kL X (.builtin "repr") eM:=by
 intro pins σ H s P α S vs us ds Q I r rv rp af
 match ds,af,rp with
 |[],af,_=>exact False.elim af
 |_::_::_,af,_=>exact False.elim af
 |[d],af,rp =>
  simp only[eM] at af
  cases hd:pX d with
  |none=>rw[hd] at af;exact False.elim af
  |some x =>
   rw[hd] at af
   obtain⟨p,h1,rfl,hs,hz,hp,hn⟩:=ZU hd
   obtain⟨v,u,rfl,rfl,q,rv1⟩:=dM rp rv
   obtain⟨as,ra,ha⟩:=YY I r d p v u h1 q rv1
   have fin:∀ (h':Heap) (u tk:Tok),(∀ b o,s.heap.get? b=some o→h'.get? b=some o)→EP X pins σ Q (.str p.shown u) { s with heap:=h',toks:=tk }:=fun h' u tk hk =>
    ⟨.str p.shown,H,I.kept hk,⟨u,rfl⟩,xr af r (by simp only[Rep])⟩
   cases ra with
   |none=>exact PySem.P.repr_of_none (fin s.heap _ _ fun _ _ e=>e)
   |bool b=>exact PySem.P.repr_of_bool (fin s.heap _ _ fun _ _ e=>e)
   |int i t=>exact PySem.P.repr_of_int (by simpa [PyData.showable] using hs) (fin s.heap _ _ fun _ _ e=>e)
   |str y t=>exact PySem.P.repr_of_str (fin s.heap _ _ fun _ _ e=>e) hz
   |list a1 a2 a3 a4=>exact repr_of_reads' (.list a1 a2 a3 a4) hs (fun z=>ha (hn z)) hg (by omega) (fun _ _ e=>e) fin hz
   |tuple a1 a2 a3 a4=>exact repr_of_reads' (.tuple a1 a2 a3 a4) hs (fun z=>ha (hn z)) hg (by omega) (fun _ _ e=>e) fin hz
   |dict a1 a2 a3 a4 a5=>exact repr_of_reads' (.dict a1 a2 a3 a4 a5) hs (fun z=>ha (hn z)) hg (by omega) (fun _ _ e=>e) fin hz
end
end _D
end
section
namespace _H
open PySem PyProof.Rows
def stepLo (n:Nat)(k:Int):Int:=(Builtin.Slice.sliceAdjust none none k (n:Int)).1
def stepHi (n:Nat)(k:Int):Int:=(Builtin.Slice.sliceAdjust none none k (n:Int)).2
def stepN (n:Nat)(k:Int):Nat:=Builtin.Slice.slicePlaces (stepLo n k) (stepHi n k) k
def stepL {α : Type}(xs:List α)(k:Int):List α:=(List.range (stepN xs.length k)).filterMap fun (m:Nat)=>xs[(stepLo xs.length k+(m:Int)*k).toNat]?
section
variable {prog:Program}{w:World}{A:Around}{E:Value→Shared→Prop}{s:Shared}
theorem cC {sl:Addr}{k:Int}{t:Tok}{n:Nat}{Q:Int × Int × Nat→Shared→Prop}(hs:s.heap.IsSliceOf sl .none .none (.int k t))(hk:k≠0)
  (h:Q (stepLo n k,k,stepN n k) s):wpAny (model prog w) A (Builtin.Slice.sliceApplied (.ref sl) (pure (n:Int))) Q E s:=by
 obtain⟨os,hos,hcs,hds⟩:=id hs
 unfold Builtin.Slice.sliceApplied Builtin.Slice.sliceFields
 refine wpAny_bind (wpAny_bind (wpAny_field hos hds (x:=.none) rfl (wpAny_bind (wpAny_field hos hds (x:=.none) rfl (wpAny_bind (wpAny_field hos hds (x:=.int k t) rfl (wpAny_pure ?_)))))))
 refine wpAny_bind (slicePart_int ?_)
 show wpAny _ _ (if (k == 0)=true then _ else _) _ _ s
 rw[if_neg (by simpa using hk)]
 refine wpAny_bind (slicePart_none (wpAny_bind (slicePart_none (wpAny_bind (wpAny_pure ?_)))))
 exact wpAny_pure h
theorem stepL_length {α : Type}(xs:List α)(k:Int):(stepL xs k).length≤stepN xs.length k:=by
 unfold stepL
 exact Nat.le_trans (List.length_filterMap_le _ _) (by rw[List.length_range];exact Nat.le_refl _)
theorem getItem_tuple_step {t sl:Addr}{items:Array Value}{k:Int}{u:Tok}{Q:Value→Shared→Prop}(ht:IsTup s.heap t items)(hs:s.heap.IsSliceOf sl .none .none (.int k u))(h0:k≠0)(h1:k≠1)
  (h:Q (.ref s.heap.objs.size) { s with heap:=s.heap.push { cls:=.type "tuple",data:=.seq (stepL items.toList k).toArray } })
  (hsz:stepN items.size k≤sizeLine):wpAny (model prog w) A (getItem (.ref t) (.ref sl)) Q E s:=by
 have htake:sizeOk (.seq (stepL items.toList k).toArray):=by
  show (stepL items.toList k).toArray.size≤sizeLine
  rw[List.size_toArray]
  exact Nat.le_trans (stepL_length _ _) (by simpa using hsz)
 obtain⟨os,hos,hcs,hds⟩:=id hs
 have hTs:s.TypeIs (.ref sl) "slice":=⟨os,hos,hcs⟩
 unfold getItem
 try with_reducible refine wpAny_holding ?_
 first|refine wpAny_bind (wpAny_pure ?_)|skip
 refine wpAny_bind (wpAny_sequenceKey ht.typeIs (by decide) ?_)
 refine wpAny_bind (wpAny_callSpecial?_slot (name:=Str.ofString "__getitem__") ht.typeIs PyProof.Rows.slot_tuple_getitem
  (wpAny_call_entry PyProof.Rows.slot_tuple_getitem ht.typeIs entry_tuple_getitem ?_ (args_tuple_getitem _ _)))
 show wpAny _ _ (Builtin.Tuple.tupleItemsOf (.ref t) >>= _) _ _ s
 refine wpAny_bind (tupleItemsOf_ ht ?_)
 refine wpAny_bind (wpAny_typeOf hTs ?_)
 rw[if_pos (by decide)]
 refine wpAny_bind (cC hs h0 ?_)
 have hno:¬ ((stepLo items.size k == 0&&k == 1&&stepN items.size k == items.size)=true):=by
  intro q
  rw[Bool.and_eq_true,Bool.and_eq_true] at q
  exact h1 (eq_of_beq q.1.2)
 show wpAny _ _ (if (stepLo items.size k == 0&&k == 1&&stepN items.size k == items.size)=true then _ else _) _ _ s
 rw[if_neg hno]
 have e:((List.range (stepN items.size k)).filterMap fun (m:Nat)=>items[(stepLo items.size k+(m:Int)*k).toNat]?)=stepL items.toList k:=by
  unfold stepL
  simp
 rw[e]
 first
  |exact wpAny_bind (m:=Builtin.Tuple.tupleExact _) (wpAny_newObj_type (wpAny_pure ⟨_,rfl,wpAny_pure h⟩) htake)
  |exact wpAny_bind (m:=Builtin.Tuple.tupleExact _) (wpAny_newObj_type (wpAny_bind (wpAny_pure (wpAny_pure ⟨_,rfl,wpAny_pure h⟩))) htake)
  |exact wpAny_bind (wpAny_bind (m:=Builtin.Tuple.tupleExact _) (wpAny_newObj_type (wpAny_pure (wpAny_pure ⟨_,rfl,wpAny_pure h⟩)) htake))
  |exact wpAny_bind (wpAny_bind (m:=Builtin.Tuple.tupleExact _) (wpAny_newObj_type (wpAny_pure ⟨_,rfl,wpAny_pure h⟩) htake))
end
end _H
namespace _D
open PySem PySem.Spec PyProof.Rows _L
def JZ:G2:=fun d k S=>match d,k with
 |.tup xs,.int k=>if k≠0∧k≠1∧_H.stepN xs.length k≤lim then .ok (.tup (_H.stepL xs k)) S else .bad
 |_,_=>.bad
def fK (fe fk:DE):DE:=d2 JZ fe fk
section
variable {X:Cx}{e ek:Expr}{fe fk:DE}{p2 pos:Pos}
theorem BE {vs:List V}{us:List Value}(rv:qQ vs us)(l:List Nat)(f:Nat→Nat):qQ (l.filterMap fun m=>vs[f m]?) (l.filterMap fun m=>us[f m]?):=by
 induction l with
 |nil=>exact .nil
 |cons m l ih =>
  simp only[List.filterMap_cons]
  cases h:vs[f m]? with
  |none =>
   have:us[f m]? = none:=by
    rw[List.getElem?_eq_none_iff] at h ⊢
    rw[← rv.length];exact h
   rw[this];exact ih
  |some v =>
   obtain⟨u,hu,r⟩:=rv.get h
   rw[hu];exact .cons r ih
theorem B2 {K:PySem.W.Frag}{P:Hp}{α : List Addr}{ds:List D}{vs:List V}(rp:qI K P α ds vs)(l:List Nat)(f:Nat→Nat):qI K P α (l.filterMap fun m=>ds[f m]?) (l.filterMap fun m=>vs[f m]?):=by
 induction l with
 |nil=>exact .nil
 |cons m l ih =>
  simp only[List.filterMap_cons]
  cases h:ds[f m]? with
  |none =>
   have:vs[f m]? = none:=by
    rw[List.getElem?_eq_none_iff] at h ⊢
    rw[← rp.length];exact h
   rw[this];exact ih
  |some d =>
   obtain⟨u,hu,r⟩:=rp.get h
   rw[hu];exact .cons r ih
set_option tactic.hygienic true in
theorem N0 (he:PE X e (tD X fe))(hk:PE X ek (tD X fk)):PE X (.Subscript e (.Slice none none (some ek) p2) pos) (tD X (fK fe fk)):=by
 intro pins s σ H Q I h
 obtain⟨P,α,env,S,r,re,af⟩:=h
 have af':qN X P α ((fe env S).bind fun d S1=>(fk env S1).bind fun k S2=>JZ d k S2) (OkV X P α Q):=af
 refine Subscript_ (thn (wS he I r re af') fun v s1 ⟨x,H1,P1,α1,d,S1,G1,af1⟩=>?_)
 refine wpAny_Slice ?_
 rw[evalPart_none]
 refine wpAny_pure (wpAny_pure ?_)
 rw[evalPart_some]
 refine thn (wS hk G1.inv G1.rel G1.env (x8.base G1.same G1.pre af1)) fun vk s2 ⟨y,H2,P2,α2,k,S2,G2,af2⟩=>?_
 have af2:=x8.base G2.same G2.pre af2
 cases d with
 |tup xs =>
  cases k with
  |int k =>
   simp only[JZ] at af2
   split at af2
   ·rename_i hk'
    have rp:=Rep.mono G2.same G2.pre _ _ G1.rep
    obtain⟨a,vs,its,rfl,q,t,rvs,ht,hl,_⟩:=bR G2.inv G2.rel rp
    cases (show v=Value.ref a from G1.val)
    have gr:=G2.rep
    simp only[Rep] at gr
    subst gr
    obtain⟨tk,rfl⟩:=G2.val
    have I4:Inv X pins σ H2 { s2 with heap:=s2.heap.push { cls:=.type "slice",data:=.fields #[.none,.none,.int k tk] } }:=G2.inv.kept (t':=s2.toks) fun b ob q=>Heap.get?_push_of_some _ q
    have ht':IsTup (s2.heap.push { cls:=.type "slice",data:=.fields #[.none,.none,.int k tk] }) a its.toArray:=ht.keeps fun b ob q=>Heap.get?_push_of_some _ q
    refine tail_any (ops:=[.ref a,.ref s2.heap.objs.size]) (s:={ s2 with heap:=s2.heap.push { cls:=.type "slice",data:=.fields #[.none,.none,.int k tk] } }) ht'.typeIs PyProof.Rows.slot_tuple_getitem.lookup ?_ (by with_unfolding_all rfl)
    refine _H.getItem_tuple_step (s:={ s2 with heap:=s2.heap.push { cls:=.type "slice",data:=.fields #[.none,.none,.int k tk] } }) ht' (Heap.IsSliceOf.new ..) hk'.1 hk'.2.1 ?_ ?_
    ·have lv:vs.length=its.length:=rvs.length
     have ld:xs.length=vs.length:=t.length
     have t':qI X.K P2 α2 (_H.stepL xs k) (_H.stepL vs k):=by
      unfold _H.stepL
      rw[ld]
      exact B2 t _ fun m=>(_H.stepLo vs.length k+(m:Int)*k).toNat
     have rv':qQ (_H.stepL vs k) (_H.stepL its k):=by
      unfold _H.stepL
      rw[lv]
      exact BE rvs _ fun m=>(_H.stepLo its.length k+(m:Int)*k).toNat
     exact Y3 I4 G2.rel t' rv' (Nat.le_trans (_H.stepL_length _ _) hk'.2.2) af2
    ·rw[List.size_toArray,← hl,← vL];exact hk'.2.2
   ·exact False.elim af2
  |_=>exact False.elim af2
 |_=>exact False.elim af2
end
end _D
end
section
namespace _D
open PySem PySem.Spec PyProof.Rows _L
structure QI2 (X:Cx)(tg it:Expr)(f:DI2):Prop where
 get:PI X tg it (tDI2 X f)
structure QK (Y:Cx)(step:Value→Sem Unit)(k:DK):Prop where
 get:PK Y step k
section
variable {X Y:Cx}{tg it e o elt iter ie:Expr}{es ifs rest:List Expr}{fa fo fe fi:DE}{fA:DA}{fI:DI}{f2:DI2}{g:DG}{t:DT}{kk:DK}{p pos:Pos}{n k:Nat}{x:Str}{cm:Bool}{F:DF}{f:DS}{gens grest:List Comprehension}{scope:Scope}{N':List Str}{cap:List (Option Nat)}{mm:Bool}
theorem bP (h:QI X tg it fI):QI2 X tg it (y9 fI):=⟨N5 h.1⟩
theorem bO (h:QE X e fa):QI2 X tg e (dIt fa):=⟨HE h.1⟩
theorem wM (hx:Y.xe=fun _ _=>False)(hlast:gens[k+1]? = none)(he:QE Y elt fe):QK Y (fun acc=>vO elt gens scope pos k acc Y.env) (zR fe):=⟨LG hx hlast he.1⟩
theorem wY (hc:X.calm=true)(S:CompSc X.env.scope X.N scope N' cap)(hi:QI2 X tg iter f2)(hg:∀ cl C ex s₀ H₀,QG (zV X N' scope cl C ex s₀ H₀) tg g)(ht:∀ cl C ex s₀ H₀,QTs (zV X N' scope cl C ex s₀ H₀) ifs t)
  (has:∀ g',(⟨tg,iter,ifs,0⟩::grest:List Comprehension)[0+1]? = some g'→g'.is_async=0)
  (he:∀ cl C ex s₀ H₀,QK (zV X N' scope cl C ex s₀ H₀) (fun acc=>vO elt (⟨tg,iter,ifs,0⟩::grest) scope pos 0 acc (zV X N' scope cl C ex s₀ H₀).env) kk) (hs:∀ x,foldedSetIterable iter X.env x=pure x) :
  QE X (.ListComp elt (⟨tg,iter,ifs,0⟩::grest) scope pos) (zP mm cap f2 g t kk):=
 ⟨F6 hc S hi.1 (fun cl C ex s H=>(hg cl C ex s H).1) (fun cl C ex s H=>(ht cl C ex s H).1) has (fun cl C ex s H=>(he cl C ex s H).1) hs⟩
theorem aR {m:Nat}{y:Str}{py spos:Pos}(hc:X.calm=true)(hN:X.N.Nodup)(S:CompSc X.env.scope X.N scope N' cap)(hi:QI2 X tg iter f2)(hg:∀ cl C ex s₀ H₀,QG (zV X N' scope cl C ex s₀ H₀) tg g)(ht:∀ cl C ex s₀ H₀,QTs (zV X N' scope cl C ex s₀ H₀) ifs t)
  (has:∀ g',(⟨tg,iter,ifs,0⟩::grest:List Comprehension)[0+1]? = some g'→g'.is_async=0)
  (he:∀ cl C ex s₀ H₀,QK (zV X N' scope cl C ex s₀ H₀) (fun acc=>vO elt (⟨tg,iter,ifs,0⟩::grest) scope pos 0 acc (zV X N' scope cl C ex s₀ H₀).env) kk) (hy:X.N[m]? = some y) (hyl:Loc X.env.scope y) (hf:X.fn y=true∨X.env.scope.names.lookup y=some .local)
  (hsw:swapsWith (.ListComp elt (⟨tg,iter,ifs,0⟩::grest) scope pos) (some (.Name y py)) spos.line X.env=pure true) (hs:∀ x,foldedSetIterable iter X.env x=pure x):QS X (.Assign [.Name y py] (.ListComp elt (⟨tg,iter,ifs,0⟩::grest) scope pos) spos) (xN (zP mm cap f2 g t kk) (gNm m)):=
 ⟨FC hc hN S hi.1 (fun cl C ex s H=>(hg cl C ex s H).1) (fun cl C ex s H=>(ht cl C ex s H).1) has (fun cl C ex s H=>(he cl C ex s H).1) hy hyl hf hsw hs⟩
theorem CZ (hr:RoomC cm k X.A):ZOp X (compareOp .Lt) cY:=⟨RM (by have:=hu1 hr;omega)⟩
end
section
variable {X:Cx}{scope:Scope}{N':List Str}{cl:List (Str × Addr)}{C:Addr}{ex:List Addr}{s₀:Shared}{H₀:Hp}{x:Str}
theorem xU (h:scope.names.lookup x=some .local):(zV X N' scope cl C ex s₀ H₀).env.scope.names.lookup x=some .local:=by
 rcases gA (env:=X.env) h with g|⟨e,_⟩
 ·exact g
 ·cases e
end
end _D
end
section
namespace _D
open PySem PySem.Spec PyProof.Rows _L
section
variable {X:Cx}{cm:Bool}{k:Nat}{e:Expr}{fa:DE}{p1 p2 pos1 pos2:Pos}
theorem o8 (hc:X.calm=true)(hr:RoomC cm k X.A)(hg:Gl X "sorted")(hm:X.mg "sorted" = none)(hg2:Gl X "set")(hm2:X.mg "set" = none)(ha:QE X e fa)(he:starEach [e] X.env=(false,eval e X.env)::starEach [] X.env:=by rfl) :
  QE X (.Call (.Name "sorted" p1) [.Call (.Name "set" p2) [e] [] pos2] [] pos1) (jB fa):=⟨JW hc hr.units hg hm hg2 hm2 ha.1 he⟩
end
end _D
end
section
namespace _D
open PySem PySem.Spec PyProof.Rows _L
section
variable {X:Cx}{cm:Bool}{k:Nat}{e ek:Expr}{fe fk:DE}{p2 pos:Pos}
theorem lO (hr:RoomC cm k X.A):ZCall X (.builtin "repr") eM:=⟨TM hr.gd hr.units⟩
theorem UA:bootBuiltins "repr" = some (.builtin "repr"):=by decide +kernel
theorem J6 (he:QE X e fe)(hk:QE X ek fk):QE X (.Subscript e (.Slice none none (some ek) p2) pos) (fK fe fk):=⟨N0 he.1 hk.1⟩
end
end _D
end
section
namespace _D
open PySem
def Nx (o:Out)(Q:qG→Sto→Prop):Prop:=∃ env S,o=.nx env S∧Q env S
def Rt (o:Out)(Q:D→Sto→Prop):Prop:=∃ d S,o=.rt d S∧Q d S
def Ok {β : Type}(r:Res β)(Q:β→Sto→Prop):Prop:=∃ d S,r=.ok d S∧Q d S
theorem uN {o:Out}{Q:qG→Sto→Prop}{env:qG}{S:Sto}(h:o=.nx env S)(q:Q env S):Nx o Q:=⟨env,S,h,q⟩
theorem vM {β : Type}{r:Res β}{Q:β→Sto→Prop}{d:β}{S:Sto}(h:r=.ok d S)(q:Q d S):Ok r Q:=⟨d,S,h,q⟩
theorem lH {f g:DS}{env:qG}{S:Sto}{Q:qG→Sto→Prop}(h:Nx (f env S) fun env1 S1=>Nx (g env1 S1) Q):Nx (zL f g env S) Q:=by
 obtain⟨env1,S1,e,env2,S2,e2,q⟩:=h
 exact⟨env2,S2,by unfold zL;rw[e];exact e2,q⟩
theorem xA {f g:DS}{env:qG}{S:Sto}{Q:D→Sto→Prop}(h:Nx (f env S) fun env1 S1=>Rt (g env1 S1) Q):Rt (zL f g env S) Q:=by
 obtain⟨env1,S1,e,env2,S2,e2,q⟩:=h
 exact⟨env2,S2,by unfold zL;rw[e];exact e2,q⟩
theorem kQ {t:DT}{f g:DS}{env:qG}{S S1:Sto}{b:Bool}{Q:qG→Sto→Prop}(h:t env S=.ok b S1)(k:Nx ((if b then f else g) env S1) Q):Nx (sIf t f g env S) Q:=by
 obtain⟨env2,S2,e2,q⟩:=k
 refine⟨env2,S2,?_,q⟩
 unfold sIf
 rw[h]
 cases b <;> exact e2
theorem yE {f:DE}{env:qG}{S:Sto}{Q:D→Sto→Prop}(h:Ok (f env S) Q):Rt (zX f env S) Q:=by
 obtain⟨d,S1,e,q⟩:=h
 exact⟨_,S1,by unfold zX;rw[e];rfl,q⟩
theorem iZ {fi:DI}{g:DG}{f:DS}{env:qG}{S S1:Sto}{ds:List D}{Q:qG→Sto→Prop}(h:fi env S=.ok ds S1)(k:Nx (pW g f ds env S1) Q):Nx (dN fi g f env S) Q:=by
 obtain⟨env2,S2,e2,q⟩:=k
 exact⟨env2,S2,by unfold dN;rw[h];exact e2,q⟩
theorem eT {g:DG}{f:DS}{Q:qG→Sto→Prop}(I:List D→qG→Sto→Prop)(turn:∀ d ds env S,I (d::ds) env S→∃ env1 S1,g d env S=.ok env1 S1∧Nx (f env1 S1) (I ds))(last:∀ env S,I [] env S→Q env S) :
  ∀ {ds:List D} {env:qG} {S:Sto},I ds env S→Nx (pW g f ds env S) Q
 |[],env,S,h=>⟨env,S,rfl,last env S h⟩
 |d::ds,env,S,h=>by
  obtain⟨env1,S1,e1,env2,S2,e2,h2⟩:=turn d ds env S h
  obtain⟨env3,S3,e3,q⟩:=eT I turn last (ds:=ds) h2
  refine⟨env3,S3,?_,q⟩
  unfold pW
  simp only[e1,Res.toS,e2]
  exact e3
theorem Q1 {o:Option (Nat × MO)}{g:DG}{t:DT}{k:DK}(out:D→List D)(C:qG→Sto→Prop)(hC:∀ env S,C env S→stn o S) :
  ∀ (items:List D) (env:qG) (S:Sto) (acc:List D),C env S→acc.length+(items.flatMap out).length≤lim →
  (∀ d∈items,∀ env S acc,C env S→acc.length+(out d).length≤lim→∃ env1 S1 b S2,g d env S=.ok env1 S1∧t env1 S1=.ok b S2∧((b=false∧out d=[]∧C env1 S2)∨(b=true∧∃ env3 S3,k env1 S2 acc=.ok (env3,acc++out d) S3∧C env3 S3))) →
  ∃ env' S',goL o g t k items env S acc=.ok (env',acc++items.flatMap out) S'∧C env' S'
 |[],env,S,acc,h,hl,_=>⟨env,S,by simp[goL,uR.mpr (hC _ _ h)],h⟩
 |d::ds,env,S,acc,h,hl,step=>by
  rw[List.flatMap_cons,List.length_append] at hl
  obtain⟨env1,S1,b,S2,e1,e2,r⟩:=step d (List.mem_cons_self ..) env S acc h (by omega)
  have hst:=uR.mpr (hC _ _ h)
  rcases r with⟨rfl,h0,h2⟩|⟨rfl,env3,S3,e3,h3⟩
  ·obtain⟨env',S',e,q⟩:=Q1 out C hC ds env1 S2 acc h2 (by omega) fun d hd=>step d (List.mem_cons_of_mem _ hd)
   refine⟨env',S',?_,q⟩
   simp only[goL,hst,if_true,e1,e2,Res.bind,Bool.false_eq_true,if_false,List.flatMap_cons,h0,List.nil_append]
   exact e
  ·obtain⟨env',S',e,q⟩:=Q1 out C hC ds env3 S3 (acc++out d) h3 (by rw[List.length_append];omega) fun d hd=>step d (List.mem_cons_of_mem _ hd)
   refine⟨env',S',?_,q⟩
   simp only[goL,hst,if_true,e1,e2,Res.bind,e3,List.flatMap_cons]
   rw[e,List.append_assoc]
theorem aJ {fe:DE}{env:qG}{S S1:Sto}{acc:List D}{x:D}(h:fe env S=.ok x S1)(hl:acc.length<lim):zR fe env S acc=.ok (env,acc++[x]) S1:=by
 unfold zR
 rw[h]
 simp[Res.bind,hl]
theorem sZ {cap:List (Option Nat)}{fi:DI2}{g:DG}{t:DT}{k:DK}{env env':qG}{S S1 S':Sto}{o:Option (Nat × MO)}{items ds:List D}(h:fi env S=.ok (o,items) S1)(e:goL o g t k items (vN cap env) S1 [] = .ok (env',ds) S'):zP false cap fi g t k env S=.ok (.lst ds) S':=by
 unfold zP
 rw[h]
 simp only[Res.bind,e,mkM]
 rfl
end _D
end
section
namespace _D
open PySem
theorem JA {n:Nat}{f:DE}{ds:List D}{S S':Sto}{d:D}{env:qG}(hs:p8 n ds=env)(h:f env S=.ok d S'):zA n (zX f) ds S=.ok d S':=by
 subst hs
 unfold zA zX
 rw[h]
 rfl
theorem rY {n:Nat}{g:DS}{ds:List D}{S S':Sto}{d:D}{env:qG}(hs:p8 n ds=env)(h:g env S=.rt d S'):zA n g ds S=.ok d S':=by
 subst hs
 unfold zA
 rw[h]
 rfl
theorem eO {α β:Type}(sel:α→Bool)(val:α→β)(l:List α) : (l.flatMap fun d=>if sel d then [val d] else []) = (l.filter sel).map val:=by
 induction l with
 |nil=>rfl
 |cons d l ih =>
  rw[List.flatMap_cons,ih]
  cases h:sel d <;> simp[h]
section
variable {cap:List (Option Nat)}{fi:DI2}{g:DG}{t:DT}{fe:DE}{env:qG}{S S0:Sto}{o:Option (Nat × MO)}{items:List D}
theorem AF (hst:stn o S)(sel:D→Bool)(val:D→D)(C:qG→Prop)(h0:C env)(hl:items.length≤lim)
  (step:∀ d∈items,∀ env,C env→∃ env1,g d env S=.ok env1 S∧C env1∧t env1 S=.ok (sel d) S∧(sel d=true→fe env1 S=.ok (val d) S)) :
  ∃ env',goL o g t (zR fe) items env S [] = .ok (env',(items.filter sel).map val) S:=by
 have lf:(items.flatMap fun d=>if sel d then [val d] else []).length≤lim:=by
  rw[eO,List.length_map]
  exact Nat.le_trans (List.length_filter_le _ _) hl
 obtain⟨env',S',e,_,q⟩:=Q1 (o:=o) (g:=g) (t:=t) (k:=zR fe) (fun d=>if sel d then [val d] else []) (fun env S'=>C env∧S'=S) (fun _ _ h=>h.2▸hst) items env S [] ⟨h0,rfl⟩ (by simpa using lf) (fun d hd env S' acc hC hl=>by
  obtain⟨hc,rfl⟩:=hC
  obtain⟨env1,e1,c1,e2,k⟩:=step d hd env hc
  refine⟨env1,S',sel d,S',e1,e2,?_⟩
  cases hs:sel d with
  |false=>exact .inl ⟨rfl,by simp,c1,rfl⟩
  |true =>
   refine .inr ⟨rfl,env1,S',?_,c1,rfl⟩
   simp only[if_true]
   exact aJ (k hs) (by simp only[hs,if_true,List.length_singleton] at hl;omega))
 subst q
 refine⟨env',?_⟩
 rw[e,List.nil_append,eO]
theorem WC (h:fi env S=.ok (o,items) S)(hst:stn o S)(sel:D→Bool)(val:D→D)(C:qG→Prop)(h0:C (vN cap env))(hl:items.length≤lim)
  (step:∀ d∈items,∀ env,C env→∃ env1,g d env S=.ok env1 S∧C env1∧t env1 S=.ok (sel d) S∧(sel d=true→fe env1 S=.ok (val d) S)) :
  zP false cap fi g t (zR fe) env S=.ok (.lst ((items.filter sel).map val)) S:=by
 obtain⟨env',e⟩:=AF hst sel val C h0 hl step
 exact sZ h e
end
end _D
end
section
namespace _D
open PySem
theorem goT {α : Type}{enc:α→D}{o:Option (Nat × MO)}{g:DG}{t:DT}{k:DK}(out:α→List D)(C:qG→Sto→Prop)(hC:∀ env S,C env S→stn o S) :
  ∀ (xs:List α) (env:qG) (S:Sto) (acc:List D),C env S→acc.length+(xs.flatMap out).length≤lim →
  (∀ x∈xs,∀ env S acc,C env S→acc.length+(out x).length≤lim→∃ env1 S1 b S2,g (enc x) env S=.ok env1 S1∧t env1 S1=.ok b S2∧((b=false∧out x=[]∧C env1 S2)∨(b=true∧∃ env3 S3,k env1 S2 acc=.ok (env3,acc++out x) S3∧C env3 S3))) →
  ∃ env' S',goL o g t k (xs.map enc) env S acc=.ok (env',acc++xs.flatMap out) S'∧C env' S'
 |[],env,S,acc,h,hl,_=>⟨env,S,by simp[goL,uR.mpr (hC _ _ h)],h⟩
 |x::xs,env,S,acc,h,hl,step=>by
  rw[List.flatMap_cons,List.length_append] at hl
  obtain⟨env1,S1,b,S2,e1,e2,r⟩:=step x (List.mem_cons_self ..) env S acc h (by omega)
  have hst:=uR.mpr (hC _ _ h)
  rcases r with⟨rfl,h0,h2⟩|⟨rfl,env3,S3,e3,h3⟩
  ·obtain⟨env',S',e,q⟩:=goT out C hC xs env1 S2 acc h2 (by omega) fun d hd=>step d (List.mem_cons_of_mem _ hd)
   refine⟨env',S',?_,q⟩
   simp only[List.map_cons,goL,hst,if_true,e1,e2,Res.bind,Bool.false_eq_true,if_false,List.flatMap_cons,h0,List.nil_append]
   exact e
  ·obtain⟨env',S',e,q⟩:=goT out C hC xs env3 S3 (acc++out x) h3 (by rw[List.length_append];omega) fun d hd=>step d (List.mem_cons_of_mem _ hd)
   refine⟨env',S',?_,q⟩
   simp only[List.map_cons,goL,hst,if_true,e1,e2,Res.bind,e3,List.flatMap_cons]
   rw[e,List.append_assoc]
section
variable {α β:Type}{enc:α→D}{enc2:β→D}{cap:List (Option Nat)}{fi:DI2}{g:DG}{t:DT}{fe:DE}{env:qG}{S S0:Sto}{o:Option (Nat × MO)}{xs:List α}
theorem HR (hst:stn o S)(sel:α→Bool)(val:α→D)(C:qG→Prop)(h0:C env)(hl:xs.length≤lim)
  (step:∀ x∈xs,∀ env,C env→∃ env1,g (enc x) env S=.ok env1 S∧C env1∧t env1 S=.ok (sel x) S∧(sel x=true→fe env1 S=.ok (val x) S)) :
  ∃ env',goL o g t (zR fe) (xs.map enc) env S [] = .ok (env',(xs.filter sel).map val) S:=by
 have lf:(xs.flatMap fun d=>if sel d then [val d] else []).length≤lim:=by
  rw[eO,List.length_map]
  exact Nat.le_trans (List.length_filter_le _ _) hl
 obtain⟨env',S',e,_,q⟩:=goT (enc:=enc) (o:=o) (g:=g) (t:=t) (k:=zR fe) (fun d=>if sel d then [val d] else []) (fun env S'=>C env∧S'=S) (fun _ _ h=>h.2▸hst) xs env S [] ⟨h0,rfl⟩ (by simpa using lf) (fun d hd env S' acc hC hl=>by
  obtain⟨hc,rfl⟩:=hC
  obtain⟨env1,e1,c1,e2,k⟩:=step d hd env hc
  refine⟨env1,S',sel d,S',e1,e2,?_⟩
  cases hs:sel d with
  |false=>exact .inl ⟨rfl,by simp,c1,rfl⟩
  |true =>
   refine .inr ⟨rfl,env1,S',?_,c1,rfl⟩
   simp only[if_true]
   exact aJ (k hs) (by simp only[hs,if_true,List.length_singleton] at hl;omega))
 subst q
 refine⟨env',?_⟩
 rw[e,List.nil_append,eO]
theorem UE (h:fi env S=.ok (o,xs.map enc) S)(hst:stn o S)(sel:α→Bool)(val:α→D)(C:qG→Prop)(h0:C (vN cap env))(hl:xs.length≤lim)
  (step:∀ x∈xs,∀ env,C env→∃ env1,g (enc x) env S=.ok env1 S∧C env1∧t env1 S=.ok (sel x) S∧(sel x=true→fe env1 S=.ok (val x) S)) :
  zP false cap fi g t (zR fe) env S=.ok (.lst ((xs.filter sel).map val)) S:=by
 obtain⟨env',e⟩:=HR hst sel val C h0 hl step
 exact sZ h e
end
end _D
end
section
namespace _D
open PySem
theorem zJ {o:G2}{f g:DE}{env:qG}{S S1 S2:Sto}{a b:D}(h1:f env S=.ok a S1)(h2:g env S1=.ok b S2):d2 o f g env S=o a b S2:=by
 unfold d2
 rw[h1]
 simp only[Res.bind]
 rw[h2]
theorem kN {F:DF}{f1:DE}{env:qG}{S S1:Sto}{a:D}(h1:f1 env S=.ok a S1):qP 1 F (q8 f1 (qC)) env S=F [a] S1:=by
 simp only[qP,q8,qC,h1,Res.bind,List.length_cons,List.length_nil,if_true]
theorem fG {F:DF}{f1 f2:DE}{env:qG}{S S1 S2:Sto}{a b:D}(h1:f1 env S=.ok a S1)(h2:f2 env S1=.ok b S2):qP 2 F (q8 f1 (q8 f2 (qC))) env S=F [a,b] S2:=by
 simp only[qP,q8,qC,h1,h2,Res.bind,List.length_cons,List.length_nil,if_true]
theorem H0 {F:DF}{f1 f2 f3:DE}{env:qG}{S S1 S2 S3:Sto}{a b c:D}(h1:f1 env S=.ok a S1)(h2:f2 env S1=.ok b S2)(h3:f3 env S2=.ok c S3):qP 3 F (q8 f1 (q8 f2 (q8 f3 (qC)))) env S=F [a,b,c] S3:=by
 simp only[qP,q8,qC,h1,h2,h3,Res.bind,List.length_cons,List.length_nil,if_true]
theorem gP {F:DF}{f1:DE}{env:qG}{S S1:Sto}{a:D}(h1:f1 env S=.ok a S1):qH F (q8 f1 (qC)) env S=F [a] S1:=by
 simp only[qH,q8,qC,h1,Res.bind]
theorem G4 {F:DF}{f1 f2:DE}{env:qG}{S S1 S2:Sto}{a b:D}(h1:f1 env S=.ok a S1)(h2:f2 env S1=.ok b S2):qH F (q8 f1 (q8 f2 (qC))) env S=F [a,b] S2:=by
 simp only[qH,q8,qC,h1,h2,Res.bind]
theorem pY {f:DE}{env:qG}{S S1:Sto}{b:Bool}(h:f env S=.ok (.bl b) S1):dTr f env S=.ok b S1:=by
 unfold dTr
 rw[h]
 rfl
theorem mU {f:DT}{env:qG}{S S1:Sto}{b:Bool}(h:f env S=.ok b S1):wC f env S=.ok (!b) S1:=by
 unfold wC
 rw[h]
 rfl
theorem fP {f g:DT}{env:qG}{S S1 S2:Sto}{a b:Bool}(h:f env S=.ok a S1)(k:a=false→g env S1=.ok b S2)(e:a=true→S1=S2):jA f g env S=.ok (a||b) S2:=by
 unfold jA
 rw[h]
 cases a with
 |true=>cases e rfl;rfl
 |false=>exact k rfl
theorem XZ {f g:DE}{env:qG}{S S1 S2:Sto}{a b:Bool}(h:f env S=.ok (.bl a) S1)(k:a=true→g env S1=.ok (.bl b) S2)(e:a=false→S1=S2):k7 f g env S=.ok (.bl (a&&b)) S2:=by
 unfold k7
 rw[h]
 cases a with
 |false=>cases e rfl;rfl
 |true=>exact k rfl
theorem uW {f1:DE}{env:qG}{S S1:Sto}{a:D}(h1:f1 env S=.ok a S1):q8 f1 (qC) env S=.ok [a] S1:=by
 simp only[q8,qC,h1,Res.bind]
theorem wD {f1 f2:DE}{env:qG}{S S1 S2:Sto}{a b:D}(h1:f1 env S=.ok a S1)(h2:f2 env S1=.ok b S2):q8 f1 (q8 f2 (qC)) env S=.ok [a,b] S2:=by
 simp only[q8,qC,h1,h2,Res.bind]
theorem zN {f:DE}{g:DA}{env:qG}{S S1 S2:Sto}{a:D}{as:List D}(h:f env S=.ok a S1)(k:g env S1=.ok as S2):q8 f g env S=.ok (a::as) S2:=by
 simp only[q8,h,k,Res.bind]
theorem v9 {g:DA}{env:qG}{S S1:Sto}{as:List D}(k:g env S=.ok as S1)(h:as.length≤lim):xX g env S=.ok (.lst as) S1:=by
 simp only[xX,k,Res.bind,h,if_true]
theorem wB {g:DA}{env:qG}{S S1:Sto}{as:List D}(k:g env S=.ok as S1)(h:as.length≤lim):qV g env S=.ok (.tup as) S1:=by
 simp only[qV,k,Res.bind,h,if_true]
theorem uA {env:qG}{i:Nat}{d:D}{S:Sto}(h:env[i]? = some (some d)):qB i env S=.ok d S:=by simp only[qB,h]
theorem bE {α : Type}(l:List α) : l.filter (fun _=>true)=l:=by simp
theorem KY {α : Type}(p:α→Bool)(l:List α) : j7 (l.map fun x=>D.bl (p x))=some (l.map p):=by
 induction l with
 |nil=>rfl
 |cons x l ih =>
  show (j7 (l.map fun x=>D.bl (p x))).map (p x::·)=_
  rw[ih];rfl
theorem aX {α : Type}{f:DE}{env:qG}{S S1:Sto}{l:List α}{p:α→Bool}(h:f env S=.ok (.lst (l.map fun x=>D.bl (p x))) S1):qH (gS false) (q8 f (qC)) env S=.ok (.bl (l.all p)) S1:=by
 rw[gP h]
 show (match (wK (.lst (l.map fun x=>D.bl (p x)))).bind j7 with|some bs=>Res.ok (D.bl (bs.all id)) S1|none=>.bad)=_
 rw[show (wK (.lst (l.map fun x=>D.bl (p x)))).bind j7=some (l.map p) from KY p l]
 simp only[List.all_map]
 rfl
theorem YI {i j:Nat}{f1 f2:DE}{env:qG}{S S1 S2:Sto}{a b:D}{Q:qG→Sto→Prop}(h1:f1 env S=.ok a S1)(h2:f2 env S1=.ok b S2)(q:Q ((env.set i (some a)).set j (some b)) S2):Nx (aS i j (q8 f1 (q8 f2 (qC))) env S) Q:=by
 unfold aS
 rw[wD h1 h2]
 exact uN rfl q
theorem xJ {f:DE}{g:DG}{env env1:qG}{S S1 S2:Sto}{d:D}{Q:qG→Sto→Prop}(h1:f env S=.ok d S1)(h2:g d env S1=.ok env1 S2)(q:Q env1 S2):Nx (xN f g env S) Q:=by
 unfold xN
 rw[h1]
 simp only[Res.toS]
 rw[h2]
 exact uN rfl q
theorem mX {t:DT}{f g:DS}{env:qG}{S S1:Sto}{b:Bool}{Q:D→Sto→Prop}(h:t env S=.ok b S1)(k:Rt ((if b then f else g) env S1) Q):Rt (sIf t f g env S) Q:=by
 unfold sIf
 rw[h]
 cases b <;> exact k
end _D
end
section
namespace _K
open PySem _D
theorem IL (b:Bool)(S:Sto):yF (.bl b) S=some b:=rfl
theorem II (i:Int)(S:Sto):yF (.int i) S=some (i != 0):=rfl
theorem ET (i:Int)(S:Sto):tyD (.int i) S=some "int":=rfl
theorem IU (b:Bool)(S:Sto):tyD (.bl b) S=some "bool":=rfl
theorem IN (S:Sto):tyD .non S=some "NoneType":=rfl
theorem IP (x:Str)(S:Sto):tyD (.str x) S=some "str":=rfl
theorem IQ (x:List D)(S:Sto):tyD (.tup x) S=some "tuple":=rfl
theorem IM (x:List D)(S:Sto):tyD (.lst x) S=some "list":=rfl
theorem IF (x:List D):wK (.tup x)=some x:=rfl
theorem IE (x:List D):wK (.lst x)=some x:=rfl
theorem LA (d:D)(S:Sto):KC (.rt d S)=.ok d S:=rfl
theorem IH (e:qG)(S:Sto):KC (.nx e S)=.ok .non S:=rfl
theorem IG (c:Value)(x:D)(e:qG)(S:Sto):KC (.ex c x e S)=.ex c x S:=rfl
theorem AL (i j:Nat)(env:qG)(S:Sto)(x y:D):YR i j env S [x,y]=.nx ((env.set i (some x)).set j (some y)) S:=rfl
theorem IK (C:Int→Int→Bool)(f:Int→Int→D)(i j:Int)(S:Sto):i2 C f (.int i) (.int j) S=if C i j=true then .ok (f i j) S else .bad:=rfl
theorem NC (b:Bool)(S:Sto):WU [.bl b] S=.ok (.int (b01 b)) S:=rfl
theorem eP {xs:List D}{k:Int}{d:D}(h:_L.atI xs k=some d)(S:Sto):gIx (.lst xs) (.int k) S=.ok d S:=by
 show _D.gY (_L.atI xs k) S=_
 rw[h]
 rfl
end _K
end
open PySem _D _K
section
namespace _K
open PySem PySem.Spec PyProof.Rows _L _D
def top (i:Nat):Stmt:=PySem.Challenge.pw_fewdistances_k01_points_and_lots_looked.main.body.getD i (.Pass ⟨0,0,0,0⟩)
structure Cl where
 u:Unit
def BW (c:Cl):List Addr:=[]
structure Txt (K:PySem.W.Frag)(mg:Str→Option Value)(c:Cl):Prop where
 s_is_whole:Src K mg "is_whole" (top 1) ["thing"]
 s_is_within:Src K mg "is_within" (top 2) ["thing","least","most"]
 s_is_rising:Src K mg "is_rising" (top 3) ["some"]
 s_is_point:Src K mg "is_point" (top 8) ["thing"]
 s_is_lot:Src K mg "is_lot" (top 9) ["thing"]
 s__law_cell:Src K mg "_law_cell" (top 11) ["_law_script","_law_k"]
 s__law_pen:Src K mg "_law_pen" (top 12) ["_law_cell_here"]
 s__law_draw:Src K mg "_law_draw" (top 13) ["_law_pen_here","_law_many"]
 s__law_whole:Src K mg "_law_whole" (top 14) ["_law_thing"]
 s__law_same:Src K mg "_law_same" (top 15) ["_law_found","_law_due"]
 s__law_point:Src K mg "_law_point" (top 16) ["_law_pen_here","_law_wide"]
 s__law_lot:Src K mg "_law_lot" (top 17) ["_law_pen_here","_law_most"]
 s__law_is_point:Src K mg "_law_is_point" (top 18) ["_law_thing"]
 s__law_is_lot:Src K mg "_law_is_lot" (top 19) ["_law_thing"]
 s__law_no_point:Src K mg "_law_no_point" (top 20) ["_law_pen_here","_law_point_here"]
 s__law_no_lot:Src K mg "_law_no_lot" (top 21) ["_law_pen_here","_law_lot_here"]
 s__law_right:Src K mg "_law_right" (top 22) ["_law_thing"]
 s_law:Src K mg "law" (top 23) ["_law_script"]
 n_all:mg "all" = none
 n_bool:mg "bool" = none
 n_int:mg "int" = none
 n_isinstance:mg "isinstance" = none
 n_len:mg "len" = none
 n_list:mg "list" = none
 n_range:mg "range" = none
 n_repr:mg "repr" = none
 n_set:mg "set" = none
 n_sorted:mg "sorted" = none
 n_str:mg "str" = none
 n_tuple:mg "tuple" = none
 n_zip:mg "zip" = none
 nd:(BW c).Nodup
 g_LEAST_NUMBER:∃ t,mg "LEAST_NUMBER" = some (.int (-1000) t)
 g_MOST_NUMBER:∃ t,mg "MOST_NUMBER" = some (.int (1000) t)
 g_MOST_POINTS:∃ t,mg "MOST_POINTS" = some (.int (40) t)
theorem iX:("int" : Str) ≠ "__name__":=kd
theorem i3:(("int" : Str) == ("__debug__" : Str))=false:=kd
theorem v7:(("thing" : Str) == ("__debug__" : Str))=false:=kd
theorem v4:(("thing" : Str) == ("__classdict__" : Str))=false:=kd
theorem zH:("isinstance" : Str) ≠ "__name__":=kd
theorem zG:(("isinstance" : Str) == ("__debug__" : Str))=false:=kd
theorem eS:("bool" : Str) ≠ "__name__":=kd
theorem eK:(("bool" : Str) == ("__debug__" : Str))=false:=kd
theorem U7:FnScope ["thing"] ["thing"] (q9 (top 1)):=⟨rfl,rfl,rfl,kd,rfl,kd,kd⟩
theorem sK:(q9 (top 1)).names.lookup ("thing" : Str)=some .local:=kd
theorem iG {l f:Addr}{cd:Value}:(envOfC "is_whole" (q9 (top 1)) l f cd).kindOf "int" = some .globalImplicit:=by kernel_rfl
theorem kJ {l f:Addr}{cd:Value}:(envOfC "is_whole" (q9 (top 1)) l f cd).kindOf "isinstance" = some .globalImplicit:=by kernel_rfl
theorem aD {l f:Addr}{cd:Value}:(envOfC "is_whole" (q9 (top 1)) l f cd).kindOf "bool" = some .globalImplicit:=by kernel_rfl
theorem VV:(("is_whole" : Str) == ("__debug__" : Str))=false:=kd
theorem F1:(("least" : Str) == ("__debug__" : Str))=false:=kd
theorem BQ:(("least" : Str) == ("__classdict__" : Str))=false:=kd
theorem TU:(("most" : Str) == ("__debug__" : Str))=false:=kd
theorem TL:(("most" : Str) == ("__classdict__" : Str))=false:=kd
theorem V5:FnScope ["thing","least","most"] ["thing","least","most"] (q9 (top 2)):=⟨rfl,rfl,rfl,kd,rfl,kd,kd⟩
theorem lE:(q9 (top 2)).names.lookup ("thing" : Str)=some .local:=kd
theorem Q8:(q9 (top 2)).names.lookup ("least" : Str)=some .local:=kd
theorem Q9:(q9 (top 2)).names.lookup ("most" : Str)=some .local:=kd
theorem nX {l f:Addr}{cd:Value}:(envOfC "is_within" (q9 (top 2)) l f cd).kindOf "is_whole" = some .globalImplicit:=by kernel_rfl
theorem UI:(("some" : Str) == ("__debug__" : Str))=false:=kd
theorem UB:(("some" : Str) == ("__classdict__" : Str))=false:=kd
theorem DV:(("one" : Str) == ("__debug__" : Str))=false:=kd
theorem DP:(("one" : Str) == ("__classdict__" : Str))=false:=kd
theorem F2:(("other" : Str) == ("__debug__" : Str))=false:=kd
theorem BR:(("other" : Str) == ("__classdict__" : Str))=false:=kd
theorem lF:("all" : Str) ≠ "__name__":=kd
theorem nP:(("all" : Str) == ("__debug__" : Str))=false:=kd
theorem V4:FnScope ["some"] ["some"] (q9 (top 3)):=⟨rfl,rfl,rfl,kd,rfl,kd,kd⟩
theorem lD:(q9 (top 3)).names.lookup ("some" : Str)=some .local:=kd
theorem aC {l f:Addr}{cd:Value}:(envOfC "is_rising" (q9 (top 3)) l f cd).kindOf "zip" = some .globalImplicit:=by kernel_rfl
theorem aB {l f:Addr}{cd:Value}:(envOfC "is_rising" (q9 (top 3)) l f cd).kindOf "all" = some .globalImplicit:=by kernel_rfl
def pE:Scope:={ kind:=.function,names:=[(Str.ofString ".0",NameKind.local),(Str.ofString "one",NameKind.local),(Str.ofString "other",NameKind.local)],isGenerator:=false,isCoroutine:=false,more:=[] }
theorem j8:pE.names.lookup ("one" : Str)=some NameKind.local:=kd
theorem uJ:pE.names.lookup ("other" : Str)=some NameKind.local:=kd
theorem pF:CompSc (q9 (top 3)) ["some"] pE ["one","other"] [none,none]:=⟨rfl,kd,kd,kd,kd,rfl,kd,kd⟩
theorem oR:(("MOST_NUMBER" : Str) == ("__debug__" : Str))=false:=kd
theorem i0:(("LEAST_NUMBER" : Str) == ("__debug__" : Str))=false:=kd
theorem GE:(("number" : Str) == ("__debug__" : Str))=false:=kd
theorem G7:(("number" : Str) == ("__classdict__" : Str))=false:=kd
theorem WR:(("is_within" : Str) == ("__debug__" : Str))=false:=kd
theorem vV:("tuple" : Str) ≠ "__name__":=kd
theorem vS:(("tuple" : Str) == ("__debug__" : Str))=false:=kd
theorem gT:("len" : Str) ≠ "__name__":=kd
theorem gR:(("len" : Str) == ("__debug__" : Str))=false:=kd
theorem U6:FnScope ["thing"] ["thing"] (q9 (top 8)):=⟨rfl,rfl,rfl,kd,rfl,kd,kd⟩
theorem f8:(q9 (top 8)).names.lookup ("thing" : Str)=some .local:=kd
theorem iE {l f:Addr}{cd:Value}:(envOfC "is_point" (q9 (top 8)) l f cd).kindOf "all" = some .globalImplicit:=by kernel_rfl
theorem cA {l f:Addr}{cd:Value}:(envOfC "is_point" (q9 (top 8)) l f cd).kindOf "tuple" = some .globalImplicit:=by kernel_rfl
theorem n9 {l f:Addr}{cd:Value}:(envOfC "is_point" (q9 (top 8)) l f cd).kindOf "isinstance" = some .globalImplicit:=by kernel_rfl
theorem iF {l f:Addr}{cd:Value}:(envOfC "is_point" (q9 (top 8)) l f cd).kindOf "len" = some .globalImplicit:=by kernel_rfl
def uV:Scope:={ kind:=.function,names:=[(Str.ofString ".0",NameKind.local),(Str.ofString "number",NameKind.local),(Str.ofString "is_within",NameKind.globalImplicit),(Str.ofString "LEAST_NUMBER",NameKind.globalImplicit),(Str.ofString "MOST_NUMBER",NameKind.globalImplicit)],isGenerator:=false,isCoroutine:=false,more:=[] }
theorem uI:uV.names.lookup ("number" : Str)=some NameKind.local:=kd
theorem t6:uV.names.lookup ("is_within" : Str)=some NameKind.globalImplicit:=kd
theorem bT:uV.names.lookup ("LEAST_NUMBER" : Str)=some NameKind.globalImplicit:=kd
theorem fH:uV.names.lookup ("MOST_NUMBER" : Str)=some NameKind.globalImplicit:=kd
theorem sE:CompSc (q9 (top 8)) ["thing"] uV ["number"] [none]:=⟨rfl,kd,kd,kd,kd,rfl,kd,kd⟩
theorem F3:(("point" : Str) == ("__debug__" : Str))=false:=kd
theorem BS:(("point" : Str) == ("__classdict__" : Str))=false:=kd
theorem cL:(("is_point" : Str) == ("__debug__" : Str))=false:=kd
theorem WQ:(("is_rising" : Str) == ("__debug__" : Str))=false:=kd
theorem oS:(("MOST_POINTS" : Str) == ("__debug__" : Str))=false:=kd
theorem B7:FnScope ["thing"] ["thing"] (q9 (top 9)):=⟨rfl,rfl,rfl,kd,rfl,kd,kd⟩
theorem pV:(q9 (top 9)).names.lookup ("thing" : Str)=some .local:=kd
theorem XA {l f:Addr}{cd:Value}:(envOfC "is_lot" (q9 (top 9)) l f cd).kindOf "all" = some .globalImplicit:=by kernel_rfl
theorem sR {l f:Addr}{cd:Value}:(envOfC "is_lot" (q9 (top 9)) l f cd).kindOf "is_rising" = some .globalImplicit:=by kernel_rfl
theorem iC {l f:Addr}{cd:Value}:(envOfC "is_lot" (q9 (top 9)) l f cd).kindOf "tuple" = some .globalImplicit:=by kernel_rfl
theorem d7 {l f:Addr}{cd:Value}:(envOfC "is_lot" (q9 (top 9)) l f cd).kindOf "isinstance" = some .globalImplicit:=by kernel_rfl
theorem XB {l f:Addr}{cd:Value}:(envOfC "is_lot" (q9 (top 9)) l f cd).kindOf "len" = some .globalImplicit:=by kernel_rfl
theorem nW {l f:Addr}{cd:Value}:(envOfC "is_lot" (q9 (top 9)) l f cd).kindOf "MOST_POINTS" = some .globalImplicit:=by kernel_rfl
def tY:Scope:={ kind:=.function,names:=[(Str.ofString ".0",NameKind.local),(Str.ofString "point",NameKind.local),(Str.ofString "is_point",NameKind.globalImplicit)],isGenerator:=false,isCoroutine:=false,more:=[] }
theorem jZ:tY.names.lookup ("point" : Str)=some NameKind.local:=kd
theorem lS:tY.names.lookup ("is_point" : Str)=some NameKind.globalImplicit:=kd
theorem cI:CompSc (q9 (top 9)) ["thing"] tY ["point"] [none]:=⟨rfl,kd,kd,kd,kd,rfl,kd,kd⟩
theorem ZB:(("_law_k" : Str) == ("__debug__" : Str))=false:=kd
theorem Z8:(("_law_k" : Str) == ("__classdict__" : Str))=false:=kd
theorem jR:(("_law_script" : Str) == ("__debug__" : Str))=false:=kd
theorem jQ:(("_law_script" : Str) == ("__classdict__" : Str))=false:=kd
theorem V3:FnScope ["_law_script","_law_k"] ["_law_script","_law_k"] (q9 (top 11)):=⟨rfl,rfl,rfl,kd,rfl,kd,kd⟩
theorem l4:(q9 (top 11)).names.lookup ("_law_script" : Str)=some .local:=kd
theorem l8:(q9 (top 11)).names.lookup ("_law_k" : Str)=some .local:=kd
theorem a8 {l f:Addr}{cd:Value}:(envOfC "_law_cell" (q9 (top 11)) l f cd).kindOf "len" = some .globalImplicit:=by kernel_rfl
theorem k8:(("_law_cell_here" : Str) == ("__debug__" : Str))=false:=kd
theorem jY:(("_law_cell_here" : Str) == ("__classdict__" : Str))=false:=kd
theorem U5:FnScope ["_law_cell_here"] ["_law_cell_here"] (q9 (top 12)):=⟨rfl,rfl,rfl,kd,rfl,kd,kd⟩
theorem sJ:(q9 (top 12)).names.lookup ("_law_cell_here" : Str)=some .local:=kd
theorem iB {l f:Addr}{cd:Value}:(envOfC "_law_pen" (q9 (top 12)) l f cd).kindOf "int" = some .globalImplicit:=by kernel_rfl
theorem qK:(("_law_pen_here" : Str) == ("__debug__" : Str))=false:=kd
theorem qJ:(("_law_pen_here" : Str) == ("__classdict__" : Str))=false:=kd
theorem yC:(("_law_many" : Str) == ("__debug__" : Str))=false:=kd
theorem yB:(("_law_many" : Str) == ("__classdict__" : Str))=false:=kd
theorem zZ:(("_law_found" : Str) == ("__debug__" : Str))=false:=kd
theorem zY:(("_law_found" : Str) == ("__classdict__" : Str))=false:=kd
theorem rZ:FnScope ["_law_pen_here","_law_many","_law_found"] ["_law_pen_here","_law_many"] (q9 (top 13)):=⟨rfl,rfl,rfl,kd,rfl,kd,kd⟩
theorem xY:(q9 (top 13)).names.lookup ("_law_pen_here" : Str)=some .local:=kd
theorem pJ:(q9 (top 13)).names.lookup ("_law_many" : Str)=some .local:=kd
theorem lA:(q9 (top 13)).names.lookup ("_law_found" : Str)=some .local:=kd
theorem zC:(("_law_thing" : Str) == ("__debug__" : Str))=false:=kd
theorem zB:(("_law_thing" : Str) == ("__classdict__" : Str))=false:=kd
theorem XO:FnScope ["_law_thing"] ["_law_thing"] (q9 (top 14)):=⟨rfl,rfl,rfl,kd,rfl,kd,kd⟩
theorem tM:(q9 (top 14)).names.lookup ("_law_thing" : Str)=some .local:=kd
theorem c9 {l f:Addr}{cd:Value}:(envOfC "_law_whole" (q9 (top 14)) l f cd).kindOf "int" = some .globalImplicit:=by kernel_rfl
theorem jH {l f:Addr}{cd:Value}:(envOfC "_law_whole" (q9 (top 14)) l f cd).kindOf "isinstance" = some .globalImplicit:=by kernel_rfl
theorem rH {l f:Addr}{cd:Value}:(envOfC "_law_whole" (q9 (top 14)) l f cd).kindOf "bool" = some .globalImplicit:=by kernel_rfl
theorem w9:(("_law_due" : Str) == ("__debug__" : Str))=false:=kd
theorem w8:(("_law_due" : Str) == ("__classdict__" : Str))=false:=kd
theorem PD:("str" : Str) ≠ "__name__":=kd
theorem GF:(("str" : Str) == ("__debug__" : Str))=false:=kd
theorem fU:("list" : Str) ≠ "__name__":=kd
theorem fT:(("list" : Str) == ("__debug__" : Str))=false:=kd
theorem X8:(("_law_other" : Str) == ("__debug__" : Str))=false:=kd
theorem X6:(("_law_other" : Str) == ("__classdict__" : Str))=false:=kd
theorem cK:(("_law_one" : Str) == ("__debug__" : Str))=false:=kd
theorem cF:(("_law_one" : Str) == ("__classdict__" : Str))=false:=kd
theorem r9:(("_law_same" : Str) == ("__debug__" : Str))=false:=kd
theorem mY:FnScope ["_law_found","_law_due","_law_one","_law_other"] ["_law_found","_law_due"] (q9 (top 15)):=⟨rfl,rfl,rfl,kd,rfl,kd,kd⟩
theorem xQ:(q9 (top 15)).names.lookup ("_law_found" : Str)=some .local:=kd
theorem xF:(q9 (top 15)).names.lookup ("_law_due" : Str)=some .local:=kd
theorem lB:(q9 (top 15)).names.lookup ("_law_one" : Str)=some .local:=kd
theorem lC:(q9 (top 15)).names.lookup ("_law_other" : Str)=some .local:=kd
theorem fB {l f:Addr}{cd:Value}:(envOfC "_law_same" (q9 (top 15)) l f cd).kindOf "bool" = some .globalImplicit:=by kernel_rfl
theorem z9 {l f:Addr}{cd:Value}:(envOfC "_law_same" (q9 (top 15)) l f cd).kindOf "isinstance" = some .globalImplicit:=by kernel_rfl
theorem a9 {l f:Addr}{cd:Value}:(envOfC "_law_same" (q9 (top 15)) l f cd).kindOf "int" = some .globalImplicit:=by kernel_rfl
theorem mM {l f:Addr}{cd:Value}:(envOfC "_law_same" (q9 (top 15)) l f cd).kindOf "str" = some .globalImplicit:=by kernel_rfl
theorem jG {l f:Addr}{cd:Value}:(envOfC "_law_same" (q9 (top 15)) l f cd).kindOf "tuple" = some .globalImplicit:=by kernel_rfl
theorem kD {l f:Addr}{cd:Value}:(envOfC "_law_same" (q9 (top 15)) l f cd).kindOf "list" = some .globalImplicit:=by kernel_rfl
theorem aA {l f:Addr}{cd:Value}:(envOfC "_law_same" (q9 (top 15)) l f cd).kindOf "zip" = some .globalImplicit:=by kernel_rfl
theorem n8 {l f:Addr}{cd:Value}:(envOfC "_law_same" (q9 (top 15)) l f cd).kindOf "_law_same" = some .globalImplicit:=by kernel_rfl
theorem mL {l f:Addr}{cd:Value}:(envOfC "_law_same" (q9 (top 15)) l f cd).kindOf "len" = some .globalImplicit:=by kernel_rfl
theorem u4:(("_law_wide" : Str) == ("__debug__" : Str))=false:=kd
theorem u0:(("_law_wide" : Str) == ("__classdict__" : Str))=false:=kd
theorem xM:(("_law_draw" : Str) == ("__debug__" : Str))=false:=kd
theorem XN:FnScope ["_law_pen_here","_law_wide"] ["_law_pen_here","_law_wide"] (q9 (top 16)):=⟨rfl,rfl,rfl,kd,rfl,kd,kd⟩
theorem tK:(q9 (top 16)).names.lookup ("_law_pen_here" : Str)=some .local:=kd
theorem j3:(q9 (top 16)).names.lookup ("_law_wide" : Str)=some .local:=kd
theorem jX {l f:Addr}{cd:Value}:(envOfC "_law_point" (q9 (top 16)) l f cd).kindOf "_law_draw" = some .globalImplicit:=by kernel_rfl
theorem kH:(("_law_way" : Str) == ("__debug__" : Str))=false:=kd
theorem kG:(("_law_way" : Str) == ("__classdict__" : Str))=false:=kd
theorem v6:(("_law_some" : Str) == ("__debug__" : Str))=false:=kd
theorem v3:(("_law_some" : Str) == ("__classdict__" : Str))=false:=kd
theorem rA:(("_law_x" : Str) == ("__debug__" : Str))=false:=kd
theorem sV:(("_law_x" : Str) == ("__classdict__" : Str))=false:=kd
theorem rB:(("_law_y" : Str) == ("__debug__" : Str))=false:=kd
theorem sW:(("_law_y" : Str) == ("__classdict__" : Str))=false:=kd
theorem wJ:(("_law_at" : Str) == ("__debug__" : Str))=false:=kd
theorem wG:(("_law_at" : Str) == ("__classdict__" : Str))=false:=kd
theorem wQ:(("_law_place" : Str) == ("__debug__" : Str))=false:=kd
theorem wP:(("_law_place" : Str) == ("__classdict__" : Str))=false:=kd
theorem WP:(("_law_step" : Str) == ("__debug__" : Str))=false:=kd
theorem WA:(("_law_step" : Str) == ("__classdict__" : Str))=false:=kd
theorem sG:(("_law_point" : Str) == ("__debug__" : Str))=false:=kd
theorem WO:(("_law_most" : Str) == ("__debug__" : Str))=false:=kd
theorem W9:(("_law_most" : Str) == ("__classdict__" : Str))=false:=kd
theorem wA:FnScope ["_law_pen_here","_law_most","_law_way","_law_many","_law_wide","_law_at","_law_step","_law_found","_law_some"] ["_law_pen_here","_law_most"] (q9 (top 17)):=⟨rfl,rfl,rfl,kd,rfl,kd,kd⟩
theorem uY:(q9 (top 17)).names.lookup ("_law_pen_here" : Str)=some .cell:=kd
theorem XE:(q9 (top 17)).names.lookup ("_law_most" : Str)=some .local:=kd
theorem kP:(q9 (top 17)).names.lookup ("_law_way" : Str)=some .local:=kd
theorem vG:(q9 (top 17)).names.lookup ("_law_many" : Str)=some .local:=kd
theorem XF:(q9 (top 17)).names.lookup ("_law_wide" : Str)=some .cell:=kd
theorem XG:(q9 (top 17)).names.lookup ("_law_at" : Str)=some .cell:=kd
theorem XH:(q9 (top 17)).names.lookup ("_law_step" : Str)=some .cell:=kd
theorem wR:(q9 (top 17)).names.lookup ("_law_found" : Str)=some .local:=kd
theorem uZ:(q9 (top 17)).names.lookup ("_law_some" : Str)=some .local:=kd
theorem rF {l f:Addr}{cd:Value}:(envOfC "_law_lot" (q9 (top 17)) l f cd).kindOf "sorted" = some .globalImplicit:=by kernel_rfl
theorem iA {l f:Addr}{cd:Value}:(envOfC "_law_lot" (q9 (top 17)) l f cd).kindOf "set" = some .globalImplicit:=by kernel_rfl
theorem c8 {l f:Addr}{cd:Value}:(envOfC "_law_lot" (q9 (top 17)) l f cd).kindOf "tuple" = some .globalImplicit:=by kernel_rfl
theorem kB {l f:Addr}{cd:Value}:(envOfC "_law_lot" (q9 (top 17)) l f cd).kindOf "range" = some .globalImplicit:=by kernel_rfl
theorem yG {l f:Addr}{cd:Value}:(envOfC "_law_lot" (q9 (top 17)) l f cd).kindOf "_law_draw" = some .globalImplicit:=by kernel_rfl
theorem n4 {l f:Addr}{cd:Value}:(envOfC "_law_lot" (q9 (top 17)) l f cd).kindOf "_law_point" = some .globalImplicit:=by kernel_rfl
def bU:Scope:={ kind:=.function,names:=[(Str.ofString ".0",NameKind.local),(Str.ofString "_law_x",NameKind.local),(Str.ofString "_law_y",NameKind.local)],isGenerator:=false,isCoroutine:=false,more:=[] }
theorem uC:bU.names.lookup ("_law_x" : Str)=some NameKind.local:=kd
theorem uD:bU.names.lookup ("_law_y" : Str)=some NameKind.local:=kd
theorem bY:CompSc (q9 (top 17)) ["_law_pen_here","_law_most","_law_way","_law_many","_law_wide","_law_at","_law_step","_law_found","_law_some"] bU ["_law_x","_law_y"] [none,none]:=⟨rfl,kd,kd,kd,kd,rfl,kd,kd⟩
def bV:Scope:={ kind:=.function,names:=[(Str.ofString ".0",NameKind.local),(Str.ofString "_law_x",NameKind.local),(Str.ofString "_law_y",NameKind.local)],isGenerator:=false,isCoroutine:=false,more:=[] }
theorem uE:bV.names.lookup ("_law_x" : Str)=some NameKind.local:=kd
theorem uF:bV.names.lookup ("_law_y" : Str)=some NameKind.local:=kd
theorem bZ:CompSc (q9 (top 17)) ["_law_pen_here","_law_most","_law_way","_law_many","_law_wide","_law_at","_law_step","_law_found","_law_some"] bV ["_law_x","_law_y"] [none,none]:=⟨rfl,kd,kd,kd,kd,rfl,kd,kd⟩
def bW:Scope:={ kind:=.function,names:=[(Str.ofString ".0",NameKind.local),(Str.ofString "_law_x",NameKind.local),(Str.ofString "_law_y",NameKind.local)],isGenerator:=false,isCoroutine:=false,more:=[] }
theorem uG:bW.names.lookup ("_law_x" : Str)=some NameKind.local:=kd
theorem uH:bW.names.lookup ("_law_y" : Str)=some NameKind.local:=kd
theorem f6:CompSc (q9 (top 17)) ["_law_pen_here","_law_most","_law_way","_law_many","_law_wide","_law_at","_law_step","_law_found","_law_some"] bW ["_law_x","_law_y"] [none,none]:=⟨rfl,kd,kd,kd,kd,rfl,kd,kd⟩
def kO:Scope:={ kind:=.function,names:=[(Str.ofString ".0",NameKind.local),(Str.ofString "_law_place",NameKind.local),(Str.ofString "_law_at",NameKind.free),(Str.ofString "_law_step",NameKind.free)],isGenerator:=false,isCoroutine:=false,more:=[] }
theorem wH:kO.names.lookup ("_law_place" : Str)=some NameKind.local:=kd
theorem kZ:kO.names.lookup ("_law_at" : Str)=some NameKind.free:=kd
theorem t4:kO.names.lookup ("_law_step" : Str)=some NameKind.free:=kd
theorem sB:CompSc (q9 (top 17)) ["_law_pen_here","_law_most","_law_way","_law_many","_law_wide","_law_at","_law_step","_law_found","_law_some"] kO ["_law_place","_law_at","_law_step"] [none,some 5,some 6]:=⟨rfl,kd,kd,kd,kd,rfl,kd,kd⟩
def bX:Scope:={ kind:=.function,names:=[(Str.ofString ".0",NameKind.local),(Str.ofString "_law_place",NameKind.local),(Str.ofString "_law_at",NameKind.free)],isGenerator:=false,isCoroutine:=false,more:=[] }
theorem wI:bX.names.lookup ("_law_place" : Str)=some NameKind.local:=kd
theorem g6:bX.names.lookup ("_law_at" : Str)=some NameKind.free:=kd
theorem sC:CompSc (q9 (top 17)) ["_law_pen_here","_law_most","_law_way","_law_many","_law_wide","_law_at","_law_step","_law_found","_law_some"] bX ["_law_place","_law_at"] [none,some 5]:=⟨rfl,kd,kd,kd,kd,rfl,kd,kd⟩
def uU:Scope:={ kind:=.function,names:=[(Str.ofString ".0",NameKind.local),(Str.ofString "_law_turn",NameKind.local),(Str.ofString "_law_point",NameKind.globalImplicit),(Str.ofString "_law_pen_here",NameKind.free),(Str.ofString "_law_wide",NameKind.free)],isGenerator:=false,isCoroutine:=false,more:=[] }
theorem jW:uU.names.lookup ("_law_turn" : Str)=some NameKind.local:=kd
theorem m9:uU.names.lookup ("_law_point" : Str)=some NameKind.globalImplicit:=kd
theorem b9:uU.names.lookup ("_law_pen_here" : Str)=some NameKind.free:=kd
theorem t5:uU.names.lookup ("_law_wide" : Str)=some NameKind.free:=kd
theorem sD:CompSc (q9 (top 17)) ["_law_pen_here","_law_most","_law_way","_law_many","_law_wide","_law_at","_law_step","_law_found","_law_some"] uU ["_law_turn","_law_pen_here","_law_wide"] [none,some 0,some 4]:=⟨rfl,kd,kd,kd,kd,rfl,kd,kd⟩
theorem r8:(("_law_part" : Str) == ("__debug__" : Str))=false:=kd
theorem sU:(("_law_part" : Str) == ("__classdict__" : Str))=false:=kd
theorem X9:(("_law_whole" : Str) == ("__debug__" : Str))=false:=kd
theorem aU:FnScope ["_law_thing"] ["_law_thing"] (q9 (top 18)):=⟨rfl,rfl,rfl,kd,rfl,kd,kd⟩
theorem jI:(q9 (top 18)).names.lookup ("_law_thing" : Str)=some .local:=kd
theorem lW {l f:Addr}{cd:Value}:(envOfC "_law_is_point" (q9 (top 18)) l f cd).kindOf "all" = some .globalImplicit:=by kernel_rfl
theorem tZ {l f:Addr}{cd:Value}:(envOfC "_law_is_point" (q9 (top 18)) l f cd).kindOf "tuple" = some .globalImplicit:=by kernel_rfl
theorem bF {l f:Addr}{cd:Value}:(envOfC "_law_is_point" (q9 (top 18)) l f cd).kindOf "isinstance" = some .globalImplicit:=by kernel_rfl
theorem lX {l f:Addr}{cd:Value}:(envOfC "_law_is_point" (q9 (top 18)) l f cd).kindOf "len" = some .globalImplicit:=by kernel_rfl
def j9:Scope:={ kind:=.function,names:=[(Str.ofString ".0",NameKind.local),(Str.ofString "_law_part",NameKind.local),(Str.ofString "_law_whole",NameKind.globalImplicit)],isGenerator:=false,isCoroutine:=false,more:=[] }
theorem xV:j9.names.lookup ("_law_part" : Str)=some NameKind.local:=kd
theorem pB:j9.names.lookup ("_law_whole" : Str)=some NameKind.globalImplicit:=kd
theorem bC:CompSc (q9 (top 18)) ["_law_thing"] j9 ["_law_part"] [none]:=⟨rfl,kd,kd,kd,kd,rfl,kd,kd⟩
theorem mI:(("_law_is_point" : Str) == ("__debug__" : Str))=false:=kd
theorem QU:FnScope ["_law_thing"] ["_law_thing"] (q9 (top 19)):=⟨rfl,rfl,rfl,kd,rfl,kd,kd⟩
theorem v8:(q9 (top 19)).names.lookup ("_law_thing" : Str)=some .local:=kd
theorem sN {l f:Addr}{cd:Value}:(envOfC "_law_is_lot" (q9 (top 19)) l f cd).kindOf "list" = some .globalImplicit:=by kernel_rfl
theorem nU {l f:Addr}{cd:Value}:(envOfC "_law_is_lot" (q9 (top 19)) l f cd).kindOf "sorted" = some .globalImplicit:=by kernel_rfl
theorem rE {l f:Addr}{cd:Value}:(envOfC "_law_is_lot" (q9 (top 19)) l f cd).kindOf "set" = some .globalImplicit:=by kernel_rfl
theorem lV {l f:Addr}{cd:Value}:(envOfC "_law_is_lot" (q9 (top 19)) l f cd).kindOf "tuple" = some .globalImplicit:=by kernel_rfl
theorem fL {l f:Addr}{cd:Value}:(envOfC "_law_is_lot" (q9 (top 19)) l f cd).kindOf "isinstance" = some .globalImplicit:=by kernel_rfl
theorem rD {l f:Addr}{cd:Value}:(envOfC "_law_is_lot" (q9 (top 19)) l f cd).kindOf "len" = some .globalImplicit:=by kernel_rfl
theorem rC {l f:Addr}{cd:Value}:(envOfC "_law_is_lot" (q9 (top 19)) l f cd).kindOf "all" = some .globalImplicit:=by kernel_rfl
def kS:Scope:={ kind:=.function,names:=[(Str.ofString ".0",NameKind.local),(Str.ofString "_law_one",NameKind.local),(Str.ofString "_law_is_point",NameKind.globalImplicit)],isGenerator:=false,isCoroutine:=false,more:=[] }
theorem yR:kS.names.lookup ("_law_one" : Str)=some NameKind.local:=kd
theorem gQ:kS.names.lookup ("_law_is_point" : Str)=some NameKind.globalImplicit:=kd
theorem mF:CompSc (q9 (top 19)) ["_law_thing"] kS ["_law_one"] [none]:=⟨rfl,kd,kd,kd,kd,rfl,kd,kd⟩
theorem xI:(("_law_point_here" : Str) == ("__debug__" : Str))=false:=kd
theorem xH:(("_law_point_here" : Str) == ("__classdict__" : Str))=false:=kd
theorem u3:(("_law_bent" : Str) == ("__debug__" : Str))=false:=kd
theorem vZ:(("_law_bent" : Str) == ("__classdict__" : Str))=false:=kd
theorem VT:(("_law_odd" : Str) == ("__debug__" : Str))=false:=kd
theorem VQ:(("_law_odd" : Str) == ("__classdict__" : Str))=false:=kd
theorem vA:FnScope ["_law_pen_here","_law_point_here","_law_way","_law_at","_law_odd","_law_bent","_law_some"] ["_law_pen_here","_law_point_here"] (q9 (top 20)):=⟨rfl,rfl,rfl,kd,rfl,kd,kd⟩
theorem jJ:(q9 (top 20)).names.lookup ("_law_pen_here" : Str)=some .local:=kd
theorem wE:(q9 (top 20)).names.lookup ("_law_point_here" : Str)=some .local:=kd
theorem bI:(q9 (top 20)).names.lookup ("_law_way" : Str)=some .local:=kd
theorem jK:(q9 (top 20)).names.lookup ("_law_at" : Str)=some .local:=kd
theorem bJ:(q9 (top 20)).names.lookup ("_law_odd" : Str)=some .local:=kd
theorem yD:(q9 (top 20)).names.lookup ("_law_bent" : Str)=some .local:=kd
theorem bK:(q9 (top 20)).names.lookup ("_law_some" : Str)=some .local:=kd
theorem nV {l f:Addr}{cd:Value}:(envOfC "_law_no_point" (q9 (top 20)) l f cd).kindOf "list" = some .globalImplicit:=by kernel_rfl
theorem yM {l f:Addr}{cd:Value}:(envOfC "_law_no_point" (q9 (top 20)) l f cd).kindOf "_law_draw" = some .globalImplicit:=by kernel_rfl
theorem nO:(("_law_is_lot" : Str) == ("__debug__" : Str))=false:=kd
theorem qW:(("_law_lot_here" : Str) == ("__debug__" : Str))=false:=kd
theorem qU:(("_law_lot_here" : Str) == ("__classdict__" : Str))=false:=kd
theorem mJ:(("_law_no_point" : Str) == ("__debug__" : Str))=false:=kd
theorem yW:FnScope ["_law_pen_here","_law_lot_here","_law_way","_law_at","_law_bent","_law_some","_law_wide","_law_thing"] ["_law_pen_here","_law_lot_here"] (q9 (top 21)):=⟨rfl,rfl,rfl,kd,rfl,kd,kd⟩
theorem kT:(q9 (top 21)).names.lookup ("_law_pen_here" : Str)=some .local:=kd
theorem zS:(q9 (top 21)).names.lookup ("_law_lot_here" : Str)=some .local:=kd
theorem mR:(q9 (top 21)).names.lookup ("_law_way" : Str)=some .local:=kd
theorem wX:(q9 (top 21)).names.lookup ("_law_at" : Str)=some .local:=kd
theorem kU:(q9 (top 21)).names.lookup ("_law_bent" : Str)=some .local:=kd
theorem mS:(q9 (top 21)).names.lookup ("_law_some" : Str)=some .local:=kd
theorem mT:(q9 (top 21)).names.lookup ("_law_wide" : Str)=some .local:=kd
theorem kW:(q9 (top 21)).names.lookup ("_law_thing" : Str)=some .local:=kd
theorem f7 {l f:Addr}{cd:Value}:(envOfC "_law_no_lot" (q9 (top 21)) l f cd).kindOf "_law_is_lot" = some .globalImplicit:=by kernel_rfl
theorem lY {l f:Addr}{cd:Value}:(envOfC "_law_no_lot" (q9 (top 21)) l f cd).kindOf "range" = some .globalImplicit:=by kernel_rfl
theorem lZ {l f:Addr}{cd:Value}:(envOfC "_law_no_lot" (q9 (top 21)) l f cd).kindOf "tuple" = some .globalImplicit:=by kernel_rfl
theorem sO {l f:Addr}{cd:Value}:(envOfC "_law_no_lot" (q9 (top 21)) l f cd).kindOf "list" = some .globalImplicit:=by kernel_rfl
theorem pH {l f:Addr}{cd:Value}:(envOfC "_law_no_lot" (q9 (top 21)) l f cd).kindOf "_law_no_point" = some .globalImplicit:=by kernel_rfl
theorem rG {l f:Addr}{cd:Value}:(envOfC "_law_no_lot" (q9 (top 21)) l f cd).kindOf "len" = some .globalImplicit:=by kernel_rfl
theorem jF {l f:Addr}{cd:Value}:(envOfC "_law_no_lot" (q9 (top 21)) l f cd).kindOf "_law_draw" = some .globalImplicit:=by kernel_rfl
def mC:Scope:={ kind:=.function,names:=[(Str.ofString ".0",NameKind.local),(Str.ofString "_law_place",NameKind.local)],isGenerator:=false,isCoroutine:=false,more:=[] }
theorem w6:mC.names.lookup ("_law_place" : Str)=some NameKind.local:=kd
theorem mG:CompSc (q9 (top 21)) ["_law_pen_here","_law_lot_here","_law_way","_law_at","_law_bent","_law_some","_law_wide","_law_thing"] mC ["_law_place"] [none]:=⟨rfl,kd,kd,kd,kd,rfl,kd,kd⟩
theorem J0:("repr" : Str) ≠ "__name__":=kd
theorem UH:(("repr" : Str) == ("__debug__" : Str))=false:=kd
theorem WN:(("_law_kept" : Str) == ("__debug__" : Str))=false:=kd
theorem W8:(("_law_kept" : Str) == ("__classdict__" : Str))=false:=kd
theorem GD:(("is_lot" : Str) == ("__debug__" : Str))=false:=kd
theorem f9:FnScope ["_law_thing","_law_kept","_law_turn"] ["_law_thing"] (q9 (top 22)):=⟨rfl,rfl,rfl,kd,rfl,kd,kd⟩
theorem yI:(q9 (top 22)).names.lookup ("_law_thing" : Str)=some .local:=kd
theorem tL:(q9 (top 22)).names.lookup ("_law_kept" : Str)=some .local:=kd
theorem iU:(q9 (top 22)).names.lookup ("_law_turn" : Str)=some .local:=kd
theorem bH {l f:Addr}{cd:Value}:(envOfC "_law_right" (q9 (top 22)) l f cd).kindOf "repr" = some .globalImplicit:=by kernel_rfl
theorem sQ {l f:Addr}{cd:Value}:(envOfC "_law_right" (q9 (top 22)) l f cd).kindOf "range" = some .globalImplicit:=by kernel_rfl
theorem fM {l f:Addr}{cd:Value}:(envOfC "_law_right" (q9 (top 22)) l f cd).kindOf "_law_is_lot" = some .globalImplicit:=by kernel_rfl
theorem bG {l f:Addr}{cd:Value}:(envOfC "_law_right" (q9 (top 22)) l f cd).kindOf "_law_is_point" = some .globalImplicit:=by kernel_rfl
theorem d0 {l f:Addr}{cd:Value}:(envOfC "_law_right" (q9 (top 22)) l f cd).kindOf "is_lot" = some .globalImplicit:=by kernel_rfl
theorem n6 {l f:Addr}{cd:Value}:(envOfC "_law_right" (q9 (top 22)) l f cd).kindOf "is_point" = some .globalImplicit:=by kernel_rfl
theorem t7 {l f:Addr}{cd:Value}:(envOfC "_law_right" (q9 (top 22)) l f cd).kindOf "_law_same" = some .globalImplicit:=by kernel_rfl
theorem WM:(("_law_cell" : Str) == ("__debug__" : Str))=false:=kd
theorem oU:(("_law_things" : Str) == ("__debug__" : Str))=false:=kd
theorem oP:(("_law_things" : Str) == ("__classdict__" : Str))=false:=kd
theorem oT:(("_law_no_lot" : Str) == ("__debug__" : Str))=false:=kd
theorem sH:(("_law_right" : Str) == ("__debug__" : Str))=false:=kd
theorem VS:(("_law_lot" : Str) == ("__debug__" : Str))=false:=kd
theorem VU:(("_law_pen" : Str) == ("__debug__" : Str))=false:=kd
theorem sF:(("_law_forty" : Str) == ("__debug__" : Str))=false:=kd
theorem sA:(("_law_forty" : Str) == ("__classdict__" : Str))=false:=kd
theorem p7:FnScope ["_law_script","_law_forty","_law_some","_law_cell_here","_law_pen_here","_law_lot_here","_law_point_here","_law_things","_law_thing"] ["_law_script"] (q9 (top 23)):=⟨rfl,rfl,rfl,kd,rfl,kd,kd⟩
theorem Y6:(q9 (top 23)).names.lookup ("_law_script" : Str)=some .local:=kd
theorem aL:(q9 (top 23)).names.lookup ("_law_forty" : Str)=some .local:=kd
theorem Y7:(q9 (top 23)).names.lookup ("_law_some" : Str)=some .local:=kd
theorem Y8:(q9 (top 23)).names.lookup ("_law_cell_here" : Str)=some .local:=kd
theorem aM:(q9 (top 23)).names.lookup ("_law_pen_here" : Str)=some .cell:=kd
theorem pK:(q9 (top 23)).names.lookup ("_law_lot_here" : Str)=some .cell:=kd
theorem Y9:(q9 (top 23)).names.lookup ("_law_point_here" : Str)=some .cell:=kd
theorem YA:(q9 (top 23)).names.lookup ("_law_things" : Str)=some .local:=kd
theorem YB:(q9 (top 23)).names.lookup ("_law_thing" : Str)=some .local:=kd
theorem aE {l f:Addr}{cd:Value}:(envOfC "law" (q9 (top 23)) l f cd).kindOf "_law_cell" = some .globalImplicit:=by kernel_rfl
theorem mN {l f:Addr}{cd:Value}:(envOfC "law" (q9 (top 23)) l f cd).kindOf "range" = some .globalImplicit:=by kernel_rfl
theorem cB {l f:Addr}{cd:Value}:(envOfC "law" (q9 (top 23)) l f cd).kindOf "_law_right" = some .globalImplicit:=by kernel_rfl
theorem K1 {l f:Addr}{cd:Value}:(envOfC "law" (q9 (top 23)) l f cd).kindOf "len" = some .globalImplicit:=by kernel_rfl
theorem aF {l f:Addr}{cd:Value}:(envOfC "law" (q9 (top 23)) l f cd).kindOf "_law_draw" = some .globalImplicit:=by kernel_rfl
theorem iH {l f:Addr}{cd:Value}:(envOfC "law" (q9 (top 23)) l f cd).kindOf "_law_lot" = some .globalImplicit:=by kernel_rfl
theorem iI {l f:Addr}{cd:Value}:(envOfC "law" (q9 (top 23)) l f cd).kindOf "_law_pen" = some .globalImplicit:=by kernel_rfl
theorem K0 {l f:Addr}{cd:Value}:(envOfC "law" (q9 (top 23)) l f cd).kindOf "all" = some .globalImplicit:=by kernel_rfl
theorem WX {l f:Addr}{cd:Value}:(envOfC "law" (q9 (top 23)) l f cd).kindOf "tuple" = some .globalImplicit:=by kernel_rfl
def mD:Scope:={ kind:=.function,names:=[(Str.ofString ".0",NameKind.local),(Str.ofString "_law_turn",NameKind.local),(Str.ofString "_law_no_lot",NameKind.globalImplicit),(Str.ofString "_law_lot_here",NameKind.free),(Str.ofString "_law_pen_here",NameKind.free)],isGenerator:=false,isCoroutine:=false,more:=[] }
theorem bA:mD.names.lookup ("_law_turn" : Str)=some NameKind.local:=kd
theorem lT:mD.names.lookup ("_law_no_lot" : Str)=some NameKind.globalImplicit:=kd
theorem tU:mD.names.lookup ("_law_lot_here" : Str)=some NameKind.free:=kd
theorem tV:mD.names.lookup ("_law_pen_here" : Str)=some NameKind.free:=kd
theorem WE:CompSc (q9 (top 23)) ["_law_script","_law_forty","_law_some","_law_cell_here","_law_pen_here","_law_lot_here","_law_point_here","_law_things","_law_thing"] mD ["_law_turn","_law_lot_here","_law_pen_here"] [none,some 5,some 4]:=⟨rfl,kd,kd,kd,kd,rfl,kd,kd⟩
def mE:Scope:={ kind:=.function,names:=[(Str.ofString ".0",NameKind.local),(Str.ofString "_law_turn",NameKind.local),(Str.ofString "_law_no_point",NameKind.globalImplicit),(Str.ofString "_law_pen_here",NameKind.free),(Str.ofString "_law_point_here",NameKind.free)],isGenerator:=false,isCoroutine:=false,more:=[] }
theorem bB:mE.names.lookup ("_law_turn" : Str)=some NameKind.local:=kd
theorem tW:mE.names.lookup ("_law_no_point" : Str)=some NameKind.globalImplicit:=kd
theorem tX:mE.names.lookup ("_law_pen_here" : Str)=some NameKind.free:=kd
theorem mB:mE.names.lookup ("_law_point_here" : Str)=some NameKind.free:=kd
theorem WF:CompSc (q9 (top 23)) ["_law_script","_law_forty","_law_some","_law_cell_here","_law_pen_here","_law_lot_here","_law_point_here","_law_things","_law_thing"] mE ["_law_turn","_law_pen_here","_law_point_here"] [none,some 4,some 6]:=⟨rfl,kd,kd,kd,kd,rfl,kd,kd⟩
def cW:Scope:={ kind:=.function,names:=[(Str.ofString ".0",NameKind.local),(Str.ofString "_law_thing",NameKind.local),(Str.ofString "_law_right",NameKind.globalImplicit)],isGenerator:=false,isCoroutine:=false,more:=[] }
theorem j1:cW.names.lookup ("_law_thing" : Str)=some NameKind.local:=kd
theorem sL:cW.names.lookup ("_law_right" : Str)=some NameKind.globalImplicit:=kd
theorem WG:CompSc (q9 (top 23)) ["_law_script","_law_forty","_law_some","_law_cell_here","_law_pen_here","_law_lot_here","_law_point_here","_law_things","_law_thing"] cW ["_law_thing"] [none]:=⟨rfl,kd,kd,kd,kd,rfl,kd,kd⟩
def WD:Scope:={ kind:=.function,names:=[(Str.ofString ".0",NameKind.local),(Str.ofString "_law_place",NameKind.local)],isGenerator:=false,isCoroutine:=false,more:=[] }
theorem vC:WD.names.lookup ("_law_place" : Str)=some NameKind.local:=kd
theorem WH:CompSc (q9 (top 23)) ["_law_script","_law_forty","_law_some","_law_cell_here","_law_pen_here","_law_lot_here","_law_point_here","_law_things","_law_thing"] WD ["_law_place"] [none]:=⟨rfl,kd,kd,kd,kd,rfl,kd,kd⟩
noncomputable def fF:DS:=zX (k7 (qH x5 (q8 (qB 0) (q8 (dC (.ty "int")) (qC)))) (JV (qH x5 (q8 (qB 0) (q8 (dC (.ty "bool")) (qC))))))
theorem dZ:∃ F:DF,F=zA 1 fF:=⟨_,rfl⟩
noncomputable def jP:DF:=Classical.choose (dZ)
theorem bS:jP=zA 1 fF:=Classical.choose_spec (dZ)
noncomputable def kF:DS:=zX (k7 (qP 1 jP (q8 (qB 0) (qC))) (wU gLe gLe (qB 1) (qB 0) (qB 2)))
theorem nL:∃ F:DF,F=zA 3 kF:=⟨_,rfl⟩
noncomputable def vQ:DF:=Classical.choose (nL)
theorem pD:vQ=zA 3 kF:=Classical.choose_spec (nL)
noncomputable def tT:DS:=zX (qH (gS false) (q8 (zP false [none,none] (y9 (r0 (q8 (qB 0) (q8 (dSl (qB 0) (zK (dC (.int 1))) (zQ)) (qC))))) (gTp 2 (xB (gNm 0) (xB (gNm 1) (uM)))) (xE) (zR (d2 cY (qB 0) (qB 1)))) (qC)))
theorem nK:∃ F:DF,F=zA 1 tT:=⟨_,rfl⟩
noncomputable def kE:DF:=Classical.choose (nK)
theorem nJ:kE=zA 1 tT:=Classical.choose_spec (nK)
noncomputable def lQ:DS:=zL (sIf (jA (wC (dTr (qH x5 (q8 (qB 0) (q8 (dC (.ty "tuple")) (qC)))))) (dTr (d2 gNe (qH xO (q8 (qB 0) (qC))) (dC (.int 2))))) (zX (dC (.bl false))) (xP)) (zX (qH (gS false) (q8 (zP false [none] (dIt (qB 0)) (gNm 0) (xE) (zR (qP 3 (okO vQ) (q8 (qB 0) (q8 (dC (.int (-1000))) (q8 (dC (.int (1000))) (qC))))))) (qC))))
theorem dY:∃ F:DF,F=zA 1 lQ:=⟨_,rfl⟩
noncomputable def yQ:DF:=Classical.choose (dY)
theorem dX:yQ=zA 1 lQ:=Classical.choose_spec (dY)
noncomputable def lP:DS:=zL (sIf (jA (wC (dTr (qH x5 (q8 (qB 0) (q8 (dC (.ty "tuple")) (qC)))))) (wC (dTr (wU gLe gLe (dC (.int 1)) (qH xO (q8 (qB 0) (qC))) (dC (.int (40))))))) (zX (dC (.bl false))) (xP)) (zX (k7 (qH (gS false) (q8 (zP false [none] (dIt (qB 0)) (gNm 0) (xE) (zR (qP 1 (okO yQ) (q8 (qB 0) (qC))))) (qC))) (qP 1 kE (q8 (qB 0) (qC)))))
theorem cE:∃ F:DF,F=zA 1 lP:=⟨_,rfl⟩
noncomputable def pC:DF:=Classical.choose (cE)
theorem cD:pC=zA 1 lP:=Classical.choose_spec (cE)
noncomputable def pQ:DS:=zL (sIf (dTr (d2 gLt (qB 1) (qH xO (q8 (qB 0) (qC))))) (zX (d2 gIx (qB 0) (qB 1))) (xP)) (zX (dC (.int 0)))
theorem nD:∃ F:DF,F=zA 2 pQ:=⟨_,rfl⟩
noncomputable def vP:DF:=Classical.choose (nD)
theorem nB:vP=zA 2 pQ:=Classical.choose_spec (nD)
noncomputable def fE:DS:=zX (JU (q8 (qB 0) (q8 (qH WU (q8 (d2 gGe (qB 0) (d2 cZ (dC (.int 10)) (dC (.int 18)))) (qC))) (qC))))
theorem dW:∃ F:DF,F=zA 1 fE:=⟨_,rfl⟩
noncomputable def gH:DF:=Classical.choose (dW)
theorem dU:gH=zA 1 fE:=Classical.choose_spec (dW)
noncomputable def pR:DS:=zL (sIf (dTr (d2 gEq (d2 gIx (qB 0) (dC (.int 1))) (dC (.int 1)))) (zL (xN (d2 k9 (d2 gIx (qB 0) (dC (.int 0))) (qB 1)) (gNm 2)) (zL (xN (d2 jE (d2 gIx (qB 0) (dC (.int 0))) (qB 1)) (gSb (qB 0) (dC (.int 0)) pS)) (zX (qB 2)))) (xP)) (zL (xN (d2 k9 (d2 qZ (d2 vY (d2 k9 (d2 gIx (qB 0) (dC (.int 0))) (dC (.int 2147483629))) (dC (.int 48271))) (dC (.int 11))) (dC (.int 2147483629))) (gSb (qB 0) (dC (.int 0)) pS)) (zX (d2 k9 (d2 jE (d2 k9 (d2 qZ (d2 vY (d2 gIx (qB 0) (dC (.int 0))) (d2 gIx (qB 0) (dC (.int 0)))) (d2 vY (dC (.int 40692)) (d2 gIx (qB 0) (dC (.int 0))))) (dC (.int 2147483647))) (dC (.int 8))) (qB 1))))
theorem nF:∃ F:DF,F=zA 3 pR:=⟨_,rfl⟩
noncomputable def zE:DF:=Classical.choose (nF)
theorem nE:zE=zA 3 pR:=Classical.choose_spec (nF)
noncomputable def gN:DS:=zX (k7 (qH x5 (q8 (qB 0) (q8 (dC (.ty "int")) (qC)))) (JV (qH x5 (q8 (qB 0) (q8 (dC (.ty "bool")) (qC))))))
theorem tG:∃ F:DF,F=zA 1 gN:=⟨_,rfl⟩
noncomputable def yZ:DF:=Classical.choose (tG)
theorem gI:yZ=zA 1 gN:=Classical.choose_spec (tG)
noncomputable def yV (wF:DF):DS:=zL (sIf (dTr (d2 gIs (qB 1) (dC .non))) (zX (d2 gIs (qB 0) (dC .non))) (xP)) (zL (sIf (jA (dTr (qH x5 (q8 (qB 1) (q8 (dC (.ty "tuple")) (qC))))) (dTr (qH x5 (q8 (qB 1) (q8 (dC (.ty "list")) (qC)))))) (zL (sIf (jA (dTr (d2 gNe (qH x5 (q8 (qB 0) (q8 (dC (.ty "tuple")) (qC)))) (qH x5 (q8 (qB 1) (q8 (dC (.ty "tuple")) (qC)))))) (dTr (d2 gNe (qH x5 (q8 (qB 0) (q8 (dC (.ty "list")) (qC)))) (qH x5 (q8 (qB 1) (q8 (dC (.ty "list")) (qC))))))) (zX (dC (.bl false))) (xP)) (zL (sIf (dTr (d2 gNe (qH xO (q8 (qB 0) (qC))) (qH xO (q8 (qB 1) (qC))))) (zX (dC (.bl false))) (xP)) (zL (dN (r0 (q8 (qB 0) (q8 (qB 1) (qC)))) (gTp 2 (xB (gNm 2) (xB (gNm 3) (uM)))) (sIf (wC (dTr (qP 2 wF (q8 (qB 2) (q8 (qB 3) (qC)))))) (zX (dC (.bl false))) (xP))) (zX (dC (.bl true)))))) (xP)) (zL (sIf (dTr (qH x5 (q8 (qB 1) (q8 (dC (.ty "str")) (qC))))) (zX (k7 (qH x5 (q8 (qB 0) (q8 (dC (.ty "str")) (qC)))) (d2 gEq (qB 0) (qB 1)))) (xP)) (zX (k7 (d2 gEq (qH x5 (q8 (qB 0) (q8 (dC (.ty "bool")) (qC)))) (qH x5 (q8 (qB 1) (q8 (dC (.ty "bool")) (qC))))) (k7 (qH x5 (q8 (qB 0) (q8 (dC (.ty "int")) (qC)))) (d2 gEq (qB 0) (qB 1)))))))
noncomputable def gZ:Nat→DF
 |0=>fun _ _=>.bad
 |n+1=>zA 4 (yV (gZ n))
theorem nH:∃ F:DF,F=gZ 4:=⟨_,rfl⟩
noncomputable def wF:DF:=Classical.choose (nH)
theorem nG:wF=gZ 4:=Classical.choose_spec (nH)
noncomputable def m7:DS:=zX (qV (q8 (d2 vE (qP 2 zE (q8 (qB 0) (q8 (d2 qZ (d2 vY (dC (.int 2)) (qB 1)) (dC (.int 1))) (qC)))) (qB 1)) (q8 (d2 vE (qP 2 zE (q8 (qB 0) (q8 (d2 qZ (d2 vY (dC (.int 2)) (qB 1)) (dC (.int 1))) (qC)))) (qB 1)) (qC))))
theorem tB:∃ F:DF,F=zA 2 m7:=⟨_,rfl⟩
noncomputable def yY:DF:=Classical.choose (tB)
theorem t9:yY=zA 2 m7:=Classical.choose_spec (tB)
noncomputable def gL:DS:=zL (aS 2 3 (q8 (qP 2 zE (q8 (qB 0) (q8 (dC (.int 7)) (qC)))) (q8 (d2 qZ (dC (.int 1)) (qP 2 zE (q8 (qB 0) (q8 (qB 1) (qC))))) (qC)))) (zL (xN (qV (q8 (d2 gIx (xX (q8 (dC (.int 1)) (q8 (dC (.int 2)) (q8 (dC (.int 4)) (q8 (dC (.int 12)) (q8 (dC (.int 1000)) (qC))))))) (qP 2 zE (q8 (qB 0) (q8 (dC (.int 5)) (qC))))) (q8 (qP 2 yY (q8 (qB 0) (q8 (dC (.int 400)) (qC)))) (qC)))) (gTp 2 (xB (gNm 4) (xB (gNm 5) (uM))))) (zL (xN (d2 qZ (dC (.int 1)) (qP 2 zE (q8 (qB 0) (q8 (dC (.int 9)) (qC))))) (gNm 6)) (zL (xN (zP false [none,some 0,some 4] (y9 (uL (q8 (qB 3) (qC)))) (gNm 0) (xE) (zR (qP 2 (okO yY) (q8 (qB 1) (q8 (qB 2) (qC)))))) (gNm 7)) (zL (sIf (dTr (d2 gEq (qB 2) (dC (.int 0)))) (xN (zP false [none,some 5] (y9 (uL (q8 (qB 3) (qC)))) (gNm 0) (xE) (zR (qV (q8 (d2 qZ (d2 gIx (qB 1) (dC (.int 0))) (d2 k9 (qB 0) (dC (.int 4)))) (q8 (d2 qZ (d2 gIx (qB 1) (dC (.int 1))) (d2 jE (qB 0) (dC (.int 4)))) (qC)))))) (gNm 7)) (xP)) (zL (sIf (dTr (d2 gEq (qB 2) (dC (.int 1)))) (xN (zP false [none,some 5,some 6] (y9 (uL (q8 (qB 3) (qC)))) (gNm 0) (xE) (zR (qV (q8 (d2 qZ (d2 gIx (qB 1) (dC (.int 0))) (d2 vY (qB 2) (qB 0))) (q8 (d2 vE (d2 gIx (qB 1) (dC (.int 1))) (qB 0)) (qC)))))) (gNm 7)) (xP)) (zL (sIf (dTr (d2 gEq (qB 2) (dC (.int 2)))) (zL (xN (dSl (qB 7) (zQ) (zK (d2 qZ (dC (.int 1)) (d2 jE (qB 3) (dC (.int 4)))))) (gNm 8)) (zL (xN (d2 qZ (d2 qZ (qB 8) (zP false [none,none] (dIt (qB 8)) (gTp 2 (xB (gNm 0) (xB (gNm 1) (uM)))) (xE) (zR (qV (q8 (d2 vE (dC (.int 0)) (qB 1)) (q8 (qB 0) (qC))))))) (zP false [none,none] (dIt (qB 8)) (gTp 2 (xB (gNm 0) (xB (gNm 1) (uM)))) (xE) (zR (qV (q8 (d2 vE (dC (.int 0)) (qB 0)) (q8 (d2 vE (dC (.int 0)) (qB 1)) (qC))))))) (gNm 7)) (xN (d2 qZ (qB 7) (zP false [none,none] (dIt (qB 8)) (gTp 2 (xB (gNm 0) (xB (gNm 1) (uM)))) (xE) (zR (qV (q8 (qB 1) (q8 (d2 vE (dC (.int 0)) (qB 0)) (qC))))))) (gNm 7)))) (xP)) (zX (qH nQ (q8 (jB (dSl (qB 7) (zQ) (zK (qB 3)))) (qC))))))))))
theorem dS:∃ F:DF,F=zA 9 gL:=⟨_,rfl⟩
noncomputable def gG:DF:=Classical.choose (dS)
theorem dR:gG=zA 9 gL:=Classical.choose_spec (dS)
noncomputable def gK:DS:=zL (sIf (jA (wC (dTr (qH x5 (q8 (qB 0) (q8 (dC (.ty "tuple")) (qC)))))) (dTr (d2 gNe (qH xO (q8 (qB 0) (qC))) (dC (.int 2))))) (zX (dC (.bl false))) (xP)) (zX (qH (gS false) (q8 (zP false [none] (dIt (qB 0)) (gNm 0) (xE) (zR (k7 (qP 1 (okO yZ) (q8 (qB 0) (qC))) (wU gLe gLe (d1 kA (dC (.int 1000))) (qB 0) (dC (.int 1000)))))) (qC))))
theorem b6:∃ F:DF,F=zA 1 gK:=⟨_,rfl⟩
noncomputable def x9:DF:=Classical.choose (b6)
theorem b5:x9=zA 1 gK:=Classical.choose_spec (b6)
noncomputable def kM:DS:=zL (sIf (jA (wC (dTr (qH x5 (q8 (qB 0) (q8 (dC (.ty "tuple")) (qC)))))) (jA (wC (dTr (wU gLe gLe (dC (.int 1)) (qH xO (q8 (qB 0) (qC))) (dC (.int 40))))) (wC (dTr (qH (gS false) (q8 (zP false [none] (dIt (qB 0)) (gNm 0) (xE) (zR (qP 1 (okO x9) (q8 (qB 0) (qC))))) (qC))))))) (zX (dC (.bl false))) (xP)) (zX (d2 gEq (qH eL (q8 (qB 0) (qC))) (jB (qB 0))))
theorem m4:∃ F:DF,F=zA 1 kM:=⟨_,rfl⟩
noncomputable def wO:DF:=Classical.choose (m4)
theorem fZ:wO=zA 1 kM:=Classical.choose_spec (m4)
noncomputable def vJ:DS:=zL (aS 2 3 (q8 (qP 2 zE (q8 (qB 0) (q8 (dC (.int 12)) (qC)))) (q8 (qP 2 zE (q8 (qB 0) (q8 (dC (.int 2)) (qC)))) (qC)))) (zL (xN (d2 gIx (xX (q8 (dC (.int 1001)) (q8 (d1 kA (dC (.int 1001))) (q8 (dC (.bl true)) (q8 (dC (.bl false)) (q8 (dC .non) (q8 (dC (.str "0")) (q8 (qV (q8 (dC (.int 0)) (qC))) (q8 (d2 cZ (dC (.int 10)) (dC (.int 29))) (q8 (xX (q8 (dC (.int 0)) (qC))) (q8 (fJ) (qC)))))))))))) (qP 2 zE (q8 (qB 0) (q8 (dC (.int 10)) (qC))))) (gNm 4)) (zL (xN (d2 qZ (d2 qZ (dSl (qB 1) (zQ) (zK (qB 3))) (qV (q8 (qB 4) (qC)))) (dSl (qB 1) (zK (d2 qZ (qB 3) (dC (.int 1)))) (zQ))) (gNm 5)) (zL (xN (xX (q8 (qB 5) (q8 (qB 5) (q8 (qB 5) (q8 (qB 5) (q8 (dSl (qB 1) (zQ) (zK (dC (.int 1)))) (q8 (d2 qZ (qB 1) (qV (q8 (dC (.int 0)) (qC)))) (q8 (qH eL (q8 (qB 1) (qC))) (q8 (dC .non) (q8 (dC (.int 7)) (q8 (dC (.str "0,0")) (qC)))))))))))) (gNm 6)) (zX (d2 gIx (d2 qZ (qB 6) (xX (q8 (fJ) (q8 (qV (q8 (qB 1) (qC))) (qC))))) (qB 2))))))
theorem b8:∃ F:DF,F=zA 7 vJ:=⟨_,rfl⟩
noncomputable def xS:DF:=Classical.choose (b8)
theorem b7:xS=zA 7 vJ:=Classical.choose_spec (b8)
noncomputable def uT:DS:=zL (aS 2 3 (q8 (qP 2 zE (q8 (qB 0) (q8 (dC (.int 14)) (qC)))) (q8 (qP 2 zE (q8 (qB 0) (q8 (qH xO (q8 (qB 1) (qC))) (qC)))) (qC)))) (zL (xN (d2 qZ (d2 qZ (dSl (qB 1) (zQ) (zK (qB 3))) (qV (q8 (qP 2 xS (q8 (qB 0) (q8 (d2 gIx (qB 1) (qB 3)) (qC)))) (qC)))) (dSl (qB 1) (zK (d2 qZ (qB 3) (dC (.int 1)))) (zQ))) (gNm 4)) (zL (xN (xX (q8 (qB 4) (q8 (qB 4) (q8 (qH eL (q8 (qB 1) (qC))) (q8 (fK (qB 1) (d1 kA (dC (.int 1)))) (q8 (d2 qZ (qB 1) (dSl (qB 1) (zK (d1 kA (dC (.int 1)))) (zQ))) (q8 (d2 qZ (dSl (qB 1) (zQ) (zK (d2 qZ (qB 3) (dC (.int 1))))) (dSl (qB 1) (zK (qB 3)) (zQ))) (q8 (qV (qC)) (q8 (dC .non) (q8 (dC (.int 7)) (q8 (dC (.str "0,0")) (q8 (fJ) (qC))))))))))))) (gNm 5)) (zL (xN (qH nQ (q8 (zP false [none] (y9 (uL (q8 (dC (.int 41)) (qC)))) (gNm 0) (xE) (zR (qV (q8 (d2 jE (qB 0) (dC (.int 8))) (q8 (d2 k9 (qB 0) (dC (.int 8))) (qC)))))) (qC))) (gNm 6)) (zL (xN (d2 gIx (d2 qZ (qB 5) (xX (q8 (qV (q8 (qB 1) (qC))) (q8 (qB 6) (q8 (d2 gIx (qB 1) (dC (.int 0))) (qC)))))) (qB 2)) (gNm 7)) (zX (dIf (dTr (qP 1 wO (q8 (qB 7) (qC)))) (qV (qC)) (qB 7)))))))
theorem m6:∃ F:DF,F=zA 8 uT:=⟨_,rfl⟩
noncomputable def yL:DF:=Classical.choose (m6)
theorem m5:yL=zA 8 uT:=Classical.choose_spec (m6)
noncomputable def gM:DS:=zL (xN (qH eM (q8 (qB 0) (qC))) (gNm 1)) (zL (dN (uL (q8 (dC (.int 2)) (qC))) (gNm 2) (sIf (wC (dTr (qP 2 wF (q8 (xX (q8 (qP 1 yQ (q8 (qB 0) (qC))) (q8 (qP 1 pC (q8 (qB 0) (qC))) (qC)))) (q8 (xX (q8 (qP 1 x9 (q8 (qB 0) (qC))) (q8 (qP 1 wO (q8 (qB 0) (qC))) (qC)))) (qC)))))) (zX (dC (.bl false))) (xP))) (zX (d2 gEq (qH eM (q8 (qB 0) (qC))) (qB 1))))
theorem tF:∃ F:DF,F=zA 3 gM:=⟨_,rfl⟩
noncomputable def yA:DF:=Classical.choose (tF)
theorem tE:yA=zA 3 gM:=Classical.choose_spec (tF)
noncomputable def XT:DS:=zL (xN (qH nQ (q8 (zP false [none] (y9 (uL (q8 (dC (.int 40)) (qC)))) (gNm 0) (xE) (zR (qV (q8 (d2 jE (qB 0) (dC (.int 7))) (q8 (d2 k9 (qB 0) (dC (.int 7))) (qC)))))) (qC))) (gNm 1)) (zL (xN (xX (q8 (qV (q8 (dC (.int 1000)) (q8 (d1 kA (dC (.int 1000))) (qC)))) (q8 (qV (q8 (dC (.int 1001)) (q8 (dC (.int 0)) (qC)))) (q8 (qV (q8 (dC (.int 0)) (q8 (d1 kA (dC (.int 1001))) (qC)))) (q8 (qV (q8 (qV (q8 (dC (.int 0)) (q8 (dC (.int 0)) (qC)))) (qC))) (q8 (qV (qC)) (q8 (qV (q8 (dC (.int 0)) (q8 (dC (.bl true)) (qC)))) (q8 (qV (q8 (qV (q8 (dC (.int 0)) (q8 (dC (.int 0)) (qC)))) (q8 (qV (q8 (dC (.int 0)) (q8 (dC (.int 0)) (qC)))) (qC)))) (q8 (qV (q8 (qV (q8 (dC (.int 1)) (q8 (dC (.int 0)) (qC)))) (q8 (qV (q8 (dC (.int 0)) (q8 (dC (.int 0)) (qC)))) (qC)))) (q8 (dC .non) (qC))))))))))) (gNm 2)) (zL (sIf (wC (dTr (qH (gS false) (q8 (zP false [none] (dIt (d2 qZ (qB 2) (xX (q8 (qB 1) (q8 (d2 qZ (qB 1) (qV (q8 (qV (q8 (dC (.int 9)) (q8 (dC (.int 9)) (qC)))) (qC)))) (q8 (xX (q8 (qV (q8 (dC (.int 0)) (q8 (dC (.int 0)) (qC)))) (qC))) (q8 (xX (q8 (dC (.int 0)) (q8 (dC (.int 0)) (qC)))) (q8 (dC (.str "0,0")) (q8 (dC (.int 7)) (q8 (fJ) (qC))))))))))) (gNm 0) (xE) (zR (qP 1 (okO yA) (q8 (qB 0) (qC))))) (qC))))) (zX (dC (.bl false))) (xP)) (zL (dN (bD (d2 qZ (xX (q8 (qP 2 vP (q8 (qB 0) (q8 (dC (.int 0)) (qC)))) (qC))) (dSl (qB 0) (zK (dC (.int 1))) (zK (dC (.int 8)))))) (gNm 3) (zL (xN (qP 1 gH (q8 (qB 3) (qC))) (gNm 4)) (zL (xN (qP 2 gG (q8 (qB 4) (q8 (dC (.int 40)) (qC)))) (gNm 5)) (zL (xN (d2 gIx (qB 5) (qP 2 zE (q8 (qB 4) (q8 (qH xO (q8 (qB 5) (qC))) (qC))))) (gNm 6)) (zL (xN (d2 qZ (xX (q8 (qB 5) (q8 (qB 6) (qC)))) (zP false [none,some 4,some 6] (y9 (uL (q8 (dC (.int 3)) (qC)))) (gNm 0) (xE) (zR (qP 2 (okO xS) (q8 (qB 1) (q8 (qB 2) (qC))))))) (gNm 7)) (dN (bD (d2 qZ (d2 qZ (qB 7) (zP false [none,some 5,some 4] (y9 (uL (q8 (dC (.int 4)) (qC)))) (gNm 0) (xE) (zR (qP 2 (okO yL) (q8 (qB 2) (q8 (qB 1) (qC))))))) (xX (q8 (dSl (qB 5) (zK (dC (.int 1))) (zQ)) (q8 (fK (qB 5) (dC (.int 2))) (qC)))))) (gNm 8) (sIf (wC (dTr (qP 1 yA (q8 (qB 8) (qC))))) (zX (dC (.bl false))) (xP)))))))) (zX (dC (.bl true))))))
end _K
end
section
namespace _K
open PySem PySem.Spec PyProof.Rows _L _D
section
variable {P:Program}{w:World}{K:PySem.W.Frag}{mg:Str→Option Value}{base:Heap}{c:Cl}
theorem U1 (T:Txt K mg c):Def P w K mg base true 1 "is_whole" 1 (zA 1 fF):=
 jC (k:=0) T.s_is_whole U7 rfl fun f cdv A outer s H E hr =>
  zM (zU (bM (qX yU kJ T.n_isinstance zF (qA (qD 0 rfl (Or.inl sK) v7 v4) (qA (xZ iG T.n_int aY iX i3) (qE))) zH zG rfl rfl) (mV (PV (qX yU kJ T.n_isinstance zF (qA (qD 0 rfl (Or.inl sK) v7 v4) (qA (xZ aD T.n_bool eF eS eK) (qE))) zH zG rfl rfl)))))
theorem PJ (T:Txt K mg c)(d_14:Def P w K mg base true 3 "is_point" 1 yQ)(d_15:Def P w K mg base true 1 "is_rising" 1 kE):Def P w K mg base true 4 "is_lot" 1 (zA 1 lP):=
 jC (k:=3) T.s_is_lot B7 rfl fun f cdv A outer s H E hr =>
  qS (vD (eZ (dJ (jO (u7 (qX yU d7 T.n_isinstance zF (qA (qD 0 rfl (Or.inl pV) v7 v4) (qA (xZ iC T.n_tuple vR vV vS) (qE))) zH zG rfl rfl))) (lK (jO (YW eC eC (qF) (qX jV XB T.n_len gO (qA (qD 0 rfl (Or.inl pV) v7 v4) (qE)) gT gR rfl rfl) (QH (v:=40) nW T.g_MOST_POINTS oS)))))) (zM (zU (uO))) (wV)) (zM (zU (bM (qX (b0 rfl) XA T.n_all nN (qA (wY rfl cI (bO (qD 0 rfl (Or.inl pV) v7 v4)) (fun cl C ex s₀ H₀=>zW (m:=0) cI.nd rfl (xD jZ) (.inr (xU jZ))) (fun cl C ex s₀ H₀=>wN) (by intro g h;cases h <;> rfl) (fun cl C ex s₀ H₀=>wM rfl rfl (qcO d_14 (hr).mono (j0 lS) (qA (qD 0 rfl (zD (.inl jZ)) F3 BS) (qE)) cL rfl rfl)) (by intro _;rfl)) (qE)) lF nP rfl rfl) (mV (qcN d_15 (hr).mono ⟨rfl,rfl,rfl⟩ sR (qA (qD 0 rfl (Or.inl pV) v7 v4) (qE)) WQ rfl rfl)))))
theorem XL (T:Txt K mg c):Def P w K mg base true 1 "_law_whole" 1 (zA 1 gN):=
 jC (k:=0) T.s__law_whole XO rfl fun f cdv A outer s H E hr =>
  zM (zU (bM (qX yU jH T.n_isinstance zF (qA (qD 0 rfl (Or.inl tM) zC zB) (qA (xZ c9 T.n_int aY iX i3) (qE))) zH zG rfl rfl) (mV (PV (qX yU jH T.n_isinstance zF (qA (qD 0 rfl (Or.inl tM) zC zB) (qA (xZ rH T.n_bool eF eS eK) (qE))) zH zG rfl rfl)))))
theorem aO (T:Txt K mg c)(d_12:Def P w K mg base true 1 "_law_whole" 1 yZ):Def P w K mg base true 2 "_law_is_point" 1 (zA 1 gK):=
 jC (k:=1) T.s__law_is_point aU rfl fun f cdv A outer s H E hr =>
  qS (vD (eZ (dJ (jO (u7 (qX yU bF T.n_isinstance zF (qA (qD 0 rfl (Or.inl jI) zC zB) (qA (xZ tZ T.n_tuple vR vV vS) (qE))) zH zG rfl rfl))) (lK (jN (VL (hr)) (qX jV lX T.n_len gO (qA (qD 0 rfl (Or.inl jI) zC zB) (qE)) gT gR rfl rfl) (qF))))) (zM (zU (uO))) (wV)) (zM (zU (qX (b0 rfl) lW T.n_all nN (qA (wY rfl bC (bO (qD 0 rfl (Or.inl jI) zC zB)) (fun cl C ex s₀ H₀=>zW (m:=0) bC.nd rfl (xD xV) (.inr (xU xV))) (fun cl C ex s₀ H₀=>wN) (by intro g h;cases h <;> rfl) (fun cl C ex s₀ H₀=>wM rfl rfl (bM (qcO d_12 (hr).mono (j0 pB) (qA (qD 0 rfl (zD (.inl xV)) r8 sU) (qE)) X9 rfl rfl) (mV (YT eC eC (eY hZ (qF)) (qD 0 rfl (zD (.inl xV)) r8 sU) (qF))))) (by intro _;rfl)) (qE)) lF nP rfl rfl)))
theorem XJ (T:Txt K mg c)(d_3:Def P w K mg base true 3 "_law_is_lot" 1 wO)(d_4:Def P w K mg base true 2 "_law_is_point" 1 x9)(d_13:Def P w K mg base true 4 "is_lot" 1 pC)(d_14:Def P w K mg base true 3 "is_point" 1 yQ)(d_11:Def P w K mg base true 4 "_law_same" 2 wF):Def P w K mg base true 5 "_law_right" 1 (zA 3 gM):=
 jC (k:=4) T.s__law_right f9 rfl fun f cdv A outer s H E hr =>
  qS (wL (m:=1) f9.nd (qX (lO (hr)) bH T.n_repr UA (qA (qD 0 rfl (Or.inl yI) zC zB) (qE)) J0 UH rfl rfl) rfl (Or.inl tL) rfl (.inl rfl)) (qS (oA c7 rfl (jM sQ T.n_range (qA (qF) (qE)) rfl rfl) (zW (m:=2) f9.nd rfl (Or.inl iU) (.inl rfl)) (zM (vD (jO (u7 (qcN d_11 (hr).mono ⟨rfl,rfl,rfl⟩ t7 (qA (yP (qA (qcN d_14 (hr).mono ⟨rfl,rfl,rfl⟩ n6 (qA (qD 0 rfl (Or.inl yI) zC zB) (qE)) cL rfl rfl) (qA (qcN d_13 (hr).mono ⟨rfl,rfl,rfl⟩ d0 (qA (qD 0 rfl (Or.inl yI) zC zB) (qE)) GD rfl rfl) (qE)))) (qA (yP (qA (qcN d_4 (hr).mono ⟨rfl,rfl,rfl⟩ bG (qA (qD 0 rfl (Or.inl yI) zC zB) (qE)) mI rfl rfl) (qA (qcN d_3 (hr).mono ⟨rfl,rfl,rfl⟩ fM (qA (qD 0 rfl (Or.inl yI) zC zB) (qE)) nO rfl rfl) (qE)))) (qE))) r9 rfl rfl))) (zM (zU (uO))) (wV)))) (zM (zU (bN (dP (hr)) (qX (lO (hr)) bH T.n_repr UA (qA (qD 0 rfl (Or.inl yI) zC zB) (qE)) J0 UH rfl rfl) (qD 1 rfl (Or.inl tL) WN W8)))))
end
end _K
end
section
namespace _K
open PySem PySem.Spec PyProof.Rows _L _D
section
variable {P:Program}{w:World}{K:PySem.W.Frag}{mg:Str→Option Value}{base:Heap}{c:Cl}
theorem YN (T:Txt K mg c)(d_16:Def P w K mg base true 1 "is_whole" 1 jP):Def P w K mg base true 2 "is_within" 3 (zA 3 kF):=
 jC (k:=1) T.s_is_within V5 rfl fun f cdv A outer s H E hr =>
  zM (zU (bM (qcN d_16 (hr).mono ⟨rfl,rfl,rfl⟩ nX (qA (qD 0 rfl (Or.inl lE) v7 v4) (qE)) VV rfl rfl) (mV (YT eC eC (qD 1 rfl (Or.inl Q8) F1 BQ) (qD 0 rfl (Or.inl lE) v7 v4) (qD 2 rfl (Or.inl Q9) TU TL)))))
theorem YK (T:Txt K mg c):Def P w K mg base true 1 "_law_cell" 2 (zA 2 pQ):=
 jC (k:=0) T.s__law_cell V3 rfl fun f cdv A outer s H E hr =>
  qS (vD (jN IC (qD 1 rfl (Or.inl l8) ZB Z8) (qX jV a8 T.n_len gO (qA (qD 0 rfl (Or.inl l4) jR jQ) (qE)) gT gR rfl rfl)) (zM (zU (yT uS (qD 0 rfl (Or.inl l4) jR jQ) (qD 1 rfl (Or.inl l8) ZB Z8)))) (wV)) (zM (zU (qF)))
theorem gU (T:Txt K mg c){k:Nat}{wF:DF}(d_11:Def P w K mg base true k "_law_same" 2 wF):Def P w K mg base true (k+1) "_law_same" 2 (zA 4 (yV wF)):=
 jC (k:=k) T.s__law_same mY rfl fun f cdv A outer s H E hr =>
  qS (vD (jN EY (qD 1 rfl (Or.inl xF) w9 w8) (lI)) (zM (zU (bN EY (qD 0 rfl (Or.inl xQ) zZ zY) (lI)))) (wV)) (qS (vD (eZ (dJ (u7 (qX yU z9 T.n_isinstance zF (qA (qD 1 rfl (Or.inl xF) w9 w8) (qA (xZ jG T.n_tuple vR vV vS) (qE))) zH zG rfl rfl)) (lK (u7 (qX yU z9 T.n_isinstance zF (qA (qD 1 rfl (Or.inl xF) w9 w8) (qA (xZ kD T.n_list fS fU fT) (qE))) zH zG rfl rfl))))) (qS (vD (eZ (dJ (jN (VL (hr)) (qX yU z9 T.n_isinstance zF (qA (qD 0 rfl (Or.inl xQ) zZ zY) (qA (xZ jG T.n_tuple vR vV vS) (qE))) zH zG rfl rfl) (qX yU z9 T.n_isinstance zF (qA (qD 1 rfl (Or.inl xF) w9 w8) (qA (xZ jG T.n_tuple vR vV vS) (qE))) zH zG rfl rfl)) (lK (jN (VL (hr)) (qX yU z9 T.n_isinstance zF (qA (qD 0 rfl (Or.inl xQ) zZ zY) (qA (xZ kD T.n_list fS fU fT) (qE))) zH zG rfl rfl) (qX yU z9 T.n_isinstance zF (qA (qD 1 rfl (Or.inl xF) w9 w8) (qA (xZ kD T.n_list fS fU fT) (qE))) zH zG rfl rfl))))) (zM (zU (uO))) (wV)) (qS (vD (jN (VL (hr)) (qX jV mL T.n_len gO (qA (qD 0 rfl (Or.inl xQ) zZ zY) (qE)) gT gR rfl rfl) (qX jV mL T.n_len gO (qA (qD 1 rfl (Or.inl xF) w9 w8) (qE)) gT gR rfl rfl)) (zM (zU (uO))) (wV)) (qS (oA c7 rfl (PZ aA T.n_zip (qA (qD 0 rfl (Or.inl xQ) zZ zY) (qA (qD 1 rfl (Or.inl xF) w9 w8) (qE))) rfl rfl) (lJ rfl (yO (zW (m:=2) mY.nd rfl (Or.inl lB) (.inl rfl)) (yO (zW (m:=3) mY.nd rfl (Or.inl lC) (.inl rfl)) (fW)))) (zM (vD (jO (u7 (qcN d_11 hr ⟨rfl,rfl,rfl⟩ n8 (qA (qD 2 rfl (Or.inl lB) cK cF) (qA (qD 3 rfl (Or.inl lC) X8 X6) (qE))) r9 rfl rfl))) (zM (zU (uO))) (wV)))) (zM (zU (uO)))))) (wV)) (qS (vD (u7 (qX yU z9 T.n_isinstance zF (qA (qD 1 rfl (Or.inl xF) w9 w8) (qA (xZ mM T.n_str G0 PD GF) (qE))) zH zG rfl rfl)) (zM (zU (bM (qX yU z9 T.n_isinstance zF (qA (qD 0 rfl (Or.inl xQ) zZ zY) (qA (xZ mM T.n_str G0 PD GF) (qE))) zH zG rfl rfl) (mV (bN (dP (hr)) (qD 0 rfl (Or.inl xQ) zZ zY) (qD 1 rfl (Or.inl xF) w9 w8)))))) (wV)) (zM (zU (bM (bN (dP (hr)) (qX yU z9 T.n_isinstance zF (qA (qD 0 rfl (Or.inl xQ) zZ zY) (qA (xZ fB T.n_bool eF eS eK) (qE))) zH zG rfl rfl) (qX yU z9 T.n_isinstance zF (qA (qD 1 rfl (Or.inl xF) w9 w8) (qA (xZ fB T.n_bool eF eS eK) (qE))) zH zG rfl rfl)) (bM (qX yU z9 T.n_isinstance zF (qA (qD 0 rfl (Or.inl xQ) zZ zY) (qA (xZ a9 T.n_int aY iX i3) (qE))) zH zG rfl rfl) (mV (bN (dP (hr)) (qD 0 rfl (Or.inl xQ) zZ zY) (qD 1 rfl (Or.inl xF) w9 w8)))))))))
theorem QC (T:Txt K mg c)(d_4:Def P w K mg base true 2 "_law_is_point" 1 x9):Def P w K mg base true 3 "_law_is_lot" 1 (zA 1 kM):=
 jC (k:=2) T.s__law_is_lot QU rfl fun f cdv A outer s H E hr =>
  qS (vD (eZ (dJ (jO (u7 (qX yU fL T.n_isinstance zF (qA (qD 0 rfl (Or.inl v8) zC zB) (qA (xZ lV T.n_tuple vR vV vS) (qE))) zH zG rfl rfl))) (dJ (jO (YW eC eC (qF) (qX jV rD T.n_len gO (qA (qD 0 rfl (Or.inl v8) zC zB) (qE)) gT gR rfl rfl) (qF))) (lK (jO (u7 (qX (b0 rfl) rC T.n_all nN (qA (wY rfl mF (bO (qD 0 rfl (Or.inl v8) zC zB)) (fun cl C ex s₀ H₀=>zW (m:=0) mF.nd rfl (xD yR) (.inr (xU yR))) (fun cl C ex s₀ H₀=>wN) (by intro g h;cases h <;> rfl) (fun cl C ex s₀ H₀=>wM rfl rfl (qcO d_4 (hr).mono (j0 gQ) (qA (qD 0 rfl (zD (.inl yR)) cK cF) (qE)) mI rfl rfl)) (by intro _;rfl)) (qE)) lF nP rfl rfl))))))) (zM (zU (uO))) (wV)) (zM (zU (bN (dP (hr)) (jL t3 sN T.n_list fS (qA (qD 0 rfl (Or.inl v8) zC zB) (qE)) fU fT rfl rfl) (o8 rfl (hr) nU T.n_sorted rE T.n_set (qD 0 rfl (Or.inl v8) zC zB) rfl))))
theorem RQ (T:Txt K mg c)(d_1:Def P w K mg base true 1 "_law_cell" 2 vP)(d_6:Def P w K mg base true 4 "_law_no_lot" 2 yL)(d_10:Def P w K mg base true 5 "_law_right" 1 yA)(d_7:Def P w K mg base true 2 "_law_no_point" 2 xS)(d_2:Def P w K mg base true 1 "_law_draw" 2 zE)(d_5:Def P w K mg base true 3 "_law_lot" 2 gG)(d_8:Def P w K mg base true 1 "_law_pen" 1 gH):XX P w K mg base true 6 "law" ["_law_script"] (zA 9 XT):=
 HD (k:=5) T.s_law p7 rfl fun f cdv A outer s H E hr =>
  qS (wL (m:=1) p7.nd (jL pP WX T.n_tuple vR (qA (wY rfl WH (bP (jM mN T.n_range (qA (qF) (qE)) rfl rfl)) (fun cl C ex s₀ H₀=>zW (m:=0) WH.nd rfl (xD vC) (.inr (xU vC))) (fun cl C ex s₀ H₀=>wN) (by intro g h;cases h <;> rfl) (fun cl C ex s₀ H₀=>wM rfl rfl (zT (qA (qT hW (qD 0 rfl (zD (.inl vC)) wQ wP) (qF)) (qA (qT tS (qD 0 rfl (zD (.inl vC)) wQ wP) (qF)) (qE))))) (by intro _;rfl)) (qE)) vV vS rfl rfl) rfl (Or.inl aL) rfl (.inl rfl)) (qS (wL (m:=2) p7.nd (yP (qA (zT (qA (qF) (qA (eY hZ (qF)) (qE)))) (qA (zT (qA (qF) (qA (qF) (qE)))) (qA (zT (qA (qF) (qA (eY hZ (qF)) (qE)))) (qA (zT (qA (zT (qA (qF) (qA (qF) (qE)))) (qE))) (qA (zT (qE)) (qA (zT (qA (qF) (qA (uO) (qE)))) (qA (zT (qA (zT (qA (qF) (qA (qF) (qE)))) (qA (zT (qA (qF) (qA (qF) (qE)))) (qE)))) (qA (zT (qA (zT (qA (qF) (qA (qF) (qE)))) (qA (zT (qA (qF) (qA (qF) (qE)))) (qE)))) (qA (lI) (qE))))))))))) rfl (Or.inl Y7) rfl (.inl rfl)) (qS (vD (jO (u7 (qX (b0 rfl) K0 T.n_all nN (qA (wY rfl WG (bO (qT xK (qD 2 rfl (Or.inl Y7) v6 v3) (yP (qA (qD 1 rfl (Or.inl aL) sF sA) (qA (qT xK (qD 1 rfl (Or.inl aL) sF sA) (zT (qA (zT (qA (qF) (qA (qF) (qE)))) (qE)))) (qA (yP (qA (zT (qA (qF) (qA (qF) (qE)))) (qE))) (qA (yP (qA (qF) (qA (qF) (qE)))) (qA (o9) (qA (qF) (qA (eX) (qE))))))))))) (fun cl C ex s₀ H₀=>zW (m:=0) WG.nd rfl (xD j1) (.inr (xU j1))) (fun cl C ex s₀ H₀=>wN) (by intro g h;cases h <;> rfl) (fun cl C ex s₀ H₀=>wM rfl rfl (qcO d_10 (hr).mono (j0 sL) (qA (qD 0 rfl (zD (.inl j1)) zC zB) (qE)) sH rfl rfl)) (by intro _;rfl)) (qE)) lF nP rfl rfl))) (zM (zU (uO))) (wV)) (qS (oA c7 rfl (PY (qT xK (yP (qA (qcN d_1 (hr).mono ⟨rfl,rfl,rfl⟩ aE (qA (qD 0 rfl (Or.inl Y6) jR jQ) (qA (qF) (qE))) WM rfl rfl) (qE))) (wZ (qD 0 rfl (Or.inl Y6) jR jQ) (yK (qF)) (yK (qF))))) (zW (m:=3) p7.nd rfl (Or.inl Y8) (.inl rfl)) (qS (wL (m:=4) p7.nd (qcN d_8 (hr).mono ⟨rfl,rfl,rfl⟩ iI (qA (qD 3 rfl (Or.inl Y8) k8 jY) (qE)) VU rfl rfl) rfl (Or.inr aM) rfl (.inl rfl)) (qS (wL (m:=5) p7.nd (qcN d_5 (hr).mono ⟨rfl,rfl,rfl⟩ iH (qA (qD 4 rfl (Or.inr (Or.inl aM)) qK qJ) (qA (qF) (qE))) VS rfl rfl) rfl (Or.inr pK) rfl (.inl rfl)) (qS (wL (m:=6) p7.nd (yT uS (qD 5 rfl (Or.inr (Or.inl pK)) qW qU) (qcN d_2 (hr).mono ⟨rfl,rfl,rfl⟩ aF (qA (qD 4 rfl (Or.inr (Or.inl aM)) qK qJ) (qA (qX jV K1 T.n_len gO (qA (qD 5 rfl (Or.inr (Or.inl pK)) qW qU) (qE)) gT gR rfl rfl) (qE))) xM rfl rfl)) rfl (Or.inr Y9) rfl (.inl rfl)) (qS (wL (m:=7) p7.nd (qT xK (yP (qA (qD 5 rfl (Or.inr (Or.inl pK)) qW qU) (qA (qD 6 rfl (Or.inr (Or.inl Y9)) xI xH) (qE)))) (wY rfl WF (bP (jM mN T.n_range (qA (qF) (qE)) rfl rfl)) (fun cl C ex s₀ H₀=>zW (m:=0) WF.nd rfl (xD bB) (.inr (xU bB))) (fun cl C ex s₀ H₀=>wN) (by intro g h;cases h <;> rfl) (fun cl C ex s₀ H₀=>wM rfl rfl (qcO d_7 (hr).mono (j0 tW) (qA (qD 1 rfl (zD (.inr tX)) qK qJ) (qA (qD 2 rfl (zD (.inr mB)) xI xH) (qE))) mJ rfl rfl)) (by intro _;rfl))) rfl (Or.inl YA) rfl (.inl rfl)) (zM (oA c7 rfl (PY (qT xK (qT xK (qD 7 rfl (Or.inl YA) oU oP) (wY rfl WE (bP (jM mN T.n_range (qA (qF) (qE)) rfl rfl)) (fun cl C ex s₀ H₀=>zW (m:=0) WE.nd rfl (xD bA) (.inr (xU bA))) (fun cl C ex s₀ H₀=>wN) (by intro g h;cases h <;> rfl) (fun cl C ex s₀ H₀=>wM rfl rfl (qcO d_6 (hr).mono (j0 lT) (qA (qD 2 rfl (zD (.inr tV)) qK qJ) (qA (qD 1 rfl (zD (.inr tU)) qW qU) (qE))) oT rfl rfl)) (by intro _;rfl))) (yP (qA (wZ (qD 5 rfl (Or.inr (Or.inl pK)) qW qU) (yK (qF)) (vH)) (qA (J6 (qD 5 rfl (Or.inr (Or.inl pK)) qW qU) (qF)) (qE)))))) (zW (m:=8) p7.nd rfl (Or.inl YB) (.inl rfl)) (zM (vD (jO (u7 (qcN d_10 (hr).mono ⟨rfl,rfl,rfl⟩ cB (qA (qD 8 rfl (Or.inl YB) zC zB) (qE)) sH rfl rfl))) (zM (zU (uO))) (wV)))))))))) (zM (zU (uO))))))
end
end _K
end
section
namespace _K
open PySem PySem.Spec PyProof.Rows _L _D
section
variable {P:Program}{w:World}{K:PySem.W.Frag}{mg:Str→Option Value}{base:Heap}{c:Cl}
theorem YM (T:Txt K mg c):Def P w K mg base true 1 "is_rising" 1 (zA 1 tT):=
 jC (k:=0) T.s_is_rising V4 rfl fun f cdv A outer s H E hr =>
  zM (zU (qX (b0 rfl) aB T.n_all nN (qA (wY rfl pF (bP (PZ aC T.n_zip (qA (qD 0 rfl (Or.inl lD) UI UB) (qA (wZ (qD 0 rfl (Or.inl lD) UI UB) (yK (qF)) (vH)) (qE))) rfl rfl)) (fun cl C ex s₀ H₀=>lJ rfl (yO (zW (m:=0) pF.nd rfl (xD j8) (.inr (xU j8))) (yO (zW (m:=1) pF.nd rfl (xD uJ) (.inr (xU uJ))) (fW)))) (fun cl C ex s₀ H₀=>wN) (by intro g h;cases h <;> rfl) (fun cl C ex s₀ H₀=>wM rfl rfl (bN (CZ (hr)) (qD 0 rfl (zD (.inl j8)) DV DP) (qD 1 rfl (zD (.inl uJ)) F2 BR))) (by intro _;rfl)) (qE)) lF nP rfl rfl))
theorem VZ (T:Txt K mg c):Def P w K mg base true 1 "_law_pen" 1 (zA 1 fE):=
 jC (k:=0) T.s__law_pen U5 rfl fun f cdv A outer s H E hr =>
  zM (zU (LL (qA (qD 0 rfl (Or.inl sJ) k8 jY) (qA (jL oG iB T.n_int aY (qA (bN IB (qD 0 rfl (Or.inl sJ) k8 jY) (qT TC (qF) (qF))) (qE)) iX i3 rfl rfl) (qE)))))
theorem XI (T:Txt K mg c)(d_2:Def P w K mg base true 1 "_law_draw" 2 zE):Def P w K mg base true 2 "_law_point" 2 (zA 2 m7):=
 jC (k:=1) T.s__law_point XN rfl fun f cdv A outer s H E hr =>
  zM (zU (zT (qA (qT dQ (qcN d_2 (hr).mono ⟨rfl,rfl,rfl⟩ jX (qA (qD 0 rfl (Or.inl tK) qK qJ) (qA (qT xK (qT hX (qF) (qD 1 rfl (Or.inl j3) u4 u0)) (qF)) (qE))) xM rfl rfl) (qD 1 rfl (Or.inl j3) u4 u0)) (qA (qT dQ (qcN d_2 (hr).mono ⟨rfl,rfl,rfl⟩ jX (qA (qD 0 rfl (Or.inl tK) qK qJ) (qA (qT xK (qT hX (qF) (qD 1 rfl (Or.inl j3) u4 u0)) (qF)) (qE))) xM rfl rfl) (qD 1 rfl (Or.inl j3) u4 u0)) (qE)))))
theorem aP (T:Txt K mg c)(d_2:Def P w K mg base true 1 "_law_draw" 2 zE):Def P w K mg base true 2 "_law_no_point" 2 (zA 7 vJ):=
 jC (k:=1) T.s__law_no_point vA rfl fun f cdv A outer s H E hr =>
  qS (YV (m:=2) (l:=3) rfl vA.nd (qA (qcN d_2 (hr).mono ⟨rfl,rfl,rfl⟩ yM (qA (qD 0 rfl (Or.inl jJ) qK qJ) (qA (qF) (qE))) xM rfl rfl) (qA (qcN d_2 (hr).mono ⟨rfl,rfl,rfl⟩ yM (qA (qD 0 rfl (Or.inl jJ) qK qJ) (qA (qF) (qE))) xM rfl rfl) (qE))) rfl rfl (by decide) bI jK rfl rfl) (qS (wL (m:=4) vA.nd (yT uS (yP (qA (qF) (qA (eY hZ (qF)) (qA (uO) (qA (uO) (qA (lI) (qA (o9) (qA (zT (qA (qF) (qE))) (qA (qT TC (qF) (qF)) (qA (yP (qA (qF) (qE))) (qA (eX) (qE)))))))))))) (qcN d_2 (hr).mono ⟨rfl,rfl,rfl⟩ yM (qA (qD 0 rfl (Or.inl jJ) qK qJ) (qA (qF) (qE))) xM rfl rfl)) rfl (Or.inl bJ) rfl (.inl rfl)) (qS (wL (m:=5) vA.nd (qT xK (qT xK (wZ (qD 1 rfl (Or.inl wE) xI xH) (vH) (yK (qD 3 rfl (Or.inl jK) wJ wG))) (zT (qA (qD 4 rfl (Or.inl bJ) VT VQ) (qE)))) (wZ (qD 1 rfl (Or.inl wE) xI xH) (yK (qT xK (qD 3 rfl (Or.inl jK) wJ wG) (qF))) (vH))) rfl (Or.inl yD) rfl (.inl rfl)) (qS (wL (m:=6) vA.nd (yP (qA (qD 5 rfl (Or.inl yD) u3 vZ) (qA (qD 5 rfl (Or.inl yD) u3 vZ) (qA (qD 5 rfl (Or.inl yD) u3 vZ) (qA (qD 5 rfl (Or.inl yD) u3 vZ) (qA (wZ (qD 1 rfl (Or.inl wE) xI xH) (vH) (yK (qF))) (qA (qT xK (qD 1 rfl (Or.inl wE) xI xH) (zT (qA (qF) (qE)))) (qA (jL t3 nV T.n_list fS (qA (qD 1 rfl (Or.inl wE) xI xH) (qE)) fU fT rfl rfl) (qA (lI) (qA (qF) (qA (o9) (qE)))))))))))) rfl (Or.inl bK) rfl (.inl rfl)) (zM (zU (yT uS (qT xK (qD 6 rfl (Or.inl bK) v6 v3) (yP (qA (eX) (qA (zT (qA (qD 1 rfl (Or.inl wE) xI xH) (qE))) (qE))))) (qD 2 rfl (Or.inl bI) kH kG)))))))
end
end _K
end
section
namespace _K
open PySem PySem.Spec PyProof.Rows _L _D
section
variable {P:Program}{w:World}{K:PySem.W.Frag}{mg:Str→Option Value}{base:Heap}{c:Cl}
theorem U0 (T:Txt K mg c)(d_17:Def P w K mg base true 2 "is_within" 3 vQ):Def P w K mg base true 3 "is_point" 1 (zA 1 lQ):=
 jC (k:=2) T.s_is_point U6 rfl fun f cdv A outer s H E hr =>
  qS (vD (eZ (dJ (jO (u7 (qX yU n9 T.n_isinstance zF (qA (qD 0 rfl (Or.inl f8) v7 v4) (qA (xZ cA T.n_tuple vR vV vS) (qE))) zH zG rfl rfl))) (lK (jN (VL (hr)) (qX jV iF T.n_len gO (qA (qD 0 rfl (Or.inl f8) v7 v4) (qE)) gT gR rfl rfl) (qF))))) (zM (zU (uO))) (wV)) (zM (zU (qX (b0 rfl) iE T.n_all nN (qA (wY rfl sE (bO (qD 0 rfl (Or.inl f8) v7 v4)) (fun cl C ex s₀ H₀=>zW (m:=0) sE.nd rfl (xD uI) (.inr (xU uI))) (fun cl C ex s₀ H₀=>wN) (by intro g h;cases h <;> rfl) (fun cl C ex s₀ H₀=>wM rfl rfl (qcO d_17 (hr).mono (j0 t6) (qA (qD 0 rfl (zD (.inl uI)) GE G7) (qA (QH (v:=-1000) (j0 bT) T.g_LEAST_NUMBER i0) (qA (QH (v:=1000) (j0 fH) T.g_MOST_NUMBER oR) (qE)))) WR rfl rfl)) (by intro _;rfl)) (qE)) lF nP rfl rfl)))
theorem YL (T:Txt K mg c):Def P w K mg base true 1 "_law_draw" 2 (zA 3 pR):=
 jC (k:=0) T.s__law_draw rZ rfl fun f cdv A outer s H E hr =>
  qS (vD (jN (dP (hr)) (yT uS (qD 0 rfl (Or.inl xY) qK qJ) (qF)) (qF)) (qS (wL (m:=2) rZ.nd (qT tS (yT uS (qD 0 rfl (Or.inl xY) qK qJ) (qF)) (qD 1 rfl (Or.inl pJ) yC yB)) rfl (Or.inl lA) rfl (.inl rfl)) (qS (YU (qT hW (yT uS (qD 0 rfl (Or.inl xY) qK qJ) (qF)) (qD 1 rfl (Or.inl pJ) yC yB)) (PX (qD 0 rfl (Or.inl xY) qK qJ) (qF) (c0 (hr)))) (zM (zU (qD 2 rfl (Or.inl lA) zZ zY))))) (wV)) (qS (YU (qT tS (qT xK (qT hX (qT tS (yT uS (qD 0 rfl (Or.inl xY) qK qJ) (qF)) (qF)) (qF)) (qF)) (qF)) (PX (qD 0 rfl (Or.inl xY) qK qJ) (qF) (c0 (hr)))) (zM (zU (qT tS (qT hW (qT tS (qT xK (qT hX (yT uS (qD 0 rfl (Or.inl xY) qK qJ) (qF)) (yT uS (qD 0 rfl (Or.inl xY) qK qJ) (qF))) (qT hX (qF) (yT uS (qD 0 rfl (Or.inl xY) qK qJ) (qF)))) (qF)) (qF)) (qD 1 rfl (Or.inl pJ) yC yB)))))
theorem VY (T:Txt K mg c)(d_9:Def P w K mg base true 2 "_law_point" 2 yY)(d_2:Def P w K mg base true 1 "_law_draw" 2 zE):Def P w K mg base true 3 "_law_lot" 2 (zA 9 gL):=
 jC (k:=2) T.s__law_lot wA rfl fun f cdv A outer s H E hr =>
  qS (YV (m:=2) (l:=3) rfl wA.nd (qA (qcN d_2 (hr).mono ⟨rfl,rfl,rfl⟩ yG (qA (qD 0 rfl (Or.inr (Or.inl uY)) qK qJ) (qA (qF) (qE))) xM rfl rfl) (qA (qT xK (qF) (qcN d_2 (hr).mono ⟨rfl,rfl,rfl⟩ yG (qA (qD 0 rfl (Or.inr (Or.inl uY)) qK qJ) (qA (qD 1 rfl (Or.inl XE) WO W9) (qE))) xM rfl rfl)) (qE))) rfl rfl (by decide) kP vG rfl rfl) (qS (YU (zT (qA (yT uS (yP (qA (qF) (qA (qF) (qA (qF) (qA (qF) (qA (qF) (qE))))))) (qcN d_2 (hr).mono ⟨rfl,rfl,rfl⟩ yG (qA (qD 0 rfl (Or.inr (Or.inl uY)) qK qJ) (qA (qF) (qE))) xM rfl rfl)) (qA (qcN d_9 (hr).mono ⟨rfl,rfl,rfl⟩ n4 (qA (qD 0 rfl (Or.inr (Or.inl uY)) qK qJ) (qA (qF) (qE))) sG rfl rfl) (qE)))) (lJ rfl (yO (zW (m:=4) wA.nd rfl (Or.inr XF) (.inl rfl)) (yO (zW (m:=5) wA.nd rfl (Or.inr XG) (.inl rfl)) (fW))))) (qS (wL (m:=6) wA.nd (qT xK (qF) (qcN d_2 (hr).mono ⟨rfl,rfl,rfl⟩ yG (qA (qD 0 rfl (Or.inr (Or.inl uY)) qK qJ) (qA (qF) (qE))) xM rfl rfl)) rfl (Or.inr XH) rfl (.inl rfl)) (qS (aR (m:=7) rfl wA.nd sD (bP (jM kB T.n_range (qA (qD 3 rfl (Or.inl vG) yC yB) (qE)) rfl rfl)) (fun cl C ex s₀ H₀=>zW (m:=0) sD.nd rfl (xD jW) (.inr (xU jW))) (fun cl C ex s₀ H₀=>wN) (by intro g h;cases h <;> rfl) (fun cl C ex s₀ H₀=>wM rfl rfl (qcO d_9 (hr).mono (j0 m9) (qA (qD 1 rfl (zD (.inr b9)) qK qJ) (qA (qD 2 rfl (zD (.inr t5)) u4 u0) (qE))) sG rfl rfl)) rfl (Or.inl wR) (.inl rfl) rfl (by intro _;rfl)) (qS (vD (jN (dP (hr)) (qD 2 rfl (Or.inl kP) kH kG) (qF)) (zM (aR (m:=7) rfl wA.nd sC (bP (jM kB T.n_range (qA (qD 3 rfl (Or.inl vG) yC yB) (qE)) rfl rfl)) (fun cl C ex s₀ H₀=>zW (m:=0) sC.nd rfl (xD wI) (.inr (xU wI))) (fun cl C ex s₀ H₀=>wN) (by intro g h;cases h <;> rfl) (fun cl C ex s₀ H₀=>wM rfl rfl (zT (qA (qT xK (yT uS (qD 1 rfl (zD (.inr g6)) wJ wG) (qF)) (qT tS (qD 0 rfl (zD (.inl wI)) wQ wP) (qF))) (qA (qT xK (yT uS (qD 1 rfl (zD (.inr g6)) wJ wG) (qF)) (qT hW (qD 0 rfl (zD (.inl wI)) wQ wP) (qF))) (qE))))) rfl (Or.inl wR) (.inl rfl) rfl (by intro _;rfl))) (wV)) (qS (vD (jN (dP (hr)) (qD 2 rfl (Or.inl kP) kH kG) (qF)) (zM (aR (m:=7) rfl wA.nd sB (bP (jM kB T.n_range (qA (qD 3 rfl (Or.inl vG) yC yB) (qE)) rfl rfl)) (fun cl C ex s₀ H₀=>zW (m:=0) sB.nd rfl (xD wH) (.inr (xU wH))) (fun cl C ex s₀ H₀=>wN) (by intro g h;cases h <;> rfl) (fun cl C ex s₀ H₀=>wM rfl rfl (zT (qA (qT xK (yT uS (qD 1 rfl (zD (.inr kZ)) wJ wG) (qF)) (qT hX (qD 2 rfl (zD (.inr t4)) WP WA) (qD 0 rfl (zD (.inl wH)) wQ wP))) (qA (qT dQ (yT uS (qD 1 rfl (zD (.inr kZ)) wJ wG) (qF)) (qD 0 rfl (zD (.inl wH)) wQ wP)) (qE))))) rfl (Or.inl wR) (.inl rfl) rfl (by intro _;rfl))) (wV)) (qS (vD (jN (dP (hr)) (qD 2 rfl (Or.inl kP) kH kG) (qF)) (qS (wL (m:=8) wA.nd (wZ (qD 7 rfl (Or.inl wR) zZ zY) (vH) (yK (qT xK (qF) (qT hW (qD 3 rfl (Or.inl vG) yC yB) (qF))))) rfl (Or.inl uZ) rfl (.inl rfl)) (qS (wL (m:=7) wA.nd (qT xK (qT xK (qD 8 rfl (Or.inl uZ) v6 v3) (wY rfl bZ (bO (qD 8 rfl (Or.inl uZ) v6 v3)) (fun cl C ex s₀ H₀=>lJ rfl (yO (zW (m:=0) bZ.nd rfl (xD uE) (.inr (xU uE))) (yO (zW (m:=1) bZ.nd rfl (xD uF) (.inr (xU uF))) (fW)))) (fun cl C ex s₀ H₀=>wN) (by intro g h;cases h <;> rfl) (fun cl C ex s₀ H₀=>wM rfl rfl (zT (qA (qT dQ (qF) (qD 1 rfl (zD (.inl uF)) rB sW)) (qA (qD 0 rfl (zD (.inl uE)) rA sV) (qE))))) (by intro _;rfl))) (wY rfl f6 (bO (qD 8 rfl (Or.inl uZ) v6 v3)) (fun cl C ex s₀ H₀=>lJ rfl (yO (zW (m:=0) f6.nd rfl (xD uG) (.inr (xU uG))) (yO (zW (m:=1) f6.nd rfl (xD uH) (.inr (xU uH))) (fW)))) (fun cl C ex s₀ H₀=>wN) (by intro g h;cases h <;> rfl) (fun cl C ex s₀ H₀=>wM rfl rfl (zT (qA (qT dQ (qF) (qD 0 rfl (zD (.inl uG)) rA sV)) (qA (qT dQ (qF) (qD 1 rfl (zD (.inl uH)) rB sW)) (qE))))) (by intro _;rfl))) rfl (Or.inl wR) rfl (.inl rfl)) (zM (wL (m:=7) wA.nd (qT xK (qD 7 rfl (Or.inl wR) zZ zY) (wY rfl bY (bO (qD 8 rfl (Or.inl uZ) v6 v3)) (fun cl C ex s₀ H₀=>lJ rfl (yO (zW (m:=0) bY.nd rfl (xD uC) (.inr (xU uC))) (yO (zW (m:=1) bY.nd rfl (xD uD) (.inr (xU uD))) (fW)))) (fun cl C ex s₀ H₀=>wN) (by intro g h;cases h <;> rfl) (fun cl C ex s₀ H₀=>wM rfl rfl (zT (qA (qD 1 rfl (zD (.inl uD)) rB sW) (qA (qT dQ (qF) (qD 0 rfl (zD (.inl uC)) rA sV)) (qE))))) (by intro _;rfl))) rfl (Or.inl wR) rfl (.inl rfl))))) (wV)) (zM (zU (jL pP c8 T.n_tuple vR (qA (o8 rfl (hr) rF T.n_sorted iA T.n_set (wZ (qD 7 rfl (Or.inl wR) zZ zY) (vH) (yK (qD 3 rfl (Or.inl vG) yC yB))) rfl) (qE)) vV vS rfl rfl)))))))))
theorem QD (T:Txt K mg c)(d_3:Def P w K mg base true 3 "_law_is_lot" 1 wO)(d_7:Def P w K mg base true 2 "_law_no_point" 2 xS)(d_2:Def P w K mg base true 1 "_law_draw" 2 zE):Def P w K mg base true 4 "_law_no_lot" 2 (zA 8 uT):=
 jC (k:=3) T.s__law_no_lot yW rfl fun f cdv A outer s H E hr =>
  qS (YV (m:=2) (l:=3) rfl yW.nd (qA (qcN d_2 (hr).mono ⟨rfl,rfl,rfl⟩ jF (qA (qD 0 rfl (Or.inl kT) qK qJ) (qA (qF) (qE))) xM rfl rfl) (qA (qcN d_2 (hr).mono ⟨rfl,rfl,rfl⟩ jF (qA (qD 0 rfl (Or.inl kT) qK qJ) (qA (qX jV rG T.n_len gO (qA (qD 1 rfl (Or.inl zS) qW qU) (qE)) gT gR rfl rfl) (qE))) xM rfl rfl) (qE))) rfl rfl (by decide) mR wX rfl rfl) (qS (wL (m:=4) yW.nd (qT xK (qT xK (wZ (qD 1 rfl (Or.inl zS) qW qU) (vH) (yK (qD 3 rfl (Or.inl wX) wJ wG))) (zT (qA (qcN d_7 (hr).mono ⟨rfl,rfl,rfl⟩ pH (qA (qD 0 rfl (Or.inl kT) qK qJ) (qA (yT uS (qD 1 rfl (Or.inl zS) qW qU) (qD 3 rfl (Or.inl wX) wJ wG)) (qE))) mJ rfl rfl) (qE)))) (wZ (qD 1 rfl (Or.inl zS) qW qU) (yK (qT xK (qD 3 rfl (Or.inl wX) wJ wG) (qF))) (vH))) rfl (Or.inl kU) rfl (.inl rfl)) (qS (wL (m:=5) yW.nd (yP (qA (qD 4 rfl (Or.inl kU) u3 vZ) (qA (qD 4 rfl (Or.inl kU) u3 vZ) (qA (jL t3 sO T.n_list fS (qA (qD 1 rfl (Or.inl zS) qW qU) (qE)) fU fT rfl rfl) (qA (J6 (qD 1 rfl (Or.inl zS) qW qU) (eY hZ (qF))) (qA (qT xK (qD 1 rfl (Or.inl zS) qW qU) (wZ (qD 1 rfl (Or.inl zS) qW qU) (yK (eY hZ (qF))) (vH))) (qA (qT xK (wZ (qD 1 rfl (Or.inl zS) qW qU) (vH) (yK (qT xK (qD 3 rfl (Or.inl wX) wJ wG) (qF)))) (wZ (qD 1 rfl (Or.inl zS) qW qU) (yK (qD 3 rfl (Or.inl wX) wJ wG)) (vH))) (qA (zT (qE)) (qA (lI) (qA (qF) (qA (o9) (qA (eX) (qE))))))))))))) rfl (Or.inl mS) rfl (.inl rfl)) (qS (wL (m:=6) yW.nd (jL pP lZ T.n_tuple vR (qA (wY rfl mG (bP (jM lY T.n_range (qA (qF) (qE)) rfl rfl)) (fun cl C ex s₀ H₀=>zW (m:=0) mG.nd rfl (xD w6) (.inr (xU w6))) (fun cl C ex s₀ H₀=>wN) (by intro g h;cases h <;> rfl) (fun cl C ex s₀ H₀=>wM rfl rfl (zT (qA (qT hW (qD 0 rfl (zD (.inl w6)) wQ wP) (qF)) (qA (qT tS (qD 0 rfl (zD (.inl w6)) wQ wP) (qF)) (qE))))) (by intro _;rfl)) (qE)) vV vS rfl rfl) rfl (Or.inl mT) rfl (.inl rfl)) (qS (wL (m:=7) yW.nd (yT uS (qT xK (qD 5 rfl (Or.inl mS) v6 v3) (yP (qA (zT (qA (qD 1 rfl (Or.inl zS) qW qU) (qE))) (qA (qD 6 rfl (Or.inl mT) u4 u0) (qA (yT uS (qD 1 rfl (Or.inl zS) qW qU) (qF)) (qE)))))) (qD 2 rfl (Or.inl mR) kH kG)) rfl (Or.inl kW) rfl (.inl rfl)) (zM (zU (CD (u7 (qcN d_3 (hr).mono ⟨rfl,rfl,rfl⟩ f7 (qA (qD 7 rfl (Or.inl kW) zC zB) (qE)) nO rfl rfl)) (zT (qE)) (qD 7 rfl (Or.inl kW) zC zB))))))))
end
end _K
end
section
namespace _K
open PySem _D
theorem oZ (i j:Int)(S:Sto):gEq (.int i) (.int j) S=.ok (.bl (decide (i=j))) S:=by kernel_rfl!
theorem UM (i j:Int)(S:Sto):gNe (.int i) (.int j) S=.ok (.bl (decide (i≠j))) S:=by
 have h:gNe (.int i) (.int j) S=.ok (.bl (!decide (i=j))) S:=by kernel_rfl!
 rw[h,← decide_not]
theorem nT (i j:Int)(S:Sto)(h : -(2 ^ 64)<i∧i<2 ^ 64):vY (.int i) (.int j) S=.ok (.int (i*j)) S:=by
 unfold vY i2
 rw[W7]
 unfold W6
 simp only[h,and_self,decide_true,Bool.true_or,if_true]
theorem jD (i j:Int)(S:Sto):qZ (.int i) (.int j) S=.ok (.int (i+j)) S:=rfl
theorem vT {xs ys:List D}(h:xs.length+ys.length≤lim)(S:Sto):qZ (.lst xs) (.lst ys) S=.ok (.lst (xs++ys)) S:=if_pos h
theorem IT {S:Sto}{j:Nat}{xs:List D}(h:S[j]? = some (.lst xs)):tyD (.loc j) S=some "list":=by
 show (match S[j]? with|some (.lst _)=>some "list" | some (.dct _)=>some "dict" | _=>none)=_
 rw[h]
theorem IJ {S:Sto}{j:Nat}{xs:List D}(h:S[j]? = some (.lst xs))(hl:xs.length<lim)(d:D):NE (.loc j) [d] S=.ok .non (S.set j (.lst (xs++[d]))):=by
 show (match S[j]? with|some (.lst xs)=>(if xs.length<lim then Res.ok D.non (S.set j (.lst (xs++[d]))) else .bad)|_=>.bad)=_
 rw[h]
 exact if_pos hl
theorem nY (d:D)(b a:String)(S:Sto)(ho:pL b=true)(h:tyD d S=some a):x5 [d,.ty b] S=.ok (.bl (yH a b)) S:=by
 unfold x5
 simp[ho,h]
theorem Y4 (xs:List D)(S:Sto):xO [.lst xs] S=.ok (.int xs.length) S:=rfl
theorem dE (xs:List D)(S:Sto):xO [.tup xs] S=.ok (.int xs.length) S:=rfl
theorem fV:pL "int" = true∧pL "bool" = true∧pL "tuple" = true∧pL "list" = true∧pL "str" = true:=kd
theorem LS:yH "int" "tuple" = false∧yH "int" "list" = false∧yH "int" "str" = false∧yH "int" "bool" = false∧yH "int" "int" = true∧yH "tuple" "tuple" = true∧yH "tuple" "list" = false∧yH "list" "tuple" = false∧yH "list" "list" = true:=kd
theorem pG (i j:Int)(S:Sto)(h:0<j):k9 (.int i) (.int j) S=.ok (.int (i % j)) S:=by
 unfold k9 i2
 simp[h]
theorem nR (i j:Int)(S:Sto)(h:0<j∧j<1073741824):jE (.int i) (.int j) S=.ok (.int (i/j)) S:=by
 unfold jE i2 DD
 simp[h]
def j6 (d:D):Prop:=∀ S,tyD d S=some "NoneType" ∨ tyD d S=some "bool" ∨ tyD d S=some "str" ∨ tyD d S=some "tuple" ∨ tyD d S=some "list" ∨ tyD d S=some "dict"
theorem QJ (i:Int)(S:Sto):jP [.int i] S=.ok (.bl true) S:=by
 rw[bS]
 kernel_rfl!
theorem XM (d:D)(S:Sto)(h:j6 d):jP [d] S=.ok (.bl false) S:=by
 rw[bS]
 unfold fF
 rcases h S with h|h|h|h|h|h <;> simp[zA,p8,LA,IH,IG,zL,sIf,zX,xP,IS,xN,gNm,gSb,gTp,xB,uM,aS,AL,dC,qB,d1,d2,q8,qC,qH,qP,dTr,wC,jA,xE,k7,JV,dIf,wU,qV,xX,JU,dBm,dSl,zK,zQ,bD,uL,Res.bind,Res.toS,_D.gX,_D.gY,IL,II,ET,IU,IN,IP,IQ,IM,IF,IE,IK,gLt,gLe,gGt,gGe,_D.vE,IR,nY _ _ _ _ fV.1 h,nY _ _ _ _ fV.2.1 h,yH]
theorem M4 (i a b:Int)(S:Sto):vQ [.int i,.int a,.int b] S=.ok (.bl (decide (a≤i∧i≤b))) S:=by
 rw[pD]
 unfold kF
 simp[zA,p8,LA,IH,IG,zL,sIf,zX,xP,IS,xN,gNm,gSb,gTp,xB,uM,aS,AL,dC,qB,d1,d2,q8,qC,qH,qP,dTr,wC,jA,xE,k7,JV,dIf,wU,qV,xX,JU,dBm,dSl,zK,zQ,bD,uL,Res.bind,Res.toS,_D.gX,_D.gY,IL,II,ET,IU,IN,IP,IQ,IM,IF,IE,IK,gLt,gLe,gGt,gGe,_D.vE,IR,QJ]
 by_cases h:a≤i <;> simp[h,LA]
theorem U4 (d:D)(a b:Int)(S:Sto)(h:j6 d):vQ [d,.int a,.int b] S=.ok (.bl false) S:=by
 rw[pD]
 unfold kF
 simp[zA,p8,LA,IH,IG,zL,sIf,zX,xP,IS,xN,gNm,gSb,gTp,xB,uM,aS,AL,dC,qB,d1,d2,q8,qC,qH,qP,dTr,wC,jA,xE,k7,JV,dIf,wU,qV,xX,JU,dBm,dSl,zK,zQ,bD,uL,Res.bind,Res.toS,_D.gX,_D.gY,IL,II,ET,IU,IN,IP,IQ,IM,IF,IE,IK,gLt,gLe,gGt,gGe,_D.vE,IR,XM d S h]
theorem RH:j6 .non:=fun _=>.inl rfl
theorem C0 (b:Bool):j6 (.bl b):=fun _=>.inr (.inl rfl)
theorem RI (x:Str):j6 (.str x):=fun _=>.inr (.inr (.inl rfl))
theorem RJ (x:List D):j6 (.tup x):=fun _=>.inr (.inr (.inr (.inl rfl)))
theorem RG (x:List D):j6 (.lst x):=fun _=>.inr (.inr (.inr (.inr (.inl rfl))))
theorem RF:j6 .dct0:=fun _=>.inr (.inr (.inr (.inr (.inr rfl))))
def y7 (S:Sto)(p:Nat):Prop:=∃ v f:Int,S[p]? = some (.lst [.int v,.int f])
theorem Y2 (p:Nat)(k:Int)(xs:List D)(d:D)(S:Sto)(h:S[p]? = some (.lst xs))(hk:_L.atI xs k=some d):gIx (.loc p) (.int k) S=.ok d S:=by
 show (match S[p]? with|some (.lst xs)=>_D.gY (_L.atI xs k) S|_=>.bad)=_
 rw[h]
 show _D.gY (_L.atI xs k) S=_
 rw[hk]
 rfl
theorem MZ (v f:Int):_L.atI [D.int v,D.int f] 0=some (.int v):=rfl
theorem CB (v f:Int):_L.atI [D.int v,D.int f] 1=some (.int f):=rfl
theorem J2 (p:Nat)(v f w:Int)(S:Sto)(h:S[p]? = some (.lst [.int v,.int f])):pS (.loc p) (.int 0) (.int w) S=.ok () (S.set p (.lst [.int w,.int f])):=by
 simp[pS,Q0,h,_L.ixN]
theorem EH (S:Sto)(p:Nat)(m:Int)(h:y7 S p)(hm:0<m∧m<1073741824):∃ r v f:Int,zE [.loc p,.int m] S=.ok (.int r) (S.set p (.lst [.int v,.int f]))∧0≤r∧r<m:=by
 obtain⟨v,f,hp⟩:=h
 have hpl:=(List.getElem?_eq_some_iff.mp hp).1
 have g0:=Y2 p 0 _ _ S hp (MZ v f)
 have g1:=Y2 p 1 _ _ S hp (CB v f)
 rw[nE]
 unfold pR
 by_cases hf:f=1
 ·refine⟨v % m,v/m,f,?_,Int.emod_nonneg _ (by omega),Int.emod_lt_of_pos _ hm.1⟩
  subst hf
  simp[zA,p8,LA,IH,IG,zL,sIf,zX,xP,IS,xN,gNm,gSb,gTp,xB,uM,aS,AL,dC,qB,d1,d2,q8,qC,qH,qP,dTr,wC,jA,xE,k7,JV,dIf,wU,qV,xX,JU,dBm,dSl,zK,zQ,bD,uL,Res.bind,Res.toS,_D.gX,_D.gY,IL,II,ET,IU,IN,IP,IQ,IM,IF,IE,IK,gLt,gLe,gGt,gGe,_D.vE,IR,g0,g1,oZ,pG v m S hm.1,nR v m S hm,J2 p v 1 (v/m) S hp]
 ·obtain⟨w,hw⟩:∃ w:Int,w=(v % 2147483629*48271+11) % 2147483629:=⟨_,rfl⟩
  have hw1:0≤w∧w<2147483629:=by rw[hw];exact⟨Int.emod_nonneg _ (by omega),Int.emod_lt_of_pos _ (by omega)⟩
  have hv1:0≤v % 2147483629∧v % 2147483629<2147483629:=⟨Int.emod_nonneg _ (by omega),Int.emod_lt_of_pos _ (by omega)⟩
  have hp':(S.set p (MO.lst [.int w,.int f]))[p]? = some (.lst [.int w,.int f]):=by simp[hpl]
  have k0:=Y2 p 0 _ _ (S.set p (MO.lst [.int w,.int f])) hp' (MZ w f)
  have m1:=nT (v % 2147483629) 48271 S ⟨by omega,by omega⟩
  have m2:=nT w w (S.set p (MO.lst [.int w,.int f])) ⟨by omega,by omega⟩
  have m3:=nT 40692 w (S.set p (MO.lst [.int w,.int f])) ⟨by omega,by omega⟩
  have d1:=pG v 2147483629 S (by omega)
  have d2':=pG (v % 2147483629*48271+11) 2147483629 S (by omega)
  rw[← hw] at d2'
  have d3:=pG (w*w+40692*w) 2147483647 (S.set p (MO.lst [.int w,.int f])) (by omega)
  have d4:=nR ((w*w+40692*w) % 2147483647) 8 (S.set p (MO.lst [.int w,.int f])) (by omega)
  have d5:=pG ((w*w+40692*w) % 2147483647/8) m (S.set p (MO.lst [.int w,.int f])) hm.1
  refine⟨(w*w+40692*w) % 2147483647/8 % m,w,f,?_,Int.emod_nonneg _ (by omega),Int.emod_lt_of_pos _ hm.1⟩
  simp[zA,p8,LA,IH,IG,zL,sIf,zX,xP,IS,xN,gNm,gSb,gTp,xB,uM,aS,AL,dC,qB,d1,d2,q8,qC,qH,qP,dTr,wC,jA,xE,k7,JV,dIf,wU,qV,xX,JU,dBm,dSl,zK,zQ,bD,uL,Res.bind,Res.toS,_D.gX,_D.gY,IL,II,ET,IU,IN,IP,IQ,IM,IF,IE,IK,gLt,gLe,gGt,gGe,_D.vE,IR,g0,g1,oZ,hf,d1,m1,jD,d2',J2 p v f w S hp,k0,m2,m3,d3,d4,d5]
theorem FY {S:Sto}{p:Nat}(h:y7 S p)(v f:Int):y7 (S.set p (.lst [.int v,.int f])) p:=by
 obtain⟨v0,f0,hp⟩:=h
 have hpl:=(List.getElem?_eq_some_iff.mp hp).1
 exact⟨v,f,by simp[hpl]⟩
theorem E9 (S:Sto):cZ (.int 10) (.int 18) S=.ok (.int 1000000000000000000) S:=rfl
theorem EA (S:Sto):cZ (.int 10) (.int 29) S=.ok (.int 100000000000000000000000000000) S:=rfl
theorem CI (x:Int)(S:Sto):∃ f:Int,gH [.int x] S=.ok (.loc S.length) (S++[.lst [.int x,.int f]]):=by
 refine⟨b01 (decide (1000000000000000000≤x)),?_⟩
 have l2:2≤lim:=by decide
 rw[dU]
 unfold fE
 simp[zA,p8,LA,IH,IG,zL,sIf,zX,xP,IS,xN,gNm,gSb,gTp,xB,uM,aS,AL,dC,qB,d1,d2,q8,qC,qH,qP,dTr,wC,jA,xE,k7,JV,dIf,wU,qV,xX,JU,dBm,dSl,zK,zQ,bD,uL,Res.bind,Res.toS,_D.gX,_D.gY,IL,II,ET,IU,IN,IP,IQ,IM,IF,IE,IK,gLt,gLe,gGt,gGe,_D.vE,IR,E9,NC,l2]
theorem EG (ns:List Int)(S:Sto):∃ x:Int,vP [.lst (ns.map D.int),.int 0] S=.ok (.int x) S:=by
 rw[nB]
 unfold pQ
 cases ns with
 |nil=>exact⟨0,by simp[zA,p8,LA,IH,IG,zL,sIf,zX,xP,IS,xN,gNm,gSb,gTp,xB,uM,aS,AL,dC,qB,d1,d2,q8,qC,qH,qP,dTr,wC,jA,xE,k7,JV,dIf,wU,qV,xX,JU,dBm,dSl,zK,zQ,bD,uL,Res.bind,Res.toS,_D.gX,_D.gY,IL,II,ET,IU,IN,IP,IQ,IM,IF,IE,IK,gLt,gLe,gGt,gGe,_D.vE,IR,Y4]⟩
 |cons n ns =>
  refine⟨n,?_⟩
  have h:(0:Int)<(ns.length:Int)+1:=by omega
  have a:_L.atI (D.int n::ns.map D.int) 0=some (.int n):=by simp[_L.atI,_L.ixN,h]
  simp[zA,p8,LA,IH,IG,zL,sIf,zX,xP,IS,xN,gNm,gSb,gTp,xB,uM,aS,AL,dC,qB,d1,d2,q8,qC,qH,qP,dTr,wC,jA,xE,k7,JV,dIf,wU,qV,xX,JU,dBm,dSl,zK,zQ,bD,uL,Res.bind,Res.toS,_D.gX,_D.gY,IL,II,ET,IU,IN,IP,IQ,IM,IF,IE,IK,gLt,gLe,gGt,gGe,_D.vE,IR,Y4,eP a,h]
theorem nM (xs:List D)(r:Int)(h:0≤r∧r<xs.length):∃ d,_L.atI xs r=some d∧d∈xs:=by
 have e:_L.ixN xs.length r=some r.toNat:=by simp[_L.ixN,h]
 have hl:r.toNat<xs.length:=by omega
 exact⟨xs[r.toNat],by simp[_L.atI,e,hl],List.getElem_mem hl⟩
theorem TQ (ns:List Int)(lo hi:Option Int):∃ ms:List Int,xW (ns.map D.int) lo hi=ms.map D.int∧ms.length≤ns.length:=by
 unfold xW
 rw[← List.map_drop,← List.map_take]
 exact⟨_,rfl,by simp;omega⟩
def WW:DG:=gTp 2 (xB (gNm 2) (xB (gNm 3) (uM)))
noncomputable def i9 (S:DF):DS:=sIf (wC (dTr (qP 2 S (q8 (qB 2) (q8 (qB 3) (qC)))))) (zX (dC (.bl false))) (xP)
theorem DB (S:DF):yV S=zL (sIf (dTr (d2 gIs (qB 1) (dC .non))) (zX (d2 gIs (qB 0) (dC .non))) (xP)) (zL (sIf (jA (dTr (qH x5 (q8 (qB 1) (q8 (dC (.ty "tuple")) (qC))))) (dTr (qH x5 (q8 (qB 1) (q8 (dC (.ty "list")) (qC)))))) (zL (sIf (jA (dTr (d2 gNe (qH x5 (q8 (qB 0) (q8 (dC (.ty "tuple")) (qC)))) (qH x5 (q8 (qB 1) (q8 (dC (.ty "tuple")) (qC)))))) (dTr (d2 gNe (qH x5 (q8 (qB 0) (q8 (dC (.ty "list")) (qC)))) (qH x5 (q8 (qB 1) (q8 (dC (.ty "list")) (qC))))))) (zX (dC (.bl false))) (xP)) (zL (sIf (dTr (d2 gNe (qH xO (q8 (qB 0) (qC))) (qH xO (q8 (qB 1) (qC))))) (zX (dC (.bl false))) (xP)) (zL (dN (r0 (q8 (qB 0) (q8 (qB 1) (qC)))) WW (i9 S)) (zX (dC (.bl true)))))) (xP)) (zL (sIf (dTr (qH x5 (q8 (qB 1) (q8 (dC (.ty "str")) (qC))))) (zX (k7 (qH x5 (q8 (qB 0) (q8 (dC (.ty "str")) (qC)))) (d2 gEq (qB 0) (qB 1)))) (xP)) (zX (k7 (d2 gEq (qH x5 (q8 (qB 0) (q8 (dC (.ty "bool")) (qC)))) (qH x5 (q8 (qB 1) (q8 (dC (.ty "bool")) (qC))))) (k7 (qH x5 (q8 (qB 0) (q8 (dC (.ty "int")) (qC)))) (d2 gEq (qB 0) (qB 1))))))):=rfl
theorem GZ (F:DF)(x y:Option D)(S:Sto):∀ (ws:List D),(∀ d∈ws,F [d,d] S=.ok (.bl true) S)→∀ u v,∃ u' v',pW WW (i9 F) (j2 ws ws) [x,y,u,v] S=.nx [x,y,u',v'] S:=by
 intro ws
 induction ws with
 |nil=>exact fun _ u v=>⟨u,v,rfl⟩
 |cons w ws ih =>
  intro h u v
  obtain⟨u',v',e⟩:=ih (fun d hd=>h d (List.mem_cons_of_mem _ hd)) (some w) (some w)
  refine⟨u',v',?_⟩
  have hw:=h w (List.mem_cons_self ..)
  have hg:WW (.tup [w,w]) [x,y,u,v] S=.ok [x,y,some w,some w] S:=rfl
  have hf:i9 F [x,y,some w,some w] S=.nx [x,y,some w,some w] S:=by
   unfold i9
   simp[zA,p8,LA,IH,IG,zL,sIf,zX,xP,IS,xN,gNm,gSb,gTp,xB,uM,aS,AL,dC,qB,d1,d2,q8,qC,qH,qP,dTr,wC,jA,xE,k7,JV,dIf,wU,qV,xX,JU,dBm,dSl,zK,zQ,bD,uL,Res.bind,Res.toS,_D.gX,_D.gY,IL,II,ET,IU,IN,IP,IQ,IM,IF,IE,IK,gLt,gLe,gGt,gGe,_D.vE,IR,hw]
  have hz:j2 (w::ws) (w::ws)=D.tup [w,w]::j2 ws ws:=rfl
  rw[hz]
  unfold pW
  simp only[hg,Res.toS,hf]
  exact e
def okD:Nat→D→Prop
 |n+1,.tup xs=>∀ x∈xs,okD n x
 |n+1,.lst xs=>∀ x∈xs,okD n x
 |_,.int _=>True
 |_,.bl _=>True
 |_,.non=>True
 |_,_=>False
theorem EI {t:DT}{f g:DS}{env:qG}{S S1:Sto}{b:Bool}{Q:D→Sto→Prop}(h:t env S=.ok b S1)(k:Rt ((if b then f else g) env S1) Q):Rt (sIf t f g env S) Q:=by
 obtain⟨d,S2,e2,q⟩:=k
 refine⟨d,S2,?_,q⟩
 unfold sIf
 rw[h]
 cases b <;> exact e2
theorem gB {f g:DS}{env:qG}{S:Sto}{Q:D→Sto→Prop}(h:Rt (f env S) Q):Rt (zL f g env S) Q:=by
 obtain⟨d,S2,e2,q⟩:=h
 exact⟨d,S2,by unfold zL;rw[e2],q⟩
theorem lL {n:Nat}{g:DS}{ds:List D}{S S':Sto}{d:D}{env:qG}(hs:p8 n ds=env)(h:Rt (g env S) fun d' S1=>d'=d∧S1=S'):zA n g ds S=.ok d S':=by
 obtain⟨d',S1,e,rfl,rfl⟩:=h
 exact rY hs e
theorem V0 (F:DF)(d:D)(ws:List D)(S:Sto)(h1:gIs d .non S=.ok (.bl false) S)(h2:jA (dTr (qH x5 (q8 (qB 1) (q8 (dC (.ty "tuple")) (qC))))) (dTr (qH x5 (q8 (qB 1) (q8 (dC (.ty "list")) (qC))))) [some d,some d,none,none] S=.ok true S)
  (h3:jA (dTr (d2 gNe (qH x5 (q8 (qB 0) (q8 (dC (.ty "tuple")) (qC)))) (qH x5 (q8 (qB 1) (q8 (dC (.ty "tuple")) (qC)))))) (dTr (d2 gNe (qH x5 (q8 (qB 0) (q8 (dC (.ty "list")) (qC)))) (qH x5 (q8 (qB 1) (q8 (dC (.ty "list")) (qC)))))) [some d,some d,none,none] S=.ok false S)
  (h4:xO [d] S=.ok (.int ws.length) S) (h5:KQ [d,d]=some (j2 ws ws)) (ih:∀ x∈ws,F [x,x] S=.ok (.bl true) S):zA 4 (yV F) [d,d] S=.ok (.bl true) S:=by
 rw[DB]
 obtain⟨u',v',e⟩:=GZ F (some d) (some d) S ws ih none none
 have h1':dTr (d2 gIs (qB 1) (dC .non)) [some d,some d,none,none] S=.ok false S:=by
  show (Res.bind (gIs d .non S) fun d S1=>gX (yF d S1) S1)=_
  rw[h1]
  rfl
 have h4':dTr (d2 gNe (qH xO (q8 (qB 0) (qC))) (qH xO (q8 (qB 1) (qC)))) [some d,some d,none,none] S=.ok false S:=by
  show (Res.bind (Res.bind (xO [d] S) fun a S1=>Res.bind (xO [d] S1) fun b S2=>gNe a b S2) fun d S1=>gX (yF d S1) S1)=_
  rw[h4]
  show (Res.bind (Res.bind (xO [d] S) fun b S2=>gNe (.int ws.length) b S2) fun d S1=>gX (yF d S1) S1)=_
  rw[h4]
  show (Res.bind (gNe (.int ws.length) (.int ws.length) S) fun d S1=>gX (yF d S1) S1)=_
  rw[UM,decide_eq_false (fun h=>h rfl)]
  rfl
 have h5':r0 (q8 (qB 0) (q8 (qB 1) (qC))) [some d,some d,none,none] S=.ok (j2 ws ws) S:=by
  show _D.gY (KQ [d,d]) S=_
  rw[h5]
  rfl
 exact lL rfl (xA (kQ h1' (uN rfl (gB (EI h2 (xA (kQ h3 (uN rfl (xA (kQ h4' (uN rfl (xA (iZ h5' (uN e (yE (vM rfl ⟨rfl,rfl⟩))))))))))))))))
theorem V1 (F:DF)(i:Int)(S:Sto):zA 4 (yV F) [.int i,.int i] S=.ok (.bl true) S:=by
 have h:zA 4 (yV F) [.int i,.int i] S=.ok (.bl (i == i)) S:=by kernel_rfl!
 rw[h,beq_self_eq_true]
theorem JB (F:DF)(b:Bool)(S:Sto):zA 4 (yV F) [.bl b,.bl b] S=.ok (.bl true) S:=by
 cases b <;> kernel_rfl!
theorem V2 (F:DF)(S:Sto):zA 4 (yV F) [.non,.non] S=.ok (.bl true) S:=by kernel_rfl!
theorem B6:∀ (n:Nat) (d:D) (S:Sto),okD n d→gZ (n+1) [d,d] S=.ok (.bl true) S:=by
 intro n
 induction n with
 |zero =>
  intro d S h
  cases d with
  |int i=>exact V1 _ i S
  |bl b=>exact JB _ b S
  |non=>exact V2 _ S
  |_=>exact False.elim h
 |succ n ih =>
  intro d S h
  cases d with
  |tup ws=>exact V0 (gZ (n+1)) (.tup ws) ws S rfl (by kernel_rfl!) (by kernel_rfl!) rfl rfl fun x hx=>ih x S (h x hx)
  |lst ws=>exact V0 (gZ (n+1)) (.lst ws) ws S rfl (by kernel_rfl!) (by kernel_rfl!) rfl rfl fun x hx=>ih x S (h x hx)
  |int i=>exact V1 _ i S
  |bl b=>exact JB _ b S
  |non=>exact V2 _ S
  |_=>exact False.elim h
end _K
end
section
namespace _K
open PySem _D
def Pn (d:D):Prop:=∃ p,pyD d=some p
theorem PP {d:D}(h:Pn d):(∃ i,d=.int i)∨j6 d:=by
 obtain⟨p,h⟩:=h
 cases d with
 |int i=>exact .inl ⟨i,rfl⟩
 |non=>exact .inr RH
 |bl b=>exact .inr (C0 b)
 |str x=>exact .inr (RI x)
 |tup x=>exact .inr (RJ x)
 |lst x=>exact .inr (RG x)
 |dct0=>exact .inr RF
 |_=>simp[pyD] at h
theorem pns {xs:List D}:∀ {ps:List PyData},dI xs=some ps→∀ x∈xs,Pn x:=by
 induction xs with
 |nil=>intro ps _ x hx;cases hx
 |cons d ds ih =>
  intro ps h x hx
  simp only[dI] at h
  obtain⟨p,h1,h2⟩:=Option.bind_eq_some_iff.mp h
  obtain⟨ps',h3,_⟩:=Option.map_eq_some_iff.mp h2
  rcases List.mem_cons.mp hx with rfl|hx
  ·exact⟨p,h1⟩
  ·exact ih h3 x hx
theorem PQ {xs:List D}(h:Pn (.tup xs)):∀ x∈xs,Pn x:=by
 obtain⟨p,h⟩:=h
 simp only[pyD] at h
 obtain⟨ps,h1,_⟩:=Option.map_eq_some_iff.mp h
 exact pns h1
theorem KE {d:D}(h:Pn d):(∃ xs,d=.tup xs)∨∀ S,wC (dTr (qH x5 (q8 (qB 0) (q8 (dC (.ty "tuple")) (qC))))) [some d] S=.ok true S:=by
 have one:∀ (a:String),(∀ S,tyD d S=some a)→yH a "tuple" = false→∀ S,wC (dTr (qH x5 (q8 (qB 0) (q8 (dC (.ty "tuple")) (qC))))) [some d] S=.ok true S:=fun a h1 h2 S=>by
  have:=mU (pY ((G4 (f1:=qB 0) (f2:=dC (.ty "tuple")) (env:=[some d]) (S:=S) rfl rfl).trans (nY d "tuple" a S fV.2.2.1 (h1 S))))
  rw[h2] at this
  exact this
 obtain⟨p,h⟩:=h
 cases d with
 |tup xs=>exact .inl ⟨xs,rfl⟩
 |int i=>exact .inr (one "int" (fun _=>rfl) (kd))
 |non=>exact .inr (one "NoneType" (fun _=>rfl) (kd))
 |bl b=>exact .inr (one "bool" (fun _=>rfl) (kd))
 |str x=>exact .inr (one "str" (fun _=>rfl) (kd))
 |lst x=>exact .inr (one "list" (fun _=>rfl) (kd))
 |dct0=>exact .inr (one "dict" (fun _=>rfl) (kd))
 |_=>simp[pyD] at h
theorem pI (xs:List D)(S:Sto):wC (dTr (qH x5 (q8 (qB 0) (q8 (dC (.ty "tuple")) (qC))))) [some (.tup xs)] S=.ok false S:=by
 have:=mU (pY ((G4 (f1:=qB 0) (f2:=dC (.ty "tuple")) (env:=[some (.tup xs)]) (S:=S) rfl rfl).trans (nY (.tup xs) "tuple" "tuple" S fV.2.2.1 rfl)))
 rw[LS.2.2.2.2.2.1] at this
 exact this
def isI:D→Bool
 |.int i=>decide (-1000≤i∧i≤1000)
 |_=>false
def zO:D→Bool
 |.tup [a,b]=>isI a&&isI b
 |_=>false
theorem GP {d:D}(h:j6 d):isI d=false:=by
 cases d with
 |int i =>
  rcases h [] with h|h|h|h|h|h <;> (rw[ET] at h;exact absurd (Option.some.inj h) (by decide))
 |_=>rfl
theorem AU (x:D)(S:Sto)(h:Pn x):vQ [x,.int (-1000),.int 1000] S=.ok (.bl (isI x)) S:=by
 rcases PP h with⟨i,rfl⟩|h
 ·exact M4 i _ _ S
 ·rw[GP h];exact U4 x _ _ S h
theorem U3 (i:Int)(S:Sto):yZ [.int i] S=.ok (.bl true) S:=by
 rw[gI]
 kernel_rfl!
theorem KF (d:D)(S:Sto)(h:j6 d):yZ [d] S=.ok (.bl false) S:=by
 rw[gI]
 unfold gN
 rcases h S with h|h|h|h|h|h <;> simp[zA,p8,LA,IH,IG,zL,sIf,zX,xP,IS,xN,gNm,gSb,gTp,xB,uM,aS,AL,dC,qB,d1,d2,q8,qC,qH,qP,dTr,wC,jA,xE,k7,JV,dIf,wU,qV,xX,JU,dBm,dSl,zK,zQ,bD,uL,Res.bind,Res.toS,_D.gX,_D.gY,IL,II,ET,IU,IN,IP,IQ,IM,IF,IE,IK,gLt,gLe,gGt,gGe,_D.vE,IR,nY _ _ _ _ fV.1 h,nY _ _ _ _ fV.2.1 h,yH]
theorem BV (i:Int)(S:Sto):wU gLe gLe (d1 kA (dC (.int 1000))) (qB 0) (dC (.int 1000)) [some (.int i)] S=.ok (.bl (decide (-1000≤i∧i≤1000))) S:=by
 have e:d1 kA (dC (.int 1000)) [some (.int i)] S=.ok (.int (-1000)) S:=rfl
 unfold wU
 rw[e]
 simp[zA,p8,LA,IH,IG,zL,sIf,zX,xP,IS,xN,gNm,gSb,gTp,xB,uM,aS,AL,dC,qB,d1,d2,q8,qC,qH,qP,dTr,wC,jA,xE,k7,JV,dIf,wU,qV,xX,JU,dBm,dSl,zK,zQ,bD,uL,Res.bind,Res.toS,_D.gX,_D.gY,IL,II,ET,IU,IN,IP,IQ,IM,IF,IE,IK,gLt,gLe,gGt,gGe,_D.vE,IR,Res.bind]
 by_cases h:(-1000:Int)≤i <;> simp[h]
theorem CG (x:D)(S:Sto)(h:Pn x):k7 (qP 1 (okO yZ) (q8 (qB 0) (qC))) (wU gLe gLe (d1 kA (dC (.int 1000))) (qB 0) (dC (.int 1000))) [some x] S=.ok (.bl (isI x)) S:=by
 rcases PP h with⟨i,rfl⟩|h
 ·exact XZ (a:=true) ((kN (f1:=qB 0) rfl).trans (bL (U3 i S))) (fun _=>BV i S) (by intro z;cases z)
 ·rw[GP h]
  exact XZ (a:=false) (b:=false) ((kN (f1:=qB 0) rfl).trans (bL (KF x S h))) (by intro z;cases z) (fun _=>rfl)
theorem ZQ (fe:DE)(S:Sto)(hfe:∀ x,Pn x→fe [some x] S=.ok (.bl (isI x)) S)(d:D)(h:Pn d) :
  Rt (zL (sIf (jA (wC (dTr (qH x5 (q8 (qB 0) (q8 (dC (.ty "tuple")) (qC)))))) (dTr (d2 gNe (qH xO (q8 (qB 0) (qC))) (dC (.int 2))))) (zX (dC (.bl false))) (xP)) (zX (qH (gS false) (q8 (zP false [none] (dIt (qB 0)) (gNm 0) (xE) (zR fe)) (qC)))) [some d] S) fun d' S1=>d'=.bl (zO d)∧S1=S:=by
 rcases KE h with⟨xs,rfl⟩|hn
 ·have hl:dTr (d2 gNe (qH xO (q8 (qB 0) (qC))) (dC (.int 2))) [some (.tup xs)] S=.ok (decide ((xs.length:Int)≠2)) S:=pY ((zJ ((gP (f1:=qB 0) rfl).trans (dE xs S)) rfl).trans (UM _ _ _))
  have ht:=fP (pI xs S) (fun _=>hl) (by intro z;cases z)
  rw[Bool.false_or] at ht
  by_cases h2:xs.length=2
  ·rw[decide_eq_false (by omega)] at ht
   refine xA (kQ ht (uN (S:=S) rfl (yE (vM ?_ (d:=.bl (zO (.tup xs))) (S:=S) ⟨rfl,rfl⟩))))
   have hc:=WC (cap:=[none]) (g:=gNm 0) (t:=xE) (fe:=fe) (fi:=dIt (qB 0)) (env:=[some (.tup xs)]) (S:=S) (o:=none) (items:=xs) rfl trivial (fun _=>true) (fun x=>.bl (isI x)) (fun env=>∃ a,env=[a]) ⟨none,rfl⟩ (by rw[h2];decide)
    (fun x hx env ⟨a,q⟩=>by subst q;exact⟨[some x],rfl,⟨_,rfl⟩,rfl,fun _=>hfe x (PQ h x hx)⟩)
   rw[bE] at hc
   rw[aX (p:=isI) hc]
   match xs,h2 with
   |[a,b],_=>simp[zO]
  ·rw[decide_eq_true (by omega)] at ht
   refine gB (mX ht (yE (vM (d:=.bl false) (S:=S) rfl ⟨?_,rfl⟩)))
   match xs,h2 with
   |[],_=>rfl
   |[a],_=>rfl
   |[a,b],h=>exact absurd rfl h
   |a::b::c::r,_=>rfl
 ·have ht:=fP (b:=false) (g:=dTr (d2 gNe (qH xO (q8 (qB 0) (qC))) (dC (.int 2)))) (hn S) (by intro z;cases z) (fun _=>rfl)
  refine gB (mX ht (yE (vM (d:=.bl false) (S:=S) rfl ⟨?_,rfl⟩)))
  congr 1
  unfold zO
  split
  ·have:=hn S
   rw[pI] at this
   cases this
  ·rfl
theorem oB (d:D)(S:Sto)(h:Pn d):yQ [d] S=.ok (.bl (zO d)) S:=by
 rw[dX]
 exact lL (env:=[some d]) rfl (ZQ _ S (fun x hx=>(H0 (f1:=qB 0) rfl rfl rfl).trans (bL (AU x S hx))) d h)
theorem cO (d:D)(S:Sto)(h:Pn d):x9 [d] S=.ok (.bl (zO d)) S:=by
 rw[b5]
 exact lL (env:=[some d]) rfl (ZQ _ S (fun x hx=>CG x S hx) d h)
end _K
end
section
namespace _K
open PySem _D
def upB (ks:List (List Int)):Bool:=(ks.zip (ks.drop 1)).all fun p=>_H.lexLt p.1 p.2
def pU:D→Bool
 |.tup xs=>decide (1≤xs.length∧xs.length≤40)&&xs.all zO&&(match pZ xs with|some ks=>upB ks|none=>false)
 |_=>false
set_option tactic.hygienic true in
theorem o7:∀ (xs:List D),xs.all zO=true→∃ ks:List (List Int),xs=ks.map tpD
 |[],_=>⟨[],rfl⟩
 |d::ds,h=>by
  rw[List.all_cons,Bool.and_eq_true] at h
  obtain⟨ks,rfl⟩:=o7 ds h.2
  have h1:=h.1
  unfold zO at h1
  split at h1
  ·rename_i a b
   rw[Bool.and_eq_true] at h1
   cases a with
   |int x =>
    cases b with
    |int y=>exact⟨[x,y]::ks,rfl⟩
    |_=>simp[isI] at h1
   |_=>simp[isI] at h1
  ·cases h1
theorem HY (a b:List Int)(S:Sto):cY (tpD a) (tpD b) S=.ok (.bl (_H.lexLt a b)) S:=by
 unfold cY tpD
 simp only[ZH]
theorem VE:∀ (ks:List (List Int)),upB ks=true↔ks.Pairwise (fun a b=>_H.lexLt a b=true)
 |[]=>by simp[upB]
 |[a]=>by simp[upB]
 |a::b::r=>by
  have ih:=VE (b::r)
  have e:upB (a::b::r)=(_H.lexLt a b&&upB (b::r)):=by simp[upB]
  rw[e,Bool.and_eq_true,ih,List.pairwise_cons (a:=a)]
  constructor
  ·rintro⟨h1,h2⟩
   refine⟨fun x hx=>?_,h2⟩
   rcases List.mem_cons.mp hx with rfl|hx
   ·exact h1
   ·exact _S.rR.tr h1 ((List.pairwise_cons.mp h2).1 x hx)
  ·rintro⟨h1,h2⟩
   exact⟨h1 b (by simp),h2⟩
theorem EZ (ks ms:List (List Int)):j2 (ks.map tpD) (ms.map tpD)=(ks.zip ms).map fun p=>D.tup [tpD p.1,tpD p.2]:=by
 unfold j2
 induction ks generalizing ms with
 |nil=>rfl
 |cons k ks ih =>
  cases ms with
  |nil=>rfl
  |cons m ms=>exact congrArg (_::·) (ih ms)
theorem MM (xs:List D):xW xs (some 1) none=xs.drop 1:=by
 unfold xW
 have h1:_H.sIx xs.length 0 (some 1)=min 1 xs.length:=rfl
 have h2:_H.sIx xs.length xs.length none=xs.length:=rfl
 rw[h1,h2]
 cases xs with
 |nil=>rfl
 |cons x r=>simp
theorem U2 (ks:List (List Int))(S:Sto)(hl:ks.length≤lim):kE [.tup (ks.map tpD)] S=.ok (.bl (upB ks)) S:=by
 rw[nJ]
 refine JA (env:=[some (.tup (ks.map tpD))]) rfl ?_
 have hz:y9 (r0 (q8 (qB 0) (q8 (dSl (qB 0) (zK (dC (.int 1))) (zQ)) (qC)))) [some (.tup (ks.map tpD))] S=.ok (none,(ks.zip (ks.drop 1)).map fun p=>D.tup [tpD p.1,tpD p.2]) S:=by
  have hs:dSl (qB 0) (zK (dC (.int 1))) (zQ) [some (.tup (ks.map tpD))] S=.ok (.tup ((ks.drop 1).map tpD)) S:=by
   have:gSl (.tup (ks.map tpD)) (some 1) none S=.ok (.tup ((ks.drop 1).map tpD)) S:=by
    show Res.ok (D.tup (xW (ks.map tpD) (some 1) none)) S=_
    rw[MM,List.map_drop]
   exact this
  unfold y9 r0
  rw[wD (f1:=qB 0) rfl hs]
  show Res.ok (none,j2 (ks.map tpD) ((ks.drop 1).map tpD)) S=_
  rw[EZ]
 have hc:=UE (enc:=fun p:List Int × List Int=>D.tup [tpD p.1,tpD p.2]) (cap:=[none,none]) (g:=gTp 2 (xB (gNm 0) (xB (gNm 1) (uM)))) (t:=xE) (fe:=d2 cY (qB 0) (qB 1)) hz trivial (fun _=>true) (fun p=>.bl (_H.lexLt p.1 p.2)) (fun env=>∃ a b,env=[a,b]) ⟨none,none,rfl⟩ (by simp;omega)
  (fun p _ env ⟨a,b,q⟩=>by
   subst q
   exact⟨[some (tpD p.1),some (tpD p.2)],rfl,⟨_,_,rfl⟩,rfl,fun _=>(zJ (a:=tpD p.1) (b:=tpD p.2) rfl rfl).trans (HY _ _ _)⟩)
 rw[bE] at hc
 exact aX (p:=fun p:List Int × List Int=>_H.lexLt p.1 p.2) hc
theorem Y5 (xs:List D)(S:Sto)(f:DE)(hf:f [some (.tup xs)] S=.ok (.int 40) S):wC (dTr (wU gLe gLe (dC (.int 1)) (qH xO (q8 (qB 0) (qC))) f)) [some (.tup xs)] S=.ok (!decide (1≤xs.length∧xs.length≤40)) S:=by
 have hl:qH xO (q8 (qB 0) (qC)) [some (.tup xs)] S=.ok (.int xs.length) S:=(gP (f1:=qB 0) rfl).trans (dE xs S)
 refine mU (pY ?_)
 unfold wU
 rw[show dC (.int 1) [some (.tup xs)] S=.ok (.int 1) S from rfl]
 simp only[Res.bind]
 rw[hl]
 simp[zA,p8,LA,IH,IG,zL,sIf,zX,xP,IS,xN,gNm,gSb,gTp,xB,uM,aS,AL,dC,qB,d1,d2,q8,qC,qH,qP,dTr,wC,jA,xE,k7,JV,dIf,wU,qV,xX,JU,dBm,dSl,zK,zQ,bD,uL,Res.bind,Res.toS,_D.gX,_D.gY,IL,II,ET,IU,IN,IP,IQ,IM,IF,IE,IK,gLt,gLe,gGt,gGe,_D.vE,IR,hf]
 by_cases h:1≤xs.length
 ·have h':(1:Int)≤(xs.length:Int):=by omega
  simp[h,h']
  omega
 ·have h':¬ (1:Int)≤(xs.length:Int):=by omega
  simp[h,h']
theorem YS (F:DF)(xs:List D)(S:Sto)(hF:∀ x,Pn x→F [x] S=.ok (.bl (zO x)) S)(h:Pn (.tup xs))(hl:xs.length≤40):qH (gS false) (q8 (zP false [none] (dIt (qB 0)) (gNm 0) (xE) (zR (qP 1 (okO F) (q8 (qB 0) (qC))))) (qC)) [some (.tup xs)] S=.ok (.bl (xs.all zO)) S:=by
 have hc:=WC (cap:=[none]) (g:=gNm 0) (t:=xE) (fe:=qP 1 (okO F) (q8 (qB 0) (qC))) (fi:=dIt (qB 0)) (env:=[some (.tup xs)]) (S:=S) (o:=none) (items:=xs) rfl trivial (fun _=>true) (fun x=>.bl (zO x)) (fun env=>∃ a,env=[a]) ⟨none,rfl⟩ (by unfold lim;omega)
  (fun x hx env ⟨a,q⟩=>by subst q;exact⟨[some x],rfl,⟨_,rfl⟩,rfl,fun _=>(kN (f1:=qB 0) rfl).trans (bL (hF x (PQ h x hx)))⟩)
 rw[bE] at hc
 exact aX (p:=zO) hc
theorem M2 (d:D)(S:Sto)(h:Pn d):pC [d] S=.ok (.bl (pU d)) S:=by
 rw[cD]
 refine lL (env:=[some d]) rfl ?_
 unfold lP
 rcases KE h with⟨xs,rfl⟩|hn
 ·have ht:=fP (pI xs S) (fun _=>Y5 xs S (dC (.int (40))) rfl) (by intro z;cases z)
  rw[Bool.false_or] at ht
  by_cases hl:1≤xs.length∧xs.length≤40
  ·rw[decide_eq_true hl] at ht
   refine xA (kQ ht (uN (S:=S) rfl (yE (vM ?_ (d:=.bl (pU (.tup xs))) (S:=S) ⟨rfl,rfl⟩))))
   have hp:=YS yQ xs S (fun x hx=>oB x S hx) h hl.2
   have e:pU (.tup xs)=(xs.all zO&&(match pZ xs with|some ks=>upB ks|none=>false)):=by
    show (decide (1≤xs.length∧xs.length≤40)&&xs.all zO&&_)=_
    rw[decide_eq_true hl,Bool.true_and]
   rw[e]
   refine XZ hp (fun ha=>?_) (fun _=>rfl)
   obtain⟨ks,rfl⟩:=o7 xs ha
   rw[eB]
   exact(kN (f1:=qB 0) rfl).trans (U2 ks S (by rw[List.length_map] at hl;unfold lim;omega))
  ·rw[decide_eq_false hl] at ht
   refine gB (mX ht (yE (vM (d:=.bl false) (S:=S) rfl ⟨?_,rfl⟩)))
   show _=D.bl (decide (1≤xs.length∧xs.length≤40)&&xs.all zO&&_)
   rw[decide_eq_false hl]
   rfl
 ·have ht:=fP (b:=false) (g:=wC (dTr (wU gLe gLe (dC (.int 1)) (qH xO (q8 (qB 0) (qC))) (dC (.int (40)))))) (hn S) (by intro z;cases z) (fun _=>rfl)
  refine gB (mX ht (yE (vM (d:=.bl false) (S:=S) rfl ⟨?_,rfl⟩)))
  congr 1
  unfold pU
  split
  ·have:=hn S
   rw[pI] at this
   cases this
  ·rfl
theorem WZ {K:Type}(lt':K→K→Bool)(x:K):∀ l:List K,(_S.mO lt' x l).length≤l.length+1
 |[]=>by simp[_S.mO]
 |y::l=>by
  have:=WZ lt' x l
  unfold _S.mO
  split
  ·simp
  ·split
   ·simp
    omega
   ·simp
theorem QV {K:Type}(lt':K→K→Bool):∀ l:List K,(_S.srt lt' l).length≤l.length
 |[]=>by simp[_S.srt]
 |x::l=>by
  have h1:=WZ lt' x (_S.srt lt' l)
  have h2:=QV lt' l
  rw[_S.srt,List.length_cons]
  omega
theorem JF (ks:List (List Int))(h:ks≠[])(hl:ks.length<64)(he:∀ k∈ks,k≠[]):pN (ks.map tpD)=some ((_S.srt _H.lexLt ks).map tpD):=by
 unfold pN
 have h0:jT (ks.map tpD)=none:=by
  cases ks with
  |nil=>exact absurd rfl h
  |cons k r=>rfl
 rw[h0,eB]
 have h1:=QV _H.lexLt ks
 have h2:(ks.all fun k=>!k.isEmpty)=true:=by
  rw[List.all_eq_true]
  intro k hk
  have:=he k hk
  cases k with
  |nil=>exact absurd rfl this
  |cons _ _=>rfl
 have h3:(decide ((_S.srt _H.lexLt ks).length<64)&&ks.all fun k=>!k.isEmpty)=true:=by
  rw[h2,decide_eq_true (by omega)];rfl
 show (if (decide ((_S.srt _H.lexLt ks).length<64)&&ks.all fun k=>!k.isEmpty)=true then _ else _)=_
 rw[if_pos h3]
theorem EX (ks:List (List Int)):upB ks=decide (ks=_S.srt _H.lexLt ks):=by
 by_cases h:upB ks=true
 ·rw[h]
  symm
  rw[decide_eq_true_eq]
  exact _S.hB _S.rR ((VE ks).mp h) (_S.lM _S.rR ks) fun x=>(_S.gD _S.rR x ks).symm
 ·have h':upB ks=false:=by simpa using h
  rw[h']
  symm
  rw[decide_eq_false_iff_not]
  intro e
  apply h
  rw[VE,e]
  exact _S.lM _S.rR ks
theorem UJ:∀ (a b:List Int),yS (a.map D.int) (b.map D.int)=decide (a=b)
 |[],[]=>rfl
 |[],_::_=>rfl
 |_::_,[]=>rfl
 |x::a,y::b=>by
  show ((x == y)&&yS (a.map D.int) (b.map D.int))=_
  rw[UJ a b]
  by_cases h1:x=y <;> by_cases h2:a=b <;> simp[h1,h2]
theorem GJ:∀ (a b:List (List Int)),yS (a.map tpD) (b.map tpD)=decide (a=b)
 |[],[]=>rfl
 |[],_::_=>rfl
 |_::_,[]=>rfl
 |x::a,y::b=>by
  show (yS (x.map D.int) (y.map D.int)&&yS (a.map tpD) (b.map tpD))=_
  rw[UJ,GJ a b]
  by_cases h1:x=y <;> by_cases h2:a=b <;> simp[h1,h2]
theorem PN (ks:List (List Int)):pl kI (.lst (ks.map tpD))=true:=by
 show (ks.map tpD).all (pl 29)=true
 rw[List.all_map,List.all_eq_true]
 intro k _
 show (k.map D.int).all (pl 28)=true
 rw[List.all_map,List.all_eq_true]
 intro i _
 rfl
theorem ZR (d:D)(S:Sto)(h:Pn d):wO [d] S=.ok (.bl (pU d)) S:=by
 rw[fZ]
 refine lL (env:=[some d]) rfl ?_
 unfold kM
 rcases KE h with⟨xs,rfl⟩|hn
 ·by_cases hl:1≤xs.length∧xs.length≤40
  ·have hp:=mU (pY (YS x9 xs S (fun x hx=>cO x S hx) h hl.2))
   have ht:=fP (pI xs S) (fun _=>fP (Y5 xs S (dC (.int 40)) rfl) (fun _=>hp) (fun _=>rfl)) (by intro z;cases z)
   have e:pU (.tup xs)=(xs.all zO&&(match pZ xs with|some ks=>upB ks|none=>false)):=by
    show (decide (1≤xs.length∧xs.length≤40)&&xs.all zO&&_)=_
    rw[decide_eq_true hl,Bool.true_and]
   rw[e]
   rw[decide_eq_true hl,Bool.false_or,Bool.not_true,Bool.false_or] at ht
   cases ha:xs.all zO with
   |true =>
    rw[ha] at ht
    obtain⟨ks,rfl⟩:=o7 xs ha
    rw[List.length_map] at hl
    have hne:∀ k∈ks,k≠[]:=fun k hk z=>by
     subst z
     have:=List.all_eq_true.mp ha (tpD []) (List.mem_map_of_mem hk)
     cases this
    have hs:jB (qB 0) [some (.tup (ks.map tpD))] S=.ok (.lst ((_S.srt _H.lexLt ks).map tpD)) S:=by
     unfold jB
     rw[show qB 0 [some (D.tup (ks.map tpD))] S=.ok (.tup (ks.map tpD)) S from rfl]
     simp only[Res.bind,V6,Option.bind_some,JF ks (by intro z;subst z;simp at hl) (by omega) hne]
    have hli:qH eL (q8 (qB 0) (qC)) [some (.tup (ks.map tpD))] S=.ok (.lst (ks.map tpD)) S:=(gP (f1:=qB 0) rfl).trans rfl
    refine xA (kQ ht (uN (S:=S) rfl (yE (vM ((zJ hli hs).trans ?_) (d:=.bl _) (S:=S) ⟨rfl,rfl⟩))))
    rw[eB]
    show _=Res.ok (D.bl (upB ks)) S
    rw[EX]
    unfold gEq
    rw[PN,PN]
    show Res.ok (D.bl (yS (ks.map tpD) ((_S.srt _H.lexLt ks).map tpD))) S=_
    rw[GJ]
   |false =>
    rw[ha] at ht
    exact gB (mX ht (yE (vM (d:=.bl false) (S:=S) rfl ⟨rfl,rfl⟩)))
  ·have ht:=fP (pI xs S) (fun _=>fP (b:=false) (g:=wC (dTr (qH (gS false) (q8 (zP false [none] (dIt (qB 0)) (gNm 0) (xE) (zR (qP 1 (okO x9) (q8 (qB 0) (qC))))) (qC))))) (Y5 xs S (dC (.int 40)) rfl) (fun z=>by rw[decide_eq_false hl] at z;cases z) (fun _=>rfl)) (by intro z;cases z)
   rw[decide_eq_false hl] at ht
   refine gB (mX ht (yE (vM (d:=.bl false) (S:=S) rfl ⟨?_,rfl⟩)))
   show _=D.bl (decide (1≤xs.length∧xs.length≤40)&&xs.all zO&&_)
   rw[decide_eq_false hl]
   rfl
 ·have ht:=fP (b:=false) (g:=jA (wC (dTr (wU gLe gLe (dC (.int 1)) (qH xO (q8 (qB 0) (qC))) (dC (.int 40))))) (wC (dTr (qH (gS false) (q8 (zP false [none] (dIt (qB 0)) (gNm 0) (xE) (zR (qP 1 (okO x9) (q8 (qB 0) (qC))))) (qC)))))) (hn S) (by intro z;cases z) (fun _=>rfl)
  refine gB (mX ht (yE (vM (d:=.bl false) (S:=S) rfl ⟨?_,rfl⟩)))
  congr 1
  unfold pU
  split
  ·have:=hn S
   rw[pI] at this
   cases this
  ·rfl
end _K
end
section
namespace _K
open PySem _D
theorem J3 {d:D}{x:Str}(h:pX d=some x):Pn d:=by
 obtain⟨p,h,_⟩:=ZU h
 exact⟨p,h⟩
theorem M8 (a b:Bool)(S:Sto):wF [.lst [.bl a,.bl b],.lst [.bl a,.bl b]] S=.ok (.bl true) S:=by
 rw[nG]
 refine B6 3 _ S ?_
 simp[okD]
theorem SV (x:Str)(S:Sto):gEq (.str x) (.str x) S=.ok (.bl true) S:=by
 unfold gEq
 rw[show (pl kI (.str x))=true from rfl]
 show Res.ok (D.bl (x == x)) S=_
 rw[beq_self_eq_true]
inductive IvR (d:D)(x:Str)(S:Sto)(ds:List D)(env:qG)(S':Sto):Prop
 |mk (e2:Option D) (h_0:env=[some d,some (.str x),e2]) (h_1:S'=S):IvR d x S ds env S'
theorem LM (d:D)(x:Str)(S:Sto)(h:pX d=some x):yA [d] S=.ok (.bl true) S:=by
 have pn:=J3 h
 have hre:∀ env:qG,env[0]? = some (some d)→qH eM (q8 (qB 0) (qC)) env S=.ok (.str x) S:=fun env h0=>by
  rw[gP (uA h0)]
  show (match pX d with|some x=>Res.ok (D.str x) S|none=>.bad)=_
  rw[h]
 rw[tE]
 refine lL (env:=[some d,none,none]) rfl ?_
 unfold gM
 refine xA (xJ (hre _ rfl) rfl ?_)
 have hr:uL (q8 (dC (.int 2)) (qC)) [some d,some (.str x),none] S=.ok [.int 0,.int 1] S:=rfl
 refine xA (iZ hr ?_)
 refine eT (IvR d x S) ?_ ?_ ⟨none,rfl,rfl⟩
 ·rintro y ys env S' ⟨e2,rfl,rfl⟩
  refine⟨[some d,some (.str x),some y],S',rfl,?_⟩
  have l2:2≤lim:=by decide
  have c1:xX (q8 (qP 1 yQ (q8 (qB 0) (qC))) (q8 (qP 1 pC (q8 (qB 0) (qC))) (qC))) [some d,some (.str x),some y] S'=.ok (.lst [.bl (zO d),.bl (pU d)]) S':=
   v9 (wD ((kN (f1:=qB 0) rfl).trans (oB d S' pn)) ((kN (f1:=qB 0) rfl).trans (M2 d S' pn))) l2
  have c2:xX (q8 (qP 1 x9 (q8 (qB 0) (qC))) (q8 (qP 1 wO (q8 (qB 0) (qC))) (qC))) [some d,some (.str x),some y] S'=.ok (.lst [.bl (zO d),.bl (pU d)]) S':=
   v9 (wD ((kN (f1:=qB 0) rfl).trans (cO d S' pn)) ((kN (f1:=qB 0) rfl).trans (ZR d S' pn))) l2
  exact kQ (mU (pY ((fG c1 c2).trans (M8 _ _ _)))) (uN rfl ⟨_,rfl,rfl⟩)
 ·rintro env S' ⟨e2,rfl,rfl⟩
  exact yE (vM ((zJ (hre _ rfl) rfl).trans (SV x S')) ⟨rfl,rfl⟩)
structure Nc (k b:Nat)(hl hd:Bool)(d:D)(p:PyData):Prop where
 py:pyD d=some p
 sh:p.showable=true
 lv:p.leavesShort 40=true
 bu:p.bulk≤b
 de:p.depth≤k
 di:p.hasDict=true→hd=true
 li:fO d=false→hl=true
def w5 (k b:Nat)(hl hd:Bool)(d:D):Prop:=∃ p,Nc k b hl hd d p
theorem w5.mono {k b k' b':Nat}{hl hd hl' hd':Bool}{d:D}(h:w5 k b hl hd d)(h1:k≤k')(h2:b≤b')(h3:hl=true→hl'=true)(h4:hd=true→hd'=true):w5 k' b' hl' hd' d:=by
 obtain⟨p,h⟩:=h
 exact⟨p,h.py,h.sh,h.lv,Nat.le_trans h.bu h2,Nat.le_trans h.de h1,fun z=>h4 (h.di z),fun z=>h3 (h.li z)⟩
theorem w5.repr {k b:Nat}{hl hd:Bool}{d:D}(h:w5 k b hl hd d)(h1:k≤60)(h2:b≤65536)(h3:(hl&&hd)=false):∃ x,pX d=some x:=by
 obtain⟨p,h⟩:=h
 refine⟨p.shown,?_⟩
 unfold pX
 rw[h.py]
 have hk:rV d p=true:=by
  unfold rV
  rw[h.sh,h.lv,decide_eq_true (show p.bulk≤2 ^ 16 by have:=h.bu;omega),decide_eq_true (show p.depth≤60 by have:=h.de;omega)]
  cases hh:p.hasDict with
  |false=>rfl
  |true =>
   have:=h.di hh
   subst this
   cases hn:fO d with
   |true=>rfl
   |false =>
    have:=h.li hn
    subst this
    cases h3
 show (if rV d p=true then some p.shown else none)=_
 rw[if_pos hk]
theorem PC {i:Int}(h:(PyData.shown (.int i)).length≤40)(h2:i.natAbs.log2<1920):w5 0 0 false false (.int i):=
 ⟨.int i,rfl,decide_eq_true h2,decide_eq_true h,Nat.le_refl _,Nat.le_refl _,(fun z=>by cases z),(fun z=>by cases z)⟩
theorem yN {i:Int}(h:i.natAbs<10 ^ 12):w5 0 0 false false (.int i):=by
 refine PC (Nat.le_trans (PyData.shown_int_le h) (by omega)) ?_
 have:i.natAbs<2 ^ 1920:=Nat.lt_of_lt_of_le h (kd)
 by_cases hm:i.natAbs=0
 ·rw[hm];decide
 ·exact(Nat.log2_lt hm).mpr this
theorem YE:w5 0 0 false false .non:=⟨.none,rfl,rfl,rfl,Nat.le_refl _,Nat.le_refl _,(fun z=>by cases z),(fun z=>by cases z)⟩
theorem K8 (b:Bool):w5 0 0 false false (.bl b):=⟨.bool b,rfl,rfl,rfl,Nat.le_refl _,Nat.le_refl _,(fun z=>by cases z),(fun z=>by cases z)⟩
theorem YF (x:Str)(h:(x.cps.toList.all fun c=>decide (c<16 ^ 8))=true)(hb:x.cps.size≤3):w5 0 3 false false (.str x):=⟨.str x,rfl,rfl,h,hb,Nat.le_refl _,(fun z=>by cases z),(fun z=>by cases z)⟩
theorem YD:w5 1 0 false true .dct0:=⟨.dict [],rfl,rfl,rfl,Nat.le_refl _,Nat.le_refl _,fun _=>rfl,(fun z=>by cases z)⟩
theorem ncs {k b:Nat}{hl hd:Bool}:∀ (xs:List D),(∀ x∈xs,w5 k b hl hd x)→∃ ps,dI xs=some ps∧PyData.showableAll ps=true∧PyData.leavesShortAll 40 ps=true∧PyData.bulkAll ps≤xs.length*(b+1)∧PyData.depthAll ps≤k∧(PyData.hasDictAll ps=true→hd=true)∧(lG xs=false→hl=true)
 |[],_=>⟨[],rfl,rfl,rfl,Nat.zero_le _,Nat.zero_le _,(fun z=>by cases z),(fun z=>by cases z)⟩
 |d::ds,h=>by
  obtain⟨p,n⟩:=h d (by simp)
  obtain⟨ps,a1,a2,a3,a4,a5,a6,a7⟩:=ncs ds fun x hx=>h x (by simp[hx])
  refine⟨p::ps,?_,?_,?_,?_,?_,?_,?_⟩
  ·simp only[dI,n.py,a1,Option.bind_some,Option.map_some]
  ·simp only[PyData.showableAll,n.sh,a2,Bool.and_self]
  ·simp only[PyData.leavesShortAll,n.lv,a3,Bool.and_self]
  ·have:=n.bu
   rw[List.length_cons,Nat.succ_mul]
   simp only[PyData.bulkAll]
   omega
  ·simp only[PyData.depthAll]
   exact Nat.max_le.mpr ⟨n.de,a5⟩
  ·intro z
   simp only[PyData.hasDictAll,Bool.or_eq_true] at z
   rcases z with z|z
   ·exact n.di z
   ·exact a6 z
  ·intro z
   simp only[lG,Bool.and_eq_false_iff] at z
   rcases z with z|z
   ·exact n.li z
   ·exact a7 z
theorem kK {k b m:Nat}{hl hd:Bool}{xs:List D}(h:∀ x∈xs,w5 k b hl hd x)(hm:xs.length≤m):w5 (k+1) (m*(b+1)) hl hd (.tup xs):=by
 obtain⟨ps,a1,a2,a3,a4,a5,a6,a7⟩:=ncs xs h
 refine⟨.tuple ps,by simp only[pyD,a1,Option.map_some],by simpa only [PyData.showable] using a2,by simpa only [PyData.leavesShort] using a3,?_,?_,by simpa only [PyData.hasDict] using a6,by simpa only [fO] using a7⟩
 ·simp only[PyData.bulk]
  exact Nat.le_trans a4 (Nat.mul_le_mul_right _ hm)
 ·simp only[PyData.depth]
  omega
theorem iV {k b m:Nat}{hl hd:Bool}{xs:List D}(h:∀ x∈xs,w5 k b hl hd x)(hm:xs.length≤m):w5 (k+1) (m*(b+1)) true hd (.lst xs):=by
 obtain⟨ps,a1,a2,a3,a4,a5,a6,a7⟩:=ncs xs h
 refine⟨.list ps,by simp only[pyD,a1,Option.map_some],by simpa only [PyData.showable] using a2,by simpa only [PyData.leavesShort] using a3,?_,?_,by simpa only [PyData.hasDict] using a6,fun _=>rfl⟩
 ·simp only[PyData.bulk]
  exact Nat.le_trans a4 (Nat.mul_le_mul_right _ hm)
 ·simp only[PyData.depth]
  omega
set_option tactic.hygienic true in
theorem o4 {d:D}(h:zO d=true):∃ x y:Int,d=.tup [.int x,.int y]∧(-1000≤x∧x≤1000)∧(-1000≤y∧y≤1000):=by
 unfold zO at h
 split at h
 ·rename_i a b
  rw[Bool.and_eq_true] at h
  cases a with
  |int x =>
   cases b with
   |int y=>exact⟨x,y,rfl,of_decide_eq_true h.1,of_decide_eq_true h.2⟩
   |_=>simp[isI] at h
  |_=>simp[isI] at h
 ·cases h
theorem o6 {d:D}(h:zO d=true):w5 1 2 false false d:=by
 obtain⟨x,y,rfl,hx,hy⟩:=o4 h
 refine kK (k:=0) (b:=0) (m:=2) (fun z hz=>?_) (by simp)
 simp only[List.mem_cons,List.not_mem_nil,or_false] at hz
 rcases hz with rfl|rfl
 ·exact yN (by omega)
 ·exact yN (by omega)
theorem PU {xs:List D}(h:xs.all zO=true)(hl:xs.length≤41):w5 2 123 false false (.tup xs):=
 kK (k:=1) (b:=2) (m:=41) (fun z hz=>o6 (List.all_eq_true.mp h z hz)) hl
def Th (d:D):Prop:=∃ hl hd,(hl&&hd)=false∧w5 5 2000 hl hd d
theorem Th.repr {d:D}(h:Th d):∃ x,pX d=some x:=by
 obtain⟨hl,hd,h1,h2⟩:=h
 exact h2.repr (by omega) (by omega) h1
theorem vB {xs:List D}(h:xs.all zO=true)(hl:xs.length≤41):Th (.tup xs):=⟨false,false,rfl,(PU h hl).mono (by omega) (by omega) id id⟩
theorem VA {d:D}(h:Th d)(S:Sto):yA [d] S=.ok (.bl true) S:=by
 obtain⟨x,hx⟩:=h.repr
 exact LM d x S hx
end _K
end
section
namespace _K
open PySem _D
theorem vF {S S1:Sto}{p i:Nat}{m:Int}{f2:DE}{env:qG}(h:y7 S1 p)(hm:0<m∧m<1073741824)(he:env[i]? = some (some (.loc p)))(h2:f2 env S=.ok (.int m) S1):∃ (r:Nat) (S':Sto),qP 2 zE (q8 (qB i) (q8 f2 (qC))) env S=.ok (.int (r:Int)) S'∧(r:Int)<m∧y7 S' p:=by
 obtain⟨r,v,f,e,a1,a2⟩:=EH S1 p m h hm
 obtain⟨n,rfl⟩:=Int.eq_ofNat_of_zero_le a1
 exact⟨n,_,(fG (a:=.loc p) (S1:=S) (by simp only[qB,he]) h2).trans e,a2,FY h v f⟩
theorem T0 {f:DE}{env:qG}{S S':Sto}{r:Nat}(h:f env S=.ok (.int (r:Int)) S'):d2 qZ (dC (.int 1)) f env S=.ok (.int ((r+1:Nat):Int)) S':=by
 refine(zJ (a:=.int 1) (S1:=S) rfl h).trans ?_
 rw[jD]
 congr 2
 omega
theorem goE {g:DG}{t:DT}{fe:DE}(C:qG→Sto→Prop)(R:D→Prop):∀ (items:List D) (env:qG) (S:Sto) (acc:List D),
  C env S→acc.length+items.length≤lim→(∀ d env S,d∈items→C env S→∃ env1 x S1,g d env S=.ok env1 S∧t env1 S=.ok true S∧fe env1 S=.ok x S1∧C env1 S1∧R x) →
  ∃ ys env' S',goL none g t (zR fe) items env S acc=.ok (env',acc++ys) S'∧ys.length=items.length∧(∀ y∈ys,R y)∧C env' S'
 |[],env,S,acc,c,_,_=>by
  have hs:QX none S=true:=uR.mpr trivial
  exact⟨[],env,S,by simp only[goL,hs,if_true,List.append_nil],rfl,(fun y hy=>by cases hy),c⟩
 |d::ds,env,S,acc,c,hl,step=>by
  have hs:QX none S=true:=uR.mpr trivial
  obtain⟨env1,x,S1,h1,h2,h3,c1,hx⟩:=step d env S (by simp) c
  rw[List.length_cons] at hl
  obtain⟨ys,env',S',e,l,hy,c'⟩:=goE C R ds env1 S1 (acc++[x]) c1 (by rw[List.length_append];simp;omega) fun d' env S hd=>step d' env S (by simp[hd])
  refine⟨x::ys,env',S',?_,by simp[l],?_,c'⟩
  ·have hk:=aJ h3 (show acc.length<lim by omega)
   simp only[goL,hs,if_true,h1,h2,hk,Res.bind]
   rw[e,List.append_assoc]
   rfl
  ·intro y hy'
   rcases List.mem_cons.mp hy' with rfl|hy'
   ·exact hx
   ·exact hy y hy'
theorem eG {cap:List (Option Nat)}{fi:DI2}{g:DG}{t:DT}{fe:DE}{env:qG}{S S0:Sto}{items:List D}(C:qG→Sto→Prop)(R:D→Prop)(h:fi env S0=.ok (none,items) S)(h0:C (vN cap env) S)(hl:items.length≤lim)
  (step:∀ d env S,d∈items→C env S→∃ env1 x S1,g d env S=.ok env1 S∧t env1 S=.ok true S∧fe env1 S=.ok x S1∧C env1 S1∧R x) :
  ∃ ys env' S',zP false cap fi g t (zR fe) env S0=.ok (.lst ys) S'∧ys.length=items.length∧(∀ y∈ys,R y)∧C env' S':=by
 obtain⟨ys,env',S',e,l,hy,c⟩:=goE C R items (vN cap env) S [] h0 (by simpa using hl) step
 exact⟨ys,env',S',sZ h e,l,hy,c⟩
theorem BC (w:Int)(env:qG)(S:Sto)(h1:env[1]? = some (some (.int w))):d2 qZ (d2 vY (dC (.int 2)) (qB 1)) (dC (.int 1)) env S=.ok (.int (2*w+1)) S:=
 (zJ ((zJ (a:=.int 2) rfl (uA h1)).trans (nT 2 w S (by omega))) rfl).trans (jD _ _ _)
theorem J7 (S:Sto)(p:Nat)(w:Int)(h:y7 S p)(hw:0≤w∧w≤1000):∃ (x y:Int) (S':Sto),yY [.loc p,.int w] S=.ok (.tup [.int x,.int y]) S'∧(-w≤x∧x≤w)∧(-w≤y∧y≤w)∧y7 S' p:=by
 obtain⟨a,S1,e1,ha,p1⟩:=vF (S:=S) (i:=0) (env:=[some (.loc p),some (.int w)]) (m:=2*w+1) h (by omega) rfl (BC w _ S rfl)
 obtain⟨b,S2,e2,hb,p2⟩:=vF (S:=S1) (i:=0) (env:=[some (.loc p),some (.int w)]) (m:=2*w+1) p1 (by omega) rfl (BC w _ S1 rfl)
 refine⟨a-w,b-w,S2,?_,by omega,by omega,p2⟩
 rw[t9]
 refine JA (env:=[some (.loc p),some (.int w)]) rfl ?_
 have d1:d2 vE (qP 2 zE (q8 (qB 0) (q8 (d2 qZ (d2 vY (dC (.int 2)) (qB 1)) (dC (.int 1))) (qC)))) (qB 1) [some (.loc p),some (.int w)] S=.ok (.int (a-w)) S1:=(zJ e1 rfl).trans rfl
 have d2':d2 vE (qP 2 zE (q8 (qB 0) (q8 (d2 qZ (d2 vY (dC (.int 2)) (qB 1)) (dC (.int 1))) (qC)))) (qB 1) [some (.loc p),some (.int w)] S1=.ok (.int (b-w)) S2:=(zJ e2 rfl).trans rfl
 exact wB (wD d1 d2') (by show 2≤lim;decide)
theorem eV {x y:Int}(hx : -1000≤x∧x≤1000)(hy : -1000≤y∧y≤1000):zO (.tup [.int x,.int y])=true:=by
 show (decide (-1000≤x∧x≤1000)&&decide (-1000≤y∧y≤1000))=true
 rw[decide_eq_true hx,decide_eq_true hy]
 rfl
def iD (n:Nat):D:=.int (n:Int)
theorem CL (n:Nat)(h:n≤1000000):rW [.int (n:Int)]=some (u8 0 (n:Int).toNat):=by
 unfold rW
 have : -(2 ^ 62)≤(n:Int)∧(n:Int)<2 ^ 62:=⟨by omega,by omega⟩
 exact if_pos this
theorem M5 (n:Nat):u8 0 (n:Int).toNat=(List.range n).map iD:=by
 unfold u8
 rw[Int.toNat_natCast]
 congr 1
 funext i
 unfold iD
 rw[Int.zero_add]
theorem LO (n:Nat)(h:n≤1000000):rW [.int (n:Int)]=some ((List.range n).map iD):=by
 rw[CL n h,M5]
theorem B3 {β : Type}(b:β)(S:Sto):_D.gY (some b) S=.ok b S:=rfl
theorem nZ (f:DE)(n:Nat)(env:qG)(S:Sto)(h:n≤1000)(e:f env S=.ok (.int (n:Int)) S):y9 (uL (q8 f qC)) env S=.ok (none,(List.range n).map iD) S:=by
 have e1:q8 f qC env S=.ok [.int (n:Int)] S:=uW e
 unfold y9 uL
 rw[e1,Res.bind_ok,LO n (by omega),B3,Res.bind_ok]
end _K
end
section
namespace _K
open PySem _D
inductive IvL (p w m:Nat)(e1:Option D)(ax ay st:Int)(env:qG)(S:Sto):Prop
 |mk (wi:Int) (ys:List D) (e8:Option D) (h_0:env=[some (.loc p),e1,some (.int (w:Int)),some (.int (m:Int)),some (.int wi),some (.tup [.int ax,.int ay]),some (.int st),some (.lst ys),e8]) (h_1:ys.all zO=true) (h_2:1≤ys.length∧ys.length≤200) (h_3:y7 S p):IvL p w m e1 ax ay st env S
theorem XS {ys:List D}(h:∀ y∈ys,zO y=true):ys.all zO=true:=List.all_eq_true.mpr h
theorem KP (w:Nat)(k:Int)(env:qG)(S:Sto)(h:env[2]? = some (some (.int (w:Int)))):dTr (d2 gEq (qB 2) (dC (.int k))) env S=.ok (decide ((w:Int)=k)) S:=pY ((zJ (uA h) rfl).trans (oZ _ _ _))
section
variable {p w m:Nat}{e1:Option D}{ax ay st:Int}{env:qG}{S:Sto}
theorem LZ (hm:1≤m∧m≤40)(ha : -400≤ax∧ax≤400)(hb : -400≤ay∧ay≤400)(h:IvL p w m e1 ax ay st env S) :
  Nx (sIf (dTr (d2 gEq (qB 2) (dC (.int 0)))) (xN (zP false [none,some 5] (y9 (uL (q8 (qB 3) (qC)))) (gNm 0) (xE) (zR (qV (q8 (d2 qZ (d2 gIx (qB 1) (dC (.int 0))) (d2 k9 (qB 0) (dC (.int 4)))) (q8 (d2 qZ (d2 gIx (qB 1) (dC (.int 1))) (d2 jE (qB 0) (dC (.int 4)))) (qC)))))) (gNm 7)) (xP) env S) (IvL p w m e1 ax ay st):=by
 obtain⟨wi,ys,e8,rfl,h1,h2,h3⟩:=h
 refine kQ (KP w 0 _ S rfl) ?_
 by_cases hw:(w:Int)=0
 ·rw[decide_eq_true hw]
  have hr:=nZ (qB 3) m [some (.loc p),e1,some (.int (w:Int)),some (.int (m:Int)),some (.int wi),some (.tup [.int ax,.int ay]),some (.int st),some (.lst ys),e8] S (by omega) rfl
  obtain⟨zs,env',S',e,l,hz,_,_,rfl⟩:=eG (cap:=[none,some 5]) (g:=gNm 0) (t:=xE) (fe:=qV (q8 (d2 qZ (d2 gIx (qB 1) (dC (.int 0))) (d2 k9 (qB 0) (dC (.int 4)))) (q8 (d2 qZ (d2 gIx (qB 1) (dC (.int 1))) (d2 jE (qB 0) (dC (.int 4)))) (qC)))) (fun env S'=>∃ a,env=[a,some (.tup [.int ax,.int ay])]∧S'=S) (fun d=>zO d=true) hr ⟨none,rfl,rfl⟩ (by rw[List.length_map,List.length_range];unfold lim;omega)
   (fun d env S' hd ⟨a,q1,q2⟩=>by
    subst q1 q2
    obtain⟨i,hi,rfl⟩:=List.mem_map.mp hd
    have hi:=List.mem_range.mp hi
    refine⟨[some (iD i),some (.tup [.int ax,.int ay])],.tup [.int (ax+(i:Int) % 4),.int (ay+(i:Int)/4)],S',rfl,rfl,?_,⟨_,rfl,rfl⟩,eV (by omega) (by omega)⟩
    refine wB (wD (a:=.int (ax+(i:Int) % 4)) (b:=.int (ay+(i:Int)/4)) (S1:=S') ?_ ?_) (by show 2≤lim;decide)
    ·exact(zJ (a:=.int ax) (b:=.int ((i:Int) % 4)) rfl ((zJ (a:=.int (i:Int)) rfl rfl).trans (pG _ _ _ (by omega)))).trans (jD _ _ _)
    ·exact(zJ (a:=.int ay) (b:=.int ((i:Int)/4)) rfl ((zJ (a:=.int (i:Int)) rfl rfl).trans (nR _ _ _ (by omega)))).trans (jD _ _ _))
  rw[List.length_map,List.length_range] at l
  exact xJ e rfl ⟨wi,zs,e8,rfl,XS hz,by omega,h3⟩
 ·rw[decide_eq_false hw]
  exact uN rfl ⟨wi,ys,e8,rfl,h1,h2,h3⟩
theorem D0 (hm:1≤m∧m≤40)(ha : -400≤ax∧ax≤400)(hb : -400≤ay∧ay≤400)(hst:1≤st∧st≤9)(h:IvL p w m e1 ax ay st env S) :
  Nx (sIf (dTr (d2 gEq (qB 2) (dC (.int 1)))) (xN (zP false [none,some 5,some 6] (y9 (uL (q8 (qB 3) (qC)))) (gNm 0) (xE) (zR (qV (q8 (d2 qZ (d2 gIx (qB 1) (dC (.int 0))) (d2 vY (qB 2) (qB 0))) (q8 (d2 vE (d2 gIx (qB 1) (dC (.int 1))) (qB 0)) (qC)))))) (gNm 7)) (xP) env S) (IvL p w m e1 ax ay st):=by
 obtain⟨wi,ys,e8,rfl,h1,h2,h3⟩:=h
 refine kQ (KP w 1 _ S rfl) ?_
 by_cases hw:(w:Int)=1
 ·rw[decide_eq_true hw]
  have hr:=nZ (qB 3) m [some (.loc p),e1,some (.int (w:Int)),some (.int (m:Int)),some (.int wi),some (.tup [.int ax,.int ay]),some (.int st),some (.lst ys),e8] S (by omega) rfl
  obtain⟨zs,env',S',e,l,hz,_,_,rfl⟩:=eG (cap:=[none,some 5,some 6]) (g:=gNm 0) (t:=xE) (fe:=qV (q8 (d2 qZ (d2 gIx (qB 1) (dC (.int 0))) (d2 vY (qB 2) (qB 0))) (q8 (d2 vE (d2 gIx (qB 1) (dC (.int 1))) (qB 0)) (qC)))) (fun env S'=>∃ a,env=[a,some (.tup [.int ax,.int ay]),some (.int st)]∧S'=S) (fun d=>zO d=true) hr ⟨none,rfl,rfl⟩ (by rw[List.length_map,List.length_range];unfold lim;omega)
   (fun d env S' hd ⟨a,q1,q2⟩=>by
    subst q1 q2
    obtain⟨i,hi,rfl⟩:=List.mem_map.mp hd
    have hi:=List.mem_range.mp hi
    have hmul:0≤st*(i:Int)∧st*(i:Int)≤9*39:=⟨Int.mul_nonneg (by omega) (by omega),Int.mul_le_mul (by omega) (by omega) (by omega) (by omega)⟩
    refine⟨[some (iD i),some (.tup [.int ax,.int ay]),some (.int st)],.tup [.int (ax+st*(i:Int)),.int (ay-(i:Int))],S',rfl,rfl,?_,⟨_,rfl,rfl⟩,eV (by omega) (by omega)⟩
    refine wB (wD (a:=.int (ax+st*(i:Int))) (b:=.int (ay-(i:Int))) (S1:=S') ?_ ?_) (by show 2≤lim;decide)
    ·exact(zJ (a:=.int ax) (b:=.int (st*(i:Int))) rfl ((zJ (a:=.int st) (b:=.int (i:Int)) rfl rfl).trans (nT _ _ _ (by omega)))).trans (jD _ _ _)
    ·exact(zJ (a:=.int ay) (b:=.int (i:Int)) rfl rfl).trans rfl)
  rw[List.length_map,List.length_range] at l
  exact xJ e rfl ⟨wi,zs,e8,rfl,XS hz,by omega,h3⟩
 ·rw[decide_eq_false hw]
  exact uN rfl ⟨wi,ys,e8,rfl,h1,h2,h3⟩
theorem QY (fe:DE)(hfe:∀ (x y:Int) (S:Sto),∃ x' y':Int,fe [some (.int x),some (.int y)] S=.ok (.tup [.int x',.int y']) S∧((x'=x∨x' = -x)∧(y'=y∨y' = -y)∨(x'=y∨x' = -y)∧(y'=x∨y' = -x)))(ys:List D)(hy:ys.all zO=true)(hl:ys.length≤200)(env:qG)(S:Sto)(h8:env[8]? = some (some (.lst ys))) :
  ∃ zs,zP false [none,none] (dIt (qB 8)) (gTp 2 (xB (gNm 0) (xB (gNm 1) (uM)))) (xE) (zR fe) env S=.ok (.lst zs) S∧zs.all zO=true∧zs.length=ys.length:=by
 have hit:dIt (qB 8) env S=.ok (none,ys) S:=by
  unfold dIt
  rw[uA h8]
  rfl
 obtain⟨zs,env',S',e,l,hz,_,_,_,rfl⟩:=eG (cap:=[none,none]) (g:=gTp 2 (xB (gNm 0) (xB (gNm 1) (uM)))) (t:=xE) (fe:=fe) (fun env S'=>∃ a b,env=[a,b]∧S'=S) (fun d=>zO d=true) hit ⟨none,none,rfl,rfl⟩ (by unfold lim;omega)
  (fun d env S' hd ⟨a,b,q1,q2⟩=>by
   subst q1 q2
   obtain⟨x,y,rfl,hx,hy'⟩:=o4 (List.all_eq_true.mp hy d hd)
   obtain⟨x',y',e,hc⟩:=hfe x y S'
   exact⟨[some (.int x),some (.int y)],_,S',rfl,rfl,e,⟨_,_,rfl,rfl⟩,eV (by omega) (by omega)⟩)
 exact⟨zs,e,XS hz,l⟩
theorem fR {a b:List D}(ha:a.all zO=true)(hb:b.all zO=true):(a++b).all zO=true:=by rw[List.all_append,ha,hb];rfl
theorem UF (ys:List D)(lo hi:Option Int)(h:ys.all zO=true):(xW ys lo hi).all zO=true:=by
 rw[List.all_eq_true]
 intro y hy
 exact List.all_eq_true.mp h y (List.mem_of_mem_drop (List.mem_of_mem_take hy))
theorem eI (ys:List D)(n:Nat):xW ys none (some (n:Int))=ys.take n:=by
 unfold xW
 have h1:_H.sIx ys.length 0 none=0:=rfl
 have h2:_H.sIx ys.length ys.length (some (n:Int))=min n ys.length:=by
  show (if (n:Int)<0 then ((n:Int)+(ys.length:Int)).toNat else min (n:Int).toNat ys.length)=_
  rw[if_neg (by omega),Int.toNat_natCast]
 rw[h1,h2,List.drop_zero,Nat.sub_zero]
 rcases Nat.le_total n ys.length with h|h
 ·rw[Nat.min_eq_left h]
 ·rw[Nat.min_eq_right h,List.take_of_length_le h,List.take_of_length_le (Nat.le_refl _)]
theorem D1 (hm:1≤m∧m≤40)(h:IvL p w m e1 ax ay st env S) :
  Nx (sIf (dTr (d2 gEq (qB 2) (dC (.int 2)))) (zL (xN (dSl (qB 7) (zQ) (zK (d2 qZ (dC (.int 1)) (d2 jE (qB 3) (dC (.int 4)))))) (gNm 8)) (zL (xN (d2 qZ (d2 qZ (qB 8) (zP false [none,none] (dIt (qB 8)) (gTp 2 (xB (gNm 0) (xB (gNm 1) (uM)))) (xE) (zR (qV (q8 (d2 vE (dC (.int 0)) (qB 1)) (q8 (qB 0) (qC))))))) (zP false [none,none] (dIt (qB 8)) (gTp 2 (xB (gNm 0) (xB (gNm 1) (uM)))) (xE) (zR (qV (q8 (d2 vE (dC (.int 0)) (qB 0)) (q8 (d2 vE (dC (.int 0)) (qB 1)) (qC))))))) (gNm 7)) (xN (d2 qZ (qB 7) (zP false [none,none] (dIt (qB 8)) (gTp 2 (xB (gNm 0) (xB (gNm 1) (uM)))) (xE) (zR (qV (q8 (qB 1) (q8 (d2 vE (dC (.int 0)) (qB 0)) (qC))))))) (gNm 7)))) (xP) env S) (IvL p w m e1 ax ay st):=by
 obtain⟨wi,ys,e8,rfl,h1,h2,h3⟩:=h
 refine kQ (KP w 2 _ S rfl) ?_
 by_cases hw:(w:Int)=2
 ·rw[decide_eq_true hw,if_pos rfl]
  have hs:dSl (qB 7) (zQ) (zK (d2 qZ (dC (.int 1)) (d2 jE (qB 3) (dC (.int 4))))) [some (.loc p),e1,some (.int (w:Int)),some (.int (m:Int)),some (.int wi),some (.tup [.int ax,.int ay]),some (.int st),some (.lst ys),e8] S=.ok (.lst (ys.take (1+m/4))) S:=by
   have hd:d2 qZ (dC (.int 1)) (d2 jE (qB 3) (dC (.int 4))) [some (.loc p),e1,some (.int (w:Int)),some (.int (m:Int)),some (.int wi),some (.tup [.int ax,.int ay]),some (.int st),some (.lst ys),e8] S=.ok (.int ((1+m/4:Nat):Int)) S:=by
    refine(zJ (a:=.int 1) (b:=.int ((m:Int)/4)) rfl ((zJ (a:=.int (m:Int)) rfl rfl).trans (nR _ _ _ (by omega)))).trans ?_
    rw[jD,show (1:Int)+(m:Int)/4=((1+m/4:Nat):Int) by omega]
   unfold dSl
   rw[uA (env:=[some (.loc p),e1,some (.int (w:Int)),some (.int (m:Int)),some (.int wi),some (.tup [.int ax,.int ay]),some (.int st),some (.lst ys),e8]) (i:=7) rfl]
   simp only[Res.bind,zQ,zK,hd]
   show Res.ok (D.lst (xW ys none (some ((1+m/4:Nat):Int)))) S=_
   rw[eI]
  have l1:(ys.take (1+m/4)).length≤11:=by rw[List.length_take];omega
  have l0:1≤(ys.take (1+m/4)).length:=by rw[List.length_take];omega
  have ps:(ys.take (1+m/4)).all zO=true:=List.all_eq_true.mpr fun y hy=>List.all_eq_true.mp h1 y (List.mem_of_mem_take hy)
  generalize ys.take (1+m/4)=zs at hs l1 l0 ps
  have l2:2≤lim:=by decide
  refine lH (xJ hs rfl ?_)
  obtain⟨a1,c1,q1,n1⟩:=QY (qV (q8 (d2 vE (dC (.int 0)) (qB 1)) (q8 (qB 0) (qC)))) (fun x y S=>⟨0-y,x,wB (wD rfl rfl) l2,by omega⟩) zs ps (by omega) [some (.loc p),e1,some (.int (w:Int)),some (.int (m:Int)),some (.int wi),some (.tup [.int ax,.int ay]),some (.int st),some (.lst ys),some (.lst zs)] S rfl
  obtain⟨a2,c2,q2,n2⟩:=QY (qV (q8 (d2 vE (dC (.int 0)) (qB 0)) (q8 (d2 vE (dC (.int 0)) (qB 1)) (qC)))) (fun x y S=>⟨0-x,0-y,wB (wD rfl rfl) l2,by omega⟩) zs ps (by omega) [some (.loc p),e1,some (.int (w:Int)),some (.int (m:Int)),some (.int wi),some (.tup [.int ax,.int ay]),some (.int st),some (.lst ys),some (.lst zs)] S rfl
  refine lH (xJ (d:=.lst (zs++a1++a2)) (S1:=S) ((zJ ((zJ rfl c1).trans (vT (by unfold lim;omega) S)) c2).trans (vT (by rw[List.length_append];unfold lim;omega) S)) rfl ?_)
  obtain⟨a3,c3,q3,n3⟩:=QY (qV (q8 (qB 1) (q8 (d2 vE (dC (.int 0)) (qB 0)) (qC)))) (fun x y S=>⟨y,0-x,wB (wD rfl rfl) l2,by omega⟩) zs ps (by omega) [some (.loc p),e1,some (.int (w:Int)),some (.int (m:Int)),some (.int wi),some (.tup [.int ax,.int ay]),some (.int st),some (.lst (zs++a1++a2)),some (.lst zs)] S rfl
  refine xJ (d:=.lst (zs++a1++a2++a3)) (S1:=S) ((zJ rfl c3).trans (vT (by simp only[List.length_append];unfold lim;omega) S)) rfl ⟨wi,_,_,rfl,fR (fR (fR ps q1) q2) q3,?_,h3⟩
  simp only[List.length_append]
  omega
 ·rw[decide_eq_false hw]
  exact uN rfl ⟨wi,ys,e8,rfl,h1,h2,h3⟩
end
end _K
end
section
namespace _K
open PySem _D
theorem ix5 (r:Nat)(h:r<5)(S:Sto):∃ m:Int,gIx (.lst [.int 1,.int 2,.int 4,.int 12,.int 1000]) (.int (r:Int)) S=.ok (.int m) S∧1≤m∧m≤1000:=by
 match r,h with
 |0,_=>exact⟨1,rfl,by omega⟩
 |1,_=>exact⟨2,rfl,by omega⟩
 |2,_=>exact⟨4,rfl,by omega⟩
 |3,_=>exact⟨12,rfl,by omega⟩
 |4,_=>exact⟨1000,rfl,by omega⟩
theorem AC (env:qG)(S:Sto):xX (q8 (dC (.int 1)) (q8 (dC (.int 2)) (q8 (dC (.int 4)) (q8 (dC (.int 12)) (q8 (dC (.int 1000)) (qC)))))) env S=.ok (.lst [.int 1,.int 2,.int 4,.int 12,.int 1000]) S:=by
 have l5:5≤lim:=by decide
 simp[zA,p8,LA,IH,IG,zL,sIf,zX,xP,IS,xN,gNm,gSb,gTp,xB,uM,aS,AL,dC,qB,d1,d2,q8,qC,qH,qP,dTr,wC,jA,xE,k7,JV,dIf,wU,qV,xX,JU,dBm,dSl,zK,zQ,bD,uL,Res.bind,Res.toS,_D.gX,_D.gY,IL,II,ET,IU,IN,IP,IQ,IM,IF,IE,IK,gLt,gLe,gGt,gGe,_D.vE,IR,l5]
theorem KK (zs:List D)(h:zs.all zO=true)(hl:1≤zs.length∧zs.length≤40):∃ xs:List D,pN zs=some xs∧xs.all zO=true∧1≤xs.length∧xs.length≤40:=by
 obtain⟨ks,rfl⟩:=o7 zs h
 rw[List.length_map] at hl
 have pk:∀ k∈ks,zO (tpD k)=true:=fun k hk=>List.all_eq_true.mp h _ (List.mem_map_of_mem hk)
 have hne:∀ k∈ks,k≠[]:=fun k hk z=>by
  subst z
  have:=pk [] hk
  cases this
 refine⟨(_S.srt _H.lexLt ks).map tpD,JF ks (by intro z;subst z;simp at hl) (by omega) hne,?_,?_,?_⟩
 ·rw[List.all_map,List.all_eq_true]
  intro k hk
  exact pk k ((_S.gD _S.rR k ks).mp hk)
 ·rw[List.length_map]
  cases ks with
  |nil=>simp at hl
  |cons k r=>exact List.length_pos_of_mem ((_S.gD _S.rR k (k::r)).mpr (by simp))
 ·rw[List.length_map]
  have:=QV _H.lexLt ks
  omega
theorem CH (S:Sto)(p:Nat)(h:y7 S p):∃ (xs:List D) (S':Sto),gG [.loc p,.int 40] S=.ok (.tup xs) S'∧xs.all zO=true∧(1≤xs.length∧xs.length≤40)∧y7 S' p:=by
 have key:Rt (gL [some (.loc p),some (.int 40),none,none,none,none,none,none,none] S) fun d S'=>∃ xs,d=.tup xs∧xs.all zO=true∧(1≤xs.length∧xs.length≤40)∧y7 S' p:=by
  unfold gL
  obtain⟨w,S1,c1,hw,p1⟩:=vF (S:=S) (i:=0) (f2:=dC (.int 7)) (env:=[some (.loc p),some (.int 40),none,none,none,none,none,none,none]) (m:=7) h (by omega) rfl rfl
  obtain⟨m0,S2,c2,hm0,p2⟩:=vF (S:=S1) (i:=0) (f2:=qB 1) (env:=[some (.loc p),some (.int 40),none,none,none,none,none,none,none]) (m:=40) p1 (by omega) rfl rfl
  refine xA (YI c1 (T0 c2) ?_)
  clear c1 c2
  have hm:1≤m0+1∧m0+1≤40:=by omega
  generalize m0+1=m at hm
  simp only[List.set_cons_succ,List.set_cons_zero]
  obtain⟨k,S3,c3,hk,p3⟩:=vF (S:=S2) (i:=0) (f2:=dC (.int 5)) (env:=[some (.loc p),some (.int 40),some (.int (w:Int)),some (.int (m:Int)),none,none,none,none,none]) (m:=5) p2 (by omega) rfl rfl
  obtain⟨wi,hwi,w1,w2⟩:=ix5 k (by omega) S3
  obtain⟨ax,ay,S4,c4,ha,hb,p4⟩:=J7 S3 p 400 p3 (by omega)
  have l2:2≤lim:=by decide
  refine xA (xJ (wB (wD ((zJ (AC _ _) c3).trans hwi) ((fG (a:=.loc p) (b:=.int 400) rfl rfl).trans c4)) l2) (env1:=[some (.loc p),some (.int 40),some (.int (w:Int)),some (.int (m:Int)),some (.int wi),some (.tup [.int ax,.int ay]),none,none,none]) (S2:=S4) rfl ?_)
  clear c3 c4 hwi
  obtain⟨s0,S5,c5,hs0,p5⟩:=vF (S:=S4) (i:=0) (f2:=dC (.int 9)) (env:=[some (.loc p),some (.int 40),some (.int (w:Int)),some (.int (m:Int)),some (.int wi),some (.tup [.int ax,.int ay]),none,none,none]) (m:=9) p4 (by omega) rfl rfl
  refine xA (xJ (T0 c5) rfl ?_)
  clear c5
  have hst:(1:Int)≤((s0+1:Nat):Int)∧((s0+1:Nat):Int)≤9:=by omega
  generalize ((s0+1:Nat):Int)=st at hst
  simp only[List.set_cons_succ,List.set_cons_zero]
  have hr:=nZ (qB 3) m [some (.loc p),some (.int 40),some (.int (w:Int)),some (.int (m:Int)),some (.int wi),some (.tup [.int ax,.int ay]),some (.int st),none,none] S5 (by omega) rfl
  obtain⟨ys,env',S6,c6,l6,h6,_,_,p6⟩:=eG (cap:=[none,some 0,some 4]) (g:=gNm 0) (t:=xE) (fe:=qP 2 (okO yY) (q8 (qB 1) (q8 (qB 2) (qC)))) (fun env S'=>∃ a,env=[a,some (.loc p),some (.int wi)]∧y7 S' p) (fun d=>zO d=true) hr ⟨none,rfl,p5⟩ (by rw[List.length_map,List.length_range];unfold lim;omega)
   (fun d env S' hd ⟨a,q1,q2⟩=>by
    subst q1
    obtain⟨x,y,S'',e,hx,hy,p''⟩:=J7 S' p wi q2 (by omega)
    exact⟨[some d,some (.loc p),some (.int wi)],_,S'',rfl,rfl,(fG (a:=.loc p) (b:=.int wi) rfl rfl).trans (bL e),⟨_,rfl,p''⟩,eV (by omega) (by omega)⟩)
  rw[List.length_map,List.length_range] at l6
  refine xA (xJ c6 rfl ?_)
  clear c6 hr
  simp only[List.set_cons_succ,List.set_cons_zero]
  have I0:IvL p w m (some (.int 40)) ax ay st [some (.loc p),some (.int 40),some (.int (w:Int)),some (.int (m:Int)),some (.int wi),some (.tup [.int ax,.int ay]),some (.int st),some (.lst ys),none] S6:=⟨wi,ys,none,rfl,XS h6,by omega,p6⟩
  obtain⟨env1,T1,e1,I1⟩:=LZ hm ha hb I0
  refine xA ⟨env1,T1,e1,?_⟩
  obtain⟨env2,T2,e2,I2⟩:=D0 hm ha hb hst I1
  refine xA ⟨env2,T2,e2,?_⟩
  obtain⟨env3,T3,e3,I3⟩:=D1 hm I2
  refine xA ⟨env3,T3,e3,?_⟩
  obtain⟨wi',zs,e8,rfl,z1,z2,z3⟩:=I3
  have ht:(zs.take m).all zO=true:=List.all_eq_true.mpr fun y hy=>List.all_eq_true.mp z1 y (List.mem_of_mem_take hy)
  have htl:1≤(zs.take m).length∧(zs.take m).length≤40:=by rw[List.length_take];omega
  obtain⟨xs,hs,x1,x2⟩:=KK (zs.take m) ht htl
  have hc:dSl (qB 7) (zQ) (zK (qB 3)) [some (.loc p),some (.int 40),some (.int (w:Int)),some (.int (m:Int)),some (.int wi'),some (.tup [.int ax,.int ay]),some (.int st),some (.lst zs),e8] T3=.ok (.lst (zs.take m)) T3:=by
   show Res.ok (D.lst (xW zs none (some (m:Int)))) T3=_
   rw[eI]
  have hd:jB (dSl (qB 7) (zQ) (zK (qB 3))) [some (.loc p),some (.int 40),some (.int (w:Int)),some (.int (m:Int)),some (.int wi'),some (.tup [.int ax,.int ay]),some (.int st),some (.lst zs),e8] T3=.ok (.lst xs) T3:=by
   unfold jB
   rw[hc]
   simp only[Res.bind,V6,Option.bind_some,hs]
  exact yE (vM ((gP hd).trans rfl) ⟨xs,rfl,x1,x2,z3⟩)
 obtain⟨d,S',e,xs,rfl,x1,x2,x3⟩:=key
 rw[dR]
 exact⟨xs,S',rY rfl e,x1,x2,x3⟩
end _K
end
section
namespace _K
open PySem _D
theorem vU {xs ys:List D}(h:xs.length+ys.length≤lim)(S:Sto):qZ (.tup xs) (.tup ys) S=.ok (.tup (xs++ys)) S:=if_pos h
theorem cX (env:qG)(S:Sto):qC env S=.ok [] S:=rfl
def YJ:List D:=[.int 1001,.int (-1001),.bl true,.bl false,.non,.str "0",.tup [.int 0],.int 100000000000000000000000000000,.lst [.int 0],.dct0]
def NP (d:D):Prop:=∃ hl hd,(hl&&hd)=false∧w5 3 40 hl hd d
theorem FP:w5 0 0 false false (.int 0):=yN (by decide)
theorem KW:(PyData.shown (.int 100000000000000000000000000000)).length≤40:=kd
theorem MY:∀ x∈[D.int 0],w5 0 0 false false x:=fun x hx=>by rw[List.mem_singleton.mp hx];exact FP
theorem L6:∀ d∈YJ,∃ hl hd,(hl&&hd)=false∧w5 1 3 hl hd d:=by
 intro d hd
 simp only[YJ,List.mem_cons,List.not_mem_nil,or_false] at hd
 rcases hd with rfl|rfl|rfl|rfl|rfl|rfl|rfl|rfl|rfl|rfl
 ·exact⟨false,false,rfl,(yN (by decide)).mono (by omega) (by omega) id id⟩
 ·exact⟨false,false,rfl,(yN (by decide)).mono (by omega) (by omega) id id⟩
 ·exact⟨false,false,rfl,(K8 _).mono (by omega) (by omega) id id⟩
 ·exact⟨false,false,rfl,(K8 _).mono (by omega) (by omega) id id⟩
 ·exact⟨false,false,rfl,YE.mono (by omega) (by omega) id id⟩
 ·exact⟨false,false,rfl,(YF _ (kd) (by decide)).mono (by omega) (by omega) id id⟩
 ·exact⟨false,false,rfl,(kK (m:=1) MY (by simp)).mono (by omega) (by omega) id id⟩
 ·exact⟨false,false,rfl,(PC KW (kd)).mono (by omega) (by omega) id id⟩
 ·exact⟨true,false,rfl,(iV (m:=1) MY (by simp)).mono (by omega) (by omega) id id⟩
 ·exact⟨false,true,rfl,YD.mono (by omega) (by omega) id id⟩
theorem L5 (env:qG)(S:Sto):xX (q8 (dC (.int 1001)) (q8 (d1 kA (dC (.int 1001))) (q8 (dC (.bl true)) (q8 (dC (.bl false)) (q8 (dC .non) (q8 (dC (.str "0")) (q8 (qV (q8 (dC (.int 0)) (qC))) (q8 (d2 cZ (dC (.int 10)) (dC (.int 29))) (q8 (xX (q8 (dC (.int 0)) (qC))) (q8 (fJ) (qC))))))))))) env S=.ok (.lst YJ) S:=by
 have l1:1≤lim:=by decide
 have l10:10≤lim:=by decide
 refine v9 (zN rfl (zN rfl (zN rfl (zN rfl (zN rfl (zN rfl (zN (wB (uW rfl) l1) (zN (EA S) (zN (v9 (uW rfl) l1) (zN rfl (cX _ _))))))))))) l10
def pt0 (x y:Int):D:=.tup [.int x,.int y]
def uB (x y:Int)(o:D):Nat→List D
 |0=>[o,.int y]
 |_=>[.int x,o]
theorem TF (x y:Int)(o:D)(a:Nat)(ha:a<2)(env:qG)(S:Sto)(h1:env[1]? = some (some (pt0 x y)))(h3:env[3]? = some (some (.int (a:Int))))(h4:env[4]? = some (some o)) :
  d2 qZ (d2 qZ (dSl (qB 1) (zQ) (zK (qB 3))) (qV (q8 (qB 4) (qC)))) (dSl (qB 1) (zK (d2 qZ (qB 3) (dC (.int 1)))) (zQ)) env S=.ok (.tup (uB x y o a)) S:=by
 have l1:1≤lim:=by decide
 have hs:dSl (qB 1) (zQ) (zK (qB 3)) env S=.ok (.tup (xW [.int x,.int y] none (some (a:Int)))) S:=by
  simp only[dSl,uA h1,uA h3,Res.bind,zQ,zK]
  rfl
 have ht:dSl (qB 1) (zK (d2 qZ (qB 3) (dC (.int 1)))) (zQ) env S=.ok (.tup (xW [.int x,.int y] (some ((a:Int)+1)) none)) S:=by
  simp only[dSl,uA h1,Res.bind,zQ,zK,zJ (o:=qZ) (uA (S:=S) h3) (show dC (.int 1) env S=.ok (.int 1) S from rfl),jD]
  rfl
 have ho:=wB (uW (uA (S:=S) h4)) l1
 match a,ha with
 |0,_ =>
  rw[zJ ((zJ hs ho).trans (vU (by show 1≤lim;decide) S)) ht,vU (by show 2≤lim;decide)]
  rfl
 |1,_ =>
  rw[zJ ((zJ hs ho).trans (vU (by show 2≤lim;decide) S)) ht,vU (by show 2≤lim;decide)]
  rfl
def K9 (x y:Int)(b:D):List D:=[b,b,b,b,.tup [.int x],.tup [.int x,.int y,.int 0],.lst [.int x,.int y],.non,.int 7,.str "0,0",.dct0,.tup [pt0 x y]]
theorem FR (x y:Int)(b:D)(hx : -1000≤x∧x≤1000)(hy : -1000≤y∧y≤1000)(hb:NP b):∀ d∈K9 x y b,NP d:=by
 have nx:w5 0 0 false false (.int x):=yN (by omega)
 have ny:w5 0 0 false false (.int y):=yN (by omega)
 intro d hd
 simp only[K9,List.mem_cons,List.not_mem_nil,or_false] at hd
 rcases hd with rfl|rfl|rfl|rfl|rfl|rfl|rfl|rfl|rfl|rfl|rfl|rfl
 ·exact hb
 ·exact hb
 ·exact hb
 ·exact hb
 ·refine⟨false,false,rfl,(kK (k:=0) (b:=0) (m:=1) (fun z hz=>?_) (by simp)).mono (by omega) (by omega) id id⟩
  rw[List.mem_singleton.mp hz];exact nx
 ·refine⟨false,false,rfl,(kK (k:=0) (b:=0) (m:=3) (fun z hz=>?_) (by simp)).mono (by omega) (by omega) id id⟩
  simp only[List.mem_cons,List.not_mem_nil,or_false] at hz
  rcases hz with rfl|rfl|rfl
  ·exact nx
  ·exact ny
  ·exact FP
 ·refine⟨true,false,rfl,(iV (k:=0) (b:=0) (hl:=false) (m:=2) (fun z hz=>?_) (by simp)).mono (by omega) (by omega) id id⟩
  simp only[List.mem_cons,List.not_mem_nil,or_false] at hz
  rcases hz with rfl|rfl
  ·exact nx
  ·exact ny
 ·exact⟨false,false,rfl,YE.mono (by omega) (by omega) id id⟩
 ·exact⟨false,false,rfl,(yN (by decide)).mono (by omega) (by omega) id id⟩
 ·exact⟨false,false,rfl,(YF _ (kd) (by decide)).mono (by omega) (by omega) id id⟩
 ·exact⟨false,true,rfl,YD.mono (by omega) (by omega) id id⟩
 ·refine⟨false,false,rfl,(kK (k:=1) (b:=2) (m:=1) (fun z hz=>?_) (by simp)).mono (by omega) (by omega) id id⟩
  rw[List.mem_singleton.mp hz];exact o6 (eV hx hy)
theorem TH (x y:Int)(o:D)(a:Nat)(hx : -1000≤x∧x≤1000)(hy : -1000≤y∧y≤1000)(ho:o∈YJ):NP (.tup (uB x y o a)):=by
 obtain⟨hl,hd,h1,h2⟩:=L6 o ho
 have nx:w5 1 3 hl hd (.int x):=(yN (by omega)).mono (by omega) (by omega) (fun z=>by cases z) (fun z=>by cases z)
 have ny:w5 1 3 hl hd (.int y):=(yN (by omega)).mono (by omega) (by omega) (fun z=>by cases z) (fun z=>by cases z)
 refine⟨hl,hd,h1,(kK (k:=1) (b:=3) (m:=2) (fun z hz=>?_) ?_).mono (by omega) (by omega) id id⟩
 ·cases a with
  |zero =>
   simp only[uB,List.mem_cons,List.not_mem_nil,or_false] at hz
   rcases hz with rfl|rfl
   ·exact h2
   ·exact ny
  |succ a =>
   simp only[uB,List.mem_cons,List.not_mem_nil,or_false] at hz
   rcases hz with rfl|rfl
   ·exact nx
   ·exact h2
 ·cases a <;> exact Nat.le_refl _
theorem oC (S:Sto)(p:Nat)(x y:Int)(h:y7 S p)(hx : -1000≤x∧x≤1000)(hy : -1000≤y∧y≤1000):∃ (d:D) (S':Sto),xS [.loc p,pt0 x y] S=.ok d S'∧NP d∧y7 S' p:=by
 have key:Rt (vJ [some (.loc p),some (pt0 x y),none,none,none,none,none] S) fun d S'=>NP d∧y7 S' p:=by
  unfold vJ
  obtain⟨w,S1,c1,hw,p1⟩:=vF (S:=S) (i:=0) (f2:=dC (.int 12)) (env:=[some (.loc p),some (pt0 x y),none,none,none,none,none]) (m:=12) h (by omega) rfl rfl
  obtain⟨a,S2,c2,ha,p2⟩:=vF (S:=S1) (i:=0) (f2:=dC (.int 2)) (env:=[some (.loc p),some (pt0 x y),none,none,none,none,none]) (m:=2) p1 (by omega) rfl rfl
  refine xA (YI c1 c2 ?_)
  clear c1 c2
  simp only[List.set_cons_succ,List.set_cons_zero]
  obtain⟨k,S3,c3,hk,p3⟩:=vF (S:=S2) (i:=0) (f2:=dC (.int 10)) (env:=[some (.loc p),some (pt0 x y),some (.int (w:Int)),some (.int (a:Int)),none,none,none]) (m:=10) p2 (by omega) rfl rfl
  obtain⟨o,ho,ho'⟩:=nM YJ (k:Int) ⟨by omega,by show (k:Int)<10;omega⟩
  refine xA (xJ ((zJ (L5 _ _) c3).trans (eP ho S3)) rfl ?_)
  clear c3
  simp only[List.set_cons_succ,List.set_cons_zero]
  refine xA (xJ (TF x y o a (by omega) _ S3 rfl rfl rfl) rfl ?_)
  simp only[List.set_cons_succ,List.set_cons_zero]
  have l10:10≤lim:=by decide
  have l2:2≤lim:=by decide
  have l1:1≤lim:=by decide
  have h3:d2 qZ (qB 1) (qV (q8 (dC (.int 0)) (qC))) [some (.loc p),some (pt0 x y),some (.int (w:Int)),some (.int (a:Int)),some o,some (.tup (uB x y o a)),none] S3=.ok (.tup [.int x,.int y,.int 0]) S3:=
   (zJ (a:=pt0 x y) (b:=.tup [.int 0]) rfl (wB (uW rfl) l1)).trans (vU (by show 3≤lim;decide) S3)
  refine xA (xJ (v9 (zN (a:=.tup (uB x y o a)) rfl (zN (a:=.tup (uB x y o a)) rfl (zN (a:=.tup (uB x y o a)) rfl (zN (a:=.tup (uB x y o a)) rfl (zN (a:=.tup [.int x]) rfl (zN h3 (zN (a:=.lst [.int x,.int y]) rfl (zN (a:=.non) rfl (zN (a:=.int 7) rfl (zN (a:=.str "0,0") rfl (cX _ _))))))))))) l10) rfl ?_)
  simp only[List.set_cons_succ,List.set_cons_zero]
  obtain⟨d,hd,hd'⟩:=nM (K9 x y (.tup (uB x y o a))) (w:Int) ⟨by omega,by show (w:Int)<12;omega⟩
  have hl:xX (q8 (fJ) (q8 (qV (q8 (qB 1) (qC))) (qC))) [some (.loc p),some (pt0 x y),some (.int (w:Int)),some (.int (a:Int)),some o,some (.tup (uB x y o a)),some (.lst [.tup (uB x y o a),.tup (uB x y o a),.tup (uB x y o a),.tup (uB x y o a),.tup [.int x],.tup [.int x,.int y,.int 0],.lst [.int x,.int y],.non,.int 7,.str "0,0"])] S3=.ok (.lst [.dct0,.tup [pt0 x y]]) S3:=v9 (wD rfl (wB (uW rfl) l1)) l2
  exact yE (vM ((zJ ((zJ rfl hl).trans (vT (by show 12≤lim;decide) S3)) rfl).trans (eP hd S3)) ⟨FR x y _ hx hy (TH x y o a hx hy ho') d hd',p3⟩)
 obtain⟨d,S',e,n,p'⟩:=key
 rw[b7]
 exact⟨d,S',rY rfl e,n,p'⟩
end _K
end
section
namespace _K
open PySem _D
theorem WI (ys:List D)(n:Nat)(h:n≤ys.length):xW ys (some (n:Int)) none=ys.drop n:=by
 unfold xW
 have h1:_H.sIx ys.length ys.length none=ys.length:=rfl
 have h2:_H.sIx ys.length 0 (some (n:Int))=min n ys.length:=by
  show (if (n:Int)<0 then ((n:Int)+(ys.length:Int)).toNat else min (n:Int).toNat ys.length)=_
  rw[if_neg (by omega),Int.toNat_natCast]
 rw[h1,h2,Nat.min_eq_left h]
 exact List.take_of_length_le (by rw[List.length_drop];exact Nat.le_refl _)
theorem WJ (ys:List D)(h:1≤ys.length):(xW ys (some (-1)) none).length≤1:=by
 unfold xW
 have h1:_H.sIx ys.length ys.length none=ys.length:=rfl
 have h2:_H.sIx ys.length 0 (some (-1))=ys.length-1:=by
  show (if (-1:Int)<0 then ((-1:Int)+(ys.length:Int)).toNat else min (-1:Int).toNat ys.length)=_
  rw[if_pos (by omega)]
  omega
 rw[h1,h2,List.length_take]
 omega
theorem oF (n:Nat):_H.stepN n (-1)=n:=by
 unfold _H.stepN _H.stepLo _H.stepHi Builtin.Slice.sliceAdjust Builtin.Slice.slicePlaces
 simp
 split <;> omega
theorem ZY (n:Nat):_H.stepN n 2≤n:=by
 unfold _H.stepN _H.stepLo _H.stepHi Builtin.Slice.sliceAdjust Builtin.Slice.slicePlaces
 simp
 split <;> omega
theorem MD {xs:List D}{k:Int}{x:D}(h:x∈_H.stepL xs k):x∈xs:=by
 unfold _H.stepL at h
 obtain⟨m,_,e⟩:=List.mem_filterMap.mp h
 exact List.mem_of_getElem? e
theorem V8 {xs:List D}{k:Int}(h:xs.all zO=true):(_H.stepL xs k).all zO=true:=List.all_eq_true.mpr fun x hx=>List.all_eq_true.mp h x (MD hx)
theorem JG (xs:List D)(k:Int)(f:DE)(env:qG)(i:Nat)(S:Sto)(hi:env[i]? = some (some (.tup xs)))(hf:f env S=.ok (.int k) S)(h:k≠0∧k≠1∧_H.stepN xs.length k≤lim):fK (qB i) f env S=.ok (.tup (_H.stepL xs k)) S:=by
 unfold fK
 rw[zJ (uA hi) hf]
 exact if_pos h
theorem UN (k n:Nat)(hk:1≤k∧k≤8)(hn:n≤41)(env:qG)(S:Sto):qH nQ (q8 (zP false [none] (y9 (uL (q8 (dC (.int (n:Int))) (qC)))) (gNm 0) (xE) (zR (qV (q8 (d2 jE (qB 0) (dC (.int (k:Int)))) (q8 (d2 k9 (qB 0) (dC (.int (k:Int)))) (qC)))))) (qC)) env S=.ok (.tup ((List.range n).map fun i:Nat=>D.tup [.int ((i:Int)/k),.int ((i:Int) % k)])) S:=by
 have hr:=nZ (dC (.int (n:Int))) n env S (by omega) rfl
 have l2:2≤lim:=by decide
 have hc:=UE (enc:=iD) (cap:=[none]) (g:=gNm 0) (t:=xE) (fe:=qV (q8 (d2 jE (qB 0) (dC (.int (k:Int)))) (q8 (d2 k9 (qB 0) (dC (.int (k:Int)))) (qC)))) hr trivial (fun _=>true) (fun i:Nat=>.tup [.int ((i:Int)/k),.int ((i:Int) % k)]) (fun env=>∃ a,env=[a]) ⟨none,rfl⟩ (by rw[List.length_range];unfold lim;omega)
  (fun i _ env ⟨a,q⟩=>by
   subst q
   exact⟨[some (iD i)],rfl,⟨_,rfl⟩,rfl,fun _=>wB (wD ((zJ (a:=.int (i:Int)) (b:=.int (k:Int)) rfl rfl).trans (nR _ _ _ (by omega))) ((zJ (a:=.int (i:Int)) (b:=.int (k:Int)) rfl rfl).trans (pG _ _ _ (by omega)))) l2⟩)
 rw[bE] at hc
 exact(gP hc).trans rfl
theorem WY (k n:Nat)(hk:1≤k∧k≤8)(hn:n≤41):((List.range n).map fun i:Nat=>D.tup [.int ((i:Int)/k),.int ((i:Int) % k)]).all zO=true:=by
 rw[List.all_map,List.all_eq_true]
 intro i hi
 have hi:=List.mem_range.mp hi
 have h0:(0:Int)<(k:Int):=by omega
 have h1:=Int.emod_nonneg (i:Int) (show (k:Int)≠0 by omega)
 have h2:=Int.emod_lt_of_pos (i:Int) h0
 have h3:(0:Int)≤(i:Int)/k:=Int.ediv_nonneg (by omega) (by omega)
 have h4:(i:Int)/k≤i:=Int.ediv_le_self _ (by omega)
 exact eV (by omega) (by omega)
def rQ (xs:List D)(b:D)(a:Nat):List D:=[b,b,.lst xs,.tup (_H.stepL xs (-1)),.tup (xs++xW xs (some (-1)) none),.tup (xs.take (a+1)++xs.drop a),.tup [],.non,.int 7,.str "0,0",.dct0]
theorem VB {i:Int}(h:i.natAbs<10 ^ 12):Th (.int i):=⟨false,false,rfl,(yN h).mono (by omega) (by omega) id id⟩
theorem T7 {d:D}(h:zO d=true):Th d:=⟨false,false,rfl,(o6 h).mono (by omega) (by omega) id id⟩
theorem JH:Th (.str "0,0"):=⟨false,false,rfl,(YF _ (kd) (by decide)).mono (by omega) (by omega) id id⟩
theorem B9:Th .dct0:=⟨false,true,rfl,YD.mono (by omega) (by omega) id id⟩
theorem BB:Th .non:=⟨false,false,rfl,YE.mono (by omega) (by omega) id id⟩
theorem BA {xs:List D}(h:xs.all zO=true)(hl:xs.length≤41):Th (.lst xs):=⟨true,false,rfl,(iV (k:=1) (b:=2) (hl:=false) (m:=41) (fun z hz=>o6 (List.all_eq_true.mp h z hz)) hl).mono (by omega) (by omega) id id⟩
theorem NP.th {d:D}(h:NP d):Th d:=by
 obtain⟨hl,hd,h1,h2⟩:=h
 exact⟨hl,hd,h1,h2.mono (by omega) (by omega) id id⟩
theorem BL (xs:List D)(h:xs.all zO=true)(hl:xs.length≤40)(o:D)(ho:NP o)(a:Nat):Th (.tup (xs.take a++[o]++xs.drop (a+1))):=by
 obtain⟨hl',hd,h1,h2⟩:=ho
 refine⟨hl',hd,h1,(kK (k:=3) (b:=40) (m:=41) (fun z hz=>?_) ?_).mono (by omega) (by omega) id id⟩
 ·have pt:∀ z∈xs,w5 3 40 hl' hd z:=fun z hz=>(o6 (List.all_eq_true.mp h z hz)).mono (by omega) (by omega) (fun z=>by cases z) (fun z=>by cases z)
  rcases List.mem_append.mp hz with hz|hz
  ·rcases List.mem_append.mp hz with hz|hz
   ·exact pt z (List.mem_of_mem_take hz)
   ·rw[List.mem_singleton.mp hz];exact h2
  ·exact pt z (List.mem_of_mem_drop hz)
 ·simp only[List.length_append,List.length_take,List.length_drop,List.length_cons,List.length_nil]
  omega
theorem PF (xs:List D)(h:xs.all zO=true)(hl:1≤xs.length∧xs.length≤40)(b:D)(hb:Th b)(a:Nat)(ha:a<xs.length):∀ d∈rQ xs b a,Th d:=by
 intro d hd
 simp only[rQ,List.mem_cons,List.not_mem_nil,or_false] at hd
 rcases hd with rfl|rfl|rfl|rfl|rfl|rfl|rfl|rfl|rfl|rfl|rfl
 ·exact hb
 ·exact hb
 ·exact BA h (by omega)
 ·exact vB (V8 h) (Nat.le_trans (_H.stepL_length _ _) (by rw[oF];omega))
 ·refine vB (fR h (UF xs _ _ h)) ?_
  have:=WJ xs hl.1
  rw[List.length_append]
  omega
 ·refine vB (fR (List.all_eq_true.mpr fun y hy=>List.all_eq_true.mp h y (List.mem_of_mem_take hy)) (List.all_eq_true.mpr fun y hy=>List.all_eq_true.mp h y (List.mem_of_mem_drop hy))) ?_
  simp only[List.length_append,List.length_take,List.length_drop]
  omega
 ·exact vB rfl (by simp)
 ·exact BB
 ·exact VB (by decide)
 ·exact JH
 ·exact B9
theorem rM {xs:List D}{k:Int}{d:D}(h:_L.atI xs k=some d)(S:Sto):gIx (.tup xs) (.int k) S=.ok d S:=by
 show _D.gY (_L.atI xs k) S=_
 rw[h]
 rfl
theorem CU {d:D}(h:Th d):Pn d:=by
 obtain⟨x,hx⟩:=h.repr
 exact J3 hx
theorem M3 (S:Sto)(p:Nat)(xs:List D)(h:y7 S p)(hx:xs.all zO=true)(hl:1≤xs.length∧xs.length≤40):∃ (d:D) (S':Sto),yL [.loc p,.tup xs] S=.ok d S'∧Th d∧y7 S' p:=by
 have key:Rt (uT [some (.loc p),some (.tup xs),none,none,none,none,none,none] S) fun d S'=>Th d∧y7 S' p:=by
  unfold uT
  obtain⟨w,S1,c1,hw,p1⟩:=vF (S:=S) (i:=0) (f2:=dC (.int 14)) (env:=[some (.loc p),some (.tup xs),none,none,none,none,none,none]) (m:=14) h (by omega) rfl rfl
  obtain⟨a,S2,c2,ha,p2⟩:=vF (S:=S1) (i:=0) (f2:=qH xO (q8 (qB 1) (qC))) (env:=[some (.loc p),some (.tup xs),none,none,none,none,none,none]) (m:=(xs.length:Int)) p1 (by omega) rfl ((gP (f1:=qB 1) rfl).trans (dE xs S1))
  refine xA (YI c1 c2 ?_)
  clear c1 c2
  simp only[List.set_cons_succ,List.set_cons_zero]
  have l1:1≤lim:=by decide
  have l3:3≤lim:=by decide
  have l11:11≤lim:=by decide
  have ha':a<xs.length:=by omega
  obtain⟨q,hq,hq'⟩:=nM xs (a:Int) ⟨by omega,ha⟩
  obtain⟨x,y,rfl,bx,by'⟩:=o4 (List.all_eq_true.mp hx q hq')
  obtain⟨o,S3,c3,ho,p3⟩:=oC S2 p x y p2 bx by'
  have s1:dSl (qB 1) (zQ) (zK (qB 3)) [some (.loc p),some (.tup xs),some (.int (w:Int)),some (.int (a:Int)),none,none,none,none] S2=.ok (.tup (xs.take a)) S2:=by
   show Res.ok (D.tup (xW xs none (some (a:Int)))) S2=_
   rw[eI]
  have s2:dSl (qB 1) (zK (d2 qZ (qB 3) (dC (.int 1)))) (zQ) [some (.loc p),some (.tup xs),some (.int (w:Int)),some (.int (a:Int)),none,none,none,none] S3=.ok (.tup (xs.drop (a+1))) S3:=by
   show Res.ok (D.tup (xW xs (some ((a:Int)+1)) none)) S3=_
   rw[show (a:Int)+1=((a+1:Nat):Int) by omega,WI xs (a+1) (by omega)]
  have s3:qV (q8 (qP 2 xS (q8 (qB 0) (q8 (d2 gIx (qB 1) (qB 3)) (qC)))) (qC)) [some (.loc p),some (.tup xs),some (.int (w:Int)),some (.int (a:Int)),none,none,none,none] S2=.ok (.tup [o]) S3:=
   wB (uW ((fG (a:=.loc p) (b:=pt0 x y) rfl ((zJ (a:=.tup xs) (b:=.int (a:Int)) rfl rfl).trans (rM hq S2))).trans c3)) l1
  have b1:(xs.take a).length+[o].length≤lim:=by
   rw[List.length_take]
   show _+1≤lim
   unfold lim
   omega
  have b2:(xs.take a++[o]).length+(xs.drop (a+1)).length≤lim:=by
   simp only[List.length_append,List.length_take,List.length_drop,List.length_cons,List.length_nil]
   unfold lim
   omega
  refine xA (xJ ((zJ ((zJ s1 s3).trans (vU b1 S3)) s2).trans (vU b2 S3)) rfl ?_)
  clear s1 s2 s3 c3
  have hb:=BL xs hx hl.2 o ho a
  generalize D.tup (xs.take a++[o]++xs.drop (a+1))=b at hb
  simp only[List.set_cons_succ,List.set_cons_zero]
  have i4:fK (qB 1) (d1 kA (dC (.int 1))) [some (.loc p),some (.tup xs),some (.int (w:Int)),some (.int (a:Int)),some b,none,none,none] S3=.ok (.tup (_H.stepL xs (-1))) S3:=
   JG xs (-1) _ _ 1 S3 rfl rfl ⟨by omega,by omega,by rw[oF];unfold lim;omega⟩
  have i5:d2 qZ (qB 1) (dSl (qB 1) (zK (d1 kA (dC (.int 1)))) (zQ)) [some (.loc p),some (.tup xs),some (.int (w:Int)),some (.int (a:Int)),some b,none,none,none] S3=.ok (.tup (xs++xW xs (some (-1)) none)) S3:=
   (zJ (a:=.tup xs) (b:=.tup (xW xs (some (-1)) none)) rfl rfl).trans (vU (by have:=WJ xs hl.1;unfold lim;omega) S3)
  have t1:dSl (qB 1) (zQ) (zK (d2 qZ (qB 3) (dC (.int 1)))) [some (.loc p),some (.tup xs),some (.int (w:Int)),some (.int (a:Int)),some b,none,none,none] S3=.ok (.tup (xs.take (a+1))) S3:=by
   show Res.ok (D.tup (xW xs none (some ((a:Int)+1)))) S3=_
   rw[show (a:Int)+1=((a+1:Nat):Int) by omega,eI]
  have t2:dSl (qB 1) (zK (qB 3)) (zQ) [some (.loc p),some (.tup xs),some (.int (w:Int)),some (.int (a:Int)),some b,none,none,none] S3=.ok (.tup (xs.drop a)) S3:=by
   show Res.ok (D.tup (xW xs (some (a:Int)) none)) S3=_
   rw[WI xs a (by omega)]
  have i6:=(zJ t1 t2).trans (vU (by simp only[List.length_take,List.length_drop];unfold lim;omega) S3)
  have z0:∀ env:qG,qV (qC) env S3=.ok (.tup []) S3:=fun env=>wB (cX _ _) (by show 0≤lim;decide)
  refine xA (xJ (d:=.lst (rQ xs b a)) (S1:=S3) (v9 (zN rfl (zN rfl (zN (a:=.lst xs) rfl (zN i4 (zN i5 (zN i6 (zN (z0 _) (zN rfl (zN rfl (zN rfl (zN rfl (cX _ _)))))))))))) l11) rfl ?_)
  clear i4 i5 i6 t1 t2
  have hno:=PF xs hx hl b hb a ha'
  have nl:(rQ xs b a).length=11:=rfl
  generalize rQ xs b a=L at hno nl
  simp only[List.set_cons_succ,List.set_cons_zero]
  refine xA (xJ (UN 8 41 (by omega) (by omega) _ S3) rfl ?_)
  have gp:=WY 8 41 (by omega) (by omega)
  have gl:((List.range 41).map fun i:Nat=>D.tup [.int ((i:Int)/(8:Nat)),.int ((i:Int) % (8:Nat))]).length≤41:=by simp
  generalize ((List.range 41).map fun i:Nat=>D.tup [.int ((i:Int)/(8:Nat)),.int ((i:Int) % (8:Nat))])=G at gp gl
  simp only[List.set_cons_succ,List.set_cons_zero]
  obtain⟨q0,hq0,hq0'⟩:=nM xs 0 ⟨by omega,by omega⟩
  have h3:xX (q8 (qV (q8 (qB 1) (qC))) (q8 (qB 6) (q8 (d2 gIx (qB 1) (dC (.int 0))) (qC)))) [some (.loc p),some (.tup xs),some (.int (w:Int)),some (.int (a:Int)),some b,some (.lst L),some (.tup G),none] S3=.ok (.lst [.tup [.tup xs],.tup G,q0]) S3:=
   v9 (zN (wB (uW rfl) l1) (wD rfl ((zJ (a:=.tup xs) (b:=.int 0) rfl rfl).trans (rM hq0 S3)))) l3
  have hall:∀ d∈L++[.tup [.tup xs],.tup G,q0],Th d:=by
   intro d hd
   rcases List.mem_append.mp hd with hd|hd
   ·exact hno d hd
   ·simp only[List.mem_cons,List.not_mem_nil,or_false] at hd
    rcases hd with rfl|rfl|rfl
    ·refine⟨false,false,rfl,(kK (k:=2) (b:=123) (m:=1) (fun z hz=>?_) (by simp)).mono (by omega) (by omega) id id⟩
     rw[List.mem_singleton.mp hz]
     exact PU hx (by omega)
    ·exact vB gp gl
    ·exact T7 (List.all_eq_true.mp hx _ hq0')
  obtain⟨d,hd,hd'⟩:=nM (L++[.tup [.tup xs],.tup G,q0]) (w:Int) ⟨by omega,by rw[List.length_append,nl];show (w:Int)<((11+3:Nat):Int);omega⟩
  have td:=hall d hd'
  refine xA (xJ ((zJ ((zJ rfl h3).trans (vT (by rw[nl];show 14≤lim;decide) S3)) rfl).trans (eP hd S3)) rfl ?_)
  clear h3
  simp only[List.set_cons_succ,List.set_cons_zero]
  have hi:=pY ((kN (f1:=qB 7) (env:=[some (.loc p),some (.tup xs),some (.int (w:Int)),some (.int (a:Int)),some b,some (.lst L),some (.tup G),some d]) (S:=S3) rfl).trans (ZR d S3 (CU td)))
  cases hb':pU d with
  |true =>
   rw[hb'] at hi
   refine yE (vM (d:=.tup []) (S:=S3) ?_ ⟨vB rfl (by simp),p3⟩)
   unfold dIf
   rw[hi]
   exact z0 [some (.loc p),some (.tup xs),some (.int (w:Int)),some (.int (a:Int)),some b,some (.lst L),some (.tup G),some d]
  |false =>
   rw[hb'] at hi
   refine yE (vM (d:=d) (S:=S3) ?_ ⟨td,p3⟩)
   unfold dIf
   rw[hi]
   rfl
 obtain⟨d,S',e,n,p'⟩:=key
 rw[m5]
 exact⟨d,S',rY rfl e,n,p'⟩
end _K
end
section
namespace _K
open PySem _D
theorem BU (ns:List Int)(hl:ns.length≤63)(env:qG)(S:Sto)(h0:env[0]? = some (some (.lst (ns.map D.int)))):∃ ms:List Int,bD (d2 qZ (xX (q8 (qP 2 vP (q8 (qB 0) (q8 (dC (.int 0)) (qC)))) (qC))) (dSl (qB 0) (zK (dC (.int 1))) (zK (dC (.int 8))))) env S=.ok (ms.map D.int) S:=by
 obtain⟨x,hx⟩:=EG ns S
 obtain⟨ms,hm,hml⟩:=TQ ns (some 1) (some 8)
 refine⟨x::ms,?_⟩
 have l1:1≤lim:=by decide
 have hs:dSl (qB 0) (zK (dC (.int 1))) (zK (dC (.int 8))) env S=.ok (.lst (ms.map D.int)) S:=by
  simp only[dSl,uA h0,Res.bind,zK,dC]
  show Res.ok (D.lst (xW (ns.map D.int) (some 1) (some 8))) S=_
  rw[hm]
 have hc:xX (q8 (qP 2 vP (q8 (qB 0) (q8 (dC (.int 0)) (qC)))) (qC)) env S=.ok (.lst [.int x]) S:=v9 (uW ((fG (uA h0) rfl).trans hx)) l1
 unfold bD
 rw[zJ hc hs,vT (by rw[List.length_map];show 1+ms.length≤lim;unfold lim;omega)]
 rfl
def wT:List D:=[.tup [.int 1000,.int (-1000)],.tup [.int 1001,.int 0],.tup [.int 0,.int (-1001)],.tup [.tup [.int 0,.int 0]],.tup [],.tup [.int 0,.bl true],.tup [.tup [.int 0,.int 0],.tup [.int 0,.int 0]],.tup [.tup [.int 1,.int 0],.tup [.int 0,.int 0]],.non]
theorem MA (env:qG)(S:Sto):xX (q8 (qV (q8 (dC (.int 1000)) (q8 (d1 kA (dC (.int 1000))) (qC)))) (q8 (qV (q8 (dC (.int 1001)) (q8 (dC (.int 0)) (qC)))) (q8 (qV (q8 (dC (.int 0)) (q8 (d1 kA (dC (.int 1001))) (qC)))) (q8 (qV (q8 (qV (q8 (dC (.int 0)) (q8 (dC (.int 0)) (qC)))) (qC))) (q8 (qV (qC)) (q8 (qV (q8 (dC (.int 0)) (q8 (dC (.bl true)) (qC)))) (q8 (qV (q8 (qV (q8 (dC (.int 0)) (q8 (dC (.int 0)) (qC)))) (q8 (qV (q8 (dC (.int 0)) (q8 (dC (.int 0)) (qC)))) (qC)))) (q8 (qV (q8 (qV (q8 (dC (.int 1)) (q8 (dC (.int 0)) (qC)))) (q8 (qV (q8 (dC (.int 0)) (q8 (dC (.int 0)) (qC)))) (qC)))) (q8 (dC .non) (qC)))))))))) env S=.ok (.lst wT) S:=by
 have l0:0≤lim:=by decide
 have l1:1≤lim:=by decide
 have l2:2≤lim:=by decide
 have l9:9≤lim:=by decide
 have two:∀ (f g:DE) (a b:D),f env S=.ok a S→g env S=.ok b S→qV (q8 f (q8 g (qC))) env S=.ok (.tup [a,b]) S:=fun f g a b h1 h2=>wB (wD h1 h2) l2
 exact v9 (zN (two _ _ _ _ rfl rfl) (zN (two _ _ _ _ rfl rfl) (zN (two _ _ _ _ rfl rfl) (zN (wB (uW (two _ _ _ _ rfl rfl)) l1) (zN (wB (cX _ _) l0) (zN (two _ _ _ _ rfl rfl) (zN (two _ _ _ _ (two _ _ _ _ rfl rfl) (two _ _ _ _ rfl rfl)) (zN (two _ _ _ _ (two _ _ _ _ rfl rfl) (two _ _ _ _ rfl rfl)) (zN rfl (cX _ _)))))))))) l9
theorem iW {a b:D}(ha:w5 0 0 false false a)(hb:w5 0 0 false false b):w5 1 2 false false (.tup [a,b]):=
 kK (k:=0) (b:=0) (m:=2) (fun z hz=>by
  simp only[List.mem_cons,List.not_mem_nil,or_false] at hz
  rcases hz with rfl|rfl
  ·exact ha
  ·exact hb) (by simp)
theorem MB:∀ d∈wT,Th d:=by
 have n:∀ i:Int,i.natAbs<10 ^ 12→w5 0 0 false false (.int i):=fun i h=>yN h
 have th:∀ d,w5 1 2 false false d→Th d:=fun d h=>⟨false,false,rfl,h.mono (by omega) (by omega) id id⟩
 have p0:zO (.tup [.int 0,.int 0])=true:=by decide
 have p1:zO (.tup [.int 1,.int 0])=true:=by decide
 intro d hd
 simp only[wT,List.mem_cons,List.not_mem_nil,or_false] at hd
 rcases hd with rfl|rfl|rfl|rfl|rfl|rfl|rfl|rfl|rfl
 ·exact th _ (iW (n _ (by decide)) (n _ (by decide)))
 ·exact th _ (iW (n _ (by decide)) (n _ (by decide)))
 ·exact th _ (iW (n _ (by decide)) (n _ (by decide)))
 ·exact vB (by rw[List.all_cons,p0];rfl) (by simp)
 ·exact vB rfl (by simp)
 ·exact th _ (iW (n _ (by decide)) (K8 _))
 ·exact vB (by rw[List.all_cons,List.all_cons,p0];rfl) (by simp)
 ·exact vB (by rw[List.all_cons,List.all_cons,p0,p1];rfl) (by simp)
 ·exact BB
theorem L0:zO (.tup [.int 9,.int 9])=true:=by decide
inductive IvC (ns:List Int)(e1 e2:Option D)(ds:List D)(env:qG)(S:Sto):Prop
 |mk (ms:List Int) (e3 e4 e5 e6 e7 e8:Option D) (h_0:ds=ms.map D.int) (h_1:env=[some (.lst (ns.map D.int)),e1,e2,e3,e4,e5,e6,e7,e8]):IvC ns e1 e2 ds env S
inductive IvT (ns:List Int)(e1 e2 e3 e4 e5 e6 e7:Option D)(ds:List D)(env:qG)(S:Sto):Prop
 |mk (e8:Option D) (h_0:∀ d∈ds,Th d) (h_1:env=[some (.lst (ns.map D.int)),e1,e2,e3,e4,e5,e6,e7,e8]):IvT ns e1 e2 e3 e4 e5 e6 e7 ds env S
theorem FO (c:Cl)(nd:(BW c).Nodup)(ns:List Int)(hl:ns.length≤63):∃ S,zA 9 XT [.lst (ns.map D.int)] [] = .ok (.bl true) S:=by
 have key:Rt (XT [some (.lst (ns.map D.int)),none,none,none,none,none,none,none,none] []) fun d _=>d=.bl true:=by
  unfold XT
  refine xA (xJ (UN 7 40 (by omega) (by omega) _ []) rfl ?_)
  have gp:=WY 7 40 (by omega) (by omega)
  have gl:((List.range 40).map fun i:Nat=>D.tup [.int ((i:Int)/(7:Nat)),.int ((i:Int) % (7:Nat))]).length=40:=by simp
  generalize ((List.range 40).map fun i:Nat=>D.tup [.int ((i:Int)/(7:Nat)),.int ((i:Int) % (7:Nat))])=G at gp gl
  simp only[List.set_cons_succ,List.set_cons_zero]
  refine xA (xJ (MA _ []) rfl ?_)
  simp only[List.set_cons_succ,List.set_cons_zero]
  have l1:1≤lim:=by decide
  have l2:2≤lim:=by decide
  have l7:7≤lim:=by decide
  have g9:d2 qZ (qB 1) (qV (q8 (qV (q8 (dC (.int 9)) (q8 (dC (.int 9)) (qC)))) (qC))) [some (.lst (ns.map D.int)),some (.tup G),some (.lst wT),none,none,none,none,none,none] [] = .ok (.tup (G++[.tup [.int 9,.int 9]])) []:=
   (zJ (a:=.tup G) (b:=.tup [.tup [.int 9,.int 9]]) rfl (wB (uW (wB (wD rfl rfl) l2)) l1)).trans (vU (by rw[gl];show 41≤lim;decide) [])
  have hit:dIt (d2 qZ (qB 2) (xX (q8 (qB 1) (q8 (d2 qZ (qB 1) (qV (q8 (qV (q8 (dC (.int 9)) (q8 (dC (.int 9)) (qC)))) (qC)))) (q8 (xX (q8 (qV (q8 (dC (.int 0)) (q8 (dC (.int 0)) (qC)))) (qC))) (q8 (xX (q8 (dC (.int 0)) (q8 (dC (.int 0)) (qC)))) (q8 (dC (.str "0,0")) (q8 (dC (.int 7)) (q8 (fJ) (qC)))))))))) [some (.lst (ns.map D.int)),some (.tup G),some (.lst wT),none,none,none,none,none,none] [] = .ok (none,wT++[.tup G,.tup (G++[.tup [.int 9,.int 9]]),.lst [.tup [.int 0,.int 0]],.lst [.int 0,.int 0],.str "0,0",.int 7,.dct0]) []:=by
   unfold dIt
   rw[zJ (a:=.lst wT) (S1:=[]) rfl (v9 (zN (a:=.tup G) (S1:=[]) rfl (zN g9 (zN (v9 (uW (wB (wD rfl rfl) l2)) l1) (zN (v9 (wD rfl rfl) l2) (zN rfl (zN rfl (zN rfl (cX _ _)))))))) l7),vT (by show 16≤lim;decide)]
   rfl
  have hall:∀ d∈wT++[.tup G,.tup (G++[.tup [.int 9,.int 9]]),.lst [.tup [.int 0,.int 0]],.lst [.int 0,.int 0],.str "0,0",.int 7,.dct0],Th d:=by
   intro d hd
   rcases List.mem_append.mp hd with hd|hd
   ·exact MB d hd
   ·simp only[List.mem_cons,List.not_mem_nil,or_false] at hd
    rcases hd with rfl|rfl|rfl|rfl|rfl|rfl|rfl
    ·exact vB gp (by omega)
    ·exact vB (fR gp (by rw[List.all_cons,L0];rfl)) (by rw[List.length_append,gl];exact Nat.le_refl _)
    ·exact BA (by decide) (by simp)
    ·refine⟨true,false,rfl,(iV (k:=0) (b:=0) (hl:=false) (m:=2) (fun z hz=>?_) (by simp)).mono (by omega) (by omega) id id⟩
     simp only[List.mem_cons,List.not_mem_nil,or_false] at hz
     rcases hz with rfl|rfl <;> exact FP
    ·exact JH
    ·exact VB (by decide)
    ·exact B9
  have hcl:(wT++[D.tup G,.tup (G++[.tup [.int 9,.int 9]]),.lst [.tup [.int 0,.int 0]],.lst [.int 0,.int 0],.str "0,0",.int 7,.dct0]).length≤lim:=by show 16≤lim;decide
  generalize wT++[D.tup G,.tup (G++[.tup [.int 9,.int 9]]),.lst [.tup [.int 0,.int 0]],.lst [.int 0,.int 0],.str "0,0",.int 7,.dct0]=L at hit hall hcl
  have hc:=WC (cap:=[none]) (g:=gNm 0) (t:=xE) (fe:=qP 1 (okO yA) (q8 (qB 0) (qC))) hit trivial (fun _=>true) (fun _=>.bl true) (fun env=>∃ a,env=[a]) ⟨none,rfl⟩ hcl
   (fun x hx env ⟨a,q⟩=>by subst q;exact⟨[some x],rfl,⟨_,rfl⟩,rfl,fun _=>(kN (f1:=qB 0) rfl).trans (bL (VA (hall x hx) []))⟩)
  rw[bE] at hc
  have ha:=mU (pY (aX (p:=fun _:D=>true) hc))
  have hat:L.all (fun _=>true)=true:=by simp
  rw[hat] at ha
  refine xA (kQ ha (uN rfl ?_))
  clear ha hc hit g9 hall
  obtain⟨ms,hms⟩:=BU ns hl [some (.lst (ns.map D.int)),some (.tup G),some (.lst wT),none,none,none,none,none,none] [] rfl
  refine xA (iZ hms ?_)
  refine eT (IvC ns (some (.tup G)) (some (.lst wT))) ?_ ?_ ⟨ms,_,_,_,_,_,_,rfl,rfl⟩
  ·rintro d ds env S ⟨ms,e3,e4,e5,e6,e7,e8,hds,rfl⟩
   cases ms with
   |nil=>cases hds
   |cons y ms =>
    injection hds with h1 h2
    subst h1 h2
    refine⟨[some (.lst (ns.map D.int)),some (.tup G),some (.lst wT),some (.int y),e4,e5,e6,e7,e8],S,rfl,?_⟩
    obtain⟨f,hpen⟩:=CI y S
    refine lH (xJ ((kN (a:=.int y) rfl).trans hpen) rfl ?_)
    have p0:y7 (S++[.lst [.int y,.int f]]) S.length:=⟨y,f,by simp⟩
    generalize S++[.lst [.int y,.int f]]=S0 at p0
    generalize S.length=p at p0
    simp only[List.set_cons_succ,List.set_cons_zero]
    obtain⟨xs,S1,c1,hx,hxl,p1⟩:=CH S0 p p0
    refine lH (xJ ((fG (a:=.loc p) (b:=.int 40) rfl rfl).trans c1) rfl ?_)
    clear c1 hpen
    simp only[List.set_cons_succ,List.set_cons_zero]
    obtain⟨a,S2,c2,ha,p2⟩:=vF (S:=S1) (i:=4) (f2:=qH xO (q8 (qB 5) (qC))) (env:=[some (.lst (ns.map D.int)),some (.tup G),some (.lst wT),some (.int y),some (.loc p),some (.tup xs),e6,e7,e8]) (m:=(xs.length:Int)) p1 (by omega) rfl ((gP (f1:=qB 5) rfl).trans (dE xs S1))
    obtain⟨q,hq,hq'⟩:=nM xs (a:Int) ⟨by omega,ha⟩
    have hqp:=List.all_eq_true.mp hx q hq'
    refine lH (xJ ((zJ (a:=.tup xs) (S1:=S1) rfl c2).trans (rM hq S2)) rfl ?_)
    clear c2
    simp only[List.set_cons_succ,List.set_cons_zero]
    obtain⟨x0,y0,rfl,hx0,hy0⟩:=o4 hqp
    have r3:y9 (uL (q8 (dC (.int 3)) (qC))) [some (.lst (ns.map D.int)),some (.tup G),some (.lst wT),some (.int y),some (.loc p),some (.tup xs),some (.tup [.int x0,.int y0]),e7,e8] S2=.ok (none,(List.range 3).map iD) S2:=nZ (dC (.int 3)) 3 _ S2 (by omega) rfl
    obtain⟨zs,_,S3,c3,lz,hz,_,_,p3⟩:=eG (cap:=[none,some 4,some 6]) (g:=gNm 0) (t:=xE) (fe:=qP 2 (okO xS) (q8 (qB 1) (q8 (qB 2) (qC)))) (fun env S'=>∃ a,env=[a,some (.loc p),some (.tup [.int x0,.int y0])]∧y7 S' p) NP r3 ⟨none,rfl,p2⟩ (by show 3≤lim;decide)
     (fun d env S' hd ⟨a,q1,q2⟩=>by
      subst q1
      obtain⟨o,S'',e,ho,p''⟩:=oC S' p x0 y0 q2 hx0 hy0
      exact⟨[some d,some (.loc p),some (.tup [.int x0,.int y0])],o,S'',rfl,rfl,(fG (a:=.loc p) (b:=pt0 x0 y0) rfl rfl).trans (bL e),⟨_,rfl,p''⟩,ho⟩)
    rw[List.length_map,List.length_range] at lz
    have h7:=(zJ (v9 (wD (a:=.tup xs) (b:=.tup [.int x0,.int y0]) (env:=[some (.lst (ns.map D.int)),some (.tup G),some (.lst wT),some (.int y),some (.loc p),some (.tup xs),some (.tup [.int x0,.int y0]),e7,e8]) (S:=S2) (f1:=qB 5) (f2:=qB 6) rfl rfl) l2) c3).trans (vT (by rw[lz];show 5≤lim;decide) S3)
    refine lH (xJ h7 rfl ?_)
    clear h7 c3 r3
    have h7:∀ d∈[D.tup xs,.tup [.int x0,.int y0]]++zs,Th d:=by
     intro d hd
     rcases List.mem_append.mp hd with hd|hd
     ·simp only[List.mem_cons,List.not_mem_nil,or_false] at hd
      rcases hd with rfl|rfl
      ·exact vB hx (by omega)
      ·exact T7 hqp
     ·exact(hz d hd).th
    have l7':([D.tup xs,.tup [.int x0,.int y0]]++zs).length=5:=by rw[List.length_append,lz];rfl
    generalize [D.tup xs,.tup [.int x0,.int y0]]++zs=T at h7 l7'
    simp only[List.set_cons_succ,List.set_cons_zero]
    have r4:y9 (uL (q8 (dC (.int 4)) (qC))) [some (.lst (ns.map D.int)),some (.tup G),some (.lst wT),some (.int y),some (.loc p),some (.tup xs),some (.tup [.int x0,.int y0]),some (.lst T),e8] S3=.ok (none,(List.range 4).map iD) S3:=nZ (dC (.int 4)) 4 _ S3 (by omega) rfl
    obtain⟨us,_,S4,c4,lu,hu,_,_,p4⟩:=eG (cap:=[none,some 5,some 4]) (g:=gNm 0) (t:=xE) (fe:=qP 2 (okO yL) (q8 (qB 2) (q8 (qB 1) (qC)))) (fun env S'=>∃ a,env=[a,some (.tup xs),some (.loc p)]∧y7 S' p) Th r4 ⟨none,rfl,p3⟩ (by show 4≤lim;decide)
     (fun d env S' hd ⟨a,q1,q2⟩=>by
      subst q1
      obtain⟨o,S'',e,ho,p''⟩:=M3 S' p xs q2 hx hxl
      exact⟨[some d,some (.tup xs),some (.loc p)],o,S'',rfl,rfl,(fG (a:=.loc p) (b:=.tup xs) rfl rfl).trans (bL e),⟨_,rfl,p''⟩,ho⟩)
    rw[List.length_map,List.length_range] at lu
    have s1:dSl (qB 5) (zK (dC (.int 1))) (zQ) [some (.lst (ns.map D.int)),some (.tup G),some (.lst wT),some (.int y),some (.loc p),some (.tup xs),some (.tup [.int x0,.int y0]),some (.lst T),e8] S4=.ok (.tup (xW xs (some 1) none)) S4:=rfl
    have s2:fK (qB 5) (dC (.int 2)) [some (.lst (ns.map D.int)),some (.tup G),some (.lst wT),some (.int y),some (.loc p),some (.tup xs),some (.tup [.int x0,.int y0]),some (.lst T),e8] S4=.ok (.tup (_H.stepL xs 2)) S4:=
     JG xs 2 _ _ 5 S4 rfl rfl ⟨by omega,by omega,by have:=ZY xs.length;unfold lim;omega⟩
    have h8:bD (d2 qZ (d2 qZ (qB 7) (zP false [none,some 5,some 4] (y9 (uL (q8 (dC (.int 4)) (qC)))) (gNm 0) (xE) (zR (qP 2 (okO yL) (q8 (qB 2) (q8 (qB 1) (qC))))))) (xX (q8 (dSl (qB 5) (zK (dC (.int 1))) (zQ)) (q8 (fK (qB 5) (dC (.int 2))) (qC))))) [some (.lst (ns.map D.int)),some (.tup G),some (.lst wT),some (.int y),some (.loc p),some (.tup xs),some (.tup [.int x0,.int y0]),some (.lst T),e8] S3=.ok (T++us++[.tup (xW xs (some 1) none),.tup (_H.stepL xs 2)]) S4:=by
     unfold bD
     rw[zJ ((zJ (a:=.lst T) (S1:=S3) rfl c4).trans (vT (by rw[l7',lu];decide) S4)) (v9 (wD s1 s2) l2),vT (by rw[List.length_append,l7',lu];show 11≤lim;decide)]
     rfl
    refine iZ h8 ?_
    clear h8 c4 r4 s1 s2
    refine eT (IvT ns (some (.tup G)) (some (.lst wT)) (some (.int y)) (some (.loc p)) (some (.tup xs)) (some (.tup [.int x0,.int y0])) (some (.lst T))) ?_ ?_ ⟨e8,?_,rfl⟩
    ·rintro d ds env S ⟨e8,hds,rfl⟩
     refine⟨[some (.lst (ns.map D.int)),some (.tup G),some (.lst wT),some (.int y),some (.loc p),some (.tup xs),some (.tup [.int x0,.int y0]),some (.lst T),some d],S,rfl,?_⟩
     exact kQ (mU (pY ((kN (f1:=qB 8) rfl).trans (VA (hds d (by simp)) S)))) (uN rfl ⟨_,fun z hz=>hds z (by simp[hz]),rfl⟩)
    ·rintro env S ⟨e8,_,rfl⟩
     exact⟨ms,_,_,_,_,_,_,rfl,rfl⟩
    ·intro d hd
     rcases List.mem_append.mp hd with hd|hd
     ·rcases List.mem_append.mp hd with hd|hd
      ·exact h7 d hd
      ·exact hu d hd
     ·simp only[List.mem_cons,List.not_mem_nil,or_false] at hd
      rcases hd with rfl|rfl
      ·refine vB (UF xs _ _ hx) ?_
       rw[MM,List.length_drop]
       omega
      ·exact vB (V8 hx) (Nat.le_trans (_H.stepL_length _ _) (by have:=ZY xs.length;omega))
  ·rintro env S ⟨ms,e3,e4,e5,e6,e7,e8,_,rfl⟩
   exact yE (vM (d:=.bl true) (S:=S) rfl rfl)
 obtain⟨d,S',e,rfl⟩:=key
 exact⟨S',rY rfl e⟩
end _K
end
section
namespace _K
open PySem PySem.Spec PyProof.Rows _L _D
theorem VP (kV doc pm:Value)(an:Option Addr)(cdv ct:Value):∀ (us:List Value),us.length=["thing"].length→bindArgs (PySem.W.fnOf "is_whole" "is_whole" (qR (top 1)) (qM (top 1)) (q9 (top 1)) .none kV doc pm an cdv ct) ⟨us,[]⟩=pure (List.zip (["thing"]:List Str) us):=by
 intro us h;obtain⟨_,rfl⟩:=us1 h;rfl
theorem W4 (kV doc pm:Value)(an:Option Addr)(cdv ct:Value):∀ (us:List Value),us.length=["thing","least","most"].length→bindArgs (PySem.W.fnOf "is_within" "is_within" (qR (top 2)) (qM (top 2)) (q9 (top 2)) .none kV doc pm an cdv ct) ⟨us,[]⟩=pure (List.zip (["thing","least","most"]:List Str) us):=by
 intro us h;obtain⟨_,_,_,rfl⟩:=us3 h;rfl
theorem W3 (kV doc pm:Value)(an:Option Addr)(cdv ct:Value):∀ (us:List Value),us.length=["some"].length→bindArgs (PySem.W.fnOf "is_rising" "is_rising" (qR (top 3)) (qM (top 3)) (q9 (top 3)) .none kV doc pm an cdv ct) ⟨us,[]⟩=pure (List.zip (["some"]:List Str) us):=by
 intro us h;obtain⟨_,rfl⟩:=us1 h;rfl
theorem VO (kV doc pm:Value)(an:Option Addr)(cdv ct:Value):∀ (us:List Value),us.length=["thing"].length→bindArgs (PySem.W.fnOf "is_point" "is_point" (qR (top 8)) (qM (top 8)) (q9 (top 8)) .none kV doc pm an cdv ct) ⟨us,[]⟩=pure (List.zip (["thing"]:List Str) us):=by
 intro us h;obtain⟨_,rfl⟩:=us1 h;rfl
theorem KU (kV doc pm:Value)(an:Option Addr)(cdv ct:Value):∀ (us:List Value),us.length=["thing"].length→bindArgs (PySem.W.fnOf "is_lot" "is_lot" (qR (top 9)) (qM (top 9)) (q9 (top 9)) .none kV doc pm an cdv ct) ⟨us,[]⟩=pure (List.zip (["thing"]:List Str) us):=by
 intro us h;obtain⟨_,rfl⟩:=us1 h;rfl
theorem W0 (kV doc pm:Value)(an:Option Addr)(cdv ct:Value):∀ (us:List Value),us.length=["_law_script","_law_k"].length→bindArgs (PySem.W.fnOf "_law_cell" "_law_cell" (qR (top 11)) (qM (top 11)) (q9 (top 11)) .none kV doc pm an cdv ct) ⟨us,[]⟩=pure (List.zip (["_law_script","_law_k"]:List Str) us):=by
 intro us h;obtain⟨_,_,rfl⟩:=us2 h;rfl
theorem VN (kV doc pm:Value)(an:Option Addr)(cdv ct:Value):∀ (us:List Value),us.length=["_law_cell_here"].length→bindArgs (PySem.W.fnOf "_law_pen" "_law_pen" (qR (top 12)) (qM (top 12)) (q9 (top 12)) .none kV doc pm an cdv ct) ⟨us,[]⟩=pure (List.zip (["_law_cell_here"]:List Str) us):=by
 intro us h;obtain⟨_,rfl⟩:=us1 h;rfl
theorem W1 (kV doc pm:Value)(an:Option Addr)(cdv ct:Value):∀ (us:List Value),us.length=["_law_pen_here","_law_many"].length→bindArgs (PySem.W.fnOf "_law_draw" "_law_draw" (qR (top 13)) (qM (top 13)) (q9 (top 13)) .none kV doc pm an cdv ct) ⟨us,[]⟩=pure (List.zip (["_law_pen_here","_law_many"]:List Str) us):=by
 intro us h;obtain⟨_,_,rfl⟩:=us2 h;rfl
theorem X5 (kV doc pm:Value)(an:Option Addr)(cdv ct:Value):∀ (us:List Value),us.length=["_law_thing"].length→bindArgs (PySem.W.fnOf "_law_whole" "_law_whole" (qR (top 14)) (qM (top 14)) (q9 (top 14)) .none kV doc pm an cdv ct) ⟨us,[]⟩=pure (List.zip (["_law_thing"]:List Str) us):=by
 intro us h;obtain⟨_,rfl⟩:=us1 h;rfl
theorem W2 (kV doc pm:Value)(an:Option Addr)(cdv ct:Value):∀ (us:List Value),us.length=["_law_found","_law_due"].length→bindArgs (PySem.W.fnOf "_law_same" "_law_same" (qR (top 15)) (qM (top 15)) (q9 (top 15)) .none kV doc pm an cdv ct) ⟨us,[]⟩=pure (List.zip (["_law_found","_law_due"]:List Str) us):=by
 intro us h;obtain⟨_,_,rfl⟩:=us2 h;rfl
theorem X3 (kV doc pm:Value)(an:Option Addr)(cdv ct:Value):∀ (us:List Value),us.length=["_law_pen_here","_law_wide"].length→bindArgs (PySem.W.fnOf "_law_point" "_law_point" (qR (top 16)) (qM (top 16)) (q9 (top 16)) .none kV doc pm an cdv ct) ⟨us,[]⟩=pure (List.zip (["_law_pen_here","_law_wide"]:List Str) us):=by
 intro us h;obtain⟨_,_,rfl⟩:=us2 h;rfl
theorem VM (kV doc pm:Value)(an:Option Addr)(cdv ct:Value):∀ (us:List Value),us.length=["_law_pen_here","_law_most"].length→bindArgs (PySem.W.fnOf "_law_lot" "_law_lot" (qR (top 17)) (qM (top 17)) (q9 (top 17)) .none kV doc pm an cdv ct) ⟨us,[]⟩=pure (List.zip (["_law_pen_here","_law_most"]:List Str) us):=by
 intro us h;obtain⟨_,_,rfl⟩:=us2 h;rfl
theorem cS (kV doc pm:Value)(an:Option Addr)(cdv ct:Value):∀ (us:List Value),us.length=["_law_thing"].length→bindArgs (PySem.W.fnOf "_law_is_point" "_law_is_point" (qR (top 18)) (qM (top 18)) (q9 (top 18)) .none kV doc pm an cdv ct) ⟨us,[]⟩=pure (List.zip (["_law_thing"]:List Str) us):=by
 intro us h;obtain⟨_,rfl⟩:=us1 h;rfl
theorem oN (kV doc pm:Value)(an:Option Addr)(cdv ct:Value):∀ (us:List Value),us.length=["_law_thing"].length→bindArgs (PySem.W.fnOf "_law_is_lot" "_law_is_lot" (qR (top 19)) (qM (top 19)) (q9 (top 19)) .none kV doc pm an cdv ct) ⟨us,[]⟩=pure (List.zip (["_law_thing"]:List Str) us):=by
 intro us h;obtain⟨_,rfl⟩:=us1 h;rfl
theorem cT (kV doc pm:Value)(an:Option Addr)(cdv ct:Value):∀ (us:List Value),us.length=["_law_pen_here","_law_point_here"].length→bindArgs (PySem.W.fnOf "_law_no_point" "_law_no_point" (qR (top 20)) (qM (top 20)) (q9 (top 20)) .none kV doc pm an cdv ct) ⟨us,[]⟩=pure (List.zip (["_law_pen_here","_law_point_here"]:List Str) us):=by
 intro us h;obtain⟨_,_,rfl⟩:=us2 h;rfl
theorem oO (kV doc pm:Value)(an:Option Addr)(cdv ct:Value):∀ (us:List Value),us.length=["_law_pen_here","_law_lot_here"].length→bindArgs (PySem.W.fnOf "_law_no_lot" "_law_no_lot" (qR (top 21)) (qM (top 21)) (q9 (top 21)) .none kV doc pm an cdv ct) ⟨us,[]⟩=pure (List.zip (["_law_pen_here","_law_lot_here"]:List Str) us):=by
 intro us h;obtain⟨_,_,rfl⟩:=us2 h;rfl
theorem X4 (kV doc pm:Value)(an:Option Addr)(cdv ct:Value):∀ (us:List Value),us.length=["_law_thing"].length→bindArgs (PySem.W.fnOf "_law_right" "_law_right" (qR (top 22)) (qM (top 22)) (q9 (top 22)) .none kV doc pm an cdv ct) ⟨us,[]⟩=pure (List.zip (["_law_thing"]:List Str) us):=by
 intro us h;obtain⟨_,rfl⟩:=us1 h;rfl
theorem DC (kV doc pm:Value)(an:Option Addr)(cdv ct:Value):∀ (us:List Value),us.length=["_law_script"].length→bindArgs (PySem.W.fnOf "law" "law" (qR (top 23)) (qM (top 23)) (q9 (top 23)) .none kV doc pm an cdv ct) ⟨us,[]⟩=pure (List.zip (["_law_script"]:List Str) us):=by
 intro us h;obtain⟨_,rfl⟩:=us1 h;rfl
theorem ES {K:PySem.W.Frag}{h:Heap}{mg:Str→Option Value}(X:K.In h)(G:h.Ns mainGlobals mg){f_16 f_17 f_15 f_14 f_13 f_1 f_8 f_2 f_12 f_11 f_9 f_5 f_4 f_3 f_7 f_6 f_10 f_law  : Addr}
  {oc_16 kV_16 doc_16 pm_16 cd_16 ct_16:Value} {od_16 an_16:Option Addr} {sl_16:Array (Option Value)} (a_16:PySem.W.nsIn K mainGlobals "is_whole" = some (some (.ref f_16)))
  (l_16:K.lookup f_16=some ⟨oc_16,od_16,.func (PySem.W.fnOf "is_whole" "is_whole" (qR (top 1)) (qM (top 1)) (q9 (top 1)) .none kV_16 doc_16 pm_16 an_16 cd_16 ct_16),sl_16⟩) (c_16:PySem.W.codeIn K cd_16 "is_whole" = true) (k_16:PySem.W.keepIn K (.ref f_16)=true)
  {oc_17 kV_17 doc_17 pm_17 cd_17 ct_17:Value} {od_17 an_17:Option Addr} {sl_17:Array (Option Value)} (a_17:PySem.W.nsIn K mainGlobals "is_within" = some (some (.ref f_17)))
  (l_17:K.lookup f_17=some ⟨oc_17,od_17,.func (PySem.W.fnOf "is_within" "is_within" (qR (top 2)) (qM (top 2)) (q9 (top 2)) .none kV_17 doc_17 pm_17 an_17 cd_17 ct_17),sl_17⟩) (c_17:PySem.W.codeIn K cd_17 "is_within" = true) (k_17:PySem.W.keepIn K (.ref f_17)=true)
  {oc_15 kV_15 doc_15 pm_15 cd_15 ct_15:Value} {od_15 an_15:Option Addr} {sl_15:Array (Option Value)} (a_15:PySem.W.nsIn K mainGlobals "is_rising" = some (some (.ref f_15)))
  (l_15:K.lookup f_15=some ⟨oc_15,od_15,.func (PySem.W.fnOf "is_rising" "is_rising" (qR (top 3)) (qM (top 3)) (q9 (top 3)) .none kV_15 doc_15 pm_15 an_15 cd_15 ct_15),sl_15⟩) (c_15:PySem.W.codeIn K cd_15 "is_rising" = true) (k_15:PySem.W.keepIn K (.ref f_15)=true)
  {oc_14 kV_14 doc_14 pm_14 cd_14 ct_14:Value} {od_14 an_14:Option Addr} {sl_14:Array (Option Value)} (a_14:PySem.W.nsIn K mainGlobals "is_point" = some (some (.ref f_14)))
  (l_14:K.lookup f_14=some ⟨oc_14,od_14,.func (PySem.W.fnOf "is_point" "is_point" (qR (top 8)) (qM (top 8)) (q9 (top 8)) .none kV_14 doc_14 pm_14 an_14 cd_14 ct_14),sl_14⟩) (c_14:PySem.W.codeIn K cd_14 "is_point" = true) (k_14:PySem.W.keepIn K (.ref f_14)=true)
  {oc_13 kV_13 doc_13 pm_13 cd_13 ct_13:Value} {od_13 an_13:Option Addr} {sl_13:Array (Option Value)} (a_13:PySem.W.nsIn K mainGlobals "is_lot" = some (some (.ref f_13)))
  (l_13:K.lookup f_13=some ⟨oc_13,od_13,.func (PySem.W.fnOf "is_lot" "is_lot" (qR (top 9)) (qM (top 9)) (q9 (top 9)) .none kV_13 doc_13 pm_13 an_13 cd_13 ct_13),sl_13⟩) (c_13:PySem.W.codeIn K cd_13 "is_lot" = true) (k_13:PySem.W.keepIn K (.ref f_13)=true)
  {oc_1 kV_1 doc_1 pm_1 cd_1 ct_1:Value} {od_1 an_1:Option Addr} {sl_1:Array (Option Value)} (a_1:PySem.W.nsIn K mainGlobals "_law_cell" = some (some (.ref f_1)))
  (l_1:K.lookup f_1=some ⟨oc_1,od_1,.func (PySem.W.fnOf "_law_cell" "_law_cell" (qR (top 11)) (qM (top 11)) (q9 (top 11)) .none kV_1 doc_1 pm_1 an_1 cd_1 ct_1),sl_1⟩) (c_1:PySem.W.codeIn K cd_1 "_law_cell" = true) (k_1:PySem.W.keepIn K (.ref f_1)=true)
  {oc_8 kV_8 doc_8 pm_8 cd_8 ct_8:Value} {od_8 an_8:Option Addr} {sl_8:Array (Option Value)} (a_8:PySem.W.nsIn K mainGlobals "_law_pen" = some (some (.ref f_8)))
  (l_8:K.lookup f_8=some ⟨oc_8,od_8,.func (PySem.W.fnOf "_law_pen" "_law_pen" (qR (top 12)) (qM (top 12)) (q9 (top 12)) .none kV_8 doc_8 pm_8 an_8 cd_8 ct_8),sl_8⟩) (c_8:PySem.W.codeIn K cd_8 "_law_pen" = true) (k_8:PySem.W.keepIn K (.ref f_8)=true)
  {oc_2 kV_2 doc_2 pm_2 cd_2 ct_2:Value} {od_2 an_2:Option Addr} {sl_2:Array (Option Value)} (a_2:PySem.W.nsIn K mainGlobals "_law_draw" = some (some (.ref f_2)))
  (l_2:K.lookup f_2=some ⟨oc_2,od_2,.func (PySem.W.fnOf "_law_draw" "_law_draw" (qR (top 13)) (qM (top 13)) (q9 (top 13)) .none kV_2 doc_2 pm_2 an_2 cd_2 ct_2),sl_2⟩) (c_2:PySem.W.codeIn K cd_2 "_law_draw" = true) (k_2:PySem.W.keepIn K (.ref f_2)=true)
  {oc_12 kV_12 doc_12 pm_12 cd_12 ct_12:Value} {od_12 an_12:Option Addr} {sl_12:Array (Option Value)} (a_12:PySem.W.nsIn K mainGlobals "_law_whole" = some (some (.ref f_12)))
  (l_12:K.lookup f_12=some ⟨oc_12,od_12,.func (PySem.W.fnOf "_law_whole" "_law_whole" (qR (top 14)) (qM (top 14)) (q9 (top 14)) .none kV_12 doc_12 pm_12 an_12 cd_12 ct_12),sl_12⟩) (c_12:PySem.W.codeIn K cd_12 "_law_whole" = true) (k_12:PySem.W.keepIn K (.ref f_12)=true)
  {oc_11 kV_11 doc_11 pm_11 cd_11 ct_11:Value} {od_11 an_11:Option Addr} {sl_11:Array (Option Value)} (a_11:PySem.W.nsIn K mainGlobals "_law_same" = some (some (.ref f_11)))
  (l_11:K.lookup f_11=some ⟨oc_11,od_11,.func (PySem.W.fnOf "_law_same" "_law_same" (qR (top 15)) (qM (top 15)) (q9 (top 15)) .none kV_11 doc_11 pm_11 an_11 cd_11 ct_11),sl_11⟩) (c_11:PySem.W.codeIn K cd_11 "_law_same" = true) (k_11:PySem.W.keepIn K (.ref f_11)=true)
  {oc_9 kV_9 doc_9 pm_9 cd_9 ct_9:Value} {od_9 an_9:Option Addr} {sl_9:Array (Option Value)} (a_9:PySem.W.nsIn K mainGlobals "_law_point" = some (some (.ref f_9)))
  (l_9:K.lookup f_9=some ⟨oc_9,od_9,.func (PySem.W.fnOf "_law_point" "_law_point" (qR (top 16)) (qM (top 16)) (q9 (top 16)) .none kV_9 doc_9 pm_9 an_9 cd_9 ct_9),sl_9⟩) (c_9:PySem.W.codeIn K cd_9 "_law_point" = true) (k_9:PySem.W.keepIn K (.ref f_9)=true)
  {oc_5 kV_5 doc_5 pm_5 cd_5 ct_5:Value} {od_5 an_5:Option Addr} {sl_5:Array (Option Value)} (a_5:PySem.W.nsIn K mainGlobals "_law_lot" = some (some (.ref f_5)))
  (l_5:K.lookup f_5=some ⟨oc_5,od_5,.func (PySem.W.fnOf "_law_lot" "_law_lot" (qR (top 17)) (qM (top 17)) (q9 (top 17)) .none kV_5 doc_5 pm_5 an_5 cd_5 ct_5),sl_5⟩) (c_5:PySem.W.codeIn K cd_5 "_law_lot" = true) (k_5:PySem.W.keepIn K (.ref f_5)=true)
  {oc_4 kV_4 doc_4 pm_4 cd_4 ct_4:Value} {od_4 an_4:Option Addr} {sl_4:Array (Option Value)} (a_4:PySem.W.nsIn K mainGlobals "_law_is_point" = some (some (.ref f_4)))
  (l_4:K.lookup f_4=some ⟨oc_4,od_4,.func (PySem.W.fnOf "_law_is_point" "_law_is_point" (qR (top 18)) (qM (top 18)) (q9 (top 18)) .none kV_4 doc_4 pm_4 an_4 cd_4 ct_4),sl_4⟩) (c_4:PySem.W.codeIn K cd_4 "_law_is_point" = true) (k_4:PySem.W.keepIn K (.ref f_4)=true)
  {oc_3 kV_3 doc_3 pm_3 cd_3 ct_3:Value} {od_3 an_3:Option Addr} {sl_3:Array (Option Value)} (a_3:PySem.W.nsIn K mainGlobals "_law_is_lot" = some (some (.ref f_3)))
  (l_3:K.lookup f_3=some ⟨oc_3,od_3,.func (PySem.W.fnOf "_law_is_lot" "_law_is_lot" (qR (top 19)) (qM (top 19)) (q9 (top 19)) .none kV_3 doc_3 pm_3 an_3 cd_3 ct_3),sl_3⟩) (c_3:PySem.W.codeIn K cd_3 "_law_is_lot" = true) (k_3:PySem.W.keepIn K (.ref f_3)=true)
  {oc_7 kV_7 doc_7 pm_7 cd_7 ct_7:Value} {od_7 an_7:Option Addr} {sl_7:Array (Option Value)} (a_7:PySem.W.nsIn K mainGlobals "_law_no_point" = some (some (.ref f_7)))
  (l_7:K.lookup f_7=some ⟨oc_7,od_7,.func (PySem.W.fnOf "_law_no_point" "_law_no_point" (qR (top 20)) (qM (top 20)) (q9 (top 20)) .none kV_7 doc_7 pm_7 an_7 cd_7 ct_7),sl_7⟩) (c_7:PySem.W.codeIn K cd_7 "_law_no_point" = true) (k_7:PySem.W.keepIn K (.ref f_7)=true)
  {oc_6 kV_6 doc_6 pm_6 cd_6 ct_6:Value} {od_6 an_6:Option Addr} {sl_6:Array (Option Value)} (a_6:PySem.W.nsIn K mainGlobals "_law_no_lot" = some (some (.ref f_6)))
  (l_6:K.lookup f_6=some ⟨oc_6,od_6,.func (PySem.W.fnOf "_law_no_lot" "_law_no_lot" (qR (top 21)) (qM (top 21)) (q9 (top 21)) .none kV_6 doc_6 pm_6 an_6 cd_6 ct_6),sl_6⟩) (c_6:PySem.W.codeIn K cd_6 "_law_no_lot" = true) (k_6:PySem.W.keepIn K (.ref f_6)=true)
  {oc_10 kV_10 doc_10 pm_10 cd_10 ct_10:Value} {od_10 an_10:Option Addr} {sl_10:Array (Option Value)} (a_10:PySem.W.nsIn K mainGlobals "_law_right" = some (some (.ref f_10)))
  (l_10:K.lookup f_10=some ⟨oc_10,od_10,.func (PySem.W.fnOf "_law_right" "_law_right" (qR (top 22)) (qM (top 22)) (q9 (top 22)) .none kV_10 doc_10 pm_10 an_10 cd_10 ct_10),sl_10⟩) (c_10:PySem.W.codeIn K cd_10 "_law_right" = true) (k_10:PySem.W.keepIn K (.ref f_10)=true)
  {oc_law kV_law doc_law pm_law cd_law ct_law:Value} {od_law an_law:Option Addr} {sl_law:Array (Option Value)} (a_law:PySem.W.nsIn K mainGlobals "law" = some (some (.ref f_law)))
  (l_law:K.lookup f_law=some ⟨oc_law,od_law,.func (PySem.W.fnOf "law" "law" (qR (top 23)) (qM (top 23)) (q9 (top 23)) .none kV_law doc_law pm_law an_law cd_law ct_law),sl_law⟩) (c_law:PySem.W.codeIn K cd_law "law" = true) (k_law:PySem.W.keepIn K (.ref f_law)=true)
  (b0:PySem.W.nsIn K mainGlobals "all" = some none)
  (z_bool:PySem.W.nsIn K mainGlobals "bool" = some none)
  (oG:PySem.W.nsIn K mainGlobals "int" = some none)
  (z_isinstance:PySem.W.nsIn K mainGlobals "isinstance" = some none)
  (jV:PySem.W.nsIn K mainGlobals "len" = some none)
  (t3:PySem.W.nsIn K mainGlobals "list" = some none)
  (z_range:PySem.W.nsIn K mainGlobals "range" = some none)
  (lO:PySem.W.nsIn K mainGlobals "repr" = some none)
  (c0:PySem.W.nsIn K mainGlobals "set" = some none)
  (z_sorted:PySem.W.nsIn K mainGlobals "sorted" = some none)
  (z_str:PySem.W.nsIn K mainGlobals "str" = some none)
  (pP:PySem.W.nsIn K mainGlobals "tuple" = some none)
  (z_zip:PySem.W.nsIn K mainGlobals "zip" = some none)
  {t_LEAST_NUMBER:Tok} (gi_LEAST_NUMBER:PySem.W.nsIn K mainGlobals "LEAST_NUMBER" = some (some (.int (-1000) t_LEAST_NUMBER)))
  {t_MOST_NUMBER:Tok} (gi_MOST_NUMBER:PySem.W.nsIn K mainGlobals "MOST_NUMBER" = some (some (.int (1000) t_MOST_NUMBER)))
  {t_MOST_POINTS:Tok} (gi_MOST_POINTS:PySem.W.nsIn K mainGlobals "MOST_POINTS" = some (some (.int (40) t_MOST_POINTS)))
  (e7:(BW ⟨()⟩).Nodup):Txt K mg ⟨()⟩:=by
 exact {
  s_is_whole:=wW X G a_16 l_16 c_16 k_16 VP
  s_is_within:=wW X G a_17 l_17 c_17 k_17 W4
  s_is_rising:=wW X G a_15 l_15 c_15 k_15 W3
  s_is_point:=wW X G a_14 l_14 c_14 k_14 VO
  s_is_lot:=wW X G a_13 l_13 c_13 k_13 KU
  s__law_cell:=wW X G a_1 l_1 c_1 k_1 W0
  s__law_pen:=wW X G a_8 l_8 c_8 k_8 VN
  s__law_draw:=wW X G a_2 l_2 c_2 k_2 W1
  s__law_whole:=wW X G a_12 l_12 c_12 k_12 X5
  s__law_same:=wW X G a_11 l_11 c_11 k_11 W2
  s__law_point:=wW X G a_9 l_9 c_9 k_9 X3
  s__law_lot:=wW X G a_5 l_5 c_5 k_5 VM
  s__law_is_point:=wW X G a_4 l_4 c_4 k_4 cS
  s__law_is_lot:=wW X G a_3 l_3 c_3 k_3 oN
  s__law_no_point:=wW X G a_7 l_7 c_7 k_7 cT
  s__law_no_lot:=wW X G a_6 l_6 c_6 k_6 oO
  s__law_right:=wW X G a_10 l_10 c_10 k_10 X4
  s_law:=wW X G a_law l_law c_law k_law DC
  n_all:=PySem.W.mg_none_of X G b0
  n_bool:=PySem.W.mg_none_of X G z_bool
  n_int:=PySem.W.mg_none_of X G oG
  n_isinstance:=PySem.W.mg_none_of X G z_isinstance
  n_len:=PySem.W.mg_none_of X G jV
  n_list:=PySem.W.mg_none_of X G t3
  n_range:=PySem.W.mg_none_of X G z_range
  n_repr:=PySem.W.mg_none_of X G lO
  n_set:=PySem.W.mg_none_of X G c0
  n_sorted:=PySem.W.mg_none_of X G z_sorted
  n_str:=PySem.W.mg_none_of X G z_str
  n_tuple:=PySem.W.mg_none_of X G pP
  n_zip:=PySem.W.mg_none_of X G z_zip
  g_LEAST_NUMBER:=⟨_,PySem.W.mg_of X G gi_LEAST_NUMBER⟩
  g_MOST_NUMBER:=⟨_,PySem.W.mg_of X G gi_MOST_NUMBER⟩
  g_MOST_POINTS:=⟨_,PySem.W.mg_of X G gi_MOST_POINTS⟩
  nd:=e7 }
end _K
end
namespace _K
open PySem PySem.Spec PyProof.Rows _L _D
theorem NU {P:Program}{w:World}{K:PySem.W.Frag}{mg:Str→Option Value}{base:Heap}{c:Cl}(T:Txt K mg c):∃ F,XX P w K mg base true 6 "law" ["_law_script"] F∧∀ ns:List Int,ns.length≤63→∃ S,F [.lst (ns.map D.int)] [] = .ok (.bl true) S:=by
 have d_16:Def P w K mg base true 1 "is_whole" 1 jP:=bS▸U1 T 
 have d_17:Def P w K mg base true 2 "is_within" 3 vQ:=pD▸YN T d_16
 have d_15:Def P w K mg base true 1 "is_rising" 1 kE:=nJ▸YM T 
 have d_14:Def P w K mg base true 3 "is_point" 1 yQ:=dX▸U0 T d_17
 have d_13:Def P w K mg base true 4 "is_lot" 1 pC:=cD▸PJ T d_14 d_15
 have d_1:Def P w K mg base true 1 "_law_cell" 2 vP:=nB▸YK T 
 have d_8:Def P w K mg base true 1 "_law_pen" 1 gH:=dU▸VZ T 
 have d_2:Def P w K mg base true 1 "_law_draw" 2 zE:=nE▸YL T 
 have d_12:Def P w K mg base true 1 "_law_whole" 1 yZ:=gI▸XL T 
 have s0:Def P w K mg base true 0 "_law_same" 2 (gZ 0):=N1 T.s__law_same
 have s1:Def P w K mg base true 1 "_law_same" 2 (gZ 1):=gU T s0
 have s2:Def P w K mg base true 2 "_law_same" 2 (gZ 2):=gU T s1
 have s3:Def P w K mg base true 3 "_law_same" 2 (gZ 3):=gU T s2
 have s4:Def P w K mg base true 4 "_law_same" 2 (gZ 4):=gU T s3
 have d_11:Def P w K mg base true 4 "_law_same" 2 wF:=nG▸s4
 have d_9:Def P w K mg base true 2 "_law_point" 2 yY:=t9▸XI T d_2
 have d_5:Def P w K mg base true 3 "_law_lot" 2 gG:=dR▸VY T d_9 d_2
 have d_4:Def P w K mg base true 2 "_law_is_point" 1 x9:=b5▸aO T d_12
 have d_3:Def P w K mg base true 3 "_law_is_lot" 1 wO:=fZ▸QC T d_4
 have d_7:Def P w K mg base true 2 "_law_no_point" 2 xS:=b7▸aP T d_2
 have d_6:Def P w K mg base true 4 "_law_no_lot" 2 yL:=m5▸QD T d_3 d_7 d_2
 have d_10:Def P w K mg base true 5 "_law_right" 1 yA:=tE▸XJ T d_3 d_4 d_13 d_14 d_11
 exact⟨_,RQ T d_1 d_6 d_10 d_7 d_2 d_5 d_8,FO c T.nd⟩
theorem RA {P:Program}{w:World}{K:PySem.W.Frag}{mg:Str→Option Value}{c:Cl}{fa:Addr}(T:Txt K mg c)(hfa:mg "law" = some (.ref fa)) :
  ∃ fd:FuncData,(∀ (s:Shared) (v:Value),BindsTo s fd ⟨[v],[]⟩ [("_law_script",v)])∧∀ base:Heap,K.In base→base.Ns mainGlobals mg→FnOk P w K mg base (CXd P w) 6 fa fd ["_law_script"] (XV K):=
 NV T.s_law hfa (fun kV doc pm an cdv ct s v=>.of_eq rfl) fun base=>NU T
theorem CY {q:Program}{loose:List Str}{XP:(Str→Option Value)→Heap→Prop}{r:PySem.W.RowW}{d:DefRec}{kwd:List (Str × Expr)}{run:Value→List Value→Sem Value}{K:Params→PySem.W.Frag}{as:List Addr}{n t:Nat}(e:∀ P,as=(K P).map (·.1))
  (h:PySem.W.WalkO q loose XP (fun w h=>(K w.params).In h) r d kwd run):PySem.W.WalkX q loose XP (PySem.W.X.obsZ as) (PySem.W.X.valZ K n t) r d kwd run:=
 fun w s₀ s₁ mg mb G Y a o pm cd doc dV kV h1 h2 h3 h4 h5 h6 args vals as' L=>h w s₀ s₁ mg mb G (PySem.W.InK.keeps w _ _ (PySem.W.X.z_facts e Y).2.1 L.keeps) a o pm cd doc dV kV h1 h2 h3 h4 h5 h6 args vals as'
end _K
open PySem PySem.W PyProof.Rows
set_option maxRecDepth 100000 in
set_option maxHeartbeats 0 in
theorem PySem.Challenge.cw_fewdistances_k01_points_and_lots_looked_holds : PySem.Challenge.rw_fewdistances_k01_points_and_lots_looked.Holds := by
 w_on;o_law;z_head;(case hw=>w_witness2)
 refine _K.CY (fun _=>by kernel_rfl) ?_
 refine _D.CW (l:=PySem.Challenge.rw_fewdistances_k01_points_and_lots_looked) (k:=6) (x:="_law_script") rfl rfl ⟨rfl,by decide,by decide,rfl⟩ (fun w h Y=>Y) ?F
 case F =>
  intro w mg fa h KX G hmg
  refine' _K.RA (_K.ES KX G ?a_16 ?l_16 ?c_16 ?k_16 ?a_17 ?l_17 ?c_17 ?k_17 ?a_15 ?l_15 ?c_15 ?k_15 ?a_14 ?l_14 ?c_14 ?k_14 ?a_13 ?l_13 ?c_13 ?k_13 ?a_1 ?l_1 ?c_1 ?k_1 ?a_8 ?l_8 ?c_8 ?k_8 ?a_2 ?l_2 ?c_2 ?k_2 ?a_12 ?l_12 ?c_12 ?k_12 ?a_11 ?l_11 ?c_11 ?k_11 ?a_9 ?l_9 ?c_9 ?k_9 ?a_5 ?l_5 ?c_5 ?k_5 ?a_4 ?l_4 ?c_4 ?k_4 ?a_3 ?l_3 ?c_3 ?k_3 ?a_7 ?l_7 ?c_7 ?k_7 ?a_6 ?l_6 ?c_6 ?k_6 ?a_10 ?l_10 ?c_10 ?k_10 ?a_law ?l_law ?c_law ?k_law ?b0 ?z_bool ?oG ?z_isinstance ?jV ?t3 ?z_range ?lO ?c0 ?z_sorted ?z_str ?pP ?z_zip ?gi_LEAST_NUMBER ?gi_MOST_NUMBER ?gi_MOST_POINTS ?e7) hmg
  (case a_16=>k_is)
  (case l_16=>k_is)
  (case c_16=>k_is)
  (case k_16=>k_is)
  (case a_17=>k_is)
  (case l_17=>k_is)
  (case c_17=>k_is)
  (case k_17=>k_is)
  (case a_15=>k_is)
  (case l_15=>k_is)
  (case c_15=>k_is)
  (case k_15=>k_is)
  (case a_14=>k_is)
  (case l_14=>k_is)
  (case c_14=>k_is)
  (case k_14=>k_is)
  (case a_13=>k_is)
  (case l_13=>k_is)
  (case c_13=>k_is)
  (case k_13=>k_is)
  (case a_1=>k_is)
  (case l_1=>k_is)
  (case c_1=>k_is)
  (case k_1=>k_is)
  (case a_8=>k_is)
  (case l_8=>k_is)
  (case c_8=>k_is)
  (case k_8=>k_is)
  (case a_2=>k_is)
  (case l_2=>k_is)
  (case c_2=>k_is)
  (case k_2=>k_is)
  (case a_12=>k_is)
  (case l_12=>k_is)
  (case c_12=>k_is)
  (case k_12=>k_is)
  (case a_11=>k_is)
  (case l_11=>k_is)
  (case c_11=>k_is)
  (case k_11=>k_is)
  (case a_9=>k_is)
  (case l_9=>k_is)
  (case c_9=>k_is)
  (case k_9=>k_is)
  (case a_5=>k_is)
  (case l_5=>k_is)
  (case c_5=>k_is)
  (case k_5=>k_is)
  (case a_4=>k_is)
  (case l_4=>k_is)
  (case c_4=>k_is)
  (case k_4=>k_is)
  (case a_3=>k_is)
  (case l_3=>k_is)
  (case c_3=>k_is)
  (case k_3=>k_is)
  (case a_7=>k_is)
  (case l_7=>k_is)
  (case c_7=>k_is)
  (case k_7=>k_is)
  (case a_6=>k_is)
  (case l_6=>k_is)
  (case c_6=>k_is)
  (case k_6=>k_is)
  (case a_10=>k_is)
  (case l_10=>k_is)
  (case c_10=>k_is)
  (case k_10=>k_is)
  (case a_law=>k_is)
  (case l_law=>k_is)
  (case c_law=>k_is)
  (case k_law=>k_is)
  (case b0=>k_is)
  (case z_bool=>k_is)
  (case oG=>k_is)
  (case z_isinstance=>k_is)
  (case jV=>k_is)
  (case t3=>k_is)
  (case z_range=>k_is)
  (case lO=>k_is)
  (case c0=>k_is)
  (case z_sorted=>k_is)
  (case z_str=>k_is)
  (case pP=>k_is)
  (case z_zip=>k_is)
  (case gi_LEAST_NUMBER=>k_is)
  (case gi_MOST_NUMBER=>k_is)
  (case gi_MOST_POINTS=>k_is)
  (case e7=>decide)
